import Derived.Laws.AppendOwnNone
import Derived.Shelf.SlMaps.Clone
import Derived.Test.YtnldmeakhapdhaaGreatDoorRPf
import Derived.Test.YtnldmeakhapdhaaGreatDoorRWj
set_option linter.all false
set_option maxRecDepth 100000
set_option maxHeartbeats 4000000
namespace Go.Proofs.YtnldmeakhapdhaaGreatDoor
open _root_.List renaming getElem?_eq_getElem->ja,take_length->jc,map_cons->jd,take_succ_eq_append_getElem->jf,take_succ_cons->jh,mem_cons_of_mem->ji,eq_nil_of_length_eq_zero->jj,getElem_cons_succ->jk,nodup_cons->jl,mem_map_of_mem->jm,append_assoc->jo,mem_cons->jp,getElem_mem->jq,getElem_of_mem->jt,foldl_append->ju,getD_eq_getElem?_getD->jv,getElem_append_left->jx,getElem?_take_of_lt->jy,map_nil->jz,mem_singleton->j5,pairwise_map->j6,nodup_append->j7,cons_append->j8,map_append->j9,length_map->qe,foldl_cons->qf,nodup_nil->qg,length->qh,Nodup->qi
open Or renaming inr->qk,inl->ql
open _root_.Nat renaming le_trans->qm,lt_of_lt_of_le->qn,strongRecOn->qp,zero_le->qr,mul_le_mul_left->qs,mul_le_mul->qt,mul_le_mul_right->qu,pos_of_ne_zero->qv
open Go.Proofs.Tryz renaming prog->qw,underlying9->qx
open Go.World renaming cell?_of_block->qy,setCell->qz,cell?->q9,ownsRow_nil->xc,frozen?->xd
open _root_.Array renaming getElem?_setIfInBounds_ne->xf,replicate->xg,getElem?_eq_getElem->xh,getElem?_setIfInBounds->xi,getD_eq_getD_getElem?->xj,toList_modify->xk
open Go.RowKit.Below renaming heap_setCell->xm,refl->xn
open Go.Value renaming string->xo,ownBlock->xq,iface->xt,int->xw,slice->xy
open In renaming cz->zd,Env->zh,over->zo,Ml->zu,vJ->zv,yL->zx,lL->zy
open Go.Instr renaming typeAssert->z9,lookup->vd,mapUpdate->vf,next->vg
open Go.MapKept renaming heap_alloc->vh,run_setObj_map->vo,run_getObj_map->vw
open Un renaming seen->v7,eu->v8
open Go.Lib renaming byteCells->v9
open Go.Result renaming andThen->kg
open _root_.ByteArray renaming toList->kh
open And renaming intro->ki
open Classical renaming propDecidable->kq
open Ne renaming symm->ku
open Go.Op renaming mapUpdate->kv,insert->kw
open Go Go.RowKit Proofs.Tryz
variable {ops:Array Oper} {C cs:Array Value} {c last s:BA} {Γ Mm xE:zh} {ns:List BA} {L V acc l':List Nat} {N:List Nat->Nat->Prop} {rest:List Oper} {l:List UInt8} {xs:List Value} {B S b1 b2 base by_ cb f fb g gb kb mb n nb pb r:Nat} {p:Nat->Bool} {D D1 K:Nat->Option Un.Ty} {F P Q:Nat->Prop} {R:Nat->Un.Ty} {o:Oper} {sa:Option Addr} {row:Option Nat} {κ:Type} {e k:TypeId} {i:TypeInfo} {t x y:Un.Ty} {bv mv u z:Value} {W w':World}
section
open Un
abbrev alz(w:World)base v xs:=w.ownsRow base 9 1 v xs.length xs
structure NL w xb v(l:List BA):Prop where
 o:∃base,alz w base v<|l.map xo
 n:v.ownBlock≠some xb
end
section
open Go.ChangeMaps Un
def tl(s:BA):BA:=s.extract 1 s.size
def Q'(s:BA):=∃r,s.toList=39::r
def yr{r}(h:s.toList=39::r):(tl s).toList=r:=by
 rw[tl];rw[ByteArray.toList_eq]at h⊢;rw[ByteArray.data_extract];simp;rw[h];have:s.size=(39::r).length:=by rw[<-h];simp
 rw[this];simp
def Z3{t}(hs:Q' s)(ht:Q' t)(h:tl s=tl t):s=t:=by
 obtain⟨r,hr⟩:=hs;obtain⟨q,hq⟩:=ht;have:r=q:=by rw[<-yr hr,<-yr hq,h]
 exact toList_inj (by rw[hr,hq,this])
def Z8:Nat->List BA->List (BA×Value)
 |_,[]=>[]|i,a::l=>(tl a,Iv<|(i:Int)+1)::Z8 (i+1) l
def JZ(s:BA):∀l i,Z8 i (l++[s])=Z8 i l++[(tl s,Iv<|((i+l.length:Nat):Int)+1)]
 |[],i=>by simp[Z8]|a::l,i=>by
  simp only[j8,Z8,JZ s l<|i+1];simp;omega
def Z9{s:BA}(hs:Q' s):∀l i,(∀a∈l,Q' a)->s∈l->a_ (tl s) (Z8 i l)=some (Iv<|((i+ix s l:Nat):Int)+1)
 |[],i,_,h=>vQ|a::l,i,h,hm=>by
  rw[Z8,a_];by_cases e:tl a=tl s
  .have:a=s:=Z3 (h a ag) hs e;subst this;simp[ix]
  .have cV:¬s=a:=λq=>e (by rw[q]);have hx:ix s (a::l)=ix s l+1:=by
    show(if a.toList=s.toList then 0 else ix s l+1)=_;rw[if_neg<|λq=>cV (toList_inj q).symm]
   rw[if_neg e,Z9 hs l (i+1) (λb hb=>h b<|ji _ hb)<|(List.mem_cons.1 hm).resolve_left cV,hx];congr 2;omega
def Ra{s:BA}(hs:Q' s):∀l i,(∀a∈l,Q' a)->¬s∈l->a_ (tl s) (Z8 i l)=none
 |[],i,_,_=>rfl|a::l,i,h,hm=>by
  rw[Z8,a_];have e:¬tl a=tl s:=λq=>hm<|List.mem_cons.2<|ql (Z3 (h a ag) hs q).symm;rw[if_neg e];exact Ra hs l (i+1) (λb hb=>h b<|ji _ hb)<|λq=>hm<|ji _ q
structure NM w kb fb cb mb(ns:List BA):Prop where
 bk:Bx w kb #[Mv mb]
 bf:Bx w fb #[.func (.func 46) #[] #[Pv cb]]
 bc:Bx w cb #[Nv ns.length]
 mp:MS xo w mb (Z8 0 ns)
 qo:∀a∈ns,Q' a
 nd:ns.Nodup
 d1:cb≠kb/\cb≠fb/\cb≠mb/\mb≠kb/\mb≠fb
abbrev nmV(kb fb:Nat):Value:=.func (.func 251) #[] #[Pv kb,Pv fb]
def Two cb mb(b:Nat):=b=cb\/b=mb
def NM.fr{S}{w w'}{kb fb cb mb}{ns}(h:NM w kb fb cb mb ns)(hf:Fr S w w')(hS:∀b,S b->b≠kb/\b≠fb/\b≠cb/\b≠mb):NM w' kb fb cb mb ns:=
 ⟨h.bk.fr hf<|λq=>(hS _ q).1 rfl,h.bf.fr hf<|λq=>(hS _ q).2.1 rfl,h.bc.fr hf<|λq=>(hS _ q).2.2.1 rfl,h.mp.same<|hf.block mb h.mp.lt<|λq=>(hS _ q).2.2.2 rfl,h.qo,h.nd,h.d1⟩
def NM.af{w:World}(h:NM w kb fb cb mb ns)(hb:Bq w w'):NM w' kb fb cb mb ns:=h.fr (S:=λ_=>False) (Fr.of hb)<|λ_ q=>q.elim
def NM.set{w}{kb fb cb mb}{ns}(h:NM w kb fb cb mb ns){b}(hb:b≠kb/\b≠fb/\b≠cb/\b≠mb)j v:NM (w.setCell ⟨b,j,none⟩ v) kb fb cb mb ns:=
 h.fr (S:=λx=>x=b) ((Fr.refl (λx=>x=b) w).set (ql rfl) j v) (λx q=>by subst q;exact hb)
section
variable {w:World}
def adp w:(zeroValue 152).run qw w=.ok (Iv 0) w:=qkr
def Ow n(hn:n<=2000)(h:Bx w cb #[Nv n]):Cq 46 #[Pv cb] w λe w'=>e=.returned (Iv<|(n:Int)+1)/\w'=w.setCell ⟨cb,0,none⟩ (Iv<|(n:Int)+1):=by
 obtain⟨c,f,z⟩:=h;go_enter func46,ntmps46
 go_wp2
 go_ret;exact⟨rfl,rfl⟩
def Ox kb fb cb mb ns s w(e:Ending)w':=
 e=.returned (.iface 152<|Iv<|(ix s (qJ s ns):Int)+1)/\NM w' kb fb cb mb (qJ s ns)/\Fr (Two cb mb) w w'
def J4(h:NM w kb fb cb mb ns)s(hs:Q' s)(hn:ns.length<=2000):Cq 251 #[.string<|tl s,Pv kb,Pv fb] w (Ox kb fb cb mb ns s w):=by
 have hl:=h.mp.look (KL.str qx) Tryz.underlying386 (adp w) (tl s) trivial (λ_ _=>trivial) true;have⟨c,f,z⟩:=h.bk;have⟨cf,ff,zf⟩:=h.bf;by_cases hm:s∈ns
 .rw[Z9 hs ns 0 h.qo hm]at hl;simp at hl;go_enter func251,ntmps251
  go_wp2
  go_ret;rw[Ox];rw[QG hm];exact⟨rfl,h,Fr.refl _ _⟩
 .have hg:=Ra hs ns 0 h.qo hm;rw[hg]at hl;simp at hl;have hd:=h.d1;have qQ:=c 0;have HM:=h.mp.uJ hd.2.2.1.symm 0<|Iv<|(ns.length:Int)+1;have BK:=ai<|h.bk.bT hd.1.symm 0<|Iv<|(ns.length:Int)+1;have BF:=ai<|h.bf.bT hd.2.1.symm 0<|Iv<|(ns.length:Int)+1;have BC:=h.bc.aR 0 (Iv<|(ns.length:Int)+1) #[Iv<|(ns.length:Int)+1] rfl ag;have F1:=(Fr.refl (Two cb mb) w).set (b:=cb) (Or.inl<|Or.inl rfl) 0<|Iv<|(ns.length:Int)+1;have⟨c1,f1,z1⟩:=uh BK;go_enter func251,ntmps251;go_wp2_with(first|(go_at_call 46;refine(Ow ns.length ae h.bc).mono ?_;rintro e w'⟨rfl,rfl⟩)|(refine aV _ rfl _ _ _ _ (Or.inr rfl) (KL.str Tryz.underlying9) Tryz.underlying386 _ _ rfl HM (tl s) (Iv<|(ns.length:Int)+1) rfl rfl trivial (λ_ _=>trivial) ?_;intro w' H' O';have Db:=ai H';have O2:=ai O';clear H' O'));go_ret;have e1:=Z_ hm;have e2:=Rb hm;rw[Ox];rw[e1,e2];have O:=uh O2;refine⟨rfl,⟨BK.one O hd.2.2.2.1.symm,BF.one O hd.2.2.2.2.symm,?_,?_,?_,?_,hd⟩,?_⟩
  .have:=BC.one O hd.2.2.1;simpa using this
  .have:=uh Db;rw[oN _ _ _ hg]at this;rw[JZ];simpa using this
  .intro a ha;obtain q|q:=List.mem_append.1 ha
   .exact h.qo a q
   .simp at q;subst q;exact hs
  .rw[j7];refine⟨h.nd,ag,λa ha b hb=>?_⟩;simp at hb;subst hb;intro e;subst e;exact hm ha
  .have f1:=F1;exact⟨O.os.trans f1.os,O.tape.trans f1.tape,O.output.trans f1.output,by rw[O.size];exact f1.size,λk hk hn=>(O.block k<|λe=>hn<|qk e).trans<|f1.block k hk hn⟩
end
def pn(c:BA):BA:=if c.toList=[62]then⟨#[45,62]⟩else c
def CN c:=c=pN\/c=m9\/od c
def kP:pn pN=⟨#[45,62]⟩:=by simp_all[pn]
def kQ:pn m9=⟨#[44]⟩:=by simp_all[pn]
def da(h:od c)x r(hx:Pu.BT x.toNat=false):c.toList≠x::r:=by grind[od]
def fh(h:od c):pn c=c:=by rw[pn];rw[if_neg<|da h 62 [] aB]
inductive dW(w:World)(P:Nat->Prop):Ty->Value->Prop where
 |var(n:Nat):dW w P (.var n) (.iface 152<|Nv n)
 |aM(c:BA)(L:List Ty)(sa:Option Addr)(sc:Nat)(vs:Nat->Value)(hc:CN c)(aO:L=[]\/∃g,sa=some ⟨g,0,none⟩/\P g/\g<w.heap.size/\∀i,i<L.length->w.cell? ⟨g,i,none⟩=some (vs i))(hr:∀i(h:i<L.length),dW w P L[i]<|vs i):
  dW w P (.aM c L) (.iface 165<|.agg #[.string<|pn c,.slice sa L.length sc])
def SU{p:Prop}(h:p:=by
 induction h with
 |var n=>exact .var n|aM c L sa sc vs hc aO hr ih=>
  refine .aM c L sa sc vs hc ?_ ih;obtain h0|⟨g,h1,hP,hz,hc⟩:=aO
  .exact ql h0
  .refine qk ⟨g,h1,hq g hP hz,qn hz hs,λi hi=>?_⟩;rw[qy (a:=⟨g,i,none⟩) (w:=w)<|hb g hP hz]
   exact hc i hi):p:=h
theorem dW.move{w:World}{v:Value}(h:dW w P t v)(hs:w.heap.size<=w'.heap.size)(hb:∀b,P b->b<w.heap.size->w'.heap[b]? =w.heap[b]?)(hq:∀b,P b->b<w.heap.size->Q b):dW w' Q t v:=by
 exact SU
def dW.af{w:World}{v:Value}(h:dW w P t v)(hb:Bq w w'):dW w' P t v:=h.move hb.size (λb _ hz=>hb.block b hz)<|λ_ p _=>p
def dW.wide{w:World}{v:Value}(h:dW w P t v)(hq:∀b,P b->Q b):dW w Q t v:=h.move (br _) (λ_ _ _=>rfl)<|λb p _=>hq b p
def dW.fr{S:Nat->Prop}{w:World}{v:Value}(h:dW w P t v)(hf:Fr S w w')(hS:∀b,P b->b<w.heap.size->¬S b):dW w' P t v:=h.move hf.size (λb p z=>hf.block b z<|hS b p z)<|λ_ p _=>p
def dW.low{w:World}{P:Nat->Prop}{t:Ty}{v:Value}(h:dW w P t v):dW w (λb=>P b/\b<w.heap.size) t v:=h.move (br _) (λ_ _ _=>rfl)<|λ_ p z=>⟨p,z⟩
def dW.iface{w:World}{v:Value}(h:dW w P t v):∃a x,v=.iface a x:=by
 cases h<;>exact⟨_,_,rfl⟩
def PT.fr{S:Nat->Prop}{w:World}{nd}{v:Value}(h:PT w P nd v)(hf:Fr S w w')(hS:∀b,P b->b<w.heap.size->¬S b):PT w' P nd v:=h.move hf.size (λb p z=>hf.block b z<|hS b p z)<|λ_ p _=>p
def PT.bQ{w:World}{a}{v:Value}(h:PT w P a v):∃t x,v=.iface t (.agg x):=by
 cases h<;>exact⟨_,_,rfl⟩
def Ak z n:madeCells #[z] n=xg n z:=by
 rw[madeCells];apply Array.ext
 .simp
 .grind
def Si{p:Prop}(h:p:=by
 rw[run_make w t e i z ht hi hz .i64 .i64 n n ae (Int.le_refl _) hb ae,hzc,h1]
 simp[Ak]):p:=h
def Sj{p:Prop}(h:p:=by
 have h3:((by_*n:Nat):Int)<=281474976710656:=ae
 rwa[Int.natCast_mul]at h3):p:=h
def jV{P}{t}(ht:P.underlying t=some (.slice e))(hi:P.info? e=some i)(hz:i.zero=some z)(hzc:z.cells=#[z])(h1:i.size=1)(h2:i.bytes=by_)(hby:by_<=16)n(hn:n<=1001)w:
 (Instr.makeSlice t (Nv n)<|Nv n).run P w=.ok (.slice (some ⟨w.heap.size,0,none⟩) n n) (w.alloc<|.cells (xg n z) e):=by
 have hb:(i.bytes:Int)*(n:Int)<=281474976710656:=by
  rw[h2];have:by_*n<=16*1001:=qt hby hn;exact Sj
 exact Si
def gE:(Tryz.prog.info? 87).map (λi=>(i.zero,i.size,i.bytes))=some (some .nilIface,1,16):=qkr
def eK:Tryz.prog.underlying 163=some (.slice 87):=qkr
def tJ kb fb cb mb(ns:List BA)T ns' w(e:Ending)w':=
 ∃u,e=.returned u/\dW w' (λb=>w.heap.size<=b) T u/\NM w' kb fb cb mb ns'/\Fr (Two cb mb) w w'
def OfC nd:=∀(w:World)(kb fb cb mb:Nat)(ns:List BA)(Q:Nat->Prop)(v:Value),NM w kb fb cb mb ns->PT w Q nd v->(∀b,Q b->b≠cb/\b≠mb)->(bt ns nd).2.length<=2000->
 Cq 234 #[v,nmV kb fb] w (tJ kb fb cb mb ns (bt ns nd).1 (bt ns nd).2 w)
def NM.lt{w}{kb fb cb mb}{ns}(h:NM w kb fb cb mb ns):kb<w.heap.size/\fb<w.heap.size/\cb<w.heap.size/\mb<w.heap.size:=⟨h.bk.z,h.bf.z,h.bc.z,h.mp.lt⟩
def J7 ns:∀(L:List Nd)(i:Nat)(h:i<L.length),(aI ns<|L.take<|i+1).1=(aI ns<|L.take i).1++[(bt (aI ns<|L.take i).2 L[i]).1]/\(aI ns<|L.take<|i+1).2=(bt (aI ns<|L.take i).2 L[i]).2:=by
 intro L
 induction L generalizing ns with
 |nil=>intro i h;simp at h|cons x l ih=>
  intro i h
  cases i with
  |zero=>simp[aI]|succ i=>
   have:=ih (bt ns x).2 i Hn;simp only[jh,aI,this,jk];simp
def adq kb fb cb mb ns(L:List Nd)w gk v wr:=
 ∃(j:Nat)(C:Array Value),Hid (gk=L.length-j)/\j<=L.length/\v=Nv j/\NM wr kb fb cb mb (aI ns<|L.take j).2/\Fr (Two cb mb) w wr/\Bx wr w.heap.size C/\Hid (C.size=L.length)/\
  Hid (∀i(h:i<(aI ns<|L.take j).1.length),∃u,C[i]? =some u/\dW wr (λb=>w.heap.size<b/\b<wr.heap.size) (aI ns<|L.take j).1[i] u)
section
variable {w:World}
def Al ns:∀(L:List Nd),(aI ns L).1.length=L.length:=by
 intro L
 induction L generalizing ns with
 |nil=>rfl|cons x l ih=>simp[aI,ih]
def Cf ns L i:(aI ns<|L.take i).2.length<=(aI ns L).2.length:=by
 induction L generalizing ns i with
 |nil=>simp|cons x l ih=>
  cases i with
  |zero=>simp only[List.take_zero];exact uR (x::l) ns|succ i=>simp only[jh,aI];exact ih _ i
def P6{p:Prop}(h:p:=by
 obtain h0|h0:=aO
 .subst h0;simp at bm
 .exact h0):p:=h
def J8 c(EW:CN c)L sa sc(vs:Nat->Value)(hL:L.length<=1001)(h:NM w kb fb cb mb ns)(hQ:∀b,Q b->b≠cb/\b≠mb)(aO:L=[]\/∃g,sa=some ⟨g,0,none⟩/\Q g/\g<w.heap.size/\∀i,i<L.length->w.cell? ⟨g,i,none⟩=some (vs i))(hr:∀i(h:i<L.length),PT w Q L[i]<|vs i)(IH:∀i(h:i<L.length),OfC L[i])(hn:(aI ns L).2.length<=2000):
 Cq 252 #[.string<|pn c,nmV kb fb,.slice sa L.length sc] w (tJ kb fb cb mb ns (.aM c (aI ns L).1) (aI ns L).2 w):=by
 obtain⟨i0,yq,oR,nu,iZ⟩:=info_parts gE;have W7:=jV (by_:=16) eK yq oR rfl nu iZ aB L.length hL;have bA:=h.lt;go_enter func252,ntmps252
 go_wp2
 go_loopg[15] L.length (λgk v wr=>adq kb fb cb mb ns L w gk v wr)
 case atStart=>
  refine⟨0,xg L.length .nilIface,ai ag,qr _,rfl,?_,Fr.of<|bw _,Bx.new w _ _,ai ag,ai<|λi hi=>absurd hi<|by simp[aI]⟩;simpa[aI]using h.af (bw _)
 case round=>
  obtain⟨j,C,dl,hj,rfl,N1,F1,B1,hC,hT⟩:=hrel;have zw:=F1.size;have n1:=N1.lt;by_cases bm:j<L.length
  .have hd:(j:Int)<(L.length:Int):=ae;obtain⟨g,rfl,hg,k9,bY⟩:∃g,sa=some ⟨g,0,none⟩/\Q g/\g<w.heap.size/\∀i,i<L.length->w.cell? ⟨g,i,none⟩=some (vs i):=by
    exact P6
   have hQg:=hQ g hg;have cg:wr.cell? ⟨g,j,none⟩=some (vs j):=by
    rw[qy (a:=⟨g,j,none⟩) (w:=w)<|F1.block g k9 (λq=>by obtain q|q:=q;exact hQg.1 q;exact hQg.2 q)];exact bY j bm
   have PJ:=(hr j bm).fr F1 (λb p _ q=>by obtain q|q:=q;exact(hQ b p).1 q;exact(hQ b p).2 q);obtain⟨tv,xv,hv⟩:=PJ.bQ;obtain⟨mt1,mt2⟩:=J7 ns L j bm;have hnj:(bt (aI ns<|L.take j).2 L[j]).2.length<=2000:=by rw[<-mt2];exact qm (Cf ns L<|j+1) hn
   have HC:=IH j bm wr kb fb cb mb _ Q (vs j) N1 PJ hQ hnj;rw[hv]at cg HC;go_wp2_with fail;refine HC.mono ?_;rintro e w1⟨u,rfl,HU,Re,HF⟩;obtain⟨tu,xu,rfl⟩:=HU.iface;have hpb:¬Two cb mb w.heap.size:=λq=>by obtain q|q:=q<;>omega
   have B2:=B1.fr HF hpb;have wJ:j<C.size:=qBh;have cj:=(B2.c j).trans<|xh wJ;have fj:=B2.f j;have B3:=B2.aR j (.iface tu xu) (C.setIfInBounds j<|.iface tu xu) rfl wJ;have Bu:=F1.trans HF;have z2:=HF.size
   go_wp2
   go_roundg(L.length-(j+1))
   case measure=>rw[uh dl];omega
   case rel=>
    have Oy:(aI ns<|L.take j).1.length=j:=by rw[Al];simp;omega
    refine⟨j+1,C.setIfInBounds j<|.iface tu xu,ai rfl,ae,jP,?_,?_,B3,ai (by simp;exact hC),ai<|λi hi=>?_⟩
    .rw[mt2];exact Re.set ae j _
    .exact Bu.set (qk<|br _) j _
    .have jQ:∀b,w.heap.size<b->b<w1.heap.size->(w1.setCell ⟨w.heap.size,j,none⟩<|.iface tu xu).heap[b]? =w1.heap[b]? :=λb hb _=>xm _ _ _ _ (by show b≠w.heap.size;omega);have hss:(w1.setCell ⟨w.heap.size,j,none⟩<|.iface tu xu).heap.size=w1.heap.size:=Dd;have Ag:i<j+1:=by rw[mt1]at hi;simp[Oy]at hi;omega
     by_cases e:i=j
     .subst e;refine⟨.iface tu xu,by simp[wJ],?_⟩;have e1:(aI ns<|L.take<|i+1).1[i]'hi=(bt (aI ns<|L.take i).2 L[i]).1:=by
       have:(aI ns<|L.take<|i+1).1[i]? =some (bt (aI ns<|L.take i).2 L[i]).1:=by rw[mt1,List.getElem?_append_right ae];simp[Oy]
       rw[ja hi]at this;exact Option.some.inj this
      rw[e1];refine HU.low.move ae (λb p z=>jQ b (by have:wr.heap.size<=b:=p.1;have:=B1.z;omega) z) (λb p z=>⟨by have:wr.heap.size<=b:=p.1;have:=B1.z;omega,ae⟩)
     .have rV:i<(aI ns<|L.take j).1.length:=ae;obtain⟨u',wK,wL⟩:=uh hT i rV;have e1:(aI ns<|L.take<|j+1).1[i]'hi=(aI ns<|L.take j).1[i]'rV:=by
       have:(aI ns<|L.take<|j+1).1[i]? =some ((aI ns<|L.take j).1[i]'rV):=by rw[mt1,List.getElem?_append_left rV,ja rV]
       rw[ja hi]at this;exact Option.some.inj this
      refine⟨u',by rw[xf ae];exact wK,?_⟩;rw[e1];have h3:=wL.fr HF (λb p _ q=>by obtain q|q:=q<;>omega);exact h3.move ae (λb p z=>jQ b p.1 z)<|λb p z=>⟨p.1,ae⟩
  .have hd:decide ((j:Int)<(L.length:Int))=false:=bF;have ej:j=L.length:=ae;subst ej
   go_wp2
   go_ret;refine⟨_,rfl,?_,?_,F1⟩
   .have ht:L.take L.length=L:=jc;rw[ht]at hT;have Y5:=Al ns L;rw[<-Y5];refine .aM c _ _ _ (λi=>C.getD i .nilIface) EW (qk ⟨w.heap.size,rfl,br _,B1.z,λi hi=>?_⟩)<|λi hi=>?_
    .obtain⟨u,hu,_⟩:=uh hT i hi;rw[B1.c i,hu];simp[xj,hu]
    .obtain⟨u,hu,Um⟩:=uh hT i hi;have:C.getD i .nilIface=u:=qBm;rw[this];exact Um.wide λb p=>qAu
   .rw[jc]at N1;exact N1
end
mutual
def nz:Nd->Nat
 |.mk _ _ _ L _ _ _=>1+nzL L
def nzL:List Nd->Nat
 |[]=>0|x::l=>nz x+nzL l
end
section
variable {w:World}
def pi:∀(L:List Ty)(i:Nat)(h:i<L.length),ak (L.take<|i+1)=ak (L.take i)+size L[i]
 |[],i,h=>vQ|x::l,0,h=>by simp[ak]|x::l,i+1,h=>by simp only[jh,ak,jk];rw[pi l i Hn];omega
def lU:∀(L:List Ty)(i:Nat),ak (L.take i)<=ak L
 |[],i=>ag|x::l,0=>by simp[ak]|x::l,i+1=>by simp only[jh,ak];have:=lU l i;omega
def uS:∀(L:List Ty),L.length<=ak L
 |[]=>ag|x::l=>by
  have h1:=uS l;have h2:1<=size x:=by cases x<;>simp[size]
  simp only[ak,yE];omega
@[simp] theorem agS a b w:(z9 (.iface 165<|.agg #[a,b]) 87 165 true).run qw w=.ok (.tuple #[.agg #[a,b],.bool true]) w:=qkr
end
structure PN(w:World)B pb bv l last mv:Prop where
 bk:∃ad,w.heap[pb]? =some (.cells #[ad,bv,.string last,mv] 134 (0,0))/\(ad=.pointer none\/ad=Pv pb)
 ow:w.ownsRow B 5 1 bv l.length (v9 l)
 nl:l=[]->bv=.slice none 0 0
 hb:B<=w.heap.size
def SP pb(bv:Value)b:=b=pb\/bv.ownBlock=some b
def RS(w:World)b:=∀x,w.cell? ⟨b,0,none⟩=some x->∀c,x≠.int .u8 c
def PN.ajD{w:World}(h:PN w B pb bv l last mv){q}(hq:bv.ownBlock=some q):∃c,w.cell? ⟨q,0,none⟩=some (.int .u8 c):=by
 cases l with
 |nil=>rw[h.nl rfl]at hq;simp[xq]at hq|cons x r=>
  have⟨_,h2⟩:=h.ow;obtain⟨h3,_⟩|⟨g,cap,lZ,hv,_,hh,_,_,_,ht⟩:=h2
  .grind
  .rw[hv]at hq;simp[xq]at hq;subst hq;refine⟨x.toNat,?_⟩;simp only[q9,hh];have h0:(lZ.toList.take<|(x::r).length*1)[0]? =some (.int .u8 x.toNat):=by rw[ht];simp[v9]
   rw[jy ag]at h0;simpa using h0
def PN.ne{w:World}(h:PN w B pb bv l last mv){b:Nat}(hb:RS w b):bv.ownBlock≠some b:=λe=>by
 have⟨c,hc⟩:=h.ajD e;exact hb _ hc c rfl
def PN.lt{w:World}{B pb:Nat}{bv:Value}{l:List UInt8}{last:BA}{mv:Value}(h:PN w B pb bv l last mv):pb<w.heap.size:=by
 have⟨ad,hb,_⟩:=h.bk;exact(Array.getElem?_eq_some_iff.1 hb).1
def PN.pbN{w:World}(h:PN w B pb bv l last mv):RS w pb:=λx hx c e=>by
 have⟨ad,hb,ha⟩:=h.bk;simp[q9,hb]at hx;subst hx;obtain rfl|rfl:=ha<;>cases e
def PN.same{w:World}(h:PN w B pb bv l last mv)(hs:w.heap.size<=w'.heap.size)(hb:∀b,b<w.heap.size->SP pb bv b->w'.heap[b]? =w.heap[b]?):PN w' B pb bv l last mv:=by
 have⟨ad,h1,h2⟩:=h.bk;refine⟨⟨ad,(hb pb h.lt<|ql rfl).trans h1,h2⟩,?_,h.nl,qm h.hb hs⟩;have⟨g1,g2⟩:=h.ow;refine⟨g1,?_⟩;obtain g2|⟨g,cap,lZ,hv,hg,hh,r⟩:=g2
 .exact ql g2
 .refine qk ⟨g,cap,lZ,hv,hg,?_,r⟩;rw[hb g (Array.getElem?_eq_some_iff.1 hh).1<|qk (by rw[hv];rfl),hh]
def PN.af{w:World}(h:PN w B pb bv l last mv)(hb:Bq w w'):PN w' B pb bv l last mv:=h.same hb.size λb z _=>hb.block b z
def RS.same{w:World}{b:Nat}(h:RS w b)(hb:w'.heap[b]? =w.heap[b]?):RS w' b:=λx hx=>h x (by rw[<-qy (a:=⟨b,0,none⟩) (w:=w) hb];exact hx)
section
variable {w:World}
def dK{w:World}{b:Nat}{t}{fz}(h:w.heap[b]? =some (.cells C t fz))j v:(w.setCell ⟨b,j,none⟩ v).heap[b]? =some (.cells (C.setIfInBounds j v) t fz):=by
 have bA:=(Array.getElem?_eq_some_iff.1 h).1;simp[qz,Array.getElem?_modify,h]
def One.cell w b j v:One b w (w.setCell ⟨b,j,none⟩ v):=⟨rfl,rfl,rfl,Dd,λk hk=>xm _ _ _ _ hk⟩
def Gb{w}{c}{size}{v:Value}(h:w.ownsRow base e size v n xs)(o:One c w w')(cV:v.ownBlock≠some c):w'.ownsRow base e size v n xs:=by
 obtain⟨g1,g2⟩:=h;refine⟨g1,?_⟩;obtain g2|⟨g,cap,lZ,hv,hg,hh,r⟩:=g2
 .exact ql g2
 .refine qk ⟨g,cap,lZ,hv,hg,?_,r⟩;rw[o.block g<|λe=>cV (by rw[hv,<-e];rfl),hh]
def DC{w2:World}{pb}{o}(hg:W.grownBy w2 row)(hb:W.heap[pb]? =some o)(hn:row≠some pb):w2.heap[pb]? =some o:=(hg.block pb (Array.getElem?_eq_some_iff.1 hb).1<|λe=>hn e.symm).trans hb
def AD{w:World}{size}{v:Value}(h:w.ownsRow base e size v n xs):∃ao n' cap,v=.slice ao n' cap:=by
 obtain⟨hv,_⟩|⟨g,cap,lZ,hv,_⟩:=h.2
 .grind
 .grind
def KS:(Tryz.prog.info? 131).map (λi=>i.size)=some 2:=qkr
def adG:liesAt qw Tryz.prog.depth 134 (4/Tryz.prog.cellsOf 134) 0 131 1=true:=qkr
def ajE p w:(callFunc 174 #[p]).run qw w=.ok (.value p) w:=qkr
def KT:(Tryz.prog.info? 5).map (λi=>(i.zero,i.size,i.bytes))=some (some<|.int .u8 0,1,1):=qkr
def wO:Tryz.prog.underlying 129=some (.slice 5):=qkr
def wP ad(had:ad=.pointer none\/ad=Pv pb)x1 x2 x3(h:w.heap[pb]? =some (.cells #[ad,x1,x2,x3] 134 (0,0))):
 Cq 157 #[Pv pb] w λe w'=>e=.returned (.tuple #[])/\w'.heap[pb]? =some (.cells #[Pv pb,x1,x2,x3] 134 (0,0))/\One pb w w':=by
 have⟨j,hj,hjs⟩:=Option.map_eq_some_iff.1 KS;have c0:w.cell? ⟨pb,0,none⟩=some ad:=by simp[q9,h]
 have f0:w.frozen? ⟨pb,0,none⟩=false:=by simp[xd,h]
 have hsh:w.shape? pb=some (134,4):=by simp[World.shape?,h]
 obtain rfl|rfl:=had
 .have hn:=ajE;have ht:=Lib.run_to_unsafe (P:=Tryz.prog) w ⟨pb,0,none⟩ Tryz.underlying128 Tryz.underlying295 hj ae hsh (by show 0<4;decide);have hf:=Lib.run_from_unsafe (P:=Tryz.prog) w ⟨pb,0,none⟩ Tryz.underlying295 Tryz.underlying128 hj hsh adG;have cV:∀W:World,(binOp .neq 128 (Pv pb)<|Pv pb).run Tryz.prog W=.ok (.bool false) W:=λW=>Lib.run_neq_ptr_same W _ Tryz.underlying128 hj;go_enter func157,ntmps157
  go_wp2
  go_end0;exact⟨rfl,(dK h 0 _).trans ag,One.cell _ _ _ _⟩
 .have cV:∀W:World,(binOp .neq 128 (Pv pb)<|Pv pb).run Tryz.prog W=.ok (.bool false) W:=λW=>Lib.run_neq_ptr_same W _ Tryz.underlying128 hj;go_enter func157,ntmps157
  go_wp2
  go_end0;exact⟨rfl,h,⟨rfl,rfl,rfl,rfl,λ_ _=>rfl⟩⟩
def Tm{p:Prop}(h:p:=by
 rw[e1,e2];refine⟨g1,?_⟩;obtain g2|⟨g,aha,lZ,hv,hg,hh,r⟩:=g2
 .exact ql g2
 .refine qk ⟨g,aha,lZ,hv,hg,?_,r⟩
  rw[xm _ _ _ _ (by show g≠pb;intro e;exact hnp (by rw[hv,e];rfl)),hh]):p:=h
def Tn{p:Prop}(h:p:=by
 obtain⟨hv,_⟩|⟨g,aha,lZ,hv,_,hh,_⟩:=RX.2
 .rw[hv]at e;simp[xq]at e
 .rw[hv]at e;simp[xq]at e;subst e;rw[uh eG]at hh
  simp at hh):p:=h
def KU(h:PN w B pb bv l last mv)c(hl:l.length<=1000000):Cq 127 #[Pv pb,.int .u8 (c.toNat:Int)] w λe w'=>e=.returned .nilIface/\∃bv',PN w' B pb bv' (l++[c]) last mv/\Fr (SP pb bv) w w':=by
 obtain⟨i0,yq,oR,nu,iZ⟩:=info_parts KT;have hpn:=h.ne h.pbN;have bA:=h.lt;have hBw:=h.hb;obtain⟨ad,ZB,had⟩:=h.bk;have how:=ai h.ow;go_enter func127,ntmps127;go_wp2_with(first|(go_at_call 157;refine(wP ad had _ _ _ ZB).mono ?_;rintro e w1⟨rfl,dz,o1⟩;have c0:w1.cell? ⟨pb,0,none⟩=some (Pv pb):=(by simp[World.cell?,dz]);have c1:w1.cell? ⟨pb,1,none⟩=some bv:=(by simp[World.cell?,dz]);have O1:=ai o1;have eH:=ai dz;have Hz1:=ai o1.size;have aaH:=ai<|Gb how o1 hpn;clear o1 dz ZB)|(at_builtin;go_must(refine wpList_append_own_at _ rfl (.tmp 11) (.tmp 13) 129 rfl B 5 i0 _ 1 1 wO yq oR nu iZ rfl aB bv l.length _ rfl (aaH.alloc _) ⟨w1.heap.size,0,none⟩ 1 1 [.int .u8 (c.toNat:Int)] rfl rfl (oE _ _ _ _ ag) qAn ZA ae (by have:=uh Hz1;simp;omega) ?_;intro v2 w2 AE MP RY ajF;have fs:=DC MP ((Below.heap_alloc _ _ _ (by have:=uh Hz1;omega)).trans eH) hpn;have d0:w2.cell? ⟨pb,0,none⟩=some (Pv pb):=(by simp[World.cell?,fs]);have d1:w2.cell? ⟨pb,1,none⟩=some bv:=(by simp[World.cell?,fs]);have f1:w2.frozen? ⟨pb,1,none⟩=false:=(by simp[World.frozen?,fs]);obtain⟨ao,n',cap,Ui⟩:=AD AE;subst Ui;have eG:=ai fs;clear fs;have RX:=ai AE;have Hg2:=ai MP;clear AE MP RY ajF)));go_ret;have hnp:(Value.slice ao n' cap).ownBlock≠some pb:=λe=>by
  exact Tn
 refine⟨rfl,.slice ao n' cap,⟨⟨_,(dK eG 1 _).trans ag,qk rfl⟩,?_,?_,?_⟩,?_⟩
 .have hO:=uh RX;obtain⟨g1,g2⟩:=hO;have e1:v9 (l++[c])=v9 l++[.int .u8 (c.toNat:Int)]:=by simp[v9]
  have e2:(l++[c]).length=l.length+1:=ag;exact Tm
 .intro q;simp at q
 .have:=Hg2.size;have:=uh Hz1;simp[qz]at*;omega
 .have hO:=uh O1;have hG:=uh Hg2;refine⟨(hG.os).trans hO.os,hG.tape.trans hO.tape,hG.output.trans hO.output,by simp[qz];have:=hG.size;have:=uh Hz1;simp at*;omega,λk hk hn=>?_⟩;rw[xm _ _ _ _ (by show k≠pb;intro e;exact hn<|ql e),hG.block k (by have:=uh Hz1;simp;omega)<|λe=>hn<|qk e.symm,Below.heap_alloc _ _ _ (by have:=uh Hz1;omega)];exact hO.block k<|λe=>hn<|ql e
def qX(h:PN w B pb bv l last mv)s(hs:s.size<=100000)(hl:l.length<=1000000):Cq 128 #[Pv pb,.string s] w λe w'=>e=.returned (.tuple #[Nv s.size,.nilIface])/\∃bv',PN w' B pb bv' (l++s.data.toList) last mv/\Fr (SP pb bv) w w':=by
 obtain⟨i0,yq,oR,nu,iZ⟩:=info_parts KT;have hpn:=h.ne h.pbN;have bA:=h.lt;have hBw:=h.hb;obtain⟨ad,ZB,had⟩:=h.bk;have how:=ai h.ow;have hnl:=ai h.nl;go_enter func128,ntmps128;go_wp2_with(first|(go_at_call 157;refine(wP ad had _ _ _ ZB).mono ?_;rintro e w1⟨rfl,dz,o1⟩;have c0:w1.cell? ⟨pb,0,none⟩=some (Pv pb):=(by simp[World.cell?,dz]);have c1:w1.cell? ⟨pb,1,none⟩=some bv:=(by simp[World.cell?,dz]);have O1:=ai o1;have eH:=ai dz;have Hz1:=ai o1.size;have aaH:=ai<|Gb how o1 hpn;clear o1 dz ZB)|(at_builtin;go_must(refine Lib.wpList_append_own_string _ rfl (.tmp 12) (.tmp 13) 129 9 rfl B 5 i0 wO Tryz.underlying9 yq oR nu iZ bv l.length _ rfl aaH s rfl ZA ae (by have:=uh Hz1;omega) ?_;intro v2 w2 AE MP RY;have fs:=DC MP eH hpn;have d0:w2.cell? ⟨pb,0,none⟩=some (Pv pb):=(by simp[World.cell?,fs]);have d1:w2.cell? ⟨pb,1,none⟩=some bv:=(by simp[World.cell?,fs]);have f1:w2.frozen? ⟨pb,1,none⟩=false:=(by simp[World.frozen?,fs]);obtain⟨ao,n',cap,Ui⟩:=AD AE;subst Ui;have eG:=ai fs;clear fs;have RX:=ai AE;have Hg2:=ai MP;have Hn2:=ai RY;clear AE MP RY)));go_ret2;have hnp:(Value.slice ao n' cap).ownBlock≠some pb:=λe=>by
  exact Tn
 refine⟨rfl,.slice ao n' cap,⟨⟨_,(dK eG 1 _).trans ag,qk rfl⟩,?_,?_,?_⟩,?_⟩
 .have hO:=uh RX;obtain⟨g1,g2⟩:=hO;have e1:v9 (l++s.data.toList)=v9 l++Lib.strCells s:=by simp[v9,Lib.strCells]
  have e2:(l++s.data.toList).length=l.length+s.size:=ag;exact Tm
 .intro q;have q':l=[]/\s.data.toList=[]:=by simpa using q
  exact Hn2.2 ⟨hnl q'.1,by have:=congrArg qh q'.2;simpa using this⟩
 .have:=Hg2.size;have:=uh Hz1;simp[qz]at*;omega
 .have hO:=uh O1;have hG:=uh Hg2;refine⟨(hG.os).trans hO.os,hG.tape.trans hO.tape,hG.output.trans hO.output,by simp[qz];have:=hG.size;have:=uh Hz1;omega,λk hk hn=>?_⟩;rw[xm _ _ _ _ (by show k≠pb;intro e;exact hn<|ql e),hG.block k (by have:=uh Hz1;omega)<|λe=>hn<|qk e.symm];exact hO.block k<|λe=>hn<|ql e
def aaI(h:PN w B pb bv l last mv)(h0:l≠[]):Cq 39 #[Pv pb] w λe w'=>e=.returned (.string<|bs l)/\Fr (SP pb bv) w w':=by
 have Cu:l.length≠0:=by simpa using h0
 have⟨ad,ZB,_⟩:=h.bk;have fX:=h.ow;obtain⟨g,cap,lZ,rfl,hbg,hg,hnc,Mo,Mr,ajp⟩:∃g cap lZ,bv=Lv (some ⟨g,0,none⟩) l.length cap/\B<=g/\w.heap[g]? =some (Cv lZ 5 (0,0))/\l.length<=cap/\cap<=maxLen/\lZ.size=cap*1/\lZ.toList.take (l.length*1)=v9 l:=by
  obtain⟨_,hz⟩|⟨g,cap,lZ,hv,r⟩:=fX.2
  .exact absurd hz Cu
  .exact⟨g,cap,lZ,hv,r⟩
 have c1:w.cell? ⟨pb,1,none⟩=some (Lv (some ⟨g,0,none⟩) l.length cap):=by simp[q9,ZB]
 have hSD:∀W:World,(Builtin.unsafeSliceData_ #[129] 168 #[Lv (some ⟨g,0,none⟩) l.length cap]).run qw W=.ok (Pv g) W:=λW=>Lib.run_unsafeSliceData_row W _ _ _ _ _ ae;have hUS:(Builtin.unsafeString_ #[168,3] 9 #[Pv g,Nv l.length]).run qw w.drew=.ok (Sv ⟨l.toArray⟩) (w.drew.freeze ⟨g,0,none⟩ l.length):=by
  refine Lib.run_unsafeString_row w.drew _ _ _ 5 Tryz.underlying168 qkr g lZ.size (by have Dx:w.drew.heap[g]? =some (Cv lZ 5 (0,0)):=hg;simp[World.shape?,Dx]) l h0 ae (by rw[maxLen]at Mo;omega) ?_;intro j x hx;exact fX.cells (g:=g) rfl j (.int .u8 x.toNat) (by simp[v9,hx])
 have HF:Fr (SP pb<|Lv (some ⟨g,0,none⟩) l.length cap) w (w.drew.freeze ⟨g,0,none⟩ l.length):=(by
  have hb:=Lib.below_freeze (B:=g) (xn g w.drew) (p:=⟨g,0,none⟩) (br _) l.length;refine⟨hb.os,hb.tape,hb.output,hb.size,λk hk hn=>?_⟩;have hkg:k≠g:=λe=>hn (qk (by rw[e];rfl));simp[World.freeze];rw[if_neg h0];simp only[Array.getElem?_modify,if_neg<|ku hkg]
  rfl)
 go_enter func39,ntmps39
 go_wp2
 go_region
 all_goals(
  go_wp2
  go_ret
  exact⟨rfl,HF⟩)
end
def spB(last t:BA):Bool:= !(t.toList==[41])&& !(t.toList==[44])&& !(t.toList==[59])&& !(last.toList==[])&& !(last.toList==[40])
structure FN B pb(w w':World):Prop where
 os:w'.os=w.os
 tape:w'.tape=w.tape
 output:w'.output=w.output
 size:w.heap.size<=w'.heap.size
 block:∀k,k<w.heap.size->k≠pb->(k<B\/RS w k)->w'.heap[k]? =w.heap[k]?
def FN.trans{B pb}{a b c}(h:FN B pb a b)(k:FN B pb b c):FN B pb a c:=
 ⟨k.os.trans h.os,k.tape.trans h.tape,k.output.trans h.output,qm h.size k.size,λi hi hp hn=>by
  have e:=h.block i hi hp hn
  refine(k.block i (qn hi h.size) hp<|hn.imp id λq=>q.same e).trans e⟩
def FN.of{w:World}(h:Bq w w'):FN B pb w w':=⟨h.os,h.tape,h.output,h.size,λi hi _ _=>h.block i hi⟩
def Fr.fn{B pb:Nat}{bv:Value}{l:List UInt8}{last:BA}{mv:Value}{w w':World}(h:PN w B pb bv l last mv)(hf:Fr (SP pb bv) w w'):FN B pb w w':=
 ⟨hf.os,hf.tape,hf.output,hf.size,λk hk hp hn=>hf.block k hk (λq=>by
  obtain q|q:=q
  .exact hp q
  .obtain hn|hn:=hn
   .have:=(fP h.ow k q).1;omega
   .exact h.ne hn q)⟩
def RS.fn{B pb:Nat}{w w':World}{b:Nat}(h:RS w b)(hb:b<w.heap.size)(hp:b≠pb)(hf:FN B pb w w'):RS w' b:=h.same<|hf.block b hb hp<|qk h
def Bx.fn{B pb:Nat}{w w':World}{b:Nat}{C:Array Value}(h:Bx w b C)(hp:b≠pb)(hn:b<B\/RS w b)(hf:FN B pb w w'):Bx w' b C:=h.same hf.size<|hf.block b h.z hp hn
def Bx.nby{w:World}{b:Nat}(h:Bx w b C)(hx:∀x,C[0]? =some x->∀c,x≠.int .u8 c):RS w b:=λx q=>hx x (by rw[<-h.c 0];exact q)
def tP l last t:=(l++if spB last t then[32]else[])++t.data.toList
def ahb B pb(bv:Value)l last t mv(g:Nat)w gk v wr:=
 (v=Iv 0/\gk=1/\wr=w)\/(v=Iv 1/\gk=0/\∃bv',PN wr B pb bv' (tP l last t) t mv/\FN B pb w wr)
section
variable {w:World}
def Qa{p:Prop}(h:p:=by
 go_enter func126,ntmps126
 go_wp2
 go_ret
 exact⟨rfl,rfl⟩):p:=h
def KY last t:Cq 126 #[.string last,.string t] w λe w'=>e=.returned (.bool<|spB last t)/\w'=w:=by
 rw[spB]
 cases h1:(t.toList==[41])
 .cases h2:(t.toList==[44])
  .cases h3:(t.toList==[59])
   .cases h4:(last.toList==[])
    .go_enter func126,ntmps126
     go_wp2
     go_ret;exact⟨ag,rfl⟩
    .go_enter func126,ntmps126
     go_wp2
     go_ret;exact⟨ag,rfl⟩
   .exact Qa
  .exact Qa
 .exact Qa
def PN.KZ{w}{B pb}{bv}{l}{last}{mv}(h:PN w B pb bv l last mv)t:PN (w.setCell ⟨pb,2,none⟩<|.string t) B pb bv l t mv:=by
 have hpn:=h.ne h.pbN;have⟨ad,hb,ha⟩:=h.bk;exact⟨⟨ad,(dK hb 2 _).trans ag,ha⟩,Gb h.ow (One.cell _ _ _ _) hpn,h.nl,by have:=h.hb;simp[qz];exact this⟩
def PN.cells{w}{B pb}{bv}{l}{last}{mv}(h:PN w B pb bv l last mv):w.cell? ⟨pb,2,none⟩=some (.string last)/\w.frozen? ⟨pb,2,none⟩=false:=by
 have⟨ad,hb,ha⟩:=h.bk;exact⟨by simp[q9,hb],by simp[xd,hb]⟩
def FN.KZ B pb w v:FN B pb w (w.setCell ⟨pb,2,none⟩ v):=⟨rfl,rfl,rfl,Dd,λk _ hp _=>xm _ _ _ _ hp⟩
def wQ(h:PN w B pb bv l last mv)t(ht:t.size<=100000)(hl:l.length<=900000)g(hg:Bx w g #[.string t])(hgp:g≠pb):
 Cq 75 #[Pv pb,.slice (some ⟨g,0,none⟩) 1 1] w λe w'=>e=.returned (.tuple #[])/\∃bv',PN w' B pb bv' (tP l last t) t mv/\FN B pb w w':=by
 obtain⟨cg,fg,zg⟩:=hg;have⟨c2,f2⟩:=h.cells;go_enter func75,ntmps75
 go_wp2
 go_loopg[8] 1 (λgk v wr=>ahb B pb bv l last t mv g w gk v wr)
 case atStart=>exact ql ⟨rfl,rfl,rfl⟩
 case round=>
  obtain⟨rfl,rfl,rfl⟩|⟨rfl,rfl,hr⟩:=hrel
  .by_cases hsp:spB last t=true
   .go_wp2_with(first|(go_at_call 126;refine(KY last t).mono ?_;rw[hsp];rintro e w'⟨rfl,rfl⟩)|(go_at_call 127;refine(KU h 32 ae).mono ?_;rintro e w1⟨rfl,bv1,hN1,hF1⟩;have Fq:=ai hN1;have BL:=ai<|Fr.fn h hF1;clear hN1 hF1)|(go_at_call 128;refine(qX Fq t ht bF).mono ?_;rintro e w2⟨rfl,Xb,ON,hF2⟩;have Re:=ai ON;have Bu:=ai<|BL.trans<|Fr.fn Fq hF2;have⟨c3,f3⟩:=ON.cells;clear ON hF2));go_roundg 0
    case measure=>omega
    case rel=>exact qk ⟨jP,rfl,Xb,by rw[tP];rw[if_pos hsp];exact Re.KZ t,Bu.trans<|FN.KZ _ _ _ _⟩
   .have alA:spB last t=false:=by simpa using hsp
    go_wp2_with(first|(go_at_call 126;refine(KY last t).mono ?_;rw[alA];rintro e w'⟨rfl,rfl⟩)|(go_at_call 128;refine(qX h t ht ae).mono ?_;rintro e w2⟨rfl,Xb,ON,hF2⟩;have Re:=ai ON;have Bu:=ai<|Fr.fn h hF2;have⟨c3,f3⟩:=ON.cells;clear ON hF2));go_roundg 0
    case measure=>omega
    case rel=>exact qk ⟨jP,rfl,Xb,by rw[tP];rw[if_neg hsp,List.append_nil];exact Re.KZ t,Bu.trans<|FN.KZ _ _ _ _⟩
  .go_wp2
   go_end0;exact⟨rfl,hr⟩
end
def Xc:Nat->List Nat->List (Int×Value)
 |_,[]=>[]|i,a::l=>((a:Int),Nv i)::Xc (i+1) l
def RZ:∀l i,(Xc i l).length=l.length
 |[],i=>rfl|a::l,i=>by simp[Xc,RZ l]
def K9(s:Nat):∀l i,Xc i (l++[s])=Xc i l++[((s:Int),.int .i64 ((i+l.length:Nat):Int))]
 |[],i=>by simp[Xc]|a::l,i=>by
  simp only[j8,Xc,K9 s l<|i+1];simp;omega
def R7(s:Nat):∀l i,s∈l->a_ (s:Int) (Xc i l)=some (.int .i64 ((i+l.idxOf s:Nat):Int))
 |[],i,h=>vQ|a::l,i,h=>by
  rw[Xc,a_];by_cases e:a=s
  .subst e;simp
  .have h1:¬((a:Int)=(s:Int)):=ae;have h2:(a==s)=false:=by simpa using e
   rw[if_neg h1,R7 s l (i+1)<|(List.mem_cons.1 h).resolve_left<|λq=>e q.symm,List.idxOf_cons,h2];simp;omega
def K_(s:Nat):∀l i,¬s∈l->a_ (s:Int) (Xc i l)=none
 |[],i,_=>rfl|a::l,i,h=>by
  rw[Xc,a_];have h1:¬((a:Int)=(s:Int)):=λq=>h (by simp;left;omega);rw[if_neg h1];exact K_ s l (i+1)<|λq=>h<|ji _ q
abbrev ajG:Int->Value:=λn=>Iv n
structure NB w nb mb L:Prop where
 bk:Bx w nb #[Mv mb]
 mp:MS ajG w mb (Xc 0 L)
 ne:nb≠mb
def MS.len{enc}{w:World}{b:Nat}{L:List (κ×Value)}(h:MS enc w b L):∃es clock,w.heap[b]? =some (.map es clock)/\es.size=L.length:=by
 obtain⟨es,c,h1,h2⟩:=h;refine⟨es,c,h1,?_⟩;have:=congrArg qh h2;simpa using this
abbrev nbV(nb:Nat):Value:=.func (.func 49) #[] #[Pv nb]
def NB.fr{S}{w w'}{nb mb}{L}(h:NB w nb mb L)(hf:Fr S w w')(h1:¬S nb)(h2:¬S mb):NB w' nb mb L:=⟨h.bk.fr hf h1,h.mp.same<|hf.block mb h.mp.lt h2,h.ne⟩
def NB.af{w:World}(h:NB w nb mb L)(hb:Bq w w'):NB w' nb mb L:=h.fr (S:=λ_=>False) (Fr.of hb) id id
def vT i:=118::dec i
section
variable {w:World}
def aaJ{b:Nat}{enc}{M:List (κ×Value)}(h:MS enc w b M){t:TypeId}(ht:Tryz.prog.underlying t=some (.map k e))(ty:TypeId):(Builtin.len_ #[t] ty #[Mv b]).run qw w=.ok (Nv M.length) w:=by
 have⟨es,c,h1,h2⟩:=h.len;simp[Builtin.len_,run_underlying ht,vw h1,h2,goInt]
def R8 w:(zeroValue 3).run qw w=.ok (Iv 0) w:=qkr
def Gd nb mb L n w(e:Ending)w':=
 e=.returned (.string<|bs<|vT<|(v7 L n).idxOf n)/\NB w' nb mb (v7 L n)/\Fr (λb=>b=mb) w w'
def VA(h:NB w nb mb L)n(hn:(v7 L n).length<=96):Cq 49 #[Nv n,Pv nb] w (Gd nb mb L n w):=by
 have hl:=h.mp.look (KL.num Tryz.underlying152) Tryz.underlying154 (R8 w) (n:Int) trivial (λ_ _=>trivial) true;have⟨c,f,z⟩:=h.bk;have ahc:∀i,(⟨#[118]⟩:BA)++bs (dec i)=bs (vT i):=λi=>by rw[show(⟨#[118]⟩:BA)=bs [118]from rfl,kG];rfl
 by_cases hm:n∈L
 .rw[R7 n L 0 hm]at hl;simp at hl;have es:v7 L n=L:=by rw[v7,if_pos hm]
  rw[es]at hn;have bA:=qn (List.idxOf_lt_length_iff.2 hm) hn;have HC:=λW:World=>aaK (w:=W) (L.idxOf n) bA;have hc:=ahc<|L.idxOf n;have hdl:(bs<|dec<|L.idxOf n).size<=100:=by rw[dY];have:=yz<|L.idxOf n;omega
  go_enter func49,ntmps49;go_wp2_with(go_at_call 50;refine(HC _).mono ?_;rintro e w'⟨rfl,rfl⟩);go_ret;rw[Gd];rw[es];exact⟨rfl,h,Fr.refl _ _⟩
 .have hg:=K_ n L 0 hm;rw[hg]at hl;simp at hl;have es:v7 L n=L++[n]:=by rw[v7,if_neg hm]
  have hix:(L++[n]).idxOf n=L.length:=by
   rw[List.idxOf_append,if_neg hm];simp
  have hlen:=aaJ h.mp Tryz.underlying154;rw[RZ]at hlen;rw[es]at hn;simp at hn;have HC:=λW:World=>aaK (w:=W) L.length ae;have hc:=ahc L.length;have hdl:(bs<|dec L.length).size<=100:=by rw[dY];have:=yz L.length;omega
  have HM:=ai h.mp;have HK:=ai h.bk;have cV:=h.ne;go_enter func49,ntmps49;go_wp2_with(first|(go_at_call 50;refine(HC _).mono ?_;rintro e w'⟨rfl,rfl⟩)|(refine aV _ rfl _ _ _ _ (Or.inr rfl) (KL.num Tryz.underlying152) Tryz.underlying154 _ _ rfl HM (n:Int) (Nv L.length) rfl rfl trivial (λ_ _=>trivial) ?_;intro w' H' O';have Db:=ai H';have O2:=ai O';clear H' O'));go_ret;rw[Gd];rw[es,hix];have O:=uh O2;refine⟨rfl,⟨HK.one O cV,?_,cV⟩,⟨O.os,O.tape,O.output,by rw[O.size];exact br _,λk hk hn=>O.block k hn⟩⟩;have:=uh Db;rw[oN _ _ _ hg]at this;rw[K9];simpa using this
end
def aab:pn sk=sk:=by simp_all[pn,sk]
inductive db(w:World)(P:Nat->Prop):Ty->Value->Prop where
 |var(n:Nat):db w P (.var n) (.iface 152<|Nv n)
 |aM(c:BA)(L:List Ty)(sa:Option Addr)(sc:Nat)(vs:Nat->Value)(hc:CN c\/c=sk)(aO:L=[]\/∃g,sa=some ⟨g,0,none⟩/\P g/\g<w.heap.size/\∀i,i<L.length->w.cell? ⟨g,i,none⟩=some (vs i))(hr:∀i(h:i<L.length),db w P L[i]<|vs i):
  db w P (.aM c L) (.iface 165<|.agg #[.string<|pn c,.slice sa L.length sc])
theorem db.move{w}{v}(h:db w P t v)(hs:w.heap.size<=w'.heap.size)(hb:∀b,P b->b<w.heap.size->w'.heap[b]? =w.heap[b]?)(hq:∀b,P b->b<w.heap.size->Q b):db w' Q t v:=by
 exact SU
def db.af{w}{v}(h:db w P t v)(hb:Bq w w'):db w' P t v:=h.move hb.size (λb _ hz=>hb.block b hz)<|λ_ p _=>p
def db.wide{w}{v}(h:db w P t v)(hq:∀b,P b->Q b):db w Q t v:=h.move (br _) (λ_ _ _=>rfl)<|λb p _=>hq b p
def db.fr{S}{w}{v}(h:db w P t v)(hf:Fr S w w')(hS:∀b,P b->b<w.heap.size->¬S b):db w' P t v:=h.move hf.size (λb p z=>hf.block b z<|hS b p z)<|λ_ p _=>p
def db.low{w}{P:Nat->Prop}{t:Ty}{v}(h:db w P t v):db w (λb=>P b/\b<w.heap.size) t v:=h.move (br _) (λ_ _ _=>rfl)<|λ_ p z=>⟨p,z⟩
def db.iface{w}{v}(h:db w P t v):∃a x,v=.iface a x:=by
 cases h<;>exact⟨_,_,rfl⟩
def dW.w{w}{v}(h:dW w P t v):db w P t v:=by
 induction h with
 |var n=>exact .var n|aM c L sa sc vs hc aO hr ih=>exact .aM c L sa sc vs (ql hc) aO ih
def uT:∀{L:List Ty},p9 L->∀i(h:i<L.length),Whole L[i]
 |[],_,i,h=>vQ|t::l,h,0,_=>h.1|t::l,h,i+1,k=>by simpa using uT h.2 i (by simpa using k)
def db.v{w}{v}(h:db w P t v)(hw:Whole t):dW w P t v:=by
 induction h with
 |var n=>exact .var n|aM c L sa sc vs hc aO hr ih=>exact .aM c L sa sc vs (hc.resolve_right hw.1) aO λi hi=>ih i hi<|uT hw.2 i hi
mutual
def occs:Ty->List Nat
 |.var n=>[n]|.aM _ l=>gF l
def gF:List Ty->List Nat
 |[]=>[]|t::l=>occs t++gF l
end
mutual
def cC:∀(t:Ty)(a:List Nat),vars a t=(occs t).foldl v7 a
 |.var n,a=>rfl|.aM c l,a=>by simpa[vars,occs]using Am l a
def Am:∀(l:List Ty)(a:List Nat),bh a l=(gF l).foldl v7 a
 |[],a=>rfl|t::l,a=>by simp only[bh,gF,ju];rw[cC t a];exact Am l _
end
def An:∀(L:List Ty)(i:Nat)(h:i<L.length),gF (L.take<|i+1)=gF (L.take i)++occs L[i]
 |[],i,h=>vQ|t::l,0,_=>by simp[gF]|t::l,i+1,h=>by
  have:=An l i Hn;simp only[jh,gF,jk,this,jo]
def Rf σ L i(h:i<L.length):(aT σ L)[i]'(by rw[eB];exact h)=sub σ L[i]:=by simp[iC]
def mL:∀(L:List Ty)(i:Nat)(h:i<L.length),size L[i]<=ak L:=by simp_all[size,ak,y9]
def Fo:∀L:List Ty,L.length<=ak L
 |[]=>br _|t::l=>by have:=Fo l;have:=size_pos t;simp only[yE,ak];omega
def Rg{n:Nat}:∀(L:List Ty)(i:Nat)(h:i<L.length),aw n L[i]->bW n L
 |[],i,h,_=>vQ|t::l,0,_,k=>ql k|t::l,i+1,h,k=>qk (Rg l i Hn<|by simpa using k)
def U9{P}{t}(ht:P.underlying t=some (.slice e))(hi:P.info? e=some i)(hz:i.zero=some z)(hzc:z.cells=#[z])(h1:i.size=1)(h2:i.bytes=by_)(hby:by_<=16)n(hn:n<=1000000000000)w:
 (Instr.makeSlice t (Nv n)<|Nv n).run P w=.ok (.slice (some ⟨w.heap.size,0,none⟩) n n) (w.alloc<|.cells (xg n z) e):=by
 have hb:(i.bytes:Int)*(n:Int)<=281474976710656:=by
  rw[h2];have:by_*n<=16*1000000000000:=qt hby hn;exact Sj
 exact Si
@[simp] theorem agT n w:(z9 (.iface 152<|Iv n) 87 152 true).run qw w=.ok (.tuple #[Iv n,.bool true]) w:=qkr
@[simp] theorem amA n w:(z9 (.iface 152<|Iv n) 87 165 true).run qw w=.ok (.tuple #[.agg #[.string ⟨#[]⟩,.slice none 0 0],.bool false]) w:=qkr
@[simp] theorem ajn a b w:(z9 (.iface 165<|.agg #[a,b]) 87 152 true).run qw w=.ok (.tuple #[Iv 0,.bool false]) w:=qkr
@[simp] theorem amB a b w:(z9 (.iface 165<|.agg #[a,b]) 87 165 true).run qw w=.ok (.tuple #[.agg #[a,b],.bool true]) w:=qkr
abbrev aac(B M:Nat->Prop)n b:=¬M b/\(B b\/n<=b)
abbrev J_:=List Nat->(Nat->Prop)->(Nat->Prop)->World->Prop
structure Img g bs cs(σ:Nat->Ty)(N:List Nat->Nat->Prop)(I:J_):Prop where
 eg:∀args w,(callFunc g args).run qw w=.ok (.enter g args) w
 om:∀acc B M w w',I acc B M w->w.heap.size<=w'.heap.size->(∀b,B b\/M b->w'.heap[b]? =w.heap[b]?)->I acc B M w'
 lt:∀acc B M w,I acc B M w->∀b,B b\/M b->b<w.heap.size
 call:∀acc B M w n,I acc B M w->N acc n->Cq g (bs++#[Nv n]++cs) w λe w'=>
  ∃u B' M',e=.returned u/\db w' (aac B M' w.heap.size) (σ n) u/\I (acc++[n]) B' M' w'/\(∀b,B' b->B b\/w.heap.size<=b)/\(∀b,M' b->M b\/w.heap.size<=b)/\Fr M w w'
def Fr.g_{M M'}{a b c}(h:Fr M a b)(k:Fr M' b c)(hm:∀x,M' x->M x\/a.heap.size<=x):Fr M a c:=
 ⟨k.os.trans h.os,k.tape.trans h.tape,k.output.trans h.output,qm h.size k.size,λx hx hn=>(k.block x (qn hx h.size) (λq=>by obtain r|r:=hm x q;exact hn r;omega)).trans (h.block x hx hn)⟩
def Rh σ(I:J_)acc B M t w(e:Ending)w':=
 ∃u B' M',e=.returned u/\db w' (aac B M' w.heap.size) (sub σ t) u/\I (acc++occs t) B' M' w'/\(∀b,B' b->B b\/w.heap.size<=b)/\(∀b,M' b->M b\/w.heap.size<=b)/\Fr M w w'
def J'(N:List Nat->Nat->Prop)acc(l:List Nat):=∀i(h:i<l.length),N (acc++l.take i) l[i]
def J'.left{l:List Nat}(h:J' N acc (l++l')):J' N acc l:=λi hi=>by
 have:=h i bF
 rwa[List.take_append_of_le_length ae,jx hi]at this
def J'.right{l:List Nat}(h:J' N acc (l++l')):J' N (acc++l) l':=λi hi=>by
 have:=h (l.length+i) bF;rw[List.take_length_add_append,<-jo]at this;simpa using this
def ads g bs cs σ N I t:=∀(acc:List Nat)(B M:Nat->Prop)(w:World)(v:Value)(Q:Nat->Prop),I acc B M w->J' N acc (occs t)->size t<=1000000000000->db w Q t v->(∀b,Q b->b<w.heap.size->¬M b)->
 Cq 226 #[v,.func (.func g) bs cs] w (Rh σ I acc B M t w)
def adt σ(I:J_)acc B M(L:List Ty)TC w gk v wr:=
 ∃(j:Nat)(C:Array Value)(B' M':Nat->Prop),Hid (gk=L.length-j)/\j<=L.length/\v=Nv j/\I (acc++gF (L.take j)) B' M' wr/\Hid (∀b,B' b->B b\/w.heap.size+2<=b)/\Hid (∀b,M' b->M b\/w.heap.size+2<=b)/\Fr M w wr/\Bx wr w.heap.size TC/\Bx wr (w.heap.size+1) C/\Hid (C.size=L.length)/\
  Hid (∀i(h:i<L.length),i<j->∃u,C[i]? =some u/\db wr (λb=>aac B M' (w.heap.size+2) b/\b<wr.heap.size) (sub σ L[i]) u)
def aad L j(h:j<L.length):∃r,gF L=gF (L.take j)++(occs L[j]++r):=by
 induction L generalizing j with
 |nil=>simp at h|cons t l ih=>
  cases j with
  |zero=>exact⟨gF l,by simp[gF]⟩|succ j=>
   have⟨r,e⟩:=ih j Hn;exact⟨r,by simp only[jh,gF,jk];rw[e];simp[jo]⟩
section
variable {bs:Array Value} {σ:Nat->Ty} {I:J_}
def adu(H:Img g bs cs σ N I)n:ads g bs cs σ N I (.var n):=by
 intro acc B M w v Q hI hN hz hv hQ
 cases hv
 have eg:=H.eg;have HC:=H.call acc B M w n hI (by simpa[occs]using hN 0 (by simp[occs]));go_enter func226,ntmps226;go_wp2_with(go_at_fn g;refine HC.mono ?_;rintro e w1⟨u,B',M',rfl,h2,h3,h4,h5,h6⟩;obtain⟨ta,xa,rfl⟩:=h2.iface;have X:=ai<|show Rh σ I acc B M (.var n) w (Rv<|Fv ta xa) w1 from⟨_,B',M',rfl,h2,h3,h4,h5,h6⟩;clear h2 h3 h4 h5 h6);go_ret;exact X
def Ro{p:Prop}(h:p:=by
 obtain r|r:=uh hM1 _ q
 .have:=HB _<|qk r;omega
 .omega):p:=h
def adv(H:Img g bs cs σ N I)c L(IH:∀i(h:i<L.length),ads g bs cs σ N I L[i]):ads g bs cs σ N I (.aM c L):=by
 intro acc B M w v Q HN HNN HZ hv HQ
 cases hv with
 |aM c L sa sc vs hc aO hr=>
 have hL:L.length<=1000000000000:=by have:=Fo L;simp only[size]at HZ;omega
 obtain⟨i0,yq,oR,nu,iZ⟩:=info_parts gE;have W7:=U9 (by_:=16) eK yq oR rfl nu iZ aB L.length hL;have HB:=H.lt acc B M w HN;have HK:=ai H.om;go_enter func226,ntmps226
 go_wp2
 go_loopg[27] L.length (λgk v wr=>adt σ I acc B M L #[.string<|pn c,.slice sa L.length sc] w gk v wr)
 case atStart=>
  have b1:Bq w ((w.alloc<|.cells #[.string<|pn c,.slice sa L.length sc] 165).alloc<|.cells (xg L.length .nilIface) 87):=(bw _).alloc ag _;refine⟨0,xg L.length .nilIface,B,M,ai ag,qr _,rfl,?_,ai<|λb hb=>ql hb,ai<|λb hb=>ql hb,Fr.of b1,?_,?_,ai ag,ai<|λi _ hi=>absurd hi ae⟩
  .simpa[gF]using HK _ _ _ _ _ HN b1.size (λb hb=>b1.block b<|HB b hb)
  .exact(Bx.new w _ _).below (bw _)
  .have:=Bx.new (w.alloc<|.cells #[.string<|pn c,.slice sa L.length sc] 165) (xg L.length .nilIface) 87;simpa using this
 case round=>
  obtain⟨j,C,B1,M1,dl,hj,rfl,Fq,hB1,hM1,F1,T1,P1,hC,hT⟩:=hrel;have zw:=F1.size;have tz:=T1.z;have pz:=P1.z;by_cases bm:j<L.length
  .have hd:(j:Int)<(L.length:Int):=ae;obtain⟨g1,rfl,hg,k9,bY⟩:∃g,sa=some ⟨g,0,none⟩/\Q g/\g<w.heap.size/\∀i,i<L.length->w.cell? ⟨g,i,none⟩=some (vs i):=by
    exact P6
   have cg:wr.cell? ⟨g1,j,none⟩=some (vs j):=by
    rw[qy (a:=⟨g1,j,none⟩) (w:=w)<|F1.block g1 k9<|HQ g1 hg k9];exact bY j bm
   have PJ:=(hr j bm).low.fr F1<|λb p _=>HQ b p.1 p.2;obtain⟨tv,xv,hv⟩:=PJ.iface;obtain⟨rr,hrr⟩:=aad L j bm;have hNj:J' N (acc++gF (L.take j)) (occs L[j]):=by
    have:=HNN;simp only[occs]at this;rw[hrr]at this;exact this.right.left
   have hQ1:∀b,(Q b/\b<w.heap.size)->b<wr.heap.size->¬M1 b:=λb p _ q=>by
    obtain r|r:=uh hM1 b q
    .exact HQ b p.1 p.2 r
    .omega
   have HC:=IH j bm _ B1 M1 wr (vs j) _ Fq hNj (by have:=mL L j bm;have:=HZ;simp only[size]at this;omega) PJ hQ1;rw[hv]at cg HC;obtain⟨tc,tf,_⟩:=T1;go_wp2_with fail;refine HC.mono ?_;rintro e w1⟨u,B2,M2,rfl,HU,Re,eG,Db,HF⟩;obtain⟨tu,xu,rfl⟩:=HU.iface;have hpb:¬M1 (w.heap.size+1):=λq=>by
    exact Ro
   have htb:¬M1 w.heap.size:=λq=>by
    exact Ro
   have P2:=P1.fr HF hpb;have T2:=(show Bx wr w.heap.size #[.string<|pn c,.slice (some ⟨g1,0,none⟩) L.length sc]from⟨tc,tf,tz⟩).fr HF htb;have wJ:j<C.size:=qBh;have cj:=(P2.c j).trans<|xh wJ;have fj:=P2.f j;have P3:=P2.aR j (.iface tu xu) (C.setIfInBounds j<|.iface tu xu) rfl wJ;have T3:=T2.bT (show w.heap.size≠w.heap.size+1 by omega) j (.iface tu xu);have Bu:=F1.g_ HF (λx q=>by obtain r|r:=uh hM1 x q;exact ql r;exact qk ae);have z2:=HF.size
   go_wp2
   go_roundg(L.length-(j+1))
   case measure=>rw[uh dl];omega
   case rel=>
    have cV:∀b,b≠w.heap.size+1->(w1.setCell ⟨w.heap.size+1,j,none⟩<|.iface tu xu).heap[b]? =w1.heap[b]? :=λb hb=>xm _ _ _ _ (by show b≠w.heap.size+1;exact hb);have hss:(w1.setCell ⟨w.heap.size+1,j,none⟩<|.iface tu xu).heap.size=w1.heap.size:=Dd;have oS:∀b,B2 b->B b\/w.heap.size+2<=b:=λb hb=>by
     obtain q|q:=eG b hb
     .exact hB1 b q
     .exact qk ae
    have hm3:∀b,M2 b->M b\/w.heap.size+2<=b:=λb hb=>by
     obtain q|q:=Db b hb
     .exact hM1 b q
     .exact qk ae
    have hn3:∀b,(B b\/w.heap.size+2<=b)->b≠w.heap.size+1:=λb hb e=>by
     obtain q|q:=hb
     .have:=HB b<|ql q;omega
     .omega
    have hn4:∀b,(M b\/w.heap.size+2<=b)->b≠w.heap.size+1:=λb hb e=>by
     obtain q|q:=hb
     .have:=HB b<|qk q;omega
     .omega
    refine⟨j+1,C.setIfInBounds j<|.iface tu xu,B2,M2,ai rfl,ae,jP,?_,ai oS,ai hm3,?_,T3,P3,ai (by simp;exact hC),ai<|λi hi hij=>?_⟩
    .rw[An L j bm,<-jo];exact HK _ _ _ _ _ Re ae (λb hb=>cV b (by obtain q|q:=hb;exact hn3 b<|oS b q;exact hn4 b<|hm3 b q))
    .exact Bu.set (qk ae) j _
    .by_cases e:i=j
     .subst e;refine⟨.iface tu xu,by simp[wJ],?_⟩
      have hL1:∀b,aac B1 M2 wr.heap.size b->aac B M2 (w.heap.size+2) b:=λb p=>⟨p.1,by
       obtain q|q:=p.2
       .exact hB1 b q
       .exact qk ae⟩
      exact HU.move ae (λb p z=>cV b<|hn3 b (hL1 b p).2)<|λb p z=>⟨hL1 b p,ae⟩
     .obtain⟨u',wK,wL⟩:=uh hT i hi ae;refine⟨u',by rw[xf ae];exact wK,?_⟩;have h3:=wL.fr HF<|λb p _=>p.1.1;refine h3.move ae (λb p z=>cV b<|hn3 b p.1.2)<|λb p z=>⟨⟨λq=>?_,p.1.2⟩,ae⟩;obtain r|r:=Db b q
      .exact p.1.1 r
      .have:=p.2;omega
  .have hd:decide ((j:Int)<(L.length:Int))=false:=bF;have ej:j=L.length:=ae;subst ej;obtain⟨tc,tf,_⟩:=T1
   go_wp2
   go_ret;refine⟨_,B1,M1,rfl,?_,?_,λb hb=>?_,λb hb=>?_,F1⟩
   .have Y5:=eB σ L;simp only[sub];rw[<-Y5];refine .aM c _ _ _ (λi=>C.getD i .nilIface) hc (qk ⟨w.heap.size+1,rfl,⟨λq=>?_,qk ae⟩,P1.z,λi hi=>?_⟩)<|λi hi=>?_
    .exact Ro
    .rw[Y5]at hi;obtain⟨u,hu,_⟩:=uh hT i hi hi;rw[P1.c i,hu];simp[xj,hu]
    .have Ag:i<L.length:=by rw[Y5]at hi;exact hi
     obtain⟨u,hu,Um⟩:=uh hT i Ag Ag;have:C.getD i .nilIface=u:=qBm;rw[this,Rf σ L i Ag];exact Um.wide λb p=>⟨p.1.1,by obtain q|q:=p.1.2;exact ql q;exact qk ae⟩
   .simp only[occs];rw[<-jc (l:=L)];exact Fq
   .obtain q|q:=uh hB1 b hb
    .exact ql q
    .exact qk ae
   .obtain q|q:=uh hM1 b hb
    .exact ql q
    .exact qk ae
def Ao(H:Img g bs cs σ N I):∀t,ads g bs cs σ N I t
 |.var n=>adu H n|.aM c L=>adv H c L λi h=>Ao H L[i]
 termination_by t=>size t
 decreasing_by have:=mL L i h;simp only[size];omega
end
section
variable {w:World}
def sA:Cq 47 #[] w λe w'=>e=.returned (.iface 165<|.agg #[.string ry,.slice none 0 0])/\w'=w:=by
 go_enter func47,ntmps47
 go_wp2
 go_ret;exact⟨rfl,rfl⟩
def oC:Cq 48 #[] w λe w'=>e=.returned (.iface 165<|.agg #[.string ys,.slice none 0 0])/\w'=w:=by
 go_enter func48,ntmps48
 go_wp2
 go_ret;exact⟨rfl,rfl⟩
def yV:Cq 230 #[] w λe w'=>e=.returned (.iface 165<|.agg #[.string iW,.slice none 0 0])/\w'=w:=by
 go_enter func230,ntmps230
 go_wp2
 go_ret;exact⟨rfl,rfl⟩
def ng:od ry:=⟨73,[110,116],toList_mk _,aB⟩
def lj:od ys:=⟨66,[111,111,108],toList_mk _,aB⟩
def sB:od iW:=⟨85,[110,105,116],toList_mk _,aB⟩
def Io w P(h:od c):db w P (.aM c []) (.iface 165<|.agg #[.string c,.slice none 0 0]):=by
 have:=db.aM (w:=w) (P:=P) c [] none 0 (λ_=>Zv) (ql<|qk<|qk h) (ql rfl) (λi hi=>by simp at hi);rw[fh h]at this;exact this
def m_ c a b(w:World)(e:Ending)w':=
 e=.returned (.iface 165<|.agg #[.string<|pn c,.slice (some ⟨w.heap.size,0,none⟩) 2 2])/\w'=w.alloc (.cells #[a,b] 87)
def vS ta tb xa xb:Cq 254 #[.iface ta xa,.iface tb xb] w (m_ pN (.iface ta xa) (.iface tb xb) w):=by
 go_enter func254,ntmps254
 go_wp2
 go_ret;rw[m_];rw[kP];exact⟨rfl,rfl⟩
def P_ ta tb xa xb:Cq 255 #[.iface ta xa,.iface tb xb] w (m_ m9 (.iface ta xa) (.iface tb xb) w):=by
 go_enter func255,ntmps255
 go_wp2
 go_ret;rw[m_];rw[kQ];exact⟨rfl,rfl⟩
def m_.ty(hc:CN c){a b}{va vb}(ha:db w Q a va)(hb:db w Q b vb)(hq:Q w.heap.size):
 db (w.alloc<|.cells #[va,vb] 87) Q (.aM c [a,b]) (.iface 165<|.agg #[.string<|pn c,.slice (some ⟨w.heap.size,0,none⟩) 2 2]):=by
 have⟨bl,bx⟩:=rq w #[va,vb] 87;refine db.aM c [a,b] (some ⟨w.heap.size,0,none⟩) 2 (λi=>if i=0 then va else vb) (ql hc) (qk ⟨w.heap.size,rfl,hq,bx.z,λi hi=>?_⟩) (λi hi=>?_)
 .have:=bx.c i;obtain _|_|i:=i
  .exact this
  .exact this
  .simp at hi;omega
 .obtain _|_|i:=i
  .exact ha.af bl
  .exact hb.af bl
  .simp at hi;omega
end
def aae(h:CN c):pn c≠sk:=by
 have e:sk.toList=[116,111,111,32,108,97,114,103,101]:=toList_mk _;obtain rfl|rfl|h:=h
 .rw[kP];intro q;have:=congrArg kh q;rw[e,toList_mk]at this;simp at this
 .rw[kQ];intro q;have:=congrArg kh q;rw[e,toList_mk]at this;simp at this
 .rw[fh h];intro q;subst q;exact da h 116 _ aB e
def ajo(L:List Ty)TC w gk(v s:Value)wr:=
 ∃(j:Nat),Hid (gk=L.length-j)/\j<=L.length/\v=Nv j/\s=.int .i64 ((1+rC (L.take j):Nat):Int)/\Bq w wr/\Bx wr w.heap.size TC
def Ap:∀(L:List Ty)(i:Nat)(h:i<L.length),rC (L.take<|i+1)=rC (L.take i)+sz L[i]
 |[],i,h=>vQ|t::l,0,_=>by simp[rC]|t::l,i+1,h=>by
  have:=Ap l i Hn;simp only[jh,rC,jk,this,Nat.add_assoc]
def wM:∀(L:List Ty)(i:Nat),rC (L.take i)<=rC L
 |[],i=>ag|t::l,0=>by simp[rC]|t::l,i+1=>by have:=wM l i;simp only[jh,rC];omega
section
variable {w:World}
def SzC t:=∀(w:World)(v:Value)(Q:Nat->Prop),db w Q t v->size t<=1000000000000->Cq 215 #[v] w λe w'=>e=.returned (Nv<|sz t)/\Bq w w'
def agU n:SzC (.var n):=by
 intro w v Q hv hz
 cases hv
 go_enter func215,ntmps215
 go_wp2
 go_ret;exact⟨by simp[sz],bw _⟩
def agV c L(IH:∀i(h:i<L.length),SzC L[i]):SzC (.aM c L):=by
 intro w v Q hv HZ
 cases hv with
 |aM c L sa sc vs hc aO hr=>
 by_cases ec:c=sk
 .subst ec;rw[aab];rw[sk];go_enter func215,ntmps215
  go_wp2
  go_ret;exact⟨by simp[sz,sk],bw _⟩
 .have cV:pn c≠sk:=by
   obtain h|h:=hc
   .exact aae h
   .exact absurd h ec
  have hd0:((pn c).toList==[116,111,111,32,108,97,114,103,101])=false:=by
   rw[<-Bool.not_eq_true,beq_iff_eq];intro q;exact cV<|toList_inj<|q.trans (toList_mk [116,111,111,32,108,97,114,103,101]).symm
  go_enter func215,ntmps215
  go_wp2
  go_loopg[5,21] L.length (λgk s v wr=>ajo L #[Sv<|pn c,Lv sa L.length sc] w gk v s wr)
  case atStart=>exact⟨0,ai ag,qr _,rfl,by simp[rC],bw _,Bx.new w _ _⟩
  case round=>
   obtain⟨j,dl,hj,rfl,rfl,BS,Uo⟩:=hrel;have hZ:=HZ;by_cases bm:j<L.length
   .have hd:(j:Int)<(L.length:Int):=ae;obtain⟨g1,rfl,hg,k9,bY⟩:∃g,sa=some ⟨g,0,none⟩/\Q g/\g<w.heap.size/\∀i,i<L.length->w.cell? ⟨g,i,none⟩=some (vs i):=by
     exact P6
    have cg:wr.cell? ⟨g1,j,none⟩=some (vs j):=by
     rw[qy (a:=⟨g1,j,none⟩) (w:=w)<|BS.block g1 k9];exact bY j bm
    have PJ:=(hr j bm).af BS;have⟨tv,xv,hv⟩:=PJ.iface;have hzj:=mL L j bm;simp only[size]at hZ;have hlen:=Fo L;have HC:=IH j bm wr (vs j) Q PJ ae;rw[hv]at cg HC;have hle:=wM L<|j+1;rw[Ap L j bm]at hle;have ajj:=Nq L;have hs0:((1+rC (L.take j):Nat):Int)=1+(rC (L.take j):Int):=ae;generalize hA:rC (L.take j)=A at*;generalize hB:sz L[j]=B at*;go_wp2_with fail;refine HC.mono ?_;rintro e w1⟨rfl,Uf⟩
    go_wp2
    go_roundg(L.length-(j+1))
    case measure=>rw[uh dl];omega
    case rel=>
     have z1:=BS.size;refine⟨j+1,ai rfl,ae,jP,?_,BS.trans<|Uf.mono z1,Uo.below Uf⟩;rw[Ap L j bm,hA,hB];go_num
   .have hd:decide ((j:Int)<(L.length:Int))=false:=bF;have ej:j=L.length:=ae;subst ej
    go_wp2
    go_ret;refine⟨?_,BS⟩;rw[jc];simp only[sz];rw[if_neg ec];rfl
def pR:∀t,SzC t
 |.var n=>agU n|.aM c L=>agV c L λi h=>pR L[i]
 termination_by t=>size t
 decreasing_by have:=mL L i h;simp only[size];omega
end
abbrev gN(w:World)e base v xs:=w.ownsRow base e 1 v xs.length xs
def gN.new(w:World)e C base(hb:base<=w.heap.size)(hl:C.length<=1000000000000)n(hn:n=C.length):gN (w.alloc<|.cells C.toArray e) e base (.slice (some ⟨w.heap.size,0,none⟩) n n) C:=by
 subst hn;exact⟨ag,.inr ⟨w.heap.size,C.length,C.toArray,rfl,hb,heap_alloc_new w _,br _,ZA,ag,ag⟩⟩
def Ka{w:World}{b'}{size}{v:Value}(h:w.ownsRow b' e size v n xs)(hb:base<=b'):w.ownsRow base e size v n xs:=by
 obtain⟨h1,h2⟩:=h;obtain h2|⟨g,cap,lZ,r1,r2,r3⟩:=h2
 .exact⟨h1,.inl h2⟩
 .exact⟨h1,.inr ⟨g,cap,lZ,r1,qm hb r2,r3⟩⟩
def xM{P}w base t ty e i z size bytes(ht:P.underlying t=some (.slice e))(hi:P.info? e=some i)(hz:i.zero=some z)(aaf:i.size=size)(hby:i.bytes=bytes)(hzs:z.cells.size=size)(gL:0<size)v n xs(fX:w.ownsRow base e size v n xs)a m c news(hl:news.length=m*size)(Ri:∀j u,news[j]? =some u->w.cell? (a.add j)=some u)(h1:∀u∈news,u.oneCell'=true)(h63:n+m<=maxLen)(OA:(n+m)*bytes<=140737488355328)(qU:base<=w.heap.size):
 ∃v' w',(Builtin.append_ #[t,t] ty #[v,.slice (some a) m c]).run P w=.ok v' w'/\w'.ownsRow base e size v' (n+m) (xs++news)/\w.grownBy w' v.ownBlock/\∀k,v'.ownBlock=some k->v.ownBlock=some k\/w.heap.size<=k:=by
 have afk:=fX;obtain⟨rfl,rfl⟩|⟨g,cap,lZ,rfl,hbg,hg,hnc,Mo,Mr,ajp⟩:=fX.2
 .have hx:=jj (by simpa using fX.1);subst hx;have⟨v',w',q1,q2,q3,_⟩:=run_append_own w w.heap.size t ty e i z size bytes ht hi hz aaf hby hzs gL (Lv none 0 0) 0 [] (xc w _ e size) a m c news hl Ri h1 h63 OA<|br _;exact⟨v',w',q1,Ka q2 qU,q3,λk hk=>qk (World.ownsRow.lt q2 k hk).1⟩
 .have⟨v',w',q1,q2,q3,_⟩:=run_append_own w base t ty e i z size bytes ht hi hz aaf hby hzs gL _ n xs afk a m c news hl Ri h1 h63 OA qU;refine⟨v',w',q1,q2,q3,?_⟩;subst aaf;by_cases afl:n+m<=cap
  .have alr:n*i.size+news.length<=lZ.size:=by rw[hl,Mr,<-Nat.add_mul];exact qu _ afl
   have hr:=run_append_room (P:=P) w t ty e i ht hi g n cap lZ hg a m c news hl Ri h1 afl alr;rw[hr]at q1;injection q1 with q1 _;subst q1;exact λk hk=>ql hk
  .have holds:=afk.cells (g:=g) rfl;have hr:=run_append_grow (P:=P) w t ty e i z ht hi hz ⟨g,0,none⟩ n cap xs fX.1 holds a m c news hl Ri ae (by rw[maxLen]at h63;omega) (growslice_fits ae (by rw[hby];exact OA));rw[hr]at q1;injection q1 with q1 _;subst q1;intro k hk;simp[xq]at hk;exact qk ae
def afm{T}(hT:Tryz.prog.underlying T=some (.slice e))(hI:(Tryz.prog.info? e).map (λi=>(i.zero,i.size,i.bytes))=some (some z,1,by_))(hzc:z.cells.size=1)(hby:by_<=16){w:World}{a}{Q}(hgd:o.guard=none)s x(ho:o.op=.call {callee:=.builtin .append,args:=#[s,x],argTypes:=#[T,T]}){b0}{v:Value}{news}(hs:a.eval s=v)(fX:gN w e base v xs)(hx:a.eval x=u)(hn:gN w e b0 u news)(h1:∀u∈news,u.oneCell'=true)(hz:xs.length+news.length<=1000000000000)(qU:base<=w.heap.size)(h:∀v' w',gN w' e base v' (xs++news)->w.grownBy w' v.ownBlock->(∀k,v'.ownBlock=some k->v.ownBlock=some k\/w.heap.size<=k)->wpList qw ops Q rest (a.put o.dst v') w'):wpList qw ops Q (o::rest) a w:=by
 have⟨i0,hi,oR,nu,iZ⟩:=info_parts hI;have CU:=hn;obtain⟨hl,hc⟩:=hn;obtain⟨rfl,h0⟩|⟨g,cap,lZ,rfl,hg,hh,r⟩:=hc
 .have e1:=jj h0;subst e1;refine wpList_append_own_none hgd s x T ho base e i0 1 hT hi v xs.length xs hs fX hx ?_;exact h v w (by simpa using fX) ⟨rfl,rfl,rfl,br _,λ_ _ _=>rfl⟩ (λk hk=>ql hk)
 .refine wpList_plain hgd λK hK=>?_;have⟨v',w',hr,h2,h3,h4⟩:=xM (P:=qw) w base T o.type e i0 _ 1 by_ hT hi oR nu iZ hzc aB v xs.length xs fX ⟨g,0,none⟩ news.length cap news ae (λj z e=>CU.cells rfl j z e) h1 ZA (by have:(xs.length+news.length)*by_<=1000000000000*16:=qt hz hby;omega) qU;rw[Oper.wp,execOp];simp only[ho,resolve,invoke,builtin,Sem.run_bind,Sem.run_pure,Result.andThen_ok,List.map_toArray,jd,jz,hs,hx,hr];exact hK _ _ (h v' w' (by rw[gN];rw[lM];exact h2) h3 h4)
def iw{w:World}{v:Value}(h:gN w e base v xs)(hn:0<xs.length):∃g cp m,v=.slice (some ⟨g,0,none⟩) m cp/\base<=g/\g<w.heap.size/\Hid (m=xs.length):=by
 have h':=h;obtain⟨h1,h2⟩:=h;obtain⟨rfl,q⟩|⟨g,cp,lZ,rfl,hg,hh,r⟩:=h2
 .omega
 .exact⟨g,cp,xs.length,rfl,hg,(World.ownsRow.lt h' g rfl).2,ai rfl⟩
def adw:(Tryz.prog.info? 152).map (λi=>(i.zero,i.size,i.bytes))=some (some<|Iv 0,1,8):=qkr
def Cx:Tryz.prog.underlying 351=some (.slice 152):=qkr
def mj{w:World}{c}(h:gN w e base (.slice (some ⟨g,0,none⟩) n c) xs)j(hj:j<xs.length):w.cell? ⟨g,j,none⟩=some xs[j]:=by
 have e1:=World.ownsRow.cells h (g:=g) rfl j xs[j] (ja hj);have e2:(⟨g,0,none⟩:Addr).add j=⟨g,j,none⟩:=by
  rw[Addr.add];split
  .grind
  .simp
 rwa[e2]at e1
def iK{w:World}{v:Value}(h:gN w e base v xs):∀k,v.ownBlock=some k->base<=k/\k<w.heap.size:=λk hk=>World.ownsRow.lt h k hk
def lF{w:World}{v:Value}(h:gN w e base v xs)(hb:∀k,v.ownBlock=some k->w'.heap[k]? =w.heap[k]?):gN w' e base v xs:=th h hb
def ot(l:List Nat):List Value:=l.map λ(n:Nat)=>Nv n
def VI mb mm lb base(acc:List Nat)B M w:=
 ∃(L:List (Int×Value))(v:Value),(B=λb=>b=mb)/\(M=λb=>b=mm\/b=lb\/v.ownBlock=some b)/\Bx w mb #[Mv mm]/\MS (λn:Int=>Iv n) w mm L/\(∀n:Nat,a_ (n:Int) L=if n∈acc then some (Nv<|acc.count n)else none)/\Bx w lb #[v]/\gN w 152 base v (ot<|acc.foldl v7 [])/\base<=w.heap.size
def OB acc(n m:Nat):(acc++[n]).count m=acc.count m+if n=m then 1 else 0:=xY
def yO w:(zeroValue 3).run qw w=.ok (Iv 0) w:=qkr
section
variable {w:World} {mm lb:Nat}
def Kc{w}{b}(h:Bx w b C)(hg:w.grownBy w' row)(hn:row≠some b):Bx w' b C:=h.same hg.size<|hg.block b h.z<|λe=>hn e.symm
def ajq mb mm lb base acc(B M:Nat->Prop)n w(e:Ending)w':=
 e=.returned (.iface 152<|Nv n)/\∃B' M',VI mb mm lb base (acc++[n]) B' M' w'/\(∀b,B' b->B b\/w.heap.size<=b)/\(∀b,M' b->M b\/w.heap.size<=b)/\Fr M w w'
def dc:∀(acc l:List Nat),(acc.foldl v7 l).length<=l.length+acc.length
 |[],l=>ag|a::acc,l=>by
  have:=dc acc<|v7 l a;have h2:(v7 l a).length<=l.length+1:=by rw[v7];split<;>simp
  simp only[qf,yE];omega
def gG(n:Nat):∀(acc l:List Nat),n∈acc.foldl v7 l↔n∈l\/n∈acc
 |[],l=>ag|a::acc,l=>by
  simp only[qf,gG n acc,sH,jp];constructor
  .rintro((h|h)|h)
   .exact ql h
   .exact qk (ql h)
   .exact qk (qk h)
  .rintro(h|h|h)
   .exact ql (ql h)
   .exact ql (qk h)
   .exact qk h
def U_ acc B M(n:Nat)(amC:acc.length<1000000000000)(h:VI mb mm lb base acc B M w)(hd:mb≠mm/\mb≠lb/\mm≠lb)(hb:mb<base/\mm<base/\lb<base):
 Calls qw 232 #[.int .i64 (n:Int),.pointer<|some ⟨mb,0,none⟩,.pointer<|some ⟨lb,0,none⟩] w (ajq mb mm lb base acc B M n w):=by
 obtain⟨L,v,rfl,rfl,wH,jA,U',HL,HO,b4⟩:=h;obtain⟨d1,d2,d3⟩:=hd;obtain⟨b1,b2,b3⟩:=hb;have als:acc.count n<=acc.length:=List.count_le_length;have hl:=jA.look (KL.num Tryz.underlying152) Tryz.underlying154 (yO w) (n:Int) trivial (λ_ _=>trivial) false;rw[U' n]at hl;have hl':(vd 154 (.map<|some mm) (.int .i64 (n:Int)) false).run qw w=.ok (.int .i64 (acc.count n:Int)) w:=by
  by_cases hm:n∈acc
  .rw[if_pos hm]at hl;simpa using hl
  .rw[if_neg hm]at hl;rw[List.count_eq_zero_of_not_mem hm];simpa using hl
 have HG:∀m:Nat,a_ (m:Int) (bG (n:Int) (.int .i64<|(acc.count n:Int)+1) L)=if m∈acc++[n]then some (.int .i64 ((acc++[n]).count m:Int))else none:=by
  intro m;rw[aN,OB];by_cases e:n=m
  .subst e;simp
  .have e':¬(n:Int)=(m:Int):=ae;rw[if_neg e',U' m];simp[e,ku e]
 have Kd:∀w',MS (λn:Int=>xw .i64 n) w' mm (bG (n:Int) (.int .i64<|(acc.count n:Int)+1) L)->(vd 154 (.map<|some mm) (.int .i64 (n:Int)) false).run qw w'=.ok (.int .i64<|(acc.count n:Int)+1) w':=by
  intro w' hM;have hl:=hM.look (KL.num Tryz.underlying152) Tryz.underlying154 (yO w') (n:Int) trivial (λ_ _=>trivial) false;rw[aN,if_pos rfl]at hl;simpa using hl
 have HV:=iK HO;have HM:=ai jA;have HB:=ai wH;have HH:=ai Kd;obtain⟨c,f,z⟩:=wH;by_cases hm:n∈acc
 .have Xz:=List.count_pos_iff.2 hm;have alt:((acc.count n:Int)+1==1)=false:=bF;go_enter func232,ntmps232;go_wp2_with(refine aV _ rfl _ _ _ _ (Or.inr rfl) (KL.num Tryz.underlying152) Tryz.underlying154 _ _ rfl HM (n:Int) (.int .i64<|(acc.count n:Int)+1) rfl rfl trivial (λ_ _=>trivial) ?_;intro w' H' O';have Kd:=uh HH w' H';obtain⟨c1,f1,z1⟩:=HB.one O' d1;have Db:=ai H';have O2:=ai O';clear H' O');go_ret;have O:=uh O2;refine⟨rfl,_,_,⟨_,v,rfl,rfl,⟨c1,f1,z1⟩,Db,HG,HL.one O d3.symm,?_,by rw[O.size];exact b4⟩,λb q=>Or.inl q,λb q=>Or.inl q,⟨O.os,O.tape,O.output,by rw[O.size];exact br _,λk _ hn=>O.block k<|λe=>hn<|Or.inl e⟩⟩;have es:(acc++[n]).foldl Un.seen []=acc.foldl Un.seen []:=by
   rw[ju];exact IK<|(gG n acc []).2<|qk hm
  rw[es];exact lF HO λk hk=>O.block k (λe=>by have:=HV k hk;omega)
 .have h0:=List.count_eq_zero_of_not_mem hm;rw[h0]at hl' HG HH als;have ES:(acc++[n]).foldl v7 []=acc.foldl v7 []++[n]:=by
   rw[ju];show v7 _ n=_;rw[v7,if_neg<|λq=>hm<|by simpa using(gG n acc []).1 q]
  have yP:(ot<|acc.foldl v7 []).length+[xw .i64 (n:Int)].length<=1000000000000:=by
   have hlen:=dc acc [];simp[ot]at hlen⊢;omega
  have agW:∀u∈[Value.int .i64 (n:Int)],u.oneCell'=true:=qAn;have HA:∀w',gN w' 152 base v (ot<|acc.foldl Un.seen [])->Hid (gN (w'.alloc<|.cells #[.int .i64 (n:Int)] 152) 152 base v<|ot<|acc.foldl Un.seen []):=λw' ho=>ai<|lF ho λk hk=>(MapKept.heap_alloc _ _).2 k (iK ho k hk).2;go_enter func232,ntmps232
  go_wp2_with(first
   |(refine aV _ rfl _ _ _ _ (qk rfl) (KL.num Tryz.underlying152) Tryz.underlying154 _ _ rfl HM (n:Int) (.int .i64 1) rfl rfl trivial (λ_ _=>trivial) ?_;intro w' H' O';have Kd:=uh HH w' H';obtain⟨c1,f1,z1⟩:=HB.one O' d1;obtain⟨cl,fl,zl⟩:=HL.one O' d3.symm;have OW:=ai (lF HO<|λk hk=>O'.block k (λe=>by have:=HV k hk;omega));have Db:=ai H';have O2:=ai O';have hz':w.heap.size<=w'.heap.size:=Nat.le_of_eq O'.size.symm;clear H' O')
   |(at_builtin;go_loud(refine afm Cx adw rfl aB rfl (.tmp 13) (.tmp 15) rfl rfl (uh<|HA w' OW) rfl (gN.new w' 152 [.int .i64 (n:Int)] 0 (qr _) ag 1 rfl) agW yP (qm b4<|qm hz' ag) ?_);intro v2 w2 o2 g2 k2;obtain⟨g3,cp3,m3,rfl,_,_,M3⟩:=iw o2 ag;obtain⟨c2,f2,z2⟩:=Kc (Bx.below (show Bx w' lb #[v]from⟨cl,fl,zl⟩)<|bw<|.cells #[.int .i64 (n:Int)] 152) g2 (λe=>by have:=HV lb e;omega);have OV:=ai o2;have GV:=ai g2;have KV:=ai k2;clear o2 g2 k2))
  go_ret;have O:=uh O2;have g:=uh GV;have o:=uh OV;have bl:Below w'.heap.size w' (w'.alloc<|.cells #[.int .i64 (n:Int)] 152):=bw _;have hzz:=g.size;have nu:=bl.size;have hv:=HV;have hold:∀k,k<w.heap.size->k≠mm->k≠lb->v.ownBlock≠some k->(w2.setCell ⟨lb,0,none⟩<|.slice (some ⟨g3,0,none⟩) m3 cp3).heap[k]? =w.heap[k]? :=λk h1 h2 h3 h4=>by
   rw[xm _ _ _ _ (by show k≠lb;exact h3),g.block k ae<|λe=>h4 e.symm,bl.block k ae,O.block k h2]
  have hss:(w2.setCell ⟨lb,0,none⟩<|.slice (some ⟨g3,0,none⟩) m3 cp3).heap.size=w2.heap.size:=Dd;have alu:∀k,k<w.heap.size->k≠lb->v.ownBlock≠some k->(w2.setCell ⟨lb,0,none⟩<|.slice (some ⟨g3,0,none⟩) m3 cp3).heap[k]? =w'.heap[k]? :=λk h1 h3 h4=>by
   rw[xm _ _ _ _ (by show k≠lb;exact h3),g.block k ae<|λe=>h4 e.symm,bl.block k ae]
  have nb:∀k,k<base->v.ownBlock≠some k:=λk h e=>by have:=hv k e;omega
  have ho2:=iK o;refine⟨rfl,_,_,⟨_,.slice (some ⟨g3,0,none⟩) m3 cp3,rfl,rfl,?_,?_,HG,?_,?_,ae⟩,λb q=>ql q,λb q=>?_,⟨?_,?_,?_,ae,λk hk hn=>hold k hk (λe=>hn<|ql e) (λe=>hn<|qk<|ql e)<|λe=>hn<|qk<|qk e⟩⟩
  .exact HB.same ae (hold mb z d1 d2<|nb mb b1)
  .exact Db.same (alu mm ae d3<|nb mm b2)
  .exact Bx.aR (C:=#[v]) ⟨c2,f2,z2⟩ 0 _ _ rfl ag
  .rw[ES];have e:ot (acc.foldl v7 []++[n])=ot (acc.foldl v7 [])++[.int .i64 (n:Int)]:=by simp[ot]
   rw[e];exact lF o λk hk=>xm _ _ _ _ (by show k≠lb;intro e;have:=(ho2 k hk).1;omega)
  .obtain q|q|q:=q
   .exact ql (ql q)
   .exact ql (qk<|ql q)
   .have:=(ho2 b q).1;by_cases hbw:b<w.heap.size
    .obtain r|r:=uh KV b q
     .exact ql (qk<|qk r)
     .exact absurd r bF
    .exact qk ae
  .exact g.os.trans O.os
  .exact g.tape.trans O.tape
  .exact g.output.trans O.output
def adx acc B M w w'(h:VI mb mm lb base acc B M w)(hz:w.heap.size<=w'.heap.size)(hb:∀b,B b\/M b->w'.heap[b]? =w.heap[b]?):VI mb mm lb base acc B M w':=by
 obtain⟨L,v,rfl,rfl,wH,jA,U',hlb,fX,b4⟩:=h;exact⟨L,v,rfl,rfl,wH.same hz<|hb mb<|ql rfl,jA.same<|hb mm<|qk<|ql rfl,U',hlb.same hz<|hb lb<|qk<|qk<|ql rfl,lF fX λk hk=>hb k<|qk<|qk<|qk hk,qm b4 hz⟩
def ajr acc B M w(h:VI mb mm lb base acc B M w):∀b,B b\/M b->b<w.heap.size:=by
 obtain⟨L,v,rfl,rfl,wH,jA,U',hlb,fX,b4⟩:=h;rintro b(rfl|rfl|rfl|q)
 .exact wH.z
 .exact jA.lt
 .exact hlb.z
 .exact(iK fX b q).2
def aag(hd:mb≠mm/\mb≠lb/\mm≠lb)(hb:mb<base/\mm<base/\lb<base):Img 232 #[] #[Pv mb,Pv lb] Ty.var (λacc _=>acc.length<1000000000000) (VI mb mm lb base) where
 eg:=enters_of Tryz.func232 qkr rfl
 om:=adx
 lt:=ajr
 call acc B M w n h hN:=(U_ acc B M n hN h hd hb).mono λe w'⟨h1,B',M',h2,h3,h4,h5⟩=>⟨_,B',M',h1,.var n,h2,h3,h4,h5⟩
end
mutual
def dd:∀t:Ty,(occs t).length<=size t
 |.var n=>by simp[occs,size]|.aM c l=>by have:=Dp l;simp only[occs,size];omega
def Dp:∀l:List Ty,(gF l).length<=ak l
 |[]=>by simp[gF,ak]|t::l=>by have:=dd t;have:=Dp l;simp only[gF,ak,lM];omega
end
def Va t w(e:Ending)w':=∃v,e=.returned v/\gN w' 152 w.heap.size v (ot<|vars [] t)/\Bq w w'
def fN{w:World}{v:Value}(h:db w Q t v)(hz:size t<=1000000000000):Cq 220 #[v] w (Va t w):=by
 obtain⟨ta,xa,rfl⟩:=h.iface;have bl:Bq w (((w.alloc<|Cv #[Lv none 0 0] 351).alloc<|.map #[] 0).alloc<|Cv #[Mv<|w.heap.size+1] 154):=((bw _).alloc ag _).alloc bF _;have hI:VI (w.heap.size+2) (w.heap.size+1) w.heap.size (w.heap.size+3) [] (λb=>b=w.heap.size+2) (λb=>b=w.heap.size+1\/b=w.heap.size\/(Lv none 0 0).ownBlock=some b) (((w.alloc<|Cv #[Lv none 0 0] 351).alloc<|.map #[] 0).alloc<|Cv #[Mv<|w.heap.size+1] 154):=by
  refine⟨[],Lv none 0 0,rfl,rfl,?_,?_,λn=>by simp[a_],?_,xc _ _ _ _,ag⟩
  .have:=Bx.new ((w.alloc<|Cv #[Lv none 0 0] 351).alloc<|.map #[] 0) #[Mv<|w.heap.size+1] 154;simpa using this
  .have:=(MS.new (λn:Int=>Iv n)<|w.alloc<|Cv #[Lv none 0 0] 351).below<|bw<|Cv #[Mv<|w.heap.size+1] 154;simpa using this
  .exact((Bx.new w #[Lv none 0 0] 351).below<|bw _).below (bw _)
 have HC:=Ao (aag (mb:=w.heap.size+2) (mm:=w.heap.size+1) (lb:=w.heap.size) (base:=w.heap.size+3) ae ae) t [] _ _ _ _ (λb=>Q b/\b<w.heap.size) hI (λi hi=>by have:=dd t;simp;omega) hz (h.low.af bl) (λb q _ r=>by obtain r|r|r:=r;omega;omega;cases r);have HB:=ai bl;have jA:= @run_makeMap Tryz.prog;go_enter func220,ntmps220;go_wp2_with fail;refine HC.mono ?_;rintro e w1⟨u,B',M',rfl,hU,⟨L,v,rfl,rfl,wH,jA,U',hlb,HO,b4⟩,hB,hM,F⟩;have z1:=F.size;have HF:=ai F;obtain⟨c2,f2,z2⟩:=hlb
 go_wp2
 go_ret;refine⟨v,rfl,?_,?_⟩
 .have e:List.foldl v7 [] ([]++occs t)=vars [] t:=by rw[cC];rfl
  rw[<-e];exact Ka HO ae
 .have F:=uh HF;have b:=uh HB;exact⟨F.os.trans b.os,F.tape.trans b.tape,F.output.trans b.output,qm b.size F.size,λi hi=>(F.block i (qn hi b.size) (λq=>by obtain q|q|q:=q;omega;omega;cases q)).trans (b.block i hi)⟩
def Vb:(Tryz.prog.info? 87).map (λi=>(i.zero,i.size,i.bytes))=some (some .nilIface,1,16):=qkr
def Fu(l:List Nat):List Value:=l.map λ(n:Nat)=>xt 152<|Nv n
def agX l w1 V gk v wr:=
 ∃(j:Nat)(u:Value),Hid (gk=l.length-j)/\j<=l.length/\v=Nv j/\Bq w1 wr/\w1.heap.size+1<=wr.heap.size/\Bx wr w1.heap.size #[.string ⟨#[116,111,111,32,108,97,114,103,101]⟩,u]/\gN wr 152 (w1.heap.size+1) V (ot l)/\gN wr 87 (w1.heap.size+1) u (Fu<|l.take j)/\Hid (∀k,u.ownBlock=some k->V.ownBlock≠some k)
def dO{w:World}{v:Value}(h:gN w e base v xs)(hn:xs.length=n):∃va vc,v=.slice va n vc:=by
 subst hn;obtain⟨h1,h2⟩:=h;obtain⟨rfl,q⟩|⟨g,cp,lZ,rfl,_⟩:=h2
 .exact⟨none,0,by rw[q]⟩
 .exact⟨_,_,rfl⟩
def aah(l:List Nat)j(h:j<l.length):Fu (l.take<|j+1)=Fu (l.take j)++[xt 152<|Nv<|l[j]]:=by
 rw[Fu];rw[jf h,j9];rfl
section
variable {w:World}
def agY{l}{b}{wr}(h:gN wr 87 b u (Fu l))(hl:l≠[])(hP:∀k,b<=k->P k):∃sa sc,u=.slice sa l.length sc/\db wr P (.aM sk<|l.map Ty.var) (.iface 165<|.agg #[.string sk,u]):=by
 have hln:0<(Fu l).length:=by simp[Fu];exact qv<|λe=>hl<|jj e
 obtain⟨g,cp,m,rfl,hg,k9,hm⟩:=iw h hln;have hm:=uh hm;simp only[Fu,qe]at hm;subst hm;refine⟨_,_,rfl,?_⟩;have:=db.aM (w:=wr) (P:=P) sk (l.map Ty.var) (some ⟨g,0,none⟩) cp (λi=>(Fu l).getD i Zv) (qk rfl) (qk ⟨g,rfl,hP g hg,k9,λi hi=>?_⟩)<|λi hi=>?_
 .rw[aab,qe]at this;exact this
 .have Ag:i<(Fu l).length:=by simpa[Fu]using hi
  rw[mj h i Ag,jv,ja Ag];rfl
 .have Ag:i<(Fu l).length:=by simpa[Fu]using hi
  rw[jv,ja Ag];simp only[Fu,List.getElem_map,Option.getD_some];exact .var _
def Rj t(Q:Nat->Prop)w(e:Ending)w':=∃u,e=.returned u/\db w' (λb=>Q b\/w.heap.size<=b) (bL t) u/\Bq w w'
def Sl{p:Prop}(h:p:=by
 rw[cC];have:=dc (occs t) [];have:=dd t;simp at*
 omega):p:=h
def aai{v:Value}(h:db w Q t v)(hz:size t<=1000000000000):Calls qw 225 #[v] w (Rj t Q w):=by
 obtain⟨ta,xa,rfl⟩:=h.iface;have HS:=pR t w _ Q h ae;have hsl:=aeX t;have HT:=ai h;clear h;by_cases hs:sz t<=48
 .have hd:(sz t:Int)<=48:=ae;go_enter func225,ntmps225;go_wp2_with fail;refine HS.mono ?_;rintro e w1⟨rfl,HB⟩;clear HS
  go_wp2
  go_ret;unfold Rj bL;rw[if_pos hs];exact⟨_,rfl,((uh HT).af HB).wide λb q=>ql q,HB⟩
 .have hd:¬(sz t:Int)<=48:=ae;have HV:=λ(W:World)(hb:Below w.heap.size w W)=>fN ((uh HT).af hb) hz;go_enter func225,ntmps225;go_wp2_with fail;refine HS.mono ?_;rintro e w1⟨rfl,b1⟩;have HB:=ai b1;have z1:=b1.size;clear b1 HS;have HC:=HV (w1.alloc<|.cells #[.string ⟨#[116,111,111,32,108,97,114,103,101]⟩,.slice none 0 0] 165)<|HB.alloc ae _;clear HV;go_wp2_with fail;refine HC.mono ?_;rintro e w2⟨V,rfl,HO,b2⟩;have yP:(vars [] t).length<=1000000000000:=by
   exact Sl
  generalize Cu:vars [] t=l at*;clear HC;obtain⟨va,vc,rfl⟩:=dO HO (n:=l.length) (by simp[ot]);have eG:=ai b2;clear b2
  go_wp2
  go_loopg[14] l.length (λgk v wr=>agX l w1 (.slice va l.length vc) gk v wr)
  case atStart=>
   have b2:=uh eG;have b1:Below w1.heap.size w1 (w1.alloc<|.cells #[.string ⟨#[116,111,111,32,108,97,114,103,101]⟩,.slice none 0 0] 165):=bw _;have iZ:=b2.size;have hz3:(w1.alloc<|.cells #[.string ⟨#[116,111,111,32,108,97,114,103,101]⟩,.slice none 0 0] 165).heap.size=w1.heap.size+1:=ag;rw[hz3]at iZ;exact⟨0,.slice none 0 0,ai ag,qr _,rfl,b1.trans<|b2.mono b1.size,iZ,(Bx.new w1 _ _).below b2,by simpa using HO,xc _ _ _ _,ai<|λk hk=>by cases hk⟩
  case round=>
   obtain⟨j,u,dl,hj,rfl,F1,zz,T1,O1,O2,hdj⟩:=hrel;by_cases bm:j<l.length
   .have hd:(j:Int)<(l.length:Int):=ae;have hjv:j<(ot l).length:=by simpa[ot]using bm
    obtain⟨gv,cpv,mv,hv,hgv,k9,_⟩:=iw O1 ae;injection hv with M6 Ui hv3;subst M6;have cg:=mj O1 j hjv;rw[show(ot l)[j]=xw .i64 (l[j]:Int) by simp[ot]]at cg;obtain⟨sa,sc,rfl⟩:=dO O2 (n:=j) (by simp[Fu];omega);generalize hx:l[j]=x at*;have BS:=ai F1;have O1':=ai O1;have O2':=ai O2;have Uo:=ai T1;have agW:∀u∈[xt 152<|.int .i64 (x:Int)],u.oneCell'=true:=qAn;have hlen:(Fu<|l.take j).length+[xt 152<|.int .i64 (x:Int)].length<=1000000000000:=by simp[Fu];omega
    have HA:Hid (gN (wr.alloc<|.cells #[.iface 152<|.int .i64 (x:Int)] 87) 87 (w1.heap.size+1) (.slice sa j sc)<|Fu<|l.take j):=ai<|lF O2 λk hk=>(vh _ _).2 k (iK O2 k hk).2;obtain⟨tc,tf,tz⟩:=T1;clear F1 O1 O2 Ui hv3;go_wp2_with(at_builtin;go_loud(refine afm eK Vb rfl aB rfl (.tmp 19) (.tmp 22) rfl rfl HA rfl (gN.new wr 87 [.iface 152<|.int .i64 (x:Int)] 0 (qr _) ag 1 rfl) agW hlen (qm zz ag) ?_);intro v2 w3 o2 g2 k2;obtain⟨g3,cp3,m3,rfl,_,_,M3⟩:=iw o2 ag;obtain⟨c2,f2,z2⟩:=Kc (Bx.below Uo<|bw<|.cells #[.iface 152<|.int .i64 (x:Int)] 87) g2 (λe=>by have:=(iK O2' _ e).1;omega);have OV:=ai o2;have GV:=ai g2;have KV:=ai k2;clear o2 g2 k2);go_roundg(l.length-(j+1))
    case measure=>rw[uh dl];omega
    case rel=>
     have g:=uh GV;have o:=uh OV;have f1:=uh BS;have o1:=uh O1';have ho2:=iK o;have bl:Below wr.heap.size wr (wr.alloc<|.cells #[.iface 152<|.int .i64 (x:Int)] 87):=bw _;have nu:=bl.size;have hzz:=g.size;have hss:(w3.setCell ⟨w1.heap.size,1,none⟩<|.slice (some ⟨g3,0,none⟩) m3 cp3).heap.size=w3.heap.size:=Dd;have fX:∀k,(xy sa j sc).ownBlock=some k->w1.heap.size+1<=k:=λk hk=>(iK (uh O2') k hk).1;have hold:∀k,k<wr.heap.size->k≠w1.heap.size->(xy sa j sc).ownBlock≠some k->(w3.setCell ⟨w1.heap.size,1,none⟩<|.slice (some ⟨g3,0,none⟩) m3 cp3).heap[k]? =wr.heap[k]? :=λk h1 h3 h4=>by
      rw[xm _ _ _ _ (by show k≠w1.heap.size;exact h3),g.block k ae<|λe=>h4 e.symm,bl.block k ae]
     refine⟨j+1,.slice (some ⟨g3,0,none⟩) m3 cp3,ai rfl,ae,jP,⟨?_,?_,?_,?_,λk hk=>?_⟩,ae,?_,?_,?_,ai<|λk hk UD=>?_⟩
     .exact g.os.trans f1.os
     .exact g.tape.trans f1.tape
     .exact g.output.trans f1.output
     .have:=f1.size;omega
     .have:=f1.size;exact(hold k ae ae (λe=>by have:=fX k e;omega)).trans (f1.block k hk)
     .exact Bx.aR (C:=#[.string ⟨#[116,111,111,32,108,97,114,103,101]⟩,.slice sa j sc]) ⟨c2,f2,z2⟩ 1 _ _ rfl ag
     .exact lF o1 λk hk=>hold k (iK o1 k hk).2 (λe=>by have:=(iK o1 k hk).1;omega)<|λe=>uh hdj k e hk
     .rw[aah l j bm,hx];exact lF o λk hk=>xm _ _ _ _ (by show k≠w1.heap.size;intro e;have:=(ho2 k hk).1;omega)
     .obtain r|r:=uh KV k hk
      .exact uh hdj k r UD
      .have:=(iK o1 k UD).2;omega
   .have hd:decide ((j:Int)<(l.length:Int))=false:=bF;have ej:j=l.length:=ae;subst ej;obtain⟨tc,tf,tz⟩:=T1;have O2':=ai O2;have BS:=ai F1;clear O1 O2 F1
    go_wp2
    go_ret;have f1:=uh BS;have o2:=uh O2';rw[jc]at o2;refine⟨_,rfl,?_,HB.trans<|f1.mono z1⟩;have hc:bL t=.aM sk (l.map Ty.var):=by unfold bL;rw[if_neg hs,Cu]
    rw[hc];by_cases hl:l=[]
    .subst hl;obtain⟨q1,q2⟩:=o2;obtain⟨sa,sc,rfl⟩:=dO (uh O2') (n:=0) (by simp[Fu]);have:=db.aM (w:=wr) (P:=λb=>Q b\/w.heap.size<=b) sk [] sa sc (λ_=>.nilIface) (qk rfl) (ql rfl) (λi hi=>by simp at hi);rw[aab]at this;exact this
    .obtain⟨_,_,_,h⟩:=agY o2 hl (P:=λb=>Q b\/w.heap.size<=b)<|λk hk=>qk ae;exact h
end
end
section
open Go.ChangeMaps Go.MapKept
section
variable {enc:κ->Value}
def MG(enc:κ->Value)(w:World)(b:Nat)(L:List (κ×Value)):=∃es clock,w.heap[b]? =some (.map es clock)/\es.toList.map (λe=>(e.key,e.val))=L.map (λp=>(enc p.1,p.2))/\(es.toList.map (·.born)).Nodup/\(∀e∈es.toList,e.born<clock)/\(L.map (·.1)).Nodup
variable {w:World} {b:Nat} {L:List (κ×Value)} {P:Program} {t:TypeId}
def MG.ms(h:MG enc w b L):MS enc w b L:=by grind[MG,MS]
def MG.same(h:MG enc w b L)(hb:w'.heap[b]? =w.heap[b]?):MG enc w' b L:=by grind[MG]
def MG.new(enc:κ->Value)(w:World):MG enc (w.alloc<|.map #[] 0) w.heap.size []:=⟨#[],0,(vh w _).1,rfl,ag,ag,ag⟩
def MG.nodup(h:MG enc w b L):(L.map (·.1)).Nodup:=by grind[MG]
def ajs{es:List MapEntry}(h:es.map (λe=>(e.key,e.val))=L.map (λp=>(enc p.1,p.2))):es.map (·.key)=(L.map (·.1)).map enc:=by
 have:=congrArg (List.map Prod.fst) h;simpa[List.map_map,Function.comp_def]using this
def IG(enc:κ->Value)(w:World)(r gb:Nat)(L:List (κ×Value))(done:List κ)cnt:=∃(es:Array MapEntry)(clock since:Nat)(seen:Array Nat)(c0:Nat),w.heap[gb]? =some (.map es clock)/\es.toList.map (λe=>(e.key,e.val))=L.map (λp=>(enc p.1,p.2))/\(es.toList.map (·.born)).Nodup/\(∀e∈es.toList,e.born<since)/\since<=c0/\since<=clock/\w.heap[r]? =some (.mapIter (some gb) since seen c0)/\(L.map (·.1)).Nodup/\(leftOf es seen).size=cnt/\∀e∈es.toList,∀x,e.key=enc x->(seen.contains e.born=true↔x∈done)
def IG.same{cnt}{done}(h:IG enc w r gb L done cnt)(h1:w'.heap[gb]? =w.heap[gb]?)(h2:w'.heap[r]? =w.heap[r]?):IG enc w' r gb L done cnt:=by
 obtain⟨es,clock,since,seen,c0,a1,a2,a3,a4,a5,a6,a7,a8⟩:=h;exact⟨es,clock,since,seen,c0,h1.trans a1,a2,a3,a4,a5,a6,h2.trans a7,a8⟩
def IG.lt{r gb cnt:Nat}{done}(h:IG enc w r gb L done cnt):gb<w.heap.size/\r<w.heap.size/\gb≠r:=by grind[cnt,IG]
def MG.range(h:MG enc w b L)(ht:P.underlying t=some (.map k e)):∃o cnt,(Instr.range t<|Mv b).run P w=.ok (Pv w.heap.size) (w.alloc o)/\IG enc (w.alloc o) w.heap.size b L [] cnt:=by
 obtain⟨es,clock,a1,a2,a3,a4,a5⟩:=h;have bA:=(Array.getElem?_eq_some_iff.1 a1).1;refine⟨_,_,run_range_map w t _ _ b es clock ht a1,es,clock,clock,#[],clock,((vh w _).2 _ bA).trans a1,a2,a3,a4,br _,br _,heap_alloc_new w _,a5,rfl,λe he x hx=>ag⟩
def MG.one{c}(h:MG enc w b L)(o:One c w w')(hn:b≠c):MG enc w' b L:=h.same<|o.block b hn
end
section
variable [DecidableEq κ] {enc:κ->Value}
variable {w:World} {b:Nat} {L:List (κ×Value)} {P:Program} {t:TypeId}
def MG.lt(h:MG enc w b L):b<w.heap.size:=h.ms.lt
def MG.af(h:MG enc w b L)(hb:Bq w w'):MG enc w' b L:=h.same<|hb.block b h.lt
def MG.fr{S}(h:MG enc w b L)(hf:Fr S w w')(hn:¬S b):MG enc w' b L:=h.same<|hf.block b h.lt hn
def tK(l:List MapEntry)j f(hf:∀e,(f e).born=e.born):(l.modify j f).map (·.born)=l.map (·.born):=by
 induction l generalizing j with
 |nil=>cases j<;>simp|cons e r ih=>grind
def Kg{x y:κ}{v:Value}:∀{L:List (κ×Value)},y∈(bG x v L).map (·.1)->y=x\/y∈L.map (·.1)
 |[],h=>by simpa[bG]using h|p::l,h=>by
  rw[bG]at h;split at h
  .rename_i e;simp only[jd,jp]at h⊢;obtain h|h:=h
   .exact ql h
   .exact qk (qk h)
  .simp only[jd,jp]at h⊢;obtain h|h:=h
   .exact qk (ql h)
   .obtain q|q:=Kg h
    .exact ql q
    .exact qk (qk q)
def rW{x:κ}{v:Value}:∀{L:List (κ×Value)},(L.map (·.1)).Nodup->((bG x v L).map (·.1)).Nodup
 |[],_=>by simp[bG]|p::l,h=>by
  simp only[jd,jl]at h;rw[bG];split
  .rename_i e;simp only[jd,jl];rw[<-e];exact h
  .rename_i e;simp only[jd,jl];refine⟨λq=>?_,rW h.2⟩;obtain r|r:=Kg q
   .exact e r
   .exact h.1 r
def MG.put(K:KL P k enc (λ_ _=>True))(h:MG enc w b L)(ht:P.underlying t=some (.map k e))x v:∃o,(vf t (Mv b) (enc x) v).run P w=.ok () (setBlock w b o)/\MG enc (setBlock w b o) b (bG x v L):=by
 obtain⟨es,clock,hb,np,hn,hk,hd⟩:=h;have hf:=K.fin x L es.toList w trivial (λ_ _=>trivial) np;rw[vf];simp only[Sem.run_bind,run_underlying ht,kg,vw hb,K.chk,hf]
 cases ym:yl x L 0 with
 |none=>
  refine⟨.map (es.push {key:=enc x,val:=v,born:=clock})<|clock+1,by rw[ym]at hf;simp[hf,kg];exact vo _ hb,_,_,(heap_setBlock_same hb _),?_,?_,?_,rW hd⟩
  .rw[oN x v L<|oO x L 0 ym];simp[np]
  .simp only[Array.toList_push,j9,jd,jz];rw[j7];refine⟨hn,ag,?_⟩;intro a ha c hc;obtain⟨e,he,rfl⟩:=List.mem_map.1 ha;simp only[j5]at hc;have:=hk e he;omega
  .grind
 |some p=>
  obtain⟨j,u⟩:=p;have⟨_,e0,h2,h3,h4⟩:=EP (enc:=enc) x v L es.toList 0 j u np ym;have Mz:es[j]? =some e0:=by simpa using h2
  refine⟨.map (es.modify j λe=>{e with key:=enc x,val:=v}) clock,?_,_,_,(heap_setBlock_same hb _),by simpa using h4,?_,?_,rW hd⟩
  .rw[ym]at hf;simp[hf,kg,Mz,h3,Instr.keyThatStays,K.bit];exact vo _ hb
  .rw[xk,tK es.toList j (λe=>{e with key:=enc x,val:=v}) (λ_=>rfl)];exact hn
  .intro e he;have:e.born∈(es.modify j λe=>{e with key:=enc x,val:=v}).toList.map (·.born):=jm he;rw[xk,tK es.toList j (λe=>{e with key:=enc x,val:=v}) (λ_=>rfl)]at this;have⟨e',h1,h2⟩:=List.mem_map.1 this;rw[<-h2];exact hk e' h1
def cu(K:KL P k enc (λ_ _=>True))(ht:P.underlying t=some (.map k e)){a}{Q}(hg:o.guard=none)m x v(EB:o.op=kw t m x v\/o.op=kv t m x v)(hm:a.eval m=Mv b)(hM:MG enc w b L)key val(hx:a.eval x=enc key)(hv:a.eval v=val)(hK:∀w',MG enc w' b (bG key val L)->One b w w'->wpList P ops Q rest (a.put o.dst undef) w'):
 wpList P ops Q (o::rest) a w:=by
 refine wpList_plain hg λK' hK'=>?_;have⟨ob,lR,r1⟩:=hM.put K ht key val;rw[Oper.wp];obtain EB|EB:=EB<;>
 .simp[execOp,EB,hm,hx,hv,lR,kg];exact hK' _ _<|hK _ r1<|One.set w b ob
def tM{x:κ}:∀{L:List (κ×Value)},(a_ x L).isSome=true↔x∈L.map (·.1)
 |[]=>by simp[a_]|p::l=>by
  rw[a_];split
  .rename_i e;simp[e]
  .rename_i e;rw[tM (L:=l)];simp only[jd,jp];exact⟨qk,λq=>q.elim (λq=>absurd q.symm e) id⟩
def Rk{x:κ}{v:Value}:∀{L:List (κ×Value)},(L.map (·.1)).Nodup->(x,v)∈L->a_ x L=some v
 |[],_,h=>vQ|p::l,hn,h=>by
  simp only[jd,jl]at hn;rw[a_];obtain rfl|h:=List.mem_cons.1 h
  .simp
  .have:p.1≠x:=λe=>hn.1 (by rw[e];exact jm (f:=(·.1)) h);rw[if_neg this];exact Rk hn.2 h
def pY{x:κ}{v:Value}:∀{L:List (κ×Value)},a_ x L=some v->(x,v)∈L
 |[],h=>qBg|p::l,h=>by
  rw[a_]at h;split at h
  .rename_i e;simp only[Option.some.injEq]at h;subst e h;simp
  .exact ji _ (pY h)
def ajt enc P w r gb L(done:List κ)(cnt:Nat):=((∀x v,a_ x L=some v->x∈done)/\(vg (Pv r) false 0).run P w=.ok (.tuple #[.bool false]) w)\/
    ∃x v w1 aD,x∉done/\a_ x L=some v/\(vg (Pv r) false 0).run P w=.ok (.tuple #[.bool true,enc x,v]) w1/\IG enc w1 r gb L (x::done) aD/\aD<cnt/\Fr (λb=>b=r) w w1/\w1.heap.size=w.heap.size/\(Instr.entry<|Pv r).run P w1=.ok (.tuple #[enc x,v]) w1
def IG.next(alv:∀x y,enc x=enc y->x=y){cnt}{done}(h:IG enc w r gb L done cnt):ajt enc P w r gb L done cnt:=by
 have⟨hg1,hr1,cV⟩:=h.lt;obtain⟨es,clock,since,seen,c0,a1,a2,a3,a4,a5,a6,a7,a8,a10,a11⟩:=h;have aaj:=ajs a2;rcases run_next_at (P:=P) w 0 r gb since c0 seen es clock a7 a1 a4 a5 with⟨h0,lR⟩|⟨e,he,w1,yd,lR⟩
 .left;refine⟨λx v hx=>?_,lR⟩;have rj:=tM.1 (by rw[hx];rfl);have:enc x∈es.toList.map (·.key):=xY;have⟨e,he,hk⟩:=List.mem_map.1 this;exact(a11 e he x hk).1 (all_seen es seen h0 e he)
 .right;have⟨W8,he2⟩:=mem_left he;obtain⟨x,hx,hxL⟩:∃x,e.key=enc x/\(x,e.val)∈L:=by
   have:(e.key,e.val)∈es.toList.map (λe=>(e.key,e.val)):=jm (f:=λe:MapEntry=>(e.key,e.val)) W8;rw[a2]at this;have⟨p,hp,q⟩:=List.mem_map.1 this;obtain⟨px,pv⟩:=p;simp only[Prod.mk.injEq]at q;exact⟨px,q.1.symm,by rw[<-q.2];exact hp⟩
  have Bw:x∉done:=λq=>by
   have:=(a11 e W8 x hx).2 q;rw[he2]at this;cases this
  have OC:w1.heap=w.heap:=by obtain rfl|rfl:=yd<;>rfl
  have b1:∀k,k≠r->(setBlock w1 r<|.mapIter (some gb) since (seen.push e.born) clock).heap[k]? =w.heap[k]? :=λk hk=>by
   have:(setBlock w1 r<|.mapIter (some gb) since (seen.push e.born) clock).heap[k]? =w1.heap[k]? :=by simp[setBlock,xi,ku hk]
   rw[this,OC]
  have b2:(setBlock w1 r<|.mapIter (some gb) since (seen.push e.born) clock).heap[r]? =some (.mapIter (some gb) since (seen.push e.born) clock):=by
   have yf:r<w1.heap.size:=by rw[OC];exact hr1
   simp[setBlock,xi,yf]
  have gL:(setBlock w1 r<|.mapIter (some gb) since (seen.push e.born) clock).heap.size=w.heap.size:=by simp[setBlock,OC]
  have hnk:(es.toList.map (·.key)).Nodup:=xY;refine⟨x,e.val,_,_,Bw,Rk a8 hxL,by rw[lR,hx],⟨es,clock,since,seen.push e.born,clock,(b1 gb cV).trans a1,a2,a3,a4,a6,a6,b2,a8,rfl,λe' he' y hy=>?_⟩,by rw[<-a10];exact left_shrinks es seen e he,⟨by obtain rfl|rfl:=yd<;>rfl,by obtain rfl|rfl:=yd<;>rfl,by obtain rfl|rfl:=yd<;>rfl,by rw[gL];exact br _,λk _ hk=>b1 k hk⟩,gL,?_⟩
  .rw[contains_push];simp only[Bool.or_eq_true,beq_iff_eq,jp];constructor
   .rintro(q|q)
    .grind
    .have:e'=e:=born_inj a3 he' W8 q;rw[this,hx]at hy;exact ql (alv _ _ hy).symm
   .rintro(q|q)
    .right;have:e'=e:=by
      have hk:e'.key=e.key:=by rw[hy,hx,q]
      exact entry_eq_of_key (by rw[qi,j6]at hnk;exact hnk) he' W8 hk
     rw[this]
    .grind
  .have:=run_entry_at (P:=P) (setBlock w1 r<|.mapIter (some gb) since (seen.push e.born) clock) r gb since seen es clock e b2 ((b1 gb cV).trans a1) W8 a3;rw[hx]at this;exact this
end
end
section
open Go.ChangeMaps Go.MapKept Un
abbrev qB:Int->Value:=λn=>Iv n
def Kh:∀x y,qB x=qB y->x=y:=λx y h=>by injection h
abbrev KLV:KL qw 152 qB (λ_ _=>True):=KL.num Tryz.underlying152
def fG w P b(D:Nat->Option Ty):=
 ∃L,MG qB w b L/\(∀n:Nat,a_ (n:Int) L=none->D n=none)/\(∀(n:Nat)u,a_ (n:Int) L=some u->∃t,D n=some t/\db w P t u)/\∀x u,a_ x L=some u->∃n:Nat,x=(n:Int)
def Ef(D:Nat->Option Ty)n:=(D n).getD<|.var n
section
variable {w:World} {b:Nat}
theorem fG.move(h:fG w P b D)(hs:w.heap.size<=w'.heap.size)(hb:w'.heap[b]? =w.heap[b]?)(hp:∀x,P x->x<w.heap.size->w'.heap[x]? =w.heap[x]?)(hq:∀x,P x->x<w.heap.size->Q x):fG w' Q b D:=by
 obtain⟨L,h1,h2,h3,h4⟩:=h;exact⟨L,h1.same hb,h2,λn u hu=>by have⟨t,e,ht⟩:=h3 n u hu;exact⟨t,e,ht.move hs hp hq⟩,h4⟩
def fG.lt(h:fG w P b D):b<w.heap.size:=qAr
def fG.af(h:fG w P b D)(hb:Bq w w'):fG w' P b D:=h.move hb.size (hb.block b h.lt) (λx _ hx=>hb.block x hx)<|λ_ p _=>p
def fG.fr{S:Nat->Prop}(h:fG w P b D)(hf:Fr S w w')(hb:¬S b)(hS:∀x,P x->x<w.heap.size->¬S x):fG w' P b D:=h.move hf.size (hf.block b h.lt hb) (λx p z=>hf.block x z<|hS x p z)<|λ_ p _=>p
def fG.wide(h:fG w P b D)(hq:∀x,P x->Q x):fG w Q b D:=h.move (br _) rfl (λ_ _ _=>rfl) (λx p _=>hq x p)
def fG.low(h:fG w P b D):fG w (λx=>P x/\x<w.heap.size) b D:=h.move (br _) rfl (λ_ _ _=>rfl) (λx p z=>⟨p,z⟩)
def fG.new(w:World)P:fG (w.alloc<|.map #[] 0) P w.heap.size (λ_=>none):=⟨[],MG.new qB w,λ_ _=>rfl,λn u h=>qBg,λx u h=>qBg⟩
def ady w:(zeroValue 87).run qw w=.ok .nilIface w:=qkr
def fG.look(h:fG w P b D){tm}(ht:Tryz.prog.underlying tm=some (.map 152 87))n:(∃t u,D n=some t/\db w P t u/\(vd tm (Mv b) (Nv n) true).run qw w=.ok (.tuple #[u,.bool true]) w)\/
 (D n=none/\(vd tm (Mv b) (Nv n) true).run qw w=.ok (.tuple #[.nilIface,.bool false]) w):=by
 obtain⟨L,h1,h2,h3,h4⟩:=h;have hl:=h1.ms.look KLV ht (ady w) (n:Int) trivial (λ_ _=>trivial) true
 cases hg:a_ (n:Int) L with
 |none=>grind|some u=>grind
def iy:Tryz.prog.underlying 343=some (.map 152 87):=qkr
def pk:Tryz.prog.underlying 393=some (.map 152 87):=qkr
def eh:Tryz.prog.underlying 112=some (.map 9 354):=qkr
def adz(h:fG w P b D)n:Cq 227 #[Mv b,Nv n] w λe w'=>∃u,e=.returned u/\db w P (Ef D n) u/\w'=w:=by
 obtain⟨t,u,e1,H1,hl⟩|⟨e1,hl⟩:=h.look iy n
 .obtain⟨ta,xa,rfl⟩:=H1.iface;have E1:=ai e1;go_enter func227,ntmps227
  go_wp2
  go_ret;exact⟨_,rfl,by rw[Ef];rw[uh E1];exact H1,rfl⟩
 .have E1:=ai e1;go_enter func227,ntmps227
  go_wp2
  go_ret;exact⟨_,rfl,by rw[Ef];rw[uh E1];exact .var n,rfl⟩
def ImI(P:Nat->Prop)n0 b D(_:List Nat)(B M:Nat->Prop)w:=(B=λx=>P x/\x<n0)/\(M=λ_=>False)/\fG w (λx=>P x/\x<n0) b D/\n0<=w.heap.size
def Vc(hb:P b){n0:Nat}(hn:b<n0):Img 227 #[Mv b] #[] (Ef D) (λ_ _=>True) (ImI P n0 b D) where
 eg:=enters_of Tryz.func227 qkr rfl
 om acc B M w w' h hz hk:=by
  obtain⟨rfl,rfl,h1,h2⟩:=h;exact⟨rfl,rfl,h1.move hz (hk b<|ql ⟨hb,hn⟩) (λx p _=>hk x<|ql p)<|λ_ p _=>p,qm h2 hz⟩
 lt acc B M w h:=by
  obtain⟨rfl,rfl,h1,h2⟩:=h;rintro x(p|p)
  .omega
  .exact p.elim
 call acc B M w n h _:=by
  obtain⟨rfl,rfl,h1,h2⟩:=h;refine(adz h1 n).mono ?_;rintro e w'⟨u,rfl,hu,rfl⟩;exact⟨u,_,_,rfl,hu.wide λx p=>⟨λq=>q,ql p⟩,⟨rfl,rfl,h1,h2⟩,λx p=>ql p,λx p=>ql p,Fr.refl _ _⟩
def Rl t(P:Nat->Prop)w(e:Ending)w':=∃u,e=.returned u/\db w' (λx=>P x\/w.heap.size<=x) t u/\Bq w w'
def Fr.none{S:Nat->Prop}(h:Fr S w w')(hS:∀b,¬S b):Bq w w':=⟨h.os,h.tape,h.output,h.size,λk hk=>h.block k hk<|hS k⟩
def Iq(h:fG w P b D)(hb:P b){v}(ht:db w Q t v)(hz:size t<=1000000000000)(iZ:size (sub (Ef D) t)<=1000000000000):Cq 214 #[Mv b,v] w (Rl (bL<|sub (Ef D) t) P w):=by
 have HC:=Ao (Vc (D:=D) hb h.lt) t [] _ _ w v Q ⟨rfl,rfl,h.low,br _⟩ (λi hi=>trivial) hz ht<|λx _ _=>id;obtain⟨ta,xa,rfl⟩:=ht.iface;go_enter func214,ntmps214;go_wp2_with fail;refine HC.mono ?_;rintro e w1⟨u,B',M',rfl,hU,_,_,_,F⟩;obtain⟨tu,xu,rfl⟩:=hU.iface;have b1:=F.none<|λ_ q=>q;have HB:=ai b1;have HK:=aai hU iZ;go_wp2_with fail;refine HK.mono ?_;rintro e w2⟨u2,rfl,HU,eG⟩;obtain⟨tu2,xu2,rfl⟩:=HU.iface
 go_wp2
 go_ret;have b1:=uh HB;refine⟨_,rfl,HU.wide λx p=>?_,b1.trans<|eG.mono b1.size⟩;obtain p|p:=p
 .obtain q|q:=p.2
  .exact ql q.1
  .exact qk q
 .exact qk (qm b1.size p)
end
section
variable {w:World} {b:Nat}
def Fw{κ:Type}enc(L:List (κ×Value))(w:World)(e:Ending)(w':World):=e=.returned (Mv w.heap.size)/\MG enc w' w.heap.size L/\Bq w w'/\w'.heap.size=w.heap.size+1
def Vd{enc}{L:List (κ×Value)}{es:Array MapEntry}{clock:Nat}(h:es.toList.map (λe=>(e.key,e.val))=L.map (λp=>(enc p.1,p.2))/\(es.toList.map (·.born)).Nodup/\(∀e∈es.toList,e.born<clock)/\(L.map (·.1)).Nodup):Fw enc L w (.returned<|Mv w.heap.size) (w.alloc<|.map es clock):=
 ⟨rfl,⟨es,clock,(vh w _).1,h⟩,bw _,ag⟩
def cP:Tryz.prog.underlying 116=some (.map 9 413):=qkr
def Rp{p:Prop}(h:p:=by
 simp only[kg];rw[Oper.upon_value]
 go_wp2
 go_ret
 exact Vd HR):p:=h
def aak{L:List (Int×Value)}(h:MG qB w b L):Cq 260 #[Mv b] w (Fw qB L w):=by
 obtain⟨es,clock,hb,HR⟩:=h;have hq:=λw=>run_eql_map_nil_sl (P:=Tryz.prog) w 343 _ _ (some b) iy;go_enter func260,ntmps260;go_wp2_with fail;rw[run_callFunc_extern Tryz.func261 qkr qkr qkr (e:=Extern.MapsClone.clone) qkr,run_maps_clone_sl w 343 hb];simp only[Result.andThen];rw[Oper.upon_value];go_wp2_with fail;rw[run_typeAssert_map_sl _ 343 _ _ _ _ iy];exact Rp
def Xt{L}(h:MG xo w b L):Cq 249 #[Mv b] w (Fw xo L w):=by
 obtain⟨es,clock,hb,HR⟩:=h;have hq:=λw=>run_eql_map_nil_sl (P:=Tryz.prog) w 112 _ _ (some b) eh;go_enter func249,ntmps249;go_wp2_with fail;rw[run_callFunc_extern Tryz.func261 qkr qkr qkr (e:=Extern.MapsClone.clone) qkr,run_maps_clone_sl w 112 hb];simp only[Result.andThen];rw[Oper.upon_value];go_wp2_with fail;rw[run_typeAssert_map_sl _ 112 _ _ _ _ eh];exact Rp
def aal{L}(h:MG xo w b L):Cq 307 #[Mv b] w (Fw xo L w):=by
 obtain⟨es,clock,hb,HR⟩:=h;have hq:=λw=>run_eql_map_nil_sl (P:=Tryz.prog) w 116 _ _ (some b) cP;go_enter func307,ntmps307;go_wp2_with fail;rw[run_callFunc_extern Tryz.func261 qkr qkr qkr (e:=Extern.MapsClone.clone) qkr,run_maps_clone_sl w 116 hb];simp only[Result.andThen];rw[Oper.upon_value];go_wp2_with fail;rw[run_typeAssert_map_sl _ 116 _ _ _ _ cP];exact Rp
theorem fG.bG{L:List (Int×Value)}(h2:∀m:Nat,a_ (m:Int) L=none->D m=none)(h3:∀(m:Nat)v,a_ (m:Int) L=some v->∃t,D m=some t/\db w P t v)(h4:∀x v,a_ x L=some v->∃m:Nat,x=(m:Int))(ht:db w P t u)(hP:¬P b)(o:One b w w')(hM:MG qB w' b (Go.Proofs.YtnldmeakhapdhaaGreatDoor.bG (n:Int) u L)):fG w' P b (eu D n<|some t):=by
 have mv:∀{t v},db w P t v->db w' P t v:=λh=>h.move Mn (λx p _=>o.block x<|λe=>hP<|e▸p)<|λ_ p _=>p;refine⟨_,hM,λm hm=>?_,λm v hm=>?_,λx v hx=>?_⟩
 .rw[aN]at hm;by_cases e:(n:Int)=(m:Int)
  .grind
  .rw[if_neg e]at hm;have e':¬m=n:=λq=>e (by rw[q]);simp only[eu,e',if_false];exact h2 m hm
 .rw[aN]at hm;by_cases e:(n:Int)=(m:Int)
  .rw[if_pos e]at hm;injection hm with hm;have e':m=n:=ae;subst hm;simp only[eu,e',if_true];exact⟨t,rfl,mv ht⟩
  .rw[if_neg e]at hm;have e':¬m=n:=λq=>e (by rw[q]);simp only[eu,e',if_false];have⟨t',q1,q2⟩:=h3 m v hm;exact⟨t',q1,mv q2⟩
 .rw[aN]at hx;by_cases e:(n:Int)=x
  .exact⟨n,e.symm⟩
  .grind
def li{tm}(htm:Tryz.prog.underlying tm=some (.map 152 87)){a}{Q}(hg:o.guard=none)m x v(EB:o.op=kw tm m x v\/o.op=kv tm m x v)(hm:a.eval m=Mv b)(h:fG w P b D)(hP:¬P b)(ht:db w P t u)n(hx:a.eval x=Nv n)(hv:a.eval v=u)(hK:∀w',fG w' P b (eu D n<|some t)->One b w w'->wpList qw ops Q rest (a.put o.dst undef) w'):
 wpList qw ops Q (o::rest) a w:=by
 obtain⟨L,h1,h2,h3,h4⟩:=h;exact cu KLV htm hg m x v EB hm h1 (n:Int) u hx hv λw' hM o=>hK w' (fG.bG h2 h3 h4 ht hP o hM) o
def thD(D1 D2:Nat->Option Ty)(done:List Int)(n:Nat):Option Ty:=if(n:Int)∈done then(match D1 n with|some t=>some (bL<|sub (Ef D2) t)|none=>D2 n)else D2 n
def Aq(D1 D2:Nat->Option Ty)n:=match D1 n with|some t=>some (bL<|sub (Ef D2) t)|none=>D2 n
def ThR(P:Nat->Prop)b1 D1 D2 L w gk wr:=
 ∃done,IG qB wr (w.heap.size+1) b1 L done gk/\fG wr (λx=>(P x/\x<w.heap.size)\/w.heap.size+2<=x) w.heap.size (thD D1 D2 done)/\Bq w wr
def aam(P:Nat->Prop)D1 D2 w(e:Ending)w':=
 ∃b3,e=.returned (Mv b3)/\w.heap.size<=b3/\fG w' (λx=>P x\/w.heap.size<=x) b3 (Aq D1 D2)/\Bq w w'
def adA{D2}(h1:fG w P b1 D1)(h2:fG w P b2 D2)(hp2:P b2)(hz:∀n t,D1 n=some t->size t<=1000000000000/\size (sub (Ef D2) t)<=1000000000000):
 Cq 248 #[Mv b1,Mv b2] w (aam P D1 D2 w):=by
 have H2:=ai h2;have l1:=h1.lt;have l2:=h2.lt;obtain⟨L1,M1,q12,q13,q14⟩:=h1;obtain⟨L2,m2,q22,q23,q24⟩:=h2;have HC:=aak m2;have Q1:=And.intro q12<|And.intro q13 q14;have Q2:=And.intro q22<|And.intro q23 q24;go_enter func248,ntmps248;go_wp2_with fail;refine HC.mono ?_;rintro e w1⟨rfl,m3,k1,zz⟩;have⟨o,cnt,hrg,mi⟩:=(M1.af k1).range iy;rw[zz]at hrg mi;have k2:Bq w (w1.alloc o):=k1.alloc (by rw[zz];omega) _;have HI:=ai mi;have HK:=ai k2;have S0:Hid (fG (w1.alloc o) (λx=>(P x/\x<w.heap.size)\/w.heap.size+2<=x) w.heap.size D2):=by
  obtain⟨r1,r2,r3⟩:=Q2;refine ai ⟨L2,m3.af<|bw _,r1,λn u hu=>?_,r3⟩;have⟨t,e,ht⟩:=r2 n u hu;exact⟨t,e,ht.move k2.size (λx _ hx=>k2.block x hx)<|λx p z=>ql ⟨p,z⟩⟩
 go_wp2
 go_loopg[] cnt (λgk wr=>ThR P b1 D1 D2 L1 w gk wr)
 case atStart=>
  refine⟨[],HI,?_,HK⟩;have e:thD D1 D2 []=D2:=by funext n;simp[thD]
  rw[e];exact S0
 case round=>
  obtain⟨done,HI,HS,HB⟩:=hrel;have Xs:=HI.lt;have zr:=HB.size;rcases HI.next (P:=qw) Kh with⟨ha,Ea⟩|⟨x,u,w2,aD,hxd,PX,Ea,HI1,bA,xZ,gL,hen⟩
  .go_wp2
   go_ret;refine⟨w.heap.size,rfl,br _,?_,HB⟩;have e:thD D1 D2 done=Aq D1 D2:=by
    funext n;unfold thD Aq;by_cases q:(n:Int)∈done
    .rw[if_pos q]
    .rw[if_neg q];have:D1 n=none:=by
      cases hg:a_ (n:Int) L1 with
      |none=>exact Q1.1 n hg|some v=>exact absurd (ha _ v hg) q
     rw[this]
   rw[<-e];exact HS.wide λx p=>by obtain p|p:=p;exact ql p.1;exact qk ae
  .obtain⟨r1,r2,r3⟩:=Q1;obtain⟨n,rfl⟩:=r3 x u PX;have⟨t,E1,ht⟩:=r2 n u PX;have⟨nu,iZ⟩:=hz n t E1;obtain⟨ta,xa,rfl⟩:=ht.iface;have F1:=xZ;have kb:∀i,i<w.heap.size->w2.heap[i]? =w.heap[i]? :=λi hi=>(F1.block i ae ae).trans<|HB.block i hi;have eG:Bq w w2:=⟨F1.os.trans HB.os,F1.tape.trans HB.tape,F1.output.trans HB.output,ae,kb⟩;have HC:=Iq (H2.low.move eG.size (kb b2 l2) (λx p _=>kb x p.2)<|λx p _=>p) (⟨hp2,l2⟩:P b2/\b2<w.heap.size) (ht.af eG) nu iZ;have S2:=HS.fr F1 ae (λx p _=>by obtain p|p:=p<;>omega);go_wp2_with fail;refine HC.mono ?_;rintro e w3⟨u3,rfl,hU,k3⟩;obtain⟨tu,xu,rfl⟩:=hU.iface;have z3:=k3.size;have S3:=S2.af k3;have U3:=hU.wide (Q:=λx=>(P x/\x<w.heap.size)\/w.heap.size+2<=x) λx p=>by obtain p|p:=p;exact ql p;exact qk ae
   have I3:=HI1.same (k3.block b1 ae)<|k3.block _ ae;have K3:=eG.trans<|k3.mono ae;go_wp2_with(refine li iy rfl _ _ _ (qk rfl) rfl S3 ae U3 n rfl rfl ?_;intro w4 H' O';have S4:=ai H';have O4:=ai O';clear H' O');go_roundg aD
   case measure=>exact bA
   case rel=>
    have o:=uh O4;refine⟨(n:Int)::done,I3.same (o.block b1 ae)<|o.block _ ae,?_,?_⟩
    .have e:thD D1 D2 ((n:Int)::done)=eu (thD D1 D2 done) n (some<|bL<|sub (Ef D2) t):=by
      funext m;unfold eu;by_cases q:m=n
      .subst q;unfold thD;rw[if_pos ag,if_pos rfl,E1]
      .have:¬(m:Int)=(n:Int):=ae;unfold thD;simp[q,this]
     rw[e];exact S4
    .have k:=K3;exact⟨o.os.trans k.os,o.tape.trans k.tape,o.output.trans k.output,by rw[o.size];exact k.size,λi hi=>(o.block i ae).trans<|k.block i hi⟩
end
def xN(rk:Nat->Nat):Ty->Nat
 |.var n=>rk n+1|.aM _ _=>0
structure aju(K:Nat->Option Ty)R t t1:Prop where
 eq:sub R t1=sub R t
 op:∀n,t1=.var n->K n=none
def ajv(J:Ty->Prop)(K:Nat->Option Ty)R rk P t w gk v wr:=
 ∃t1,Hid (gk=xN rk t1)/\wr=w/\db w P t1 v/\Hid (J t1)/\Hid (sub R t1=sub R t)
section
variable {w:World} {b:Nat} {rk:Nat->Nat}
def aan(J:Ty->Prop)(hJ:∀n t,K n=some t->J t)(h:fG w P b K)(hK:uq K R rk){v}(ht:db w P t v)(h0:J t):Cq 265 #[Mv b,v] w λe w'=>∃u t1,e=.returned u/\db w P t1 u/\aju K R t t1/\J t1/\w'=w:=by
 obtain⟨ta,xa,rfl⟩:=ht.iface;go_enter func265,ntmps265
 go_wp2
 go_loopg[1] (xN rk t) (λgk v wr=>ajv J K R rk P t w gk v wr)
 case atStart=>exact⟨t,ai rfl,rfl,ht,ai h0,ai rfl⟩
 case round=>
  obtain⟨t1,dl,rfl,hT,hJ1,hE⟩:=hrel
  cases hT with
  |var n=>
   obtain⟨t2,u,e1,H2,hl⟩|⟨e1,hl⟩:=h.look pk n
   .obtain⟨tu,xu,rfl⟩:=H2.iface;have E1:=ai e1
    go_wp2
    go_roundg(xN rk t2)
    case measure=>
     rw[uh dl]
     cases t2 with
     |var m=>have:=hK.Yk n m E1;simp only[xN];omega|aM c l=>simp only[xN];omega
    case rel=>exact⟨t2,ai rfl,rfl,H2,ai<|hJ n t2 E1,ai (by rw[<-uh hE];exact(hK.shut n t2 E1).symm)⟩
   .have E1:=ai e1
    go_wp2
    go_ret;exact⟨_,.var n,rfl,.var n,⟨hE,λm hm=>by cases hm;exact E1⟩,hJ1,rfl⟩
  |aM c L sa sc vs hc aO hr=>
   go_wp2
   go_ret;exact⟨_,.aM c L,rfl,.aM c L sa sc vs hc aO hr,⟨hE,λm hm=>by cases hm⟩,uh hJ1,rfl⟩
end
def OD g cs(l:List Nat)(p:Nat->Bool)w:=∀(W:World)(n:Nat),n∈l->Bq w W->Cq g (#[Nv n]++cs) W λe w'=>e=.returned (.bool<|p n)/\Bq W w'
def IxV(l:List Nat)(p:Nat->Bool)k:=(k= -1/\∀n∈l,p n=false)\/∃i,∃h:i<l.length,k=(i:Int)/\p l[i]=true/\∀j(hj:j<l.length),j<i->p l[j]=false
def ajw(l:List Nat)(p:Nat->Bool)w gk v wr:=
 ∃j:Nat,Hid (gk=l.length-j)/\j<=l.length/\v=Nv j/\Bq w wr/\Hid (∀i(hi:i<l.length),i<j->p l[i]=false)
section
variable {w:World} {v:Value} {l:List Nat}
def fC l:(ot l).length=l.length:=by simp[ot]
def ox(eg:∀args w,(callFunc g args).run qw w=.ok (.enter g args) w)(ho:gN w 152 base v (ot l))(hl:l.length<=1000000000000)(hp:OD g cs l p w):
 Cq 274 #[v,.func (.func g) #[] cs] w λe w'=>∃k,e=.returned (Iv k)/\IxV l p k/\Bq w w':=by
 obtain⟨va,vc,rfl⟩:=dO ho (n:=l.length)<|fC l;go_enter func274,ntmps274
 go_wp2
 go_loopg[8] l.length (λgk v wr=>ajw l p w gk v wr)
 case atStart=>exact⟨0,ai ag,qr _,rfl,xn _ _,ai<|λi _ hi=>absurd hi ae⟩
 case round=>
  obtain⟨j,dl,hj,rfl,HK,nU⟩:=hrel;by_cases bm:j<l.length
  .have hd:(j:Int)<(l.length:Int):=ae;have hjv:j<(ot l).length:=by rw[fC];exact bm
   have⟨gv,cpv,mv,hv,hgv,k9,_⟩:=iw ho ae;injection hv with M6 Ui hv3;subst M6;have cg0:=mj ho j hjv;rw[show(ot l)[j]=Nv (l[j]) by simp[ot]]at cg0;have cg:=(qy (a:=⟨gv,j,none⟩)<|HK.block gv k9).trans cg0;have HC:=hp wr l[j] (jq bm) HK;clear cg0 Ui hv3
   cases hpj:p l[j]with
   |true=>
    rw[hpj]at HC;generalize hx:l[j]=x at*;go_wp2_with(go_at_fn g;refine HC.mono ?_;rintro e w1⟨rfl,k1⟩;have HK1:=ai k1;clear k1);go_ret;have k:=HK;exact⟨j,rfl,qk ⟨j,bm,rfl,by rw[hx];exact hpj,nU⟩,k.trans<|HK1.mono k.size⟩
   |false=>
    rw[hpj]at HC;generalize hx:l[j]=x at*;go_wp2_with(go_at_fn g;refine HC.mono ?_;rintro e w1⟨rfl,k1⟩;have HK1:=ai k1;clear k1);go_roundg(l.length-(j+1))
    case measure=>rw[uh dl];omega
    case rel=>
     have k:=HK;refine⟨j+1,ai rfl,ae,jP,k.trans<|HK1.mono k.size,ai<|λi hi hij=>?_⟩;by_cases e:i=j
     .subst e;rw[hx];exact hpj
     .exact nU i hi ae
  .have hd:decide ((j:Int)<(l.length:Int))=false:=bF;have ej:j=l.length:=ae;subst ej
   go_wp2
   go_ret;refine⟨-1,rfl,ql ⟨rfl,λn hn=>?_⟩,HK⟩;obtain⟨i,hi,rfl⟩:=jt hn;exact nU i hi hi
def IxV.any{k}(h:IxV l p k):decide (0<=k)=l.any p:=by grind[IxV]
def Ar(eg:∀args w,(callFunc g args).run qw w=.ok (.enter g args) w)(ho:gN w 152 base v (ot l))(hl:l.length<=1000000000000)(hp:OD g cs l p w):
 Cq 275 #[v,.func (.func g) #[] cs] w λe w'=>e=.returned (.bool<|l.any p)/\Bq w w':=by
 have HC:=ox eg ho hl hp;obtain⟨va,vc,rfl⟩:=dO ho (n:=l.length)<|fC l;go_enter func275,ntmps275;go_wp2_with fail;refine HC.mono ?_;rintro e w1⟨k,rfl,hk,HK⟩;have HA:=hk.any
 go_wp2
 go_ret;refine⟨?_,HK⟩;rw[<-HA];rfl
end
section
variable {b:Nat} {rk:Nat->Nat}
open Classical in
noncomputable def As (R:Nat->Ty) (v:Nat) (n:Nat):Bool:=decide (aw v<|R n)
open Classical in
def Ki R v t:(vars [] t).any (As R v)=decide (aw v<|sub R t):=by
 have h:∀n,n∈vars [] t↔aw n t:=λn=>by simpa using bP t [] n
 by_cases q:aw v (sub R t)
 .rw[decide_eq_true q,List.any_eq_true];have⟨m,h1,h2⟩:=(Go.Proofs.YtnldmeakhapdhaaGreatDoor.Un.mq t).1 q;exact⟨m,(h m).2 h1,by simp[As,h2]⟩
 .rw[decide_eq_false q,List.any_eq_false];intro m hm;simp only[As,decide_eq_true_eq];exact λr=>q<|(Go.Proofs.YtnldmeakhapdhaaGreatDoor.Un.mq t).2 ⟨m,(h m).1 hm,r⟩
def Rm P b K R v t:=∀(w:World)(x:Value),fG w P b K->db w P t x->size t<=1000000000000->
 Cq 271 #[Mv b,x,Nv v] w λe w'=>e=.returned (.bool<|(vars [] t).any<|As R v)/\Bq w w'
def Tq{p:Prop}(h:p:=by
 rw[hb]at HC;go_enter func276,ntmps276;go_wp2_with fail;refine HC.mono ?_;rintro e w1⟨rfl,HK⟩
 go_wp2
 go_ret
 exact⟨rfl,HK⟩):p:=h
def OE(hK:uq K R rk)(hs:∀n t,K n=some t->size t<=1000000000000){v:Nat}(hv:K v=none)n(IH:∀t,K n=some t->Rm P b K R v t){sb vb}(h:fG W P b K)(h1:Bx W sb #[Mv b])(h2:Bx W vb #[Nv v]):
 Cq 276 #[Nv n,Pv sb,Pv vb] W λe w'=>e=.returned (.bool<|As R v n)/\Bq W w':=by
 obtain⟨c1,f1,z1⟩:=h1;obtain⟨c2,f2,z2⟩:=h2;obtain⟨t,u,e1,ht,hl⟩|⟨e1,hl⟩:=h.look pk n
 .obtain⟨tu,xu,rfl⟩:=ht.iface;have cV:n≠v:=λq=>by rw[q,hv]at e1;cases e1
  have hd:((n:Int)==(v:Int))=false:=bF;have HC:=IH t e1 W _ h ht<|hs n t e1;have eo:(vars [] t).any (As R v)=As R v n:=by
   rw[Ki,As,hK.shut n t e1]
  rw[eo]at HC
  cases hb:As R v n with
  |true=>
   exact Tq
  |false=>
   exact Tq
 .have eo:As R v n=decide (n=v):=by
   exact decide_eq_decide.2 (by rw[hK.open_ n e1];simp[aw])
  rw[eo];by_cases hnv:n=v
  .subst hnv;go_enter func276,ntmps276
   go_wp2
   go_ret;exact⟨ag,xn _ _⟩
  .have hd:((n:Int)==(v:Int))=false:=bF;go_enter func276,ntmps276
   go_wp2
   go_ret;exact⟨by simp[hnv],xn _ _⟩
def Ve(hK:uq K R rk)(hs:∀n t,K n=some t->size t<=1000000000000){v:Nat}(hv:K v=none)t(IH:∀n,aw n t->∀t',K n=some t'->Rm P b K R v t'):Rm P b K R v t:=by
 intro w x HH ht hz;have kb:Bq w ((w.alloc<|Cv #[Mv b] 393).alloc<|Cv #[Nv v] 152):=(bw _).alloc ag _;have b1:Bx ((w.alloc<|Cv #[Mv b] 393).alloc<|Cv #[Nv v] 152) w.heap.size #[Mv b]:=(Bx.new w _ _).below<|bw _;have B2:Bx ((w.alloc<|Cv #[Mv b] 393).alloc<|Cv #[Nv v] 152) (w.heap.size+1) #[Nv v]:=by
  have:=Bx.new (w.alloc<|Cv #[Mv b] 393) #[Nv v] 152;simpa using this
 have HV:=fN (ht.af kb) hz;obtain⟨ta,xa,rfl⟩:=ht.iface;have hlen:(vars [] t).length<=1000000000000:=by
  exact Sl
 have KB:=ai kb;have B1:=ai b1;go_enter func271,ntmps271;go_wp2_with fail;refine HV.mono ?_;rintro e w1⟨V,rfl,ho,k1⟩;have⟨va,vc,hva⟩:=dO ho (n:=(vars [] t).length)<|fC _;have hT:OD 276 #[Pv w.heap.size,Pv<|w.heap.size+1] (vars [] t) (As R v) w1:=λW n hn hb=>
  have kW:=(KB.trans<|k1.mono KB.size).trans<|hb.mono<|qm KB.size k1.size
  OE hK hs hv n (λt' ht'=>IH n (by simpa using(bP t [] n).1 hn) t' ht') (HH.af kW) ((B1.below k1).below hb) ((B2.below k1).below hb)
 have HC:=Ar (enters_of Tryz.func276 qkr rfl) ho hlen hT;have K1:=ai k1;subst hva;go_wp2_with fail;refine HC.mono ?_;rintro e w2⟨rfl,K2⟩
 go_wp2
 go_ret;have kb:=uh KB;have k1:=uh K1;exact⟨rfl,(kb.trans<|k1.mono kb.size).trans<|K2.mono<|qm kb.size k1.size⟩
def aao(hK:uq K R rk)(hs:∀n t,K n=some t->size t<=1000000000000){v:Nat}(hv:K v=none):∀(s f:Nat)(t:Ty),size (sub R t)<=s->xN rk t<=f->Rm P b K R v t:=by
 intro s
 induction s using qp with
 |ind s ihs=>
  intro f
  induction f using qp with
  |ind f ihf=>
   intro t h1 h2;refine Ve hK hs hv t λn hn t' ht'=>?_;have e:=hK.shut n t' ht'
   cases t with
   |var m=>
    simp only[aw]at hn;subst hn;simp only[sub]at h1;rw[e]at h1;simp only[xN]at h2;refine ihf (xN rk t') ?_ t' h1<|br _
    cases t' with
    |var u=>have:=hK.Yk m u ht';simp only[xN];omega|aM c l=>simp only[xN];omega
   |aM c l=>
    have h3:=jT R n l qBx;simp only[sub,size]at h1;exact ihs (size<|sub R t') (by rw[<-e];omega) (xN rk t') t' (br _)<|br _
end
structure TyI(V:List Nat)t:Prop where
 v:∀m,aw m t->m∈V
 z:size t<=48
 w:Whole t
def Cg V(K:Nat->Option Ty):=∀n t,K n=some t->n∈V/\TyI V t
def opL(V:List Nat)(K:Nat->Option Ty):Nat:=(V.filter λn=>(K n).isNone).length
def agZ(h:n∈V)(e:K n=none):opL V (eu K n<|some t)<opL V K:=by
 refine filter_lt (m:=n) (λi hi=>?_) h UH (by simp[eu]);by_cases q:i=n
 .simp[eu,q]at hi
 .simpa[eu,q]using hi
def Kj V K K'(R R':Nat->Ty):=(K'=K/\R'=R)\/opL V K'<opL V K
def cM P b V K R x y w(e:Ending)w':=
 ∃ok:Bool,e=.returned (.bool ok)/\Fr (λi=>i=b) w w'/\
  (ok=true->∃K' R' Qi,fG w' P b K'/\uq K' R' Qi/\Cg V K'/\Made R R' x y/\Kj V K K' R R')/\
  (ok=false->∀σ,sub σ (sub R x)≠sub σ (sub R y))
section
variable {w:World} {b:Nat} {rk:Nat->Nat}
def Cg.qN(h:Cg V K):∀n t,K n=some t->size t<=1000000000000:=λn t e=>by have:=(h n t e).2.z;omega
def Ts{p:Prop}(h:p:=by
 go_enter func266,ntmps266;go_wp2_with fail;refine HC.mono ?_;rintro e w1⟨rfl,K1⟩;have S1:=HS.af K1;have T1:=ht.af K1;go_wp2_with(refine li pk rfl _ _ _ (Or.inr rfl) rfl S1 hP T1 n rfl rfl ?_;intro w4 H' O';have S4:=ai H';have O4:=ai O';clear H' O');go_ret;have o:=uh O4
 exact⟨true,rfl,(Fr.of K1).trans ⟨o.os,o.tape,o.output,Mn,λk _ hk=>o.block k hk⟩,λ_=>HY HO _ S4,λh=>by(cases h)⟩):p:=h
def Tt{p:Prop}(h:p:=by
 go_enter func266,ntmps266;go_wp2_with fail;refine HC.mono ?_;rintro e w1⟨rfl,K1⟩
 go_wp2
 go_ret
 exact⟨false,rfl,Fr.of K1,λh=>by(cases h),λ_ σ=>HN σ HO⟩):p:=h
def Kk(h:fG w P b K)(hP:¬P b)(hK:uq K R rk)(hI:Cg V K)(hn:K n=none)(hnV:n∈V){x}(ht:db w P t x)(hti:TyI V t)(hh:∀u,t=.var u->K u=none):
 Cq 266 #[Mv b,Nv n,x] w (cM P b V K R (.var n) t w):=by
 have HS:=ai h;by_cases aap:t=.var n
 .subst aap
  cases ht
  have h1:=agT;go_enter func266,ntmps266
  go_wp2
  go_ret;exact⟨true,rfl,Fr.refl _ _,λ_=>⟨K,R,rk,HS,hK,hI,Made.refl rfl,ql ⟨rfl,rfl⟩⟩,λh=>Mp⟩
 .have HC:=aao (P:=P) (b:=b) hK hI.qN hn (size<|sub R t) (xN rk t) t (br _) (br _) w x h ht (by have:=hti.z;omega);rw[Ki]at HC;have HN:∀σ,aw n (sub R t)->sub σ (sub R<|.var n)≠sub σ (sub R t):=λσ ho=>by
   cases t with
   |var u=>
    have:=hK.open_ u<|hh u rfl;simp[sub,this,aw]at ho;exact absurd (by rw[ho]) aap
   |aM c l=>exact acT hK hn ho σ
  have HY:¬aw n (sub R t)->∀w',fG w' P b (eu K n<|some t)->∃K' R' Qi,fG w' P b K'/\uq K' R' Qi/\Cg V K'/\Made R R' (.var n) t/\Kj V K K' R R':=λho w' hw=>by
   have⟨Qi,gi⟩:=hK.bind hn ho hh;refine⟨_,_,Qi,hw,gi,λm s e=>?_,Made.bind hK hn ho,qk<|agZ hnV hn⟩;by_cases q:m=n
   .simp only[eu,q,if_true,Option.some.injEq]at e;subst e q;exact⟨hnV,hti⟩
   .simp only[eu,q,if_false]at e;exact hI m s e
  obtain⟨ta,xa,rfl⟩:=ht.iface;have key:(∃m,ta=152/\xa=Iv m/\(m==(n:Int))=false)\/∃p q,ta=165/\xa=Av #[p,q]:=by
   cases ht with
   |var m=>exact ql ⟨m,rfl,rfl,by simp;intro e;exact aap<|by rw[show m=n by omega]⟩|aM c L sa sc vs hc aO hr=>exact qk ⟨_,_,rfl,rfl⟩
  cases ho:(@decide (aw n<|sub R t)<|kq _)with
  |true=>
   rw[ho]at HC;have HO:= @of_decide_eq_true _ (kq _) ho;obtain⟨m,rfl,rfl,hm⟩|⟨p,q,rfl,rfl⟩:=key
   .have h1:=agT;exact Tt
   .have h1:=ajn;exact Tt
  |false=>
   rw[ho]at HC;have HO:= @of_decide_eq_false _ (kq _) ho;obtain⟨m,rfl,rfl,hm⟩|⟨p,q,rfl,rfl⟩:=key
   .have h1:=agT;exact Ts
   .have h1:=ajn;exact Ts
end
@[simp] theorem ams a b w:(z9 (.iface 165<|.agg #[a,b]) 87 165 false).run qw w=.ok (.agg #[a,b]) w:=qkr
def aY(w:World)o:(w.alloc o).heap.size=w.heap.size+1:=ag
def qV w C1 C2 v1 v2 wc:=∃p q,v1=Pv p/\v2=Pv q/\w.heap.size<=p/\w.heap.size<=q/\Bx wc p C1/\Bx wc q C2/\Bq w wc
theorem qV.a w C1 C2 t1 t2:qV w C1 C2 (Pv w.heap.size) (Pv<|w.heap.size+1) ((w.alloc<|.cells C1 t1).alloc<|.cells C2 t2).drew:=by
 refine⟨_,_,rfl,rfl,br _,Nat.le_succ _,((Bx.new w C1 t1).below<|bw _).gw,?_,((bw _).alloc ag _).drew⟩;have:=Bx.new (w.alloc<|Cv C1 t1) C2 t2;simp only[aY]at this;exact this.gw
def qV.b w C1 C2 t1 t2:qV w C1 C2 (Pv<|w.heap.size+1) (Pv w.heap.size) ((w.alloc<|.cells C2 t2).alloc<|.cells C1 t1).drew:=by grind[qV,qV.a]
def ag0 P b V K R(L L2:List Ty)p q C0 C1 w gk c wr:=
 ∃(j:Nat)(K':Nat->Option Ty)(R':Nat->Ty)(Qi:Nat->Nat),Hid (gk=L.length-j)/\j<=L.length/\c=Nv j/\Fr (λi=>i=b) w wr/\fG wr P b K'/\uq K' R' Qi/\Cg V K'/\oF R R' (L.take j) (L2.take j)/\Hid (Kj V K K' R R')/\Bx wr p C0/\Bx wr q C1
def Sq{p:Prop}(h:p:=by
 rw[kP,kQ]at h;have:=congrArg kh h;rw[e1,e2]at this;simp at this):p:=h
def adB{d}(hc:CN c)(hd:CN d)(h:pn c=pn d):c=d:=by
 have e1:(⟨#[45,62]⟩:BA).toList=[45,62]:=toList_mk _;have e2:(⟨#[44]⟩:BA).toList=[44]:=toList_mk _;obtain rfl|rfl|hc:=hc<;>obtain rfl|rfl|hd:=hd
 .rfl
 .exact Sq
 .rw[kP,fh hd]at h;exact absurd (by rw[<-h,e1])<|da hd 45 [62] aB
 .exact Sq
 .rfl
 .rw[kQ,fh hd]at h;exact absurd (by rw[<-h,e2])<|da hd 44 [] aB
 .rw[kP,fh hc]at h;exact absurd (by rw[h,e1])<|da hc 45 [62] aB
 .rw[kQ,fh hc]at h;exact absurd (by rw[h,e2])<|da hc 44 [] aB
 .rw[fh hc,fh hd]at h;exact h
def TyI.at{V}{c}{L}(h:TyI V (.aM c L))i(hi:i<L.length):TyI V L[i]:=
 ⟨λm hm=>h.v m<|Rg L i hi hm,by have:=mL L i hi;have:=h.z;simp only[size]at this;omega,uT h.w.2 i hi⟩
section
variable {b:Nat}
def ajx P b V K R rk x y:=∀(w:World)(v u:Value),fG w P b K->uq K R rk->Cg V K->TyI V x->TyI V y->db w P x v->db w P y u->
 Cq 258 #[Mv b,v,u] w (cM P b V K R x y w)
def cM.fr{w:World}{e:Ending}(h:cM P b V K R x y w e w'):Fr (λi=>i=b) w w':=by grind[cM]
def cM.up{K:Nat->Option Ty}{R:Nat->Ty}{x y:Ty}{w w0:World}{e:Ending}{w':World}(h:cM P b V K R x y w0 e w')(hb:Bq w w0):cM P b V K R x y w e w':=by
 obtain⟨ok,h1,h2,h3,h4⟩:=h;exact⟨ok,h1,(Fr.of hb).trans h2,h3,h4⟩
def Kj.trans{K1 K2}{R1 R2}(h:Kj V K K1 R R1)(k:Kj V K1 K2 R1 R2):Kj V K K2 R R2:=by grind[Kj]
def cM.of{x' y'}{w:World}{e:Ending}(h:cM P b V K R x' y' w e w')(hx:sub R x'=sub R x)(hy:sub R y'=sub R y):cM P b V K R x y w e w':=by
 obtain⟨ok,h1,h2,h3,h4⟩:=h;refine⟨ok,h1,h2,λe=>?_,λe σ=>by rw[<-hx,<-hy];exact h4 e σ⟩;have⟨K',R',Qi,q1,q2,q3,q4,q5⟩:=h3 e;exact⟨K',R',Qi,q1,q2,q3,q4.acS hx hy,q5⟩
def cM.swap{K}{R}{x y}{w}{e}{w'}(h:cM P b V K R x y w e w'):cM P b V K R y x w e w':=by
 obtain⟨ok,h1,h2,h3,h4⟩:=h;refine⟨ok,h1,h2,λe=>?_,λe σ q=>h4 e σ q.symm⟩;have⟨K',R',Qi,q1,q2,q3,q4,q5⟩:=h3 e;exact⟨K',R',Qi,q1,q2,q3,q4.swap,q5⟩
def aaq(hP:¬P b):∀(f s:Nat)(K:Nat->Option Ty)(R:Nat->Ty)(rk:Nat->Nat)(x y:Ty),opL V K<=f->size (sub R x)<=s->ajx P b V K R rk x y:=by
 intro f
 induction f using qp with
 |_ f ihf=>
 intro s
 induction s using qp with
 |_ s ihs=>
  intro K R rk x y Hf Hs w v u h hK hI hx hy hv hu;have HS:=ai h;have HH1:=aan (TyI V) (λn t e=>(hI n t e).2) h hK hv hx;have BG:=aan (TyI V) (λn t e=>(hI n t e).2) h hK hu hy;obtain⟨ta,xa,rfl⟩:=hv.iface;obtain⟨tb,xb,rfl⟩:=hu.iface;go_enter func258,ntmps258;go_wp2_with fail;refine HH1.mono ?_;rintro e w1⟨v1,x1,rfl,M6,Dq,Vf,rfl⟩;obtain⟨yT,yU,rfl⟩:=M6.iface;clear HH1;go_wp2_with fail;refine BG.mono ?_;rintro e w2⟨u1,y1,rfl,wK,hd2,hy1,rfl⟩;obtain⟨tb1,xb1,rfl⟩:=wK.iface;clear BG h hv hu
  cases x1 with
  |var n=>
   have HC:=Kk HS hP hK hI (Dq.op n rfl) (Vf.v n rfl) wK hy1 hd2.op
   cases M6
   have E:=ki Dq.eq hd2.eq;clear Dq hd2 wK;go_wp2_with fail;refine HC.mono ?_;intro e w3 wN;have HQ:=wN.of E.1 E.2;obtain⟨ok,rfl,-⟩:=wN;clear HC
   go_wp2
   go_ret;exact HQ
  |aM c L=>
  cases y1 with
  |var n=>
   have HC:=Kk HS hP hK hI (hd2.op n rfl) (hy1.v n rfl) M6 Vf Dq.op;have key:∃p q,yT=165/\yU=Av #[p,q]:=by cases M6;exact⟨_,_,rfl,rfl⟩
   obtain⟨p,q,rfl,rfl⟩:=key
   cases wK
   have E:=ki Dq.eq hd2.eq;clear Dq hd2 M6;go_wp2_with fail;refine HC.mono ?_;intro e w3 wN;have HQ:=wN.swap.of E.1 E.2;obtain⟨ok,rfl,-⟩:=wN;clear HC
   go_wp2
   go_ret;exact HQ
  |aM d L2=>
   cases M6 with
   |aM _ _ sa sc vs hc aO hr=>
   cases wK with
   |aM _ _ sa2 sc2 vs2 UE zV yf=>
   have hc:=hc.resolve_right Vf.w.1;have UE:=UE.resolve_right hy1.w.1;have E:=ki Dq.eq hd2.eq;clear Dq hd2;go_wp2_with fail;go_cut[11,12]from 40 (λv1 v2 wc=>qV w2 #[Sv<|pn c,Lv sa L.length sc] #[Sv<|pn d,Lv sa2 L2.length sc2] v1 v2 wc)
   case first=>
    clear ihf ihs hr yf aO zV;go_region
    all_goals(
     go_wp2_with fail
     go_meet
     case rel=>first|exact qV.a w2 _ _ _ _|exact qV.b w2 _ _ _ _)
   case rest=>
    obtain⟨p,q,rfl,rfl,zp,zq,X1,X2,KC⟩:=hcut;obtain⟨c1,f1,z1⟩:=X1;obtain⟨c2,f2,z2⟩:=X2;by_cases hcd:c=d
    .subst hcd;by_cases hlen:L.length=L2.length
     .have hd0:((L.length:Int) !=(L2.length:Int))=false:=bF;have amD:L.length<=48:=by have:=Fo L;have:=Vf.z;simp only[size]at this;omega
      have HE:=ai hlen;have T1:=show Bx wc p #[Sv<|pn c,Lv sa L.length sc]from⟨c1,f1,z1⟩;have T2:=show Bx wc q #[Sv<|pn c,Lv sa2 L2.length sc2]from⟨c2,f2,z2⟩;clear hlen
      go_wp2
      go_loopg[61] L.length (λgk c1 wr=>ag0 P b V K R L L2 p q #[Sv<|pn c,Lv sa L.length sc] #[Sv<|pn c,Lv sa2 L2.length sc2] w2 gk c1 wr)
      case atStart=>exact⟨0,K,R,rk,ai ag,qr _,rfl,Fr.of KC,HS.af KC,hK,hI,by simpa using oF.nil R,ai<|ql ⟨rfl,rfl⟩,T1,T2⟩
      case round=>
       clear T1 T2 c1 c2 f1 f2 z1 z2;obtain⟨j,K1,R1,rk1,dl,hj,rfl,BS,S1',hK1,hI1,HM1,hL1,T1,T2⟩:=hrel;have hlen:=uh HE;by_cases bm:j<L.length
       .have hd:(j:Int)<(L.length:Int):=ae;have UI:(j:Int)<(L2.length:Int):=ae;have Vg:j<L2.length:=ae;obtain⟨g1,rfl,hg1,nu,aar⟩:=aO.resolve_left<|λe=>qBs;obtain⟨g2,rfl,MP,iZ,aas⟩:=zV.resolve_left (λe=>by subst e;simp at Vg);have nb:∀i,P i->i<w2.heap.size->¬i=b:=λi hi _ e=>hP<|e▸hi;have a1:=(qy (a:=⟨g1,j,none⟩)<|BS.block g1 nu<|nb g1 hg1 nu).trans<|aar j bm;have a2:=(qy (a:=⟨g2,j,none⟩)<|BS.block g2 iZ<|nb g2 MP iZ).trans<|aas j Vg;have t1:=(hr j bm).fr BS nb;have t2:=(yf j Vg).fr BS nb;have ih:ajx P b V K1 R1 rk1 L[j] L2[j]:=by
         have hs1:size (sub R L[j])<=ak (aT R L):=by
          have:=mL (aT R L) j (by rw[eB];exact bm)
          rwa[Rf R L j bm]at this
         have yu:=Hs;rw[<-E.1]at yu;simp only[sub,size]at yu;obtain⟨rfl,rfl⟩|bA:=uh hL1
         .exact ihs (size<|sub R1 L[j]) ae K1 R1 rk1 L[j] L2[j] Hf (br _)
         .exact ihf (opL V K1) (by have:=Hf;omega) (size<|sub R1 L[j]) K1 R1 rk1 L[j] L2[j] (br _) (br _)
        have HC:=λ(W:World)(hb:Bq wr W)=>ih W (vs j) (vs2 j) (S1'.af hb) hK1 hI1 (Vf.at j bm) (hy1.at j Vg) (t1.af hb)<|t2.af hb;have⟨tu1,xu1,e1⟩:=t1.iface;have⟨tu2,xu2,e2⟩:=t2.iface;rw[e1]at a1 HC;rw[e2]at a2 HC;have Uo:=ai T1;have T2':=ai T2;obtain⟨c1,f1,z1⟩:=T1;obtain⟨c2,f2,z2⟩:=T2;clear ih t1 t2 hK1 hI1 aar aas hlen;go_wp2_with fail;go_cut[61,76]from 61 to 77 (λc3 v3 wd=>c3=Nv j/\∃ok,v3=.bool (!ok)/\cM P b V K1 R1 L[j] L2[j] wr (Rv<|.bool ok) wd)
        case first=>
         clear ihf ihs hr yf aO zV HM1 hL1 dl HS hK hI hx hy Hf Hs E KC;go_region_with(go_at_call 258;refine(HC _ (xn _ _).drew).mono ?_;intro e w3 wN;have HQ:=ai wN;obtain⟨ok,rfl,-⟩:=wN)
         all_goals(
          go_wp2_with fail
          go_meet
          case rel=>exact⟨rfl,ok,rfl,HQ.up (xn _ _).drew⟩)
        case rest=>
         obtain⟨rfl,ok,rfl,HQ⟩:=hcut;have F2:=HQ.fr;have ze:=HQ.fr.size;have zr:=BS.size;have U1:=ai (Uo.fr F2 (λe=>by have:=HS.lt;omega));have U2:=ai (T2'.fr F2 (λe=>by have:=HS.lt;omega));have HF:=BS.trans F2;clear F2 c1 f1 z1 c2 f2 z2 a1 a2 HC
         cases ok with
         |false=>
          go_wp2
          go_ret;refine cM.of ⟨false,rfl,HF,λh=>by(cases h),λ_ σ=>?_⟩ E.1 E.2;obtain⟨ok,q1,_,_,q4⟩:=HQ;have q4:=q4 (by injection q1 with q1;injection q1 with q1;exact q1.symm);rw[Kl L j bm,Kl L2 j Vg];exact HM1.no bF q4 c c σ
         |true=>
          go_wp2
          go_roundg(L.length-(j+1))
          case measure=>rw[uh dl];omega
          case rel=>
           obtain⟨ok,q1,_,q3,_⟩:=HQ;have⟨K2,R2,rk2,r1,r2,r3,r4,r5⟩:=q3 (by injection q1 with q1;injection q1 with q1;exact q1.symm);refine⟨j+1,K2,R2,rk2,ai rfl,ae,jP,HF,r1,r2,r3,?_,ai ?_,U1,U2⟩
           .rw[jf bm,jf Vg];exact HM1.snoc bF r4
           .exact hL1.trans r5
       .have hd:decide ((j:Int)<(L.length:Int))=false:=bF;have ej:j=L.length:=ae;subst ej;clear hlen
        go_wp2
        go_ret;refine cM.of ⟨true,rfl,BS,λ_=>⟨K1,R1,rk1,S1',hK1,hI1,?_,hL1⟩,λh=>by(cases h)⟩ E.1 E.2;have hm:=HM1;rw[jc,uh HE,jc]at hm;exact hm.aM c
     .have hd0:((L.length:Int) !=(L2.length:Int))=true:=bF
      go_wp2
      go_ret;refine cM.of ⟨false,rfl,Fr.of KC,λh=>by(cases h),λ_ σ=>Uw hlen⟩ E.1 E.2
    .have cV:pn c≠pn d:=λe=>hcd<|adB hc UE e;have hd0:¬(pn c).toList=(pn d).toList:=λe=>cV<|toList_inj e;clear cV
     go_wp2
     go_ret;refine cM.of ⟨false,rfl,Fr.of KC,λh=>by(cases h),λ_ σ=>Np hcd⟩ E.1 E.2
end
namespace Un
def dR.Rs{t'}(h:dR t' t)(hw:Whole t):bL t'=bL t:=by grind[dR,Whole,bL,sz,oG]
def dR.afn t(hw:Whole t):dR (bL t) t:=(dR.refl t).cut hw
def Km n:bL (.var n)=.var n:=by simp[bL,sz]
def yW(h:size t<=48)(hw:Whole t):bL t=t:=by grind[size,Whole,bL,oG]
def fI(hw:Whole t){C}(h:(vars [] t).length<=C)(hC:48<=C):size (bL t)<=1+C:=Ux h hC λq=>Nr q
end Un
section
variable {rk:Nat->Nat}
def Kn t n(h:n∈occs t):aw n t:=by
 have:n∈vars [] t:=by rw[cC];exact(gG n _ _).2 (qk h)
 simpa using(bP t [] n).1 this
def aat(K:Nat->Option Ty)(R:Nat->Ty)(D:Nat->Option Ty):=∀n t,D n=some t->t=bL (R n)/\K n≠none
structure At(K:Nat->Option Ty)(R:Nat->Ty):Prop where
 whole:∀n,Whole<|R n
 len:∀n,(vars []<|R n).length<=1000
 small:∀n t,K n=some t->size t<=48
theorem At.size(h:At K R)n:size (bL<|R n)<=1001:=by have:=fI (h.whole n) (h.len n) aB;omega
def Vh(hK:uq K R rk)(hF:At K R)(e:K n=some t):bL (sub (λm=>bL<|R m) t)=bL (R n):=by
 have h:dR (sub (λm=>bL<|R m) t) (R n):=by
  rw[hK.shut n t e];exact(dR.refl t).sub λm _=>dR.afn _<|hF.whole m
 exact h.Rs<|hF.whole n
abbrev Vi(B:Nat->Prop)n wb x:=(B x\/n<=x)/\x≠wb
def Ru(b wb:Nat)K R B(D:Nat->Option Ty)n w(e:Ending)w':=
 ∃u D',e=.returned u/\db w' (Vi B w.heap.size wb) (bL<|R n) u/\fG w' (Vi B w.heap.size wb) wb D'/\aat K R D'/\(∀m,D m≠none->D' m≠none)/\(K n≠none->D' n≠none)/\Fr (λi=>i=wb) w w'
structure Fy b wb K R(B:Nat->Prop)D(w:World):Prop where
 lt:∀x,B x->x<w.heap.size
 nw:¬B wb
 wl:wb<w.heap.size
 bb:B b
 s:fG w B b K
 d:fG w B wb D
 g:aat K R D
def aau b wb K R n:=∀(w:World)(B:Nat->Prop)(D:Nat->Option Ty),Fy b wb K R B D w->
 Cq 267 #[Mv b,Mv wb,Nv n] w (Ru b wb K R B D n w)
def ajy b wb sx wx K R(B:Nat->Prop)(D:Nat->Option Ty)(_:List Nat)B1 M1 W:=
 (M1=λi=>i=wb)/\(∀x,B x->B1 x)/\B1 sx/\B1 wx/\Bx W sx #[Mv b]/\Bx W wx #[Mv wb]/\∃D1,Fy b wb K R B1 D1 W/\∀m,D m≠none->D1 m≠none
variable {b wb sx wx:Nat} {B:Nat->Prop}
def aav(IH:aau b wb K R n){B1}(h1:Bx W sx #[Mv b])(h2:Bx W wx #[Mv wb])(h:Fy b wb K R B1 D1 W):
 Cq 272 #[Nv n,Pv sx,Pv wx] W (Ru b wb K R B1 D1 n W):=by
 obtain⟨c1,f1,z1⟩:=h1;obtain⟨c2,f2,z2⟩:=h2;have HC:=IH W B1 D1 h;go_enter func272,ntmps272;go_wp2_with fail;refine HC.mono ?_;intro e w1 hp;have HP:=ai hp;obtain⟨u,D',rfl,hu,-⟩:=hp;obtain⟨ta,xa,rfl⟩:=hu.iface
 go_wp2
 go_ret;exact HP
def adC(IH:∀n,aw n t->aau b wb K R n)(hsw:sx≠wb/\wx≠wb):Img 272 #[] #[Pv sx,Pv wx] (λm=>bL<|R m) (λ_ n=>aw n t) (ajy b wb sx wx K R B D) where
 eg:=enters_of Tryz.func272 qkr rfl
 om acc B1 M1 w w' h hz hk:=by
  obtain⟨rfl,h1,h2,h3,h4,h5,D1,h6,h7⟩:=h;refine⟨rfl,h1,h2,h3,h4.same hz<|hk _<|ql h2,h5.same hz<|hk _<|ql h3,D1,⟨λx p=>qn (h6.lt x p) hz,h6.nw,qn h6.wl hz,h6.bb,?_,?_,h6.g⟩,h7⟩
  .exact h6.s.move hz (hk b<|ql h6.bb) (λx p _=>hk x<|ql p) (λ_ p _=>p)
  .exact h6.d.move hz (hk wb<|qk rfl) (λx p _=>hk x<|ql p) (λ_ p _=>p)
 lt acc B1 M1 w h:=by
  obtain⟨rfl,h1,h2,h3,h4,h5,D1,h6,h7⟩:=h;rintro x(p|rfl)
  .exact h6.lt x p
  .exact h6.wl
 call acc B1 M1 w n h hN:=by
  obtain⟨rfl,h1,h2,h3,h4,h5,D1,h6,h7⟩:=h;refine(aav (IH n hN) h4 h5 h6).mono ?_;rintro e w'⟨u,D',rfl,hu,hd,hg,hm,_,F⟩;have wl:=h6.wl;have hz:=F.size;refine⟨u,λx=>B1 x\/(w.heap.size<=x/\x<w'.heap.size),_,rfl,hu.wide λx p=>⟨p.2,p.1⟩,⟨rfl,λx p=>ql<|h1 x p,ql h2,ql h3,h4.fr F hsw.1,h5.fr F hsw.2,D',⟨?_,?_,ae,ql h6.bb,?_,?_,hg⟩,λm q=>hm m<|h7 m q⟩,?_,λx q=>ql q,F⟩
  .rintro x(p|p)
   .have:=h6.lt x p;omega
   .exact p.2
  .rintro(p|p)
   .exact h6.nw p
   .omega
  .exact(h6.s.fr F (λe=>h6.nw<|e▸h6.bb)<|λx p _ e=>h6.nw<|e▸p).wide λx p=>ql p
  .refine hd.low.wide λx p=>?_;obtain q|q:=p.1.1
   .exact ql q
   .omega
  .grind
def adD(hK:uq K R rk)(hF:At K R)n(IH:∀t,K n=some t->∀m,aw m t->aau b wb K R m):aau b wb K R n:=by
 intro w B D h;have kb:Bq w ((w.alloc<|Cv #[Mv b] 393).alloc<|Cv #[Mv wb] 343):=(bw _).alloc ag _;have x1:Bx ((w.alloc<|Cv #[Mv b] 393).alloc<|Cv #[Mv wb] 343) w.heap.size #[Mv b]:=(Bx.new w _ _).below<|bw _;have x2:Bx ((w.alloc<|Cv #[Mv b] 393).alloc<|Cv #[Mv wb] 343) (w.heap.size+1) #[Mv wb]:=by
  have:=Bx.new (w.alloc<|Cv #[Mv b] 393) #[Mv wb] 343;simpa using this
 have bl:=h.lt b h.bb;have wl:=h.wl;obtain⟨c1,f1,z1⟩:=x1;obtain⟨c2,f2,z2⟩:=x2;have KB:=ai kb;have HH:=ai h;obtain⟨t,u,E1,h1,hl⟩|⟨E1,hl⟩:=(h.d.af kb).look iy n
 .obtain⟨ta,xa,rfl⟩:=h1.iface;have H1:=ai h1;go_enter func267,ntmps267
  go_wp2
  go_ret;have h:=uh HH;have nw:∀x,B x->Vi B w.heap.size wb x:=λx p=>⟨ql p,λe=>h.nw<|e▸p⟩;obtain⟨rfl,_⟩:=h.g n t E1;exact⟨_,D,rfl,H1.wide nw,(h.d.af KB).wide nw,h.g,λm q=>q,λ_=>by rw[E1];simp,Fr.of KB⟩
 .obtain⟨t,u,e2,h1,Kd⟩|⟨e2,Kd⟩:=(h.s.af kb).look pk n
  .have E2:=ai e2;have hI:ajy b wb w.heap.size (w.heap.size+1) K R B D [] (λx=>B x\/x=w.heap.size\/x=w.heap.size+1) (λi=>i=wb) ((w.alloc<|Cv #[Mv b] 393).alloc<|Cv #[Mv wb] 343):=by
    refine⟨rfl,λx p=>ql p,qk<|ql rfl,qk<|qk rfl,⟨c1,f1,z1⟩,⟨c2,f2,z2⟩,D,⟨?_,?_,ae,ql h.bb,(h.s.af kb).wide λx p=>ql p,(h.d.af kb).wide λx p=>ql p,h.g⟩,λm q=>q⟩
    .rintro x(p|rfl|rfl)
     .have:=h.lt x p;omega
     .omega
     .omega
    .rintro(p|p|p)
     .exact h.nw p
     .omega
     .omega
   have alw:=hF.small n t e2;have HC:=Ao (adC (IH t e2) ae) t [] _ _ _ u B hI (λi hi=>?_) ae h1<|λx p _ q=>h.nw<|q▸p
   case refine_1=>exact Kn t _<|jq hi
   have gL:size (sub (λm=>bL<|R m) t)<=1000000000000:=by
    have:=iD (λm=>bL<|R m) 1001 t (λm _=>hF.size m) aB;have:1001*size t<=1001*48:=qs _ alw;omega
   have HCL:=Vh hK hF e2;obtain⟨ta,xa,rfl⟩:=h1.iface;go_enter func267,ntmps267;go_wp2_with fail;refine HC.mono ?_;rintro e w1⟨u1,B1,M1,rfl,wK,⟨rfl,q1,q2,q3,q4,q5,D1,q6,q7⟩,hB1,hM1,BL⟩;obtain⟨tu,xu,rfl⟩:=wK.iface;have HCu:=aai wK gL;have Q:=And.intro q6<|And.intro q7 hB1;have zf:=BL.size;obtain⟨c3,f3,z3⟩:=q4;obtain⟨c4,f4,z4⟩:=q5;go_wp2_with fail;refine HCu.mono ?_;rintro e w2⟨u2,rfl,wL,K2⟩;rw[HCL]at wL;obtain⟨tu2,xu2,rfl⟩:=wL.iface;obtain⟨q6,HM,hB1⟩:=Q;have z2':=K2.size;have c5:=(Bx.below (show Bx w1 (w.heap.size+1) #[Mv wb]from⟨c4,f4,z4⟩) K2).c
   have PY:∀x,B1 x->Vi B w.heap.size wb x:=λx p=>⟨by
    obtain  (r|r|r)|r:=hB1 x p
    .exact ql r
    .exact qk ae
    .exact qk ae
    .simp only[aY]at r;exact qk ae,λe=>q6.nw<|e▸p⟩
   have S2:=(q6.d.af K2).wide PY
   have U2:=ai (wL.wide (Q:=Vi B w.heap.size wb) λx p=>by
    obtain⟨p1,(p2|p2|p2)|p2⟩|p:=p
    .exact⟨ql p2,p1⟩
    .exact⟨qk ae,p1⟩
    .exact⟨qk ae,p1⟩
    .simp only[aY]at p2;exact⟨qk ae,p1⟩
    .exact⟨qk (by simp only[aY]at zf;omega),by simp only[aY]at zf;omega⟩)
   have HG:=ai q6.g;go_wp2_with(refine li iy rfl _ _ _ (qk rfl) rfl S2 (λq=>q.2 rfl) U2 n rfl rfl ?_;intro w4 H' O';have S4:=ai H';have O4:=ai O';clear H' O');go_ret;have o:=uh O4;refine⟨_,eu D1 n<|some<|bL<|R n,rfl,U2.move Mn (λx p _=>o.block x p.2)<|λ_ p _=>p,S4,λm s hs=>?_,λm hm=>?_,λ_=>by simp[eu],?_⟩
   .by_cases q:m=n
    .simp only[eu,q,if_true,Option.some.injEq]at hs;subst q;exact⟨hs.symm,by rw[uh E2];simp⟩
    .simp only[eu,q,if_false]at hs;exact HG m s hs
   .by_cases q:m=n
    .simp[eu,q]
    .simp only[eu,q,if_false];exact HM m hm
   .exact(((Fr.of KB).trans BL).low<|K2|>.mono (by have:=KB.size;omega)).trans ⟨o.os,o.tape,o.output,Mn,λk _ hk=>o.block k hk⟩
  .have E2:=ai e2;go_enter func267,ntmps267
   go_wp2
   go_ret;have h:=uh HH;have nw:∀x,B x->Vi B w.heap.size wb x:=λx p=>⟨ql p,λe=>h.nw<|e▸p⟩;refine⟨_,D,rfl,?_,(h.d.af KB).wide nw,h.g,λm q=>q,λq=>absurd E2 q,Fr.of KB⟩;rw[hK.open_ n<|uh E2,Km];exact .var n
def Tu{p:Prop}(h:p:=by
 have h3:=jT R m l (by simpa[aw]using hm);have h4:=congrArg size q;simp only[sub,size]at h4
 exact ihs (size<|R m) ae (rk m) m (br _)<|br _):p:=h
def Ko(hK:uq K R rk)(hF:At K R):∀(s r n:Nat),size (R n)<=s->rk n<=r->aau b wb K R n:=by
 intro s
 induction s using qp with
 |ind s ihs=>
  intro r
  induction r using qp with
  |ind r ihr=>
   intro n h1 h2;refine adD hK hF n λt e m hm=>?_;have q:=hK.shut n t e
   cases t with
   |var u=>
    simp only[aw]at hm;subst hm;have:=hK.Yk n u e;refine ihr (rk u) ae u ?_<|br _;rw[q]at h1;simpa[sub]using h1
   |aM c l=>
    exact Tu
end
namespace Un
def uq.ind{K}{R}{rk}(hK:uq K R rk){J:Nat->Prop}(h0:∀n,K n=none->J n)(h1:∀n t,K n=some t->(∀m,aw m t->J m)->J n):∀(s r n:Nat),size (R n)<=s->rk n<=r->J n:=by
 intro s
 induction s using qp with
 |ind s ihs=>
  intro r
  induction r using qp with
  |ind r ihr=>
   intro n hs hr
   cases e:K n with
   |none=>exact h0 n e|some t=>
    refine h1 n t e λm hm=>?_;have q:=hK.shut n t e
    cases t with
    |var u=>
     simp only[aw]at hm;subst hm;have:=hK.Yk n u e;refine ihr (rk u) ae u ?_<|br _;rw[q]at hs;simpa[sub]using hs
    |aM c l=>
     exact Tu
def uq.all{rk}(hK:uq K R rk){J:Nat->Prop}(h0:∀n,K n=none->J n)(h1:∀n t,K n=some t->(∀m,aw m t->J m)->J n)n:J n:=hK.ind h0 h1 _ _ n (br _)<|br _
end Un
section
variable {rk:Nat->Nat}
def aa5(hK:uq K R rk)(hI:Cg V K)n m:n∈V->aw m (R n)->m∈V:=by
 refine hK.all (J:=λn=>n∈V->aw m (R n)->m∈V) (λn e hn ho=>?_) (λn t e ih hn ho=>?_) n
 .rw[hK.open_ n e]at ho;simp only[aw]at ho;subst ho;exact hn
 .rw[hK.shut n t e]at ho;have⟨x,h1,h2⟩:=(mq t).1 ho;exact ih x h1 ((hI n t e).2.v x h1) h2
def DN(hK:uq K R rk)(hI:Cg V K)n:Whole (R n):=by
 refine hK.all (J:=λn=>Whole<|R n) (λn e=>?_) (λn t e ih=>?_) n
 .rw[hK.open_ n e];trivial
 .rw[hK.shut n t e];exact ck t (hI n t e).2.w ih
def Sr{p:Prop}(h:p:=by
 rw[List.length_erase_of_mem ha]at this;have:0<V.length:=List.length_pos_of_mem ha;simp only[yE]
 omega):p:=h
def Ed{l V:List Nat}(h:l.Nodup)(hs:∀x,x∈l->x∈V):l.length<=V.length:=by
 induction l generalizing V with
 |nil=>simp|cons a l ih=>
  have ha:=hs a ag;have hn:=List.nodup_cons.1 h;have:=ih (V:=V.erase a) hn.2 λx hx=>(List.mem_erase_of_ne<|λe=>hn.1 (by rw[<-e];exact hx)).2 (hs x<|by simp[hx]);exact Sr
def Lh(hK:uq K R rk)(hI:Cg V K)(hV:V.length<=1000):At K R where
 whole:=DN hK hI
 small n t e:=(hI n t e).2.z
 len n:=by
  cases e:K n with
  |none=>rw[hK.open_ n e];simp[vars,v7]|some t=>
   have hn:=(hI n t e).1;exact qm (Ed (dF (R n) qg) λx hx=>aa5 hK hI n x hn<|by simpa using(bP (R n) [] x).1 hx) hV
def ClR(P:Nat->Prop)b K R L w gk wr:=
 ∃done D,IG qB wr (w.heap.size+1) b L done gk/\fG wr (λx=>(P x/\x<w.heap.size)\/w.heap.size+2<=x) w.heap.size D/\aat K R D/\(∀n:Nat,(n:Int)∈done->D n≠none)/\Bq w wr
def KW w P b(κ:Nat->Ty):=∃D,fG w P b D/\∀n,(D n=none->κ n=.var n)/\(D n≠none->D n=some (bL<|κ n))
def OX(P:Nat->Prop)R w(e:Ending)w':=∃wb,e=.returned (Mv wb)/\w.heap.size<=wb/\KW w' (λx=>P x\/w.heap.size<=x) wb R/\Bq w w'
variable {w:World} {b:Nat}
def VJ(h:fG w P b K)(hb:P b)(hK:uq K R rk)(hF:At K R):Cq 259 #[Mv b] w (OX P R w):=by
 have HH:=ai h;have bl:=h.lt;have jA:= @run_makeMap Tryz.prog;obtain⟨L,m1,q1,q2,q3⟩:=h;have k1:Bq w (w.alloc<|.map #[] 0):=bw _;have⟨o,cnt,hrg,mi⟩:=(m1.af k1).range pk;rw[aY]at hrg mi;have k2:Bq w ((w.alloc<|.map #[] 0).alloc o):=k1.alloc ag _;have HI:=ai mi;have K2:=ai k2;have S0:Hid (fG ((w.alloc<|.map #[] 0).alloc o) (λx=>(P x/\x<w.heap.size)\/w.heap.size+2<=x) w.heap.size<|λ_=>none):=ai<|(fG.new w _).af<|bw _;have Q:=And.intro q1<|And.intro q2 q3;go_enter func259,ntmps259
 go_wp2
 go_loopg[] cnt (λgk wr=>ClR P b K R L w gk wr)
 case atStart=>exact⟨[],λ_=>none,HI,uh S0,(λn t e=>by cases e),(λn hn=>by simp at hn),uh K2⟩
 case round=>
  obtain⟨done,D,HI,HS,HG,HD,HB⟩:=hrel;have Xs:=HI.lt;have zr:=HB.size;rcases HI.next (P:=qw) Kh with⟨ha,Ea⟩|⟨x,u,w2,aD,hxd,PX,Ea,HI1,bA,xZ,gL,hen⟩
  .go_wp2
   go_ret;refine⟨w.heap.size,rfl,br _,⟨D,HS.wide λx p=>by obtain p|p:=p;exact ql p.1;exact qk ae,λn=>⟨λe=>?_,λe=>?_⟩⟩,HB⟩
   .apply hK.open_ n
    cases hg:a_ (n:Int) L with
    |none=>exact Q.1 n hg|some v=>exact absurd e<|HD n<|ha _ v hg
   .cases hd:D n with
    |none=>exact absurd hd e|some t=>rw[(HG n t hd).1]
  .obtain⟨n,rfl⟩:=Q.2.2 x u PX;have F1:=xZ;have kb:∀i,i<w.heap.size->w2.heap[i]? =w.heap[i]? :=λi hi=>(F1.block i ae ae).trans<|HB.block i hi;have eG:Bq w w2:=⟨F1.os.trans HB.os,F1.tape.trans HB.tape,F1.output.trans HB.output,ae,kb⟩;have alE:Fy b w.heap.size K R (λx=>(P x/\x<w.heap.size)\/(w.heap.size+2<=x/\x<w2.heap.size)) D w2:=by
    refine⟨?_,?_,ae,ql ⟨hb,bl⟩,?_,?_,HG⟩
    .rintro x(p|p)<;>omega
    .rintro(p|p)<;>omega
    .exact HH.move eG.size (kb b bl) (λx _ hx=>kb x hx) (λx p hx=>ql ⟨p,hx⟩)
    .exact(HS.fr F1 ae (λx p _=>by obtain p|p:=p<;>omega)).low.wide λx p=>by
      obtain q|q:=p.1
      .exact ql q
      .exact qk ⟨q,p.2⟩
   have HC:=Ko (b:=b) (wb:=w.heap.size) hK hF (size<|R n) (rk n) n (br _) (br _) w2 _ D alE;have hKn:Hid (K n≠none):=by
    have⟨t,e,_⟩:=Q.2.1 n u PX;rw[e];exact ai ag
   go_wp2_with fail;refine HC.mono ?_;rintro e w3⟨u3,D',rfl,hu3,hd3,G3,M3,hn3,F3⟩;obtain⟨tu,xu,rfl⟩:=hu3.iface;have z3:=F3.size;have N3:=hn3 hKn
   have S3:=ai (hd3.wide (Q:=λx=>(P x/\x<w.heap.size)\/w.heap.size+2<=x) λx p=>by
    obtain  (q|q)|q:=p.1
    .exact ql q
    .exact qk q.1
    .exact qk ae)
   have I3:=HI1.same (F3.block b ae ae)<|F3.block _ ae ae;have K3:=show Bq w w3 from⟨F3.os.trans eG.os,F3.tape.trans eG.tape,F3.output.trans eG.output,by have:=eG.size;omega,λi hi=>(F3.block i ae ae).trans<|eG.block i hi⟩
   go_wp2
   go_roundg aD
   case measure=>exact bA
   case rel=>
    refine⟨(n:Int)::done,D',I3,S3,G3,λm hm=>?_,K3⟩;obtain q|q:=List.mem_cons.1 hm
    .have:m=n:=ae;subst this;exact N3
    .exact M3 m (HD m q)
def aa6(P:Nat->Prop)x y w(e:Ending)w':=Bq w w'/\
 ((∃wb θ,e=.returned (.tuple #[Mv wb,.bool true])/\w.heap.size<=wb/\In.xQ θ x y/\(∀n,Whole<|θ n)/\(∀n,(vars []<|θ n).length<=1000)/\KW w' (λi=>P i\/w.heap.size<=i) wb θ)\/(e=.returned (.tuple #[.map none,.bool false])/\∀σ,sub σ x≠sub σ y))
def aa7{v}(hx:db w P x v)(hy:db w P y u)(hxs:size x<=48)(hys:size y<=48)(hxw:Whole x)(hyw:Whole y):Cq 246 #[v,u] w (aa6 P x y w):=by
 have jA:= @run_makeMap qw;have k1:Bq w (w.alloc<|.map #[] 0):=bw _;have hVx:∀m,aw m x->m∈vars (vars [] x) y:=λm hm=>(bP y _ m).2<|ql<|(bP x [] m).2<|qk hm;have hVy:∀m,aw m y->m∈vars (vars [] x) y:=λm hm=>(bP y _ m).2<|qk hm;have hV1:∀m,m∈vars (vars [] x) y->aw m x\/aw m y:=λm hm=>by
  obtain q|q:=(bP y _ m).1 hm
  .obtain r|r:=(bP x [] m).1 q
   .simp at r
   .exact ql r
  .exact qk q
 have hVl:(vars (vars [] x) y).length<=1000:=by
  have h1:=dc (occs x) [];have h2:=dc (occs y)<|vars [] x;have h3:=dd x;have h4:=dd y;rw[<-cC]at h1 h2;simp at h1;omega
 have HC:=aaq (P:=λi=>P i/\i<w.heap.size) (b:=w.heap.size) (V:=vars (vars [] x) y) ae _ _ (λ_=>none) Ty.var (λ_=>0) x y (br _) (br _) _ v u (fG.new w _) uq.start (λn t e=>by cases e) ⟨hVx,hxs,hxw⟩ ⟨hVy,hys,hyw⟩ (hx.low.af k1) (hy.low.af k1);obtain⟨ta,xa,rfl⟩:=hx.iface;obtain⟨tb,xb,rfl⟩:=hy.iface;have K1:=ai k1;go_enter func246,ntmps246;go_wp2_with fail;refine HC.mono ?_;rintro e w1⟨ok,rfl,F1,h1,h2⟩;have kb:Bq w w1:=by
  have k:=uh K1;exact⟨F1.os.trans k.os,F1.tape.trans k.tape,F1.output.trans k.output,qm k.size F1.size,λi hi=>(F1.block i (by have:=k.size;omega) ae).trans<|k.block i hi⟩
 cases ok with
 |false=>
  have H2:=h2 rfl;have KB:=ai kb
  go_wp2
  go_ret2;refine⟨KB,qk ⟨rfl,λσ=>?_⟩⟩;have:=H2 σ
  rwa[cK,cK]at this
 |true=>
  have⟨K',R',Qi,s1,s2,s3,s4,s5⟩:=h1 rfl;have HC:=VJ (P:=λi=>P i\/w.heap.size<=i) (s1.wide λi p=>ql p.1) (qk<|br _) s2<|Lh s2 s3 hVl;have KB:=ai kb;have H3:=ki s2<|ki s3 s4;go_wp2_with fail;refine HC.mono ?_;rintro e w2⟨wb,rfl,hwb,HK,K2⟩
  go_wp2
  go_ret2;obtain⟨s2,s3,s4⟩:=H3;have kb:=uh KB;refine⟨kb.trans<|K2.mono kb.size,ql ⟨wb,R',rfl,qm kb.size hwb,⟨s4.same,λσ e n=>?_,λn h1 h2=>?_,λn m h1 h2=>?_⟩,DN s2 s3,(Lh s2 s3 hVl).len,?_⟩⟩
  .have:=s4.least σ (by rw[cK,cK];exact e) n;simpa[sub]using this
  .cases e:K' n with
   |none=>exact s2.open_ n e|some t=>obtain q|q:=hV1 n (s3 n t e).1;exact absurd q h1;exact absurd q h2
  .exact hV1 m (aa5 s2 s3 n m (by obtain q|q:=h1;exact hVx n q;exact hVy n q) h2)
  .obtain⟨D,d1,d2⟩:=HK;exact⟨D,d1.wide λi p=>by obtain  (p|p)|p:=p;exact ql p;exact qk p;exact qk<|qm kb.size p,d2⟩
end
section
variable {w:World} {b:Nat} {κ:Nat->Ty}
theorem KW.move(h:KW w P b κ)(hs:w.heap.size<=w'.heap.size)(hb:w'.heap[b]? =w.heap[b]?)(hp:∀x,P x->x<w.heap.size->w'.heap[x]? =w.heap[x]?)(hq:∀x,P x->x<w.heap.size->Q x):KW w' Q b κ:=by
 obtain⟨D,h1,h2⟩:=h;exact⟨D,h1.move hs hb hp hq,h2⟩
def KW.af(h:KW w P b κ)(hb:Bq w w'):KW w' P b κ:=by obtain⟨D,h1,h2⟩:=h;exact⟨D,h1.af hb,h2⟩
def KW.wide(h:KW w P b κ)(hq:∀x,P x->Q x):KW w Q b κ:=by obtain⟨D,h1,h2⟩:=h;exact⟨D,h1.wide hq,h2⟩
def KW.fr{S}(h:KW w P b κ)(hf:Fr S w w')(hb:¬S b)(hS:∀x,P x->x<w.heap.size->¬S x):KW w' P b κ:=by obtain⟨D,h1,h2⟩:=h;exact⟨D,h1.fr hf hb hS,h2⟩
def KW.lt(h:KW w P b κ):b<w.heap.size:=by obtain⟨D,h1,h2⟩:=h;exact h1.lt
def yD(h:∀n,(D n=none->κ n=.var n)/\(D n≠none->D n=some (bL<|κ n)))n:Ef D n=bL (κ n):=by
 rw[Ef]
 cases e:D n with
 |none=>rw[(h n).1 e,Km];rfl|some t=>grind
structure vM(κ:Nat->Ty):Prop where
 wh:∀n,Whole<|κ n
 len:∀n,(vars []<|κ n).length<=1000000
theorem vM.sz(h:vM κ)n:size (bL<|κ n)<=1000001:=by have:=fI (h.wh n) (h.len n) aB;omega
structure TW w P S x v:Prop where
 ex:∃x',db w P x' v/\dR x' x/\size x'<=S
 wh:Whole x
theorem TW.move{S}{x}{v}(h:TW w P S x v)(hs:w.heap.size<=w'.heap.size)(hb:∀b,P b->b<w.heap.size->w'.heap[b]? =w.heap[b]?)(hq:∀b,P b->b<w.heap.size->Q b):TW w' Q S x v:=by
 obtain⟨⟨x',h1,h2,h3⟩,h4⟩:=h;exact⟨⟨x',h1.move hs hb hq,h2,h3⟩,h4⟩
def TW.af{v:Value}(h:TW w P S x v)(hb:Bq w w'):TW w' P S x v:=h.move hb.size (λb _ hz=>hb.block b hz)<|λ_ p _=>p
def TW.wide{v:Value}(h:TW w P S x v)(hq:∀x,P x->Q x):TW w Q S x v:=h.move (br _) (λ_ _ _=>rfl)<|λb p _=>hq b p
def TW.fr{v:Value}(h:TW w P S x v)(hf:Fr F w w')(hS:∀b,P b->b<w.heap.size->¬F b):TW w' P S x v:=h.move hf.size (λb p z=>hf.block b z<|hS b p z)<|λ_ p _=>p
def TW.iface{S}{x}{v}(h:TW w P S x v):∃a y,v=.iface a y:=by obtain⟨⟨x',h1,_⟩,_⟩:=h;exact h1.iface
def TW.le{S'}{v:Value}(h:TW w P S x v)(hs:S<=S'):TW w P S' x v:=by obtain⟨⟨x',h1,h2,h3⟩,h4⟩:=h;exact⟨⟨x',h1,h2,qm h3 hs⟩,h4⟩
def TW.of{v:Value}(h:db w P x v)(hw:Whole x)(hs:size x<=S):TW w P S x v:=⟨⟨x,h,dR.refl x,hs⟩,hw⟩
def uv(h:KW w P b κ)(hb:P b)(hf:vM κ)(hS:S<=900000){v:Value}(hx:TW w Q S x v):Cq 214 #[Mv b,v] w (Rl (bL<|sub κ x) P w):=by
 obtain⟨D,h1,h2⟩:=h;obtain⟨⟨x',t1,t2,t3⟩,t4⟩:=hx;have e:bL (sub (Ef D) x')=bL (sub κ x):=by
  refine dR.Rs (t2.sub λn _=>?_)<|ck x t4 λn _=>hf.wh n;rw[yD h2 n];exact dR.afn _<|hf.wh n
 rw[<-e];refine Iq h1 hb t1 ae ?_;have q:=iD (Ef D) 1000001 x' (λn _=>by rw[yD h2 n];exact hf.sz n) aB;have:1000001*size x'<=1000001*900000:=qs _ ae;omega
def TW.Xw{v:Value}(hx:TW w P S x v)(hf:vM κ)(hS:S<=900000):size (bL<|sub κ x)<=1000000000000:=by
 obtain⟨⟨x',t1,t2,t3⟩,t4⟩:=hx;have hw:=ck x t4 λn _=>hf.wh n;have e:=dR.Rs (t2.sub λn _=>dR.afn _<|hf.wh n) hw;have q:=iD (λn=>bL<|κ n) 1000001 x' (λn _=>hf.sz n) aB;have q2:1000001*size x'<=1000001*900000:=qs _ ae;have hl:(vars []<|sub κ x).length<=1000001*900000:=by
  have h1:=gZ<|sub κ x;rw[<-e,gZ]at h1;rw[<-h1,cC];have h2:=dc (occs<|sub (λn=>bL<|κ n) x') [];have h3:=dd<|sub (λn=>bL<|κ n) x';simp only[qO]at h2;omega
 have:=fI hw hl aB;omega
end
abbrev guW(f:Fl)(vl vr:Value):Value:=.iface 340<|.agg #[Nv f.kind,Nv f.al,Nv f.to,vl,vr]
structure ru w P(x:In.Ft)(vl vr:Value):Prop where
 qN:x.f.kind=7->vl=.nilIface/\vr=.nilIface
 apart:x.f.kind=6->dW w P x.l vl/\dW w P x.r vr
 k:x.f.kind=6\/x.f.kind=7
def adU(P:Nat->Prop)κ u x y f t w(e:Ending)w':=Bq w w'/\∃o,In.ur x y f t ⟨κ,u⟩ o/\match o with
 |.ok (_,s)=>∃b,e=.returned (Mv b)/\w.heap.size<=b/\KW w' (λi=>P i\/w.heap.size<=i) b s.k/\∀n,Whole (s.k n)|.error z=>∃vl vr,e=.panicked [{v:=guW z.f vl vr,recovered:=false}]/\ru w' (λi=>P i\/w.heap.size<=i) z vl vr
section
variable {w:World}
def nh f t:Cq 216 #[.agg #[Iv f,Iv t]] w λe w'=>e=.returned (.agg #[Iv 7,Iv f,Iv t,.nilIface,.nilIface])/\Bq w w':=by
 go_enter func216,ntmps216
 go_wp2
 exact bodyPost_ret (v:=Av #[Iv 7,Iv f,Iv t,Zv,Zv]) (by simp[results,Tryz.results216,go_sem]) rfl ⟨rfl,(bw _).alloc ag _⟩
def Gq f t ta tb xa xb:Cq 247 #[.agg #[Iv f,Iv t],.iface ta xa,.iface tb xb] w λe w'=>e=.returned (.agg #[Iv 6,Iv f,Iv t,.iface ta xa,.iface tb xb])/\Bq w w':=by
 go_enter func247,ntmps247
 go_wp2
 exact bodyPost_ret (v:=Av #[Iv 6,Iv f,Iv t,Fv ta xa,Fv tb xb]) (by simp[results,Tryz.results247,go_sem]) rfl ⟨rfl,(bw _).alloc ag _⟩
variable {b:Nat} {κ:Nat->Ty}
def Em t(hw:Whole t):(48<sz (bL t)↔48<size t)/\(size t<=48->bL t=t):=by
 refine⟨(dR.afn t hw).aeY hw,λh=>yW h hw⟩
def Ii(h:KW w P b κ)(hb:P b)(hf:vM κ)(hS:S<=900000){v:Value}(hx:TW w P S x v)(hy:TW w P S y u)f t us:
 Cq 224 #[Mv b,v,u,.agg #[Nv f,Nv t]] w (adU P κ us x y f t w):=by
 have⟨k0,B0⟩:=rq w #[Nv f,Nv t] 72;have hxw:=ck x hx.wh λn _=>hf.wh n;have hyw:=ck y hy.wh λn _=>hf.wh n;have H1:=uv (h.af k0) hb hf hS<|hx.af k0;have HH:=ai h;have K0:=ai k0;obtain⟨ta,xa,rfl⟩:=hx.iface;obtain⟨tb,xb,rfl⟩:=hy.iface;clear h k0;go_enter func224,ntmps224;go_wp2_with fail;refine H1.mono ?_;rintro e w1⟨u1,rfl,wK,k1⟩;have KK1:=K0.trans<|k1.mono K0.size;have H2:=uv (HH.af KK1) hb hf hS<|hy.af KK1;have U1:=wK.wide (Q:=λi=>P i\/w.heap.size<=i) λi p=>by obtain p|p:=p;exact Or.inl p;exact Or.inr<|Nat.le_trans K0.size p
 have B1:=B0.below k1;obtain⟨yT,yU,rfl⟩:=wK.iface;clear wK k1 H1 B0;go_wp2_with fail;refine H2.mono ?_;rintro e w2⟨u2,rfl,wL,k2⟩;have XU:=KK1.trans<|k2.mono KK1.size;have U1':=U1.af k2;have U2':=wL.wide (Q:=λi=>P i\/w.heap.size<=i) λi p=>by obtain p|p:=p;exact ql p;exact qk<|qm KK1.size p
 have B2:=B1.below k2;obtain⟨tb1,xb1,rfl⟩:=wL.iface;have S1:=pR _ w2 _ _ U1'<|hx.Xw hf hS;have S2:=λ(W:World)(hk:Bq w2 W)=>pR _ W _ _ (U2'.af hk)<|hy.Xw hf hS;obtain⟨n1,N1⟩:∃n,n=sz (bL<|sub κ x):=⟨_,rfl⟩;obtain⟨n2,N2⟩:∃n,n=sz (bL<|sub κ y):=⟨_,rfl⟩;rw[<-N1]at S1;rw[<-N2]at S2;clear wL k2 H2 B1 U1 KK1;go_wp2_with fail;refine S1.mono ?_;rintro e w3⟨rfl,K3⟩;have S2:=S2 w3 K3;have B3:=B2.below K3;clear S1 B2;go_wp2_with fail;refine S2.mono ?_;rintro e w4⟨rfl,k4⟩;have B4:=ai<|B3.below k4;have k34:=K3.trans<|k4.mono K3.size;have KK4:=XU.trans<|k34.mono XU.size;have U3:=U1'.af k34;have U4:=U2'.af k34;clear k4 S2 B3 k34 K3 U1' U2' XU;have⟨c4,f4,z4⟩:=uh B4;have e1:=Em (sub κ x) hxw;have e2:=Em (sub κ y) hyw;rw[<-N1]at e1;rw[<-N2]at e2;have E1:=ai e1;have E2:=ai e2;clear e1 e2;have KX:=hf.wh;by_cases bA:n1<n2
 all_goals(
  by_cases XV:48<n1\/48<n2
  .first|(have hm:(48:Int)<(n1:Int):=by omega)|(have hm:(48:Int)<(n2:Int):=by omega)
   have HT:=nh (w:=w4) (f:Int) (t:Int);go_wp2_with fail;refine HT.mono ?_;rintro e w5⟨rfl,k5⟩;have K5:=ai k5;clear k5 HT;go_wp2_with fail;have Xx:=KK4.trans<|K5.mono KK4.size;refine⟨rfl,Xx,.error<|In.qN f t,ql ⟨?_,rfl⟩,Zv,Zv,rfl,⟨λ_=>⟨rfl,rfl⟩,(λh=>Mp),qk rfl⟩⟩;obtain q|q:=XV
   .exact ql (E1.1.1 q)
   .exact qk (E2.1.1 q)
  .have hm1:¬(48:Int)<(n1:Int):=ae;have hm2:¬(48:Int)<(n2:Int):=ae;have s1:size (sub κ x)<=48:=by have:=E1.1;omega
   have s2:size (sub κ y)<=48:=by have:=E2.1;omega
   have V1:=U3;have V2:=U4;rw[(uh E1).2 s1]at V1;rw[(uh E2).2 s2]at V2;have HU:=aa7 V1 V2 s1 s2 hxw hyw;go_wp2_with fail;refine HU.mono ?_;rintro e w5⟨k5,hp⟩;have B5:=ai<|B4.below k5;have⟨c5,f5,z5⟩:=uh B5;have K5:=ai k5;have KK5:=ai<|KK4.trans<|k5.mono KK4.size;have adV:=ki s1 s2;have z45:=k5.size;have z04:=KK4.size;clear c4 f4 z4 HU s1 s2 k5;obtain⟨wb,θ,rfl,hwb,hM,hWh,hLn,hKW⟩|⟨rfl,HN⟩:=hp
   .have hko:KW w5 (λi=>P i\/w.heap.size<=i) b κ:=(HH.af KK5).wide λi p=>ql p;have hkn:=hKW.wide λi p=>by
     obtain p|p:=p
     .exact p
     .exact qk ae
    obtain⟨D1,d1,d2⟩:=hko;obtain⟨D2,e1,e2⟩:=hkn;have gL:∀n t,D1 n=some t->size t<=1000000000000/\size (sub (Ef D2) t)<=1000000000000:=λn t ht=>by
     have h1:=(d2 n).2 (by rw[ht];simp);rw[ht]at h1;injection h1 with h1;subst h1;have h2:=hf.sz n;have h3:=iD (Ef D2) 1001 (bL<|κ n) (λm _=>by rw[yD e2 m];have:=fI (hWh m) (hLn m) aB;omega) aB;have h4:1001*size (bL<|κ n)<=1001*1000001:=qs _ h2;exact⟨ae,ae⟩
    have HT:=adA d1 e1 (qk ae) gL;have HD:=ki d2 e2;have HMW:=ki hM hWh;clear d1 e1 d2 e2 gL hKW hLn hM hWh;go_wp2_with fail;refine HT.mono ?_;rintro e w6⟨b3,rfl,oS,S3,K6⟩;clear HT
    go_wp2
    go_ret;have Xx:=KK5.trans<|K6.mono KK5.size;obtain⟨d2,e2⟩:=HD;obtain⟨hM,hWh⟩:=HMW;have hwt:∀n,Whole<|sub θ<|κ n:=λn=>ck _ (KX n) λm _=>hWh m;refine⟨Xx,.ok ((),⟨λn=>sub θ<|κ n,us⟩),qk ⟨adV.1,adV.2,ql ⟨θ,hM,rfl⟩⟩,b3,rfl,ae,⟨Aq D1 D2,S3.wide λi p=>?_,λn=>⟨λq=>?_,λq=>?_⟩⟩,hwt⟩
    .obtain p|p:=p
     .exact p
     .exact qk ae
    .rw[Aq]at q
     cases hd:D1 n with
     |none=>
      rw[hd]at q;show sub θ (κ n)=_;rw[(d2 n).1 hd,sub,(e2 n).1 q]
     |some t=>rw[hd]at q;cases q
    .rw[Aq]
     cases hd:D1 n with
     |none=>
      show D2 n=some (bL<|sub θ<|κ n);rw[(d2 n).1 hd,sub];refine(e2 n).2 λr=>q ?_;rw[Aq];rw[hd];exact r
     |some t=>
      have h1:=(d2 n).2 (by rw[hd];simp);rw[hd]at h1;injection h1 with h1;subst h1;show some (bL<|sub (Ef D2)<|bL<|κ n)=some (bL<|sub θ<|κ n);congr 1;refine dR.Rs ((dR.afn _<|KX n).sub λm _=>?_)<|hwt n;rw[yD e2 m];exact dR.afn _<|hWh m
   .have HA:=Gq (w:=w5) (f:Int) (t:Int) yT tb1 yU xb1;go_wp2_with fail;refine HA.mono ?_;rintro e w6⟨rfl,K6⟩;clear HA;go_wp2_with fail;have k46:=K5.trans<|K6.mono K5.size;have Xx:=KK5.trans<|K6.mono KK5.size;refine⟨rfl,Xx,.error ⟨⟨6,f,t⟩,sub κ x,sub κ y⟩,qk ⟨adV.1,adV.2,qk ⟨HN,rfl⟩⟩,Fv yT yU,Fv tb1 xb1,rfl,⟨(λh=>Mp),λ_=>⟨?_,?_⟩,ql rfl⟩⟩
    .exact(V1.af k46).v hxw
    .exact(V2.af k46).v hyw)
end
section
variable [DecidableEq κ] {enc:κ->Value}
def Fp(x:κ):List (κ×Value)->List (κ×Value)
 |[]=>[]|p::l=>if p.1=x then l else p::Fp x l
def Ls(x:κ):∀(L:List (κ×Value)),List.Sublist (Fp x L) L
 |[]=>List.Sublist.slnil|p::l=>by
  rw[Fp];split
  .exact List.sublist_cons_self _ _
  .exact(Ls x l).cons_cons p
def yM(x y:κ):∀{L:List (κ×Value)},(L.map (·.1)).Nodup->a_ y (Fp x L)=if x=y then none else a_ y L
 |[],_=>by simp[Fp,a_]|p::l,h=>by
  simp only[jd,jl]at h;unfold Fp;by_cases e:p.1=x
  .rw[if_pos e];by_cases q:x=y
   .rw[if_pos q]
    cases hg:a_ y l with
    |none=>rfl|some v=>exact absurd (tM.1 (by rw[hg];rfl)) (by rw[<-q,<-e];exact h.1)
   .rw[if_neg q]
    conv=>rhs;unfold a_
    rw[if_neg<|λr=>q<|e.symm.trans r]
  .rw[if_neg e];unfold a_;rw[yM x y h.2];by_cases q:p.1=y
   .rw[if_pos q,if_pos q,if_neg<|λr=>e<|q.trans r.symm]
   .rw[if_neg q,if_neg q]
def SS(x:κ):∀(L:List (κ×Value))(es:List MapEntry)(i j:Nat)(u:Value),es.map (λe=>(e.key,e.val))=L.map (λp=>(enc p.1,p.2))->yl x L i=some (j,u)->i<=j/\(es.eraseIdx<|j-i).map (λe=>(e.key,e.val))=(Fp x L).map (λp=>(enc p.1,p.2))
 |[],es,i,j,u,_,h=>by simp[yl]at h|p::l,[],i,j,u,h,_=>vQ|p::l,e0::es,i,j,u,np,h=>by
  simp only[jd,List.cons.injEq,Prod.mk.injEq]at np;rw[yl]at h;split at h
  .rename_i hp;simp only[Option.some.injEq,Prod.mk.injEq]at h;obtain⟨rfl,rfl⟩:=h;refine⟨br _,?_⟩;simp[Fp,hp,np]
  .rename_i hp;have⟨h1,h4⟩:=SS x l es (i+1) j u np.2 h;refine⟨ae,?_⟩;rw[show j-i=(j-(i+1))+1 by omega];simp[Fp,hp,h4,np]
def Fx(x:κ):∀(L:List (κ×Value)),a_ x L=none->Fp x L=L
 |[],_=>rfl|p::l,h=>by
  rw[a_]at h;rw[Fp];split
  .rename_i e;rw[if_pos e]at h;cases h
  .rename_i e;rw[if_neg e]at h;rw[Fx x l h]
variable {w:World} {b:Nat} {L:List (κ×Value)} {P:Program} {t:TypeId}
def Tv{p:Prop}(h:p:=by
 simp[Builtin.delete_,run_underlying ht,vw hb,K.chk,hf,vo _ hb,kg,setBlock]):p:=h
def MG.del(K:KL P k enc (λ_ _=>True))(h:MG enc w b L)(ht:P.underlying t=some (.map k e))x ty:∃o,(Builtin.delete_ #[t,k] ty #[Mv b,enc x]).run P w=.ok (.tuple #[]) (setBlock w b o)/\MG enc (setBlock w b o) b (Fp x L):=by
 obtain⟨es,clock,hb,np,hn,hk,hd⟩:=h;have hf:=K.fin x L es.toList w trivial (λ_ _=>trivial) np
 cases ym:yl x L 0 with
 |none=>
  rw[ym]at hf;refine⟨.map es clock,?_,es,clock,heap_setBlock_same hb _,?_,hn,hk,?_⟩
  .exact Tv
  .rw[Fx x L<|oO x L 0 ym];exact np
  .rw[Fx x L<|oO x L 0 ym];exact hd
 |some p=>
  obtain⟨j,u⟩:=p;rw[ym]at hf;have⟨_,h4⟩:=SS (enc:=enc) x L es.toList 0 j u np ym;have⟨_,e0,h2,_,_⟩:=EP (enc:=enc) x u L es.toList 0 j u np ym;have hjs:j<es.size:=by
   have:=(List.getElem?_eq_some_iff.1 h2).1;simpa using this
  have amJ:(es.eraseIdxIfInBounds j).toList=es.toList.eraseIdx j:=by
   rw[Array.eraseIdxIfInBounds];rw[dif_pos hjs];simp
  refine⟨.map (es.eraseIdxIfInBounds j) clock,?_,_,clock,heap_setBlock_same hb _,?_,?_,?_,?_⟩
  .exact Tv
  .grind
  .grind
  .grind
  .exact hd.sublist ((Ls x L).map _)
def H_(K:KL P k enc (λ_ _=>True))(ht:P.underlying t=some (.map k e)){a}{Q}(hg:o.guard=none)m x(EB:o.op=Op.call {callee:=Callee.builtin Builtin.delete,args:=#[m,x],argTypes:=#[t,k]})(hm:a.eval m=Mv b)(hM:MG enc w b L)key(hx:a.eval x=enc key)(hK:∀w',MG enc w' b (Fp key L)->One b w w'->wpList P ops Q rest (a.put o.dst<|.tuple #[]) w'):
 wpList P ops Q (o::rest) a w:=by
 refine wpList_plain hg λK' hK'=>?_;have⟨ob,lR,r1⟩:=hM.del K ht key o.type;rw[Oper.wp,execOp];simp only[EB,resolve,invoke,builtin,Sem.run_bind,Sem.run_pure,Result.andThen_ok,List.map_toArray,jd,jz,hm,hx,lR];exact hK' _ _<|hK _ r1<|One.set w b ob
end
abbrev PW:KL qw 9 xo (λ_ _=>True):=KL.str qx
def str_inj:∀x y,xo x=xo y->x=y:=xY
def ri(w:World)(P:Nat->Prop)(sa:Option Addr)l:=l=[]\/∃g,sa=some ⟨g,0,none⟩/\P g/\g<w.heap.size/\∀i(h:i<l.length),w.cell? ⟨g,i,none⟩=some (Nv<|l[i])
def n_ w P(c:zu)(v:Value):=∃ta xa sa sc,v=.agg #[.iface ta xa,.slice sa c.any.length sc]/\TW w P 900000 c.of (.iface ta xa)/\ri w P sa c.any
def bS w P b(Γ:zh):=∃L,MG xo w b L/\(∀x,a_ x L=none->Γ x=none)/\∀x v,a_ x L=some v->∃c,Γ x=some c/\n_ w P c v
section
variable {w:World} {b:Nat}
theorem ri.move{l}(h:ri w P sa l)(hs:w.heap.size<=w'.heap.size)(hb:∀b,P b->b<w.heap.size->w'.heap[b]? =w.heap[b]?)(hq:∀b,P b->b<w.heap.size->Q b):ri w' Q sa l:=by
 obtain h|⟨g,h1,h2,h3,h4⟩:=h
 .exact ql h
 .exact qk ⟨g,h1,hq g h2 h3,qn h3 hs,λi hi=>(qy (a:=⟨g,i,none⟩)<|hb g h2 h3).trans<|h4 i hi⟩
theorem n_.move{c}{v}(h:n_ w P c v)(hs:w.heap.size<=w'.heap.size)(hb:∀b,P b->b<w.heap.size->w'.heap[b]? =w.heap[b]?)(hq:∀b,P b->b<w.heap.size->Q b):n_ w' Q c v:=by
 obtain⟨ta,xa,sa,sc,h1,h2,h3⟩:=h;exact⟨ta,xa,sa,sc,h1,h2.move hs hb hq,h3.move hs hb hq⟩
def n_.af{c:zu}{v:Value}(h:n_ w P c v)(hb:Bq w w'):n_ w' P c v:=h.move hb.size (λb _ hz=>hb.block b hz)<|λ_ p _=>p
def bS.lt(h:bS w P b Γ):b<w.heap.size:=qAr
theorem bS.move(h:bS w P b Γ)(hs:w.heap.size<=w'.heap.size)(cr:w'.heap[b]? =w.heap[b]?)(hb:∀b,P b->b<w.heap.size->w'.heap[b]? =w.heap[b]?)(hq:∀b,P b->b<w.heap.size->Q b):bS w' Q b Γ:=by
 obtain⟨L,h1,h2,h3⟩:=h;exact⟨L,h1.same cr,h2,λx v hx=>by have⟨c,e,hc⟩:=h3 x v hx;exact⟨c,e,hc.move hs hb hq⟩⟩
def bS.af(h:bS w P b Γ)(hb:Bq w w'):bS w' P b Γ:=h.move hb.size (hb.block b h.lt) (λb _ hz=>hb.block b hz)<|λ_ p _=>p
def bS.wide(h:bS w P b Γ)(hq:∀x,P x->Q x):bS w Q b Γ:=h.move (br _) rfl (λ_ _ _=>rfl) (λb p _=>hq b p)
def bS.fr{S}(h:bS w P b Γ)(hf:Fr S w w')(hb:¬S b)(hS:∀x,P x->x<w.heap.size->¬S x):bS w' P b Γ:=h.move hf.size (hf.block b h.lt hb) (λx p z=>hf.block x z<|hS x p z)<|λ_ p _=>p
def bS.new(w:World)P:bS (w.alloc<|.map #[] 0) P w.heap.size (λ_=>none):=⟨[],MG.new _ w,λ_ _=>rfl,λx v h=>qBg⟩
def oq{a}{F}(hg:o.guard=none)m x v(EB:o.op=kw 112 m x v\/o.op=kv 112 m x v)(hm:a.eval m=Mv b)(h:bS w P b Γ)(hP:¬P b){c:zu}(hc:n_ w P c u)n(hx:a.eval x=.string n)(hv:a.eval v=u)(hK:∀w',bS w' P b (zd Γ n c)->One b w w'->wpList qw ops F rest (a.put o.dst undef) w'):
 wpList qw ops F (o::rest) a w:=by
 obtain⟨L,h1,h2,h3⟩:=h;refine cu PW eh hg m x v EB hm h1 n u hx hv λw' hM o=>hK w' ⟨_,hM,λy hy=>?_,λy z hy=>?_⟩ o
 .rw[aN]at hy;by_cases e:n=y
  .grind
  .rw[if_neg e]at hy;simp only[zd,if_neg<|ku e];exact h2 y hy
 .have mv:∀{c v},n_ w P c v->n_ w' P c v:=λh=>h.move Mn (λx p _=>o.block x<|λe=>hP<|e▸p)<|λ_ p _=>p;rw[aN]at hy;by_cases e:n=y
  .rw[if_pos e]at hy;injection hy with hy;subst hy e;exact⟨c,by simp[zd],mv hc⟩
  .rw[if_neg e]at hy;have⟨c',q1,q2⟩:=h3 y z hy;exact⟨c',by simp only[zd,if_neg<|ku e];exact q1,mv q2⟩
open Classical in
noncomputable def ovD (xE Mm:zh) (done:List BA) (x:BA):Option zu:=if x∈done then zo xE Mm x else Mm x
def aiD P b1 b2(Mm xE:zh)L w gk wr:=
 ∃done,IG xo wr w.heap.size b2 L done gk/\bS wr P b1 (ovD xE Mm done)/\Fr (λi=>i=b1) w wr
def acB(h1:bS w P b1 Mm)(h2:bS w P b2 xE)(hP:¬P b1)(bA:∀x,P x->x<w.heap.size)(hn:b1≠b2):
 Cq 250 #[Mv b1,Mv b2] w λe w'=>e=.returned (.tuple #[])/\bS w' P b1 (zo xE Mm)/\Fr (λi=>i=b1) w w':=by
 have l1:=h1.lt;have l2:=h2.lt;obtain⟨L,m2,q1,q2⟩:=h2;obtain⟨o,cnt,hrg,mi⟩:=m2.range eh;have k1:Bq w (w.alloc o):=bw _;have HI:=ai mi;have H1:=h1.af k1;have K1:=ai k1;have Q:=And.intro q1 q2;go_enter func250,ntmps250
 go_wp2
 go_loopg[] cnt (λgk wr=>aiD P b1 b2 Mm xE L w gk wr)
 case atStart=>
  refine⟨[],HI,?_,Fr.of K1⟩;have e:ovD xE Mm []=Mm:=by funext x;simp[ovD]
  rw[e];exact H1
 case round=>
  obtain⟨done,HI,HE,hF⟩:=hrel;have HF:=ai hF;have Xs:=HI.lt;have zr:=hF.size;rcases HI.next (P:=qw) str_inj with⟨ha,Ea⟩|⟨x,u,w2,aD,hxd,PX,Ea,Hw,H8,xZ,gL,hen⟩
  .go_wp2
   go_end0;refine⟨rfl,?_,HF⟩;have e:ovD xE Mm done=zo xE Mm:=by
    funext y;unfold ovD;by_cases q:y∈done
    .rw[if_pos q]
    .rw[if_neg q];have:xE y=none:=by
      cases hg:a_ y L with
      |none=>exact Q.1 y hg|some v=>exact absurd (ha _ v hg) q
     simp only[zo,this]
   rw[<-e];exact HE
  .obtain⟨c,EC,hc⟩:=Q.2 x u PX;have BL:=xZ;have nP:∀i,P i->¬i=w.heap.size:=λi hi e=>by have:=bA i hi;omega
   have E2:=HE.fr BL ae<|λi p _=>nP i p;have c2:=(hc.move (w':=wr) zr (λi p z=>HF.block i z<|λe=>hP<|e▸p)<|λ_ p _=>p).move (w':=w2) (Q:=P) ae (λi p z=>BL.block i z<|nP i p)<|λ_ p _=>p;obtain⟨ta,xa,sa,sc,rfl,t1,t2⟩:=c2;have ul:Bq w2 (w2.alloc<|.cells #[.iface ta xa,.slice sa c.any.length sc] 354):=bw _;have E3:=E2.af ul;have C3:=(n_.af ⟨ta,xa,sa,sc,rfl,t1,t2⟩ ul);have I3:=Hw.same (ul.block b2 ae)<|ul.block w.heap.size ae;have K3:=ai ul;go_wp2_with(refine oq rfl _ _ _ (qk rfl) rfl E3 hP C3 x rfl rfl ?_;intro w4 H' O';have S4:=ai H';have O4:=ai O';clear H' O');go_roundg aD
   case measure=>exact H8
   case rel=>
    have o:=uh O4;have k3:=uh K3;have f1:=BL;refine⟨x::done,I3.same (o.block b2<|ku hn)<|o.block _ ae,?_,?_⟩
    .have e:ovD xE Mm (x::done)=zd (ovD xE Mm done) x c:=by
      funext y;by_cases q:y=x
      .subst q;simp[ovD,zd,zo,EC]
      .simp only[ovD,zd,if_neg q];by_cases r:y∈done
       .rw[if_pos<|ji _ r,if_pos r]
       .rw[if_neg<|λh=>(List.mem_cons.1 h).elim q r,if_neg r]
     rw[e];exact S4
    .have hF:=uh HF;refine⟨o.os.trans<|k3.os.trans<|f1.os.trans hF.os,o.tape.trans<|k3.tape.trans<|f1.tape.trans hF.tape,o.output.trans<|k3.output.trans<|f1.output.trans hF.output,by rw[o.size];have:=k3.size;omega,λi hi hni=>?_⟩;rw[o.block i hni,k3.block i ae,f1.block i ae ae,hF.block i hi hni]
def H9(h:bS w P b Γ):Cq 249 #[Mv b] w λe w'=>e=.returned (Mv w.heap.size)/\bS w' P w.heap.size Γ/\Bq w w'/\w'.heap.size=w.heap.size+1:=by
 obtain⟨L,h1,h2,h3⟩:=h;refine(Xt h1).mono ?_;rintro e w'⟨rfl,m,k,z⟩;exact⟨rfl,⟨L,m,h2,λx v hx=>by have⟨c,q1,q2⟩:=h3 x v hx;exact⟨c,q1,q2.af k⟩⟩,k,z⟩
def pJ P(Γ:zh)w(e:Ending)w':=∃b,e=.returned (Mv b)/\w.heap.size<=b/\bS w' P b Γ/\Bq w w'
def bS.low(h:bS w P b Γ):bS w (λx=>P x/\x<w.heap.size) b Γ:=h.move (br _) rfl (λ_ _ _=>rfl) (λb p z=>⟨p,z⟩)
def Ct(h1:bS w P b1 Mm)(h2:bS w P b2 xE):Cq 231 #[Mv b1,Mv b2] w (pJ P (zo xE Mm) w):=by
 have HC:=H9 h1.low;have l2:=h2.lt;have H2:=ai h2.low;go_enter func231,ntmps231;go_wp2_with fail;refine HC.mono ?_;rintro e w1⟨rfl,h3,K1,Z1⟩;have HD:=acB h3 (H2.af K1) ae (λx p=>ae) ae;go_wp2_with fail;refine HD.mono ?_;rintro e w2⟨rfl,H4,Uf⟩
 go_wp2
 go_ret;have k:=K1;have f:=Uf;refine⟨w.heap.size,rfl,br _,H4.wide λx p=>p.1,⟨f.os.trans k.os,f.tape.trans k.tape,f.output.trans k.output,qm k.size f.size,λi hi=>(f.block i (by have:=Z1;omega) ae).trans<|k.block i hi⟩⟩
def yt(Γ:zh)x(c:zu):zo (zd (λ_=>none) x c) Γ=zd Γ x c:=by
 funext y;unfold zo zd;by_cases e:y=x
 .simp[e]
 .simp[e]
def x_(h:bS w P b Γ)x{c:zu}{v:Value}(hc:n_ w P c v):Cq 219 #[Mv b,.string x,v] w (pJ P (zd Γ x c) w):=by
 have jA:= @run_makeMap Tryz.prog;have hc0:=hc;obtain⟨ta,xa,sa,sc,rfl,t1,t2⟩:=hc;have k1:Bq w ((w.alloc<|Cv #[Fv ta xa,Lv sa c.any.length sc] 354).alloc<|.map #[] 0):=(bw _).alloc ag _;have E1:=bS.new (w.alloc<|Cv #[Fv ta xa,Lv sa c.any.length sc] 354)<|λi=>P i/\i<w.heap.size;have C1:=(hc0.move (Q:=λi=>P i/\i<w.heap.size) (br _) (λ_ _ _=>rfl)<|λi p z=>⟨p,z⟩).af k1;have K1:=ai k1;rw[aY]at E1;go_enter func219,ntmps219;go_wp2_with(refine oq rfl _ _ _ (Or.inl rfl) rfl E1 ae C1 x rfl rfl ?_;intro w4 H' O';have S4:=ai H';have O4:=ai O';clear H' O');have o:=uh O4;have k:=uh K1;have kk:Bq w w4:=⟨o.os.trans k.os,o.tape.trans k.tape,o.output.trans k.output,by rw[o.size];exact k.size,λi hi=>(o.block i ae).trans<|k.block i hi⟩;have HW:=Ct (h.af kk)<|S4.wide λi p=>p.1;rw[yt]at HW;refine HW.mono ?_;rintro e w5⟨b5,rfl,hb5,H5,K5⟩;have KK:=ai kk
 go_wp2
 go_ret;have kk:=uh KK;exact⟨b5,rfl,qm kk.size hb5,H5,kk.trans<|K5.mono kk.size⟩
def Ug(h:bS w P b Γ)x:Cq 262 #[Mv b,.string x] w (pJ P (zy Γ x) w):=by
 have HC:=H9 h.low;go_enter func262,ntmps262;go_wp2_with fail;refine HC.mono ?_;rintro e w1⟨rfl,⟨L,M1,h2,h3⟩,K1,z1⟩;have Q:=And.intro h2 h3;go_wp2_with(refine H_ PW eh rfl _ _ rfl rfl M1 x rfl ?_;intro w4 H' O';have S4:=ai H';have O4:=ai O';clear H' O');go_ret;have o:=uh O4;have k:=K1;obtain⟨h2,h3⟩:=Q;have hn:=M1.nodup;refine⟨w.heap.size,rfl,br _,⟨_,S4,λy hy=>?_,λy v hy=>?_⟩,⟨o.os.trans k.os,o.tape.trans k.tape,o.output.trans k.output,by rw[o.size];exact k.size,λi hi=>(o.block i ae).trans<|k.block i hi⟩⟩
 .rw[yM x y hn]at hy;rw[zy];by_cases e:y=x
  .rw[if_pos e]
  .rw[if_neg e];rw[if_neg<|ku e]at hy;exact h2 y hy
 .rw[yM x y hn]at hy;by_cases e:x=y
  .rw[if_pos e]at hy;cases hy
  .rw[if_neg e]at hy;have⟨c,q1,q2⟩:=h3 y v hy;refine⟨c,?_,q2.move Mn (λi p _=>o.block i ae)<|λi p _=>p.1⟩;rw[zy];rw[if_neg<|ku e];exact q1
end
def aiE(l:List Nat)v w gk c(wr:World):=
 ∃j:Nat,Hid (gk=l.length-j)/\j<=l.length/\c=Nv j/\wr=w/\Hid (∀i(hi:i<l.length),i<j->l[i]≠v)
section
variable {w:World} {sc:Nat} {l:List Nat}
def Xu(h:ri w P sa l)(hl:l.length<=1000000000000)v:Cq 277 #[.slice sa l.length sc,Nv v] w λe w'=>∃k,e=.returned (Iv k)/\decide (0<=k)=decide (v∈l)/\w'=w:=by
 go_enter func277,ntmps277
 go_wp2
 go_loopg[8] l.length (λgk c wr=>aiE l v w gk c wr)
 case atStart=>exact⟨0,ai ag,qr _,rfl,rfl,ai<|λi _ hi=>absurd hi ae⟩
 case round=>
  obtain⟨j,dl,hj,rfl,rfl,nU⟩:=hrel;by_cases bm:j<l.length
  .have hd:(j:Int)<(l.length:Int):=ae;obtain⟨g,rfl,_,k9,bY⟩:=h.resolve_left<|λe=>qBs;have cg:=bY j bm;by_cases HV:v=l[j]
   .generalize hx:l[j]=x at*;subst HV
    go_wp2
    go_ret;refine⟨j,rfl,?_,rfl⟩;have:v∈l:=by rw[<-hx];exact jq bm
    simp[this]
   .have cV:((v:Int)==(l[j]:Int))=false:=bF;generalize hx:l[j]=x at*
    go_wp2
    go_roundg(l.length-(j+1))
    case measure=>rw[uh dl];omega
    case rel=>
     refine⟨j+1,ai rfl,ae,jP,rfl,ai<|λi hi hij=>?_⟩;by_cases e:i=j
     .subst e;rw[hx];exact ku HV
     .exact nU i hi ae
  .have hd:decide ((j:Int)<(l.length:Int))=false:=bF;have ej:j=l.length:=ae;subst ej
   go_wp2
   go_ret;refine⟨-1,rfl,?_,rfl⟩;have:v∉l:=λq=>by
    have⟨i,hi,e⟩:=jt q;exact nU i hi hi e
   simp[this]
def Ia(h:ri w P sa l)(hl:l.length<=1000000000000)v:Cq 273 #[.slice sa l.length sc,Nv v] w λe w'=>e=.returned (.bool<|decide (v∈l))/\w'=w:=by
 have HC:=Xu (sc:=sc) h hl v;go_enter func273,ntmps273;go_wp2_with fail;refine HC.mono ?_;rintro e w1⟨k,rfl,HK,rfl⟩
 go_wp2
 go_ret;refine⟨?_,rfl⟩;rw[<-HK];rfl
end
def Xv{l V:List BA}(h:l.Nodup)(hs:∀x,x∈l->x∈V):l.length<=V.length:=by
 have key:∀(l V:List (List UInt8)),l.Nodup->(∀x,x∈l->x∈V)->l.length<=V.length:=by
  intro l
  induction l with
  |nil=>intro V _ _;simp|cons a l ih=>
   intro V h hs;have ha:=hs a ag;have hn:=List.nodup_cons.1 h;have:=ih (V.erase a) hn.2 λx hx=>(List.mem_erase_of_ne<|λe=>hn.1 (by rw[<-e];exact hx)).2 (hs x<|by simp[hx]);exact Sr
 have:=key (l.map kh) (V.map kh) (by
  rw[qi,j6];exact h.imp λoa q=>oa<|toList_inj q) (λx hx=>by
  obtain⟨y,hy,rfl⟩:=List.mem_map.1 hx
  exact jm<|hs y hy)
 simpa using this
def CM w b(F:Nat->Prop)r:=∃L,MG qB w b L/\(∀n:Nat,a_ (n:Int) L=none->¬F n)/\∀(n:Nat)u,a_ (n:Int) L=some u->F n/\∃k:Nat,u=Nv k/\1<=k/\k<=r
def yN:Tryz.prog.underlying 154=some (.map 152 3):=qkr
section
variable {w:World} {b:Nat}
def CM.same(h:CM w b F r)(hb:w'.heap[b]? =w.heap[b]?):CM w' b F r:=qAs
def CM.lt(h:CM w b F r):b<w.heap.size:=qAr
def CM.new(w:World):CM (w.alloc<|.map #[] 0) w.heap.size (λ_=>False) 0:=⟨[],MG.new _ w,λ_ _ q=>q,λn u h=>qBg⟩
def CM.look(h:CM w b F r)n:∃k:Nat,(vd 154 (Mv b) (Nv n) false).run qw w=.ok (Nv k) w/\k<=r/\(0<k↔F n):=by
 obtain⟨L,h1,h2,h3⟩:=h;have hl:=h1.ms.look KLV yN (yO w) (n:Int) trivial (λ_ _=>trivial) false
 cases hg:a_ (n:Int) L with
 |none=>grind|some u=>
  rw[hg]at hl;obtain⟨q1,k,rfl,q2,q3⟩:=h3 n u hg;exact⟨k,by simpa using hl,q3,⟨λ_=>q1,λ_=>ae⟩⟩
def Ib{a}{Q}(hg:o.guard=none)m x v(EB:o.op=kw 154 m x v\/o.op=kv 154 m x v)(hm:a.eval m=Mv b)(h:CM w b F r)n k(hk:k<=r)(hx:a.eval x=Nv n)(hv:a.eval v=Iv ((k:Int)+1))(hK:∀w',CM w' b (λi=>F i\/i=n) (r+1)->One b w w'->wpList qw ops Q rest (a.put o.dst undef) w'):
 wpList qw ops Q (o::rest) a w:=by
 obtain⟨L,h1,h2,h3⟩:=h;refine cu KLV yN hg m x v EB hm h1 (n:Int) _ hx hv λw' hM o=>hK w' ⟨_,hM,λi hi=>?_,λi u hi=>?_⟩ o
 .rw[aN]at hi;by_cases e:(n:Int)=(i:Int)
  .grind
  .grind
 .rw[aN]at hi;by_cases e:(n:Int)=(i:Int)
  .rw[if_pos e]at hi;injection hi with hi;subst hi;exact⟨qk ae,k+1,ag,ae,ae⟩
  .grind
end
def FxD(Γ:zh)κ(done:List BA)v:=∃y c,y∈done/\Γ y=some c/\aw v (sub κ c.of)/\v∉c.any
def FxR b(Γ:zh)κ L w gk wr:=
 ∃done r,IG xo wr (w.heap.size+1) b L done gk/\CM wr w.heap.size (FxD Γ κ done) r/\done.Nodup/\(∀x,x∈done->Γ x≠none)/\r<=done.length*1000000000000/\Bq w wr
def FyR cm(F:Nat->Prop)r(l any:List Nat)w3 gk v wr:=
 ∃j:Nat,Hid (gk=l.length-j)/\j<=l.length/\v=Nv j/\CM wr cm (λi=>F i\/(i∈l.take j/\i∉any)) (r+j)/\Fr (λi=>i=cm) w3 wr
def CM.le{w:World}{b:Nat}{G}{r'}(h:CM w b F r)(hf:∀n,F n↔G n)(hr:r<=r'):CM w b G r':=by grind[CM]
def Uh(Γ:zh)κ w(e:Ending)w':=∃cm r,e=.returned (Mv cm)/\w.heap.size<=cm/\r<=1000000000000000000/\CM w' cm (zv Γ κ) r/\Bq w w'
section
variable {w:World} {b:Nat} {κ:Nat->Ty}
def acC(h:bS w P b Γ)(hk:KW w P kb κ)(hkb:P kb)(hf:vM κ){NL:List BA}(hNL:∀x,Γ x≠none->x∈NL)(hNl:NL.length<=1000000)(afU:∀x c,Γ x=some c->c.any.length<=1000000000000):
 Cq 268 #[Mv b,Mv kb] w (Uh Γ κ w):=by
 have jA:= @run_makeMap Tryz.prog;have l1:=h.lt;have lk:=hk.lt;obtain⟨L,m1,q1,q2⟩:=h;have k1:Bq w (w.alloc<|.map #[] 0):=bw _;have⟨o,cnt,hrg,mi⟩:=(m1.af k1).range eh;rw[aY]at hrg mi;have k2:Bq w ((w.alloc<|.map #[] 0).alloc o):=k1.alloc ag _;have HI:=ai mi;have K2:=ai k2;have C0:=(CM.new w).same (w':=(w.alloc<|.map #[] 0).alloc o)<|(MapKept.heap_alloc _ _).2 _ ag;have Q:=And.intro q1 q2;have HK:=ai hk;clear mi k1 k2 m1 q1 q2 hk;go_enter func268,ntmps268
 go_wp2
 go_loopg[] cnt (λgk wr=>FxR b Γ κ L w gk wr)
 case atStart=>exact⟨[],0,HI,C0.le (λn=>⟨λq=>q.elim,λ⟨y,c,q,_⟩=>by simp at q⟩) (br _),qg,(λx hx=>by simp at hx),ag,K2⟩
 case round=>
  clear C0 HI hrg;obtain⟨done,r,HI,hC,HN,HD,hr,HB⟩:=hrel;have HC:=ai hC;have Xs:=HI.lt;have zr:=HB.size;have hdl:=qm (Xv HN λx hx=>hNL x<|HD x hx) hNl;have HR:=ai hr;have HDL:=ai hdl;clear hC hr hdl;rcases HI.next (P:=qw) str_inj with⟨ha,Ea⟩|⟨x,u,w2,aD,hxd,PX,Ea,Hw,bA,xZ,gL,hen⟩
  .go_wp2
   go_ret;refine⟨w.heap.size,done.length*1000000000000,rfl,br _,by have:=uh HDL;omega,HC.le (λn=>⟨λ⟨y,c,_,p1,p2,p3⟩=>⟨y,c,p1,p2,p3⟩,λ⟨y,c,p1,p2,p3⟩=>⟨y,c,?_,p1,p2,p3⟩⟩) HR,HB⟩
   cases hg:a_ y L with
   |none=>rw[Q.1 y hg]at p1;cases p1|some v=>exact ha y v hg
  .have⟨c,EC,hc⟩:=Q.2 x u PX;have amv:wr.heap.size<=w2.heap.size:=ae;have amw:w2.heap.size<=wr.heap.size:=ae;clear gL;have F1:=xZ;have kb2:∀i,i<w.heap.size->w2.heap[i]? =w.heap[i]? :=λi hi=>(F1.block i ae ae).trans<|HB.block i hi;have hB2:Bq w w2:=⟨F1.os.trans HB.os,F1.tape.trans HB.tape,F1.output.trans HB.output,ae,kb2⟩;obtain⟨ta,xa,sa,sc,rfl,t1,t2⟩:=hc;have⟨k3,B3⟩:=uo w2 #[Fv ta xa,Lv sa c.any.length sc] 354;have PY:Bq w (w2.alloc<|Cv #[Fv ta xa,Lv sa c.any.length sc] 354):=hB2.alloc ae _;have T2:=t2.move (w':=w2.alloc<|Cv #[Fv ta xa,Lv sa c.any.length sc] 354) PY.size (λi _ hi=>PY.block i hi)<|λi p z=>(⟨p,z⟩:P i/\i<w.heap.size);have CC3:=(HC.same<|F1.block _ ae ae).same (w':=w2.alloc<|Cv #[Fv ta xa,Lv sa c.any.length sc] 354)<|k3.block _ ae;have I3:=Hw.same (k3.block b ae)<|k3.block (w.heap.size+1) ae;have HO:=uv (HK.af PY) hkb hf (br _)<|t1.af PY;have hal:=afU x c EC;have hzz:=t1.Xw hf<|br _;have Hg:=ck _ t1.wh λn _=>hf.wh n;have K3:=ai PY;have⟨c3,f3,z3⟩:=uh B3;clear Hw k3 hB2 PY kb2 F1 xZ t1 t2 HC HI HB;go_wp2_with fail;refine HO.mono ?_;rintro e w4⟨u4,rfl,hu4,K4⟩;have HV:=fN hu4 hzz;obtain⟨tu,xu,rfl⟩:=hu4.iface;have z4:=K4.size;simp only[aY]at z4;clear hu4 HO c3 f3 z3;go_wp2_with fail;refine HV.mono ?_;rintro e w5⟨V,rfl,HO5,k5⟩;rw[gZ]at HO5
   have yP:(vars []<|sub κ c.of).length<=1000000000000:=by
    have h1:=gZ<|sub κ c.of;rw[<-h1,cC];have h2:=dc (occs<|bL<|sub κ c.of) [];have h3:=dd<|bL<|sub κ c.of;simp only[qO]at h2;omega
   generalize Cu:vars [] (sub κ c.of)=l at*;obtain⟨va,vc,rfl⟩:=dO HO5 (n:=l.length)<|fC l;have M5:=K4.trans<|k5.mono K4.size;have z45:=M5.size;simp only[aY]at z45;have T5:=T2.move (Q:=λi=>P i/\i<w.heap.size) M5.size (λi p z=>M5.block i z)<|λ_ p _=>p;have B5:=ai<|B3.below M5;have CC5:=CC3.same<|M5.block _ bF;have I5:=I3.same (M5.block b bF)<|M5.block (w.heap.size+1) bF;have K5:=K3.trans (M5.mono (by have:=K3.size;omega));clear k5 M5 HV K4 T2 B3 CC3 I3 K3
   go_wp2
   go_loopg[23] l.length (λgk v wq=>FyR w.heap.size (FxD Γ κ done) r l c.any w5 gk v wq)
   case atStart=>exact⟨0,ai ag,qr _,rfl,CC5.le (λn=>ag) ae,Fr.refl _ _⟩
   case round=>
    obtain⟨j,dl,hj,rfl,HC6,HF6⟩:=hrel;have zq:=HF6.size;have B6:=B5.fr HF6 ae;by_cases bm:j<l.length
    .have hd:(j:Int)<(l.length:Int):=ae;have hjv:j<(ot l).length:=by rw[fC];exact bm
     have⟨gv,cpv,mv,hv,hgv,k9,_⟩:=iw HO5 ae;injection hv with M6 Ui hv3;subst M6;have cg0:=mj HO5 j hjv;rw[show(ot l)[j]=Nv (l[j]) by simp[ot]]at cg0;have cg:=(qy (a:=⟨gv,j,none⟩)<|HF6.block gv k9 ae).trans cg0;have V6:=T5.move (w':=wr) (Q:=λi=>P i/\i<w.heap.size) zq (λi p z=>HF6.block i z ae)<|λ_ p _=>p;have HCo:=Ia (sc:=sc) V6 hal l[j];have HM6:∀i,i∈l.take (j+1)↔i∈l.take j\/i=l[j]:=λi=>by rw[jf bm,List.mem_append,j5]
     have⟨kk,ya,Xx,_⟩:=HC6.look l[j];generalize hx:l[j]=xx at*;have HRR:Hid (r<=1000000000000000000):=ai (by have h1:=uh HR;have h2:=uh HDL;have h3:done.length*1000000000000<=1000000*1000000000000:=qu _ h2;exact qm h1<|qm h3 aB);have hkb:(kk:Int)+1<=9000000000000000000:=by have:=uh HRR;omega
     obtain⟨c6,f6,z6⟩:=B6;clear V6 hx cg0 Ui hv3 Ea hen PX jA;by_cases rj:xx∈c.any
     .rw[decide_eq_true rj]at HCo;go_wp2_with fail;refine HCo.mono ?_;rintro e w7⟨rfl,rfl⟩;clear HCo
      go_wp2
      go_roundg(l.length-(j+1))
      case measure=>rw[uh dl];omega
      case rel=>
       refine⟨j+1,ai rfl,ae,jP,HC6.le (λn=>?_) ae,HF6⟩;rw[HM6 n];constructor
       .rintro(q|⟨q1,q2⟩)
        .exact ql q
        .exact qk ⟨ql q1,q2⟩
       .rintro(q|⟨q1|q1,q2⟩)
        .exact ql q
        .exact qk ⟨q1,q2⟩
        .exact absurd (q1▸rj) q2
     .rw[decide_eq_false rj]at HCo;go_wp2_with fail;refine HCo.mono ?_;rintro e w7⟨rfl,rfl⟩;clear HCo;go_wp2_with(refine Ib rfl _ _ _ (qk rfl) rfl HC6 xx kk Xx rfl rfl ?_;intro w8 H' O';have S8:=ai H';have O8:=ai O';clear H' O');go_roundg(l.length-(j+1))
      case measure=>rw[uh dl];omega
      case rel=>
       have o:=uh O8;refine⟨j+1,ai rfl,ae,jP,S8.le (λn=>?_) ae,HF6.trans ⟨o.os,o.tape,o.output,Mn,λi _ hi=>o.block i hi⟩⟩;rw[HM6 n];constructor
       .rintro((q|⟨q1,q2⟩)|q)
        .exact ql q
        .exact qk ⟨ql q1,q2⟩
        .exact qk ⟨qk q,by rw[q];exact rj⟩
       .rintro(q|⟨q1|q1,q2⟩)
        .exact ql (ql q)
        .exact ql (qk ⟨q1,q2⟩)
        .exact qk q1
    .have hd:decide ((j:Int)<(l.length:Int))=false:=bF;have ej:j=l.length:=ae;subst ej;clear B6
     go_wp2
     go_roundg aD
     case measure=>exact bA
     case rel=>
      have f:=HF6;have k5:=K5;refine⟨x::done,r+l.length,I5.same (f.block b ae ae)<|f.block _ ae ae,HC6.le (λn=>?_)<|br _,List.nodup_cons.2 ⟨hxd,HN⟩,?_,by have:=uh HR;simp only[yE];omega,⟨f.os.trans k5.os,f.tape.trans k5.tape,f.output.trans k5.output,by have:=k5.size;omega,λi hi=>(f.block i (by have:=k5.size;omega) ae).trans<|k5.block i hi⟩⟩
      .rw[jc];have hm:n∈l↔aw n (sub κ c.of):=by rw[<-Cu];simpa using bP (sub κ c.of) [] n
       constructor
       .rintro(⟨y,c',p1,p2,p3,p4⟩|⟨p1,p2⟩)
        .exact⟨y,c',ji _ p1,p2,p3,p4⟩
        .exact⟨x,c,ag,EC,hm.1 p1,p2⟩
       .rintro⟨y,c',p1,p2,p3,p4⟩;obtain q|q:=List.mem_cons.1 p1
        .subst q;rw[EC]at p2;injection p2 with p2;subst p2;exact qk ⟨hm.2 p3,p4⟩
        .exact ql ⟨y,c',q,p2,p3,p4⟩
      .intro y hy;obtain q|q:=List.mem_cons.1 hy
       .rw[q,EC];simp
       .exact HD y q
end
abbrev kept(p:Nat->Bool)(l:List Nat):List Nat:=l.filter λn=> !p n
def Cw p(l:List Nat)j(h:j<l.length):kept p (l.take<|j+1)=kept p (l.take j)++(if p l[j]then[]else[l[j]]):=by
 rw[kept];rw[jf h,List.filter_append];congr 1
 cases hp:p l[j]<;>simp[hp]
def afV g(l:List Nat)p w gk vi vj wr:=
 ∃(i j:Nat)(C:Array Value),Hid (gk=l.length-j)/\i<j/\j<=l.length/\vi=Nv i/\vj=Nv j/\Hid (i=(kept p<|l.take j).length)/\Bx wr g C/\Hid (l.length<=C.size)/\Hid (∀k(h:k<(kept p<|l.take j).length),C[k]? =some (Nv<|(kept p<|l.take j)[k]))/\Hid (∀k(h:k<l.length),j<=k->C[k]? =some (Nv<|l[k]))/\Fr (λb=>b=g) w wr
section
variable {w:World} {l:List Nat}
def afW f cs(l:List Nat)(p:Nat->Bool)g w:=∀(W:World)(n:Nat),n∈l->Fr (λb=>b=g) w W->Cq f (#[Nv n]++cs) W λe w'=>e=.returned (.bool<|p n)/\w'=W
def afX{w}{base}{g c:Nat}(h:gN w e base (.slice (some ⟨g,0,none⟩) n c) xs):∃C:Array Value,Bx w g C/\xs.length<=C.size/\(∀k(hk:k<xs.length),C[k]? =some xs[k])/\n=xs.length/\n<=c/\c<=maxLen:=by
 have h':=h;obtain⟨h1,h2⟩:=h;obtain⟨q,_⟩|⟨g',cap,lZ,q,hg,hh,r1,r2,r3,r4⟩:=h2
 .cases q
 .injection q with q1 q2 q3;injection q1 with q1;injection q1 with q1;subst q1 q2 q3;have hz:=(Array.getElem?_eq_some_iff.1 hh).1;refine⟨lZ,⟨λo=>by simp[q9,hh],λo=>by simp[xd,hh],hz⟩,ae,λk hk=>?_,rfl,r1,r2⟩;have e1:(List.take (xs.length*1) lZ.toList)[k]? =xs[k]? :=by rw[r4]
  rw[jy ae]at e1;rw[<-Array.getElem?_toList,e1,ja hk]
def vN(g:Nat):∀(vs:List Value)(o:Nat)(w:World),Fr (λb=>b=g) w<|w.setCells g o vs
 |[],o,w=>Fr.refl _ _|v::vs,o,w=>((Fr.refl (λb=>b=g) w).set (b:=g) (ql rfl) o v).trans<|vN g vs (o+1) _
def Xy w:(zeroValue 152).run qw w=.ok (Iv 0) w:=qkr
def Eb l p g w(e:Ending)w':=∃sa sc,e=.returned (.slice sa (kept p l).length sc)/\ri w' (λb=>b=g) sa (kept p l)/\Fr (λb=>b=g) w w'
def Ec(eg:∀args w,(callFunc f args).run qw w=.ok (.enter f args) w){c:Nat}(ho:gN w 152 base (.slice (some ⟨g,0,none⟩) n c) (ot l))(hl:l.length<=1000000000000)(hp:afW f cs l p g w):
 Cq 269 #[.slice (some ⟨g,0,none⟩) n c,.func (.func f) #[] cs] w (Eb l p g w):=by
 have HI:=ox (p:=p) eg ho hl<|λW n hn hb=>(hp W n hn<|Fr.of hb).mono λe w'⟨h1,h2⟩=>⟨h1,h2▸xn _ _⟩;have⟨C,hx,Ic,hcv,hn,hnc,Mo⟩:=afX ho;rw[fC]at Ic hn;subst hn;have ak3:∀k(h:k<l.length),C[k]? =some (Nv<|l[k]):=λk h=>by rw[hcv k (by rw[fC];exact h)];simp[ot]
 have HX:=ai hx;have HV:=ai ak3;have amx:c<=9223372036854775807:=by rw[maxLen]at Mo;omega
 go_enter func269,ntmps269;go_wp2_with fail;refine HI.mono ?_;rintro e w1⟨k,rfl,hk,K1⟩;have X1:=HX.below K1;obtain⟨rfl,Uj⟩|⟨k0,hk0,rfl,hpk,nU⟩:=hk
 .have HA:=ai Uj
  go_wp2
  go_ret;have e:kept p l=l:=List.filter_eq_self.2 λx hx=>by simp[uh HA x hx]
  rw[Eb];rw[e];exact⟨_,_,rfl,qk ⟨g,rfl,rfl,X1.z,λi hi=>by rw[X1.c i];exact HV i hi⟩,Fr.of K1⟩
 .have cV:((k0:Int)== -1)=false:=beq_eq_false_iff_ne.2 ae;have hkl:kept p (l.take k0)=l.take k0:=List.filter_eq_self.2 λx hx=>by
   have⟨i,hi,e⟩:=jt hx;rw[List.getElem_take]at e;rw[<-e,nU i Ie Ie];rfl
  have HK:kept p (l.take<|k0+1)=l.take k0:=by rw[Cw p l k0 hk0,hkl,hpk];simp
  go_wp2
  go_loopg[5,6] (l.length-(k0+1)) (λgk vi vj wr=>afV g l p w gk vi vj wr)
  case atStart=>
   refine⟨k0,k0+1,C,ai rfl,ae,ae,rfl,jP,ai (by rw[HK];simp;omega),X1,Ic,ai<|λk h=>?_,ai<|λk h _=>HV k h,Fr.of K1⟩;simp only[HK]at h⊢;rw[List.length_take]at h;rw[uh HV k ae,List.getElem_take]
  case round=>
   obtain⟨i,j,C1,dl,hij,bm,rfl,rfl,hi,X2,hC1,rl,hhi,F2⟩:=hrel;by_cases bA:j<l.length
   .have hd:(j:Int)<(l.length:Int):=ae;have hdi:(i:Int)<(l.length:Int):=ae;have cj:wr.cell? ⟨g,j,none⟩=some (Nv<|l[j]):=by rw[X2.c j];exact hhi j bA<|br _
    have hiC:i<C1.size:=by have:=uh hC1;omega
    have ci:wr.cell? ⟨g,i,none⟩=some C1[i]:=by rw[X2.c i];exact xh hiC
    have fi:=X2.f i;have HC:=hp wr l[j] (jq bA) F2;have HKS:=Cw p l j bA
    cases hq:p l[j]with
    |true=>
     rw[hq]at HC;generalize hxx:l[j]=xx at*;go_wp2_with(go_at_fn f;refine HC.mono ?_;rintro e w2⟨rfl,rfl⟩);go_roundg(l.length-(j+1))
     case measure=>rw[uh dl];omega
     case rel=>
      have ek:kept p (l.take<|j+1)=kept p (l.take j):=by rw[HKS,hq];simp
      refine⟨i,j+1,C1,ai rfl,ae,ae,rfl,jP,ai (by rw[ek];exact hi),X2,hC1,ai<|λk h=>?_,ai<|λk h hk=>hhi k h ae,F2⟩;simp only[ek]at h⊢;exact rl k h
    |false=>
     rw[hq]at HC;have X3:=X2.aR i (Nv<|l[j]) (C1.setIfInBounds i<|Nv<|l[j]) rfl hiC;generalize hxx:l[j]=xx at*;go_wp2_with(go_at_fn f;refine HC.mono ?_;rintro e w2⟨rfl,rfl⟩);go_roundg(l.length-(j+1))
     case measure=>rw[uh dl];omega
     case rel=>
      have ek:kept p (l.take<|j+1)=kept p (l.take j)++[xx]:=by rw[HKS,hq];simp
      have ei:=uh hi;refine⟨i+1,j+1,C1.setIfInBounds i<|Nv xx,ai rfl,ae,ae,jP,jP,ai (by rw[ek];simp[ei]),X3,ai (by simp;exact hC1),ai<|λk h=>?_,ai<|λk h hk=>?_,F2.set (ql rfl) i _⟩
      .simp only[ek]at h⊢;rw[lM,List.length_singleton]at h;by_cases e:k=i
       .subst e;rw[List.getElem_append_right ae];simp[hiC]
       .rw[xf<|ku e,jx ae];exact rl k ae
      .rw[xf ae];exact hhi k h ae
   .have ej:j=l.length:=ae;subst ej;have hd:¬(l.length:Int)<(l.length:Int):=ae;have hic:¬c=i:=ae;have Uk:∀ty,(Builtin.clear_ #[351] ty #[Lv (some ⟨g,i,none⟩) (l.length-i)<|c-i]).run qw wr=.ok (.tuple #[]) (wr.setCells g i<|List.replicate (l.length-i)<|Iv 0):=λty=>
     Lib.run_clear_slice wr _ _ ty _ Cx Xy rfl rfl g i _ _ ae (λt ht=>by rw[X2.c<|i+t,xh (by have:=uh hC1;omega)];rfl) (λt _=>X2.f<|i+t)
    go_wp2
    go_ret;have ei:=uh hi;have F3:=vN g (List.replicate (l.length-i)<|Iv 0) i wr;rw[jc]at ei;have ak4:∀k(h:k<(kept p l).length),C1[k]? =some (Nv<|(kept p l)[k]):=by
     have:=uh rl;simp only[jc]at this;exact this
    rw[Eb];refine⟨some ⟨g,0,none⟩,c,by rw[<-ei];rfl,qk ⟨g,rfl,rfl,qn X2.z F3.size,λk hk=>?_⟩,F2.trans F3⟩;rw[World.cell?_setCells_out g _ i wr ⟨g,k,none⟩<|λ_ _=>ql (by show k<i;omega),X2.c k];exact ak4 k hk
end
def yQ{w:World}{v:Value}(eg:∀args w,(callFunc f args).run qw w=.ok (.enter f args) w)(ho:gN w 152 base v (ot [])):
 Cq 269 #[v,.func (.func f) #[] cs] w λe w'=>∃sa sc,e=.returned (.slice sa 0 sc)/\Bq w w':=by
 have HI:=ox (p:=λ_=>false) (cs:=cs) eg ho ag (λW n hn _=>by simp at hn);obtain⟨va,vc,rfl⟩:=dO ho (n:=0) (by simp[ot]);go_enter func269,ntmps269;go_wp2_with fail;refine HI.mono ?_;rintro e w1⟨k,rfl,hk,K1⟩;have ek:k= -1:=by
  obtain⟨q,_⟩|⟨i,hi,_⟩:=hk
  .exact q
  .simp at hi
 subst ek
 go_wp2
 go_ret;exact⟨va,vc,rfl,K1⟩
section
variable {w:World} {b:Nat} {κ:Nat->Ty}
open Classical in
noncomputable def fxB (Γ:zh) (κ:Nat->Ty) (v:Nat):Bool:=decide (zv Γ κ v)
def M7{cm}(h1:Bx W cb #[Mv cm])(h2:CM W cm (zv Γ κ) r)n:Cq 270 #[Nv n,Pv cb] W λe w'=>e=.returned (.bool<|fxB Γ κ n)/\w'=W:=by
 obtain⟨c1,f1,z1⟩:=h1;have⟨k,hl,_,hk⟩:=h2.look n;have HK:=ai hk;clear hk h2;go_enter func270,ntmps270
 go_wp2
 go_ret;refine⟨?_,rfl⟩;have:decide (0<k)=fxB Γ κ n:=by
  rw[fxB];rw[decide_eq_decide];exact HK
 rw[<-this];rfl
def M_ T:zx Γ κ T=kept (fxB Γ κ) (vars [] T):=by
 rw[zx,kept];congr 1;funext v;by_cases h:zv Γ κ v
 .simp[fxB,h]
 .simp[fxB,h]
def pK P l w(e:Ending)w':=∃sa sc,e=.returned (.slice sa l.length sc)/\ri w' P sa l/\Bq w w'
def acD(h:bS w P b Γ)(hk:KW w P kb κ)(hkb:P kb)(hf:vM κ){NL:List BA}(hNL:∀x,Γ x≠none->x∈NL)(hNl:NL.length<=1000000)(afU:∀x c,Γ x=some c->c.any.length<=1000000000000){T}{v:Value}(ht:db w Q (bL T) v)(hz:size (bL T)<=1000000000000):
 Cq 263 #[Mv b,Mv kb,v] w (pK (λi=>w.heap.size<=i) (zx Γ κ T) w):=by
 have HF:=acC h hk hkb hf hNL hNl afU;obtain⟨ta,xa,rfl⟩:=ht.iface;go_enter func263,ntmps263;go_wp2_with fail;refine HF.mono ?_;rintro e w1⟨cm,r,rfl,Mo,hr,hC,k1⟩;have⟨k2,B2⟩:=rq w1 #[Mv cm] 154;have K2:=k1.trans<|k2.mono k1.size;have C2:=hC.same<|k2.block cm hC.lt;have zc:=hC.lt;have z1:=k1.size;have HV:=fN (ht.af K2) hz;go_wp2_with fail;refine HV.mono ?_;rintro e w3⟨V,rfl,ho,k3⟩;rw[gZ]at ho;have yP:(vars [] T).length<=1000000000000:=by
  have h1:=gZ T;rw[<-h1,cC];have h2:=dc (occs<|bL T) [];have h3:=dd<|bL T;simp only[qO]at h2;omega
 have e0:=M_ (Γ:=Γ) (κ:=κ) T;have K3:=K2.trans<|k3.mono K2.size;have z3:=k3.size;rw[aY]at z3;have B3:=B2.below k3;have C3:=C2.same (k3.block cm (by rw[aY];omega));have fX:=iK ho;rw[aY]at fX;by_cases hl:vars [] T=[]
 .rw[hl]at ho e0;have HD:=yQ (cs:=#[Pv w1.heap.size]) (enters_of Tryz.func270 qkr rfl) ho;obtain⟨va,vc,rfl⟩:=dO ho (n:=0) (by simp[ot]);go_wp2_with fail;refine HD.mono ?_;rintro e w4⟨sa,sc,rfl,K4⟩
  go_wp2
  go_ret;have k:=K3;rw[pK];rw[e0];exact⟨sa,sc,rfl,ql rfl,k.trans<|K4.mono k.size⟩
 .have Xz:0<(ot<|vars [] T).length:=by rw[fC];exact qv<|λe=>hl<|jj e
  obtain⟨g,cp,m,rfl,hg,k9,_⟩:=iw ho Xz;rw[aY]at hg;have HD:=Ec (p:=fxB Γ κ) (enters_of Tryz.func270 qkr rfl) ho yP (cs:=#[Pv w1.heap.size])<|λW n hn hF=>M7 (B3.fr hF ae) (C3.same<|hF.block cm ae ae) n;go_wp2_with fail;refine HD.mono ?_;rintro e w4⟨sa,sc,rfl,HV4,F4'⟩
  go_wp2
  go_ret;have f:=F4';have k:=K3;rw[pK];rw[e0];refine⟨sa,sc,rfl,?_,⟨f.os.trans k.os,f.tape.trans k.tape,f.output.trans k.output,qm k.size f.size,λi hi=>(f.block i (by have:=k.size;omega) ae).trans<|k.block i hi⟩⟩;exact HV4.move (br _) (λ_ _ _=>rfl) (λi p _=>by show w.heap.size<=i;omega)
end
abbrev TeN I D A z:=∀(x:Array Value)(w:World),(z9 (.iface D<|.agg x) I A true).run qw w=.ok (.tuple #[.agg z,.bool false]) w
def yn.te{A}{z}(h:yn A z){I D}(hd:D≠A):TeN I D A z:=λx w=>h I D (.agg x) w hd
end
section
open Go.ChangeMaps Un
def byS:Option (BA×List Nat)->BA
 |none=>⟨#[]⟩|some (c,_)=>pn c
abbrev nA n:=Pv n
def nP:Option Nat->Value
 |none=>.pointer none|some m=>nA m
def slN:Option (BA×List Nat)->Nat
 |none=>0|some (_,l)=>l.length
def iu(w:World)(ds:List Nat)(sa:Option Addr):Option (BA×List Nat)->Prop
 |none=>True|some (c,l)=>CN c/\l.length<=1001/\(∀m∈l,m∈ds)/\(l=[]\/∃g,sa=some ⟨g,0,none⟩/\¬g∈ds/\g<w.heap.size/\∀i(h:i<l.length),w.cell? ⟨g,i,none⟩=some (nA l[i]))
inductive Lt(nx:Nx):Nat->Nat->Nat->Prop where
 |here{n:Nat}:nx n=none->Lt nx n n 0
 |step{n m h k:Nat}:nx n=some m->Lt nx m h k->Lt nx n h (k+1)
def Hd.len{nx}{h:Nat}(k:Hd nx n h):∃j,Lt nx n h j:=by
 induction k with
 |here e=>exact⟨0,.here e⟩|step e _ ih=>obtain⟨j,hj⟩:=ih;exact⟨j+1,.step e hj⟩
def Lt.one{nx}{n h j h' j':Nat}(k:Lt nx n h j)(k':Lt nx n h' j'):j=j':=by
 induction k generalizing j' with
 |here e=>cases k' with
  |here=>rfl|step e' _=>grind
 |step e _ ih=>cases k' with
  |here e'=>grind|step e' k'=>grind
def Lt.eu{nx}{x h j}(k:Lt nx x h j){n hn jn}(kn:Lt nx n hn jn)(bA:j<jn)v:Lt (eu nx n v) x h j:=by
 induction k with
 | @here x e=>
   have:x≠n:=λq=>by subst q;have:=(Lt.here e).one kn;omega
   exact .here (by simpa[v8,this]using e)
 | @step x m h k e kk ih=>
   have:x≠n:=λq=>by subst q;have:=(Lt.step e kk).one kn;omega
   exact .step (m:=m) (by simpa[v8,this]using e)<|ih ae
structure iS str nx bi:Prop where
 nW:∀V,mX str bi V↔mX str nx V
 nF:∀P,vW str nx P->vW str bi P
 eqs:∀P E,Un.Eq bi P E->Un.Eq nx P E
 k_:∀x h,Hd nx x h->Hd bi x h
 BH:∀n,bi n=none↔nx n=none
def iS.refl str nx:iS str nx nx:=⟨λ_=>Iff.rfl,λ_ h=>h,λ_ _ h=>h,λ_ _ h=>h,λ_=>Iff.rfl⟩
def iS.trans{str}{a b c}(h:iS str a b)(k:iS str b c):iS str a c:=
 ⟨λV=>(k.nW V).trans<|h.nW V,λP q=>k.nF P<|h.nF P q,λP E q=>h.eqs P E<|k.eqs P E q,λx y q=>k.k_ x y<|h.k_ x y q,λn=>(k.BH n).trans<|h.BH n⟩
def iS.short str{nx}{n m k}(h1:nx n=some m)(h2:nx m=some k)(cV:n≠m):iS str nx (v8 nx n<|some k):=
 ⟨λV=>mX.short h1 h2 cV,λP h=>h.short h1 h2 cV,λP E q=>q.IF h1 h2 cV,λx h j=>j.short h1 h2,λx=>by
  by_cases e:x=n
  .subst e;simp[v8,h1]
  .simp[v8,e]⟩
end
end Go.Proofs.YtnldmeakhapdhaaGreatDoor

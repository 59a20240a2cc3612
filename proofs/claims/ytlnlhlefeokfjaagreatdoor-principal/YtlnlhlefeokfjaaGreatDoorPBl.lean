import Derived.Test.YtlnlhlefeokfjaaGreatDoorPQa
import Derived.Test.YtlnlhlefeokfjaaGreatDoorPTm
import Derived.Test.YtlnlhlefeokfjaaGreatDoorPPl
set_option linter.all false
set_option maxRecDepth 100000
set_option maxHeartbeats 8000000
namespace Go.Proofs.YtlnlhlefeokfjaaGreatDoor
open Or renaming inr->ja,inl->jc
open _root_.List renaming getElem_mem->jd,map_cons->jf,getElem?_eq_getElem->jh,mem_map_of_mem->ji,append_assoc->jj,nodup_cons->jk,take_append_drop->jl,mem_cons->jm
open Go.Proofs.Tryz renaming prog->jo,underlying9->jp
open _root_.Nat renaming le_trans->jq,lt_of_lt_of_le->jt,mul_le_mul_left->ju,zero_le->jv,strongRecOn->jx
open _root_.Array renaming replicate->jy,getElem?_setIfInBounds->jz,getD_eq_getD_getElem?->j3,toList_modify->j5
open Go.World renaming cell?_of_block->j6
open In renaming rK->j7,isM->j8,Mks->j9,Nq->qe
open Go.Instr renaming typeAssert->qf,lookup->qg,mapUpdate->qh,next->qi
open SizeOf renaming sizeOf->qj
open Go.Value renaming string->qk,int->ql
open Go.Result renaming andThen->qm
open Go.RowKit.Below renaming refl->qn
open Un.dO renaming afc->qp,Qe->qr
open Un renaming seen->qs,rL->qt
open Go.MapKept renaming run_setObj_map->qu,heap_alloc->qv
open And renaming intro->qw
open Go Go.RowKit Go.ChangeMaps Proofs.Tryz
variable {C:Array Value} {last s t:BA} {lo:BA->Nat} {F mk ty:BA->Option Nat} {dom:BA->Prop} {mks:j9} {L:List (BA×Value)} {done nl p:List BA} {V:List Nat} {l:List UInt8} {B S b cb gb lb mb nb pb r sc tb:Nat} {K:Nat->Option Un.Ty} {P Q:Nat->Prop} {R κ:Nat->Un.Ty} {a nd:Nd} {tx:TypeId} {x y:Un.Ty} {u v:Value} {w w':World}
section
open Go.MapKept Un
namespace Un
def uU.ind{K}{R}{rk}(hK:uU K R rk){J:Nat->Prop}(h0:∀n,K n=none->J n)(h1:∀n t,K n=some t->(∀m,aB m t->J m)->J n):∀(s r n:Nat),size (R n)<=s->rk n<=r->J n:=by
 intro s
 induction s using jx with
 |ind s ihs=>
  intro r
  induction r using jx with
  |ind r ihr=>
   intro n hs hr
   cases e:K n with
   |none=>exact h0 n e|some t=>
    refine h1 n t e λm hm=>?_;have q:=hK.shut n t e
    cases t with
    |var u=>
     simp only[aB]at hm;subst hm;have:=hK.Xs n u e;refine ihr (rk u) ae u ?_<|br _;rw[q]at hs;simpa[sub]using hs
    |aJ c l=>
     have h3:=jV R m l (by simpa[aB]using hm);have h4:=congrArg size q;simp only[sub,size]at h4;exact ihs (size<|R m) ae (rk m) m (br _)<|br _
def uU.all{rk}(hK:uU K R rk){J:Nat->Prop}(h0:∀n,K n=none->J n)(h1:∀n t,K n=some t->(∀m,aB m t->J m)->J n)n:J n:=hK.ind h0 h1 _ _ n (br _)<|br _
end Un
section
variable {rk:Nat->Nat}
def Xt(hK:uU K R rk)(hI:Cb V K)n m:n∈V->aB m (R n)->m∈V:=by
 refine hK.all (J:=λn=>n∈V->aB m (R n)->m∈V) (λn e hn ho=>?_) (λn t e ih hn ho=>?_) n
 .rw[hK.open_ n e]at ho;simp only[aB]at ho;subst ho;exact hn
 .rw[hK.shut n t e]at ho;have⟨x,h1,h2⟩:=(mq t).1 ho;exact ih x h1 ((hI n t e).2.v x h1) h2
def Dh(hK:uU K R rk)(hI:Cb V K)n:Whole (R n):=by
 refine hK.all (J:=λn=>Whole<|R n) (λn e=>?_) (λn t e ih=>?_) n
 .rw[hK.open_ n e];trivial
 .rw[hK.shut n t e];exact cd t (hI n t e).2.w ih
def ER{l V:List Nat}(h:l.Nodup)(hs:∀x,x∈l->x∈V):l.length<=V.length:=by
 induction l generalizing V with
 |nil=>simp|cons a l ih=>
  have ha:=hs a ag;have hn:=List.nodup_cons.1 h;have:=ih (V:=V.erase a) hn.2 λx hx=>(List.mem_erase_of_ne<|λe=>hn.1 (by rw[<-e];exact hx)).2 (hs x<|by simp[hx]);rw[List.length_erase_of_mem ha]at this;have:0<V.length:=List.length_pos_of_mem ha;simp only[kh];omega
def II(hK:uU K R rk)(hI:Cb V K)(hV:V.length<=1000):zu K R where
 whole:=Dh hK hI
 small n t e:=(hI n t e).2.z
 len n:=by
  cases e:K n with
  |none=>rw[hK.open_ n e];simp[vars,qs]|some t=>
   have hn:=(hI n t e).1;exact jq (ER (de (R n) List.nodup_nil) λx hx=>Xt hK hI n x hn<|by simpa using(bJ (R n) [] x).1 hx) hV
def ClR(P:Nat->Prop)b K R L w gk wr:=
 ∃done D,IG qO wr (w.heap.size+1) b L done gk/\fC wr (λx=>(P x/\x<w.heap.size)\/w.heap.size+2<=x) w.heap.size D/\Xu K R D/\(∀n:Nat,(n:Int)∈done->D n≠none)/\Bq w wr
def KW w P b(κ:Nat->Ty):=∃D,fC w P b D/\∀n,(D n=none->κ n=.var n)/\(D n≠none->D n=some (bK<|κ n))
def Nr(P:Nat->Prop)R w(e:Ending)w':=∃wb,e=.returned (Mv wb)/\w.heap.size<=wb/\KW w' (λx=>P x\/w.heap.size<=x) wb R/\Bq w w'
def Uw(h:fC w P b K)(hb:P b)(hK:uU K R rk)(hF:zu K R):Cq 283 #[Mv b] w (Nr P R w):=by
 have HH:=ai h;have bl:=h.lt;have iZ:= @run_makeMap Tryz.prog;obtain⟨L,m1,q1,q2,q3⟩:=h;have k1:Bq w (w.alloc<|.map #[] 0):=bw _;have⟨o,cnt,hrg,mw⟩:=(m1.af k1).range oE;rw[ba]at hrg mw;have k2:Bq w ((w.alloc<|.map #[] 0).alloc o):=k1.alloc ag _;have HI:=ai mw;have K2:=ai k2;have S0:Hid (fC ((w.alloc<|.map #[] 0).alloc o) (λx=>(P x/\x<w.heap.size)\/w.heap.size+2<=x) w.heap.size<|λ_=>none):=ai<|(fC.new w _).af<|bw _;have Q:=And.intro q1<|And.intro q2 q3;go_enter func283,ntmps283
 go_wp2
 go_loopg[] cnt (λgk wr=>ClR P b K R L w gk wr)
 case atStart=>exact⟨[],λ_=>none,HI,uh S0,(λn t e=>by cases e),(λn hn=>by simp at hn),uh K2⟩
 case round=>
  obtain⟨done,D,HI,HS,HG,HD,HB⟩:=hrel;have Xv:=HI.lt;have zr:=HB.size;rcases HI.next (P:=jo) IJ with⟨ha,ET⟩|⟨x,u,w2,aE,hxd,Qf,ET,HI1,bA,yv,fK,hen⟩
  .go_wp2
   go_ret;refine⟨w.heap.size,rfl,br _,⟨D,HS.wide λx p=>by obtain p|p:=p;exact jc p.1;exact ja ae,λn=>⟨λe=>?_,λe=>?_⟩⟩,HB⟩
   .apply hK.open_ n
    cases hg:a_ (n:Int) L with
    |none=>exact Q.1 n hg|some v=>exact absurd e<|HD n<|ha _ v hg
   .cases hd:D n with
    |none=>exact absurd hd e|some t=>rw[(HG n t hd).1]
  .obtain⟨n,rfl⟩:=Q.2.2 x u Qf;have F1:=yv;have kb:∀i,i<w.heap.size->w2.heap[i]? =w.heap[i]? :=λi hi=>(F1.block i ae ae).trans<|HB.block i hi;have du:Bq w w2:=⟨F1.os.trans HB.os,F1.tape.trans HB.tape,F1.output.trans HB.output,ae,kb⟩;have ale:EU b w.heap.size K R (λx=>(P x/\x<w.heap.size)\/(w.heap.size+2<=x/\x<w2.heap.size)) D w2:=by
    refine⟨?_,?_,ae,jc ⟨hb,bl⟩,?_,?_,HG⟩
    .rintro x(p|p)<;>omega
    .rintro(p|p)<;>omega
    .exact HH.move du.size (kb b bl) (λx _ hx=>kb x hx) (λx p hx=>jc ⟨p,hx⟩)
    .exact(HS.fr F1 ae (λx p _=>by obtain p|p:=p<;>omega)).low.wide λx p=>by
      obtain q|q:=p.1
      .exact jc q
      .exact ja ⟨q,p.2⟩
   have HC:=IK (b:=b) (wb:=w.heap.size) hK hF (size<|R n) (rk n) n (br _) (br _) w2 _ D ale;have hKn:Hid (K n≠none):=by
    have⟨t,e,_⟩:=Q.2.1 n u Qf;rw[e];exact ai ag
   go_wp2_with fail;refine HC.mono ?_;rintro e w3⟨u3,D',rfl,hu3,hd3,G3,M3,hn3,F3⟩;obtain⟨tu,xu,rfl⟩:=hu3.iface;have z3:=F3.size;have N3:=hn3 hKn
   have S3:=ai (hd3.wide (Q:=λx=>(P x/\x<w.heap.size)\/w.heap.size+2<=x) λx p=>by
    obtain  (q|q)|q:=p.1
    .exact jc q
    .exact ja q.1
    .exact ja ae)
   have I3:=HI1.same (F3.block b ae ae)<|F3.block _ ae ae;have K3:=show Bq w w3 from⟨F3.os.trans du.os,F3.tape.trans du.tape,F3.output.trans du.output,by have:=du.size;omega,λi hi=>(F3.block i ae ae).trans<|du.block i hi⟩
   go_wp2
   go_roundg aE
   case measure=>exact bA
   case rel=>
    refine⟨(n:Int)::done,D',I3,S3,G3,λm hm=>?_,K3⟩;obtain q|q:=List.mem_cons.1 hm
    .have:m=n:=ae;subst this;exact N3
    .exact M3 m (HD m q)
def Xw(P:Nat->Prop)x y w(e:Ending)w':=Bq w w'/\
 ((∃wb θ,e=.returned (.tuple #[Mv wb,.bool true])/\w.heap.size<=wb/\In.yi θ x y/\(∀n,Whole<|θ n)/\(∀n,(vars []<|θ n).length<=1000)/\KW w' (λi=>P i\/w.heap.size<=i) wb θ)\/(e=.returned (.tuple #[.map none,.bool false])/\∀σ,sub σ x≠sub σ y))
def Xx(hx:cX w P x v)(hy:cX w P y u)(hxs:size x<=48)(hys:size y<=48)(hxw:Whole x)(hyw:Whole y):Cq 272 #[v,u] w (Xw P x y w):=by
 have iZ:= @run_makeMap jo;have k1:Bq w (w.alloc<|.map #[] 0):=bw _;have hVx:∀m,aB m x->m∈vars (vars [] x) y:=λm hm=>(bJ y _ m).2<|jc<|(bJ x [] m).2<|ja hm;have hVy:∀m,aB m y->m∈vars (vars [] x) y:=λm hm=>(bJ y _ m).2<|ja hm;have hV1:∀m,m∈vars (vars [] x) y->aB m x\/aB m y:=λm hm=>by
  obtain q|q:=(bJ y _ m).1 hm
  .obtain r|r:=(bJ x [] m).1 q
   .simp at r
   .exact jc r
  .exact ja q
 have hVl:(vars (vars [] x) y).length<=1000:=by
  have h1:=cY (occs x) [];have h2:=cY (occs y)<|vars [] x;have h3:=cZ x;have h4:=cZ y;rw[<-cC]at h1 h2;simp at h1;omega
 have HC:=Xy (P:=λi=>P i/\i<w.heap.size) (b:=w.heap.size) (V:=vars (vars [] x) y) ae _ _ (λ_=>none) Ty.var (λ_=>0) x y (br _) (br _) _ v u (fC.new w _) uU.start (λn t e=>by cases e) ⟨hVx,hxs,hxw⟩ ⟨hVy,hys,hyw⟩ (hx.low.af k1) (hy.low.af k1);obtain⟨ta,xa,rfl⟩:=hx.iface;obtain⟨tb,xb,rfl⟩:=hy.iface;have K1:=ai k1;go_enter func272,ntmps272;go_wp2_with fail;refine HC.mono ?_;rintro e w1⟨ok,rfl,F1,h1,h2⟩;have kb:Bq w w1:=by
  have k:=uh K1;exact⟨F1.os.trans k.os,F1.tape.trans k.tape,F1.output.trans k.output,jq k.size F1.size,λi hi=>(F1.block i (by have:=k.size;omega) ae).trans<|k.block i hi⟩
 cases ok with
 |false=>
  have H2:=h2 rfl;have KB:=ai kb
  go_wp2
  go_ret2;refine⟨KB,ja ⟨rfl,λσ=>?_⟩⟩;have:=H2 σ
  rwa[cI,cI]at this
 |true=>
  have⟨K',R',Qg,s1,s2,s3,s4,s5⟩:=h1 rfl;have HC:=Uw (P:=λi=>P i\/w.heap.size<=i) (s1.wide λi p=>jc p.1) (ja<|br _) s2<|II s2 s3 hVl;have KB:=ai kb;have H3:=qw s2<|qw s3 s4;go_wp2_with fail;refine HC.mono ?_;rintro e w2⟨wb,rfl,hwb,HK,K2⟩
  go_wp2
  go_ret2;obtain⟨s2,s3,s4⟩:=H3;have kb:=uh KB;refine⟨kb.trans<|K2.mono kb.size,jc ⟨wb,R',rfl,jq kb.size hwb,⟨s4.same,λσ e n=>?_,λn h1 h2=>?_,λn m h1 h2=>?_⟩,Dh s2 s3,(II s2 s3 hVl).len,?_⟩⟩
  .have:=s4.least σ (by rw[cI,cI];exact e) n;simpa[sub]using this
  .cases e:K' n with
   |none=>exact s2.open_ n e|some t=>obtain q|q:=hV1 n (s3 n t e).1;exact absurd q h1;exact absurd q h2
  .exact hV1 m (Xt s2 s3 n m (by obtain q|q:=h1;exact hVx n q;exact hVy n q) h2)
  .obtain⟨D,d1,d2⟩:=HK;exact⟨D,d1.wide λi p=>by obtain  (p|p)|p:=p;exact jc p;exact ja p;exact ja<|jq kb.size p,d2⟩
end
theorem KW.move(h:KW w P b κ)(hs:w.heap.size<=w'.heap.size)(hb:w'.heap[b]? =w.heap[b]?)(hp:∀x,P x->x<w.heap.size->w'.heap[x]? =w.heap[x]?)(hq:∀x,P x->x<w.heap.size->Q x):KW w' Q b κ:=by
 obtain⟨D,h1,h2⟩:=h;exact⟨D,h1.move hs hb hp hq,h2⟩
def KW.af(h:KW w P b κ)(hb:Bq w w'):KW w' P b κ:=by obtain⟨D,h1,h2⟩:=h;exact⟨D,h1.af hb,h2⟩
def KW.wide(h:KW w P b κ)(hq:∀x,P x->Q x):KW w Q b κ:=by obtain⟨D,h1,h2⟩:=h;exact⟨D,h1.wide hq,h2⟩
def KW.fr{S}(h:KW w P b κ)(hf:Fr S w w')(hb:¬S b)(hS:∀x,P x->x<w.heap.size->¬S x):KW w' P b κ:=by obtain⟨D,h1,h2⟩:=h;exact⟨D,h1.fr hf hb hS,h2⟩
def KW.lt(h:KW w P b κ):b<w.heap.size:=by obtain⟨D,h1,h2⟩:=h;exact h1.lt
def yw{D}(h:∀n,(D n=none->κ n=.var n)/\(D n≠none->D n=some (bK<|κ n)))n:EV D n=bK (κ n):=by
 rw[EV]
 cases e:D n with
 |none=>rw[(h n).1 e,IL];rfl|some t=>grind
structure wR(κ:Nat->Ty):Prop where
 wh:∀n,Whole<|κ n
 len:∀n,(vars []<|κ n).length<=1000000
theorem wR.sz(h:wR κ)n:size (bK<|κ n)<=1000001:=by have:=fD (h.wh n) (h.len n) aw;omega
structure TW w P S x v:Prop where
 ex:∃x',cX w P x' v/\dO x' x/\size x'<=S
 wh:Whole x
theorem TW.move{S}{x}{v}(h:TW w P S x v)(hs:w.heap.size<=w'.heap.size)(hb:∀b,P b->b<w.heap.size->w'.heap[b]? =w.heap[b]?)(hq:∀b,P b->b<w.heap.size->Q b):TW w' Q S x v:=by
 obtain⟨⟨x',h1,h2,h3⟩,h4⟩:=h;exact⟨⟨x',h1.move hs hb hq,h2,h3⟩,h4⟩
def TW.af(h:TW w P S x v)(hb:Bq w w'):TW w' P S x v:=h.move hb.size (λb _ hz=>hb.block b hz)<|λ_ p _=>p
def TW.wide(h:TW w P S x v)(hq:∀x,P x->Q x):TW w Q S x v:=h.move (br _) (λ_ _ _=>rfl)<|λb p _=>hq b p
def TW.fr{F}(h:TW w P S x v)(hf:Fr F w w')(hS:∀b,P b->b<w.heap.size->¬F b):TW w' P S x v:=h.move hf.size (λb p z=>hf.block b z<|hS b p z)<|λ_ p _=>p
def TW.iface{S}{x}{v}(h:TW w P S x v):∃a y,v=.iface a y:=by obtain⟨⟨x',h1,_⟩,_⟩:=h;exact h1.iface
def TW.le{S'}(h:TW w P S x v)(hs:S<=S'):TW w P S' x v:=by obtain⟨⟨x',h1,h2,h3⟩,h4⟩:=h;exact⟨⟨x',h1,h2,jq h3 hs⟩,h4⟩
def TW.of(h:cX w P x v)(hw:Whole x)(hs:size x<=S):TW w P S x v:=⟨⟨x,h,dO.refl x,hs⟩,hw⟩
def uY(h:KW w P b κ)(hb:P b)(hf:wR κ)(hS:S<=900000)(hx:TW w Q S x v):Cq 242 #[Mv b,v] w (Qh (bK<|sub κ x) P w):=by
 obtain⟨D,h1,h2⟩:=h;obtain⟨⟨x',t1,t2,t3⟩,t4⟩:=hx;have e:bK (sub (EV D) x')=bK (sub κ x):=by
  refine qr (t2.sub λn _=>?_)<|cd x t4 λn _=>hf.wh n;rw[yw h2 n];exact qp _<|hf.wh n
 rw[<-e];refine IP h1 hb t1 ae ?_;have q:=iA (EV D) 1000001 x' (λn _=>by rw[yw h2 n];exact hf.sz n) aw;have:1000001*size x'<=1000001*900000:=ju _ ae;omega
def TW.Xz(hx:TW w P S x v)(hf:wR κ)(hS:S<=900000):size (bK<|sub κ x)<=1000000000000:=by
 obtain⟨⟨x',t1,t2,t3⟩,t4⟩:=hx;have hw:=cd x t4 λn _=>hf.wh n;have e:=qr (t2.sub λn _=>qp _<|hf.wh n) hw;have q:=iA (λn=>bK<|κ n) 1000001 x' (λn _=>hf.sz n) aw;have q2:1000001*size x'<=1000001*900000:=ju _ ae;have hl:(vars []<|sub κ x).length<=1000001*900000:=by
  have h1:=gZ<|sub κ x;rw[<-e,gZ]at h1;rw[<-h1,cC];have h2:=cY (occs<|sub (λn=>bK<|κ n) x') [];have h3:=cZ<|sub (λn=>bK<|κ n) x';simp only[qP]at h2;omega
 have:=fD hw hl aw;omega
abbrev guW(f:Fl)(vl vr:Value):Value:=.iface 380<|.agg #[Nv f.kind,Nv f.aF,Nv f.to,vl,vr]
structure rM w P(x:In.Ft)(vl vr:Value):Prop where
 q_:x.f.kind=7->vl=.nilIface/\vr=.nilIface
 apart:x.f.kind=6->dD w P x.l vl/\dD w P x.r vr
 k:x.f.kind=6\/x.f.kind=7
def acH(P:Nat->Prop)κ u x y f t w(e:Ending)w':=Bq w w'/\∃o,In.sW x y f t ⟨κ,u⟩ o/\match o with
 |.ok (_,s)=>∃b,e=.returned (Mv b)/\w.heap.size<=b/\KW w' (λi=>P i\/w.heap.size<=i) b s.k/\∀n,Whole (s.k n)|.error z=>∃vl vr,e=.panicked [{v:=guW z.f vl vr,recovered:=false}]/\rM w' (λi=>P i\/w.heap.size<=i) z vl vr
def m5 f t:Cq 244 #[.agg #[Iv f,Iv t]] w λe w'=>e=.returned (.agg #[Iv 7,Iv f,Iv t,.nilIface,.nilIface])/\Bq w w':=by
 go_enter func244,ntmps244
 go_wp2
 exact bodyPost_ret (v:=Av #[Iv 7,Iv f,Iv t,Zv,Zv]) (by simp[results,Tryz.results244,go_sem]) rfl ⟨rfl,(bw _).alloc ag _⟩
def EW f t ta tb xa xb:Cq 273 #[.agg #[Iv f,Iv t],.iface ta xa,.iface tb xb] w λe w'=>e=.returned (.agg #[Iv 6,Iv f,Iv t,.iface ta xa,.iface tb xb])/\Bq w w':=by
 go_enter func273,ntmps273
 go_wp2
 exact bodyPost_ret (v:=Av #[Iv 6,Iv f,Iv t,Fv ta xa,Fv tb xb]) (by simp[results,Tryz.results273,go_sem]) rfl ⟨rfl,(bw _).alloc ag _⟩
def EY t(hw:Whole t):(48<sz (bK t)↔48<size t)/\(size t<=48->bK t=t):=by
 refine⟨(qp t hw).afd hw,λh=>zv h hw⟩
def IQ(h:KW w P b κ)(hb:P b)(hf:wR κ)(hS:S<=900000)(hx:TW w P S x v)(hy:TW w P S y u)f t us:
 Cq 252 #[Mv b,v,u,.agg #[Nv f,Nv t]] w (acH P κ us x y f t w):=by
 have⟨k0,B0⟩:=oF w #[Nv f,Nv t] 119;have hxw:=cd x hx.wh λn _=>hf.wh n;have hyw:=cd y hy.wh λn _=>hf.wh n;have H1:=uY (h.af k0) hb hf hS<|hx.af k0;have HH:=ai h;have K0:=ai k0;obtain⟨ta,xa,rfl⟩:=hx.iface;obtain⟨tb,xb,rfl⟩:=hy.iface;clear h k0;go_enter func252,ntmps252;go_wp2_with fail;refine H1.mono ?_;rintro e w1⟨u1,rfl,wS,k1⟩;have KK1:=K0.trans<|k1.mono K0.size;have H2:=uY (HH.af KK1) hb hf hS<|hy.af KK1;have U1:=wS.wide (Q:=λi=>P i\/w.heap.size<=i) λi p=>by obtain p|p:=p;exact Or.inl p;exact Or.inr<|Nat.le_trans K0.size p
 have B1:=B0.below k1;obtain⟨BQ,BS,rfl⟩:=wS.iface;clear wS k1 H1 B0;go_wp2_with fail;refine H2.mono ?_;rintro e w2⟨u2,rfl,wU,k2⟩;have XC:=KK1.trans<|k2.mono KK1.size;have U1':=U1.af k2;have U2':=wU.wide (Q:=λi=>P i\/w.heap.size<=i) λi p=>by obtain p|p:=p;exact jc p;exact ja<|jq KK1.size p
 have B2:=B1.below k2;obtain⟨tb1,xb1,rfl⟩:=wU.iface;have S1:=pU _ w2 _ _ U1'<|hx.Xz hf hS;have S2:=λ(W:World)(hk:Bq w2 W)=>pU _ W _ _ (U2'.af hk)<|hy.Xz hf hS;obtain⟨n1,N1⟩:∃n,n=sz (bK<|sub κ x):=⟨_,rfl⟩;obtain⟨n2,N2⟩:∃n,n=sz (bK<|sub κ y):=⟨_,rfl⟩;rw[<-N1]at S1;rw[<-N2]at S2;clear wU k2 H2 B1 U1 KK1;go_wp2_with fail;refine S1.mono ?_;rintro e w3⟨rfl,K3⟩;have S2:=S2 w3 K3;have B3:=B2.below K3;clear S1 B2;go_wp2_with fail;refine S2.mono ?_;rintro e w4⟨rfl,k4⟩;have B4:=ai<|B3.below k4;have k34:=K3.trans<|k4.mono K3.size;have KK4:=XC.trans<|k34.mono XC.size;have U3:=U1'.af k34;have U4:=U2'.af k34;clear k4 S2 B3 k34 K3 U1' U2' XC;have⟨c4,f4,z4⟩:=uh B4;have e1:=EY (sub κ x) hxw;have e2:=EY (sub κ y) hyw;rw[<-N1]at e1;rw[<-N2]at e2;have E1:=ai e1;have E2:=ai e2;clear e1 e2;have KX:=hf.wh;by_cases bA:n1<n2
 all_goals(
  by_cases Ux:48<n1\/48<n2
  .first|(have hm:(48:Int)<(n1:Int):=by omega)|(have hm:(48:Int)<(n2:Int):=by omega)
   have HT:=m5 (w:=w4) (f:Int) (t:Int);go_wp2_with fail;refine HT.mono ?_;rintro e w5⟨rfl,k5⟩;have K5:=ai k5;clear k5 HT;go_wp2_with fail;have XD:=KK4.trans<|K5.mono KK4.size;refine⟨rfl,XD,.error<|In.q_ f t,jc ⟨?_,rfl⟩,Zv,Zv,rfl,⟨λ_=>⟨rfl,rfl⟩,(λh=>MO),ja rfl⟩⟩;obtain q|q:=Ux
   .exact jc (E1.1.1 q)
   .exact ja (E2.1.1 q)
  .have hm1:¬(48:Int)<(n1:Int):=ae;have hm2:¬(48:Int)<(n2:Int):=ae;have s1:size (sub κ x)<=48:=by have:=E1.1;omega
   have s2:size (sub κ y)<=48:=by have:=E2.1;omega
   have V1:=U3;have V2:=U4;rw[(uh E1).2 s1]at V1;rw[(uh E2).2 s2]at V2;have HU:=Xx V1 V2 s1 s2 hxw hyw;go_wp2_with fail;refine HU.mono ?_;rintro e w5⟨k5,hp⟩;have B5:=ai<|B4.below k5;have⟨c5,f5,z5⟩:=uh B5;have K5:=ai k5;have KK5:=ai<|KK4.trans<|k5.mono KK4.size;have acI:=qw s1 s2;have z45:=k5.size;have z04:=KK4.size;clear c4 f4 z4 HU s1 s2 k5;obtain⟨wb,θ,rfl,hwb,hM,hWh,hLn,hKW⟩|⟨rfl,HN⟩:=hp
   .have hko:KW w5 (λi=>P i\/w.heap.size<=i) b κ:=(HH.af KK5).wide λi p=>jc p;have hkn:=hKW.wide λi p=>by
     obtain p|p:=p
     .exact p
     .exact ja ae
    obtain⟨D1,d1,d2⟩:=hko;obtain⟨D2,e1,e2⟩:=hkn;have fK:∀n t,D1 n=some t->size t<=1000000000000/\size (sub (EV D2) t)<=1000000000000:=λn t ht=>by
     have h1:=(d2 n).2 (by rw[ht];simp);rw[ht]at h1;injection h1 with h1;subst h1;have h2:=hf.sz n;have h3:=iA (EV D2) 1001 (bK<|κ n) (λm _=>by rw[yw e2 m];have:=fD (hWh m) (hLn m) aw;omega) aw;have h4:1001*size (bK<|κ n)<=1001*1000001:=ju _ h2;exact⟨ae,ae⟩
    have HT:=acJ d1 e1 (ja ae) fK;have HD:=qw d2 e2;have HMW:=qw hM hWh;clear d1 e1 d2 e2 fK hKW hLn hM hWh;go_wp2_with fail;refine HT.mono ?_;rintro e w6⟨b3,rfl,ox,S3,K6⟩;clear HT
    go_wp2
    go_ret;have XD:=KK5.trans<|K6.mono KK5.size;obtain⟨d2,e2⟩:=HD;obtain⟨hM,hWh⟩:=HMW;have hwt:∀n,Whole<|sub θ<|κ n:=λn=>cd _ (KX n) λm _=>hWh m;refine⟨XD,.ok ((),⟨λn=>sub θ<|κ n,us⟩),ja ⟨acI.1,acI.2,jc ⟨θ,hM,rfl⟩⟩,b3,rfl,ae,⟨zx D1 D2,S3.wide λi p=>?_,λn=>⟨λq=>?_,λq=>?_⟩⟩,hwt⟩
    .obtain p|p:=p
     .exact p
     .exact ja ae
    .rw[zx]at q
     cases hd:D1 n with
     |none=>
      rw[hd]at q;show sub θ (κ n)=_;rw[(d2 n).1 hd,sub,(e2 n).1 q]
     |some t=>rw[hd]at q;cases q
    .rw[zx]
     cases hd:D1 n with
     |none=>
      show D2 n=some (bK<|sub θ<|κ n);rw[(d2 n).1 hd,sub];refine(e2 n).2 λr=>q ?_;rw[zx];rw[hd];exact r
     |some t=>
      have h1:=(d2 n).2 (by rw[hd];simp);rw[hd]at h1;injection h1 with h1;subst h1;show some (bK<|sub (EV D2)<|bK<|κ n)=some (bK<|sub θ<|κ n);congr 1;refine qr ((qp _<|KX n).sub λm _=>?_)<|hwt n;rw[yw e2 m];exact qp _<|hWh m
   .have HA:=EW (w:=w5) (f:Int) (t:Int) BQ tb1 BS xb1;go_wp2_with fail;refine HA.mono ?_;rintro e w6⟨rfl,K6⟩;clear HA;go_wp2_with fail;have k46:=K5.trans<|K6.mono K5.size;have XD:=KK5.trans<|K6.mono KK5.size;refine⟨rfl,XD,.error ⟨⟨6,f,t⟩,sub κ x,sub κ y⟩,ja ⟨acI.1,acI.2,ja ⟨HN,rfl⟩⟩,Fv BQ BS,Fv tb1 xb1,rfl,⟨(λh=>MO),λ_=>⟨?_,?_⟩,jc rfl⟩⟩
    .exact(V1.af k46).v hxw
    .exact(V2.af k46).v hyw)
abbrev TeN I D A z:=∀(x:Array Value)(w:World),(qf (.iface D<|.agg x) I A true).run jo w=.ok (.tuple #[.agg z,.bool false]) w
def yx.te{A}{z}(h:yx A z){I D}(hd:D≠A):TeN I D A z:=λx w=>h I D (.agg x) w hd
def IvC nd:=∀(w:World)(Q:Nat->Prop)(v:Value),PE w Q nd v->Cq 245 #[v] w λe w'=>e=.returned (.bool<|j7 nd)/\Bq w w'
def ImC x y:=∀(w:World)(Q:Nat->Prop)(vx vy:Value)(f t:Int),PE w Q x vx->PE w Q y vy->Cq 256 #[.agg #[Iv f,Iv t,vx,vy]] w λe w'=>e=.returned (.bool<|j8 x&&j7 y)/\Bq w w'
def aiY s n x y f t a(Hx:IvC x)(Hy:IvC y):IvC (.mk 6 s n [x,y] f t a):=by
 intro w Q v h;have ev:j7 (.mk 6 s n [x,y] f t a)=(j7 x&&j7 y):=by simp[j7,In.Uy]
 rw[ev]
 cases h with
 |lt c s n x z f t a y vx vz hc hs hy hx hz=>omega|pr s n x y f t a vx vy hx hy=>
 obtain⟨tx,ax,rfl⟩:=hx.iface;obtain⟨ty,ay,rfl⟩:=hy.iface;have⟨K0,B0⟩:=oF w #[Nv f,Nv t,Fv tx<|Av ax,Fv ty<|Av ay] 284;have H1:=Hx _ Q _<|hx.af K0;go_enter func245,ntmps245;go_wp2_with fail;refine H1.mono ?_;rintro e w1⟨rfl,k1⟩;have KK:=K0.trans<|k1.mono K0.size;have H2:=Hy _ Q _<|hy.af KK;have⟨c1,f1,z1⟩:=B0.below k1
 cases hb:j7 x with
 |true=>
  go_wp2_with fail;refine H2.mono ?_;rintro e w2⟨rfl,K2⟩
  go_wp2
  go_ret;exact⟨by rw[hb];rfl,KK.trans<|K2.mono KK.size⟩
 |false=>
  go_wp2
  go_ret;exact⟨by rw[hb];rfl,KK⟩
def Qi{p:Prop}(h:p:=by
 go_enter func245,ntmps245;go_wp2_with fail;refine H1.mono ?_;rintro e w1⟨rfl,K1⟩
 go_wp2
 go_ret
 exact⟨rfl,K0.trans<|K1.mono K0.size⟩):p:=h
def aiZ s n x y f t a(Hx:IvC x):IvC (.mk 14 s n [x,y] f t a):=by
 intro w Q v h;have ev:j7 (.mk 14 s n [x,y] f t a)=j7 x:=by simp[j7,qe]
 rw[ev]
 cases h with
 |lt c s n x z f t a y vx vz hc hs hy hx hz=>omega|of s n x y f t a vx vy hx hy=>
 obtain⟨tx,ax,rfl⟩:=hx.iface;obtain⟨ty,ay,rfl⟩:=hy.bO;have K0:Bq w (w.alloc<|Cv #[Nv f,Nv t,Fv tx<|Av ax,Fv ty<|Av ay] 287):=bw _;have H1:=Hx _ Q _<|hx.af K0;exact Qi
def acK s n x y f t a(Hm:ImC x y):IvC (.mk 8 s n [x,y] f t a):=by
 intro w Q v h;have ev:j7 (.mk 8 s n [x,y] f t a)=(j8 x&&j7 y):=by simp[j7,In.isC,In.Nt,qe]
 rw[ev]
 cases h with
 |lt c s n x z f t a y vx vz hc hs hy hx hz=>omega|call s n x y f t a vx vy hx hy=>
 obtain⟨tx,ax,rfl⟩:=hx.iface;obtain⟨ty,ay,rfl⟩:=hy.iface;have K0:Bq w (w.alloc<|Cv #[Nv f,Nv t,Fv tx<|Av ax,Fv ty<|Av ay] 299):=bw _;have H1:=Hm _ Q _ _ (f:Int) (t:Int) (hx.af K0)<|hy.af K0;exact Qi
def PE.kinds{x}(h:PE w Q x v):(∃ax:Array Value,v=.iface 282 (.agg ax)/\(∃(a0 a1:Int)(a2:BA),ax=#[Iv a0,Iv a1,.string a2])/\j8 x=true)\/(∃(s:BA)(n:Nat)(u z:Nd)(f t a:Nat)(vu vz:Value),x=.mk 8 s n [u,z] f t a/\v=.iface 299 (.agg #[Nv f,Nv t,vu,vz])/\PE w Q u vu/\PE w Q z vz)\/(j8 x=false/\∃(D:TypeId)(ax:Array Value),v=.iface D (.agg ax)/\TeN 128 D 282 #[Iv 0,Iv 0,.string ⟨#[]⟩]/\TeN 128 D 299 #[Iv 0,Iv 0,.nilIface,.nilIface]):=by
 cases h with
 |up s n f t a hs=>exact jc ⟨_,rfl,⟨_,_,_,rfl⟩,by simp[j8]⟩|call s n x y f t a vx vy hx hy=>grind|lt c s n x z f t a y vx vz hc hs hy hx hz=>exact ja (ja ⟨by obtain rfl|rfl:=hc<;>simp[j8],_,_,rfl,(afe.te aw),(Qj.te aw)⟩)
 |_=>exact ja (ja ⟨by simp[j8],_,_,rfl,(afe.te aw),(Qj.te aw)⟩)
def acL x y(Hy:IvC y)(IH:∀(s:BA)(n:Nat)(u z:Nd)(f t a:Nat),x=.mk 8 s n [u,z] f t a->ImC u z):ImC x y:=by
 intro w Q vx vy f t hx hy;have⟨K0,B0⟩:=oF w #[Iv f,Iv t,vx,vy] 299;have H1:=Hy _ Q _<|hy.af K0;have MP:=hx.kinds;obtain⟨tx,ax,rfl⟩:=hx.iface;obtain⟨ty,ay,rfl⟩:=hy.iface;obtain⟨Z,hZ⟩:∃Z,Hid<|Z=(In.isM x&&In.rK y):=⟨_,ai rfl⟩;rw[<-uh hZ];go_enter func256,ntmps256;go_wp2_with fail;refine H1.mono ?_;rintro e w1⟨rfl,k1⟩;have KK:=K0.trans<|k1.mono K0.size;have⟨c1,f1,z1⟩:=B0.below k1
 cases hb:j7 y with
 |false=>
  go_wp2
  go_ret;exact⟨by rw[uh hZ,hb,Bool.and_false];rfl,KK⟩
 |true=>
  rw[hb,Bool.and_true]at hZ;obtain⟨bx,e1,⟨a0,a1,a2,rfl⟩,e2⟩|⟨s,n,u,z,f',t',a,vu,vz,rfl,e1,hu,hz⟩|⟨e2,D,bx,e1,h1,h2⟩:=MP
  .injection e1 with e1 e3;injection e3 with e3;subst e1 e3;rw[e2]at hZ
   go_wp2
   go_ret;exact⟨by rw[uh hZ];rfl,KK.alloc KK.size _⟩
  .injection e1 with e1 e3;injection e3 with e3;subst e1 e3;obtain⟨tu,au,rfl⟩:=hu.iface;obtain⟨tz,az,rfl⟩:=hz.iface;have k2:Bq w1 (w1.alloc<|Cv #[Nv f',Nv t',Fv tu<|Av au,Fv tz<|Av az] 299):=bw _;have H3:=IH s n u z f' t' a rfl _ Q _ _ (f':Int) (t':Int) ((hu.af KK).af k2) ((hz.af KK).af k2);have em:j8 (.mk 8 s n [u,z] f' t' a)=(j8 u&&j7 z):=by simp[j8,In.isC,In.Nt,qe]
   rw[em]at hZ;have K2:=KK.trans<|k2.mono KK.size;go_wp2_with fail;refine H3.mono ?_;rintro e w3⟨rfl,K3⟩
   go_wp2
   go_ret;exact⟨by rw[uh hZ];rfl,K2.trans<|K3.mono K2.size⟩
  .injection e1 with e1 e3;injection e3 with e3;subst e1 e3;rw[e2]at hZ
   go_wp2
   go_ret;exact⟨by rw[uh hZ];rfl,KK⟩
def Qk{p:Prop}(h:p:=by
 go_enter func245,ntmps245
 go_wp2
 go_ret
 exact⟨by simp[j7],qn _ _⟩):p:=h
def IR:∀(m:Nat),(∀nd:Nd,qj nd<=m->IvC nd)/\∀x y:Nd,qj x+qj y<=m->ImC x y:=by
 intro m
 induction m using jx with
 |_ m ih=>
  have sp:∀nd:Nd,1<=qj nd:=λnd=>by cases nd;simp;omega
  have IV:∀nd:Nd,qj nd<m->IvC nd:=λnd h=>(ih (m-1) ae).1 nd ae;have IM:∀x y:Nd,qj x+qj y<m->ImC x y:=λx y h=>(ih (m-1) ae).2 x y ae;refine⟨λnd hm=>?_,λx y hm=>acL x y (IV y (by have:=sp x;omega)) λs n u z f t a e=>IM u z (by subst e;simp at hm;omega)⟩;intro w Q v h
  cases h with
  |pr s n x y f t a vx vy hx hy=>simp at hm;exact aiY s n x y f t a (IV x ae) (IV y ae) w Q _ (.pr s n x y f t a vx vy hx hy)|of s n x y f t a vx vy hx hy=>simp at hm;exact aiZ s n x y f t a (IV x ae) w Q _ (.of s n x y f t a vx vy hx hy)|call s n x y f t a vx vy hx hy=>simp at hm;exact acK s n x y f t a (IM x y ae) w Q _ (.call s n x y f t a vx vy hx hy)|lt c s n x z f t a y vx vz hc=>
   obtain rfl|rfl:=hc;all_goals
    exact Qk
  |_=>
   exact Qk
def pV nd:IvC nd:=(IR<|qj nd).1 nd<|br _
def wPl_Low a0 a1 a2 N w:(method (N+1) 253 (.agg #[a0,a1,a2]) "Place").run Tryz.prog w=.ok (331,.agg #[a0,a1]) w:=qkr
def wPl_Up a0 a1 a2 N w:(method (N+1) 282 (.agg #[a0,a1,a2]) "Place").run Tryz.prog w=.ok (331,.agg #[a0,a1]) w:=qkr
def wPl_Number a0 a1 a2 N w:(method (N+1) 256 (.agg #[a0,a1,a2]) "Place").run Tryz.prog w=.ok (331,.agg #[a0,a1]) w:=qkr
def wPl_Bool a0 a1 a2 N w:(method (N+1) 259 (.agg #[a0,a1,a2]) "Place").run Tryz.prog w=.ok (331,.agg #[a0,a1]) w:=qkr
def wPl_Unit a0 a1 N w:(method (N+1) 309 (.agg #[a0,a1]) "Place").run Tryz.prog w=.ok (331,.agg #[a0,a1]) w:=qkr
def wPl_Pair a0 a1 a2 a3 N w:(method (N+1) 284 (.agg #[a0,a1,a2,a3]) "Place").run Tryz.prog w=.ok (331,.agg #[a0,a1]) w:=qkr
def wPl_Typed a0 a1 a2 a3 N w:(method (N+1) 287 (.agg #[a0,a1,a2,a3]) "Place").run Tryz.prog w=.ok (331,.agg #[a0,a1]) w:=qkr
def wPl_Fun a0 a1 a2 a3 a4 a5 N w:(method (N+1) 289 (.agg #[a0,a1,a2,a3,a4,a5]) "Place").run Tryz.prog w=.ok (331,.agg #[a0,a1]) w:=qkr
def wPl_Let a0 a1 a2 a3 a4 a5 a6 a7 N w:(method (N+1) 291 (.agg #[a0,a1,a2,a3,a4,a5,a6,a7]) "Place").run Tryz.prog w=.ok (331,.agg #[a0,a1]) w:=qkr
def wPl_If a0 a1 a2 a3 a4 N w:(method (N+1) 293 (.agg #[a0,a1,a2,a3,a4]) "Place").run Tryz.prog w=.ok (331,.agg #[a0,a1]) w:=qkr
def wPl_Match a0 a1 a2 a3 N w:(method (N+1) 296 (.agg #[a0,a1,a2,a3]) "Place").run Tryz.prog w=.ok (331,.agg #[a0,a1]) w:=qkr
def wPl_Binary a0 a1 a2 a3 a4 N w:(method (N+1) 235 (.agg #[a0,a1,a2,a3,a4]) "Place").run Tryz.prog w=.ok (331,.agg #[a0,a1]) w:=qkr
def wPl_Call a0 a1 a2 a3 N w:(method (N+1) 299 (.agg #[a0,a1,a2,a3]) "Place").run Tryz.prog w=.ok (331,.agg #[a0,a1]) w:=qkr
def wPl_Any a0 a1 N w:(method (N+1) 310 (.agg #[a0,a1]) "Place").run Tryz.prog w=.ok (331,.agg #[a0,a1]) w:=qkr
def wPl_PatternPair a0 a1 a2 a3 N w:(method (N+1) 315 (.agg #[a0,a1,a2,a3]) "Place").run Tryz.prog w=.ok (331,.agg #[a0,a1]) w:=qkr
def wPl_Made a0 a1 a2 a3 a4 a5 N w:(method (N+1) 313 (.agg #[a0,a1,a2,a3,a4,a5]) "Place").run Tryz.prog w=.ok (331,.agg #[a0,a1]) w:=qkr
abbrev PlF tx x(f t:Nat):=∀(N:Nat)(w:World),(method (N+1) tx x "Place").run Tryz.prog w=.ok (331,.agg #[.int .i64 (f:Int),.int .i64 (t:Int)]) w
def PE.place{x:Value}(h:PE w Q nd (.iface tx x)):PlF tx x (In.kZ nd) (In.BT nd):=by
 intro N w'
 cases h with
 |low=>exact wPl_Low _ _ _ _ _|up=>exact wPl_Up _ _ _ _ _|num=>exact wPl_Number _ _ _ _ _|word=>exact wPl_Bool _ _ _ _ _|unit=>exact wPl_Unit _ _ _ _|pr=>exact wPl_Pair _ _ _ _ _ _|of=>exact wPl_Typed _ _ _ _ _ _|op=>exact wPl_Binary _ _ _ _ _ _ _|call=>exact wPl_Call _ _ _ _ _ _|fn=>exact wPl_Fun _ _ _ _ _ _ _ _|lt=>exact wPl_Let _ _ _ _ _ _ _ _ _ _|ite=>exact wPl_If _ _ _ _ _ _ _|mt=>exact wPl_Match _ _ _ _ _ _
def PP.place{x:Value}(h:PP w Q nd (.iface tx x)):PlF tx x (In.kZ nd) (In.BT nd):=by
 intro N w'
 cases h with
 |any=>exact wPl_Any _ _ _ _|low=>exact wPl_Low _ _ _ _ _|num=>exact wPl_Number _ _ _ _ _|word=>exact wPl_Bool _ _ _ _ _|unit=>exact wPl_Unit _ _ _ _|pr=>exact wPl_PatternPair _ _ _ _ _ _|up=>exact wPl_Made _ _ _ _ _ _ _ _
def dR f t:Cq 331 #[.agg #[Iv f,Iv t]] w λe w'=>e=.returned (.agg #[Iv f,Iv t])/\Bq w w':=by
 go_enter func331,ntmps331
 go_wp2
 exact bodyPost_ret (v:=Av #[Iv f,Iv t]) (by simp[results,Tryz.results331,go_sem]) rfl ⟨rfl,(bw _).alloc ag _⟩
end
abbrev MU:Array Value:=#[Iv 0,Iv 0,Iv 0,.nilIface,.nilIface]
def Uz a b c d e w:(qf (.iface 380<|.agg #[a,b,c,d,e]) 20 380 true).run jo w=.ok (.tuple #[.agg #[a,b,c,d,e],.bool true]) w:=qkr
def Bx.Ql(h:Bx w b C)(hC:C.size=5)v0 v1 v2 v3 v4:Bx (((((w.setCell ⟨b,0,none⟩ v0).setCell ⟨b,1,none⟩ v1).setCell ⟨b,2,none⟩ v2).setCell ⟨b,3,none⟩ v3).setCell ⟨b,4,none⟩ v4) b #[v0,v1,v2,v3,v4]:=by
 obtain⟨a0,a1,a2,a3,a4,rfl⟩:∃a0 a1 a2 a3 a4,C=#[a0,a1,a2,a3,a4]:=by
  obtain⟨l⟩:=C
  match l,hC with
  |[a,b,c,d,e],_=>grind
 exact((((h.aT 0 v0 #[v0,a1,a2,a3,a4] rfl ag).aT 1 v1 #[v0,v1,a2,a3,a4] rfl ag).aT 2 v2 #[v0,v1,v2,a3,a4] rfl ag).aT 3 v3 #[v0,v1,v2,v3,a4] rfl ag).aT 4 v4 #[v0,v1,v2,v3,v4] rfl ag
def Di b(hB:Bx w b MU)(f:Fl)vl vr(hv:(vl=.nilIface/\vr=.nilIface)\/∃a b c d,vl=.iface a b/\vr=.iface c d):
 CallsD jo 240 #[Pv b] (.panicking [{v:=.iface 380<|.agg #[Nv f.kind,Nv f.aF,Nv f.to,vl,vr],recovered:=false}]) w λe u' w'=>
  e=.returned (.tuple #[])/\u'=.panicking [{v:=.iface 380<|.agg #[Nv f.kind,Nv f.aF,Nv f.to,vl,vr],recovered:=true}]/\Bx w' b #[Nv f.kind,Nv f.aF,Nv f.to,vl,vr]/\Fr (λi=>i=b) w w':=by
 obtain⟨G,hG⟩:∃G:Value,G=.iface 380 (.agg #[Nv f.kind,Nv f.aF,Nv f.to,vl,vr]):=⟨_,rfl⟩;rw[<-hG];have hta:=Uz;have B0:=ai hB;obtain⟨c,ff,z⟩:=hB;refine callsD_of_wpS Tryz.func240 rfl λdW cs hu=>?_;apply wpS_seq;apply wpS_region;simp[wpOpsS,go_sem,recoverD,hu,Tryz.ntmps240,Exit.thenS];rw[show(#[Pv b]++((jy 16 undef).setIfInBounds 3 G).setIfInBounds 0 G)=#[Pv b,G,undef,undef,G,undef,undef,undef,undef,undef,undef,undef,undef,undef,undef,undef,undef]from rfl];obtain⟨CS,EZ⟩:∃CS:List Frame,CS=({fn:=dW.fn,tmps:=dW.tmps,todo:=dW.todo,defers:=dW.defers,mode:=FrameMode.panicking [{v:=G,recovered:=true}],kind:=dW.kind,roundOf:=dW.roundOf}::cs):=⟨_,rfl⟩;rw[<-EZ];refine wpS_of_wp ?_;subst hG;obtain⟨rfl,rfl⟩|⟨ta,xa,tb,xb,rfl,rfl⟩:=hv
 all_goals(
 go_wp2_with fail;refine⟨rfl,_,EZ,.tuple #[],by simp[results,Tryz.results240,go_sem],rfl,rfl,?_,?_⟩
 .exact((B0.Ql rfl _ _ _ _ _).alloc _)
 .exact(((((Fr.refl (λi=>i=b) w).set (b:=b) (jc rfl) 0 _).set (jc rfl) 1 _).set (jc rfl) 2 _).set (jc rfl) 3 _).set (jc rfl) 4 _|>.trans (Fr.of<|bw _))
def acM b:
 CallsD jo 240 #[Pv b] .returning w λe u' w'=>
  e=.returned (.tuple #[])/\u'=.returning/\w'=w:=by
 refine callsD_of_wpS Tryz.func240 rfl λdW cs hu=>?_;apply wpS_seq;apply wpS_region;simp[wpOpsS,go_sem,recoverD,hu,Tryz.ntmps240,Exit.thenS];rw[show(#[Pv b]++((jy 16 undef).setIfInBounds 3 Zv).setIfInBounds 0 Zv)=#[Pv b,Zv,undef,undef,Zv,undef,undef,undef,undef,undef,undef,undef,undef,undef,undef,undef,undef]from rfl];have EZ:dW::cs={dW with mode:=.returning}::cs:=(by cases dW;simp at hu;subst hu;rfl);refine wpS_of_wp ?_
 go_wp2
 exact⟨rfl,_,EZ,.tuple #[],by simp[results,Tryz.results240,go_sem],rfl,rfl,rfl⟩
def FM w b(F:BA->Option Nat):=∃L,MS qk w b L/\∀x,a_ x L=(F x).map λ(n:Nat)=>Nv n
section
variable {c:Nat}
def FM.lt(h:FM w b F):b<w.heap.size:=qAr
def FM.same(h:FM w b F)(hb:w'.heap[b]? =w.heap[b]?):FM w' b F:=qAs
def FM.below(h:FM w b F)(hb:Bq w w'):FM w' b F:=h.same<|hb.block b h.lt
def zy w:(zeroValue 3).run jo w=.ok (Iv 0) w:=qkr
def lkV(c:Bool):Option Nat->Value
 |some n=>if c then .tuple #[Nv n,.bool true]else Nv n|none=>if c then .tuple #[Iv 0,.bool false]else Iv 0
def FM.look(h:FM w b F)x c:(qg 183 (Mv b) (.string x) c).run jo w=.ok (lkV c<|F x) w:=by
 obtain⟨L,h1,h2⟩:=h;rw[h1.look (KL.str jp) Tryz.underlying183 (zy w) x trivial (λ_ _=>trivial) c,h2 x]
 cases F x<;>rfl
def FM.put(h:∀x,a_ x L=(F x).map λ(n:Nat)=>Nv n)s n:∀x,a_ x (bG s (Nv n) L)=(yj F s n x).map λ(n:Nat)=>Nv n:=by grind[a_,bG,yj,aO]
def UA w x c:(qg 183 (.map none) (.string x) c).run jo w=.ok (lkV c none) w:=by
 rw[qg];simp only[Sem.run_bind,run_underlying Tryz.underlying183,qm];have hf:(Instr.findKey 9 (Sv x) []).run jo w=.ok none w:=(KL.str jp).fin x [] [] w trivial ag rfl
 cases c<;>simp[zy,qm,(KL.str jp).chk,lkV,hf]
def MV' w v F:=(v=.map none/\F=λ_=>none)\/∃b,v=Mv b/\FM w b F
def MV'.look{v}(h:MV' w v F)x c:(qg 183 v (.string x) c).run jo w=.ok (lkV c<|F x) w:=by
 obtain⟨rfl,rfl⟩|⟨b,rfl,h⟩:=h
 .exact UA w x c
 .exact h.look x c
def Qm{p:Prop}(h:p:=by
 rw[hF]at hl;simp only[lkV,if_true]at hl;go_enter func163,ntmps163
 go_wp2
 go_ret
 exact⟨rfl,rfl⟩):p:=h
def Qn(h:MV' w v F)s:Cq 163 #[v,.string s] w λe w'=>e=.returned (.bool (F s).isSome)/\w'=w:=by
 have hl:=h.look s true
 cases hF:F s with
 |none=>
  exact Qm
 |some n=>
  exact Qm
def Qo(h:MV' w v F){n:Nat}(hF:F s=some n):Cq 192 #[v,.string s,Nv n] w λe w'=>e=.returned (.bool true)/\w'=w:=by
 have hl:=h.look s true;rw[hF]at hl;simp only[lkV,if_true]at hl;go_enter func192,ntmps192
 go_wp2
 go_ret;exact⟨ag,rfl⟩
end
def LM w b(lo:BA->Nat):=∃L,MS qk w b L/\∀x,a_ x L=some (Nv<|lo x)\/(a_ x L=none/\lo x=0)
structure CK w cb tb mb lb ty mk lo:Prop where
 bx:Bx w cb #[Mv tb,Mv mb,Mv lb,Iv 0,Iv 0,Iv 0]
 t:FM w tb ty
 m:FM w mb mk
 l:LM w lb lo
 n:cb≠tb/\cb≠mb/\cb≠lb/\tb≠mb/\tb≠lb/\mb≠lb
def LM.lt{b}(h:LM w b lo):b<w.heap.size:=qAr
def LM.same{b}(h:LM w b lo)(hb:w'.heap[b]? =w.heap[b]?):LM w' b lo:=qAs
def LM.look{b}(h:LM w b lo)x:(qg 183 (Mv b) (.string x) false).run jo w=.ok (Nv<|lo x) w:=by
 obtain⟨L,h1,h2⟩:=h;rw[h1.look (KL.str jp) Tryz.underlying183 (zy w) x trivial (λ_ _=>trivial) false];obtain q|⟨q,q2⟩:=h2 x
 .rw[q];rfl
 .rw[q,q2];rfl
def LM.put(h:∀x,a_ x L=some (Nv<|lo x)\/(a_ x L=none/\lo x=0))s n:∀x,a_ x (bG s (Nv n) L)=some (.int .i64 ((if x=s then n else lo x:Nat):Int))\/(a_ x (bG s (Nv n) L)=none/\(if x=s then n else lo x)=0):=by grind[a_,bG,aO]
def CK.lts(h:CK w cb tb mb lb ty mk lo):cb<w.heap.size/\tb<w.heap.size/\mb<w.heap.size/\lb<w.heap.size:=⟨h.bx.z,h.t.lt,h.m.lt,h.l.lt⟩
def CK.fr{S:Nat->Prop}(h:CK w cb tb mb lb ty mk lo)(k:Fr S w w')(n:∀b,S b->b≠cb/\b≠tb/\b≠mb/\b≠lb):CK w' cb tb mb lb ty mk lo:=
 ⟨h.bx.fr k λq=>(n _ q).1 rfl,h.t.same<|k.block tb h.t.lt λq=>(n _ q).2.1 rfl,h.m.same<|k.block mb h.m.lt λq=>(n _ q).2.2.1 rfl,h.l.same<|k.block lb h.l.lt λq=>(n _ q).2.2.2 rfl,h.n⟩
def CK.af(h:CK w cb tb mb lb ty mk lo)(k:Bq w w'):CK w' cb tb mb lb ty mk lo:=h.fr (S:=λ_=>False) ⟨k.os,k.tape,k.output,k.size,λb q _=>k.block b q⟩ λ_ q=>q.elim
abbrev cp b:=Pv b
def MV'.af(h:MV' w v F)(k:Bq w w'):MV' w' v F:=by
 obtain h|⟨b,rfl,h⟩:=h
 .exact jc h
 .exact ja ⟨b,rfl,h.below k⟩
def PTC nd:=∀(w:World)(cb tb mb lb:Nat)(ty mk:BA->Option Nat)(lo:BA->Nat)(P:Nat->Prop)(v ov:Value)(F:BA->Option Nat),CK w cb tb mb lb ty mk lo->PT w P nd v->MV' w ov F->uV ty F nd=true->nn nd<=5000->
 Cq 165 #[cp cb,v,ov] w λe w'=>e=.returned (.tuple #[])/\Bq w w'
def sX{ty F:BA->Option Nat}:∀{L:List Nd},lP ty F L=true->∀x∈L,uV ty F x=true
 |y::l,h,x,hx=>by
  simp only[lP,Bool.and_eq_true]at h;obtain rfl|q:=List.mem_cons.1 hx
  .exact h.1
  .exact sX h.2 x q
section
variable {ov:Value}
def Dj{L:List Nd}{sa}{vs:Nat->Value}(IH:∀x∈L,PTC x)(h:CK w cb tb mb lb ty mk lo)(aN:L=[]\/∃g,sa=some ⟨g,0,none⟩/\P g/\g<w.heap.size/\∀i,i<L.length->w.cell? ⟨g,i,none⟩=some (vs i))(hr:∀i(h:i<L.length),PT w P L[i]<|vs i)(ho:MV' w ov F)(hO:lP ty F L=true)(hn:bV L<=5000):
 Cq 111 #[cp cb,.slice sa L.length sc,ov] w λe w'=>e=.returned (.tuple #[])/\Bq w w':=by
 have hL:=yz L;go_enter func111,ntmps111
 go_wp2
 go_loopg[10] L.length (λgk c wr=>∃j:Nat,Hid (gk=L.length-j)/\j<=L.length/\c=Nv j/\Bq w wr)
 case atStart=>exact⟨0,ai rfl,jv _,rfl,qn _ _⟩
 case round=>
  obtain⟨j,cV,hj,rfl,hb⟩:=hrel;by_cases bA:j<L.length
  .have hd:(j:Int)<(L.length:Int):=ae;obtain⟨g,rfl,-,iP,hc⟩:=aN.resolve_left λe=>by subst e;simp at bA
   have hcj:=(j6 (a:=⟨g,j,none⟩)<|hb.block g iP).trans<|hc j bA;have HC:=IH L[j] (jd bA) _ cb tb mb lb ty mk lo P (vs j) ov F (h.af hb) ((hr j bA).af hb) (ho.af hb) (sX hO _<|jd bA) (by have:=sY<|jd bA;omega);go_wp2_with fail;refine HC.mono ?_;rintro e w2⟨rfl,k2⟩;have K2:=hb.trans<|k2.mono hb.size
   go_wp2
   go_roundg(L.length-(j+1))
   case measure=>rw[uh cV];omega
   case rel=>exact⟨j+1,ai rfl,ae,i_,K2⟩
  .have hd:decide ((j:Int)<(L.length:Int))=false:=bD
   go_wp2
   go_end0;exact⟨rfl,hb⟩
def IU:∀nd,PTC nd:=by
 refine Nd.ind ?_;intro k s n L fr t a IH w cb tb mb lb ty mk lo P v ov F h hx ho hO hN;have Dk:=ai IH;simp only[uV,Bool.and_eq_true]at hO;simp only[nn]at hN;clear IH
 cases hx with
 |var _ _ _ _ _ x y hq uZ hy'=>
  have HC:=λW(k:Bq w W)=>Qn (ho.af k)<|s.extract 1 s.size;have hb:=(qn w.heap.size w).alloc (br _)<|Cv #[Iv x,Iv y,Sv<|s.extract 1 s.size] 143;have HF:(F<|s.extract 1 s.size).isSome=true:=by simpa using hO.1
  have⟨c1,f1,y1⟩:=Bx.new w #[Iv x,Iv y,Sv<|s.extract 1 s.size] 143;have HC:=ai<|HC _ hb;have HB:=ai hb;clear hb hO h ho uZ hy';go_enter func165,ntmps165;go_wp2_with fail;refine HC.mono ?_;rintro e w1⟨rfl,rfl⟩;rw[HF]
  go_wp2
  go_end0;exact⟨rfl,HB⟩
 |fn _ _ p q _ _ _ x y va vb ha hb|pr _ _ p q _ _ _ x y va vb ha hb=>
  obtain⟨t1,x1,rfl⟩:=ha.iface;obtain⟨t2,x2,rfl⟩:=hb.iface;simp only[lP,Bool.and_eq_true,bV]at hO hN;have HC:=λW(k:Bq w W)=>Dk p ag W cb tb mb lb ty mk lo P _ ov F (h.af k) (ha.af k) (ho.af k) hO.2.1 ae;have HD:=λW(k:Bq w W)=>Dk q ag W cb tb mb lb ty mk lo P _ ov F (h.af k) (hb.af k) (ho.af k) hO.2.2.1 ae;have B1:=λT=>ai<|Bx.new w #[Iv x,Iv y,Fv t1<|Av x1,Fv t2<|Av x2] T;have HB:=λT=>ai<|(Below.refl w.heap.size w).alloc (br _)<|Cv #[Iv x,Iv y,Fv t1<|Av x1,Fv t2<|Av x2] T;have c1:=λT=>(B1 T).c;clear ha hb hO h ho Dk;go_enter func165,ntmps165;go_wp2_with fail;refine(HC _<|HB _).mono ?_;rintro e w2⟨rfl,k2⟩;have K2:=ai<|(uh<|HB _).trans<|k2.mono (HB _).size;have c2:=((B1 _).below k2).c;clear c1;go_wp2_with fail;refine(HD _ K2).mono ?_;rintro e w3⟨rfl,k3⟩;have K3:=ai<|(uh K2).trans<|k3.mono K2.size
  go_wp2
  go_end0;exact⟨rfl,K3⟩
 |up _ _ _ _ _ _ x y x' y' sa sc vs hu aN hr uZ hy'=>
  have UB:ty s=some L.length:=by simpa using hO.1
  have HC:=λW(k:Bq w W)=>Dj (sa:=sa) (sc:=sc) (vs:=vs) (P:=P) (λx hx=>Dk x hx) (h.af k) (by
   obtain q|⟨g,e,q1,q2,q3⟩:=aN
   .exact jc q
   .exact ja ⟨g,e,q1,jt q2 k.size,λi hi=>(j6 (a:=⟨g,i,none⟩)<|k.block g q2).trans<|q3 i hi⟩) (λi hi=>(hr i hi).af k) (ho.af k) hO.2 ae
  have HT:=λW(k:Bq w W)=>Qo (v:=Mv tb) (Or.inr ⟨tb,rfl,(h.af k).t⟩) UB;have HB:=ai<|(Below.refl w.heap.size w).alloc (br _)<|Cv #[Iv x,Iv y,Iv x',Iv y',Sv s,Lv sa L.length sc] 150;have B1:=ai<|Bx.new w #[Iv x,Iv y,Iv x',Iv y',Sv s,Lv sa L.length sc] 150;have⟨c1,f1,y1⟩:=uh B1;have⟨c2,f2,y2⟩:=(h.af HB).bx;clear aN hr hO h ho Dk uZ hy';go_enter func165,ntmps165
  go_wp2
  go_region_with(go_at_call 192;refine(HT _ HB.drew).mono ?_;rintro e w2⟨rfl,rfl⟩)
  all_goals(
   go_wp2_with fail;refine(HC _ HB.drew).mono ?_;rintro e w3⟨rfl,k3⟩;have K3:=ai<|HB.drew.trans<|k3.mono HB.drew.size
   go_wp2
   go_end0
   exact⟨rfl,K3⟩)
end
section
open Go.MapKept
def MB(w:World)(b:Nat)(L:List (BA×Value)):=∃es clock,w.heap[b]? =some (.map es clock)/\es.toList.map (λe=>(e.key,e.val))=L.map (λp=>(qk p.1,p.2))/\(es.toList.map (·.born)).Nodup/\∀e∈es.toList,e.born<clock
def MB.ms(h:MB w b L):MS qk w b L:=by obtain⟨es,c,h1,h2,_⟩:=h;exact⟨es,c,h1,h2⟩
def MB.lt(h:MB w b L):b<w.heap.size:=h.ms.lt
def MB.same(h:MB w b L)(hb:w'.heap[b]? =w.heap[b]?):MB w' b L:=by obtain⟨es,c,h1,h2⟩:=h;exact⟨es,c,hb.trans h1,h2⟩
def MB.new(w:World):MB (w.alloc<|.map #[] 0) w.heap.size []:=⟨#[],0,(qv w _).1,rfl,ag,ag⟩
def wV(l:List MapEntry)j f(hf:∀e,(f e).born=e.born):(l.modify j f).map (·.born)=l.map (·.born):=by
 induction l generalizing j with
 |nil=>cases j<;>simp|cons e r ih=>grind
def MB.put(h:MB w b L)x v:∃o,(qh 183 (Mv b) (.string x) v).run jo w=.ok () (setBlock w b o)/\MB (setBlock w b o) b (bG x v L):=by
 obtain⟨es,clock,hb,m7,hn,hk⟩:=h;have K:=KL.str (P:=jo) jp;have hf:=K.fin x L es.toList w trivial (λ_ _=>trivial) m7;rw[qh];simp only[Sem.run_bind,run_underlying Tryz.underlying183,qm,MapKept.run_getObj_map hb,K.chk,hf]
 cases yA:yB x L 0 with
 |none=>
  refine⟨.map (es.push {key:=Sv x,val:=v,born:=clock})<|clock+1,by rw[yA]at hf;simp[hf,qm];exact qu _ hb,_,_,(heap_setBlock_same hb _),?_,?_,?_⟩
  .rw[mx x v L<|oG x L 0 yA];simp[m7]
  .simp only[Array.toList_push,List.map_append,jf,List.map_nil];rw[List.nodup_append];refine⟨hn,ag,?_⟩;intro a ha c hc;obtain⟨e,he,rfl⟩:=List.mem_map.1 ha;simp only[List.mem_singleton]at hc;have:=hk e he;omega
  .grind
 |some p=>
  obtain⟨j,u⟩:=p;have⟨_,e0,h2,h3,h4⟩:=E9 (enc:=Sv) x v L es.toList 0 j u m7 yA;have UC:es[j]? =some e0:=by simpa using h2
  refine⟨.map (es.modify j λe=>{e with key:=Sv x,val:=v}) clock,?_,_,_,(heap_setBlock_same hb _),by simpa using h4,?_,?_⟩
  .rw[yA]at hf;simp[hf,qm,UC,h3,Instr.keyThatStays,K.bit];exact qu _ hb
  .rw[j5,wV es.toList j (λe=>{e with key:=Sv x,val:=v}) (λ_=>rfl)];exact hn
  .intro e he;have:e.born∈(es.modify j λe=>{e with key:=Sv x,val:=v}).toList.map (·.born):=ji he;rw[j5,wV es.toList j (λe=>{e with key:=Sv x,val:=v}) (λ_=>rfl)]at this;have⟨e',h1,h2⟩:=List.mem_map.1 this;rw[<-h2];exact hk e' h1
def wW{ops}{rest}{o}{a}{Q}(hg:o.guard=none)m x v(sG:o.op=Op.insert 183 m x v\/o.op=Op.mapUpdate 183 m x v)(hm:a.eval m=Mv b)(hM:MB w b L)key val(hx:a.eval x=.string key)(hv:a.eval v=val)(hK:∀w',MB w' b (bG key val L)->One b w w'->wpList jo ops Q rest (a.put o.dst undef) w'):
 wpList jo ops Q (o::rest) a w:=by
 refine wpList_plain hg λK' hK'=>?_;have⟨ob,lQ,r1⟩:=hM.put key val;rw[Oper.wp];obtain sG|sG:=sG<;>
 .simp[execOp,sG,hm,hx,hv,lQ,qm];exact hK' _ _<|hK _ r1<|One.set w b ob
def GM w b p:=∃L,MB w b L/\(L.map (·.1)).Nodup/\∀x,a_ x L=if m8 x p then some (Iv 1)else none
def Nu(h:(L.map (·.1)).Nodup):((bG s v L).map (·.1)).Nodup:=by
 have hm:∀(L:List (BA×Value))x,x∈(bG s v L).map (·.1)->x=s\/x∈L.map (·.1):=by
  intro L x
  induction L with
  |nil=>simp[bG]|cons p r ih=>
   rw[bG];split
   .grind
   .grind
 induction L with
 |nil=>simp[bG]|cons p r ih=>
  simp only[jf,jk]at h;rw[bG];split
  .rename_i e;simp only[jf,jk];exact⟨e▸h.1,h.2⟩
  .rename_i e;simp only[jf,jk];refine⟨λq=>?_,ih h.2⟩;obtain q|q:=hm r _ q
   .exact e q
   .exact h.1 q
def GM.lt(h:GM w b p):b<w.heap.size:=qAr
def GM.same(h:GM w b p)(hb:w'.heap[b]? =w.heap[b]?):GM w' b p:=qAs
def GM.mv(h:GM w b p):MV' w (Mv b) (λx=>if m8 x p then some 1 else none):=by
 obtain⟨L,h1,_,h2⟩:=h;refine ja ⟨b,rfl,L,h1.ms,λx=>?_⟩;rw[h2 x];show _=Option.map _ (if m8 x p=true then some 1 else none)
 cases m8 x p<;>rfl
theorem GM.bG(h2:(L.map (·.1)).Nodup)(h:∀x,a_ x L=if m8 x p then some (Iv 1)else none)(hM:MB w' b (Go.Proofs.YtlnlhlefeokfjaaGreatDoor.bG s (Iv 1) L)):GM w' b (p++[s]):=by
 refine⟨_,hM,Nu h2,λx=>?_⟩;rw[aO,h x];have e:m8 x (p++[s])=(m8 x p||decide (s=x)):=by unfold m8;rw[List.any_append];simp only[List.any_cons,List.any_nil,Bool.or_false]
 rw[e];by_cases q:s=x
 .simp[q]
 .simp[q]
def GM.new(w:World):GM (w.alloc<|.map #[] 0) w.heap.size []:=⟨[],MB.new w,ag,λx=>by simp[a_,m8]⟩
end
def zC:∀l m,fE (l++m)=fE l++fE m
 |[],m=>rfl|x::l,m=>by simp[fE,zC l m]
def XE{L:List Nd}{j:Nat}(h:(p++fE L).Nodup)(hj:j<L.length):(p++fE (L.take j)++k_ L[j]).Nodup/\fE (L.take<|j+1)=fE (L.take j)++k_ L[j]:=by
 have e:fE (L.take<|j+1)=fE (L.take j)++k_ L[j]:=by rw[List.take_succ_eq_append_getElem hj,zC];simp[fE]
 refine⟨?_,e⟩;rw[<-jl (j+1) L,zC,<-jj]at h;rw[jj,<-e];exact(List.nodup_append.1 h).1
def MkA(mks:j9)(mk:BA->Option Nat):=∀s tk m,mks s=some (tk,m)->mk s=some tk.length
def PP.frB{S}(h:PP w (·<B) nd v)(k:Fr S w w')(hB:∀b,b<B->¬S b):PP w' (·<B) nd v:=h.move k.size (λb p z=>k.block b z<|hB b p)<|λ_ p _=>p
def PPC nd:=∀(w:World)(cb tb mb lb gb B:Nat)(ty mk:BA->Option Nat)(lo:BA->Nat)(v:Value)(p:List BA)(mks:j9)(nl:List BA),CK w cb tb mb lb ty mk lo->B<=gb->PP w (·<B) nd v->GM w gb p->(gb≠cb/\gb≠tb/\gb≠mb/\gb≠lb)->rf mks nl nd->(p++k_ nd).Nodup->MkA mks mk->nn nd<=5000->
 Cq 193 #[cp cb,v,Mv gb] w λe w'=>e=.returned (.tuple #[])/\Fr (λb=>b=gb) w w'/\GM w' gb (p++k_ nd)
def UD:∀nd,PPC nd:=by
 refine Nd.ind ?_;intro k s n L fr t a Dk w cb tb mb lb gb B ty mk lo v p mks nl h hBg HA hg hn hs pW hM hN;have BU:∀b,b<B->b≠gb:=λb hb q=>ae;have iP:=hg.lt;have hG:=ai hg;have CKF:∀{W:World},Fr (λb=>b=gb) w W->CK W cb tb mb lb ty mk lo:=λk=>h.fr k λb q=>by subst q;exact hn
 simp only[nn]at hN
 cases HA with
 |any _ _ _ _ _|num _ _ _ _ _|word _ _ _ _ _ _|unit _ _ _ _ _=>
  rw[show p++k_ _=p by simp[k_,fE]];go_enter func193,ntmps193
  go_wp2
  go_end0;exact⟨rfl,Fr.refl _ _,hG⟩
 |low _ _ _ _ _ hl=>
  have e0:k_ (.mk 1 s n [] fr t a)=[s]:=by simp[k_]
  rw[e0]at pW⊢;have E_:m8 s p=false:=Qp.2 λq=>(List.nodup_append.1 pW).2.2 s q s ag rfl;have fN:=(Below.refl w.heap.size w).alloc (br _)<|Cv #[Nv fr,Nv t,Sv s] 253;have B1:=ai<|Bx.new w #[Nv fr,Nv t,Sv s] 253;have G1:=hg.same<|fN.block gb iP;have HC:=Qn G1.mv s;obtain⟨L2,yk,WY⟩:=G1;have Fb:=ai WY;have HB:=ai fN;have⟨c1,f1,y1⟩:=uh B1;clear fN pW h hs hg WY;go_enter func193,ntmps193;go_wp2_with fail;refine HC.mono ?_;rintro e w1⟨rfl,rfl⟩;simp only[E_,Bool.false_eq_true,if_false,Option.isSome_none];go_wp2_with(refine wW rfl _ _ _ (Or.inr rfl) rfl yk s (Iv 1) rfl rfl ?_;intro w3 H' O';have M3:=ai H';have O3:=ai O';clear H' O');go_end0;exact⟨rfl,(Fr.of HB).trans ⟨O3.os,O3.tape,O3.output,by rw[O3.size];exact br _,λb _ q=>O3.block b q⟩,GM.bG Fb.1 Fb.2 M3⟩
 |pr _ _ x y _ _ _ vx vy HA hy=>
  obtain⟨hsx,hsy⟩:rf mks nl x/\rf mks nl y:=by
   cases hs with
   |pr _ _ _ _ _ _ _ h1 h2=>exact⟨h1,h2⟩
  have e0:p++k_ (.mk 6 s n [x,y] fr t a)=p++k_ x++k_ y:=by simp[k_,fE]
  rw[e0]at pW⊢;simp only[bV]at hN;obtain⟨u1,x1,rfl⟩:=HA.iface;obtain⟨u2,x2,rfl⟩:=hy.iface;have HB:=ai<|(Below.refl w.heap.size w).alloc (br _)<|Cv #[Nv fr,Nv t,Fv u1<|Av x1,Fv u2<|Av x2] 315;have B1:=ai<|Bx.new w #[Nv fr,Nv t,Fv u1<|Av x1,Fv u2<|Av x2] 315;have HC:=Dk x ag _ cb tb mb lb gb B ty mk lo _ p mks nl (h.af HB) hBg (HA.af HB) (hg.same<|HB.block gb iP) hn hsx (List.nodup_append.1 pW).1 hM ae;have⟨c1,f1,y1⟩:=uh B1;go_enter func193,ntmps193;go_wp2_with fail;refine HC.mono ?_;rintro e w2⟨rfl,k2,g2⟩;have F2:=ai<|(Fr.of HB).trans k2;have⟨c2,f2,y2⟩:=B1.fr k2 ae;have MW:=Dk y ag _ cb tb mb lb gb B ty mk lo _ _ mks nl (CKF F2) hBg (hy.frB F2 BU) g2 hn hsy pW hM ae;clear k2 g2 HC c1 f1 y1;go_wp2_with fail;refine MW.mono ?_;rintro e w3⟨rfl,k3,g3⟩;have F3:=ai<|F2.trans k3;have G3:=ai g3;clear k3 g3 MW
  go_wp2
  go_end0;exact⟨rfl,F3,G3⟩
 |up _ _ _ _ _ _ y sa sc vs hu hy aN hr=>
  obtain⟨Nw,hsr⟩:mk s=some L.length/\∀i(h:i<L.length),rf mks nl L[i]:=by
   cases hs with
   |up _ _ _ _ _ _ tk m h1 h2 h3=>exact⟨by rw[h2];exact hM _ _ _ h1,h3⟩|leaf _ _ _ _ _ _ h=>omega
  have e0:k_ (.mk 2 s n L fr t a)=fE L:=by simp[k_]
  rw[e0]at pW⊢;have hL:=yz L;have HB:=ai<|(Below.refl w.heap.size w).alloc (br _)<|Cv #[Nv fr,Nv t,Nv a,Nv y,Sv s,Lv sa L.length sc] 313;have B1:=ai<|Bx.new w #[Nv fr,Nv t,Nv a,Nv y,Sv s,Lv sa L.length sc] 313;have⟨c1,f1,y1⟩:=uh B1;have⟨c2,f2,y2⟩:=(h.af HB).bx;have HT:=λW(k:Bq w W)=>Qo (v:=Mv mb) (Or.inr ⟨mb,rfl,(h.af k).m⟩) Nw;have HND:=ai pW;clear hy pW hs h hg e0;go_enter func193,ntmps193
  go_wp2
  go_region_with(go_at_call 192;refine(HT _ HB.drew).mono ?_;rintro e w2⟨rfl,rfl⟩)
  all_goals(
   go_wp2
   go_loopg[49] L.length (λgk c wr=>∃j:Nat,Hid (gk=L.length-j)/\j<=L.length/\c=Nv j/\Fr (λb=>b=gb) w wr/\GM wr gb (p++fE (L.take j))/\Bx wr w.heap.size #[Nv fr,Nv t,Nv a,Nv y,Sv s,Lv sa L.length sc])
   case atStart=>exact⟨0,ai rfl,jv _,rfl,Fr.of HB.drew,by simpa[fE]using hG.same (HB.drew.block gb iP),B1.oH⟩
   case round=>
    clear c1 f1 y1 c2 f2 y2;obtain⟨j,cV,hj,rfl,hF,hg,hB4⟩:=hrel;have BR:=ai hB4;have XF:=ai hF;have XG:=ai hg;clear hF hg;obtain⟨c1,f1,y1⟩:=hB4;by_cases bA:j<L.length
    .have hd:(j:Int)<(L.length:Int):=ae;obtain⟨g,rfl,hgB,agb,hc⟩:=aN.resolve_left λe=>by subst e;simp at bA
     have hcj:=(j6 (a:=⟨g,j,none⟩)<|XF.block g agb<|BU g hgB).trans<|hc j bA;have⟨q1,q2⟩:=XE (uh HND) bA;have HC:=Dk L[j] (jd bA) _ cb tb mb lb gb B ty mk lo (vs j) _ mks nl (CKF XF) hBg ((hr j bA).frB XF BU) XG hn (hsr j bA) q1 hM (by have:=sY<|jd bA;omega);rw[jj,<-q2]at HC;clear hc q1 q2;go_wp2_with fail;refine HC.mono ?_;rintro e w2⟨rfl,k2,g2⟩;have F4:=ai<|XF.trans k2;have G4:=ai g2;have B4:=ai<|BR.fr k2 ae;clear k2 g2
     go_wp2
     go_roundg(L.length-(j+1))
     case measure=>rw[uh cV];omega
     case rel=>exact⟨j+1,ai rfl,ae,i_,F4,G4,B4⟩
    .have hd:decide ((j:Int)<(L.length:Int))=false:=bD;rw[List.take_of_length_le ae]at XG
     go_wp2
     go_end0
     exact⟨rfl,XF,XG⟩)
section
open Go.MapKept
def IT(w:World)(r gb:Nat)(p done:List BA)cnt:=∃(es:Array MapEntry)(clock since:Nat)(seen:Array Nat)(c0:Nat)(L:List (BA×Value)),w.heap[gb]? =some (.map es clock)/\es.toList.map (λe=>(e.key,e.val))=L.map (λp=>(qk p.1,p.2))/\(es.toList.map (·.born)).Nodup/\(∀e∈es.toList,e.born<since)/\since<=c0/\since<=clock/\w.heap[r]? =some (.mapIter (some gb) since seen c0)/\(L.map (·.1)).Nodup/\(∀x,a_ x L=if m8 x p then some (Iv 1)else none)/\(leftOf es seen).size=cnt/\∀e∈es.toList,∀x,e.key=.string x->(seen.contains e.born=true↔x∈done)
def Fc{x:BA}:∀{L:List (BA×Value)},(a_ x L).isSome=true↔x∈L.map (·.1)
 |[]=>by simp[a_]|p::l=>by
  rw[a_];split
  .rename_i e;simp[e]
  .rename_i e;rw[Fc (L:=l)];simp only[jf,jm];exact⟨ja,λq=>q.elim (λq=>absurd q.symm e) id⟩
def acN{es:List MapEntry}(h:es.map (λe=>(e.key,e.val))=L.map (λp=>(qk p.1,p.2))):es.map (·.key)=(L.map (·.1)).map qk:=by
 have:=congrArg (List.map Prod.fst) h;simpa[List.map_map,Function.comp_def]using this
def IT.same{cnt}(h:IT w r gb p done cnt)(h1:w'.heap[gb]? =w.heap[gb]?)(h2:w'.heap[r]? =w.heap[r]?):IT w' r gb p done cnt:=by
 obtain⟨es,clock,since,seen,c0,L,a1,a2,a3,a4,a5,a6,a7,a8⟩:=h;exact⟨es,clock,since,seen,c0,L,h1.trans a1,a2,a3,a4,a5,a6,h2.trans a7,a8⟩
def IT.lt{w:World}{r gb:Nat}{p done:List BA}{cnt}(h:IT w r gb p done cnt):gb<w.heap.size/\r<w.heap.size/\gb≠r:=by
 obtain⟨es,clock,since,seen,c0,L,a1,a2,a3,a4,a5,a6,a7,a8⟩:=h;refine⟨(Array.getElem?_eq_some_iff.1 a1).1,(Array.getElem?_eq_some_iff.1 a7).1,λe=>?_⟩;rw[e,a7]at a1
 cases a1
def GM.range(h:GM w gb p):∃o cnt,(Instr.range 183<|Mv gb).run jo w=.ok (Pv w.heap.size) (w.alloc o)/\IT (w.alloc o) w.heap.size gb p [] cnt:=by
 obtain⟨L,⟨es,clock,a1,a2,a3,a4⟩,a5,a6⟩:=h;have bA:=(Array.getElem?_eq_some_iff.1 a1).1;refine⟨_,_,run_range_map w 183 _ _ gb es clock Tryz.underlying183 a1,es,clock,clock,#[],clock,L,((qv w _).2 _ bA).trans a1,a2,a3,a4,br _,br _,heap_alloc_new w _,a5,a6,rfl,λe he x hx=>ag⟩
def IT.next{cnt}(h:IT w r gb p done cnt):((∀x,m8 x p=true->x∈done)/\(∀x,x∈done->m8 x p=true->True)/\(qi (Pv r) false 0).run jo w=.ok (.tuple #[.bool false]) w)\/
 ∃x v w1 aE,x∉done/\m8 x p=true/\(qi (Pv r) false 0).run jo w=.ok (.tuple #[.bool true,.string x,v]) w1/\IT w1 r gb p (x::done) aE/\aE<cnt/\Fr (λb=>b=r) w w1/\w1.heap.size=w.heap.size/\(Instr.entry<|Pv r).run jo w1=.ok (.tuple #[.string x,v]) w1:=by
 have⟨hg1,hr1,cR⟩:=h.lt;obtain⟨es,clock,since,seen,c0,L,a1,a2,a3,a4,a5,a6,a7,a8,a9,a10,a11⟩:=h;have XH:=acN a2;rcases run_next_at (P:=jo) w 0 r gb since c0 seen es clock a7 a1 a4 a5 with⟨h0,lQ⟩|⟨e,he,w1,yC,lQ⟩
 .left;refine⟨λx hx=>?_,λ_ _ _=>trivial,lQ⟩;have E_:=Fc.1 (by rw[a9 x,hx];rfl);have:Sv x∈es.toList.map (·.key):=Cc;have⟨e,he,hk⟩:=List.mem_map.1 this;exact(a11 e he x hk).1 (all_seen es seen h0 e he)
 .right;have⟨WZ,he2⟩:=mem_left he;obtain⟨x,hx⟩:∃x,e.key=Sv x:=by
   have:e.key∈es.toList.map (·.key):=ji WZ;rw[XH]at this;have⟨x,_,q⟩:=List.mem_map.1 this;exact⟨x,q.symm⟩
  have hxL:x∈L.map (·.1):=by
   have:e.key∈es.toList.map (·.key):=ji WZ;rw[XH,hx]at this;have⟨y,hy,q⟩:=List.mem_map.1 this
   cases q;exact hy
  have pW:x∉done:=λq=>by
   have:=(a11 e WZ x hx).2 q;rw[he2]at this;cases this
  have hp:m8 x p=true:=by
   have:=Fc.2 hxL;rw[a9 x]at this
   cases hq:m8 x p with
   |true=>rfl|false=>grind
  have Ny:w1.heap=w.heap:=by obtain rfl|rfl:=yC<;>rfl
  have b1:∀k,k≠r->(setBlock w1 r<|.mapIter (some gb) since (seen.push e.born) clock).heap[k]? =w.heap[k]? :=λk hk=>by
   have:(setBlock w1 r<|.mapIter (some gb) since (seen.push e.born) clock).heap[k]? =w1.heap[k]? :=by simp[setBlock,jz,Ne.symm hk]
   rw[this,Ny]
  have b2:(setBlock w1 r<|.mapIter (some gb) since (seen.push e.born) clock).heap[r]? =some (.mapIter (some gb) since (seen.push e.born) clock):=by
   have rh:r<w1.heap.size:=by rw[Ny];exact hr1
   simp[setBlock,jz,rh]
  have fK:(setBlock w1 r<|.mapIter (some gb) since (seen.push e.born) clock).heap.size=w.heap.size:=by simp[setBlock,Ny]
  have hnk:(es.toList.map (·.key)).Nodup:=Cc;refine⟨x,e.val,_,_,pW,hp,by rw[lQ,hx],⟨es,clock,since,seen.push e.born,clock,L,(b1 gb cR).trans a1,a2,a3,a4,a6,a6,b2,a8,a9,rfl,λe' he' y hy=>?_⟩,by rw[<-a10];exact left_shrinks es seen e he,⟨by obtain rfl|rfl:=yC<;>rfl,by obtain rfl|rfl:=yC<;>rfl,by obtain rfl|rfl:=yC<;>rfl,by rw[fK];exact br _,λk _ hk=>b1 k hk⟩,fK,?_⟩
  .rw[contains_push];simp only[Bool.or_eq_true,beq_iff_eq,jm];constructor
   .rintro(q|q)
    .grind
    .have:e'=e:=born_inj a3 he' WZ q;rw[this,hx]at hy
     cases hy;exact jc rfl
   .rintro(q|q)
    .right;have:e'=e:=by
      have hk:e'.key=e.key:=by rw[hy,hx,q]
      exact entry_eq_of_key (by rw[List.Nodup,List.pairwise_map]at hnk;exact hnk) he' WZ hk
     rw[this]
    .grind
  .have:=run_entry_at (P:=jo) (setBlock w1 r<|.mapIter (some gb) since (seen.push e.born) clock) r gb since seen es clock e b2 ((b1 gb cR).trans a1) WZ a3;rw[hx]at this;exact this
structure CE cb tb mb lb ty mk lo w0 wr:Prop where
 d:CK wr cb tb mb lb ty mk lo
 k:Fr (λb=>b=lb) w0 wr
section
variable {XI:BA->Nat} {w0 wr:World}
def CE.af(h:CE cb tb mb lb ty mk lo w0 wr)(hb:Bq wr w'):CE cb tb mb lb ty mk lo w0 w':=⟨h.d.af hb,h.k.trans<|Fr.of hb⟩
def CE.fr(h:CE cb tb mb lb ty mk lo w0 wr)(k:Fr (λb=>b=lb) wr w')(d:CK w' cb tb mb lb ty mk XI):CE cb tb mb lb ty mk XI w0 w':=⟨d,h.k.trans k⟩
def CE.put(h:CE cb tb mb lb ty mk lo w0 wr)(o:One lb wr w')(hM:MS qk w' lb L)(hL:∀x,a_ x L=some (Nv<|XI x)\/(a_ x L=none/\XI x=0)):CE cb tb mb lb ty mk XI w0 w':=
 ⟨⟨h.d.bx.one o h.d.n.2.2.1,h.d.t.same<|o.block tb h.d.n.2.2.2.2.1,h.d.m.same<|o.block mb h.d.n.2.2.2.2.2,⟨L,hM,hL⟩,h.d.n⟩,h.k.trans ⟨o.os,o.tape,o.output,UE,λb _ hn=>o.block b hn⟩⟩
def CE.frN(h:CE cb tb mb lb ty mk lo w0 wr)(k:Fr (λb=>b=r) wr w')(n:r≠cb/\r≠tb/\r≠mb/\r≠lb)(hr:w0.heap.size<=r):CE cb tb mb lb ty mk lo w0 w':=
 ⟨h.d.fr k λb q=>by subst q;exact n,h.k.trans' k<|λb q=>ja (by have q:b=r:=q;omega)⟩
def PE.frB{S:Nat->Prop}(h:PE w (·<B) nd v)(k:Fr S w w')(hB:∀b,b<B->¬S b):PE w' (·<B) nd v:=h.move k.size (λb p z=>k.block b z<|hB b p)<|λ_ p _=>p
structure MkT(mks:j9)(mk ty:BA->Option Nat):Prop where
 a:MkA mks mk
 t:mks ⟨#[78]⟩≠none->ty=rN
def PXC nd:=∀(w:World)(cb tb mb lb B:Nat)(ty mk:BA->Option Nat)(lo:BA->Nat)(v:Value)(mks:j9)(nl:List BA)(dom:BA->Prop),CK w cb tb mb lb ty mk lo->B<=lb->PE w (·<B) nd v->ScE mks nl dom nd->(∀x,dom x->lo x≠0)->MkT mks mk ty->(∀x,lo x+nn nd<=5000)->
 Cq 114 #[cp cb,v] w λe w'=>e=.returned (.tuple #[])/\Fr (λb=>b=lb) w w'/\CK w' cb tb mb lb ty mk lo
def loU(lo:BA->Nat)done:=λx=>lo x+if m8 x done then 1 else 0
def loD(lo:BA->Nat)done:=λx=>lo x-if m8 x done then 1 else 0
def XK{x:BA}(h:x∉done):(λy=>if y=x then loU lo done x+1 else loU lo done y)=loU lo (x::done):=by grind[loU,m8]
def XL{x:BA}(h:x∉done):(λy=>if y=x then loD lo done x-1 else loD lo done y)=loD lo (x::done):=by grind[loD,m8]
def IW{p}(h1:∀x,m8 x p=true->x∈done)(h2:∀x∈done,m8 x p=true)x:m8 x done=m8 x p:=by grind[m8]
def UPR cb tb mb lb ty mk(lo:List BA->BA->Nat)w0 r gb p gk wr:=∃done,IT wr r gb p done gk/\(∀x∈done,m8 x p=true)/\CE cb tb mb lb ty mk (lo done) w0 wr
def Qq{p:Prop}(h:p:=by
 have I5:=HI1.same (O3.block gb hn.2.2.2)<|O3.block _ hrn.2.2.2;go_roundg aE
 case measure=>exact IX
 case rel=>exact⟨x::done,I5,by intro y hy;obtain rfl|q:=List.mem_cons.1 hy;exact HXP;exact HD y q,X5⟩):p:=h
def zE(HE:PXC nd)(h:CK w cb tb mb lb ty mk lo)(Dl:B<=lb)(hx:PE w (·<B) nd v)(hg:GM w gb p)(hn:gb≠cb/\gb≠tb/\gb≠mb/\gb≠lb)(hs:ScE mks nl (λv=>dom v\/v∈p) nd)(hl:∀x,dom x->lo x≠0)(hM:MkT mks mk ty)(sH:∀x,lo x+1+nn nd<=5000):
 Calls jo 112 #[cp cb,.map<|some gb,v] w λe w'=>e=.returned (.tuple #[])/\Fr (λb=>b=lb) w w'/\CK w' cb tb mb lb ty mk lo:=by
 have⟨o,cnt,hrg,mw⟩:=hg.range;have fN:Below w.heap.size w (w.alloc o):=bw _;have X0:CE cb tb mb lb ty mk lo w (w.alloc o):=⟨h.af fN,Fr.of fN⟩;have⟨z1,z2,z3,z4⟩:=h.lts;have HI:=ai mw;have iP:=hg.lt;have BU:∀b,b<B->¬b=lb:=λb hb q=>ae;obtain⟨t1,x1,rfl⟩:=hx.iface;go_enter func112,ntmps112
 go_wp2
 go_loopg[] cnt (λgk wr=>UPR cb tb mb lb ty mk (loU lo) w w.heap.size gb p gk wr)
 case atStart=>exact⟨[],HI,ag,by have:=X0;exact this⟩
 case round=>
  obtain⟨done,mw,hdn,hX⟩:=hrel;have XR:=ai hX;have HI:=ai mw;have HD:=ai hdn;have hsw:=hX.k.size;have Xv:=mw.lt;obtain⟨ha,-,ET⟩|⟨x,u,w1,aE,hxd,Qf,ET,IY,bA,yv,fK,hen⟩:=HI.next
  .have eL:loU lo done=λx=>lo x+if m8 x p then 1 else 0:=by funext y;rw[loU];rw[IW ha HD y]
   rw[eL]at XR;obtain⟨lo2,XN⟩:∃lo2,Hid<|lo2=λx=>lo x+if m8 x p then 1 else 0:=⟨_,ai rfl⟩;rw[<-uh XN]at XR
   have HC:=HE wr cb tb mb lb B ty mk lo2 _ mks nl _ XR.d Dl (hx.frB XR.k BU) hs (λx q=>by
    rw[uh XN];obtain q|q:=q
    .have:=hl x q;show lo x+_≠0;omega
    .show lo x+(if m8 x p=true then 1 else 0)≠0;rw[acO.2 q];simp) hM (λx=>by rw[uh XN];have:=sH x;show lo x+(if m8 x p=true then 1 else 0)+nn nd<=5000;split<;>omega)
   have GR:=hg.same<|XR.k.block gb iP hn.2.2.2;go_wp2_with fail;refine HC.mono ?_;rintro e w2⟨rfl,k2,d2⟩;have X2:=ai<|XR.fr k2 d2;have G2:=GR.same<|k2.block gb Xv.1 hn.2.2.2;have⟨o2,cT,amO,HI2⟩:=G2.range;have X3:Hid (CE cb tb mb lb ty mk lo2 w<|w2.alloc o2):=ai<|X2.af<|bw _;have z2w:=X2.k.size
   go_wp2
   go_loopg[] cT (λgk wr=>UPR cb tb mb lb ty mk (loD lo2) w w2.heap.size gb p gk wr)
   case atStart=>exact⟨[],HI2,ag,by have:=uh X3;exact this⟩
   case round=>
    obtain⟨done,HI,HD,XR⟩:=hrel;have hsw:=XR.k.size;have Xv:=HI.lt;obtain⟨ha,-,ET⟩|⟨x,u,w1,aE,HXD,HXP,ET,HI1,bA,HFR,fK,hen⟩:=HI.next
    .have eL:loD lo2 done=lo:=by
      funext y;rw[loD];rw[IW ha HD y,uh XN];show lo y+(if m8 y p=true then 1 else 0)-(if m8 y p=true then 1 else 0)=lo y;omega
     rw[eL]at XR
     go_wp2
     go_end0;exact⟨rfl,XR.k,XR.d⟩
    .have hrn:w2.heap.size≠cb/\w2.heap.size≠tb/\w2.heap.size≠mb/\w2.heap.size≠lb:=⟨ae,ae,ae,ae⟩;have X4:=XR.frN HFR hrn ae;obtain⟨N,hN⟩:∃N,Hid<|N=loD lo2 done x:=⟨_,ai rfl⟩;have hl:=X4.d.l.look x;rw[<-uh hN]at hl;have⟨L,HM,HL⟩:=X4.d.l;have hN5:1<=N/\N<=6000:=by
      have h1:=sH x;have h2:=Qp.2 HXD;have h3:N=lo x+1:=by rw[uh hN,uh XN];rw[loD];rw[h2];simp[HXP]
      omega
     have hN6:(1:Int)<=(N:Int):=ae;have hN7:(N:Int)<=6000:=ae;have⟨c1,f1,y1⟩:=X4.d.bx;have IX:=bA;go_wp2_with(refine aZ _ rfl _ _ _ _ (ja rfl) (KL.str jp) Tryz.underlying183 _ _ rfl HM x (.int .i64<|(N:Int)-1) rfl rfl trivial (λ_ _=>trivial) ?_;intro w3 H' O';have M3:=ai H';have O3:=ai O';clear H' O');have hv:(ql .i64<|(N:Int)-1)=.int .i64 ((N-1:Nat):Int):=by rw[Int.natCast_sub hN5.1];rfl
     rw[hv]at M3;have X5:=X4.put O3 M3<|LM.put HL x<|N-1;rw[uh hN,XL HXD]at X5;exact Qq
  .have hrn:w.heap.size≠cb/\w.heap.size≠tb/\w.heap.size≠mb/\w.heap.size≠lb:=⟨ae,ae,ae,ae⟩;have X4:=XR.frN yv hrn<|br _;obtain⟨N,hN⟩:∃N,Hid<|N=loU lo done x:=⟨_,ai rfl⟩;have hl:=X4.d.l.look x;rw[<-uh hN]at hl;have⟨L,HM,HL⟩:=X4.d.l;have hN7:(N:Int)<=6000:=by
    have h1:=sH x;have h2:N=lo x+(if m8 x done then 1 else 0):=uh hN;have h3:(if m8 x done=true then 1 else 0)<=1:=by split<;>omega
    omega
   have⟨c1,f1,y1⟩:=X4.d.bx;have HI1:=ai IY;have HXD:=ai hxd;have HXP:=ai Qf;have IX:=bA;go_wp2_with(refine aZ _ rfl _ _ _ _ (ja rfl) (KL.str jp) Tryz.underlying183 _ _ rfl HM x (.int .i64<|(N:Int)+1) rfl rfl trivial (λ_ _=>trivial) ?_;intro w3 H' O';have M3:=ai H';have O3:=ai O';clear H' O');have hv:(ql .i64<|(N:Int)+1)=.int .i64 ((N+1:Nat):Int):=rfl;rw[hv]at M3;have X5:=X4.put O3 M3<|LM.put HL x<|N+1;rw[uh hN,XK HXD]at X5;exact Qq
end
def agc{A}{g}{vp ve:Nat->Value}(HA:∀q∈A,PXC q.2)(h:CK w cb tb mb lb ty mk lo)(Dl:B<=lb)(hgB:g<B)(hg:g<w.heap.size)(hc:∀i,i<A.length->(∃u v,w.cell? ⟨g,i*4,none⟩=some (Iv u)/\w.cell? ⟨g,i*4+1,none⟩=some (Iv v))/\w.cell? ⟨g,i*4+2,none⟩=some (vp i)/\w.cell? ⟨g,i*4+3,none⟩=some (ve i))(hp:∀i(h:i<A.length),PP w (·<B) A[i].1<|vp i)(he:∀i(h:i<A.length),PE w (·<B) A[i].2<|ve i)(W4:∀i(h:i<A.length),rf mks nl A[i].1/\(k_ A[i].1).Nodup)(hse:∀i(h:i<A.length),ScE mks nl (λv=>dom v\/v∈k_ A[i].1) A[i].2)(hl:∀x,dom x->lo x≠0)(hM:MkT mks mk ty)(sH:∀x,lo x+1+bV (bq A)<=5000)(hL:A.length<=5000):
 Cq 167 #[cp cb,.slice (some ⟨g,0,none⟩) A.length sc] w λe w'=>e=.returned (.tuple #[])/\Fr (λb=>b=lb) w w'/\CK w' cb tb mb lb ty mk lo:=by
 have iZ:= @run_makeMap Tryz.prog;have HE:=ai he;have BU:∀b,b<B->¬b=lb:=λb hb q=>ae;have⟨z1,z2,z3,z4⟩:=h.lts;have X0:CE cb tb mb lb ty mk lo w w:=⟨h,Fr.refl _ _⟩;clear h he;go_enter func167,ntmps167
 go_wp2
 go_loopg[9] A.length (λgk c wr=>∃j:Nat,Hid (gk=A.length-j)/\j<=A.length/\c=Nv j/\CE cb tb mb lb ty mk lo w wr)
 case atStart=>exact⟨0,ai rfl,jv _,rfl,X0⟩
 case round=>
  clear X0;obtain⟨j,cV,hj,rfl,hX⟩:=hrel;have XR:=ai hX;have hsw:=hX.k.size;clear hX;by_cases bA:j<A.length
  .have hd:(j:Int)<(A.length:Int):=ae;have my:∀o,wr.cell? ⟨g,o,none⟩=w.cell? ⟨g,o,none⟩:=λo=>j6 (a:=⟨g,o,none⟩)<|XR.k.block g hg<|BU g hgB;have⟨⟨u,v,d0,d1⟩,d2,d3⟩:=hc j bA;rw[<-my]at d0 d1 d2 d3;have⟨t1,x1,e1⟩:=(hp j bA).iface;have⟨t2,x2,e2⟩:=(HE j bA).iface;have P1:=hp j bA;have E1:=HE j bA;rw[e1]at d2 P1;rw[e2]at d3 E1;have hnn:=Qr A j bA;have fN:Bq wr ((wr.alloc<|Cv #[Iv u,Iv v,Fv t1<|Av x1,Fv t2<|Av x2] 306).alloc<|.map #[] 0):=(bw _).alloc ag _;have X1:=XR.af fN;have B1:=ai<|(Bx.new wr #[Iv u,Iv v,Fv t1<|Av x1,Fv t2<|Av x2] 306).alloc<|.map #[] 0;have G1:GM ((wr.alloc<|Cv #[Iv u,Iv v,Fv t1<|Av x1,Fv t2<|Av x2] 306).alloc<|.map #[] 0) (wr.heap.size+1) []:=(by have:=GM.new<|wr.alloc<|Cv #[Iv u,Iv v,Fv t1<|Av x1,Fv t2<|Av x2] 306;simpa using this);have hn4:wr.heap.size+1≠cb/\wr.heap.size+1≠tb/\wr.heap.size+1≠mb/\wr.heap.size+1≠lb:=⟨ae,ae,ae,ae⟩;have HC:=ai (UD A[j].1 _ cb tb mb lb (wr.heap.size+1) B ty mk lo _ [] mks nl X1.d ae (P1.frB X1.k BU) G1 hn4 (W4 j bA).1 (W4 j bA).2 hM.a (by have:=sH lh;omega));have HA2:=HA A[j]<|jd bA;have⟨c1,f1,y1⟩:=uh B1;clear fN my e1 e2;go_wp2_with fail;refine HC.mono ?_;rintro e w3⟨rfl,k3,G3⟩;have X3:=X1.frN k3 hn4 ae;have B3:=ai<|B1.fr k3<|λq=>ae
   have MW:=zE HA2 X3.d Dl (E1.frB X3.k BU) G3 hn4 (hse j bA) hl hM (λx=>by have:=sH x;omega);clear k3 HC c1 f1 y1 d0 d1 d2 d3;have⟨c1,f1,y1⟩:=uh B3;go_wp2_with fail;refine MW.mono ?_;rintro e w4⟨rfl,k4,d4⟩;have X4:=X3.fr k4 d4
   go_wp2
   go_roundg(A.length-(j+1))
   case measure=>rw[uh cV];omega
   case rel=>exact⟨j+1,ai rfl,ae,i_,X4⟩
  .have hd:decide ((j:Int)<(A.length:Int))=false:=bD
   go_wp2
   go_end0;exact⟨rfl,XR.k,XR.d⟩
end
section
open Un
mutual
def wT:Nd->Nat->List UInt8
 |.mk k s _ L _ _ _=>if k=16 then λ_=>s.toList else bu (g_ k s) (wTL L)
def wTL:List Nd->List (Nat->List UInt8)
 |[]=>[]|x::l=>wT x::wTL l
end
def sep(last:BA):List UInt8:=if last.toList=[]\/last.toList=[40]then[]else[32]
def IZ(t:BA):Prop:=t.toList≠[]/\t.toList≠[40]
def ki(h:IZ t):sep t=[32]:=by rw[sep];rw[if_neg (by intro q;exact q.elim h.1 h.2)]
def oJ(h1:t.toList≠[41])(h2:t.toList≠[44])(h3:t.toList≠[59]):sZ l last t=l++(sep last++t.toList):=by
 rw[sZ,spB,sep];rw[show t.data.toList=t.toList from(ByteArray.toList_eq t).symm];by_cases q1:last.toList=[]
 .simp[q1,h1,h2,h3]
 .grind
def u7(h:t.toList=[41]\/t.toList=[44]):sZ l last t=l++t.toList:=by
 rw[sZ,spB];rw[show t.data.toList=t.toList from(ByteArray.toList_eq t).symm];obtain h|h:=h<;>simp[h]
def NQ w pb(Q:Nat->Prop):=∀b,Q b->b<w.heap.size/\b≠pb/\Qs w b
def NQ.fn{B pb}{w w'}{Q}(h:NQ w pb Q)(hf:FN B pb w w'):NQ w' pb Q:=λb q=>⟨jt (h b q).1 hf.size,(h b q).2.1,(h b q).2.2.fn (h b q).1 (h b q).2.1 hf⟩
inductive mz(w:World)(P:Nat->Prop):Nd->Value->Prop where
 |var(s:BA)(n f t a:Nat)(x y:Int)(hq:∃r,s.toList=39::r):mz w P (.mk 16 s n [] f t a) (.iface 143<|.agg #[Iv x,Iv y,.string<|s.extract 1 s.size])
 |fn(s:BA)(n:Nat)(a b:Nd)(f t at_:Nat)(x y:Int)(va vb:Value)(ha:mz w P a va)(hb:mz w P b vb):mz w P (.mk 17 s n [a,b] f t at_) (.iface 145<|.agg #[Iv x,Iv y,va,vb])
 |pr(s:BA)(n:Nat)(a b:Nd)(f t at_:Nat)(x y:Int)(va vb:Value)(ha:mz w P a va)(hb:mz w P b vb):mz w P (.mk 6 s n [a,b] f t at_) (.iface 147<|.agg #[Iv x,Iv y,va,vb])
 |up(s:BA)(n:Nat)(L:List Nd)(f t at_:Nat)(x y x' y':Int)(sa:Option Addr)(sc:Nat)(vs:Nat->Value)(hu:oA s)(aN:L=[]\/∃g,sa=some ⟨g,0,none⟩/\P g/\g<w.heap.size/\∀i,i<L.length->w.cell? ⟨g,i,none⟩=some (vs i))(hr:∀i(h:i<L.length),mz w P L[i]<|vs i):
  mz w P (.mk 2 s n L f t at_) (.iface 150<|.agg #[Iv x,Iv y,Iv x',Iv y',.string s,.slice sa L.length sc])
theorem mz.move(h:mz w P nd v)(hs:w.heap.size<=w'.heap.size)(hb:∀b,P b->b<w.heap.size->w'.heap[b]? =w.heap[b]?)(hq:∀b,P b->b<w.heap.size->Q b):mz w' Q nd v:=by
 induction h with
 |var s n f t a x y hq=>exact .var s n f t a x y hq|fn s n a b f t at_ x y va vb _ _ Nz NA=>exact .fn s n a b f t at_ x y va vb Nz NA|pr s n a b f t at_ x y va vb _ _ Nz NA=>exact .pr s n a b f t at_ x y va vb Nz NA|up s n L f t at_ x y x' y' sa sc vs hu aN hr ih=>
  refine .up s n L f t at_ x y x' y' sa sc vs hu ?_ ih;obtain h0|⟨g,h1,hP,hz,hc⟩:=aN
  .exact jc h0
  .refine ja ⟨g,h1,hq g hP hz,jt hz hs,λi hi=>?_⟩;rw[j6 (a:=⟨g,i,none⟩) (w:=w)<|hb g hP hz];exact hc i hi
def mz.af(h:mz w P nd v)(hb:Bq w w'):mz w' P nd v:=h.move hb.size (λb _ hz=>hb.block b hz)<|λ_ p _=>p
def mz.wide(h:mz w P nd v)(hq:∀b,P b->Q b):mz w Q nd v:=h.move (br _) (λ_ _ _=>rfl)<|λb p _=>hq b p
def mz.fr{S}(h:mz w P nd v)(hf:Fr S w w')(hS:∀b,P b->b<w.heap.size->¬S b):mz w' P nd v:=h.move hf.size (λb p z=>hf.block b z<|hS b p z)<|λ_ p _=>p
def mz.iface(h:mz w P a v):∃t x,v=.iface t (.agg x):=by
 cases h<;>exact⟨_,_,rfl⟩
def mz.bO(h:mz w P a v):∃t x,v=.iface t (.agg x):=h.iface
def mz.fnQ(h:mz w Q nd v)(hq:NQ w pb Q)(hf:FN B pb w w'):mz w' Q nd v:=h.move hf.size (λb p z=>hf.block b z (hq b p).2.1<|ja (hq b p).2.2)<|λ_ p _=>p
def u9 B pb mv txt w(e:Ending)w':=
 e=.returned (.tuple #[])/\∃XO I0,PN w' B pb XO txt I0 mv/\IZ I0/\FN B pb w w'
def W5 nd:=∀(w:World)(B pb:Nat)(bv:Value)(l:List UInt8)(last:BA)(mv:Value)(Q:Nat->Prop)(v:Value)(k:Nat),PN w B pb bv l last mv->mz w Q nd v->NQ w pb Q->k<=2->(l++(sep last++wT nd k)).length<=800000->B<=pb->
 Cq 36 #[Pv pb,v,Nv k] w (u9 B pb mv (l++(sep last++wT nd k)) w)
def zG nd:=∀(w:World)(B pb:Nat)(bv:Value)(l:List UInt8)(last:BA)(mv:Value)(Q:Nat->Prop)(v:Value),PN w B pb bv l last mv->mz w Q nd v->NQ w pb Q->(l++(sep last++wT nd 0)).length<=800000->B<=pb->
 Cq 60 #[Pv pb,v] w (u9 B pb mv (l++(sep last++wT nd 0)) w)
def rk:Nd->Nat
 |.mk k _ _ L _ _ _=>if k=17 then 0 else if k=2/\L≠[]then 1 else 2
def Qt{p:Prop}(h:p:=by
 go_enter func58,ntmps58
 go_wp2
 go_ret
 exact⟨by simp[rk],(qn _ _)⟩):p:=h
def XP(h:mz w Q nd v):Cq 58 #[v] w λe w'=>e=.returned (Nv<|rk nd)/\Bq w w':=by
 cases h with
 |var s n f t a x y hq=>
  exact Qt
 |fn s n a b f t at_ x y va vb ha hb=>
  obtain⟨ta,xa,rfl⟩:=ha.bO;obtain⟨tb,xb,rfl⟩:=hb.bO;go_enter func58,ntmps58
  go_wp2
  go_ret;exact⟨by simp[rk],bw _⟩
 |pr s n a b f t at_ x y va vb ha hb=>
  obtain⟨ta,xa,rfl⟩:=ha.bO;obtain⟨tb,xb,rfl⟩:=hb.bO;exact Qt
 |up s n L f t at_ x y x' y' sa sc vs hu aN hr=>
  by_cases hL:L=[]
  .have h3:decide ((0:Int)<(L.length:Int))=false:=by simp[hL]
   go_enter func58,ntmps58
   go_wp2
   go_ret;exact⟨by simp[rk,hL],bw _⟩
  .have h3:(0:Int)<(L.length:Int):=by have:=List.length_pos_iff.2 hL;omega
   go_enter func58,ntmps58
   go_wp2
   go_ret;exact⟨by simp[rk,hL],bw _⟩
def agd s n L c f t a k(hc:c=16\/c=17\/c=6\/(c=2/\oA s))(hk:k<=2):wT (.mk c s n L f t a) k=qt (decide (rk (.mk c s n L f t a)<k)) (wT (.mk c s n L f t a) 0):=by
 have hpf:∀x,qt false x=x:=λx=>rfl;have hup:oA s->s≠m9/\s≠lq:=λh=>⟨λe=>cJ h 62 [] aw (by rw[e];exact toList_mk [62]),λe=>cJ h 44 [] aw (by rw[e];exact toList_mk [44])⟩;obtain rfl|rfl|rfl|⟨rfl,hu⟩:=hc
 .have hr:decide (rk (.mk 16 s n L f t a)<k)=false:=by simp[rk];omega
  rw[hr,hpf];simp[wT]
 .have hr:decide (rk (.mk 17 s n L f t a)<k)=decide (0<k):=by simp[rk]
  rw[hr];simp only[wT,g_,if_true,show ¬(17=16) by decide,if_false,bu];rfl
 .have hr:decide (rk (.mk 6 s n L f t a)<k)=false:=by simp[rk];omega
  rw[hr,hpf];simp only[wT,g_,show ¬(6=16) by decide,show ¬(6=17) by decide,if_false,if_true,bu];have cR:¬lq=m9:=Cc;rw[if_neg cR,if_neg cR]
 .have⟨h1,h2⟩:=hup hu;have hle:(wTL L).isEmpty=L.isEmpty:=by cases L<;>simp[wTL]
  simp only[wT,g_,show ¬(2=16) by decide,show ¬(2=17) by decide,show ¬(2=6) by decide,if_false,bu,if_neg h1,if_neg h2,hle];have hr:decide (rk (.mk 2 s n L f t a)<k)=(decide (1<k)&& !L.isEmpty):=by
   cases L with
   |nil=>simp[rk];omega|cons x l=>simp[rk]
  rw[hr];rfl
def KN':Nd->Prop
 |.mk c s _ _ _ _ _=>c=16\/c=17\/c=6\/(c=2/\oA s)
def mz.kn(h:mz w Q nd v):KN' nd:=by
 cases h with
 |var=>exact jc rfl|fn=>exact ja (jc rfl)|pr=>exact ja (ja<|jc rfl)|up=>exact ja<|ja<|ja ⟨rfl,qas⟩
section
variable {bv:Value} {mv:Value}
def Qv{p:Prop}(h:p:=by
 go_wp2_with fail;refine HC.mono ?_;intro e w1 hp1;have hp2:=hp1;obtain⟨rfl,_⟩:=hp1
 go_wp2
 go_end0
 exact hp2):p:=h
def XQ(HB:zG nd)(h:PN w B pb bv l last mv)(hp:mz w Q nd v)(hq:NQ w pb Q)(hl:(l++(sep last++wT nd 0)).length<=800000)(hB:B<=pb)b1 b2(h1:Bx w b1 #[Pv pb])(h2:Bx w b2 #[v]):
 Cq 59 #[Pv b1,Pv b2] w (u9 B pb mv (l++(sep last++wT nd 0)) w):=by
 obtain⟨tv,xv,rfl⟩:=hp.bO;obtain⟨c1,f1,z1⟩:=h1;obtain⟨c2,f2,z2⟩:=h2;have HC:=HB w B pb bv l last mv Q _ h hp hq hl hB;go_enter func59,ntmps59;exact Qv
def XS{W w1}(h:Bq W.drew w1):Bq W w1:=((qn W.heap.size W).drew).trans h
abbrev gQ:BA:=⟨#[40]⟩
abbrev iS:BA:=⟨#[41]⟩
def I1:sep gQ=[]:=by rw[sep];rw[if_pos<|ja<|toList_mk [40]]
def FN.ls{w}(hf:FN B pb w w')(h:Bx w b C)(hp:b≠pb)(hx:∀x,C[0]? =some x->∀c,x≠.int .u8 c):Bx w' b C:=h.fn hp (ja<|h.nby hx) hf
def acP(HB:zG nd)k(hk:k<=2)(h:PN w B pb bv l last mv)(hp:mz w Q nd v)(hq:NQ w pb Q)(hl:(l++(sep last++wT nd k)).length<=800000)(hB:B<=pb)b1 b2(h1:Bx w b1 #[Pv pb])(h2:Bx w b2 #[v])(n1:b1≠pb)(n2:b2≠pb):
 Cq 57 #[Pv pb,.bool<|decide (rk nd<k),.func (.func 59) #[] #[Pv b1,Pv b2]] w (u9 B pb mv (l++(sep last++wT nd k)) w):=by
 have hw:wT nd k=qt (decide (rk nd<k)) (wT nd 0):=by
  obtain⟨c,s,n,L,f,t,a⟩:=nd;exact agd s n L c f t a k hp.kn hk
 rw[hw]at hl⊢;obtain⟨tv,xv,rfl⟩:=hp.bO
 cases hd:decide (rk nd<k)with
 |false=>
  rw[hd]at hl;have hl':=hl;have HC:=XQ HB h hp hq hl' hB b1 b2 h1 h2;go_enter func57,ntmps57;exact Qv
 |true=>
  rw[hd]at hl;have alf:qt true (wT nd 0)=40::(wT nd 0++[41]):=rfl;rw[alf]at hl⊢;simp only[kh,lz,qP]at hl;have hzp:=h.lt;have bP:Bq w (w.alloc<|Cv #[Sv gQ] 9):=bw _;have HP:=wX (h.af bP) gQ aw ae w.heap.size (Bx.new w #[Sv gQ] 9) ae;have hpt:sZ l last gQ=l++(sep last++[40]):=by
   have:=oJ (l:=l) (last:=last) (t:=gQ) qAm qAm qAm;rw[this,show gQ.toList=[40]from toList_mk [40]]
  rw[hpt]at HP;go_enter func57,ntmps57;go_wp2_with fail;refine HP.mono ?_;rintro e w1⟨rfl,bv1,N1,F1⟩;have FA:=(FN.of (B:=B) (pb:=pb) bP).trans F1;have X1:=FA.ls h1 n1 qAi;have X2:=FA.ls h2 n2 qAi;have HC:=XQ HB N1 (hp.fnQ hq FA) (hq.fn FA) (by simp only[lz,kh,qP,I1];omega) hB b1 b2 X1 X2;have hs1:sep gQ=[]:=by rw[sep];rw[if_pos<|Or.inr<|toList_mk [40]]
  rw[hs1]at HC;go_wp2_with fail;refine HC.mono ?_;rintro e w2⟨rfl,W6,Dm,N2,fi2,F2⟩;have alg:=N2.lt;have gd:Bq w2 (w2.alloc<|Cv #[Sv iS] 9):=bw _;have HP2:=wX (N2.af gd) iS aw (by simp only[lz,kh,qP,I1];omega) w2.heap.size (Bx.new w2 #[Sv iS] 9) ae;rw[u7<|jc<|toList_mk [41],show iS.toList=[41]from toList_mk [41]]at HP2;go_wp2_with fail;refine HP2.mono ?_;rintro e w3⟨rfl,bv3,N3,F3⟩
  go_wp2
  go_end0;refine⟨rfl,bv3,iS,?_,⟨by rw[show iS.toList=[41]from toList_mk [41]];decide,by rw[show iS.toList=[41]from toList_mk [41]];decide⟩,(FA.trans F2).trans<|(FN.of gd).trans F3⟩;have e9:l++(sep last++[40])++([]++wT nd 0)++[41]=l++(sep last++40::(wT nd 0++[41])):=ag;rw[<-e9];exact N3
end
def isF(c:BA):Bool:=c.toList==[62]
def isP(c:BA):Bool:=c.toList==[44]
def kd c:=if isF c=true then 17 else if isP c=true then 6 else 2
mutual
def sp(a:List Nat):Ty->Nd
 |.var n=>.mk 16 (bs (39::vT ((qs a n).idxOf n))) 0 [] 0 0 0|.aJ c l=>.mk (kd c) c 0 (m_ a l) 0 0 0
def m_(a:List Nat):List Ty->List Nd
 |[]=>[]|t::l=>sp a t::m_ (vars a t) l
end
def ng c:isF c=true↔c=m9:=by
 rw[isF];rw[beq_iff_eq];exact⟨λh=>toList_inj<|h.trans (toList_mk [62]).symm,λh=>by rw[h];exact toList_mk [62]⟩
def s_ c:isP c=true↔c=lq:=by
 rw[isP];rw[beq_iff_eq];exact⟨λh=>toList_inj<|h.trans (toList_mk [44]).symm,λh=>by rw[h];exact toList_mk [44]⟩
def acQ c:g_ (kd c) c=c:=by
 rw[g_,kd];by_cases h1:isF c=true
 .simp[h1];exact((ng c).1 h1).symm
 .by_cases h2:isP c=true
  .simp[h1,h2];exact((s_ c).1 h2).symm
  .simp[h1,h2]
def ai0 c:kd c≠16:=by rw[kd];split;decide;split<;>decide
mutual
def XT:∀(T:Ty)(a:List Nat),wT (sp a T)=wr dec (vars a T) T
 |.var n,a=>by
  funext k;simp only[sp,wT,if_true,wr,vars];rw[show(bs (39::vT ((qs a n).idxOf n))).toList=39::vT ((qs a n).idxOf n)from toList_mk _];rfl
 |.aJ c l,a=>by
  simp only[sp,wT,if_neg<|ai0 c,acQ,wr,vars];rw[XU l a]
def XU:∀(l:List Ty)(a:List Nat),wTL (m_ a l)=oe dec (aU a l) l
 |[],a=>rfl|t::l,a=>by
  simp only[m_,wTL,oe,aU];rw[XT t a,XU l<|vars a t,I4<|jW l<|vars a t]
end
def eH:∀(l:List Ty)(a:List Nat),(m_ a l).length=l.length
 |[],a=>rfl|t::l,a=>by simp[m_,eH l]
def td:∀(l:List Ty)(a:List Nat)(i:Nat)(h:i<l.length),m_ a (l.take<|i+1)=m_ a (l.take i)++[sp (aU a<|l.take i) l[i]]/\aU a (l.take<|i+1)=vars (aU a<|l.take i) l[i]
 |[],a,i,h=>yl|t::l,a,0,h=>by simp[m_,aU]|t::l,a,i+1,h=>by
  have:=td l (vars a t) i Fe;simp only[List.take_succ_cons,m_,aU,this,List.getElem_cons_succ];simp
def zH:∀(a b:List Ty)(x:List Nat),aU x (a++b)=aU (aU x a) b
 |[],b,x=>rfl|t::a,b,x=>by simp[aU,zH a b]
def ri l a i:(aU a<|l.take i).length<=(aU a l).length:=by
 have:aU a l=aU (aU a<|l.take i) (l.drop i):=by
  rw[<-zH,jl]
 rw[this];exact(jW _ _).length_le
def mz.by{w}{P}{nd}{v}(h:mz w P nd v):mz w (λb=>P b/\b<w.heap.size/\Qs w b) nd v:=by
 induction h with
 |var s n f t a x y hq=>exact .var s n f t a x y hq|fn s n a b f t at_ x y va vb _ _ Nz NA=>exact .fn s n a b f t at_ x y va vb Nz NA|pr s n a b f t at_ x y va vb _ _ Nz NA=>exact .pr s n a b f t at_ x y va vb Nz NA|up s n L f t at_ x y x' y' sa sc vs hu aN hr ih=>
  refine .up s n L f t at_ x y x' y' sa sc vs hu ?_ ih;obtain h0|⟨g,h1,hP,hz,hc⟩:=aN
  .exact jc h0
  .by_cases hL:L=[]
   .exact jc hL
   .have hl:=List.length_pos_iff.2 hL;refine ja ⟨g,h1,⟨hP,hz,λq hq c e=>?_⟩,hz,hc⟩;have⟨t',x'',hv⟩:=(hr 0 hl).bO;rw[hc 0 hl,hv]at hq
    cases hq
    cases e
inductive WN:Nd->Prop where
 |var(s:BA)(n f t a:Nat)(h:s.size<=1000):WN (.mk 16 s n [] f t a)
 |fn(s:BA)(n:Nat)(x y:Nd)(f t a:Nat)(hx:WN x)(hy:WN y):WN (.mk 17 s n [x,y] f t a)
 |pr(s:BA)(n:Nat)(x y:Nd)(f t a:Nat)(hx:WN x)(hy:WN y):WN (.mk 6 s n [x,y] f t a)
 |up(s:BA)(n:Nat)(L:List Nd)(f t a:Nat)(h:s.size<=1000)(hl:L.length<=1001)(hL:∀i(h:i<L.length),WN L[i]):WN (.mk 2 s n L f t a)
def Qw{p:Prop}(h:p:=by
 subst ha hb;go_enter func61,ntmps61
 go_wp2
 go_region
 all_goals(
  go_wp2
  go_ret
  exact⟨rfl,(qn _ _).drew⟩)):p:=h
def acR g sc va vb ta tb xa xb(ha:va=.iface ta xa)(hb:vb=.iface tb xb)(h0:w.cell? ⟨g,0,none⟩=some va)(h1:w.cell? ⟨g,1,none⟩=some vb):Cq 61 #[.string ⟨#[45,62]⟩,.slice (some ⟨g,0,none⟩) 2 sc] w λe w'=>e=.returned (.iface 145<|.agg #[Iv 0,Iv 0,va,vb])/\Bq w w':=by
 exact Qw
def acS g sc va vb ta tb xa xb(ha:va=.iface ta xa)(hb:vb=.iface tb xb)(h0:w.cell? ⟨g,0,none⟩=some va)(h1:w.cell? ⟨g,1,none⟩=some vb):Cq 61 #[.string ⟨#[44]⟩,.slice (some ⟨g,0,none⟩) 2 sc] w λe w'=>e=.returned (.iface 147<|.agg #[Iv 0,Iv 0,va,vb])/\Bq w w':=by
 exact Qw
def acT c(hu:oA c)sa n sc:Cq 61 #[.string c,.slice sa n sc] w λe w'=>e=.returned (.iface 150<|.agg #[Iv 0,Iv 0,Iv 0,Iv 0,.string c,.slice sa n sc])/\Bq w w':=by
 have h1:(c.toList==[45,62])=false:=by rw[<-Bool.not_eq_true,beq_iff_eq];exact cJ hu 45 [62] aw
 have h2:(c.toList==[44])=false:=by rw[<-Bool.not_eq_true,beq_iff_eq];exact cJ hu 44 [] aw
 go_enter func61,ntmps61
 go_wp2
 go_ret;exact⟨rfl,qn _ _⟩
def age nb mb nd a' w(e:Ending)w':=
 ∃u,e=.returned u/\mz w' (λb=>w.heap.size<=b) nd u/\NB w' nb mb a'/\Fr (λb=>b=mb) w w'
def SpC T:=∀(w:World)(nb mb:Nat)(a:List Nat)(P:Nat->Prop)(v:Value),dD w P T v->NB w nb mb a->(∀b,P b->b≠mb)->Wf T->(vars a T).length<=96->ah [T]<=1000->
 Cq 37 #[v,nbV nb] w (age nb mb (sp a T) (vars a T) w)
@[simp] theorem alh a w:(qf (.iface 85<|Iv a) 56 85 true).run jo w=.ok (.tuple #[Iv a,.bool true]) w:=qkr
@[simp] theorem agf a b w:(qf (.iface 153<|.agg #[a,b]) 56 85 true).run jo w=.ok (.tuple #[Iv 0,.bool false]) w:=qkr
def agh n:SpC (.var n):=by
 intro w nb mb a P v h hN hP hW hv hs
 cases h
 simp only[vars]at hv;have HC:=UF hN n hv;go_enter func37,ntmps37;go_wp2_with fail;refine HC.mono ?_;rintro e w1⟨rfl,N1,F1⟩
 go_wp2
 go_ret;refine⟨_,rfl,?_,N1,F1⟩;have hq:UG (bs (39::vT ((qs a n).idxOf n))):=⟨_,toList_mk _⟩;have ht:bs (vT<|(qs a n).idxOf n)=(bs (39::vT ((qs a n).idxOf n))).extract 1 (bs (39::vT ((qs a n).idxOf n))).size:=by
  apply toList_inj;have:=yD (s:=bs (39::vT ((qs a n).idxOf n)))<|toList_mk _;rw[tl]at this;rw[this];exact toList_mk _
 rw[ht];exact .var _ _ _ _ _ _ _ hq
def ai1 nb mb a(L:List Ty)w pb sb M gk v wr:=
 ∃(j:Nat)(C:Array Value),Hid (gk=L.length-j)/\j<=L.length/\v=Nv j/\NB wr nb mb (aU a<|L.take j)/\Fr (λb=>b=mb) w wr/\Bx wr pb C/\Bx wr sb M/\Hid (C.size=L.length)/\
  Hid (∀i(h:i<(m_ a<|L.take j).length),∃u,C[i]? =some u/\mz wr (λb=>pb<b/\b<wr.heap.size) (m_ a<|L.take j)[i] u)
def NB.lt{L}(h:NB w nb mb L):nb<w.heap.size/\mb<w.heap.size:=⟨h.bk.z,h.mp.lt⟩
def NB.set{L}(h:NB w nb mb L)(h1:b≠nb)(h2:b≠mb)j v:NB (w.setCell ⟨b,j,none⟩ v) nb mb L:=
 ⟨h.bk.bR h1.symm j v,h.mp.u_ h2.symm j v,h.ne⟩
def Qx{p:Prop}(h:p:=by
 simp only[sp,hk];congr 1;apply List.ext_getElem
 .simp;omega
 .intro i h1 h2;have:i=0\/i=1:=by simp at h2;omega
  obtain rfl|rfl:=this<;>rfl):p:=h
def agi c L(IH:∀i(h:i<L.length),SpC L[i]):SpC (.aJ c L):=by
 intro w nb mb a P v h HN hP hW hv hs
 cases h with
 |aJ c L sa sc vs hc aN hr=>
 obtain⟨i0,wY,og,l8,gR⟩:=info_parts I6;have fK:ah L<=1000:=by simp[ah,size]at hs;omega
 have hLl:=pX L;have Nw:=hH (by_:=16) zI wY og rfl l8 gR aw L.length ae;obtain⟨Hok,hWL⟩:=hW;rw[pY]at hWL;simp only[vars]at hv;have h1:=agf;have h2:=agj;have bA:=HN.lt;have bP:Bq w ((w.alloc<|.cells #[.string<|pn c,.slice sa L.length sc] 153).alloc<|.cells (Array.replicate L.length .nilIface) 79):=(bw _).alloc ag _;have XM:=ai<|(Bx.new w #[.string<|pn c,.slice sa L.length sc] 153).alloc<|.cells (Array.replicate L.length .nilIface) 79;obtain⟨cm,fm,zm⟩:=uh XM;go_enter func37,ntmps37
 go_wp2
 go_loopg[29] L.length (λgk v wr=>ai1 nb mb a L w (w.heap.size+1) w.heap.size #[.string<|pn c,.slice sa L.length sc] gk v wr)
 case atStart=>
  have BP:Bx ((w.alloc<|.cells #[.string<|pn c,.slice sa L.length sc] 153).alloc<|.cells (jy L.length .nilIface) 79) (w.heap.size+1) (jy L.length .nilIface):=by have:=Bx.new (w.alloc<|.cells #[.string<|pn c,.slice sa L.length sc] 153) (jy L.length .nilIface) 79;simpa using this
  refine⟨0,jy L.length .nilIface,ai ag,jv _,rfl,?_,Fr.of bP,BP,XM,ai ag,ai<|λi hi=>absurd hi<|by simp[m_]⟩;simpa[aU]using HN.af bP
 case round=>
  obtain⟨j,C,cV,hj,rfl,N1,F1,B1,BM,hC,hT⟩:=hrel;have zw:=F1.size;have n1:=N1.lt;have zpb:=B1.z;by_cases bh:j<L.length
  .have hd:(j:Int)<(L.length:Int):=ae;obtain⟨g,rfl,hg,iP,bQ⟩:∃g,sa=some ⟨g,0,none⟩/\P g/\g<w.heap.size/\∀i,i<L.length->w.cell? ⟨g,i,none⟩=some (vs i):=by
    obtain h0|h0:=aN
    .subst h0;simp at bh
    .exact h0
   have cg:=(j6 (a:=⟨g,j,none⟩)<|F1.block g iP<|hP g hg).trans<|bQ j bh;have TJ:=(hr j bh).fr F1<|λb p _=>hP b p;obtain⟨tv,xv,ND⟩:=TJ.iface;obtain⟨mt1,mt2⟩:=td L a j bh;have hnj:(vars (aU a<|L.take j) L[j]).length<=96:=by rw[<-mt2];exact jq (ri L a<|j+1) hv
   have hsj:ah [L[j]]<=1000:=by
    have e1:=lA L j bh;have e2:=eR L<|j+1;simp[ah];omega
   have HC:=IH j bh wr nb mb _ P (vs j) TJ N1 hP (hWL _<|jd bh) hnj hsj;rw[ND]at cg HC;go_wp2_with fail;refine HC.mono ?_;rintro e w1⟨u,rfl,HU,Fb,HF⟩;obtain⟨tu,xu,rfl⟩:=HU.bO;have hpm:w.heap.size+1≠mb:=ae;have B2:=B1.fr HF hpm;have sI:j<C.size:=qBh;have cj:=(B2.c j).trans<|Array.getElem?_eq_getElem sI;have fj:=B2.f j;have B3:=B2.aT j (.iface tu<|.agg xu) (C.setIfInBounds j<|.iface tu<|.agg xu) rfl sI;have BM2:=(BM.fr HF<|show ¬w.heap.size=mb by omega).bR (show w.heap.size≠w.heap.size+1 by omega) j (.iface tu<|.agg xu);have yE:=F1.trans HF;have z2:=HF.size
   go_wp2
   go_roundg(L.length-(j+1))
   case measure=>rw[uh cV];omega
   case rel=>
    have NE:(m_ a<|L.take j).length=j:=by rw[eH];simp;omega
    refine⟨j+1,C.setIfInBounds j<|.iface tu<|.agg xu,ai rfl,ae,i_,?_,?_,B3,BM2,ai (by simp;exact hC),ai<|λi hi=>?_⟩
    .rw[mt2];exact Fb.set ae ae j _
    .exact yE.set (ja ae) j _
    .have jA:∀b,w.heap.size+1<b->b<w1.heap.size->(w1.setCell ⟨w.heap.size+1,j,none⟩<|.iface tu<|.agg xu).heap[b]? =w1.heap[b]? :=λb hb _=>Below.heap_setCell _ _ _ _ (by show b≠w.heap.size+1;omega);have hss:(w1.setCell ⟨w.heap.size+1,j,none⟩<|.iface tu<|.agg xu).heap.size=w1.heap.size:=zJ;have zK:i<j+1:=by rw[mt1]at hi;simp[NE]at hi;omega
     by_cases e:i=j
     .subst e;refine⟨.iface tu<|.agg xu,by simp[sI],?_⟩;have e1:(m_ a<|L.take<|i+1)[i]'hi=sp (aU a<|L.take i) L[i]:=by
       have:(m_ a<|L.take<|i+1)[i]? =some (sp (aU a<|L.take i) L[i]):=by rw[mt1,List.getElem?_append_right ae];simp[NE]
       rw[jh hi]at this;exact Option.some.inj this
      rw[e1];exact HU.by.move ae (λb p z=>jA b qAy z)<|λb p z=>⟨qAy,ae⟩
     .have rO:i<(m_ a<|L.take j).length:=ae;obtain⟨u',wS,wU⟩:=uh hT i rO;have e1:(m_ a<|L.take<|j+1)[i]'hi=(m_ a<|L.take j)[i]'rO:=by
       have:(m_ a<|L.take<|j+1)[i]? =some ((m_ a<|L.take j)[i]'rO):=by rw[mt1,List.getElem?_append_left rO,jh rO]
       rw[jh hi]at this;exact Option.some.inj this
      refine⟨u',by rw[Array.getElem?_setIfInBounds_ne ae];exact wS,?_⟩;rw[e1];have h3:=wU.fr HF (λb p _ q=>by subst q;omega);exact h3.move ae (λb p z=>jA b p.1 z)<|λb p z=>⟨p.1,ae⟩
  .have hd:decide ((j:Int)<(L.length:Int))=false:=bD;have ej:j=L.length:=ae;subst ej;rw[List.take_length]at N1 hT;obtain⟨cw,fw,zw'⟩:=BM;have hsl:=eH L a;have hCs:C.size=L.length:=uh hC;obtain rfl|rfl|hu:=hc
   .have h2L:=Hok.2.1<|jc rfl;obtain⟨u0,hu0,hp0⟩:=uh hT 0 ae;obtain⟨u1,wS,hp1⟩:=uh hT 1 ae;obtain⟨t0,x0,rfl⟩:=hp0.bO;obtain⟨t1,x1,rfl⟩:=hp1.bO;have HC:=acR (w:=wr) (w.heap.size+1) L.length (.iface t0<|.agg x0) (.iface t1<|.agg x1) t0 t1 (.agg x0) (.agg x1) rfl rfl ((B1.c 0).trans hu0) ((B1.c 1).trans wS);rw[kq]at cw;rw[h2L]at HC;go_wp2_with fail;rw[h2L];refine HC.mono ?_;rintro e w9⟨rfl,Iu⟩
    go_wp2
    go_ret;refine⟨_,rfl,?_,N1.af Iu,F1.trans<|Fr.of Iu⟩;have esp:sp a (.aJ m9 L)=.mk 17 m9 0 [(m_ a L)[0]' ae,(m_ a L)[1]' ae] 0 0 0:=by
     have hk:kd m9=17:=by unfold kd;rw[if_pos<|(ng m9).2 rfl]
     exact Qx
    rw[esp];exact .fn _ _ _ _ _ _ _ _ _ _ _ ((hp0.af Iu).wide λb p=>qAu)<|(hp1.af Iu).wide λb p=>qAu
   .have h2L:=Hok.2.1<|ja rfl;obtain⟨u0,hu0,hp0⟩:=uh hT 0 ae;obtain⟨u1,wS,hp1⟩:=uh hT 1 ae;obtain⟨t0,x0,rfl⟩:=hp0.bO;obtain⟨t1,x1,rfl⟩:=hp1.bO;have HC:=acS (w:=wr) (w.heap.size+1) L.length (.iface t0<|.agg x0) (.iface t1<|.agg x1) t0 t1 (.agg x0) (.agg x1) rfl rfl ((B1.c 0).trans hu0) ((B1.c 1).trans wS);rw[ku]at cw;rw[h2L]at HC;go_wp2_with fail;rw[h2L];refine HC.mono ?_;rintro e w9⟨rfl,Iu⟩
    go_wp2
    go_ret;refine⟨_,rfl,?_,N1.af Iu,F1.trans<|Fr.of Iu⟩;have esp:sp a (.aJ lq L)=.mk 6 lq 0 [(m_ a L)[0]' ae,(m_ a L)[1]' ae] 0 0 0:=by
     have cR:¬lq=m9:=by intro e;have:=congrArg ByteArray.toList e;rw[show lq.toList=[44]from toList_mk [44],show m9.toList=[62]from toList_mk [62]]at this;simp at this
     have hk:kd lq=6:=by unfold kd;rw[if_neg<|λq=>cR<|(ng lq).1 q,if_pos<|(s_ lq).2 rfl]
     exact Qx
    rw[esp];exact .pr _ _ _ _ _ _ _ _ _ _ _ ((hp0.af Iu).wide λb p=>qAu)<|(hp1.af Iu).wide λb p=>qAu
   .have HC:=acT (w:=wr) c hu (some ⟨w.heap.size+1,0,none⟩) L.length L.length;rw[eS hu]at cw;go_wp2_with fail;refine HC.mono ?_;rintro e w9⟨rfl,Iu⟩
    go_wp2
    go_ret;refine⟨_,rfl,?_,N1.af Iu,F1.trans<|Fr.of Iu⟩;have hk:kd c=2:=by
     unfold kd;rw[if_neg<|λq=>cJ hu 62 [] aw (by rw[(ng c).1 q];exact toList_mk [62]),if_neg<|λq=>cJ hu 44 [] aw (by rw[(s_ c).1 q];exact toList_mk [44])]
    simp only[sp,hk];rw[<-hsl];refine .up c 0 (m_ a L) 0 0 0 0 0 0 0 _ _ (λi=>C.getD i .nilIface) hu (ja ⟨w.heap.size+1,rfl,by show w.heap.size<=w.heap.size+1;omega,jt B1.z Iu.size,λi hi=>?_⟩) (λi hi=>?_)
    .obtain⟨u,MX,_⟩:=uh hT i hi;rw[j6 (a:=⟨w.heap.size+1,i,none⟩)<|Iu.block _ B1.z,B1.c i,MX];simp[j3,MX]
    .obtain⟨u,MX,UB⟩:=uh hT i hi;have:C.getD i .nilIface=u:=by simp[j3,MX]
     rw[this];exact(UB.af Iu).wide λb p=>qAu
def Dn:∀(T:Ty),SpC T
 |.var n=>agh n|.aJ c L=>agi c L λi h=>Dn L[i]
termination_by T=>qj T
decreasing_by
 have h2:=List.sizeOf_lt_of_mem<|jd h;simp;omega
end
end Go.Proofs.YtlnlhlefeokfjaaGreatDoor

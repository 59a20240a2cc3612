import Derived.Test.YtopmodaakdnliaaGreatDoorCQa
import Derived.Test.YtopmodaakdnliaaGreatDoorCPl
import Derived.Test.YtopmodaakdnliaaGreatDoorCAa
set_option linter.all false
set_option maxRecDepth 100000
set_option maxHeartbeats 2000000
namespace Go.Proofs.YtopmodaakdnliaaGreatDoor
open Or renaming inr->ja,inl->jc
open _root_.Nat renaming le_trans->jd,mul_le_mul_left->jf,strongRecOn->jh
open Un renaming dZ->ji,Eq->jj
open Go.Proofs.Tryz renaming prog->jk
open Un.dl renaming D8->jl,yw->jm
open And renaming intro->jo
open Go Go.RowKit Proofs.Tryz
variable {C ca cb:Array Value} {c c':BA} {V ds l l':List Nat} {xs:List Value} {S a b base cap h n xb:Nat} {r:Nat->Int} {vr:Nat->Nat} {ly:Nat->Option Addr×Nat} {K:Nat->Option Un.Ty} {P Q:Nat->Prop} {R κ:Nat->Un.Ty} {nd:Nd} {s:Option (BA×List Nat)} {p sa:Option Addr} {row:Option Nat} {ta tb:TypeId} {a_ gK:Un.Nx} {str:Un.tO} {x y:Un.Ty} {u v:Value} {w w':World}
section
open Un
def abF(c:UInt8):BA:=⟨#[c]⟩
def abG c:(abF c).toList=[c]:=by rw[abF];exact toList_mk _
def nmM:List UInt8:=[97,98,102,119,120,121,122]
def nlM:List BA:=nmM.map abF
abbrev NmC(c:UInt8):Prop:=c∈nmM
def NmC.m{c:UInt8}(h:NmC c):abF c∈nlM:=List.mem_map_of_mem h
def OD:List UInt8:=[116,121,112,101,32,76,32,39,97,32,61,32,78,32,124,32,67,32,39,97,32,40,76,32,39,97,41,59,116,121,112,101,32,83,32,61,32,80,32,124,32,81,32,73,110,116,32,66,111,111,108,59]
end
section
open Go.ChangeMaps Go.MapKept Un
namespace Un
def tN.ind{K}{R}{rk}(hK:tN K R rk){J:Nat->Prop}(h0:∀n,K n=none->J n)(h1:∀n t,K n=some t->(∀m,aG m t->J m)->J n):∀(s r n:Nat),size (R n)<=s->rk n<=r->J n:=by
 intro s
 induction s using jh with
 |ind s ihs=>
  intro r
  induction r using jh with
  |ind r ihr=>
   intro n hs hr
   cases e:K n with
   |none=>exact h0 n e|some t=>
    refine h1 n t e λm hm=>?_;have q:=hK.shut n t e
    cases t with
    |var u=>
     simp only[aG]at hm;subst hm;have:=hK.ZX n u e;refine ihr (rk u) ae u ?_<|br _;rw[q]at hs;simpa[sub]using hs
    |aM c l=>
     have h3:=lM R m l (by simpa[aG]using hm);have h4:=congrArg size q;simp only[sub,size]at h4;exact ihs (size<|R m) ae (rk m) m (br _)<|br _
def tN.all{rk}(hK:tN K R rk){J:Nat->Prop}(h0:∀n,K n=none->J n)(h1:∀n t,K n=some t->(∀m,aG m t->J m)->J n)n:J n:=hK.ind h0 h1 _ _ n (br _)<|br _
end Un
section
variable {rk:Nat->Nat}
def acP(hK:tN K R rk)(hI:Cn V K)n m:n∈V->aG m (R n)->m∈V:=by
 refine hK.all (J:=λn=>n∈V->aG m (R n)->m∈V) (λn e hn ho=>?_) (λn t e ih hn ho=>?_) n
 .rw[hK.open_ n e]at ho;simp only[aG]at ho;subst ho;exact hn
 .rw[hK.shut n t e]at ho;have⟨x,h1,h2⟩:=(nZ t).1 ho;exact ih x h1 ((hI n t e).2.v x h1) h2
def D9(hK:tN K R rk)(hI:Cn V K)n:Whole (R n):=by
 refine hK.all (J:=λn=>Whole<|R n) (λn e=>?_) (λn t e ih=>?_) n
 .rw[hK.open_ n e];trivial
 .rw[hK.shut n t e];exact dn t (hI n t e).2.w ih
def Gu{V:List Nat}(h:l.Nodup)(hs:∀x,x∈l->x∈V):l.length<=V.length:=by
 induction l generalizing V with
 |nil=>simp|cons a l ih=>
  have ha:=hs a ah;have hn:=List.nodup_cons.1 h;have:=ih (V:=V.erase a) hn.2 λx hx=>(List.mem_erase_of_ne<|λe=>hn.1 (by rw[<-e];exact hx)).2 (hs x<|by simp[hx]);rw[List.length_erase_of_mem ha]at this;have:0<V.length:=List.length_pos_of_mem ha;simp only[de];omega
def LV(hK:tN K R rk)(hI:Cn V K)(hV:V.length<=1000):Bc K R where
 whole:=D9 hK hI
 small n t e:=(hI n t e).2.z
 len n:=by
  cases e:K n with
  |none=>rw[hK.open_ n e];simp[vars,Un.seen]|some t=>
   have hn:=(hI n t e).1;exact jd (Gu (gV (R n) List.nodup_nil) λx hx=>acP hK hI n x hn<|by simpa using(cE (R n) [] x).1 hx) hV
def ClR(P:Nat->Prop)b K R L w gk wr:=
 ∃done D,IG p9 wr (w.heap.size+1) b L done gk/\fK wr (λx=>(P x/\x<w.heap.size)\/w.heap.size+2<=x) w.heap.size D/\acM K R D/\(∀n:Nat,(n:Int)∈done->D n≠none)/\Bq w wr
def KW w P b(κ:Nat->Ty):=∃D,fK w P b D/\∀n,(D n=none->κ n=.var n)/\(D n≠none->D n=some (bN<|κ n))
def P7(P:Nat->Prop)R w(e:Ending)w':=∃wb,e=.returned (Mv wb)/\w.heap.size<=wb/\KW w' (λx=>P x\/w.heap.size<=x) wb R/\Bq w w'
def Xp(h:fK w P b K)(hb:P b)(hK:tN K R rk)(hF:Bc K R):Cq 315 #[Mv b] w (P7 P R w):=by
 have HH:=ai h;have bl:=h.lt;have g_:= @run_makeMap Tryz.prog;obtain⟨L,m1,q1,q2,q3⟩:=h;have k1:Bq w (w.alloc<|.map #[] 0):=bw _;have⟨o,cnt,hrg,ni⟩:=(m1.af k1).range oT;rw[cM]at hrg ni;have k2:Bq w ((w.alloc<|.map #[] 0).alloc o):=k1.alloc ah _;have HI:=ai ni;have K2:=ai k2;have S0:Hid (fK ((w.alloc<|.map #[] 0).alloc o) (λx=>(P x/\x<w.heap.size)\/w.heap.size+2<=x) w.heap.size<|λ_=>none):=ai<|(fK.new w _).af<|bw _;have Q:=And.intro q1<|And.intro q2 q3;go_enter func315,ntmps315
 go_wp2
 go_loopg[] cnt (λgk wr=>ClR P b K R L w gk wr)
 case atStart=>exact⟨[],λ_=>none,HI,uh S0,(λn t e=>by cases e),(λn hn=>by simp at hn),uh K2⟩
 case round=>
  obtain⟨done,D,HI,HS,HG,HD,HB⟩:=hrel;have hiz:=HI.lt;have zr:=HB.size;rcases HI.next (P:=jk) LG with⟨ha,MW⟩|⟨x,u,w2,aC,hxd,Yi,MW,HI1,aZ,BE,kX,hen⟩
  .go_wp2
   go_ret;refine⟨w.heap.size,rfl,br _,⟨D,HS.wide λx p=>by obtain p|p:=p;exact jc p.1;exact ja ae,λn=>⟨λe=>?_,λe=>?_⟩⟩,HB⟩
   .apply hK.open_ n
    cases hg:bd (n:Int) L with
    |none=>exact Q.1 n hg|some v=>exact absurd e<|HD n<|ha _ v hg
   .cases hd:D n with
    |none=>exact absurd hd e|some t=>rw[(HG n t hd).1]
  .obtain⟨n,rfl⟩:=Q.2.2 x u Yi;have F1:=BE;have kb:∀i,i<w.heap.size->w2.heap[i]? =w.heap[i]? :=λi hi=>(F1.block i ae ae).trans<|HB.block i hi;have h_:Bq w w2:=⟨F1.os.trans HB.os,F1.tape.trans HB.tape,F1.output.trans HB.output,ae,kb⟩;have anv:GZ b w.heap.size K R (λx=>(P x/\x<w.heap.size)\/(w.heap.size+2<=x/\x<w2.heap.size)) D w2:=by
    refine⟨?_,?_,ae,jc ⟨hb,bl⟩,?_,?_,HG⟩
    .rintro x(p|p)<;>omega
    .rintro(p|p)<;>omega
    .exact HH.move h_.size (kb b bl) (λx _ hx=>kb x hx) (λx p hx=>jc ⟨p,hx⟩)
    .exact(HS.fr F1 ae (λx p _=>by obtain p|p:=p<;>omega)).low.wide λx p=>by
      obtain q|q:=p.1
      .exact jc q
      .exact ja ⟨q,p.2⟩
   have HC:=LU (b:=b) (wb:=w.heap.size) hK hF (size<|R n) (rk n) n (br _) (br _) w2 _ D anv;have hKn:Hid (K n≠none):=by
    have⟨t,e,_⟩:=Q.2.1 n u Yi;rw[e];exact ai ah
   go_wp2_with fail;refine HC.mono ?_;rintro e w3⟨u3,D',rfl,hu3,hd3,G3,M3,Qq,F3⟩;obtain⟨tu,xu,rfl⟩:=hu3.iface;have z3:=F3.size;have N3:=Qq hKn
   have S3:=ai (hd3.wide (Q:=λx=>(P x/\x<w.heap.size)\/w.heap.size+2<=x) λx p=>by
    obtain  (q|q)|q:=p.1
    .exact jc q
    .exact ja q.1
    .exact ja ae)
   have I3:=HI1.same (F3.block b ae ae)<|F3.block _ ae ae;have K3:=show Bq w w3 from⟨F3.os.trans h_.os,F3.tape.trans h_.tape,F3.output.trans h_.output,by have:=h_.size;omega,λi hi=>(F3.block i ae ae).trans<|h_.block i hi⟩
   go_wp2
   go_roundg aC
   case measure=>exact aZ
   case rel=>
    refine⟨(n:Int)::done,D',I3,S3,G3,λm hm=>?_,K3⟩;obtain q|q:=List.mem_cons.1 hm
    .have:m=n:=ae;subst this;exact N3
    .exact M3 m (HD m q)
def acQ(P:Nat->Prop)x y w(e:Ending)w':=Bq w w'/\
 ((∃wb θ,e=.returned (.tuple #[Mv wb,.bool true])/\w.heap.size<=wb/\In.BT θ x y/\(∀n,Whole<|θ n)/\(∀n,(vars []<|θ n).length<=1000)/\KW w' (λi=>P i\/w.heap.size<=i) wb θ)\/(e=.returned (.tuple #[.map none,.bool false])/\∀σ,sub σ x≠sub σ y))
def acR(hx:dA w P x v)(hy:dA w P y u)(hxs:size x<=48)(hys:size y<=48)(hxw:Whole x)(hyw:Whole y):Cq 302 #[v,u] w (acQ P x y w):=by
 have g_:= @run_makeMap jk;have k1:Bq w (w.alloc<|.map #[] 0):=bw _;have hVx:∀m,aG m x->m∈vars (vars [] x) y:=λm hm=>(cE y _ m).2<|jc<|(cE x [] m).2<|ja hm;have hVy:∀m,aG m y->m∈vars (vars [] x) y:=λm hm=>(cE y _ m).2<|ja hm;have hV1:∀m,m∈vars (vars [] x) y->aG m x\/aG m y:=λm hm=>by
  obtain q|q:=(cE y _ m).1 hm
  .obtain r|r:=(cE x [] m).1 q
   .simp at r
   .exact jc r
  .exact ja q
 have hVl:(vars (vars [] x) y).length<=1000:=by
  have h1:=eR (occs x) [];have h2:=eR (occs y)<|vars [] x;have h3:=eS x;have h4:=eS y;rw[<-dH]at h1 h2;simp at h1;omega
 have HC:=acJ (P:=λi=>P i/\i<w.heap.size) (b:=w.heap.size) (V:=vars (vars [] x) y) ae _ _ (λ_=>none) Ty.var (λ_=>0) x y (br _) (br _) _ v u (fK.new w _) tN.start (λn t e=>by cases e) ⟨hVx,hxs,hxw⟩ ⟨hVy,hys,hyw⟩ (hx.low.af k1) (hy.low.af k1);obtain⟨ta,xa,rfl⟩:=hx.iface;obtain⟨tb,xb,rfl⟩:=hy.iface;have K1:=ai k1;go_enter func302,ntmps302;go_wp2_with fail;refine HC.mono ?_;rintro e w1⟨ok,rfl,F1,h1,h2⟩;have kb:Bq w w1:=by
  have k:=uh K1;exact⟨F1.os.trans k.os,F1.tape.trans k.tape,F1.output.trans k.output,jd k.size F1.size,λi hi=>(F1.block i (by have:=k.size;omega) ae).trans<|k.block i hi⟩
 cases ok with
 |false=>
  have H2:=h2 rfl;have KB:=ai kb
  go_wp2
  go_ret2;refine⟨KB,ja ⟨rfl,λσ=>?_⟩⟩;have:=H2 σ
  rwa[df,df]at this
 |true=>
  have⟨K',R',RP,s1,s2,s3,s4,s5⟩:=h1 rfl;have HC:=Xp (P:=λi=>P i\/w.heap.size<=i) (s1.wide λi p=>jc p.1) (ja<|br _) s2<|LV s2 s3 hVl;have KB:=ai kb;have H3:=jo s2<|jo s3 s4;go_wp2_with fail;refine HC.mono ?_;rintro e w2⟨wb,rfl,hwb,HK,K2⟩
  go_wp2
  go_ret2;obtain⟨s2,s3,s4⟩:=H3;have kb:=uh KB;refine⟨kb.trans<|K2.mono kb.size,jc ⟨wb,R',rfl,jd kb.size hwb,⟨s4.same,λσ e n=>?_,λn h1 h2=>?_,λn m h1 h2=>?_⟩,D9 s2 s3,(LV s2 s3 hVl).len,?_⟩⟩
  .have:=s4.least σ (by rw[df,df];exact e) n;simpa[sub]using this
  .cases e:K' n with
   |none=>exact s2.open_ n e|some t=>obtain q|q:=hV1 n (s3 n t e).1;exact absurd q h1;exact absurd q h2
  .exact hV1 m (acP s2 s3 n m (by obtain q|q:=h1;exact hVx n q;exact hVy n q) h2)
  .obtain⟨D,d1,d2⟩:=HK;exact⟨D,d1.wide λi p=>by obtain  (p|p)|p:=p;exact jc p;exact ja p;exact ja<|jd kb.size p,d2⟩
end
theorem KW.move(h:KW w P b κ)(hs:w.heap.size<=w'.heap.size)(hb:w'.heap[b]? =w.heap[b]?)(hp:∀x,P x->x<w.heap.size->w'.heap[x]? =w.heap[x]?)(hq:∀x,P x->x<w.heap.size->Q x):KW w' Q b κ:=by
 obtain⟨D,h1,h2⟩:=h;exact⟨D,h1.move hs hb hp hq,h2⟩
def KW.af(h:KW w P b κ)(hb:Bq w w'):KW w' P b κ:=by obtain⟨D,h1,h2⟩:=h;exact⟨D,h1.af hb,h2⟩
def KW.wide(h:KW w P b κ)(hq:∀x,P x->Q x):KW w Q b κ:=by obtain⟨D,h1,h2⟩:=h;exact⟨D,h1.wide hq,h2⟩
def KW.fr{S}(h:KW w P b κ)(hf:Fr S w w')(hb:¬S b)(hS:∀x,P x->x<w.heap.size->¬S x):KW w' P b κ:=by obtain⟨D,h1,h2⟩:=h;exact⟨D,h1.fr hf hb hS,h2⟩
def KW.lt(h:KW w P b κ):b<w.heap.size:=by obtain⟨D,h1,h2⟩:=h;exact h1.lt
def yx{D}(h:∀n,(D n=none->κ n=.var n)/\(D n≠none->D n=some (bN<|κ n)))n:ED D n=bN (κ n):=by
 rw[ED]
 cases e:D n with
 |none=>rw[(h n).1 e,LO];rfl|some t=>grind
structure DN(κ:Nat->Ty):Prop where
 wh:∀n,Whole<|κ n
 len:∀n,(vars []<|κ n).length<=1000000
theorem DN.sz(h:DN κ)n:size (bN<|κ n)<=1000001:=by have:=jJ (h.wh n) (h.len n) aA;omega
structure TW w P S x v:Prop where
 ex:∃x',dA w P x' v/\dl x' x/\size x'<=S
 wh:Whole x
theorem TW.move{S}{x}{v}(h:TW w P S x v)(hs:w.heap.size<=w'.heap.size)(hb:∀b,P b->b<w.heap.size->w'.heap[b]? =w.heap[b]?)(hq:∀b,P b->b<w.heap.size->Q b):TW w' Q S x v:=by
 obtain⟨⟨x',h1,h2,h3⟩,h4⟩:=h;exact⟨⟨x',h1.move hs hb hq,h2,h3⟩,h4⟩
def TW.af(h:TW w P S x v)(hb:Bq w w'):TW w' P S x v:=h.move hb.size (λb _ hz=>hb.block b hz)<|λ_ p _=>p
def TW.wide(h:TW w P S x v)(hq:∀x,P x->Q x):TW w Q S x v:=h.move (br _) (λ_ _ _=>rfl)<|λb p _=>hq b p
def TW.fr{F}(h:TW w P S x v)(hf:Fr F w w')(hS:∀b,P b->b<w.heap.size->¬F b):TW w' P S x v:=h.move hf.size (λb p z=>hf.block b z<|hS b p z)<|λ_ p _=>p
def TW.iface{S}{x}{v}(h:TW w P S x v):∃a y,v=.iface a y:=by obtain⟨⟨x',h1,_⟩,_⟩:=h;exact h1.iface
def TW.le{S'}(h:TW w P S x v)(hs:S<=S'):TW w P S' x v:=by obtain⟨⟨x',h1,h2,h3⟩,h4⟩:=h;exact⟨⟨x',h1,h2,jd h3 hs⟩,h4⟩
def TW.of(h:dA w P x v)(hw:Whole x)(hs:size x<=S):TW w P S x v:=⟨⟨x,h,dl.refl x,hs⟩,hw⟩
def Fy(h:KW w P b κ)(hb:P b)(hf:DN κ)(hS:S<=900000)(hx:TW w Q S x v):Cq 270 #[Mv b,v] w (Ue (bN<|sub κ x) P w):=by
 obtain⟨D,h1,h2⟩:=h;obtain⟨⟨x',t1,t2,t3⟩,t4⟩:=hx;have e:bN (sub (ED D) x')=bN (sub κ x):=by
  refine jm (t2.sub λn _=>?_)<|dn x t4 λn _=>hf.wh n;rw[yx h2 n];exact jl _<|hf.wh n
 rw[<-e];refine Rj h1 hb t1 ae ?_;have q:=ir (ED D) 1000001 x' (λn _=>by rw[yx h2 n];exact hf.sz n) aA;have:1000001*size x'<=1000001*900000:=jf _ ae;omega
def TW.aeq(hx:TW w P S x v)(hf:DN κ)(hS:S<=900000):size (bN<|sub κ x)<=1000000000000:=by
 obtain⟨⟨x',t1,t2,t3⟩,t4⟩:=hx;have hw:=dn x t4 λn _=>hf.wh n;have e:=jm (t2.sub λn _=>jl _<|hf.wh n) hw;have q:=ir (λn=>bN<|κ n) 1000001 x' (λn _=>hf.sz n) aA;have q2:1000001*size x'<=1000001*900000:=jf _ ae;have hl:(vars []<|sub κ x).length<=1000001*900000:=by
  have h1:=uo<|sub κ x;rw[<-e,uo]at h1;rw[<-h1,dH];have h2:=eR (occs<|sub (λn=>bN<|κ n) x') [];have h3:=eS<|sub (λn=>bN<|κ n) x';simp only[eF]at h2;omega
 have:=jJ hw hl aA;omega
abbrev guW(f:Fl)(vl vr:Value):Value:=.iface 404<|.agg #[Nv f.kind,Nv f.aD,Nv f.t9,vl,vr]
structure vM w P(x:In.Ft)(vl vr:Value):Prop where
 tK:x.f.kind=7->vl=.nilIface/\vr=.nilIface
 apart:x.f.kind=6->eN w P x.l vl/\eN w P x.r vr
 k:x.f.kind=6\/x.f.kind=7
def afv(P:Nat->Prop)κ u x y f t w(e:Ending)w':=Bq w w'/\∃o,In.UN x y f t ⟨κ,u⟩ o/\match o with
 |.ok (_,s)=>∃b,e=.returned (Mv b)/\w.heap.size<=b/\KW w' (λi=>P i\/w.heap.size<=i) b s.k/\∀n,Whole (s.k n)|.error z=>∃vl vr,e=.panicked [{v:=guW z.f vl vr,recovered:=false}]/\vM w' (λi=>P i\/w.heap.size<=i) z vl vr
def mC f t:Cq 272 #[.agg #[Iv f,Iv t]] w λe w'=>e=.returned (.agg #[Iv 7,Iv f,Iv t,.nilIface,.nilIface])/\Bq w w':=by
 go_enter func272,ntmps272
 go_wp2
 exact bodyPost_ret (v:=Av #[Iv 7,Iv f,Iv t,Zv,Zv]) (by simp[results,Tryz.results272,go_sem]) rfl ⟨rfl,(bw _).alloc ah _⟩
def Et f t ta tb xa xb:Cq 303 #[.agg #[Iv f,Iv t],.iface ta xa,.iface tb xb] w λe w'=>e=.returned (.agg #[Iv 6,Iv f,Iv t,.iface ta xa,.iface tb xb])/\Bq w w':=by
 go_enter func303,ntmps303
 go_wp2
 exact bodyPost_ret (v:=Av #[Iv 6,Iv f,Iv t,Fv ta xa,Fv tb xb]) (by simp[results,Tryz.results303,go_sem]) rfl ⟨rfl,(bw _).alloc ah _⟩
def Fz t(hw:Whole t):(48<sz (bN t)↔48<size t)/\(size t<=48->bN t=t):=by
 refine⟨(jl t hw).af9 hw,λh=>AG h hw⟩
def KT(h:KW w P b κ)(hb:P b)(hf:DN κ)(hS:S<=900000)(hx:TW w P S x v)(hy:TW w P S y u)f t us:
 Cq 280 #[Mv b,v,u,.agg #[Nv f,Nv t]] w (afv P κ us x y f t w):=by
 have⟨k0,B0⟩:=Hu w #[Nv f,Nv t] 69;have hxw:=dn x hx.wh λn _=>hf.wh n;have hyw:=dn y hy.wh λn _=>hf.wh n;have H1:=Fy (h.af k0) hb hf hS<|hx.af k0;have HH:=ai h;have K0:=ai k0;obtain⟨ta,xa,rfl⟩:=hx.iface;obtain⟨tb,xb,rfl⟩:=hy.iface;clear h k0;go_enter func280,ntmps280;go_wp2_with fail;refine H1.mono ?_;rintro e w1⟨u1,rfl,x_,k1⟩;have KK1:=K0.trans<|k1.mono K0.size;have H2:=Fy (HH.af KK1) hb hf hS<|hy.af KK1;have U1:=x_.wide (Q:=λi=>P i\/w.heap.size<=i) λi p=>by obtain p|p:=p;exact Or.inl p;exact Or.inr<|Nat.le_trans K0.size p
 have B1:=B0.below k1;obtain⟨ND,NE,rfl⟩:=x_.iface;clear x_ k1 H1 B0;go_wp2_with fail;refine H2.mono ?_;rintro e w2⟨u2,rfl,Ir,k2⟩;have Uw:=KK1.trans<|k2.mono KK1.size;have U1':=U1.af k2;have U2':=Ir.wide (Q:=λi=>P i\/w.heap.size<=i) λi p=>by obtain p|p:=p;exact jc p;exact ja<|jd KK1.size p
 have B2:=B1.below k2;obtain⟨tb1,xb1,rfl⟩:=Ir.iface;have S1:=pk _ w2 _ _ U1'<|hx.aeq hf hS;have S2:=λ(W:World)(hk:Bq w2 W)=>pk _ W _ _ (U2'.af hk)<|hy.aeq hf hS;obtain⟨n1,N1⟩:∃n,n=sz (bN<|sub κ x):=⟨_,rfl⟩;obtain⟨n2,N2⟩:∃n,n=sz (bN<|sub κ y):=⟨_,rfl⟩;rw[<-N1]at S1;rw[<-N2]at S2;clear Ir k2 H2 B1 U1 KK1;go_wp2_with fail;refine S1.mono ?_;rintro e w3⟨rfl,K3⟩;have S2:=S2 w3 K3;have B3:=B2.below K3;clear S1 B2;go_wp2_with fail;refine S2.mono ?_;rintro e w4⟨rfl,k4⟩;have B4:=ai<|B3.below k4;have k34:=K3.trans<|k4.mono K3.size;have KK4:=Uw.trans<|k34.mono Uw.size;have U3:=U1'.af k34;have U4:=U2'.af k34;clear k4 S2 B3 k34 K3 U1' U2' Uw;have⟨c4,f4,z4⟩:=uh B4;have e1:=Fz (sub κ x) hxw;have e2:=Fz (sub κ y) hyw;rw[<-N1]at e1;rw[<-N2]at e2;have E1:=ai e1;have E2:=ai e2;clear e1 e2;have KX:=hf.wh;by_cases aZ:n1<n2
 all_goals(
  by_cases aaI:48<n1\/48<n2
  .first|(have hm:(48:Int)<(n1:Int):=by omega)|(have hm:(48:Int)<(n2:Int):=by omega)
   have HT:=mC (w:=w4) (f:Int) (t:Int);go_wp2_with fail;refine HT.mono ?_;rintro e w5⟨rfl,k5⟩;have K5:=ai k5;clear k5 HT;go_wp2_with fail;have hkk:=KK4.trans<|K5.mono KK4.size;refine⟨rfl,hkk,.error<|In.tK f t,jc ⟨?_,rfl⟩,Zv,Zv,rfl,⟨λ_=>⟨rfl,rfl⟩,(λh=>Dq),ja rfl⟩⟩;obtain q|q:=aaI
   .exact jc (E1.1.1 q)
   .exact ja (E2.1.1 q)
  .have hm1:¬(48:Int)<(n1:Int):=ae;have hm2:¬(48:Int)<(n2:Int):=ae;have s1:size (sub κ x)<=48:=by have:=E1.1;omega
   have s2:size (sub κ y)<=48:=by have:=E2.1;omega
   have V1:=U3;have V2:=U4;rw[(uh E1).2 s1]at V1;rw[(uh E2).2 s2]at V2;have HU:=acR V1 V2 s1 s2 hxw hyw;go_wp2_with fail;refine HU.mono ?_;rintro e w5⟨k5,hp⟩;have B5:=ai<|B4.below k5;have⟨c5,f5,z5⟩:=uh B5;have K5:=ai k5;have KK5:=ai<|KK4.trans<|k5.mono KK4.size;have EB:=jo s1 s2;have z45:=k5.size;have z04:=KK4.size;clear c4 f4 z4 HU s1 s2 k5;obtain⟨wb,θ,rfl,hwb,hM,hWh,hLn,hKW⟩|⟨rfl,HN⟩:=hp
   .have hko:KW w5 (λi=>P i\/w.heap.size<=i) b κ:=(HH.af KK5).wide λi p=>jc p;have hkn:=hKW.wide λi p=>by
     obtain p|p:=p
     .exact p
     .exact ja ae
    obtain⟨D1,d1,d2⟩:=hko;obtain⟨D2,e1,e2⟩:=hkn;have kX:∀n t,D1 n=some t->size t<=1000000000000/\size (sub (ED D2) t)<=1000000000000:=λn t ht=>by
     have h1:=(d2 n).2 (by rw[ht];simp);rw[ht]at h1;injection h1 with h1;subst h1;have h2:=hf.sz n;have h3:=ir (ED D2) 1001 (bN<|κ n) (λm _=>by rw[yx e2 m];have:=jJ (hWh m) (hLn m) aA;omega) aA;have h4:1001*size (bN<|κ n)<=1001*1000001:=jf _ h2;exact⟨ae,ae⟩
    have HT:=afr d1 e1 (ja ae) kX;have HD:=jo d2 e2;have HMW:=jo hM hWh;clear d1 e1 d2 e2 kX hKW hLn hM hWh;go_wp2_with fail;refine HT.mono ?_;rintro e w6⟨b3,rfl,yc,S3,K6⟩;clear HT
    go_wp2
    go_ret;have hkk:=KK5.trans<|K6.mono KK5.size;obtain⟨d2,e2⟩:=HD;obtain⟨hM,hWh⟩:=HMW;have hwt:∀n,Whole<|sub θ<|κ n:=λn=>dn _ (KX n) λm _=>hWh m;refine⟨hkk,.ok ((),⟨λn=>sub θ<|κ n,us⟩),ja ⟨EB.1,EB.2,jc ⟨θ,hM,rfl⟩⟩,b3,rfl,ae,⟨A_ D1 D2,S3.wide λi p=>?_,λn=>⟨λq=>?_,λq=>?_⟩⟩,hwt⟩
    .obtain p|p:=p
     .exact p
     .exact ja ae
    .rw[A_]at q
     cases hd:D1 n with
     |none=>
      rw[hd]at q;show sub θ (κ n)=_;rw[(d2 n).1 hd,sub,(e2 n).1 q]
     |some t=>rw[hd]at q;cases q
    .rw[A_]
     cases hd:D1 n with
     |none=>
      show D2 n=some (bN<|sub θ<|κ n);rw[(d2 n).1 hd,sub];refine(e2 n).2 λr=>q ?_;rw[A_];rw[hd];exact r
     |some t=>
      have h1:=(d2 n).2 (by rw[hd];simp);rw[hd]at h1;injection h1 with h1;subst h1;show some (bN<|sub (ED D2)<|bN<|κ n)=some (bN<|sub θ<|κ n);congr 1;refine jm ((jl _<|KX n).sub λm _=>?_)<|hwt n;rw[yx e2 m];exact jl _<|hWh m
   .have HA:=Et (w:=w5) (f:Int) (t:Int) ND tb1 NE xb1;go_wp2_with fail;refine HA.mono ?_;rintro e w6⟨rfl,K6⟩;clear HA;go_wp2_with fail;have k46:=K5.trans<|K6.mono K5.size;have hkk:=KK5.trans<|K6.mono KK5.size;refine⟨rfl,hkk,.error ⟨⟨6,f,t⟩,sub κ x,sub κ y⟩,ja ⟨EB.1,EB.2,ja ⟨HN,rfl⟩⟩,Fv ND NE,Fv tb1 xb1,rfl,⟨(λh=>Dq),λ_=>⟨?_,?_⟩,jc rfl⟩⟩
    .exact(V1.af k46).v hxw
    .exact(V2.af k46).v hyw)
def IvC nd:=∀(w:World)(Q:Nat->Prop)(v:Value),PE w Q nd v->Cq 273 #[v] w λe w'=>e=.returned (.bool<|In.MQ nd)/\Bq w w'
def MU(hk:In.Qk nd=9):In.MQ nd=true:=by
 obtain⟨k,s,n,L,f,t,a⟩:=nd;obtain rfl:k=9:=hk;simp[In.MQ]
def tP nd(hk:In.Qk nd=9):IvC nd:=by
 intro w Q v h
 cases h with
 |fn=>
  go_enter func273,ntmps273
  go_wp2
  go_ret;exact⟨by simp[In.MQ],Below.refl _ _⟩
 |lt c _ _ _ _ _ _ _ _ _ _ hc=>simp only[In.Qk]at hk;omega|_=>cases hk
def wPl_Low a0 a1 a2 N w:(method (N+1) 305 (.agg #[a0,a1,a2]) "Place").run Tryz.prog w=.ok (263,.agg #[a0,a1]) w:=qkr
def wPl_Up a0 a1 a2 N w:(method (N+1) 325 (.agg #[a0,a1,a2]) "Place").run Tryz.prog w=.ok (263,.agg #[a0,a1]) w:=qkr
def wPl_Number a0 a1 a2 N w:(method (N+1) 206 (.agg #[a0,a1,a2]) "Place").run Tryz.prog w=.ok (263,.agg #[a0,a1]) w:=qkr
def wPl_Bool a0 a1 a2 N w:(method (N+1) 201 (.agg #[a0,a1,a2]) "Place").run Tryz.prog w=.ok (263,.agg #[a0,a1]) w:=qkr
def wPl_Unit a0 a1 N w:(method (N+1) 204 (.agg #[a0,a1]) "Place").run Tryz.prog w=.ok (263,.agg #[a0,a1]) w:=qkr
def wPl_Pair a0 a1 a2 a3 N w:(method (N+1) 187 (.agg #[a0,a1,a2,a3]) "Place").run Tryz.prog w=.ok (263,.agg #[a0,a1]) w:=qkr
def wPl_Typed a0 a1 a2 a3 N w:(method (N+1) 189 (.agg #[a0,a1,a2,a3]) "Place").run Tryz.prog w=.ok (263,.agg #[a0,a1]) w:=qkr
def wPl_Fun a0 a1 a2 a3 a4 a5 N w:(method (N+1) 191 (.agg #[a0,a1,a2,a3,a4,a5]) "Place").run Tryz.prog w=.ok (263,.agg #[a0,a1]) w:=qkr
def wPl_Let a0 a1 a2 a3 a4 a5 a6 a7 N w:(method (N+1) 193 (.agg #[a0,a1,a2,a3,a4,a5,a6,a7]) "Place").run Tryz.prog w=.ok (263,.agg #[a0,a1]) w:=qkr
def wPl_If a0 a1 a2 a3 a4 N w:(method (N+1) 195 (.agg #[a0,a1,a2,a3,a4]) "Place").run Tryz.prog w=.ok (263,.agg #[a0,a1]) w:=qkr
def wPl_Match a0 a1 a2 a3 N w:(method (N+1) 82 (.agg #[a0,a1,a2,a3]) "Place").run Tryz.prog w=.ok (263,.agg #[a0,a1]) w:=qkr
def wPl_Binary a0 a1 a2 a3 a4 N w:(method (N+1) 197 (.agg #[a0,a1,a2,a3,a4]) "Place").run Tryz.prog w=.ok (263,.agg #[a0,a1]) w:=qkr
def wPl_Call a0 a1 a2 a3 N w:(method (N+1) 199 (.agg #[a0,a1,a2,a3]) "Place").run Tryz.prog w=.ok (263,.agg #[a0,a1]) w:=qkr
def wPl_Any a0 a1 N w:(method (N+1) 217 (.agg #[a0,a1]) "Place").run Tryz.prog w=.ok (263,.agg #[a0,a1]) w:=qkr
def wPl_PatternPair a0 a1 a2 a3 N w:(method (N+1) 208 (.agg #[a0,a1,a2,a3]) "Place").run Tryz.prog w=.ok (263,.agg #[a0,a1]) w:=qkr
def wPl_Made a0 a1 a2 a3 a4 a5 N w:(method (N+1) 185 (.agg #[a0,a1,a2,a3,a4,a5]) "Place").run Tryz.prog w=.ok (263,.agg #[a0,a1]) w:=qkr
abbrev PlF tx x(f t:Nat):=∀(N:Nat)(w:World),(method (N+1) tx x "Place").run Tryz.prog w=.ok (263,.agg #[.int .i64 (f:Int),.int .i64 (t:Int)]) w
def PE.place{tx:TypeId}{x:Value}(h:PE w Q nd (.iface tx x)):PlF tx x (In.pG nd) (In.Mk nd):=by
 intro N w'
 cases h with
 |low=>exact wPl_Low _ _ _ _ _|up=>exact wPl_Up _ _ _ _ _|num=>exact wPl_Number _ _ _ _ _|word=>exact wPl_Bool _ _ _ _ _|unit=>exact wPl_Unit _ _ _ _|pr=>exact wPl_Pair _ _ _ _ _ _|of=>exact wPl_Typed _ _ _ _ _ _|op=>exact wPl_Binary _ _ _ _ _ _ _|call=>exact wPl_Call _ _ _ _ _ _|fn=>exact wPl_Fun _ _ _ _ _ _ _ _|lt=>exact wPl_Let _ _ _ _ _ _ _ _ _ _|ite=>exact wPl_If _ _ _ _ _ _ _|mt=>exact wPl_Match _ _ _ _ _ _
def PP.place{tx:TypeId}{x:Value}(h:PP w Q nd (.iface tx x)):PlF tx x (In.pG nd) (In.Mk nd):=by
 intro N w'
 cases h with
 |any=>exact wPl_Any _ _ _ _|low=>exact wPl_Low _ _ _ _ _|num=>exact wPl_Number _ _ _ _ _|word=>exact wPl_Bool _ _ _ _ _|unit=>exact wPl_Unit _ _ _ _|pr=>exact wPl_PatternPair _ _ _ _ _ _|up=>exact wPl_Made _ _ _ _ _ _ _ _
def my f t:Cq 263 #[.agg #[Iv f,Iv t]] w λe w'=>e=.returned (.agg #[Iv f,Iv t])/\Bq w w':=by
 go_enter func263,ntmps263
 go_wp2
 exact bodyPost_ret (v:=Av #[Iv f,Iv t]) (by simp[results,Tryz.results263,go_sem]) rfl ⟨rfl,(bw _).alloc ah _⟩
end
section
open Un
def Yl{st:BA}{f t:Nat}{x:Nd}{A:List (Nd×Nd)}(h:PE w Q (.mk 13 st n (x::bh A) f t a) v):∃(vx:Value)(g sc:Nat)(vp ve:Nat->Value),v=.iface 82 (.agg #[Nv f,Nv t,vx,.slice (some ⟨g,0,none⟩) A.length sc])/\Q g/\g<w.heap.size/\(∀i,i<A.length->(∃u v,w.cell? ⟨g,i*4,none⟩=some (Iv u)/\w.cell? ⟨g,i*4+1,none⟩=some (Iv v))/\w.cell? ⟨g,i*4+2,none⟩=some (vp i)/\w.cell? ⟨g,i*4+3,none⟩=some (ve i))/\PE w Q x vx/\(∀i(h:i<A.length),PP w Q A[i].1<|vp i)/\∀i(h:i<A.length),PE w Q A[i].2<|ve i:=by
 generalize hL:x::bh A=L at h
 cases h with
 |mt _ _ x' A' _ _ _ vx g sc vp ve _ hg hz hc hx hp he=>
  injection hL with h1 h2;subst h1;obtain rfl:=og h2;exact⟨vx,g,sc,vp,ve,rfl,hg,hz,hc,hx,hp,he⟩
 |lt _ _ _ _ _ _ _ _ _ _ _ hk=>omega
end
section
open Go.ChangeMaps
abbrev Mz:Array Value:=#[Iv 0,Iv 0,Iv 0,.nilIface,.nilIface]
def Bx.Sz(h:Bx w b C)(hC:C.size=5)v0 v1 v2 v3 v4:Bx (((((w.setCell ⟨b,0,none⟩ v0).setCell ⟨b,1,none⟩ v1).setCell ⟨b,2,none⟩ v2).setCell ⟨b,3,none⟩ v3).setCell ⟨b,4,none⟩ v4) b #[v0,v1,v2,v3,v4]:=by
 obtain⟨a0,a1,a2,a3,a4,rfl⟩:∃a0 a1 a2 a3 a4,C=#[a0,a1,a2,a3,a4]:=by
  obtain⟨l⟩:=C
  match l,hC with
  |[a,b,c,d,e],_=>grind
 exact((((h.aP 0 v0 #[v0,a1,a2,a3,a4] rfl ah).aP 1 v1 #[v0,v1,a2,a3,a4] rfl ah).aP 2 v2 #[v0,v1,v2,a3,a4] rfl ah).aP 3 v3 #[v0,v1,v2,v3,a4] rfl ah).aP 4 v4 #[v0,v1,v2,v3,v4] rfl ah
def aer b:
 CallsD jk 268 #[Pv b] .returning w λe u' w'=>
  e=.returned (.tuple #[])/\u'=.returning/\w'=w:=by
 refine callsD_of_wpS Tryz.func268 rfl λeZ cs hu=>?_;apply wpS_seq;apply wpS_region;simp[wpOpsS,go_sem,recoverD,hu,Tryz.ntmps268,Exit.thenS];rw[show(#[Pv b]++((Array.replicate 16 undef).setIfInBounds 3 Zv).setIfInBounds 0 Zv)=#[Pv b,Zv,undef,undef,Zv,undef,undef,undef,undef,undef,undef,undef,undef,undef,undef,undef,undef]from rfl];have Ti:eZ::cs={eZ with mode:=.returning}::cs:=(by cases eZ;simp at hu;subst hu;rfl);refine wpS_of_wp ?_
 go_wp2
 exact⟨rfl,_,Ti,.tuple #[],by simp[results,Tryz.results268,go_sem],rfl,rfl,rfl⟩
end
section
open Go.ChangeMaps Un
def byS:Option (BA×List Nat)->BA
 |none=>⟨#[]⟩|some (c,_)=>pn c
abbrev nA n:=Pv n
def nP:Option Nat->Value
 |none=>.pointer none|some m=>nA m
def slN:Option (BA×List Nat)->Nat
 |none=>0|some (_,l)=>l.length
def fW(w:World)(ds:List Nat)(sa:Option Addr):Option (BA×List Nat)->Prop
 |none=>True|some (c,l)=>CN c/\l.length<=1001/\(∀m∈l,m∈ds)/\(l=[]\/∃g,sa=some ⟨g,0,none⟩/\¬g∈ds/\g<w.heap.size/\∀i(h:i<l.length),w.cell? ⟨g,i,none⟩=some (nA l[i]))
def ai3(w:World)(ds:List Nat)(str:tO)(nx:Nx)(vr:Nat->Nat)(ly:Nat->Option Addr×Nat)(n:Nat):Prop:=
 w.heap[n]? =some (.cells #[nP<|nx n,Iv 0,Nv<|vr n,.string<|byS<|str n,.slice (ly n).1 (slN<|str n) (ly n).2] 486 (0,0))/\fW w ds (ly n).1 (str n)/\∀m,nx n=some m->m∈ds
structure GN(w:World)(ds:List Nat)(str:tO)(nx:Nx)(vr:Nat->Nat)(ly:Nat->Option Addr×Nat):Prop where
 nd:∀n,n∈ds->ai3 w ds str nx vr ly n
 out:∀n,¬n∈ds->nx n=none/\str n=none
 hd:∀n,n∈ds->∃h,Hd nx n h
inductive IE(nx:Nx):Nat->Nat->Nat->Prop where
 |here{n:Nat}:nx n=none->IE nx n n 0
 |step{n m h k:Nat}:nx n=some m->IE nx m h k->IE nx n h (k+1)
def Hd.len{nx}(k:Hd nx n h):∃j,IE nx n h j:=by
 induction k with
 |here e=>exact⟨0,.here e⟩|step e _ ih=>obtain⟨j,hj⟩:=ih;exact⟨j+1,.step e hj⟩
def IE.one{nx}{n h j h' j':Nat}(k:IE nx n h j)(k':IE nx n h' j'):j=j':=by
 induction k generalizing j' with
 |here e=>cases k' with
  |here=>rfl|step e' _=>grind
 |step e _ ih=>cases k' with
  |here e'=>grind|step e' k'=>grind
def IE.dZ{nx}{x h j}(k:IE nx x h j){n hn jn}(kn:IE nx n hn jn)(aZ:j<jn)v:IE (dZ nx n v) x h j:=by
 induction k with
 | @here x e=>
   have:x≠n:=λq=>by subst q;have:=(IE.here e).one kn;omega
   exact .here (by simpa[ji,this]using e)
 | @step x m h k e kk ih=>
   have:x≠n:=λq=>by subst q;have:=(IE.step e kk).one kn;omega
   exact .step (m:=m) (by simpa[ji,this]using e)<|ih ae
structure iF str nx a_:Prop where
 m7:∀V,mr str a_ V↔mr str nx V
 mA:∀P,vH str nx P->vH str a_ P
 eqs:∀P E,jj a_ P E->jj nx P E
 bO:∀x h,Hd nx x h->Hd a_ x h
 Bt:∀n,a_ n=none↔nx n=none
def iF.refl str nx:iF str nx nx:=⟨λ_=>Iff.rfl,λ_ h=>h,λ_ _ h=>h,λ_ _ h=>h,λ_=>Iff.rfl⟩
def iF.trans{str}{a b c}(h:iF str a b)(k:iF str b c):iF str a c:=
 ⟨λV=>(k.m7 V).trans<|h.m7 V,λP q=>k.mA P<|h.mA P q,λP E q=>h.eqs P E<|k.eqs P E q,λx y q=>k.bO x y<|h.bO x y q,λn=>(k.Bt n).trans<|h.Bt n⟩
def iF.short str{nx}{n m k}(h1:nx n=some m)(h2:nx m=some k)(cJ:n≠m):iF str nx (ji nx n<|some k):=
 ⟨λV=>mr.short h1 h2 cJ,λP h=>h.short h1 h2 cJ,λP E q=>q.Jv h1 h2 cJ,λx h j=>j.short h1 h2,λx=>by
  by_cases e:x=n
  .subst e;simp[ji,h1]
  .simp[ji,e]⟩
def hc(nx:Nx)(ds:List Nat):Nat:=(ds.filter λn=>(nx n).isNone).length
def YM{nx}(h:iF str nx a_)ds:hc a_ ds=hc nx ds:=by
 rw[hc];congr 1;apply List.filter_congr;intro x _;have:=h.Bt x
 cases e:a_ x<;>cases e':nx x<;>simp[e,e']at this⊢
def Nu{nx}(ha:nx a=none):∀{ds:List Nat},a∈ds->hc (ji nx a<|some b) ds<hc nx ds:=by
 have hle:∀ds:List Nat,hc (ji nx a<|some b) ds<=hc nx ds:=by
  intro ds
  induction ds with
  |nil=>exact br _|cons x l ih=>
   unfold hc at ih⊢;by_cases e:x=a
   .grind
   .have e1:ji nx a (some b) x=nx x:=by simp[ji,e]
    by_cases e2:(nx x).isNone=true
    .grind
    .grind
 intro ds h
 induction ds with
 |nil=>simp at h|cons x l ih=>
  by_cases e:x=a
  .subst e;have h1:hc (ji nx x<|some b) (x::l)=hc (ji nx x<|some b) l:=by
    unfold hc;rw[List.filter_cons_of_neg QK]
   have h2:hc nx (x::l)=hc nx l+1:=by
    unfold hc;rw[List.filter_cons_of_pos<|by simp[ha]];simp
   have:=hle l;omega
  .have:=ih<|(List.mem_cons.1 h).resolve_left<|λq=>e q.symm;have e1:ji nx a (some b) x=nx x:=by simp[ji,e]
   unfold hc at this⊢;by_cases e2:(nx x).isNone=true
   .grind
   .grind
structure JR str nx a_ x y ok:Prop where
 eqs:∀P E,jj a_ P E->jj nx P E
 yes:ok=true->(∀V,mr str a_ V↔mr str nx V/\V x=V y)/\(∀P,vH str nx P->vH str a_ P)/\(∀P E,jj a_ P E->E x y)
 no:ok=false->∀V,mr str nx V->V x≠V y
def JR.nK{nx pR}{x y}{ok}(h:JR str pR a_ a b ok)(e:iF str nx pR)(hx:Hd nx x a)(hy:Hd nx y b):JR str nx a_ x y ok:=by
 refine⟨λP E q=>e.eqs P E<|h.eqs P E q,λhk=>?_,λhk V hV=>?_⟩
 .have⟨h1,h2,h3⟩:=h.yes hk;refine⟨λV=>?_,λP q=>h2 P<|e.mA P q,λP E q=>?_⟩
  .rw[h1 V,e.m7 V];constructor
   .rintro⟨s,t⟩;exact⟨s,by rw[hx.m7 s,hy.m7 s];exact t⟩
   .rintro⟨s,t⟩;exact⟨s,by rw[<-hx.m7 s,<-hy.m7 s];exact t⟩
  .have q1:=e.eqs P E<|h.eqs P E q;exact q1.trans _ _ _ (hx.eq q1)<|q1.trans _ _ _ (h3 P E q)<|q1.symm _ _<|hy.eq q1
 .have:=h.no hk V<|(e.m7 V).2 hV;rw[hx.m7 hV,hy.m7 hV];exact this
def JR.same str nx a:JR str nx nx a a true:=⟨λ_ _ q=>q,λ_=>⟨λV=>ah,λ_ q=>q,λP E q=>q.refl a⟩,λh=>Dq⟩
def JR.amh{nx}(ha:nx a=none)(hs:str a=none):JR str nx (ji nx a<|some b) a b true:=
 ⟨λP E q=>(q.iS ha).1,λ_=>⟨λV=>mr.join ha,λP q=>q.var ha hs,λP E q=>(q.iS ha).2⟩,λh=>Dq⟩
def JR.amj{nx}(hb:nx b=none)(hs:str b=none):JR str nx (ji nx b<|some a) a b true:=
 ⟨λP E q=>(q.iS hb).1,λ_=>⟨λV=>(mr.join hb).trans (by constructor<;>rintro⟨s,t⟩<;>exact⟨s,t.symm⟩),λP q=>q.var hb hs,λP E q=>q.symm _ _ (q.iS hb).2⟩,λh=>Dq⟩
def JR.afQ{nx}(ha:str a=some (c,l))(hb:str b=some (c',l'))(h:c≠c'\/l.length≠l'.length):JR str nx nx a b false:=by
 refine⟨λ_ _ q=>q,λh=> Dq,λ_ V s e=>?_⟩;rw[s.made a c l ha,s.made b c' l' hb]at e;injection e with e1 e2;obtain h|h:=h
 .exact h e1
 .exact h (by have:=congrArg List.length e2;simpa using this)
structure JL str nxu gK(l l':List Nat)j:Prop where
 eqs:∀P E,jj gK P E->jj nxu P E
 m7:∀V,mr str gK V↔mr str nxu V/\∀i(h:i<l.length)(h':i<l'.length),i<j->V l[i]=V l'[i]
 mA:∀P,vH str nxu P->vH str gK P
 prs:∀i(h:i<l.length)(h':i<l'.length),i<j->∀P E,jj gK P E->E l[i] l'[i]
def JL.start str nx l l':JL str nx nx l l' 0:=by
 refine⟨λ_ _ q=>q,λV=>⟨λs=>⟨s,?_⟩,λs=>s.1⟩,λ_ q=>q,?_⟩
 .omega
 .grind
def JL.step{str}{nxu gK a_}{l l'}{j}(h:JL str nxu gK l l' j)(hj:j<l.length)(hj':j<l'.length)(k:JR str gK a_ l[j] l'[j] true):JL str nxu a_ l l' (j+1):=by
 have⟨k1,k2,k3⟩:=k.yes rfl;refine⟨λP E q=>h.eqs P E<|k.eqs P E q,λV=>?_,λP q=>k2 P<|h.mA P q,λi hi tH hij P E q=>?_⟩
 .rw[k1 V,h.m7 V];constructor
  .rintro⟨⟨s,t⟩,u⟩;refine⟨s,λi hi tH hij=>?_⟩;by_cases e:i=j
   .subst e;exact u
   .grind
  .grind
 .by_cases e:i=j
  .grind
  .exact h.prs i hi tH ae P E (k.eqs P E q)
def mZ{V:Nat->Ty}(h:l.map V=l'.map V)i(hi:i<l.length)(tH:i<l'.length):V l[i]=V l'[i]:=by
 have:=congrArg (λx=>x[i]?) h;simpa[hi,tH]using this
def JL.done{nx}(ha:nx a=none)(hs:str a=some (c,l))(iO:str b=some (c,l'))(hl:l.length=l'.length)(h:JL str (ji nx a<|some b) gK l l' l.length):JR str nx gK a b true:=by
 refine⟨λP E q=>((h.eqs P E q).iS ha).1,λ_=>⟨λV=>?_,λP q=>?_,λP E q=>((h.eqs P E q).iS ha).2⟩,λh=>Dq⟩
 .rw[h.m7 V,mr.join ha];constructor
  .grind
  .rintro⟨s,t⟩;refine⟨⟨s,t⟩,λi hi tH _=>?_⟩;rw[s.made a c l hs,s.made b c l' iO]at t;injection t with _ t;exact mZ t i hi tH
 .have h1:=h.mA _<|q.aM ha hs iO hl;refine h1.amS λE hE m n hm=>?_;have⟨i,hi,e⟩:=List.getElem_of_mem hm;have hi1:i<l.length:=qAk;have BL:i<l'.length:=qAk;rw[List.getElem_zip]at e;injection e with e1 e2;subst e1;subst e2;exact h.prs i hi1 BL hi1 P E hE
def JL.fail{nx}{j}(ha:nx a=none)(hs:str a=some (c,l))(iO:str b=some (c,l'))(h:JL str (ji nx a<|some b) gK l l' j)(hj:j<l.length)(hj':j<l'.length)(k:JR str gK a_ l[j] l'[j] false):JR str nx a_ a b false:=by
 refine⟨λP E q=>((h.eqs P E<|k.eqs P E q).iS ha).1,λh=> Dq,λ_ V s e=>?_⟩;have t:=e;rw[s.made a c l hs,s.made b c l' iO]at t;injection t with _ t;have s1:=(h.m7 V).2 ⟨(mr.join ha).2 ⟨s,e⟩,λi hi tH _=>mZ t i hi tH⟩;exact k.no rfl V s1 (mZ t j hj hj')
def eP(h:CN c):(pn c).toList≠[]:=by
 obtain rfl|rfl|h:=h
 .rw[kE,show(ByteArray.mk #[45,62]).toList=[45,62]from toList_mk [45,62]];simp
 .rw[kF,show(ByteArray.mk #[44]).toList=[44]from toList_mk [44]];simp
 .rw[fG h];obtain⟨x,r,e,_⟩:=h;rw[e];simp
def agZ(h:CN c)(h':CN c')(e:(pn c).toList=(pn c').toList):c=c':=by
 have f1:=toList_mk [45,62];have f2:=toList_mk [44];obtain rfl|rfl|h:=h<;>obtain rfl|rfl|h':=h'
 .rfl
 .rw[kE,kF,f1,f2]at e;simp at e
 .rw[kE,fG h',f1]at e;exact absurd e.symm<|cz h' 45 [62] aA
 .rw[kE,kF,f1,f2]at e;simp at e
 .rfl
 .rw[kF,fG h',f2]at e;exact absurd e.symm<|cz h' 44 [] aA
 .rw[kE,fG h,f1]at e;exact absurd e<|cz h 45 [62] aA
 .rw[kF,fG h,f2]at e;exact absurd e<|cz h 44 [] aA
 .rw[fG h,fG h']at e;exact toList_inj e
def Xr:(Tryz.prog.info? 486).map (λi=>i.size)=some 5:=qkr
def L7{P}{tp te}{j}(hu:P.underlying tp=some (.pointer te))(hj:P.info? te=some j)(hjs:j.size≠0)(ha:w.heap[a]? =some (.cells ca ta (0,0)))(hb:w.heap[b]? =some (.cells cb tb (0,0))):(binOp .eql tp (nA a)<|nA b).run P w=.ok (.bool<|decide (a=b)) w:=by
 have hq:(Op.equal tp (nA a)<|nA b).run P w=.ok (decide (a=b)) w:=by
  rw[Op.equal,Op.maxDepth,Op.equalIn];simp only[Sem.run_bind,run_underlying hu,Result.andThen,Go.sizeOf,Go.typeInfo,hj];by_cases e:a=b
  .subst e;simp[hjs,run_sameAddr_same,hj]
  .simp[e,hjs,hj,run_sameAddr_other w (a:=⟨a,0,none⟩) (b:=⟨b,0,none⟩) (by intro q;injection q with q;exact e q) ha hb]
 simp only[binOp];simp[hq]
def YN(ha:w.heap[a]? =some (.cells ca ta (0,0)))(hb:w.heap[b]? =some (.cells cb tb (0,0))):(binOp .eql 476 (nA a)<|nA b).run jk w=.ok (.bool<|decide (a=b)) w:=by
 have⟨j,hj,hjs⟩:=Option.map_eq_some_iff.1 Xr;exact L7 qkr hj ae ha hb
def ag0{nx}(hm:h∈ds)(hn:nx h=none):0<hc nx ds:=by
 rw[hc];apply List.length_pos_of_mem (a:=h);rw[List.mem_filter];exact⟨hm,by simp[hn]⟩
section
variable {nx:Nx}
theorem fW.move(h:fW w ds sa s)(hs:w.heap.size<=w'.heap.size)(hb:∀b i v,w.cell? ⟨b,i,none⟩=some v->w'.heap[b]? =w.heap[b]?):fW w' ds sa s:=by
 cases s with
 |none=>trivial|some p=>
  obtain⟨c,l⟩:=p;obtain⟨h1,h2,h3,h4⟩:=h;refine⟨h1,h2,h3,?_⟩;by_cases e:l=[]
  .exact jc e
  .have⟨g,q1,q2,q3,q4⟩:=h4.resolve_left e;refine ja ⟨g,q1,q2,ae,λi hi=>?_⟩;have:=q4 i hi;rw[World.cell?_of_block (a:=⟨g,i,none⟩) (w:=w)<|hb g i _ this];exact this
def fW.more(h:fW w ds sa s)(hn:w.heap.size<=n):fW w (n::ds) sa s:=by
 cases s with
 |none=>trivial|some p=>
  obtain⟨c,l⟩:=p;obtain⟨h1,h2,h3,h4⟩:=h;refine⟨h1,h2,λm hm=>List.mem_cons_of_mem _<|h3 m hm,h4.imp id ?_⟩;rintro⟨g,q1,q2,q3,q4⟩;refine⟨g,q1,λhg=>?_,q3,q4⟩;obtain q|q:=List.mem_cons.1 hg
  .omega
  .exact q2 q
end
structure Ns where
 ds:List Nat
 str:tO
 vr:Nat->Nat
 ly:Nat->Option Addr×Nat
 ty:Nat->Ty
 vl:List Nat
def MS.qC{κ:Type}[DecidableEq κ]{enc}{L:List (κ×Value)}(h:MS enc w b L)(i:Nat):w.cell? ⟨b,i,none⟩=none:=by
 obtain⟨es,c,hb,_⟩:=h;simp[World.cell?,hb]
def iQ{i}(h:w.cell? ⟨b,i,none⟩=some v):b<w.heap.size:=by
 by_cases e:b<w.heap.size
 .exact e
 .have:w.heap[b]? =none:=Array.getElem?_eq_none ae;simp[World.cell?,this]at h
section
variable {kb mb:Nat} {G:Ns}
def zN w:(zeroValue 476).run jk w=.ok (.pointer none) w:=qkr
end
end
section
open Go.ChangeMaps
def ae_ b:
 CallsD jk 336 #[Pv b] .returning w λe u' w'=>
  e=.returned (.tuple #[])/\u'=.returning/\w'=w:=by
 refine callsD_of_wpS Tryz.func336 rfl λeZ cs hu=>?_;apply wpS_seq;apply wpS_region;simp[wpOpsS,go_sem,recoverD,hu,Tryz.ntmps336,Exit.thenS];rw[show(#[Pv b]++((Array.replicate 16 undef).setIfInBounds 3 Zv).setIfInBounds 0 Zv)=#[Pv b,Zv,undef,undef,Zv,undef,undef,undef,undef,undef,undef,undef,undef,undef,undef,undef,undef]from rfl];have Ti:eZ::cs={eZ with mode:=.returning}::cs:=(by cases eZ;simp at hu;subst hu;rfl);refine wpS_of_wp ?_
 go_wp2
 exact⟨rfl,_,Ti,.tuple #[],by simp[results,Tryz.results336,go_sem],rfl,rfl,rfl⟩
end
section
open Un
def ab6:(Tryz.prog.info? 9).map (λi=>(i.zero,i.size,i.bytes))=some (some<|.string ⟨#[]⟩,1,16):=qkr
def AM:Tryz.prog.underlying 27=some (.slice 9):=qkr
abbrev pP(w:World)base v xs:=w.ownsRow base 9 1 v xs.length xs
def pP.new(w:World)C base(hb:base<=w.heap.size)(hl:C.length<=1000)n(hn:n=C.length):pP (w.alloc<|.cells C.toArray 9) base (.slice (some ⟨w.heap.size,0,none⟩) n n) C:=by
 subst hn;exact⟨ah,.inr ⟨w.heap.size,C.length,C.toArray,rfl,hb,heap_alloc_new w _,br _,NR,ah,ah⟩⟩
def PK{ops}{rest}{o}{a}{Q}(JO:o.guard=none)s x(ho:o.op=.call {callee:=.builtin .append,args:=#[s,x],argTypes:=#[27,27]}){b0}{news}(hs:a.eval s=v)(f_:pP w base v xs)(hx:a.eval x=u)(hn:pP w b0 u news)(h1:∀u∈news,u.oneCell'=true)(hz:xs.length+news.length<=1000)(p7:base<=w.heap.size)(h:∀v' w',pP w' base v' (xs++news)->w.grownBy w' v.ownBlock->wpList jk ops Q rest (a.put o.dst v') w'):wpList jk ops Q (o::rest) a w:=by
 have⟨i0,hi,ku,gS,gC⟩:=info_parts ab6;have H8:=hn;obtain⟨hl,hc⟩:=hn;obtain⟨rfl,h0⟩|⟨g,cap,jL,rfl,hg,hh,r⟩:=hc
 .have e:=List.eq_nil_of_length_eq_zero h0;subst e;refine wpList_append_own_none JO s x 27 ho base 9 i0 1 AM hi v xs.length xs hs f_ hx ?_;exact h v w (by simpa using f_) ⟨rfl,rfl,rfl,br _,λ_ _ _=>rfl⟩
 .refine wpList_append_own w JO s x 27 ho base 9 i0 _ 1 16 AM hi ku gS gC rfl aA v xs.length xs hs f_ ⟨g,0,none⟩ news.length cap news hx ae (λj z e=>H8.cells rfl j z e) h1 NR ae p7 ?_;intro v' w' W4 hg' _;exact h v' w' (by rw[pP];rw[dr];exact W4) hg'
def GD{rb}(h:pP w base v xs)(hk:Ke rb w w')(hn:v.ownBlock≠some rb):pP w' base v xs:=by
 obtain⟨h1,h2⟩:=h;refine⟨h1,?_⟩;obtain h2|⟨g,cap,jL,rfl,hg,hh,r⟩:=h2
 .exact .inl h2
 .exact .inr ⟨g,cap,jL,rfl,hg,(hk.block g (by have:=(Array.getElem?_eq_some_iff.1 hh).1;exact this) (by intro e;exact hn<|by simp[Value.ownBlock,e])).trans hh,r⟩
def DT{W}{B}(h:Below B W w)(hg:w.grownBy w' row)(hz:B<=w.heap.size)(hr:∀k,row=some k->B<=k):Below B W w':=
 ⟨hg.os.trans h.os,hg.tape.trans h.tape,hg.output.trans h.output,jd h.size hg.size,λi hi=>(hg.block i ae (λe=>by have:=hr i e.symm;omega)).trans<|h.block i hi⟩
def yv(h:pP w base v xs):∀k,v.ownBlock=some k->base<=k:=λk hk=>(World.ownsRow.lt h k hk).1
section
variable {len:Nat}
def aat:List Value:=[.string ⟨#[49]⟩,.string ⟨#[116,114,117,101]⟩,.string ⟨#[40,41]⟩,.string ⟨#[78]⟩,.string ⟨#[80]⟩]
def pP.alr{w}(h:pP w base v xs)o:pP (w.alloc o) base v xs:=gT h<|bw o
end
section
variable {len:Nat}
def Ke.grow{xb}{a b c}(h:Ke xb a b)(g:b.grownBy c row)(hr:∀k,row=some k->a.heap.size<=k):Ke xb a c:=
 ⟨g.os.trans h.os,g.tape.trans h.tape,g.output.trans h.output,jd h.size g.size,λk hk hn=>(g.block k (Nat.lt_of_lt_of_le hk h.size) (λe=>by have:=hr k e.symm;omega)).trans<|h.block k hk hn⟩
def Bx.grow{w}(h:Bx w b C)(g:w.grownBy w' row)(hr:∀k,row=some k->b<k):Bx w' b C:=h.same g.size (g.block b h.z (λe=>by have:=hr b e.symm;omega))
end
end
end Go.Proofs.YtopmodaakdnliaaGreatDoor

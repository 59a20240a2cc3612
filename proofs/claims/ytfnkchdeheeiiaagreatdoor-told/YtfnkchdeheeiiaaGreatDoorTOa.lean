import Derived.Test.YtfnkchdeheeiiaaGreatDoorTCc
import Derived.Test.YtfnkchdeheeiiaaGreatDoorTPl
set_option linter.all false
set_option maxRecDepth 100000
set_option maxHeartbeats 8000000
namespace Go.Proofs.YtfnkchdeheeiiaaGreatDoor
open In renaming andM->ja,Env->jc,St->jd,inf->jf,dY->jh,MM->ji,cT->jj,gH->jk,Mks->jl,via->jm,ub->jo,arr->jp,gD->jq,iw->jt,Rn->ju,ux->jv,du->jx,oB->jy,Bv->jz,over->j3,kM->j5,dZ->j6,Ft->j7,dv->j8,Qo->j9,nQ->qd,sE->qe,Kp->qf,mono->qg,l7->qh,dl->qi,Qp->qk,tPr->ql,nD->qm,Td->qn,iy->qp,rK->qr
open _root_.List renaming take_succ_eq_append_getElem->qs,drop_eq_getElem_cons->qt,getElem_mem->qu,map_cons->qv,drop_length->qw,cons_append->qx,take_of_length_le->qy,getElem_cons_succ->qz,nil_append->q9,mem_map_of_mem->xc,nodup_cons->xd,mem_append->xf,mem_cons->xg,mem_singleton->xh,nodup_nil->xi,drop_zero->xj
open Or renaming inr->xk,inl->xm
open Go.Proofs.Tryz renaming prog->xn,underlying209->xo,underlying9->xq
open Go.World renaming cell?_of_block->xt
open _root_.Nat renaming le_trans->xw,zero_le->xy,lt_of_lt_of_le->zd
open Go.Instr renaming lookup->zh,mapUpdate->zo,next->zu
open Go.RowKit.Below renaming refl->zv
open Go.Value renaming string->zx,int->zy
open Go.Result renaming andThen->vd
open _root_.Array renaming replicate->vf,getElem?_setIfInBounds->vg,toList_modify->vh
open Go.MapKept renaming run_setObj_map->vo,heap_alloc->vw
open Go Go.RowKit Proofs.Tryz
variable {C:Array Value} {cn st:BA} {lo:BA->Nat} {F ty:BA->Option Nat} {dom Yn:BA->Prop} {e:Ending} {o:Except j7 ((Un.Ty×jc)×jd)} {f':Fl} {g g1 Γ:jc} {mk:jl} {R ρ:ju} {d:qn} {s s0 s1:jd} {tys:List (BA×Nat)} {A:List (Nd×Nd)} {nl ns ns':List BA} {mks:List MK} {cs l:List Nat} {L:List Nd} {B D D1 DD S S1 S2 a b cb aB ak f fb gb gv j k kb iQ lb mb n r sc t tb wb:Nat} {P Q Λ:Nat->Prop} {nd x:Nd} {sa:Option Addr} {α:Type} {ta:TypeId} {T U X m y:Un.Ty} {cv tv u v va vb vl vr vx xa:Value} {W w w' w0 w1:World}
section
open Go.ChangeMaps
def FM w b(F:BA->Option Nat):=∃L,MS zx w b L/\∀x,aX x L=(F x).map λ(n:Nat)=>Nv n
section
variable {c:Nat}
def FM.lt(h:FM w b F):b<w.heap.size:=qAr
def FM.same(h:FM w b F)(hb:w'.heap[b]? =w.heap[b]?):FM w' b F:=qAs
def FM.below(h:FM w b F)(hb:Bq w w'):FM w' b F:=h.same<|hb.block b h.lt
def FM.ke(h:FM w b F)(hk:Ke c w w')(hn:b≠c):FM w' b F:=h.same<|hk.block b h.lt hn
def zN w:(zeroValue 3).run xn w=.ok (Iv 0) w:=qkr
def lkV(c:Bool):Option Nat->Value
 |some n=>if c then .tuple #[Nv n,.bool true]else Nv n|none=>if c then .tuple #[Iv 0,.bool false]else Iv 0
def FM.look(h:FM w b F)x c:(zh 209 (Mv b) (.string x) c).run xn w=.ok (lkV c<|F x) w:=by
 obtain⟨L,h1,h2⟩:=h;rw[h1.look (KL.str xq) xo (zN w) x trivial (λ_ _=>trivial) c,h2 x]
 cases F x<;>rfl
def FM.put{L:List (BA×Value)}(h:∀x,aX x L=(F x).map λ(n:Nat)=>Nv n)s n:∀x,aX x (bD s (Nv n) L)=(fS F s n x).map λ(n:Nat)=>Nv n:=by grind[aX,bD,fS,aO]
def Ud w x c:(zh 209 (.map none) (.string x) c).run xn w=.ok (lkV c none) w:=by
 rw[zh];simp only[Sem.run_bind,run_underlying xo,vd];have hf:(Instr.findKey 9 (Sv x) []).run xn w=.ok none w:=(KL.str xq).fin x [] [] w trivial ag rfl
 cases c<;>simp[zN,vd,(KL.str xq).chk,lkV,hf]
def Gg w v F:=(v=.map none/\F=λ_=>none)\/∃b,v=Mv b/\FM w b F
def Gg.look{v}(h:Gg w v F)x c:(zh 209 v (.string x) c).run xn w=.ok (lkV c<|F x) w:=by
 obtain⟨rfl,rfl⟩|⟨b,rfl,h⟩:=h
 .exact Ud w x c
 .exact h.look x c
def Qq{p:Prop}(h:p:=by
 rw[hF]at hl;simp only[lkV,if_true]at hl;go_enter func240,ntmps240
 go_wp2
 go_ret
 exact⟨rfl,rfl⟩):p:=h
def Qr(h:Gg w v F)s:Cq 240 #[v,.string s] w λe w'=>e=.returned (.bool (F s).isSome)/\w'=w:=by
 have hl:=h.look s true
 cases hF:F s with
 |none=>
  exact Qq
 |some n=>
  exact Qq
def Qs(h:Gg w v F)s n:Cq 271 #[v,.string s,Nv n] w λe w'=>e=.returned (.bool<|F s==some n)/\w'=w:=by
 have hl:=h.look s true
 cases hF:F s with
 |none=>
  rw[hF]at hl;simp only[lkV,if_true]at hl;go_enter func271,ntmps271
  go_wp2
  go_ret;exact⟨rfl,rfl⟩
 |some m=>
  rw[hF]at hl;simp only[lkV,if_true]at hl
  have HE:=ai (show(some m==some n)=((m:Int)==(n:Int)) by
   by_cases e:m=n
   .simp[e]
   .have h1:((m:Int)==(n:Int))=false:=bB
    rw[h1];simp[e])
  rw[uh HE];go_enter func271,ntmps271
  go_wp2
  go_ret;exact⟨rfl,rfl⟩
end
def LM w b(lo:BA->Nat):=∃L,MS zx w b L/\∀x,aX x L=some (Nv<|lo x)\/(aX x L=none/\lo x=0)
structure CK w cb tb mb lb ty mk lo(f:Fl):Prop where
 bx:Bx w cb #[Mv tb,Mv mb,Mv lb,Nv f.kind,Nv f.al,Nv f.to]
 t:FM w tb ty
 m:FM w mb mk
 l:LM w lb lo
 ct:cb≠tb
 cm:cb≠mb
 cl:cb≠lb
 tm:tb≠mb
 tl:tb≠lb
 ml:mb≠lb
section
variable {mk:BA->Option Nat} {f:Fl}
def LM.lt{b}(h:LM w b lo):b<w.heap.size:=qAr
def LM.same{b}(h:LM w b lo)(hb:w'.heap[b]? =w.heap[b]?):LM w' b lo:=qAs
def LM.look{b}(h:LM w b lo)x:(zh 209 (Mv b) (.string x) false).run xn w=.ok (Nv<|lo x) w:=by
 obtain⟨L,h1,h2⟩:=h;rw[h1.look (KL.str xq) xo (zN w) x trivial (λ_ _=>trivial) false];obtain q|⟨q,q2⟩:=h2 x
 .rw[q];rfl
 .rw[q,q2];rfl
def LM.put{L:List (BA×Value)}(h:∀x,aX x L=some (Nv<|lo x)\/(aX x L=none/\lo x=0))s n:∀x,aX x (bD s (Nv n) L)=some (.int .i64 ((if x=s then n else lo x:Nat):Int))\/(aX x (bD s (Nv n) L)=none/\(if x=s then n else lo x)=0):=by grind[aX,bD,aO]
def CK.z(h:CK w cb tb mb lb ty mk lo f):cb<w.heap.size:=h.bx.z
def CK.ke(h:CK w cb tb mb lb ty mk lo f)(k:Ke cb w w')(b:Bx w' cb #[Mv tb,Mv mb,Mv lb,Nv f'.kind,Nv f'.al,Nv f'.to]):CK w' cb tb mb lb ty mk lo f':=
 ⟨b,h.t.ke k<|λe=>h.ct e.symm,h.m.ke k<|λe=>h.cm e.symm,h.l.same<|k.block lb h.l.lt<|λe=>h.cl e.symm,h.ct,h.cm,h.cl,h.tm,h.tl,h.ml⟩
def CK.af(h:CK w cb tb mb lb ty mk lo f)(k:Bq w w'):CK w' cb tb mb lb ty mk lo f:=h.ke (Ke.of k)<|h.bx.below k
def CK.drewN(h:CK w cb tb mb lb ty mk lo f)n:CK (w.drewN n) cb tb mb lb ty mk lo f:=h.af<|(zv _ _).drewN n
abbrev cp b:=Pv b
def Qt{p:Prop}(h:p:=by
 go_enter func241,ntmps241
 go_wp2
 go_quiet(fail)
 go_wp2
 go_end0
 exact⟨rfl,(uh<|HY _).1,(uh<|HY _).2⟩):p:=h
def qU(h:CK w cb tb mb lb ty mk lo f)(k a b:Nat):Calls xn 241 #[cp cb,.int .i64 (k:Int),.agg #[.int .i64 (a:Int),.int .i64 (b:Int)]] w λe w'=>e=.returned (.tuple #[])/\Ke cb w w'/\CK w' cb tb mb lb ty mk lo (tell k a b f):=by
 have hz:=h.z;have⟨cx,HB⟩:=nK w #[.int .i64 (a:Int),.int .i64 (b:Int)] 131;have H:=h.af cx;have HK:=Ke.of (rb:=cb) cx;have yes:∀q,(f.kind=0\/a<f.al)->Hid (Ke cb w ((((((w.alloc<|Cv #[.int .i64 (a:Int),.int .i64 (b:Int)] 131).drewN q).setCell ⟨cb,3,none⟩<|.int .i64 (k:Int)).setCell ⟨cb,4,none⟩<|.int .i64 (a:Int)).setCell ⟨cb,5,none⟩<|.int .i64 (b:Int)))/\CK (((((w.alloc<|Cv #[.int .i64 (a:Int),.int .i64 (b:Int)] 131).drewN q).setCell ⟨cb,3,none⟩<|.int .i64 (k:Int)).setCell ⟨cb,4,none⟩<|.int .i64 (a:Int)).setCell ⟨cb,5,none⟩<|.int .i64 (b:Int)) cb tb mb lb ty mk lo (tell k a b f)):=λq hq=>by
  have H':=H.drewN q;have K':Ke cb ((w.alloc<|Cv #[.int .i64 (a:Int),.int .i64 (b:Int)] 131).drewN q) (((((w.alloc<|Cv #[.int .i64 (a:Int),.int .i64 (b:Int)] 131).drewN q).setCell ⟨cb,3,none⟩<|.int .i64 (k:Int)).setCell ⟨cb,4,none⟩<|.int .i64 (a:Int)).setCell ⟨cb,5,none⟩<|.int .i64 (b:Int)):=(((Ke.refl cb _).set 3 _).set 4 _).set 5 _;refine ai ⟨(HK.trans<|Ke.of<|(zv _ _).drewN q).trans K',?_⟩;rw[tell];rw[if_pos hq];exact H'.ke K'<|((H'.bx.aP 3 (.int .i64 (k:Int)) #[.map<|some tb,.map<|some mb,.map<|some lb,.int .i64 (k:Int),.int .i64 (f.al:Int),.int .i64 (f.to:Int)] rfl ag).aP 4 (.int .i64 (a:Int)) #[.map<|some tb,.map<|some mb,.map<|some lb,.int .i64 (k:Int),.int .i64 (a:Int),.int .i64 (f.to:Int)] rfl ag).aP 5 (.int .i64 (b:Int)) _ rfl ag
 have⟨c,ff,z⟩:=H.bx;obtain⟨c1,f1,z1⟩:=HB;by_cases h0:f.kind=0
 .have h0':((f.kind:Int)==0)=true:=by simp[h0]
  have HY:=λq=>yes q<|xm h0;exact Qt
 .have h0':((f.kind:Int)==0)=false:=bB;by_cases h1:a<f.al
  .have h1':(a:Int)<(f.al:Int):=ae;have HY:=λq=>yes q<|xk h1;exact Qt
  .have h1':decide ((a:Int)<(f.al:Int))=false:=bB;have e:tell k a b f=f:=by rw[tell];rw[if_neg ae]
   rw[e];go_enter func241,ntmps241
   go_wp2
   go_quiet(fail)
   go_wp2
   go_end0;exact⟨rfl,HK.trans<|Ke.of<|(zv _ _).drewN _,H.drewN _⟩
end
end
section
open Un
mutual
def Nd.ind{P:Nd->Prop}(H:∀k s n L f t a,(∀x∈L,P x)->P (.mk k s n L f t a)):∀nd,P nd
 |.mk k s n L f t a=>H k s n L f t a<|Nd.ai8 H L
def Nd.ai8{P:Nd->Prop}(H:∀k s n L f t a,(∀x∈L,P x)->P (.mk k s n L f t a)):∀L:List Nd,∀x∈L,P x
 |[]=>λx hx=>absurd hx ag|y::l=>λx hx=>by
  obtain h|h:=List.mem_cons.1 hx
  .rw[h];exact Nd.ind H y
  .exact Nd.ai8 H l x h
end
def IP(ty:BA->Option Nat)(own:List BA):∀(L M:List Nd)(z:Fl),gI ty own (L++M) z=gI ty own M (gI ty own L z)
 |[],_,_=>by rw[q9];unfold gI;rfl|x::l,M,z=>by
  rw[qx];show gI ty own (l++M) (tU ty own x z)=gI ty own M (gI ty own l<|tU ty own x z);exact IP ty own l M _
def Ue ty own(L:List Nd)z j(h:j<L.length):gI ty own (L.take<|j+1) z=tU ty own L[j] (gI ty own (L.take j) z):=by
 rw[qs h,IP];rfl
def Sm nd:=Ge 0 nd/\nn nd<=1000
def LK.mem{lo:Nat}:∀{L:List Nd},LK lo L->∀x∈L,Ge lo x
 |[],_,x,hx=>by simp at hx|y::l,g,x,hx=>by
  obtain rfl|h:=List.mem_cons.1 hx
  .exact g.1
  .exact LK.mem g.2 x h
def sF:∀{L:List Nd}{x:Nd},x∈L->nn x<=b8 L
 |y::l,x,hx=>by
  simp only[b8];obtain rfl|h:=List.mem_cons.1 hx
  .omega
  .have:=sF h;omega
def Sm.part{s:BA}(h:Sm (.mk k s n L f t a)):∀x∈L,Sm x:=λx hx=>by
 obtain⟨h1,h2⟩:=h;refine⟨LK.mem h1.2.2 x hx,?_⟩;simp only[nn]at h2;have:=sF hx;omega
def Sm.len{s:BA}(h:Sm (.mk k s n L f t a)):L.length<=1000/\f<=400/\a<=400/\s.size<=400:=by
 obtain⟨h1,h2⟩:=h;simp only[nn]at h2;have:=mU L;exact⟨ae,h1.2.1⟩
end
section
open Go.ChangeMaps
def MY own(F:BA->Option Nat):=∀s:BA,(∃r,s.toList=39::r)->(F<|s.extract 1 s.size).isSome=fU s own
def Gg.ke{w w'}{v}{F}{cb}(h:Gg w v F)(k:Ke cb w w')(hn:∀b,v=Mv b->b≠cb):Gg w' v F:=by
 obtain h|⟨b,rfl,h⟩:=h
 .exact xm h
 .exact xk ⟨b,rfl,h.ke k<|hn b rfl⟩
def Gg.af(h:Gg w v F)(k:Bq w w'):Gg w' v F:=by
 obtain h|⟨b,rfl,h⟩:=h
 .exact xm h
 .exact xk ⟨b,rfl,h.below k⟩
structure CT cb tb mb lb ty mk lo ov F w0 f wr:Prop where
 d:CK wr cb tb mb lb ty mk lo f
 k:Ke cb w0 wr
 o:Gg wr ov F
 n:∀b,ov=Mv b->b≠cb
section
variable {mk:BA->Option Nat} {ov:Value} {wr:World} {f:Fl} {own:List BA}
def CT.af(h:CT cb tb mb lb ty mk lo ov F w0 f wr)(hb:Bq wr w'):CT cb tb mb lb ty mk lo ov F w0 f w':=⟨h.d.af hb,h.k.fs hb,h.o.af hb,h.n⟩
def CT.ke(h:CT cb tb mb lb ty mk lo ov F w0 f wr)(hk:Ke cb wr w')(d:CK w' cb tb mb lb ty mk lo f'):CT cb tb mb lb ty mk lo ov F w0 f' w':=⟨d,h.k.trans hk,h.o.ke hk h.n,h.n⟩
def PT.keB(h:PT w (·<B) nd v)(k:Ke cb w w')(hB:B<=cb):PT w' (·<B) nd v:=h.ke k λb(p:b<B)=>ae
def PTC nd:=∀(w:World)(cb tb mb lb B:Nat)(ty mk:BA->Option Nat)(lo:BA->Nat)(f:Fl)(v ov:Value)(F:BA->Option Nat)(own:List BA),CK w cb tb mb lb ty mk lo f->B<=cb->PT w (·<B) nd v->Gg w ov F->(∀b,ov=Mv b->b≠cb)->MY own F->Sm nd->
 Cq 242 #[cp cb,v,ov] w λe w'=>e=.returned (.tuple #[])/\Ke cb w w'/\CK w' cb tb mb lb ty mk lo (tU ty own nd f)
def TSR cb tb mb lb ty mk lo ov F w0 f own(L:List Nd)gk c wr:=∃j:Nat,Hid (gk=L.length-j)/\j<=L.length/\c=Nv j/\CT cb tb mb lb ty mk lo ov F w0 (gI ty own (L.take j) f) wr
def zO{p:Prop}(h:p:=by
 go_wp2
 go_end0
 exact⟨rfl,XR.k,XR.d⟩):p:=h
def CG{vs:Nat->Value}(IH:∀x∈L,PTC x)(h:CK w cb tb mb lb ty mk lo f)(hB:B<=cb)(aM:L=[]\/∃g,sa=some ⟨g,0,none⟩/\g<B/\g<w.heap.size/\∀i,i<L.length->w.cell? ⟨g,i,none⟩=some (vs i))(hr:∀i(h:i<L.length),PT w (·<B) L[i]<|vs i)(ho:Gg w ov F)(hn:∀b,ov=Mv b->b≠cb)(hO:MY own F)(hS:∀x∈L,Sm x)(hL:L.length<=1000):
 Cq 174 #[cp cb,.slice sa L.length sc,ov] w λe w'=>e=.returned (.tuple #[])/\Ke cb w w'/\CK w' cb tb mb lb ty mk lo (gI ty own L f):=by
 have X0:CT cb tb mb lb ty mk lo ov F w f w:=⟨h,Ke.refl _ _,ho,hn⟩;obtain⟨Z,HZ⟩:∃Z,Hid<|Z=gI ty own L f:=⟨_,ai rfl⟩;rw[<-uh HZ];go_enter func174,ntmps174
 go_wp2
 go_loopg[10] L.length (λgk c wr=>TSR cb tb mb lb ty mk lo ov F w f own L gk c wr)
 case atStart=>exact⟨0,ai rfl,xy _,rfl,X0⟩
 case round=>
  obtain⟨j,cR,hj,rfl,hX⟩:=hrel;have XR:=ai hX;by_cases bq:j<L.length
  .have hd:(j:Int)<(L.length:Int):=ae;obtain⟨g,rfl,Yo,iP,hc⟩:∃g,sa=some ⟨g,0,none⟩/\g<B/\g<w.heap.size/\∀i,i<L.length->w.cell? ⟨g,i,none⟩=some (vs i):=by
    obtain e|e:=aM
    .exact absurd bq Mm
    .exact e
   have hcj:=(XR.k.cell iP ae).trans<|hc j bq;have HC:=IH L[j] (qu bq) _ cb tb mb lb B ty mk lo _ (vs j) ov F own XR.d hB ((hr j bq).keB XR.k hB) XR.o XR.n hO<|hS _<|qu bq;rw[<-Ue _ _ _ _ _ bq]at HC;go_wp2_with fail;refine HC.mono ?_;rintro e w2⟨rfl,k2,d2⟩;have X2:=XR.ke k2 d2
   go_wp2
   go_roundg(L.length-(j+1))
   case measure=>rw[uh cR];omega
   case rel=>exact⟨j+1,ai rfl,ae,iK,X2⟩
  .have hd:decide ((j:Int)<(L.length:Int))=false:=bB;have he:L.take j=L:=qy ae;rw[he,<-uh HZ]at XR;exact zO
def agd{ty}{own}{s:BA}{fr:Nat}{z:Fl}:tU ty own (.mk 16 s n [] fr t a) z=bm (!fU s own) 4 fr (fr+s.size) z:=by
 rw[tU];rfl
def ai9{ty}{own}{s:BA}{fr:Nat}{z:Fl}:tU ty own (.mk 2 s n L fr t a) z=gI ty own L (bm (ty s !=some L.length) 4 a (a+s.size) z):=by
 conv=>lhs;rw[tU]
 rfl
def Qv{ty}{own}{s:BA}{fr:Nat}{y}{z:Fl}(hk:k=6\/k=17):tU ty own (.mk k s n [x,y] fr t a) z=tU ty own y (tU ty own x z):=by
 obtain rfl|rfl:=hk
 .conv=>lhs;rw[tU]
  rfl
 .conv=>lhs;rw[tU]
  rfl
def Qw{p:Prop}(h:p:=by
 have HC:=ai<|LL p ag _ cb tb mb lb B ty mk lo f _ ov F own X1.d hB HA X1.o X1.n HO<|HS p ag;obtain⟨c1,f1,y1⟩:=uh B1;clear cx HX ha hb;go_enter func242,ntmps242;go_wp2_with fail;refine HC.mono ?_;rintro e w2⟨rfl,k2,d2⟩;have X2:=ai<|X1.ke k2 d2;have B2:=ai<|B1.sG k2 ae;have cS:=ai<|HB.keB k2 hB;obtain⟨c2,f2,y2⟩:=uh B2;have qV:=ai<|LL q ag _ cb tb mb lb B ty mk lo _ _ ov F own X2.d hB cS X2.o X2.n HO<|HS q ag;clear k2 d2 HC c1 f1 y1;go_wp2_with fail;refine qV.mono ?_;rintro e w3⟨rfl,k3,d3⟩;have X3:=ai<|X2.ke k3 d3;clear k3 d3 qV
 go_wp2
 go_end0
 exact⟨rfl,X3.k,X3.d⟩):p:=h
def Qx{p:Prop}(h:p:=by
 all_goals(
  go_wp2_with fail
  go_meet
  case rel=>exact⟨rfl,X1.af (zv _ _).drew,B1.gL⟩)):p:=h
def IQ:∀nd,PTC nd:=by
 refine Nd.ind ?_;intro k s n L fr t a IH w cb tb mb lb B ty mk lo f v ov F own h hB hx ho hn hO hs;have LL:=ai IH;have HS:=ai hs.part;have⟨hL,hf4,ha4,hs4⟩:=hs.len;have HO:=ai hO;have X0:Hid (CT cb tb mb lb ty mk lo ov F w f w):=ai ⟨h,Ke.refl _ _,ho,hn⟩;have HX:=ai hx;have hcz:=h.z;clear h IH hs ho hn hO
 cases hx with
 |var _ _ _ _ _ x y hq uk hy'=>
  subst uk hy';have⟨cx,B1⟩:=sf w #[Nv fr,.int .i64 ((fr+s.size:Nat):Int),Sv<|s.extract 1 s.size] 159;have X1:=ai<|X0.af cx;have HC:=ai<|Qr X1.o<|s.extract 1 s.size;have HE:=ai<|HO s hq;rw[agd];have⟨c1,f1,y1⟩:=uh B1;clear cx HX;go_enter func242,ntmps242;go_wp2_with fail;refine HC.mono ?_;rintro e w1⟨rfl,rfl⟩;rw[uh HE]
  cases r_:fU s own with
  |true=>
   go_wp2
   go_end0;exact⟨rfl,X1.k,by rw[r_];exact X1.d⟩
  |false=>
   have qV:=ai<|qU X1.d 4 fr<|fr+s.size;go_wp2_with fail;refine qV.mono ?_;rintro e w2⟨rfl,k2,d2⟩;have X2:=ai<|X1.ke k2 d2;clear k2 d2 qV HC
   go_wp2
   go_end0;exact⟨rfl,X2.k,by rw[r_];exact X2.d⟩
 |fn _ _ p q _ _ _ x y va vb ha hb=>
  obtain⟨t1,x1,rfl⟩:=ha.iface;obtain⟨t2,x2,rfl⟩:=hb.iface;have⟨cx,B1⟩:=sf w #[Iv x,Iv y,Fv t1<|Av x1,Fv t2<|Av x2] 161;have X1:=ai<|X0.af cx;have HA:=ai<|ha.af cx;have HB:=ai<|hb.af cx;rw[Qv<|xk rfl];exact Qw
 |pr _ _ p q _ _ _ x y va vb ha hb=>
  obtain⟨t1,x1,rfl⟩:=ha.iface;obtain⟨t2,x2,rfl⟩:=hb.iface;have⟨cx,B1⟩:=sf w #[Iv x,Iv y,Fv t1<|Av x1,Fv t2<|Av x2] 163;have X1:=ai<|X0.af cx;have HA:=ai<|ha.af cx;have HB:=ai<|hb.af cx;rw[Qv<|xm rfl];exact Qw
 |up _ _ _ _ _ _ x y x' y' sa sc vs hu aM hr uk hy'=>
  subst uk;have HY:=ai hy';clear hy';have⟨cx,B1⟩:=sf w #[Iv x,Iv y,Nv a,Iv y',Sv s,Lv sa L.length sc] 166;have X1:=ai<|X0.af cx;have HR:=ai hr;have HW:Hid (L=[]\/∃g,sa=some ⟨g,0,none⟩/\g<B/\g<w.heap.size/\∀i,i<L.length->w.cell? ⟨g,i,none⟩=some (vs i)):=ai aM;rw[ai9];obtain⟨Z,HZ⟩:∃Z,Hid<|Z=gI ty own L (bm (ty s !=some L.length) 4 a (a+s.size) f):=⟨_,ai rfl⟩;rw[<-uh HZ];have⟨c1,f1,y1⟩:=uh B1;have⟨c2,f2,y2⟩:=X1.d.bx;clear cx HX aM hr;go_enter func242,ntmps242;go_wp2_with fail;go_cut[37]from 26 (λv wc=>v=.bool (ty s !=some L.length)/\CT cb tb mb lb ty mk lo ov F w f wc/\Bx wc w.heap.size #[Iv x,Iv y,Nv a,Iv y',Sv s,Lv sa L.length sc])
  case first=>
   go_region_with(go_at_call 271;refine(Qs (v:=Mv tb) (xk ⟨tb,rfl,(X1.af (zv _ _).drew).d.t⟩) s L.length).mono ?_;rintro e w2⟨rfl,rfl⟩);all_goals exact Qx
  case rest=>
   obtain⟨rfl,hX,hB2⟩:=hcut;have X2:=ai hX;have B2:=ai hB2;clear hX hB2 X1 B1 c1 f1 y1 c2 f2 y2;have⟨c1,f1,y1⟩:=uh B2
   go_upto_if 37 with(fail)
   go_cut[]from 14 (λwc=>CT cb tb mb lb ty mk lo ov F w (bm (ty s !=some L.length) 4 a (a+s.size) f) wc/\Bx wc w.heap.size #[Iv x,Iv y,Nv a,Iv y',Sv s,Lv sa L.length sc])
   case first=>
    cases hb:(ty s !=some L.length)with
    |true=>
     have HC:=ai<|qU X2.d 4 a<|a+s.size;rw[<-uh HY]at HC;go_wp2_with fail;refine HC.mono ?_;rintro e w2⟨rfl,k2,d2⟩;have X3:=ai<|X2.ke k2 d2;have B3:=ai<|B2.sG k2 ae;clear k2 d2 HC;go_wp2_with fail
     go_meet
     case rel=>rw[hb];exact⟨X3,B3⟩
    |false=>
     go_wp2_with fail
     go_meet
     case rel=>rw[hb];exact⟨X2,B2⟩
   case rest=>
    obtain⟨hX,PB⟩:=hcut;have X3:=ai hX;have B3:=ai PB;clear hX PB X2 B2 c1 f1 y1;have⟨c1,f1,y1⟩:=uh B3
    have HC:=ai (CG (sa:=sa) (sc:=sc) (vs:=vs) (own:=own) (λx hx=>LL x hx) X3.d hB (by
     obtain q|⟨g,e,q1,q2,q3⟩:=uh HW
     .exact xm q
     .exact xk ⟨g,e,q1,zd q2 X3.k.size,λi hi=>(X3.k.cell q2 ae).trans<|q3 i hi⟩) (λi hi=>(HR i hi).keB X3.k hB) X3.o X3.n HO HS hL)
    rw[<-uh HZ]at HC;go_wp2_with fail;refine HC.mono ?_;rintro e w2⟨rfl,k2,d2⟩;have X4:=ai<|X3.ke k2 d2
    go_wp2
    go_end0;exact⟨rfl,X4.k,X4.d⟩
end
end
section
open Un
def IR(mk:BA->Option Nat):∀(L M:List Nd)(q:List BA×Fl),dG mk (L++M) q=dG mk M (dG mk L q)
 |[],_,_=>by rw[q9];unfold dG;rfl|x::l,M,q=>by
  rw[qx];show dG mk (l++M) (nR mk x q)=dG mk M (dG mk l<|nR mk x q);exact IR mk l M _
def Uf mk(L:List Nd)q j(h:j<L.length):dG mk (L.take<|j+1) q=nR mk L[j] (dG mk (L.take j) q):=by
 rw[qs h,IR];rfl
end
section
open Go.ChangeMaps Go.MapKept
def MB(w:World)(b:Nat)(L:List (BA×Value)):=∃es clock,w.heap[b]? =some (.map es clock)/\es.toList.map (λe=>(e.key,e.val))=L.map (λp=>(zx p.1,p.2))/\(es.toList.map (·.born)).Nodup/\∀e∈es.toList,e.born<clock
section
variable {L:List (BA×Value)}
def MB.ms(h:MB w b L):MS zx w b L:=by obtain⟨es,c,h1,h2,_⟩:=h;exact⟨es,c,h1,h2⟩
def MB.lt(h:MB w b L):b<w.heap.size:=h.ms.lt
def MB.same(h:MB w b L)(hb:w'.heap[b]? =w.heap[b]?):MB w' b L:=by obtain⟨es,c,h1,h2⟩:=h;exact⟨es,c,hb.trans h1,h2⟩
def MB.new(w:World):MB (w.alloc<|.map #[] 0) w.heap.size []:=⟨#[],0,(vw w _).1,rfl,ag,ag⟩
def vU(l:List MapEntry)j f(hf:∀e,(f e).born=e.born):(l.modify j f).map (·.born)=l.map (·.born):=by
 induction l generalizing j with
 |nil=>cases j<;>simp|cons e r ih=>grind
def MB.put(h:MB w b L)x v:∃o,(zo 209 (Mv b) (.string x) v).run xn w=.ok () (setBlock w b o)/\MB (setBlock w b o) b (bD x v L):=by
 obtain⟨es,clock,hb,mL,hn,hk⟩:=h;have K:=KL.str (P:=xn) xq;have hf:=K.fin x L es.toList w trivial (λ_ _=>trivial) mL;rw[zo];simp only[Sem.run_bind,run_underlying xo,vd,MapKept.run_getObj_map hb,K.chk,hf]
 cases xH:xI x L 0 with
 |none=>
  refine⟨.map (es.push {key:=Sv x,val:=v,born:=clock})<|clock+1,by rw[xH]at hf;simp[hf,vd];exact vo _ hb,_,_,(heap_setBlock_same hb _),?_,?_,?_⟩
  .rw[lN x v L<|n8 x L 0 xH];simp[mL]
  .simp only[Array.toList_push,List.map_append,qv,List.map_nil];rw[List.nodup_append];refine⟨hn,ag,?_⟩;intro a ha c hc;obtain⟨e,he,rfl⟩:=List.mem_map.1 ha;simp only[xh]at hc;have:=hk e he;omega
  .grind
 |some p=>
  obtain⟨j,u⟩:=p;have⟨_,e0,h2,h3,h4⟩:=DP (enc:=Sv) x v L es.toList 0 j u mL xH;have Gb:es[j]? =some e0:=by simpa using h2
  refine⟨.map (es.modify j λe=>{e with key:=Sv x,val:=v}) clock,?_,_,_,(heap_setBlock_same hb _),by simpa using h4,?_,?_⟩
  .rw[xH]at hf;simp[hf,vd,Gb,h3,Instr.keyThatStays,K.bit];exact vo _ hb
  .rw[vh,vU es.toList j (λe=>{e with key:=Sv x,val:=v}) (λ_=>rfl)];exact hn
  .intro e he;have:e.born∈(es.modify j λe=>{e with key:=Sv x,val:=v}).toList.map (·.born):=xc he;rw[vh,vU es.toList j (λe=>{e with key:=Sv x,val:=v}) (λ_=>rfl)]at this;have⟨e',h1,h2⟩:=List.mem_map.1 this;rw[<-h2];exact hk e' h1
def oC{ops}{rest}{o}{a}{Q}(hg:o.guard=none)m x v(rJ:o.op=Op.insert 209 m x v\/o.op=Op.mapUpdate 209 m x v)(hm:a.eval m=Mv b)(hM:MB w b L)key val(hx:a.eval x=.string key)(hv:a.eval v=val)(hK:∀w',MB w' b (bD key val L)->One b w w'->wpList xn ops Q rest (a.put o.dst undef) w'):
 wpList xn ops Q (o::rest) a w:=by
 refine wpList_plain hg λK' hK'=>?_;have⟨ob,ls,r1⟩:=hM.put key val;rw[Oper.wp];obtain rJ|rJ:=rJ<;>
 .simp[execOp,rJ,hm,hx,hv,ls,vd];exact hK' _ _<|hK _ r1<|One.set w b ob
end
def GM w b p:=∃L,MB w b L/\(L.map (·.1)).Nodup/\∀x,aX x L=if fU x p then some (Iv 1)else none
def MZ{L:List (BA×Value)}{s:BA}(h:(L.map (·.1)).Nodup):((bD s v L).map (·.1)).Nodup:=by
 have hm:∀(L:List (BA×Value))x,x∈(bD s v L).map (·.1)->x=s\/x∈L.map (·.1):=by
  intro L x
  induction L with
  |nil=>simp[bD]|cons p r ih=>
   rw[bD];split
   .grind
   .grind
 induction L with
 |nil=>simp[bD]|cons p r ih=>
  simp only[qv,xd]at h;rw[bD];split
  .rename_i e;simp only[qv,xd];exact⟨e▸h.1,h.2⟩
  .rename_i e;simp only[qv,xd];refine⟨λq=>?_,ih h.2⟩;obtain q|q:=hm r _ q
   .exact e q
   .exact h.1 q
section
variable {p:List BA}
def GM.lt(h:GM w b p):b<w.heap.size:=qAr
def GM.same(h:GM w b p)(hb:w'.heap[b]? =w.heap[b]?):GM w' b p:=qAs
def GM.mv(h:GM w b p):Gg w (Mv b) (λx=>if fU x p then some 1 else none):=by
 obtain⟨L,h1,_,h2⟩:=h;refine xk ⟨b,rfl,L,h1.ms,λx=>?_⟩;rw[h2 x];show _=Option.map _ (if fU x p=true then some 1 else none)
 cases fU x p<;>rfl
theorem GM.bD{L:List (BA×Value)}(h2:(L.map (·.1)).Nodup)(h:∀x,aX x L=if fU x p then some (Iv 1)else none){s:BA}(hM:MB w' b (Go.Proofs.YtfnkchdeheeiiaaGreatDoor.bD s (Iv 1) L)):GM w' b (p++[s]):=by
 refine⟨_,hM,MZ h2,λx=>?_⟩;rw[aO,h x];have e:fU x (p++[s])=(fU x p||decide (s=x)):=by unfold fU;rw[List.any_append];simp only[List.any_cons,List.any_nil,Bool.or_false]
 rw[e];by_cases q:s=x
 .simp[q]
 .simp[q]
def GM.new(w:World):GM (w.alloc<|.map #[] 0) w.heap.size []:=⟨[],MB.new w,ag,λx=>by simp[aX,fU]⟩
end
end
section
open Go.ChangeMaps
structure CP cb tb mb lb gb ty mk lo w0(q:List BA×Fl)wr:Prop where
 d:CK wr cb tb mb lb ty mk lo q.2
 k:Fr (λb=>b=cb\/b=gb) w0 wr
 g:GM wr gb q.1
 n:gb≠cb/\gb≠tb/\gb≠mb/\gb≠lb
section
variable {mk:BA->Option Nat} {wr:World} {p:List BA} {f:Fl} {q q':List BA×Fl}
def CP.af(h:CP cb tb mb lb gb ty mk lo w0 q wr)(hb:Bq wr w'):CP cb tb mb lb gb ty mk lo w0 q w':=⟨h.d.af hb,h.k.trans<|Fr.of hb,h.g.same<|hb.block gb h.g.lt,h.n⟩
def CP.ke(h:CP cb tb mb lb gb ty mk lo w0 (p,f) wr)(hk:Ke cb wr w')(d:CK w' cb tb mb lb ty mk lo f'):CP cb tb mb lb gb ty mk lo w0 (p,f') w':=⟨d,h.k.trans ⟨hk.os,hk.tape,hk.output,hk.size,λb hb hn=>hk.block b hb<|λe=>hn<|xm e⟩,h.g.same<|hk.block gb h.g.lt h.n.1,h.n⟩
def CP.fr(h:CP cb tb mb lb gb ty mk lo w0 q wr)(k:Fr (λb=>b=cb\/b=gb) wr w')(d:CK w' cb tb mb lb ty mk lo q'.2)(g:GM w' gb q'.1):CP cb tb mb lb gb ty mk lo w0 q' w':=⟨d,h.k.trans k,g,h.n⟩
def CK.one(h:CK w cb tb mb lb ty mk lo f)(o:One gb w w')(n:gb≠cb/\gb≠tb/\gb≠mb/\gb≠lb):CK w' cb tb mb lb ty mk lo f:=
 ⟨h.bx.one o n.1.symm,h.t.same<|o.block tb n.2.1.symm,h.m.same<|o.block mb n.2.2.1.symm,h.l.same<|o.block lb n.2.2.2.symm,h.ct,h.cm,h.cl,h.tm,h.tl,h.ml⟩
def CP.one(h:CP cb tb mb lb gb ty mk lo w0 (p,f) wr)(o:One gb wr w'){p'}(g:GM w' gb p'):CP cb tb mb lb gb ty mk lo w0 (p',f) w':=
 ⟨h.d.one o h.n,h.k.trans ⟨o.os,o.tape,o.output,LB,λb _ hn=>o.block b<|λe=>hn<|xk e⟩,g,h.n⟩
def PP.Qy{S}(h:PP w (·<B) nd v)(k:Fr S w w')(hB:∀b,b<B->¬S b):PP w' (·<B) nd v:=h.move k.size (λb p z=>k.block b z<|hB b p)<|λ_ p _=>p
def PPC nd:=∀(w:World)(cb tb mb lb gb B:Nat)(ty mk:BA->Option Nat)(lo:BA->Nat)(f:Fl)(v:Value)(p:List BA),CK w cb tb mb lb ty mk lo f->B<=cb->B<=gb->PP w (·<B) nd v->GM w gb p->(gb≠cb/\gb≠tb/\gb≠mb/\gb≠lb)->Sm nd->
 Cq 272 #[cp cb,v,Mv gb] w λe w'=>e=.returned (.tuple #[])/\Fr (λb=>b=cb\/b=gb) w w'/\CK w' cb tb mb lb ty mk lo (nR mk nd (p,f)).2/\GM w' gb (nR mk nd (p,f)).1
def ai_{s:BA}{fr}:nR mk (.mk 1 s n L fr t a) (p,f)=(p++[s],bm (fU s p) 5 fr t f):=by rw[nR];rfl
def aja{s:BA}{fr}:nR mk (.mk 2 s n L fr t a) (p,f)=dG mk L (p,bm (mk s !=some L.length) 5 a (a+s.size) f):=by
 conv=>lhs;rw[nR]
 rfl
def aeQ{s:BA}{fr}(hk:k≠1/\k≠2):nR mk (.mk k s n L fr t a) (p,f)=dG mk L (p,f):=by grind[nR,dG,bm]
def PPR cb tb mb lb gb ty mk lo w0 q(L:List Nd)xb C gk c wr:=∃j:Nat,Hid (gk=L.length-j)/\j<=L.length/\c=Nv j/\CP cb tb mb lb gb ty mk lo w0 (dG mk (L.take j) q) wr/\Bx wr xb C
def xU{p:Prop}(h:p:=by
 rw[aeQ aK,show dG mk [] (p,f)=(p,f) by unfold dG;rfl];go_enter func272,ntmps272
 go_wp2
 go_end0
 exact⟨rfl,X0.k,X0.d,X0.g⟩):p:=h
def Ug:∀nd,PPC nd:=by
 refine Nd.ind ?_;intro k s n L fr t a LL w cb tb mb lb gb B ty mk lo f v p h hB hBg HA hg hn hs;have HS:=ai hs.part;have⟨hL,hf4,ha4,hs4⟩:=hs.len;have X0:Hid (CP cb tb mb lb gb ty mk lo w (p,f) w):=ai ⟨h,Fr.refl _ _,hg,hn⟩;have hcz:=h.z;have iP:=hg.lt;have zP:∀b,b<B->¬(b=cb\/b=gb):=λb hb q=>ae;have hnS:¬(w.heap.size=cb\/w.heap.size=gb):=λq=>ae;clear h hs hg hn
 cases HA with
 |any _ _ _ _ _=>
  exact xU
 |num _ _ _ _ _=>
  exact xU
 |word _ _ _ _ _ _=>
  exact xU
 |unit _ _ _ _ _=>
  exact xU
 |low _ _ _ _ _ hl=>
  have⟨cx,B1⟩:=sf w #[Nv fr,Nv t,Sv s] 356;have X1:=ai<|X0.af cx;have HC:=Qr X1.g.mv s;rw[ai_];have⟨c1,f1,y1⟩:=uh B1;clear cx;go_enter func272,ntmps272;go_wp2_with fail;refine HC.mono ?_;rintro e w1⟨rfl,rfl⟩
  cases r_:fU s p with
  |true=>
   have qV:=qU X1.d 5 fr t;simp only[if_true,Option.isSome_some];go_wp2_with fail;refine qV.mono ?_;rintro e w2⟨rfl,k2,d2⟩;have X2:=X1.ke k2 d2;have B2:=ai<|B1.sG k2<|λe=>hnS<|xm e;have⟨L2,Bc,Mc,hG2⟩:=X2.g;have LN:=And.intro Mc hG2;clear k2 d2 qV HC c1 f1 y1 Mc hG2;have⟨c1,f1,y1⟩:=uh B2;go_wp2_with(refine oC rfl _ _ _ (xk rfl) rfl Bc s (Iv 1) rfl rfl ?_;intro w3 H' O';have X3:=ai<|X2.one O'<|GM.bD LN.1 LN.2 H';clear H' O');go_end0;exact⟨rfl,X3.k,by rw[r_];exact X3.d,X3.g⟩
  |false=>
   simp only[Bool.false_eq_true,if_false,Option.isSome_none];have⟨L2,Bc,Mc,hG2⟩:=X1.g;have LN:=And.intro Mc hG2;clear Mc hG2 HC;go_wp2_with(refine oC rfl _ _ _ (xk rfl) rfl Bc s (Iv 1) rfl rfl ?_;intro w3 H' O';have X3:=ai<|X1.one O'<|GM.bD LN.1 LN.2 H';clear H' O');go_end0;exact⟨rfl,X3.k,X3.d,X3.g⟩
 |pr _ _ x y _ _ _ vx vy HA hy=>
  obtain⟨u1,x1,rfl⟩:=HA.iface;obtain⟨u2,x2,rfl⟩:=hy.iface;have⟨cx,B1⟩:=sf w #[Nv fr,Nv t,Fv u1<|Av x1,Fv u2<|Av x2] 328;have X1:=ai<|X0.af cx;have HB:=ai hy;rw[aeQ aK,show dG mk [x,y] (p,f)=nR mk y (nR mk x (p,f)) by unfold dG;unfold dG;unfold dG;rfl];have HC:=LL x ag _ cb tb mb lb gb B ty mk lo f _ p X1.d hB hBg (HA.Qy X1.k zP) X1.g X1.n<|HS x ag;have⟨c1,f1,y1⟩:=uh B1;clear cx hy;generalize nR mk x (p,f)=q1 at HC⊢;obtain⟨p1,z1⟩:=q1;go_enter func272,ntmps272;go_wp2_with fail;refine HC.mono ?_;rintro e w2⟨rfl,k2,d2,g2⟩;have X2:=X1.fr (q':=(p1,z1)) k2 d2 g2;have B2:=ai<|B1.fr k2 hnS;have⟨c2,f2,y2⟩:=uh B2;have qV:=LL y ag _ cb tb mb lb gb B ty mk lo z1 _ p1 X2.d hB hBg (HB.Qy X2.k zP) X2.g X2.n<|HS y ag;clear k2 d2 g2 HC c1 f1 y1;go_wp2_with fail;refine qV.mono ?_;rintro e w3⟨rfl,k3,d3,g3⟩;have X3:=ai<|X2.fr (q':=nR mk y (p1,z1)) k3 d3 g3;clear k3 d3 g3 qV
  go_wp2
  go_end0;exact⟨rfl,X3.k,X3.d,X3.g⟩
 |up _ _ _ _ _ _ y sa sc vs hu hy aM hr=>
  have HY:=ai hy;have⟨cx,B1⟩:=sf w #[Nv fr,Nv t,Nv a,Nv y,Sv s,Lv sa L.length sc] 307;have X1:=ai<|X0.af cx;have HW:Hid (L=[]\/∃g,sa=some ⟨g,0,none⟩/\g<B/\g<w.heap.size/\∀i,i<L.length->w.cell? ⟨g,i,none⟩=some (vs i)):=ai aM;rw[aja];obtain⟨Z,HZ⟩:∃Z,Hid<|Z=dG mk L (p,bm (mk s !=some L.length) 5 a (a+s.size) f):=⟨_,ai rfl⟩;rw[<-uh HZ];have⟨c1,f1,y1⟩:=uh B1;have⟨c2,f2,y2⟩:=X1.d.bx;clear cx aM hy;go_enter func272,ntmps272;go_wp2_with fail;go_cut[40]from 29 (λv wc=>v=.bool (mk s !=some L.length)/\CP cb tb mb lb gb ty mk lo w (p,f) wc/\Bx wc w.heap.size #[Nv fr,Nv t,Nv a,Nv y,Sv s,Lv sa L.length sc])
  case first=>
   go_region_with(go_at_call 271;refine(Qs (v:=Mv mb) (xk ⟨mb,rfl,(X1.af (zv _ _).drew).d.m⟩) s L.length).mono ?_;rintro e w2⟨rfl,rfl⟩);all_goals exact Qx
  case rest=>
   obtain⟨rfl,hX,hB2⟩:=hcut;have X2:=ai hX;have B2:=ai hB2;clear hX hB2 X1 B1 c1 f1 y1 c2 f2 y2;have⟨c1,f1,y1⟩:=uh B2
   go_upto_if 40 with(fail)
   go_cut[]from 15 (λwc=>CP cb tb mb lb gb ty mk lo w (p,bm (mk s !=some L.length) 5 a (a+s.size) f) wc/\Bx wc w.heap.size #[Nv fr,Nv t,Nv a,Nv y,Sv s,Lv sa L.length sc])
   case first=>
    cases hb:(mk s !=some L.length)with
    |true=>
     have HC:=qU X2.d 5 a<|a+s.size;rw[<-uh HY]at HC;have HTT:=show bm true 5 a (a+s.size) f=tell 5 a y f by rw[uh HY];rfl
     go_wp2_with fail;refine HC.mono ?_;rintro e w2⟨rfl,k2,d2⟩;have X3:=ai<|X2.ke k2 d2;have B3:=ai<|B2.sG k2<|λe=>hnS<|xm e;clear k2 d2 HC;go_wp2_with fail
     go_meet
     case rel=>rw[hb,HTT];exact⟨X3,B3⟩
    |false=>
     go_wp2_with fail
     go_meet
     case rel=>rw[hb];exact⟨X2,B2⟩
   case rest=>
    obtain⟨hX,PB⟩:=hcut;have X3:=ai hX;have B3:=ai PB;clear hX PB X2 B2 c1 f1 y1;generalize bm (mk s !=some L.length) 5 a (a+s.size) f=z2 at X3 HZ;have⟨c1,f1,y1⟩:=uh B3;go_wp2_with fail;clear c1 f1 y1;go_loopg[49] L.length (λgk c wr=>PPR cb tb mb lb gb ty mk lo w (p,z2) L w.heap.size #[Nv fr,Nv t,Nv a,Nv y,Sv s,Lv sa L.length sc] gk c wr)
    case atStart=>exact⟨0,ai rfl,xy _,rfl,X3,B3⟩
    case round=>
     clear X3 B3;obtain⟨j,cR,hj,rfl,hX,hB4⟩:=hrel;have XR:=ai hX;have BR:=ai hB4;clear hX hB4;have⟨c1,f1,y1⟩:=uh BR;by_cases bq:j<L.length
     .have hd:(j:Int)<(L.length:Int):=ae;obtain⟨g,rfl,Yo,age,hc⟩:∃g,sa=some ⟨g,0,none⟩/\g<B/\g<w.heap.size/\∀i,i<L.length->w.cell? ⟨g,i,none⟩=some (vs i):=by
       obtain e|e:=uh HW
       .exact absurd bq Mm
       .exact e
      have hcj:=(xt (a:=⟨g,j,none⟩)<|XR.k.block g age<|zP g Yo).trans<|hc j bq;have HT:=Uf mk L (p,z2) j bq;generalize dG mk (L.take j) (p,z2)=qj at XR HT;obtain⟨pj,zj⟩:=qj;have HC:=LL L[j] (qu bq) _ cb tb mb lb gb B ty mk lo zj (vs j) pj XR.d hB hBg ((hr j bq).Qy XR.k zP) XR.g XR.n<|HS _<|qu bq;rw[<-HT]at HC;clear hc;go_wp2_with fail;refine HC.mono ?_;rintro e w2⟨rfl,k2,d2,g2⟩;have X4:=XR.fr (q':=dG mk (L.take<|j+1) (p,z2)) k2 d2 g2;have B4:=ai<|BR.fr k2 hnS
      go_wp2
      go_roundg(L.length-(j+1))
      case measure=>rw[uh cR];omega
      case rel=>exact⟨j+1,ai rfl,ae,iK,X4,B4⟩
     .have hd:decide ((j:Int)<(L.length:Int))=false:=bB;have he:L.take j=L:=qy ae;rw[he,<-uh HZ]at XR
      go_wp2
      go_end0;exact⟨rfl,XR.k,XR.d,XR.g⟩
end
end
section
open Go.ChangeMaps Go.MapKept
def IT(w:World)(r gb:Nat)(p done:List BA)cnt:=∃(es:Array MapEntry)(clock since:Nat)(seen:Array Nat)(c0:Nat)(L:List (BA×Value)),w.heap[gb]? =some (.map es clock)/\es.toList.map (λe=>(e.key,e.val))=L.map (λp=>(zx p.1,p.2))/\(es.toList.map (·.born)).Nodup/\(∀e∈es.toList,e.born<since)/\since<=c0/\since<=clock/\w.heap[r]? =some (.mapIter (some gb) since seen c0)/\(L.map (·.1)).Nodup/\(∀x,aX x L=if fU x p then some (Iv 1)else none)/\(leftOf es seen).size=cnt/\∀e∈es.toList,∀x,e.key=.string x->(seen.contains e.born=true↔x∈done)
def Ed{x:BA}:∀{L:List (BA×Value)},(aX x L).isSome=true↔x∈L.map (·.1)
 |[]=>by simp[aX]|p::l=>by
  rw[aX];split
  .rename_i e;simp[e]
  .rename_i e;rw[Ed (L:=l)];simp only[qv,xg];exact⟨xk,λq=>q.elim (λq=>absurd q.symm e) id⟩
def acE{es:List MapEntry}{L:List (BA×Value)}(h:es.map (λe=>(e.key,e.val))=L.map (λp=>(zx p.1,p.2))):es.map (·.key)=(L.map (·.1)).map zx:=by
 have:=congrArg (List.map Prod.fst) h;simpa[List.map_map,Function.comp_def]using this
def IT.same{p done:List BA}{cnt}(h:IT w r gb p done cnt)(h1:w'.heap[gb]? =w.heap[gb]?)(h2:w'.heap[r]? =w.heap[r]?):IT w' r gb p done cnt:=by
 obtain⟨es,clock,since,seen,c0,L,a1,a2,a3,a4,a5,a6,a7,a8⟩:=h;exact⟨es,clock,since,seen,c0,L,h1.trans a1,a2,a3,a4,a5,a6,h2.trans a7,a8⟩
def IT.lt{p done:List BA}{cnt}(h:IT w r gb p done cnt):gb<w.heap.size/\r<w.heap.size/\gb≠r:=by
 obtain⟨es,clock,since,seen,c0,L,a1,a2,a3,a4,a5,a6,a7,a8⟩:=h;refine⟨(Array.getElem?_eq_some_iff.1 a1).1,(Array.getElem?_eq_some_iff.1 a7).1,λe=>?_⟩;rw[e,a7]at a1
 cases a1
def GM.range{p:List BA}(h:GM w gb p):∃o cnt,(Instr.range 209<|Mv gb).run xn w=.ok (Pv w.heap.size) (w.alloc o)/\IT (w.alloc o) w.heap.size gb p [] cnt:=by
 obtain⟨L,⟨es,clock,a1,a2,a3,a4⟩,a5,a6⟩:=h;have bq:=(Array.getElem?_eq_some_iff.1 a1).1;refine⟨_,_,run_range_map w 209 _ _ gb es clock xo a1,es,clock,clock,#[],clock,L,((vw w _).2 _ bq).trans a1,a2,a3,a4,br _,br _,heap_alloc_new w _,a5,a6,rfl,λe he x hx=>ag⟩
def IT.next{p done:List BA}{cnt}(h:IT w r gb p done cnt):((∀x,fU x p=true->x∈done)/\(∀x,x∈done->fU x p=true->True)/\(zu (Pv r) false 0).run xn w=.ok (.tuple #[.bool false]) w)\/
 ∃x v w1 aB,x∉done/\fU x p=true/\(zu (Pv r) false 0).run xn w=.ok (.tuple #[.bool true,.string x,v]) w1/\IT w1 r gb p (x::done) aB/\aB<cnt/\Fr (λb=>b=r) w w1/\w1.heap.size=w.heap.size/\(Instr.entry<|Pv r).run xn w1=.ok (.tuple #[.string x,v]) w1:=by
 have⟨hg1,hr1,cO⟩:=h.lt;obtain⟨es,clock,since,seen,c0,L,a1,a2,a3,a4,a5,a6,a7,a8,a9,a10,a11⟩:=h;have WQ:=acE a2;rcases run_next_at (P:=xn) w 0 r gb since c0 seen es clock a7 a1 a4 a5 with⟨h0,ls⟩|⟨e,he,w1,xJ,ls⟩
 .left;refine⟨λx hx=>?_,λ_ _ _=>trivial,ls⟩;have r_:=Ed.1 (by rw[a9 x,hx];rfl);have:Sv x∈es.toList.map (·.key):=yG;have⟨e,he,hk⟩:=List.mem_map.1 this;exact(a11 e he x hk).1 (all_seen es seen h0 e he)
 .right;have⟨VQ,he2⟩:=mem_left he;obtain⟨x,hx⟩:∃x,e.key=Sv x:=by
   have:e.key∈es.toList.map (·.key):=xc VQ;rw[WQ]at this;have⟨x,_,q⟩:=List.mem_map.1 this;exact⟨x,q.symm⟩
  have hxL:x∈L.map (·.1):=by
   have:e.key∈es.toList.map (·.key):=xc VQ;rw[WQ,hx]at this;have⟨y,hy,q⟩:=List.mem_map.1 this
   cases q;exact hy
  have xK:x∉done:=λq=>by
   have:=(a11 e VQ x hx).2 q;rw[he2]at this;cases this
  have hp:fU x p=true:=by
   have:=Ed.2 hxL;rw[a9 x]at this
   cases hq:fU x p with
   |true=>rfl|false=>grind
  have Mi:w1.heap=w.heap:=by obtain rfl|rfl:=xJ<;>rfl
  have b1:∀k,k≠r->(setBlock w1 r<|.mapIter (some gb) since (seen.push e.born) clock).heap[k]? =w.heap[k]? :=λk hk=>by
   have:(setBlock w1 r<|.mapIter (some gb) since (seen.push e.born) clock).heap[k]? =w1.heap[k]? :=by simp[setBlock,vg,Ne.symm hk]
   rw[this,Mi]
  have b2:(setBlock w1 r<|.mapIter (some gb) since (seen.push e.born) clock).heap[r]? =some (.mapIter (some gb) since (seen.push e.born) clock):=by
   have yK:r<w1.heap.size:=by rw[Mi];exact hr1
   simp[setBlock,vg,yK]
  have dU:(setBlock w1 r<|.mapIter (some gb) since (seen.push e.born) clock).heap.size=w.heap.size:=by simp[setBlock,Mi]
  have hnk:(es.toList.map (·.key)).Nodup:=yG;refine⟨x,e.val,_,_,xK,hp,by rw[ls,hx],⟨es,clock,since,seen.push e.born,clock,L,(b1 gb cO).trans a1,a2,a3,a4,a6,a6,b2,a8,a9,rfl,λe' he' y hy=>?_⟩,by rw[<-a10];exact left_shrinks es seen e he,⟨by obtain rfl|rfl:=xJ<;>rfl,by obtain rfl|rfl:=xJ<;>rfl,by obtain rfl|rfl:=xJ<;>rfl,by rw[dU];exact br _,λk _ hk=>b1 k hk⟩,dU,?_⟩
  .rw[contains_push];simp only[Bool.or_eq_true,beq_iff_eq,xg];constructor
   .rintro(q|q)
    .grind
    .have:e'=e:=born_inj a3 he' VQ q;rw[this,hx]at hy
     cases hy;exact xm rfl
   .rintro(q|q)
    .right;have:e'=e:=by
      have hk:e'.key=e.key:=by rw[hy,hx,q]
      exact entry_eq_of_key (by rw[List.Nodup,List.pairwise_map]at hnk;exact hnk) he' VQ hk
     rw[this]
    .grind
  .have:=run_entry_at (P:=xn) (setBlock w1 r<|.mapIter (some gb) since (seen.push e.born) clock) r gb since seen es clock e b2 ((b1 gb cO).trans a1) VQ a3;rw[hx]at this;exact this
def LO(lo:BA->Nat)(l:List BA):=∀x,lo x≠0↔x∈l
structure CE cb tb mb lb ty mk lo w0 f wr:Prop where
 d:CK wr cb tb mb lb ty mk lo f
 k:Fr (λb=>b=cb\/b=lb) w0 wr
section
variable {mk:BA->Option Nat} {Yp:BA->Nat} {wr:World} {p l:List BA} {f:Fl}
def CE.af(h:CE cb tb mb lb ty mk lo w0 f wr)(hb:Bq wr w'):CE cb tb mb lb ty mk lo w0 f w':=⟨h.d.af hb,h.k.trans<|Fr.of hb⟩
def CE.ke(h:CE cb tb mb lb ty mk lo w0 f wr)(hk:Ke cb wr w')(d:CK w' cb tb mb lb ty mk lo f'):CE cb tb mb lb ty mk lo w0 f' w':=⟨d,h.k.trans ⟨hk.os,hk.tape,hk.output,hk.size,λb hb hn=>hk.block b hb<|λe=>hn<|xm e⟩⟩
def CE.fr(h:CE cb tb mb lb ty mk lo w0 f wr)(k:Fr (λb=>b=cb\/b=lb) wr w')(d:CK w' cb tb mb lb ty mk Yp f'):CE cb tb mb lb ty mk Yp w0 f' w':=⟨d,h.k.trans k⟩
def CE.put(h:CE cb tb mb lb ty mk lo w0 f wr){L}(o:One lb wr w')(hM:MS zx w' lb L)(hL:∀x,aX x L=some (Nv<|Yp x)\/(aX x L=none/\Yp x=0)):CE cb tb mb lb ty mk Yp w0 f w':=
 ⟨⟨h.d.bx.one o h.d.cl,h.d.t.same<|o.block tb h.d.tl,h.d.m.same<|o.block mb h.d.ml,⟨L,hM,hL⟩,h.d.ct,h.d.cm,h.d.cl,h.d.tm,h.d.tl,h.d.ml⟩,h.k.trans ⟨o.os,o.tape,o.output,LB,λb _ hn=>o.block b<|λe=>hn<|xk e⟩⟩
def CK.frN(h:CK w cb tb mb lb ty mk lo f)(k:Fr (λb=>b=r) w w')(n:r≠cb/\r≠tb/\r≠mb/\r≠lb):CK w' cb tb mb lb ty mk lo f:=
 ⟨h.bx.fr k n.1.symm,h.t.same<|k.block tb h.t.lt n.2.1.symm,h.m.same<|k.block mb h.m.lt n.2.2.1.symm,h.l.same<|k.block lb h.l.lt n.2.2.2.symm,h.ct,h.cm,h.cl,h.tm,h.tl,h.ml⟩
def CE.frN(h:CE cb tb mb lb ty mk lo w0 f wr){r}(k:Fr (λb=>b=r) wr w')(n:r≠cb/\r≠tb/\r≠mb/\r≠lb)(hr:w0.heap.size<=r):CE cb tb mb lb ty mk lo w0 f w':=
 ⟨h.d.frN k n,h.k.trans' k<|λb q=>xk (by have q:b=r:=q;omega)⟩
def CK.lts(h:CK w cb tb mb lb ty mk lo f):cb<w.heap.size/\tb<w.heap.size/\mb<w.heap.size/\lb<w.heap.size:=⟨h.z,h.t.lt,h.m.lt,h.l.lt⟩
def PE.Qy{S:Nat->Prop}(h:PE w (·<B) nd v)(k:Fr S w w')(hB:∀b,b<B->¬S b):PE w' (·<B) nd v:=h.move k.size (λb p z=>k.block b z<|hB b p)<|λ_ p _=>p
def PT.Qy{S:Nat->Prop}(h:PT w (·<B) nd v)(k:Fr S w w')(hB:∀b,b<B->¬S b):PT w' (·<B) nd v:=h.move k.size (λb p z=>k.block b z<|hB b p)<|λ_ p _=>p
def PXC nd:=∀(w:World)(cb tb mb lb B:Nat)(ty mk:BA->Option Nat)(lo:BA->Nat)(f:Fl)(v:Value)(l:List BA),CK w cb tb mb lb ty mk lo f->B<=cb->B<=lb->PE w (·<B) nd v->LO lo l->(∀x,lo x+nn nd<=5000)->Sm nd->
 Cq 177 #[cp cb,v] w λe w'=>e=.returned (.tuple #[])/\Fr (λb=>b=cb\/b=lb) w w'/\CK w' cb tb mb lb ty mk lo (dN ty mk nd l f)
def loU(lo:BA->Nat)done:=λx=>lo x+if fU x done then 1 else 0
def loD(lo:BA->Nat)done:=λx=>lo x-if fU x done then 1 else 0
def Yq{x:BA}{done:List BA}(h:x∉done):(λy=>if y=x then loU lo done x+1 else loU lo done y)=loU lo (x::done):=by grind[loU,fU]
def Yr{x:BA}{done:List BA}(h:x∉done):(λy=>if y=x then loD lo done x-1 else loD lo done y)=loD lo (x::done):=by grind[loD,fU]
def IU{p done:List BA}(h1:∀x,fU x p=true->x∈done)(h2:∀x∈done,fU x p=true)x:fU x done=fU x p:=by grind[fU]
def LO.rM(h:LO lo l)p:LO (λx=>lo x+if fU x p then 1 else 0) (l++p):=by grind[LO,fU]
def UPR cb tb mb lb ty mk lo w0 f r gb p gk wr:=∃done,IT wr r gb p done gk/\(∀x∈done,fU x p=true)/\CE cb tb mb lb ty mk (loU lo done) w0 f wr
def DNR cb tb mb lb ty mk lo w0 f r gb p gk wr:=∃done,IT wr r gb p done gk/\(∀x∈done,fU x p=true)/\CE cb tb mb lb ty mk (loD lo done) w0 f wr
def Qz{p:Prop}(h:p:=by
 have I5:=HI1.same (O3.block gb hn.2.2.2)<|O3.block _ hrn.2.2.2;go_roundg aB
 case measure=>exact Hn
 case rel=>exact⟨x::done,I5,by intro y hy;obtain rfl|q:=List.mem_cons.1 hy;exact HXP;exact HD y q,X5⟩):p:=h
def sH(HE:PXC nd)(h:CK w cb tb mb lb ty mk lo f)(hB:B<=cb)(Bw:B<=lb)(hx:PE w (·<B) nd v)(hg:GM w gb p)(hn:gb≠cb/\gb≠tb/\gb≠mb/\gb≠lb)(hl:LO lo l)(qQ:∀x,lo x+1+nn nd<=5000)(hs:Sm nd):
 Calls xn 175 #[cp cb,.map<|some gb,v] w λe w'=>e=.returned (.tuple #[])/\Fr (λb=>b=cb\/b=lb) w w'/\CK w' cb tb mb lb ty mk lo (dN ty mk nd (l++p) f):=by
 have⟨o,cnt,hrg,lR⟩:=hg.range;have cx:Below w.heap.size w (w.alloc o):=bw _;have X0:CE cb tb mb lb ty mk lo w f (w.alloc o):=⟨h.af cx,Fr.of cx⟩;have⟨z1,z2,z3,z4⟩:=h.lts;have HI:=ai lR;have iP:=hg.lt;have zP:∀b,b<B->¬(b=cb\/b=lb):=λb hb q=>ae;have VS:=ai hl;obtain⟨t1,x1,rfl⟩:=hx.iface;obtain⟨f2,HZ⟩:∃Z,Hid<|Z=dN ty mk nd (l++p) f:=⟨_,ai rfl⟩;rw[<-uh HZ];go_enter func175,ntmps175
 go_wp2
 go_loopg[] cnt (λgk wr=>UPR cb tb mb lb ty mk lo w f w.heap.size gb p gk wr)
 case atStart=>exact⟨[],HI,ag,by have:=X0;exact this⟩
 case round=>
  obtain⟨done,lR,hdn,hX⟩:=hrel;have XR:=ai hX;have HI:=ai lR;have HD:=ai hdn;have hsw:=hX.k.size;have WW:=lR.lt;obtain⟨ha,-,DT⟩|⟨x,u,w1,aB,hxd,Ps,DT,Hl,bq,xL,dU,hen⟩:=HI.next
  .have eL:loU lo done=λx=>lo x+if fU x p then 1 else 0:=by funext y;rw[loU];rw[IU ha HD y]
   rw[eL]at XR;obtain⟨lo2,Ys⟩:∃lo2,Hid<|lo2=λx=>lo x+if fU x p then 1 else 0:=⟨_,ai rfl⟩;rw[<-uh Ys]at XR;have HC:=HE wr cb tb mb lb B ty mk lo2 f _ (l++p) XR.d hB Bw (hx.Qy XR.k zP) (by rw[uh Ys];exact VS.rM p) (λx=>by rw[uh Ys];have:=qQ x;show lo x+(if fU x p=true then 1 else 0)+nn nd<=5000;split<;>omega) hs;rw[<-uh HZ]at HC;have GR:=hg.same (XR.k.block gb iP (λq=>by obtain q|q:=q;exact hn.1 q;exact hn.2.2.2 q));go_wp2_with fail;refine HC.mono ?_;rintro e w2⟨rfl,k2,d2⟩;have X2:=ai<|XR.fr k2 d2;have G2:=GR.same (k2.block gb WW.1 (λq=>by obtain q|q:=q;exact hn.1 q;exact hn.2.2.2 q));have⟨o2,cD,amk,HI2⟩:=G2.range;have X3:Hid (CE cb tb mb lb ty mk lo2 w f2<|w2.alloc o2):=ai<|X2.af<|bw _;have z2w:=X2.k.size
   go_wp2
   go_loopg[] cD (λgk wr=>DNR cb tb mb lb ty mk lo2 w f2 w2.heap.size gb p gk wr)
   case atStart=>exact⟨[],HI2,ag,by have:=uh X3;exact this⟩
   case round=>
    obtain⟨done,HI,HD,XR⟩:=hrel;have hsw:=XR.k.size;have WW:=HI.lt;obtain⟨ha,-,DT⟩|⟨x,u,w1,aB,HXD,HXP,DT,HI1,bq,HFR,dU,hen⟩:=HI.next
    .have eL:loD lo2 done=lo:=by
      funext y;rw[loD];rw[IU ha HD y,uh Ys];show lo y+(if fU y p=true then 1 else 0)-(if fU y p=true then 1 else 0)=lo y;omega
     rw[eL]at XR;exact zO
    .have hrn:w2.heap.size≠cb/\w2.heap.size≠tb/\w2.heap.size≠mb/\w2.heap.size≠lb:=⟨ae,ae,ae,ae⟩;have X4:=XR.frN HFR hrn ae;obtain⟨N,hN⟩:∃N,Hid<|N=loD lo2 done x:=⟨_,ai rfl⟩;have hl:=X4.d.l.look x;rw[<-uh hN]at hl;have⟨L,HM,HL⟩:=X4.d.l;have hN5:1<=N/\N<=6000:=by
      have h1:=qQ x;have h2:=Ee.2 HXD;have h3:N=lo x+1:=by rw[uh hN,uh Ys];rw[loD];rw[h2];simp[HXP]
      omega
     have hN6:(1:Int)<=(N:Int):=ae;have hN7:(N:Int)<=6000:=ae;have⟨c1,f1,y1⟩:=X4.d.bx;have Hn:=bq;go_wp2_with(refine aT _ rfl _ _ _ _ (xk rfl) (KL.str xq) xo _ _ rfl HM x (.int .i64<|(N:Int)-1) rfl rfl trivial (λ_ _=>trivial) ?_;intro w3 H' O';have M3:=ai H';have O3:=ai O';clear H' O');have hv:(zy .i64<|(N:Int)-1)=.int .i64 ((N-1:Nat):Int):=by rw[Int.natCast_sub hN5.1];rfl
     rw[hv]at M3;have X5:=X4.put O3 M3<|LM.put HL x<|N-1;rw[uh hN,Yr HXD]at X5;exact Qz
  .have hrn:w.heap.size≠cb/\w.heap.size≠tb/\w.heap.size≠mb/\w.heap.size≠lb:=⟨ae,ae,ae,ae⟩;have X4:=XR.frN xL hrn<|br _;obtain⟨N,hN⟩:∃N,Hid<|N=loU lo done x:=⟨_,ai rfl⟩;have hl:=X4.d.l.look x;rw[<-uh hN]at hl;have⟨L,HM,HL⟩:=X4.d.l;have hN7:(N:Int)<=6000:=by
    have h1:=qQ x;have h2:N=lo x+(if fU x done then 1 else 0):=uh hN;have h3:(if fU x done=true then 1 else 0)<=1:=by split<;>omega
    omega
   have⟨c1,f1,y1⟩:=X4.d.bx;have HI1:=ai Hl;have HXD:=ai hxd;have HXP:=ai Ps;have Hn:=bq;go_wp2_with(refine aT _ rfl _ _ _ _ (xk rfl) (KL.str xq) xo _ _ rfl HM x (.int .i64<|(N:Int)+1) rfl rfl trivial (λ_ _=>trivial) ?_;intro w3 H' O';have M3:=ai H';have O3:=ai O';clear H' O');have hv:(zy .i64<|(N:Int)+1)=.int .i64 ((N+1:Nat):Int):=rfl;rw[hv]at M3;have X5:=X4.put O3 M3<|LM.put HL x<|N+1;rw[uh hN,Yq HXD]at X5;exact Qz
end
end
section
open Un
section
variable {s:BA} {mk:BA->Option Nat} {l:List BA} {z:Fl}
def ajb{u:Nd}:dN ty mk (.mk 9 s n [u] f t a) l z=dN ty mk u (l++[s]) z:=by
 conv=>lhs;rw[dN]
 rfl
def agf{u v:Nd}:dN ty mk (.mk 10 s n [u,v] f t a) l z=dN ty mk v (l++[s]) (dN ty mk u l z):=by
 conv=>lhs;rw[dN]
 rfl
def agh{u v:Nd}:dN ty mk (.mk 11 s n [u,v] f t a) l z=dN ty mk v (l++[s]) (dN ty mk u (l++[s]) z):=by
 conv=>lhs;rw[dN]
 rfl
def agi{u v:Nd}:dN ty mk (.mk 14 s n [u,v] f t a) l z=tU ty [] v (dN ty mk u l z):=by
 conv=>lhs;rw[dN]
 rfl
def agj{u:Nd}:dN ty mk (.mk 13 s n (u::L) f t a) l z=mV ty mk L l (dN ty mk u l z):=by
 conv=>lhs;rw[dN]
 rfl
def Yt(hk:k≠1/\k≠2/\k≠9/\k≠10/\k≠11/\k≠13/\k≠14):dN ty mk (.mk k s n L f t a) l z=gY ty mk L l z:=by
 conv=>lhs;rw[dN]
 simp[hk]
end
def IW(ty mk:BA->Option Nat)(l:List BA):∀(L M:List Nd)(z:Fl),gY ty mk (L++M) l z=gY ty mk M l (gY ty mk L l z)
 |[],_,_=>by rw[q9];conv=>rhs;arg 5;rw[gY]|x::r,M,z=>by
  rw[qx];have h1:∀N z,gY ty mk (x::N) l z=gY ty mk N l (dN ty mk x l z):=λN z=>by conv=>lhs;rw[gY]
  rw[h1,h1];exact IW ty mk l r M _
def Uh ty mk l(L:List Nd)z j(h:j<L.length):gY ty mk (L.take<|j+1) l z=dN ty mk L[j] l (gY ty mk (L.take j) l z):=by
 rw[qs h,IW]
 conv=>lhs;rw[gY]
 conv=>lhs;rw[gY]
def CH:∀A:List (Nd×Nd),(aU A).length=2*A.length
 |[]=>rfl|p::r=>by have:=CH r;simp[aU,this];omega
def QA:∀(A:List (Nd×Nd))(j:Nat)(h:j<A.length),nn A[j].1+nn A[j].2<=b8 (aU A)
 |p::r,0,h=>by simp[aU,b8]<;>omega|p::r,j+1,h=>by
  have:=QA r j Bm;simp only[aU,b8,qz];omega
def Ef:∀(A:List (Nd×Nd))(j:Nat)(h:j<A.length),A[j].1∈aU A/\A[j].2∈aU A
 |p::r,0,h=>by simp[aU]|p::r,j+1,h=>by
  have:=Ef r j Bm;simp only[aU,qz,xg];exact⟨xk<|xk this.1,xk<|xk this.2⟩
def QB ty mk l z(p:Nd×Nd):=dN ty mk p.2 (l++(nR mk p.1 ([],z)).1) (nR mk p.1 ([],z)).2
def M5 ty mk l(A:List (Nd×Nd))z:=A.foldl (QB ty mk l) z
def QC(ty mk:BA->Option Nat)(l:List BA):∀(A:List (Nd×Nd))(z:Fl),mV ty mk (aU A) l z=M5 ty mk l A z
 |[],z=>by
  show mV ty mk [] l z=z
  conv=>lhs;rw[mV]
 |p::r,z=>by
  have h1:mV ty mk (aU (p::r)) l z=mV ty mk (aU r) l (QB ty mk l z p):=by
   show mV ty mk (p.1::p.2::aU r) l z=_
   conv=>lhs;rw[mV]
   conv=>lhs;rw[IX]
   rfl
  rw[h1,QC ty mk l r];rfl
def Ui ty mk l(A:List (Nd×Nd))z j(h:j<A.length):M5 ty mk l (A.take<|j+1) z=QB ty mk l (M5 ty mk l (A.take j) z) A[j]:=by
 rw[M5];rw[qs h,List.foldl_append];rfl
end
section
open Go.ChangeMaps Go.MapKept
section
variable {mk:BA->Option Nat} {wr:World} {p l:List BA} {f:Fl}
def CE.frG(h:CE cb tb mb lb ty mk lo w0 f wr)(k:Fr (λb=>b=cb\/b=gb) wr w')(hg:w0.heap.size<=gb)(d:CK w' cb tb mb lb ty mk lo f'):CE cb tb mb lb ty mk lo w0 f' w':=
 ⟨d,h.k.trans' k (λb q=>by
  obtain q|q:=q
  .omega
  .exact xk ae)⟩
def AMR cb tb mb lb ty mk lo w0 f l(A:List (Nd×Nd))gk c wr:=∃j:Nat,Hid (gk=A.length-j)/\j<=A.length/\c=Nv j/\CE cb tb mb lb ty mk lo w0 (M5 ty mk l (A.take j) f) wr
def agk{g}{vp ve:Nat->Value}(HA:∀q∈A,PXC q.2)(h:CK w cb tb mb lb ty mk lo f)(hB:B<=cb)(Bw:B<=lb)(Yo:g<B)(hg:g<w.heap.size)(hc:∀i,i<A.length->(∃u v,w.cell? ⟨g,i*4,none⟩=some (Iv u)/\w.cell? ⟨g,i*4+1,none⟩=some (Iv v))/\w.cell? ⟨g,i*4+2,none⟩=some (vp i)/\w.cell? ⟨g,i*4+3,none⟩=some (ve i))(hp:∀i(h:i<A.length),PP w (·<B) A[i].1<|vp i)(he:∀i(h:i<A.length),PE w (·<B) A[i].2<|ve i)(hl:LO lo l)(qQ:∀x,lo x+1+b8 (aU A)<=5000)(hS:∀x∈aU A,Sm x)(hL:A.length<=1000):
 Cq 244 #[cp cb,.slice (some ⟨g,0,none⟩) A.length sc] w λe w'=>e=.returned (.tuple #[])/\Fr (λb=>b=cb\/b=lb) w w'/\CK w' cb tb mb lb ty mk lo (mV ty mk (aU A) l f):=by
 have iN:= @run_makeMap Tryz.prog;have HE:=ai he;have zP:∀b,b<B->¬(b=cb\/b=lb):=λb hb q=>ae;have⟨z1,z2,z3,z4⟩:=h.lts;have X0:CE cb tb mb lb ty mk lo w f w:=⟨h,Fr.refl _ _⟩;rw[QC];clear h he;obtain⟨Z,HZ⟩:∃Z,Hid<|Z=M5 ty mk l A f:=⟨_,ai rfl⟩;rw[<-uh HZ];go_enter func244,ntmps244
 go_wp2
 go_loopg[9] A.length (λgk c wr=>AMR cb tb mb lb ty mk lo w f l A gk c wr)
 case atStart=>exact⟨0,ai rfl,xy _,rfl,X0⟩
 case round=>
  clear X0;obtain⟨j,cR,hj,rfl,hX⟩:=hrel;have XR:=ai hX;have hsw:=hX.k.size;clear hX;by_cases bq:j<A.length
  .have hd:(j:Int)<(A.length:Int):=ae;have l8:∀o,wr.cell? ⟨g,o,none⟩=w.cell? ⟨g,o,none⟩:=λo=>xt (a:=⟨g,o,none⟩)<|XR.k.block g hg<|zP g Yo;have⟨⟨u,v,d0,d1⟩,d2,d3⟩:=hc j bq;rw[<-l8]at d0 d1 d2 d3;have⟨t1,x1,e1⟩:=(hp j bq).iface;have⟨t2,x2,e2⟩:=(HE j bq).iface;have P1:=hp j bq;have E1:=HE j bq;rw[e1]at d2 P1;rw[e2]at d3 E1;have HT:=Ui ty mk l A f j bq;have hnn:=QA A j bq;have HIN:=Ef A j bq;generalize M5 ty mk l (A.take j) f=zj at XR HT;rw[QB]at HT;have cx:Bq wr ((wr.alloc<|Cv #[Iv u,Iv v,Fv t1<|Av x1,Fv t2<|Av x2] 257).alloc<|.map #[] 0):=(bw _).alloc ag _;have X1:=XR.af cx;have B1:=ai<|(Bx.new wr #[Iv u,Iv v,Fv t1<|Av x1,Fv t2<|Av x2] 257).alloc<|.map #[] 0;have G1:GM ((wr.alloc<|Cv #[Iv u,Iv v,Fv t1<|Av x1,Fv t2<|Av x2] 257).alloc<|.map #[] 0) (wr.heap.size+1) []:=(by have:=GM.new<|wr.alloc<|Cv #[Iv u,Iv v,Fv t1<|Av x1,Fv t2<|Av x2] 257;simpa using this);have HC:=ai<|Ug A[j].1 _ cb tb mb lb (wr.heap.size+1) B ty mk lo zj _ [] X1.d hB ae (P1.Qy X1.k zP) G1 ⟨ae,ae,ae,ae⟩<|hS _ HIN.1;have HA2:=HA A[j]<|qu bq;generalize nR mk A[j].1 ([],zj)=pz at HC HT;obtain⟨p,zp⟩:=pz;simp only at HC HT;have⟨c1,f1,y1⟩:=uh B1;clear cx l8 e1 e2;go_wp2_with fail;refine HC.mono ?_;rintro e w3⟨rfl,k3,d3',G3⟩;have X3:=X1.frG k3 ae d3'
   have B3:=ai<|B1.fr k3<|λq=>ae;have qV:=sH (l:=l) HA2 X3.d hB Bw (E1.Qy X3.k zP) G3 ⟨ae,ae,ae,ae⟩ hl (λx=>by have:=qQ x;omega)<|hS _ HIN.2;rw[<-HT]at qV;clear k3 d3' HC c1 f1 y1 d0 d1 d2 d3;have⟨c1,f1,y1⟩:=uh B3;go_wp2_with fail;refine qV.mono ?_;rintro e w4⟨rfl,k4,d4⟩;have X4:=X3.fr k4 d4
   go_wp2
   go_roundg(A.length-(j+1))
   case measure=>rw[uh cR];omega
   case rel=>exact⟨j+1,ai rfl,ae,iK,X4⟩
  .have hd:decide ((j:Int)<(A.length:Int))=false:=bB;have he:A.take j=A:=qy ae;rw[he,<-uh HZ]at XR;exact zO
end
end
section
open Un
def SB wb(tv cv mv:Value)b:=b=wb\/tv.ownBlock=some b\/cv.ownBlock=some b\/mv.ownBlock=some b
def QE:∀(a b:List Pu.Tok)(p:List BA)(z:Fl),Bz p (a++b) z=Bz (p++a.map (·.text)) b (Bz p a z)
 |[],b,p,z=>by simp[Bz]|v::r,b,p,z=>by
  simp only[qx,Bz,qv];rw[QE r b,List.append_assoc];rfl
def Yu(vs:List Pu.Tok)z i(h:i<vs.length):Bz [] (vs.take<|i+1) z=bm (fU vs[i].text ((vs.map (·.text)).take i)) 4 vs[i].al vs[i].to (Bz [] (vs.take i) z):=by
 rw[qs h,QE];simp only[Bz,q9,List.map_take]
end
section
open Go.ChangeMaps Un
def rU.up(h:rU kb fb cb mb ns T ns' w0 e w')(hb:Bq w w0):rU kb fb cb mb ns T ns' w e w':=by
 obtain⟨u,h1,h2,h3,h4⟩:=h;exact⟨u,h1,h2.wide λb p=>xw hb.size p,h3,(Fr.of hb).trans h4⟩
def M6 s n f t a:OfC (.mk 16 s n [] f t a):=by
 intro w kb fb cb mb ns Q v h hp hQ hn;have e:aH ns (.mk 16 s n [] f t a)=(.var<|ix s (nW s ns)+1,nW s ns):=by simp[aH]
 rw[e]at hn⊢;have Mf:ns.length<=2000:=by have:=IY s ns;simp at hn;omega
 cases hp with
 |var s n f t a x y hq hx hy=>
 clear hx hy;have bN:Bq w (w.alloc<|Cv #[Iv x,Iv y,Sv<|s.extract 1 s.size] 159):=bw _;have HC:=Gn (h.af bN) s hq Mf;go_enter func44,ntmps44;go_wp2_with fail;refine HC.mono ?_;rintro e w1⟨rfl,N1,F1⟩
 go_wp2
 go_ret;exact⟨_,rfl,.var _,N1,(Fr.of bN).trans F1⟩
def xV{p:Prop}(h:p:=by
 go_enter func44,ntmps44;go_wp2_with fail;refine HC.mono ?_;intro e w1 hp;have hp2:=hp.up bN;obtain⟨u,rfl,_⟩:=hp
 go_wp2
 go_ret
 exact hp2):p:=h
def Yv{T}(hk:k=17/\T=161/\cn=nB\/k=6/\T=163/\cn=lj)s n x y f t a(hx:OfC x)(hy:OfC y):OfC (.mk k s n [x,y] f t a):=by
 intro w kb fb cb mb ns Q v h hp hQ hn;have e:aH ns (.mk k s n [x,y] f t a)=(.aJ cn (aA ns [x,y]).1,(aA ns [x,y]).2):=by obtain⟨rfl,rfl,rfl⟩|⟨rfl,rfl,rfl⟩:=hk<;>simp[aH,fy]
 rw[e]at hn⊢;obtain⟨x1,y1,va,vb,ha,hb,rfl⟩:∃x1 y1 va vb,PT w Q x va/\PT w Q y vb/\v=Fv T (Av #[Iv x1,Iv y1,va,vb]):=by obtain⟨rfl,rfl,rfl⟩|⟨rfl,rfl,rfl⟩:=hk<;>(cases hp;exact⟨_,_,_,_,qas,qas,rfl⟩)
 obtain⟨ta,xa,rfl⟩:=ha.bJ;obtain⟨tb,xb,rfl⟩:=hb.bJ;have bq:=h.lt;have bN:Bq w ((w.alloc<|Cv #[Iv x1,Iv y1,Fv ta<|Av xa,Fv tb<|Av xb] T).alloc<|Cv #[Fv ta<|Av xa,Fv tb<|Av xb] 92):=(bw _).alloc ag _;have BR:=(Bx.new (w.alloc<|Cv #[Iv x1,Iv y1,Fv ta<|Av xa,Fv tb<|Av xb] T) #[Fv ta<|Av xa,Fv tb<|Av xb] 92);have dU:(w.alloc<|Cv #[Iv x1,Iv y1,Fv ta<|Av xa,Fv tb<|Av xb] T).heap.size=w.heap.size+1:=ag;rw[dU]at BR
 have HC:=ai (Gt (Q:=λb=>Q b\/b=w.heap.size+1) cn (by obtain⟨-,-,rfl⟩|⟨-,-,rfl⟩:=hk;exact xm rfl;exact xk<|xm rfl) [x,y] (some ⟨w.heap.size+1,0,none⟩) 2 (λi=>if i=0 then Fv ta (Av xa)else Fv tb (Av xb)) ag (h.af bN) (λb q=>by obtain q|q:=q;exact hQ b q;omega)
  (xk ⟨w.heap.size+1,rfl,xk rfl,ag,λi hi=>by
   have qK:i=0\/i=1:=Gd;rw[BR.c i]
   obtain rfl|rfl:=qK<;>rfl⟩)
  (λi hi=>by
   have qK:i=0\/i=1:=Gd;obtain rfl|rfl:=qK
   .exact(ha.af bN).wide λb p=>xm p
   .exact(hb.af bN).wide λb p=>xm p)
  (λi hi=>by
   have qK:i=0\/i=1:=Gd;obtain rfl|rfl:=qK
   .exact hx
   .exact hy) hn)
 obtain⟨rfl,rfl,rfl⟩|⟨rfl,rfl,rfl⟩:=hk;all_goals
  first|rw[jI]at HC|rw[jJ]at HC
  exact xV
def ajc s n L f t a(hl:L.length<=1001)(hL:∀i(h:i<L.length),OfC L[i]):OfC (.mk 2 s n L f t a):=by
 intro w kb fb cb mb ns Q v h hp hQ hn;have e:aH ns (.mk 2 s n L f t a)=(.aJ s (aA ns L).1,(aA ns L).2):=by simp[aH,fy]
 rw[e]at hn⊢
 cases hp with
 |up s n L f t at_ x y x' y' sa sc vs hu aM hr hx hy=>
 clear hx hy;have bN:Bq w (w.alloc<|Cv #[Iv x,Iv y,Iv x',Iv y',Sv s,Lv sa L.length sc] 166):=bw _
 have HC:=ai (Gt (Q:=Q) s (xk<|xk hu) L sa sc vs hl (h.af bN) hQ
  (aM.imp id λq=>by
   obtain⟨g,q1,q2,q3,q4⟩:=q
   exact⟨g,q1,q2,bB,λi hi=>(xt (a:=⟨g,i,none⟩)<|bN.block g q3).trans<|q4 i hi⟩)
  (λi hi=>(hr i hi).af bN) hL hn)
 rw[eM hu]at HC;clear aM hr;exact xV
def aeR nd(h:sI nd):OfC nd:=by
 induction h with
 |var s n f t a=>exact M6 s n f t a|two k s n x y f t a hk hx hy dH gJ=>
  obtain rfl|rfl:=hk
  .exact Yv (xm ⟨rfl,rfl,rfl⟩) s n x y f t a dH gJ
  .exact Yv (xk ⟨rfl,rfl,rfl⟩) s n x y f t a dH gJ
 |up s n L f t a hw hl hL ih=>exact ajc s n L f t a hl ih
def xW:Cq 33 #[] w λe w'=>e=.returned (.func (.func 47) #[] #[Pv w.heap.size])/\w'=w.alloc (.cells #[Iv 0] 3):=by
 go_enter func33,ntmps33
 go_wp2
 go_ret;exact⟨rfl,rfl⟩
def QF cb(hB:Bx w cb #[Iv 0]):Cq 32 #[.func (.func 47) #[] #[Pv cb]] w λe w'=>∃kb fb mb,e=.returned (nmV kb fb)/\NM w' kb fb cb mb []/\Bq w w'/\w.heap.size<=mb:=by
 have iN:= @run_makeMap Tryz.prog;have z:=hB.z;have HB:=ai hB;go_enter func32,ntmps32
 go_wp2
 go_ret;have bN:=(((zv w.heap.size w).alloc (br _)<|Cv #[.func (.func 47) #[] #[Pv cb]] 72).alloc ag<|.map #[] 0).alloc bB<|Cv #[Mv<|w.heap.size+1] 97;refine⟨w.heap.size+1+1,w.heap.size,w.heap.size+1,rfl,⟨?_,?_,?_,?_,ag,ag,ae⟩,bN,ae⟩
 .have:=Bx.new ((w.alloc<|Cv #[.func (.func 47) #[] #[Pv cb]] 72).alloc<|.map #[] 0) #[Mv<|w.heap.size+1] 97;simpa using this
 .exact((Bx.new w _ _).alloc _).alloc _
 .exact((HB.alloc _).alloc _).alloc _
 .have:=(MS.new Sv<|w.alloc<|Cv #[.func (.func 47) #[] #[Pv cb]] 72).below<|bw<|Cv #[Mv<|w.heap.size+1] 97;simpa[Wn]using this
end
section
open Go.ChangeMaps Go.MapKept Un
structure WC where
 (eb cb rb mb nb fV:Nat)
 mks:jl
 nl:List BA
abbrev afU(c:WC):Array Value:=#[.func (.func 47) #[] #[Pv c.cb],Mv c.rb,Mv c.mb,Mv c.nb]
def uy w b:=∃L,MG zx w b L/\aX iu L=some (.func (.func 124) #[] #[])/\aX dW L=some (.func (.func 124) #[] #[])/\aX gq L=some (.func (.func 124) #[] #[])/\aX dX L=some (.func (.func 125) #[] #[])
def Yw w P(sa:Option Addr)l:=l=[]\/∃(g:Nat)(vs:Nat->Value),sa=some ⟨g,0,none⟩/\P g/\g<w.heap.size/\∀i(h:i<l.length),w.cell? ⟨g,i,none⟩=some (vs i)/\dB w P l[i] (vs i)
def VT w P tk m(v:Value):=∃sa sc ta xa,v=.agg #[.slice sa tk.length sc,.iface ta xa]/\Yw w P sa tk/\dB w P m (.iface ta xa)
def mN w P b(mk:jl):=∃L,MG zx w b L/\(∀x,aX x L=none->mk x=none)/\∀x v,aX x L=some v->∃tk m,mk x=some (tk,m)/\VT w P tk m v
abbrev dn(c:WC)i:=i≠c.cb
structure WE w c cnt:Prop where
 bx:Bx w c.eb (afU c)
 ct:Bx w c.cb #[Nv cnt]
 rs:uy w c.rb
 ms:mN w (λi=>i≠c.cb/\i<c.fV) c.mb c.mks
 d:c.eb≠c.cb/\c.rb≠c.cb/\c.mb≠c.cb
 l:c.eb<c.fV/\c.cb<c.fV/\c.rb<c.fV/\c.mb<c.fV/\c.fV<=w.heap.size
section
variable {c:WC} {cnt:Nat}
theorem Yw.move{sa}{l}(h:Yw w P sa l)(hs:w.heap.size<=w'.heap.size)(hb:∀b,P b->b<w.heap.size->w'.heap[b]? =w.heap[b]?)(hq:∀b,P b->b<w.heap.size->Q b):Yw w' Q sa l:=by
 obtain h|⟨g,vs,h1,h2,h3,h4⟩:=h
 .exact xm h
 .exact xk ⟨g,vs,h1,hq g h2 h3,zd h3 hs,λi hi=>⟨(xt (a:=⟨g,i,none⟩)<|hb g h2 h3).trans (h4 i hi).1,(h4 i hi).2.move hs hb hq⟩⟩
theorem mN.move{b}{mk}(h:mN w P b mk)(hs:w.heap.size<=w'.heap.size)(bN:w'.heap[b]? =w.heap[b]?)(hb:∀b,P b->b<w.heap.size->w'.heap[b]? =w.heap[b]?)(hq:∀b,P b->b<w.heap.size->Q b):mN w' Q b mk:=by
 obtain⟨L,h1,h2,h3⟩:=h;refine⟨L,h1.same bN,h2,λx v hx=>?_⟩;obtain⟨tk,m,e,sa,sc,ta,xa,rfl,q1,q2⟩:=h3 x v hx;exact⟨tk,m,e,sa,sc,ta,xa,rfl,q1.move hs hb hq,q2.move hs hb hq⟩
def mN.lt{b}{mk}(h:mN w P b mk):b<w.heap.size:=qAr
def uy.same{b}(h:uy w b)(hb:w'.heap[b]? =w.heap[b]?):uy w' b:=qAs
def uy.lt{b}(h:uy w b):b<w.heap.size:=qAr
def WE.fr(h:WE w c cnt)(hf:Fr (λi=>i=c.cb\/c.fV<=i) w w'){aB}(hc:Bx w' c.cb #[Nv aB]):WE w' c aB:=by
 have⟨l1,l2,l3,l4,l5⟩:=h.l;have⟨d1,d2,d3⟩:=h.d;exact⟨h.bx.fr hf ae,hc,h.rs.same<|hf.block _ h.rs.lt ae,h.ms.move hf.size (hf.block _ h.ms.lt ae) (λb p z=>hf.block b z ae)<|λ_ p _=>p,h.d,⟨l1,l2,l3,l4,xw l5 hf.size⟩⟩
def Fr.fV{S T}(h:Fr S w w')(hs:∀i,S i->T i):Fr T w w':=⟨h.os,h.tape,h.output,h.size,λk hk hn=>h.block k hk λq=>hn<|hs k q⟩
def WE.frc(h:WE w c cnt)(hf:Fr (λi=>i=c.cb) w w')(hc:Bx w' c.cb #[Nv aB]):WE w' c aB:=h.fr (hf.fV λ_ q=>xm q) hc
def WE.one{b}(h:WE w c cnt)(o:One b w w')(hb:c.fV<=b):WE w' c cnt:=h.fr ⟨o.os,o.tape,o.output,LB,λi _ hi=>o.block i λe=>hi<|xk<|e▸hb⟩ (h.ct.one o (by have:=h.l;omega))
def WE.af(h:WE w c cnt)(hb:Bq w w'):WE w' c cnt:=h.frc (Fr.of hb)<|h.ct.below hb
def WE.dh(h:WE w c cnt):c.cb<w.heap.size:=h.ct.z
end
def us cnt n:=1<=n/\n<=cnt
section
variable {c:WC} {cnt:Nat}
def oD n(hn:n<=1000000)(h:Bx w cb #[Nv n]):Cq 47 #[Pv cb] w λe w'=>e=.returned (Iv<|(n:Int)+1)/\w'=w.setCell ⟨cb,0,none⟩ (Iv<|(n:Int)+1):=by
 obtain⟨c,f,z⟩:=h;go_enter func47,ntmps47
 go_wp2
 go_ret;exact⟨rfl,rfl⟩
def WE.fresh(h:WE w c cnt):WE (w.setCell ⟨c.cb,0,none⟩<|Iv<|(cnt:Int)+1) c (cnt+1)/\Fr (λi=>i=c.cb) w (w.setCell ⟨c.cb,0,none⟩<|Iv<|(cnt:Int)+1):=by
 have F:Fr (λi=>i=c.cb) w (w.setCell ⟨c.cb,0,none⟩<|Iv<|(cnt:Int)+1):=(Fr.refl (λi=>i=c.cb) w).set (b:=c.cb) (xm rfl) 0 _;have:=h.ct.aP 0 (Iv<|(cnt:Int)+1) #[Iv<|(cnt:Int)+1] rfl ag;exact⟨h.frc F<|by simpa using this,F⟩
def qD cnt(l:List Nat)v:=if v∈l then some (cnt+1+l.idxOf v)else none
def anD(cnt:Nat)(l:List Nat)(j:Nat)(v:Nat):Option Ty:=if v∈l.take j then some (.var<|cnt+1+l.idxOf v)else none
def IZ{v v'}(hv:v∈l)(hv':v'∈l)(e:l.idxOf v=l.idxOf v'):v=v':=by
 have h1:=List.getElem_idxOf<|List.idxOf_lt_length_iff.2 hv;have h2:=List.getElem_idxOf<|List.idxOf_lt_length_iff.2 hv';simp only[e]at h1;exact h1.symm.trans h2
def CI(cnt:Nat)(l:List Nat)(hn:l.Nodup){u:Nat->Prop}(hu:∀n,u n->us cnt n):qk l j9 (qD cnt l) u (λn=>u n\/(cnt<n/\n<=cnt+l.length)) where
 gC v n h:=Mn
 out v h:=by simp[qD,h,j9]
 all v h:=by simp[qD,h]
 new v n _ h q:=by
  have:=hu n q;rw[qD]at h;split at h
  .injection h with h;rw[us]at this;omega
  .cases h
 one v v' n _ h1 h2:=by
  rw[qD]at h1 h2;split at h1<;>split at h2
  .injection h1 with h1;injection h2 with h2;rename_i a b;exact IZ a b ae
  .cases h2
  .cases h1
  .cases h1
 use n:=by
  constructor
  .rintro(h|h)
   .exact xm h
   .right;have hi:n-cnt-1<l.length:=ae;refine⟨l[n-cnt-1],rfl,?_⟩;rw[qD];rw[if_pos<|qu hi,hn.idxOf_getElem (n-cnt-1) hi];congr 1;omega
  .rintro(h|⟨v,_,h⟩)
   .exact xm h
   .rw[qD]at h;split at h
    .rename_i hv;injection h with h;have:=List.idxOf_lt_length_iff.2 hv;exact xk ae
    .cases h
def ajd c cnt l w gk v wr:=
 ∃j:Nat,Hid (gk=l.length-j)/\j<=l.length/\v=Nv j/\WE wr c (cnt+j)/\fe wr (λi=>i≠c.cb/\i≠w.heap.size) w.heap.size (anD cnt l j)/\Fr (λi=>i=c.cb) w wr/\Hid (w.heap.size<wr.heap.size)
def I0 c cnt l w(e:Ending)w':=
 ∃b,e=.returned (Mv b)/\w.heap.size<=b/\WE w' c (cnt+l.length)/\fe w' (dn c) b (λv=>(qD cnt l v).map Ty.var)/\Fr (λi=>i=c.cb) w w'
def Yx(h:WE w c cnt)(hv:qP w (dn c) sa l)(hn:l.Nodup)(hz:cnt+l.length<=1000000):Cq 349 #[Pv c.eb,.slice sa l.length sc] w (I0 c cnt l w):=by
 have iN:= @run_makeMap Tryz.prog;have k1:Bq w (w.alloc<|.map #[] 0):=bw _;have zc:=h.dh;have W1:=h.af k1;have ak_:=ai h.l.2.2.2.2;have S1:=fe.new w<|λi=>i≠c.cb/\i≠w.heap.size;have K1:=ai k1;go_enter func349,ntmps349
 go_wp2
 go_loopg[11] l.length (λgk v wr=>ajd c cnt l w gk v wr)
 case atStart=>
  refine⟨0,ai ag,xy _,rfl,W1,?_,Fr.of K1,ai ag⟩;have e:anD cnt l 0=λ_=>none:=by funext v;simp[anD]
  rw[e];exact S1
 case round=>
  obtain⟨j,cR,hj,rfl,HW,HS,HF,hzz⟩:=hrel;by_cases aY:j<l.length
  .have hd:(j:Int)<(l.length:Int):=ae;obtain⟨g,rfl,hg,iP,bM⟩:=hv.resolve_left<|λe=>qBs;have cg:=(xt (a:=⟨g,j,none⟩)<|HF.block g iP hg).trans<|bM j aY;obtain⟨m,hm⟩:∃m,Hid<|m=cnt+j:=⟨_,ai rfl⟩;rw[<-uh hm]at HW;have HC:=oD m (by have:=uh hm;omega) HW.ct;have⟨HW2,F2⟩:=HW.fresh;have S3:=HS.fr F2 (λe=>ae)<|λi p _=>p.1;have⟨c1,f1,z1⟩:=HW.bx;have xF:=HF.trans F2;have nz:=HW.d.1;have ZZ:w.heap.size<(wr.setCell ⟨c.cb,0,none⟩<|Iv<|(m:Int)+1).heap.size:=(by have:=uh hzz;simp[World.setCell];exact this);have T3:cW (wr.setCell ⟨c.cb,0,none⟩<|Iv<|(m:Int)+1) (λi=>i≠c.cb/\i≠w.heap.size) (.var<|m+1) (Fv 98<|Iv<|(m:Int)+1):=(by have:=cW.var (w:=wr.setCell ⟨c.cb,0,none⟩<|Iv<|(m:Int)+1) (P:=λi=>i≠c.cb/\i≠w.heap.size)<|m+1;simpa using this);generalize hx:l[j]=xx at*;go_wp2_with fail;refine HC.mono ?_;rintro e w3⟨rfl,rfl⟩;go_wp2_with(refine kP il rfl _ _ _ (xk rfl) rfl S3 (λq=>q.2 rfl) T3 xx rfl rfl ?_;intro w4 H' O';have S4:=ai H';have O4:=ai O';clear H' O');go_roundg(l.length-(j+1))
   case measure=>rw[uh cR];omega
   case rel=>
    have o:=uh O4;have em:=uh hm;have fo:Fr (λi=>i=w.heap.size) (wr.setCell ⟨c.cb,0,none⟩<|Iv<|(m:Int)+1) w4:=⟨o.os,o.tape,o.output,LB,λi _ hi=>o.block i hi⟩;refine⟨j+1,ai rfl,ae,iK,?_,?_,?_,ai (by rw[o.size];exact ZZ)⟩
    .have hw:=HW2;have e:cnt+(j+1)=m+1:=ae;rw[e];exact hw.one o ak_
    .have e:anD cnt l (j+1)=dR (anD cnt l j) xx (some<|.var<|m+1):=by
      funext v;rw[anD,dR];have agl:v∈l.take (j+1)↔v∈l.take j\/v=xx:=by rw[qs aY,hx,xf,xh]
      by_cases q:v=xx
      .subst q;have:l.idxOf v=j:=by rw[<-hx];exact hn.idxOf_getElem j aY
       rw[if_pos<|agl.2<|xk rfl,if_pos rfl,this,em];congr 2;omega
      .rw[if_neg q];by_cases r:v∈l.take j
       .rw[if_pos<|agl.2<|xm r];exact(if_pos r).symm
       .rw[if_neg<|λh=>(agl.1 h).elim r q];exact(if_neg r).symm
     rw[e];exact S4
    .have f:=xF;exact⟨o.os.trans f.os,o.tape.trans f.tape,o.output.trans f.output,by rw[o.size];exact f.size,λi hi hni=>(o.block i ae).trans<|f.block i hi hni⟩
  .have hd:decide ((j:Int)<(l.length:Int))=false:=bB;have ej:j=l.length:=ae;subst ej
   go_wp2
   go_ret;refine⟨w.heap.size,rfl,br _,HW,?_,HF⟩;have e:anD cnt l l.length=λv=>(qD cnt l v).map Ty.var:=by
    funext v;rw[anD,qD];rw[List.take_length];by_cases q:v∈l
    .rw[if_pos q,if_pos q];rfl
    .rw[if_neg q,if_neg q];rfl
   rw[<-e];exact HS.wide λi p=>p.1
structure WK w c cnt(s:jd)kb:Prop where
 k:KW w (dn c) kb s.k
 n:kb≠c.cb
 u:∀n,s.u n->us cnt n
 ok:In.Ok s
 wh:∀n,Whole<|s.k n
def M7{cnt}(hn:l.Nodup)(h:∀n,n∈l->us cnt n):l.length<=cnt:=by
 have:=DV (V:=(List.range cnt).map (·+1)) hn λx hx=>by
  have q:=h x hx;rw[us]at q;exact List.mem_map.2 ⟨x-1,List.mem_range.2 ae,ae⟩
 simpa using this
def WK.D5(h:WK w c cnt s kb)(hc:cnt<=1000000)(h1:1<=cnt\/True):vN s.k where
 wh:=h.wh
 len n:=by
  by_cases q:s.u n
  .refine xw (M7 (cH _ xi) λm hm=>?_) hc;exact h.u m (h.ok.use n m q<|by simpa using(bK (s.k n) [] m).1 hm)
  .rw[h.ok.out n q];simp[vars,Un.seen]
structure WG w c s Λ(Γ:jc)gb:Prop where
 e:bP w (dn c) gb Γ
 n:gb≠c.cb
 i:jx Λ s Γ
 nd:∀y d,Γ y=some d->d.any.Nodup
 dm:∀x,Γ x≠none->x∈c.nl
def jU w:(zeroValue 467).run xn w=.ok (.agg #[.nilIface,.slice none 0 0]) w:=qkr
def Yy c(d:qn)f t(s:jd)cnt w(e:Ending)w':=Fr (λi=>i=c.cb) w w'/\
 ((48<size (sub s.k d.of)/\WE w' c cnt/\e=.panicked [{v:=guW ⟨7,f,t⟩ .nilIface .nilIface,recovered:=false}])\/
  (size (sub s.k d.of)<=48/\WE w' c (cnt+d.any.length)/\∃ta xa,e=.returned (.iface ta xa)/\cW w' (dn c) (sub (jm<|qD cnt d.any)<|sub s.k d.of) (.iface ta xa)))
def QG cnt l:DQ (λv=>(qD cnt l v).map Ty.var)=jm (qD cnt l):=by
 funext v;show((qD cnt l v).map Ty.var).getD (.var v)=_;rw[jm]
 cases qD cnt l v<;>rfl
mutual
def iz(ρ:ju):∀t,size (sub (jm ρ) t)=size t
 |.var n=>by simp only[sub,jm];split<;>simp[size]|.aJ c l=>by simp only[sub,size,CJ ρ l]
def CJ(ρ:ju):∀l,ah (aS (jm ρ) l)=ah l
 |[]=>rfl|t::l=>by simp only[aS,ah,iz ρ t,CJ ρ l]
end
def pB(ρ:ju)t(h:Whole t):Whole (sub (jm ρ) t):=bZ t h λn _=>by rw[jm];split<;>trivial
end
abbrev CL(f:Fl)(vl vr:Value):Ending:=.panicked [{v:=guW f vl vr,recovered:=false}]
def agm(c:WC)(S:Nat)(s:jd)(cnt:Nat)(w':World)(aB:Nat)(e:Ending)(o:Except j7 (Ty×jd)):Prop:=match o with
 |.ok (T,s')=>(∀n,s'.u n->s.u n\/(cnt<n/\n<=aB))/\(∀n,Whole<|s'.k n)/\∃ta xa kb,e=.returned (.tuple #[.iface ta xa,Mv kb])/\kb≠c.cb/\KW w' (dn c) kb s'.k/\TW w' (dn c) S T (.iface ta xa)|.error z=>∃vl vr,e=CL z.f vl vr/\qO w' (dn c) z vl vr
def ba c S D(p:ji Ty)(s:jd)cnt w e w':=Fr (λi=>i=c.cb) w w'/\∃aB o,cnt<=aB/\aB<=cnt+D/\WE w' c aB/\p s o/\agm c S s cnt w' aB e o
structure Fit(c:WC)cnt n:Prop where
 a:cnt+1000*n<=850000
 b:n<=805
 l:c.nl.length<=1000000
def Fit.le{c:WC}{cnt n'}(h:Fit c cnt n)(h1:aB+1000*n'<=cnt+1000*n)(h2:n'<=n):Fit c aB n':=⟨by have:=h.a;omega,by have:=h.b;omega,h.l⟩
section
variable {c:WC} {cnt:Nat}
def WG.fr{s'}(h:WG w c s Λ Γ gb)(hf:Fr (λi=>i=c.cb) w w')(hr:In.LQ Λ s s'):WG w' c s' Λ Γ gb:=⟨h.e.fr hf h.n<|λ_ p _=>p,h.n,h.i.run hr,h.nd,h.dm⟩
def WG.af(h:WG w c s Λ Γ gb)(hb:Bq w w'):WG w' c s Λ Γ gb:=⟨h.e.af hb,h.n,h.i,h.nd,h.dm⟩
def WK.af(h:WK w c cnt s kb)(hb:Bq w w'):WK w' c cnt s kb:=⟨h.k.af hb,h.n,h.u,h.ok,h.wh⟩
structure Eg(w w1:World)c ak(s s1:jd)(Λ:Nat->Prop)iQ:Prop where
 k:WK w1 c ak s1 iQ
 n:∀n,¬s1.u n->Λ n
 p:qf Λ s s1
def Yz(hk:WK w c cnt s kb)(hn:∀n,¬s.u n->Λ n)(hg:WG w c s Λ Γ gb)(hp:jf mk x Γ s (.ok (T,s1)))(hu:∀n,s1.u n->s.u n\/(cnt<n/\n<=ak))(pi:cnt<=ak)(hw:∀n,Whole<|s1.k n)(h4:iQ≠c.cb)(h5:KW w1 (dn c) iQ s1.k):Eg w w1 c ak s s1 Λ iQ/\jk Λ s1 T:=by
 have⟨g1,g2⟩:=In.lU mk x Γ s Λ hk.ok hn hg.i T s1 hp;exact⟨⟨⟨h5,h4,λn q=>by obtain r|r:=hu n q;have:=hk.u n r;unfold us at*;omega;rw[us];omega,g1.ok,hw⟩,g1.new,g1⟩,g2⟩
def mW c cnt(s:jd)Λ x y f t w e w':=Bq w w'/\∃o,jo x y f t s o/\match o with
 |.ok (_,s')=>qf Λ s s'/\∃b,e=.returned (Mv b)/\WK w' c cnt s' b|.error z=>∃vl vr,e=CL z.f vl vr/\qO w' (dn c) z vl vr
def Eh{p:Prop}(h:p:=by
 obtain⟨_,q'⟩|⟨_,_,⟨θ,_,q'⟩|⟨_,q'⟩⟩:=ho
 .cases q'
 .grind
 .cases q'):p:=h
def aje(h:WE w c cnt)(hk:WK w c cnt s kb)(hn:∀n,¬s.u n->Λ n)(hc:cnt<=1000000)(hS:S<=900000){x:Ty}(hx:TW w (dn c) S x v)(hy:TW w (dn c) S y u)(tx:jk Λ s x)(ty:jk Λ s y)f t:
 Cq 324 #[Mv kb,v,u,.agg #[Nv f,Nv t]] w (mW c cnt s Λ x y f t w):=by
 have zc:=h.dh;refine(Hi hk.k hk.n (hk.D5 hc<|xk trivial) hS hx hy f t s.u).mono ?_;rintro e w1⟨k1,o,ho,hm⟩;refine⟨k1,o,ho,?_⟩
 cases o with
 |ok q=>
  obtain⟨b,rfl,hb,hK,hW⟩:=hm;have⟨g1,_⟩:=In.gZ (s:=s) hk.ok hn tx ty f t q.1 q.2 ho;have hu:q.2.u=s.u:=by
   exact Eh
  exact⟨g1,b,rfl,⟨hK.wide λi p=>by obtain p|p:=p;exact p;show i≠c.cb;omega,ae,λn q=>hk.u n<|hu▸q,g1.ok,hW⟩⟩
 |error z=>
  obtain⟨vl,vr,rfl,hF⟩:=hm;refine⟨vl,vr,rfl,hF.rK,λq=>?_,hF.k⟩;have wd:∀i,(dn c i\/w.heap.size<=i)->dn c i:=λi p=>by obtain p|p:=p;exact p;show i≠c.cb;omega
  exact⟨(hF.apart q).1.wide wd,(hF.apart q).2.wide wd⟩
def agn(s:jd)x y:=size (sub s.k x)<=48/\size (sub s.k y)<=48/\∃σ,sub σ (sub s.k x)=sub σ (sub s.k y)
def BE c cnt(s:jd)Λ x y f t w(e:Ending)w':=∃b,e=.returned (Mv b)/\Bq w w'/\∃s',jo x y f t s (.ok ((),s'))/\qf Λ s s'/\WK w' c cnt s' b/\s'.u=s.u
def YA c(s:jd)x y f t w e w':=∃fl vl vr,e=CL fl vl vr/\Bq w w'/\∃z,z.f=fl/\jo x y f t s (.error z)/\qO w' (dn c) z vl vr
def mW.ok{x y}{f t}{e}(h:mW c cnt s Λ x y f t w e w')(hc:agn s x y):BE c cnt s Λ x y f t w e w':=by
 obtain⟨k1,o,ho,hm⟩:=h;obtain⟨a1,a2,σ,a3⟩:=hc
 cases o with
 |ok q=>
  obtain⟨g,b,rfl,hk⟩:=hm;refine⟨b,rfl,k1,q.2,ho,g,hk,?_⟩;exact Eh
 |error z=>
  exfalso;obtain⟨r,_⟩|⟨_,_,⟨θ,_,q'⟩|⟨r,_⟩⟩:=ho
  .omega
  .cases q'
  .exact r σ a3
def mW.no{x:Ty}(h:mW c cnt s Λ x y f t w e w')(hc:¬agn s x y):YA c s x y f t w e w':=by
 obtain⟨k1,o,ho,hm⟩:=h
 cases o with
 |ok q=>
  exfalso;obtain⟨_,q'⟩|⟨a1,a2,⟨θ,YB,q'⟩|⟨_,q'⟩⟩:=ho
  .cases q'
  .exact hc ⟨a1,a2,θ,YB.one⟩
  .cases q'
 |error z=>
  obtain⟨vl,vr,rfl,hF⟩:=hm;exact⟨z.f,vl,vr,rfl,k1,z,rfl,ho,hF⟩
end
mutual
def pC:Nd->List BA
 |.mk k s _ L _ _ _=>if k=1 then[s]else mX L
def mX:List Nd->List BA
 |[]=>[]|x::l=>pC x++mX l
end
inductive rN(mk:jl)(nl:List BA):Nd->Prop where
 |leaf(k:Nat)(s:BA)(n f t a:Nat)(h:k=15\/k=3\/k=4\/k=5):rN mk nl (.mk k s n [] f t a)
 |low(s:BA)(n f t a:Nat)(h:s∈nl):rN mk nl (.mk 1 s n [] f t a)
 |pr(s:BA)(n:Nat)(x y:Nd)(f t a:Nat)(hx:rN mk nl x)(hy:rN mk nl y):rN mk nl (.mk 6 s n [x,y] f t a)
 |up(s:BA)(n:Nat)(L:List Nd)(f t a:Nat)(tk:List Ty)(m:Ty)(h:mk s=some (tk,m))(hl:L.length=tk.length)(hr:∀i(h:i<L.length),rN mk nl L[i]):rN mk nl (.mk 2 s n L f t a)
inductive ScE(mk:jl)(nl:List BA):(BA->Prop)->Nd->Prop where
 |low(dom:BA->Prop)(s:BA)(n f t a:Nat)(h:dom s):ScE mk nl dom (.mk 1 s n [] f t a)
 |up(dom:BA->Prop)(s:BA)(n f t a:Nat)(tk:List Ty)(m:Ty)(h:mk s=some (tk,m)):ScE mk nl dom (.mk 2 s n [] f t a)
 |leaf(dom:BA->Prop)(k:Nat)(s:BA)(n f t a:Nat)(h:k=3\/k=4\/k=5):ScE mk nl dom (.mk k s n [] f t a)
 |two(dom:BA->Prop)(k:Nat)(s:BA)(n:Nat)(x y:Nd)(f t a:Nat)(h:k=6\/k=7\/k=8)(hx:ScE mk nl dom x)(hy:ScE mk nl dom y):ScE mk nl dom (.mk k s n [x,y] f t a)
 |of(dom:BA->Prop)(s:BA)(n:Nat)(x y:Nd)(f t a:Nat)(hx:ScE mk nl dom x)(hv:vars [] (aH []<|es y).1=[])(hz:size (aH []<|es y).1<=1000)(hw:Whole (aH []<|es y).1):ScE mk nl dom (.mk 14 s n [x,y] f t a)
 |fn(dom:BA->Prop)(s:BA)(n:Nat)(x:Nd)(f t a:Nat)(hs:s∈nl)(hx:ScE mk nl (λv=>dom v\/v=s) x):ScE mk nl dom (.mk 9 s n [x] f t a)
 |lt(dom:BA->Prop)(c:Nat)(s:BA)(n:Nat)(x z:Nd)(f t a:Nat)(hs:s∈nl)(hc:c=10\/c=11)(hx:ScE mk nl (λv=>dom v\/(c=11/\v=s)) x)(hz:ScE mk nl (λv=>dom v\/v=s) z):ScE mk nl dom (.mk c s n [x,z] f t a)
 |ite(dom:BA->Prop)(s:BA)(n:Nat)(x y z:Nd)(f t a:Nat)(hx:ScE mk nl dom x)(hy:ScE mk nl dom y)(hz:ScE mk nl dom z):ScE mk nl dom (.mk 12 s n [x,y,z] f t a)
 |mt(dom:BA->Prop)(s:BA)(n:Nat)(x:Nd)(A:List (Nd×Nd))(f t a:Nat)(hx:ScE mk nl dom x)(hp:∀i(h:i<A.length),rN mk nl A[i].1)(he:∀i(h:i<A.length),ScE mk nl (λv=>dom v\/v∈pC A[i].1) A[i].2):ScE mk nl dom (.mk 13 s n (x::aU A) f t a)
structure MkFine(mk:jl):Prop where
 sz:∀x tk m,mk x=some (tk,m)->size (jp tk m)<=1000
 wh:∀x tk m,mk x=some (tk,m)->Whole (jp tk m)
 vs:∀x tk m,mk x=some (tk,m)->∀n,aD n (jp tk m)->aD n m
structure CO nd c w cnt(s:jd)kb(Λ:Nat->Prop)(Γ:jc)gb Q dom v:Prop where
 we:WE w c cnt
 wk:WK w c cnt s kb
 hn:∀n,¬s.u n->Λ n
 wg:WG w c s Λ Γ gb
 pe:PE w Q nd v
 hq:∀b,Q b->b≠c.cb
 sc:ScE c.mks c.nl dom nd
 hd:∀x,dom x->Γ x≠none
 ft:Fit c cnt (nn nd)
 mf:MkFine c.mks
def Bh nd:=∀(c:WC)(w:World)(cnt:Nat)(s:jd)(kb:Nat)(Λ:Nat->Prop)(Γ:jc)(gb:Nat)(Q:Nat->Prop)(dom:BA->Prop)(v:Value),CO nd c w cnt s kb Λ Γ gb Q dom v->
 Cq 323 #[Pv c.eb,Mv kb,Mv gb,v] w (ba c (1100*nn nd) (1000*nn nd) (jf c.mks nd Γ) s cnt w)
section
variable {c:WC} {cnt:Nat}
def CO.part(h:CO nd c w cnt s kb Λ Γ gb Q dom v)(hb:Bq w w1)(hp:PE w Q x u)(hs:ScE c.mks c.nl dom x)(hx:nn x<=nn nd):CO x c w1 cnt s kb Λ Γ gb Q dom u:=
 ⟨h.we.af hb,h.wk.af hb,h.hn,h.wg.af hb,hp.af hb,h.hq,hs,h.hd,h.ft.le ae hx,h.mf⟩
end
section
variable {c:WC} {cnt:Nat}
def I1(mk:jl)s n x y f t a(Γ:jc):jf mk (.mk 8 s n [x,y] f t a) Γ=ja (jf mk x Γ) λa=>ja (jf mk y Γ) λb=>ja j5 λv=>ja (jo a (qd b<|.var v) f t) λ_=>jj<|.var v:=by simp[jf,jy,j6,j8]
def zQ(h:WK w c cnt s kb)(hn:∀n,¬s.u n->Λ n)(hf:Fr (λi=>i=c.cb) w w1):j5 s (.ok (cnt+1,⟨s.k,λn=>s.u n\/n=cnt+1⟩))/\Eg w w1 c (cnt+1) s ⟨s.k,λn=>s.u n\/n=cnt+1⟩ Λ kb/\jk Λ ⟨s.k,λn=>s.u n\/n=cnt+1⟩ (.var<|cnt+1):=by
 have hm:j5 s (.ok (cnt+1,⟨s.k,λn=>s.u n\/n=cnt+1⟩)):=⟨cnt+1,λq=>by have:=h.u _ q;rw[us]at this;omega,rfl⟩;have⟨g1,g2,_⟩:=In.kV h.ok hn _ _ hm;exact⟨hm,⟨⟨h.k.fr hf h.n<|λ_ p _=>p,h.n,λn q=>by obtain q|q:=q;have:=h.u n q;unfold us at*;omega;rw[us];omega,g1.ok,h.wh⟩,g1.new,g1⟩,g2⟩
def aeS:CN nB:=xm rfl
def YC:nB≠rH:=by grind[rH]
def YD:lj≠rH:=by grind[rH]
def TW.fn{a b}(ha:TW w (dn c) S1 a va)(hb:TW w (dn c) S2 b vb)(hc:c.cb<w.heap.size):TW (w.alloc<|.cells #[va,vb] 67) (dn c) (1+S1+S2) (qd a b) (.iface 169<|.agg #[.string<|pn nB,.slice (some ⟨w.heap.size,0,none⟩) 2 2]):=by
 obtain⟨⟨x1,y1,e1,z1⟩,wx⟩:=ha;obtain⟨⟨x2,y2,e2,z2⟩,wy⟩:=hb;exact⟨⟨.aJ nB [x1,x2],mK.ty aeS y1 y2 (by show w.heap.size≠c.cb;omega),cZ.af4 nB YC e1 e2,by simp only[size,ah];omega⟩,⟨YC,wx,wy,trivial⟩⟩
def acF{s}{a b}(ha:jk Λ s a)(hb:jk Λ s b):jk Λ s (qd a b):=by
 refine⟨λn q=>?_,λn q=>?_⟩
 .simp only[aD,bT,or_false]at q;exact q.elim (ha.use n)<|hb.use n
 .simp only[sub,aS,aD,bT,or_false]at q;exact q.elim (ha.loc n)<|hb.loc n
def mW.or{x}(h:mW c cnt s Λ x y f t w e w'):YA c s x y f t w e w'\/BE c cnt s Λ x y f t w e w':=by
 by_cases hc:agn s x y
 .exact xk (h.ok hc)
 .exact xm (h.no hc)
end
section
variable {c:WC} {cnt:Nat}
def M_(mk:jl)s n x f t a(Γ:jc):jf mk (.mk 9 s n [x] f t a) Γ=ja j5 λv=>ja (jf mk x<|jq Γ s<|qg<|.var v) λa=>jj<|qd (.var v) a:=by simp[jf,jy,j6,j8]
def pD w c n S(h:1<=S):TW w (dn c) S (.var<|n+1) (.iface 98<|Iv<|(n:Int)+1):=TW.of (x:=.var<|n+1) (by have:=cW.var (w:=w) (P:=dn c)<|n+1;simpa using this) trivial (by simpa[size]using h)
def I4(h:TW w (dn c) S T (.iface ta xa))(hS:S<=900000):nL w (dn c) (qg T) (.agg #[.iface ta xa,.slice none 0 0]):=⟨ta,xa,none,0,rfl,h.le hS,xm rfl⟩
def WG.set{w':World}{YE:Nat}{d:qn}{x:BA}(h:WG w c s Λ Γ gb)(he:bP w' (dn c) YE (jq Γ x d))(hn:YE≠c.cb)(hi:In.sJ Λ s d)(hd:d.any.Nodup)(hx:x∈c.nl):WG w' c s Λ (jq Γ x d) YE where
 e:=he
 n:=hn
 i:=h.i.set x hi
 nd y d' q:=by
  rw[jq]at q;split at q
  .grind
  .exact h.nd y d' q
 dm y q:=by
  rw[jq]at q;split at q
  .rename_i e;rw[e];exact hx
  .exact h.dm y q
def Ei{x}(h:∀y,dom y->Γ y≠none):∀y,(dom y\/y=x)->jq Γ x d y≠none:=λy q=>by
 rw[jq];split
 .simp
 .grind
end
structure acG(c:WC)S D(m:ji Ty)(s:jd)cnt w(ak:Nat)(T:Ty)(s1:jd)(ta:TypeId)(xa:Value)(iQ:Nat)(w':World):Prop where
 F:Fr (λi=>i=c.cb) w w'
 c1:cnt<=ak
 c2:ak<=cnt+D
 we:WE w' c ak
 m:m s (.ok (T,s1))
 u:∀n,s1.u n->s.u n\/(cnt<n/\n<=ak)
 wh:∀n,Whole<|s1.k n
 n:iQ≠c.cb
 k:KW w' (dn c) iQ s1.k
 t:TW w' (dn c) S T (.iface ta xa)
structure ago{α:Type}(c:WC)D(m:ji α)(s:jd)cnt w(ak:Nat)(z:j7)(vl vr:Value)(w':World):Prop where
 F:Fr (λi=>i=c.cb) w w'
 c1:cnt<=ak
 c2:ak<=cnt+D
 we:WE w' c ak
 m:m s (.error z)
 f:qO w' (dn c) z vl vr
section
variable {c:WC} {cnt:Nat} {m:ji α} {g:α->ji Ty} {a:α}
def QH{p:Prop}(h:p:=by
 split
 .obtain⟨q1,q2⟩:=h5;refine⟨λn q=>?_,q2⟩;obtain r|r:=q1 n q
  .grind
  .omega
 .exact h5):p:=h
def ba.and(h:ba c S D1 (g a) s1 ak w1 e w')(hm:m s (.ok (a,s1)))(hf:Fr (λi=>i=c.cb) w w1)(hc:cnt<=ak)(hu:∀n,s1.u n->s.u n\/(cnt<n/\n<=ak))(hD:ak+D1<=cnt+D):ba c S D (ja m g) s cnt w e w':=by
 obtain⟨F,aB,o,h1,h2,h3,h4,h5⟩:=h;refine⟨hf.trans F,aB,o,ae,ae,h3,xk ⟨a,s1,hm,h4⟩,?_⟩;unfold agm at*;exact QH
def I6{p:Prop}(h:p:=by
 obtain⟨vl,vr,rfl,hF⟩:=h5
 exact xm ⟨aB,z,vl,vr,rfl,F,h1,h2,h3,h4,hF⟩):p:=h
def ba.split{m}(h:ba c S D m s cnt w e w'):(∃ak z vl vr,e=CL z.f vl vr/\ago c D m s cnt w ak z vl vr w')\/(∃ak T s1 ta xa iQ,e=.returned (.tuple #[.iface ta xa,Mv iQ])/\acG c S D m s cnt w ak T s1 ta xa iQ w'):=by
 obtain⟨F,aB,o,h1,h2,h3,h4,h5⟩:=h;obtain z|⟨T,s1⟩:=o
 .exact I6
 .obtain⟨q1,q2,ta,xa,kb,rfl,q3,q4,q5⟩:=h5;exact xk ⟨aB,T,s1,ta,xa,kb,rfl,F,h1,h2,h3,h4,q1,q2,q3,q4,q5⟩
def ago.post{z}(h:ago c D1 m s cnt w0 ak z vl vr w')(hf:Fr (λi=>i=c.cb) w w0)(hD:D1<=D):ba c S D (ja m g) s cnt w (CL z.f vl vr) w':=⟨hf.trans h.F,ak,.error z,h.c1,by have:=h.c2;omega,h.we,xm ⟨z,h.m,rfl⟩,vl,vr,rfl,h.f⟩
def QI(hw:WE w c cnt)(hk:WK w c cnt s kb)(ht:TW w (dn c) S T (.iface ta xa))(hb:Fr (λi=>i=c.cb) w0 w):ba c S D (jj T) s cnt w0 (.returned<|.tuple #[.iface ta xa,Mv kb]) w:=⟨hb,cnt,.ok (T,s),br _,ae,hw,rfl,λn q=>xm q,hk.wh,ta,xa,kb,rfl,hk.n,hk.k,ht⟩
def YA.post{x:Ty}(h:YA c s x y f t w0 e w')(hw:WE w0 c cnt)(hf:Fr (λi=>i=c.cb) w w0){g}:∃fl vl vr,e=CL fl vl vr/\ba c S D (ja (jo x y f t) g) s cnt w e w':=by
 obtain⟨fl,vl,vr,rfl,k6,z,rfl,he,hF⟩:=h;exact⟨z.f,vl,vr,rfl,hf.trans<|Fr.of k6,cnt,.error z,br _,ae,hw.af k6,xm ⟨z,he,rfl⟩,vl,vr,rfl,hF⟩
def BE.up{x:Ty}(h:BE c cnt s Λ x y f t w0 e w')(hb:Bq w w0):BE c cnt s Λ x y f t w e w':=by
 obtain⟨b,h1,h2,h3⟩:=h;exact⟨b,h1,hb.trans<|h2.mono hb.size,h3⟩
def Eg.and{w2}{cD kb2}{s2}(h:Eg w w1 c ak s s1 Λ iQ)(k:Eg w1 w2 c cD s1 s2 Λ kb2):Eg w w2 c cD s s2 Λ kb2:=⟨k.k,k.n,h.p.trans k.p⟩
def acG.step{mk}{x}{T}{ta}{xa}(q:acG c S D (jf mk x Γ) s cnt w0 ak T s1 ta xa iQ w1)(hk:WK w c cnt s kb)(hn:∀n,¬s.u n->Λ n)(hg:WG w c s Λ Γ gb):Eg w w1 c ak s s1 Λ iQ/\jk Λ s1 T:=Yz hk hn hg q.m q.u q.c1 q.wh q.n q.k
def Cl c S D(p:ji Ty)(s:jd)cnt w D1(p1:ji Ty)(s1:jd)ak w1:=∀e w',ba c S D1 p1 s1 ak w1 e w'->ba c S D p s cnt w e w'
def Cl.refl c S D(p:ji Ty)(s:jd)cnt w:Cl c S D p s cnt w D p s cnt w:=λ_ _ h=>h
def Cl.and{p}{w2}{cD}{s2}(h:Cl c S D p s cnt w D1 (ja m g) s1 ak w1)(hm:m s1 (.ok (a,s2)))(hf:Fr (λi=>i=c.cb) w1 w2)(hc:ak<=cD)(hu:∀n,s2.u n->s1.u n\/(ak<n/\n<=cD)){D2}(hD:cD+D2<=ak+D1):Cl c S D p s cnt w D2 (g a) s2 cD w2:=λe w' hh=>h e w'<|hh.and hm hf hc hu hD
def vV{k}(hu:nI k)w c S(h:1<=S):TW w (dn c) S (.aJ k []) (.iface 169<|.agg #[.string k,.slice none 0 0]):=by
 have q:=cW.aJ (w:=w) (P:=dn c) k [] none 0 (λ_=>Zv) (xm<|xk<|xk hu) (xm rfl)<|λi h=>tW;rw[eM hu]at q;exact TW.of q ⟨λe=>by obtain⟨a,r,h1,h2⟩:=hu;rw[e,show rH.toList=[116,111,111,32,108,97,114,103,101]from toList_mk _]at h1;injection h1 with h1 _;subst h1;revert h2;decide,trivial⟩ (by simpa[size,ah]using h)
def uz k:jk Λ s (.aJ k []):=⟨λn q=>by simp[aD,bT]at q,λn q=>by simp[sub,aS,aD,bT]at q⟩
end
section
variable {c:WC} {cnt:Nat}
def QJ(mk:jl)s n x y z f t a(Γ:jc):jf mk (.mk 12 s n [x,y,z] f t a) Γ=ja (jf mk x Γ) λa=>ja (jo a In.oE (jt x)<|jv x) λ_=>ja (jf mk y Γ) λb=>ja (jf mk z Γ) λc=>ja (jo b c (jt z)<|jv z) λ_=>jj b:=by simp[jf,jy,j6,j8,In.iU]
end
section
variable {c:WC} {cnt:Nat} {p:ji Ty}
def ba.below(h:ba c S D p s cnt w0 e w')(hb:Bq w w0):ba c S D p s cnt w e w':=⟨(Fr.of hb).trans h.1,h.2⟩
def Dsp w c cnt(s:jd)kb gb S D(p:ji Ty)fn T xs:=
 (∀W:World,Bq w W->Cq fn #[Pv c.eb,Mv kb,Mv gb,.agg xs] W (ba c S D p s cnt W))->
  Cq 323 #[Pv c.eb,Mv kb,Mv gb,.iface T<|.agg xs] w (ba c S D p s cnt w)
def I7:
 (∀{tx ty ax ay},Dsp w c cnt s kb gb S D p 336 309 #[Nv f,Nv t,.iface tx ax,.iface ty ay])/\
 (∀{tx ty ax ay},Dsp w c cnt s kb gb S D p 337 311 #[Nv f,Nv t,.iface tx ax,.iface ty ay])/\
 (∀{tx ty ax ay},Dsp w c cnt s kb gb S D p 343 319 #[Nv f,Nv t,.iface tx ax,.iface ty ay])/\
 (∀{a y:Nat}{st tx ax},Dsp w c cnt s kb gb S D p 338 313 #[Nv f,Nv t,Nv a,Nv y,.string st,.iface tx ax])/\
 (∀{a y:Nat}{rc st tx tz ax az},Dsp w c cnt s kb gb S D p 339 315 #[Nv f,Nv t,.bool rc,Nv a,Nv y,.string st,.iface tx ax,.iface tz az])/\
 (∀{tx ty tz ax ay az},Dsp w c cnt s kb gb S D p 340 317 #[Nv f,Nv t,.iface tx ax,.iface ty ay,.iface tz az])/\
 (∀{n sc sa tx ax},Dsp w c cnt s kb gb S D p 341 201 #[Nv f,Nv t,.iface tx ax,.slice sa n sc])/\
 (∀{st tx ty ax ay},Dsp w c cnt s kb gb S D p 342 297 #[Nv f,Nv t,.string st,.iface tx ax,.iface ty ay]):=by
 refine⟨?_,?_,?_,?_,?_,?_,?_,?_⟩;all_goals
  intros;intro H;go_enter func323,ntmps323;go_wp2_with fail;refine(H _<|bw _).mono ?_;intro e w1 hp;have HP:=ai<|hp.below<|bw _;obtain⟨ak,zz,vl,vr,rfl,q⟩|⟨ak,T1,s1,yO,yP,iQ,rfl,q⟩:=hp.split
  .go_wp2
   exact⟨rfl,HP⟩
  .go_wp2
   go_ret2;exact HP
def YF(hw:WE w c cnt)(hk:WK w c cnt s kb)(hS:1<=S):
 (∀n:Nat,Cq 323 #[Pv c.eb,Mv kb,Mv gb,.iface 326<|.agg #[Nv f,Nv t,Nv n]] w<|ba c S D (jj<|.aJ qL []) s cnt w)/\
 (∀n:Bool,Cq 323 #[Pv c.eb,Mv kb,Mv gb,.iface 321<|.agg #[Nv f,Nv t,.bool n]] w<|ba c S D (jj<|.aJ jL []) s cnt w)/\
 Cq 323 #[Pv c.eb,Mv kb,Mv gb,.iface 324<|.agg #[Nv f,Nv t]] w (ba c S D (jj<|.aJ iM []) s cnt w):=by
 have HW:=ai hw;have HK:=ai hk;clear hw hk;refine⟨λn=>?_,λn=>?_,?_⟩;all_goals
  go_enter func323,ntmps323;go_wp2_with fail;first|refine rX.mono ?_|refine nY.mono ?_|refine yE.mono ?_
  rintro e w1⟨rfl,rfl⟩
  go_wp2
  go_ret2;have k0:=(zv w.heap.size w).alloc<|br _;first|exact QI (HW.af<|k0 _) (HK.af<|k0 _) (vV mJ _ c _ hS) (Fr.of<|k0 _)|exact QI (HW.af<|k0 _) (HK.af<|k0 _) (vV kN _ c _ hS) (Fr.of<|k0 _)|exact QI (HW.af<|k0 _) (HK.af<|k0 _) (vV rY _ c _ hS)<|Fr.of<|k0 _
end
abbrev pV(c:WC)gv i:=i≠c.cb/\i≠gv
structure CQ w c gv cnt(s:jd)kb:Prop where
 k:KW w (pV c gv) kb s.k
 n:pV c gv kb
 u:∀n,s.u n->us cnt n
 ok:In.Ok s
 wh:∀n,Whole<|s.k n
section
variable {c:WC} {cnt:Nat}
def CQ.wk(h:CQ w c gv cnt s kb):WK w c cnt s kb:=⟨h.k.wide λ_ p=>p.1,h.n.1,h.u,h.ok,h.wh⟩
def CQ.of(h:WK w c cnt s kb)(hg:w.heap.size<=gv):CQ w c gv cnt s kb:=⟨h.k.move (br _) rfl (λ_ _ _=>rfl) (λi p z=>⟨p,ae⟩),⟨h.n,by have:=h.k.lt;omega⟩,h.u,h.ok,h.wh⟩
def CQ.fr(h:CQ w c gv cnt s kb)(hf:Fr (λi=>i=c.cb\/i=gv) w w'):CQ w' c gv cnt s kb:=⟨h.k.fr hf (λq=>q.elim h.n.1 h.n.2)<|λi p _ q=>q.elim p.1 p.2,h.n,h.u,h.ok,h.wh⟩
def CQ.af(h:CQ w c gv cnt s kb)(hb:Bq w w'):CQ w' c gv cnt s kb:=h.fr<|Fr.of hb
def ajf c gv cnt(s:jd)Λ x y f t w(e:Ending)w':=∃b,e=.returned (Mv b)/\Bq w w'/\∃s',jo x y f t s (.ok ((),s'))/\qf Λ s s'/\CQ w' c gv cnt s' b/\s'.u=s.u
def ajg(h:WE w c cnt)(hg:gv<w.heap.size)(hk:CQ w c gv cnt s kb)(hn:∀n,¬s.u n->Λ n)(hc:cnt<=1000000)(hS:S<=900000){x}(hx:TW w (pV c gv) S x v)(hy:TW w (pV c gv) S y u)(tx:jk Λ s x)(ty:jk Λ s y)f t:
 Cq 324 #[Mv kb,v,u,.agg #[Nv f,Nv t]] w (λe w'=>YA c s x y f t w e w'\/ajf c gv cnt s Λ x y f t w e w'):=by
 have zc:=h.dh;refine(Hi hk.k hk.n (hk.wk.D5 hc<|xk trivial) hS hx hy f t s.u).mono ?_;rintro e w1⟨k1,o,ho,hm⟩
 cases o with
 |ok q=>
  obtain⟨b,rfl,hb,hK,hW⟩:=hm;have⟨g1,_⟩:=In.gZ (s:=s) hk.ok hn tx ty f t q.1 q.2 ho;have hu:q.2.u=s.u:=by
   exact Eh
  exact xk ⟨b,rfl,k1,q.2,ho,g1,⟨hK.wide λi p=>by obtain p|p:=p;exact p;exact⟨ae,ae⟩,⟨ae,ae⟩,λn q=>hk.u n<|hu▸q,g1.ok,hW⟩,hu⟩
 |error z=>
  obtain⟨vl,vr,rfl,hF⟩:=hm;refine xm ⟨z.f,vl,vr,rfl,k1,z,rfl,ho,hF.rK,λq=>?_,hF.k⟩;have wd:∀i,(pV c gv i\/w.heap.size<=i)->dn c i:=λi p=>by obtain p|p:=p;exact p.1;show i≠c.cb;omega
  exact⟨(hF.apart q).1.wide wd,(hF.apart q).2.wide wd⟩
end
def ajh(c:WC)(gv S:Nat)(s:jd)(cnt:Nat)(w':World)(aB:Nat)(e:Ending)(o:Except j7 ((Ty×jc)×jd)):Prop:=match o with
 |.ok ((T,g'),s')=>(∀n,s'.u n->s.u n\/(cnt<n/\n<=aB))/\(∀n,Whole<|s'.k n)/\∃ta xa kb,e=.returned (.tuple #[.iface ta xa,Mv kb])/\pV c gv kb/\KW w' (pV c gv) kb s'.k/\TW w' (pV c gv) S T (.iface ta xa)/\bP w' (pV c gv) gv g'|.error z=>∃vl vr,e=CL z.f vl vr/\qO w' (dn c) z vl vr
def d_ c gv S D(p:ji (Ty×jc))(s:jd)cnt w e w':=Fr (λi=>i=c.cb\/i=gv) w w'/\∃aB o,cnt<=aB/\aB<=cnt+D/\WE w' c aB/\p s o/\ajh c gv S s cnt w' aB e o
structure PaA nd c w cnt(s:jd)kb(Λ:Nat->Prop)g gv Q v:Prop where
 we:WE w c cnt
 wk:CQ w c gv cnt s kb
 hn:∀n,¬s.u n->Λ n
 e:bP w (pV c gv) gv g
 i:jx Λ s g
 l:c.fV<=gv
 pp:PP w Q nd v
 hq:∀b,Q b->b≠c.cb/\b≠gv
 sc:rN c.mks c.nl nd
 ft:Fit c cnt (nn nd)
 mf:MkFine c.mks
def YG nd:=∀(c:WC)(w:World)(cnt:Nat)(s:jd)(kb:Nat)(Λ:Nat->Prop)(g:jc)(gv:Nat)(Q:Nat->Prop)(v:Value),PaA nd c w cnt s kb Λ g gv Q v->
 Cq 353 #[Pv c.eb,Mv kb,Mv gv,v] w (d_ c gv (1100*nn nd) (1000*nn nd) (jh c.mks nd g) s cnt w)
section
variable {c:WC} {cnt:Nat}
def aeT(hw:WE w c cnt)(hk:CQ w c gv cnt s kb)(ht:TW w (pV c gv) S T (.iface ta xa))(he:bP w (pV c gv) gv g)(hb:Fr (λi=>i=c.cb\/i=gv) w0 w):d_ c gv S D (jj (T,g)) s cnt w0 (.returned<|.tuple #[.iface ta xa,Mv kb]) w:=⟨hb,cnt,.ok ((T,g),s),br _,ae,hw,rfl,λn q=>xm q,hk.wh,ta,xa,kb,rfl,hk.n,hk.k,ht,he⟩
def aji{k}(hu:nI k)w c gv S(h:1<=S):TW w (pV c gv) S (.aJ k []) (.iface 169<|.agg #[.string k,.slice none 0 0]):=TW.of (GF w _ hu) ⟨λe=>by obtain⟨a,r,h1,h2⟩:=hu;rw[e,show rH.toList=[116,111,111,32,108,97,114,103,101]from toList_mk _]at h1;injection h1 with h1 _;subst h1;revert h2;decide,trivial⟩ (by simpa[size,ah]using h)
def Ej w c gv n S(h:1<=S):TW w (pV c gv) S (.var<|n+1) (.iface 98<|Iv<|(n:Int)+1):=TW.of (x:=.var<|n+1) (by have:=cW.var (w:=w) (P:=pV c gv)<|n+1;simpa using this) trivial (by simpa[size]using h)
end
def Ek(hq:k=3/\cn=qL\/k=4/\cn=jL\/k=5/\cn=iM)st n f t a:YG (.mk k st n [] f t a):=by
 intro c w cnt s kb Λ g gv Q v h;have hu:nI cn:=by obtain⟨-,rfl⟩|⟨-,rfl⟩|⟨-,rfl⟩:=hq;exact mJ;exact kN;exact rY
 have en:nn (.mk k st n [] f t a)=1:=qBi;have ep:jh c.mks (.mk k st n [] f t a) g=jj (.aJ cn [],g):=by obtain⟨rfl,rfl⟩|⟨rfl,rfl⟩|⟨rfl,rfl⟩:=hq<;>simp[jh,jz]
 rw[en,ep];have hp:=h.pp;obtain⟨T,xs,rfl,hv⟩:∃T xs,v=Fv T (Av xs)/\(T=326/\cn=qL/\(∃n:Nat,xs=#[Nv f,Nv t,Nv n])\/T=321/\cn=jL/\(∃n:Bool,xs=#[Nv f,Nv t,.bool n])\/T=324/\cn=iM/\xs=#[Nv f,Nv t]):=by
  obtain⟨rfl,rfl⟩|⟨rfl,rfl⟩|⟨rfl,rfl⟩:=hq
  .cases hp;exact⟨_,_,rfl,xm ⟨rfl,rfl,_,rfl⟩⟩
  .cases hp;exact⟨_,_,rfl,xk<|xm ⟨rfl,rfl,_,rfl⟩⟩
  .cases hp;exact⟨_,_,rfl,xk<|xk ⟨rfl,rfl,rfl⟩⟩
 have k0:=(zv w.heap.size w).alloc (br _)<|Cv xs T;have HW:=h.we.af k0;have HK:=h.wk.af k0;have HE:=h.e.af k0;have K0:=ai k0;clear hq hp ep;obtain⟨rfl,rfl,n,rfl⟩|⟨rfl,rfl,n,rfl⟩|⟨rfl,rfl,rfl⟩:=hv;all_goals
  go_enter func353,ntmps353;go_wp2_with fail;first|refine rX.mono ?_|refine nY.mono ?_|refine yE.mono ?_
  rintro e w1⟨rfl,rfl⟩
  go_wp2
  go_ret2;exact aeT HW HK (aji hu _ c gv _ ae) HE<|Fr.of K0
def agp st n f t a:YG (.mk 15 st n [] f t a):=by
 intro c w cnt s kb Λ g gv Q v h;have en:nn (.mk 15 st n [] f t a)=1:=qBi;have ep:jh c.mks (.mk 15 st n [] f t a) g=ja j5 λv=>jj (.var v,g):=by simp[jh,jz]
 rw[en,ep];obtain⟨-,rfl⟩:∃_:Unit,v=Fv 337 (Av #[Nv f,Nv t]):=by cases h.pp;exact⟨(),rfl⟩
 have k0:Bq w (w.alloc<|Cv #[Nv f,Nv t] 337):=bw _;have zc:=h.we.dh;have VR:=h.ft.a;rw[en]at VR;have W0:=ai<|h.we.af k0;have⟨e1,e2,e3⟩:=h.we.bx;have HF:=oD cnt ae (h.we.af k0).ct;have HA:=ai h;have K0:=ai k0;have lg:=h.e.lt;have ll:=h.l;have lc:=h.we.l;clear h k0;go_enter func353,ntmps353;go_wp2_with fail;refine HF.mono ?_;rintro e w3⟨rfl,YH⟩;have⟨qW,F3⟩:=W0.fresh;rw[<-YH]at qW F3;clear YH HF e1 e2 e3;have h:=uh HA;have LS:=(Fr.of (S:=λi=>i=c.cb) K0).trans F3;have⟨BG,st3,ty3⟩:=zQ h.wk.wk h.hn LS;have FG:=LS.fV (T:=λi=>i=c.cb\/i=gv) λ_ q=>Or.inl q;have HW3:=ai qW;have FF:=ai FG;have HNW:=ai BG;have agq:=ai LS;clear h F3 LS FG BG st3 ty3 qW
 go_wp2
 go_ret2;have h:=uh HA;have k3:=h.wk.fr FF;exact⟨FF,cnt+1,.ok ((.var<|cnt+1,g),⟨s.k,λn=>s.u n\/n=cnt+1⟩),ae,ae,HW3,xk ⟨cnt+1,_,HNW,rfl⟩,λn q=>q.imp id λq=>ae,h.wk.wh,_,_,kb,rfl,k3.n,k3.k,Ej _ c gv cnt _ ae,h.e.move FF.size (agq.block _ h.e.lt ae) (λb p z=>FF.block b z<|λq=>q.elim p.1 p.2)<|λ_ p _=>p⟩
def agr st n f t a:YG (.mk 1 st n [] f t a):=by
 intro c w cnt s kb Λ g gv Q v h;have en:nn (.mk 1 st n [] f t a)=1:=qBi;have ep:jh c.mks (.mk 1 st n [] f t a) g=ja j5 λv=>jj (.var v,jq g st<|qg<|.var v):=by simp[jh,jz]
 have dU:=jU;rw[en,ep];obtain⟨-,rfl⟩:∃_:Unit,v=Fv 356 (Av #[Nv f,Nv t,Sv st]):=by cases h.pp;exact⟨(),rfl⟩
 have⟨k0,B0⟩:=nK w #[Nv f,Nv t,Sv st] 356;have zc:=h.we.dh;have VR:=h.ft.a;rw[en]at VR;have W0:=h.we.af k0;have⟨e1,e2,e3⟩:=h.we.bx;have HF:=oD cnt ae (h.we.af k0).ct;have HA:=ai h;have K0:=ai k0;have lg:=h.e.lt;have ll:=h.l;have lc:=h.we.l;clear h k0;go_enter func353,ntmps353;go_wp2_with fail;refine HF.mono ?_;rintro e w3⟨rfl,YH⟩;have⟨HW3,F3⟩:=W0.fresh;rw[<-YH]at HW3 F3;clear YH HF e1 e2 e3;have h:=uh HA;have LS:=(Fr.of (S:=λi=>i=c.cb) K0).trans F3;have⟨HNW,st3,ty3⟩:=zQ h.wk.wk h.hn LS;have FF:=LS.fV (T:=λi=>i=c.cb\/i=gv) λ_ q=>Or.inl q;have E3:=h.e.move (Q:=pV c gv) LS.size (LS.block _ h.e.lt ae) (λb p z=>LS.block b z p.1)<|λ_ p _=>p;have C3:nL w3 (pV c gv) (In.mono<|.var<|cnt+1) (Av #[Fv 98<|Iv<|(cnt:Int)+1,Lv none 0 0]):=⟨_,_,none,0,rfl,Ej w3 c gv cnt _ ae,Or.inl rfl⟩;have⟨b1,b2,b3⟩:=B0.fr F3 ae;clear h F3 LS st3 ty3 B0;go_wp2_with(refine oe rfl _ _ _ (Or.inr rfl) rfl E3 (λq=>q.2 rfl) C3 st rfl rfl ?_;intro w4 H' O';have S4:=ai H';have O4:=ai O';clear H' O');go_ret2;have h:=uh HA;have o:=uh O4;have F4:Fr (λi=>i=c.cb\/i=gv) w3 w4:=⟨o.os,o.tape,o.output,LB,λi _ hi=>o.block i λe=>hi<|Or.inr e⟩;have k3:=h.wk.fr<|FF.trans F4
 exact⟨FF.trans F4,cnt+1,.ok ((.var<|cnt+1,jq g st<|qg<|.var<|cnt+1),⟨s.k,λn=>s.u n\/n=cnt+1⟩),ae,ae,HW3.one o ae,xk ⟨cnt+1,_,HNW,rfl⟩,λn q=>q.imp id λq=>ae,h.wk.wh,_,_,kb,rfl,k3.n,k3.k,Ej _ c gv cnt _ ae,S4⟩
structure acH(c:WC)gv S D(m:ji (Ty×jc))(s:jd)cnt w(ak:Nat)(T:Ty)(g1:jc)(s1:jd)(ta:TypeId)(xa:Value)(iQ:Nat)(w':World):Prop where
 F:Fr (λi=>i=c.cb\/i=gv) w w'
 c1:cnt<=ak
 c2:ak<=cnt+D
 we:WE w' c ak
 m:m s (.ok ((T,g1),s1))
 u:∀n,s1.u n->s.u n\/(cnt<n/\n<=ak)
 wh:∀n,Whole<|s1.k n
 n:pV c gv iQ
 k:KW w' (pV c gv) iQ s1.k
 t:TW w' (pV c gv) S T (.iface ta xa)
 e:bP w' (pV c gv) gv g1
structure acI{α:Type}(c:WC)gv D(m:ji α)(s:jd)cnt w(ak:Nat)(z:j7)(vl vr:Value)(w':World):Prop where
 F:Fr (λi=>i=c.cb\/i=gv) w w'
 c1:cnt<=ak
 c2:ak<=cnt+D
 we:WE w' c ak
 m:m s (.error z)
 f:qO w' (dn c) z vl vr
section
variable {c:WC} {cnt:Nat} {m:ji α} {gg:α->ji (Ty×jc)} {a:α}
def d_.split{m}(h:d_ c gv S D m s cnt w e w'):(∃ak z vl vr,e=CL z.f vl vr/\acI c gv D m s cnt w ak z vl vr w')\/(∃ak T g1 s1 ta xa iQ,e=.returned (.tuple #[.iface ta xa,Mv iQ])/\acH c gv S D m s cnt w ak T g1 s1 ta xa iQ w'):=by
 obtain⟨F,aB,o,h1,h2,h3,h4,h5⟩:=h;obtain z|⟨⟨T,g1⟩,s1⟩:=o
 .exact I6
 .obtain⟨q1,q2,ta,xa,kb,rfl,q3,q4,q5,q6⟩:=h5;exact xk ⟨aB,T,g1,s1,ta,xa,kb,rfl,F,h1,h2,h3,h4,q1,q2,q3,q4,q5,q6⟩
def acI.post{z}(h:acI c gv D1 m s cnt w0 ak z vl vr w')(hf:Fr (λi=>i=c.cb\/i=gv) w w0)(hD:D1<=D):d_ c gv S D (ja m gg) s cnt w (CL z.f vl vr) w':=⟨hf.trans h.F,ak,.error z,h.c1,by have:=h.c2;omega,h.we,xm ⟨z,h.m,rfl⟩,vl,vr,rfl,h.f⟩
def d_.and(h:d_ c gv S D1 (gg a) s1 ak w1 e w')(hm:m s (.ok (a,s1)))(hf:Fr (λi=>i=c.cb\/i=gv) w w1)(hc:cnt<=ak)(hu:∀n,s1.u n->s.u n\/(cnt<n/\n<=ak))(hD:ak+D1<=cnt+D):d_ c gv S D (ja m gg) s cnt w e w':=by
 obtain⟨F,aB,o,h1,h2,h3,h4,h5⟩:=h;refine⟨hf.trans F,aB,o,ae,ae,h3,xk ⟨a,s1,hm,h4⟩,?_⟩;unfold ajh at*;exact QH
def PCl c gv S D(p:ji (Ty×jc))(s:jd)cnt w D1(p1:ji (Ty×jc))(s1:jd)ak w1:=∀e w',d_ c gv S D1 p1 s1 ak w1 e w'->d_ c gv S D p s cnt w e w'
def PCl.refl c gv S D(p:ji (Ty×jc))(s:jd)cnt w:PCl c gv S D p s cnt w D p s cnt w:=λ_ _ h=>h
def PCl.and{p}{w2}{cD}{s2}(h:PCl c gv S D p s cnt w D1 (ja m gg) s1 ak w1)(hm:m s1 (.ok (a,s2)))(hf:Fr (λi=>i=c.cb\/i=gv) w1 w2)(hc:ak<=cD)(hu:∀n,s2.u n->s1.u n\/(ak<n/\n<=cD)){D2}(hD:cD+D2<=ak+D1):PCl c gv S D p s cnt w D2 (gg a) s2 cD w2:=λe w' hh=>h e w'<|hh.and hm hf hc hu hD
end
section
variable {c:WC} {cnt:Nat}
def PaA.part(h:PaA nd c w cnt s kb Λ g gv Q v)(hb:Bq w w1)(hp:PP w Q x u)(hs:rN c.mks c.nl x)(hx:nn x<=nn nd):PaA x c w1 cnt s kb Λ g gv Q u:=
 ⟨h.we.af hb,h.wk.af hb,h.hn,h.e.af hb,h.i,h.l,hp.af hb,h.hq,hs,h.ft.le ae hx,h.mf⟩
structure ajj w1 c gv ak(s s1:jd)(Λ:Nat->Prop)iQ(g1:jc)T:Prop where
 k:CQ w1 c gv ak s1 iQ
 n:∀n,¬s1.u n->Λ n
 p:qf Λ s s1
 i:jx Λ s1 g1
 t:jk Λ s1 T
def acH.step{mk}{w0}{T}{ta}{xa}(q:acH c gv S D (jh mk x g) s cnt w0 ak T g1 s1 ta xa iQ w1)(hk:CQ w c gv cnt s kb)(hn:∀n,¬s.u n->Λ n)(hi:jx Λ s g):ajj w1 c gv ak s s1 Λ iQ g1 T:=by
 have⟨g1',g2,g3⟩:=In.uA mk x g s Λ hk.ok hn hi _ s1 q.m;exact⟨⟨q.k,q.n,λn p=>by obtain r|r:=q.u n p;have:=hk.u n r;have:=q.c1;unfold us at*;omega;rw[us];omega,g1'.ok,q.wh⟩,g1'.new,g1',g3,g2⟩
end
section
variable {c:WC} {cnt:Nat}
def PaA.next(h:PaA nd c w cnt s kb Λ g gv Q v)(hf:Fr (λi=>i=c.cb\/i=gv) w w1)(hw:WE w1 c ak)(st:ajj w1 c gv ak s0 s1 Λ iQ g1 T)(he:bP w1 (pV c gv) gv g1)(hp:PP w Q x u)(hs:rN c.mks c.nl x)(hz:ak+1000*nn x<=cnt+1000*nn nd)(hx:nn x<=nn nd):PaA x c w1 ak s1 iQ Λ g1 gv Q u:=
 ⟨hw,st.k,st.n,he,st.i,h.l,hp.move hf.size (λb p z=>hf.block b z λq=>q.elim (h.hq b p).1 (h.hq b p).2)<|λ_ p _=>p,h.hq,hs,h.ft.le hz hx,h.mf⟩
def YI(mk:jl)s n x y f t a(g:jc):jh mk (.mk 6 s n [x,y] f t a) g=ja (jh mk x g) λa=>ja (jh mk y a.2) λb=>jj (ql a.1 b.1,b.2):=by simp[jh,jz,qh,j8]
end
def ajk st n f t a{y}(Hx:YG x)(Hy:YG y):YG (.mk 6 st n [x,y] f t a):=by
 intro c w cnt s kb Λ g gv Q v h;have en:nn (.mk 6 st n [x,y] f t a)=1+nn x+nn y:=LG;rw[YI];obtain⟨sx,sy⟩:rN c.mks c.nl x/\rN c.mks c.nl y:=by
  cases h.sc with
  |pr _ _ _ _ _ _ _ hx hy=>exact⟨hx,hy⟩
 obtain⟨vx,vy,rfl,hx,HY⟩:∃vx vy,v=Fv 328 (Av #[Nv f,Nv t,vx,vy])/\PP w Q x vx/\PP w Q y vy:=by cases h.pp with|pr _ _ _ _ _ _ _ vx vy hx hy=>exact⟨vx,vy,rfl,hx,hy⟩
 have⟨k0,B0⟩:=nK w #[Nv f,Nv t,vx,vy] 328;have H1:=Hx c _ cnt s kb Λ g gv Q vx<|h.part k0 hx sx D8;have zc:=h.we.dh;have lg:=h.e.lt;have HA:=ai h;have C0:=PCl.refl c gv (1100*(1+nn x+nn y)) (1000*(1+nn x+nn y)) (In.andM (In.dY c.mks x g) λa=>In.andM (In.dY c.mks y a.2) λb=>In.cT (In.tPr a.1 b.1,b.2)) s cnt w;rw[en];have K0:=ai k0;obtain⟨tx,ax,rfl⟩:=hx.iface;obtain⟨ty,ay,rfl⟩:=HY.iface;go_enter func353,ntmps353;go_wp2_with fail;refine H1.mono ?_;intro e w1 hp;obtain⟨ak,zz,vl,vr,rfl,q⟩|⟨ak,T1,g1,s1,yO,yP,iQ,rfl,q⟩:=hp.split
 .have HP:=q.post (S:=1100*(1+nn x+nn y)) (D:=1000*(1+nn x+nn y)) (gg:=λa=>ja (jh c.mks y a.2) λb=>jj (ql a.1 b.1,b.2)) (Fr.of K0) ae
  go_wp2
  exact⟨rfl,HP⟩
 have h:=uh HA;have F01:=(Fr.of (S:=λi=>i=c.cb\/i=gv) K0).trans q.F;have c1:=q.c1;have c2:=q.c2;have ST1:=q.step h.wk h.hn h.i;have C1:=C0.and q.m F01 q.c1 q.u (D2:=1000*(1+nn y)) ae;have H2:=Hy c w1 ak s1 iQ Λ g1 gv Q _<|h.next F01 q.we ST1 q.e HY sy D8 D8;have B1:=B0.fr q.F ae;obtain⟨b1,b2,b3⟩:=B1;have Tk:=ai q.t;go_wp2_with fail;refine H2.mono ?_;intro e w2 hp;obtain⟨cD,zz,vl,vr,rfl,q⟩|⟨cD,T2,g2,s2,ta2,xa2,kb2,rfl,q⟩:=hp.split
 .have HP:=q.post (S:=1100*(1+nn x+nn y)) (D:=1000*(1+nn y)) (gg:=λb=>jj (ql T1 b.1,b.2)) (Fr.refl _ _) ae
  go_wp2
  exact⟨rfl,C1 _ _ HP⟩
 have c3:=q.c1;have c4:=q.c2;have C2:=C1.and q.m q.F q.c1 q.u (D2:=1000) ae;have st2:=q.step ST1.k ST1.n ST1.i;have T12:=Tk.move q.F.size (λb p z=>q.F.block b z λr=>r.elim p.1 p.2)<|λ_ p _=>p;have T2':=ai q.t;have K2':=ai st2.k;have E2:=ai q.e;have W2':=ai q.we;have z2:=q.we.dh;have lg2:=q.e.lt;have HP:=Pm (w:=w2) yO ta2 yP xa2;go_wp2_with fail;refine HP.mono ?_;rintro e w3⟨rfl,rfl⟩
 go_wp2
 go_ret2;have k3:Bq w2 (w2.alloc<|Cv #[Fv yO yP,Fv ta2 xa2] 67):=bw _;obtain⟨⟨x1,y1,e1,z1⟩,wx⟩:=T12;have⟨⟨x2,y2,e2,z2'⟩,wy⟩:=uh T2';refine C2 _ _ (aeT (W2'.af k3) (K2'.af k3) ⟨⟨.aJ lj [x1,x2],mK.ty (xk<|xm rfl) y1 y2 ⟨ae,ae⟩,cZ.af4 lj (by rw[lj,rH];intro e;simp at e) e1 e2,?_⟩,?_⟩ (E2.af k3) (Fr.of k3))
 .simp only[size,ah];omega
 .exact⟨by rw[lj,rH];intro e;simp at e,wx,wy,trivial⟩
section
variable {c:WC} {cnt:Nat}
def ags(h:WE w c cnt)(hk:WK w c cnt s kb)(hd:nL w (dn c) d v)(xK:d.any.Nodup)(hct:cnt<=1000000)(hz:size (sub s.k d.of)<=48->cnt+d.any.length<=1000000)f t:
 Cq 333 #[Pv c.eb,Mv kb,v,.agg #[Nv f,Nv t]] w (Yy c d f t s cnt w):=by
 have hf:=hk.D5 ae<|xk trivial;obtain⟨ta,xa,sa,sc,rfl,t1,T2⟩:=hd;have Gc:Whole (sub s.k d.of):=bZ _ t1.wh λn _=>hf.wh n;have k0:Bq w ((w.alloc<|Cv #[Fv ta xa,Lv sa d.any.length sc] 467).alloc<|Cv #[Nv f,Nv t] 131):=(bw _).alloc ag _;have B1:=(Bx.new w #[Fv ta xa,Lv sa d.any.length sc] 467).below<|bw<|Cv #[Nv f,Nv t] 131;have B2:Hid (Bx ((w.alloc<|Cv #[Fv ta xa,Lv sa d.any.length sc] 467).alloc<|Cv #[Nv f,Nv t] 131) (w.heap.size+1) #[Nv f,Nv t]):=by
  have:=Bx.new (w.alloc<|Cv #[Fv ta xa,Lv sa d.any.length sc] 467) #[Nv f,Nv t] 131;rw[aZ]at this;exact ai this
 have HO:=t_ (hk.k.af k0) hk.n hf (br _)<|t1.af k0;have hcz:=t1.Xd hf<|br _;have zc:=h.dh;have K0:=ai k0;clear hk t1 k0;go_enter func333,ntmps333;go_wp2_with fail;refine HO.mono ?_;rintro e w1⟨u,rfl,hu,k1⟩;have HS:=po _ w1 _ _ hu hcz;obtain⟨n1,LF⟩:∃n,n=sz (bG<|sub s.k d.of):=⟨_,rfl⟩;rw[<-LF]at HS;have E1:=DX (sub s.k d.of) Gc;rw[<-LF]at E1;obtain⟨tu,xu,rfl⟩:=hu.iface;have z0:=K0.size;simp only[aZ]at z0;have KK1:=K0.trans<|k1.mono K0.size;have U1:=hu.wide (Q:=dn c) λi p=>by obtain p|p:=p;exact p;simp only[aZ]at p;show i≠c.cb;omega
 have B3:=B1.below k1;have B4:=B2.below k1;clear hu k1 HO LF B1 B2;go_wp2_with fail;refine HS.mono ?_;rintro e w2⟨rfl,k2⟩;have Xe:=KK1.trans<|k2.mono KK1.size;have⟨c3,f3,z3⟩:=B3.below k2;have⟨c4,f4,z4⟩:=B4.below k2;have U2:=U1.af k2;clear k2 HS U1 B3 B4;by_cases TE:48<n1
 .have hm:(48:Int)<(n1:Int):=ae;have HT:=mM (w:=w2) (f:Int) (t:Int);go_wp2_with fail;refine HT.mono ?_;rintro e w3⟨rfl,K3⟩;clear HT;go_wp2_with fail;have Xf:=Xe.trans<|K3.mono Xe.size;exact⟨rfl,Fr.of Xf,xm ⟨E1.1.1 TE,h.af Xf,rfl⟩⟩
 .have hm:¬(48:Int)<(n1:Int):=ae;have hs:size (sub s.k d.of)<=48:=by have:=E1.1;omega
  have HA:=Yx (sc:=sc) (h.af Xe) (T2.move Xe.size (λi _ hi=>Xe.block i hi)<|λ_ p _=>p) xK<|hz hs;have Mb:=E1.2 hs;rw[Mb]at U2;go_wp2_with fail;refine HA.mono ?_;rintro e w3⟨b,rfl,hb,W3,hs3,F3⟩;have ev:=QG cnt d.any;have hu3:=U2.fr F3<|λi p _=>p;have I8:=GQ hs3 (show dn c b by have:=Xe.size;show b≠c.cb;omega) hu3 ae (by rw[ev,iz];omega);rw[ev]at I8;have hcut:bG (sub (jm<|qD cnt d.any)<|sub s.k d.of)=sub (jm<|qD cnt d.any) (sub s.k d.of):=yR (by rw[iz];exact hs)<|pB _ _ Gc;rw[hcut]at I8;have HF3:=(Fr.of Xe).trans F3;clear hs3 F3 HA ev hu3 hcut Mb;go_wp2_with fail;refine I8.mono ?_;rintro e w4⟨u4,rfl,U4,k4⟩;obtain⟨tu4,xu4,rfl⟩:=U4.iface;have K4:=ai k4;clear k4 I8
  go_wp2
  go_ret;have k4:=uh K4;have f3:=HF3;refine⟨f3.trans<|Fr.of k4,xk ⟨hs,W3.af k4,tu4,xu4,rfl,U4.wide λi p=>?_⟩⟩;obtain p|p:=p
  .exact p
  .show i≠c.cb;have:=f3.size;omega
end
section
variable {c:WC} {cnt:Nat}
def bP.look{P}{b}(h:bP w P b Γ){x}{d}(hx:Γ x=some d):∃v,nL w P d v/\(zh 216 (Mv b) (.string x) false).run xn w=.ok v w:=by
 obtain⟨L,h1,h2,h3⟩:=h;have hl:=h1.ms.look PL dV (jU w) x trivial (λ_ _=>trivial) false
 cases hg:aX x L with
 |none=>grind|some v=>
  rw[hg]at hl;have⟨d',e,hs⟩:=h3 x v hg;rw[hx]at e;injection e with e;subst e;exact⟨v,hs,by simpa using hl⟩
def YJ(h:In.sJ Λ s d)(hn:d.any.Nodup):d.any.length<=size (sub s.k d.of):=by
 have h1:=DV (V:=vars []<|sub s.k d.of) hn λv hv=>(bK (sub s.k d.of) [] v).2 (xk<|(lS d.of).2 ⟨v,h.sub v hv,by rw[(h.fix v hv).1];simp[aD]⟩);rw[cr]at h1;have h2:=cX (occs<|sub s.k d.of) [];have h3:=cY<|sub s.k d.of;simp only[ua]at h2;omega
def acJ(mk:jl)x n f t a{Γ}(h:Γ x=some d):jf mk (.mk 1 x n [] f t a) Γ=λs o=>(48<size (sub s.k d.of)/\o=.error (qr f t))\/(size (sub s.k d.of)<=48/\∃ρ s',In.sK d.any j9 s (.ok (ρ,s'))/\o=.ok (sub (jm ρ)<|sub s.k d.of,s')):=by
 simp[jf,jy,In.wY,h]
def YK{x}(h:CO (.mk 1 x n [] f t a) c w cnt s kb Λ Γ gb Q dom (.iface 356<|.agg #[Nv f,Nv t,.string x])):
 Cq 323 #[Pv c.eb,Mv kb,Mv gb,.iface 356<|.agg #[Nv f,Nv t,.string x]] w (ba c (1100*nn (.mk 1 x n [] f t a)) (1000*nn (.mk 1 x n [] f t a)) (jf c.mks (.mk 1 x n [] f t a) Γ) s cnt w):=by
 have en:nn (.mk 1 x n [] f t a)=1:=qBi;have hx:dom x:=by
  cases h.sc with
  |low _ _ _ _ _ _ hx=>exact hx|leaf _ _ _ _ _ _ _ hk=>omega
 obtain⟨d,hd⟩:∃d,Γ x=some d:=by
  cases hg:Γ x with
  |none=>exact absurd hg (h.hd x hx)|some d=>exact⟨d,rfl⟩
 rw[en,acJ c.mks x n f t a hd];have VR:=h.ft.a;rw[en]at VR;have xK:=h.wg.nd x d hd;have dU:=YJ (h.wg.i x d hd) xK;have k0:Bq w (w.alloc<|Cv #[Nv f,Nv t,Sv x] 356):=bw _;have⟨v,hv,xQ⟩:=(h.wg.af k0).e.look hd;have H1:=ags (h.we.af k0) (h.wk.af k0) hv xK ae (λq=>ae) f t;obtain⟨ta,xa,sa,sc,rfl,Mh,Th⟩:=hv;have HA:=ai h;have K0:=ai k0;have HWD:=ai Mh.wh;go_enter func323,ntmps323;go_wp2_with fail;refine H1.mono ?_;rintro e w1⟨F1,hp⟩;obtain⟨hb,HW,rfl⟩|⟨hs,HW,tb,xb,rfl,HT⟩:=hp
 .have FF:=ai F1
  go_wp2
  exact⟨rfl,(Fr.of K0).trans FF,cnt,.error<|qr f t,br _,ae,HW,xm ⟨hb,rfl⟩,Zv,Zv,rfl,λ_=>⟨rfl,rfl⟩,λq=>by simp[qr]at q,xk rfl⟩
 .have FF:=(Fr.of (S:=λi=>i=c.cb) K0).trans F1
  go_wp2
  go_ret2;have h:=uh HA;refine⟨FF,cnt+d.any.length,.ok (sub (jm<|qD cnt d.any)<|sub s.k d.of,⟨s.k,λn=>s.u n\/(cnt<n/\n<=cnt+d.any.length)⟩),ae,ae,HW,xk ⟨hs,_,_,⟨_,_,CI cnt d.any xK h.wk.u,rfl⟩,rfl⟩,λn q=>q,h.wk.wh,tb,xb,kb,rfl,h.wk.n,h.wk.k.fr FF h.wk.n<|λ_ p _=>p,TW.of HT ?_ ?_⟩
  .exact pB _ _ (bZ _ HWD λn _=>h.wk.wh n)
  .rw[iz];omega
end
section
variable {c:WC} {cnt:Nat}
def Ib{base}(h:gE w 98 base v (nZ l)):∃sa sc,v=.slice sa l.length sc/\qP w (λi=>base<=i) sa l:=by
 by_cases hl:l=[]
 .subst hl;have⟨va,vc,e⟩:=dK h (n:=0) (by simp[nZ]);exact⟨va,vc,e,xm rfl⟩
 .have ab9:0<(nZ l).length:=by rw[eU];exact Nat.pos_of_ne_zero<|λe=>hl<|List.eq_nil_of_length_eq_zero e
  obtain⟨g,cp,m,rfl,hg,iP,hm⟩:=ik h ab9;have hm:=uh hm;rw[eU]at hm;subst hm;refine⟨some ⟨g,0,none⟩,cp,rfl,xk ⟨g,rfl,hg,iP,λi hi=>?_⟩⟩;have:=lQ h i (by rw[eU];exact hi);rw[this];simp[nZ]
def I9{p:Prop}(h:p:=by
 rw[cr];have h2:=cX (occs m) [];have h3:=cY m;simp only[ua]at h2
 omega):p:=h
def CR(h:WE w c cnt)(hm:cW w P m v)(hz:size m<=1000)(hc:cnt<=900000):Cq 334 #[Pv c.eb,v] w (I0 c cnt (vars [] m) w):=by
 have HV:=fE hm ae;have hl:(vars [] m).length<=1000:=by
  exact I9
 obtain⟨ta,xa,rfl⟩:=hm.iface;have zc:=h.dh;go_enter func334,ntmps334;go_wp2_with fail;refine HV.mono ?_;rintro e w1⟨V,rfl,ho,K1⟩;obtain⟨sa,sc,rfl,hr⟩:=Ib ho;have HA:=Yx (sc:=sc) (h.af K1) (hr.move (br _) (λ_ _ _=>rfl) (Q:=dn c) λi p _=>by show i≠c.cb;omega) (cH m List.nodup_nil) ae;go_wp2_with fail;refine HA.mono ?_;rintro e w2⟨b,rfl,HB,W2,S2,Tl⟩
 go_wp2
 go_ret;exact⟨b,rfl,xw K1.size HB,W2,S2,(Fr.of K1).trans Tl⟩
def ajl P(tk:List Ty)m w gk(v3 v4:Value)wr:=
 ∃j:Nat,Hid (gk=j)/\j<=tk.length/\v4=Iv ((j:Int)-1)/\(∃ta xa,v3=.iface ta xa/\cW wr P (jp (tk.drop j) m) (.iface ta xa))/\Bq w wr
def vW{tk}(h:VT w P tk m v)(hl:tk.length<=1000):Cq 335 #[v] w (λe w'=>∃u,e=.returned u/\cW w' (λi=>P i\/w.heap.size<=i) (jp tk m) u/\Bq w w'):=by
 obtain⟨sa,sc,ta,xa,rfl,HR,hm⟩:=h;have⟨k0,B0⟩:=nK w #[Lv sa tk.length sc,Fv ta xa] 470;have HM:=hm.w.af k0;have K0:=ai k0;go_enter func335,ntmps335
 go_wp2
 go_loopg[3,4] tk.length (λgk v3 v4 wr=>ajl (λi=>P i\/w.heap.size<=i) tk m w gk v3 v4 wr/\Bx wr w.heap.size #[Lv sa tk.length sc,Fv ta xa])
 case atStart=>
  refine⟨⟨tk.length,ai rfl,br _,iK,⟨ta,xa,rfl,?_⟩,uh K0⟩,B0⟩;rw[qw];exact HM.wide λi p=>xm p
 case round=>
  obtain⟨⟨j,cR,hj,rfl,⟨tt,xx,rfl,HT⟩,HK⟩,hB⟩:=hrel;obtain⟨b1,b2,b3⟩:=hB;have BB:=show Bx wr w.heap.size #[Lv sa tk.length sc,Fv ta xa]from⟨b1,b2,b3⟩;by_cases hj0:j=0
  .subst hj0;have hd:decide ((0:Int)<=((0:Nat):Int)-1)=false:=aK
   go_wp2
   go_ret;exact⟨_,rfl,by simpa using HT,HK⟩
  .obtain⟨i,rfl⟩:∃i,j=i+1:=⟨j-1,ae⟩;have ei:(((i+1:Nat):Int)-1)=(i:Int):=ae;rw[ei];have Na:i<tk.length:=ae;obtain⟨g,vs,rfl,hg,iP,bM⟩:=HR.resolve_left (λe=>by subst e;simp at Na);have⟨cg,tg⟩:=bM i Na;have cg':=(xt (a:=⟨g,i,none⟩)<|HK.block g iP).trans cg;have TG:=tg.w.af HK;have⟨tb,xb,evs⟩:=tg.w.iface;rw[evs]at cg' TG;have IF:(0:Int)<=(i:Int):=ae;have bq:(i:Int)<(tk.length:Int):=ae;go_wp2_with fail;refine(vI (w:=wr) _ _ _ _).mono ?_;rintro e w7⟨rfl,rfl⟩;go_wp2_with fail;have k7:Bq wr (wr.alloc<|Cv #[Fv tb xb,Fv tt xx] 67):=bw _;go_roundg i
   case measure=>rw[uh cR];omega
   case rel=>
    refine⟨⟨i,ai rfl,ae,iK,⟨_,_,rfl,?_⟩,HK.trans<|k7.mono HK.size⟩,BB.below k7⟩;rw[qt Na];exact mK.ty aeS (TG.wide λi p=>xm p) HT<|xk HK.size
end
section
variable {c:WC} {cnt:Nat}
def acK tk m n(h:aD n m):aD n (jp tk m):=by
 induction tk with
 |nil=>exact h|cons t tk ih=>
  show aD n<|qd t<|jp tk m;simp only[aD,bT,or_false];exact xk ih
def sL tk m:size m+tk.length<=size (jp tk m):=by
 induction tk with
 |nil=>exact br _|cons t tk ih=>
  show _<=size (qd t<|jp tk m);simp only[size,ah,pk];omega
def I_{l'}{eG}{u u'}(h:qk l ρ eG u u')(hl:∀v,v∈l↔v∈l'):qk l' ρ eG u u':=⟨h.gC,λv q=>h.out v λr=>q<|(hl v).1 r,λv q=>h.all v<|(hl v).2 q,h.new,h.one,h.use⟩
def acL:Tryz.prog.underlying 214=some (.map 9 470):=qkr
def agt w:(zeroValue 470).run xn w=.ok (.agg #[.slice none 0 0,.nilIface]) w:=qkr
def mN.look{P}{b}{mk}(h:mN w P b mk){x}{tk}{m}(hx:mk x=some (tk,m)):∃v,VT w P tk m v/\∀w':World,w'.heap[b]? =w.heap[b]? ->(zh 214 (Mv b) (.string x) false).run xn w'=.ok v w':=by
 obtain⟨L,h1,h2,h3⟩:=h
 cases hg:aX x L with
 |none=>grind|some v=>
  have⟨tk',m',e,hs⟩:=h3 x v hg;rw[hx]at e;injection e with e;injection e with e1 e2;subst e1 e2;refine⟨v,hs,λw' hb=>?_⟩;have hl:=(h1.same hb).ms.look PL acL (agt w') x trivial (λ_ _=>trivial) false;rw[hg]at hl;simpa using hl
theorem VT.move{P Q}{w'}{tk}{m}{v}(h:VT w P tk m v)(hs:w.heap.size<=w'.heap.size)(hb:∀b,P b->b<w.heap.size->w'.heap[b]? =w.heap[b]?)(hq:∀b,P b->b<w.heap.size->Q b):VT w' Q tk m v:=by
 obtain⟨sa,sc,ta,xa,rfl,q1,q2⟩:=h;exact⟨sa,sc,ta,xa,rfl,q1.move hs hb hq,q2.move hs hb hq⟩
def YL(mk:jl)x n f t a(Γ:jc){tk}(h:mk x=some (tk,m)):jf mk (.mk 2 x n [] f t a) Γ=ja (qe (jp tk m) j9) λq=>jj q.1:=by
 simp[jf,jy,In.upM,h]
def ajm a n k tb b w:(Instr.field 470 (.agg #[.slice a n k,.iface tb b]) 1).run xn w=.ok (.iface tb b) w:=qkr
structure RnA(c:WC)cnt(l:List Nat)w w' b:Prop where
 z:c.cb<b
 we:WE w' c (cnt+l.length)
 sb:fe w' (dn c) b (λv=>(qD cnt l v).map Ty.var)
 F:Fr (λi=>i=c.cb) w w'
end
open Classical in
noncomputable def gO (R:ju) (D:Nat->Prop):ju:=λv=>if D v then R v else none
def zR(R:ju):gO R (λ_=>False)=j9:=by funext v;simp[gO,j9]
def fH{D:Nat->Prop}{v:Nat}(h:D v):gO R D v=R v:=by simp[gO,h]
def uB{D:Nat->Prop}{v:Nat}(h:¬D v):gO R D v=none:=by simp[gO,h]
def jV{D:Nat->Prop}{v:Nat}(h:gO R D v=some n):D v/\R v=some n:=by grind[gO]
def comes(R:ju)(D:Nat->Prop)t(u:Nat->Prop)n:=u n\/∃v,¬D v/\aD v t/\R v=some n
def Uj{D:Nat->Prop}{u:Nat->Prop}{t:Ty}(ht:∀v,aD v t->R v≠none)(hi:∀v v' n,R v=some n->R v'=some n->v=v')(hu:∀v n,¬D v->R v=some n->¬u n):
 qk (vars [] t) (gO R D) (gO R<|λv=>D v\/aD v t) u (comes R D t u) where
 gC v n h:=by have⟨h1,h2⟩:=jV h;rw[fH<|xm h1];exact h2
 out v h:=by
  have h:¬aD v t:=λq=>h<|In.bC.2 q;by_cases q:D v
  .rw[fH<|xm q,fH q]
  .rw[uB<|λr=>r.elim q h,uB q]
 all v h:=by
  have h:=In.bC.1 h;rw[fH<|xk h];exact ht v h
 new v n h1 h2:=by
  have⟨h3,h4⟩:=jV h2;by_cases q:D v
  .rw[fH q]at h1;rw[h1]at h4;cases h4
  .exact hu v n q h4
 one v v' n _ h2 h3:=hi v v' n (jV h2).2 (jV h3).2
 use n:=by
  rw[comes];refine⟨λq=>q.imp id ?_,λq=>q.imp id ?_⟩
  .rintro⟨v,h1,h2,h3⟩;exact⟨v,uB h1,by rw[fH<|xk h2];exact h3⟩
  .rintro⟨v,h1,h2⟩;have⟨h3,h4⟩:=jV h2;by_cases q:D v
   .rw[fH q]at h1;rw[h1]at h4;cases h4
   .grind
def CU{D:Nat->Prop}{t:Ty}(ht:∀v,aD v t->R v≠none)(hi:∀v v' n,R v=some n->R v'=some n->v=v')(hu:∀v n,¬D v->R v=some n->¬s.u n):
 qe t (gO R D) s (.ok ((sub (jm R) t,gO R<|λv=>D v\/aD v t),⟨s.k,comes R D t s.u⟩)):=by
 refine xk ⟨gO R<|λv=>D v\/aD v t,_,⟨_,_,Uj ht hi hu,rfl⟩,?_⟩;have e:sub (jm<|gO R<|λv=>D v\/aD v t) t=sub (jm R) t:=sub_congr t λn hn=>by unfold jm;rw[fH (D:=λv=>D v\/aD v t)<|xk hn]
 show Except.ok _=Except.ok _;rw[e]
def fA{β γ:Type}{m}{g:α->ji β}{h:β->ji γ}{o:Except j7 (γ×jd)}(q:ja m (λa=>ja (g a) h) s o):ja (ja m g) h s o:=by
 obtain⟨x,q1,rfl⟩|⟨a,s1,q1,⟨x,q2,rfl⟩|⟨b,s2,q2,q3⟩⟩:=q
 .exact xm ⟨x,xm ⟨x,q1,rfl⟩,rfl⟩
 .exact xm ⟨x,xk ⟨a,s1,q1,q2⟩,rfl⟩
 .exact xk ⟨b,s2,xk ⟨a,s1,q1,q2⟩,q3⟩
def YM m(q:jc×ju):=ja (qe m q.2) λi=>jj (i.1,q.1)
def gP(mk:jl)(tk:List Ty)m(L:List Nd)j g(ρ:ju):=ja (qm (tk.drop j) (L.drop j) (qh mk<|L.drop j) g ρ)<|YM m
def zS{tk}(h:mk st=some (tk,m))n L f t a g:jh mk (.mk 2 st n L f t a) g=gP mk tk m L 0 g j9:=by
 simp[jh,jz,h,gP];rfl
def QK{p:Prop}(h:p:=by
 obtain⟨x,q1,rfl⟩|⟨b,s2,q2,h⟩:=h
 .exact xm ⟨x,q1,rfl⟩
 exact xk ⟨b,s2,q2,fA h⟩):p:=h
def uC{tk:List Ty}(hl:L.length=tk.length)(hj:j<L.length)(h:ja (jh mk L[j] g) (λq=>ja (qe (tk[j]' ae) ρ) λi=>ja (jo q.1 i.1 (jt L[j])<|jv L[j]) λ_=>gP mk tk m L (j+1) q.2 i.2) s o):gP mk tk m L j g ρ s o:=by
 unfold gP at*;rw[qt hj,qt<|show j<tk.length by omega];show ja (ja (jh mk L[j] g) λq=>ja (qe (tk[j]' ae) ρ) λi=>ja (jo q.1 i.1 (jt L[j])<|jv L[j]) λ_=>qm (tk.drop<|j+1) (L.drop<|j+1) (qh mk<|L.drop<|j+1) q.2 i.2) (YM m) s o;refine fA ?_;obtain⟨x,q1,rfl⟩|⟨a,s1,q1,h⟩:=h
 .exact xm ⟨x,q1,rfl⟩
 refine xk ⟨a,s1,q1,fA ?_⟩;exact QK
def I'{tk}(hl:L.length=tk.length)(h:YM m (g,ρ) s o):gP mk tk m L L.length g ρ s o:=by
 rw[gP];rw[qw,hl,qw];exact xk ⟨(g,ρ),s,rfl,h⟩
structure MdR(c:WC)cnt(tk:List Ty)m(R:ju):Prop where
 e:R=qD cnt (vars [] m)
 a:∀i(h:i<tk.length)v,aD v tk[i]->aD v m
def MdR.one{c:WC}{cnt}{tk}(h:MdR c cnt tk m R):∀v v' n,R v=some n->R v'=some n->v=v':=λv v' n h1 h2=>by
 rw[h.e]at h1 h2;rw[qD]at h1 h2;split at h1<;>split at h2
 .rename_i q1 q2;injection h1 with h1;injection h2 with h2;exact IZ q1 q2 ae
 .cases h2
 .cases h1
 .cases h1
def MdR.num{c:WC}{cnt}{tk}(h:MdR c cnt tk m R){v:Nat}(q:R v=some n):cnt<n/\n<=cnt+(vars [] m).length:=by
 rw[h.e]at q;rw[qD]at q;split at q
 .rename_i q1;have:=List.idxOf_lt_length_iff.2 q1;injection q with q;omega
 .cases q
def MdR.has{c:WC}{cnt}{tk}(h:MdR c cnt tk m R){v:Nat}(q:aD v m):R v≠none:=by
 rw[h.e];rw[qD];rw[if_pos<|In.bC.2 q];simp
structure MdS(c:WC)gv cnt(s:jd)w(R:ju)(p:ji (Ty×jc))(Λ:Nat->Prop)tk m L j wr cj(sj:jd)kj g D:Prop where
 F:Fr (λi=>i=c.cb\/i=gv) w wr
 we:WE wr c cj
 wk:CQ wr c gv cj sj kj
 n:∀n,¬sj.u n->Λ n
 e:bP wr (pV c gv) gv g
 i:jx Λ sj g
 r:In.oF Λ sj (gO R D)
 fr:∀v n,¬D v->R v=some n->¬sj.u n
 u:∀n,sj.u n->s.u n\/(cnt<n/\n<=cj)
 c1:cnt+(vars [] m).length<=cj
 c2:cj+1000*b8 (L.drop j)<=cnt+1000*(1+b8 L)
 p:∀o,gP c.mks tk m L j g (gO R D) sj o->p s o
structure MdT(c:WC)gv cnt(s:jd)w(R:ju)(p:ji (Ty×jc))(Λ:Nat->Prop)tk m L j wr cj(sj:jd)kj g D T U f t:Prop where
 F:Fr (λi=>i=c.cb\/i=gv) w wr
 we:WE wr c cj
 wk:CQ wr c gv cj sj kj
 n:∀n,¬sj.u n->Λ n
 e:bP wr (pV c gv) gv g
 i:jx Λ sj g
 r:In.oF Λ sj (gO R D)
 fr:∀v n,¬D v->R v=some n->¬sj.u n
 u:∀n,sj.u n->s.u n\/(cnt<n/\n<=cj)
 c1:cnt+(vars [] m).length<=cj
 c2:cj+1000*b8 (L.drop<|j+1)<=cnt+1000*(1+b8 L)
 ti:jk Λ sj T
 ui:jk Λ sj U
 p:∀o,ja (jo T U f t) (λ_=>gP c.mks tk m L (j+1) g<|gO R D) sj o->p s o
section
variable {wr:World} {c:WC} {cnt cj c1:Nat} {sj:jd} {kj k1:Nat} {D:Nat->Prop} {p:ji (Ty×jc)} {tk:List Ty}
def MdS.arg{S DD:Nat}{T:Ty}{ta:TypeId}{xa:Value}(hR:MdR c cnt tk m R)(hl:L.length=tk.length)(hj:j<L.length)(iL:∀n,s.u n->us cnt n)(h:MdS c gv cnt s w R p Λ tk m L j wr cj sj kj g D)(q:acH c gv S (1000*nn L[j]) (jh c.mks L[j] g) sj cj wr c1 T g1 s1 ta xa k1 w1):∃s2,MdT c gv cnt s w R p Λ tk m L j w1 c1 s2 k1 g1 (λv=>D v\/aD v (tk[j]' ae)) T (sub (jm R)<|tk[j]' ae) (jt L[j])<|jv L[j]:=by
 have st:=q.step h.wk h.n h.i;have xL:∀v n,¬D v->R v=some n->¬s1.u n:=λv n a b z=>by
  have hb:=hR.num b;obtain r|r:=q.u n z
  .exact h.fr v n a b r
  .have:=h.c1;omega
 have r_:=CU (R:=R) (s:=s1) (t:=tk[j]' ae) (λv o=>hR.has<|hR.a j ae v o) hR.one xL;have⟨g1',g2,g3⟩:=In.sM st.k.ok st.n (h.r.run st.p.run) (tk[j]' ae) _ _ r_;have hd:b8 (L.drop j)=nn L[j]+b8 (L.drop<|j+1):=by rw[qt hj];rfl
 have c2:=h.c2;have qc1:=q.c1;have qc2:=q.c2;have hc1:=h.c1;have ala:∀v n,R v=some n->cnt<n/\n<=c1:=λv n r=>by have:=hR.num r;omega
 refine⟨⟨s1.k,comes R D (tk[j]' ae) s1.u⟩,h.F.trans q.F,q.we,⟨st.k.k,st.k.n,λn z=>?_,g1'.ok,st.k.wh⟩,g1'.new,q.e,st.i.run g1'.run,g3,λv n a b z=>?_,λn z=>?_,ae,ae,st.t.run g1'.run,g2,λo ho=>h.p o<|uC hl hj<|xk ⟨(T,g1),s1,q.m,xk ⟨_,_,r_,ho⟩⟩⟩
 .obtain z|⟨v,_,_,z⟩:=z
  .exact st.k.u n z
  .have:=ala v n z;rw[us];omega
 .obtain z|⟨v',z1,z2,z3⟩:=z
  .grind
  .exact a (xk<|hR.one v' v n z3 b▸z2)
 .obtain z|⟨v,_,_,z⟩:=z
  .obtain r|r:=q.u n z
   .exact(h.u n r).imp id λr=>ae
   .omega
  .grind
def MdT.next(h:MdT c gv cnt s w R p Λ tk m L j wr cj sj kj g D T U f t)(hb:Bq wr w1){s'}(he:jo T U f t sj (.ok ((),s')))(hk:qf Λ sj s')(hw:CQ w1 c gv cj s' b)(hu:s'.u=sj.u):MdS c gv cnt s w R p Λ tk m L (j+1) w1 cj s' b g D:=
 ⟨h.F.trans<|Fr.of hb,h.we.af hb,hw,hk.new,h.e.af hb,h.i.run hk.run,h.r.run hk.run,λv n a b z=>h.fr v n a b<|hu▸z,λn z=>h.u n<|hu▸z,h.c1,h.c2,λo ho=>h.p o<|xk ⟨(),s',he,ho⟩⟩
def MdT.no(h:MdT c gv cnt s w R p Λ tk m L j wr cj sj kj g D T U f t)(hb:Bq wr w1)(hD:1000*(1+b8 L)<=DD){z:j7}(he:jo T U f t sj (.error z))(hf:qO w1 (dn c) z vl vr):d_ c gv S DD p s cnt w (CL z.f vl vr) w1:=
 ⟨h.F.trans<|Fr.of hb,cj,.error z,by have:=h.c1;omega,by have:=h.c2;omega,h.we.af hb,h.p _<|xm ⟨z,he,rfl⟩,vl,vr,rfl,hf⟩
def MdS.no(hl:L.length=tk.length)(hj:j<L.length)(h:MdS c gv cnt s w R p Λ tk m L j wr cj sj kj g D)(hD:1000*(1+b8 L)<=DD){z:j7}(q:acI c gv (1000*nn L[j]) (jh c.mks L[j] g) sj cj wr c1 z vl vr w1):d_ c gv S DD p s cnt w (CL z.f vl vr) w1:=
 ⟨h.F.trans q.F,c1,.error z,by have:=h.c1;have:=q.c1;omega,by
  have hd:b8 (L.drop j)=nn L[j]+b8 (L.drop<|j+1):=by rw[qt hj];rfl
  have:=h.c2;have:=q.c2;omega,q.we,h.p _<|uC hl hj<|xm ⟨z,q.m,rfl⟩,vl,vr,rfl,q.f⟩
def MdS.done(hR:MdR c cnt tk m R)(hl:L.length=tk.length)(h:MdS c gv cnt s w R p Λ tk m L L.length wr cj sj kj g D)(hb:Bq wr w1)(hD:1000*(1+b8 L)<=DD)(ht:TW w1 (pV c gv) S (sub (jm R) m) (.iface ta xa)):d_ c gv S DD p s cnt w (.returned<|.tuple #[.iface ta xa,Mv kj]) w1:=by
 have r_:=CU (R:=R) (s:=sj) (t:=m) (λv o=>hR.has o) hR.one h.fr;refine⟨h.F.trans<|Fr.of hb,cj,.ok ((sub (jm R) m,g),⟨sj.k,comes R D m sj.u⟩),by have:=h.c1;omega,by have:=h.c2;omega,h.we.af hb,h.p _<|I' hl<|xk ⟨_,_,r_,rfl⟩,λn z=>?_,h.wk.wh,ta,xa,kj,rfl,h.wk.n,h.wk.k.af hb,ht,h.e.af hb⟩;obtain z|⟨v,_,_,z⟩:=z
 .exact h.u n z
 .have:=hR.num z;exact xk ⟨this.1,by have:=h.c1;omega⟩
def fe.bare{R:ju}(h:fe w P b (λv=>(R v).map Ty.var)):fe w Q b (λv=>(R v).map Ty.var):=by
 obtain⟨L,h1,h2,h3,h4⟩:=h;refine⟨L,h1,h2,λn u hu=>?_,h4⟩;have⟨t,e,ht⟩:=h3 n u hu;refine⟨t,e,?_⟩
 cases hr:R n with
 |none=>simp[hr]at e|some k=>
  simp only[hr,Option.map_some,Option.some.injEq]at e;subst e
  cases ht
  exact .var k
end
def qX(l:List BA)(g g':jc):=(∀y,g' y≠none↔g y≠none\/y∈l)/\∀y d,g' y=some d->g y=some d\/d.any=[]
def qX.refl(g:jc):qX [] g g:=⟨λy=>ag,λy d h=>xm h⟩
def qX.and{l l'}{g2}(h:qX l g g1)(k:qX l' g1 g2):qX (l++l') g g2:=⟨λy=>by rw[k.1,h.1,xf,or_assoc],λy d q=>(k.2 y d q).elim (λq=>h.2 y d q) xk⟩
def qX.set(g:jc)s t:qX [s] g (jq g s<|qg t):=by
 refine⟨λy=>?_,λy d h=>?_⟩
 .rw[jq];by_cases q:y=s
  .simp[q]
  .simp[q]
 .rw[jq]at h;split at h
  .grind
  .exact xm h
def l9{m:ji α}:qi m s λ_ _=>True:=λ_ _ _=>trivial
def Ja(mk:jl):∀(tk:List Ty)(L:List Nd),L.length=tk.length->(∀i(h:i<L.length),∀g s,qi (jh mk L[i] g) s λq _=>qX (pC L[i]) g q.2)->∀g ρ s,qi (qm tk L (qh mk L) g ρ) s λq _=>qX (mX L) g q.1
 |[],[],_,_,g,ρ,s=>.ret (qX.refl g)|[],_::_,h,_,_,_,_=>tW|_::_,[],h,_,_,_,_=>tW|u::tk,x::L,hl,H,g,ρ,s=>by
  refine(H 0 ag g s).and λq s1 h1=>l9.and λi s2 _=>l9.and λ_ s3 _=>?_;exact(Ja mk tk L (by simpa using hl) (λi hi=>H (i+1) bB) q.2 i.2 s3).imp λa s' h=>h1.and h
def zT{p:Prop}(h:p:=by
 simp[jh,jz]
 exact .ret<|qX.refl g):p:=h
def El(h:rN mk nl nd):∀g s,qi (jh mk nd g) s λq _=>qX (pC nd) g q.2:=by
 induction h with
 |leaf k st n f t a hk=>
  intro g s;have e:pC (.mk k st n [] f t a)=[]:=by
   have:¬k=1:=ae;simp[pC,mX,this]
  rw[e];obtain rfl|rfl|rfl|rfl:=hk
  .simp only[jh,jz,if_true];exact l9.and λv s' _=>.ret<|qX.refl g
  .exact zT
  .exact zT
  .exact zT
 |low st n f t a hs=>
  intro g s;simp[jh,jz,pC];exact l9.and λv s' _=>.ret<|qX.set g st _
 |pr st n x y f t a hx hy dH gJ=>
  intro g s;rw[YI];have e:pC (.mk 6 st n [x,y] f t a)=pC x++pC y:=by simp[pC,mX]
  rw[e];exact(dH g s).and λq s1 h1=>(gJ q.2 s1).and λr s2 h2=>.ret<|h1.and h2
 |up st n L f t a tk m hm hl hr ih=>
  intro g s;rw[zS hm];have e:pC (.mk 2 st n L f t a)=mX L:=by simp[pC]
  rw[e];rw[gP];rw[xj,xj];exact(Ja mk tk L hl ih g j9 s).and λq s1 h1=>l9.and λi s2 _=>.ret h1
def Jb{nl:List BA}:∀(L:List Nd),(∀i(h:i<L.length),∀y,y∈pC L[i]->y∈nl)->∀y,y∈mX L->y∈nl
 |[],_,y,h=>by simp[mX]at h|x::l,H,y,h=>by
  simp only[mX,xf]at h;obtain h|h:=h
  .exact H 0 ag y h
  .exact Jb l (λi hi=>H (i+1) bB) y h
def acM(h:rN mk nl nd):∀y,y∈pC nd->y∈nl:=by
 induction h with
 |leaf k st n f t a hk=>intro y q;have:¬k=1:=ae
                        simp[pC,mX,this]at q
 |low st n f t a hs=>intro y q;simp[pC]at q;subst q;exact hs|pr st n x y f t a hx hy dH gJ=>
  intro z q;simp[pC,mX]at q;exact q.elim (dH z)<|gJ z
 |up st n L f t a tk m hm hl hr ih=>
  intro y q;have e:pC (.mk 2 st n L f t a)=mX L:=by simp[pC]
  rw[e]at q;exact Jb L ih y q
noncomputable def l_ (mk:jl) (Γ:jc) (T r:Ty) (A:List (Nd×Nd)) (j:Nat):ji Ty:=ja (In.kS mk Γ T r (aU<|A.drop j)<|j6 mk<|aU<|A.drop j) λ_=>jj r
def Nb(mk:jl)s n x A f t a(Γ:jc):jf mk (.mk 13 s n (x::aU A) f t a) Γ=ja (jf mk x Γ) λa=>ja j5 λv=>l_ mk Γ a (.var v) A 0:=by
 simp[jf,jy,j6,j8,l_]
noncomputable def YN (mk:jl) (Γ:jc) (T r:Ty) (A:List (Nd×Nd)) (j:Nat) (h:j<A.length):ji Ty:=ja (jh mk A[j].1 λ_=>none) λq=>ja (jo T q.1 (jt A[j].1)<|jv A[j].1) λ_=>ja (jf mk A[j].2<|j3 q.2 Γ) λu=>ja (jo r u (jt A[j].2)<|jv A[j].2) λ_=>l_ mk Γ T r A<|j+1
def CV{r}hj{o}(h:YN mk Γ T r A j hj s o):l_ mk Γ T r A j s o:=by
 unfold YN l_ at*;rw[qt hj];show ja (ja (jh mk A[j].1 λ_=>none) λq=>ja (jo T q.1 (jt A[j].1)<|jv A[j].1) λ_=>ja (jf mk A[j].2<|j3 q.2 Γ) λu=>ja (jo r u (jt A[j].2)<|jv A[j].2) λ_=>In.kS mk Γ T r (aU<|A.drop<|j+1)<|j6 mk<|aU<|A.drop<|j+1) (λ_=>jj r) s o;refine fA ?_;obtain⟨x,q1,rfl⟩|⟨a,s1,q1,h⟩:=h
 .exact xm ⟨x,q1,rfl⟩
 refine xk ⟨a,s1,q1,fA ?_⟩;obtain⟨x,q1,rfl⟩|⟨b,s2,q2,h⟩:=h
 .exact xm ⟨x,q1,rfl⟩
 refine xk ⟨b,s2,q2,fA ?_⟩;exact QK
def Jc(mk:jl)(Γ:jc)T r A(s:jd)(o:Except j7 (Ty×jd))(h:jj r s o):l_ mk Γ T r A A.length s o:=by
 rw[l_];rw[qw];exact xk ⟨(),s,rfl,h⟩
section
variable {c:WC} {cnt:Nat} {p p1 p2:ji Ty}
def Cl.imp(h:Cl c S D p s cnt w D1 p1 s1 ak w1)(k:∀o,p2 s1 o->p1 s1 o):Cl c S D p s cnt w D1 p2 s1 ak w1:=λe w' q=>h e w' (by obtain⟨a1,c',o,a2,a3,a4,a5,a6⟩:=q;exact⟨a1,c',o,a2,a3,a4,k o a5,a6⟩)
def YO(hb:Bq w w0)(hg:w.heap.size<=gv)(hf:Fr (λi=>i=c.cb\/i=gv) w0 w'):Fr (λi=>i=c.cb) w w':=⟨hf.os.trans hb.os,hf.tape.trans hb.tape,hf.output.trans hb.output,xw hb.size hf.size,λk hk hn=>(hf.block k (zd hk hb.size)<|λq=>q.elim hn ae).trans<|hb.block k hk⟩
theorem WG.over{mk:jl}{nd:Nd}{T:Ty}{YE:Nat}(h:WG w c s Λ Γ gb)(hs:rN mk c.nl nd){s0:jd}(hm:jh mk nd (λ_=>none) s0 (.ok ((T,g1),s1)))(hi:jx Λ s g1)(he:bP w' (dn c) YE (j3 g1 Γ))(hn:YE≠c.cb):WG w' c s Λ (j3 g1 Γ) YE where
 e:=he
 n:=hn
 i:=hi.over h.i
 nd y d q:=by
  have⟨_,h2⟩:=El hs _ _ _ _ hm;rw[j3]at q;split at q
  .rename_i c' hc;injection q with q;subst q;obtain r|r:=h2 y c' hc
   .cases r
   .grind
  .exact h.nd y d q
 dm y q:=by
  have⟨h1,_⟩:=El hs _ _ _ _ hm;rw[j3]at q;split at q
  .rename_i c' hc;rcases(h1 y).1 (by show g1 y≠none;rw[hc];simp)with r|r
   .exact absurd rfl r
   .exact acM hs y r
  .exact h.dm y q
def Jd(hs:rN mk nl nd)(hm:jh mk nd (λ_=>none) s0 (.ok ((T,g1),s1)))(hd:∀x,dom x->Γ x≠none):∀x,dom x\/x∈pC nd->j3 g1 Γ x≠none:=λx q=>by
 have⟨h1,_⟩:=El hs _ _ _ _ hm;rw[j3];split
 .simp
 .rename_i hc;obtain q|q:=q
  .exact hd x q
  .grind
end
structure gK n0(M:ji Ty)c w0 cnt0(s0:jd)Λ(Γ:jc)gb(Q:Nat->Prop)(dom:BA->Prop)D(p:ji Ty)(P:World->jd->Prop)(s:jd)cnt kb w:Prop where
 wg:WG w0 c s0 Λ Γ gb
 hq:∀b,Q b->b≠c.cb
 hd:∀x,dom x->Γ x≠none
 ft:Fit c cnt0 n0
 mf:MkFine c.mks
 f:Fr (λi=>i=c.cb) w0 w
 we:WE w c cnt
 st:Eg w0 w c cnt s0 s Λ kb
 cl:Cl c (1100*n0) (1000*n0) M s0 cnt0 w0 D p s cnt w
 lv:∀w' s',Fr (λi=>i=c.cb) w w'->qf Λ s s'->P w' s'
 cn:cnt+D<=cnt0+1000*n0
section
variable {n0:Nat} {M:ji Ty} {c:WC} {cnt0 cnt D2 kb0:Nat} {q:ji Ty} {P P':World->jd->Prop} {post:Ending->World->Prop}
def gK.start(h:CO nd c w0 cnt0 s0 kb0 Λ Γ gb Q dom v)(e:jf c.mks nd Γ=q):gK (nn nd) (jf c.mks nd Γ) c w0 cnt0 s0 Λ Γ gb Q dom (1000*nn nd) q (λ_ _=>True) s0 cnt0 kb0 w0:=⟨h.wg,h.hq,h.hd,h.ft,h.mf,Fr.refl _ _,h.we,⟨h.wk,h.hn,In.Kp.refl h.wk.ok h.hn⟩,λ_ _ h=>e▸h,λ_ _ _ _=>trivial,br _⟩
def gK.p(H:gK n0 M c w0 cnt0 s0 Λ Γ gb Q dom D q P s cnt kb w):P w s:=H.lv _ _ (Fr.refl _ _)<|In.Kp.refl H.st.k.ok H.st.n
def gK.af(H:gK n0 M c w0 cnt0 s0 Λ Γ gb Q dom D q P s cnt kb w)(k:Bq w w'):gK n0 M c w0 cnt0 s0 Λ Γ gb Q dom D q P s cnt kb w':=
 ⟨H.wg,H.hq,H.hd,H.ft,H.mf,H.f.trans<|Fr.of k,H.we.af k,⟨H.st.k.af k,H.st.n,H.st.p⟩,λe w2 h=>H.cl e w2 ⟨(Fr.of k).trans h.1,h.2⟩,λw2 s2 a b=>H.lv w2 s2 ((Fr.of k).trans a) b,H.cn⟩
def gK.drew(H:gK n0 M c w0 cnt0 s0 Λ Γ gb Q dom D q P s cnt kb w):gK n0 M c w0 cnt0 s0 Λ Γ gb Q dom D q P s cnt kb w.drew:=H.af (zv _ _).drew
def gK.add(H:gK n0 M c w0 cnt0 s0 Λ Γ gb Q dom D q P s cnt kb w)(h:∀w' s',Fr (λi=>i=c.cb) w w'->qf Λ s s'->P' w' s'):gK n0 M c w0 cnt0 s0 Λ Γ gb Q dom D q (λw s=>P w s/\P' w s) s cnt kb w:=⟨H.wg,H.hq,H.hd,H.ft,H.mf,H.f,H.we,H.st,H.cl,λw s a b=>⟨H.lv w s a b,h w s a b⟩,H.cn⟩
def gK.box{t}(H:gK n0 M c w0 cnt0 s0 Λ Γ gb Q dom D q P s cnt kb w):gK n0 M c w0 cnt0 s0 Λ Γ gb Q dom D q (λw' s=>P w' s/\Bx w' w.heap.size C) s cnt kb (w.alloc<|.cells C t):=
 (H.af<|bw _).add λw' _ a _=>(Bx.new w C t).fr a (by have:=H.we.dh;omega)
def gK.asks(H:gK n0 M c w0 cnt0 s0 Λ Γ gb Q dom D q P s cnt kb w)(K:Bq w W)(he:bP W (dn c) b (jq Γ st d))(hz:w.heap.size<=b)(hi:In.sJ Λ s d)(ha:d.any.Nodup)(iL:st∈c.nl)(hx:PE w0 Q x vx)(sx:ScE c.mks c.nl Yn x)(hd:∀y,Yn y->dom y\/y=st)(hD:1000*nn x<=D)(hn:nn x<=n0):CO x c W cnt s kb Λ (jq Γ st d) b Q Yn vx:=
 ⟨H.we.af K,H.st.k.af K,H.st.n,(H.wg.fr H.f H.st.p.run).set he (by have:=H.we.dh;omega) hi ha iL,(hx.move H.f.size (λb p z=>H.f.block b z<|H.hq b p)<|λ_ p _=>p).af K,H.hq,sx,λy q=>Ei H.hd y<|hd y q,H.ft.le qBw hn,H.mf⟩
def gK.exG{g:Ty->ji Ty}{Γ'}{YE}(H:gK n0 M c w0 cnt0 s0 Λ Γ gb Q dom D (ja (jf c.mks x Γ') g) P s cnt kb w)(K:Bq w W)(Hx:Bh x)(a:CO x c W cnt s kb Λ Γ' YE Q Yn vx)(ok:∀T ta xa s' aB Nc w',gK n0 M c w0 cnt0 s0 Λ Γ gb Q dom D2 (g T) (λw s=>P w s/\TW w (dn c) (1100*nn x) T (.iface ta xa)/\jk Λ s T) s' aB Nc w'->post (.returned<|.tuple #[.iface ta xa,Mv Nc]) w')(hD:D2+1000*nn x<=D:=by omega)(bad:∀f l r w',ba c (1100*n0) (1000*n0) M s0 cnt0 w0 (CL f l r) w'->post (CL f l r) w':=by exact λ_ _ _ _ h=>⟨rfl,h⟩):
 Cq 323 #[Pv c.eb,Mv kb,Mv YE,vx] W post:=by
 refine(Hx c W cnt s kb Λ Γ' YE Q Yn vx a).mono λe w' hp=>?_;obtain⟨ak,z,vl,vr,rfl,q⟩|⟨ak,T,s1,ta,xa,iQ,rfl,q⟩:=hp.split
 .exact bad _ _ _ _ (H.cl _ _<|q.post (Fr.of K) ae)
 .have⟨st,ty⟩:=q.step a.wk a.hn a.wg;have:=q.c1;have:=q.c2;have:=H.cn;have F:=(Fr.of (S:=λi=>i=c.cb) K).trans q.F;exact ok T ta xa s1 ak iQ w' ⟨H.wg,H.hq,H.hd,H.ft,H.mf,H.f.trans F,q.we,H.st.and ⟨st.k,st.n,st.p⟩,H.cl.and q.m F q.c1 q.u ae,λw2 s2 a b=>⟨H.lv w2 s2 (F.trans a)<|st.p.trans b,q.t.fr a<|λ_ p _=>p,ty.run b.run⟩,ae⟩
def gK.ex{g:Ty->ji Ty}(H:gK n0 M c w0 cnt0 s0 Λ Γ gb Q dom D (ja (jf c.mks x Γ) g) P s cnt kb w)(Hx:Bh x)(hx:PE w0 Q x vx)(sx:ScE c.mks c.nl dom x)(ok:∀T ta xa s' aB Nc w',gK n0 M c w0 cnt0 s0 Λ Γ gb Q dom D2 (g T) (λw s=>P w s/\TW w (dn c) (1100*nn x) T (.iface ta xa)/\jk Λ s T) s' aB Nc w'->post (.returned<|.tuple #[.iface ta xa,Mv Nc]) w')(hD:D2+1000*nn x<=D:=by omega)(hn:nn x<=n0:=by rw[en];omega)(bad:∀f l r w',ba c (1100*n0) (1000*n0) M s0 cnt0 w0 (CL f l r) w'->post (CL f l r) w':=by exact λ_ _ _ _ h=>⟨rfl,h⟩):
 Cq 323 #[Pv c.eb,Mv kb,Mv gb,vx] w post:=
 H.exG (zv _ _) Hx ⟨H.we,H.st.k,H.st.n,H.wg.fr H.f H.st.p.run,hx.move H.f.size (λb p z=>H.f.block b z<|H.hq b p)<|λ_ p _=>p,H.hq,sx,H.hd,H.ft.le qBw hn,H.mf⟩ ok hD bad
section
variable {Y:Ty} {g:Unit->ji Ty} {v1 v2:Value}
def gK.eqc(H:gK n0 M c w0 cnt0 s0 Λ Γ gb Q dom D (ja (jo X Y f t) g) P s cnt kb w)(K:Bq w W)(hx:TW W (dn c) S X v1)(hy:TW W (dn c) S Y v2)(tx:jk Λ s X)(ty:jk Λ s Y)(hS:S<=900000:=by omega):
 Cq 324 #[Mv kb,v1,v2,.agg #[Nv f,Nv t]] W λe w'=>(∃fl l r,e=CL fl l r/\ba c (1100*n0) (1000*n0) M s0 cnt0 w0 e w')\/BE c cnt s Λ X Y f t w e w':=by
 have:=H.cn;have:=H.ft.a;refine(aje (H.we.af K) (H.st.k.af K) H.st.n ae hS hx hy tx ty f t).mono λe w' q=>?_;obtain q|q:=q.or
 .obtain⟨fl,l,r,h1,h2⟩:=q.post (H.we.af K)<|Fr.of K;exact .inl ⟨fl,l,r,h1,H.cl _ _ h2⟩
 .exact .inr (q.up K)
def gK.eqd(H:gK n0 M c w0 cnt0 s0 Λ Γ gb Q dom D (ja (jo X Y f t) g) P s cnt kb w)(q:BE c cnt s Λ X Y f t w (.returned u) w'):∃Nc s',u=Mv Nc/\gK n0 M c w0 cnt0 s0 Λ Γ gb Q dom D (g ()) P s' cnt Nc w':=by
 obtain⟨b,e,k,s',he,kp,wk,hu⟩:=q;injection e with e;exact⟨b,s',e,H.wg,H.hq,H.hd,H.ft,H.mf,H.f.trans<|Fr.of k,H.we.af k,⟨wk,kp.new,H.st.p.trans kp⟩,H.cl.and he (Fr.of k) (br _) (λn q=>xm<|hu▸q)<|br _,λw2 s2 a b=>H.lv w2 s2 ((Fr.of k).trans a)<|kp.trans b,H.cn⟩
def gK.eq(H:gK n0 M c w0 cnt0 s0 Λ Γ gb Q dom D (ja (jo X Y f t) g) P s cnt kb w)(hx:TW w (dn c) S X v1)(hy:TW w (dn c) S Y v2)(tx:jk Λ s X)(ty:jk Λ s Y)(ok:∀Nc s' w',gK n0 M c w0 cnt0 s0 Λ Γ gb Q dom D (g ()) P s' cnt Nc w'->post (.returned<|Mv Nc) w')(hS:S<=900000:=by omega)(bad:∀f l r w',ba c (1100*n0) (1000*n0) M s0 cnt0 w0 (CL f l r) w'->post (CL f l r) w':=by exact λ_ _ _ _ h=>⟨rfl,h⟩):Cq 324 #[Mv kb,v1,v2,.agg #[Nv f,Nv t]] w post:=
 (H.eqc (zv _ _) hx hy tx ty hS).mono λe w' q=>by
  obtain⟨fl,l,r,rfl,q⟩|q:=q
  .exact bad _ _ _ _ q
  .have h:=q;obtain⟨b,rfl,-⟩:=q;have⟨Nc,s',e,H⟩:=H.eqd h
   cases e
   exact ok _ _ _ H
end
def gK.new{g}(H:gK n0 M c w0 cnt0 s0 Λ Γ gb Q dom D (ja j5 g) P s cnt kb w)(ok:∀s' w',gK n0 M c w0 cnt0 s0 Λ Γ gb Q dom D2 (g<|cnt+1) (λw s=>P w s/\jk Λ s (.var<|cnt+1)) s' (cnt+1) kb w'->post (.returned<|Iv<|(cnt:Int)+1) w')(hD:D2+1<=D:=by omega):Cq 47 #[Pv c.cb] w post:=by
 have cn:=H.cn;have:=H.ft.a;have⟨W,F⟩:=H.we.fresh;have⟨m,st,ty⟩:=zQ H.st.k H.st.n F;refine(oD cnt ae H.we.ct).mono ?_;rintro e w'⟨rfl,rfl⟩;exact ok _ _ ⟨H.wg,H.hq,H.hd,H.ft,H.mf,H.f.trans F,W,H.st.and st,H.cl.and m F ae (λn q=>q.imp id λq=>ae) ae,λw2 s2 a b=>⟨H.lv w2 s2 (F.trans a)<|st.p.trans b,ty.run b.run⟩,ae⟩
def YP w c n:TW w (dn c) 1 (.var n) (.iface 98<|Nv n):=TW.of (x:=.var n) (cW.var n) trivial (by simp[size])
def TW.pr{a b:Ty}(ha:TW w (dn c) S1 a va)(hb:TW w (dn c) S2 b vb)(hc:c.cb<w.heap.size):TW (w.alloc<|.cells #[va,vb] 67) (dn c) (1+S1+S2) (ql a b) (.iface 169<|.agg #[.string<|pn lj,.slice (some ⟨w.heap.size,0,none⟩) 2 2]):=by
 obtain⟨⟨x1,y1,e1,z1⟩,wx⟩:=ha;obtain⟨⟨x2,y2,e2,z2⟩,wy⟩:=hb;exact⟨⟨.aJ lj [x1,x2],mK.ty (xk<|xm rfl) y1 y2 (by show w.heap.size≠c.cb;omega),cZ.af4 lj YD e1 e2,by simp only[size,ah];omega⟩,⟨YD,wx,wy,trivial⟩⟩
def ajn{a b:Ty}{tb}{xb}(ha:TW w (dn c) S1 a (.iface ta xa))(hb:TW w (dn c) S2 b (.iface tb xb))(hc:c.cb<w.heap.size):Cq 350 #[.iface ta xa,.iface tb xb] w λe w'=>∃g,e=.returned (.iface 169<|.agg #[.string<|pn nB,.slice (some ⟨g,0,none⟩) 2 2])/\Bq w w'/\TW w' (dn c) (1+S1+S2) (qd a b) (.iface 169<|.agg #[.string<|pn nB,.slice (some ⟨g,0,none⟩) 2 2]):=
 (vI _ _ _ _).mono λe w' h=>by
  obtain⟨rfl,rfl⟩:=h;exact⟨_,rfl,bw _,TW.fn ha hb hc⟩
def gK.ret(H:gK n0 M c w0 cnt0 s0 Λ Γ gb Q dom D (jj X) P s cnt kb w)(ht:TW w (dn c) S X (.iface ta xa))(hS:S<=1100*n0:=by rw[en];omega):ba c (1100*n0) (1000*n0) M s0 cnt0 w0 (.returned<|.tuple #[.iface ta xa,Mv kb]) w:=H.cl _ _<|QI H.we H.st.k (ht.le hS)<|Fr.refl _ _
end
section
variable {c:WC} {cnt:Nat} {y z:Nd} {vy vz:Value}
def Ng(mk:jl)s n x y f t a(Γ:jc):jf mk (.mk 6 s n [x,y] f t a) Γ=ja (jf mk x Γ) λa=>ja (jf mk y Γ) λb=>jj<|ql a b:=by simp[jf,jy,j6,j8]
def ScE.agu(h:ScE c.mks c.nl dom (.mk k st n [x,y] f t a))(hk:k=6\/k=7\/k=8):ScE c.mks c.nl dom x/\ScE c.mks c.nl dom y:=by
 obtain rfl|rfl|rfl:=hk<;>cases h with
 |two _ _ _ _ _ _ _ _ _ _ hx hy=>exact⟨hx,hy⟩|lt _ _ _ _ _ _ _ _ _ _ hc=>omega
def opT s:=if s=dX then In.oE else qp
def Nh(mk:jl)s n x y f t a(Γ:jc):jf mk (.mk 7 s n [x,y] f t a) Γ=ja (jf mk x Γ) λa=>ja (jo a qp (jt x)<|jv x) λ_=>ja (jf mk y Γ) λb=>ja (jo b qp (jt y)<|jv y) λ_=>jj<|opT s:=by simp[jf,jy,j6,j8,In.iU,opT]
def Je:Tryz.prog.underlying 212=some (.map 9 121):=qkr
def acN w:(zeroValue 121).run xn w=.ok .nilFunc w:=qkr
def uy.look{b}(h:uy w b){k}(hk:k=iu\/k=dW\/k=gq\/k=dX):(k=dX/\(zh 212 (Mv b) (.string k) false).run xn w=.ok (.func (.func 125) #[] #[]) w)\/(k≠dX/\(zh 212 (Mv b) (.string k) false).run xn w=.ok (.func (.func 124) #[] #[]) w):=by
 obtain⟨L,h1,g1,g2,g3,g4⟩:=h;have hl:=λk=>h1.ms.look PL Je (acN w) k trivial (λ_ _=>trivial) false;obtain rfl|rfl|rfl|rfl:=hk
 .grind
 .grind
 .grind
 .grind
def uy.drew(h:uy w b):uy w.drew b:=h.same rfl
end
end
section
open Go.ChangeMaps Un
mutual
def m0:Nd->Ty
 |.mk k s _ L _ _ _=>.aJ (fy k s)<|VU L
def VU:List Nd->List Ty
 |[]=>[]|x::l=>m0 x::VU l
end
def xX:∀L,(VU L).length=L.length
 |[]=>rfl|_::l=>by simp[VU,xX l]
def QL:∀(L:List Nd)(i:Nat)(h:i<L.length),(VU L)[i]'(by rw[xX];exact h)=m0 L[i]
 |x::l,0,_=>rfl|x::l,i+1,h=>by simp only[VU,qz];exact QL l i Bm
inductive N0:Nd->Prop where
 |two(k:Nat)(s:BA)(n:Nat)(x y:Nd)(f t a:Nat)(hk:k=17\/k=6)(hx:N0 x)(hy:N0 y):N0 (.mk k s n [x,y] f t a)
 |up(s:BA)(n:Nat)(L:List Nd)(f t a:Nat)(hl:L.length<=1001)(hL:∀i(h:i<L.length),N0 L[i]):N0 (.mk 2 s n L f t a)
def Em:∀(L:List Nd),(∀i(h:i<L.length),∀ns,(∀n,¬aD n (aH ns<|es L[i]).1)->size (aH ns<|es L[i]).1<=1000->N0 L[i]/\aH ns (es L[i])=(m0 L[i],ns))->∀ns,(∀n,¬bT n (aA ns<|vX L).1)->ah (aA ns<|vX L).1<=1000->
 (∀i(h:i<L.length),N0 L[i])/\aA ns (vX L)=(VU L,ns)/\L.length<=1000
 |[],_,ns,_,_=>⟨λi h=>absurd h ag,rfl,ag⟩|x::l,H,ns,ho,hz=>by
  simp only[vX,aA,bT,ah,not_or]at ho hz;have⟨h1,h2⟩:=H 0 ag ns (λn=>(ho n).1)<|xw (Nat.le_add_right _ _) hz;have h2:aH ns (es x)=(m0 x,ns):=h2;rw[h2]at ho hz;have hz:size (m0 x)+ah (aA ns<|vX l).1<=1000:=hz;have⟨h3,h4,h5⟩:=Em l (λi hi=>H (i+1) bB) ns (λn=>(ho n).2) ae;have h6:1<=size (m0 x):=by cases x with|mk k s n L f t a=>simp only[m0,size];omega
  have h7:∀(l:List Ty),l.length<=ah l:=by
   intro l
   induction l with
   |nil=>simp
   |cons t l ih=>simp only[pk,ah];have:1<=size t:=by cases t<;>simp[size]
                 omega
  have h8:=h7<|VU l;rw[h4]at hz;rw[xX]at h8;refine⟨λi hi=>?_,?_,?_⟩
  .cases i with
   |zero=>exact h1|succ i=>exact h3 i qBl
  .simp[vX,aA,h2,h4,VU]
  .simp only at hz;simp only[pk];omega
def aeU(h:PT w Q nd v):∀ns,(∀n,¬aD n (aH ns<|es nd).1)->size (aH ns<|es nd).1<=1000->N0 nd/\aH ns (es nd)=(m0 nd,ns):=by
 induction h with
 |var s n f t a x y hq hx hy=>
  intro ns ho _;exfalso;simp only[es,aH,if_true]at ho;exact ho _ rfl
 |fn s n a b f t at_ x y va vb ha hb Ni Nj=>
  intro ns ho hz;have e0:∀k,k=17\/k=6->aH ns (es<|.mk k s n [a,b] f t at_)=(.aJ (fy k s) (aA ns<|vX [a,b]).1,(aA ns<|vX [a,b]).2):=λk hk=>by obtain rfl|rfl:=hk<;>simp[es,aH]
  rw[e0 _<|xm rfl]at ho hz⊢;simp only[size,aD]at ho hz
  have⟨h3,h4,h5⟩:=Em [a,b] (λi hi=>by
   have qK:i=0\/i=1:=Gd;obtain rfl|rfl:=qK
   .exact Ni
   .exact Nj) ns ho ae
  refine⟨.two 17 s n a b f t at_ (xm rfl) (h3 0 ag)<|h3 1 ag,?_⟩;rw[h4];simp[m0]
 |pr s n a b f t at_ x y va vb ha hb Ni Nj=>
  intro ns ho hz;have e0:∀k,k=17\/k=6->aH ns (es<|.mk k s n [a,b] f t at_)=(.aJ (fy k s) (aA ns<|vX [a,b]).1,(aA ns<|vX [a,b]).2):=λk hk=>by obtain rfl|rfl:=hk<;>simp[es,aH]
  rw[e0 _<|xk rfl]at ho hz⊢;simp only[size,aD]at ho hz
  have⟨h3,h4,h5⟩:=Em [a,b] (λi hi=>by
   have qK:i=0\/i=1:=Gd;obtain rfl|rfl:=qK
   .exact Ni
   .exact Nj) ns ho ae
  refine⟨.two 6 s n a b f t at_ (xk rfl) (h3 0 ag)<|h3 1 ag,?_⟩;rw[h4];simp[m0]
 |up s n L f t at_ x y x' y' sa sc vs hu aM hr hx hy ih=>
  intro ns ho hz;have e0:aH ns (es<|.mk 2 s n L f t at_)=(.aJ (fy 2 s) (aA ns<|vX L).1,(aA ns<|vX L).2):=by simp[es,aH]
  rw[e0]at ho hz⊢;simp only[size,aD]at ho hz;have⟨h3,h4,h5⟩:=Em L ih ns ho ae;refine⟨.up s n L f t at_ ae h3,?_⟩;rw[h4];simp[m0]
def YQ T w(e:Ending)w':=∃u,e=.returned u/\dB w' (λb=>w.heap.size<=b) T u/\Fr (λ_=>False) w w'
def YQ.up(h:YQ T w0 e w')(hb:Bq w w0):YQ T w e w':=by
 obtain⟨u,h1,h2,h4⟩:=h;exact⟨u,h1,h2.wide λb p=>xw hb.size p,(Fr.of hb).trans h4⟩
def En nd:=∀(w:World)(Q:Nat->Prop)(v:Value),PT w Q nd v->Cq 44 #[v,.nilFunc] w (YQ (m0 nd) w)
def YR(L:List Nd)w gk v wr:=
 ∃(j:Nat)(C:Array Value),Hid (gk=L.length-j)/\j<=L.length/\v=Nv j/\Fr (λ_=>False) w wr/\Bx wr w.heap.size C/\Hid (C.size=L.length)/\
  Hid (∀i(h:i<L.length),i<j->∃u,C[i]? =some u/\dB wr (λb=>w.heap.size<b/\b<wr.heap.size) (m0 L[i]) u)
def CW c(yv:CN c)L sa sc(vs:Nat->Value)(hL:L.length<=1001)(aM:L=[]\/∃g,sa=some ⟨g,0,none⟩/\Q g/\g<w.heap.size/\∀i,i<L.length->w.cell? ⟨g,i,none⟩=some (vs i))(hr:∀i(h:i<L.length),PT w Q L[i]<|vs i)(IH:∀i(h:i<L.length),En L[i]):
 Cq 71 #[.string<|pn c,.nilFunc,.slice sa L.length sc] w (YQ (.aJ c<|VU L) w):=by
 obtain⟨i0,vC,nJ,lG,jB⟩:=info_parts fY;have Te:=gT (by_:=16) dS vC nJ rfl lG jB aK L.length hL;go_enter func71,ntmps71
 go_wp2
 go_loopg[15] L.length (λgk v wr=>YR L w gk v wr)
 case atStart=>
  exact⟨0,vf L.length .nilIface,ai ag,xy _,rfl,Fr.of<|bw _,Bx.new w _ _,ai ag,ai<|λi _ hi=>absurd hi ae⟩
 case round=>
  obtain⟨j,C,cR,hj,rfl,F1,B1,hC,hT⟩:=hrel;have zw:=F1.size;by_cases aY:j<L.length
  .have hd:(j:Int)<(L.length:Int):=ae;obtain⟨g,rfl,hg,iP,bM⟩:∃g,sa=some ⟨g,0,none⟩/\Q g/\g<w.heap.size/\∀i,i<L.length->w.cell? ⟨g,i,none⟩=some (vs i):=by
    obtain h0|h0:=aM
    .subst h0;simp at aY
    .exact h0
   have cg:wr.cell? ⟨g,j,none⟩=some (vs j):=by
    rw[xt (a:=⟨g,j,none⟩) (w:=w)<|F1.block g iP id];exact bM j aY
   have PJ:=(hr j aY).fr F1<|λb p _ q=>q;obtain⟨tv,xv,hv⟩:=PJ.bJ;have HC:=IH j aY wr Q (vs j) PJ;rw[hv]at cg HC;go_wp2_with fail;refine HC.mono ?_;rintro e w1⟨u,rfl,HU,HF⟩;obtain⟨tu,xu,rfl⟩:=HU.iface;have B2:=B1.fr HF id;have rG:j<C.size:=qBh;have cj:=(B2.c j).trans<|Array.getElem?_eq_getElem rG;have fj:=B2.f j;have B3:=B2.aP j (.iface tu xu) (C.setIfInBounds j<|.iface tu xu) rfl rG;have xF:=F1.trans HF;have z2:=HF.size;have zb:=B1.z
   go_wp2
   go_roundg(L.length-(j+1))
   case measure=>rw[uh cR];omega
   case rel=>
    refine⟨j+1,C.setIfInBounds j<|.iface tu xu,ai rfl,ae,iK,xF.set (xk<|br _) j _,B3,ai (by simp;exact hC),ai<|λi hi hij=>?_⟩;have iL:∀b,w.heap.size<b->b<w1.heap.size->(w1.setCell ⟨w.heap.size,j,none⟩<|.iface tu xu).heap[b]? =w1.heap[b]? :=λb hb _=>Below.heap_setCell _ _ _ _ (by show b≠w.heap.size;omega);have hss:(w1.setCell ⟨w.heap.size,j,none⟩<|.iface tu xu).heap.size=w1.heap.size:=yw;by_cases e:i=j
    .subst e;refine⟨.iface tu xu,by simp[rG],?_⟩;exact HU.low.move ae (λb p z=>iL b qAy z)<|λb p z=>⟨qAy,ae⟩
    .obtain⟨u',vD,vE⟩:=uh hT i hi ae;refine⟨u',by rw[Array.getElem?_setIfInBounds_ne ae];exact vD,?_⟩;have h3:=vE.fr HF<|λb p _ q=>q;exact h3.move ae (λb p z=>iL b p.1 z)<|λb p z=>⟨p.1,ae⟩
  .have hd:decide ((j:Int)<(L.length:Int))=false:=bB;have ej:j=L.length:=ae;subst ej
   go_wp2
   go_ret;refine⟨_,rfl,?_,F1⟩;have Wp:=xX L;rw[<-Wp];refine .aJ c _ _ _ (λi=>C.getD i .nilIface) yv (xk ⟨w.heap.size,rfl,br _,B1.z,λi hi=>?_⟩)<|λi hi=>?_
   .obtain⟨u,hu,_⟩:=uh hT i ae ae;rw[B1.c i,hu];simp[Array.getD_eq_getD_getElem?,hu]
   .obtain⟨u,hu,Tf⟩:=uh hT i ae ae;have:C.getD i .nilIface=u:=qBm;rw[this,QL L i ae];exact Tf.wide λb p=>qAu
def QM{T}(hk:k=17/\T=161/\cn=nB\/k=6/\T=163/\cn=lj)s n x y f t a(hx:En x)(hy:En y):En (.mk k s n [x,y] f t a):=by
 intro w Q v hp;have e:m0 (.mk k s n [x,y] f t a)=.aJ cn (VU [x,y]):=by obtain⟨rfl,rfl,rfl⟩|⟨rfl,rfl,rfl⟩:=hk<;>simp[m0,fy]
 rw[e];obtain⟨x1,y1,va,vb,ha,hb,rfl⟩:∃x1 y1 va vb,PT w Q x va/\PT w Q y vb/\v=Fv T (Av #[Iv x1,Iv y1,va,vb]):=by obtain⟨rfl,rfl,rfl⟩|⟨rfl,rfl,rfl⟩:=hk<;>(cases hp;exact⟨_,_,_,_,qas,qas,rfl⟩)
 obtain⟨ta,xa,rfl⟩:=ha.bJ;obtain⟨tb,xb,rfl⟩:=hb.bJ;have bN:Bq w ((w.alloc<|Cv #[Iv x1,Iv y1,Fv ta<|Av xa,Fv tb<|Av xb] T).alloc<|Cv #[Fv ta<|Av xa,Fv tb<|Av xb] 92):=(bw _).alloc ag _;have BR:=(Bx.new (w.alloc<|Cv #[Iv x1,Iv y1,Fv ta<|Av xa,Fv tb<|Av xb] T) #[Fv ta<|Av xa,Fv tb<|Av xb] 92);have dU:(w.alloc<|Cv #[Iv x1,Iv y1,Fv ta<|Av xa,Fv tb<|Av xb] T).heap.size=w.heap.size+1:=ag;rw[dU]at BR
 have HC:=ai (CW (w:=((w.alloc<|Cv #[Iv x1,Iv y1,Fv ta<|Av xa,Fv tb<|Av xb] T).alloc<|Cv #[Fv ta<|Av xa,Fv tb<|Av xb] 92)) (Q:=λb=>Q b\/b=w.heap.size+1) cn (by obtain⟨-,-,rfl⟩|⟨-,-,rfl⟩:=hk;exact xm rfl;exact xk<|xm rfl) [x,y] (some ⟨w.heap.size+1,0,none⟩) 2 (λi=>if i=0 then Fv ta (Av xa)else Fv tb (Av xb)) ag
  (xk ⟨w.heap.size+1,rfl,xk rfl,ag,λi hi=>by
   have qK:i=0\/i=1:=Gd;rw[BR.c i]
   obtain rfl|rfl:=qK<;>rfl⟩)
  (λi hi=>by
   have qK:i=0\/i=1:=Gd;obtain rfl|rfl:=qK
   .exact(ha.af bN).wide λb p=>xm p
   .exact(hb.af bN).wide λb p=>xm p)
  (λi hi=>by
   have qK:i=0\/i=1:=Gd;obtain rfl|rfl:=qK
   .exact hx
   .exact hy))
 obtain⟨rfl,rfl,rfl⟩|⟨rfl,rfl,rfl⟩:=hk;all_goals
  first|rw[jI]at HC|rw[jJ]at HC
  exact xV
def agv s n L f t a(hl:L.length<=1001)(hL:∀i(h:i<L.length),En L[i]):En (.mk 2 s n L f t a):=by
 intro w Q v hp;have e:m0 (.mk 2 s n L f t a)=.aJ s (VU L):=by simp[m0,fy]
 rw[e]
 cases hp with
 |up s n L f t at_ x y x' y' sa sc vs hu aM hr hx hy=>
 clear hx hy;have bN:Bq w (w.alloc<|Cv #[Iv x,Iv y,Iv x',Iv y',Sv s,Lv sa L.length sc] 166):=bw _
 have HC:=ai (CW (Q:=Q) s (xk<|xk hu) L sa sc vs hl
  (aM.imp id λq=>by
   obtain⟨g,q1,q2,q3,q4⟩:=q
   exact⟨g,q1,q2,bB,λi hi=>(xt (a:=⟨g,i,none⟩)<|bN.block g q3).trans<|q4 i hi⟩)
  (λi hi=>(hr i hi).af bN) hL)
 rw[eM hu]at HC;clear aM hr;exact xV
def aeV nd(h:N0 nd):En nd:=by
 induction h with
 |two k s n x y f t a hk hx hy dH gJ=>
  obtain rfl|rfl:=hk
  .exact QM (xm ⟨rfl,rfl,rfl⟩) s n x y f t a dH gJ
  .exact QM (xk ⟨rfl,rfl,rfl⟩) s n x y f t a dH gJ
 |up s n L f t a hl hL ih=>exact agv s n L f t a hl ih
end
section
open Go.ChangeMaps Go.MapKept Un
section
variable {c:WC} {cnt:Nat}
def acO{x}(h:CO (.mk 2 x n [] f t a) c w cnt s kb Λ Γ gb Q dom (.iface 390<|.agg #[Nv f,Nv t,.string x])):
 Cq 323 #[Pv c.eb,Mv kb,Mv gb,.iface 390<|.agg #[Nv f,Nv t,.string x]] w (ba c (1100*nn (.mk 2 x n [] f t a)) (1000*nn (.mk 2 x n [] f t a)) (jf c.mks (.mk 2 x n [] f t a) Γ) s cnt w):=by
 have en:nn (.mk 2 x n [] f t a)=1:=qBi;obtain⟨tk,m,hx⟩:∃tk m,c.mks x=some (tk,m):=by
  cases h.sc with
  |up _ _ _ _ _ _ tk m hx=>exact⟨tk,m,hx⟩|leaf _ _ _ _ _ _ _ hk=>omega
 rw[en,YL c.mks x n f t a Γ hx];have VR:=h.ft.a;rw[en]at VR;have dU:=h.mf.sz x tk m hx;have Gc:=h.mf.wh x tk m hx;have HVS:=h.mf.vs x tk m hx;have has:=sL tk m;have yJ:(vars [] m).length<=size m:=by
  exact I9
 have hla:(vars []<|jp tk m).length<=1000:=by
  rw[cr];have h2:=cX (occs<|jp tk m) [];have h3:=cY<|jp tk m;simp only[ua]at h2;omega
 have⟨k0,B0⟩:=nK w #[Nv f,Nv t,Sv x] 390;obtain⟨w0,wU⟩:∃w0,w0=w.alloc (Cv #[Nv f,Nv t,Sv x] 390):=⟨_,rfl⟩;have Xk:=h.we.af k0;have wk0:=h.wk.af k0;rw[<-wU]at k0 B0 Xk wk0;have⟨v,hv,xQ⟩:=Xk.ms.look hx;have ld:=Xk.d;have ll:=Xk.l;have hv':=hv;obtain⟨sa,sc,ta,xa,rfl,hr,hm⟩:=hv';have HRN:∀W:World,Bq w0 W->Cq 334 #[Pv c.eb,Fv ta xa] W (λe w'=>∃b,e=Rv (Mv b)/\RnA c cnt (vars [] m) w0 w' b):=λW hb=>by
  refine(CR (Xk.af hb) (hm.w.af hb) ae ae).mono ?_;rintro e w'⟨b,rfl,h1,h2,h3,h4⟩;exact⟨b,rfl,by have:=hb.size;omega,h2,h3,(Fr.of hb).trans h4⟩
 have HTY:∀W:World,Fr (λi=>i=c.cb) w0 W->Cq 335 #[Av #[Lv sa tk.length sc,Fv ta xa]] W (λe w'=>∃tu xu,e=Rv (Fv tu xu)/\cW w' (dn c) (jp tk m) (Fv tu xu)/\Bq W w'):=λW hF=>by
  refine(vW (hv.move (Q:=dn c) hF.size (λb p z=>hF.block b z p.1)<|λb p _=>p.1) ae).mono ?_;rintro e w'⟨u,rfl,hu,hk⟩;obtain⟨tu,xu,rfl⟩:=hu.iface;exact⟨tu,xu,rfl,hu.wide λi p=>by obtain p|p:=p;exact p;show i≠c.cb;have:=hF.size;omega,hk⟩
 have zU:∀(W:World)(b:Nat)(tu:TypeId)(xu:Value),RnA c cnt (vars [] m) w0 W b->cW W (dn c) (jp tk m) (Fv tu xu)->Cq 314 #[Mv b,Fv tu xu] W (λe w'=>∃tr xr,e=Rv (Fv tr xr)/\TW w' (dn c) 1100 (sub (jm<|qD cnt<|vars [] m)<|jp tk m) (Fv tr xr)/\Bq W w'):=λW b tu xu hA hu=>by
  have ev:=QG cnt<|vars [] m;have I8:=GQ hA.sb (show dn c b by have:=hA.z;show b≠c.cb;omega) hu ae (by rw[ev,iz];omega);rw[ev]at I8;refine I8.mono ?_;rintro e w'⟨u,rfl,Uk,hk⟩;obtain⟨tr,xr,rfl⟩:=Uk.iface;have hw':=pB (qD cnt<|vars [] m) _ Gc;refine⟨tr,xr,rfl,⟨⟨_,Uk.wide λi p=>by obtain p|p:=p;exact p;show i≠c.cb;have:=hA.F.size;omega,(cZ.refl _).cut hw',?_⟩,hw'⟩,hk⟩;have hlq:(vars []<|sub (jm<|qD cnt<|vars [] m)<|jp tk m).length<=1000:=by
   rw[cr];have h2:=cX (occs<|sub (jm<|qD cnt<|vars [] m)<|jp tk m) [];have h3:=cY<|sub (jm<|qD cnt<|vars [] m)<|jp tk m;rw[iz]at h3;simp only[ua]at h2;omega
  have:=fh hw' hlq ae;omega
 have HLK:∀W:World,Fr (λi=>i=c.cb) w0 W->(Instr.lookup 214 (Mv c.mb) (Sv x) false).run Tryz.prog W=.ok (Av #[Lv sa tk.length sc,Fv ta xa]) W:=λW hF=>xQ W<|hF.block _ ae ae;have acP:=HLK w0.drew<|Fr.of (Below.refl _ _).drew;obtain⟨b1,b2,b3⟩:=B0;have⟨e1,e2,e3⟩:=Xk.bx;have BB:=show Bx w0 w.heap.size #[Nv f,Nv t,Sv x]from⟨b1,b2,b3⟩;have K0:=ai k0;have WK0:=ai wk0;have HU:=ai h.wk.u;have nz:=ld.1;have zc:=h.we.dh;clear h k0 Xk wk0 hv xQ hr hm Gc ld ll;go_enter func323,ntmps323;go_wp2_with fail;rw[<-wU];clear wU;have aml:=ajm;have ne0:¬w.heap.size=c.cb:=ae;have f1:=e1 2;have f2:=b1 2;clear e1 e2 e3 b1 b2 b3
 go_region_held3(λw'=>w'.cell? ⟨c.eb,2,none⟩=some (Mv c.mb)/\w'.cell? ⟨w.heap.size,2,none⟩=some (Sv x)/\(zh 214 (Mv c.mb) (Sv x) false).run xn w'=.ok (Av #[Lv sa tk.length sc,Fv ta xa]) w') (first|go_keep|(simp[*])) (first
  |(go_at_call 334;go_loud(refine(HRN _ (zv _ _).drew).mono ?_);rintro e w2⟨b5,rfl,hA⟩;have g1:w2.cell? ⟨c.eb,2,none⟩=some (Mv c.mb):=hA.we.bx.c 2;have g2:w2.cell? ⟨w.heap.size,2,none⟩=some (Sv x):=(BB.fr hA.F ne0).c 2;have acQ:=HLK w2 hA.F;have HA:=ai hA;clear hA)
  |(go_at_call 335;go_loud(refine(HTY _ HA.F).mono ?_);rintro e w3⟨tu,xu,rfl,hu,k3⟩;have A3:Hid (RnA c cnt (vars [] m) w0 w3 b5):=ai ⟨HA.z,HA.we.af k3,HA.sb.af k3,HA.F.trans<|Fr.of k3⟩;have g3:w3.cell? ⟨c.eb,2,none⟩=some (Mv c.mb):=A3.we.bx.c 2;have g4:w3.cell? ⟨w.heap.size,2,none⟩=some (Sv x):=(BB.fr A3.F ne0).c 2;have amm:=HLK w3 A3.F;have U3:=ai hu;clear hu k3)
  |(go_at_call 314;go_loud(refine(zU _ _ _ _ A3 U3).mono ?_);rintro e w4⟨tr,xr,rfl,ht,k4⟩;have A4:=A3.F.trans<|Fr.of k4;have g5:w4.cell? ⟨c.eb,2,none⟩=some (Mv c.mb):=(A3.we.af k4).bx.c 2;have g6:w4.cell? ⟨w.heap.size,2,none⟩=some (Sv x):=(BB.fr A4 ne0).c 2;have amn:=HLK w4 A4;have K4:=ai k4;have T4:=ai ht;clear ht k4 A4))
 all_goals
  go_wp2
  go_ret2;have a3:=uh A3;have k4:=uh K4;have wk0:=uh WK0;refine⟨(Fr.of K0).trans<|a3.F.trans<|Fr.of k4,cnt+(vars [] m).length,.ok (sub (jm<|qD cnt<|vars [] m)<|jp tk m,⟨s.k,λn=>s.u n\/(cnt<n/\n<=cnt+(vars [] m).length)⟩),ae,ae,a3.we.af k4,xk ⟨(_,qD cnt<|vars [] m),_,xk ⟨qD cnt<|vars [] m,_,⟨_,_,I_ (CI cnt (vars [] m) (cH m xi) HU) λv=>?_,rfl⟩,rfl⟩,rfl⟩,λn q=>q,wk0.wh,tr,xr,kb,rfl,wk0.n,(wk0.k.fr a3.F wk0.n<|λ_ p _=>p).af k4,T4.le ae⟩;rw[bK,bK];simp only[List.not_mem_nil,false_or];exact⟨acK tk m v,HVS v⟩
end
abbrev alb:GC:=λ_ B M _=>B=(λ_=>False)/\M=(λ_=>False)
def Ul n w:Cq 329 #[Iv n] w λe w'=>e=.returned (.iface 169<|.agg #[.string iM,.slice none 0 0])/\w'=w:=by
 go_enter func329,ntmps329;go_wp2_with fail;refine(yE).mono ?_;rintro e w1⟨rfl,rfl⟩
 go_wp2
 go_ret;exact⟨rfl,rfl⟩
def Nk:Img 329 #[] #[] (λ_=>In.sN) (λ_ _=>True) alb where
 eg:=enters_of Tryz.func329 qkr rfl
 lq acc B M w w' h _ _:=h
 lt acc B M w h:=yG
 call acc B M w n h _:=by
  obtain⟨rfl,rfl⟩:=h;refine(Ul (n:Int) w).mono ?_;rintro e w'⟨rfl,rfl⟩;exact⟨_,_,_,rfl,GF _ _ rY,⟨rfl,rfl⟩,λb p=>p.elim,λb p=>p.elim,Fr.refl _ _⟩
def Ck{t}(ht:cW w Q t v)(hz:size t<=1000000000000):Cq 318 #[v] w λe w'=>∃u,e=.returned u/\cW w' (λi=>w.heap.size<=i) (In.og t) u/\Bq w w':=by
 have HC:=yD Nk t [] _ _ w v Q ⟨rfl,rfl⟩ (λi hi=>trivial) hz ht<|λx _ _=>id;obtain⟨ta,xa,rfl⟩:=ht.iface;go_enter func318,ntmps318;go_wp2_with fail;refine HC.mono ?_;rintro e w1⟨u,B',M',rfl,HU,hI,hB',hM',F⟩;obtain⟨tu,xu,rfl⟩:=HU.iface;have HB:=F.none<|λ_ q=>q
 go_wp2
 go_ret;exact⟨_,rfl,HU.wide λx p=>p.2.elim (λq=>q.elim) id,HB⟩
end
section
open Go.ChangeMaps
abbrev LD:Array Value:=#[Iv 0,Iv 0,Iv 0,.nilIface,.nilIface]
def Um a b c d e w:(Instr.typeAssert (.iface 454<|.agg #[a,b,c,d,e]) 20 454 true).run xn w=.ok (.tuple #[.agg #[a,b,c,d,e],.bool true]) w:=qkr
def Bx.PQ(h:Bx w b C)(hC:C.size=5)v0 v1 v2 v3 v4:Bx (((((w.setCell ⟨b,0,none⟩ v0).setCell ⟨b,1,none⟩ v1).setCell ⟨b,2,none⟩ v2).setCell ⟨b,3,none⟩ v3).setCell ⟨b,4,none⟩ v4) b #[v0,v1,v2,v3,v4]:=by
 obtain⟨a0,a1,a2,a3,a4,rfl⟩:∃a0 a1 a2 a3 a4,C=#[a0,a1,a2,a3,a4]:=by
  obtain⟨l⟩:=C
  match l,hC with
  |[a,b,c,d,e],_=>grind
 exact((((h.aP 0 v0 #[v0,a1,a2,a3,a4] rfl ag).aP 1 v1 #[v0,v1,a2,a3,a4] rfl ag).aP 2 v2 #[v0,v1,v2,a3,a4] rfl ag).aP 3 v3 #[v0,v1,v2,v3,a4] rfl ag).aP 4 v4 #[v0,v1,v2,v3,v4] rfl ag
def Ci b(hB:Bx w b LD)(f:Fl)vl vr(hv:(vl=.nilIface/\vr=.nilIface)\/∃a b c d,vl=.iface a b/\vr=.iface c d):
 CallsD xn 312 #[Pv b] (.panicking [{v:=.iface 454<|.agg #[Nv f.kind,Nv f.al,Nv f.to,vl,vr],recovered:=false}]) w λe u' w'=>
  e=.returned (.tuple #[])/\u'=.panicking [{v:=.iface 454<|.agg #[Nv f.kind,Nv f.al,Nv f.to,vl,vr],recovered:=true}]/\Bx w' b #[Nv f.kind,Nv f.al,Nv f.to,vl,vr]/\Fr (λi=>i=b) w w':=by
 obtain⟨G,hG⟩:∃G:Value,G=.iface 454 (.agg #[Nv f.kind,Nv f.al,Nv f.to,vl,vr]):=⟨_,rfl⟩;rw[<-hG];have hta:=Um;have B0:=ai hB;obtain⟨c,ff,z⟩:=hB;refine callsD_of_wpS Tryz.func312 rfl λdd cs hu=>?_;apply wpS_seq;apply wpS_region;simp[wpOpsS,go_sem,recoverD,hu,Tryz.ntmps312,Exit.thenS];rw[show(#[Pv b]++((vf 16 undef).setIfInBounds 3 G).setIfInBounds 0 G)=#[Pv b,G,undef,undef,G,undef,undef,undef,undef,undef,undef,undef,undef,undef,undef,undef,undef]from rfl];obtain⟨CS,Be⟩:∃CS:List Frame,CS=({fn:=dd.fn,tmps:=dd.tmps,todo:=dd.todo,defers:=dd.defers,mode:=FrameMode.panicking [{v:=G,recovered:=true}],kind:=dd.kind,roundOf:=dd.roundOf}::cs):=⟨_,rfl⟩;rw[<-Be];refine wpS_of_wp ?_;subst hG;obtain⟨rfl,rfl⟩|⟨ta,xa,tb,xb,rfl,rfl⟩:=hv
 all_goals(
 go_wp2_with fail;refine⟨rfl,_,Be,.tuple #[],by simp[results,Tryz.results312,go_sem],rfl,rfl,?_,?_⟩
 .exact((B0.PQ rfl _ _ _ _ _).alloc _)
 .exact(((((Fr.refl (λi=>i=b) w).set (b:=b) (xm rfl) 0 _).set (xm rfl) 1 _).set (xm rfl) 2 _).set (xm rfl) 3 _).set (xm rfl) 4 _|>.trans (Fr.of<|bw _))
def acq b:
 CallsD xn 312 #[Pv b] .returning w λe u' w'=>
  e=.returned (.tuple #[])/\u'=.returning/\w'=w:=by
 refine callsD_of_wpS Tryz.func312 rfl λdd cs hu=>?_;apply wpS_seq;apply wpS_region;simp[wpOpsS,go_sem,recoverD,hu,Tryz.ntmps312,Exit.thenS];rw[show(#[Pv b]++((vf 16 undef).setIfInBounds 3 Zv).setIfInBounds 0 Zv)=#[Pv b,Zv,undef,undef,Zv,undef,undef,undef,undef,undef,undef,undef,undef,undef,undef,undef,undef]from rfl];have Be:dd::cs={dd with mode:=.returning}::cs:=(by cases dd;simp at hu;subst hu;rfl);refine wpS_of_wp ?_
 go_wp2
 exact⟨rfl,_,Be,.tuple #[],by simp[results,Tryz.results312,go_sem],rfl,rfl,rfl⟩
end
end Go.Proofs.YtfnkchdeheeiiaaGreatDoor

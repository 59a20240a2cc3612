import Derived.Test.YtlnlhlefeokfjaaGreatDoorPYz6
import Derived.Test.YtlnlhlefeokfjaaGreatDoorPYs
set_option linter.all false
set_option maxRecDepth 100000
set_option maxHeartbeats 8000000
namespace Go.Proofs.YtlnlhlefeokfjaaGreatDoor
open Or renaming inr->ja,inl->jc
open In renaming eu->jd,Cd->jf,inf->jh,Zm->ji,fs->jj,rK->jk,cz->jl,ch->jm,iG->jo,arr->jp,Env->jq,mD->jt,St->ju,bN->jv
open Go.Proofs.Tryz renaming prog->jx,checked->jy,f3->jz
open Un renaming written->j3
open Bx renaming new->j5
open _root_.Nat renaming le_trans->j6,zero_le->j7,lt_of_lt_of_le->j8
open Go.World renaming cell?_of_block->j9
open Go Go.RowKit Go.ChangeMaps Proofs.Tryz
variable {x:BA} {dom:BA->Prop} {rs:Bool} {fn:FuncId} {g:f_} {Γ:jq} {s s1:ju} {c:JC} {L:List (BA×BA)} {B:List (BA×Un.Ty)} {nl:List BA} {a b l n nb:Nat} {P:Nat->Prop} {t:Nd} {u:Option Addr} {T T1:Un.Ty} {v:Value} {w:World}
section
open Go.MapKept Un
section
variable {cnt:Nat}
def akW{f t}(h:oY (.mk 2 x n [] f t a) c w nb l cnt g s Γ dom v):Cq 309 #[nA c.eb,.iface 282<|.agg #[Nv f,Nv t,.string x]] w (c_ c nb l (1000*nn (.mk 2 x n [] f t a)) (jh c.mks (.mk 2 x n [] f t a) Γ) g s cnt w):=by
 have en:nn (.mk 2 x n [] f t a)=1:=qBi;obtain⟨tk,m,hx⟩:∃tk m,c.mks x=some (tk,m):=by
  cases h.sc with
  |up _ _ _ _ _ _ tk m hx=>exact⟨tk,m,hx⟩|leaf _ _ _ _ _ _ _ hk=>omega
 have fa:=h.fa;rw[en]at fa;rw[en,Yk c.mks x n f t a Γ hx];have fK:=h.mf.sz x tk m hx;have Iw:=h.mf.wh x tk m hx;have has:=tw tk m;have⟨k0,B0⟩:=oF w #[Nv f,Nv t,Sv x] 282;obtain⟨w0,yn⟩:∃w0,w0=w.alloc (Cv #[Nv f,Nv t,Sv x] 282):=⟨_,rfl⟩;have a0:=h.aj.af k0;rw[<-yn]at k0 B0 a0;have⟨v,hv,Ds⟩:=a0.je.ms.look hx;have Ds:=Ds w0.drew rfl;have zcb:=a0.je.ct.z;have zlm:=a0.je.z.2.2;obtain⟨sa,sc,ta,xa,rfl,-⟩:=id hv;have HTY:∀W:World,Bq w0 W->Cq 263 #[Av #[Lv sa tk.length sc,Fv ta xa]] W (λe w'=>∃tu xu,e=Rv (Fv tu xu)/\dD w' (λi=>i≠c.cb/\i<w'.heap.size) (jp tk m) (Fv tu xu)/\Bq W w'):=λW k=>by
  refine(xA (hv.move (Q:=λi=>i≠c.cb) k.size (λb _ z=>k.block b z)<|λb p _=>p.1) ae).mono ?_;rintro e w'⟨u,rfl,hu,hk⟩;obtain⟨tu,xu,rfl⟩:=hu.iface;exact⟨tu,xu,rfl,(hu.v Iw).move (br _) (λ_ _ _=>rfl)<|λb p z=>⟨p.elim id λp=>by have:=k.size;omega,z⟩,hk⟩
 have Ad:∀(W w3:World)(kb jb mb:Nat)(tu:TypeId)(xu:Value),Bq w0 W->dD w3 (λi=>i≠c.cb/\i<w3.heap.size) (jp tk m) (Fv tu xu)->Bq w3 W->sM c l kb jb mb W g s cnt jf->w3.heap.size<=mb->w0.heap.size<=mb->Cq 40 #[Fv tu xu,Nv l,anV kb jb] W (λe w'=>∃n,e=Rv (nA n)/\c_ c nb l 1000 (In.andM (In.rj (jp tk m) jf) λq=>In.cH q.1) g s cnt w (Rv<|nA n) w'):=λW w3 kb jb mb tu xu k ht k3 an hm hm0=>by
  have zk:kb<W.heap.size/\jb<W.heap.size/\mb<W.heap.size:=⟨an.bk.z,an.bj.z,by have⟨L',Pr,_⟩:=an.mp;exact Pr.lt⟩;refine(QP zk.1 zk.2.1 zk.2.2 (jp tk m) W g s cnt jf _ _ (a0.af k).je (a0.af k).js a0.us an (br _) (ht.move k3.size (λb _ z=>k3.block b z)<|λ_ p _=>p) (λb p=>⟨p.1,by have:=p.2;omega⟩) fK (λ_ _=>trivial) ae).mono ?_;rintro e w'⟨n4,g4,s4,c4,El,rfl,je,js,-,o,hn,hV,zP,hT,p9,F⟩;have o':=o.tJ k.size;have F':Fr (jS c g) w0 w':=(Fr.of k).hY F λb q=>q.imp (λq=>jc q) λq=>ae;have a4:=o'.aj a0 (br _) je js;exact⟨n4,rfl,(((n8.start a0 _).and (o'.drawn hT) a4<|o'.stj a0.js (br _) F').ret ⟨hn,by rw[hV,o.kk],zP⟩ ae).up k0⟩
 have HAN:Hid (∀W:World,Bq w0 W->Cq 314 #[nA c.eb] W λe w'=>∃kb jb mb,e=Rv (anV kb jb)/\sM c l kb jb mb w' g s cnt In.Cd/\Bq W w'/\(kb<w'.heap.size/\jb<w'.heap.size/\mb<w'.heap.size)/\W.heap.size<=mb/\W.heap.size<=jb/\W.heap.size<=kb):=ai λW k=>QR (a0.af k).je g s;have HL:Hid (∀W:World,Bq w0 W->W.cell? ⟨c.eb,4,none⟩=some (Nv l)):=ai λW k=>(a0.af k).je.bx.c 4;obtain⟨b1,b2,b3⟩:=B0;have⟨e1,e2,e3⟩:=a0.je.bx;have HW:=ai yn;clear h k0 a0 hv yn;go_enter func309,ntmps309;go_wp2_with fail;rw[<-uh HW]
 go_region_with(first
  |(go_at_call 263;go_loud(refine(HTY _ (Below.refl _ _).drew).mono ?_);rintro e w3⟨tu,xu,rfl,hu,k3⟩;have k3':Bq w0 w3:=(Below.refl _ _).drew.trans k3;have f3:=uh HL _ k3';have U3:=ai hu;have K3:=ai k3';clear hu k3 k3')
  |(go_at_call 314;go_loud(refine(HAN _ K3).mono ?_);rintro e w4⟨kb,jb,mb,rfl,an,k4,-,hm,-,-⟩;have k4':Bq w0 w4:=K3.trans<|k4.mono K3.size;have f4:=uh HL _ k4';have HO:=ai<|Ad w4 w3 kb jb mb tu xu k4' U3 k4 an hm<|j6 K3.size hm;clear k4 an hm k4')
  |(go_at_call 40;go_loud(refine HO.mono ?_);rintro e w5⟨n5,rfl,hp⟩;have HP:=ai hp;clear hp))
 all_goals
  go_wp2
  go_ret;exact HP
end
def WW:∀(k:Nat)(nd:Nd),nn nd<=k->lV nd:=by
 intro k
 induction k with
 |zero=>intro nd h;cases nd;simp only[nn]at h;omega|succ k ih=>
  intro nd hk c w nb l cnt g s Γ dom v h;have hp:=h.pe;have fa:=h.fa;have fb:=h.fb;have hl:l<aL:=qAx
  cases hp with
  |low st n f t a hs=>
   rw[ir]at fa⊢;have hd:Γ st≠none:=by
    cases h.sc with
    |low _ _ _ _ _ _ hx=>exact h.hd _ hx|leaf _ _ _ _ _ _ _ hk=>omega
   rw[show jh c.mks (.mk 1 st n [] f t a) Γ=In.qT Γ st f t by simp[jh,In.li]];exact dj.1 λW hb=>(agJ (h.aj.af hb) hl (h.en.af hb) hd f t ae).mono λe w' q=>n8.last (n8.start (h.aj.af hb) _) q ae
  |up st n f t a hs=>exact akW h|num st n f t a=>
   rw[ir]at fa;rw[mH c.mks 3 st n f t a Γ lh<|jc ⟨rfl,rfl⟩,ir];exact Gk (jc ⟨rfl,rfl,_,rfl⟩) h.aj ae
  |word st n f t a hs=>
   rw[ir]at fa;rw[mH c.mks 4 st n f t a Γ gS<|ja<|jc ⟨rfl,rfl⟩,ir];exact Gk (ja<|jc ⟨rfl,rfl,_,rfl⟩) h.aj ae
  |unit st n f t a=>
   rw[ir]at fa;rw[mH c.mks 5 st n f t a Γ jC<|ja<|ja ⟨rfl,rfl⟩,ir];exact Gk (ja<|ja ⟨rfl,rfl,rfl⟩) h.aj ae
  |pr st n x y f t a vx vy hx hy=>
   have iX:nn x<=k/\nn y<=k:=IA;exact ae7 (ih x iX.1) (ih y iX.2) h hx hy
  |of st n x y f t a vx vy hx hy=>
   have iX:nn x<=k:=IA;obtain⟨tx,ax,rfl⟩:=hx.iface;obtain⟨ty,ay,rfl⟩:=hy.bO;exact dj.2.1 λW hb=>ZM (ih x iX) (h.up hb) (hx.af hb)<|hy.af hb
  |op st n x y f t a vx vy hs hx hy=>exact absurd rfl (vB h.sc ag).1|call st n x y f t a vx vy hx hy=>
   have iX:nn x<=k/\nn y<=k:=IA;obtain⟨tx,ax,rfl⟩:=hx.iface;obtain⟨ty,ay,rfl⟩:=hy.iface;exact dj.2.2.1 λW hb=>adj (ih x iX.1) (ih y iX.2) (h.up hb) (hx.af hb)<|hy.af hb
  |fn st n x f t a y vx hs hy hx=>
   have iX:nn x<=k:=IA;exact aiG (ih x iX) h hx
  |lt K st n x z f t a y vx vz hc hs hy hx hz=>
   have iX:nn x<=k/\nn z<=k:=IA;obtain rfl|rfl:=hc
   .exact acv (rc:=false) (ih x iX.1) (ih z iX.2) h hx hz
   .exact acv (rc:=true) (ih x iX.1) (ih z iX.2) h hx hz
  |ite st n x y z f t a vx vy vz hx hy hz=>
   have iX:nn x<=k/\nn y<=k/\nn z<=k:=IA;obtain⟨tx,ax,rfl⟩:=hx.iface;obtain⟨ty,ay,rfl⟩:=hy.iface;obtain⟨tz,az,rfl⟩:=hz.iface;exact dj.2.2.2.1 λW hb=>U0 (ih x iX.1) (ih y iX.2.1) (ih z iX.2.2) (h.up hb) (hx.af hb) (hy.af hb)<|hz.af hb
  |mt st n x A f t a vx rb sc vp ve h0 hg hz hc hx hp he=>
   have iX:nn x<=k/\bV (bq A)<=k:=IA;obtain⟨tx,ax,rfl⟩:=hx.iface
   exact dj.2.2.2.2 λW hb=>aiF (ih x iX.1) (λi hi=>ih _ (by have:=tW A i hi;omega)) (h.up hb) hg (j8 hz hb.size) (λi hi=>by
    have my:∀o,W.cell? ⟨rb,o,none⟩=w.cell? ⟨rb,o,none⟩:=λo=>j9 (a:=⟨rb,o,none⟩)<|hb.block rb hz;simp only[my]
    exact hc i hi) (hx.af hb) (λi hi=>(hp i hi).af hb) (λi hi=>(he i hi).af hb)
def ae8 nd:lV nd:=WW _ nd<|br _
def af_ c nb cnt g(s:ju)(Γ:jq)rc st a y x w(e:Ending)w':=Fr (jG c g nb) w w'/\∃o,jm rc st x (jh c.mks x) Γ s o/\match o with
 |.error z=>∃vl vr,e=.returned (.tuple #[.nilIface,Ck z.f vl vr])/\rM w' (λ_=>True) z vl vr
 |.ok (t,s1)=>(48<size (sub s1.k t)/\e=.returned (.tuple #[.nilIface,Ck ⟨7,a,y⟩ .nilIface .nilIface]))\/
  (size (sub s1.k t)<=48/\∃T ta xa aE g',T=(if jk x then sub s1.k t else jd (sub s1.k t))/\e=.returned (.tuple #[.iface ta xa,.agg MU])/\dD w' (λ_=>True) T (.iface ta xa)/\aE<=cnt+1000*(1+nn x)+48/\AJ w' c nb 0 aE g' s1/\b_ w' nb (jl Γ st ⟨T,vars [] T⟩) g' s1/\ji s1 (jl Γ st ⟨T,vars [] T⟩))
section
variable {w':World} {cnt:Nat} {rc:Bool} {st:BA} {x:Nd}
def aiH{g1}(tp:ji s Γ)(ok:In.Ok s)(hp:jm rc st x (jh c.mks x) Γ s (.ok (T1,s1)))(nm:Cj g1 s1 (In.eU (mg rc st Γ) s1.k T1 true) n):Cj g1 s1 ⟨sub s1.k T1,vars []<|sub s1.k T1⟩ n:=by
 have⟨kp,ti⟩:=jo rc st x (jt c.mks x) Γ s _ ok (λ_ q=>q) tp.env T1 s1 hp;have nf:∀v,¬In.wZ (mg rc st Γ) s1.k v:=λv⟨y,d,q1,q2,q3⟩=>by
  have Xj:Γ y=some d:=by
   cases rc with
   |false=>exact q1|true=>
    simp only[mg,if_true,In.lR]at q1;split at q1
    .cases q1
    .exact q1
  have⟨t1,t2⟩:=tp y d Xj;have fx:=jj λk hk=>by
   have:=t2 k (by rw[t1];exact In.aq.2 hk);exact kp.fix this.2<|λz=>z this.1
  rw[fx]at q2;exact q3 (by rw[t1];exact In.aq.2 q2)
 refine⟨nm.mem,nm.val,λv=>?_,nm.use,λv q=>In.aq.1 q⟩;rw[<-nm.any v];simp only[In.eU,if_true,In.zL,List.mem_filter,decide_eq_true_eq];exact⟨λq=>⟨q,nf v⟩,λq=>q.1⟩
def ae9(tp:ji s Γ)(ok:In.Ok s)(hp:jm rc st x (jh c.mks x) Γ s (.ok (T1,s1)))(hT:T=(if jk x then sub s1.k T1 else jd (sub s1.k T1))):ji s1 (jl Γ st ⟨T,vars [] T⟩):=λy d hd=>by
 have⟨kp,ti⟩:=jo rc st x (jt c.mks x) Γ s _ ok (λ_ q=>q) tp.env T1 s1 hp;rw[jl]at hd;split at hd
 .injection hd with hd;subst hd;refine⟨rfl,λv hv=>?_⟩;have hv:=In.aq.1 hv;rw[hT]at hv;split at hv
  .exact kp.ok.om ti.use hv
  .have⟨m,_,o⟩:=(jv _).1 hv;simp[aB,bX]at o
 .have⟨q1,q2⟩:=tp y d hd;exact⟨q1,λv hv=>⟨kp.run.mono v (q2 v hv).1,kp.fix (q2 v hv).2 λz=>z (q2 v hv).1⟩⟩
def dD.whole{t}{v}(h:dD w P t v):Whole t:=by
 induction h with
 |var n=>trivial|aJ k L sa sc vs hc aN hr ih=>
  refine⟨λe=>?_,?_⟩
  .obtain q|q|q:=hc
   .exact X' (q▸e)
   .exact Ya (q▸e)
   .obtain⟨a,r,h1,h2⟩:=q;rw[e,show sK.toList=[116,111,111,32,108,97,114,103,101]from toList_mk _]at h1;injection h1 with h1 _;subst h1;revert h2;decide
  .have:∀l:List Ty,(∀i(h:i<l.length),Whole l[i])->lX l:=by
    intro l
    induction l with
    |nil=>exact λ_=>trivial|cons t l ih=>exact λq=>⟨q 0 ag,ih λi hi=>q (i+1) qBl⟩
   exact this L ih
def AJ.off{S}(a:AJ w c nb l cnt g s)(f:Fr S w w')(h:∀b,S b->b≠c.rb/\b≠c.mb/\b≠c.eb/\b≠c.cb/\(∀p,w.cell? ⟨b,0,none⟩≠some (.pointer p))/\∀t y,w.cell? ⟨b,0,none⟩≠some (.iface t y)):AJ w' c nb l cnt g s:=by
 obtain⟨⟨bx,ct,rs,ms,z⟩,js,q1,q2,q3⟩:=a;exact⟨⟨bx.fr f λz=>(h _ z).2.2.1 rfl,ct.fr f λz=>(h _ z).2.2.2.1 rfl,rs.same<|f.block _ rs.lt λz=>(h _ z).1 rfl,(ms.UY (S:=S) λb q=>(h b q).2.2.2.2.2).move f.size (f.block _ ms.lt λz=>(h _ z).2.1 rfl) (λb p y=>f.block b y p.2)<|λ_ p _=>p.1,⟨z.1,z.2.1,j6 z.2.2 f.size⟩⟩,⟨js.gl.lU f.size λb p q=>f.block b (fy q) λz=>(h b z).2.2.2.2.1 p q,js.mY,js.inj,js.can,js.lc,js.val,js.use,js.ok⟩,q1,q2,q3⟩
def AJ.glo(a:AJ w c nb l cnt g s)(q:jS c g b):c.lo<=b:=Nat.le_of_not_lt λp=>a.YL p q
def Uq{p:Prop}(h:p:=by
 go_wp2_with fail;refine wp_region_noPanic ?_;go_region;all_goals
  refine NoPanic.normal ?_;go_wp2_with fail;refine HTT.mono ?_;rintro e w5⟨tu,xu,rfl,fz5,HPO⟩;have FZ5:=ai fz5;obtain⟨f1,f2,f3⟩:=fz5;go_wp2_with fail;have F8:=FZ5.Ql rfl (Iv 0) (Iv 0) (Iv 0) Zv .nilIface;have G8:=(((((Fr.refl (λi=>i=w.heap.size+1) w5).set (b:=w.heap.size+1) (jc rfl) 0<|Iv 0).set (b:=w.heap.size+1) (jc rfl) 1<|Iv 0).set (b:=w.heap.size+1) (jc rfl) 2<|Iv 0).set (b:=w.heap.size+1) (jc rfl) 3 Zv).set (b:=w.heap.size+1) (jc rfl) 4 .nilIface;refine leaves_cons (f:=304) (args:=#[Pv<|w.heap.size+1]) ag Zi ?_;refine(aeH<|w.heap.size+1).mono ?_;rintro e u' w9⟨rfl,rfl,rfl⟩;obtain⟨c9,_,_⟩:=F8;simp[Leaves,settle,results,Tryz.results302,go_sem,c9]
  exact HPO _ G8):p:=h
def aiI{y}(h:BdJ rc st x c w nb 0 cnt g s Γ dom v)(fb:1+nn x<=805)(tp:ji s Γ)(sQ:nb≠c.rb/\nb≠c.mb/\c.lo<=nb):
 Cq 302 #[nA c.eb,.agg #[.bool rc,Nv a,Nv y,.string st,v]] w (af_ c nb cnt g s Γ rc st a y x w):=by
 obtain⟨tx,ax,rfl⟩:=h.pe.iface;have fa:=h.fa;have hl:0<aL:=qAx;obtain⟨w0,HW⟩:∃w0,w0=(w.alloc<|Cv #[.bool rc,Nv a,Nv y,Sv st,Fv tx<|Av ax] 130).alloc (Cv MU 134):=⟨_,rfl⟩;have K0:Bq w w0:=by rw[HW];exact(bw _).alloc ag _
 have HB0:Bx w0 w.heap.size #[.bool rc,Nv a,Nv y,Sv st,Fv tx<|Av ax]:=by rw[HW];exact(j5 w #[.bool rc,Nv a,Nv y,Sv st,Fv tx<|Av ax] 130).alloc _
 have HF0:Bx w0 (w.heap.size+1) MU:=by
  rw[HW];have:=j5 (w.alloc<|Cv #[.bool rc,Nv a,Nv y,Sv st,Fv tx<|Av ax] 130) MU 134;simpa using this
 have HA:=h.up K0;have zrm:c.rb<w.heap.size/\c.mb<w.heap.size:=⟨h.aj.je.rs.lt,h.aj.je.ms.lt⟩;have Nl:=h.aj.js.ok;have n1:=h.aj.kE<|br _;have n2:=h.aj.kE<|Nat.le_succ _;have HB:=J7 (a:=a) (y:=y) (ae8 x) HA ae;have Eb:∀w',Fr (jS c g) w0 w'->c.lo<=w.heap.size/\Fr (jG c g nb) w w':=λw' f=>⟨by have:=h.aj.je.z;have:=h.aj.je.bx.z;omega,(Fr.of K0).trans<|f.gh λb q=>jc q⟩
 go_enter_defers Tryz.func302,Tryz.ntmps302
 go_wp2_with fail;rw[<-HW];refine HB.mono ?_;rintro e w1(⟨m1,g1,s1,ak,T1,rfl,P1,A1,UP,hc1,NM⟩|⟨z,vl,vr,rfl,hp,hF,yv⟩)
 .have fz1:=HF0.fr UP.fr n2;have HM:=afr A1 NM.mem a y;have bb:=HB0.fr UP.fr n1;obtain⟨b1,b2,b3⟩:=bb;have HV1:g1.V m1=sub s1.k T1:=(by rw[NM.val];exact A1.js.ok.rA T1);go_wp2_with fail;refine HM.mono ?_;rintro e w2⟨⟨oD,a2,t2⟩,⟨hz,rfl⟩|⟨hz,rfl⟩⟩
  .obtain⟨g2,VQ⟩:∃g2:f_,g2={g1 with nx:=oD}:=⟨_,rfl⟩;have HV2:g2.V m1=sub s1.k T1:=(by rw[VQ];exact HV1);rw[<-VQ]at a2 t2;have h:=HA;have NN2:=yI.next ⟨A1,UP,_,h.aj⟩ a2 t2;have HI:=pV x _ _ _<|NN2.pe h.pe;have NM2:=NM.dX hl A1 a2.js t2;have ne0:nb≠w.heap.size+1:=by have⟨L,q,_⟩:=h.en;intro e;have z:=HF0.c 0;rw[<-e,q.bE 0]at z;simp at z
   have zl:=(Eb w2 NN2.t.fr).1;have HK:∀(w3:World)(g3:f_)(vw m3:Nat)(T:Ty),yI c nb 0 w0 g s w3 g3 s1 vw->Cj g3 s1 ⟨T,vars [] T⟩ m3->g3.V m3=T->T=(if jk x then sub s1.k T1 else jd (sub s1.k T1))->vw<=cnt+1000*(1+nn x)+48->∃o,(Instr.mapUpdate 194 (Mv nb) (Sv st)<|nA m3).run jx w3.drew=.ok () (setBlock w3.drew nb o)/\Cq 43 #[nA m3] (setBlock w3.drew nb o) (λe w5=>∃tu xu,e=Rv (Fv tu xu)/\Bx w5 (w.heap.size+1) MU/\∀w6,Fr (λb=>b=w.heap.size+1) w5 w6->af_ c nb cnt g s Γ rc st a y x w (Rv<|.tuple #[Fv tu xu,Av MU]) w6):=λw3 g3 vw m3 T n3 nm3 hV hT hc=>by
    have a3:=n3.a;have⟨L,hM,hq⟩:=h.en.dX hl h.aj a3.js n3.t;have kd:Bq w3 w3.drew:=(Below.refl _ _).drew;have⟨o,lQ,hM4⟩:=(hM.af kd).put UH cL st<|nA m3;refine⟨o,lQ,?_⟩;have o4:=One.set w3.drew nb o;have a4:AJ (setBlock w3.drew nb o) c nb 0 vw g3 s1:=(a3.af kd).lU (o4.fr (S:=λb=>b=nb) rfl) λb e=>⟨by rw[e];exact sQ.1,by rw[e];exact sQ.2.1,λi=>by rw[e];exact(hM.af kd).bE i⟩;have e4:=b_.put hq hM4 nm3;have fz4:=((n3.bx HF0 n2).below kd).one o4<|Ne.symm ne0;refine(y8 a4.js nm3.mem).mono ?_;rintro e w5⟨tu,xu,Ot,rfl,ht,E5,js5,F5⟩;have or5:OR 0 (setBlock w3.drew nb o).heap.size g3 s1 vw jf {g3 with nx:=Ot} s1 vw jf:=OR.eqv a4.js E5 js5.gl _;have F5':Fr (jS c g3) (setBlock w3.drew nb o) w5:=F5.gh λb q=>ja<|ja q;have a5:=or5.aj a4 (br _) (a4.je.fr a4.js F5' (a4.je.bx.fr F5<|a4.je.Af a4.js)<|a4.je.ct.fr F5<|a4.je.Ag a4.js) js5;have e5:=e4.dX hl a4 a5.js<|or5.stj a4.js (br _) F5';have fz5:=fz4.fr F5 λq=>by
     have⟨p,hp⟩:=a4.js.gl.rB q;rw[fz4.c 0]at hp;simp at hp
    have zw5:=fz4.z;refine⟨tu,xu,rfl,fz5,λw6 F6=>⟨?_,.ok (T1,s1),P1,ja ⟨by rw[<-HV1];exact hz,T,tu,xu,vw,_,hT,rfl,?_,hc,a5.off F6 ?_,?_,ae9 tp Nl P1 hT⟩⟩⟩
    .refine((((Eb w3 n3.t.fr).2.trans<|Fr.of kd).trans<|o4.fr<|ja rfl).hY F5 λb q=>?_).hY F6 λb e=>ja ae;exact(n3.t.nw b q).imp (λz=>jc<|ja<|ja z) λz=>j6 K0.size z
    .rw[<-hV];exact ht.move F6.size (λb p z=>F6.block b z λe=>by have:(setBlock w3.drew nb o).heap.size<=b:=p;omega)<|λ_ _ _=>trivial
    .rintro b rfl;have q:=fz5.c 0;exact⟨ae,ae,λe=>n2<|ja<|jc e,λe=>n2<|jc e,λp e=>by rw[q]at e;simp at e,λp y e=>by rw[q]at e;simp at e⟩
    .obtain⟨L5,hM5,hq5⟩:=e5;exact⟨L5,hM5.fr F6 ne0,hq5⟩
   have⟨b1',b2',b3'⟩:=NN2.bx HB0 n1;go_wp2_with fail;refine HI.mono ?_;rintro e w3⟨rfl,k3⟩;have n3:=NN2.af k3;have nm3:=NM2;have⟨y1,y2,y3⟩:=n3.bx HB0 n1
   cases hv:jk x with
   |true=>
    have⟨o,lQ,HTT⟩:=HK w3 g2 ak m1 (sub s1.k T1) n3 (aiH tp Nl P1 (by rw[hv]at nm3;exact nm3)) HV2 (by rw[hv];rfl) ae;have⟨z1,z2,z3⟩:=n3.a.je.bx;exact Uq
   |false=>
    obtain⟨T,HTE⟩:∃T,T=jd (sub s1.k T1):=⟨_,rfl⟩;have HVT:T=if jk x=true then sub s1.k T1 else jd (sub s1.k T1):=(by rw[hv,HTE];rfl);have HY:=y8 n3.a.js nm3.mem;have hz':size T<=48:=by rw[HTE,lE,<-HV1];exact hz
    have hnT:∀n,¬aB n T:=λn o=>by
     rw[HTE]at o;have⟨m,_,o⟩:=(jv _).1 o;simp[aB,bX]at o
    have N3:=ai n3;go_wp2_with fail;refine HY.mono ?_;rintro e w4⟨tu,xu,As,rfl,ht,E4,js4,F4⟩;have n3:=uh N3;have a3:=n3.a;have or4:OR 0 w3.heap.size g2 s1 ak jf {g2 with nx:=As} s1 ak jf:=OR.eqv a3.js E4 js4.gl _;have F4':=F4.gh λb q=>(ja (ja q):jS c g2 b);have N4:=n3.next (or4.aj a3 (br _) (a3.je.fr a3.js F4' (a3.je.bx.fr F4<|a3.je.Af a3.js)<|a3.je.ct.fr F4<|a3.je.Ag a3.js) js4)<|or4.stj a3.js (br _) F4';have HCL:=DV ht.w (by rw[HV2,<-HV1];exact j6 hz aw);have whT:Whole T:=by rw[HTE,<-HV2];exact cd _ ht.whole λn _=>Ar
    rw[show jd (g2.V m1)=T by rw[HTE,HV2]]at HCL;go_wp2_with fail;refine HCL.mono ?_;rintro e w5⟨u5,rfl,hu5,k5⟩;obtain⟨t5,x5,rfl⟩:=hu5.iface;have N5:=N4.af k5;have zc4:=N4.a.je.ct.z;have HN:=YN N5.a (hu5.v whT) (λb p=>by have:w4.heap.size<=b:=p;omega) ae hnT ae;go_wp2_with fail;refine HN.mono ?_;rintro e w6⟨m6,g6,Jo,rfl,a6,t6,hc6,r6⟩;have n6:=N5.next a6 t6;have nm6:Cj g6 s1 ⟨T,vars [] T⟩ m6:=by
     have e0:=List.eq_nil_iff_forall_not_mem.2 λn q=>hnT n<|In.aq.1 q;rw[e0];exact r6.nm a6.js hl λn o=>absurd o<|hnT n
    have⟨o,lQ,HTT⟩:=HK w6 g6 Jo m6 T n6 nm6 (by rw[r6.val];exact jj λn o=>absurd o<|hnT n) HVT ae;have⟨y1,y2,y3⟩:=n6.bx HB0 n1;have⟨z1,z2,z3⟩:=a6.je.bx;exact Uq
  .have f2:=UP.fr.trans' t2.fr λb q=>by
    obtain q|q|q:=q
    .exact jc (jc q)
    .exact jc (ja<|jc q)
    .exact(UP.nw b q).imp (λz=>ja<|ja z) id
   have F2:=HF0.fr f2 n2;have⟨zl,FL⟩:=Eb w2 f2;go_wp2_with fail;refine leaves_cons (f:=304) (args:=#[Pv<|w.heap.size+1]) ag Zi ?_;refine(ED (w.heap.size+1) F2 ⟨7,a,y⟩ Zv Zv<|jc ⟨rfl,rfl⟩).mono ?_;rintro e u' w9⟨rfl,rfl,hB,hF⟩;obtain⟨c9,_,_⟩:=hB;simp[Leaves,settle,results,Tryz.results302,go_sem,c9];exact⟨FL.hY hF<|λi r=>ja ae,.ok (T1,s1),P1,jc ⟨by rw[<-HV1];exact hz,rfl⟩⟩
 .have F1:=HF0.fr yv n2;have⟨zl,FL⟩:=Eb w1 yv;have HFT:=ai hF;have HP:=ai hp;go_wp2_with fail;refine leaves_cons (f:=304) (args:=#[Pv<|w.heap.size+1]) ag Zi ?_;refine(ED (w.heap.size+1) F1 z.f vl vr HFT.hv).mono ?_;rintro e u' w9⟨rfl,rfl,hB,hF⟩;obtain⟨c9,_,_⟩:=hB;simp[Leaves,settle,results,Tryz.results302,go_sem,c9];exact⟨FL.hY hF<|λi r=>ja ae,.error z,HP,vl,vr,rfl,HFT.one (F1.c 0) ag hF⟩
end
def akX eb lo base nl w cnt mks(s:ju)(Γ:jq):=∃(c:JC)(nb:Nat)(g:f_),c.eb=eb/\(c.lo=lo/\lo<=c.mb)/\(c.cb<base/\c.eb<base)/\c.mks=mks/\c.nl=nl/\c.rb≠c.mb/\(nb≠c.rb/\nb≠c.mb/\c.lo<=nb)/\ji s Γ/\AJ w c nb 0 cnt g s/\b_ w nb Γ g s
def aiJ{cnt}{x}(a:AJ w c nb l cnt g s)(hx:w.cell? ⟨b,0,none⟩=some x)(ho:∀q,x≠.pointer q):¬b∈g.ds:=λq=>by
 have⟨p,hp⟩:=a.js.gl.rB q;rw[hx]at hp;injection hp with hp;exact ho p hp
theorem aiK{eb lo base}(hl:nl.length<=1000000):YV 114 eb lo base false nl (akX eb lo base nl):=by
 refine⟨?_,?_,⟨_,λw=>metJ_Makers _ w,λ_ _=>qkr,?_⟩,⟨_,λw=>metJ_Let _ w,λ_ _=>qkr,?_⟩⟩
 .rintro w w' cnt mks s Γ⟨c,nb,g,h1,h2,h3,h4,h5,h6,h7,h8,ha,he⟩hb;exact⟨c,nb,g,h1,h2,h3,h4,h5,h6,h7,h8,ha.af hb,he.af hb⟩
 .rintro w w' cnt mks s Γ b x⟨c,nb,g,h1,h2,h3,h4,h5,h6,h7,h8,ha,he⟩hb hx ho f;have⟨Lr,hr,_⟩:=id ha.je.rs;have⟨Lm,hm,_⟩:=id ha.je.ms;have⟨Ln,hn,hq⟩:=id he;have nr:=h_ hr hx;have nm:=h_ hm hx;have nn:=h_ hn hx;refine⟨c,nb,g,h1,h2,h3,h4,h5,h6,h7,h8,ha.off f ?_,Ln,hn.fr f nn,hq⟩;rintro d rfl;exact⟨Ne.symm nr,Ne.symm nm,ae,ae,λp e=>by rw[hx]at e;injection e with e;exact ho.p p e,λt y e=>by rw[hx]at e;injection e with e;exact ho.i t y e⟩
 .rintro w cnt mks s Γ t vs ms f x vv vm⟨c,nb,g,rfl,⟨rfl,h2⟩,h3,rfl,rfl,h6,h7,h8,ha,he⟩hv hm hd;have⟨Lm,hMG,_⟩:=id ha.je.ms;have⟨Ln,hn,hq⟩:=id he;refine(U8 ha h6 hv hm hd).mono ?_;rintro e w'⟨rfl,hf,hw⟩;refine⟨rfl,.of hf (λb q=>by subst q;exact h2) (λb y q _ e _=>by subst q;rw[hMG.bE 0]at e;cases e),?_⟩;exact⟨FI c t vs ms w'.heap.size,nb,g,rfl,⟨rfl,h2⟩,h3,rfl,rfl,h6,h7,h8,hw,Ln,hn.fr hf h7.2.1,hq⟩
 .rintro w cnt mks s Γ rc st x v a y dom⟨c,nb,g,rfl,⟨rfl,h2⟩,h3,rfl,rfl,h6,h7,h8,ha,he⟩hp hs hd jA hA hB hm;refine(aiI (a:=a) (y:=y) (dom:=dom) ⟨ha,he,hp,hs,hd,hA,ae,hm⟩ hB h8 h7).mono ?_;rintro e w'⟨hf,o,ho,hq⟩;refine⟨.of hf (λb q=>?_)<|λb z q hz hx ho=>?_,o,ho,?_⟩
  .obtain q|q:=q
   .exact ha.glo q
   .subst q;exact h7.2.2
  .obtain  (q|q|q)|q:=q
   .omega
   .omega
   .exact aiJ ha hx ho q
   .subst q;have⟨Ln,hn,_⟩:=id he;exact h_ hn hx rfl
  .cases o with
   |error z=>exact hq|ok p=>
    obtain⟨t,s1⟩:=p;obtain⟨z,e1⟩|⟨z,T,ta,xa,aE,g',e1,e2,e3,e5,e6,e7,e8⟩:=hq
    .grind
    .exact ja ⟨z,T,ta,xa,aE,e1,e2,e3,e5,c,nb,g',rfl,⟨rfl,h2⟩,h3,rfl,rfl,h6,h7,e8,e6,e7⟩
def aiL nl:Cq 47 #[] w λe w'=>∃eb,e=.returned (Pv eb)/\Bq w w'/\StW eb w.heap.size w'.heap.size nl w' 0 (λ_=>none) ⟨Ty.var,λ_=>False⟩ (λ_=>none):=by
 refine(agY nl).mono ?_;rintro e w'⟨c,rfl,k,h,h1,h2,h3,h4,h5,h6⟩;have⟨l1,l2,l3,l4,l5⟩:=h.we.l;exact⟨c.eb,rfl,k,c,_,rfl,⟨h4,h5,h6⟩,⟨ae,ae⟩,h2,h3,rfl,h1,h⟩
def aiM nl:Cq 49 #[] w λe w'=>∃eb,e=.returned (Pv eb)/\Bq w w'/\akX eb w.heap.size w'.heap.size nl w' 0 (λ_=>none) ⟨Ty.var,λ_=>False⟩ (λ_=>none):=by
 refine(agO nl).mono ?_;rintro e w'⟨c,nb,g,rfl,k,a,en,h1,h2,h3,h4,h5,h6,h7,h8⟩;exact⟨c.eb,rfl,k,c,nb,g,rfl,⟨h3,ae⟩,⟨a.je.ct.z,a.je.bx.z⟩,h1,h2,h4,⟨h5,h6,h7⟩,λy c q=> mE,a,en⟩
def aiN fn rs:=∀(w:World)(nl:List BA),nl.length<=1000000->Cq fn #[] w (λe w'=>∃ty eb S,e=.returned (.iface ty<|Pv eb)/\Bq w w'/\YV ty eb w.heap.size w'.heap.size rs nl S/\S w' 0 (λ_=>none) ⟨Ty.var,λ_=>False⟩ (λ_=>none))
def amD:aiN 46 true:=by
 intro w nl hl;have HN:=aiL (w:=w) nl;go_enter func46,ntmps46;go_wp2_with fail;refine HN.mono ?_;rintro e w1⟨eb,rfl,HB,HS⟩
 go_wp2
 go_ret;exact⟨_,eb,_,rfl,HB,alD hl,HS⟩
def amE:aiN 48 false:=by
 intro w nl hl;have HN:=aiM (w:=w) nl;go_enter func48,ntmps48;go_wp2_with fail;refine HN.mono ?_;rintro e w1⟨eb,rfl,HB,HS⟩
 go_wp2
 go_ret;exact⟨_,eb,_,rfl,HB,aiK hl,HS⟩
structure MK n fn rs:Prop where
 AK:aiN fn rs
 cf:∀(args:Array Value)(w:World),(callFunc fn args).run jx w=.ok (.enter fn args) w
 look:∀{w:World}{b:Nat},MG qO w b (bG 2 (.func (.func 48) #[] #[])<|bG 1 (.func (.func 46) #[] #[]) [])->(Instr.lookup 73 (Mv b) (Iv n) true).run jx w=.ok (.tuple #[.func (.func fn) #[] #[],.bool true]) w
def akY:MK 1 46 true:=⟨amD,λ_ _=>qkr,λh=>(Mm h).1⟩
def akZ:MK 2 48 false:=⟨amE,λ_ _=>qkr,λh=>(Mm h).2⟩
def aiO rs(l:List Dc)f L R B:=∃F,In.qV rs l (λ_=>none) (λ_=>none) ⟨Ty.var,λ_=>False⟩ B F/\f=fF F/\L=fL F/\R=fR F
def amF rs(l:List Dc)w(e:Ending)w':=∃oR n' oU f L R B va vc,aiO rs l f L R B/\e=.returned (.tuple #[.agg #[.slice oR n' oU],nY f L R va B.length vc])/\FK w' (λb=>w.heap.size<=b) B va vc/\Bq w w'
section
variable {s:BA} {l:List Dc} {n:Int}
def De(h:Laid w)(hs:pq nl s l)(hn:MK n fn rs):Calls jx 15 #[.string s,.int .i64 n] w (amF rs l w):=by
 obtain⟨W0,HW⟩:∃W0,W0=(w.alloc<|Cv #[Lv none 0 0] 51).alloc (Cv (o6 none 0 0) 35):=⟨_,rfl⟩;have bP:Below w.heap.size w W0:=by rw[HW];exact(bw _).alloc ag _
 have A0:Bx W0 w.heap.size #[Lv none 0 0]:=by rw[HW];exact(j5 w _ _).alloc _
 have B0:Bx W0 (w.heap.size+1) (o6 none 0 0):=by rw[HW];have:=j5 (w.alloc<|Cv #[Lv none 0 0] 51) (o6 none 0 0) 35;simpa using this
 have HC:=MH (h.af bP) hs.r hs.o hs.z;have HPI:=PI.init hs.o hs.z rs (λ_=>False) (cnt:=0) ae;have hl:=Nat.le_trans (GY l) hs.z;have hnl:=hs.n;simp only[o6]at HW B0;clear h;go_enter func15,ntmps15;go_wp2_with fail;rw[<-HW];refine HC.mono ?_;rintro e w1⟨u,rfl,bZ,aN⟩;obtain⟨va,vc,cs,rfl,-⟩:=id aN;have dA:=bP.trans<|bZ.mono bP.size;obtain⟨W1,EL⟩:∃W1,W1=(w1.alloc<|Cv #[Lv va l.length vc] 51).alloc (Cv #[.int .i64 0,.int .i64 0,.int .i64 0] 31):=⟨_,rfl⟩;have gd:Below w1.heap.size w1 W1:=by rw[EL];exact(bw _).alloc ag _
 have du:=dA.trans<|gd.mono dA.size;have A2:=ai<|(A0.below bZ).below gd;have B2:=ai<|(B0.below bZ).below gd;have P2:Bx W1 w1.heap.size #[Lv va l.length vc]:=(by rw[EL];exact(j5 w1 _ _).alloc _);have F2:Bx W1 (w1.heap.size+1) #[.int .i64 0,.int .i64 0,.int .i64 0]:=(by rw[EL];have:=j5 (w1.alloc<|Cv #[Lv va l.length vc] 51) #[.int .i64 0,.int .i64 0,.int .i64 0] 31;simpa using this);have MI:=ai EL;have l8:=dA.size;have og:=B0.z;have gR:=bZ.size;have HRW:Hid (RowV QD 1 W1 (λb=>W0.heap.size<=b/\b<w1.heap.size) l<|Lv va l.length vc):=ai<|aN.move bT gd.size (λb _ z=>gd.block b z)<|λb p z=>⟨p,z⟩;have hzw:=gd.size;have hcf:=hn.cf;clear HC bP bZ gd dA A0 B0 EL HW aN hs;go_wp2_with fail;rw[<-uh MI];refine Wz.mono ?_;rintro e w2⟨rfl,K2,m2⟩;have Ds:=hn.look m2;have A3:=A2.below K2;have B3:=B2.below K2;have P3:=ai<|P2.below K2;have HR3:=(HRW.move bT K2.size (λb _ z=>K2.block b z)<|λb p z=>p);have z2:=K2.size;clear m2 A2 B2 P2 F2 HRW MI;have⟨p1,p2,p3⟩:=uh P3
 go_wp2
 go_region_with(first
  |(go_at_call 27;go_loud(refine HIN.mono ?_);rintro e w4⟨B,F,oR,oU,hQ4,rfl,hB4,k4'⟩;have k4:Below w2.heap.size w3 w4:=k4';have A4:=(A3.below K3).same k4.size<|k4.block _ ae;have B4:=(B3.below K3).same k4.size<|k4.block _ ae;have P4:=(P3.below K3).same k4.size<|k4.block _ ae;have HA4:=ai A4;have Ci:=ai B4;have HQ4:=ai hQ4;have HW4:=ai hB4;have K4:=ai k4;obtain⟨a1,a2,a3⟩:=A4;obtain⟨b1,b2,b3⟩:=B4;obtain⟨c1,c2,c3⟩:=P4;clear hQ4 hB4 k4 k4' HIN;unfold nY)
  |(refine(hn.AK _ nl ae).mono ?_;rintro e w3⟨ty,eb,S,rfl,k3,E3,S3⟩;have k3':Below w2.heap.size w2 w3:=(Below.refl w2.heap.size w2).drew.trans k3;have HIN:=ai (ae_ NZ E3 (HR3.move bT k3'.size (λb _ z=>k3'.block b z) (λb p z=>by have:=p.2;show b<w2.heap.size;omega)) hl k3'.size (br _) S3 HPI);have P5:=P3.below k3';have K3:=ai k3';have z3:=k3'.size;obtain⟨d1,d2,d3⟩:=P5;clear k3 k3' E3 S3))
 all_goals(
  go_wp2_with fail;have k3:=uh K3;have k4:=uh K4;have k24:=k3.trans k4;have z4:=k4.size;have k04:=(du.trans<|K2.mono du.size).trans (k24.mono (by have:=du.size;omega));have⟨c5,f5,z5⟩:=(Ci.qX (b2:=w.heap.size) ae 0<|Lv va l.length vc).aau rfl (.int .i64 ((fF F).kind:Int)) (.int .i64 ((fF F).aF:Int)) (.int .i64 ((fF F).to:Int)) (Sv<|fL F) (Sv<|fR F) (Lv oR B.length oU) (Lv none 0 0);have⟨c6,f6,z6⟩:=(HA4.vF 0 (Lv va l.length vc) #[Lv va l.length vc] ag ag).ajV (b:=w.heap.size+1) ae (.int .i64 ((fF F).kind:Int)) (.int .i64 ((fF F).aF:Int)) (.int .i64 ((fF F).to:Int)) (Sv<|fL F) (Sv<|fR F) (Lv oR B.length oU)<|Lv none 0 0;refine bodyPost_ret (v:=.tuple #[Av #[Lv va l.length vc],nY (fF F) (fL F) (fR F) oR B.length oU]) (by simp[results,Tryz.results15,go_sem,nY,c5,c6]) rfl ?_;have kk:=acw ((Fr.refl (λb=>b=w.heap.size\/b=w.heap.size+1) w4).set (b:=w.heap.size) (jc<|jc rfl) 0<|Lv va l.length vc) (b:=w.heap.size+1) (jc<|ja rfl) (.int .i64 ((fF F).kind:Int)) (.int .i64 ((fF F).aF:Int)) (.int .i64 ((fF F).to:Int)) (Sv<|fL F) (Sv<|fR F) (Lv oR B.length oU)<|Lv none 0 0
  exact⟨va,l.length,vc,fF F,fL F,fR F,B,oR,oU,⟨F,HQ4,rfl,rfl,rfl⟩,rfl,HW4.move kk.size (λb p z=>kk.block b z (λq=>by have p:w3.heap.size<=b:=p;obtain rfl|rfl:=q<;>omega)) (λb p _=>by have p:w3.heap.size<=b:=p;show w.heap.size<=b;omega),Fr.ph k04 k04.size kk (λx q=>by obtain rfl|rfl:=q<;>omega)⟩)
def amG rs(l:List Dc)w(e:Ending)w':=∃f L R B va vc,aiO rs l f L R B/\e=.returned (nY f L R va B.length vc)/\FK w' (λb=>w.heap.size<=b) B va vc/\Bq w w'
def afa(h:Laid w)(hs:pq nl s l)(hn:MK n fn rs):Cq 7 #[.string s,Iv n] w (amG rs l w):=by
 obtain⟨W0,HW⟩:∃W0,W0=w.alloc (Cv #[Iv 0,Iv 0,Iv 0,Sv ⟨#[]⟩,Sv ⟨#[]⟩,Lv none 0 0,Lv none 0 0] 35):=⟨_,rfl⟩;have K0:Bq w W0:=by rw[HW];exact bw _
 have B0:Bx W0 w.heap.size #[Iv 0,Iv 0,Iv 0,Sv ⟨#[]⟩,Sv ⟨#[]⟩,Lv none 0 0,Lv none 0 0]:=by rw[HW];exact j5 _ _ _
 have HC:=De (h.af K0) hs hn;go_enter func7,ntmps7;go_wp2_with fail;rw[<-HW];refine HC.mono ?_;rintro e w1⟨pa,pn,pc,f,L,R,B,va,vc,HA,rfl,hR,hb⟩;rw[nY];obtain⟨W1,EL⟩:∃W1,W1=(w1.alloc<|Cv #[Lv pa pn pc] 51).alloc (Cv #[Nv f.kind,Nv f.aF,Nv f.to,Sv L,Sv R,Lv va B.length vc,Lv none 0 0] 35):=⟨_,rfl⟩;have k1:Bq w1 W1:=by rw[EL];exact(bw _).alloc ag _
 have kk:=hb.trans<|k1.mono hb.size;have K1:=K0.trans<|kk.mono K0.size;have B1:=ai<|B0.below kk;have C1:Bx W1 (w1.heap.size+1) #[Nv f.kind,Nv f.aF,Nv f.to,Sv L,Sv R,Lv va B.length vc,Lv none 0 0]:=(by rw[EL];have:=j5 (w1.alloc<|Cv #[Lv pa pn pc] 51) #[Nv f.kind,Nv f.aF,Nv f.to,Sv L,Sv R,Lv va B.length vc,Lv none 0 0] 35;simpa using this);have HR:=(hR.move k1.size (λb _ z=>k1.block b z) (λb p _=>by have:=B0.z;have p:W0.heap.size<=b:=p;show w.heap.size+1<=b;omega));have z0:=K1.size;subst EL;have⟨x1,x2,x3⟩:=uh B1;obtain⟨y1,y2,y3⟩:=C1;go_wp2_with fail;have⟨p1,p2,p3⟩:=B1.aau rfl (Nv f.kind) (Nv f.aF) (Nv f.to) (Sv L) (Sv R) (Lv va B.length vc) (Lv none 0 0);refine bodyPost_ret (v:=nY f L R va B.length vc) (by simp[results,Tryz.results7,go_sem,nY,p1]) rfl ?_;have kk:=λW:World=>acw (Fr.refl (λb=>b=w.heap.size) W) (b:=w.heap.size) (jc rfl) (Nv f.kind) (Nv f.aF) (Nv f.to) (Sv L) (Sv R) (Lv va B.length vc)<|Lv none 0 0;exact⟨f,L,R,B,va,vc,HA,rfl,HR.move (kk _).size (λb p z=>(kk _).block b z (λq=>by have p:w.heap.size+1<=b:=p;have q:b=w.heap.size:=q;omega)) (λb p _=>by have p:w.heap.size+1<=b:=p;show w.heap.size<=b;omega),Fr.ph K1 K1.size (kk _) (λx q=>by subst q;exact br _)⟩
end
def wB(B:List (BA×Ty)):List (BA×BA):=B.map λp=>(p.1,bs<|wr dec (vars [] p.2) p.2 0)
def afb{va:Option Addr}{vc:Nat}(h:FK w P B va vc):sE w (wB B) (.slice va B.length vc):=by
 obtain⟨⟨va,vc,cs,e,hr,hq⟩,aiP⟩:=h;simp only[Value.slice.injEq,true_and]at e;obtain⟨rfl,rfl⟩:=e;have hl:(wB B).length=B.length:=by simp[wB]
 refine⟨_,_,by rw[hl],by rw[hl];exact aiP,?_⟩;obtain rfl|⟨g,rfl,_,hz,hc⟩:=hr
 .exact jc rfl
 .refine ja ⟨g,rfl,hz,λi hi=>?_⟩;rw[hl]at hi;have⟨q1,q2⟩:=hq i hi;have c0:=hc i hi 0 aw;have c1:=hc i hi 1 aw;rw[q1]at c0;rw[q2]at c1;refine⟨?_,?_⟩
  .rw[Nat.add_zero]at c0;rw[c0];simp[wB]
  .rw[c1];simp[wB]
def BN{rs:Bool}:∀{l:List Dc}{mk:In.Mks}{Γ:jq}{s:ju}{B:List (BA×Ty)}{F:Option In.Ft},In.qV rs l mk Γ s B F->B.length<=l.length
 |[],_,_,_,_,_,h=>by rw[h.1];exact br _|.ty t vs ms::r,_,_,_,_,_,h=>Nat.le_succ_of_le (BN (l:=r) h)|.lt rc t b::r,_,_,_,_,_,h=>by
  obtain⟨o,_,hq⟩:=h
  cases o with
  |error x=>rw[hq.1];exact j7 _|ok p=>
   obtain⟨_,rfl,_⟩|⟨_,T,B',_,rfl,hr⟩:=hq
   .exact j7 _
   .exact Nat.succ_le_succ (BN (l:=r) hr)
def Df(p:List Dc)k i j l r L:=∃rs f B,aiO rs p f l r B/\k=(f.kind:Int)/\i=(f.aF:Int)/\j=(f.to:Int)/\L=wB B
def acx:List (BA×BA):=[(⟨#[107]⟩,⟨#[39,118,48,32,45,62,32,39,118,49,32,45,62,32,39,118,48]⟩),(⟨#[97]⟩,⟨#[85,110,105,116,32,45,62,32,73,110,116]⟩)]
def Df.fix{k i j:Int}{l r:BA}(h:Df aeJ k i j l r L):k=0/\i=0/\j=0/\l=⟨#[]⟩/\r=⟨#[]⟩/\L=acx:=by
 obtain⟨rs,f,B,⟨F,q,rfl,rfl,rfl⟩,rfl,rfl,rfl,rfl⟩:=h;obtain⟨rfl,hB⟩:=In.aeL q;refine⟨rfl,rfl,rfl,rfl,rfl,?_⟩;have e:wB B=(B.map λp=>(p.1,j3 dec p.2)).map λp=>(p.1,bs p.2):=by simp[wB,j3]
 rw[e,hB];rfl
def ML:pq [⟨#[107]⟩,⟨#[97]⟩,⟨#[120]⟩,⟨#[121]⟩] aeI aeJ:=by
 have hM:MkT (λ_=>none) (λ_=>none) Xb:=⟨λ_ _ _ q=> mE,λq=>absurd rfl q⟩;exact⟨acd,⟨⟨rfl,.fn _ _ _ _ _ _ _ ag<|.fn _ _ _ _ _ _ _ ag<|.low _ _ _ _ _ _<|.inl<|.inr rfl,hM,ag⟩,⟨rfl,.two _ _ _ _ _ _ _ _ _ (.inr rfl) (.low _ _ _ _ _ _<|.inl ag)<|.leaf _ _ _ _ _ _ _<|.inl rfl,hM,ag⟩,trivial⟩,aw,aw⟩
def lO(hL:Laid w){s:BA}{p:List Dc}(hs:pq nl s p){n}(hn:MK n fn rs):Cq 7 #[.string s,Iv n] w λe w'=>∃k i j l r u L m c,e=.returned (.agg #[Iv k,Iv i,Iv j,.string l,.string r,.slice u m c,.slice none 0 0])/\Df p k i j l r L/\sE w' L (.slice u m c)/\Bq w w':=
 (afa hL hs hn).mono λe w' q=>by
  obtain⟨f,L,R,B,va,vc,h1,h2,h3,h4⟩:=q;exact⟨_,_,_,L,R,va,_,_,vc,h2,⟨rs,f,B,h1,rfl,rfl,rfl,rfl⟩,afb h3,h4⟩
def acy(hL:Laid w):Cq 4 #[] w λe w'=>e=.returned (.bool true)/\Bq w w':=by
 obtain⟨W0,HW⟩:∃W0,W0=(w.alloc<|Cv #[Sv ⟨#[107]⟩,Sv ⟨#[39,118,48,32,45,62,32,39,118,49,32,45,62,32,39,118,48]⟩,Sv ⟨#[97]⟩,Sv ⟨#[85,110,105,116,32,45,62,32,73,110,116]⟩] 39).alloc (Cv #[Iv 0,Iv 0,Iv 0,Sv ⟨#[]⟩,Sv ⟨#[]⟩,Lv (some ⟨w.heap.size,0,none⟩) 2 2,Lv none 0 0] 35):=⟨_,rfl⟩;have HK:Bq w W0:=by rw[HW];exact(bw _).alloc ag _
 have b0:Bx W0 w.heap.size #[Sv ⟨#[107]⟩,Sv ⟨#[39,118,48,32,45,62,32,39,118,49,32,45,62,32,39,118,48]⟩,Sv ⟨#[97]⟩,Sv ⟨#[85,110,105,116,32,45,62,32,73,110,116]⟩]:=by rw[HW];exact(j5 w _ _).alloc _
 have HB:Bx W0 (w.heap.size+1) #[Iv 0,Iv 0,Iv 0,Sv ⟨#[]⟩,Sv ⟨#[]⟩,Lv (some ⟨w.heap.size,0,none⟩) 2 2,Lv none 0 0]:=by rw[HW];have:=j5 (w.alloc<|Cv #[Sv ⟨#[107]⟩,Sv ⟨#[39,118,48,32,45,62,32,39,118,49,32,45,62,32,39,118,48]⟩,Sv ⟨#[97]⟩,Sv ⟨#[85,110,105,116,32,45,62,32,73,110,116]⟩] 39) #[Iv 0,Iv 0,Iv 0,Sv ⟨#[]⟩,Sv ⟨#[]⟩,Lv (some ⟨w.heap.size,0,none⟩) 2 2,Lv none 0 0] 35;simpa using this
 have HR:sE W0 acx (Lv (some ⟨w.heap.size,0,none⟩) 2 2):=by
  refine⟨_,2,rfl,br _,ja ⟨_,rfl,b0.z,λi hi=>?_⟩⟩;have hi:i=0\/i=1:=by simp[acx]at hi;omega
  obtain rfl|rfl:=hi
  .exact⟨by rw[b0.c];rfl,by rw[b0.c];rfl⟩
  .exact⟨by rw[b0.c];rfl,by rw[b0.c];rfl⟩
 have HI:=lO (hL.af HK) ML akY;simp only[aeI]at HI;go_enter func4,ntmps4;go_wp2_with fail;rw[<-HW];refine HI.mono ?_;rintro e w1⟨k,i,j,l,r,u,L,m,c,rfl,ha,hr,hb⟩;obtain⟨rfl,rfl,rfl,rfl,rfl,rfl⟩:=Df.fix ha;obtain⟨W1,MI⟩:∃W1,W1=w1.alloc (Cv #[Iv 0,Iv 0,Iv 0,Sv ⟨#[]⟩,Sv ⟨#[]⟩,Lv u m c,Lv none 0 0] 35):=⟨_,rfl⟩;have k1:Bq w1 W1:=by rw[MI];exact bw _
 have kk:=hb.trans<|k1.mono hb.size;have K1:=HK.trans<|kk.mono HK.size;have HR1:=HR.af kk;have dA:=HB.below kk;have HU1:=hr.af k1;have HV1:Bx W1 w1.heap.size #[Iv 0,Iv 0,Iv 0,Sv ⟨#[]⟩,Sv ⟨#[]⟩,Lv u m c,Lv none 0 0]:=(by rw[MI];exact j5 _ _ _);have HI1:=lO (hL.af K1) ML akZ;simp only[aeI]at HI1;go_wp2_with fail;rw[<-MI];refine HI1.mono ?_;rintro e w2⟨k,i,j,l,r,u2,L,m2,c2,rfl,ha,hr,hb⟩;obtain⟨rfl,rfl,rfl,rfl,rfl,rfl⟩:=Df.fix ha;obtain⟨W2,hW2⟩:∃W2,W2=w2.alloc (Cv #[Iv 0,Iv 0,Iv 0,Sv ⟨#[]⟩,Sv ⟨#[]⟩,Lv u2 m2 c2,Lv none 0 0] 35):=⟨_,rfl⟩;have k2:Bq w2 W2:=by rw[hW2];exact bw _
 have kk:=hb.trans<|k2.mono hb.size;have K2:=K1.trans<|kk.mono K1.size;have HR2:=HR1.af kk;have du:=ai<|dA.below kk;have HU2:=HU1.af kk;have HV2:=HV1.below kk;have HX2:=hr.af k2;have HY2:Bx W2 w2.heap.size #[Iv 0,Iv 0,Iv 0,Sv ⟨#[]⟩,Sv ⟨#[]⟩,Lv u2 m2 c2,Lv none 0 0]:=(by rw[hW2];exact j5 _ _ _);subst hW2;have HS:=uR (k:=0) (i:=0) (j:=0) (l:=⟨#[]⟩) (r:=⟨#[]⟩) HU2 HR2 aw;simp only[rpt]at HS;have⟨x1,x2,x3⟩:=uh du;obtain⟨y1,y2,y3⟩:=HV2;go_wp2_with fail;refine HS.mono ?_;rintro e w3⟨rfl,hb⟩;have K3:=K2.trans<|hb.mono K2.size;have oP:=ai<|du.below hb;have HY3:=HY2.below hb;have Rj:=uR (k:=0) (i:=0) (j:=0) (l:=⟨#[]⟩) (r:=⟨#[]⟩) (HX2.af hb) (HR2.af hb) aw;simp only[rpt]at Rj;have⟨x1,x2,x3⟩:=uh oP;obtain⟨y1,y2,y3⟩:=HY3;go_wp2_with fail;refine Rj.mono ?_;rintro e w4⟨rfl,hb⟩;have K4:=K3.trans<|hb.mono K3.size
 go_wp2
 go_ret;exact⟨rfl,K4⟩
def acz n(h0: -9223372036854775808<=n)(h1:n<=9223372036854775807):Cq 8 #[Iv n] w λe w'=>∃m fn rs,e=.returned (Iv m)/\MK m fn rs/\w'=w:=by
 go_enter func8,ntmps8;go_wp2_with fail;refine(abn n 2 h0 h1 aw aw).mono ?_;rintro e w'⟨r,rfl,q0,q1,rfl⟩;obtain rfl|rfl:r=0\/r=1:=ae
 .go_wp2
  go_ret;exact⟨1,_,_,rfl,akY,rfl⟩
 .go_wp2
  go_ret;exact⟨2,_,_,rfl,akZ,rfl⟩
def ak0(h:n<100):(dec n).length<=2:=by
 rw[dec];split
 .simp
 .rw[dec,if_pos ae];simp
def Ur{L:List Nat}:∀{l:List Ty},(∀t∈l,(wr dec L t 2).length+2<=8*size t)->((oe dec L l).flatMap λp=>32::p 2).length+l.length<=8*ah l
 |[],_=>by simp[oe]|t::l,h=>by
  have h1:=h t ag;have h2:=Ur (l:=l) λu q=>h u qBf;simp only[oe,List.flatMap_cons,lz,kh,ah];omega
def Us{α:Type}{l:List α}(h:l.length=2):∃a b,l=[a,b]:=by
 match l,h with
 |[a,b],_=>exact⟨a,b,rfl⟩
mutual
def Ut{L:List Nat}(hL:L.length<=100):∀t,Wf t->(∀v,aB v t->v∈L)->∀i,(wr dec L t i).length+2<=8*size t/\wr dec L t i≠[]
 |.var n,_,h,i=>by
  have:=ak0 (n:=L.idxOf n) (by have:=List.idxOf_lt_length_iff.2<|h n rfl;omega);simp only[wr,size,kh];exact⟨ae,ag⟩
 |.aJ c l,h,ho,i=>by
  have g:=λt q i=>(acA hL l h.2 ho t q i).1;obtain⟨⟨h1,h2,h3⟩,_⟩:=h;simp only[wr,size,bu];split
  .obtain⟨a,b,rfl⟩:=Us<|h2<|.inl ‹_›;have ga:=g a ag 1;have gb:=g b ag 0;simp only[oe,nth,ah,rL];split<;>simp<;>omega
  split
  .obtain⟨a,b,rfl⟩:=Us<|h2<|.inr ‹_›;have ga:=g a ag 0;have gb:=g b ag 0;simp only[oe,nth,ah];simp;omega
  .have gf:=Ur λt q=>g t q 2;obtain q|q|⟨x,r,q,_⟩:=h3
   .exact absurd q ‹_›
   .exact absurd q ‹_›
   have hc:c.toList.length<=4:=by rw[ByteArray.toList_eq];simpa using h1
   rw[q]at hc⊢
   cases l with
   |nil=>simp[oe,rL,ah]at hc⊢;omega|cons t l=>
    simp only[kh]at gf hc;rw[rL];split<;>exact⟨by simp only[lz,kh,qP];omega,ag⟩
def acA{L:List Nat}(hL:L.length<=100):∀l,xJ l->(∀v,bX v l->v∈L)->∀t∈l,∀i,(wr dec L t i).length+2<=8*size t/\wr dec L t i≠[]
 |[],_,_,t,q=>by simp at q|u::l,h,ho,t,q=>by
  obtain e|e:=List.mem_cons.1 q
  .rw[e];exact Ut hL u h.1 λv o=>ho v<|.inl o
  .exact acA hL l h.2 (λv o=>ho v<|.inr o) t e
end
mutual
def Uu:∀t,Wf t->Good t
 |.var _,_=>trivial|.aJ c l,h=>⟨by
  obtain⟨⟨_,h1,h2⟩,_⟩:=h;rw[okC];split
  .rw[h1<|.inl ‹_›];rfl
  .split
   .rw[h1<|.inr ‹_›];rfl
   .obtain q|q|⟨x,r,q,q1,q2⟩:=h2
    .exact absurd q ‹_›
    .exact absurd q ‹_›
    .simp only[ad5,q,q1,Bool.true_and,List.all_eq_true];exact q2,MN l h.2⟩
def MN:∀l,xJ l->SC l
 |[],_=>trivial|t::l,h=>⟨Uu t h.1,MN l h.2⟩
end
mutual
def acB:∀x,nn (er x)=nn x
 |.mk k s n L f t a=>by simp only[er,nn,acC L]
def acC:∀L,bV (vH L)=bV L
 |[]=>rfl|x::l=>by simp only[vH,bV,acB x,acC l]
end
mutual
def acD(L:List Nat):∀t,Wf t->size t<=48->ot (Pd L t)/\nn (Pd L t)=size t
 |.var n,_,_=>⟨.var ..,by simp[Pd,aaA,nn,bV,size]⟩|.aJ c l,h,hz=>by
  simp only[size]at hz;have g:=Uv L l h.2 ae;obtain⟨⟨h1,h2,h3⟩,_⟩:=h;simp only[Pd,size];by_cases e1:c=m9
  .obtain⟨a,b,rfl⟩:=Us<|h2<|.inl e1;rw[if_pos e1];exact⟨.two _ _ _ _ _ _ _ _ (.inl rfl) (g.1 0<|by simp[lp])<|g.1 1<|by simp[lp],by simp only[nn,g.2.1]⟩
  rw[if_neg e1];by_cases e2:c=lq
  .obtain⟨a,b,rfl⟩:=Us<|h2<|.inr e2;rw[if_pos e2];exact⟨.two _ _ _ _ _ _ _ _ (.inr rfl) (g.1 0<|by simp[lp])<|g.1 1<|by simp[lp],by simp only[nn,g.2.1]⟩
  rw[if_neg e2];exact⟨.up _ _ _ _ _ _ (λn=>⟨h1,λq=>absurd q<|by simp[e1,e2],h3⟩) (by rw[uJ];omega) g.1,by simp only[xK,nn,g.2.1]⟩
def Uv(L:List Nat):∀l,xJ l->ah l<=48->(∀i(h:i<(lp L l).length),ot (lp L l)[i])/\bV (lp L l)=ah l/\l.length<=ah l
 |[],_,_=>⟨λi h=>absurd h<|by simp[lp],rfl,br _⟩|t::l,h,hz=>by
  simp only[ah]at hz;have g:=acD L t h.1 ae;have g':=Uv L l h.2 ae;have:=size_pos t;refine⟨λi hi=>?_,by simp only[lp,bV,ah,g.2,g'.2.1],by simp only[kh,ah];omega⟩
  match i,hi with
  |0,_=>exact g.1|i+1,hi=>exact g'.1 i (by simpa[lp]using hi)
end
def Qd(hw:Wf T)(hz:size T<=48):∃na ns κ,Vk (bs<|j3 dec T) na/\aI [] na=(sub (jK κ) T,ns)/\Ren κ (vars [] T):=by
 have hl:=(Ut (L:=vars [] T) (by have:=e_ T [];simp at this;omega) T hw (λv o=>In.aq.2 o) 0).1;have⟨p,h1,h2⟩:=SI (vars [] T) T (Uu T hw) 0 ae;have⟨nd,e,er1⟩:=Lh h1 h2 ae;have g:=acD (vars [] T) T hw hz;rw[<-er1,acB]at g;have hm:=LH (vars [] T) (de T List.nodup_nil) T []<|List.prefix_refl _;rw[<-er1,Hv]at hm;refine⟨nd,_,_,⟨e,ot.at nd g.1,ae⟩,hm,λm hm n hn q=>?_⟩;have q:(vars [] T).idxOf m=(vars [] T).idxOf n:=by simpa using q
 have h1:=List.getElem_idxOf<|List.idxOf_lt_length_iff.2 hm;have h2:=List.getElem_idxOf<|List.idxOf_lt_length_iff.2 hn;rw[<-h1,<-h2];simp[q]
def MT.rdT{l:List UInt8}(h:MT 3 l t):∃nb,Vk (bs l) nb/\∀ns,aI ns nb=((aI [] t).1,ns):=by
 have hl:=h.len;have hs:=h.sz;simp[lT,sT]at hl hs;have⟨p,h1,h2⟩:=h.rd.lv 0;obtain⟨nd,e,rfl⟩:=Lh h1 h2 ae;refine⟨nd,⟨e,ot.at nd h.nd,by rw[acB]at hs;omega⟩,λns=>?_⟩;rw[<-Hv nd ns,(ub _ h.ok ns).1]
def acE{τ:Ty}{κ:Nat->Nat}(hR:Ren κ (vars [] T))(hv:∀n,¬aB n τ)(hz:size τ<=48){z:List UInt8}{ok:Bool}{f:Fl}(h:agA (sub (jK κ) T) τ z ok f):f=dw/\(ok=true↔∃σ,sub σ T=τ):=by
 have fx:∀σ,sub σ τ=τ:=λσ=>jj λn q=>absurd q<|hv n;obtain⟨T',⟨⟨R,q1,q2⟩,_⟩,⟨q3,_⟩|⟨_,_,q4,q5⟩⟩|⟨hn,_,q4,q5⟩:=h
 .rw[fx]at q2;subst q2;omega
 .rw[fx]at q2;subst q2;rw[In.iu]at q1;exact⟨q5,⟨λ_=>⟨_,q1⟩,λ_=>q4⟩⟩
 .refine⟨q5,⟨λq=>(by rw[q4]at q;cases q),λ⟨σ,q⟩=>?_⟩⟩;have⟨θ,e⟩:=In.JX hR σ;exact absurd (by rw[e,q,fx])<|hn θ
def BO{s:BA}{D:List Dc}(hs:pq Ni s D){F:Option In.Ft}(q:adx rs D B F):(wB B).length<=802:=by
 have h1:=BN q;have h2:∀l:List Dc,l.length<=Iz l:=λl=>by
  induction l with
  |nil=>exact j7 _|cons d l ih=>rw[mG];cases d<;>simp only[Nc,kh]<;>omega
 have h3:=h2 D;have h4:=hs.z;simp only[wB,List.length_map];omega
def Df.pri{L l:List UInt8}(h:MQ L l)(h0:L≠[])(hz:l.length<=380){m:List UInt8}(ht:MT 3 m t):∃B,pq Ni (bs l) B/\∀k i j lf rt R,Df B k i j lf rt R->k=0->R.length<=802/\∃c R0 T,R=R0++[(bY c,bs<|j3 dec T)]/\Wf T/\size T<=48/\(l.length+m.length+11<=400->
 ∃B',pq Ni (bs<|l++[108,101,116,32,119,61,40]++[c]++[58]++m++[41,59]) B'/\∀k i j lf rt R,Df B' k i j lf rt R->R.length<=802/\((k=0/\(∃R0 x,R=R0++[(x,bs<|j3 dec (aI [] t).1)])/\∃σ,sub σ T=(aI [] t).1)\/(k=6/\lf≠⟨#[]⟩/\rt≠⟨#[]⟩/\¬∃σ,sub σ T=(aI [] t).1))):=by
 have F0:∀{s D rs B F},pq Ni s D->adx rs D B F->(∀p∈B,Wf p.2/\size p.2<=48)/\∀z,F=some z->In.FtF z:=λhs q=>Qc hs.o (λ_ _ _ q=>mE) (λ_ _ q=>mE) (λn=>show Wf (.var n)from trivial) q;have⟨B,hB,H⟩:=JZ h h0 hz ht;refine⟨B,hB,?_⟩;rintro k i j lf rt R⟨rs,f,Z,⟨F,q,rfl,rfl,rfl⟩,rfl,rfl,rfl,rfl⟩hk;have⟨w1,w2⟩:=F0 hB q
 cases F with
 |some z=>have:=w2 z rfl;rw[In.FtF]at this;simp only[fF]at hk;omega|none=>
 have⟨c,T,e1,e2⟩:=H rs Z q;obtain⟨R0,rfl⟩:=List.getLast?_eq_some_iff.1 e1;have⟨wT,sT⟩:=w1 (bY c,T) ag;refine⟨BO hB q,c,wB R0,T,by simp[wB,j3],wT,sT,λgR=>?_⟩;have⟨B',hB',H'⟩:=e2 sT gR;refine⟨B',hB',?_⟩;rintro k i j lf rt R⟨rs,f,Z,⟨F,q,rfl,rfl,rfl⟩,rfl,rfl,rfl,rfl⟩;have⟨w1,w2⟩:=F0 hB' q;refine⟨BO hB' q,?_⟩;obtain⟨rfl,⟨Z1,rfl⟩,g⟩|⟨z,rfl,g1,g2⟩:=H' rs Z F q
 .exact .inl ⟨rfl,⟨wB Z1,⟨#[119]⟩,by simp[wB,j3]⟩,g⟩
 .have⟨⟨x1,x2⟩,y1,y2⟩:=(w2 z rfl).six g1;have ne:∀{l:List UInt8},l≠[]->bs l≠⟨#[]⟩:=λhl e=>hl (by have:=congrArg ByteArray.size e;rw[cq]at this;exact List.length_eq_zero_iff.1 this);refine .inr ⟨by simp[fF,g1],?_,?_,g2⟩
  .simp only[fL,YX,g1,if_true];exact ne (Ut (by have:=e_ z.l [];simp at this;omega) _ x1 (λv o=>In.aq.2 o) 0).2
  .simp only[fR,YY,g1,if_true];exact ne (Ut (by have:=e_ z.l [];have:=e_ z.r<|vars [] z.l;simp at*;omega) _ y1 (λv o=>(bJ _ _ _).2<|.inr o) 0).2
def sE.get{c:Nat}(h:sE w L (.slice u n c)):n=L.length/\n<=c/\(L≠[]->∃g,u=some ⟨g,0,none⟩/\g<w.heap.size/\∀i(h:i<L.length),w.cell? ⟨g,i*2,none⟩=some (.string L[i].1)/\w.cell? ⟨g,i*2+1,none⟩=some (.string L[i].2)):=by
 obtain⟨va,vc,e,h1,h2⟩:=h;simp only[Value.slice.injEq]at e;obtain⟨rfl,rfl,rfl⟩:=e;exact⟨rfl,h1,λhL=>h2.resolve_left hL⟩
def sE.last{y:BA}{c:Nat}(h:sE w (L++[(x,y)]) (.slice u n c)):n=L.length+1/\n<=c/\∃g,u=some ⟨g,0,none⟩/\g<w.heap.size/\w.cell? ⟨g,L.length*2,none⟩=some (.string x)/\w.cell? ⟨g,L.length*2+1,none⟩=some (.string y):=by
 have⟨h1,h2,h3⟩:=h.get;have⟨g,e,hg,hc⟩:=h3 ag;have:=hc L.length ag;simp only[List.getElem_concat_length]at this;exact⟨by simpa using h1,h2,g,e,hg,this⟩
def Dg(hL:Laid w)(n:Int)(h0: -9223372036854775808<=n)(h1:n<=9223372036854775807){p:Option Addr}{len cap:Nat}{r:Nat->Int}(hlen:(len:Int)<=9223372036854775807)(hR:Raw w p len r):
 Cq 3 #[.slice p len cap,Iv n] w λe w'=>e=.returned (.bool true)/\Bq w w':=by
 have HJ:=ai<|acy hL;have HR:=ai hR;have HL:=ai hL;have HE:Hid (∀W,Cq 8 #[Iv n] W λe w'=>∃m fn rs,e=Rv (Iv m)/\MK m fn rs/\w'=W):=ai<|λW=>acz n h0 h1;clear hR hL h0 h1;have HP:Hid (∀W A(xb:Nat),Src W xb p len cap r A->Cq 5 #[Pv xb] W (afy xb p len cap r W)):=ai<|λW A xb h=>adr h;go_enter func3,ntmps3;go_wp2_with fail;refine HJ.mono ?_;rintro e w1⟨rfl,bZ⟩;have gd:Bq w1 (w1.alloc<|Cv #[Lv p len cap,Iv 0] 26):=bw _;have du:=bZ.trans<|gd.mono bZ.size;have S2:Src (w1.alloc<|Cv #[Lv p len cap,Iv 0] 26) w1.heap.size p len cap r 0:=by
  refine⟨j5 w1 _ _,j7 _,hlen,λi hi=>?_,λi hi=>(HR i hi).2⟩;have⟨g,o,e,hg,hc⟩:=(HR i hi).1;have hz:=bZ.size;exact⟨g,o,e,bD,ae,(j9 (a:=⟨g,o+i,none⟩) (w:=w)<|du.block g hg).trans hc⟩
 have HP2:=ai<|HP _ 0 _ S2;have hzz:=bZ.size;clear HJ HR HP S2;go_wp2_with fail;refine HP2.mono ?_;rintro e w3⟨m,l,L,hn,hLn,rfl,hm3,A3,hs3,sJ⟩;have HT:=ai<|ahc 3 (br _) w3 A3 hs3;clear HP2;go_wp2_with fail;refine HT.mono ?_;rintro e w4⟨mt,t,rfl,ht,A4,hs4,hk4⟩;have K0:=ai ((sJ.trans hk4).low du du.size hzz:Bq w w4);have hlz:l.length<=380:=by have:=hm3.len;omega
 have⟨D,hD,HA⟩:=Df.pri hm3 (by rintro rfl;simp at hLn;omega) hlz ht;have HA:=ai HA;have hbz:(bs l).size<=380:=by rw[cq];exact hlz
 have hml:mt.length<=74:=by have:=ht.len;simpa[lT]using this
 have hmz:(bs mt).size<=74:=by rw[cq];exact hml
 have HV:∀n,¬aB n (aI [] t).1:=(ub t ht.ok []).2;have HZ:size (aI [] t).1<=48:=by have:=(qH t []).1;have:=ht.sz;simp[sT]at this;omega
 have⟨nb,RB,mb⟩:=ht.rdT;have aiQ:Hid (∀W',Bq w W'->Cq 9 #[Sv<|bs mt] W' λe w'=>e=Rv (.tuple #[Sv<|bs<|j3 dec (aI [] t).1,oC dw])/\Bq W' w'):=ai (λW' k=>by have:=ae4 (HL.af k) RB (by rw[mb];exact HZ);rw[mb]at this;exact this)
 have hun:Hid (∀T,Wf T->size T<=48->∀W',Bq w W'->Cq 10 #[Sv<|bs<|j3 dec T,Sv<|bs mt] W' λe w'=>∃z ok,e=Rv (.tuple #[Sv<|bs z,.bool ok,oC dw])/\(ok=true↔∃σ,sub σ T=(aI [] t).1)/\Bq W' w'):=ai (λT hT hz W' k=>by
  have⟨na,ns,κ,RA,ma,hκ⟩:=Qd hT hz;refine(ZO (HL.af k) RA RB (by rw[ma];rw[o8];exact hz) (by rw[mb];exact HZ)).mono ?_;rintro e w'⟨z,ok,f,rfl,hu,hb⟩;rw[ma,mb]at hu;obtain⟨rfl,hv⟩:=acE hκ HV HZ hu
  exact⟨z,ok,rfl,hv,hb⟩)
 generalize(aI [] t).1=τ at HA aiQ hun;clear HT hm3 hs3 sJ gd du bZ hlen hn hLn hlz hzz hs4 hk4 ht HV HZ RB mb;go_wp2_with fail;refine(HE _).mono ?_;rintro e w5⟨m',fn,rs,rfl,Fw,rfl⟩;have HI:=ai<|lO (HL.af K0) hD Fw;go_wp2_with fail;refine HI.mono ?_;rintro e v1⟨k,i,j,lf,rt,u,B,m1,c,rfl,a1,b1,bZ⟩;have q1:∀C,Bq v1<|v1.alloc<|Cv C 35:=λC=>bw _;have K1:Hid (∀C,Bq w<|v1.alloc<|Cv C 35):=ai<|λC=>K0.trans<|(bZ.trans<|(q1 C).mono bZ.size).mono K0.size;by_cases hk:k=0
 .obtain⟨hlen,d,B0,T,rfl,wT,zT,g3⟩:=uh HA _ _ _ _ _ _ a1 hk;subst hk;have hun:=ai<|uh hun T wT zT;generalize bs (j3 dec T)=TT at b1 hun hlen;have g3:=ai g3;obtain⟨rfl,aiP,g,rfl,hg,NH⟩:=b1.last;obtain⟨b,hb⟩:∃b,B0.length=b:=⟨_,rfl⟩;simp only[lz,List.length_singleton,hb]at aiP hlen NH⊢;obtain⟨W,hW⟩:∃W,W=v1.alloc (Cv #[Iv 0,Iv i,Iv j,Sv lf,Sv rt,Lv (some ⟨g,0,none⟩) (b+1) c,Lv none 0 0] 35):=⟨_,rfl⟩;have B1:Bx W v1.heap.size #[Iv 0,Iv i,Iv j,Sv lf,Sv rt,Lv (some ⟨g,0,none⟩) (b+1) c,Lv none 0 0]:=by rw[hW];exact j5 _ _ _
  have Q1:Bq v1 W:=by rw[hW];exact q1 _
  have K2:Hid (Bq w W):=ai (by rw[hW];exact uh K1 _);have c1:W.cell? ⟨g,b*2,none⟩=some (Sv<|bY d):=(j9 (a:=⟨g,b*2,none⟩)<|Q1.block g hg).trans NH.1;have c2:W.cell? ⟨g,b*2+1,none⟩=some (Sv TT):=(j9 (a:=⟨g,b*2+1,none⟩)<|Q1.block g hg).trans NH.2;have hgW:g<W.heap.size:=j8 hg Q1.size;have dA:=ai B1;clear hb NH b1 q1 K1 bZ hg HA a1 HI K0;obtain⟨x1,x2,x3⟩:=B1;have BW:(bY d).size=1:=rfl;subst hW;obtain⟨W,hW⟩:∃W,W=(v1.alloc<|Cv #[Iv 0,Iv i,Iv j,Sv lf,Sv rt,Lv (some ⟨g,0,none⟩) (b+1) c,Lv none 0 0] 35).alloc (Cv #[Sv<|bY d,Sv TT] 39):=⟨_,rfl⟩;have KW:=ai (show Bq w W by rw[hW];exact(uh K2).alloc (uh K2).size _);have HBB:Hid (Bx W (v1.heap.size+1) #[Sv<|bY d,Sv TT]):=ai (by rw[hW];have:=j5 (v1.alloc<|Cv #[Iv 0,Iv i,Iv j,Sv lf,Sv rt,Lv (some ⟨g,0,none⟩) (b+1) c,Lv none 0 0] 35) #[Sv<|bY d,Sv TT] 39;simpa using this);have HW:=ai hW;clear hW Q1
  go_upto_region 12 with fail
  go_cut[10]from 13 to 50 (λv wx=>v=Pv (v1.heap.size+1)/\W=wx)
  case first=>
   go_wp2_with fail
   go_meet
   exact⟨rfl,uh HW⟩
  case rest=>
  obtain⟨rfl,rfl⟩:=hcut;have⟨y1,y2,y3⟩:=uh HBB;clear x1 x2 x3 c1 c2 HW K2 dA;have hs1:¬9223372036854775807<(bs l).size+7:=ae;have rY:¬9223372036854775807<(bs l).size+7+(bY d).size:=ae;have hs3:¬9223372036854775807<(bs l).size+7+(bY d).size+1:=ae;have hs4:¬9223372036854775807<(bs l).size+7+(bY d).size+1+(bs mt).size:=ae;have hs5:¬9223372036854775807<(bs l).size+7+(bY d).size+1+(bs mt).size+2:=ae
  go_upto_region 14 with fail
  generalize hX:bs l++(⟨#[108,101,116,32,119,61,40]⟩:BA)++bY d++⟨#[58]⟩++bs mt++⟨#[41,59]⟩=X;have eX:X=bs (l++[108,101,116,32,119,61,40]++[d]++[58]++mt++[41,59]):=by
   rw[<-hX];show bs l++bs [108,101,116,32,119,61,40]++bs [d]++bs [58]++bs mt++bs [41,59]=_;simp only[df]
  have zX:X.size=l.length+mt.length+11:=by rw[eX,cq];simp;omega
  have EX:=ai eX;clear hX eX hs1 rY hs3 hs4 hs5;by_cases hz:400<X.size
  .have hz':decide ((400:Int)<(X.size:Int))=true:=bD
   go_wp2
   go_ret;exact⟨rfl,uh KW⟩
  .have hz':decide ((400:Int)<(X.size:Int))=false:=bD;have⟨D',hD',g4⟩:=uh g3 ae;have g4:=ai g4;have HI:Hid (∀W',Bq w W'->∀(m:Int)(fn:FuncId)(rs:Bool),MK m fn rs->Cq 7 #[Sv X,Iv m] W' λe w'=>∃k i j l r u L m c,e=Rv (Av #[Iv k,Iv i,Iv j,Sv l,Sv r,Lv u m c,Lv none 0 0])/\Df D' k i j l r L/\sE w' L (Lv u m c)/\Bq W' w'):=ai (λW' k m fn rs hn=>by rw[uh EX];exact lO (HL.af k) hD' hn);clear EX g3 HL;go_wp2_with fail;refine(uh aiQ _<|uh KW).mono ?_;rintro e w6⟨rfl,hb6⟩;have⟨hb7,F7⟩:=nbh w6 #[Iv 0,Iv 0,Iv 0] 31;have k7:=hb6.trans<|hb7.mono hb6.size;have K7:=ai<|(uh KW).trans<|k7.mono (uh KW).size;have B7:=ai<|(uh HBB).below k7;clear hb6 hb7 k7 y1 y2 y3 HBB KW aiQ;have⟨y1,y2,y3⟩:=uh B7;have⟨z1,z2,z3⟩:=uh F7;rw[oC];simp only[dw]at*;go_wp2_with fail;refine(uh hun _<|uh K7).mono ?_;rintro e w8⟨z,ok,rfl,Nl,hb8⟩;have⟨Iu,G9⟩:=nbh w8 #[Iv 0,Iv 0,Iv 0] 31;have k9:=hb8.trans<|Iu.mono hb8.size;have K9:=ai<|(uh K7).trans<|k9.mono (uh K7).size;have F9:=ai<|(uh F7).below k9;clear hb8 Iu k9 y1 y2 y3 z1 z2 z3 K7 F7 B7 hun;rw[oC];go_wp2_with fail;refine(HE _).mono ?_;rintro e w9⟨m2,fn2,rs2,rfl,IC,rfl⟩;go_wp2_with fail;refine(uh HI _ (uh K9) _ _ _ IC).mono ?_;rintro e v2⟨k,i,j,lf,rt,u,B,m1,c,rfl,a1,b1,bZ⟩;have q1:∀C,Bq v2<|v2.alloc<|Cv C 35:=λC=>bw _
   have K1:Hid (∀C,Bq w<|v2.alloc<|Cv C 35):=ai<|λC=>K9.trans<|(bZ.trans<|(q1 C).mono bZ.size).mono K9.size;have⟨f1,f2,f3⟩:=(uh F9).below<|bZ.trans<|(q1 #[Iv k,Iv i,Iv j,Sv lf,Sv rt,Lv u m1 c,Lv none 0 0]).mono bZ.size;have⟨e1,e2,e3⟩:=(uh G9).below<|bZ.trans<|(q1 #[Iv k,Iv i,Iv j,Sv lf,Sv rt,Lv u m1 c,Lv none 0 0]).mono bZ.size;have⟨ak1,g4⟩:=uh g4 _ _ _ _ _ _ a1;have b2:=b1.af<|q1 #[Iv k,Iv i,Iv j,Sv lf,Sv rt,Lv u m1 c,Lv none 0 0];have⟨x1,x2,x3⟩:=j5 v2 #[Iv k,Iv i,Iv j,Sv lf,Sv rt,Lv u m1 c,Lv none 0 0] 35;clear a1 b1 q1 bZ HI HE K9 F9 G9 hD hD';obtain⟨rfl,⟨R0,x,rfl⟩,hσ⟩|⟨rfl,hl1,Nk,hσ⟩:=g4
   .obtain rfl:=Nl.2 hσ;obtain⟨rfl,ak2,g',rfl,BV,d1,d2⟩:=b2.last;obtain⟨b',IB⟩:∃b',R0.length=b':=⟨_,rfl⟩;simp only[lz,List.length_singleton,IB]at ak2 ak1 d1 d2 x1 x2 x3 f1 f2 f3 e1 e2 e3 BV⊢;have cR:(((b'+1:Nat):Int)==0)=false:=bD;clear Nl hσ b2
    go_wp2
    go_ret;exact⟨rfl,uh K1 _⟩
   .obtain rfl:ok=false:=by cases ok with|false=>rfl|true=>exact absurd (Nl.1 rfl) hσ
    have ne:∀x:BA,x≠⟨#[]⟩->x.toList.isEmpty=false:=λx hx=>by
     cases e:x.toList with
     |nil=>exact absurd (pJ (by rw[e,show(⟨#[]⟩:BA).toList=[]from toList_mk []];rfl)) hx|cons=>rfl
    have n1:=ne lf hl1;have n2:=ne rt Nk;clear ne;clear Nl hσ b2
    go_wp2
    go_ret;exact⟨rfl,uh K1 _⟩
 .have iX:(k==0)=false:=by simpa using hk
  have Na:(k !=0)=true:=by simpa using hk
  have⟨x1,x2,x3⟩:=j5 v1 #[Iv k,Iv i,Iv j,Sv lf,Sv rt,Lv u m1 c,Lv none 0 0] 35
  go_wp2
  go_ret;exact⟨rfl,uh K1 _⟩
end
section
open Go.ChangeShapes Go.WideShapes Go.ChangeAt Go.WideMaps Go.WideElems
def vP(os:Os)(started:os.Started)(H:Type)(enc:TypeId×Value->H):
 ReturnsInHanded {} jy os 3 .any (λw args=>(Rows.principalSpec.pre enc jx jz [] false w args/\laidMetH jx Rows.principalRow.laid w)/\sizedMet enc jx jz (OpenSpec.ofChange Rows.principalSpec) false w args)
  (Rows.principalSpec.post enc jx jz false true false false):=by
 refine returnsInHanded_of_change_and (C:=jy) (X:=λw _=>laidMetH jx Rows.principalRow.laid w) (λ_ _ _ hh h=>h.of_heap hh) own started qkr Tryz.func3
  (ChangeSpec.witness_shaped (enc:=enc) (C:=jy) (os:=os) (X:=λw _=>laidMetH jx Rows.principalRow.laid w) false (World.doorLaid jx 72 os) #[.slice none 0 0,Iv 0] 8 rfl (World.shaped_of_RefB qkr qkr) qkr qkr qkr (abm os _)) ?_
 intro W base args ds gs before aga hW _ _ hL _;have aiR:∀(j:Nat)t v,Tryz.f3.params[j]? =some t->args[j]? =some v->Value.okWide jx W .any base t v:=aga;have hW':=hW;obtain⟨p,q,hA0,hV,rfl,hfz,pW⟩:=hW;have hA:DataW.TrodAll enc jx W 0 (λ_=>true) true Tryz.f3.params.toList args.toList ds p:=hA0;rw[Tryz.params3]at hA aiR;obtain⟨v1,v2,d1,d2,p1,p2,rfl,rfl,rfl,h1,h2⟩:=trodAll_two hA;obtain⟨rfl,rfl⟩:=trodVars_none hV;obtain⟨a1,len,cap,rfl⟩:=okWide_slice Bh<|aiR 0 22 v1 rfl rfl;obtain⟨n,rfl,rfl,rfl,hw⟩:=open_int Tryz.underlying3 (aiR 1 3 v2 rfl rfl) h2;have h1k:=h1;obtain⟨fuel,hf⟩:=h1;clear hA0 aga;simp only[List.append_nil,List.nil_append]at hW';have bA:∀x∈p1,x.block<W.heap.size:=λx hx=>by simpa using hW'.lt x hx
 have ak3:∀(W':World),Bq W W'->DataW.Trod enc jx W' 0 (λb=>decide (b<W.heap.size)) true 22 (.slice a1 len cap) d1 p1:=
  λW' hn=>Below.trod laidOut qkr (of_decide_eq_true qkr) h1k hn bA
 have hn: -9223372036854775808<=n/\n<=9223372036854775807:=by have hw':=hw;simp only[Lit.wf,Bool.and_eq_true,decide_eq_true_eq]at hw';exact hw'
 obtain⟨hlen,r,hS⟩:=abo (by simpa[Value.cells]using hf);refine(Dg (aea hL) n hn.1 hn.2 (cap:=cap) hlen hS).mono λe W'⟨he,hb⟩=>?_;subst he;exact⟨_,rfl,_,_,_,[],_,[],hW',trodAll_mk1<|shut_bool Tryz.underlying4 _,trodAll_mk2 (ak3 _ hb)<|shut_int Tryz.underlying3 hw,rfl,hb.frame _,λh=>MO⟩
end
end Go.Proofs.YtlnlhlefeokfjaaGreatDoor

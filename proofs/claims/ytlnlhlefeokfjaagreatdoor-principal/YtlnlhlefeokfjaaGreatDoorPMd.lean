import Derived.Test.YtlnlhlefeokfjaaGreatDoorPFd
import Derived.Test.YtlnlhlefeokfjaaGreatDoorPBzw
import Derived.Test.YtlnlhlefeokfjaaGreatDoorPXz
set_option linter.all false
set_option maxRecDepth 100000
set_option maxHeartbeats 4000000
namespace Go.Proofs.YtlnlhlefeokfjaaGreatDoor
open _root_.List renaming setIfInBounds_toArray->ja,set_cons_zero->jc,set_cons_succ->jd
open Or renaming inl->jf,inr->jh
open In renaming eu->ji,Env->jj,cz->jk,Mks->jl,rK->jm,St->jo,tN->jp,inf->jq
open Go.Act renaming put->jt
open Fr renaming ph->ju,of->jv
open And renaming intro->jx
open Go Go.RowKit Un Proofs.Tryz
variable {C:Array Value} {dom:BA->Prop} {fn:Func} {Γ:jj} {D:List Dc} {p:List Ky} {a b base lo xb:Nat} {Q:Nat->Prop} {row:Option Nat} {P:Program} {v x:Value} {c:WC} {w w':World}
section
open Go.ChangeMaps
def tk0(s:BA):Pu.Tok:=⟨0,s,0,0⟩
def eD:Dc->Dc
 |.ty t vs ms=>.ty (tk0 t.text) (vs.map λv=>tk0 v.text) (dz ms)|.lt r t b=>.lt r (tk0 t.text)<|es b
def RdE(p:List Ky)(d:Dc):=(∃x r,p=x::r/\(x=DS\/x=CL))/\∀T k n,gy T k p->p.length<=n->p.length<=T.length+1->∃d',eD d'=d/\eZ T n k=.ok (d',k+p.length)
def RdE.lt{p:List Ky}{s:List UInt8}{t:Nd}(h:RdB p s t):RdE (p++[xI]) (.lt false (tk0 ⟨s.toArray⟩) t):=by
 obtain⟨r,hr0⟩:∃r,p=CL::r:=⟨_,h.choose_spec.1⟩;refine⟨⟨CL,r++[xI],by rw[hr0];rfl,jh rfl⟩,λT k n hs hn hT=>?_⟩;simp only[lz,kh,qP]at hn hT;have hm:=hs.right.hd;have⟨tok,nd,e,g,hr⟩:=h.reads (n:=n) hs.left ae ae<|kI hm aw;have h0:eJ (tk T k)=CL:=by have:=hs.left;rw[hr0]at this;exact this.hd
 refine⟨.lt false tok nd,by simp only[eD,g,e],?_⟩;rw[eZ];rw[kJ h0 aw];show DT T (bt T n) k=_;rw[DT];simp only[aV,hr,dU hm];simp;omega
inductive Xd:List Ky->List Dc->Prop where
 |nil:Xd [] []
 |cons{p q:List Ky}{d:Dc}{D:List Dc}:RdE p d->Xd q D->Xd (p++q) (d::D)
def Xd.reads(h:Xd p D):∀(T:List Pu.Tok)(k n f:Nat)(l:List Dc),gy T k p->p.length<=n->p.length<=T.length+1->p.length<=f->(tk T<|k+p.length).kind=7->∃B,B.map eD=D/\dx T (eZ T n) f l k=.ok (l++B,k+p.length):=by
 induction h with
 |nil=>
  intro T k n f l _ _ _ _ he;simp at he;refine⟨[],rfl,?_⟩;rw[DU (by simp[aX,he])<|by simp[aX,he]];simp
 | @cons p q d D hp hq ih=>
   intro T k n f l hs hn hT hf he;simp only[lz]at hn hT hf he;obtain⟨⟨x,r,e0,hx⟩,hp⟩:=hp;have hl:1<=p.length:=by rw[e0];simp
   obtain⟨f,rfl⟩:∃g,f=g+1:=⟨f-1,ae⟩;have⟨d,e1,r1⟩:=hp T k n hs.left ae ae;have⟨B,e2,r2⟩:=ih T _ n f (l++[d]) hs.right ae ae ae (by rw[Nat.add_assoc];exact he);have h0:eJ (tk T k)=x:=by have:=hs.left;rw[e0]at this;exact this.hd
   refine⟨d::B,by rw[<-e1,<-e2];rfl,?_⟩
   rw[tV (by
    obtain rfl|rfl:=hx;·exact jf<|gA h0
    .exact jh (gA h0))]
   simp only[aV,r1,r2];simp;omega
def Xd.snoc{q:List Ky}{d:Dc}(h:Xd p D)(k:RdE q d):Xd (p++q) (D++[d]):=by
 induction h with
 |nil=>simpa using Xd.cons k .nil|cons a b ih=>simpa using Xd.cons a ih
end
section
open Go.ChangeMaps Go.MapKept
section
variable {W:World} {cnt:Nat} {s:jo} {kb gb:Nat} {Λ:Nat->Prop} {nd:Nd}
def Fk.self(h:Fk nd c w cnt s kb Λ Γ gb Q dom v)(hb:Bq w W):Fk nd c W cnt s kb Λ Γ gb Q dom v:=h.part hb h.pe h.sc<|br _
def mH(mk:jl)k s n f t a(Γ:jj)K(h:(k=3/\K=lh)\/(k=4/\K=gS)\/(k=5/\K=jC)):jq mk (.mk k s n [] f t a) Γ=In.cH (.aJ K []):=by
 obtain⟨rfl,rfl⟩|⟨rfl,rfl⟩|⟨rfl,rfl⟩:=h<;>simp[jq,In.li]
def ir k s n f t a:nn (.mk k s n [] f t a)=1:=qBi
end
def Zg:∀(k:Nat)(nd:Nd),nn nd<=k->Dy nd:=by
 intro k
 induction k with
 |zero=>intro nd h;cases nd;simp only[nn]at h;omega|succ k ih=>
  intro nd hk c w cnt s kb Λ Γ gb Q dom v h;have hp:=h.pe
  cases hp with
  |low st n f t a hs=>exact Yj h|up st n f t a hs=>exact adp h|num st n f t a=>
   rw[mH c.mks 3 st n f t a Γ lh<|jf ⟨rfl,rfl⟩,ir];exact(Ye h.we h.wk ae).1 _
  |word st n f t a hs=>
   rw[mH c.mks 4 st n f t a Γ gS<|jh<|jf ⟨rfl,rfl⟩,ir];exact(Ye h.we h.wk ae).2.1 _
  |unit st n f t a=>
   rw[mH c.mks 5 st n f t a Γ jC<|jh<|jh ⟨rfl,rfl⟩,ir];exact(Ye h.we h.wk ae).2.2
  |pr st n x y f t a vx vy hx hy=>
   have iX:nn x<=k/\nn y<=k:=IA;obtain⟨tx,ax,rfl⟩:=hx.iface;obtain⟨ty,ay,rfl⟩:=hy.iface;exact NS.1 λW hb=>ac7 (ih x iX.1) (ih y iX.2) (h.self hb) (hx.af hb)<|hy.af hb
  |of st n x y f t a vx vy hx hy=>
   have iX:nn x<=k/\nn y<=k:=IA;obtain⟨tx,ax,rfl⟩:=hx.iface;obtain⟨ty,ay,rfl⟩:=hy.bO;exact NS.2.1 λW hb=>Zh (ih x iX.1) (h.self hb) (hx.af hb)<|hy.af hb
  |op st n x y f t a vx vy hs hx hy=>exact absurd rfl (vB h.sc ag).1|call st n x y f t a vx vy hx hy=>
   have iX:nn x<=k/\nn y<=k:=IA;obtain⟨tx,ax,rfl⟩:=hx.iface;obtain⟨ty,ay,rfl⟩:=hy.iface;exact NS.2.2.1 λW hb=>ac6 (ih x iX.1) (ih y iX.2) (h.self hb) (hx.af hb)<|hy.af hb
  |fn st n x f t a y vx hs hy hx=>
   have iX:nn x<=k:=IA;obtain⟨tx,ax,rfl⟩:=hx.iface;exact NS.2.2.2.1 λW hb=>ajf (ih x iX) (h.self hb)<|hx.af hb
  |lt K st n x z f t a y vx vz hc hs hy hx hz=>
   have iX:nn x<=k/\nn z<=k:=IA;obtain⟨tx,ax,rfl⟩:=hx.iface;obtain⟨tz,az,rfl⟩:=hz.iface;have hK:K=if(K==11)=true then 11 else 10:=Cc;exact NS.2.2.2.2.1 λW hb=>agE (rc:=K==11) hK (ih x iX.1) (ih z iX.2) (h.self hb) (hx.af hb)<|hz.af hb
  |ite st n x y z f t a vx vy vz hx hy hz=>
   have iX:nn x<=k/\nn y<=k/\nn z<=k:=IA;obtain⟨tx,ax,rfl⟩:=hx.iface;obtain⟨ty,ay,rfl⟩:=hy.iface;obtain⟨tz,az,rfl⟩:=hz.iface;exact NS.2.2.2.2.2.1 λW hb=>US (ih x iX.1) (ih y iX.2.1) (ih z iX.2.2) (h.self hb) (hx.af hb) (hy.af hb)<|hz.af hb
  |mt st n x A f t a vx g sc vp ve h0 hg hz hc hx hp he=>
   have iX:nn x<=k/\bV (bq A)<=k:=IA;obtain⟨tx,ax,rfl⟩:=hx.iface
   exact NS.2.2.2.2.2.2.1 λW hb=>agV (ih x iX.1) (λi hi=>ih _ (by have:=tW A i hi;omega)) (h.self hb) hg (Nat.lt_of_lt_of_le hz hb.size) (λi hi=>by
    have my:∀o,W.cell? ⟨g,o,none⟩=w.cell? ⟨g,o,none⟩:=λo=>World.cell?_of_block (a:=⟨g,o,none⟩)<|hb.block g hz;simp only[my]
    exact hc i hi) (hx.af hb) (λi hi=>(hp i hi).af hb) (λi hi=>(he i hi).af hb)
def adq nd:Dy nd:=Zg _ nd<|br _
def JQ{P:Program}(h4:fn.results=#[.tmp 4,.cell 5 134])(T:Array Value)(i:Nat)(v:Value)(h:i≠4/\i≠5):results fn (T.setIfInBounds i v)=results fn T:=by
 have e:∀j,j≠i->(T.setIfInBounds i v).getD j undef=T.getD j undef:=λj hj=>by
  simp only[Array.getD_eq_getD_getElem?,Array.getElem?_setIfInBounds_ne<|Ne.symm hj]
 unfold results;rw[h4];simp only[Array.mapM_eq_mapM_toList,List.mapM_cons,List.mapM_nil,e 4<|Ne.symm h.1,e 5<|Ne.symm h.2]
def Om(h4:fn.results=#[.tmp 4,.cell 5 134])T i v(h:i≠4/\i≠5)R:∀(ds:List Deferred)(u:FrameMode)(w:World),Leaves P fn (T.setIfInBounds i v) R ds u w->Leaves P fn T R ds u w:=by
 intro ds
 induction ds with
 |nil=>
  intro u w q
  cases u with
  |returning=>simp only[Leaves]at q⊢;rw[JQ (P:=P) h4 T i v h]at q;exact q|panicking c=>exact q|run=>exact q
 |cons d ds ih=>
  intro u w q;simp only[Leaves]at q⊢;obtain⟨q1,fv,cap,f,args,q2,q3,q4⟩:=q;refine⟨q1,fv,cap,f,args,q2,q3,q4.mono ?_⟩;intro e u' w' hq
  cases e with
  |returned v=>exact ih _ _ hq|panicked c=>exact ih _ _ hq|outgrown=>exact hq
def Ve(h4:fn.results=#[.tmp 4,.cell 5 134]){K}{R}{i}(h:i≠4/\i≠5)v c a w(q:(Exit.then K<|bodyPostD P fn R) (.panic c) (a.put (some i) v) w):(Exit.then K<|bodyPostD P fn R) (.panic c) a w:=Om h4 a.tmps i v h R a.defers _ w q
section
variable {cnt:Nat} {u:Nat->Prop}
def pi{ops}{Q}{md}{S}{oi}{fuel}{listed}{a}{w}i(h:wpAnyH P md ops Q S fuel (listed.setIfInBounds i true) (a.put oi.dst v) w)(hi:ops[i]? =some oi:=by rfl)(hs:Region.noSelect ops=true:=by kernel_rfl)(hf:Region.free md ops listed i=true:=by kernel_rfl)(hr:(Region.ready md ops listed).contains i=true:=by kernel_rfl)(hy:YieldsIf P ops S oi v a:=by exact .inl ⟨by rfl,by intro w hSw;(try dsimp only at hSw);go_simp;try with_reducible rfl⟩)(hQ:∀c a w,Q (.panic c) (a.put oi.dst v) w->Q (.panic c) a w:=by exact λc a w q=>Ve alP aw _ c a w q)(hS:S w:=by assumption):wpAnyH P md ops Q S (fuel+1) listed a w:=wpAnyH_take hi hs hf hr hQ hy hS h
def Rh{p:Prop}(h:p:=by
 go_wp2_with fail;have nm:=NM5.below KW;have fb:=FB5.below KW;have we:=WE5.af KW;have env:=alQ.af KW;have tt:cX wz (λi=>i≠c.cb/\i≠c.eb/\i≠w.heap.size+1) T (Fv tz xz):=((TZ.not (we.bx.c 0) ag).not (fb.c 0) ag).wide λi p=>⟨p.1.1,p.1.2,p.2⟩;have HVA:Hid (∀W':World,Bq wz W'->Cq 248 #[Fv tz xz] W' (λe w'=>∃sa sc,e=Rv (Lv sa (vars [] T).length sc)/\rQ w' (λi=>i≠c.cb/\i≠c.eb/\i≠w.heap.size+1) sa (vars [] T)/\Bq W' w')):=ai λW' hb=>by
  refine(fO (tt.af hb) ae).mono ?_;rintro e w'⟨V,rfl,ho,k⟩;obtain⟨sa,sc,rfl,hr⟩:=Jk ho;exact⟨sa,sc,rfl,hr.move (br _) (λ_ _ _=>rfl) (λi p _=>by have:=hb.size;have:=KW.size;have:=FB5.z;omega),k⟩
 have HWI:Hid (∀(W':World)(sa:Option Addr)(sc:Nat),Bq wz W'->rQ W' (λi=>i≠c.cb/\i≠c.eb/\i≠w.heap.size+1) sa (vars [] T)->Cq 247 #[Mv c.nb,Sv st,Av #[Fv tz xz,Lv sa (vars [] T).length sc]] W' (pZ (λi=>i≠c.cb/\i≠c.eb/\i≠w.heap.size+1) (jk Γ st ⟨T,vars [] T⟩) W')):=ai λW' sa sc hb hr=>yG (env.af hb) st ⟨tz,xz,sa,sc,rfl,TW.of (tt.af hb) hTw<|show size T<=_ by omega,hr⟩;have f0:wz.cell? ⟨c.eb,3,none⟩=some (Mv c.nb):=we.bx.c 3;have f1:wz.cell? ⟨w.heap.size,3,none⟩=some (Sv st):=nm.c 3;have NM:=ai nm;have FB:=ai fb;have WEW:=ai we;have TT:=ai tt;clear nm fb we env tt;refine wp_region_noPanic ?_
 go_region_with(first
  |(go_at_call 248;go_loud(refine(HVA _ (Below.refl _ _).drew).mono ?_);rintro e w6⟨sa,sc,rfl,hr6,k6⟩;have k6':=(Below.refl _ _).drew.trans k6;have g0:w6.cell? ⟨c.eb,3,none⟩=some (Mv c.nb):=(WEW.af k6').bx.c 3;have g1:w6.cell? ⟨w.heap.size,3,none⟩=some (Sv st):=(NM.below k6').c 3;have K6:=ai k6';have R6:=ai hr6;clear k6 k6' hr6)
  |(go_at_call 247;go_loud(refine(HWI _ _ _ K6 R6).mono ?_);rintro e w7⟨b7,rfl,z7,h7,k7⟩;have k7':=K6.trans<|k7.mono K6.size;have g2:w7.cell? ⟨c.eb,3,none⟩=some (Mv c.nb):=(WEW.af k7').bx.c 3;have g3:w7.cell? ⟨w.heap.size,3,none⟩=some (Sv st):=(NM.below k7').c 3;have g4:w7.frozen? ⟨c.eb,3,none⟩=false:=(WEW.af k7').bx.f 3;have K7:=ai k7';have E7:=ai h7;have Z7:=ai z7;clear k7 k7' h7 z7))
 all_goals(
  refine NoPanic.normal ?_;have fb7:=FB.below K7;have FB7:=ai fb7;obtain⟨y1,y2,y3⟩:=fb7;go_wp2_with fail;have z7:=uh Z7;have z6:=K6.size;have zw:=FB.z;have l5:=HA.wt.we.l.2.2.2.2;have F8:=(FB7.bR (b2:=c.eb) ae 3<|Mv b7).Ql rfl (Iv 0) (Iv 0) (Iv 0) Zv .nilIface;have we7:=WEW.af K7;have E8:=(((((we7.bx.aT 3 (Mv b7) (agp {c with nb:=b7}) rfl ag).bR (b2:=w.heap.size+1) ae 0 (Iv 0)).bR (b2:=w.heap.size+1) ae 1 (Iv 0)).bR (b2:=w.heap.size+1) ae 2 (Iv 0)).bR (b2:=w.heap.size+1) ae 3 Zv).bR (b2:=w.heap.size+1) ae 4 .nilIface;have G8:=((((((Fr.refl (λi=>i=c.eb\/i=w.heap.size+1) w7).set (b:=c.eb) (jf<|jf rfl) 3<|Mv b7).set (b:=w.heap.size+1) (jf<|jh rfl) 0<|Iv 0).set (b:=w.heap.size+1) (jf<|jh rfl) 1<|Iv 0).set (b:=w.heap.size+1) (jf<|jh rfl) 2<|Iv 0).set (b:=w.heap.size+1) (jf<|jh rfl) 3 Zv).set (b:=w.heap.size+1) (jf<|jh rfl) 4 .nilIface;refine leaves_cons (f:=240) (args:=#[Pv<|w.heap.size+1]) ag Zi ?_;refine(acM<|w.heap.size+1).mono ?_;rintro e u' w9⟨rfl,rfl,rfl⟩;obtain⟨c9,_,_⟩:=F8;simp[Leaves,settle,results,Tryz.results238,go_sem,c9];have k7:=uh K7;have FW:=alR.trans<|jv KW
  refine⟨((FW.gh λ_ r=>jf r).trans<|jv k7).hY G8<|λi r=>r.elim (λr=>jf<|jh r)<|λr=>jh ae,.ok (T1,s1),Q2.m,jh ⟨hs,T,tz,xz,ak,b7,HVT,rfl,(TT.af k7).move G8.size (λb p z=>G8.block b z<|λr=>r.elim p.2.1 p.2.2)<|λb p _=>p.1,hTw,ae,?_⟩⟩
  exact⟨we7.put (G8.gh λi r=>r.imp id λr=>ae) E8,E7.move G8.size (G8.block _ E7.lt ae) (λb p z=>G8.block b z<|λr=>r.elim p.2.1 p.2.2)<|λb p _=>⟨p.1,p.2.1⟩,⟨by show b7≠c.cb;omega,by show b7≠c.eb;omega⟩,us2,TOP T HVT,DM _⟩)):p:=h
def agN{rc}{st}{y}{x}(h:LtA rc st x c w cnt u Γ Q dom v):
 Cq 238 #[Pv c.eb,.agg #[.bool rc,Nv a,Nv y,.string st,v]] w (Zj c cnt u Γ rc st a y x w):=by
 obtain⟨tx,ax,rfl⟩:=h.pe.iface;have iZ:= @run_makeMap Tryz.prog;obtain⟨w0,yn⟩:∃w0,w0=(w.alloc<|Cv #[.bool rc,Nv a,Nv y,Sv st,Fv tx<|Av ax] 130).alloc (Cv MU 134):=⟨_,rfl⟩;have k0:Bq w w0:=by rw[yn];exact(bw _).alloc ag _
 have B0:Bx w0 w.heap.size #[.bool rc,Nv a,Nv y,Sv st,Fv tx<|Av ax]:=by rw[yn];exact(Bx.new w #[.bool rc,Nv a,Nv y,Sv st,Fv tx<|Av ax] 130).alloc (Cv MU 134)
 have Zk:=h.wt.we.af k0;have f0:w0.cell? ⟨c.eb,3,none⟩=some (Mv c.nb):=Zk.bx.c 3;have f1:w0.cell? ⟨w.heap.size,0,none⟩=some (.bool rc):=B0.c 0;have f2:=B0.c 1;have f3:=B0.c 2;have f4:=B0.c 3;have f5:=B0.c 4;have k1:Bq w0 (w0.alloc<|.map #[] 0).drew:=(bw _).drew;have we1:=Zk.af k1;have yL:=B0.below k1;have K01:=k0.trans<|k1.mono k0.size;have zc:=h.wt.we.di;have ze:=h.wt.we.bx.z;have zz0:w0.heap.size=w.heap.size+2:=by rw[yn];simp
 have CO:Bx (w0.alloc<|.map #[] 0).drew (w.heap.size+1) MU:=by
  have q:Bx w0 (w.heap.size+1) MU:=by
   rw[yn];have:=Bx.new (w.alloc<|Cv #[.bool rc,Nv a,Nv y,Sv st,Fv tx<|Av ax] 130) MU 134;simpa using this
  exact q.below k1
 have g0:=we1.bx.c 3;have g1:=yL.c 0;have g2:=yL.c 1;have g3:=yL.c 2;have g4:=yL.c 3;have g5:=yL.c 4;have GS:=jx g0<|jx g1<|jx g2<|jx g3<|jx g4 g5;have KE:KW (w0.alloc<|.map #[] 0).drew (dt c) w0.heap.size Ty.var:=⟨λ_=>none,(fC.new w0<|dt c).af (Below.refl _ _).drew,λn=>⟨λ_=>rfl,λq=>absurd rfl q⟩⟩;have WK1:WK (w0.alloc<|.map #[] 0).drew c cnt ⟨Ty.var,u⟩ w0.heap.size:=⟨KE,ae,h.wt.hu,jp u,λn=>trivial⟩;have wg1:WG (w0.alloc<|.map #[] 0).drew c ⟨Ty.var,u⟩ (λn=>¬u n) Γ c.nb:=⟨(h.wt.e.af K01).wide λi p=>p.1,h.wt.n.1,h.wt.top.env,λy d q=>by rw[(h.wt.top y d q).1];exact de _ List.nodup_nil,h.wt.dm⟩;have HB:=Jq (a:=a) (y:=y) (adq x) (⟨we1,WK1,λn q=>q,wg1,h.pe.af K01,λb q=>(h.hq b q).1,h.sc,h.hd,h.ft,h.mf,h.jA⟩:BdA rc st x c _ cnt ⟨Ty.var,u⟩ w0.heap.size (λn=>¬u n) Γ c.nb Q dom (Fv tx<|Av ax));rw[zz0]at HB;have HA:=ai h;clear k0 k1 Zk we1 B0 KE WK1 wg1 g0 g1 g2 g3 g4 g5 h;have alP:Tryz.f238.results=#[.tmp 4,.cell 5 134]:=rfl
 go_enter_defers Tryz.func238,Tryz.ntmps238
 go_wp2_with fail;rw[<-yn];clear yn;refine wp_region_held_drew (S:=λw'=>w'.cell? ⟨c.eb,3,none⟩=some (Mv c.nb)/\w'.cell? ⟨w.heap.size,0,none⟩=some (.bool rc)/\w'.cell? ⟨w.heap.size,1,none⟩=some (Nv a)/\w'.cell? ⟨w.heap.size,2,none⟩=some (Nv y)/\w'.cell? ⟨w.heap.size,3,none⟩=some (Sv st)/\w'.cell? ⟨w.heap.size,4,none⟩=some (Fv tx<|Av ax)) qkr ⟨f0,f1,f2,f3,f4,f5⟩<|λhHeld=>?_;refine pi 0 ?_;try simp only[jt,ja,jc,jd]
 refine pi 2 ?_;try simp only[jt,ja,jc,jd]
 refine pi 3 ?_;try simp only[jt,ja,jc,jd]
 refine pi 4 ?_;try simp only[jt,ja,jc,jd]
 refine pi 5 ?_;try simp only[jt,ja,jc,jd]
 refine pi 6 ?_;try simp only[jt,ja,jc,jd]
 refine wpAnyH_ready (rs:=[1]) qkr ag ?_;refine AllReadyH.cons rfl (λK hK=>?_) AllReadyH.nil;go_simp;refine hK.out _ _ GS<|λagW=>?_;clear hK K hHeld f0 f1 f2 f3 f4 f5;refine wpAnyH_ready (rs:=[7]) qkr ag ?_;refine AllReadyH.cons rfl (λK hK=>?_) AllReadyH.nil;go_simp;refine HB.mono ?_;intro e w2 hp;clear HB agW GS;obtain⟨ak,z,vl,vr,rfl,q⟩|⟨ak,T1,s1,BQ,BS,jI,rfl,q⟩:=hp.split
 .clear hK;have F2:=CO.fr q.F ae;refine leaves_cons (f:=240) (args:=#[Pv<|w.heap.size+1]) ag Zi ?_;refine(Di (w.heap.size+1) F2 z.f vl vr q.f.hv).mono ?_;rintro e u' w9⟨rfl,rfl,hB,hF⟩;obtain⟨c9,_,_⟩:=hB;simp[Leaves,settle,results,Tryz.results238,go_sem,c9];exact⟨(((jv K01).trans<|q.F.gh λ_ r=>jf r)).hY hF<|λi r=>jh ae,.error z,q.m,vl,vr,rfl,q.f.one (F2.c 0) ag hF⟩
 have h:=uh HA;have Zl:=yL.fr q.F ae;refine hK.out _ _ ⟨q.we.bx.c 3,Zl.c 0,Zl.c 1,Zl.c 2,Zl.c 3,Zl.c 4⟩<|λagX=>?_;clear hK K;refine pi 8 ?_;try simp only[jt,ja,jc,jd]
 refine pi 9 ?_;try simp only[jt,ja,jc,jd]
 refine pi 10 ?_;try simp only[jt,ja,jc,jd]
 refine pi 11 ?_;try simp only[jt,ja,jc,jd]
 refine pi 12 ?_;try simp only[jt,ja,jc,jd]
 refine wpAnyH_done qkr ?_ _;clear agX;have UI:=CO.fr q.F ae;have⟨kp2,ti2⟩:=In.iG rc st x (In.mD c.mks x) Γ ⟨Ty.var,u⟩ (λn=>¬u n) (jp u) (λn r=>r) h.wt.top.env T1 s1 q.m;have c1:=q.c1;have c2:=q.c2;have W8:=h.ft.a;have ftb:=h.ft.b;have us2:∀n,s1.u n->us ak n:=λn p=>by obtain r|r:=q.u n p;have:=h.wt.hu n r;unfold us at*;omega;rw[us];omega
 have wk2:WK w2 c ak s1 jI:=⟨q.k,q.n,us2,kp2.ok,q.wh⟩;have hf:=wk2.Jd ae<|jh trivial;have HO:=uY wk2.k wk2.n hf ae q.t;have hcz:=q.t.Xz hf ae;have Iw:=cd _ q.t.wh λn _=>q.wh n;have Q2:=ai q;have FF2:=((jv K01).trans q.F);have zc2:=q.we.di;have zq2:=UI.z;clear hp q h wk2 hf CO yL;go_wp2_with fail;refine HO.mono ?_;rintro e w3⟨u3,rfl,hu3,K3⟩;clear HO;have HS:=pU _ w3 _ _ hu3 hcz;obtain⟨n1,Cg⟩:∃n,n=sz (bK<|sub s1.k T1):=⟨_,rfl⟩;rw[<-Cg]at HS;have E1:=EY (sub s1.k T1) Iw;rw[<-Cg]at E1;obtain⟨t3,x3,rfl⟩:=hu3.iface;have U3:=hu3.wide (Q:=dt c) λi p=>by obtain p|p:=p;exact p;show i≠c.cb;omega
 clear hu3 Cg;go_wp2_with fail;refine HS.mono ?_;rintro e w4⟨rfl,k4⟩;clear HS;have K4:=K3.trans<|k4.mono K3.size;have U4:=U3.af k4;clear k4 K3 U3;by_cases Ux:48<n1
 .have hm:(48:Int)<(n1:Int):=ae;have HT:=m5 (w:=w4) (a:Int) (y:Int);have⟨b1,b2,b3⟩:=Zl.below K4;go_wp2_with fail;refine HT.mono ?_;rintro e w5⟨rfl,k5⟩;have k25:=K4.trans<|k5.mono K4.size;have F5:=UI.below k25;clear HT b1 b2 b3;go_wp2_with fail;refine leaves_cons (f:=240) (args:=#[Pv<|w.heap.size+1]) ag Zi ?_;refine(Di (w.heap.size+1) F5 ⟨7,a,y⟩ Zv Zv<|jf ⟨rfl,rfl⟩).mono ?_;rintro e u' w9⟨rfl,rfl,hB,hF⟩;obtain⟨c9,_,_⟩:=hB;simp[Leaves,settle,results,Tryz.results238,go_sem,c9];exact⟨(((FF2.gh λ_ r=>jf r).trans<|jv k25)).hY hF<|λi r=>jh ae,.ok (T1,s1),Q2.m,jf ⟨E1.1.1 Ux,rfl⟩⟩
 have hm:¬(48:Int)<(n1:Int):=ae;have hs:size (sub s1.k T1)<=48:=by have:=E1.1;omega
 have NR:=E1.2 hs;rw[NR]at U4;clear NR E1 hcz;have hwT:=Iw;have h:=uh HA;have FF4:=FF2.trans<|jv K4;have HV:=pV x w4 Q _<|h.pe.move FF4.size (λb p z=>FF4.block b z (h.hq b p).1)<|λ_ p _=>p;have⟨b1,b2,b3⟩:=Zl.below K4;clear h FF4;go_wp2_with fail;refine HV.mono ?_;rintro e w5⟨rfl,k5⟩;have K5:=K4.trans<|k5.mono K4.size;have U5:=ai<|U4.af k5;clear HV k5 b1 b2 b3 U4 K4;have h:=uh HA;have FF5:=FF2.trans<|jv K5;have we5:=Q2.we.af K5;have fb5:=UI.below K5;have nm5:=Zl.below K5;have nee:¬c.eb=w.heap.size:=ae;have neb:¬c.eb=w.heap.size+1:=ae;have ajA:bS w5 (λi=>i≠c.cb/\i≠c.eb/\i≠w.heap.size+1) c.nb Γ:=h.wt.e.move FF5.size (FF5.block _ h.wt.e.lt h.wt.n.1) (λb p z=>FF5.block b z p.1)<|λb p z=>⟨p.1,p.2,ae⟩;have TOP:∀T:Ty,T=(if jm x then sub s1.k T1 else ji (sub s1.k T1))->In.Zm ⟨Ty.var,s1.u⟩ (jk Γ st ⟨T,vars [] T⟩):=λT hT y d hd=>by
  rw[jk]at hd;split at hd
  .injection hd with hd;subst hd;refine⟨rfl,λv hv=>?_⟩;have hv:=In.aq.1 hv;rw[hT]at hv;split at hv
   .exact⟨(kp2.ok.om ti2.use hv).1,rfl⟩
   .have⟨m,_,o⟩:=(In.bN _).1 hv;simp[aB,bX]at o
  .exact⟨(h.wt.top y d hd).1,λv hv=>⟨kp2.run.mono v ((h.wt.top y d hd).2 v hv).1,rfl⟩⟩
 have DM:∀d z,jk Γ st d z≠none->z∈c.nl:=λd z hz=>by
  rw[jk]at hz;split at hz
  .rename_i e;rw[e];exact h.jA
  .exact h.wt.dm z hz
 have WE5:=ai we5;have FB5:=ai fb5;have NM5:=ai nm5;have alQ:=ai ajA;have alR:=ai FF5;clear h FF5 we5 fb5 nm5 ajA Zl UI FF2 kp2 ti2 Iw
 cases hV:jm x with
 |true=>
  have hnt:(Op.unary .not<|.bool true).run Tryz.prog w5=.ok (.bool false) w5:=rfl;obtain⟨T,hT⟩:∃T,T=sub s1.k T1:=⟨_,rfl⟩;have HVT:Hid (T=if jm x=true then sub s1.k T1 else ji (sub s1.k T1)):=ai (by rw[hV,hT];rfl);obtain⟨tz,xz,hz⟩:∃tz xz,tz=t3/\xz=x3:=⟨_,_,rfl,rfl⟩;obtain⟨rfl,rfl⟩:=hz;have hTs:size T<=48:=by rw[hT];exact hs
  have hTw:Whole T:=by rw[hT];exact hwT
  have TZ:Hid (cX w5 (dt c) T<|Fv tz xz):=by rw[hT];exact U5
  have KW:Hid (Bq w5 w5):=ai<|Below.refl _ _;clear hV hT U5;obtain⟨wz,hz⟩:∃wz,wz=w5:=⟨_,rfl⟩;subst hz;exact Rh
 |false=>
  have hnt:(Op.unary .not<|.bool false).run Tryz.prog w5=.ok (.bool true) w5:=rfl;have HCL:=DV U5 ae;obtain⟨T,hT⟩:∃T,T=ji (sub s1.k T1):=⟨_,rfl⟩;have HVT:Hid (T=if jm x=true then sub s1.k T1 else ji (sub s1.k T1)):=ai (by rw[hV,hT];rfl);have hTs:size T<=48:=by rw[hT,lE];exact hs
  have hTw:Whole T:=by rw[hT];exact cd _ hwT λn _=>Ar
  rw[<-hT]at HCL;have zc5:=WE5.di;clear hV hT U5;go_wp2_with fail;refine HCL.mono ?_;rintro e wz⟨uc,rfl,huc,kc⟩;clear HCL;obtain⟨tz,xz,rfl⟩:=huc.iface;have TZ:Hid (cX wz (dt c) T<|Fv tz xz):=ai (huc.wide λi p=>by show i≠c.cb;have:w5.heap.size<=i:=p;omega);have KW:=ai kc;clear huc kc;exact Rh
end
def DF:Cq 72 #[] w λe w'=>e=.returned (Mv w.heap.size)/\Ja w' w.heap.size/\Bq w w'/\w'.heap.size=w.heap.size+1:=by
 have iZ:= @run_makeMap Tryz.prog;have M0:=MG.new Value.string w;have k0:Bq w (w.alloc<|.map #[] 0):=bw _;have Z0:(w.alloc<|.map #[] 0).heap.size=w.heap.size+1:=by simp
 have K0:=ai k0;go_enter func72,ntmps72;go_wp2_with((refine cr UH Yn rfl _ _ _ (Or.inl rfl) rfl M0 _ _ rfl rfl ?_;clear M0;intro w' H' O';have M0:=ai H';have K1:=K0;have Z1:=Z0;clear K0 Z0;have K0:=ai (One.below K1 O'<|by exact br _);have Z0:=ai<|O'.size.trans Z1;clear H' O' K1 Z1));go_ret;refine⟨rfl,⟨_,M0,?_,?_,?_,?_⟩,K0,Z0⟩;all_goals(simp only[aO];rfl)
def agY nl:Cq 47 #[] w λe w'=>∃c:WC,e=.returned (Pv c.eb)/\Bq w w'/\WT w' c 0 (λ_=>False) (λ_=>none)/\c.nb≠c.mb/\c.mks=(λ_=>none)/\c.nl=nl/\w.heap.size<=c.cb/\w.heap.size<=c.eb/\w.heap.size<=c.mb:=by
 have iZ:= @run_makeMap Tryz.prog;go_enter func47,ntmps47;go_wp2_with fail;refine(tG).mono ?_;rintro e w1⟨rfl,yC⟩;have k1:Bq w w1:=by rw[yC];exact bw _
 have C1':Bx w1 w.heap.size #[Iv 0]:=by rw[yC];exact Bx.new w #[Iv 0] 3
 have z1:w1.heap.size=w.heap.size+1:=by rw[yC];simp
 have K1:=ai k1;clear yC k1;go_wp2_with fail;refine(DF).mono ?_;rintro e w2⟨rfl,R2,k2,z2⟩;have K2:=ai k2;clear k2
 go_wp2
 go_ret;obtain⟨w3,rS⟩:∃w3,w3=w2.alloc (.map #[] 0):=⟨_,rfl⟩;obtain⟨w4,hw4⟩:∃w4,w4=w3.alloc (.map #[] 0):=⟨_,rfl⟩;have k3:Bq w2 w3:=by rw[rS];exact bw _
 have k4:Bq w3 w4:=by rw[hw4];exact bw _
 have z3:w3.heap.size=w2.heap.size+1:=by rw[rS];simp
 have z4:w4.heap.size=w3.heap.size+1:=by rw[hw4];simp
 have k2:=uh K2;have k1:=uh K1;have m3:MG Sv w3 (w.heap.size+2) []:=by rw[rS,show w.heap.size+2=w2.heap.size by omega];exact MG.new _ w2
 have m4:MG Sv w4 (w.heap.size+3) []:=by rw[hw4,show w.heap.size+3=w3.heap.size by omega];exact MG.new _ w3
 rw[<-rS,<-hw4];obtain⟨w5,hw5⟩:∃w5,w5=w4.alloc (Cv #[.func (.func 32) #[] #[Pv w.heap.size],Mv<|w.heap.size+1,Mv<|w.heap.size+2,Mv<|w.heap.size+3] 192):=⟨_,rfl⟩;have k5:Bq w4 w5:=by rw[hw5];exact bw _
 have z5:w5.heap.size=w.heap.size+5:=by rw[hw5];simp;omega
 have b5:Bx w5 (w.heap.size+4) #[.func (.func 32) #[] #[Pv w.heap.size],Mv<|w.heap.size+1,Mv<|w.heap.size+2,Mv<|w.heap.size+3]:=by
  have:=Bx.new w4 #[.func (.func 32) #[] #[Pv w.heap.size],Mv<|w.heap.size+1,Mv<|w.heap.size+2,Mv<|w.heap.size+3] 192;rw[<-hw5,show w4.heap.size=w.heap.size+4 by omega]at this;exact this
 have z1:w1.heap.size=w.heap.size+1:=ae;have NF:=k4.trans<|k5.mono k4.size;have k35:=k3.trans<|NF.mono k3.size;have k25:=k2.trans<|k35.mono k2.size;have kk:=k1.trans<|k25.mono k1.size;have res:∃c:WC,Rv (Pv<|w.heap.size+4)=Rv (Pv c.eb)/\Bq w w5/\WT w5 c 0 (λ_=>False) (λ_=>none)/\c.nb≠c.mb/\c.mks=(λ_=>none)/\c.nl=nl/\w.heap.size<=c.cb/\w.heap.size<=c.eb/\w.heap.size<=c.mb:=by
  refine⟨⟨w.heap.size+4,w.heap.size,w.heap.size+1,w.heap.size+2,w.heap.size+3,w.heap.size+5,λ_=>none,nl⟩,rfl,kk,⟨⟨b5,C1'.below k25,?_,⟨[],m3.same<|NF.block _ ae,λ_ _=>rfl,λx v h=>qBg⟩,?_,?_⟩,⟨[],m4.same<|k5.block _ ae,λ_ _=>rfl,λx v h=>qBg⟩,?_,λn q=>q.elim,(λy d q=>mE),λx q=>absurd rfl q⟩,?_,rfl,rfl,?_,?_,?_⟩
  .have:=R2.same (w':=w5)<|k35.block _ ae
   rwa[z1]at this
  all_goals(dsimp only;omega)
 rw[hw5]at res;exact res
structure Oth(x:Value):Prop where
 i:∀a y,x≠.iface a y
 n:∀n:Nat,1<=n->x≠Nv n
 p:∀q,x≠.pointer q
def bS.other{P}{nb}(h:bS w P nb Γ)(hv:∀y d,Γ y=some d->∀n∈d.any,1<=n)(hb:w.cell? ⟨b,0,none⟩=some x)(hx:Oth x):bS w (λi=>P i/\i≠b) nb Γ:=by
 obtain⟨L,h1,h2,h3⟩:=h;refine⟨L,h1,h2,λk v hk=>?_⟩;obtain⟨d,e,ta,xa,sa,sc,rfl,⟨⟨x',q1,q2⟩,q4⟩,q3⟩:=h3 k v hk;refine⟨d,e,ta,xa,sa,sc,rfl,⟨⟨x',q1.not hb hx.i,q2⟩,q4⟩,?_⟩;obtain q3|⟨g,r1,r2,r3,r4⟩:=q3
 .exact jf q3
 .by_cases h0:d.any=[]
  .exact jf h0
  .refine jh ⟨g,r1,⟨r2,λeg=>?_⟩,r3,r4⟩;have hl:=List.length_pos_iff.2 h0;have r5:=r4 0 hl;rw[eg,hb]at r5;injection r5 with r5;exact hx.n _ (hv k d e _<|List.getElem_mem hl) r5
def h_{κ:Type}{enc}{b'}{L:List (κ×Value)}(h:MG enc w b' L)(hb:w.cell? ⟨b,0,none⟩=some x):b'≠b:=λe=>by
 have:=h.bE 0;rw[e,hb]at this
 cases this
def WT.other{w w'}{c}{cnt}{u}{Γ}{b}{x}(h:WT w c cnt u Γ)(hn:b≠c.cb/\b≠c.eb)(hb:w.cell? ⟨b,0,none⟩=some x)(hx:Oth x)(f:Fr (λi=>i=b) w w'):WT w' c cnt u Γ:=by
 have⟨Lr,hr,_⟩:=id h.we.rs;have⟨Lm,hm,_⟩:=id h.we.ms;have⟨Ln,hnn,_⟩:=id h.e;have nr:=h_ hr hb;have nm:=h_ hm hb;have nn:=h_ hnn hb;have⟨l1,l2,l3,l4,l5⟩:=h.we.l;have hz:=f.size;refine⟨⟨h.we.bx.fr f<|Ne.symm hn.2,h.we.ct.fr f<|Ne.symm hn.1,h.we.rs.same<|f.block _ h.we.rs.lt nr,(h.we.ms.not hb hx.i).move f.size (f.block _ h.we.ms.lt nm) (λi p z=>f.block i z p.2)<|λi p _=>p.1,h.we.d,l1,l2,l3,l4,ae⟩,?_,h.n,h.hu,h.top,h.dm⟩;refine(h.e.other ?_ hb hx).move f.size (f.block _ h.e.lt nn) (λi p z=>f.block i z p.2) (λi p _=>p.1);intro y d q n hq;exact(h.hu n<|(h.top.env y d q).use n<|(h.top.env y d q).sub n hq).1
structure KpI lo base(w w':World):Prop where
 os:w'.os=w.os
 tape:w'.tape=w.tape
 output:w'.output=w.output
 size:w.heap.size<=w'.heap.size
 low:∀b,b<w.heap.size->b<lo->w'.heap[b]? =w.heap[b]?
 box:∀b x,b<w.heap.size->base<=b->w.cell? ⟨b,0,none⟩=some x->(∀q,x≠.pointer q)->w'.heap[b]? =w.heap[b]?
def KpI.of{S}(f:Fr S w w')(h1:∀b,S b->lo<=b)(h2:∀b x,S b->base<=b->w.cell? ⟨b,0,none⟩=some x->¬∀q,x≠.pointer q):KpI lo base w w':=
 ⟨f.os,f.tape,f.output,f.size,λb hb hl=>f.block b hb λq=>by have:=h1 b q;omega,λb x hb hl hx ho=>f.block b hb λq=>h2 b x q hl hx ho⟩
def KpI.bx(k:KpI lo base w w')(h:Bx w b C)(hb:base<=b)(hx:C[0]? =some x)(ho:∀q,x≠.pointer q):Bx w' b C:=h.same k.size (k.box b x h.z hb (by rw[h.c 0];exact hx) ho)
def agP(S:World->Nat->jl->jo->jj->Prop)lo base rs cnt(mks:jl)(s:jo)(Γ:jj)rc st a y x w(e:Ending)w':=KpI lo base w w'/\∃o,In.ch rc st x (jq mks x) Γ s o/\match o with
 |.error z=>∃vl vr,e=.returned (.tuple #[.nilIface,Ck z.f vl vr])/\rM w' (λ_=>True) z vl vr
 |.ok (t,s1)=>(48<size (sub s1.k t)/\e=.returned (.tuple #[.nilIface,Ck ⟨7,a,y⟩ .nilIface .nilIface]))\/
  (size (sub s1.k t)<=48/\∃T ta xa aE,T=(if jm x then sub s1.k t else ji (sub s1.k t))/\e=.returned (.tuple #[.iface ta xa,.agg MU])/\dD w' (λ_=>True) T (.iface ta xa)/\aE<=cnt+1000*(1+nn x)+48/\S w' aE mks (In.nxt rs s1) (jk Γ st ⟨T,vars [] T⟩))
structure YV ty eb lo base rs nl(S:World->Nat->jl->jo->jj->Prop):Prop where
 af:∀{w w':World}{cnt:Nat}{mks:jl}{s:jo}{Γ:jj},S w cnt mks s Γ->Bq w w'->S w' cnt mks s Γ
 oth:∀{w w':World}{cnt:Nat}{mks:jl}{s:jo}{Γ:jj}{b:Nat}{x:Value},S w cnt mks s Γ->base<=b->w.cell? ⟨b,0,none⟩=some x->Oth x->Fr (λi=>i=b) w w'->S w' cnt mks s Γ
 mks:∃fn,(∀w,(method 567 ty (.pointer<|some ⟨eb,0,none⟩) "Makers").run Tryz.prog w=.ok (fn,.pointer<|some ⟨eb,0,none⟩) w)/\(∀(args:Array Value)(w:World),(callFunc fn args).run Tryz.prog w=.ok (.enter fn args) w)/\∀{w:World}{cnt:Nat}{mks:In.Mks}{s:In.St}{Γ:In.Env}{t:Pu.Tok}{vs:List Pu.Tok}{ms:List Nd}{f x:Int}{vv vm:Value},S w cnt mks s Γ->RowV QName 3 w (·<lo) vs vv->RowV QMaker 6 w (·<lo) ms vm->TdF t vs ms->
  Cq fn #[Pv eb,.agg #[Iv f,Iv x,Nv t.aF,Nv t.to,.string t.text,vv,vm]] w (λe w'=>e=.returned (.tuple #[])/\KpI lo base w w'/\S w' cnt (In.oQ t vs ms mks) s Γ)
 lts:∃fn,(∀w,(method 567 ty (.pointer<|some ⟨eb,0,none⟩) "Let").run Tryz.prog w=.ok (fn,.pointer<|some ⟨eb,0,none⟩) w)/\(∀(args:Array Value)(w:World),(callFunc fn args).run Tryz.prog w=.ok (.enter fn args) w)/\∀{w:World}{cnt:Nat}{mks:In.Mks}{s:In.St}{Γ:In.Env}{rc:Bool}{st:BA}{x:Nd}{v:Value}{a y:Nat}{dom:BA->Prop},S w cnt mks s Γ->PE w (·<lo) x v->ScE mks nl (fun v=>dom v\/(rc=true/\v=st)) x->(∀x,dom x->Γ x≠none)->st∈nl->cnt+1000*(1+nn x)<=850000->1+nn x<=805->MkFine mks->
  Cq fn #[Pv eb,.agg #[.bool rc,Nv a,Nv y,.string st,v]] w (agP S lo base rs cnt mks s Γ rc st a y x w)
end
section
variable {len cap:Nat} {p:Option Addr} {r:Nat->Int}
def agZ:List Value:=[.string ⟨#[120]⟩,.string ⟨#[121]⟩,.string ⟨#[122]⟩]
def tX(n:Nat):UInt8:=if n=0 then 120 else if n=1 then 121 else 122
def On n:Ch (tX n):=by
 rw[tX];split
 .decide
 .split
  .decide
  .decide
def ag0{w}(h:Bx w b agZ.toArray)n(hn:n<3):w.cell? ⟨b,n,none⟩=some (.string<|bY<|tX n):=by
 rw[h.c n];have hc:n=0\/n=1\/n=2:=ae;obtain rfl|rfl|rfl:=hc<;>rfl
def PrR xb p len cap r w g(s nm c:Value)wr:=
 ∃(n:Nat)(l:List UInt8)(L:List UInt8)(A:Nat),g=3-n/\n<=3/\s=.string (bs l)/\c=Nv n/\MQ L l/\kC wr (w.heap.size+1) nm (Fx L)/\L.length=n/\(∀c∈L,Ch c)/\Src wr xb p len cap r A/\Bx wr w.heap.size agZ.toArray/\Ke xb w wr/\w.heap.size+1<=wr.heap.size
def afy xb p len cap r w(e:Ending)w':=∃n l L,(1<=n/\n<=3)/\L.length=n/\e=.returned (.string<|bs l)/\MQ L l/\tD xb p len cap r w w'
def Bx.ke2{w}{rb}(h:Bx w b C)(hk:Ke rb w w')(hn:b≠rb):Bx w' b C:=h.same hk.size<|hk.block b h.z hn
def Ke.grow{xb}{a b c}(h:Ke xb a b)(g:b.grownBy c row)(hr:∀k,row=some k->a.heap.size<=k):Ke xb a c:=
 ⟨g.os.trans h.os,g.tape.trans h.tape,g.output.trans h.output,Nat.le_trans h.size g.size,λk hk hn=>(g.block k (Nat.lt_of_lt_of_le hk h.size) (λe=>by have:=hr k e.symm;omega)).trans<|h.block k hk hn⟩
def Bx.grow{w}(h:Bx w b C)(g:w.grownBy w' row)(hr:∀k,row=some k->b<k):Bx w' b C:=h.same g.size (g.block b h.z (λe=>by have:=hr b e.symm;omega))
def Ri{p:Prop}(h:p:=by
 obtain y|y:=List.mem_append.1 hx
 .exact HN x y
 .rw[List.mem_singleton.1 y];exact On n):p:=h
def adr{A}(hS:Src w xb p len cap r A):Cq 5 #[Pv xb] w (afy xb p len cap r w):=by
 have hxz:=hS.b.z;have⟨bP,HB0⟩:=oF w agZ.toArray 9;have HS0:=hS.af bP;have HK0:=Ke.of (rb:=xb) bP;go_enter func5,ntmps5
 go_wp2
 go_loopg[3,5,6] 3 (λg s nm c wr=>PrR xb p len cap r w g s nm c wr)
 case atStart=>exact⟨0,oq,[],A,rfl,ae,rfl,rfl,MQ.zero,World.ownsRow_nil _ _ _ _,rfl,ag,HS0,HB0,HK0,ag⟩
 case round=>
  obtain⟨n,l,L,A1,rfl,hn,rfl,rfl,HM,HO,hL,HN,hs,HB,HK,hz⟩:=hrel;have HC:=qC hs 3 ae ae;have JT:=HM.len;go_wp2_with fail;refine HC.mono ?_;rintro e w2⟨q,rfl,q0,q1,A2,QL,Na⟩;have sQ:u5.ownBlock≠some xb:=λe=>by have:=fq HO xb e;omega
  have Yx:=HK.trans Na;have Jj:=Fy HO Na sQ;have du:=HB.ke2 Na ae;have z2:=Na.size;by_cases hq:(n:Int)<=q
  .have hn3:(n:Int)<3:=ae;have alS:n<3:=ae;have HE:=YA 3 ae w2 A2 u5 L QL ⟨⟨_,Jj⟩,sQ,HN⟩ ae;go_wp2_with fail;refine HE.mono ?_;rintro e w3⟨m,rfl,hm,A3,Rj,sJ⟩;have hmz:(bs m).size<=312:=by rw[cq];exact hm.2
   have hlz:=cq l;have HME:=ai hm.1;have HK3:=Yx.trans sJ;have HO3:=Fy Jj sJ sQ;have oP:=du.ke2 sJ ae;have z3:=sJ.size;have hc3:=ag0 oP n alS;have h1z:=QK<|tX n;by_cases ajB:(330:Int)<((bs l).size:Int)+((bs m).size:Int)
   .go_wp2_with(at_builtin;refine lS rfl (.tmp 39) (.tmp 44) rfl rfl (HO3.agC _) rfl (kC.new w3 [Sv<|bY<|tX n] 0 (Nat.zero_le _) ag 1 rfl) qAn (by simp[Fx];omega) bD ?_;intro v4 w4 o4 g4);have hr4:=fq HO3;have k4:=(HK3.alloc<|Cv #[Sv<|bY<|tX n] 9).grow g4<|λk e=>qBt;have s4:=hS.ke k4 ((Rj.b.alloc<|Cv #[Sv<|bY<|tX n] 9).grow g4<|λk e=>qBt) Rj.a;have b4:=(oP.alloc<|Cv #[Sv<|bY<|tX n] 9).grow g4<|λk e=>qBt;have z4:=g4.size;rw[Aa]at o4;go_roundg(3-(n+1))
    case rel=>
     refine⟨n+1,_,L++[tX n],A3,rfl,ae,?_,i_,HM.next (On n) nk.one<|jh rfl,o4,by simp[hL],λx hx=>?_,s4,b4,k4,by simp at z4;omega⟩
     .simp only[jJ,<-df];rfl
     .exact Ri
    case measure=>omega
   .go_wp2_with(at_builtin;refine lS rfl (.tmp 39) (.tmp 44) rfl rfl (HO3.agC _) rfl (kC.new w3 [Sv<|bY<|tX n] 0 (Nat.zero_le _) ag 1 rfl) qAn (by simp[Fx];omega) bD ?_;intro v4 w4 o4 g4);have hr4:=fq HO3;have k4:=(HK3.alloc<|Cv #[Sv<|bY<|tX n] 9).grow g4<|λk e=>qBt;have s4:=hS.ke k4 ((Rj.b.alloc<|Cv #[Sv<|bY<|tX n] 9).grow g4<|λk e=>qBt) Rj.a;have b4:=(oP.alloc<|Cv #[Sv<|bY<|tX n] 9).grow g4<|λk e=>qBt;have z4:=g4.size;rw[Aa]at o4;go_roundg(3-(n+1))
    case rel=>
     refine⟨n+1,_,L++[tX n],A3,rfl,ae,?_,i_,HM.next (On n) HME<|jf (by rw[cq]at ajB hlz;rw[cq]at ajB;omega),o4,by simp[hL],λx hx=>?_,s4,b4,k4,by simp at z4;omega⟩
     .simp only[jJ,<-df];rfl
     .exact Ri
    case measure=>omega
  .have hq':decide ((n:Int)<=q)=false:=by simpa using hq
   go_wp2
   go_ret;exact⟨n,l,L,⟨ae,hn⟩,hL,rfl,HM,A2,QL,Yx⟩
end
section
open Go.ChangeMaps
def Oo{ds}{str}{dV oD}{vr}{ly}{ty V}{F}{h}(ho:Un.Of str vr (λn=>n∈ds) ty)(ha:a∈ds)(hb:b∈ds)(hj:JR str (λ_=>none) dV a b true)(he:iQ str dV oD){lv}(G:GL w ds str oD vr ly lv)(hF:Un.Fin str oD vr F V)(hFD:∀x,F x->x∈ds)(hh:Hd dV a h)(Vc:F h):Mgu (ty a) (ty b) (V h):=by
 have⟨y1,y2,y3⟩:=hj.yes rfl;refine agR ho ha hb (λW hW e=>(he.lj W).2<|(y1 W).2 ⟨hW,e⟩) (he.mY _<|y2 _<|sP.start str []) (λn m e=>?_) (λE q=>y3 [] E<|he.eqs [] E q) hF hFD (he.kK _ _ hh) Vc;by_cases q:n∈ds
 .exact G.hd n q
 .rw[(G.out n q).1]at e;cases e
section
variable {A B:Ty} {va vb:Value}
def Zn(hA:dD w Q A va)(hB:dD w Q B vb)(wA:Wf A)(wB:Wf B)(sA:size A<=48)(sB:size B<=48):Cq 21 #[va,vb] w (aln A B w):=by
 have⟨bP,B0⟩:=oF w zF 31;have z0:(w.alloc<|Cv zF 31).heap.size=w.heap.size+1:=Array.size_push ..;have HA:=ai hA.low;have HB:=ai hB.low;obtain⟨ta,xa,rfl⟩:=hA.iface;obtain⟨tb,xb,rfl⟩:=hB.iface;go_enter func21,ntmps21;go_wp2_with fail;refine JU.mono ?_;rintro e w1⟨kb,mb,rfl,N1,bZ,rC⟩;have dA:=bP.trans<|bZ.mono bP.size;have B1:=B0.below bZ;rw[z0]at rC;have HC:=Zo A w1 kb mb Ns.none _ _ N1 (HA.af dA) (λb p=>by have:=p.2;omega) ae wA;go_wp2_with fail;refine HC.mono ?_;rintro e w2⟨na,G2,rfl,N2,L2,DW,hta,F2,x2⟩;have du:=Fr.ph dA dA.size F2 (λx q=>by have q:x=mb:=q;omega);have B2:=B1.fr F2 (λq=>by have q:w.heap.size=mb:=q;omega);have MW:=Zo B w2 kb mb G2 _ _ N2 (HB.af du) (λb p=>by have:=p.2;omega) ae wB;go_wp2_with fail;refine MW.mono ?_;rintro e w3⟨nb,G3,rfl,N3,L3,sQ,htb,F3,x3⟩;have oP:=Fr.ph du du.size F3 (λx q=>by have q:x=mb:=q;omega);have B3:=B2.fr F3 (λq=>by have q:w.heap.size=mb:=q;omega);have⟨ads,adt⟩:=L3 na DW;rw[hta]at adt;have GL3:GL w3 G3.ds G3.str (λ_=>none) G3.vr G3.ly (λ_=>0):=⟨N3.gn.nd,N3.gn.out,N3.gn.hd⟩;have HJ:=Oq (hc (λ_=>none) G3.ds) w3 (λ_=>none) _ GL3 (br _) na nb ads sQ;have lY:∀x∈G3.ds,w.heap.size<x:=λx hx=>by
  obtain⟨q,_⟩|⟨q,_⟩:=x3 x hx
  .obtain⟨q,_⟩|⟨q,_⟩:=x2 x q
   .simp[Ns.none]at q
   .have:=B1.z;omega
  .have:=B2.z;omega
 have hof:=N3.of;have hwf:=N3.wf;go_wp2_with fail;refine HJ.mono ?_;rintro e w4⟨ok,As,lv4,rfl,G4,F4,z4,hc4,J4,_⟩;have Ci:=ju oP oP.size F4 (λx q=>by have:=lY x q;omega);have B4:=B3.fr F4 (λq=>by have:=lY _ q;omega)
 cases ok with
 |false=>
  have B5:=B4.fW rfl (Iv 0) (Iv 0) (Iv 0);obtain⟨c4,f4,z4⟩:=B4;go_wp2_with fail;obtain⟨c9,f9,z9⟩:=B5;refine bodyPost_ret (v:=.tuple #[Sv<|bs [],.bool false,oC dw]) (by simp[results,Tryz.results21,go_sem,oC,c9,bs,dw]) rfl ?_;exact⟨[],false,dw,rfl,(((Ci.setCell (br _) _).setCell (br _) _).setCell (br _) _),jh ⟨λσ=>by have:=Zp hof J4 σ;rwa[adt,htb]at this,rfl,rfl,rfl⟩⟩
 |true=>
  have HS:=pj G4 ads;go_wp2_with fail;refine HS.mono ?_;rintro e w5⟨Ot,G5,E5,F5,⟨F,V,h,rfl,hd,hF,ag1,hFD⟩|⟨rfl,mX⟩⟩
  .have Zq:=ju Ci Ci.size F5 (λx q=>by have:=lY x q;omega);have B5:=B4.fr F5 (λq=>by have:=lY _ q;omega);have HM:=Oo hof ads sQ J4 E5 G5 ag1 hFD hd hF;rw[adt,htb]at HM;have hwV:=Fin.wf ag1 hof hwf _ h (br _) hF;obtain⟨s2,rY⟩:∃s2:Nat,Hid<|s2=min (size<|V h) 49:=⟨_,ai rfl⟩;rw[<-uh rY];by_cases Ux:48<s2
   .have hbg:(48:Int)<(s2:Int):=ae;have B6:=B5.fW rfl (Iv 7) (Iv 0) (Iv 0);obtain⟨c5,f5,z5⟩:=B5;go_wp2_with fail;obtain⟨c9,f9,z9⟩:=B6;refine bodyPost_ret (v:=.tuple #[Sv<|bs [],.bool false,oC ⟨7,0,0⟩]) (by simp[results,Tryz.results21,go_sem,oC,c9,bs,dw]) rfl ?_;exact⟨[],false,⟨7,0,0⟩,rfl,(((Zq.setCell (br _) _).setCell (br _) _).setCell (br _) _),jf ⟨V h,HM,jf ⟨by have:=uh rY;omega,rfl,rfl,rfl⟩⟩⟩
   .have hbg:decide ((48:Int)<(s2:Int))=false:=bD;go_wp2_with fail;refine yM.mono ?_;rintro e w6⟨cb,Iy,mb',rfl,C6,N6,hm6,Ix,hb6⟩;have alT:∀x∈G3.ds,x<w5.heap.size:=λx hx=>(G5.nd x hx).lt;have G6:=G5.move hb6.size<|λb i v hc=>hb6.block b<|fy hc;have HB6:=Zq.trans<|hb6.mono Zq.size;have B6:=B5.below hb6;have hT:=Ga (size<|V h) w6 Ot na h G6 ag1 ads (E5.kK _ _ hd) hF<|br _;have hcd:¬cb∈G3.ds:=λq=>by
     have h1:=(G6.nd cb q).cells.1;have h2:=C6.c 0;rw[h2]at h1
     cases hq:Ot cb<;>simp[hq,nP]at h1
    go_wp2_with fail;refine hT.mono ?_;rintro e w7⟨u,nx7,rfl,hU,G7,E7,F7⟩;obtain⟨tu,xu,rfl⟩:=hU.iface;have HB7:=ju HB6 HB6.size F7 (λx q=>by have:=lY x q;omega);have B7:=B6.fr F7 (λq=>by have:=lY _ q;omega);have C7:=C6.fr F7 hcd;have pW:¬Iy∈G3.ds:=λq=>by
     have h1:=(G6.nd Iy q).cells.1;have h2:=N6.bk.c 0;rw[h2]at h1
     cases hq:Ot Iy<;>simp[hq,nP]at h1
    have N7:=N6.fr F7 pW (λq=>by have:=alT _ q;omega);have zm:=N6.lt;have hvs:=e_ (V h) [];have alU:size (V h)<=48:=by have:=uh rY;omega
    have HW:=tY NZ hU (λb p=>by have p:w6.heap.size<=b:=p;have:=N6.mp.lt;omega) N7 C7 Ix hwV alU (by simp at hvs;omega);go_wp2_with fail;refine HW.mono ?_;rintro e w8⟨rfl,N8,F8⟩;have HB8:=ju HB7 HB7.size F8 (λx q=>by subst q;have:=Zq.size;omega);have B8:=B7.fr F8 (by show ¬w.heap.size=mb';have:=B5.z;omega);have B9:=B8.fW rfl (Iv 0) (Iv 0) (Iv 0);obtain⟨c8,f8,z8⟩:=B8;go_wp2_with fail;obtain⟨c9,f9,z9⟩:=B9;refine bodyPost_ret (v:=.tuple #[Sv<|bs<|Un.written dec<|V h,.bool true,oC dw]) (by simp[results,Tryz.results21,go_sem,oC,c9,dw,Un.written]) rfl ?_;exact⟨Un.written dec<|V h,true,dw,rfl,(((HB8.setCell (br _) _).setCell (br _) _).setCell (br _) _),jf ⟨V h,HM,jh ⟨ae,rfl,rfl,rfl⟩⟩⟩
  .have Zq:=ju Ci Ci.size F5 (λx q=>by have:=lY x q;omega);have B5:=B4.fr F5 (λq=>by have:=lY _ q;omega);have B6:=B5.fW rfl (Iv 0) (Iv 0) (Iv 0);obtain⟨c5,f5,z5⟩:=B5;go_wp2_with fail;obtain⟨c9,f9,z9⟩:=B6;refine bodyPost_ret (v:=.tuple #[Sv<|bs [],.bool false,oC dw]) (by simp[results,Tryz.results21,go_sem,oC,c9,bs,dw]) rfl ?_;exact⟨[],false,dw,rfl,(((Zq.setCell (br _) _).setCell (br _) _).setCell (br _) _),jh ⟨λσ=>by have:=ag2 hof J4 mX σ;rwa[adt,htb]at this,rfl,rfl,rfl⟩⟩
end
end
end Go.Proofs.YtlnlhlefeokfjaaGreatDoor

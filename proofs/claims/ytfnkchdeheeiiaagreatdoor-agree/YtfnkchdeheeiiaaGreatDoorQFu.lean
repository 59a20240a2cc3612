import Derived.Test.YtfnkchdeheeiiaaGreatDoorQFd
import Derived.Test.YtfnkchdeheeiiaaGreatDoorQKa
import Derived.Test.YtfnkchdeheeiiaaGreatDoorQXz
set_option linter.all false
set_option maxRecDepth 100000
set_option maxHeartbeats 4000000
namespace Go.Proofs.YtfnkchdeheeiiaaGreatDoor
open _root_.List renaming setIfInBounds_toArray->ja,set_cons_zero->jc,set_cons_succ->jd,map_cons->jf
open Or renaming inr->jh,inl->ji
open Go.World renaming cell?_of_block->jj
open Un.Ty renaming var->jk
open Go.Act renaming put->jl
open Go.Proofs.Tryz renaming results310->jm,prog->jo
open Go.RowKit.Below renaming refl->jp
open In renaming dS->jq,cJ->jt,sw->ju,oF->jv
open Ne renaming symm->jx
open And renaming intro->jy
open Go Go.RowKit Proofs.Tryz
variable {dom:BA->Prop} {o:Except In.Ft (Un.Ty×In.St)} {fn:Func} {Γ:In.Env} {mk:In.Mks} {s:In.St} {L:List (BA×BA)} {a:Nat} {Q u:Nat->Prop} {P:Program} {v:Value} {c:WC} {w:World}
section
open Go.ChangeMaps Go.MapKept Un
section
variable {W:World} {cnt:Nat} {kb gb:Nat} {Λ:Nat->Prop} {nd:Nd}
def Cu.self(h:Cu nd c w cnt s kb Λ Γ gb Q dom v)(hb:Bq w W):Cu nd c W cnt s kb Λ Γ gb Q dom v:=h.part hb h.pe h.sc<|br _
def l_ mk k s n f t a Γ K(h:(k=3/\K=ry)\/(k=4/\K=kv)\/(k=5/\K=iZ)):In.inf mk (.mk k s n [] f t a) Γ=In.cU (.aK K []):=by
 obtain⟨rfl,rfl⟩|⟨rfl,rfl⟩|⟨rfl,rfl⟩:=h<;>simp[In.inf,In.kh]
def ik k s n f t a:nn (.mk k s n [] f t a)=1:=qBi
end
def XT:∀(k:Nat)(nd:Nd),nn nd<=k->Bj nd:=by
 intro k
 induction k with
 |zero=>intro nd h;cases nd;simp only[nn]at h;omega|succ k ih=>
  intro nd hk c w cnt s kb Λ Γ gb Q dom v h;have hp:=h.pe
  cases hp with
  |low st n f t a hs=>exact XI h|up st n f t a hs=>exact acQ h|num st n f t a=>
   rw[l_ c.mks 3 st n f t a Γ ry<|ji ⟨rfl,rfl⟩,ik];exact(Xy h.we h.wk ae).1 _
  |word st n f t a hs=>
   rw[l_ c.mks 4 st n f t a Γ kv<|jh<|ji ⟨rfl,rfl⟩,ik];exact(Xy h.we h.wk ae).2.1 _
  |unit st n f t a=>
   rw[l_ c.mks 5 st n f t a Γ iZ<|jh<|jh ⟨rfl,rfl⟩,ik];exact(Xy h.we h.wk ae).2.2
  |pr st n x y f t a vx vy hx hy=>
   have gY:nn x<=k/\nn y<=k:=Cz;obtain⟨tx,ax,rfl⟩:=hx.iface;obtain⟨ty,ay,rfl⟩:=hy.iface;exact Ic.1 λW hb=>acR (ih x gY.1) (ih y gY.2) (h.self hb) (hx.af hb)<|hy.af hb
  |of st n x y f t a vx vy hx hy=>
   have gY:nn x<=k/\nn y<=k:=Cz;obtain⟨tx,ax,rfl⟩:=hx.iface;obtain⟨ty,ay,rfl⟩:=hy.bQ;exact Ic.2.1 λW hb=>XU (ih x gY.1) (h.self hb) (hx.af hb)<|hy.af hb
  |op st n x y f t a vx vy hs hx hy=>
   have gY:nn x<=k/\nn y<=k:=Cz;obtain⟨tx,ax,rfl⟩:=hx.iface;obtain⟨ty,ay,rfl⟩:=hy.iface;exact Ic.2.2.2.2.2.2.2 λW hb=>TH (ih x gY.1) (ih y gY.2) (h.self hb) (hx.af hb) (hy.af hb) hs
  |call st n x y f t a vx vy hx hy=>
   have gY:nn x<=k/\nn y<=k:=Cz;obtain⟨tx,ax,rfl⟩:=hx.iface;obtain⟨ty,ay,rfl⟩:=hy.iface;exact Ic.2.2.1 λW hb=>acS (ih x gY.1) (ih y gY.2) (h.self hb) (hx.af hb)<|hy.af hb
  |fn st n x f t a y vx hs hy hx=>
   have gY:nn x<=k:=Cz;obtain⟨tx,ax,rfl⟩:=hx.iface;exact Ic.2.2.2.1 λW hb=>aiU (ih x gY) (h.self hb)<|hx.af hb
  |lt K st n x z f t a y vx vz hc hs hy hx hz=>
   have gY:nn x<=k/\nn z<=k:=Cz;obtain⟨tx,ax,rfl⟩:=hx.iface;obtain⟨tz,az,rfl⟩:=hz.iface;have hK:K=if(K==11)=true then 11 else 10:=xC;exact Ic.2.2.2.2.1 λW hb=>agc (rc:=K==11) hK (ih x gY.1) (ih z gY.2) (h.self hb) (hx.af hb)<|hz.af hb
  |ite st n x y z f t a vx vy vz hx hy hz=>
   have gY:nn x<=k/\nn y<=k/\nn z<=k:=Cz;obtain⟨tx,ax,rfl⟩:=hx.iface;obtain⟨ty,ay,rfl⟩:=hy.iface;obtain⟨tz,az,rfl⟩:=hz.iface;exact Ic.2.2.2.2.2.1 λW hb=>TK (ih x gY.1) (ih y gY.2.1) (ih z gY.2.2) (h.self hb) (hx.af hb) (hy.af hb)<|hz.af hb
  |mt st n x A f t a vx g sc vp ve h0 hg hz hc hx hp he=>
   have gY:nn x<=k/\ck (aU A)<=k:=Cz;obtain⟨tx,ax,rfl⟩:=hx.iface
   exact Ic.2.2.2.2.2.2.1 λW hb=>agd (ih x gY.1) (λi hi=>ih _ (by have:=sE A i hi;omega)) (h.self hb) hg (Nat.lt_of_lt_of_le hz hb.size) (λi hi=>by
    have me:∀o,W.cell? ⟨g,o,none⟩=w.cell? ⟨g,o,none⟩:=λo=>jj (a:=⟨g,o,none⟩)<|hb.block g hz;simp only[me]
    exact hc i hi) (hx.af hb) (λi hi=>(hp i hi).af hb) (λi hi=>(he i hi).af hb)
def acT nd:Bj nd:=XT _ nd<|br _
def Iq{P:Program}(h4:fn.results=#[.tmp 4,.cell 5 146])(T:Array Value)(i:Nat)(v:Value)(h:i≠4/\i≠5):results fn (T.setIfInBounds i v)=results fn T:=by
 have e:∀j,j≠i->(T.setIfInBounds i v).getD j undef=T.getD j undef:=λj hj=>by
  simp only[Array.getD_eq_getD_getElem?,Array.getElem?_setIfInBounds_ne<|jx hj]
 unfold results;rw[h4];simp only[Array.mapM_eq_mapM_toList,List.mapM_cons,List.mapM_nil,e 4<|jx h.1,e 5<|jx h.2]
def MD(h4:fn.results=#[.tmp 4,.cell 5 146])T i v(h:i≠4/\i≠5)R:∀(ds:List Deferred)(u:FrameMode)(w:World),Leaves P fn (T.setIfInBounds i v) R ds u w->Leaves P fn T R ds u w:=by
 intro ds
 induction ds with
 |nil=>
  intro u w q
  cases u with
  |returning=>simp only[Leaves]at q⊢;rw[Iq (P:=P) h4 T i v h]at q;exact q|panicking c=>exact q|run=>exact q
 |cons d ds ih=>
  intro u w q;simp only[Leaves]at q⊢;obtain⟨q1,fv,cap,f,args,q2,q3,q4⟩:=q;refine⟨q1,fv,cap,f,args,q2,q3,q4.mono ?_⟩;intro e u' w' hq
  cases e with
  |returned v=>exact ih _ _ hq|panicked c=>exact ih _ _ hq|outgrown=>exact hq
def TL(h4:fn.results=#[.tmp 4,.cell 5 146]){K}{R}{i}(h:i≠4/\i≠5)v c a w(q:(Exit.then K<|bodyPostD P fn R) (.panic c) (a.put (some i) v) w):(Exit.then K<|bodyPostD P fn R) (.panic c) a w:=MD h4 a.tmps i v h R a.defers _ w q
section
variable {cnt:Nat}
def oG{ops}{Q}{md}{S}{oi}{fuel}{listed}{a}{w}i(h:wpAnyH P md ops Q S fuel (listed.setIfInBounds i true) (a.put oi.dst v) w)(hi:ops[i]? =some oi:=by rfl)(hs:Region.noSelect ops=true:=by kernel_rfl)(hf:Region.free md ops listed i=true:=by kernel_rfl)(hr:(Region.ready md ops listed).contains i=true:=by kernel_rfl)(hy:YieldsIf P ops S oi v a:=by exact .inl ⟨by rfl,by intro w hSw;(try dsimp only at hSw);go_simp;try with_reducible rfl⟩)(hQ:∀c a w,Q (.panic c) (a.put oi.dst v) w->Q (.panic c) a w:=by exact λc a w q=>TL akR aH _ c a w q)(hS:S w:=by assumption):wpAnyH P md ops Q S (fuel+1) listed a w:=wpAnyH_take hi hs hf hr hQ hy hS h
def Pm{p:Prop}(h:p:=by
 go_wp2_with fail;have nm:=NM5.below KW;have fb:=FB5.below KW;have we:=WE5.af KW;have env:=akS.af KW;have tt:de wz (λi=>i≠c.cb/\i≠c.eb/\i≠w.heap.size+1) T (Fv tz xz):=((TZ.not (we.bx.c 0) ag).not (fb.c 0) ag).wide λi p=>⟨p.1.1,p.1.2,p.2⟩;have HVA:Hid (∀W':World,Bq wz W'->Cq 320 #[Fv tz xz] W' (λe w'=>∃sa sc,e=Rv (Lv sa (vars [] T).length sc)/\rq w' (λi=>i≠c.cb/\i≠c.eb/\i≠w.heap.size+1) sa (vars [] T)/\Bq W' w')):=ai λW' hb=>by
  refine(fE (tt.af hb) ae).mono ?_;rintro e w'⟨V,rfl,ho,k⟩;obtain⟨sa,sc,rfl,hr⟩:=Ii ho;exact⟨sa,sc,rfl,hr.move (br _) (λ_ _ _=>rfl) (λi p _=>by have:=hb.size;have:=KW.size;have:=FB5.z;omega),k⟩
 have HWI:Hid (∀(W':World)(sa:Option Addr)(sc:Nat),Bq wz W'->rq W' (λi=>i≠c.cb/\i≠c.eb/\i≠w.heap.size+1) sa (vars [] T)->Cq 319 #[Mv c.nb,Sv st,Av #[Fv tz xz,Lv sa (vars [] T).length sc]] W' (pO (λi=>i≠c.cb/\i≠c.eb/\i≠w.heap.size+1) (jt Γ st ⟨T,vars [] T⟩) W')):=ai λW' sa sc hb hr=>xT (env.af hb) st ⟨tz,xz,sa,sc,rfl,TW.of (tt.af hb) hTw<|show size T<=_ by omega,hr⟩;have f0:wz.cell? ⟨c.eb,3,none⟩=some (Mv c.nb):=we.bx.c 3;have f1:wz.cell? ⟨w.heap.size,3,none⟩=some (Sv st):=nm.c 3;have NM:=ai nm;have FB:=ai fb;have WEW:=ai we;have TT:=ai tt;clear nm fb we env tt;refine wp_region_noPanic ?_
 go_region_with(first
  |(go_at_call 320;go_loud(refine(HVA _ (jp _ _).drew).mono ?_);rintro e w6⟨sa,sc,rfl,hr6,k6⟩;have k6':=(jp _ _).drew.trans k6;have g0:w6.cell? ⟨c.eb,3,none⟩=some (Mv c.nb):=(WEW.af k6').bx.c 3;have g1:w6.cell? ⟨w.heap.size,3,none⟩=some (Sv st):=(NM.below k6').c 3;have K6:=ai k6';have R6:=ai hr6;clear k6 k6' hr6)
  |(go_at_call 319;go_loud(refine(HWI _ _ _ K6 R6).mono ?_);rintro e w7⟨b7,rfl,z7,h7,k7⟩;have k7':=K6.trans<|k7.mono K6.size;have g2:w7.cell? ⟨c.eb,3,none⟩=some (Mv c.nb):=(WEW.af k7').bx.c 3;have g3:w7.cell? ⟨w.heap.size,3,none⟩=some (Sv st):=(NM.below k7').c 3;have g4:w7.frozen? ⟨c.eb,3,none⟩=false:=(WEW.af k7').bx.f 3;have K7:=ai k7';have E7:=ai h7;have Z7:=ai z7;clear k7 k7' h7 z7))
 all_goals(
  refine NoPanic.normal ?_;have fb7:=FB.below K7;have FB7:=ai fb7;obtain⟨y1,y2,y3⟩:=fb7;go_wp2_with fail;have z7:=uh Z7;have z6:=K6.size;have zw:=FB.z;have l5:=HA.wt.we.l.2.2.2.2;have F8:=(FB7.bV (b2:=c.eb) ae 3<|Mv b7).Pn rfl (Iv 0) (Iv 0) (Iv 0) Zv .nilIface;have we7:=WEW.af K7;have E8:=(((((we7.bx.aP 3 (Mv b7) (af0 {c with nb:=b7}) rfl ag).bV (b2:=w.heap.size+1) ae 0 (Iv 0)).bV (b2:=w.heap.size+1) ae 1 (Iv 0)).bV (b2:=w.heap.size+1) ae 2 (Iv 0)).bV (b2:=w.heap.size+1) ae 3 Zv).bV (b2:=w.heap.size+1) ae 4 .nilIface;have G8:=((((((Fr.refl (λi=>i=c.eb\/i=w.heap.size+1) w7).set (b:=c.eb) (ji<|ji rfl) 3<|Mv b7).set (b:=w.heap.size+1) (ji<|jh rfl) 0<|Iv 0).set (b:=w.heap.size+1) (ji<|jh rfl) 1<|Iv 0).set (b:=w.heap.size+1) (ji<|jh rfl) 2<|Iv 0).set (b:=w.heap.size+1) (ji<|jh rfl) 3 Zv).set (b:=w.heap.size+1) (ji<|jh rfl) 4 .nilIface;refine leaves_cons (f:=312) (args:=#[Pv<|w.heap.size+1]) ag qBb ?_;refine(acU<|w.heap.size+1).mono ?_;rintro e u' w9⟨rfl,rfl,rfl⟩;obtain⟨c9,_,_⟩:=F8;simp[Leaves,settle,results,jm,go_sem,c9];have k7:=uh K7;have FW:=akT.trans<|Fr.of KW
  refine⟨((FW.fX λ_ r=>ji r).trans<|Fr.of k7).gZ G8<|λi r=>r.elim (λr=>ji<|jh r)<|λr=>jh ae,.ok (T1,s1),Q2.m,jh ⟨hs,T,tz,xz,al,b7,HVT,rfl,(TT.af k7).move G8.size (λb p z=>G8.block b z<|λr=>r.elim p.2.1 p.2.2)<|λb p _=>p.1,hTw,ae,?_⟩⟩
  exact⟨we7.put (G8.fX λi r=>r.imp id λr=>ae) E8,E7.move G8.size (G8.block _ E7.lt ae) (λb p z=>G8.block b z<|λr=>r.elim p.2.1 p.2.2)<|λb p _=>⟨p.1,p.2.1⟩,⟨by show b7≠c.cb;omega,by show b7≠c.eb;omega⟩,us2,TOP T HVT,DM _⟩)):p:=h
def age{rc}{st}{y}{x}(h:LtA rc st x c w cnt u Γ Q dom v):
 Cq 310 #[Pv c.eb,.agg #[.bool rc,Nv a,Nv y,.string st,v]] w (XV c cnt u Γ rc st a y x w):=by
 obtain⟨tx,ax,rfl⟩:=h.pe.iface;have jB:= @run_makeMap jo;obtain⟨w0,xD⟩:∃w0,w0=(w.alloc<|Cv #[.bool rc,Nv a,Nv y,Sv st,Fv tx<|Av ax] 142).alloc (Cv L0 146):=⟨_,rfl⟩;have k0:Bq w w0:=by rw[xD];exact(bw _).alloc ag _
 have B0:Bx w0 w.heap.size #[.bool rc,Nv a,Nv y,Sv st,Fv tx<|Av ax]:=by rw[xD];exact(Bx.new w #[.bool rc,Nv a,Nv y,Sv st,Fv tx<|Av ax] 142).alloc (Cv L0 146)
 have XW:=h.wt.we.af k0;have f0:w0.cell? ⟨c.eb,3,none⟩=some (Mv c.nb):=XW.bx.c 3;have f1:w0.cell? ⟨w.heap.size,0,none⟩=some (.bool rc):=B0.c 0;have f2:=B0.c 1;have f3:=B0.c 2;have f4:=B0.c 3;have f5:=B0.c 4;have k1:Bq w0 (w0.alloc<|.map #[] 0).drew:=(bw _).drew;have we1:=XW.af k1;have BE:=B0.below k1;have K01:=k0.trans<|k1.mono k0.size;have zc:=h.wt.we.dx;have ze:=h.wt.we.bx.z;have zz0:w0.heap.size=w.heap.size+2:=by rw[xD];simp
 have BG:Bx (w0.alloc<|.map #[] 0).drew (w.heap.size+1) L0:=by
  have q:Bx w0 (w.heap.size+1) L0:=by
   rw[xD];have:=Bx.new (w.alloc<|Cv #[.bool rc,Nv a,Nv y,Sv st,Fv tx<|Av ax] 142) L0 146;simpa using this
  exact q.below k1
 have g0:=we1.bx.c 3;have g1:=BE.c 0;have g2:=BE.c 1;have g3:=BE.c 2;have g4:=BE.c 3;have g5:=BE.c 4;have GS:=jy g0<|jy g1<|jy g2<|jy g3<|jy g4 g5;have KE:KW (w0.alloc<|.map #[] 0).drew (dB c) w0.heap.size jk:=⟨λ_=>none,(fh.new w0<|dB c).af (jp _ _).drew,λn=>⟨λ_=>rfl,λq=>absurd rfl q⟩⟩;have WK1:WK (w0.alloc<|.map #[] 0).drew c cnt ⟨jk,u⟩ w0.heap.size:=⟨KE,ae,h.wt.hu,jv u,λn=>trivial⟩;have wg1:WG (w0.alloc<|.map #[] 0).drew c ⟨jk,u⟩ (λn=>¬u n) Γ c.nb:=⟨(h.wt.e.af K01).wide λi p=>p.1,h.wt.n.1,h.wt.top.env,λy d q=>by rw[(h.wt.top y d q).1];exact dG _ List.nodup_nil,h.wt.dm⟩;have HB:=Ip (a:=a) (y:=y) (acT x) (⟨we1,WK1,λn q=>q,wg1,h.pe.af K01,λb q=>(h.hq b q).1,h.sc,h.hd,h.ft,h.mf,h.jU⟩:BdA rc st x c _ cnt ⟨jk,u⟩ w0.heap.size (λn=>¬u n) Γ c.nb Q dom (Fv tx<|Av ax));rw[zz0]at HB;have HA:=ai h;clear k0 k1 XW we1 B0 KE WK1 wg1 g0 g1 g2 g3 g4 g5 h;have akR:Tryz.f310.results=#[.tmp 4,.cell 5 146]:=rfl
 go_enter_defers Tryz.func310,Tryz.ntmps310
 go_wp2_with fail;rw[<-xD];clear xD;refine wp_region_held_drew (S:=λw'=>w'.cell? ⟨c.eb,3,none⟩=some (Mv c.nb)/\w'.cell? ⟨w.heap.size,0,none⟩=some (.bool rc)/\w'.cell? ⟨w.heap.size,1,none⟩=some (Nv a)/\w'.cell? ⟨w.heap.size,2,none⟩=some (Nv y)/\w'.cell? ⟨w.heap.size,3,none⟩=some (Sv st)/\w'.cell? ⟨w.heap.size,4,none⟩=some (Fv tx<|Av ax)) qkr ⟨f0,f1,f2,f3,f4,f5⟩<|λhHeld=>?_;refine oG 0 ?_;try simp only[jl,ja,jc,jd]
 refine oG 2 ?_;try simp only[jl,ja,jc,jd]
 refine oG 3 ?_;try simp only[jl,ja,jc,jd]
 refine oG 4 ?_;try simp only[jl,ja,jc,jd]
 refine oG 5 ?_;try simp only[jl,ja,jc,jd]
 refine oG 6 ?_;try simp only[jl,ja,jc,jd]
 refine wpAnyH_ready (rs:=[1]) qkr ag ?_;refine AllReadyH.cons rfl (λK hK=>?_) AllReadyH.nil;go_simp;refine hK.out _ _ GS<|λagf=>?_;clear hK K hHeld f0 f1 f2 f3 f4 f5;refine wpAnyH_ready (rs:=[7]) qkr ag ?_;refine AllReadyH.cons rfl (λK hK=>?_) AllReadyH.nil;go_simp;refine HB.mono ?_;intro e w2 hp;clear HB agf GS;obtain⟨al,z,vl,vr,rfl,q⟩|⟨al,T1,s1,yI,yJ,iY,rfl,q⟩:=hp.split
 .clear hK;have F2:=BG.fr q.F ae;refine leaves_cons (f:=312) (args:=#[Pv<|w.heap.size+1]) ag qBb ?_;refine(CA (w.heap.size+1) F2 z.f vl vr q.f.hv).mono ?_;rintro e u' w9⟨rfl,rfl,hB,hF⟩;obtain⟨c9,_,_⟩:=hB;simp[Leaves,settle,results,jm,go_sem,c9];exact⟨(((Fr.of K01).trans<|q.F.fX λ_ r=>ji r)).gZ hF<|λi r=>jh ae,.error z,q.m,vl,vr,rfl,q.f.one (F2.c 0) ag hF⟩
 have h:=uh HA;have XX:=BE.fr q.F ae;refine hK.out _ _ ⟨q.we.bx.c 3,XX.c 0,XX.c 1,XX.c 2,XX.c 3,XX.c 4⟩<|λagh=>?_;clear hK K;refine oG 8 ?_;try simp only[jl,ja,jc,jd]
 refine oG 9 ?_;try simp only[jl,ja,jc,jd]
 refine oG 10 ?_;try simp only[jl,ja,jc,jd]
 refine oG 11 ?_;try simp only[jl,ja,jc,jd]
 refine oG 12 ?_;try simp only[jl,ja,jc,jd]
 refine wpAnyH_done qkr ?_ _;clear agh;have Tu:=BG.fr q.F ae;have⟨kp2,ti2⟩:=In.iF rc st x (In.l8 c.mks x) Γ ⟨jk,u⟩ (λn=>¬u n) (jv u) (λn r=>r) h.wt.top.env T1 s1 q.m;have c1:=q.c1;have c2:=q.c2;have WI:=h.ft.a;have ftb:=h.ft.b;have us2:∀n,s1.u n->us al n:=λn p=>by obtain r|r:=q.u n p;have:=h.wt.hu n r;unfold us at*;omega;rw[us];omega
 have wk2:WK w2 c al s1 iY:=⟨q.k,q.n,us2,kp2.ok,q.wh⟩;have hf:=wk2.D6 ae<|jh trivial;have HO:=uo wk2.k wk2.n hf ae q.t;have hcz:=q.t.Xl hf ae;have GW:=cr _ q.t.wh λn _=>q.wh n;have Q2:=ai q;have FF2:=((Fr.of K01).trans q.F);have zc2:=q.we.dx;have zq2:=Tu.z;clear hp q h wk2 hf BG BE;go_wp2_with fail;refine HO.mono ?_;rintro e w3⟨u3,rfl,hu3,K3⟩;clear HO;have HS:=pV _ w3 _ _ hu3 hcz;obtain⟨n1,LY⟩:∃n,n=sz (bK<|sub s1.k T1):=⟨_,rfl⟩;rw[<-LY]at HS;have E1:=Ed (sub s1.k T1) GW;rw[<-LY]at E1;obtain⟨t3,x3,rfl⟩:=hu3.iface;have U3:=hu3.wide (Q:=dB c) λi p=>by obtain p|p:=p;exact p;show i≠c.cb;omega
 clear hu3 LY;go_wp2_with fail;refine HS.mono ?_;rintro e w4⟨rfl,k4⟩;clear HS;have K4:=K3.trans<|k4.mono K3.size;have U4:=U3.af k4;clear k4 K3 U3;by_cases XG:48<n1
 .have hm:(48:Int)<(n1:Int):=ae;have HT:=mX (w:=w4) (a:Int) (y:Int);have⟨b1,b2,b3⟩:=XX.below K4;go_wp2_with fail;refine HT.mono ?_;rintro e w5⟨rfl,k5⟩;have k25:=K4.trans<|k5.mono K4.size;have F5:=Tu.below k25;clear HT b1 b2 b3;go_wp2_with fail;refine leaves_cons (f:=312) (args:=#[Pv<|w.heap.size+1]) ag qBb ?_;refine(CA (w.heap.size+1) F5 ⟨7,a,y⟩ Zv Zv<|ji ⟨rfl,rfl⟩).mono ?_;rintro e u' w9⟨rfl,rfl,hB,hF⟩;obtain⟨c9,_,_⟩:=hB;simp[Leaves,settle,results,jm,go_sem,c9];exact⟨(((FF2.fX λ_ r=>ji r).trans<|Fr.of k25)).gZ hF<|λi r=>jh ae,.ok (T1,s1),Q2.m,ji ⟨E1.1.1 XG,rfl⟩⟩
 have hm:¬(48:Int)<(n1:Int):=ae;have hs:size (sub s1.k T1)<=48:=by have:=E1.1;omega
 have Mt:=E1.2 hs;rw[Mt]at U4;clear Mt E1 hcz;have hwT:=GW;have h:=uh HA;have FF4:=FF2.trans<|Fr.of K4;have HV:=pT x w4 Q _<|h.pe.move FF4.size (λb p z=>FF4.block b z (h.hq b p).1)<|λ_ p _=>p;have⟨b1,b2,b3⟩:=XX.below K4;clear h FF4;go_wp2_with fail;refine HV.mono ?_;rintro e w5⟨rfl,k5⟩;have K5:=K4.trans<|k5.mono K4.size;have U5:=ai<|U4.af k5;clear HV k5 b1 b2 b3 U4 K4;have h:=uh HA;have FF5:=FF2.trans<|Fr.of K5;have we5:=Q2.we.af K5;have fb5:=Tu.below K5;have nm5:=XX.below K5;have nee:¬c.eb=w.heap.size:=ae;have neb:¬c.eb=w.heap.size+1:=ae;have aiV:bU w5 (λi=>i≠c.cb/\i≠c.eb/\i≠w.heap.size+1) c.nb Γ:=h.wt.e.move FF5.size (FF5.block _ h.wt.e.lt h.wt.n.1) (λb p z=>FF5.block b z p.1)<|λb p z=>⟨p.1,p.2,ae⟩;have TOP:∀T:Ty,T=(if ju x then sub s1.k T1 else jq (sub s1.k T1))->In.XY ⟨jk,s1.u⟩ (jt Γ st ⟨T,vars [] T⟩):=λT hT y d hd=>by
  rw[jt]at hd;split at hd
  .injection hd with hd;subst hd;refine⟨rfl,λv hv=>?_⟩;have hv:=In.aC.1 hv;rw[hT]at hv;split at hv
   .exact⟨(kp2.ok.nZ ti2.use hv).1,rfl⟩
   .have⟨m,_,o⟩:=(In.bR _).1 hv;simp[aA,bY]at o
  .exact⟨(h.wt.top y d hd).1,λv hv=>⟨kp2.run.mono v ((h.wt.top y d hd).2 v hv).1,rfl⟩⟩
 have DM:∀d z,jt Γ st d z≠none->z∈c.nl:=λd z hz=>by
  rw[jt]at hz;split at hz
  .rename_i e;rw[e];exact h.jU
  .exact h.wt.dm z hz
 have WE5:=ai we5;have FB5:=ai fb5;have NM5:=ai nm5;have akS:=ai aiV;have akT:=ai FF5;clear h FF5 we5 fb5 nm5 aiV XX Tu FF2 kp2 ti2 GW
 cases hV:ju x with
 |true=>
  have hnt:(Op.unary .not<|.bool true).run jo w5=.ok (.bool false) w5:=rfl;obtain⟨T,hT⟩:∃T,T=sub s1.k T1:=⟨_,rfl⟩;have HVT:Hid (T=if ju x=true then sub s1.k T1 else jq (sub s1.k T1)):=ai (by rw[hV,hT];rfl);obtain⟨tz,xz,hz⟩:∃tz xz,tz=t3/\xz=x3:=⟨_,_,rfl,rfl⟩;obtain⟨rfl,rfl⟩:=hz;have hTs:size T<=48:=by rw[hT];exact hs
  have hTw:Whole T:=by rw[hT];exact hwT
  have TZ:Hid (de w5 (dB c) T<|Fv tz xz):=by rw[hT];exact U5
  have KW:Hid (Bq w5 w5):=ai<|jp _ _;clear hV hT U5;obtain⟨wz,hz⟩:∃wz,wz=w5:=⟨_,rfl⟩;subst hz;exact Pm
 |false=>
  have hnt:(Op.unary .not<|.bool false).run jo w5=.ok (.bool true) w5:=rfl;have HCL:=CB U5 ae;obtain⟨T,hT⟩:∃T,T=jq (sub s1.k T1):=⟨_,rfl⟩;have HVT:Hid (T=if ju x=true then sub s1.k T1 else jq (sub s1.k T1)):=ai (by rw[hV,hT];rfl);have hTs:size T<=48:=by rw[hT,oH];exact hs
  have hTw:Whole T:=by rw[hT];exact cr _ hwT λn _=>yP
  rw[<-hT]at HCL;have zc5:=WE5.dx;clear hV hT U5;go_wp2_with fail;refine HCL.mono ?_;rintro e wz⟨uc,rfl,huc,kc⟩;clear HCL;obtain⟨tz,xz,rfl⟩:=huc.iface;have TZ:Hid (de wz (dB c) T<|Fv tz xz):=ai (huc.wide λi p=>by show i≠c.cb;have:w5.heap.size<=i:=p;omega);have KW:=ai kc;clear huc kc;exact Pm
end
def CC:Cq 94 #[] w λe w'=>e=.returned (Mv w.heap.size)/\ur w' w.heap.size/\Bq w w'/\w'.heap.size=w.heap.size+1:=by
 have jB:= @run_makeMap jo;have M0:=MG.new Value.string w;have k0:Bq w (w.alloc<|.map #[] 0):=bw _;have Z0:(w.alloc<|.map #[] 0).heap.size=w.heap.size+1:=by simp
 have K0:=ai k0;go_enter func94,ntmps94;go_wp2_with((refine cu Pb Im rfl _ _ _ (Or.inl rfl) rfl M0 _ _ rfl rfl ?_;clear M0;intro w' H' O';have M0:=ai H';have K1:=K0;have Z1:=Z0;clear K0 Z0;have K0:=ai (One.below K1 O'<|by exact br _);have Z0:=ai<|O'.size.trans Z1;clear H' O' K1 Z1));go_ret;refine⟨rfl,⟨_,M0,?_,?_,?_,?_⟩,K0,Z0⟩;all_goals(simp only[aM];rfl)
def agi nl:Cq 62 #[] w λe w'=>∃c:WC,e=.returned (Pv c.eb)/\Bq w w'/\WT w' c 0 (λ_=>False) (λ_=>none)/\c.nb≠c.mb/\c.mks=(λ_=>none)/\c.nl=nl/\w.heap.size<=c.cb/\w.heap.size<=c.eb/\w.heap.size<=c.mb:=by
 have jB:= @run_makeMap Tryz.prog;go_enter func62,ntmps62;go_wp2_with fail;refine(Ef).mono ?_;rintro e w1⟨rfl,xW⟩;have k1:Bq w w1:=by rw[xW];exact bw _
 have C1':Bx w1 w.heap.size #[Iv 0]:=by rw[xW];exact Bx.new w #[Iv 0] 3
 have z1:w1.heap.size=w.heap.size+1:=by rw[xW];simp
 have K1:=ai k1;clear xW k1;go_wp2_with fail;refine(CC).mono ?_;rintro e w2⟨rfl,R2,k2,z2⟩;have K2:=ai k2;clear k2
 go_wp2
 go_ret;obtain⟨w3,uw⟩:∃w3,w3=w2.alloc (.map #[] 0):=⟨_,rfl⟩;obtain⟨w4,hw4⟩:∃w4,w4=w3.alloc (.map #[] 0):=⟨_,rfl⟩;have k3:Bq w2 w3:=by rw[uw];exact bw _
 have k4:Bq w3 w4:=by rw[hw4];exact bw _
 have z3:w3.heap.size=w2.heap.size+1:=by rw[uw];simp
 have z4:w4.heap.size=w3.heap.size+1:=by rw[hw4];simp
 have k2:=uh K2;have k1:=uh K1;have m3:MG Sv w3 (w.heap.size+2) []:=by rw[uw,show w.heap.size+2=w2.heap.size by omega];exact MG.new _ w2
 have m4:MG Sv w4 (w.heap.size+3) []:=by rw[hw4,show w.heap.size+3=w3.heap.size by omega];exact MG.new _ w3
 rw[<-uw,<-hw4];obtain⟨w5,hw5⟩:∃w5,w5=w4.alloc (Cv #[.func (.func 47) #[] #[Pv w.heap.size],Mv<|w.heap.size+1,Mv<|w.heap.size+2,Mv<|w.heap.size+3] 218):=⟨_,rfl⟩;have k5:Bq w4 w5:=by rw[hw5];exact bw _
 have z5:w5.heap.size=w.heap.size+5:=by rw[hw5];simp;omega
 have b5:Bx w5 (w.heap.size+4) #[.func (.func 47) #[] #[Pv w.heap.size],Mv<|w.heap.size+1,Mv<|w.heap.size+2,Mv<|w.heap.size+3]:=by
  have:=Bx.new w4 #[.func (.func 47) #[] #[Pv w.heap.size],Mv<|w.heap.size+1,Mv<|w.heap.size+2,Mv<|w.heap.size+3] 218;rw[<-hw5,show w4.heap.size=w.heap.size+4 by omega]at this;exact this
 have z1:w1.heap.size=w.heap.size+1:=ae;have Mi:=k4.trans<|k5.mono k4.size;have k35:=k3.trans<|Mi.mono k3.size;have k25:=k2.trans<|k35.mono k2.size;have kk:=k1.trans<|k25.mono k1.size;have res:∃c:WC,Rv (Pv<|w.heap.size+4)=Rv (Pv c.eb)/\Bq w w5/\WT w5 c 0 (λ_=>False) (λ_=>none)/\c.nb≠c.mb/\c.mks=(λ_=>none)/\c.nl=nl/\w.heap.size<=c.cb/\w.heap.size<=c.eb/\w.heap.size<=c.mb:=by
  refine⟨⟨w.heap.size+4,w.heap.size,w.heap.size+1,w.heap.size+2,w.heap.size+3,w.heap.size+5,λ_=>none,nl⟩,rfl,kk,⟨⟨b5,C1'.below k25,?_,⟨[],m3.same<|Mi.block _ ae,λ_ _=>rfl,λx v h=>qBg⟩,?_,?_⟩,⟨[],m4.same<|k5.block _ ae,λ_ _=>rfl,λx v h=>qBg⟩,?_,λn q=>q.elim,(λy d q=>mO),λx q=>absurd rfl q⟩,?_,rfl,rfl,?_,?_,?_⟩
  .have:=R2.same (w':=w5)<|k35.block _ ae
   rwa[z1]at this
  all_goals(dsimp only;omega)
 rw[hw5]at res;exact res
end
section
open Un
def TN:BA:=⟨#[108,101,116,32,107,32,61,32,102,117,110,32,120,32,45,62,32,102,117,110,32,121,32,45,62,32,120,59,32,108,101,116,32,97,32,61,32,107,32,49,59]⟩
def agj:List Dc:=[.lt false ⟨1,⟨#[107]⟩,4,5⟩<|.mk 9 ⟨#[120]⟩ 0 [.mk 9 ⟨#[121]⟩ 0 [.mk 1 ⟨#[120]⟩ 0 [] 26 27 26] 17 27 21] 8 27 12,.lt false ⟨1,⟨#[97]⟩,33,34⟩<|.mk 8 ls 0 [.mk 1 ⟨#[107]⟩ 0 [] 37 38 37,.mk 3 ⟨#[49]⟩ 1 [] 39 40 39] 37 40 37]
def XZ:bX TN=.ok agj:=qkr
def TO:(fs fY agj xE).f=sF:=qkr
namespace In
section
variable {α β:Type}
def Eg{g}{o:Except Ft (β×St)}(h:andM iP g s o):∃v,¬s.u v/\g v ⟨s.k,λn=>s.u n\/n=v⟩ o:=by
 obtain⟨x,⟨v,_,e⟩,_⟩|⟨v,s1,⟨v',hv,e⟩,ho⟩:=h
 .cases e
 .grind
def oI{m}{g}{o:Except Ft (β×St)}{Q:α->St->Prop}(h:andM m g s o)(hm:∀o,m s o->∃a s',o=.ok (a,s')/\Q a s'):∃a s',Q a s'/\g a s' o:=by
 obtain⟨x,h1,_⟩|⟨a,s1,h1,ho⟩:=h
 .grind
 .grind
def acV{x}{n f t v:Nat}(h:Γ x=some (mono<|.var v))(hk:s.k=jk)(ho:inf mk (.mk 1 x n [] f t a) Γ s o):∃s',o=.ok (.var v,s')/\s'.k=jk/\∀n,s'.u n↔s.u n:=by
 simp only[inf,kh,qL,h,if_true]at ho;rw[hk]at ho;obtain⟨h1,_⟩|⟨_,ρ,s',⟨d_,u',hd,e⟩,rfl⟩:=ho
 .simp[sub,size]at h1
 .cases e
  have hr:∀y,ρ y=none:=λy=>hd.out y ag;refine⟨⟨s.k,u'⟩,by simp[sub,via,hr],hk,λn=>⟨λq=>?_,λq=>(hd.use n).2<|ji q⟩⟩;obtain q|⟨y,_,q⟩:=(hd.use n).1 q
  .exact q
  .rw[hr]at q;cases q
end
def aiW(ho:inf mk (.mk 9 ⟨#[120]⟩ 0 [.mk 9 ⟨#[121]⟩ 0 [.mk 1 ⟨#[120]⟩ 0 [] 26 27 26] 17 27 21] 8 27 12) (λ_=>none) ⟨jk,u⟩ o):∃v v2 s',v≠v2/\o=.ok (nV (.var v)<|nV (.var v2)<|.var v,s')/\s'.k=jk/\s'.u v/\s'.u v2:=by
 have e1:∀Γ,inf mk (.mk 9 ⟨#[120]⟩ 0 [.mk 9 ⟨#[121]⟩ 0 [.mk 1 ⟨#[120]⟩ 0 [] 26 27 26] 17 27 21] 8 27 12) Γ=andM iP λv=>andM (inf mk (.mk 9 ⟨#[121]⟩ 0 [.mk 1 ⟨#[120]⟩ 0 [] 26 27 26] 17 27 21)<|cJ Γ ⟨#[120]⟩<|mono<|.var v) λa=>cU<|nV (.var v) a:=λΓ=>by simp[inf,kh,dY,cK]
 have e2:∀Γ,inf mk (.mk 9 ⟨#[121]⟩ 0 [.mk 1 ⟨#[120]⟩ 0 [] 26 27 26] 17 27 21) Γ=andM iP λv=>andM (inf mk (.mk 1 ⟨#[120]⟩ 0 [] 26 27 26)<|cJ Γ ⟨#[121]⟩<|mono<|.var v) λa=>cU<|nV (.var v) a:=λΓ=>by simp[inf,kh,dY,cK]
 rw[e1]at ho;have⟨v,hv,ho⟩:=Eg ho
 obtain⟨a,s1,⟨v2,df,rfl,k1,u1,u2⟩,ho⟩:=oI (Q:=λa s'=>∃v2,v≠v2/\a=nV (.var v2) (.var v)/\s'.k=jk/\s'.u v/\s'.u v2) ho (by
  intro o ho;rw[e2]at ho;have⟨v2,Tx,ho⟩:=Eg ho
  obtain⟨a,s1,⟨rfl,k1,u1⟩,ho⟩:=oI (Q:=λa s'=>a=.var v/\s'.k=jk/\∀n,s'.u n↔((u n\/n=v)\/n=v2)) ho (by
   intro o ho;obtain⟨s',rfl,q1,q2⟩:=acV (v:=v) (by simp[cJ]) rfl ho
   exact⟨_,_,rfl,rfl,q1,q2⟩)
  cases ho
  exact⟨_,_,rfl,v2,λe=>Tx<|jh e.symm,rfl,k1,(u1 _).2<|ji<|jh rfl,(u1 _).2<|jh rfl⟩)
 cases ho
 exact⟨v,v2,s1,df,rfl,k1,u1,u2⟩
def aiX{v v2:Nat}(df:v≠v2)(cA:Γ ⟨#[107]⟩=some ⟨nV (.var v)<|nV (.var v2)<|.var v,vars []<|nV (.var v)<|nV (.var v2)<|.var v⟩)(hk:s.k=jk)(ho:inf mk (.mk 8 ls 0 [.mk 1 ⟨#[107]⟩ 0 [] 37 38 37,.mk 3 ⟨#[49]⟩ 1 [] 39 40 39] 37 40 37) Γ s o):∃a s' m,o=.ok (a,s')/\sub s'.k a=nV (.var m) jA:=by
 have hvs:vars [] (nV (.var v)<|nV (.var v2)<|.var v)=[v,v2]:=by simp[vars,ba,Un.seen,df,jx df]
 rw[hvs]at cA;have e1:inf mk (.mk 8 ls 0 [.mk 1 ⟨#[107]⟩ 0 [] 37 38 37,.mk 3 ⟨#[49]⟩ 1 [] 39 40 39] 37 40 37) Γ=andM (inf mk (.mk 1 ⟨#[107]⟩ 0 [] 37 38 37) Γ) λa=>andM (cU jA) λb=>andM iP λv=>andM (sv a (nV b<|.var v) 37 40) λ_=>cU<|.var v:=by simp[inf,kh,dY,cK]
 rw[e1]at ho
 obtain⟨a,s1,⟨n,n2,rfl,hn,k1,u1,u2⟩,ho⟩:=oI (Q:=λa s'=>∃n n2,a=nV (.var n) (nV (.var n2)<|.var n)/\n≠n2/\s'.k=jk/\s'.u n/\s'.u n2) ho (by
  intro o ho;simp only[inf,kh,qL,cA,if_true]at ho;rw[hk]at ho;obtain⟨h1,_⟩|⟨_,ρ,s',⟨d_,u',hd,e⟩,rfl⟩:=ho
  .rw[cO]at h1;simp[size,ah]at h1
  .cases e
   have⟨n,hn⟩:=Option.ne_none_iff_exists'.1<|hd.all v ag;have⟨n2,hn2⟩:=Option.ne_none_iff_exists'.1<|hd.all v2 ag
   refine⟨_,_,rfl,n,n2,by rw[cO];simp[sub,aT,via,hn,hn2],λe=>df<|hd.one v v2 n rfl hn (by rw[e];exact hn2),hk,(hd.use n).2<|jh ⟨v,rfl,hn⟩,(hd.use n2).2<|jh ⟨v2,rfl,hn2⟩⟩)
 have⟨b,s2,⟨hb,Bl⟩,ho2⟩:=oI (Q:=λb s'=>b=jA/\s'=s1) ho<|λo ho=>⟨_,_,ho,rfl,rfl⟩;rw[hb,Bl]at ho2;have⟨r,hr,ho⟩:=Eg ho2;have hr1:r≠n:=λe=>hr<|e▸u1;have WL:r≠n2:=λe=>hr<|e▸u2
 have⟨x,s3,⟨m,q⟩,ho3⟩:=oI (Q:=λ_ s'=>∃m,sub s'.k (.var r)=nV (.var m) jA) ho (by
  intro o ho;rw[sv]at ho;simp only[k1,cO]at ho;have X6:sub (λw=>if w=n then jA else if w=r then nV (.var n2) jA else .var w) (nV (.var n)<|nV (.var n2)<|.var n)=sub (λw=>if w=n then jA else if w=r then nV (.var n2) jA else .var w) (nV jA<|.var r):=by
   simp[sub,aT,hn.symm,hr1,jx WL]
  obtain⟨h1,_⟩|⟨_,_,⟨θ,hm,rfl⟩|⟨h1,_⟩⟩:=ho
  .simp[size,ah]at h1
  .refine⟨_,_,rfl,?_⟩;have g:=hm.gen _ X6 n2;simp only[if_neg<|jx hn,if_neg<|jx WL]at g;have ho:=hm.one;simp only[sub,aT,Ty.aK.injEq,List.cons.injEq,true_and,and_true]at ho
   cases vP:θ n2 with
   |var m=>exact⟨m,by show sub (λw=>sub θ<|.var w) (.var r)=_;simp only[sub];rw[<-ho.2,ho.1,vP]⟩|aK c l=>rw[vP]at g;simp[sub]at g
  .exact absurd X6 (h1 _))
 cases ho3
 exact⟨_,_,m,rfl,q⟩
def acW{rs}{B}{F}(h:sG rs agj (λ_=>none) (λ_=>none) ⟨jk,u⟩ B F):F=none/\B.map (λp=>(p.1,Un.written Go.Proofs.YtfnkchdeheeiiaaGreatDoor.dec p.2))=[(⟨#[107]⟩,[39,118,48,32,45,62,32,39,118,49,32,45,62,32,39,118,48]),(⟨#[97]⟩,[85,110,105,116,32,45,62,32,73,110,116])]:=by
 obtain⟨o,ho,hq⟩:=h;obtain⟨v,v2,s1,df,rfl,k1,u1,u2⟩:=aiW ho;obtain⟨z,_⟩|⟨_,T,B',hT,rfl,hq⟩:=hq
 .rw[k1,cO]at z;simp[size,ah]at z
 .have hT':T=nV (.var v) (nV (.var v2)<|.var v):=by rw[hT,k1,cO];rfl
  subst hT';obtain⟨o,ho,hq⟩:=hq;have hk:(nxt rs s1).k=jk:=by
   show(if rs then jk else s1.k)=jk
   cases rs
   .exact k1
   .rfl
  obtain⟨a,s2,m,rfl,hs⟩:=aiX df (by simp[cJ]) hk ho;obtain⟨z,_⟩|⟨_,T,B'',hT,rfl,hq⟩:=hq
  .rw[hs]at z;simp[size,ah]at z
  .obtain⟨rfl,rfl⟩:=hq;have hv:sw (.mk 8 ls 0 [.mk 1 ⟨#[107]⟩ 0 [] 37 38 37,.mk 3 ⟨#[49]⟩ 1 [] 39 40 39] 37 40 37)=false:=by simp[sw,isC,isM]
   rw[hv,hs]at hT;have hT':T=nV sH jA:=by rw[hT];simp[dS,sub,aT]
   subst hT';have hvs:vars [] (nV (.var v)<|nV (.var v2)<|.var v)=[v,v2]:=by simp[vars,ba,Un.seen,df,jx df]
   have hx:([v,v2]:List Nat).idxOf v=0:=ag;have hy:([v,v2]:List Nat).idxOf v2=1:=xC;have a1:Un.written Go.Proofs.YtfnkchdeheeiiaaGreatDoor.dec (nV (.var v)<|nV (.var v2)<|.var v)=[39,118,48,32,45,62,32,39,118,49,32,45,62,32,39,118,48]:=by
    rw[Un.written];rw[hvs];simp only[Un.wr,Un.Bm,hx,hy];kernel_rfl
   have a2:Un.written Go.Proofs.YtfnkchdeheeiiaaGreatDoor.dec (nV sH jA)=[85,110,105,116,32,45,62,32,73,110,116]:=qkr;refine⟨rfl,?_⟩;rw[jf,jf,List.map_nil,a1,a2]
end In
def Eh k i j:Cq 27 #[ftV k i j,ftV k i j] w λe w'=>e=.returned (.bool true)/\Bq w w':=by
 rw[ftV];have h0:(k==k)=true:=ag;have h1:(i==i)=true:=ag;have h2:(j==j)=true:=ag;go_enter func27,ntmps27
 go_wp2
 go_ret;exact⟨rfl,(bw _).alloc ag _⟩
end
def BH(w:World)(L:List (BA×BA))(v:Value):=∃va vc,v=.slice va L.length vc/\(L=[]\/∃g,va=some ⟨g,0,none⟩/\g<w.heap.size/\∀i(h:i<L.length),w.cell? ⟨g,i*2,none⟩=some (.string L[i].1)/\w.cell? ⟨g,i*2+1,none⟩=some (.string L[i].2))
def BH.af{w'}(h:BH w L v)(k:Bq w w'):BH w' L v:=by
 obtain⟨va,vc,rfl,h⟩:=h;refine⟨va,vc,rfl,h.imp id ?_⟩;rintro⟨g,rfl,hg,hc⟩;refine⟨g,rfl,Nat.lt_of_lt_of_le hg k.size,λi hi=>⟨?_,?_⟩⟩
 .rw[jj (a:=⟨g,i*2,none⟩)<|k.block g hg];exact(hc i hi).1
 .rw[jj (a:=⟨g,i*2+1,none⟩)<|k.block g hg];exact(hc i hi).2
def Ir{u:Value}(h1:BH w L u)(h2:BH w L v)(hl:L.length<=1000000):Cq 15 #[u,v] w λe w'=>e=.returned (.bool true)/\Bq w w':=by
 obtain⟨pa,pc,rfl,H1⟩:=h1;obtain⟨qa,qc,rfl,H2⟩:=h2;go_enter func15,ntmps15
 go_wp2
 go_loopg[5] L.length (λgk c wr=>∃j:Nat,Hid (gk=L.length-j)/\j<=L.length/\c=Nv j/\Bq w wr)
 case atStart=>exact⟨0,ai rfl,Nat.zero_le _,rfl,jp _ _⟩
 case round=>
  obtain⟨j,dv,hj,rfl,HB⟩:=hrel;by_cases bz:j<L.length
  .have hd:(j:Int)<(L.length:Int):=ae;obtain⟨g,rfl,hg,hc⟩:=H1.resolve_left (λe=>by simp[e]at bz);obtain⟨g',rfl,CF,hc'⟩:=H2.resolve_left (λe=>by simp[e]at bz);have a0:=(jj (a:=⟨g,j*2,none⟩)<|HB.block g hg).trans (hc j bz).1;have a1:=(jj (a:=⟨g,j*2+1,none⟩)<|HB.block g hg).trans (hc j bz).2;have b0:=(jj (a:=⟨g',j*2,none⟩)<|HB.block g' CF).trans (hc' j bz).1;have b1:=(jj (a:=⟨g',j*2+1,none⟩)<|HB.block g' CF).trans (hc' j bz).2;generalize L[j].1=x at a0 b0;generalize L[j].2=y at a1 b1;have e1:(x.toList==x.toList)=true:=ag;have e2:(y.toList==y.toList)=true:=ag
   go_wp2
   go_quiet(fail)
   go_wp2
   go_roundg(L.length-(j+1))
   case measure=>rw[uh dv];omega
   case rel=>exact⟨j+1,ai rfl,ae,jT,HB.drewN _⟩
  .have hd:decide ((j:Int)<(L.length:Int))=false:=bP
   go_wp2
   go_ret;exact⟨rfl,HB⟩
def It:Cq 28 #[.slice none 0 0,.slice none 0 0] w λe w'=>e=.returned (.bool true)/\Bq w w':=by
 go_enter func28,ntmps28
 go_wp2
 go_loopg[5] 0 (λgk c wr=>c=Iv 0/\Bq w wr)
 case atStart=>exact⟨rfl,jp _ _⟩
 case round=>
  obtain⟨rfl,hb⟩:=hrel
  go_wp2
  go_ret;exact⟨rfl,hb⟩
def rpt(k i j:Int)(l r:BA)(u:Value):Value:=.agg #[Iv k,Iv i,Iv j,.string l,.string r,u,.slice none 0 0]
def jC{k i j}{l r}{u:Value}(h1:BH w L u)(h2:BH w L v)(hl:L.length<=1000000):Cq 13 #[rpt k i j l r u,rpt k i j l r v] w λe w'=>e=.returned (.bool true)/\Bq w w':=by
 have H1:=ai h1;have H2:=ai h2;obtain⟨pa,pc,rfl,-⟩:=h1;obtain⟨qa,qc,rfl,-⟩:=h2;have e1:(l.toList==l.toList)=true:=ag;have e2:(r.toList==r.toList)=true:=ag;unfold rpt;have k2:Bq w ((w.alloc<|Cv #[Iv k,Iv i,Iv j,Sv l,Sv r,Lv pa L.length pc,Lv none 0 0] 34).alloc<|Cv #[Iv k,Iv i,Iv j,Sv l,Sv r,Lv qa L.length qc,Lv none 0 0] 34):=(bw _).alloc ag _;obtain⟨W,HW⟩:∃W,W=((w.alloc<|Cv #[Iv k,Iv i,Iv j,Sv l,Sv r,Lv pa L.length pc,Lv none 0 0] 34).alloc<|Cv #[Iv k,Iv i,Iv j,Sv l,Sv r,Lv qa L.length qc,Lv none 0 0] 34):=⟨_,rfl⟩;have A0:Bx W w.heap.size #[Iv k,Iv i,Iv j,Sv l,Sv r,Lv pa L.length pc,Lv none 0 0]:=(by rw[HW];exact(Bx.new w _ _).alloc _);have A1:Bx W (w.heap.size+1) #[Iv k,Iv i,Iv j,Sv l,Sv r,Lv qa L.length qc,Lv none 0 0]:=(by rw[HW];have:=Bx.new (w.alloc<|Cv #[Iv k,Iv i,Iv j,Sv l,Sv r,Lv pa L.length pc,Lv none 0 0] 34) #[Iv k,Iv i,Iv j,Sv l,Sv r,Lv qa L.length qc,Lv none 0 0] 34;simpa using this);rw[<-HW]at k2;have K2:=ai k2;have HF:=Eh (w:=W) k i j;simp only[ftV]at HF;go_enter func13,ntmps13;go_wp2_with fail;rw[<-HW];refine HF.mono ?_;rintro e w1⟨rfl,dA⟩;have K3:=K2.trans<|dA.mono K2.size;have B0:=ai<|A0.below dA;have B1:=ai<|A1.below dA;have HC:=Ir (H1.af K3) (H2.af K3) hl;have⟨c1,f1,z1⟩:=uh B0;have⟨c2,f2,z2⟩:=uh B1;go_wp2_with fail;refine HC.mono ?_;rintro e w2⟨rfl,iG⟩;have K4:=K3.trans<|iG.mono K3.size
 have C0:=ai<|B0.below iG;have C1:=ai<|B1.below iG;have⟨c1,f1,z1⟩:=uh C0;have⟨c2,f2,z2⟩:=uh C1;go_wp2_with fail;refine It.mono ?_;rintro e w3⟨rfl,oJ⟩;have K5:=K4.trans<|oJ.mono K4.size;have D0:=C0.below oJ;have D1:=C1.below oJ;obtain⟨c1,f1,z1⟩:=D0;obtain⟨c2,f2,z2⟩:=D1
 go_wp2
 go_ret;exact⟨rfl,K5⟩
end Go.Proofs.YtfnkchdeheeiiaaGreatDoor

import Derived.Test.YtfnkchdeheeiiaaGreatDoorCFd
import Derived.Test.YtfnkchdeheeiiaaGreatDoorCKa
import Derived.Test.YtfnkchdeheeiiaaGreatDoorCXz
set_option linter.all false
set_option maxRecDepth 100000
set_option maxHeartbeats 4000000
namespace Go.Proofs.YtfnkchdeheeiiaaGreatDoor
open _root_.List renaming setIfInBounds_toArray->ja,set_cons_zero->jc,set_cons_succ->jd
open Or renaming inl->jf,inr->jh
open Go.Act renaming put->ji
open Go.Proofs.Tryz renaming results310->jj,prog->jk
open In renaming lZ->jl,gR->jm,Jw->jo,Ex->jp
open And renaming intro->jq
open Go Go.RowKit Un Proofs.Tryz
variable {dom:BA->Prop} {fn:Func} {Γ:In.Env} {cap len xb:Nat} {r:Nat->Int} {Q:Nat->Prop} {p:Option Addr} {P:Program} {v:Value} {c:WC} {w:World}
section
open Go.ChangeMaps Go.MapKept
section
variable {W:World} {cnt:Nat} {s:In.St} {kb gb:Nat} {Λ:Nat->Prop} {nd:Nd}
def Ah.self(h:Ah nd c w cnt s kb Λ Γ gb Q dom v)(hb:Bq w W):Ah nd c W cnt s kb Λ Γ gb Q dom v:=h.part hb h.pe h.sc<|br _
def kY mk k s n f t a Γ K(h:(k=3/\K=mO)\/(k=4/\K=iA)\/(k=5/\K=iB)):In.inf mk (.mk k s n [] f t a) Γ=In.cS (.aH K []):=by
 obtain⟨rfl,rfl⟩|⟨rfl,rfl⟩|⟨rfl,rfl⟩:=h<;>simp[In.inf,In.mI]
def gN k s n f t a:nn (.mk k s n [] f t a)=1:=Za
end
def UB:∀(k:Nat)(nd:Nd),nn nd<=k->yO nd:=by
 intro k
 induction k with
 |zero=>intro nd h;cases nd;simp only[nn]at h;omega|succ k ih=>
  intro nd hk c w cnt s kb Λ Γ gb Q dom v h;have hp:=h.pe
  cases hp with
  |low st n f t a hs=>exact Uc h|up st n f t a hs=>exact Z8 h|num st n f t a=>
   rw[kY c.mks 3 st n f t a Γ mO<|jf ⟨rfl,rfl⟩,gN];exact(T7 h.we h.wk ae).1 _
  |word st n f t a hs=>
   rw[kY c.mks 4 st n f t a Γ iA<|jh<|jf ⟨rfl,rfl⟩,gN];exact(T7 h.we h.wk ae).2.1 _
  |unit st n f t a=>
   rw[kY c.mks 5 st n f t a Γ iB<|jh<|jh ⟨rfl,rfl⟩,gN];exact(T7 h.we h.wk ae).2.2
  |pr st n x y f t a vx vy hx hy=>
   have gG:nn x<=k/\nn y<=k:=Al;obtain⟨tx,ax,rfl⟩:=hx.iface;obtain⟨ty,ay,rfl⟩:=hy.iface;exact Ef.1 λW hb=>Z9 (ih x gG.1) (ih y gG.2) (h.self hb) (hx.af hb)<|hy.af hb
  |of st n x y f t a vx vy hx hy=>
   have gG:nn x<=k/\nn y<=k:=Al;obtain⟨tx,ax,rfl⟩:=hx.iface;obtain⟨ty,ay,rfl⟩:=hy.bJ;exact Ef.2.1 λW hb=>UC (ih x gG.1) (h.self hb) (hx.af hb)<|hy.af hb
  |op st n x y f t a vx vy hs hx hy=>
   have gG:nn x<=k/\nn y<=k:=Al;obtain⟨tx,ax,rfl⟩:=hx.iface;obtain⟨ty,ay,rfl⟩:=hy.iface;exact Ef.2.2.2.2.2.2.2 λW hb=>QM (ih x gG.1) (ih y gG.2) (h.self hb) (hx.af hb) (hy.af hb) hs
  |call st n x y f t a vx vy hx hy=>
   have gG:nn x<=k/\nn y<=k:=Al;obtain⟨tx,ax,rfl⟩:=hx.iface;obtain⟨ty,ay,rfl⟩:=hy.iface;exact Ef.2.2.1 λW hb=>Z_ (ih x gG.1) (ih y gG.2) (h.self hb) (hx.af hb)<|hy.af hb
  |fn st n x f t a y vx hs hy hx=>
   have gG:nn x<=k:=Al;obtain⟨tx,ax,rfl⟩:=hx.iface;exact Ef.2.2.2.1 λW hb=>agj (ih x gG) (h.self hb)<|hx.af hb
  |lt K st n x z f t a y vx vz hc hs hy hx hz=>
   have gG:nn x<=k/\nn z<=k:=Al;obtain⟨tx,ax,rfl⟩:=hx.iface;obtain⟨tz,az,rfl⟩:=hz.iface;have hK:K=if(K==11)=true then 11 else 10:=yV;exact Ef.2.2.2.2.1 λW hb=>adY (rc:=K==11) hK (ih x gG.1) (ih z gG.2) (h.self hb) (hx.af hb)<|hz.af hb
  |ite st n x y z f t a vx vy vz hx hy hz=>
   have gG:nn x<=k/\nn y<=k/\nn z<=k:=Al;obtain⟨tx,ax,rfl⟩:=hx.iface;obtain⟨ty,ay,rfl⟩:=hy.iface;obtain⟨tz,az,rfl⟩:=hz.iface;exact Ef.2.2.2.2.2.1 λW hb=>QN (ih x gG.1) (ih y gG.2.1) (ih z gG.2.2) (h.self hb) (hx.af hb) (hy.af hb)<|hz.af hb
  |mt st n x A f t a vx g sc vp ve h0 hg hz hc hx hp he=>
   have gG:nn x<=k/\bY (aT A)<=k:=Al;obtain⟨tx,ax,rfl⟩:=hx.iface
   exact Ef.2.2.2.2.2.2.1 λW hb=>adZ (ih x gG.1) (λi hi=>ih _ (by have:=qS A i hi;omega)) (h.self hb) hg (Nat.lt_of_lt_of_le hz hb.size) (λi hi=>by
    have kZ:∀o,W.cell? ⟨g,o,none⟩=w.cell? ⟨g,o,none⟩:=λo=>World.cell?_of_block (a:=⟨g,o,none⟩)<|hb.block g hz;simp only[kZ]
    exact hc i hi) (hx.af hb) (λi hi=>(hp i hi).af hb) (λi hi=>(he i hi).af hb)
def Z' nd:yO nd:=UB _ nd<|br _
def Ey{P:Program}(h4:fn.results=#[.tmp 4,.cell 5 146])(T:Array Value)(i:Nat)(v:Value)(h:i≠4/\i≠5):results fn (T.setIfInBounds i v)=results fn T:=by
 have e:∀j,j≠i->(T.setIfInBounds i v).getD j undef=T.getD j undef:=λj hj=>by
  simp only[Array.getD_eq_getD_getElem?,Array.getElem?_setIfInBounds_ne<|Ne.symm hj]
 unfold results;rw[h4];simp only[Array.mapM_eq_mapM_toList,List.mapM_cons,List.mapM_nil,e 4<|Ne.symm h.1,e 5<|Ne.symm h.2]
def JV(h4:fn.results=#[.tmp 4,.cell 5 146])T i v(h:i≠4/\i≠5)R:∀(ds:List Deferred)(u:FrameMode)(w:World),Leaves P fn (T.setIfInBounds i v) R ds u w->Leaves P fn T R ds u w:=by
 intro ds
 induction ds with
 |nil=>
  intro u w q
  cases u with
  |returning=>simp only[Leaves]at q⊢;rw[Ey (P:=P) h4 T i v h]at q;exact q|panicking c=>exact q|run=>exact q
 |cons d ds ih=>
  intro u w q;simp only[Leaves]at q⊢;obtain⟨q1,fv,cap,f,args,q2,q3,q4⟩:=q;refine⟨q1,fv,cap,f,args,q2,q3,q4.mono ?_⟩;intro e u' w' hq
  cases e with
  |returned v=>exact ih _ _ hq|panicked c=>exact ih _ _ hq|outgrown=>exact hq
def QO(h4:fn.results=#[.tmp 4,.cell 5 146]){K}{R}{i}(h:i≠4/\i≠5)v c a w(q:(Exit.then K<|bodyPostD P fn R) (.panic c) (a.put (some i) v) w):(Exit.then K<|bodyPostD P fn R) (.panic c) a w:=JV h4 a.tmps i v h R a.defers _ w q
section
variable {cnt:Nat} {u:Nat->Prop}
def m_{ops}{Q}{md}{S}{oi}{fuel}{listed}{a}{w}i(h:wpAnyH P md ops Q S fuel (listed.setIfInBounds i true) (a.put oi.dst v) w)(hi:ops[i]? =some oi:=by rfl)(hs:Region.noSelect ops=true:=by kernel_rfl)(hf:Region.free md ops listed i=true:=by kernel_rfl)(hr:(Region.ready md ops listed).contains i=true:=by kernel_rfl)(hy:YieldsIf P ops S oi v a:=by exact .inl ⟨by rfl,by intro w hSw;(try dsimp only at hSw);go_simp;try with_reducible rfl⟩)(hQ:∀c a w,Q (.panic c) (a.put oi.dst v) w->Q (.panic c) a w:=by exact λc a w q=>QO aik aK _ c a w q)(hS:S w:=by assumption):wpAnyH P md ops Q S (fuel+1) listed a w:=wpAnyH_take hi hs hf hr hQ hy hS h
def Mt{p:Prop}(h:p:=by
 go_wp2_with fail;have nm:=NM5.below KW;have fb:=FB5.below KW;have we:=WE5.af KW;have env:=ail.af KW;have tt:cR wz (λi=>i≠c.cb/\i≠c.eb/\i≠w.heap.size+1) T (Fv tz xz):=((TZ.not (we.bx.c 0) ag).not (fb.c 0) ag).wide λi p=>⟨p.1.1,p.1.2,p.2⟩;have HVA:Hid (∀W':World,Bq wz W'->Cq 320 #[Fv tz xz] W' (λe w'=>∃sa sc,e=Rv (Lv sa (vars [] T).length sc)/\pB w' (λi=>i≠c.cb/\i≠c.eb/\i≠w.heap.size+1) sa (vars [] T)/\Bq W' w')):=ai λW' hb=>by
  refine(e_ (tt.af hb) ae).mono ?_;rintro e w'⟨V,rfl,ho,k⟩;obtain⟨sa,sc,rfl,hr⟩:=Ei ho;exact⟨sa,sc,rfl,hr.move (br _) (λ_ _ _=>rfl) (λi p _=>by have:=hb.size;have:=KW.size;have:=FB5.z;omega),k⟩
 have HWI:Hid (∀(W':World)(sa:Option Addr)(sc:Nat),Bq wz W'->pB W' (λi=>i≠c.cb/\i≠c.eb/\i≠w.heap.size+1) sa (vars [] T)->Cq 319 #[Mv c.nb,Sv st,Av #[Fv tz xz,Lv sa (vars [] T).length sc]] W' (ol (λi=>i≠c.cb/\i≠c.eb/\i≠w.heap.size+1) (jm Γ st ⟨T,vars [] T⟩) W')):=ai λW' sa sc hb hr=>vd (env.af hb) st ⟨tz,xz,sa,sc,rfl,TW.of (tt.af hb) hTw<|show size T<=_ by omega,hr⟩;have f0:wz.cell? ⟨c.eb,3,none⟩=some (Mv c.nb):=we.bx.c 3;have f1:wz.cell? ⟨w.heap.size,3,none⟩=some (Sv st):=nm.c 3;have NM:=ai nm;have FB:=ai fb;have WEW:=ai we;have TT:=ai tt;clear nm fb we env tt;refine wp_region_noPanic ?_
 go_region_with(first
  |(go_at_call 320;go_loud(refine(HVA _ (Below.refl _ _).drew).mono ?_);rintro e w6⟨sa,sc,rfl,hr6,k6⟩;have k6':=(Below.refl _ _).drew.trans k6;have g0:w6.cell? ⟨c.eb,3,none⟩=some (Mv c.nb):=(WEW.af k6').bx.c 3;have g1:w6.cell? ⟨w.heap.size,3,none⟩=some (Sv st):=(NM.below k6').c 3;have K6:=ai k6';have R6:=ai hr6;clear k6 k6' hr6)
  |(go_at_call 319;go_loud(refine(HWI _ _ _ K6 R6).mono ?_);rintro e w7⟨b7,rfl,z7,h7,k7⟩;have k7':=K6.trans<|k7.mono K6.size;have g2:w7.cell? ⟨c.eb,3,none⟩=some (Mv c.nb):=(WEW.af k7').bx.c 3;have g3:w7.cell? ⟨w.heap.size,3,none⟩=some (Sv st):=(NM.below k7').c 3;have g4:w7.frozen? ⟨c.eb,3,none⟩=false:=(WEW.af k7').bx.f 3;have K7:=ai k7';have E7:=ai h7;have Z7:=ai z7;clear k7 k7' h7 z7))
 all_goals(
  refine NoPanic.normal ?_;have fb7:=FB.below K7;have FB7:=ai fb7;obtain⟨y1,y2,y3⟩:=fb7;go_wp2_with fail;have z7:=uh Z7;have z6:=K6.size;have zw:=FB.z;have l5:=HA.wt.we.l.2.2.2.2;have F8:=(FB7.bN (b2:=c.eb) ae 3<|Mv b7).Mu rfl (Iv 0) (Iv 0) (Iv 0) Zv .nilIface;have we7:=WEW.af K7;have E8:=(((((we7.bx.aO 3 (Mv b7) (ada {c with nb:=b7}) rfl ag).bN (b2:=w.heap.size+1) ae 0 (Iv 0)).bN (b2:=w.heap.size+1) ae 1 (Iv 0)).bN (b2:=w.heap.size+1) ae 2 (Iv 0)).bN (b2:=w.heap.size+1) ae 3 Zv).bN (b2:=w.heap.size+1) ae 4 .nilIface;have G8:=((((((Fr.refl (λi=>i=c.eb\/i=w.heap.size+1) w7).set (b:=c.eb) (jf<|jf rfl) 3<|Mv b7).set (b:=w.heap.size+1) (jf<|jh rfl) 0<|Iv 0).set (b:=w.heap.size+1) (jf<|jh rfl) 1<|Iv 0).set (b:=w.heap.size+1) (jf<|jh rfl) 2<|Iv 0).set (b:=w.heap.size+1) (jf<|jh rfl) 3 Zv).set (b:=w.heap.size+1) (jf<|jh rfl) 4 .nilIface;refine leaves_cons (f:=312) (args:=#[Pv<|w.heap.size+1]) ag Mw ?_;refine(aaa<|w.heap.size+1).mono ?_;rintro e u' w9⟨rfl,rfl,rfl⟩;obtain⟨c9,_,_⟩:=F8;simp[Leaves,settle,results,jj,go_sem,c9];have k7:=uh K7;have FW:=aim.trans<|Fr.of KW
  refine⟨((FW.fD λ_ r=>jf r).trans<|Fr.of k7).gH G8<|λi r=>r.elim (λr=>jf<|jh r)<|λr=>jh ae,.ok (T1,s1),Q2.m,jh ⟨hs,T,tz,xz,ak,b7,HVT,rfl,(TT.af k7).move G8.size (λb p z=>G8.block b z<|λr=>r.elim p.2.1 p.2.2)<|λb p _=>p.1,hTw,ae,?_⟩⟩
  exact⟨we7.put (G8.fD λi r=>r.imp id λr=>ae) E8,E7.move G8.size (G8.block _ E7.lt ae) (λb p z=>G8.block b z<|λr=>r.elim p.2.1 p.2.2)<|λb p _=>⟨p.1,p.2.1⟩,⟨by show b7≠c.cb;omega,by show b7≠c.eb;omega⟩,us2,TOP T HVT,DM _⟩)):p:=h
def adI{rc}{st}{a y}{x}(h:LtA rc st x c w cnt u Γ Q dom v):
 Cq 310 #[Pv c.eb,.agg #[.bool rc,Nv a,Nv y,.string st,v]] w (UD c cnt u Γ rc st a y x w):=by
 obtain⟨tx,ax,rfl⟩:=h.pe.iface;have iE:= @run_makeMap jk;obtain⟨w0,uS⟩:∃w0,w0=(w.alloc<|Cv #[.bool rc,Nv a,Nv y,Sv st,Fv tx<|Av ax] 142).alloc (Cv Jj 146):=⟨_,rfl⟩;have k0:Bq w w0:=by rw[uS];exact(bw _).alloc ag _
 have B0:Bx w0 w.heap.size #[.bool rc,Nv a,Nv y,Sv st,Fv tx<|Av ax]:=by rw[uS];exact(Bx.new w #[.bool rc,Nv a,Nv y,Sv st,Fv tx<|Av ax] 142).alloc (Cv Jj 146)
 have UE:=h.wt.we.af k0;have f0:w0.cell? ⟨c.eb,3,none⟩=some (Mv c.nb):=UE.bx.c 3;have f1:w0.cell? ⟨w.heap.size,0,none⟩=some (.bool rc):=B0.c 0;have f2:=B0.c 1;have f3:=B0.c 2;have f4:=B0.c 3;have f5:=B0.c 4;have k1:Bq w0 (w0.alloc<|.map #[] 0).drew:=(bw _).drew;have we1:=UE.af k1;have y9:=B0.below k1;have K01:=k0.trans<|k1.mono k0.size;have zc:=h.wt.we.dh;have ze:=h.wt.we.bx.z;have zz0:w0.heap.size=w.heap.size+2:=by rw[uS];simp
 have y_:Bx (w0.alloc<|.map #[] 0).drew (w.heap.size+1) Jj:=by
  have q:Bx w0 (w.heap.size+1) Jj:=by
   rw[uS];have:=Bx.new (w.alloc<|Cv #[.bool rc,Nv a,Nv y,Sv st,Fv tx<|Av ax] 142) Jj 146;simpa using this
  exact q.below k1
 have g0:=we1.bx.c 3;have g1:=y9.c 0;have g2:=y9.c 1;have g3:=y9.c 2;have g4:=y9.c 3;have g5:=y9.c 4;have GS:=jq g0<|jq g1<|jq g2<|jq g3<|jq g4 g5;have KE:KW (w0.alloc<|.map #[] 0).drew (dn c) w0.heap.size Ty.var:=⟨λ_=>none,(eU.new w0<|dn c).af (Below.refl _ _).drew,λn=>⟨λ_=>rfl,λq=>absurd rfl q⟩⟩;have WK1:WK (w0.alloc<|.map #[] 0).drew c cnt ⟨Ty.var,u⟩ w0.heap.size:=⟨KE,ae,h.wt.hu,jp u,λn=>trivial⟩;have wg1:WG (w0.alloc<|.map #[] 0).drew c ⟨Ty.var,u⟩ (λn=>¬u n) Γ c.nb:=⟨(h.wt.e.af K01).wide λi p=>p.1,h.wt.n.1,h.wt.top.env,λy d q=>by rw[(h.wt.top y d q).1];exact dx _ List.nodup_nil,h.wt.dm⟩;have HB:=Ew (a:=a) (y:=y) (Z' x) (⟨we1,WK1,λn q=>q,wg1,h.pe.af K01,λb q=>(h.hq b q).1,h.sc,h.hd,h.ft,h.mf,h.iC⟩:Zb rc st x c _ cnt ⟨Ty.var,u⟩ w0.heap.size (λn=>¬u n) Γ c.nb Q dom (Fv tx<|Av ax));rw[zz0]at HB;have HA:=ai h;clear k0 k1 UE we1 B0 KE WK1 wg1 g0 g1 g2 g3 g4 g5 h;have aik:Tryz.f310.results=#[.tmp 4,.cell 5 146]:=rfl
 go_enter_defers Tryz.func310,Tryz.ntmps310
 go_wp2_with fail;rw[<-uS];clear uS;refine wp_region_held_drew (S:=λw'=>w'.cell? ⟨c.eb,3,none⟩=some (Mv c.nb)/\w'.cell? ⟨w.heap.size,0,none⟩=some (.bool rc)/\w'.cell? ⟨w.heap.size,1,none⟩=some (Nv a)/\w'.cell? ⟨w.heap.size,2,none⟩=some (Nv y)/\w'.cell? ⟨w.heap.size,3,none⟩=some (Sv st)/\w'.cell? ⟨w.heap.size,4,none⟩=some (Fv tx<|Av ax)) qkr ⟨f0,f1,f2,f3,f4,f5⟩<|λhHeld=>?_;refine m_ 0 ?_;try simp only[ji,ja,jc,jd]
 refine m_ 2 ?_;try simp only[ji,ja,jc,jd]
 refine m_ 3 ?_;try simp only[ji,ja,jc,jd]
 refine m_ 4 ?_;try simp only[ji,ja,jc,jd]
 refine m_ 5 ?_;try simp only[ji,ja,jc,jd]
 refine m_ 6 ?_;try simp only[ji,ja,jc,jd]
 refine wpAnyH_ready (rs:=[1]) qkr ag ?_;refine AllReadyH.cons rfl (λK hK=>?_) AllReadyH.nil;go_simp;refine hK.out _ _ GS<|λad0=>?_;clear hK K hHeld f0 f1 f2 f3 f4 f5;refine wpAnyH_ready (rs:=[7]) qkr ag ?_;refine AllReadyH.cons rfl (λK hK=>?_) AllReadyH.nil;go_simp;refine HB.mono ?_;intro e w2 hp;clear HB ad0 GS;obtain⟨ak,z,vl,vr,rfl,q⟩|⟨ak,T1,s1,wE,wF,iz,rfl,q⟩:=hp.split
 .clear hK;have F2:=y_.fr q.F ae;refine leaves_cons (f:=312) (args:=#[Pv<|w.heap.size+1]) ag Mw ?_;refine(Am (w.heap.size+1) F2 z.f vl vr q.f.hv).mono ?_;rintro e u' w9⟨rfl,rfl,hB,hF⟩;obtain⟨c9,_,_⟩:=hB;simp[Leaves,settle,results,jj,go_sem,c9];exact⟨(((Fr.of K01).trans<|q.F.fD λ_ r=>jf r)).gH hF<|λi r=>jh ae,.error z,q.m,vl,vr,rfl,q.f.one (F2.c 0) ag hF⟩
 have h:=uh HA;have UF:=y9.fr q.F ae;refine hK.out _ _ ⟨q.we.bx.c 3,UF.c 0,UF.c 1,UF.c 2,UF.c 3,UF.c 4⟩<|λad1=>?_;clear hK K;refine m_ 8 ?_;try simp only[ji,ja,jc,jd]
 refine m_ 9 ?_;try simp only[ji,ja,jc,jd]
 refine m_ 10 ?_;try simp only[ji,ja,jc,jd]
 refine m_ 11 ?_;try simp only[ji,ja,jc,jd]
 refine m_ 12 ?_;try simp only[ji,ja,jc,jd]
 refine wpAnyH_done qkr ?_ _;clear ad1;have Qq:=y_.fr q.F ae;have⟨kp2,ti2⟩:=In.gX rc st x (In.kV c.mks x) Γ ⟨Ty.var,u⟩ (λn=>¬u n) (jp u) (λn r=>r) h.wt.top.env T1 s1 q.m;have c1:=q.c1;have c2:=q.c2;have Tc:=h.ft.a;have ftb:=h.ft.b;have us2:∀n,s1.u n->us ak n:=λn p=>by obtain r|r:=q.u n p;have:=h.wt.hu n r;unfold us at*;omega;rw[us];omega
 have wk2:WK w2 c ak s1 iz:=⟨q.k,q.n,us2,kp2.ok,q.wh⟩;have hf:=wk2.BI ae<|jh trivial;have HO:=sq wk2.k wk2.n hf ae q.t;have hcz:=q.t.TD hf ae;have DL:=bX _ q.t.wh λn _=>q.wh n;have Q2:=ai q;have FF2:=((Fr.of K01).trans q.F);have zc2:=q.we.dh;have zq2:=Qq.z;clear hp q h wk2 hf y_ y9;go_wp2_with fail;refine HO.mono ?_;rintro e w3⟨u3,rfl,ZS,K3⟩;clear HO;have HS:=oC _ w3 _ _ ZS hcz;obtain⟨n1,Jh⟩:∃n,n=sz (bG<|sub s1.k T1):=⟨_,rfl⟩;rw[<-Jh]at HS;have E1:=BV (sub s1.k T1) DL;rw[<-Jh]at E1;obtain⟨t3,x3,rfl⟩:=ZS.iface;have U3:=ZS.wide (Q:=dn c) λi p=>by obtain p|p:=p;exact p;show i≠c.cb;omega
 clear ZS Jh;go_wp2_with fail;refine HS.mono ?_;rintro e w4⟨rfl,k4⟩;clear HS;have K4:=K3.trans<|k4.mono K3.size;have U4:=U3.af k4;clear k4 K3 U3;by_cases Ua:48<n1
 .have hm:(48:Int)<(n1:Int):=ae;have HT:=lW (w:=w4) (a:Int) (y:Int);have⟨b1,b2,b3⟩:=UF.below K4;go_wp2_with fail;refine HT.mono ?_;rintro e w5⟨rfl,k5⟩;have k25:=K4.trans<|k5.mono K4.size;have F5:=Qq.below k25;clear HT b1 b2 b3;go_wp2_with fail;refine leaves_cons (f:=312) (args:=#[Pv<|w.heap.size+1]) ag Mw ?_;refine(Am (w.heap.size+1) F5 ⟨7,a,y⟩ Zv Zv<|jf ⟨rfl,rfl⟩).mono ?_;rintro e u' w9⟨rfl,rfl,hB,hF⟩;obtain⟨c9,_,_⟩:=hB;simp[Leaves,settle,results,jj,go_sem,c9];exact⟨(((FF2.fD λ_ r=>jf r).trans<|Fr.of k25)).gH hF<|λi r=>jh ae,.ok (T1,s1),Q2.m,jf ⟨E1.1.1 Ua,rfl⟩⟩
 have hm:¬(48:Int)<(n1:Int):=ae;have hs:size (sub s1.k T1)<=48:=by have:=E1.1;omega
 have Mo:=E1.2 hs;rw[Mo]at U4;clear Mo E1 hcz;have hwT:=DL;have h:=uh HA;have FF4:=FF2.trans<|Fr.of K4;have HV:=oB x w4 Q _<|h.pe.move FF4.size (λb p z=>FF4.block b z (h.hq b p).1)<|λ_ p _=>p;have⟨b1,b2,b3⟩:=UF.below K4;clear h FF4;go_wp2_with fail;refine HV.mono ?_;rintro e w5⟨rfl,k5⟩;have K5:=K4.trans<|k5.mono K4.size;have U5:=ai<|U4.af k5;clear HV k5 b1 b2 b3 U4 K4;have h:=uh HA;have FF5:=FF2.trans<|Fr.of K5;have we5:=Q2.we.af K5;have fb5:=Qq.below K5;have nm5:=UF.below K5;have nee:¬c.eb=w.heap.size:=ae;have neb:¬c.eb=w.heap.size+1:=ae;have agk:bM w5 (λi=>i≠c.cb/\i≠c.eb/\i≠w.heap.size+1) c.nb Γ:=h.wt.e.move FF5.size (FF5.block _ h.wt.e.lt h.wt.n.1) (λb p z=>FF5.block b z p.1)<|λb p z=>⟨p.1,p.2,ae⟩;have TOP:∀T:Ty,T=(if jo x then sub s1.k T1 else jl (sub s1.k T1))->In.Top ⟨Ty.var,s1.u⟩ (jm Γ st ⟨T,vars [] T⟩):=λT hT y d hd=>by
  rw[jm]at hd;split at hd
  .injection hd with hd;subst hd;refine⟨rfl,λv hv=>?_⟩;have hv:=In.bu.1 hv;rw[hT]at hv;split at hv
   .exact⟨(kp2.ok.An ti2.use hv).1,rfl⟩
   .have⟨m,_,o⟩:=(In.bZ _).1 hv;simp[aD,bK]at o
  .exact⟨(h.wt.top y d hd).1,λv hv=>⟨kp2.run.mono v ((h.wt.top y d hd).2 v hv).1,rfl⟩⟩
 have DM:∀d z,jm Γ st d z≠none->z∈c.nl:=λd z hz=>by
  rw[jm]at hz;split at hz
  .rename_i e;rw[e];exact h.iC
  .exact h.wt.dm z hz
 have WE5:=ai we5;have FB5:=ai fb5;have NM5:=ai nm5;have ail:=ai agk;have aim:=ai FF5;clear h FF5 we5 fb5 nm5 agk UF Qq FF2 kp2 ti2 DL
 cases hV:jo x with
 |true=>
  have hnt:(Op.unary .not<|.bool true).run jk w5=.ok (.bool false) w5:=rfl;obtain⟨T,hT⟩:∃T,T=sub s1.k T1:=⟨_,rfl⟩;have HVT:Hid (T=if jo x=true then sub s1.k T1 else jl (sub s1.k T1)):=ai (by rw[hV,hT];rfl);obtain⟨tz,xz,hz⟩:∃tz xz,tz=t3/\xz=x3:=⟨_,_,rfl,rfl⟩;obtain⟨rfl,rfl⟩:=hz;have hTs:size T<=48:=by rw[hT];exact hs
  have hTw:Whole T:=by rw[hT];exact hwT
  have TZ:Hid (cR w5 (dn c) T<|Fv tz xz):=by rw[hT];exact U5
  have KW:Hid (Bq w5 w5):=ai<|Below.refl _ _;clear hV hT U5;obtain⟨wz,hz⟩:∃wz,wz=w5:=⟨_,rfl⟩;subst hz;exact Mt
 |false=>
  have hnt:(Op.unary .not<|.bool false).run jk w5=.ok (.bool true) w5:=rfl;have HCL:=Ao U5 ae;obtain⟨T,hT⟩:∃T,T=jl (sub s1.k T1):=⟨_,rfl⟩;have HVT:Hid (T=if jo x=true then sub s1.k T1 else jl (sub s1.k T1)):=ai (by rw[hV,hT];rfl);have hTs:size T<=48:=by rw[hT,ng];exact hs
  have hTw:Whole T:=by rw[hT];exact bX _ hwT λn _=>wP
  rw[<-hT]at HCL;have zc5:=WE5.dh;clear hV hT U5;go_wp2_with fail;refine HCL.mono ?_;rintro e wz⟨uc,rfl,huc,kc⟩;clear HCL;obtain⟨tz,xz,rfl⟩:=huc.iface;have TZ:Hid (cR wz (dn c) T<|Fv tz xz):=ai (huc.wide λi p=>by show i≠c.cb;have:w5.heap.size<=i:=p;omega);have KW:=ai kc;clear huc kc;exact Mt
end
def Ap:Cq 94 #[] w λe w'=>e=.returned (Mv w.heap.size)/\sr w' w.heap.size/\Bq w w'/\w'.heap.size=w.heap.size+1:=by
 have iE:= @run_makeMap jk;have M0:=MG.new Value.string w;have k0:Bq w (w.alloc<|.map #[] 0):=bw _;have Z0:(w.alloc<|.map #[] 0).heap.size=w.heap.size+1:=by simp
 have K0:=ai k0;go_enter func94,ntmps94;go_wp2_with((refine b8 Mf Em rfl _ _ _ (Or.inl rfl) rfl M0 _ _ rfl rfl ?_;clear M0;intro w' H' O';have M0:=ai H';have K1:=K0;have Z1:=Z0;clear K0 Z0;have K0:=ai (One.below K1 O'<|by exact br _);have Z0:=ai<|O'.size.trans Z1;clear H' O' K1 Z1));go_ret;refine⟨rfl,⟨_,M0,?_,?_,?_,?_⟩,K0,Z0⟩;all_goals(simp only[aJ];rfl)
def ad2 nl:Cq 62 #[] w λe w'=>∃c:WC,e=.returned (Pv c.eb)/\Bq w w'/\WT w' c 0 (λ_=>False) (λ_=>none)/\c.nb≠c.mb/\c.mks=(λ_=>none)/\c.nl=nl/\w.heap.size<=c.cb/\w.heap.size<=c.eb/\w.heap.size<=c.mb:=by
 have iE:= @run_makeMap Tryz.prog;go_enter func62,ntmps62;go_wp2_with fail;refine(vh).mono ?_;rintro e w1⟨rfl,vo⟩;have k1:Bq w w1:=by rw[vo];exact bw _
 have C1':Bx w1 w.heap.size #[Iv 0]:=by rw[vo];exact Bx.new w #[Iv 0] 3
 have z1:w1.heap.size=w.heap.size+1:=by rw[vo];simp
 have K1:=ai k1;clear vo k1;go_wp2_with fail;refine(Ap).mono ?_;rintro e w2⟨rfl,R2,k2,z2⟩;have K2:=ai k2;clear k2
 go_wp2
 go_ret;obtain⟨w3,sw⟩:∃w3,w3=w2.alloc (.map #[] 0):=⟨_,rfl⟩;obtain⟨w4,hw4⟩:∃w4,w4=w3.alloc (.map #[] 0):=⟨_,rfl⟩;have k3:Bq w2 w3:=by rw[sw];exact bw _
 have k4:Bq w3 w4:=by rw[hw4];exact bw _
 have z3:w3.heap.size=w2.heap.size+1:=by rw[sw];simp
 have z4:w4.heap.size=w3.heap.size+1:=by rw[hw4];simp
 have k2:=uh K2;have k1:=uh K1;have m3:MG Sv w3 (w.heap.size+2) []:=by rw[sw,show w.heap.size+2=w2.heap.size by omega];exact MG.new _ w2
 have m4:MG Sv w4 (w.heap.size+3) []:=by rw[hw4,show w.heap.size+3=w3.heap.size by omega];exact MG.new _ w3
 rw[<-sw,<-hw4];obtain⟨w5,hw5⟩:∃w5,w5=w4.alloc (Cv #[.func (.func 47) #[] #[Pv w.heap.size],Mv<|w.heap.size+1,Mv<|w.heap.size+2,Mv<|w.heap.size+3] 218):=⟨_,rfl⟩;have k5:Bq w4 w5:=by rw[hw5];exact bw _
 have z5:w5.heap.size=w.heap.size+5:=by rw[hw5];simp;omega
 have b5:Bx w5 (w.heap.size+4) #[.func (.func 47) #[] #[Pv w.heap.size],Mv<|w.heap.size+1,Mv<|w.heap.size+2,Mv<|w.heap.size+3]:=by
  have:=Bx.new w4 #[.func (.func 47) #[] #[Pv w.heap.size],Mv<|w.heap.size+1,Mv<|w.heap.size+2,Mv<|w.heap.size+3] 218;rw[<-hw5,show w4.heap.size=w.heap.size+4 by omega]at this;exact this
 have z1:w1.heap.size=w.heap.size+1:=ae;have Jx:=k4.trans<|k5.mono k4.size;have k35:=k3.trans<|Jx.mono k3.size;have k25:=k2.trans<|k35.mono k2.size;have kk:=k1.trans<|k25.mono k1.size;have res:∃c:WC,Rv (Pv<|w.heap.size+4)=Rv (Pv c.eb)/\Bq w w5/\WT w5 c 0 (λ_=>False) (λ_=>none)/\c.nb≠c.mb/\c.mks=(λ_=>none)/\c.nl=nl/\w.heap.size<=c.cb/\w.heap.size<=c.eb/\w.heap.size<=c.mb:=by
  refine⟨⟨w.heap.size+4,w.heap.size,w.heap.size+1,w.heap.size+2,w.heap.size+3,w.heap.size+5,λ_=>none,nl⟩,rfl,kk,⟨⟨b5,C1'.below k25,?_,⟨[],m3.same<|Jx.block _ ae,λ_ _=>rfl,λx v h=>ZC⟩,?_,?_⟩,⟨[],m4.same<|k5.block _ ae,λ_ _=>rfl,λx v h=>ZC⟩,?_,λn q=>q.elim,(λy d q=>mD),λx q=>absurd rfl q⟩,?_,rfl,rfl,?_,?_,?_⟩
  .have:=R2.same (w':=w5)<|k35.block _ ae
   rwa[z1]at this
  all_goals(dsimp only;omega)
 rw[hw5]at res;exact res
end
end Go.Proofs.YtfnkchdeheeiiaaGreatDoor

import Derived.Test.YtnldmeakhapdhaaGreatDoorRFd
import Derived.Test.YtnldmeakhapdhaaGreatDoorRYb
set_option linter.all false
set_option maxRecDepth 100000
set_option maxHeartbeats 4000000
namespace Go.Proofs.YtnldmeakhapdhaaGreatDoor
open _root_.List renaming setIfInBounds_toArray->ja,set_cons_zero->jc,set_cons_succ->jd
open Or renaming inr->jf,inl->jh
open In renaming cz->ji,sg->jj,dU->jk,bX->jl,inf->jm,sF->jo,Env->jp
open _root_.Nat renaming le_of_eq->jq
open Go.Act renaming put->jt
open And renaming intro->ju
open Go Go.RowKit Go.ChangeMaps Go.MapKept Un
variable {st:BA} {dom:BA->Prop} {rc:Bool} {fn:Func} {Γ:jp} {a nb y:Nat} {Q u:Nat->Prop} {x:Nd} {P:Program} {v:Value} {c:WC} {w w':World}
def IA{P:Program}(h4:fn.results=#[.tmp 4,.cell 5 89])(T:Array Value)(i:Nat)(v:Value)(h:i≠4/\i≠5):results fn (T.setIfInBounds i v)=results fn T:=by
 have e:∀j,j≠i->(T.setIfInBounds i v).getD j undef=T.getD j undef:=λj hj=>by
  simp only[Array.getD_eq_getD_getElem?,Array.getElem?_setIfInBounds_ne<|Ne.symm hj]
 unfold results;rw[h4];simp only[Array.mapM_eq_mapM_toList,List.mapM_cons,List.mapM_nil,e 4<|Ne.symm h.1,e 5<|Ne.symm h.2]
def Nn(h4:fn.results=#[.tmp 4,.cell 5 89])T i v(h:i≠4/\i≠5)R:∀(ds:List Deferred)(u:FrameMode)(w:World),Leaves P fn (T.setIfInBounds i v) R ds u w->Leaves P fn T R ds u w:=by
 intro ds
 induction ds with
 |nil=>
  intro u w q
  cases u with
  |returning=>simp only[Leaves]at q⊢;rw[IA (P:=P) h4 T i v h]at q;exact q|panicking c=>exact q|run=>exact q
 |cons d ds ih=>
  intro u w q;simp only[Leaves]at q⊢;obtain⟨q1,fv,cap,f,args,q2,q3,q4⟩:=q;refine⟨q1,fv,cap,f,args,q2,q3,q4.mono ?_⟩;intro e u' w' hq
  cases e with
  |returned v=>exact ih _ _ hq|panicked c=>exact ih _ _ hq|outgrown=>exact hq
def Ut(h4:fn.results=#[.tmp 4,.cell 5 89]){K}{R}{i}(h:i≠4/\i≠5)v c a w(q:(Exit.then K<|bodyPostD P fn R) (.panic c) (a.put (some i) v) w):(Exit.then K<|bodyPostD P fn R) (.panic c) a w:=Nn h4 a.tmps i v h R a.defers _ w q
section
variable {cnt:Nat}
def oD{ops}{Q}{md}{S}{oi}{fuel}{listed}{a}{w}i(h:wpAnyH P md ops Q S fuel (listed.setIfInBounds i true) (a.put oi.dst v) w)(hi:ops[i]? =some oi:=by rfl)(hs:Region.noSelect ops=true:=by kernel_rfl)(hf:Region.free md ops listed i=true:=by kernel_rfl)(hr:(Region.ready md ops listed).contains i=true:=by kernel_rfl)(hy:YieldsIf P ops S oi v a:=by exact .inl ⟨by rfl,by intro w hSw;(try dsimp only at hSw);go_simp;try with_reducible rfl⟩)(hQ:∀c a w,Q (.panic c) (a.put oi.dst v) w->Q (.panic c) a w:=by exact λc a w q=>Ut ak7 aB _ c a w q)(hS:S w:=by assumption):wpAnyH P md ops Q S (fuel+1) listed a w:=wpAnyH_take hi hs hf hr hQ hy hS h
def TB{p:Prop}(h:p:=by
 go_wp2_with fail;have nm:=NM5.below KW;have fb:=FB5.below KW;have we:=WE5.af KW;have env:=ak8.af KW;have tt:db wz (λi=>i≠c.cb/\i≠c.eb/\i≠w.heap.size+1) T (Fv tz xz):=((TZ.not (we.bx.c 0) ag).not (fb.c 0) ag).wide λi p=>⟨p.1.1,p.1.2,p.2⟩;have HVA:Hid (∀W':World,Bq wz W'->Cq 220 #[Fv tz xz] W' (λe w'=>∃sa sc,e=Rv (Lv sa (vars [] T).length sc)/\ri w' (λi=>i≠c.cb/\i≠c.eb/\i≠w.heap.size+1) sa (vars [] T)/\Bq W' w')):=ai λW' hb=>by
  refine(fN (tt.af hb) ae).mono ?_;rintro e w'⟨V,rfl,ho,k⟩;obtain⟨sa,sc,rfl,hr⟩:=Ir ho;exact⟨sa,sc,rfl,hr.move (br _) (λ_ _ _=>rfl) (λi p _=>by have:=hb.size;have:=KW.size;have:=FB5.z;omega),k⟩
 have HWI:Hid (∀(W':World)(sa:Option Addr)(sc:Nat),Bq wz W'->ri W' (λi=>i≠c.cb/\i≠c.eb/\i≠w.heap.size+1) sa (vars [] T)->Cq 219 #[Mv c.nb,Sv st,Av #[Fv tz xz,Lv sa (vars [] T).length sc]] W' (pJ (λi=>i≠c.cb/\i≠c.eb/\i≠w.heap.size+1) (ji Γ st ⟨T,vars [] T⟩) W')):=ai λW' sa sc hb hr=>x_ (env.af hb) st ⟨tz,xz,sa,sc,rfl,TW.of (tt.af hb) hTw<|show size T<=_ by omega,hr⟩;have f0:wz.cell? ⟨c.eb,3,none⟩=some (Mv c.nb):=we.bx.c 3;have f1:wz.cell? ⟨w.heap.size,3,none⟩=some (Sv st):=nm.c 3;have NM:=ai nm;have FB:=ai fb;have WEW:=ai we;have TT:=ai tt;clear nm fb we env tt;refine wp_region_noPanic ?_
 go_region_with(first
  |(go_at_call 220;go_loud(refine(HVA _ (Below.refl _ _).drew).mono ?_);rintro e w6⟨sa,sc,rfl,hr6,k6⟩;have k6':=(Below.refl _ _).drew.trans k6;have g0:w6.cell? ⟨c.eb,3,none⟩=some (Mv c.nb):=(WEW.af k6').bx.c 3;have g1:w6.cell? ⟨w.heap.size,3,none⟩=some (Sv st):=(NM.below k6').c 3;have K6:=ai k6';have R6:=ai hr6;clear k6 k6' hr6)
  |(go_at_call 219;go_loud(refine(HWI _ _ _ K6 R6).mono ?_);rintro e w7⟨b7,rfl,z7,h7,k7⟩;have k7':=K6.trans<|k7.mono K6.size;have g2:w7.cell? ⟨c.eb,3,none⟩=some (Mv c.nb):=(WEW.af k7').bx.c 3;have g3:w7.cell? ⟨w.heap.size,3,none⟩=some (Sv st):=(NM.below k7').c 3;have g4:w7.frozen? ⟨c.eb,3,none⟩=false:=(WEW.af k7').bx.f 3;have K7:=ai k7';have E7:=ai h7;have Z7:=ai z7;clear k7 k7' h7 z7))
 all_goals(
  refine NoPanic.normal ?_;have fb7:=FB.below K7;have FB7:=ai fb7;obtain⟨y1,y2,y3⟩:=fb7;go_wp2_with fail;have z7:=uh Z7;have z6:=K6.size;have zw:=FB.z;have l5:=HA.wt.we.l.2.2.2.2;have F8:=(FB7.bT (b2:=c.eb) ae 3<|Mv b7).Qb rfl (Iv 0) (Iv 0) (Iv 0) Zv .nilIface;have we7:=WEW.af K7;have E8:=(((((we7.bx.aR 3 (Mv b7) (afY {c with nb:=b7}) rfl ag).bT (b2:=w.heap.size+1) ae 0 (Iv 0)).bT (b2:=w.heap.size+1) ae 1 (Iv 0)).bT (b2:=w.heap.size+1) ae 2 (Iv 0)).bT (b2:=w.heap.size+1) ae 3 Zv).bT (b2:=w.heap.size+1) ae 4 .nilIface;have G8:=((((((Fr.refl (λi=>i=c.eb\/i=w.heap.size+1) w7).set (b:=c.eb) (jh<|jh rfl) 3<|Mv b7).set (b:=w.heap.size+1) (jh<|jf rfl) 0<|Iv 0).set (b:=w.heap.size+1) (jh<|jf rfl) 1<|Iv 0).set (b:=w.heap.size+1) (jh<|jf rfl) 2<|Iv 0).set (b:=w.heap.size+1) (jh<|jf rfl) 3 Zv).set (b:=w.heap.size+1) (jh<|jf rfl) 4 .nilIface;refine leaves_cons (f:=212) (args:=#[Pv<|w.heap.size+1]) ag qBb ?_;refine(acR<|w.heap.size+1).mono ?_;rintro e u' w9⟨rfl,rfl,rfl⟩;obtain⟨c9,_,_⟩:=F8;simp[Leaves,settle,results,Tryz.results210,go_sem,c9];have k7:=uh K7;have FW:=ak9.trans<|Fr.of KW
  refine⟨((FW.fZ λ_ r=>jh r).trans<|Fr.of k7).g_ G8<|λi r=>r.elim (λr=>jh<|jf r)<|λr=>jf ae,.ok (T1,s1),Q2.m,jf ⟨hs,T,tz,xz,ah,b7,HVT,rfl,(TT.af k7).move G8.size (λb p z=>G8.block b z<|λr=>r.elim p.2.1 p.2.2)<|λb p _=>p.1,hTw,ae,?_⟩⟩
  exact⟨we7.put (G8.fZ λi r=>r.imp id λr=>ae) E8,E7.move G8.size (G8.block _ E7.lt ae) (λb p z=>G8.block b z<|λr=>r.elim p.2.1 p.2.2)<|λb p _=>⟨p.1,p.2.1⟩,⟨by show b7≠c.cb;omega,by show b7≠c.eb;omega⟩,us2,TOP T HVT,DM _⟩)):p:=h
def agc(h:LtA rc st x c w cnt u Γ Q dom v):
 Cq 210 #[Pv c.eb,.agg #[.bool rc,Nv a,Nv y,.string st,v]] w (Yb c cnt u Γ rc st a y x w):=by
 obtain⟨tx,ax,rfl⟩:=h.pe.iface;have jA:= @run_makeMap Tryz.prog;obtain⟨w0,xF⟩:∃w0,w0=(w.alloc<|Cv #[.bool rc,Nv a,Nv y,Sv st,Fv tx<|Av ax] 83).alloc (Cv My 89):=⟨_,rfl⟩;have k0:Bq w w0:=by rw[xF];exact(bw _).alloc ag _
 have B0:Bx w0 w.heap.size #[.bool rc,Nv a,Nv y,Sv st,Fv tx<|Av ax]:=by rw[xF];exact(Bx.new w #[.bool rc,Nv a,Nv y,Sv st,Fv tx<|Av ax] 83).alloc (Cv My 89)
 have Yc:=h.wt.we.af k0;have f0:w0.cell? ⟨c.eb,3,none⟩=some (Mv c.nb):=Yc.bx.c 3;have f1:w0.cell? ⟨w.heap.size,0,none⟩=some (.bool rc):=B0.c 0;have f2:=B0.c 1;have f3:=B0.c 2;have f4:=B0.c 3;have f5:=B0.c 4;have k1:Bq w0 (w0.alloc<|.map #[] 0).drew:=(bw _).drew;have we1:=Yc.af k1;have BQ:=B0.below k1;have K01:=k0.trans<|k1.mono k0.size;have zc:=h.wt.we.dt;have ze:=h.wt.we.bx.z;have zz0:w0.heap.size=w.heap.size+2:=by rw[xF];simp
 have BS:Bx (w0.alloc<|.map #[] 0).drew (w.heap.size+1) My:=by
  have q:Bx w0 (w.heap.size+1) My:=by
   rw[xF];have:=Bx.new (w.alloc<|Cv #[.bool rc,Nv a,Nv y,Sv st,Fv tx<|Av ax] 83) My 89;simpa using this
  exact q.below k1
 have g0:=we1.bx.c 3;have g1:=BQ.c 0;have g2:=BQ.c 1;have g3:=BQ.c 2;have g4:=BQ.c 3;have g5:=BQ.c 4;have GS:=ju g0<|ju g1<|ju g2<|ju g3<|ju g4 g5;have KE:KW (w0.alloc<|.map #[] 0).drew (dw c) w0.heap.size Ty.var:=⟨λ_=>none,(fG.new w0<|dw c).af (Below.refl _ _).drew,λn=>⟨λ_=>rfl,λq=>absurd rfl q⟩⟩;have WK1:WK (w0.alloc<|.map #[] 0).drew c cnt ⟨Ty.var,u⟩ w0.heap.size:=⟨KE,ae,h.wt.hu,jo u,λn=>trivial⟩;have wg1:WG (w0.alloc<|.map #[] 0).drew c ⟨Ty.var,u⟩ (λn=>¬u n) Γ c.nb:=⟨(h.wt.e.af K01).wide λi p=>p.1,h.wt.n.1,h.wt.top.env,λy d q=>by rw[(h.wt.top y d q).1];exact dF _ List.nodup_nil,h.wt.dm⟩;have HB:=Iz (a:=a) (y:=y) (acQ x) (⟨we1,WK1,λn q=>q,wg1,h.pe.af K01,λb q=>(h.hq b q).1,h.sc,h.hd,h.ft,h.mf,h.jQ⟩:BdA rc st x c _ cnt ⟨Ty.var,u⟩ w0.heap.size (λn=>¬u n) Γ c.nb Q dom (Fv tx<|Av ax));rw[zz0]at HB;have HA:=ai h;clear k0 k1 Yc we1 B0 KE WK1 wg1 g0 g1 g2 g3 g4 g5 h;have ak7:Tryz.f210.results=#[.tmp 4,.cell 5 89]:=rfl
 go_enter_defers Tryz.func210,Tryz.ntmps210
 go_wp2_with fail;rw[<-xF];clear xF;refine wp_region_held_drew (S:=λw'=>w'.cell? ⟨c.eb,3,none⟩=some (Mv c.nb)/\w'.cell? ⟨w.heap.size,0,none⟩=some (.bool rc)/\w'.cell? ⟨w.heap.size,1,none⟩=some (Nv a)/\w'.cell? ⟨w.heap.size,2,none⟩=some (Nv y)/\w'.cell? ⟨w.heap.size,3,none⟩=some (Sv st)/\w'.cell? ⟨w.heap.size,4,none⟩=some (Fv tx<|Av ax)) qkr ⟨f0,f1,f2,f3,f4,f5⟩<|λhHeld=>?_;refine oD 0 ?_;try simp only[jt,ja,jc,jd]
 refine oD 2 ?_;try simp only[jt,ja,jc,jd]
 refine oD 3 ?_;try simp only[jt,ja,jc,jd]
 refine oD 4 ?_;try simp only[jt,ja,jc,jd]
 refine oD 5 ?_;try simp only[jt,ja,jc,jd]
 refine oD 6 ?_;try simp only[jt,ja,jc,jd]
 refine wpAnyH_ready (rs:=[1]) qkr ag ?_;refine AllReadyH.cons rfl (λK hK=>?_) AllReadyH.nil;go_simp;refine hK.out _ _ GS<|λagd=>?_;clear hK K hHeld f0 f1 f2 f3 f4 f5;refine wpAnyH_ready (rs:=[7]) qkr ag ?_;refine AllReadyH.cons rfl (λK hK=>?_) AllReadyH.nil;go_simp;refine HB.mono ?_;intro e w2 hp;clear HB agd GS;obtain⟨ah,z,vl,vr,rfl,q⟩|⟨ah,T1,s1,yT,yU,iV,rfl,q⟩:=hp.split
 .clear hK;have F2:=BS.fr q.F ae;refine leaves_cons (f:=212) (args:=#[Pv<|w.heap.size+1]) ag qBb ?_;refine(CI (w.heap.size+1) F2 z.f vl vr q.f.hv).mono ?_;rintro e u' w9⟨rfl,rfl,hB,hF⟩;obtain⟨c9,_,_⟩:=hB;simp[Leaves,settle,results,Tryz.results210,go_sem,c9];exact⟨(((Fr.of K01).trans<|q.F.fZ λ_ r=>jh r)).g_ hF<|λi r=>jf ae,.error z,q.m,vl,vr,rfl,q.f.one (F2.c 0) ag hF⟩
 have h:=uh HA;have Yd:=BQ.fr q.F ae;refine hK.out _ _ ⟨q.we.bx.c 3,Yd.c 0,Yd.c 1,Yd.c 2,Yd.c 3,Yd.c 4⟩<|λage=>?_;clear hK K;refine oD 8 ?_;try simp only[jt,ja,jc,jd]
 refine oD 9 ?_;try simp only[jt,ja,jc,jd]
 refine oD 10 ?_;try simp only[jt,ja,jc,jd]
 refine oD 11 ?_;try simp only[jt,ja,jc,jd]
 refine oD 12 ?_;try simp only[jt,ja,jc,jd]
 refine wpAnyH_done qkr ?_ _;clear age;have Uf:=BS.fr q.F ae;have⟨kp2,ti2⟩:=In.iB rc st x (In.mn c.mks x) Γ ⟨Ty.var,u⟩ (λn=>¬u n) (jo u) (λn r=>r) h.wt.top.env T1 s1 q.m;have c1:=q.c1;have c2:=q.c2;have WZ:=h.ft.a;have ftb:=h.ft.b;have us2:∀n,s1.u n->us ah n:=λn p=>by obtain r|r:=q.u n p;have:=h.wt.hu n r;unfold us at*;omega;rw[us];omega
 have wk2:WK w2 c ah s1 iV:=⟨q.k,q.n,us2,kp2.ok,q.wh⟩;have hf:=wk2.Ee ae<|jf trivial;have HO:=uv wk2.k wk2.n hf ae q.t;have hcz:=q.t.Xw hf ae;have Hg:=ck _ q.t.wh λn _=>q.wh n;have Q2:=ai q;have FF2:=((Fr.of K01).trans q.F);have zc2:=q.we.dt;have zq2:=Uf.z;clear hp q h wk2 hf BS BQ;go_wp2_with fail;refine HO.mono ?_;rintro e w3⟨u3,rfl,hu3,K3⟩;clear HO;have HS:=pR _ w3 _ _ hu3 hcz;obtain⟨n1,Mw⟩:∃n,n=sz (bL<|sub s1.k T1):=⟨_,rfl⟩;rw[<-Mw]at HS;have E1:=Em (sub s1.k T1) Hg;rw[<-Mw]at E1;obtain⟨t3,x3,rfl⟩:=hu3.iface;have U3:=hu3.wide (Q:=dw c) λi p=>by obtain p|p:=p;exact p;show i≠c.cb;omega
 clear hu3 Mw;go_wp2_with fail;refine HS.mono ?_;rintro e w4⟨rfl,k4⟩;clear HS;have K4:=K3.trans<|k4.mono K3.size;have U4:=U3.af k4;clear k4 K3 U3;by_cases XV:48<n1
 .have hm:(48:Int)<(n1:Int):=ae;have HT:=nh (w:=w4) (a:Int) (y:Int);have⟨b1,b2,b3⟩:=Yd.below K4;go_wp2_with fail;refine HT.mono ?_;rintro e w5⟨rfl,k5⟩;have k25:=K4.trans<|k5.mono K4.size;have F5:=Uf.below k25;clear HT b1 b2 b3;go_wp2_with fail;refine leaves_cons (f:=212) (args:=#[Pv<|w.heap.size+1]) ag qBb ?_;refine(CI (w.heap.size+1) F5 ⟨7,a,y⟩ Zv Zv<|jh ⟨rfl,rfl⟩).mono ?_;rintro e u' w9⟨rfl,rfl,hB,hF⟩;obtain⟨c9,_,_⟩:=hB;simp[Leaves,settle,results,Tryz.results210,go_sem,c9];exact⟨(((FF2.fZ λ_ r=>jh r).trans<|Fr.of k25)).g_ hF<|λi r=>jf ae,.ok (T1,s1),Q2.m,jh ⟨E1.1.1 XV,rfl⟩⟩
 have hm:¬(48:Int)<(n1:Int):=ae;have hs:size (sub s1.k T1)<=48:=by have:=E1.1;omega
 have Mr:=E1.2 hs;rw[Mr]at U4;clear Mr E1 hcz;have hwT:=Hg;have h:=uh HA;have FF4:=FF2.trans<|Fr.of K4;have HV:=pP x w4 Q _<|h.pe.move FF4.size (λb p z=>FF4.block b z (h.hq b p).1)<|λ_ p _=>p;have⟨b1,b2,b3⟩:=Yd.below K4;clear h FF4;go_wp2_with fail;refine HV.mono ?_;rintro e w5⟨rfl,k5⟩;have K5:=K4.trans<|k5.mono K4.size;have U5:=ai<|U4.af k5;clear HV k5 b1 b2 b3 U4 K4;have h:=uh HA;have FF5:=FF2.trans<|Fr.of K5;have we5:=Q2.we.af K5;have fb5:=Uf.below K5;have nm5:=Yd.below K5;have nee:¬c.eb=w.heap.size:=ae;have neb:¬c.eb=w.heap.size+1:=ae;have aiR:bS w5 (λi=>i≠c.cb/\i≠c.eb/\i≠w.heap.size+1) c.nb Γ:=h.wt.e.move FF5.size (FF5.block _ h.wt.e.lt h.wt.n.1) (λb p z=>FF5.block b z p.1)<|λb p z=>⟨p.1,p.2,ae⟩;have TOP:∀T:Ty,T=(if jj x then sub s1.k T1 else jk (sub s1.k T1))->In.Ye ⟨Ty.var,s1.u⟩ (ji Γ st ⟨T,vars [] T⟩):=λT hT y d hd=>by
  rw[ji]at hd;split at hd
  .injection hd with hd;subst hd;refine⟨rfl,λv hv=>?_⟩;have hv:=In.aC.1 hv;rw[hT]at hv;split at hv
   .exact⟨(kp2.ok.og ti2.use hv).1,rfl⟩
   .have⟨m,_,o⟩:=(In.bO _).1 hv;simp[aw,bW]at o
  .exact⟨(h.wt.top y d hd).1,λv hv=>⟨kp2.run.mono v ((h.wt.top y d hd).2 v hv).1,rfl⟩⟩
 have DM:∀d z,ji Γ st d z≠none->z∈c.nl:=λd z hz=>by
  rw[ji]at hz;split at hz
  .rename_i e;rw[e];exact h.jQ
  .exact h.wt.dm z hz
 have WE5:=ai we5;have FB5:=ai fb5;have NM5:=ai nm5;have ak8:=ai aiR;have ak9:=ai FF5;clear h FF5 we5 fb5 nm5 aiR Yd Uf FF2 kp2 ti2 Hg
 cases hV:jj x with
 |true=>
  have hnt:(Op.unary .not<|.bool true).run Tryz.prog w5=.ok (.bool false) w5:=rfl;obtain⟨T,hT⟩:∃T,T=sub s1.k T1:=⟨_,rfl⟩;have HVT:Hid (T=if jj x=true then sub s1.k T1 else jk (sub s1.k T1)):=ai (by rw[hV,hT];rfl);obtain⟨tz,xz,hz⟩:∃tz xz,tz=t3/\xz=x3:=⟨_,_,rfl,rfl⟩;obtain⟨rfl,rfl⟩:=hz;have hTs:size T<=48:=by rw[hT];exact hs
  have hTw:Whole T:=by rw[hT];exact hwT
  have TZ:Hid (db w5 (dw c) T<|Fv tz xz):=by rw[hT];exact U5
  have KW:Hid (Bq w5 w5):=ai<|Below.refl _ _;clear hV hT U5;obtain⟨wz,hz⟩:∃wz,wz=w5:=⟨_,rfl⟩;subst hz;exact TB
 |false=>
  have hnt:(Op.unary .not<|.bool false).run Tryz.prog w5=.ok (.bool true) w5:=rfl;have HCL:=CJ U5 ae;obtain⟨T,hT⟩:∃T,T=jk (sub s1.k T1):=⟨_,rfl⟩;have HVT:Hid (T=if jj x=true then sub s1.k T1 else jk (sub s1.k T1)):=ai (by rw[hV,hT];rfl);have hTs:size T<=48:=by rw[hT,lp];exact hs
  have hTw:Whole T:=by rw[hT];exact ck _ hwT λn _=>yZ
  rw[<-hT]at HCL;have zc5:=WE5.dt;clear hV hT U5;go_wp2_with fail;refine HCL.mono ?_;rintro e wz⟨uc,rfl,huc,kc⟩;clear HCL;obtain⟨tz,xz,rfl⟩:=huc.iface;have TZ:Hid (db wz (dw c) T<|Fv tz xz):=ai (huc.wide λi p=>by show i≠c.cb;have:w5.heap.size<=i:=p;omega);have KW:=ai kc;clear huc kc;exact TB
end
section
variable {cnt:Nat} {P:Nat->Prop}
def WT.below(h:WT w c cnt u Γ)(hb:Bq w w'):WT w' c cnt u Γ:=⟨h.we.af hb,h.e.move hb.size (hb.block _ h.e.lt) (λb _ z=>hb.block b z)<|λ_ p _=>p,h.n,h.hu,h.top,h.dm⟩
def ait{mb}{mks}(h:bS w P nb Γ)(k:m5 w Q mb mks){d}(q:Γ st=some d):nb≠mb:=by
 rintro rfl;obtain⟨L,h1,h2,h3⟩:=h;obtain⟨L',k1,k2,k3⟩:=k
 cases h1.akC k1
 cases hg:a_ st L with
 |none=>grind|some v=>
  obtain⟨_,_,ta,xa,sa,sc,rfl,_⟩:=h3 st v hg;have⟨_,_,_,_,_,_,_,e,_⟩:=k3 st _ hg;simp at e
def ru.all{z}{vl vr}(h:ru w P z vl vr):ru w (λ_=>True) z vl vr:=
 ⟨h.qN,λq=>⟨(h.apart q).1.move (br _) (λ_ _ _=>rfl)<|λ_ _ _=>trivial,(h.apart q).2.move (br _) (λ_ _ _=>rfl)<|λ_ _ _=>trivial⟩,h.k⟩
end
def StW eb lo base nl w cnt mks(s:In.St)(Γ:jp):=∃(c:WC)(u:Nat->Prop),c.eb=eb/\(lo<=c.cb/\lo<=c.eb/\lo<=c.mb)/\(c.cb<base/\c.eb<base)/\c.mks=mks/\c.nl=nl/\s=⟨Ty.var,u⟩/\c.nb≠c.mb/\WT w c cnt u Γ
def ami{eb lo base}{nl}(hl:nl.length<=1000000):Za 65 eb lo base true nl (StW eb lo base nl):=by
 refine⟨?_,?_,⟨_,λw=>metW_Makers _ w,λ_ _=>qkr,?_⟩,⟨_,λw=>metW_Let _ w,λ_ _=>qkr,?_⟩⟩
 .rintro w w' cnt mks s Γ⟨c,u,h1,h2,h3,h4,h5,h6,h7,h⟩hb;exact⟨c,u,h1,h2,h3,h4,h5,h6,h7,h.below hb⟩
 .rintro w w' cnt mks s Γ b x⟨c,u,h1,h2,h3,h4,h5,h6,h7,h⟩hb hx ho f;exact⟨c,u,h1,h2,h3,h4,h5,h6,h7,h.other ⟨ae,ae⟩ hx ho f⟩
 .rintro w cnt mks s Γ t vs ms f x vv vm⟨c,u,rfl,h2,h3,rfl,rfl,rfl,h7,h⟩hv hm hd;have⟨Lm,hMG,_⟩:=id h.we.ms;refine(Wy h hv hm hd).mono ?_;rintro e w'⟨rfl,hf,hw⟩;refine⟨rfl,.of hf (λb q=>by subst q;exact h2.2.2) (λb y q _ e _=>by subst q;rw[hMG.bE 0]at e;cases e),?_⟩;exact⟨acb c t vs ms w'.heap.size,u,rfl,h2,h3,rfl,rfl,rfl,h7,h.aaR h7 hf hw⟩
 .rintro w cnt mks s Γ rc st x v a y dom⟨c,u,rfl,h2,h3,rfl,rfl,rfl,h7,h⟩hp hs hd jQ ha hb hm;refine(agc (Q:=(·<lo)) (a:=a) (y:=y) ⟨h,hp,λb q=>by have:b<lo:=q;omega,hs,hd,⟨ha,hb,hl⟩,hm,jQ⟩).mono ?_;rintro e w'⟨hf,o,ho,hq⟩;refine⟨.of hf (λb q=>by obtain rfl|rfl:=q;exact h2.1;exact h2.2.1) (λb z q hz _ _=>by obtain rfl|rfl:=q<;>omega),o,ho,?_⟩
  cases o with
  |error z=>
   obtain⟨vl,vr,e1,e2⟩:=hq;exact⟨vl,vr,e1,e2.all⟩
  |ok p=>
   obtain⟨t,s1⟩:=p;obtain⟨z,e1⟩|⟨z,T,ta,xa,aD,Wh,e1,e2,e3,e4,e5,e6⟩:=hq
   .grind
   .refine jf ⟨z,T,ta,xa,aD,e1,e2,(e3.v e4).move (br _) (λ_ _ _=>rfl)<|λ_ _ _=>trivial,ae,{c with nb:=Wh},s1.u,rfl,h2,h3,rfl,rfl,rfl,ait e6.e e6.we.ms (st:=st) (d:=⟨T,vars [] T⟩)<|by simp[ji],e6⟩
def akN rc st x(Γ:jp)c nb l D g s cnt w e w':=
 (∃n g' s' aD T,e=.returned (nA n)/\jl rc st x (jm c.mks x) Γ s (.ok (T,s'))/\AJ w' c nb l aD g' s'/\fY l c w g s w' g' s'/\aD<=cnt+D/\Cn g' s' (In.gd (l7 rc st Γ) s'.k T<|jj x) n)\/uk c (jl rc st x (jm c.mks x) Γ) g s w e w'
section
variable {w1 W:World} {g:f_} {s:In.St} {c:JC} {l cnt b:Nat}
def AJ.VY(a:AJ w c nb l cnt g s)l'(hl:l<=l'):AJ (w.setCell ⟨c.eb,4,none⟩<|Nv l') c nb l' cnt g s:=a.eng (gJ _ _ _ _) (a.je.bx.aR 4 _ _ rfl ag) hl
def Mg(Hx:jO x)(h:BdJ rc st x c w nb l cnt g s Γ dom v)(fb:l+1+nn x<=805):Cq 281 #[nA c.eb,.agg #[.bool rc,Nv a,Nv y,.string st,v]] w (akN rc st x Γ c nb l (1000*(1+nn x)) g s cnt w):=by
 have fa:=h.fa;have o1:=gJ w c.eb 4<|Iv<|(l:Int)+1;have k1:Bq (w.setCell ⟨c.eb,4,none⟩<|Iv<|(l:Int)+1) ((w.setCell ⟨c.eb,4,none⟩<|Iv<|(l:Int)+1).alloc<|Cv #[.bool rc,Nv a,Nv y,Sv st,v] 83):=bw _;have h1:=h.aj.iU<|br _;have b1:=Bx.at (w.setCell ⟨c.eb,4,none⟩<|Iv<|(l:Int)+1) #[.bool rc,Nv a,Nv y,Sv st,v] 83 w.heap.size o1.size.symm;have ze:=h.aj.je.bx.z;have a1:=(h.aj.VY (l+1)<|Nat.le_succ l).af k1;have pe1:=(h.pe.move (w':=w.setCell ⟨c.eb,4,none⟩<|Iv<|(l:Int)+1) (Q:=λb=>b<c.lo) (jq o1.size.symm) (λb p _=>o1.block b λe=>by have:=h.aj.je.z;omega)<|λ_ p _=>p).af k1;have en1:=(h.en.one o1<|h.en.afI h.aj.je).af k1;obtain⟨W1,HW⟩:∃W,W=(w.setCell ⟨c.eb,4,none⟩<|Iv<|(l:Int)+1).alloc (Cv #[.bool rc,Nv a,Nv y,Sv st,v] 83):=⟨_,rfl⟩;have k1':Fr (jS c g) w W1:=by rw[HW];exact(o1.fr<|jf<|jh rfl).trans (Fr.of k1)
 have a1:AJ W1 c nb (l+1) cnt g s:=by rw[HW];exact a1
 have en1:ch W1 nb Γ g s:=by rw[HW];exact en1
 have pe1:PE W1 (λb=>b<c.lo) x v:=by rw[HW];exact pe1
 have b1:Bx W1 w.heap.size #[.bool rc,Nv a,Nv y,Sv st,v]:=by rw[HW];exact b1
 have t1:fY (l+1) c w g s W1 g s:={fY.refl h.aj.js c (l+1)with fr:=k1'};have H1:=acn (a:=a) (y:=y) Hx ⟨a1,en1,pe1,h.sc,h.hd,h.fa,fb,h.mf⟩;have nm:∀y d,Γ y=some d->∃m,Cn g s d m:=λy d q=>by
  have⟨L,_,hq⟩:=h.en;obtain⟨q1,_⟩|⟨d',m,q1,_,q3⟩:=hq y
  .rw[q1]at q;cases q
  .rw[q1]at q;injection q with q;subst q;exact⟨m,q3⟩
 have l1:l+1<aL:=ZQ;have HK:∀w2 w4 w5 n2 g2 s2 cJ T2 bi cB D,jl rc st x (jm c.mks x) Γ s (.ok (T2,s2))->AJ w2 c nb (l+1) cJ g2 s2->fY (l+1) c W1 g s w2 g2 s2->nR (l+1) g2 s2 n2 T2->cJ<=cnt+1000*(1+nn x)->Below w2.heap.size (w2.setCell ⟨c.eb,4,none⟩<|Nv l) w4->GL w5 g2.ds g2.str bi g2.vr g2.ly cB->Fr (λb=>b∈g2.ds) w4 w5->iS g2.str g2.nx bi->TpD (if jj x then aL else l) g2 cB n2 l D->akN rc st x Γ c nb l (1000*(1+nn x)) g s cnt w (Rv<|nA n2) w5:=λw2 w4 w5 n2 g2 s2 cJ T2 bi cB D p2 a2 t2 r2 hc k4 hg F e d=>by
  have o:=gJ w2 c.eb 4<|Nv l;have F':Fr (jS c g2) w2 w5:=((o.fr<|jf<|jh rfl).trans<|Fr.of<|k4.mono<|jq o.size).trans<|F.fZ λb q=>jf<|jf q;have bx:=((a2.je.bx.aR 4 (Nv l) (Wk c nb l) rfl ag).below (k4.mono<|jq o.size)).fr F (a2.je.Bh a2.js);have ct:=(((a2.je.ct.one o<|Ne.symm a2.je.ne.1).below<|k4.mono<|jq o.size).fr F<|a2.je.Bi a2.js);have⟨g5,a5,t5,n5⟩:=WL h.aj l1 nm a2 (t1.trans h.aj.js a1.js a2.js t2) r2 p2 hg e d F'<|a2.je.fr a2.js F' bx ct;exact jh ⟨n2,g5,s2,cJ,T2,rfl,p2,a5,t5,hc,n5⟩
 have HF:=And.intro t1.fr<|λb=>h.aj.jlo (b:=b);have f4:=h.aj.je.bx.c 4;have f5:=h.aj.je.bx.f 4;have HV:=And.intro pe1 b1;obtain⟨tx,ax,rfl⟩:=h.pe.iface;obtain⟨c1,c2,c3⟩:=b1;go_enter Tryz.func281,Tryz.ntmps281;go_wp2_with fail;rw[<-HW];refine H1.mono ?_;rintro e w2(⟨n2,g2,s2,cJ,T2,rfl,P2,A2,T2',UE,R2⟩|hb)
 .have o:=gJ w2 c.eb 4<|Nv l;have f6:=A2.je.bx.c 4;have f7:=A2.je.bx.f 4;have zl:=c3;have bb:=HV.2.fr T2'.fr h1;have⟨d1,d2,d3⟩:=bb.one o ae;have pe3:=(HV.1.move (Q:=λb=>b<c.lo) T2'.fr.size (λb p q=>T2'.fr.block b q<|HF.2 b p)<|λ_ p _=>p).move (w':=w2.setCell ⟨c.eb,4,none⟩<|Nv l) (Q:=λb=>b<c.lo) (jq o.size.symm) (λb p _=>o.block b λe=>by have:=A2.je.z;omega)<|λ_ p _=>p;have HI:=pP x _ _ _ pe3;have b3:=((A2.je.bx.aR 4 (Nv l) (Wk c nb l) rfl ag).c 4);go_wp2_with fail;refine HI.mono ?_;rintro e w4⟨rfl,K4⟩;have g4:=((A2.js.eb A2.je<|gJ w2 c.eb 4<|Nv l).af K4).gl;have l4:=((A2.je.bx.aR 4 (Nv l) (Wk c nb l) rfl ag).below K4).c 4
  cases hv:jj x with
  |true=>
   have HG:=ahZ (fp g2.ds g2.lv l) w4 g2.nx g2.lv n2 l g4 R2.mem<|br _;go_wp2_with fail;refine HG.mono ?_;rintro e w5⟨rfl,nx5,lv5,D,hg,F,E,z5,d⟩;have HX:=HK w2 w4 w5 n2 g2 s2 cJ T2 nx5 lv5 D P2 A2 T2' R2 UE (K4.mono<|jq (gJ w2 c.eb 4<|Nv l).size.symm) hg F E (by rw[hv,if_pos rfl];exact d.tp A2.js l1 R2)
   go_wp2
   go_ret;exact HX
  |false=>
   have HG:=Gz (dp g2.ds g2.lv l) w4 g2.nx g2.lv n2 l g4 R2.mem<|br _;go_wp2_with fail;refine HG.mono ?_;rintro e w5⟨rfl,nx5,lv5,D,hg,F,E,z5,d⟩;have HX:=HK w2 w4 w5 n2 g2 s2 cJ T2 nx5 lv5 D P2 A2 T2' R2 UE (K4.mono<|jq (gJ w2 c.eb 4<|Nv l).size.symm) hg F E (by rw[hv,if_neg ag];exact d.tp A2.js l1 R2)
   go_wp2
   go_ret;exact HX
 .have HX:=show uk c (jl rc st x (jm c.mks x) Γ) g s w e w2 from by obtain⟨z,vl,vr,q1,q2,q3,q4⟩:=hb;exact⟨z,vl,vr,q1,q2,q3,HF.1.trans q4⟩
  obtain⟨z,vl,vr,rfl,-⟩:=hb
  go_wp2
  exact⟨rfl,jf HX⟩
end
end Go.Proofs.YtnldmeakhapdhaaGreatDoor

import Derived.Test.YtlnlhlefeokfjaaGreatDoorPBo
import Derived.Test.YtlnlhlefeokfjaaGreatDoorPXx
import Derived.Test.YtlnlhlefeokfjaaGreatDoorPXu
set_option linter.all false
set_option maxRecDepth 100000
set_option maxHeartbeats 8000000
namespace Go.Proofs.YtlnlhlefeokfjaaGreatDoor
open _root_.List renaming getElem?_eq_getElem->ja,getD_eq_getElem?_getD->jc,getElem_mem->jd
open Go Go.RowKit Un Proofs.Tryz
variable {L:List UInt8} {xs:List Value} {base d xb:Nat} {Q:Nat->Prop} {v:Value} {w w':World}
section
open Go.ChangeMaps Go.MapKept
section
variable {c:WC} {cnt:Nat} {s:In.St} {kb gb:Nat} {Λ:Nat->Prop} {Γ:In.Env} {dom:BA->Prop} {st:BA} {n f t a:Nat} {x y z:Nd} {vx vy vz:Value}
def US(Hx:Dy x)(Hy:Dy y)(Hz:Dy z)(h:Fk (.mk 12 st n [x,y,z] f t a) c w cnt s kb Λ Γ gb Q dom (.iface 293<|.agg #[Nv f,Nv t,vx,vy,vz]))(hx:PE w Q x vx)(hy:PE w Q y vy)(hz:PE w Q z vz):
 Cq 268 #[Pv c.eb,Mv kb,Mv gb,.agg #[Nv f,Nv t,vx,vy,vz]] w (bi c (1100*nn (.mk 12 st n [x,y,z] f t a)) (1000*nn (.mk 12 st n [x,y,z] f t a)) (In.inf c.mks (.mk 12 st n [x,y,z] f t a) Γ) s cnt w):=by
 have en:nn (.mk 12 st n [x,y,z] f t a)=1+nn x+nn y+nn z:=QG;obtain⟨sx,sy,sz⟩:ScE c.mks c.nl dom x/\ScE c.mks c.nl dom y/\ScE c.mks c.nl dom z:=by
  cases h.sc with
  |ite _ _ _ _ _ _ _ _ _ hx hy hz=>exact⟨hx,hy,hz⟩
 have fb:=h.ft.b;rw[en]at fb;have H:=gV.start h<|QE ..
 replace en:=ai en
 clear h;have HX:=ai hx;have HY:=ai hy;have HZ:=ai hz;obtain⟨tx,ax,rfl⟩:=hx.iface;obtain⟨ty,ay,rfl⟩:=hy.iface;obtain⟨tz,az,rfl⟩:=hz.iface;have UR:=hx.place;have plz:=hz.place;dsimp only[PlF]at UR plz;clear hx hy hz;go_enter func268,ntmps268;go_wp2_with fail;refine H.box.ex (D2:=1000*(1+nn y+nn z)) Hx HX sx ?_ uX uX;intro T1 BQ BS s1 ak jI w1 H;have⟨⟨_,b1,b2,b3⟩,_⟩:=H.p;go_wp2_with fail;go_cut[1]from 13 (λv wc=>Je c ak s1 Λ T1 In.th (In.kZ x) (In.BT x) w1 (Rv v) wc)
 case first=>
  go_region_with(first
   |(go_at_call 88;refine(vd).mono ?_;rintro e w4⟨rfl,rfl⟩)
   |(go_at_call 331;refine(dR _ _).mono ?_;rintro e w5⟨rfl,k5⟩;have K5:Hid (Bq w1 w5):=ai<|(Below.refl _ _).drew.trans k5;clear k5)
   |(go_at_call 252;go_loud(refine(H.eqc K5 ((H.af K5).p.2.1.le (S':=900000) ae) (QC qA _ c _ ae) H.p.2.2<|UN _).mono ?_);intro e w6 hq;obtain⟨fl,vl,vr,rfl,hE⟩|hq:=hq;go_loud(exact⟨rfl,hE⟩);have HQ:=ai hq;obtain⟨b6,rfl,-⟩:=hq))
  all_goals
   go_wp2_with fail
   go_meet
   case rel=>exact HQ
 case rest=>
  obtain⟨b6,s6,rfl,H⟩:=H.eqd hcut;clear hcut b1 b2 b3;have⟨⟨_,b1,b2,b3⟩,_⟩:=H.p;go_wp2_with fail;refine H.ex (D2:=1000*(1+nn z)) Hy HY sy ?_ ae uX;intro T3 ta3 xa3 s3 vw kb3 w3 H;clear b1 b2 b3;have⟨⟨⟨_,b1,b2,b3⟩,_⟩,_⟩:=H.p;go_wp2_with fail;refine H.ex (D2:=1000) Hz HZ sz ?_ ae uX;intro T4 ta4 xa4 s4 aje kb4 w4 H;clear b1 b2 b3;have⟨⟨⟨⟨_,b1,b2,b3⟩,_⟩,_⟩,_⟩:=H.p;go_wp2_with fail;refine(dR _ _).mono ?_;rintro e w5⟨rfl,K5⟩;have H:=H.af K5;go_wp2_with fail;refine H.eq (H.p.1.2.1.le (S':=900000) ae) (H.p.2.1.le ae) H.p.1.2.2 H.p.2.2 ?_;intro W9 s6 w6 H
  go_wp2
  go_ret2;exact H.ret H.p.1.2.1 uX
def ac6(Hx:Dy x)(Hy:Dy y)(h:Fk (.mk 8 st n [x,y] f t a) c w cnt s kb Λ Γ gb Q dom (.iface 299<|.agg #[Nv f,Nv t,vx,vy]))(hx:PE w Q x vx)(hy:PE w Q y vy):
 Cq 271 #[Pv c.eb,Mv kb,Mv gb,.agg #[Nv f,Nv t,vx,vy]] w (bi c (1100*nn (.mk 8 st n [x,y] f t a)) (1000*nn (.mk 8 st n [x,y] f t a)) (In.inf c.mks (.mk 8 st n [x,y] f t a) Γ) s cnt w):=by
 have en:nn (.mk 8 st n [x,y] f t a)=1+nn x+nn y:=QG;obtain⟨-,sx,sy⟩:=vB h.sc<|.inr<|.inr rfl;have fb:=h.ft.b;rw[en]at fb;have H:=gV.start h<|Jf ..
 replace en:=ai en
 clear h;have HX:=ai hx;have HY:=ai hy;obtain⟨tx,ax,rfl⟩:=hx.iface;obtain⟨ty,ay,rfl⟩:=hy.iface;clear hx hy;go_enter func271,ntmps271;go_wp2_with fail;refine H.box.ex (D2:=1000*(1+nn y)) Hx HX sx ?_ uX uX;intro T1 BQ BS s1 ak jI w1 H;have⟨⟨_,b1,b2,b3⟩,_⟩:=H.p;go_wp2_with fail;refine H.ex (D2:=1000) Hy HY sy ?_ ae uX;intro T2 ta2 xa2 s2 cT kb2 w2 H;clear b1 b2 b3;have⟨e1,e2,e3⟩:=H.we.bx;go_wp2_with fail;refine H.new (D2:=999) ?_;intro s3 w3 H;clear e1 e2 e3;have⟨⟨⟨⟨_,b1,b2,b3⟩,_⟩,_⟩,_⟩:=H.p;have zc:=H.we.di
 go_wp2
 go_region_with(first
  |(go_at_call 278;go_loud(refine(ajd H.drew.p.1.2.1 (by simpa using Ym w3.drew c (cT+1)) (show c.cb<w3.drew.heap.size from zc)).mono ?_);rintro e w5⟨g,rfl,k5,t5⟩;have K5:=ai<|(Below.refl w3.heap.size w3).drew.trans k5;have T5:=ai t5;have⟨⟨⟨⟨_,d1,d2,d3⟩,_⟩,_⟩,_⟩:=(H.af K5).p;clear k5 t5)
  |(go_at_call 252;go_loud(refine(H.eqc K5 ((H.af K5).p.1.1.2.1.le (S':=900000) ae) (T5.le ae) H.p.1.1.2.2<|acY H.p.1.2.2 H.p.2).mono ?_);intro e w6 hq;obtain⟨fl,vl,vr,rfl,hE⟩|hq:=hq;go_loud(exact⟨rfl,hE⟩);have HQ:=ai hq;obtain⟨b6,rfl,-⟩:=hq))
 all_goals
  go_wp2
  go_ret2;have⟨_,s6,e,H⟩:=H.eqd HQ
  cases e
  exact H.ret (by simpa using Ym w6 c (cT+1)) uX
def ac7(Hx:Dy x)(Hy:Dy y)(h:Fk (.mk 6 st n [x,y] f t a) c w cnt s kb Λ Γ gb Q dom (.iface 284<|.agg #[Nv f,Nv t,vx,vy]))(hx:PE w Q x vx)(hy:PE w Q y vy):
 Cq 264 #[Pv c.eb,Mv kb,Mv gb,.agg #[Nv f,Nv t,vx,vy]] w (bi c (1100*nn (.mk 6 st n [x,y] f t a)) (1000*nn (.mk 6 st n [x,y] f t a)) (In.inf c.mks (.mk 6 st n [x,y] f t a) Γ) s cnt w):=by
 have en:nn (.mk 6 st n [x,y] f t a)=1+nn x+nn y:=QG;obtain⟨-,sx,sy⟩:=vB h.sc<|.inl rfl;have H:=gV.start h<|NY ..
 replace en:=ai en
 clear h;have HX:=ai hx;have HY:=ai hy;obtain⟨tx,ax,rfl⟩:=hx.iface;obtain⟨ty,ay,rfl⟩:=hy.iface;clear hx hy;go_enter func264,ntmps264;go_wp2_with fail;refine H.box.ex (D2:=1000*(1+nn y)) Hx HX sx ?_ uX uX;intro T1 BQ BS s1 ak jI w1 H;have⟨⟨_,b1,b2,b3⟩,_⟩:=H.p;go_wp2_with fail;refine H.ex (D2:=1000) Hy HY sy ?_ ae uX;intro T2 ta2 xa2 s2 cT kb2 w2 H;have zc:=H.we.di;go_wp2_with fail;refine(QH (w:=w2) BQ ta2 BS xa2).mono ?_;rintro e w3⟨rfl,rfl⟩
 go_wp2
 go_ret2;exact(H.af<|bw _).ret (TW.pr H.p.1.2.1 H.p.2.1 zc) uX
def ajf{y}(Hx:Dy x)(h:Fk (.mk 9 st n [x] f t a) c w cnt s kb Λ Γ gb Q dom (.iface 289<|.agg #[Nv f,Nv t,Nv a,Nv y,.string st,vx]))(hx:PE w Q x vx):
 Cq 266 #[Pv c.eb,Mv kb,Mv gb,.agg #[Nv f,Nv t,Nv a,Nv y,.string st,vx]] w (bi c (1100*nn (.mk 9 st n [x] f t a)) (1000*nn (.mk 9 st n [x] f t a)) (In.inf c.mks (.mk 9 st n [x] f t a) Γ) s cnt w):=by
 have en:nn (.mk 9 st n [x] f t a)=1+nn x:=qBi;have fK:=kw;obtain⟨jA,sx⟩:st∈c.nl/\ScE c.mks c.nl (λv=>dom v\/v=st) x:=by
  cases h.sc with
  |fn _ _ _ _ _ _ _ hs hx=>exact⟨hs,hx⟩
 have H:=gV.start h<|NN ..
 replace en:=ai en
 clear h;have HX:=ai hx;obtain⟨tx,ax,rfl⟩:=hx.iface;clear hx;have⟨e1,e2,e3⟩:=H.we.bx;go_enter func266,ntmps266;go_wp2_with fail;refine H.box.new (D2:=1000*nn x+999) ?_ uX;intro s3 w3 H;clear e1 e2 e3;have⟨⟨_,b1,b2,b3⟩,_⟩:=H.p
 go_wp2
 go_region_with(first
  |(go_at_call 247;go_loud(refine(yG ((H.wg.fr H.f H.st.p.run).e.af (Below.refl _ _).drew) st<|Jg (p_ w3.drew c cnt 1<|br _) ae).mono ?_);rintro e w5⟨b5,rfl,z5,h5,k5⟩;have K5:=ai<|(Below.refl w3.heap.size w3).drew.trans k5;have⟨⟨_,d1,d2,d3⟩,_⟩:=(H.af K5).p;have E5:=ai h5;have Z5:=ai z5;clear k5 h5 z5)
  |(go_at_call 251;go_loud(refine H.exG (D2:=999) K5 Hx (H.asks K5 E5 Z5 H.p.2.mono List.nodup_nil jA HX sx (λ_ q=>q) ae uX) ?_);intro T6 Yq Yr s6 Jo W9 w6 H6))
 all_goals
  have z6:=H6.we.di;go_wp2_with fail;refine(ajd (p_ w6 c cnt 1<|br _) H6.p.2.1 z6).mono ?_;rintro e w7⟨g,rfl,k7,t7⟩
  go_wp2
  go_ret2;exact(H6.af k7).ret t7 uX
end
end
section
open Go.ChangeMaps
def NZ nd(h:WN nd):W5 nd:=by
 induction h with
 |var s n f t a h=>exact tB (Ys s n f t a h)|fn s n x y f t a hx hy lD rq=>exact tB (ac8 s n x y f t a lD rq)|pr s n x y f t a hx hy lD rq=>exact tB (ac9 s n x y f t a lD rq)|up s n L f t a h hl hL ih=>exact tB<|ac_ s n L f t a h hl ih
def agA(A B:Ty)(z:List UInt8)(ok:Bool)(f:Fl):=
 (∃T,Mgu A B T/\((48<size T/\z=[]/\ok=false/\f=⟨7,0,0⟩)\/(¬48<size T/\z=Un.written dec T/\ok=true/\f=dw)))\/
 ((∀σ,sub σ A≠sub σ B)/\z=[]/\ok=false/\f=dw)
def aln(A B:Ty)(w:World)(e:Ending)(w':World):=
 ∃z ok f,e=.returned (.tuple #[.string<|bs z,.bool ok,oC f])/\Bq w w'/\agA A B z ok f
end
def Yt:(Tryz.prog.info? 9).map (λi=>(i.zero,i.size,i.bytes))=some (some<|.string ⟨#[]⟩,1,16):=qkr
def zZ:Tryz.prog.underlying 46=some (.slice 9):=qkr
abbrev kC(w:World)base v xs:=w.ownsRow base 9 1 v xs.length xs
def kC.new(w:World)C base(hb:base<=w.heap.size)(hl:C.length<=1000)n(hn:n=C.length):kC (w.alloc<|.cells C.toArray 9) base (.slice (some ⟨w.heap.size,0,none⟩) n n) C:=by
 subst hn;exact⟨ag,.inr ⟨w.heap.size,C.length,C.toArray,rfl,hb,heap_alloc_new w _,br _,Yu,ag,ag⟩⟩
def lS{ops}{rest}{o}{a}{Q}(hgd:o.guard=none)s x(ho:o.op=.call {callee:=.builtin .append,args:=#[s,x],argTypes:=#[46,46]}){b0}{u}{news}(hs:a.eval s=v)(iT:kC w base v xs)(hx:a.eval x=u)(hn:kC w b0 u news)(h1:∀u∈news,u.oneCell'=true)(hz:xs.length+news.length<=1000)(ru:base<=w.heap.size)(h:∀v' w',kC w' base v' (xs++news)->w.grownBy w' v.ownBlock->wpList Tryz.prog ops Q rest (a.put o.dst v') w'):wpList Tryz.prog ops Q (o::rest) a w:=by
 have⟨i0,hi,og,l8,gR⟩:=info_parts Yt;have Fw:=hn;obtain⟨hl,hc⟩:=hn;obtain⟨rfl,h0⟩|⟨g,cap,l_,rfl,hg,hh,r⟩:=hc
 .have e:=List.eq_nil_of_length_eq_zero h0;subst e;refine wpList_append_own_none hgd s x 46 ho base 9 i0 1 zZ hi v xs.length xs hs iT hx ?_;exact h v w (by simpa using iT) ⟨rfl,rfl,rfl,br _,λ_ _ _=>rfl⟩
 .refine wpList_append_own w hgd s x 46 ho base 9 i0 _ 1 16 zZ hi og l8 gR rfl aw v xs.length xs hs iT ⟨g,0,none⟩ news.length cap news hx ae (λj z e=>Fw.cells rfl j z e) h1 Yu ae ru ?_;intro v' w' ho' BV _;exact h v' w' (by rw[kC];rw[lz];exact ho') BV
def Fx(L:List UInt8):List Value:=L.map λc=>.string<|bY c
structure NSv w xb v L:Prop where
 o:∃base,kC w base v<|Fx L
 n:v.ownBlock≠some xb
 k:∀c∈L,Ch c
def tC L:∀u∈Fx L,u.oneCell'=true:=by
 intro u hu;obtain⟨c,_,rfl⟩:=List.mem_map.1 hu;rfl
def Fy{rb}(h:kC w base v xs)(hk:Ke rb w w')(hn:v.ownBlock≠some rb):kC w' base v xs:=by
 obtain⟨h1,h2⟩:=h;refine⟨h1,?_⟩;obtain h2|⟨g,cap,l_,rfl,hg,hh,r⟩:=h2
 .exact .inl h2
 .exact .inr ⟨g,cap,l_,rfl,hg,(hk.block g (by have:=(Array.getElem?_eq_some_iff.1 hh).1;exact this) (by intro e;exact hn<|by simp[Value.ownBlock,e])).trans hh,r⟩
def NSv.ke(h:NSv w xb v L)(hk:Ke xb w w'):NSv w' xb v L:=by
 have⟨base,ho⟩:=h.o;exact⟨⟨base,Fy ho hk h.n⟩,h.n,h.k⟩
def NSv.af(h:NSv w xb v L)(hb:Bq w w'):NSv w' xb v L:=h.ke<|Ke.of hb
def fQ{W}{B}{row}(h:Below B W w)(hg:w.grownBy w' row)(hz:B<=w.heap.size)(hr:∀k,row=some k->B<=k):Below B W w':=
 ⟨hg.os.trans h.os,hg.tape.trans h.tape,hg.output.trans h.output,Nat.le_trans h.size hg.size,λi hi=>(hg.block i ae (λe=>by have:=hr i e.symm;omega)).trans<|h.block i hi⟩
def fq(h:kC w base v xs):∀k,v.ownBlock=some k->base<=k:=λk hk=>(World.ownsRow.lt h k hk).1
section
variable {len cap:Nat} {p:Option Addr} {r:Nat->Int}
def MkP xb p len cap r d L w(e:Ending)w':=∃l,e=.returned (.string<|bs l)/\MXq d L l/\tD xb p len cap r w w'
def MkE xb p len cap r d:=∀(w:World)(A:Nat)(v:Value)(L:List UInt8),Src w xb p len cap r A->NSv w xb v L->L.length+d<=6->Cq 13 #[Pv xb,Nv d,v] w (MkP xb p len cap r d L w)
def ym:List Value:=[.string ⟨#[49]⟩,.string ⟨#[116,114,117,101]⟩,.string ⟨#[40,41]⟩,.string ⟨#[78]⟩,.string ⟨#[80]⟩]
def ada d L:∀u∈ym,∃l,u=.string (bs l)/\MXq d L l:=by
 have h4:=agB d;intro u hu;simp only[ym,List.mem_cons,List.not_mem_nil,or_false]at hu;obtain rfl|rfl|rfl|rfl|rfl:=hu
 .exact⟨[49],rfl,nk.one,bD⟩
 .exact⟨[116,114,117,101],rfl,nk.tr,bD⟩
 .exact⟨[40,41],rfl,nk.unit,bD⟩
 .exact⟨[78],rfl,nk.up aw,bD⟩
 .exact⟨[80],rfl,nk.up aw,bD⟩
def Yv d L(hk:∀c∈L,Ch c):∀u∈Fx L,∃l,u=.string (bs l)/\MXq d L l:=by
 have h4:=agB d;intro u hu;obtain⟨c,hc,rfl⟩:=List.mem_map.1 hu;exact⟨[c],rfl,nk.low hc<|hk c hc,bD⟩
def Jp:Value->BA
 |.string s=>s|_=>⟨#[]⟩
theorem QI{w}(h:kC w base v xs)(hx:∀u∈xs,∃s,u=.string s)(hn:0<xs.length):∃g cp,v=.slice (some ⟨g,0,none⟩) xs.length cp/\base<=g/\g<w.heap.size/\Txt w g xs.length (λj=>Jp<|xs.getD j<|.bool false):=by
 have h':=h;obtain⟨h1,h2⟩:=h;obtain⟨rfl,q⟩|⟨g,cp,l_,rfl,hg,hh,r⟩:=h2
 .omega
 .refine⟨g,cp,rfl,hg,(World.ownsRow.lt h' g rfl).2,λj hj=>?_⟩;have e:=h'.cells (g:=g) rfl j xs[j] (ja hj);have⟨s,hs⟩:=hx xs[j]<|jd hj;have e2:(⟨g,0,none⟩:Addr).add j=⟨g,j,none⟩:=by
   rw[Addr.add];split
   .grind
   .simp
  show w.cell? ⟨g,j,none⟩=some (Sv<|Jp<|xs.getD j<|.bool false);rw[e2,hs]at e;rw[e,jc,ja hj,hs];rfl
def Yw(hx:∀u∈xs,∃l,u=.string (bs l)/\MXq d L l)j(hj:j<xs.length):∃l,Jp (xs.getD j<|.bool false)=bs l/\MXq d L l:=by
 have⟨l,e,h⟩:=hx xs[j]<|jd hj;refine⟨l,?_,h⟩;rw[jc,ja hj,e];rfl
def DC L:=(ym++Fx L)++Fx L
def tE d L(hk:∀c∈L,Ch c):∀u∈DC L,∃l,u=.string (bs l)/\MXq d L l:=by
 intro u hu;simp only[DC,List.mem_append]at hu;obtain  (h|h)|h:=hu
 .exact ada d L u h
 .exact Yv d L hk u h
 .exact Yv d L hk u h
def fS L:(DC L).length=5+2*L.length:=by simp[DC,ym,Fx];omega
def QJ{p:Prop}(h:p:=by
 have N9:=(HK.trans<|Ke.of Ci).trans sL;rw[e5]
 go_wp2
 go_ret
 exact⟨l,rfl,HM,A5,M7,N9⟩):p:=h
def alo:MkE xb p len cap r 0:=by
 intro w A v L hS HN hL;have HC:=qC hS 12 ae ae;go_enter func13,ntmps13;go_wp2_with fail;refine HC.mono ?_;rintro e w1⟨q,rfl,q0,q1,A1,HS,HK⟩;have Fz:=HN.ke HK;have alp:(((0:Nat):Int)==0)=true:=ag;have O1:=World.ownsRow_nil (w1.alloc<|Cv ym.toArray 9) w1.heap.size 9 1
 go_wp2_with(first
  |(at_builtin;refine lS rfl (.tmp 32) (.tmp 33) rfl rfl O1 rfl (kC.new w1 ym 0 (Nat.zero_le _) aw 5 rfl) aw aw ag ?_;intro v2 w2 o2 g2;have gd:Bq w1 w2:=fQ (bw _) g2 ag<|fq O1;have⟨b2,on2⟩:=(Fz.af gd).o;have O2:=ai o2;have ON2:=ai on2;have du:=ai gd;have z2:=gd.size;have G2:=ai<|fq o2;clear o2 on2 gd g2 O1)
  |(at_builtin;refine lS rfl (.tmp 35) (.tmp 36) rfl rfl O2 rfl ON2 (tC L) (by simp[ym,Fx];omega) z2 ?_;intro v3 w3 o3 g3;have ox:Bq w1 w3:=fQ du g3 z2 G2;have⟨b3,on3⟩:=(Fz.af ox).o;have O3:=ai o3;have ON3:=ai on3;have oP:=ai ox;have z3:=ox.size;have G3:=ai<|fq o3;clear o3 on3 ox g3 O2 ON2 du z2 G2)
  |(at_builtin;refine lS rfl (.tmp 38) (.tmp 39) rfl rfl O3 rfl ON3 (tC L) (by simp[ym,Fx];omega) z3 ?_;intro v4 w4 o4 g4;have ry:Bq w1 w4:=fQ oP g4 z3 G3;have Ci:=ai ry;have z4:=ry.size;obtain⟨g,cp,rfl,hg,iP,htx⟩:=QI (show kC w4 w1.heap.size v4 (DC L)from o4) (λu hu=>by have⟨l,e,_⟩:=tE 0 L Fz.k u hu;exact⟨_,e⟩) (by rw[fS];omega);rw[fS]at htx;simp only[fS];have HX:=ai htx;clear o4 g4 htx ry O3 ON3 oP z3 G3))
 have hxz:=HS.b.z;refine(z_ (HS.af Ci) HX iP ae ae ae).mono ?_;rintro e w5⟨j,hj,rfl,A5,M7,sL⟩;have⟨l,e5,HM⟩:=Yw (tE 0 L Fz.k) j (by rw[fS];exact hj);exact QJ
def kC.agC{w}(h:kC w base v xs)o:kC (w.alloc o) base v xs:=jX h<|bw o
def NSv.more{w}{xb}{c}(o:kC w base v (Fx<|L++[c]))(hx:xb<base)(hk:∀c∈L,Ch c)(hc:Ch c):NSv w xb v (L++[c]):=
 ⟨⟨_,o⟩,λe=>by have:=fq o xb e;omega,λx hx=>by
   obtain q|q:=List.mem_append.1 hx
   .exact hk x q
   .rw[List.mem_singleton.1 q];exact hc⟩
def abf:List Value:=[.string ⟨#[97]⟩,.string ⟨#[98]⟩,.string ⟨#[102]⟩]
def agD j(hj:j<3):∃c,Jp (abf.getD j<|.bool false)=bY c/\Ch c:=by
 have hc:j=0\/j=1\/j=2:=ae;obtain rfl|rfl|rfl:=hc
 .exact⟨97,rfl,aw⟩
 .exact⟨98,rfl,aw⟩
 .exact⟨102,rfl,aw⟩
def adb(w1:World):Txt (w1.alloc<|.cells abf.toArray 9) w1.heap.size 3 (λj=>Jp<|abf.getD j<|.bool false):=by
 intro j hj;have hc:j=0\/j=1\/j=2:=ae;rw[(Bx.new w1 abf.toArray 9).c j];obtain rfl|rfl|rfl:=hc<;>rfl
def ajg(h:d+1<=3):mB d<=136:=by
 have hc:d=0\/d=1\/d=2:=ae;obtain rfl|rfl|rfl:=hc<;>decide
def QK c:(bY c).size=1:=rfl
def jJ c:bY c=bs [c]:=rfl
def Aa L c:Fx L++[.string<|bY c]=Fx (L++[c]):=by simp[Fx]
def qD{p:Prop}(h:p:=by
 have q5:=M_.2;have q6:=UT.2;simp only[mB,lz,kh,qP];omega):p:=h
def alq(hd:d+1<=3)(hI:MkE xb p len cap r d):MkE xb p len cap r (d+1):=by
 intro w A v L hS HN hL;have HC:=qC hS 12 ae ae;have hd0:(((d+1:Nat):Int)==0)=false:=bD;have BW:((d+1:Nat):Int)-1=(d:Int):=ae;go_enter func13,ntmps13;go_wp2_with fail;refine HC.mono ?_;rintro e w1⟨q,rfl,q0,q1,A1,HS,HK⟩;have Fz:=HN.ke HK;by_cases h3:q<3
 .have O1:=World.ownsRow_nil (w1.alloc<|Cv ym.toArray 9) w1.heap.size 9 1
  go_wp2_with(first
   |(at_builtin;refine lS rfl (.tmp 32) (.tmp 33) rfl rfl O1 rfl (kC.new w1 ym 0 (Nat.zero_le _) aw 5 rfl) aw aw ag ?_;intro v2 w2 o2 g2;have gd:Bq w1 w2:=fQ (bw _) g2 ag<|fq O1;have⟨b2,on2⟩:=(Fz.af gd).o;have O2:=ai o2;have ON2:=ai on2;have du:=ai gd;have z2:=gd.size;have G2:=ai<|fq o2;clear o2 on2 gd g2 O1)
   |(at_builtin;refine lS rfl (.tmp 35) (.tmp 36) rfl rfl O2 rfl ON2 (tC L) (by simp[ym,Fx];omega) z2 ?_;intro v3 w3 o3 g3;have ox:Bq w1 w3:=fQ du g3 z2 G2;have⟨b3,on3⟩:=(Fz.af ox).o;have O3:=ai o3;have ON3:=ai on3;have oP:=ai ox;have z3:=ox.size;have G3:=ai<|fq o3;clear o3 on3 ox g3 O2 ON2 du z2 G2)
   |(at_builtin;refine lS rfl (.tmp 38) (.tmp 39) rfl rfl O3 rfl ON3 (tC L) (by simp[ym,Fx];omega) z3 ?_;intro v4 w4 o4 g4;have ry:Bq w1 w4:=fQ oP g4 z3 G3;have Ci:=ai ry;have z4:=ry.size;obtain⟨g,cp,rfl,hg,iP,htx⟩:=QI (show kC w4 w1.heap.size v4 (DC L)from o4) (λu hu=>by have⟨l,e,_⟩:=tE 0 L Fz.k u hu;exact⟨_,e⟩) (by rw[fS];omega);rw[fS]at htx;simp only[fS];have HX:=ai htx;clear o4 g4 htx ry O3 ON3 oP z3 G3))
  have hxz:=HS.b.z;refine(z_ (HS.af Ci) HX iP ae ae ae).mono ?_;rintro e w5⟨j,hj,rfl,A5,M7,sL⟩;have⟨l,e5,HM⟩:=Yw (tE (d+1) L Fz.k) j (by rw[fS];exact hj);exact QJ
 .have h3':decide (q<3)=false:=bD;have hxz:=HS.b.z;have bZ:Bq w1 (w1.alloc<|Cv abf.toArray 9):=bw _;go_wp2_with fail;refine(z_ (HS.af bZ) (adb w1) ag ae ae ae).mono ?_;rintro e w2⟨j,hj,rfl,A2,QL,Na⟩;have⟨c,ec,HC⟩:=agD j hj;have Yx:=(HK.trans<|Ke.of bZ).trans Na;have Fb:=(Fz.af bZ).ke Na;have⟨b2,ON2⟩:=Fb.o;have gR:=QL.b.z;have NR:=QK c;have O2:=World.ownsRow_nil w2 w2.heap.size 9 1;rw[ec];have hqc:q=3\/q=4\/q=5\/q=6\/q=7\/q=8\/q=9\/q=10\/q=11:=by simp at h3';omega
  obtain rfl|rfl|rfl|rfl|rfl|rfl|rfl|rfl|rfl:=hqc
  all_goals(
   go_wp2_with(first
    |(at_builtin;refine lS rfl (.tmp 47) (.tmp 48) rfl rfl O2 rfl ON2 (tC L) (by simp[Fx];omega) (br _) ?_;intro v3 w3 o3 g3;have ox:Bq w2 w3:=fQ (Below.refl _ _) g3 (br _)<|fq O2;have O3:=ai o3;have oP:=ai ox;have z3:=ox.size;clear o3 g3 ox O2 ON2)
    |(at_builtin;refine lS rfl (.tmp 50) (.tmp 52) rfl rfl (O3.agC _) rfl (kC.new w3 [Sv<|bY c] 0 (Nat.zero_le _) ag 1 rfl) qAn (by simp[Fx];omega) bD ?_;intro v4 w4 o4 g4))
   have ry:=fQ (oP.alloc z3 _) g4 bD<|fq O3;rw[List.nil_append,Aa]at o4;have HM4:=NSv.more o4 gR Fb.k HC;have UU:=Fb.af ry;have HS4:=QL.af ry;have HK4:=Yx.trans<|Ke.of ry
   clear o4 g4 ry O3 oP z3 QL Yx Fb)
  iterate 2 next=>
   refine(hI w4 A2 _ _ HS4 HM4 bD).mono ?_;rintro e w5⟨l5,rfl,M_,A5,M7,sL⟩;have N9:=HK4.trans sL;have QM:=UU.ke sL;have W_:=HM4.ke sL;have hz5:(bs l5).size<=136:=qAj
   go_wp2
   go_ret;refine⟨_,?_,⟨(nk.fn HC M_.1),?_⟩,A5,M7,N9⟩
   .simp only[jJ,<-df];rfl
   .have q5:=M_.2;simp only[mB,lz,kh,qP];omega
  iterate 2 next=>
   refine(hI w4 A2 _ _ HS4 UU ae).mono ?_;rintro e w5⟨l5,rfl,M_,A5,M7,sL⟩;have N9:=HK4.trans sL;have QM:=UU.ke sL;have W_:=HM4.ke sL;have hz5:(bs l5).size<=136:=qAj;go_wp2_with fail;refine(hI w5 A5 _ _ M7 QM ae).mono ?_;rintro e w6⟨l6,rfl,UT,A6,Yy,FC⟩;have Yz:=N9.trans FC;have HN6:=QM.ke FC;have HM6:=W_.ke FC;have hz6:(bs l6).size<=136:=qAo
   go_wp2
   go_ret;refine⟨_,?_,⟨(M_.1.ol UT.1),?_⟩,A6,Yy,Yz⟩
   .simp only[jJ,<-df];rfl
   .exact qD
  .refine(hI w4 A2 _ _ HS4 UU ae).mono ?_;rintro e w5⟨l5,rfl,M_,A5,M7,sL⟩;have N9:=HK4.trans sL;have QM:=UU.ke sL;have W_:=HM4.ke sL;have hz5:(bs l5).size<=136:=qAj;go_wp2_with fail;refine(hI w5 A5 _ _ M7 W_ bD).mono ?_;rintro e w6⟨l6,rfl,UT,A6,Yy,FC⟩;have Yz:=N9.trans FC;have HN6:=QM.ke FC;have HM6:=W_.ke FC;have hz6:(bs l6).size<=136:=qAo
   go_wp2
   go_ret;refine⟨_,?_,⟨(nk.lt HC M_.1 UT.1),?_⟩,A6,Yy,Yz⟩
   .simp only[jJ,<-df];rfl
   .exact qD
  .refine(hI w4 A2 _ _ HS4 UU ae).mono ?_;rintro e w5⟨l5,rfl,M_,A5,M7,sL⟩;have N9:=HK4.trans sL;have QM:=UU.ke sL;have W_:=HM4.ke sL;have hz5:(bs l5).size<=136:=qAj;go_wp2_with fail;refine(hI w5 A5 _ _ M7 QM ae).mono ?_;rintro e w6⟨l6,rfl,UT,A6,Yy,FC⟩;have Yz:=N9.trans FC;have HN6:=QM.ke FC;have HM6:=W_.ke FC;have hz6:(bs l6).size<=136:=qAo
   go_wp2
   go_ret;refine⟨_,?_,⟨(M_.1.pair UT.1),?_⟩,A6,Yy,Yz⟩
   .simp only[jJ,<-df];rfl
   .exact qD
  .refine(hI w4 A2 _ _ HS4 UU ae).mono ?_;rintro e w5⟨l5,rfl,M_,A5,M7,sL⟩;have N9:=HK4.trans sL;have QM:=UU.ke sL;have W_:=HM4.ke sL;have hz5:(bs l5).size<=136:=qAj;go_wp2_with fail;refine(hI w5 A5 _ _ M7 QM ae).mono ?_;rintro e w6⟨l6,rfl,UT,A6,Yy,FC⟩;have Yz:=N9.trans FC;have HN6:=QM.ke FC;have HM6:=W_.ke FC;have hz6:(bs l6).size<=136:=qAo
   go_wp2
   go_ret;refine⟨_,?_,⟨(M_.1.aJ UT.1),?_⟩,A6,Yy,Yz⟩
   .simp only[jJ,<-df];rfl
   .exact qD
  .refine(hI w4 A2 _ _ HS4 UU ae).mono ?_;rintro e w5⟨l5,rfl,M_,A5,M7,sL⟩;have N9:=HK4.trans sL;have QM:=UU.ke sL;have W_:=HM4.ke sL;have hz5:(bs l5).size<=136:=qAj;go_wp2_with fail;refine(hI w5 A5 _ _ M7 QM ae).mono ?_;rintro e w6⟨l6,rfl,UT,A6,Yy,FC⟩;have Yz:=N9.trans FC;have hz6:(bs l6).size<=136:=qAo
   go_wp2
   go_ret;refine⟨_,?_,⟨(M_.1.ite UT.1),?_⟩,A6,Yy,Yz⟩
   .simp only[jJ,<-df];rfl
   .exact qD
  .refine(hI w4 A2 _ _ HS4 UU ae).mono ?_;rintro e w5⟨l5,rfl,M_,A5,M7,sL⟩;have N9:=HK4.trans sL;have QM:=UU.ke sL;have W_:=HM4.ke sL;have hz5:(bs l5).size<=136:=qAj;go_wp2_with fail;refine(hI w5 A5 _ _ M7 W_ bD).mono ?_;rintro e w6⟨l6,rfl,UT,A6,Yy,FC⟩;have Yz:=N9.trans FC;have hz6:(bs l6).size<=136:=qAo
   go_wp2
   go_ret;refine⟨_,?_,⟨(nk.mt HC M_.1 UT.1),?_⟩,A6,Yy,Yz⟩
   .simp only[jJ,<-df];rfl
   .exact qD
def YA:∀d,d<=3->MkE xb p len cap r d
 |0,_=>alo|d+1,h=>alq h<|YA d ae
end
end Go.Proofs.YtlnlhlefeokfjaaGreatDoor

import Derived.Test.YtfnkchdeheeiiaaGreatDoorQFu
import Derived.Test.YtfnkchdeheeiiaaGreatDoorQYf
import Derived.Test.YtfnkchdeheeiiaaGreatDoorQYa
set_option linter.all false
set_option maxRecDepth 100000
set_option maxHeartbeats 2000000
namespace Go.Proofs.YtfnkchdeheeiiaaGreatDoor
open _root_.Nat renaming le_of_eq->ja
open In renaming bM->jc,v8->jd,inf->jf,sw->jh,Env->ji
open Go Go.RowKit Go.ChangeMaps Go.MapKept Un Proofs.Tryz
variable {st:BA} {g:gC} {Γ:ji} {s:In.St} {c:JC} {l nb:Nat} {P:Nat->Prop} {w w':World}
section
variable {c:WC} {cnt:Nat} {u:Nat->Prop} {Q:Nat->Prop}
def WT.below(h:WT w c cnt u Γ)(hb:Bq w w'):WT w' c cnt u Γ:=⟨h.we.af hb,h.e.move hb.size (hb.block _ h.e.lt) (λb _ z=>hb.block b z)<|λ_ p _=>p,h.n,h.hu,h.top,h.dm⟩
def aiv{mb}{mks}(h:bU w P nb Γ)(k:mS w Q mb mks){d}(q:Γ st=some d):nb≠mb:=by
 rintro rfl;obtain⟨L,h1,h2,h3⟩:=h;obtain⟨L',k1,k2,k3⟩:=k
 cases h1.akn k1
 cases hg:aZ st L with
 |none=>grind|some v=>
  obtain⟨_,_,ta,xa,sa,sc,rfl,_⟩:=h3 st v hg;have⟨_,_,_,_,_,_,_,e,_⟩:=k3 st _ hg;simp at e
def sf.all{z}{vl vr}(h:sf w P z vl vr):sf w (λ_=>True) z vl vr:=
 ⟨h.pN,λq=>⟨(h.apart q).1.move (br _) (λ_ _ _=>rfl)<|λ_ _ _=>trivial,(h.apart q).2.move (br _) (λ_ _ _=>rfl)<|λ_ _ _=>trivial⟩,h.k⟩
end
def StW eb lo base nl w cnt mks(s:In.St)(Γ:ji):=∃(c:WC)(u:Nat->Prop),c.eb=eb/\(lo<=c.cb/\lo<=c.eb/\lo<=c.mb)/\(c.cb<base/\c.eb<base)/\c.mks=mks/\c.nl=nl/\s=⟨Ty.var,u⟩/\c.nb≠c.mb/\WT w c cnt u Γ
def al1{eb lo base}{nl}(hl:nl.length<=1000000):Zb 124 eb lo base true nl (StW eb lo base nl):=by
 refine⟨?_,?_,⟨_,λw=>metW_Makers _ w,λ_ _=>qkr,?_⟩,⟨_,λw=>metW_Let _ w,λ_ _=>qkr,?_⟩⟩
 .rintro w w' cnt mks s Γ⟨c,u,h1,h2,h3,h4,h5,h6,h7,h⟩hb;exact⟨c,u,h1,h2,h3,h4,h5,h6,h7,h.below hb⟩
 .rintro w w' cnt mks s Γ b x⟨c,u,h1,h2,h3,h4,h5,h6,h7,h⟩hb hx ho f;exact⟨c,u,h1,h2,h3,h4,h5,h6,h7,h.other ⟨ae,ae⟩ hx ho f⟩
 .rintro w cnt mks s Γ t vs ms f x vv vm⟨c,u,rfl,h2,h3,rfl,rfl,rfl,h7,h⟩hv hm hd;have⟨Lm,hMG,_⟩:=id h.we.ms;refine(Wk h hv hm hd).mono ?_;rintro e w'⟨rfl,hf,hw⟩;refine⟨rfl,.of hf (λb q=>by subst q;exact h2.2.2) (λb y q _ e _=>by subst q;rw[hMG.bD 0]at e;cases e),?_⟩;exact⟨abV c t vs ms w'.heap.size,u,rfl,h2,h3,rfl,rfl,rfl,h7,h.aaT h7 hf hw⟩
 .rintro w cnt mks s Γ rc st x v a y dom⟨c,u,rfl,h2,h3,rfl,rfl,rfl,h7,h⟩hp hs hd jU ha hb hm;refine(age (Q:=(·<lo)) (a:=a) (y:=y) ⟨h,hp,λb q=>by have:b<lo:=q;omega,hs,hd,⟨ha,hb,hl⟩,hm,jU⟩).mono ?_;rintro e w'⟨hf,o,ho,hq⟩;refine⟨.of hf (λb q=>by obtain rfl|rfl:=q;exact h2.1;exact h2.2.1) (λb z q hz _ _=>by obtain rfl|rfl:=q<;>omega),o,ho,?_⟩
  cases o with
  |error z=>
   obtain⟨vl,vr,e1,e2⟩:=hq;exact⟨vl,vr,e1,e2.all⟩
  |ok p=>
   obtain⟨t,s1⟩:=p;obtain⟨z,e1⟩|⟨z,T,ta,xa,aE,VX,e1,e2,e3,e4,e5,e6⟩:=hq
   .grind
   .refine Or.inr ⟨z,T,ta,xa,aE,e1,e2,(e3.v e4).move (br _) (λ_ _ _=>rfl)<|λ_ _ _=>trivial,ae,{c with nb:=VX},s1.u,rfl,h2,h3,rfl,rfl,rfl,aiv e6.e e6.we.ms (st:=st) (d:=⟨T,vars [] T⟩)<|by simp[In.cJ],e6⟩
def akz rc st x(Γ:ji)c nb l D g s cnt w e w':=
 (∃n g' s' aE T,e=.returned (nA n)/\jc rc st x (jf c.mks x) Γ s (.ok (T,s'))/\AJ w' c nb l aE g' s'/\fV l c w g s w' g' s'/\aE<=cnt+D/\Cg g' s' (In.f_ (lT rc st Γ) s'.k T<|jh x) n)\/ud c (jc rc st x (jf c.mks x) Γ) g s w e w'
section
variable {w1 W:World} {cnt b:Nat} {dom:BA->Prop} {rc:Bool} {x:Nd} {v:Value}
def AJ.VR(a:AJ w c nb l cnt g s)l'(hl:l<=l'):AJ (w.setCell ⟨c.eb,4,none⟩<|Nv l') c nb l' cnt g s:=a.eng (gD _ _ _ _) (a.je.bx.aP 4 _ _ rfl ag) hl
def LN{a y}(Hx:jR x)(h:BdJ rc st x c w nb l cnt g s Γ dom v)(fb:l+1+nn x<=805):Cq 377 #[nA c.eb,.agg #[.bool rc,Nv a,Nv y,.string st,v]] w (akz rc st x Γ c nb l (1000*(1+nn x)) g s cnt w):=by
 have fa:=h.fa;have o1:=gD w c.eb 4<|Iv<|(l:Int)+1;have k1:Bq (w.setCell ⟨c.eb,4,none⟩<|Iv<|(l:Int)+1) ((w.setCell ⟨c.eb,4,none⟩<|Iv<|(l:Int)+1).alloc<|Cv #[.bool rc,Nv a,Nv y,Sv st,v] 142):=bw _;have h1:=h.aj.iW<|br _;have b1:=Bx.at (w.setCell ⟨c.eb,4,none⟩<|Iv<|(l:Int)+1) #[.bool rc,Nv a,Nv y,Sv st,v] 142 w.heap.size o1.size.symm;have ze:=h.aj.je.bx.z;have a1:=(h.aj.VR (l+1)<|Nat.le_succ l).af k1;have pe1:=(h.pe.move (w':=w.setCell ⟨c.eb,4,none⟩<|Iv<|(l:Int)+1) (Q:=λb=>b<c.lo) (ja o1.size.symm) (λb p _=>o1.block b λe=>by have:=h.aj.je.z;omega)<|λ_ p _=>p).af k1;have en1:=(h.en.one o1<|h.en.afB h.aj.je).af k1;obtain⟨W1,HW⟩:∃W,W=(w.setCell ⟨c.eb,4,none⟩<|Iv<|(l:Int)+1).alloc (Cv #[.bool rc,Nv a,Nv y,Sv st,v] 142):=⟨_,rfl⟩;have k1':Fr (jS c g) w W1:=by rw[HW];exact(o1.fr<|Or.inr<|Or.inl rfl).trans (Fr.of k1)
 have a1:AJ W1 c nb (l+1) cnt g s:=by rw[HW];exact a1
 have en1:cq W1 nb Γ g s:=by rw[HW];exact en1
 have pe1:PE W1 (λb=>b<c.lo) x v:=by rw[HW];exact pe1
 have b1:Bx W1 w.heap.size #[.bool rc,Nv a,Nv y,Sv st,v]:=by rw[HW];exact b1
 have t1:fV (l+1) c w g s W1 g s:={fV.refl h.aj.js c (l+1)with fr:=k1'};have H1:=acn (a:=a) (y:=y) Hx ⟨a1,en1,pe1,h.sc,h.hd,h.fa,fb,h.mf⟩;have nm:∀y d,Γ y=some d->∃m,Cg g s d m:=λy d q=>by
  have⟨L,_,hq⟩:=h.en;obtain⟨q1,_⟩|⟨d',m,q1,_,q3⟩:=hq y
  .rw[q1]at q;cases q
  .rw[q1]at q;injection q with q;subst q;exact⟨m,q3⟩
 have l1:l+1<aL:=ZH;have HK:∀w2 w4 w5 n2 g2 s2 cN T2 bi cC D,jc rc st x (jf c.mks x) Γ s (.ok (T2,s2))->AJ w2 c nb (l+1) cN g2 s2->fV (l+1) c W1 g s w2 g2 s2->nJ (l+1) g2 s2 n2 T2->cN<=cnt+1000*(1+nn x)->Below w2.heap.size (w2.setCell ⟨c.eb,4,none⟩<|Nv l) w4->GL w5 g2.ds g2.str bi g2.vr g2.ly cC->Fr (λb=>b∈g2.ds) w4 w5->iU g2.str g2.nx bi->TpD (if jh x then aL else l) g2 cC n2 l D->akz rc st x Γ c nb l (1000*(1+nn x)) g s cnt w (Rv<|nA n2) w5:=λw2 w4 w5 n2 g2 s2 cN T2 bi cC D p2 a2 t2 r2 hc k4 hg F e d=>by
  have o:=gD w2 c.eb 4<|Nv l;have F':Fr (jS c g2) w2 w5:=((o.fr<|Or.inr<|Or.inl rfl).trans<|Fr.of<|k4.mono<|ja o.size).trans<|F.fX λb q=>Or.inr<|Or.inr q;have bx:=((a2.je.bx.aP 4 (Nv l) (V0 c nb l) rfl ag).below (k4.mono<|ja o.size)).fr F (a2.je.AV a2.js);have ct:=(((a2.je.ct.one o<|Ne.symm a2.je.ne.1).below<|k4.mono<|ja o.size).fr F<|a2.je.AW a2.js);have⟨g5,a5,t5,n5⟩:=Ws h.aj l1 nm a2 (t1.trans h.aj.js a1.js a2.js t2) r2 p2 hg e d F'<|a2.je.fr a2.js F' bx ct;exact Or.inl ⟨n2,g5,s2,cN,T2,rfl,p2,a5,t5,hc,n5⟩
 have HF:=And.intro t1.fr<|λb=>h.aj.jlo (b:=b);have f4:=h.aj.je.bx.c 4;have f5:=h.aj.je.bx.f 4;have HV:=And.intro pe1 b1;obtain⟨tx,ax,rfl⟩:=h.pe.iface;obtain⟨c1,c2,c3⟩:=b1;go_enter func377,ntmps377;go_wp2_with fail;rw[<-HW];refine H1.mono ?_;rintro e w2(⟨n2,g2,s2,cN,T2,rfl,P2,A2,T2',hc2,R2⟩|hb)
 .have o:=gD w2 c.eb 4<|Nv l;have f6:=A2.je.bx.c 4;have f7:=A2.je.bx.f 4;have zl:=c3;have bb:=HV.2.fr T2'.fr h1;have⟨d1,d2,d3⟩:=bb.one o ae;have pe3:=(HV.1.move (Q:=λb=>b<c.lo) T2'.fr.size (λb p q=>T2'.fr.block b q<|HF.2 b p)<|λ_ p _=>p).move (w':=w2.setCell ⟨c.eb,4,none⟩<|Nv l) (Q:=λb=>b<c.lo) (ja o.size.symm) (λb p _=>o.block b λe=>by have:=A2.je.z;omega)<|λ_ p _=>p;have HI:=pT x _ _ _ pe3;have b3:=((A2.je.bx.aP 4 (Nv l) (V0 c nb l) rfl ag).c 4);go_wp2_with fail;refine HI.mono ?_;rintro e w4⟨rfl,K4⟩;have g4:=((A2.js.eb A2.je<|gD w2 c.eb 4<|Nv l).af K4).gl;have l4:=((A2.je.bx.aP 4 (Nv l) (V0 c nb l) rfl ag).below K4).c 4
  cases hv:jh x with
  |true=>
   have HG:=ahS (fp g2.ds g2.lv l) w4 g2.nx g2.lv n2 l g4 R2.mem<|br _;go_wp2_with fail;refine HG.mono ?_;rintro e w5⟨rfl,nx5,lv5,D,hg,F,E,z5,d⟩;have HX:=HK w2 w4 w5 n2 g2 s2 cN T2 nx5 lv5 D P2 A2 T2' R2 hc2 (K4.mono<|ja (gD w2 c.eb 4<|Nv l).size.symm) hg F E (by rw[hv,if_pos rfl];exact d.tp A2.js l1 R2)
   go_wp2
   go_ret;exact HX
  |false=>
   have HG:=Gw (dp g2.ds g2.lv l) w4 g2.nx g2.lv n2 l g4 R2.mem<|br _;go_wp2_with fail;refine HG.mono ?_;rintro e w5⟨rfl,nx5,lv5,D,hg,F,E,z5,d⟩;have HX:=HK w2 w4 w5 n2 g2 s2 cN T2 nx5 lv5 D P2 A2 T2' R2 hc2 (K4.mono<|ja (gD w2 c.eb 4<|Nv l).size.symm) hg F E (by rw[hv,if_neg ag];exact d.tp A2.js l1 R2)
   go_wp2
   go_ret;exact HX
 .have HX:=show ud c (jc rc st x (jf c.mks x) Γ) g s w e w2 from by obtain⟨z,vl,vr,q1,q2,q3,q4⟩:=hb;exact⟨z,vl,vr,q1,q2,q3,HF.1.trans q4⟩
  obtain⟨z,vl,vr,rfl,-⟩:=hb
  go_wp2
  exact⟨rfl,Or.inr HX⟩
end
section
variable {cnt:Nat}
abbrev GQ(c:JC)t vs ms fX:={c with mks:=jd t vs ms c.mks,fX:=fX}
def Wz(h:AJ w c nb l cnt g s)(hrm:c.rb≠c.mb){t}{vs}{ms}{f x}{vv vm}(hv:RowV QName 3 w P vs vv)(hm:RowV QMaker 6 w P ms vm)(hd:TdF t vs ms):
 Cq 375 #[nA c.eb,.agg #[Iv f,Iv x,Nv t.ak,Nv t.to,.string t.text,vv,vm]] w (λe w'=>e=.returned (.tuple #[])/\Fr (λi=>i=c.mb) w w'/\AJ w' (GQ c t vs ms w'.heap.size) nb l cnt g s):=by
 obtain⟨w0,xD⟩:∃w0,w0=w.alloc (Cv #[Iv f,Iv x,Nv t.ak,Nv t.to,Sv t.text,vv,vm] 137):=⟨_,rfl⟩;have k0:Bq w w0:=by rw[xD];exact bw _
 have B0:Bx w0 w.heap.size #[Iv f,Iv x,Nv t.ak,Nv t.to,Sv t.text,vv,vm]:=by rw[xD];exact Bx.new w #[Iv f,Iv x,Nv t.ak,Nv t.to,Sv t.text,vv,vm] 137
 have a0:=h.af k0;have zm:=a0.je.ms.lt;have zc:=a0.je.ct.z;have HMK:∀W:World,Bq w0 W->Cq 322 #[Av #[Iv f,Iv x,Nv t.ak,Nv t.to,Sv t.text,vv,vm]] W (λe w'=>∃b,e=Rv (Mv b)/\Bq W w'/\W.heap.size<=b/\mS w' (λi=>W.heap.size<=i) b (jd t vs ms λ_=>none)):=λW hb=>by
  have kW:=k0.trans<|hb.mono k0.size;exact Lt (hv.move dw kW.size (λb _ z=>kW.block b z)<|λ_ p _=>p) (hm.move cd kW.size (λb _ z=>kW.block b z)<|λ_ p _=>p) hd
 have HCP:Hid (∀(W:World)(b:Nat),Bq w0 W->w0.heap.size<=b->mS W (λi=>w0.heap.size<=i) b (jd t vs ms λ_=>none)->Cq 321 #[Mv c.mb,Mv b] W (λe w'=>e=Rv (.tuple #[])/\Fr (λi=>i=c.mb) w w'/\AJ w' (GQ c t vs ms w'.heap.size) nb l cnt g s)):=ai λW b hb hz hM=>by
  have aW:=a0.af hb;have⟨L,hMG,_⟩:=id aW.je.ms;have zb:=hM.lt;have zs:=hb.size;have h1:mS W (λi=>i≠c.cb/\i≠c.mb/\i<W.heap.size) c.mb c.mks:=(aW.je.ms.tZ<|hMG.bD 0).move (br _) rfl (λ_ _ _=>rfl) (λi p z=>⟨p.1.1,p.2,z⟩);have h2:mS W (λi=>i≠c.cb/\i≠c.mb/\i<W.heap.size) b (jd t vs ms λ_=>none):=hM.move (br _) rfl (λ_ _ _=>rfl) (λi p z=>⟨qBv,qBv,z⟩);refine(SW h1 h2 (λq=>q.2.1 rfl) (λi p=>p.2.2) ae).mono ?_;rintro e w'⟨rfl,hM3,F3⟩;rw[<-A_]at hM3;have⟨n1,n2,n3,n4,n5⟩:=aW.je.ne;have z3:=F3.size;refine⟨rfl,(Fr.of<|k0.trans<|hb.mono k0.size).trans F3,⟨aW.je.bx.fr F3<|Ne.symm n5,aW.je.ct.fr F3<|Ne.symm n4,aW.je.rs.same<|F3.block _ aW.je.rs.lt hrm,hM3.move (br _) rfl (λ_ _ _=>rfl) (λi p _=>⟨p.1,by show i<w'.heap.size;omega⟩),⟨aW.je.z.1,aW.je.z.2.1,br _⟩⟩,⟨aW.js.gl.od F3.size λb p q=>F3.block b (jP q) λe=>(by rw[e,hMG.bD 0]at q;cases q),aW.js.nk,aW.js.inj,aW.js.can,aW.js.lc,aW.js.val,aW.js.use,aW.js.ok⟩,aW.us,aW.lv,aW.lo⟩
 have HL:Hid (∀W:World,Bq w0 W->W.cell? ⟨c.eb,2,none⟩=some (Mv c.mb)):=ai λW k=>(a0.af k).je.bx.c 2;obtain⟨b1,b2,b3⟩:=B0;have⟨e1,e2,e3⟩:=a0.je.bx;obtain⟨pa,pc,cs,rfl,-⟩:=hv;obtain⟨ma,mc,ds,rfl,-⟩:=hm;have HW:=ai xD;clear h k0 a0 xD;go_enter func375,ntmps375;go_wp2_with fail;rw[<-uh HW]
 go_region_with(first
  |(go_at_call 322;go_loud(refine(HMK _ (Below.refl _ _).drew).mono ?_);rintro e w2⟨b,rfl,k2,z2,hM⟩;have k2':Bq w0 w2:=(Below.refl _ _).drew.trans k2;have s0:=uh HL _ k2';have HC:=ai<|HCP w2 b k2' z2 hM;clear k2 k2' z2 hM)
  |(go_at_call 321;go_loud(refine HC.mono ?_);rintro e w3⟨rfl,hp⟩;have HP:=ai hp;clear hp))
 all_goals
  go_wp2
  go_end0;exact⟨rfl,HP⟩
def aiu nl:Cq 64 #[] w λe w'=>∃(c:JC)(nb:Nat)(g:gC),e=.returned (nA c.eb)/\Bq w w'/\AJ w' c nb 0 0 g ⟨Ty.var,λ_=>False⟩/\cq w' nb (λ_=>none) g ⟨Ty.var,λ_=>False⟩/\c.mks=(λ_=>none)/\c.nl=nl/\c.lo=w.heap.size/\c.rb≠c.mb/\nb≠c.rb/\nb≠c.mb/\c.lo<=nb/\c.lo<=c.mb:=by
 have jB:= @run_makeMap Tryz.prog;go_enter func64,ntmps64;go_wp2_with fail;refine(Ef).mono ?_;rintro e w1⟨rfl,xW⟩;have k1:Bq w w1:=by rw[xW];exact bw _
 have C1':Bx w1 w.heap.size #[Iv 0]:=by rw[xW];exact Bx.new w #[Iv 0] 3
 have z1:w1.heap.size=w.heap.size+1:=by rw[xW];simp
 have K1:=ai k1;clear xW k1;go_wp2_with fail;refine(CC).mono ?_;rintro e w2⟨rfl,R2,k2,z2⟩;have K2:=ai k2;clear k2
 go_wp2
 go_ret;obtain⟨w3,uw⟩:∃w3,w3=w2.alloc (.map #[] 0):=⟨_,rfl⟩;obtain⟨w4,hw4⟩:∃w4,w4=w3.alloc (.map #[] 0):=⟨_,rfl⟩;have k3:Bq w2 w3:=by rw[uw];exact bw _
 have k4:Bq w3 w4:=by rw[hw4];exact bw _
 have z3:w3.heap.size=w2.heap.size+1:=by rw[uw];simp
 have z4:w4.heap.size=w3.heap.size+1:=by rw[hw4];simp
 have k2:=uh K2;have k1:=uh K1;have m3:MG Sv w3 (w.heap.size+2) []:=by rw[uw,show w.heap.size+2=w2.heap.size by omega];exact MG.new _ w2
 have m4:MG Sv w4 (w.heap.size+3) []:=by rw[hw4,show w.heap.size+3=w3.heap.size by omega];exact MG.new _ w3
 rw[<-uw,<-hw4];obtain⟨w5,hw5⟩:∃w5,w5=w4.alloc (Cv #[.func (.func 47) #[] #[Pv w.heap.size],Mv<|w.heap.size+1,Mv<|w.heap.size+2,Mv<|w.heap.size+3,Iv 0] 222):=⟨_,rfl⟩;have k5:Bq w4 w5:=by rw[hw5];exact bw _
 have z5:w5.heap.size=w.heap.size+5:=by rw[hw5];simp;omega
 have b5:Bx w5 (w.heap.size+4) #[.func (.func 47) #[] #[Pv w.heap.size],Mv<|w.heap.size+1,Mv<|w.heap.size+2,Mv<|w.heap.size+3,Iv 0]:=by
  have:=Bx.new w4 #[.func (.func 47) #[] #[Pv w.heap.size],Mv<|w.heap.size+1,Mv<|w.heap.size+2,Mv<|w.heap.size+3,Iv 0] 222;rw[<-hw5,show w4.heap.size=w.heap.size+4 by omega]at this;exact this
 have Mi:=k4.trans<|k5.mono k4.size;have k35:=k3.trans<|Mi.mono k3.size;have k25:=k2.trans<|k35.mono k2.size;have kk:=k1.trans<|k25.mono k1.size;have js:JS w5 ⟨[],λ_=>none,λ_=>none,λ_=>0,λ_=>(none,0),λ_=>0,λ_=>.var 0⟩ ⟨Ty.var,λ_=>False⟩:=by
  refine⟨⟨λn h=>vR,λn _=>⟨rfl,rfl⟩,λn h=>vR⟩,.start _ _,λa b h=>vR,λn x k=>?_,λa h=>vR,λn h=>vR,λn h=>vR,In.oF _⟩;rfl
 have res:∃(c:JC)(nb:Nat)(g:gC),Rv (Pv<|w.heap.size+4)=Rv (nA c.eb)/\Bq w w5/\AJ w5 c nb 0 0 g ⟨Ty.var,λ_=>False⟩/\cq w5 nb (λ_=>none) g ⟨Ty.var,λ_=>False⟩/\c.mks=(λ_=>none)/\c.nl=nl/\c.lo=w.heap.size/\c.rb≠c.mb/\nb≠c.rb/\nb≠c.mb/\c.lo<=nb/\c.lo<=c.mb:=by
  refine⟨⟨w.heap.size+4,w.heap.size,w.heap.size+1,w.heap.size+2,w.heap.size,w.heap.size+5,λ_=>none,nl⟩,w.heap.size+3,_,rfl,kk,⟨⟨b5,C1'.below k25,?_,⟨[],m3.same<|Mi.block _ ae,λ_ _=>rfl,λx v h=>qBg⟩,?_⟩,js,λn q=>q.elim,λn h=>vR,λn h=>vR⟩,⟨[],m4.same<|k5.block _ ae,λx=>Or.inl ⟨rfl,rfl⟩⟩,rfl,rfl,rfl,?_,?_,?_,?_,?_⟩
  .have:=R2.same (w':=w5)<|k35.block _ ae
   rwa[z1]at this
  all_goals(dsimp only;omega)
 rw[hw5]at res;exact res
end
end Go.Proofs.YtfnkchdeheeiiaaGreatDoor

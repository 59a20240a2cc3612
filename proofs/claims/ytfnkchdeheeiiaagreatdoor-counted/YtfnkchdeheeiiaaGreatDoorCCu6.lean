import Derived.Test.YtfnkchdeheeiiaaGreatDoorCFu
import Derived.Test.YtfnkchdeheeiiaaGreatDoorCYf
import Derived.Test.YtfnkchdeheeiiaaGreatDoorCYa
set_option linter.all false
set_option maxRecDepth 100000
set_option maxHeartbeats 2000000
namespace Go.Proofs.YtfnkchdeheeiiaaGreatDoor
open _root_.Nat renaming le_of_eq->ja
open In renaming cH->jc,inf->jd,Jw->jf,Env->jh
open Go Go.RowKit Go.ChangeMaps Go.MapKept Un
variable {st:BA} {Γ:jh} {nb:Nat} {w w':World}
namespace In
set_option maxRecDepth 100000
def ady:((dG 2).all λl=>mC (1::0::0::l))=true:=qkr
def adz:((dG 2).all λl=>mC (1::0::1::l))=true:=qkr
def adA:((dG 2).all λl=>mC (1::0::2::l))=true:=qkr
def adB:((dG 2).all λl=>mC (1::1::0::l))=true:=qkr
def adC:((dG 2).all λl=>mC (1::1::1::l))=true:=qkr
def adD:((dG 2).all λl=>mC (1::1::2::l))=true:=qkr
def adE:((dG 2).all λl=>mC (1::2::0::l))=true:=qkr
def adF:((dG 2).all λl=>mC (1::2::1::l))=true:=qkr
def adG:((dG 2).all λl=>mC (1::2::2::l))=true:=qkr
end In
section
variable {c:WC} {cnt:Nat} {u:Nat->Prop} {P Q:Nat->Prop}
def WT.below(h:WT w c cnt u Γ)(hb:Bq w w'):WT w' c cnt u Γ:=⟨h.we.af hb,h.e.move hb.size (hb.block _ h.e.lt) (λb _ z=>hb.block b z)<|λ_ p _=>p,h.n,h.hu,h.top,h.dm⟩
def adH{mb}{mks}(h:bM w P nb Γ)(k:lQ w Q mb mks){d}(q:Γ st=some d):nb≠mb:=by
 rintro rfl;obtain⟨L,h1,h2,h3⟩:=h;obtain⟨L',k1,k2,k3⟩:=k
 cases h1.age k1
 cases hg:aY st L with
 |none=>grind|some v=>
  obtain⟨_,_,ta,xa,sa,sc,rfl,_⟩:=h3 st v hg;have⟨_,_,_,_,_,_,_,e,_⟩:=k3 st _ hg;simp at e
def pD.all{z}{vl vr}(h:pD w P z vl vr):pD w (λ_=>True) z vl vr:=
 ⟨h.qA,λq=>⟨(h.apart q).1.move (br _) (λ_ _ _=>rfl)<|λ_ _ _=>trivial,(h.apart q).2.move (br _) (λ_ _ _=>rfl)<|λ_ _ _=>trivial⟩,h.k⟩
end
def StW eb lo base nl w cnt mks(s:In.St)(Γ:jh):=∃(c:WC)(u:Nat->Prop),c.eb=eb/\(lo<=c.cb/\lo<=c.eb/\lo<=c.mb)/\(c.cb<base/\c.eb<base)/\c.mks=mks/\c.nl=nl/\s=⟨Ty.var,u⟩/\c.nb≠c.mb/\WT w c cnt u Γ
def aij{eb lo base}{nl}(hl:nl.length<=1000000):Uk 124 eb lo base true nl (StW eb lo base nl):=by
 refine⟨?_,?_,⟨_,λw=>metW_Makers _ w,λ_ _=>qkr,?_⟩,⟨_,λw=>metW_Let _ w,λ_ _=>qkr,?_⟩⟩
 .rintro w w' cnt mks s Γ⟨c,u,h1,h2,h3,h4,h5,h6,h7,h⟩hb;exact⟨c,u,h1,h2,h3,h4,h5,h6,h7,h.below hb⟩
 .rintro w w' cnt mks s Γ b x⟨c,u,h1,h2,h3,h4,h5,h6,h7,h⟩hb hx ho f;exact⟨c,u,h1,h2,h3,h4,h5,h6,h7,h.other ⟨ae,ae⟩ hx ho f⟩
 .rintro w cnt mks s Γ t vs ms f x vv vm⟨c,u,rfl,h2,h3,rfl,rfl,rfl,h7,h⟩hv hm hd;have⟨Lm,Zc,_⟩:=id h.we.ms;refine(Qz h hv hm hd).mono ?_;rintro e w'⟨rfl,hf,hw⟩;refine⟨rfl,.of hf (λb q=>by subst q;exact h2.2.2) (λb y q _ e _=>by subst q;rw[Zc.bB 0]at e;cases e),?_⟩;exact⟨Ul c t vs ms w'.heap.size,u,rfl,h2,h3,rfl,rfl,rfl,h7,h.Um h7 hf hw⟩
 .rintro w cnt mks s Γ rc st x v a y dom⟨c,u,rfl,h2,h3,rfl,rfl,rfl,h7,h⟩hp hs hd iC ha hb hm;refine(adI (Q:=(·<lo)) (a:=a) (y:=y) ⟨h,hp,λb q=>by have:b<lo:=q;omega,hs,hd,⟨ha,hb,hl⟩,hm,iC⟩).mono ?_;rintro e w'⟨hf,o,ho,hq⟩;refine⟨.of hf (λb q=>by obtain rfl|rfl:=q;exact h2.1;exact h2.2.1) (λb z q hz _ _=>by obtain rfl|rfl:=q<;>omega),o,ho,?_⟩
  cases o with
  |error z=>
   obtain⟨vl,vr,e1,e2⟩:=hq;exact⟨vl,vr,e1,e2.all⟩
  |ok p=>
   obtain⟨t,s1⟩:=p;obtain⟨z,e1⟩|⟨z,T,ta,xa,aB,QA,e1,e2,e3,e4,e5,e6⟩:=hq
   .grind
   .refine Or.inr ⟨z,T,ta,xa,aB,e1,e2,(e3.v e4).move (br _) (λ_ _ _=>rfl)<|λ_ _ _=>trivial,ae,{c with nb:=QA},s1.u,rfl,h2,h3,rfl,rfl,rfl,adH e6.e e6.we.ms (st:=st) (d:=⟨T,vars [] T⟩)<|by simp[In.gR],e6⟩
def agf rc st x(Γ:jh)c nb l D g s cnt w e w':=
 (∃n g' s' aB T,e=.returned (nA n)/\jc rc st x (jd c.mks x) Γ s (.ok (T,s'))/\AJ w' c nb l aB g' s'/\fA l c w g s w' g' s'/\aB<=cnt+D/\yZ g' s' (In.jV (kN rc st Γ) s'.k T<|jf x) n)\/qQ c (jc rc st x (jd c.mks x) Γ) g s w e w'
section
variable {w1 W:World} {g:fB} {s:In.St} {c:JC} {l cnt b:Nat} {dom:BA->Prop} {rc:Bool} {x:Nd} {v:Value}
def AJ.QB(a:AJ w c nb l cnt g s)l'(hl:l<=l'):AJ (w.setCell ⟨c.eb,4,none⟩<|Nv l') c nb l' cnt g s:=a.eng (fH _ _ _ _) (a.je.bx.aO 4 _ _ rfl ag) hl
def Ep{a y}(Hx:iG x)(h:BdJ rc st x c w nb l cnt g s Γ dom v)(fb:l+1+nn x<=805):Cq 377 #[nA c.eb,.agg #[.bool rc,Nv a,Nv y,.string st,v]] w (agf rc st x Γ c nb l (1000*(1+nn x)) g s cnt w):=by
 have fa:=h.fa;have o1:=fH w c.eb 4<|Iv<|(l:Int)+1;have k1:Bq (w.setCell ⟨c.eb,4,none⟩<|Iv<|(l:Int)+1) ((w.setCell ⟨c.eb,4,none⟩<|Iv<|(l:Int)+1).alloc<|Cv #[.bool rc,Nv a,Nv y,Sv st,v] 142):=bw _;have h1:=h.aj.il<|br _;have b1:=Bx.at (w.setCell ⟨c.eb,4,none⟩<|Iv<|(l:Int)+1) #[.bool rc,Nv a,Nv y,Sv st,v] 142 w.heap.size o1.size.symm;have ze:=h.aj.je.bx.z;have a1:=(h.aj.QB (l+1)<|Nat.le_succ l).af k1;have pe1:=(h.pe.move (w':=w.setCell ⟨c.eb,4,none⟩<|Iv<|(l:Int)+1) (Q:=λb=>b<c.lo) (ja o1.size.symm) (λb p _=>o1.block b λe=>by have:=h.aj.je.z;omega)<|λ_ p _=>p).af k1;have en1:=(h.en.one o1<|h.en.ab5 h.aj.je).af k1;obtain⟨W1,HW⟩:∃W,W=(w.setCell ⟨c.eb,4,none⟩<|Iv<|(l:Int)+1).alloc (Cv #[.bool rc,Nv a,Nv y,Sv st,v] 142):=⟨_,rfl⟩;have k1':Fr (jS c g) w W1:=by rw[HW];exact(o1.fr<|Or.inr<|Or.inl rfl).trans (Fr.of k1)
 have a1:AJ W1 c nb (l+1) cnt g s:=by rw[HW];exact a1
 have en1:bV W1 nb Γ g s:=by rw[HW];exact en1
 have pe1:PE W1 (λb=>b<c.lo) x v:=by rw[HW];exact pe1
 have b1:Bx W1 w.heap.size #[.bool rc,Nv a,Nv y,Sv st,v]:=by rw[HW];exact b1
 have t1:fA (l+1) c w g s W1 g s:={fA.refl h.aj.js c (l+1)with fr:=k1'};have H1:=Uo (a:=a) (y:=y) Hx ⟨a1,en1,pe1,h.sc,h.hd,h.fa,fb,h.mf⟩;have nm:∀y d,Γ y=some d->∃m,yZ g s d m:=λy d q=>by
  have⟨L,_,hq⟩:=h.en;obtain⟨q1,_⟩|⟨d',m,q1,_,q3⟩:=hq y
  .rw[q1]at q;cases q
  .rw[q1]at q;injection q with q;subst q;exact⟨m,q3⟩
 have l1:l+1<aL:=Up;have HK:∀w2 w4 w5 n2 g2 s2 cA T2 ba cq D,jc rc st x (jd c.mks x) Γ s (.ok (T2,s2))->AJ w2 c nb (l+1) cA g2 s2->fA (l+1) c W1 g s w2 g2 s2->lX (l+1) g2 s2 n2 T2->cA<=cnt+1000*(1+nn x)->Below w2.heap.size (w2.setCell ⟨c.eb,4,none⟩<|Nv l) w4->GL w5 g2.ds g2.str ba g2.vr g2.ly cq->Fr (λb=>b∈g2.ds) w4 w5->im g2.str g2.nx ba->TpD (if jf x then aL else l) g2 cq n2 l D->agf rc st x Γ c nb l (1000*(1+nn x)) g s cnt w (Rv<|nA n2) w5:=λw2 w4 w5 n2 g2 s2 cA T2 ba cq D p2 a2 t2 r2 hc k4 hg F e d=>by
  have o:=fH w2 c.eb 4<|Nv l;have F':Fr (jS c g2) w2 w5:=((o.fr<|Or.inr<|Or.inl rfl).trans<|Fr.of<|k4.mono<|ja o.size).trans<|F.fD λb q=>Or.inr<|Or.inr q;have bx:=((a2.je.bx.aO 4 (Nv l) (QC c nb l) rfl ag).below (k4.mono<|ja o.size)).fr F (a2.je.wL a2.js);have ct:=(((a2.je.ct.one o<|Ne.symm a2.je.ne.1).below<|k4.mono<|ja o.size).fr F<|a2.je.wM a2.js);have⟨g5,a5,t5,n5⟩:=QE h.aj l1 nm a2 (t1.trans h.aj.js a1.js a2.js t2) r2 p2 hg e d F'<|a2.je.fr a2.js F' bx ct;exact Or.inl ⟨n2,g5,s2,cA,T2,rfl,p2,a5,t5,hc,n5⟩
 have HF:=And.intro t1.fr<|λb=>h.aj.Uq (b:=b);have f4:=h.aj.je.bx.c 4;have f5:=h.aj.je.bx.f 4;have HV:=And.intro pe1 b1;obtain⟨tx,ax,rfl⟩:=h.pe.iface;obtain⟨c1,c2,c3⟩:=b1;go_enter Tryz.func377,Tryz.ntmps377;go_wp2_with fail;rw[<-HW];refine H1.mono ?_;rintro e w2(⟨n2,g2,s2,cA,T2,rfl,P2,A2,ZQ,Zd,R2⟩|hb)
 .have o:=fH w2 c.eb 4<|Nv l;have f6:=A2.je.bx.c 4;have f7:=A2.je.bx.f 4;have zl:=c3;have bb:=HV.2.fr ZQ.fr h1;have⟨d1,d2,d3⟩:=bb.one o ae;have pe3:=(HV.1.move (Q:=λb=>b<c.lo) ZQ.fr.size (λb p q=>ZQ.fr.block b q<|HF.2 b p)<|λ_ p _=>p).move (w':=w2.setCell ⟨c.eb,4,none⟩<|Nv l) (Q:=λb=>b<c.lo) (ja o.size.symm) (λb p _=>o.block b λe=>by have:=A2.je.z;omega)<|λ_ p _=>p;have HI:=oB x _ _ _ pe3;have b3:=((A2.je.bx.aO 4 (Nv l) (QC c nb l) rfl ag).c 4);go_wp2_with fail;refine HI.mono ?_;rintro e w4⟨rfl,K4⟩;have g4:=((A2.js.eb A2.je<|fH w2 c.eb 4<|Nv l).af K4).gl;have l4:=((A2.je.bx.aO 4 (Nv l) (QC c nb l) rfl ag).below K4).c 4
  cases hv:jf x with
  |true=>
   have HG:=adJ (fp g2.ds g2.lv l) w4 g2.nx g2.lv n2 l g4 R2.mem<|br _;go_wp2_with fail;refine HG.mono ?_;rintro e w5⟨rfl,Ur,Ze,D,hg,F,E,z5,d⟩;have HX:=HK w2 w4 w5 n2 g2 s2 cA T2 Ur Ze D P2 A2 ZQ R2 Zd (K4.mono<|ja (fH w2 c.eb 4<|Nv l).size.symm) hg F E (by rw[hv,if_pos rfl];exact d.tp A2.js l1 R2)
   go_wp2
   go_ret;exact HX
  |false=>
   have HG:=B_ (dp g2.ds g2.lv l) w4 g2.nx g2.lv n2 l g4 R2.mem<|br _;go_wp2_with fail;refine HG.mono ?_;rintro e w5⟨rfl,Ur,Ze,D,hg,F,E,z5,d⟩;have HX:=HK w2 w4 w5 n2 g2 s2 cA T2 Ur Ze D P2 A2 ZQ R2 Zd (K4.mono<|ja (fH w2 c.eb 4<|Nv l).size.symm) hg F E (by rw[hv,if_neg ag];exact d.tp A2.js l1 R2)
   go_wp2
   go_ret;exact HX
 .have HX:=show qQ c (jc rc st x (jd c.mks x) Γ) g s w e w2 from by obtain⟨z,vl,vr,q1,q2,q3,q4⟩:=hb;exact⟨z,vl,vr,q1,q2,q3,HF.1.trans q4⟩
  obtain⟨z,vl,vr,rfl,-⟩:=hb
  go_wp2
  exact⟨rfl,Or.inr HX⟩
end
end Go.Proofs.YtfnkchdeheeiiaaGreatDoor

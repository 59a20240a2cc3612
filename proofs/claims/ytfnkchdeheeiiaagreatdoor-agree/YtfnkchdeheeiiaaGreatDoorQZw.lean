import Derived.Test.YtfnkchdeheeiiaaGreatDoorQYz6
import Derived.Test.YtfnkchdeheeiiaaGreatDoorQYv
set_option linter.all false
set_option maxRecDepth 100000
set_option maxHeartbeats 8000000
namespace Go.Proofs.YtfnkchdeheeiiaaGreatDoor
open Go.Proofs.Tryz renaming prog->ja,f3->jc,checked->jd,underlying9->jf,func3->jh
open Bx renaming new->ji
open Or renaming inl->jj,inr->jk
open _root_.Nat renaming zero_le->jl
open Go Proofs.Tryz
variable {L R l r s:BA} {rs:Bool} {f:Fl} {fn:FuncId} {i j k n:Int} {B B':List (BA×Un.Ty)} {w:World}
section
open Go.RowKit Go.ChangeMaps Go.MapKept Un
def aiw fn rs:=∀(w:World)(nl:List BA),nl.length<=1000000->Cq fn #[] w (λe w'=>∃ty eb S,e=.returned (.iface ty<|Pv eb)/\Bq w w'/\Zb ty eb w.heap.size w'.heap.size rs nl S/\S w' 0 (λ_=>none) ⟨Ty.var,λ_=>False⟩ (λ_=>none))
def al4:aiw 61 true:=by
 intro w nl hl;have HN:=ais (w:=w) nl;go_enter func61,ntmps61;go_wp2_with fail;refine HN.mono ?_;rintro e w1⟨eb,rfl,HB,HS⟩
 go_wp2
 go_ret;exact⟨_,eb,_,rfl,HB,al1 hl,HS⟩
def al5:aiw 63 false:=by
 intro w nl hl;have HN:=ait (w:=w) nl;go_enter func63,ntmps63;go_wp2_with fail;refine HN.mono ?_;rintro e w1⟨eb,rfl,HB,HS⟩
 go_wp2
 go_ret;exact⟨_,eb,_,rfl,HB,air hl,HS⟩
structure acx n fn rs:Prop where
 zN:aiw fn rs
 cf:∀(args:Array Value)(w:World),(callFunc fn args).run ja w=.ok (.enter fn args) w
 look:∀{w:World}{b:Nat},MG qI w b (bF 2 (.func (.func 63) #[] #[])<|bF 1 (.func (.func 61) #[] #[]) [])->(Instr.lookup 85 (Mv b) (Iv n) true).run ja w=.ok (.tuple #[.func (.func fn) #[] #[],.bool true]) w
def aix:acx 1 61 true:=⟨al4,λ_ _=>qkr,λh=>(I9 h).1⟩
def aiy:acx 2 63 false:=⟨al5,λ_ _=>qkr,λh=>(I9 h).2⟩
def pM rs s f L R B:=match bX s with
 |.error f'=>f=f'/\L=bs []/\R=bs []/\B=[]|.ok l=>((fs fY l xE).f.kind≠0/\f=(fs fY l xE).f/\L=bs []/\R=bs []/\B=[])\/((fs fY l xE).f.kind=0/\∃F,In.sG rs l (λ_=>none) (λ_=>none) ⟨Ty.var,λ_=>False⟩ B F/\f=fF F/\L=fL F/\R=fR F)
def O7(s:BA)(w:World)(lo:Nat)(u:Value):Prop:=match bX s with
 |.error _=>u=.slice none 0 0|.ok l=>((fs fY l xE).f.kind≠0/\u=.slice none 0 0)\/((fs fY l xE).f.kind=0/\RowV QD 1 w (λb=>lo<=b) l u)
def al6 rs s w(e:Ending)w':=∃u f L R B va vc,pM rs s f L R B/\O7 s w' w.heap.size u/\e=.returned (.tuple #[.agg #[u],nK f L R va B.length vc])/\RowV WY 2 w' (λb=>w.heap.size<=b) B (.slice va B.length vc)/\Bq w w'
def acy w P:RowV WY 2 w P [] (.slice none 0 0):=by simp_all[RowV,WY]
def Ch(h:Laid w)s(hn:acx n fn rs):Calls ja 26 #[.string s,.int .i64 n] w (al6 rs s w):=by
 obtain⟨W0,HW⟩:∃W0,W0=(w.alloc<|Cv #[Lv none 0 0] 60).alloc (Cv (o7 none 0 0) 34):=⟨_,rfl⟩;have cz:Below w.heap.size w W0:=by rw[HW];exact(bw _).alloc ag _
 have A0:Bx W0 w.heap.size #[Lv none 0 0]:=by rw[HW];exact(ji w _ _).alloc _
 have B0:Bx W0 (w.heap.size+1) (o7 none 0 0):=by rw[HW];have:=ji (w.alloc<|Cv #[Lv none 0 0] 60) (o7 none 0 0) 34;simpa using this
 have HC:=Jc (h.af cz) s;simp only[o7]at HW B0;clear h;go_enter func26,ntmps26;go_wp2_with fail;rw[<-HW];refine HC.mono ?_;rintro e w1⟨u,f,rfl,dA,hp⟩;obtain⟨va,vc,m,hu⟩:∃va vc n,u=Lv va n vc:=by
  cases hr:bX s with
  |error f'=>rw[hr]at hp;exact⟨_,_,_,hp.2⟩|ok l=>rw[hr]at hp;have⟨va,vc,cs,e,_⟩:=hp.2;exact⟨_,_,_,e⟩
 subst hu;have eN:=cz.trans<|dA.mono cz.size;obtain⟨W1,Br⟩:∃W1,W1=(w1.alloc<|Cv #[Lv va m vc] 60).alloc (Cv #[.int .i64 (f.kind:Int),.int .i64 (f.ak:Int),.int .i64 (f.to:Int)] 30):=⟨_,rfl⟩;have iG:Below w1.heap.size w1 W1:=by rw[Br];exact(bw _).alloc ag _
 have eA:=eN.trans<|iG.mono eN.size;have A2:=ai<|(A0.below dA).below iG;have B2:=ai<|(B0.below dA).below iG;have P2:Bx W1 w1.heap.size #[Lv va m vc]:=(by rw[Br];exact(ji w1 _ _).alloc _);have F2:Bx W1 (w1.heap.size+1) #[.int .i64 (f.kind:Int),.int .i64 (f.ak:Int),.int .i64 (f.to:Int)]:=(by rw[Br];have:=ji (w1.alloc<|Cv #[Lv va m vc] 60) #[.int .i64 (f.kind:Int),.int .i64 (f.ak:Int),.int .i64 (f.to:Int)] 30;simpa using this);have yg:=ai Br;have amT:=ai iG;have m7:=eN.size;have oh:=B0.z;have i_:=dA.size;unfold Mb;by_cases hk:f.kind=0
 .cases hr:bX s with
  |error f'=>
   rw[hr]at hp;obtain⟨rfl,_⟩:=hp;have:=(zU hr).1;omega
  |ok l=>
  rw[hr]at hp;obtain⟨hf,aN⟩:=hp;have e0:((f.kind:Nat):Int)=0:=ae;rw[e0]at yg F2;have hs:¬400<s.size:=λc=>by simp[bX,c]at hr
  have HKZ:(fs fY l xE).f.kind=0:=by rw[<-hf];exact hk
  have HPI:=PI.init hs hr HKZ rs (λ_=>False) (cnt:=0) ae;have hnl:=(PG.init hs hr HKZ).2;have hl:=(zT hr).2;obtain⟨nl,HNL⟩:∃nl,Hid<|nl=l.flatMap dNm:=⟨_,ai rfl⟩;rw[<-uh HNL]at HPI hnl;have HRW:Hid (RowV QD 1 W1 (λb=>W0.heap.size<=b/\b<w1.heap.size) l<|Lv va m vc):=ai<|aN.move bS iG.size (λb _ z=>iG.block b z)<|λb p z=>⟨p,z⟩;have hzw:=iG.size;have ZB:=hn.cf;clear HC cz dA iG eN A0 B0 Br HW aN hf hs;go_wp2_with fail;rw[<-uh yg];refine UC.mono ?_;rintro e w2⟨rfl,K2,m2⟩;have xU:=hn.look m2;have A3:=A2.below K2;have B3:=B2.below K2;have P3:=ai<|P2.below K2;have HR3:=(HRW.move bS K2.size (λb _ z=>K2.block b z)<|λb p z=>p);have z2:=K2.size;clear m2 A2 B2 P2 F2 HRW yg;have⟨p1,p2,p3⟩:=uh P3
  go_wp2
  go_region_with(first
   |(go_at_call 40;go_loud(refine HIN.mono ?_);rintro e w4⟨B,F,qM,qN,hQ4,rfl,hB4,k4'⟩;have k4:Below w2.heap.size w3 w4:=k4';have A4:=(A3.below K3).same k4.size<|k4.block _ ae;have B4:=(B3.below K3).same k4.size<|k4.block _ ae;have P4:=(P3.below K3).same k4.size<|k4.block _ ae;have HA4:=ai A4;have HB4:=ai B4;have HQ4:=ai hQ4;have HW4:=ai hB4;have K4:=ai k4;obtain⟨a1,a2,a3⟩:=A4;obtain⟨b1,b2,b3⟩:=B4;obtain⟨c1,c2,c3⟩:=P4;clear hQ4 hB4 k4 k4' HIN;unfold nK)
   |(refine(hn.zN _ nl ae).mono ?_;rintro e w3⟨ty,eb,S,rfl,k3,E3,S3⟩;have k3':Below w2.heap.size w2 w3:=(Below.refl w2.heap.size w2).drew.trans k3;have HIN:=ai (aeT agM E3 (HR3.move bS k3'.size (λb _ z=>k3'.block b z) (λb p z=>by have:=p.2;show b<w2.heap.size;omega)) hl k3'.size (br _) S3 HPI);have P5:=P3.below k3';have K3:=ai k3';have z3:=k3'.size;obtain⟨d1,d2,d3⟩:=P5;clear k3 k3' E3 S3))
  all_goals(
   go_wp2_with fail;have k3:=uh K3;have k4:=uh K4;have k24:=k3.trans k4;have z4:=k4.size;have k04:=(eA.trans<|K2.mono eA.size).trans (k24.mono (by have:=eA.size;omega));have⟨c5,f5,z5⟩:=(HB4.oe (b2:=w.heap.size) ae 0<|Lv va m vc).UX rfl (.int .i64 ((fF F).kind:Int)) (.int .i64 ((fF F).ak:Int)) (.int .i64 ((fF F).to:Int)) (Sv<|fL F) (Sv<|fR F) (Lv qM B.length qN) (Lv none 0 0);have⟨c6,f6,z6⟩:=(HA4.rK 0 (Lv va m vc) #[Lv va m vc] ag ag).aff (b:=w.heap.size+1) ae (.int .i64 ((fF F).kind:Int)) (.int .i64 ((fF F).ak:Int)) (.int .i64 ((fF F).to:Int)) (Sv<|fL F) (Sv<|fR F) (Lv qM B.length qN)<|Lv none 0 0;refine bodyPost_ret (v:=.tuple #[Av #[Lv va m vc],nK (fF F) (fL F) (fR F) qM B.length qN]) (by simp[results,Tryz.results26,go_sem,nK,c5,c6]) rfl ?_;have kk:=Tt ((Fr.refl (λb=>b=w.heap.size\/b=w.heap.size+1) w4).set (b:=w.heap.size) (jj<|jj rfl) 0<|Lv va m vc) (b:=w.heap.size+1) (jj<|jk rfl) (.int .i64 ((fF F).kind:Int)) (.int .i64 ((fF F).ak:Int)) (.int .i64 ((fF F).to:Int)) (Sv<|fL F) (Sv<|fR F) (Lv qM B.length qN)<|Lv none 0 0;refine⟨Lv va m vc,fF F,fL F,fR F,B,qM,qN,?_,?_,rfl,?_,Fr.zR k04 k04.size kk (λx q=>by obtain rfl|rfl:=q<;>omega)⟩
   .unfold pM;rw[hr];exact jk ⟨HKZ,F,HQ4,rfl,rfl,rfl⟩
   .unfold O7;rw[hr];exact jk ⟨HKZ,HR3.move bS (Nat.le_trans k24.size kk.size) (λb p z=>(kk.block b ae (λq=>by have:=p.1;obtain rfl|rfl:=q<;>omega)).trans<|k24.block b z) (λb p z=>by have:=p.1;show w.heap.size<=b;omega)⟩
   .exact HW4.move iJ kk.size (λb p z=>kk.block b z (λq=>by have p:w3.heap.size<=b:=p;obtain rfl|rfl:=q<;>omega)) (λb p _=>by have p:w3.heap.size<=b:=p;show w.heap.size<=b;omega))
 .have gY:((f.kind:Int)==0)=false:=bP
  have HA:pM rs s f (bs []) (bs []) []/\∀W,O7 s W w.heap.size<|Lv none 0 0:=(by
   unfold pM O7
   cases hr:bX s with
   |error f'=>
    rw[hr]at hp;obtain⟨rfl,_⟩:=hp;exact⟨⟨rfl,rfl,rfl,rfl⟩,λ_=>rfl⟩
   |ok l=>
    rw[hr]at hp;obtain⟨rfl,_⟩:=hp
    exact⟨jj ⟨hk,rfl,rfl,rfl,rfl⟩,λ_=>jj ⟨hk,rfl⟩⟩)
  clear HC cz dA iG eN A0 B0 Br HW hk hp;go_wp2_with fail;rw[<-uh yg];have⟨c1,f1,z1⟩:=uh A2;have⟨c2,f2,z2⟩:=uh B2;obtain⟨c3,f3,z3⟩:=P2;obtain⟨c4,f4,z4⟩:=F2;go_region;go_wp2_with fail;have⟨c5,f5,z5⟩:=((B2.oe (b2:=w.heap.size) ae 0<|Lv none 0 0).UX rfl (.int .i64 (f.kind:Int)) (.int .i64 (f.ak:Int)) (.int .i64 (f.to:Int)) (Sv ⟨#[]⟩) (Sv ⟨#[]⟩) (Lv none 0 0) (Lv none 0 0)).kL;have⟨c6,f6,z6⟩:=((A2.rK 0 (Lv none 0 0) #[Lv none 0 0] ag ag).aff (b:=w.heap.size+1) ae (.int .i64 (f.kind:Int)) (.int .i64 (f.ak:Int)) (.int .i64 (f.to:Int)) (Sv ⟨#[]⟩) (Sv ⟨#[]⟩) (Lv none 0 0)<|Lv none 0 0).kL;refine bodyPost_ret (v:=.tuple #[Av #[Lv none 0 0],Av #[.int .i64 (f.kind:Int),.int .i64 (f.ak:Int),.int .i64 (f.to:Int),Sv ⟨#[]⟩,Sv ⟨#[]⟩,Lv none 0 0,Lv none 0 0]]) (by simp[results,Tryz.results26,go_sem,c5,c6]) rfl ?_;have kk:=Tt ((Fr.refl (λb=>b=w.heap.size\/b=w.heap.size+1) W1).set (b:=w.heap.size) (jj<|jj rfl) 0<|Lv none 0 0) (b:=w.heap.size+1) (jj<|jk rfl) (.int .i64 (f.kind:Int)) (.int .i64 (f.ak:Int)) (.int .i64 (f.to:Int)) (Sv ⟨#[]⟩) (Sv ⟨#[]⟩) (Lv none 0 0)<|Lv none 0 0;exact⟨Lv none 0 0,f,bs [],bs [],[],none,0,HA.1,HA.2 _,rfl,acy _ _,(Fr.zR eA eA.size kk (λx q=>by obtain rfl|rfl:=q<;>omega)).drew⟩
def al7 rs s w(e:Ending)w':=∃f L R B va vc,pM rs s f L R B/\e=.returned (nK f L R va B.length vc)/\RowV WY 2 w' (λb=>w.heap.size<=b) B (.slice va B.length vc)/\Bq w w'
def O7.slice{w}{lo}{u}(h:O7 s w lo u):∃va n vc,u=.slice va n vc:=by
 rw[O7]at h
 cases hr:bX s with
 |error f=>grind|ok l=>
  rw[hr]at h;obtain⟨_,h⟩|⟨_,va,vc,cs,e,_⟩:=h
  .grind
  .grind
def aeU(h:Laid w)s(hn:acx n fn rs):Cq 12 #[.string s,Iv n] w (al7 rs s w):=by
 obtain⟨W0,HW⟩:∃W0,W0=w.alloc (Cv #[Iv 0,Iv 0,Iv 0,Sv ⟨#[]⟩,Sv ⟨#[]⟩,Lv none 0 0,Lv none 0 0] 34):=⟨_,rfl⟩;have K0:Bq w W0:=by rw[HW];exact bw _
 have B0:Bx W0 w.heap.size #[Iv 0,Iv 0,Iv 0,Sv ⟨#[]⟩,Sv ⟨#[]⟩,Lv none 0 0,Lv none 0 0]:=by rw[HW];exact ji _ _ _
 have HC:=Ch (h.af K0) s hn;go_enter func12,ntmps12;go_wp2_with fail;rw[<-HW];refine HC.mono ?_;rintro e w1⟨u,f,L,R,B,va,vc,HA,hU,rfl,hR,hb⟩;obtain⟨pa,pn,pc,rfl⟩:=hU.slice;rw[nK];obtain⟨W1,Br⟩:∃W1,W1=(w1.alloc<|Cv #[Lv pa pn pc] 60).alloc (Cv #[Nv f.kind,Nv f.ak,Nv f.to,Sv L,Sv R,Lv va B.length vc,Lv none 0 0] 34):=⟨_,rfl⟩;have k1:Bq w1 W1:=by rw[Br];exact(bw _).alloc ag _
 have kk:=hb.trans<|k1.mono hb.size;have K1:=K0.trans<|kk.mono K0.size;have B1:=ai<|B0.below kk;have C1:Bx W1 (w1.heap.size+1) #[Nv f.kind,Nv f.ak,Nv f.to,Sv L,Sv R,Lv va B.length vc,Lv none 0 0]:=(by rw[Br];have:=ji (w1.alloc<|Cv #[Lv pa pn pc] 60) #[Nv f.kind,Nv f.ak,Nv f.to,Sv L,Sv R,Lv va B.length vc,Lv none 0 0] 34;simpa using this);have HR:=(hR.move iJ k1.size (λb _ z=>k1.block b z) (λb p _=>by have:=B0.z;have p:W0.heap.size<=b:=p;show w.heap.size+1<=b;omega));have z0:=K1.size;subst Br;have⟨x1,x2,x3⟩:=uh B1;obtain⟨y1,y2,y3⟩:=C1;go_wp2_with fail;have⟨p1,p2,p3⟩:=B1.UX rfl (Nv f.kind) (Nv f.ak) (Nv f.to) (Sv L) (Sv R) (Lv va B.length vc) (Lv none 0 0);refine bodyPost_ret (v:=nK f L R va B.length vc) (by simp[results,Tryz.results12,go_sem,nK,p1]) rfl ?_;have kk:=λW:World=>Tt (Fr.refl (λb=>b=w.heap.size) W) (b:=w.heap.size) (jj rfl) (Nv f.kind) (Nv f.ak) (Nv f.to) (Sv L) (Sv R) (Lv va B.length vc)<|Lv none 0 0;exact⟨f,L,R,B,va,vc,HA,rfl,HR.move iJ (kk _).size (λb p z=>(kk _).block b z (λq=>by have p:w.heap.size+1<=b:=p;have q:b=w.heap.size:=q;omega)) (λb p _=>by have p:w.heap.size+1<=b:=p;show w.heap.size<=b;omega),Fr.zR K1 K1.size (kk _) (λx q=>by subst q;exact br _)⟩
def wB(B:List (BA×Ty)):List (BA×BA):=B.map λp=>(p.1,bs<|wr dec (vars [] p.2) p.2 0)
def akE(h:In.tP dec B'=In.tP dec B):wB B'=wB B:=by
 have e:∀B:List (BA×Ty),wB B=(In.tP dec B).map λp=>(p.1,bs p.2):=λB=>by simp[wB,In.tP,Un.written]
 rw[e,e,h]
def acz(pl:Prop)d:In.DcE pl d d:=by
 cases d with
 |ty t vs ms=>exact .ty _ _ _ _ _ _ rfl rfl rfl|lt r t b=>exact .lt _ _ _ _ _ rfl (λ_=>rfl) ⟨rfl,λ_=>rfl⟩
def DW(pl:Prop):∀l:List Dc,dE (In.DcE pl) l l
 |[]=>.nil|d::l=>.cons (acz pl d)<|DW pl l
def aiz{d}(h:D3 d):In.DcK d:=by
 cases d with
 |ty t vs ms=>
  intro m hm;obtain⟨s,L,f,u,a,rfl,_⟩:=h.2.2.2.2 m hm;rfl
 |lt r t b=>trivial
def FtR.rep{pl:Prop}{z z'}(h:In.FtR pl z z'):z'.f.kind=z.f.kind/\(pl->z'.f=z.f)/\UI z'=UI z/\UJ z'=UJ z:=by
 have ht:=h.texts dec;unfold In.RK In.Gk at ht;unfold UI UJ;rw[<-h.1];refine⟨rfl,λp=>(h.2.1 p).symm,?_,?_⟩
 .grind
 .grind
def acA{pl:Prop}{F F'}(h:In.ahr pl F F'):(fF F').kind=(fF F).kind/\(pl->fF F'=fF F)/\fL F'=fL F/\fR F'=fR F:=by
 cases F with
 |none=>
  cases F' with
  |none=>grind|some z=>exact h.elim
 |some z=>
  cases F' with
  |none=>exact h.elim|some z'=>exact FtR.rep h
def pM.agree{RL}{f'}{L' R'}(h:pM rs s f L R B)(h':pM RL s f' L' R' B'):f'=f/\L'=L/\R'=R/\wB B'=wB B:=by
 rw[pM]at h h'
 cases hr:bX s with
 |error e=>
  rw[hr]at h h';obtain⟨rfl,rfl,rfl,rfl⟩:=h;obtain⟨rfl,rfl,rfl,rfl⟩:=h';exact⟨rfl,rfl,rfl,rfl⟩
 |ok l=>
  rw[hr]at h h';obtain⟨hk,rfl,rfl,rfl,rfl⟩|⟨hk,F,q,rfl,rfl,rfl⟩:=h
  .grind
  .obtain⟨gY,_⟩|⟨_,F',q',rfl,rfl,rfl⟩:=h'
   .exact absurd hk gY
   .have hs:¬400<s.size:=λc=>by simp[bX,c]at hr
    have hg:=pZ hs;rw[hr]at hg;have⟨b1,b2⟩:=In.aaN dec (DW True l) (λd hd=>aiz<|hg.1 d hd) _ q q';have⟨_,c2,c3,c4⟩:=acA b2;exact⟨c2 trivial,c3,c4,akE b1⟩
def pM.pl(h:pM rs s f L R B):f.ak<=f.to/\f.to<=s.size:=by
 unfold pM at h
 cases hr:bX s with
 |error e=>
  rw[hr]at h;obtain⟨rfl,_⟩:=h;exact(zU hr).2
 |ok l=>
  rw[hr]at h;have hp:=ab7 hr;obtain⟨hk,rfl,_⟩|⟨hk,F,q,rfl,_⟩:=h
  .have:=OZ (u:=fY) l hp xE ⟨br _,jl _,nofun⟩;exact⟨this.1,this.2.1⟩
  .cases F with
   |none=>exact⟨br _,jl _⟩|some z=>
    have:=In.OX hp q z rfl;exact⟨Nat.le_of_lt this.1,this.2.1⟩
def aeV{P}{v}(h:RowV WY 2 w P B v):BH w (wB B) v:=by
 obtain⟨va,vc,cs,rfl,hr,hq⟩:=h;have hl:(wB B).length=B.length:=by simp[wB]
 refine⟨va,vc,by rw[hl],?_⟩;obtain rfl|⟨g,rfl,_,hz,hc⟩:=hr
 .exact jj rfl
 .refine jk ⟨g,rfl,hz,λi hi=>?_⟩;rw[hl]at hi;have⟨q1,q2⟩:=hq i hi;have c0:=hc i hi 0 aH;have c1:=hc i hi 1 aH;rw[q1]at c0;rw[q2]at c1;refine⟨?_,?_⟩
  .rw[Nat.add_zero]at c0;rw[c0];simp[wB]
  .rw[c1];simp[wB]
def Bh{rs:Bool}:∀{l:List Dc}{mk:In.Mks}{Γ:In.Env}{s:In.St}{B:List (BA×Ty)}{F:Option In.Ft},In.sG rs l mk Γ s B F->B.length<=l.length
 |[],_,_,_,_,_,h=>by rw[h.1];exact br _|.ty t vs ms::r,_,_,_,_,_,h=>Nat.le_succ_of_le (Bh (l:=r) h)|.lt rc t b::r,_,_,_,_,_,h=>by
  obtain⟨o,_,hq⟩:=h
  cases o with
  |error x=>rw[hq.1];exact jl _|ok p=>
   obtain⟨_,rfl,_⟩|⟨_,T,B',_,rfl,hr⟩:=hq
   .exact jl _
   .exact Nat.succ_le_succ (Bh (l:=r) hr)
def pM.len(h:pM rs s f L R B):(wB B).length<=1000000:=by
 have e:(wB B).length=B.length:=by simp[wB]
 rw[e];rw[pM]at h
 cases hr:bX s with
 |error e=>grind|ok l=>
  rw[hr]at h;obtain⟨_,_,_,_,rfl⟩|⟨_,F,q,_⟩:=h
  .exact jl _
  .have:=Bh q;have:=(zT hr).2;omega
def xR s k i j l r L:=∃rs f B,pM rs s f l r B/\k=(f.kind:Int)/\i=(f.ak:Int)/\j=(f.to:Int)/\L=wB B
def xR.one{k' i' j'}{l' r'}{L L':List (BA×BA)}(h:xR s k i j l r L)(h':xR s k' i' j' l' r' L'):k'=k/\i'=i/\j'=j/\l'=l/\r'=r/\L'=L:=by
 obtain⟨rs,f,B,h,rfl,rfl,rfl,rfl⟩:=h;obtain⟨RL,f',B',h',rfl,rfl,rfl,rfl⟩:=h';obtain⟨rfl,e1,e2,e3⟩:=h.agree h';exact⟨rfl,rfl,rfl,e1,e2,e3⟩
def xR.len{s}{k i j}{l r}{L}(h:xR s k i j l r L):L.length<=1000000:=by
 obtain⟨rs,f,B,h,rfl,rfl,rfl,rfl⟩:=h;exact h.len
def xR.pl{s}{k i j}{l r}{L}(h:xR s k i j l r L):0<=i/\i<=j/\j<=(s.size:Int):=by
 obtain⟨rs,f,B,h,rfl,rfl,rfl,rfl⟩:=h;have:=h.pl;omega
def acB:List (BA×BA):=[(⟨#[107]⟩,⟨#[39,118,48,32,45,62,32,39,118,49,32,45,62,32,39,118,48]⟩),(⟨#[97]⟩,⟨#[85,110,105,116,32,45,62,32,73,110,116]⟩)]
def xR.fix{L:List (BA×BA)}(h:xR TN k i j l r L):k=0/\i=0/\j=0/\l=⟨#[]⟩/\r=⟨#[]⟩/\L=acB:=by
 obtain⟨rs,f,B,h,rfl,rfl,rfl,rfl⟩:=h;rw[pM]at h;rw[XZ]at h;simp only at h;obtain⟨hk,_⟩|⟨_,F,q,rfl,rfl,rfl⟩:=h
 .rw[TO]at hk;exact absurd rfl hk
 .obtain⟨rfl,hB⟩:=In.acW q;refine⟨rfl,rfl,rfl,rfl,rfl,?_⟩;have e:wB B=(B.map λp=>(p.1,Un.written dec p.2)).map λp=>(p.1,bs p.2):=by simp[wB,Un.written]
  rw[e,hB];rfl
def fQ(hL:Laid w)s(hn:acx n fn rs):Cq 12 #[.string s,Iv n] w λe w'=>∃k i j l r u L m c,e=.returned (.agg #[Iv k,Iv i,Iv j,.string l,.string r,.slice u m c,.slice none 0 0])/\xR s k i j l r L/\BH w' L (.slice u m c)/\Bq w w':=
 (aeU hL s hn).mono λe w' q=>by
  obtain⟨f,L,R,B,va,vc,h1,h2,h3,h4⟩:=q;exact⟨_,_,_,L,R,va,_,_,vc,h2,⟨rs,f,B,h1,rfl,rfl,rfl,rfl⟩,aeV h3,h4⟩
def zQv(v:World)C:∃V,V=v.alloc (Cv C 34)/\Bq v V/\Hid (Bx V v.heap.size C):=⟨_,rfl,bw _,ji _ _ _⟩
def acC(hL:Laid w):Cq 10 #[] w λe w'=>e=.returned (.bool true)/\Bq w w':=by
 obtain⟨W0,HW⟩:∃W0,W0=(w.alloc<|Cv #[Sv ⟨#[107]⟩,Sv ⟨#[39,118,48,32,45,62,32,39,118,49,32,45,62,32,39,118,48]⟩,Sv ⟨#[97]⟩,Sv ⟨#[85,110,105,116,32,45,62,32,73,110,116]⟩] 40).alloc (Cv #[Iv 0,Iv 0,Iv 0,Sv ⟨#[]⟩,Sv ⟨#[]⟩,Lv (some ⟨w.heap.size,0,none⟩) 2 2,Lv none 0 0] 34):=⟨_,rfl⟩;have HK:Bq w W0:=by rw[HW];exact(bw _).alloc ag _
 have b0:Bx W0 w.heap.size #[Sv ⟨#[107]⟩,Sv ⟨#[39,118,48,32,45,62,32,39,118,49,32,45,62,32,39,118,48]⟩,Sv ⟨#[97]⟩,Sv ⟨#[85,110,105,116,32,45,62,32,73,110,116]⟩]:=by rw[HW];exact(ji w _ _).alloc _
 have HB:Bx W0 (w.heap.size+1) #[Iv 0,Iv 0,Iv 0,Sv ⟨#[]⟩,Sv ⟨#[]⟩,Lv (some ⟨w.heap.size,0,none⟩) 2 2,Lv none 0 0]:=by rw[HW];have:=ji (w.alloc<|Cv #[Sv ⟨#[107]⟩,Sv ⟨#[39,118,48,32,45,62,32,39,118,49,32,45,62,32,39,118,48]⟩,Sv ⟨#[97]⟩,Sv ⟨#[85,110,105,116,32,45,62,32,73,110,116]⟩] 40) #[Iv 0,Iv 0,Iv 0,Sv ⟨#[]⟩,Sv ⟨#[]⟩,Lv (some ⟨w.heap.size,0,none⟩) 2 2,Lv none 0 0] 34;simpa using this
 have HR:BH W0 acB (Lv (some ⟨w.heap.size,0,none⟩) 2 2):=by
  refine⟨_,2,rfl,jk ⟨_,rfl,b0.z,λi hi=>?_⟩⟩;have hi:i=0\/i=1:=by simp[acB]at hi;omega
  obtain rfl|rfl:=hi
  .exact⟨by rw[b0.c];rfl,by rw[b0.c];rfl⟩
  .exact⟨by rw[b0.c];rfl,by rw[b0.c];rfl⟩
 have HI:=fQ (hL.af HK) TN aix;simp only[TN]at HI;go_enter func10,ntmps10;go_wp2_with fail;rw[<-HW];refine HI.mono ?_;rintro e w1⟨k,i,j,l,r,u,L,m,c,rfl,ha,hr,hb⟩;obtain⟨rfl,rfl,rfl,rfl,rfl,rfl⟩:=xR.fix ha;obtain⟨W1,yg,k1,HV1⟩:=zQv w1 #[Iv 0,Iv 0,Iv 0,Sv ⟨#[]⟩,Sv ⟨#[]⟩,Lv u m c,Lv none 0 0];have kk:=hb.trans<|k1.mono hb.size;have K1:=HK.trans<|kk.mono HK.size;have HR1:=HR.af kk;have eN:=HB.below kk;have HU1:=hr.af k1;have WQ:=fQ (hL.af K1) TN aiy;simp only[TN]at WQ;go_wp2_with fail;rw[<-yg];refine WQ.mono ?_;rintro e w2⟨k,i,j,l,r,u2,L,m2,c2,rfl,ha,hr,hb⟩;obtain⟨rfl,rfl,rfl,rfl,rfl,rfl⟩:=xR.fix ha;obtain⟨W2,hW2,k2,HY2⟩:=zQv w2 #[Iv 0,Iv 0,Iv 0,Sv ⟨#[]⟩,Sv ⟨#[]⟩,Lv u2 m2 c2,Lv none 0 0];have kk:=hb.trans<|k2.mono hb.size;have K2:=K1.trans<|kk.mono K1.size;have HR2:=HR1.af kk;have eA:=ai<|eN.below kk;have HU2:=HU1.af kk;have HV2:=HV1.below kk;have HX2:=hr.af k2;subst hW2;have HS:=jC (k:=0) (i:=0) (j:=0) (l:=⟨#[]⟩) (r:=⟨#[]⟩) HU2 HR2 aH;simp only[rpt]at HS;have⟨x1,x2,x3⟩:=uh eA;obtain⟨y1,y2,y3⟩:=HV2;go_wp2_with fail;refine HS.mono ?_;rintro e w3⟨rfl,hb⟩;have K3:=K2.trans<|hb.mono K2.size;have y8:=ai<|eA.below hb;have HY3:=HY2.below hb;have HS3:=jC (k:=0) (i:=0) (j:=0) (l:=⟨#[]⟩) (r:=⟨#[]⟩) (HX2.af hb) (HR2.af hb) aH;simp only[rpt]at HS3;have⟨x1,x2,x3⟩:=uh y8;obtain⟨y1,y2,y3⟩:=HY3;go_wp2_with fail;refine HS3.mono ?_;rintro e w4⟨rfl,hb⟩;have K4:=K3.trans<|hb.mono K3.size
 go_wp2
 go_ret;exact⟨rfl,K4⟩
def WB(hL:Laid w)s{p}{len cap:Nat}{r}(hlen:(len:Int)<=9223372036854775807)(hR:Raw w p len r):
 Cq 3 #[.string s,.slice p len cap] w λe w'=>e=.returned (.bool true)/\Bq w w':=by
 have HJ:=ai<|acC hL;have HR:=ai hR;have HL:=ai hL;clear hR hL;have HP:Hid (∀W A(xb:Nat),Src W xb p len cap r A->Cq 11 #[Pv xb] W (afO xb p len cap r W)):=ai<|λW A xb h=>aeJ h;go_enter func3,ntmps3;go_wp2_with fail;refine HJ.mono ?_;rintro e w1⟨rfl,dA⟩;have iG:Bq w1 (w1.alloc<|Cv #[Lv p len cap,Iv 0] 26):=bw _;have eA:=dA.trans<|iG.mono dA.size;have S2:Src (w1.alloc<|Cv #[Lv p len cap,Iv 0] 26) w1.heap.size p len cap r 0:=by
  refine⟨ji w1 _ _,jl _,hlen,λi hi=>?_,λi hi=>(HR i hi).2⟩;have⟨g,o,e,hg,hc⟩:=(HR i hi).1;have hz:=dA.size;exact⟨g,o,e,bP,ae,(World.cell?_of_block (a:=⟨g,o+i,none⟩) (w:=w)<|eA.block g hg).trans hc⟩
 have HP2:=ai<|HP _ 0 _ S2;have hzz:=dA.size;clear HJ HP S2;go_wp2_with fail;refine HP2.mono ?_;rintro e w3⟨n,l,L,hn,hLn,rfl,hm3,A3,hs3,uf⟩;have K0:=ai (uf.low eA eA.size hzz:Bq w w3);have WQ:=ai<|fQ (HL.af K0) s aix;clear HP2 hm3 hs3 uf iG eA dA HR hlen;go_wp2_with fail;refine WQ.mono ?_;rintro e v1⟨k1,i1,j1,l1,r1,u1,L1,m1,c1,rfl,a1,b1,h1⟩;obtain⟨V1,hV1,q1,B11⟩:=zQv v1 #[Iv k1,Iv i1,Iv j1,Sv l1,Sv r1,Lv u1 m1 c1,Lv none 0 0];have qq:=h1.trans<|q1.mono h1.size;have K1:=ai<|K0.trans<|qq.mono K0.size;have R11:=ai<|b1.af q1;have AA1:=ai a1;have HI2:=ai<|fQ (HL.af K1) s aiy;have yg:=ai hV1;clear WQ hV1 q1 qq b1 h1 a1;go_wp2_with fail;rw[<-uh yg];refine HI2.mono ?_;rintro e v2⟨k2,i2,j2,l2,r2,u2,L2,m2,c2,rfl,a2,b2,h2⟩;obtain⟨V2,hV2,q2,B22⟩:=zQv v2 #[Iv k2,Iv i2,Iv j2,Sv l2,Sv r2,Lv u2 m2 c2,Lv none 0 0];have qq:=h2.trans<|q2.mono h2.size;have K2:=ai<|K1.trans<|qq.mono K1.size;have R22:=ai<|b2.af q2;have AA2:=ai a2;have B12:=ai<|B11.below qq;have R12:=ai<|R11.af qq;have HI3:=ai<|fQ (HL.af K2) (bs l) aix;have HW2:=ai hV2;clear HI2 hV2 q2 qq b2 h2 a2 B11 R11 yg;go_wp2_with fail;rw[<-uh HW2];refine HI3.mono ?_;rintro e v3⟨k3,i3,j3,l3,r3,u3,L3,m3,c3,rfl,a3,b3,h3⟩;obtain⟨V3,hV3,q3,B33⟩:=zQv v3 #[Iv k3,Iv i3,Iv j3,Sv l3,Sv r3,Lv u3 m3 c3,Lv none 0 0];have qq:=h3.trans<|q3.mono h3.size;have K3:=ai<|K2.trans<|qq.mono K2.size;have R33:=ai<|b3.af q3;have AA3:=ai a3;have B13:=ai<|B12.below qq;have R13:=ai<|R12.af qq;have B23:=ai<|B22.below qq;have R23:=ai<|R22.af qq;have HI4:=ai<|fQ (HL.af K3) (bs l) aiy;have HW3:=ai hV3;clear HI3 hV3 q3 qq b3 h3 a3 B12 R12 B22 R22 HW2;go_wp2_with fail;rw[<-uh HW3];refine HI4.mono ?_;rintro e v4⟨k4,i4,j4,l4,r4,u4,L4,m4,c4,rfl,a4,b4,h4⟩;obtain⟨V4,hV4,q4,B44⟩:=zQv v4 #[Iv k4,Iv i4,Iv j4,Sv l4,Sv r4,Lv u4 m4 c4,Lv none 0 0];have qq:=h4.trans<|q4.mono h4.size;have K4:=ai<|K3.trans<|qq.mono K3.size;have R44:=ai<|b4.af q4;have AA4:=ai a4;have B14:=ai<|B13.below qq;have R14:=ai<|R13.af qq;have B24:=ai<|B23.below qq;have R24:=ai<|R23.af qq;have B34:=ai<|B33.below qq;have R34:=ai<|R33.af qq;subst hV4;clear HI4 q4 qq b4 h4 a4 B13 R13 B23 R23 B33 R33 HW3;obtain⟨rfl,rfl,rfl,rfl,rfl,rfl⟩:=AA1.one AA2;obtain⟨rfl,rfl,rfl,rfl,rfl,rfl⟩:=AA3.one AA4;have⟨g0,g1,g2⟩:=AA1.pl;have HS1:=ai<|jC R14 R24 AA1.len (k:=k2) (i:=i2) (j:=j2) (l:=l2) (r:=r2);simp only[rpt]at HS1;have⟨x1,x2,x3⟩:=uh B14;have⟨y1,y2,y3⟩:=uh B24;go_wp2_with fail;refine HS1.mono ?_;rintro e w5⟨rfl,hb5⟩;have K5:=ai<|K4.trans<|hb5.mono K4.size;have B15:=ai<|B14.below hb5;have B35:=ai<|B34.below hb5;have B45:=ai<|B44.below hb5;have HS2:=ai<|jC (R34.af hb5) (R44.af hb5) AA3.len (k:=k4) (i:=i4) (j:=j4) (l:=l4) (r:=r4);simp only[rpt]at HS2;clear HS1 x1 x2 x3 y1 y2 y3 B14 B24 B34 B44 R14 R24 R34 R44 hb5;have⟨x1,x2,x3⟩:=uh B35;have⟨y1,y2,y3⟩:=uh B45;go_wp2_with fail;refine HS2.mono ?_;rintro e w6⟨rfl,hb6⟩;have K6:=ai<|K5.trans<|hb6.mono K5.size;have B16:=ai<|B15.below hb6;have⟨x1,x2,x3⟩:=uh B16
 go_wp2
 go_ret;exact⟨rfl,K6⟩
end
section
open Go.ChangeShapes Go.WideShapes Go.ChangeAt Go.WideMaps Go.WideElems Go.RowKit Go.ChangeMaps
def GU os(started:os.Started)(H:Type)(enc:TypeId×Value->H):
 ReturnsInHanded {} jd os 3 .any (λw args=>(Rows.agreeSpec.pre enc ja jc [] false w args/\laidMetH ja Rows.agreeRow.laid w)/\sizedMet enc ja jc (OpenSpec.ofChange Rows.agreeSpec) false w args)
  (Rows.agreeSpec.post enc ja jc false true false false):=by
 refine returnsInHanded_of_change_and (C:=jd) (X:=λw _=>laidMetH ja Rows.agreeRow.laid w) (λ_ _ _ hh h=>h.of_heap hh) own started qkr jh
  (ChangeSpec.witness_shaped (enc:=enc) (C:=jd) (os:=os) (X:=λw _=>laidMetH ja Rows.agreeRow.laid w) false (World.doorLaid ja 72 os) #[.string ⟨#[]⟩,.slice none 0 0] 8 rfl (World.shaped_of_RefB qkr qkr) qkr qkr qkr (aaX os _)) ?_
 intro W base args ds gs before afV hW _ _ hL _;have aiA:∀(j:Nat)t v,Tryz.f3.params[j]? =some t->args[j]? =some v->Value.okWide ja W .any base t v:=afV;have hW':=hW;obtain⟨p,q,hA0,hV,rfl,hfz,Bk⟩:=hW;have hA:DataW.TrodAll enc ja W 0 (λ_=>true) true Tryz.f3.params.toList args.toList ds p:=hA0;rw[Tryz.params3]at hA aiA;obtain⟨v0,v1,d0,d1,p0,p1,rfl,rfl,rfl,h0,h1⟩:=trodAll_two hA;obtain⟨rfl,rfl⟩:=trodVars_none hV;obtain⟨s,rfl,rfl,rfl,fW⟩:=open_string jf (aiA 0 9 v0 rfl rfl) h0;obtain⟨a1,len,cap,rfl⟩:=okWide_slice AB<|aiA 1 22 v1 rfl rfl;have h1k:=h1;obtain⟨fuel,hf⟩:=h1;clear hA0 afV;simp only[List.append_nil,List.nil_append]at hW';have bz:∀x∈p1,x.block<W.heap.size:=λx hx=>by simpa using hW'.lt x hx
 have akF:∀(W':World),Bq W W'->DataW.Trod enc ja W' 0 (λb=>decide (b<W.heap.size)) true 22 (.slice a1 len cap) d1 p1:=
  λW' hn=>Below.trod laidOut qkr (of_decide_eq_true qkr) h1k hn bz
 obtain⟨hlen,r,hS⟩:=aaY (by simpa[Value.cells]using hf);refine(WB (ad1 hL) s (cap:=cap) hlen hS).mono λe W'⟨he,hb⟩=>?_;subst he;exact⟨_,rfl,_,_,_,[],_,[],hW',trodAll_mk1<|shut_bool Tryz.underlying4 _,trodAll_mk2 (shut_string jf fW)<|akF _ hb,rfl,hb.frame _,λh=>Mo⟩
end
section
open Go.ChangeShapes Go.WideShapes Go.ChangeAt Go.WideMaps Go.WideElems Go.RowKit
def agree_named:Tryz.prog.funcNamed "assay/assaykeep.Agree" =some 3:=qkr
def O_:Tryz.f3.isInstance ja Rows.agreeRow.origin Rows.agreeRow.targs:=of_decide_eq_true qkr
def Pa:Tryz.f3.isWrapper ja Rows.agreeRow.wrapper Rows.agreeRow.mainSum:=by
 rw[Func.isWrapper];first|(rw[if_pos<|by decide+kernel];kernel_rfl)|(rw[if_neg<|by decide+kernel];exact⟨rfl,rfl⟩)
def agree_row:Rows.AgreeSaid:=
 OpenClaim.holds_of_wide 3 jc rfl rfl rfl rfl rfl rfl rfl ⟨rfl,rfl,rfl,rfl,rfl⟩ rfl rfl rfl rfl rfl agree_named jh Gq O_ Pa
  (λos started H enc _=>GU os started H enc)
end
def Ci:([9,22].all λu=> !Tryz.prog.wantsStandIn u)=true:=qkr
theorem agree_holds:Rows.AgreeCardSaid:=
 Claim7.holds_tied_plain_at .later [] [.data,.data,.data,.sentinel,.sentinel,.data,.data] true Rows.agreeCard.stood.harness true
  agree_row (λ_ h=>Mo) Uq (λ_ h=>Mo) agree_row_tie rfl ⟨rfl,rfl⟩ U8 rfl
  (λf fn hf hfn=>by
   obtain rfl:f=3:=(Option.some.inj<|agree_named.symm.trans hf).symm;obtain rfl:fn=jc:=(Option.some.inj<|Tryz.func3.symm.trans hfn).symm
   exact⟨NI,λj t ht=>by
    rw[Tryz.params3]at ht;have hm:t∈[9,22]:=by simpa using Array.mem_of_getElem? ht
    exact(show Tryz.prog.wantsStandIn t=false by simpa using List.all_eq_true.1 Ci t hm)⟩)
  MY
end Go.Proofs.YtfnkchdeheeiiaaGreatDoor

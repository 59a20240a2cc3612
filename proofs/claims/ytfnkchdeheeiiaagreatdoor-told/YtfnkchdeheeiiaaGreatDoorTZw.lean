import Derived.Test.YtfnkchdeheeiiaaGreatDoorTYz6
import Derived.Test.YtfnkchdeheeiiaaGreatDoorTYv
set_option linter.all false
set_option maxRecDepth 100000
set_option maxHeartbeats 8000000
namespace Go.Proofs.YtfnkchdeheeiiaaGreatDoor
open Go.Proofs.Tryz renaming prog->ja,checked->jc,underlying9->jd
open Or renaming inl->jf,inr->jh
open Bx renaming new->ji
open Go Proofs.Tryz
variable {l r s:BA} {rs:Bool} {fn:FuncId} {i j k n:Int} {L:List (BA×BA)} {w:World}
section
open Go.RowKit Go.ChangeMaps Go.MapKept Un
def aiq fn rs:=∀(w:World)(nl:List BA),nl.length<=1000000->Cq fn #[] w (λe w'=>∃ty eb S,e=.returned (.iface ty<|Pv eb)/\Bq w w'/\Xm ty eb w.heap.size w'.heap.size rs nl S/\S w' 0 (λ_=>none) ⟨Ty.var,λ_=>False⟩ (λ_=>none))
def al5:aiq 61 true:=by
 intro w nl hl;have HN:=aio (w:=w) nl;go_enter func61,ntmps61;go_wp2_with fail;refine HN.mono ?_;rintro e w1⟨eb,rfl,HB,HS⟩
 go_wp2
 go_ret;exact⟨_,eb,_,rfl,HB,akV hl,HS⟩
def al6:aiq 63 false:=by
 intro w nl hl;have HN:=aip (w:=w) nl;go_enter func63,ntmps63;go_wp2_with fail;refine HN.mono ?_;rintro e w1⟨eb,rfl,HB,HS⟩
 go_wp2
 go_ret;exact⟨_,eb,_,rfl,HB,ain hl,HS⟩
structure VK n fn rs:Prop where
 Al:aiq fn rs
 cf:∀(args:Array Value)(w:World),(callFunc fn args).run ja w=.ok (.enter fn args) w
 look:∀{w:World}{b:Nat},MG pT w b (bD 2 (.func (.func 63) #[] #[])<|bD 1 (.func (.func 61) #[] #[]) [])->(Instr.lookup 85 (Mv b) (Iv n) true).run ja w=.ok (.tuple #[.func (.func fn) #[] #[],.bool true]) w
def akx:VK 1 61 true:=⟨al5,λ_ _=>qkr,λh=>(Kd h).1⟩
def aky:VK 2 63 false:=⟨al6,λ_ _=>qkr,λh=>(Kd h).2⟩
def Lu rs s f L R B:=match bY s with
 |.error f'=>f=f'/\L=bs []/\R=bs []/\B=[]|.ok l=>((fC fS l w_).f.kind≠0/\f=(fC fS l w_).f/\L=bs []/\R=bs []/\B=[])\/((fC fS l w_).f.kind=0/\∃F,In.Kr rs l (λ_=>none) (λ_=>none) ⟨Ty.var,λ_=>False⟩ B F/\f=fF F/\L=fL F/\R=fR F)
def OZ(s:BA)(w:World)(lo:Nat)(u:Value):Prop:=match bY s with
 |.error _=>u=.slice none 0 0|.ok l=>((fC fS l w_).f.kind≠0/\u=.slice none 0 0)\/((fC fS l w_).f.kind=0/\RowV QD 1 w (λb=>lo<=b) l u)
def al7 rs s w(e:Ending)w':=∃u f L R B va vc,Lu rs s f L R B/\OZ s w' w.heap.size u/\e=.returned (.tuple #[.agg #[u],nu f L R va B.length vc])/\RowV Wl 2 w' (λb=>w.heap.size<=b) B (.slice va B.length vc)/\Bq w w'
def abW w P:RowV Wl 2 w P [] (.slice none 0 0):=by simp_all[RowV,Wl]
def BZ(h:Laid w)s(hn:VK n fn rs):Calls ja 26 #[.string s,.int .i64 n] w (al7 rs s w):=by
 obtain⟨W0,HW⟩:∃W0,W0=(w.alloc<|Cv #[Lv none 0 0] 60).alloc (Cv (pd none 0 0) 34):=⟨_,rfl⟩;have bN:Below w.heap.size w W0:=by rw[HW];exact(bw _).alloc ag _
 have A0:Bx W0 w.heap.size #[Lv none 0 0]:=by rw[HW];exact(ji w _ _).alloc _
 have B0:Bx W0 (w.heap.size+1) (pd none 0 0):=by rw[HW];have:=ji (w.alloc<|Cv #[Lv none 0 0] 60) (pd none 0 0) 34;simpa using this
 have HC:=Lf (h.af bN) s;simp only[pd]at HW B0;clear h;go_enter func26,ntmps26;go_wp2_with fail;rw[<-HW];refine HC.mono ?_;rintro e w1⟨u,f,rfl,b_,hp⟩;obtain⟨va,vc,m,hu⟩:∃va vc n,u=Lv va n vc:=by
  cases hr:bY s with
  |error f'=>rw[hr]at hp;exact⟨_,_,_,hp.2⟩|ok l=>rw[hr]at hp;have⟨va,vc,cs,e,_⟩:=hp.2;exact⟨_,_,_,e⟩
 subst hu;have dq:=bN.trans<|b_.mono bN.size;obtain⟨W1,Bk⟩:∃W1,W1=(w1.alloc<|Cv #[Lv va m vc] 60).alloc (Cv #[.int .i64 (f.kind:Int),.int .i64 (f.al:Int),.int .i64 (f.to:Int)] 30):=⟨_,rfl⟩;have fc:Below w1.heap.size w1 W1:=by rw[Bk];exact(bw _).alloc ag _
 have cS:=dq.trans<|fc.mono dq.size;have A2:=ai<|(A0.below b_).below fc;have B2:=ai<|(B0.below b_).below fc;have P2:Bx W1 w1.heap.size #[Lv va m vc]:=(by rw[Bk];exact(ji w1 _ _).alloc _);have F2:Bx W1 (w1.heap.size+1) #[.int .i64 (f.kind:Int),.int .i64 (f.al:Int),.int .i64 (f.to:Int)]:=(by rw[Bk];have:=ji (w1.alloc<|Cv #[Lv va m vc] 60) #[.int .i64 (f.kind:Int),.int .i64 (f.al:Int),.int .i64 (f.to:Int)] 30;simpa using this);have BV:=ai Bk;have amI:=ai fc;have lG:=dq.size;have nJ:=B0.z;have jB:=b_.size;unfold jF;by_cases hk:f.kind=0
 .cases hr:bY s with
  |error f'=>
   rw[hr]at hp;obtain⟨rfl,_⟩:=hp;have:=(AY hr).1;omega
  |ok l=>
  rw[hr]at hp;obtain⟨hf,aM⟩:=hp;have e0:((f.kind:Nat):Int)=0:=ae;rw[e0]at BV F2;have hs:¬400<s.size:=λc=>by simp[bY,c]at hr
  have HKZ:(fC fS l w_).f.kind=0:=by rw[<-hf];exact hk
  have HPI:=PI.init hs hr HKZ rs (λ_=>False) (cnt:=0) ae;have hnl:=(PG.init hs hr HKZ).2;have hl:=(Ld hr).2;obtain⟨nl,HNL⟩:∃nl,Hid<|nl=l.flatMap dNm:=⟨_,ai rfl⟩;rw[<-uh HNL]at HPI hnl;have HRW:Hid (RowV QD 1 W1 (λb=>W0.heap.size<=b/\b<w1.heap.size) l<|Lv va m vc):=ai<|aM.move bL fc.size (λb _ z=>fc.block b z)<|λb p z=>⟨p,z⟩;have hzw:=fc.size;have Zh:=hn.cf;clear HC bN b_ fc dq A0 B0 Bk HW aM hf hs;go_wp2_with fail;rw[<-uh BV];refine UX.mono ?_;rintro e w2⟨rfl,K2,m2⟩;have xQ:=hn.look m2;have A3:=A2.below K2;have B3:=B2.below K2;have P3:=ai<|P2.below K2;have HR3:=(HRW.move bL K2.size (λb _ z=>K2.block b z)<|λb p z=>p);have z2:=K2.size;clear m2 A2 B2 P2 F2 HRW BV;have⟨p1,p2,p3⟩:=uh P3
  go_wp2
  go_region_with(first
   |(go_at_call 40;go_loud(refine HIN.mono ?_);rintro e w4⟨B,F,pZ,p7,hQ4,rfl,hB4,k4'⟩;have k4:Below w2.heap.size w3 w4:=k4';have A4:=(A3.below K3).same k4.size<|k4.block _ ae;have B4:=(B3.below K3).same k4.size<|k4.block _ ae;have P4:=(P3.below K3).same k4.size<|k4.block _ ae;have HA4:=ai A4;have Bj:=ai B4;have HQ4:=ai hQ4;have HW4:=ai hB4;have K4:=ai k4;obtain⟨a1,a2,a3⟩:=A4;obtain⟨b1,b2,b3⟩:=B4;obtain⟨c1,c2,c3⟩:=P4;clear hQ4 hB4 k4 k4' HIN;unfold nu)
   |(refine(hn.Al _ nl ae).mono ?_;rintro e w3⟨ty,eb,S,rfl,k3,E3,S3⟩;have k3':Below w2.heap.size w2 w3:=(Below.refl w2.heap.size w2).drew.trans k3;have HIN:=ai (aew abv E3 (HR3.move bL k3'.size (λb _ z=>k3'.block b z) (λb p z=>by have:=p.2;show b<w2.heap.size;omega)) hl k3'.size (br _) S3 HPI);have P5:=P3.below k3';have K3:=ai k3';have z3:=k3'.size;obtain⟨d1,d2,d3⟩:=P5;clear k3 k3' E3 S3))
  all_goals(
   go_wp2_with fail;have k3:=uh K3;have k4:=uh K4;have k24:=k3.trans k4;have z4:=k4.size;have k04:=(cS.trans<|K2.mono cS.size).trans (k24.mono (by have:=cS.size;omega));have⟨c5,f5,z5⟩:=(Bj.nO (b2:=w.heap.size) ae 0<|Lv va m vc).T8 rfl (.int .i64 ((fF F).kind:Int)) (.int .i64 ((fF F).al:Int)) (.int .i64 ((fF F).to:Int)) (Sv<|fL F) (Sv<|fR F) (Lv pZ B.length p7) (Lv none 0 0);have⟨c6,f6,z6⟩:=(HA4.qT 0 (Lv va m vc) #[Lv va m vc] ag ag).aeP (b:=w.heap.size+1) ae (.int .i64 ((fF F).kind:Int)) (.int .i64 ((fF F).al:Int)) (.int .i64 ((fF F).to:Int)) (Sv<|fL F) (Sv<|fR F) (Lv pZ B.length p7)<|Lv none 0 0;refine bodyPost_ret (v:=.tuple #[Av #[Lv va m vc],nu (fF F) (fL F) (fR F) pZ B.length p7]) (by simp[results,Tryz.results26,go_sem,nu,c5,c6]) rfl ?_;have kk:=Tc ((Fr.refl (λb=>b=w.heap.size\/b=w.heap.size+1) w4).set (b:=w.heap.size) (jf<|jf rfl) 0<|Lv va m vc) (b:=w.heap.size+1) (jf<|jh rfl) (.int .i64 ((fF F).kind:Int)) (.int .i64 ((fF F).al:Int)) (.int .i64 ((fF F).to:Int)) (Sv<|fL F) (Sv<|fR F) (Lv pZ B.length p7)<|Lv none 0 0;refine⟨Lv va m vc,fF F,fL F,fR F,B,pZ,p7,?_,?_,rfl,?_,Fr.mn k04 k04.size kk (λx q=>by obtain rfl|rfl:=q<;>omega)⟩
   .unfold Lu;rw[hr];exact jh ⟨HKZ,F,HQ4,rfl,rfl,rfl⟩
   .unfold OZ;rw[hr];exact jh ⟨HKZ,HR3.move bL (Nat.le_trans k24.size kk.size) (λb p z=>(kk.block b ae (λq=>by have:=p.1;obtain rfl|rfl:=q<;>omega)).trans<|k24.block b z) (λb p z=>by have:=p.1;show w.heap.size<=b;omega)⟩
   .exact HW4.move iC kk.size (λb p z=>kk.block b z (λq=>by have p:w3.heap.size<=b:=p;obtain rfl|rfl:=q<;>omega)) (λb p _=>by have p:w3.heap.size<=b:=p;show w.heap.size<=b;omega))
 .have gF:((f.kind:Int)==0)=false:=bB
  have HA:Lu rs s f (bs []) (bs []) []/\∀W,OZ s W w.heap.size<|Lv none 0 0:=(by
   unfold Lu OZ
   cases hr:bY s with
   |error f'=>
    rw[hr]at hp;obtain⟨rfl,_⟩:=hp;exact⟨⟨rfl,rfl,rfl,rfl⟩,λ_=>rfl⟩
   |ok l=>
    rw[hr]at hp;obtain⟨rfl,_⟩:=hp
    exact⟨jf ⟨hk,rfl,rfl,rfl,rfl⟩,λ_=>jf ⟨hk,rfl⟩⟩)
  clear HC bN b_ fc dq A0 B0 Bk HW hk hp;go_wp2_with fail;rw[<-uh BV];have⟨c1,f1,z1⟩:=uh A2;have⟨c2,f2,z2⟩:=uh B2;obtain⟨c3,f3,z3⟩:=P2;obtain⟨c4,f4,z4⟩:=F2;go_region;go_wp2_with fail;have⟨c5,f5,z5⟩:=((B2.nO (b2:=w.heap.size) ae 0<|Lv none 0 0).T8 rfl (.int .i64 (f.kind:Int)) (.int .i64 (f.al:Int)) (.int .i64 (f.to:Int)) (Sv ⟨#[]⟩) (Sv ⟨#[]⟩) (Lv none 0 0) (Lv none 0 0)).gL;have⟨c6,f6,z6⟩:=((A2.qT 0 (Lv none 0 0) #[Lv none 0 0] ag ag).aeP (b:=w.heap.size+1) ae (.int .i64 (f.kind:Int)) (.int .i64 (f.al:Int)) (.int .i64 (f.to:Int)) (Sv ⟨#[]⟩) (Sv ⟨#[]⟩) (Lv none 0 0)<|Lv none 0 0).gL;refine bodyPost_ret (v:=.tuple #[Av #[Lv none 0 0],Av #[.int .i64 (f.kind:Int),.int .i64 (f.al:Int),.int .i64 (f.to:Int),Sv ⟨#[]⟩,Sv ⟨#[]⟩,Lv none 0 0,Lv none 0 0]]) (by simp[results,Tryz.results26,go_sem,c5,c6]) rfl ?_;have kk:=Tc ((Fr.refl (λb=>b=w.heap.size\/b=w.heap.size+1) W1).set (b:=w.heap.size) (jf<|jf rfl) 0<|Lv none 0 0) (b:=w.heap.size+1) (jf<|jh rfl) (.int .i64 (f.kind:Int)) (.int .i64 (f.al:Int)) (.int .i64 (f.to:Int)) (Sv ⟨#[]⟩) (Sv ⟨#[]⟩) (Lv none 0 0)<|Lv none 0 0;exact⟨Lv none 0 0,f,bs [],bs [],[],none,0,HA.1,HA.2 _,rfl,abW _ _,(Fr.mn cS cS.size kk (λx q=>by obtain rfl|rfl:=q<;>omega)).drew⟩
def al8 rs s w(e:Ending)w':=∃f L R B va vc,Lu rs s f L R B/\e=.returned (nu f L R va B.length vc)/\RowV Wl 2 w' (λb=>w.heap.size<=b) B (.slice va B.length vc)/\Bq w w'
def OZ.slice{w}{lo}{u}(h:OZ s w lo u):∃va n vc,u=.slice va n vc:=by
 rw[OZ]at h
 cases hr:bY s with
 |error f=>grind|ok l=>
  rw[hr]at h;obtain⟨_,h⟩|⟨_,va,vc,cs,e,_⟩:=h
  .grind
  .grind
def aex(h:Laid w)s(hn:VK n fn rs):Cq 12 #[.string s,Iv n] w (al8 rs s w):=by
 obtain⟨W0,HW⟩:∃W0,W0=w.alloc (Cv #[Iv 0,Iv 0,Iv 0,Sv ⟨#[]⟩,Sv ⟨#[]⟩,Lv none 0 0,Lv none 0 0] 34):=⟨_,rfl⟩;have K0:Bq w W0:=by rw[HW];exact bw _
 have B0:Bx W0 w.heap.size #[Iv 0,Iv 0,Iv 0,Sv ⟨#[]⟩,Sv ⟨#[]⟩,Lv none 0 0,Lv none 0 0]:=by rw[HW];exact ji _ _ _
 have HC:=BZ (h.af K0) s hn;go_enter func12,ntmps12;go_wp2_with fail;rw[<-HW];refine HC.mono ?_;rintro e w1⟨u,f,L,R,B,va,vc,HA,hU,rfl,hR,hb⟩;obtain⟨pa,pn,pc,rfl⟩:=hU.slice;rw[nu];obtain⟨W1,Bk⟩:∃W1,W1=(w1.alloc<|Cv #[Lv pa pn pc] 60).alloc (Cv #[Nv f.kind,Nv f.al,Nv f.to,Sv L,Sv R,Lv va B.length vc,Lv none 0 0] 34):=⟨_,rfl⟩;have k1:Bq w1 W1:=by rw[Bk];exact(bw _).alloc ag _
 have kk:=hb.trans<|k1.mono hb.size;have K1:=K0.trans<|kk.mono K0.size;have B1:=ai<|B0.below kk;have C1:Bx W1 (w1.heap.size+1) #[Nv f.kind,Nv f.al,Nv f.to,Sv L,Sv R,Lv va B.length vc,Lv none 0 0]:=(by rw[Bk];have:=ji (w1.alloc<|Cv #[Lv pa pn pc] 60) #[Nv f.kind,Nv f.al,Nv f.to,Sv L,Sv R,Lv va B.length vc,Lv none 0 0] 34;simpa using this);have HR:=(hR.move iC k1.size (λb _ z=>k1.block b z) (λb p _=>by have:=B0.z;have p:W0.heap.size<=b:=p;show w.heap.size+1<=b;omega));have z0:=K1.size;subst Bk;have⟨x1,x2,x3⟩:=uh B1;obtain⟨y1,y2,y3⟩:=C1;go_wp2_with fail;have⟨p1,p2,p3⟩:=B1.T8 rfl (Nv f.kind) (Nv f.al) (Nv f.to) (Sv L) (Sv R) (Lv va B.length vc) (Lv none 0 0);refine bodyPost_ret (v:=nu f L R va B.length vc) (by simp[results,Tryz.results12,go_sem,nu,p1]) rfl ?_;have kk:=λW:World=>Tc (Fr.refl (λb=>b=w.heap.size) W) (b:=w.heap.size) (jf rfl) (Nv f.kind) (Nv f.al) (Nv f.to) (Sv L) (Sv R) (Lv va B.length vc)<|Lv none 0 0;exact⟨f,L,R,B,va,vc,HA,rfl,HR.move iC (kk _).size (λb p z=>(kk _).block b z (λq=>by have p:w.heap.size+1<=b:=p;have q:b=w.heap.size:=q;omega)) (λb p _=>by have p:w.heap.size+1<=b:=p;show w.heap.size<=b;omega),Fr.mn K1 K1.size (kk _) (λx q=>by subst q;exact br _)⟩
def wB(B:List (BA×Ty)):List (BA×BA):=B.map λp=>(p.1,bs<|wr dec (vars [] p.2) p.2 0)
def aey{P}{B:List (BA×Ty)}{v}(h:RowV Wl 2 w P B v):BW w (wB B) v:=by
 obtain⟨va,vc,cs,rfl,hr,hq⟩:=h;have hl:(wB B).length=B.length:=by simp[wB]
 refine⟨va,vc,by rw[hl],?_⟩;obtain rfl|⟨g,rfl,_,hz,hc⟩:=hr
 .exact jf rfl
 .refine jh ⟨g,rfl,hz,λi hi=>?_⟩;rw[hl]at hi;have⟨q1,q2⟩:=hq i hi;have c0:=hc i hi 0 aK;have c1:=hc i hi 1 aK;rw[q1]at c0;rw[q2]at c1;refine⟨?_,?_⟩
  .rw[Nat.add_zero]at c0;rw[c0];simp[wB]
  .rw[c1];simp[wB]
def O0 s k i j l r L:=∃rs f B,Lu rs s f l r B/\k=(f.kind:Int)/\i=(f.al:Int)/\j=(f.to:Int)/\L=wB B
def abX:List (BA×BA):=[(⟨#[107]⟩,⟨#[39,118,48,32,45,62,32,39,118,49,32,45,62,32,39,118,48]⟩),(⟨#[97]⟩,⟨#[85,110,105,116,32,45,62,32,73,110,116]⟩)]
def O0.fix(h:O0 Vy k i j l r L):k=0/\i=0/\j=0/\l=⟨#[]⟩/\r=⟨#[]⟩/\L=abX:=by
 obtain⟨rs,f,B,h,rfl,rfl,rfl,rfl⟩:=h;rw[Lu]at h;rw[abG]at h;simp only at h;obtain⟨hk,_⟩|⟨_,F,q,rfl,rfl,rfl⟩:=h
 .rw[Vz]at hk;exact absurd rfl hk
 .obtain⟨rfl,hB⟩:=In.aej q;refine⟨rfl,rfl,rfl,rfl,rfl,?_⟩;have e:wB B=(B.map λp=>(p.1,Un.written dec p.2)).map λp=>(p.1,bs p.2):=by simp[wB,Un.written]
  rw[e,hB];rfl
def ph(hL:Laid w)s(hn:VK n fn rs):Cq 12 #[.string s,Iv n] w λe w'=>∃k i j l r u L m c,e=.returned (.agg #[Iv k,Iv i,Iv j,.string l,.string r,.slice u m c,.slice none 0 0])/\O0 s k i j l r L/\BW w' L (.slice u m c)/\Bq w w':=
 (aex hL s hn).mono λe w' q=>by
  obtain⟨f,L,R,B,va,vc,h1,h2,h3,h4⟩:=q;exact⟨_,_,_,L,R,va,_,_,vc,h2,⟨rs,f,B,h1,rfl,rfl,rfl,rfl⟩,aey h3,h4⟩
def abY(hL:Laid w):Cq 10 #[] w λe w'=>e=.returned (.bool true)/\Bq w w':=by
 obtain⟨W0,HW⟩:∃W0,W0=(w.alloc<|Cv #[Sv ⟨#[107]⟩,Sv ⟨#[39,118,48,32,45,62,32,39,118,49,32,45,62,32,39,118,48]⟩,Sv ⟨#[97]⟩,Sv ⟨#[85,110,105,116,32,45,62,32,73,110,116]⟩] 40).alloc (Cv #[Iv 0,Iv 0,Iv 0,Sv ⟨#[]⟩,Sv ⟨#[]⟩,Lv (some ⟨w.heap.size,0,none⟩) 2 2,Lv none 0 0] 34):=⟨_,rfl⟩;have HK:Bq w W0:=by rw[HW];exact(bw _).alloc ag _
 have b0:Bx W0 w.heap.size #[Sv ⟨#[107]⟩,Sv ⟨#[39,118,48,32,45,62,32,39,118,49,32,45,62,32,39,118,48]⟩,Sv ⟨#[97]⟩,Sv ⟨#[85,110,105,116,32,45,62,32,73,110,116]⟩]:=by rw[HW];exact(ji w _ _).alloc _
 have HB:Bx W0 (w.heap.size+1) #[Iv 0,Iv 0,Iv 0,Sv ⟨#[]⟩,Sv ⟨#[]⟩,Lv (some ⟨w.heap.size,0,none⟩) 2 2,Lv none 0 0]:=by rw[HW];have:=ji (w.alloc<|Cv #[Sv ⟨#[107]⟩,Sv ⟨#[39,118,48,32,45,62,32,39,118,49,32,45,62,32,39,118,48]⟩,Sv ⟨#[97]⟩,Sv ⟨#[85,110,105,116,32,45,62,32,73,110,116]⟩] 40) #[Iv 0,Iv 0,Iv 0,Sv ⟨#[]⟩,Sv ⟨#[]⟩,Lv (some ⟨w.heap.size,0,none⟩) 2 2,Lv none 0 0] 34;simpa using this
 have HR:BW W0 abX (Lv (some ⟨w.heap.size,0,none⟩) 2 2):=by
  refine⟨_,2,rfl,jh ⟨_,rfl,b0.z,λi hi=>?_⟩⟩;have hi:i=0\/i=1:=by simp[abX]at hi;omega
  obtain rfl|rfl:=hi
  .exact⟨by rw[b0.c];rfl,by rw[b0.c];rfl⟩
  .exact⟨by rw[b0.c];rfl,by rw[b0.c];rfl⟩
 have HI:=ph (hL.af HK) Vy akx;simp only[Vy]at HI;go_enter func10,ntmps10;go_wp2_with fail;rw[<-HW];refine HI.mono ?_;rintro e w1⟨k,i,j,l,r,u,L,m,c,rfl,ha,hr,hb⟩;obtain⟨rfl,rfl,rfl,rfl,rfl,rfl⟩:=O0.fix ha;obtain⟨W1,BV⟩:∃W1,W1=w1.alloc (Cv #[Iv 0,Iv 0,Iv 0,Sv ⟨#[]⟩,Sv ⟨#[]⟩,Lv u m c,Lv none 0 0] 34):=⟨_,rfl⟩;have k1:Bq w1 W1:=by rw[BV];exact bw _
 have kk:=hb.trans<|k1.mono hb.size;have K1:=HK.trans<|kk.mono HK.size;have HR1:=HR.af kk;have dq:=HB.below kk;have HU1:=hr.af k1;have HV1:Bx W1 w1.heap.size #[Iv 0,Iv 0,Iv 0,Sv ⟨#[]⟩,Sv ⟨#[]⟩,Lv u m c,Lv none 0 0]:=(by rw[BV];exact ji _ _ _);have HI1:=ph (hL.af K1) Vy aky;simp only[Vy]at HI1;go_wp2_with fail;rw[<-BV];refine HI1.mono ?_;rintro e w2⟨k,i,j,l,r,u2,L,m2,c2,rfl,ha,hr,hb⟩;obtain⟨rfl,rfl,rfl,rfl,rfl,rfl⟩:=O0.fix ha;obtain⟨W2,hW2⟩:∃W2,W2=w2.alloc (Cv #[Iv 0,Iv 0,Iv 0,Sv ⟨#[]⟩,Sv ⟨#[]⟩,Lv u2 m2 c2,Lv none 0 0] 34):=⟨_,rfl⟩;have k2:Bq w2 W2:=by rw[hW2];exact bw _
 have kk:=hb.trans<|k2.mono hb.size;have K2:=K1.trans<|kk.mono K1.size;have HR2:=HR1.af kk;have cS:=ai<|dq.below kk;have HU2:=HU1.af kk;have HV2:=HV1.below kk;have HX2:=hr.af k2;have HY2:Bx W2 w2.heap.size #[Iv 0,Iv 0,Iv 0,Sv ⟨#[]⟩,Sv ⟨#[]⟩,Lv u2 m2 c2,Lv none 0 0]:=(by rw[hW2];exact ji _ _ _);subst hW2;have HS:=tM (k:=0) (i:=0) (j:=0) (l:=⟨#[]⟩) (r:=⟨#[]⟩) HU2 HR2 aK;simp only[rpt]at HS;have⟨x1,x2,x3⟩:=uh cS;obtain⟨y1,y2,y3⟩:=HV2;go_wp2_with fail;refine HS.mono ?_;rintro e w3⟨rfl,hb⟩;have K3:=K2.trans<|hb.mono K2.size;have nU:=ai<|cS.below hb;have HY3:=HY2.below hb;have HS3:=tM (k:=0) (i:=0) (j:=0) (l:=⟨#[]⟩) (r:=⟨#[]⟩) (HX2.af hb) (HR2.af hb) aK;simp only[rpt]at HS3;have⟨x1,x2,x3⟩:=uh nU;obtain⟨y1,y2,y3⟩:=HY3;go_wp2_with fail;refine HS3.mono ?_;rintro e w4⟨rfl,hb⟩;have K4:=K3.trans<|hb.mono K3.size
 go_wp2
 go_ret;exact⟨rfl,K4⟩
def O0.told(h:O0 s k i j l r L):(k≠6->l=⟨#[]⟩/\r=⟨#[]⟩)/\(k=6->i<j/\(l.size<=400->r.size<=400->∀x ok g,BH l r x ok g->ok=false/\g=dx)):=by
 obtain⟨rs,f,B,h,rfl,rfl,rfl,rfl⟩:=h;rw[Lu]at h
 cases hr:bY s with
 |error e=>
  rw[hr]at h;obtain⟨rfl,rfl,rfl,rfl⟩:=h;have:=(AY hr).1;exact⟨λ_=>⟨rfl,rfl⟩,λq=>ae⟩
 |ok p=>
  rw[hr]at h;have hp:=abl hr;obtain⟨hk,rfl,rfl,rfl,rfl⟩|⟨hk,F,q,rfl,rfl,rfl⟩:=h
  .have:=(OQ (u:=fS) p hp w_ ⟨br _,Nat.zero_le _,nofun⟩).2.2;exact⟨λ_=>⟨rfl,rfl⟩,λq=>ae⟩
  .cases F with
   |none=>exact⟨λ_=>⟨rfl,rfl⟩,λq=>lI⟩|some z=>
    have⟨p1,p2,p3⟩:=In.OO hp q z rfl;have hs:¬400<s.size:=λc=>by simp[bY,c]at hr
    have hg:=pJ hs;rw[hr]at hg;have g:=(ON (mk:=λ_=>none) (Γ:=λ_=>none) (s:=⟨Ty.var,λ_=>False⟩) hg.1 (λx tk m q=>lI) (λy c q=>lI) (λn=>trivial) q).2 z rfl;simp only[fF,fL,fR];refine⟨λn=>?_,λn=>⟨ae,λa b x ok u hu=>?_⟩⟩
    .have n:z.f.kind≠6:=ae;exact⟨by rw[Wh];rw[if_neg n];rfl,by rw[Wi];rw[if_neg n];rfl⟩
    .have n:z.f.kind=6:=ae;have⟨⟨g1,g2⟩,g3,g4⟩:=g n;simp only[Wh,Wi,n,if_true,dM]at a b hu;exact acZ g1 g3 g2 g4 (p3 n) a b hu
def abZ n(h0: -9223372036854775808<=n)(h1:n<=9223372036854775807):Cq 14 #[Iv n] w λe w'=>∃m fn rs,e=.returned (Iv m)/\VK m fn rs/\w'=w:=by
 go_enter func14,ntmps14;go_wp2_with fail;refine(aax n 2 h0 h1 aK aK).mono ?_;rintro e w'⟨r,rfl,q0,q1,rfl⟩;obtain rfl|rfl:r=0\/r=1:=ae
 .go_wp2
  go_ret;exact⟨1,_,_,rfl,akx,rfl⟩
 .go_wp2
  go_ret;exact⟨2,_,_,rfl,aky,rfl⟩
def air(hL:Laid w)s n(h0: -9223372036854775808<=n)(h1:n<=9223372036854775807):Cq 20 #[.string s,Iv n] w λe w'=>e=.returned (.bool true)/\Bq w w':=by
 have HL:=ai hL;clear hL;go_enter func20,ntmps20;go_wp2_with fail;refine(abZ n h0 h1).mono ?_;rintro e w'⟨m,fn,rs,rfl,hn,rfl⟩;clear h0 h1;have HI:=ai<|ph (uh HL) s hn;go_wp2_with fail;refine HI.mono ?_;rintro e v1⟨k,i,j,l,r,u,L,m1,c,rfl,a1,b1,b_⟩;have⟨g1,g2⟩:=a1.told;have K1:Bq w' (v1.alloc<|Cv #[Iv k,Iv i,Iv j,Sv l,Sv r,Lv u m1 c,Lv none 0 0] 34):=b_.alloc b_.size _;have B1:=ai<|Bx.new v1 #[Iv k,Iv i,Iv j,Sv l,Sv r,Lv u m1 c,Lv none 0 0] 34;clear HI a1 b1 b_;have⟨x1,x2,x3⟩:=uh B1;by_cases hk:k=6
 .have⟨g3,g4⟩:=g2 hk;clear g1 g2;subst hk;by_cases hl:(400:Int)<(l.size:Int)
  .go_wp2
   go_ret;exact⟨rfl,K1⟩
  .have hl':decide ((400:Int)<(l.size:Int))=false:=bB;by_cases hr:(400:Int)<(r.size:Int)
   .go_wp2
    go_ret;exact⟨rfl,K1⟩
   .have hr':decide ((400:Int)<(r.size:Int))=false:=bB;have HU:=ai<|abO (HL.af K1) l r;go_wp2_with fail;refine HU.mono ?_;rintro e w2⟨z,ok,f,rfl,hu,fc⟩;obtain⟨rfl,rfl⟩:=g4 ae ae _ _ _ hu;have K2:=K1.trans<|fc.mono K1.size;have K3:Bq w' (w2.alloc<|Cv #[Iv 0,Iv 0,Iv 0] 30):=K2.alloc K2.size _;have B2:=(B1.below fc).alloc<|Cv #[Iv 0,Iv 0,Iv 0] 30;clear HU hu g4 fc x1 x2 x3;obtain⟨x1,x2,x3⟩:=B2;simp only[jF,dx]
    go_wp2
    go_ret;exact⟨rfl,K3⟩
 .obtain⟨rfl,rfl⟩:=g1 hk;have gF:(k==6)=false:=by simpa using hk
  clear g2 g1
  go_wp2
  go_ret;exact⟨rfl,K1⟩
def ab0(hL:Laid w)s n(h0: -9223372036854775808<=n)(h1:n<=9223372036854775807){p}{len cap:Nat}{r}(hlen:(len:Int)<=9223372036854775807)(hR:Raw w p len r):
 Cq 7 #[.string s,.slice p len cap,Iv n] w λe w'=>e=.returned (.bool true)/\Bq w w':=by
 have HJ:=ai<|abY hL;have HR:=ai hR;have HL:=ai hL;have HT:Hid (∀W:World,Laid W->∀s,Cq 20 #[Sv s,Iv n] W λe w'=>e=Rv (.bool true)/\Bq W w'):=ai<|λW h s=>air h s n h0 h1;clear hR hL h0 h1;have HP:Hid (∀W A(xb:Nat),Src W xb p len cap r A->Cq 11 #[Pv xb] W (afA xb p len cap r W)):=ai<|λW A xb h=>aem h;go_enter func7,ntmps7;go_wp2_with fail;refine HJ.mono ?_;rintro e w1⟨rfl,b_⟩;have fc:Bq w1 (w1.alloc<|Cv #[Lv p len cap,Iv 0] 26):=bw _;have cS:=b_.trans<|fc.mono b_.size;have S2:Src (w1.alloc<|Cv #[Lv p len cap,Iv 0] 26) w1.heap.size p len cap r 0:=by
  refine⟨ji w1 _ _,Nat.zero_le _,hlen,λi hi=>?_,λi hi=>(HR i hi).2⟩;have⟨g,o,e,hg,hc⟩:=(HR i hi).1;have hz:=b_.size;exact⟨g,o,e,bB,ae,(World.cell?_of_block (a:=⟨g,o+i,none⟩) (w:=w)<|cS.block g hg).trans hc⟩
 have HT2:=ai<|HT _ (HL.af cS) s;have hzz:=b_.size;clear HJ HR;go_wp2_with fail;refine HT2.mono ?_;rintro e w2⟨rfl,mI⟩;have HP2:=ai<|HP _ 0 _<|S2.af mI;have nU:=cS.trans<|mI.mono cS.size;clear HP S2 HT2;go_wp2_with fail;refine HP2.mono ?_;rintro e w3⟨m,l,L,hn,hLn,rfl,hm3,A3,hs3,tT⟩;have K0:=ai (tT.low nU nU.size hzz:Bq w w3);have HT3:=ai<|HT _ (HL.af K0)<|bs l;clear HP2 hm3 hs3 tT fc cS b_ mI nU HT;go_wp2_with fail;refine HT3.mono ?_;rintro e w4⟨rfl,rS⟩;have K1:=K0.trans<|rS.mono K0.size
 go_wp2
 go_ret;exact⟨rfl,K1⟩
end
section
open Go.ChangeShapes Go.WideShapes Go.ChangeAt Go.WideMaps Go.WideElems Go.RowKit Go.ChangeMaps
def Ly os(started:os.Started)(H:Type)(enc:TypeId×Value->H):
 ReturnsInHanded {} jc os 7 .any (λw args=>(Rows.toldSpec.pre enc ja Tryz.f7 [] false w args/\laidMetH ja Rows.toldRow.laid w)/\sizedMet enc ja Tryz.f7 (OpenSpec.ofChange Rows.toldSpec) false w args)
  (Rows.toldSpec.post enc ja Tryz.f7 false true false false):=by
 refine returnsInHanded_of_change_and (C:=jc) (X:=λw _=>laidMetH ja Rows.toldRow.laid w) (λ_ _ _ hh h=>h.of_heap hh) own started qkr Tryz.func7
  (ChangeSpec.witness_shaped (enc:=enc) (C:=jc) (os:=os) (X:=λw _=>laidMetH ja Rows.toldRow.laid w) false (World.doorLaid ja 72 os) #[Sv ⟨#[]⟩,Lv none 0 0,Iv 0] 8 rfl (World.shaped_of_RefB qkr qkr) qkr qkr qkr (aaw os _)) ?_
 intro W base args ds gs before afD hW _ _ hL _;have aez:∀(j:Nat)t v,Tryz.f7.params[j]? =some t->args[j]? =some v->Value.okWide ja W .any base t v:=afD;have hW':=hW;obtain⟨p,q,hA0,hV,rfl,hfz,xK⟩:=hW;have hA:DataW.TrodAll enc ja W 0 (λ_=>true) true Tryz.f7.params.toList args.toList ds p:=hA0;rw[Tryz.params7]at hA aez;obtain⟨v0,v1,v2,d0,d1,d2,p0,p1,p2,rfl,rfl,rfl,h0,h1,h2⟩:=trodAll_three hA;obtain⟨rfl,rfl⟩:=trodVars_none hV;obtain⟨s,rfl,rfl,rfl,dU⟩:=open_string jd (aez 0 9 v0 rfl rfl) h0;obtain⟨a1,len,cap,rfl⟩:=okWide_slice AA<|aez 1 22 v1 rfl rfl;obtain⟨n,rfl,rfl,rfl,hw⟩:=open_int Tryz.underlying3 (aez 2 3 v2 rfl rfl) h2;have h1k:=h1;obtain⟨fuel,hf⟩:=h1;clear hA0 afD;simp only[List.append_nil,List.nil_append]at hW';have bq:∀x∈p1,x.block<W.heap.size:=λx hx=>by simpa using hW'.lt x hx
 have akz:∀(W':World),Bq W W'->DataW.Trod enc ja W' 0 (λb=>decide (b<W.heap.size)) true 22 (Lv a1 len cap) d1 p1:=
  λW' hn=>Below.trod laidOut qkr (of_decide_eq_true qkr) h1k hn bq
 have hn: -9223372036854775808<=n/\n<=9223372036854775807:=by have hw':=hw;simp only[Lit.wf,Bool.and_eq_true,decide_eq_true_eq]at hw';exact hw'
 obtain⟨hlen,r,hS⟩:=aay (by simpa[Value.cells]using hf);refine(ab0 (adH hL) s n hn.1 hn.2 (cap:=cap) hlen hS).mono λe W'⟨he,hb⟩=>?_;subst he;exact⟨_,rfl,_,_,_,[],_,[],hW',trodAll_mk1<|shut_bool Tryz.underlying4 _,trodAll_mk3 (shut_string jd dU) (akz _ hb)<|shut_int Tryz.underlying3 hw,rfl,hb.frame _,λh=>Mn⟩
end
section
open Go.ChangeShapes Go.WideShapes Go.ChangeAt Go.WideMaps Go.WideElems Go.RowKit
def told_named:Tryz.prog.funcNamed "assay/assaykeep.Told" =some 7:=qkr
def VL:Tryz.f7.isInstance ja Rows.toldRow.origin Rows.toldRow.targs:=of_decide_eq_true qkr
def VM:Tryz.f7.isWrapper ja Rows.toldRow.wrapper Rows.toldRow.mainSum:=by
 rw[Func.isWrapper];first|(rw[if_pos<|by decide+kernel];kernel_rfl)|(rw[if_neg<|by decide+kernel];exact⟨rfl,rfl⟩)
def told_row:Rows.ToldSaid:=
 OpenClaim.holds_of_wide 7 Tryz.f7 rfl rfl rfl rfl rfl rfl rfl ⟨rfl,rfl,rfl,rfl,rfl⟩ rfl rfl rfl rfl rfl told_named Tryz.func7 JK VL VM
  (λos started H enc _=>Ly os started H enc)
#print axioms told_row
end
def Bb:([9,22,3].all λu=> !Tryz.prog.wantsStandIn u)=true:=qkr
theorem told_holds:Rows.ToldCardSaid:=
 Claim7.holds_tied_plain_at .later [] [.data,.data,.data,.sentinel,.sentinel,.data,.data] true Rows.agreeCard.stood.harness true
  told_row (λ_ h=>Mn) X7 (λ_ h=>Mn) told_row_tie rfl ⟨rfl,rfl⟩ TU rfl
  (λf fn hf hfn=>by
   obtain rfl:f=7:=(Option.some.inj<|told_named.symm.trans hf).symm;obtain rfl:fn=Tryz.f7:=(Option.some.inj<|Tryz.func7.symm.trans hfn).symm
   exact⟨MD,λj t ht=>by
    rw[Tryz.params7]at ht;have hm:t∈[9,22,3]:=by simpa using Array.mem_of_getElem? ht
    exact(show Tryz.prog.wantsStandIn t=false by simpa using List.all_eq_true.1 Bb t hm)⟩)
  TX
#print axioms told_holds
end Go.Proofs.YtfnkchdeheeiiaaGreatDoor

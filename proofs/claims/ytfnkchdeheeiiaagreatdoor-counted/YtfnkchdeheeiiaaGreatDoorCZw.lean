import Derived.Test.YtfnkchdeheeiiaaGreatDoorCYz6
import Derived.Test.YtfnkchdeheeiiaaGreatDoorCYv
set_option linter.all false
set_option maxRecDepth 100000
set_option maxHeartbeats 8000000
namespace Go.Proofs.YtfnkchdeheeiiaaGreatDoor
open Or renaming inl->ja,inr->jc
open Go Go.RowKit Go.ChangeMaps Go.MapKept Un Proofs.Tryz
variable {rs:Bool} {fn:FuncId} {n:Int} {w:World}
def afV fn rs:=∀(w:World)(nl:List BA),nl.length<=1000000->Cq fn #[] w (λe w'=>∃ty eb S,e=.returned (.iface ty<|Pv eb)/\Bq w w'/\Uk ty eb w.heap.size w'.heap.size rs nl S/\S w' 0 (λ_=>none) ⟨Ty.var,λ_=>False⟩ (λ_=>none))
def aju:afV 61 true:=by
 intro w nl hl;have HN:=afT (w:=w) nl;go_enter func61,ntmps61;go_wp2_with fail;refine HN.mono ?_;rintro e w1⟨eb,rfl,HB,HS⟩
 go_wp2
 go_ret;exact⟨_,eb,_,rfl,HB,aij hl,HS⟩
def ajv:afV 63 false:=by
 intro w nl hl;have HN:=afU (w:=w) nl;go_enter func63,ntmps63;go_wp2_with fail;refine HN.mono ?_;rintro e w1⟨eb,rfl,HB,HS⟩
 go_wp2
 go_ret;exact⟨_,eb,_,rfl,HB,afS hl,HS⟩
structure Es n fn rs:Prop where
 xN:afV fn rs
 cf:∀(args:Array Value)(w:World),(callFunc fn args).run Tryz.prog w=.ok (.enter fn args) w
 look:∀{w:World}{b:Nat},MG oS w b (bD 2 (.func (.func 63) #[] #[])<|bD 1 (.func (.func 61) #[] #[]) [])->(Instr.lookup 85 (Mv b) (Iv n) true).run Tryz.prog w=.ok (.tuple #[.func (.func fn) #[] #[],.bool true]) w
def ajw:Es 1 61 true:=⟨aju,λ_ _=>qkr,λh=>(IF h).1⟩
def ajx:Es 2 63 false:=⟨ajv,λ_ _=>qkr,λh=>(IF h).2⟩
def JQ rs s f L R B:=match cd s with
 |.error f'=>f=f'/\L=bs []/\R=bs []/\B=[]|.ok l=>((gh fE l vw).f.kind≠0/\f=(gh fE l vw).f/\L=bs []/\R=bs []/\B=[])\/((gh fE l vw).f.kind=0/\∃F,In.QH rs l (λ_=>none) (λ_=>none) ⟨Ty.var,λ_=>False⟩ B F/\f=fF F/\L=fL F/\R=fR F)
def Md(s:BA)(w:World)(lo:Nat)(u:Value):Prop:=match cd s with
 |.error _=>u=.slice none 0 0|.ok l=>((gh fE l vw).f.kind≠0/\u=.slice none 0 0)\/((gh fE l vw).f.kind=0/\RowV QD 1 w (λb=>lo<=b) l u)
def ajy rs s w(e:Ending)w':=∃u f L R B va vc,JQ rs s f L R B/\Md s w' w.heap.size u/\e=.returned (.tuple #[.agg #[u],mA f L R va B.length vc])/\RowV Tg 2 w' (λb=>w.heap.size<=b) B (.slice va B.length vc)/\Bq w w'
def Y9 w P:RowV Tg 2 w P [] (.slice none 0 0):=by simp_all[RowV,Tg]
def zY(h:Laid w)s(hn:Es n fn rs):Calls Tryz.prog 26 #[.string s,.int .i64 n] w (ajy rs s w):=by
 obtain⟨W0,HW⟩:∃W0,W0=(w.alloc<|Cv #[Lv none 0 0] 60).alloc (Cv (nK none 0 0) 34):=⟨_,rfl⟩;have bR:Below w.heap.size w W0:=by rw[HW];exact(bw _).alloc ag _
 have A0:Bx W0 w.heap.size #[Lv none 0 0]:=by rw[HW];exact(Bx.new w _ _).alloc _
 have B0:Bx W0 (w.heap.size+1) (nK none 0 0):=by rw[HW];have:=Bx.new (w.alloc<|Cv #[Lv none 0 0] 60) (nK none 0 0) 34;simpa using this
 have HC:=FU (h.af bR) s;simp only[nK]at HW B0;clear h;go_enter func26,ntmps26;go_wp2_with fail;rw[<-HW];refine HC.mono ?_;rintro e w1⟨u,f,rfl,da,hp⟩;obtain⟨va,vc,m,hu⟩:∃va vc n,u=Lv va n vc:=by
  cases hr:cd s with
  |error f'=>rw[hr]at hp;exact⟨_,_,_,hp.2⟩|ok l=>rw[hr]at hp;have⟨va,vc,cs,e,_⟩:=hp.2;exact⟨_,_,_,e⟩
 subst hu;have dC:=bR.trans<|da.mono bR.size;obtain⟨W1,yR⟩:∃W1,W1=(w1.alloc<|Cv #[Lv va m vc] 60).alloc (Cv #[.int .i64 (f.kind:Int),.int .i64 (f.al:Int),.int .i64 (f.to:Int)] 30):=⟨_,rfl⟩;have jT:Below w1.heap.size w1 W1:=by rw[yR];exact(bw _).alloc ag _
 have ed:=dC.trans<|jT.mono dC.size;have A2:=ai<|(A0.below da).below jT;have B2:=ai<|(B0.below da).below jT;have P2:Bx W1 w1.heap.size #[Lv va m vc]:=(by rw[yR];exact(Bx.new w1 _ _).alloc _);have F2:Bx W1 (w1.heap.size+1) #[.int .i64 (f.kind:Int),.int .i64 (f.al:Int),.int .i64 (f.to:Int)]:=(by rw[yR];have:=Bx.new (w1.alloc<|Cv #[Lv va m vc] 60) #[.int .i64 (f.kind:Int),.int .i64 (f.al:Int),.int .i64 (f.to:Int)] 30;simpa using this);have FV:=ai yR;have akb:=ai jT;have lY:=dC.size;have oW:=B0.z;have kE:=da.size;unfold m9;by_cases hk:f.kind=0
 .cases hr:cd s with
  |error f'=>
   rw[hr]at hp;obtain⟨rfl,_⟩:=hp;have:=(FT hr).1;omega
  |ok l=>
  rw[hr]at hp;obtain⟨hf,aN⟩:=hp;have e0:((f.kind:Nat):Int)=0:=ae;rw[e0]at FV F2;have hs:¬400<s.size:=λc=>by simp[cd,c]at hr
  have HKZ:(gh fE l vw).f.kind=0:=by rw[<-hf];exact hk
  have HPI:=PI.init hs hr HKZ rs (λ_=>False) (cnt:=0) ae;have hnl:=(PG.init hs hr HKZ).2;have hl:=(FQ hr).2;obtain⟨nl,HNL⟩:∃nl,Hid<|nl=l.flatMap dNm:=⟨_,ai rfl⟩;rw[<-uh HNL]at HPI hnl;have HRW:Hid (RowV QD 1 W1 (λb=>W0.heap.size<=b/\b<w1.heap.size) l<|Lv va m vc):=ai<|aN.move bL jT.size (λb _ z=>jT.block b z)<|λb p z=>⟨p,z⟩;have hzw:=jT.size;have VQ:=hn.cf;clear HC bR da jT dC A0 B0 yR HW aN hf hs;go_wp2_with fail;rw[<-uh FV];refine Sl.mono ?_;rintro e w2⟨rfl,K2,m2⟩;have sg:=hn.look m2;have A3:=A2.below K2;have B3:=B2.below K2;have P3:=ai<|P2.below K2;have HR3:=(HRW.move bL K2.size (λb _ z=>K2.block b z)<|λb p z=>p);have z2:=K2.size;clear m2 A2 B2 P2 F2 HRW FV;have⟨p1,p2,p3⟩:=uh P3
  go_wp2
  go_region_with(first
   |(go_at_call 40;go_loud(refine HIN.mono ?_);rintro e w4⟨B,F,oX,oY,hQ4,rfl,hB4,k4'⟩;have k4:Below w2.heap.size w3 w4:=k4';have A4:=(A3.below K3).same k4.size<|k4.block _ ae;have B4:=(B3.below K3).same k4.size<|k4.block _ ae;have P4:=(P3.below K3).same k4.size<|k4.block _ ae;have HA4:=ai A4;have Zy:=ai B4;have HQ4:=ai hQ4;have HW4:=ai hB4;have K4:=ai k4;obtain⟨a1,a2,a3⟩:=A4;obtain⟨b1,b2,b3⟩:=B4;obtain⟨c1,c2,c3⟩:=P4;clear hQ4 hB4 k4 k4' HIN;unfold mA)
   |(refine(hn.xN _ nl ae).mono ?_;rintro e w3⟨ty,eb,S,rfl,k3,E3,S3⟩;have Y6:Below w2.heap.size w2 w3:=(Below.refl w2.heap.size w2).drew.trans k3;have HIN:=ai (ab0 Xw E3 (HR3.move bL Y6.size (λb _ z=>Y6.block b z) (λb p z=>by have:=p.2;show b<w2.heap.size;omega)) hl Y6.size (br _) S3 HPI);have P5:=P3.below Y6;have K3:=ai Y6;have z3:=Y6.size;obtain⟨d1,d2,d3⟩:=P5;clear k3 Y6 E3 S3))
  all_goals(
   go_wp2_with fail;have k3:=uh K3;have k4:=uh K4;have k24:=k3.trans k4;have z4:=k4.size;have k04:=(ed.trans<|K2.mono ed.size).trans (k24.mono (by have:=ed.size;omega));have⟨c5,f5,z5⟩:=(Zy.mQ (b2:=w.heap.size) ae 0<|Lv va m vc).Rg rfl (.int .i64 ((fF F).kind:Int)) (.int .i64 ((fF F).al:Int)) (.int .i64 ((fF F).to:Int)) (Sv<|fL F) (Sv<|fR F) (Lv oX B.length oY) (Lv none 0 0);have⟨c6,f6,z6⟩:=(HA4.rj 0 (Lv va m vc) #[Lv va m vc] ag ag).acx (b:=w.heap.size+1) ae (.int .i64 ((fF F).kind:Int)) (.int .i64 ((fF F).al:Int)) (.int .i64 ((fF F).to:Int)) (Sv<|fL F) (Sv<|fR F) (Lv oX B.length oY)<|Lv none 0 0;refine bodyPost_ret (v:=.tuple #[Av #[Lv va m vc],mA (fF F) (fL F) (fR F) oX B.length oY]) (by simp[results,Tryz.results26,go_sem,mA,c5,c6]) rfl ?_;have kk:=Qp ((Fr.refl (λb=>b=w.heap.size\/b=w.heap.size+1) w4).set (b:=w.heap.size) (ja<|ja rfl) 0<|Lv va m vc) (b:=w.heap.size+1) (ja<|jc rfl) (.int .i64 ((fF F).kind:Int)) (.int .i64 ((fF F).al:Int)) (.int .i64 ((fF F).to:Int)) (Sv<|fL F) (Sv<|fR F) (Lv oX B.length oY)<|Lv none 0 0;refine⟨Lv va m vc,fF F,fL F,fR F,B,oX,oY,?_,?_,rfl,?_,Fr.sN k04 k04.size kk (λx q=>by obtain rfl|rfl:=q<;>omega)⟩
   .unfold JQ;rw[hr];exact jc ⟨HKZ,F,HQ4,rfl,rfl,rfl⟩
   .unfold Md;rw[hr];exact jc ⟨HKZ,HR3.move bL (Nat.le_trans k24.size kk.size) (λb p z=>(kk.block b ae (λq=>by have:=p.1;obtain rfl|rfl:=q<;>omega)).trans<|k24.block b z) (λb p z=>by have:=p.1;show w.heap.size<=b;omega)⟩
   .exact HW4.move hH kk.size (λb p z=>kk.block b z (λq=>by have p:w3.heap.size<=b:=p;obtain rfl|rfl:=q<;>omega)) (λb p _=>by have p:w3.heap.size<=b:=p;show w.heap.size<=b;omega))
 .have gG:((f.kind:Int)==0)=false:=bQ
  have HA:JQ rs s f (bs []) (bs []) []/\∀W,Md s W w.heap.size<|Lv none 0 0:=(by
   unfold JQ Md
   cases hr:cd s with
   |error f'=>
    rw[hr]at hp;obtain⟨rfl,_⟩:=hp;exact⟨⟨rfl,rfl,rfl,rfl⟩,λ_=>rfl⟩
   |ok l=>
    rw[hr]at hp;obtain⟨rfl,_⟩:=hp
    exact⟨ja ⟨hk,rfl,rfl,rfl,rfl⟩,λ_=>ja ⟨hk,rfl⟩⟩)
  clear HC bR da jT dC A0 B0 yR HW hk hp;go_wp2_with fail;rw[<-uh FV];have⟨c1,f1,z1⟩:=uh A2;have⟨c2,f2,z2⟩:=uh B2;obtain⟨c3,f3,z3⟩:=P2;obtain⟨c4,f4,z4⟩:=F2;go_region;go_wp2_with fail;have⟨c5,f5,z5⟩:=((B2.mQ (b2:=w.heap.size) ae 0<|Lv none 0 0).Rg rfl (.int .i64 (f.kind:Int)) (.int .i64 (f.al:Int)) (.int .i64 (f.to:Int)) (Sv ⟨#[]⟩) (Sv ⟨#[]⟩) (Lv none 0 0) (Lv none 0 0)).g_;have⟨c6,f6,z6⟩:=((A2.rj 0 (Lv none 0 0) #[Lv none 0 0] ag ag).acx (b:=w.heap.size+1) ae (.int .i64 (f.kind:Int)) (.int .i64 (f.al:Int)) (.int .i64 (f.to:Int)) (Sv ⟨#[]⟩) (Sv ⟨#[]⟩) (Lv none 0 0)<|Lv none 0 0).g_;refine bodyPost_ret (v:=.tuple #[Av #[Lv none 0 0],Av #[.int .i64 (f.kind:Int),.int .i64 (f.al:Int),.int .i64 (f.to:Int),Sv ⟨#[]⟩,Sv ⟨#[]⟩,Lv none 0 0,Lv none 0 0]]) (by simp[results,Tryz.results26,go_sem,c5,c6]) rfl ?_;have kk:=Qp ((Fr.refl (λb=>b=w.heap.size\/b=w.heap.size+1) W1).set (b:=w.heap.size) (ja<|ja rfl) 0<|Lv none 0 0) (b:=w.heap.size+1) (ja<|jc rfl) (.int .i64 (f.kind:Int)) (.int .i64 (f.al:Int)) (.int .i64 (f.to:Int)) (Sv ⟨#[]⟩) (Sv ⟨#[]⟩) (Lv none 0 0)<|Lv none 0 0;exact⟨Lv none 0 0,f,bs [],bs [],[],none,0,HA.1,HA.2 _,rfl,Y9 _ _,(Fr.sN ed ed.size kk (λx q=>by obtain rfl|rfl:=q<;>omega)).drew⟩
def ajz rs s w(e:Ending)w':=∃f L R B va vc,JQ rs s f L R B/\e=.returned (mA f L R va B.length vc)/\RowV Tg 2 w' (λb=>w.heap.size<=b) B (.slice va B.length vc)/\Bq w w'
def Md.slice{s}{w}{lo}{u}(h:Md s w lo u):∃va n vc,u=.slice va n vc:=by
 rw[Md]at h
 cases hr:cd s with
 |error f=>grind|ok l=>
  rw[hr]at h;obtain⟨_,h⟩|⟨_,va,vc,cs,e,_⟩:=h
  .grind
  .grind
def ab1(h:Laid w)s(hn:Es n fn rs):Cq 12 #[.string s,Iv n] w (ajz rs s w):=by
 obtain⟨W0,HW⟩:∃W0,W0=w.alloc (Cv #[Iv 0,Iv 0,Iv 0,Sv ⟨#[]⟩,Sv ⟨#[]⟩,Lv none 0 0,Lv none 0 0] 34):=⟨_,rfl⟩;have K0:Bq w W0:=by rw[HW];exact bw _
 have B0:Bx W0 w.heap.size #[Iv 0,Iv 0,Iv 0,Sv ⟨#[]⟩,Sv ⟨#[]⟩,Lv none 0 0,Lv none 0 0]:=by rw[HW];exact Bx.new _ _ _
 have HC:=zY (h.af K0) s hn;go_enter func12,ntmps12;go_wp2_with fail;rw[<-HW];refine HC.mono ?_;rintro e w1⟨u,f,L,R,B,va,vc,HA,hU,rfl,hR,hb⟩;obtain⟨pa,pn,pc,rfl⟩:=hU.slice;rw[mA];obtain⟨W1,yR⟩:∃W1,W1=(w1.alloc<|Cv #[Lv pa pn pc] 60).alloc (Cv #[Nv f.kind,Nv f.al,Nv f.to,Sv L,Sv R,Lv va B.length vc,Lv none 0 0] 34):=⟨_,rfl⟩;have k1:Bq w1 W1:=by rw[yR];exact(bw _).alloc ag _
 have kk:=hb.trans<|k1.mono hb.size;have K1:=K0.trans<|kk.mono K0.size;have B1:=ai<|B0.below kk;have C1:Bx W1 (w1.heap.size+1) #[Nv f.kind,Nv f.al,Nv f.to,Sv L,Sv R,Lv va B.length vc,Lv none 0 0]:=(by rw[yR];have:=Bx.new (w1.alloc<|Cv #[Lv pa pn pc] 60) #[Nv f.kind,Nv f.al,Nv f.to,Sv L,Sv R,Lv va B.length vc,Lv none 0 0] 34;simpa using this);have HR:=(hR.move hH k1.size (λb _ z=>k1.block b z) (λb p _=>by have:=B0.z;have p:W0.heap.size<=b:=p;show w.heap.size+1<=b;omega));have z0:=K1.size;subst yR;have⟨x1,x2,x3⟩:=uh B1;obtain⟨y1,y2,y3⟩:=C1;go_wp2_with fail;have⟨p1,p2,p3⟩:=B1.Rg rfl (Nv f.kind) (Nv f.al) (Nv f.to) (Sv L) (Sv R) (Lv va B.length vc) (Lv none 0 0);refine bodyPost_ret (v:=mA f L R va B.length vc) (by simp[results,Tryz.results12,go_sem,mA,p1]) rfl ?_;have kk:=λW:World=>Qp (Fr.refl (λb=>b=w.heap.size) W) (b:=w.heap.size) (ja rfl) (Nv f.kind) (Nv f.al) (Nv f.to) (Sv L) (Sv R) (Lv va B.length vc)<|Lv none 0 0;exact⟨f,L,R,B,va,vc,HA,rfl,HR.move hH (kk _).size (λb p z=>(kk _).block b z (λq=>by have p:w.heap.size+1<=b:=p;have q:b=w.heap.size:=q;omega)) (λb p _=>by have p:w.heap.size+1<=b:=p;show w.heap.size<=b;omega),Fr.sN K1 K1.size (kk _) (λx q=>by subst q;exact br _)⟩
def wB(B:List (BA×Ty)):List (BA×BA):=B.map λp=>(p.1,bs<|wr dec (vars [] p.2) p.2 0)
def ab2{P}{B:List (BA×Ty)}{v}(h:RowV Tg 2 w P B v):YR w (wB B) v:=by
 obtain⟨va,vc,cs,rfl,hr,hq⟩:=h;have hl:(wB B).length=B.length:=by simp[wB]
 refine⟨va,vc,by rw[hl],?_⟩;obtain rfl|⟨g,rfl,_,hz,hc⟩:=hr
 .exact ja rfl
 .refine jc ⟨g,rfl,hz,λi hi=>?_⟩;rw[hl]at hi;have⟨q1,q2⟩:=hq i hi;have c0:=hc i hi 0 aK;have c1:=hc i hi 1 aK;rw[q1]at c0;rw[q2]at c1;refine⟨?_,?_⟩
  .rw[Nat.add_zero]at c0;rw[c0];simp[wB]
  .rw[c1];simp[wB]
def adT s k i j l r L:=∃rs f B,JQ rs s f l r B/\k=(f.kind:Int)/\i=(f.al:Int)/\j=(f.to:Int)/\L=wB B
def Et(hL:Laid w)s(hn:Es n fn rs):Cq 12 #[.string s,Iv n] w λe w'=>∃k i j l r u L m c,e=.returned (.agg #[Iv k,Iv i,Iv j,.string l,.string r,.slice u m c,.slice none 0 0])/\adT s k i j l r L/\YR w' L (.slice u m c)/\Bq w w':=
 (ab1 hL s hn).mono λe w' q=>by
  obtain⟨f,L,R,B,va,vc,h1,h2,h3,h4⟩:=q;exact⟨_,_,_,L,R,va,_,_,vc,h2,⟨rs,f,B,h1,rfl,rfl,rfl,rfl⟩,ab2 h3,h4⟩
def Uy n(h0: -9223372036854775808<=n)(h1:n<=9223372036854775807):Cq 14 #[Iv n] w λe w'=>∃m fn rs,e=.returned (Iv m)/\Es m fn rs/\w'=w:=by
 go_enter func14,ntmps14;go_wp2_with fail;refine(Ux n 2 h0 h1 aK aK).mono ?_;rintro e w'⟨r,rfl,q0,q1,rfl⟩;obtain rfl|rfl:r=0\/r=1:=ae
 .go_wp2
  go_ret;exact⟨1,_,_,rfl,ajw,rfl⟩
 .go_wp2
  go_ret;exact⟨2,_,_,rfl,ajx,rfl⟩
end Go.Proofs.YtfnkchdeheeiiaaGreatDoor

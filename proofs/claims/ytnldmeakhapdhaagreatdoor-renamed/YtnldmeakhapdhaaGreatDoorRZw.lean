import Derived.Test.YtnldmeakhapdhaaGreatDoorRYz6
import Derived.Test.YtnldmeakhapdhaaGreatDoorRYv
set_option linter.all false
set_option maxRecDepth 100000
set_option maxHeartbeats 8000000
namespace Go.Proofs.YtnldmeakhapdhaaGreatDoor
open Go.Proofs.Tryz renaming prog->ja,f3->jc,checked->jd,func3->jf
open Go.World renaming cell?_of_block->jh
open Bx renaming new->ji
open Or renaming inl->jj,inr->jk
open _root_.Nat renaming zero_le->jl,lt_of_lt_of_le->jm
open Un renaming written->jo
open Go Proofs.Tryz
variable {s:BA} {rs:Bool} {fn:FuncId} {i j k n:Int} {L:List (BA×BA)} {B:List (BA×Un.Ty)} {b c:Nat} {u:Value} {w:World}
section
open Go.RowKit Go.ChangeMaps Go.MapKept Un
def aiu fn rs:=∀(w:World)(nl:List BA),nl.length<=1000000->Cq fn #[] w (λe w'=>∃ty eb S,e=.returned (.iface ty<|Pv eb)/\Bq w w'/\Za ty eb w.heap.size w'.heap.size rs nl S/\S w' 0 (λ_=>none) ⟨Ty.var,λ_=>False⟩ (λ_=>none))
def aml:aiu 22 true:=by
 intro w nl hl;have HN:=aiq (w:=w) nl;go_enter func22,ntmps22;go_wp2_with fail;refine HN.mono ?_;rintro e w1⟨eb,rfl,HB,HS⟩
 go_wp2
 go_ret;exact⟨_,eb,_,rfl,HB,ami hl,HS⟩
def amm:aiu 24 false:=by
 intro w nl hl;have HN:=air (w:=w) nl;go_enter func24,ntmps24;go_wp2_with fail;refine HN.mono ?_;rintro e w1⟨eb,rfl,HB,HS⟩
 go_wp2
 go_ret;exact⟨_,eb,_,rfl,HB,aip hl,HS⟩
structure Mi n fn rs:Prop where
 Ae:aiu fn rs
 cf:∀(args:Array Value)(w:World),(callFunc fn args).run ja w=.ok (.enter fn args) w
 look:∀{w:World}{b:Nat},MG qB w b (bG 2 (.func (.func 24) #[] #[])<|bG 1 (.func (.func 22) #[] #[]) [])->(Instr.lookup 57 (Mv b) (Iv n) true).run ja w=.ok (.tuple #[.func (.func fn) #[] #[],.bool true]) w
def akS:Mi 1 22 true:=⟨aml,λ_ _=>qkr,λh=>(LK h).1⟩
def akT:Mi 2 24 false:=⟨amm,λ_ _=>qkr,λh=>(LK h).2⟩
def xW rs s f L R B:=match bV s with
 |.error f'=>f=f'/\L=bs []/\R=bs []/\B=[]|.ok l=>((dx eM l oP).f.kind≠0/\f=(dx eM l oP).f/\L=bs []/\R=bs []/\B=[])\/((dx eM l oP).f.kind=0/\∃F,In.td rs l (λ_=>none) (λ_=>none) ⟨Ty.var,λ_=>False⟩ B F/\f=fF F/\L=fL F/\R=fR F)
def PV(s:BA)(w:World)(lo:Nat)(u:Value):Prop:=match bV s with
 |.error _=>u=.slice none 0 0|.ok l=>((dx eM l oP).f.kind≠0/\u=.slice none 0 0)\/((dx eM l oP).f.kind=0/\RowV QD 1 w (λb=>lo<=b) l u)
def amn rs s w(e:Ending)w':=∃u f L R B va vc,xW rs s f L R B/\PV s w' w.heap.size u/\e=.returned (.tuple #[.agg #[u],nS f L R va B.length vc])/\B_ w' (λb=>w.heap.size<=b) B va vc/\Bq w w'
def acx w P:B_ w P [] none 0:=⟨by simp_all[RowV,QBd],br _⟩
def Co(h:Laid w)s(hn:Mi n fn rs):Calls ja 12 #[.string s,.int .i64 n] w (amn rs s w):=by
 obtain⟨W0,HW⟩:∃W0,W0=(w.alloc<|Cv #[Lv none 0 0] 46).alloc (Cv (oW none 0 0) 34):=⟨_,rfl⟩;have cr:Below w.heap.size w W0:=by rw[HW];exact(bw _).alloc ag _
 have A0:Bx W0 w.heap.size #[Lv none 0 0]:=by rw[HW];exact(ji w _ _).alloc _
 have B0:Bx W0 (w.heap.size+1) (oW none 0 0):=by rw[HW];have:=ji (w.alloc<|Cv #[Lv none 0 0] 46) (oW none 0 0) 34;simpa using this
 have HC:=Jo (h.af cr) s;simp only[oW]at HW B0;clear h;go_enter func12,ntmps12;go_wp2_with fail;rw[<-HW];refine HC.mono ?_;rintro e w1⟨u,f,rfl,dz,hp⟩;obtain⟨va,vc,m,hu⟩:∃va vc n,u=Lv va n vc:=by
  cases hr:bV s with
  |error f'=>rw[hr]at hp;exact⟨_,_,_,hp.2⟩|ok l=>rw[hr]at hp;have⟨va,vc,cs,e,_⟩:=hp.2;exact⟨_,_,_,e⟩
 subst hu;have eH:=cr.trans<|dz.mono cr.size;obtain⟨W1,BE⟩:∃W1,W1=(w1.alloc<|Cv #[Lv va m vc] 46).alloc (Cv #[.int .i64 (f.kind:Int),.int .i64 (f.al:Int),.int .i64 (f.to:Int)] 30):=⟨_,rfl⟩;have fs:Below w1.heap.size w1 W1:=by rw[BE];exact(bw _).alloc ag _
 have eG:=eH.trans<|fs.mono eH.size;have A2:=ai<|(A0.below dz).below fs;have B2:=ai<|(B0.below dz).below fs;have P2:Bx W1 w1.heap.size #[Lv va m vc]:=(by rw[BE];exact(ji w1 _ _).alloc _);have F2:Bx W1 (w1.heap.size+1) #[.int .i64 (f.kind:Int),.int .i64 (f.al:Int),.int .i64 (f.to:Int)]:=(by rw[BE];have:=ji (w1.alloc<|Cv #[Lv va m vc] 46) #[.int .i64 (f.kind:Int),.int .i64 (f.al:Int),.int .i64 (f.to:Int)] 30;simpa using this);have B7:=ai BE;have amX:=ai fs;have nu:=eH.size;have oR:=B0.z;have iZ:=dz.size;unfold MI;by_cases hk:f.kind=0
 .cases hr:bV s with
  |error f'=>
   rw[hr]at hp;obtain⟨rfl,_⟩:=hp;have:=(Jn hr).1;omega
  |ok l=>
  rw[hr]at hp;obtain⟨hf,aO⟩:=hp;have e0:((f.kind:Nat):Int)=0:=ae;rw[e0]at B7 F2;have hs:¬400<s.size:=λc=>by simp[bV,c]at hr
  have HKZ:(dx eM l oP).f.kind=0:=by rw[<-hf];exact hk
  have HPI:=PI.init hs hr HKZ rs (λ_=>False) (cnt:=0) ae;have hnl:=(PG.init hs hr HKZ).2;have hl:=(zU hr).2;obtain⟨nl,HNL⟩:∃nl,Hid<|nl=l.flatMap dNm:=⟨_,ai rfl⟩;rw[<-uh HNL]at HPI hnl;have HRW:Hid (RowV QD 1 W1 (λb=>W0.heap.size<=b/\b<w1.heap.size) l<|Lv va m vc):=ai<|aO.move bR fs.size (λb _ z=>fs.block b z)<|λb p z=>⟨p,z⟩;have hzw:=fs.size;have ZE:=hn.cf;clear HC cr dz fs eH A0 B0 BE HW aO hf hs;go_wp2_with fail;rw[<-uh B7];refine V_.mono ?_;rintro e w2⟨rfl,K2,m2⟩;have ya:=hn.look m2;have A3:=A2.below K2;have B3:=B2.below K2;have P3:=ai<|P2.below K2;have HR3:=(HRW.move bR K2.size (λb _ z=>K2.block b z)<|λb p z=>p);have z2:=K2.size;clear m2 A2 B2 P2 F2 HRW B7;have⟨p1,p2,p3⟩:=uh P3
  go_wp2
  go_region_with(first
   |(go_at_call 19;go_loud(refine HIN.mono ?_);rintro e w4⟨B,F,qG,qH,hQ4,rfl,hB4,k4'⟩;have k4:Below w2.heap.size w3 w4:=k4';have A4:=(A3.below K3).same k4.size<|k4.block _ ae;have B4:=(B3.below K3).same k4.size<|k4.block _ ae;have P4:=(P3.below K3).same k4.size<|k4.block _ ae;have HA4:=ai A4;have HB4:=ai B4;have HQ4:=ai hQ4;have HW4:=ai hB4;have K4:=ai k4;obtain⟨a1,a2,a3⟩:=A4;obtain⟨b1,b2,b3⟩:=B4;obtain⟨c1,c2,c3⟩:=P4;clear hQ4 hB4 k4 k4' HIN;unfold nS)
   |(refine(hn.Ae _ nl ae).mono ?_;rintro e w3⟨ty,eb,S,rfl,k3,E3,S3⟩;have k3':Below w2.heap.size w2 w3:=(Below.refl w2.heap.size w2).drew.trans k3;have HIN:=ai (aeS ahq E3 (HR3.move bR k3'.size (λb _ z=>k3'.block b z) (λb p z=>by have:=p.2;show b<w2.heap.size;omega)) hl k3'.size (br _) S3 HPI);have P5:=P3.below k3';have K3:=ai k3';have z3:=k3'.size;obtain⟨d1,d2,d3⟩:=P5;clear k3 k3' E3 S3))
  all_goals(
   go_wp2_with fail;have k3:=uh K3;have k4:=uh K4;have k24:=k3.trans k4;have z4:=k4.size;have k04:=(eG.trans<|K2.mono eG.size).trans (k24.mono (by have:=eG.size;omega));have⟨c5,f5,z5⟩:=(HB4.ol (b2:=w.heap.size) ae 0<|Lv va m vc).Ou rfl (.int .i64 ((fF F).kind:Int)) (.int .i64 ((fF F).al:Int)) (.int .i64 ((fF F).to:Int)) (Sv<|fL F) (Sv<|fR F) (Lv qG B.length qH) (Lv none 0 0);have⟨c6,f6,z6⟩:=(HA4.rK 0 (Lv va m vc) #[Lv va m vc] ag ag).ZT (b:=w.heap.size+1) ae (.int .i64 ((fF F).kind:Int)) (.int .i64 ((fF F).al:Int)) (.int .i64 ((fF F).to:Int)) (Sv<|fL F) (Sv<|fR F) (Lv qG B.length qH)<|Lv none 0 0;refine bodyPost_ret (v:=.tuple #[Av #[Lv va m vc],nS (fF F) (fL F) (fR F) qG B.length qH]) (by simp[results,Tryz.results12,go_sem,nS,c5,c6]) rfl ?_;have kk:=Mh ((Fr.refl (λb=>b=w.heap.size\/b=w.heap.size+1) w4).set (b:=w.heap.size) (jj<|jj rfl) 0<|Lv va m vc) (b:=w.heap.size+1) (jj<|jk rfl) (.int .i64 ((fF F).kind:Int)) (.int .i64 ((fF F).al:Int)) (.int .i64 ((fF F).to:Int)) (Sv<|fL F) (Sv<|fR F) (Lv qG B.length qH)<|Lv none 0 0;refine⟨Lv va m vc,fF F,fL F,fR F,B,qG,qH,?_,?_,rfl,?_,Fr.xJ k04 k04.size kk (λx q=>by obtain rfl|rfl:=q<;>omega)⟩
   .unfold xW;rw[hr];exact jk ⟨HKZ,F,HQ4,rfl,rfl,rfl⟩
   .unfold PV;rw[hr];exact jk ⟨HKZ,HR3.move bR (Nat.le_trans k24.size kk.size) (λb p z=>(kk.block b ae (λq=>by have:=p.1;obtain rfl|rfl:=q<;>omega)).trans<|k24.block b z) (λb p z=>by have:=p.1;show w.heap.size<=b;omega)⟩
   .exact HW4.move kk.size (λb p z=>kk.block b z (λq=>by have p:w3.heap.size<=b:=p;obtain rfl|rfl:=q<;>omega)) (λb p _=>by have p:w3.heap.size<=b:=p;show w.heap.size<=b;omega))
 .have gi:((f.kind:Int)==0)=false:=bF
  have HA:xW rs s f (bs []) (bs []) []/\∀W,PV s W w.heap.size<|Lv none 0 0:=(by
   unfold xW PV
   cases hr:bV s with
   |error f'=>
    rw[hr]at hp;obtain⟨rfl,_⟩:=hp;exact⟨⟨rfl,rfl,rfl,rfl⟩,λ_=>rfl⟩
   |ok l=>
    rw[hr]at hp;obtain⟨rfl,_⟩:=hp
    exact⟨jj ⟨hk,rfl,rfl,rfl,rfl⟩,λ_=>jj ⟨hk,rfl⟩⟩)
  clear HC cr dz fs eH A0 B0 BE HW hk hp;go_wp2_with fail;rw[<-uh B7];have⟨c1,f1,z1⟩:=uh A2;have⟨c2,f2,z2⟩:=uh B2;obtain⟨c3,f3,z3⟩:=P2;obtain⟨c4,f4,z4⟩:=F2;go_region;go_wp2_with fail;have⟨c5,f5,z5⟩:=((B2.ol (b2:=w.heap.size) ae 0<|Lv none 0 0).Ou rfl (.int .i64 (f.kind:Int)) (.int .i64 (f.al:Int)) (.int .i64 (f.to:Int)) (Sv ⟨#[]⟩) (Sv ⟨#[]⟩) (Lv none 0 0) (Lv none 0 0)).gw;have⟨c6,f6,z6⟩:=((A2.rK 0 (Lv none 0 0) #[Lv none 0 0] ag ag).ZT (b:=w.heap.size+1) ae (.int .i64 (f.kind:Int)) (.int .i64 (f.al:Int)) (.int .i64 (f.to:Int)) (Sv ⟨#[]⟩) (Sv ⟨#[]⟩) (Lv none 0 0)<|Lv none 0 0).gw;refine bodyPost_ret (v:=.tuple #[Av #[Lv none 0 0],Av #[.int .i64 (f.kind:Int),.int .i64 (f.al:Int),.int .i64 (f.to:Int),Sv ⟨#[]⟩,Sv ⟨#[]⟩,Lv none 0 0,Lv none 0 0]]) (by simp[results,Tryz.results12,go_sem,c5,c6]) rfl ?_;have kk:=Mh ((Fr.refl (λb=>b=w.heap.size\/b=w.heap.size+1) W1).set (b:=w.heap.size) (jj<|jj rfl) 0<|Lv none 0 0) (b:=w.heap.size+1) (jj<|jk rfl) (.int .i64 (f.kind:Int)) (.int .i64 (f.al:Int)) (.int .i64 (f.to:Int)) (Sv ⟨#[]⟩) (Sv ⟨#[]⟩) (Lv none 0 0)<|Lv none 0 0;exact⟨Lv none 0 0,f,bs [],bs [],[],none,0,HA.1,HA.2 _,rfl,acx _ _,(Fr.xJ eG eG.size kk (λx q=>by obtain rfl|rfl:=q<;>omega)).drew⟩
def amo rs s w(e:Ending)w':=∃f L R B va vc,xW rs s f L R B/\e=.returned (nS f L R va B.length vc)/\B_ w' (λb=>w.heap.size<=b) B va vc/\Bq w w'
def PV.slice{w}{lo}(h:PV s w lo u):∃va n vc,u=.slice va n vc:=by
 rw[PV]at h
 cases hr:bV s with
 |error f=>grind|ok l=>
  rw[hr]at h;obtain⟨_,h⟩|⟨_,va,vc,cs,e,_⟩:=h
  .grind
  .grind
def aeT(h:Laid w)s(hn:Mi n fn rs):Cq 6 #[.string s,Iv n] w (amo rs s w):=by
 obtain⟨W0,HW⟩:∃W0,W0=w.alloc (Cv #[Iv 0,Iv 0,Iv 0,Sv ⟨#[]⟩,Sv ⟨#[]⟩,Lv none 0 0,Lv none 0 0] 34):=⟨_,rfl⟩;have K0:Bq w W0:=by rw[HW];exact bw _
 have B0:Bx W0 w.heap.size #[Iv 0,Iv 0,Iv 0,Sv ⟨#[]⟩,Sv ⟨#[]⟩,Lv none 0 0,Lv none 0 0]:=by rw[HW];exact ji _ _ _
 have HC:=Co (h.af K0) s hn;go_enter func6,ntmps6;go_wp2_with fail;rw[<-HW];refine HC.mono ?_;rintro e w1⟨u,f,L,R,B,va,vc,HA,hU,rfl,hR,hb⟩;obtain⟨pa,pn,pc,rfl⟩:=hU.slice;rw[nS];obtain⟨W1,BE⟩:∃W1,W1=(w1.alloc<|Cv #[Lv pa pn pc] 46).alloc (Cv #[Nv f.kind,Nv f.al,Nv f.to,Sv L,Sv R,Lv va B.length vc,Lv none 0 0] 34):=⟨_,rfl⟩;have k1:Bq w1 W1:=by rw[BE];exact(bw _).alloc ag _
 have kk:=hb.trans<|k1.mono hb.size;have K1:=K0.trans<|kk.mono K0.size;have B1:=ai<|B0.below kk;have C1:Bx W1 (w1.heap.size+1) #[Nv f.kind,Nv f.al,Nv f.to,Sv L,Sv R,Lv va B.length vc,Lv none 0 0]:=(by rw[BE];have:=ji (w1.alloc<|Cv #[Lv pa pn pc] 46) #[Nv f.kind,Nv f.al,Nv f.to,Sv L,Sv R,Lv va B.length vc,Lv none 0 0] 34;simpa using this);have HR:=(hR.move k1.size (λb _ z=>k1.block b z) (λb p _=>by have:=B0.z;have p:W0.heap.size<=b:=p;show w.heap.size+1<=b;omega));have z0:=K1.size;subst BE;have⟨x1,x2,x3⟩:=uh B1;obtain⟨y1,y2,y3⟩:=C1;go_wp2_with fail;have⟨p1,p2,p3⟩:=B1.Ou rfl (Nv f.kind) (Nv f.al) (Nv f.to) (Sv L) (Sv R) (Lv va B.length vc) (Lv none 0 0);refine bodyPost_ret (v:=nS f L R va B.length vc) (by simp[results,Tryz.results6,go_sem,nS,p1]) rfl ?_;have kk:=λW:World=>Mh (Fr.refl (λb=>b=w.heap.size) W) (b:=w.heap.size) (jj rfl) (Nv f.kind) (Nv f.al) (Nv f.to) (Sv L) (Sv R) (Lv va B.length vc)<|Lv none 0 0;exact⟨f,L,R,B,va,vc,HA,rfl,HR.move (kk _).size (λb p z=>(kk _).block b z (λq=>by have p:w.heap.size+1<=b:=p;have q:b=w.heap.size:=q;omega)) (λb p _=>by have p:w.heap.size+1<=b:=p;show w.heap.size<=b;omega),Fr.xJ K1 K1.size (kk _) (λx q=>by subst q;exact br _)⟩
def wB(B:List (BA×Ty)):List (BA×BA):=B.map λp=>(p.1,bs<|wr dec (vars [] p.2) p.2 0)
def aeU{P}{va:Option Addr}{vc:Nat}(h:B_ w P B va vc):lh w (wB B) (.slice va B.length vc):=by
 obtain⟨⟨va,vc,cs,e,hr,hq⟩,aiv⟩:=h;simp only[Value.slice.injEq,true_and]at e;obtain⟨rfl,rfl⟩:=e;have hl:(wB B).length=B.length:=by simp[wB]
 refine⟨_,_,by rw[hl],by rw[hl];exact aiv,?_⟩;obtain rfl|⟨g,rfl,_,hz,hc⟩:=hr
 .exact jj rfl
 .refine jk ⟨g,rfl,hz,λi hi=>?_⟩;rw[hl]at hi;have⟨q1,q2⟩:=hq i hi;have c0:=hc i hi 0 aB;have c1:=hc i hi 1 aB;rw[q1]at c0;rw[q2]at c1;refine⟨?_,?_⟩
  .rw[Nat.add_zero]at c0;rw[c0];simp[wB]
  .rw[c1];simp[wB]
def Bs{rs:Bool}:∀{l:List Dc}{mk:In.Mks}{Γ:In.Env}{s:In.St}{B:List (BA×Ty)}{F:Option In.Ft},In.td rs l mk Γ s B F->B.length<=l.length
 |[],_,_,_,_,_,h=>by rw[h.1];exact br _|.ty t vs ms::r,_,_,_,_,_,h=>Nat.le_succ_of_le (Bs (l:=r) h)|.lt rc t b::r,_,_,_,_,_,h=>by
  obtain⟨o,_,hq⟩:=h
  cases o with
  |error x=>rw[hq.1];exact jl _|ok p=>
   obtain⟨_,rfl,_⟩|⟨_,T,B',_,rfl,hr⟩:=hq
   .exact jl _
   .exact Nat.succ_le_succ (Bs (l:=r) hr)
def xW.len{f:Fl}{L R:BA}(h:xW rs s f L R B):(wB B).length<=1000000:=by
 have e:(wB B).length=B.length:=by simp[wB]
 rw[e];rw[xW]at h
 cases hr:bV s with
 |error e=>grind|ok l=>
  rw[hr]at h;obtain⟨_,_,_,_,rfl⟩|⟨_,F,q,_⟩:=h
  .exact jl _
  .have:=Bs q;have:=(zU hr).2;omega
def xX s k i j l r L:=∃rs f B,xW rs s f l r B/\k=(f.kind:Int)/\i=(f.al:Int)/\j=(f.to:Int)/\L=wB B
def xX.len{s}{k i j}{l r}{L}(h:xX s k i j l r L):L.length<=1000000:=by
 obtain⟨rs,f,B,h,rfl,rfl,rfl,rfl⟩:=h;exact h.len
def acy:List (BA×BA):=[(⟨#[107]⟩,⟨#[39,118,48,32,45,62,32,39,118,49,32,45,62,32,39,118,48]⟩),(⟨#[97]⟩,⟨#[85,110,105,116,32,45,62,32,73,110,116]⟩)]
def xX.fix{l r:BA}(h:xX Wd k i j l r L):k=0/\i=0/\j=0/\l=⟨#[]⟩/\r=⟨#[]⟩/\L=acy:=by
 obtain⟨rs,f,B,h,rfl,rfl,rfl,rfl⟩:=h;rw[xW]at h;rw[abO]at h;simp only at h;obtain⟨hk,_⟩|⟨_,F,q,rfl,rfl,rfl⟩:=h
 .rw[We]at hk;exact absurd rfl hk
 .obtain⟨rfl,hB⟩:=In.ael q;refine⟨rfl,rfl,rfl,rfl,rfl,?_⟩;have e:wB B=(B.map λp=>(p.1,jo dec p.2)).map λp=>(p.1,bs p.2):=by simp[wB,jo]
  rw[e,hB];rfl
def lK(hL:Laid w)s(hn:Mi n fn rs):Cq 6 #[.string s,Iv n] w λe w'=>∃k i j l r u L m c,e=.returned (.agg #[Iv k,Iv i,Iv j,.string l,.string r,.slice u m c,.slice none 0 0])/\xX s k i j l r L/\lh w' L (.slice u m c)/\Bq w w':=
 (aeT hL s hn).mono λe w' q=>by
  obtain⟨f,L,R,B,va,vc,h1,h2,h3,h4⟩:=q;exact⟨_,_,_,L,R,va,_,_,vc,h2,⟨rs,f,B,h1,rfl,rfl,rfl,rfl⟩,aeU h3,h4⟩
def acz(hL:Laid w):Cq 4 #[] w λe w'=>e=.returned (.bool true)/\Bq w w':=by
 obtain⟨W0,HW⟩:∃W0,W0=(w.alloc<|Cv #[Sv ⟨#[107]⟩,Sv ⟨#[39,118,48,32,45,62,32,39,118,49,32,45,62,32,39,118,48]⟩,Sv ⟨#[97]⟩,Sv ⟨#[85,110,105,116,32,45,62,32,73,110,116]⟩] 38).alloc (Cv #[Iv 0,Iv 0,Iv 0,Sv ⟨#[]⟩,Sv ⟨#[]⟩,Lv (some ⟨w.heap.size,0,none⟩) 2 2,Lv none 0 0] 34):=⟨_,rfl⟩;have HK:Bq w W0:=by rw[HW];exact(bw _).alloc ag _
 have b0:Bx W0 w.heap.size #[Sv ⟨#[107]⟩,Sv ⟨#[39,118,48,32,45,62,32,39,118,49,32,45,62,32,39,118,48]⟩,Sv ⟨#[97]⟩,Sv ⟨#[85,110,105,116,32,45,62,32,73,110,116]⟩]:=by rw[HW];exact(ji w _ _).alloc _
 have HB:Bx W0 (w.heap.size+1) #[Iv 0,Iv 0,Iv 0,Sv ⟨#[]⟩,Sv ⟨#[]⟩,Lv (some ⟨w.heap.size,0,none⟩) 2 2,Lv none 0 0]:=by rw[HW];have:=ji (w.alloc<|Cv #[Sv ⟨#[107]⟩,Sv ⟨#[39,118,48,32,45,62,32,39,118,49,32,45,62,32,39,118,48]⟩,Sv ⟨#[97]⟩,Sv ⟨#[85,110,105,116,32,45,62,32,73,110,116]⟩] 38) #[Iv 0,Iv 0,Iv 0,Sv ⟨#[]⟩,Sv ⟨#[]⟩,Lv (some ⟨w.heap.size,0,none⟩) 2 2,Lv none 0 0] 34;simpa using this
 have HR:lh W0 acy (Lv (some ⟨w.heap.size,0,none⟩) 2 2):=by
  refine⟨_,2,rfl,br _,jk ⟨_,rfl,b0.z,λi hi=>?_⟩⟩;have hi:i=0\/i=1:=by simp[acy]at hi;omega
  obtain rfl|rfl:=hi
  .exact⟨by rw[b0.c];rfl,by rw[b0.c];rfl⟩
  .exact⟨by rw[b0.c];rfl,by rw[b0.c];rfl⟩
 have HI:=lK (hL.af HK) Wd akS;simp only[Wd]at HI;go_enter func4,ntmps4;go_wp2_with fail;rw[<-HW];refine HI.mono ?_;rintro e w1⟨k,i,j,l,r,u,L,m,c,rfl,ha,hr,hb⟩;obtain⟨rfl,rfl,rfl,rfl,rfl,rfl⟩:=xX.fix ha;obtain⟨W1,B7⟩:∃W1,W1=w1.alloc (Cv #[Iv 0,Iv 0,Iv 0,Sv ⟨#[]⟩,Sv ⟨#[]⟩,Lv u m c,Lv none 0 0] 34):=⟨_,rfl⟩;have k1:Bq w1 W1:=by rw[B7];exact bw _
 have kk:=hb.trans<|k1.mono hb.size;have K1:=HK.trans<|kk.mono HK.size;have HR1:=HR.af kk;have eH:=HB.below kk;have HU1:=hr.af k1;have HV1:Bx W1 w1.heap.size #[Iv 0,Iv 0,Iv 0,Sv ⟨#[]⟩,Sv ⟨#[]⟩,Lv u m c,Lv none 0 0]:=(by rw[B7];exact ji _ _ _);have HI1:=lK (hL.af K1) Wd akT;simp only[Wd]at HI1;go_wp2_with fail;rw[<-B7];refine HI1.mono ?_;rintro e w2⟨k,i,j,l,r,u2,L,m2,c2,rfl,ha,hr,hb⟩;obtain⟨rfl,rfl,rfl,rfl,rfl,rfl⟩:=xX.fix ha;obtain⟨W2,hW2⟩:∃W2,W2=w2.alloc (Cv #[Iv 0,Iv 0,Iv 0,Sv ⟨#[]⟩,Sv ⟨#[]⟩,Lv u2 m2 c2,Lv none 0 0] 34):=⟨_,rfl⟩;have k2:Bq w2 W2:=by rw[hW2];exact bw _
 have kk:=hb.trans<|k2.mono hb.size;have K2:=K1.trans<|kk.mono K1.size;have HR2:=HR1.af kk;have eG:=ai<|eH.below kk;have HU2:=HU1.af kk;have HV2:=HV1.below kk;have HX2:=hr.af k2;have HY2:Bx W2 w2.heap.size #[Iv 0,Iv 0,Iv 0,Sv ⟨#[]⟩,Sv ⟨#[]⟩,Lv u2 m2 c2,Lv none 0 0]:=(by rw[hW2];exact ji _ _ _);subst hW2;have HS:=ua (k:=0) (i:=0) (j:=0) (l:=⟨#[]⟩) (r:=⟨#[]⟩) HU2 HR2 aB;simp only[rpt]at HS;have⟨x1,x2,x3⟩:=uh eG;obtain⟨y1,y2,y3⟩:=HV2;go_wp2_with fail;refine HS.mono ?_;rintro e w3⟨rfl,hb⟩;have K3:=K2.trans<|hb.mono K2.size;have zQ:=ai<|eG.below hb;have HY3:=HY2.below hb;have YT:=ua (k:=0) (i:=0) (j:=0) (l:=⟨#[]⟩) (r:=⟨#[]⟩) (HX2.af hb) (HR2.af hb) aB;simp only[rpt]at YT;have⟨x1,x2,x3⟩:=uh zQ;obtain⟨y1,y2,y3⟩:=HY3;go_wp2_with fail;refine YT.mono ?_;rintro e w4⟨rfl,hb⟩;have K4:=K3.trans<|hb.mono K3.size
 go_wp2
 go_ret;exact⟨rfl,K4⟩
def acA n(h0: -9223372036854775808<=n)(h1:n<=9223372036854775807):Cq 7 #[Iv n] w λe w'=>∃m fn rs,e=.returned (Iv m)/\Mi m fn rs/\w'=w:=by
 go_enter func7,ntmps7;go_wp2_with fail;refine(aa9 n 2 h0 h1 aB aB).mono ?_;rintro e w'⟨r,rfl,q0,q1,rfl⟩;obtain rfl|rfl:r=0\/r=1:=ae
 .go_wp2
  go_ret;exact⟨1,_,_,rfl,akS,rfl⟩
 .go_wp2
  go_ret;exact⟨2,_,_,rfl,akT,rfl⟩
def Ue(B:List (BA×Ty)):wB B=(In.DA dec B).map λp=>(p.1,bs p.2):=by simp[wB,In.DA,jo,Function.comp_def]
def xX.my{L l:List UInt8}(hQ:MQ L l)(h0:L≠[])(hz:l.length<=380){lf rt:BA}{B:List (BA×BA)}(h:xX (bs l) k i j lf rt B):(B=[]->k=6\/k=7)/\(k=0->∃c B1 T,B=B1++[(bu c,T)]/\∀k' i' j' WW WX B',xX (bs<|l++[108,101,116,32,119,61]++[c]++[59]) k' i' j' WW WX B'->k'=0/\B'=B++[(⟨#[119]⟩,T)]):=by
 have⟨P,r1,r2,r3⟩:=Ww hQ h0 hz;obtain⟨rs,f,Z,h,rfl,rfl,rfl,rfl⟩:=h;rw[xW]at h;rw[r1]at h;obtain⟨hk,_⟩|⟨_,F,q,rfl,rfl,rfl⟩:=h
 .rw[r2]at hk;exact absurd rfl hk
 have hg:=pT (s:=bs l) (by rw[dY];omega);rw[r1]at hg;have g:=PQ (mk:=λ_=>none) (Γ:=λ_=>none) (s:=⟨Ty.var,λ_=>False⟩) hg.1 (λx tk m q=>lq) (λy c q=>lq) (λn=>trivial) q
 cases F with
 |some z=>
  have:=g.2 z rfl;simp only[fF];constructor
  .intro _;obtain e|e:=this<;>omega
  .intro e;obtain e'|e':=this<;>omega
 |none=>
  have⟨c,T,e1,e2⟩:=r3 rs Z q;constructor
  .intro e;rw[wB,List.map_eq_nil_iff]at e;subst e
   cases e1
  .intro _;obtain⟨Z1,rfl⟩:∃Z1,Z=Z1++[(bu c,T)]:=List.getLast?_eq_some_iff.1 e1;refine⟨c,wB Z1,bs<|jo dec T,by simp[wB,jo],λk' i' j' WW WX B' h'=>?_⟩;have⟨P',s1,s2,s3⟩:=e2 (g.1 (bu c,T) ag).2;obtain⟨OK,f',Z',h',rfl,rfl,rfl,rfl⟩:=h';rw[xW]at h';rw[s1]at h';obtain⟨hk,_⟩|⟨_,F',q',rfl,rfl,rfl⟩:=h'
   .rw[s2]at hk;exact absurd rfl hk
   obtain⟨rfl,e3⟩:=s3 OK Z' F' q';exact⟨rfl,by rw[Ue,e3,Ue];simp⟩
def lh.get{u:Option Addr}{n:Nat}(h:lh w L (.slice u n c)):n=L.length/\n<=c/\(L≠[]->∃g,u=some ⟨g,0,none⟩/\g<w.heap.size/\∀i(h:i<L.length),w.cell? ⟨g,i*2,none⟩=some (.string L[i].1)/\w.cell? ⟨g,i*2+1,none⟩=some (.string L[i].2)):=by
 obtain⟨va,vc,e,h1,h2⟩:=h;simp only[Value.slice.injEq]at e;obtain⟨rfl,rfl,rfl⟩:=e;exact⟨rfl,h1,λhL=>h2.resolve_left hL⟩
def lh.pre{M:List (BA×BA)}{u:Option Addr}{n:Nat}(h:lh w (L++M) (.slice u n c)):lh w L (.slice u L.length c):=by
 have⟨h1,h2,h3⟩:=h.get;simp only[lM]at h1;refine⟨u,c,rfl,ae,?_⟩;by_cases hL:L=[]
 .exact .inl hL
 .have⟨g,e,hg,hc⟩:=h3 (by simp[hL]);refine .inr ⟨g,e,hg,λi hi=>?_⟩;have:=hc i bF
  rwa[List.getElem_append_left hi]at this
def lh.fr{w':World}{v:Value}(h:lh w L v)(k:Fr (λx=>x=b) w w'){x:Int}(hb:w.cell? ⟨b,0,none⟩=some (Iv x)):lh w' L v:=by
 obtain⟨va,vc,rfl,hc,h⟩:=h;refine⟨va,vc,rfl,hc,?_⟩;by_cases hL:L=[]
 .exact .inl hL
 obtain⟨g,rfl,hg,hl⟩:=h.resolve_left hL;have cV:g≠b:=by
  rintro rfl;have:=(hl 0<|List.length_pos_iff.2 hL).1;rw[Nat.zero_mul,hb]at this
  cases this
 refine .inr ⟨g,rfl,jm hg k.size,λi hi=>⟨?_,?_⟩⟩
 .rw[jh (a:=⟨g,i*2,none⟩)<|k.block g hg cV];exact(hl i hi).1
 .rw[jh (a:=⟨g,i*2+1,none⟩)<|k.block g hg cV];exact(hl i hi).2
def seven{W:World}(Z:Bx w b #[Iv 0,Iv 0,Iv 0,.string ⟨#[]⟩,.string ⟨#[]⟩,.slice none 0 0,.slice none 0 0])(R:lh w L u)(K:Below b W w)(v0 v1 v2 v3 v4 v5 v6:Value):Bx (((((((w.setCell ⟨b,0,none⟩ v0).setCell ⟨b,1,none⟩ v1).setCell ⟨b,2,none⟩ v2).setCell ⟨b,3,none⟩ v3).setCell ⟨b,4,none⟩ v4).setCell ⟨b,5,none⟩ v5).setCell ⟨b,6,none⟩ v6) b #[v0,v1,v2,v3,v4,v5,v6]/\lh (((((((w.setCell ⟨b,0,none⟩ v0).setCell ⟨b,1,none⟩ v1).setCell ⟨b,2,none⟩ v2).setCell ⟨b,3,none⟩ v3).setCell ⟨b,4,none⟩ v4).setCell ⟨b,5,none⟩ v5).setCell ⟨b,6,none⟩ v6) L u/\Below b W (((((((w.setCell ⟨b,0,none⟩ v0).setCell ⟨b,1,none⟩ v1).setCell ⟨b,2,none⟩ v2).setCell ⟨b,3,none⟩ v3).setCell ⟨b,4,none⟩ v4).setCell ⟨b,5,none⟩ v5).setCell ⟨b,6,none⟩ v6):=by
 have k:=Mh (Fr.refl (λx=>x=b) w) (b:=b) (.inl rfl) v0 v1 v2 v3 v4 v5 v6;exact⟨Z.Ou rfl v0 v1 v2 v3 v4 v5 v6,R.fr k<|Z.c 0,Fr.xJ K (Nat.le_of_lt Z.z) k (λx q=>by subst q;exact br _)⟩
def Mk(hL:Laid w)(n:Int)(h0: -9223372036854775808<=n)(h1:n<=9223372036854775807){p:Option Addr}{len cap:Nat}{r:Nat->Int}(hlen:(len:Int)<=9223372036854775807)(hR:Raw w p len r):
 Cq 3 #[.slice p len cap,Iv n] w λe w'=>e=.returned (.bool true)/\Bq w w':=by
 have HJ:=ai<|acz hL;have HR:=ai hR;have HL:=ai hL;have HE:Hid (∀W,Cq 7 #[Iv n] W λe w'=>∃m fn rs,e=Rv (Iv m)/\Mi m fn rs/\w'=W):=ai<|λW=>acA n h0 h1;clear hR hL h0 h1;have HP:Hid (∀W A(xb:Nat),Src W xb p len cap r A->Cq 5 #[Pv xb] W (ae6 xb p len cap r W)):=ai<|λW A xb h=>ac3 h;go_enter func3,ntmps3;go_wp2_with fail;refine HJ.mono ?_;rintro e w1⟨rfl,dz⟩;have fs:Bq w1 (w1.alloc<|Cv #[Lv p len cap,Iv 0] 26):=bw _;have eG:=dz.trans<|fs.mono dz.size;have S2:Src (w1.alloc<|Cv #[Lv p len cap,Iv 0] 26) w1.heap.size p len cap r 0:=by
  refine⟨ji w1 _ _,jl _,hlen,λi hi=>?_,λi hi=>(HR i hi).2⟩;have⟨g,o,e,hg,hc⟩:=(HR i hi).1;have hz:=dz.size;exact⟨g,o,e,bF,ae,(jh (a:=⟨g,o+i,none⟩) (w:=w)<|eG.block g hg).trans hc⟩
 have Xe:=ai<|HP _ 0 _ S2;have hzz:=dz.size;clear HJ HR HP S2;go_wp2_with fail;refine Xe.mono ?_;rintro e w3⟨m,l,L,hn,hLn,rfl,hm3,A3,hs3,ul⟩;have K0:=ai (ul.low eG eG.size hzz:Bq w w3);have hlz:l.length<=380:=by have:=hm3.len;omega
 have HA:Hid (∀k i j lf rt B,xX (bs l) k i j lf rt B->_):=ai (λk i j lf rt B h=>xX.my hm3 (by rintro rfl;simp at hLn;omega) hlz h (k:=k) (i:=i) (j:=j) (lf:=lf) (rt:=rt) (B:=B));have hbz:(bs l).size<=380:=by rw[dY];exact hlz
 clear Xe hm3 hs3 ul fs eG dz hlen hn hLn hlz hzz;go_wp2_with fail;refine(HE _).mono ?_;rintro e w4⟨m',fn,rs,rfl,CU,rfl⟩;have HI:=ai<|lK (HL.af K0) (bs l) CU;go_wp2_with fail;refine HI.mono ?_;rintro e v1⟨k,i,j,lf,rt,u,B,m1,c,rfl,a1,b1,dz⟩;have⟨g1,g2⟩:=uh HA _ _ _ _ _ _ a1;obtain⟨rfl,aiv,akU⟩:=b1.get;have hlen:=a1.len;have q1:∀C,Bq v1<|v1.alloc<|Cv C 34:=λC=>bw _;have K1:Hid (∀C,Bq w<|v1.alloc<|Cv C 34):=ai<|λC=>K0.trans<|(dz.trans<|(q1 C).mono dz.size).mono K0.size;clear HA HI a1 K0;by_cases hB:B=[]
 .have hk:=g1 hB;subst hB;have⟨x1,x2,x3⟩:=ji v1 #[Iv k,Iv i,Iv j,Sv lf,Sv rt,Lv u 0 c,Lv none 0 0] 34;simp only[qO];obtain rfl|rfl:=hk
  .go_wp2
   go_ret;exact⟨rfl,uh K1 _⟩
  .go_wp2
   go_ret;exact⟨rfl,uh K1 _⟩
 .by_cases hk:k=0
  .obtain⟨d,B0,T,rfl,g3⟩:=g2 hk;obtain⟨g,rfl,hg,hc⟩:=akU hB;subst hk;have Uk:=hc B0.length ag;simp only[List.getElem_concat_length]at Uk;have G3:=ai g3;have RB:=ai b1;obtain⟨b,hb⟩:∃b,B0.length=b:=⟨_,rfl⟩;have HB:=ai hb;simp only[lM,List.length_singleton,hb]at aiv hlen Uk⊢;obtain⟨W,hW⟩:∃W,W=v1.alloc (Cv #[Iv 0,Iv i,Iv j,Sv lf,Sv rt,Lv (some ⟨g,0,none⟩) (b+1) c,Lv none 0 0] 34):=⟨_,rfl⟩;have B1:Bx W v1.heap.size #[Iv 0,Iv i,Iv j,Sv lf,Sv rt,Lv (some ⟨g,0,none⟩) (b+1) c,Lv none 0 0]:=by rw[hW];exact ji _ _ _
   have Q1:Bq v1 W:=by rw[hW];exact q1 _
   have K2:Hid (Bq w W):=ai (by rw[hW];exact uh K1 _);have R1:=ai<|(uh RB).af Q1;have c1:W.cell? ⟨g,b*2,none⟩=some (Sv<|bu d):=(jh (a:=⟨g,b*2,none⟩)<|Q1.block g hg).trans Uk.1;have c2:W.cell? ⟨g,b*2+1,none⟩=some (Sv T):=(jh (a:=⟨g,b*2+1,none⟩)<|Q1.block g hg).trans Uk.2;have hgW:g<W.heap.size:=jm hg Q1.size;have eH:=ai B1;clear hc akU g1 g2 g3 hB hb Uk b1 q1 K1 RB dz hg;obtain⟨x1,x2,x3⟩:=B1;subst hW;have Dq:(bu d).size<=1:=br 1
   have HX:Hid (bs l++(⟨#[108,101,116,32,119,61]⟩:BA)++bu d++⟨#[59]⟩=bs (l++[108,101,116,32,119,61]++[d]++[59])):=ai (by
    show bs l++bs [108,101,116,32,119,61]++bs [d]++bs [59]=_
    simp only[kG])
   have HI:Hid (∀W',Bq w W'->∀(m:Int)(fn:FuncId)(rs:Bool),Mi m fn rs->Cq 6 #[Sv<|bs l++(⟨#[108,101,116,32,119,61]⟩:BA)++bu d++⟨#[59]⟩,Iv m] W' λe w'=>∃i' j' WW WX u' c',e=Rv (Av #[Iv 0,Iv i',Iv j',Sv WW,Sv WX,Lv u' (b+1+1) c',Lv none 0 0])/\lh w' (B0++[(bu d,T)]++[(⟨#[119]⟩,T)]) (Lv u' (b+1+1) c')/\Bq W' w'):=ai (by
    intro W' hW' m fn rs hn;rw[uh HX];refine(lK (HL.af hW') _ hn).mono ?_;rintro e w'⟨k,i',j',WW,WX,u',B',m1',c',rfl,a2,b2,fs⟩;obtain⟨rfl,rfl⟩:=uh G3 _ _ _ _ _ _ a2;obtain⟨rfl,_,_⟩:=b2.get;have e:(B0++[(bu d,T)]++[((⟨#[119]⟩:BA),T)]).length=b+1+1:=by simp[uh HB]
    rw[e]at b2⊢
    exact⟨i',j',WW,WX,u',c',rfl,b2,fs⟩)
   clear HX G3;obtain⟨W,hW⟩:∃W,W=(v1.alloc<|Cv #[Iv 0,Iv i,Iv j,Sv lf,Sv rt,Lv (some ⟨g,0,none⟩) (b+1) c,Lv none 0 0] 34).alloc (Cv #[Sv<|bu d,Sv T] 38):=⟨_,rfl⟩;have Q2:Bq (v1.alloc<|Cv #[Iv 0,Iv i,Iv j,Sv lf,Sv rt,Lv (some ⟨g,0,none⟩) (b+1) c,Lv none 0 0] 34) W:=by rw[hW];exact bw _
   have KW:=ai<|(uh K2).trans<|Q2.mono (uh K2).size;have BB:Bx W (v1.heap.size+1) #[Sv<|bu d,Sv T]:=by rw[hW];have:=ji (v1.alloc<|Cv #[Iv 0,Iv i,Iv j,Sv lf,Sv rt,Lv (some ⟨g,0,none⟩) (b+1) c,Lv none 0 0] 34) #[Sv<|bu d,Sv T] 38;simpa using this
   have HBB:=ai BB;have Q3:=ai Q2;have HW:=ai hW;clear hW Q2 BB
   go_upto_region 11 with fail
   go_cut[9]from 13 to 50 (λv wx=>v=Pv (v1.heap.size+1)/\W=wx)
   case first=>
    go_wp2_with fail
    go_meet
    exact⟨rfl,uh HW⟩
   case rest=>
   obtain⟨rfl,rfl⟩:=hcut;have⟨y1,y2,y3⟩:=uh HBB;clear x1 x2 x3 c1 c2
   go_upto_region 12 with fail
   go_cut[10]from 51 to 59 (λv wx=>∃rb i' j' WW WX u' c',v=Pv rb/\Bx wx rb #[Iv 0,Iv i',Iv j',Sv WW,Sv WX,Lv u' (b+1+1) c',Lv none 0 0]/\lh wx (B0++[(bu d,T)]++[(⟨#[119]⟩,T)]) (Lv u' (b+1+1) c')/\Bq W wx)
   case first=>
    have y0:W.cell? ⟨v1.heap.size+1,0,none⟩=some (Sv<|bu d):=y1 0;have hs1:¬9223372036854775807<(bs l).size+6:=ae;have yu:¬9223372036854775807<(bs l).size+6+(bu d).size:=ae;have hs3:¬9223372036854775807<(bs l).size+6+(bu d).size+1:=ae;clear y1 y2
    go_region_held3(λw'=>w'.cell? ⟨v1.heap.size+1,0,none⟩=some (Sv<|bu d)) (first|(have q:(_:World).cell? ⟨v1.heap.size+1,0,none⟩=some (Sv<|bu d):=((uh S5).ZT (b:=W.heap.size) (Nat.ne_of_lt y3) (Iv 0) (Iv i') (Iv j') (Sv WW) (Sv WX) (Lv u' (b+1+1) c')<|Lv none 0 0).c 0;with_reducible exact q)|go_keep|(simp[*];done)) (first
     |(go_at_call 6;refine(uh HI _ (by first|exact(uh KW).drew|exact((uh KW).alloc (uh KW).size _).drew) _ _ _ W6).mono ?_;rintro e w5⟨i',j',WW,WX,u',c',rfl,b2,fs⟩;have HR:=ai b2;have K5:Hid (Bq W w5):=ai (by first|exact(Below.refl _ _).drew.trans fs|exact(bw _).drew.trans (fs.mono ag));have S5:Hid (Bx w5 (v1.heap.size+1) #[Sv<|bu d,Sv T]):=ai (by first|exact(uh HBB).gw.below fs|exact((uh HBB).alloc _).gw.below fs);have s5:w5.cell? ⟨v1.heap.size+1,0,none⟩=some (Sv<|bu d):=(uh S5).c 0;first|(with_reducible change Below (World.alloc _<|Cv #[Iv 0,Iv 0,Iv 0,Sv ⟨#[]⟩,Sv ⟨#[]⟩,Lv none 0 0,Lv none 0 0] 34).drew.heap.size _ w5 at fs;have Z5:=ai<|(ji W #[Iv 0,Iv 0,Iv 0,Sv ⟨#[]⟩,Sv ⟨#[]⟩,Lv none 0 0,Lv none 0 0] 34).gw.below fs;have⟨z1,z2,z3⟩:=(ji _ #[Iv 0,Iv 0,Iv 0,Sv ⟨#[]⟩,Sv ⟨#[]⟩,Lv none 0 0,Lv none 0 0] 34).gw.below fs;clear b2 fs)|clear b2 fs)
     |(refine(HE _).mono ?_;rintro e w5⟨m2,fn2,rs2,rfl,W6,rfl⟩))
    all_goals(
     try clear z1 z2 z3
     clear hs1 yu hs3 y0 s5 HI HE HL;go_wp2_with fail
     go_meet
     case rel=>
      first
       |(have e:=seven (uh Z5) (uh HR) (uh K5) (Iv 0) (Iv i') (Iv j') (Sv WW) (Sv WX) (Lv u' (b+1+1) c')<|Lv none 0 0;exact⟨W.heap.size,i',j',WW,WX,u',c',rfl,e.1,e.2⟩)
       |exact⟨w5.heap.size,i',j',WW,WX,u',c',rfl,ji w5 _ _,(uh HR).af<|bw _,(uh K5).alloc (uh K5).size _⟩)
   case rest=>
    obtain⟨rb,i',j',WW,WX,u',c',rfl,P2,R2,KX⟩:=hcut;have P1:=ai<|((uh eH).below<|uh Q3).below KX;have BB:=ai<|(uh HBB).below KX;have KF:=ai<|(uh KW).trans<|KX.mono (uh KW).size;have e1:(B0++[(bu d,T)]).length=b+1:=by simp[uh HB]
    have RA:=R2.pre;have RC:=((uh R1).af<|uh Q3).af KX;rw[e1]at RA RC;have HS:Hid (∀W',Bq wc W'->Cq 8 #[Lv u' (b+1) c',Lv (some ⟨g,0,none⟩) (b+1) c] W' λe w'=>e=Rv (.bool true)/\Bq W' w'):=ai<|λW' k=>wW (RA.af k) (RC.af k) ae;obtain⟨-,amu,afS⟩:=R2.get;obtain⟨g2,rfl,MP,UE⟩:=afS ag;have hx:∀h,(B0++[(bu d,T)]++[((⟨#[119]⟩:BA),T)])[b+1]'h=(⟨#[119]⟩,T):=λh=>by
     rw[List.getElem_append_right ae];simp[e1]
    have Kd:=UE (b+1) (by simp[uh HB]);rw[hx]at Kd;obtain⟨d1,d2⟩:=Kd;have Mr:(b:Int)+1<=(c':Int):=ae;have cV:((b:Int)+1+1 !=(b:Int)+1+1)=false:=ag;have cr:(0:Int)<=(b:Int)+1:=ae;have⟨x1,x2,x3⟩:=uh P1;have Xe:=ai P2;obtain⟨z1,z2,z3⟩:=P2;clear hx e1 RA RC R2 afS UE eH HBB KW R1 HI HE K2 Q3 HW Q1 hgW CU;go_wp2_with fail;have y5:wc.cell? ⟨v1.heap.size,5,none⟩=some (Lv (some ⟨g,0,none⟩) (b+1) c):=x1 5;have z5:wc.cell? ⟨rb,5,none⟩=some (Lv (some ⟨g2,0,none⟩) (b+1+1) c'):=z1 5
    go_region_held3(λw'=>w'.cell? ⟨v1.heap.size,5,none⟩=some (Lv (some ⟨g,0,none⟩) (b+1) c)/\w'.cell? ⟨rb,5,none⟩=some (Lv (some ⟨g2,0,none⟩) (b+1+1) c')) (first|go_keep|(simp[*])) (
     (go_at_call 8;refine(uh HS _ (Below.refl _ _).drew).mono ?_;rintro e w6⟨rfl,hb6⟩;have K6:=ai<|(Below.refl wc.heap.size wc).drew.trans hb6;have s6:w6.cell? ⟨v1.heap.size,5,none⟩=some (Lv (some ⟨g,0,none⟩) (b+1) c):=((uh P1).below<|uh K6).c 5;have t6:w6.cell? ⟨rb,5,none⟩=some (Lv (some ⟨g2,0,none⟩) (b+1+1) c'):=((uh Xe).below<|uh K6).c 5;clear hb6))
    have k6:=uh K6;have d3:w6.cell? ⟨g2,(b+1)*2,none⟩=some (Sv ⟨#[119]⟩):=(jh (a:=⟨g2,(b+1)*2,none⟩)<|k6.block g2 MP).trans d1;have d4:w6.cell? ⟨g2,(b+1)*2+1,none⟩=some (Sv T):=(jh (a:=⟨g2,(b+1)*2+1,none⟩)<|k6.block g2 MP).trans d2;have K7:=ai<|(uh KF).trans<|k6.mono (uh KF).size;have B6:=(uh BB).below k6;have hz6:v1.heap.size+1<w6.heap.size:=B6.z;clear x1 x2 x3 z1 z2 z3 y1 y2 y3 y5 z5 d1 d2 s6 t6;have⟨x1,x2,x3⟩:=(uh P1).below k6;have⟨z1,z2,z3⟩:=(uh Xe).below k6;obtain⟨y1,y2,y3⟩:=B6;clear k6 HS KX P1 Xe BB
    go_wp2
    go_ret;exact⟨rfl,(uh K7).alloc (uh K7).size _⟩
  .have gi:(k==0)=false:=by simpa using hk
   have Xz:0<B.length:=List.length_pos_iff.2 hB;have cV:(((B.length:Nat):Int)==0)=false:=bF;have⟨x1,x2,x3⟩:=ji v1 #[Iv k,Iv i,Iv j,Sv lf,Sv rt,Lv u B.length c,Lv none 0 0] 34
   go_wp2
   go_ret;exact⟨rfl,uh K1 _⟩
end
section
open Go.ChangeShapes Go.WideShapes Go.ChangeAt Go.WideMaps Go.WideElems Go.RowKit Go.ChangeMaps
def Bt(os:Os)(started:os.Started)(H:Type)(enc:TypeId×Value->H):
 ReturnsInHanded {} jd os 3 .any (λw args=>(Rows.renamedSpec.pre enc ja jc [] false w args/\laidMetH ja Rows.renamedRow.laid w)/\sizedMet enc ja jc (OpenSpec.ofChange Rows.renamedSpec) false w args)
  (Rows.renamedSpec.post enc ja jc false true false false):=by
 refine returnsInHanded_of_change_and (C:=jd) (X:=λw _=>laidMetH ja Rows.renamedRow.laid w) (λ_ _ _ hh h=>h.of_heap hh) own started qkr jf
  (ChangeSpec.witness_shaped (enc:=enc) (C:=jd) (os:=os) (X:=λw _=>laidMetH ja Rows.renamedRow.laid w) false (World.doorLaid ja 72 os) #[.slice none 0 0,Iv 0] 8 rfl (World.shaped_of_RefB qkr qkr) qkr qkr qkr (aa8 os _)) ?_
 intro W base args ds gs before afT hW _ _ hL _;have aiw:∀(j:Nat)t v,Tryz.f3.params[j]? =some t->args[j]? =some v->Value.okWide ja W .any base t v:=afT;have hW':=hW;obtain⟨p,q,hA0,hV,rfl,hfz,Bw⟩:=hW;have hA:DataW.TrodAll enc ja W 0 (λ_=>true) true Tryz.f3.params.toList args.toList ds p:=hA0;rw[Tryz.params3]at hA aiw;obtain⟨v1,v2,d1,d2,p1,p2,rfl,rfl,rfl,h1,h2⟩:=trodAll_two hA;obtain⟨rfl,rfl⟩:=trodVars_none hV;obtain⟨a1,len,cap,rfl⟩:=okWide_slice AP<|aiw 0 22 v1 rfl rfl;obtain⟨n,rfl,rfl,rfl,hw⟩:=open_int Tryz.underlying3 (aiw 1 3 v2 rfl rfl) h2;have h1k:=h1;obtain⟨fuel,hf⟩:=h1;clear hA0 afT;simp only[List.append_nil,List.nil_append]at hW';have bA:∀x∈p1,x.block<W.heap.size:=λx hx=>by simpa using hW'.lt x hx
 have akV:∀(W':World),Bq W W'->DataW.Trod enc ja W' 0 (λb=>decide (b<W.heap.size)) true 22 (.slice a1 len cap) d1 p1:=
  λW' hn=>Below.trod laidOut qkr (of_decide_eq_true qkr) h1k hn bA
 have hn: -9223372036854775808<=n/\n<=9223372036854775807:=by have hw':=hw;simp only[Lit.wf,Bool.and_eq_true,decide_eq_true_eq]at hw';exact hw'
 obtain⟨hlen,r,hS⟩:=aa_ (by simpa[Value.cells]using hf);refine(Mk (adZ hL) n hn.1 hn.2 (cap:=cap) hlen hS).mono λe W'⟨he,hb⟩=>?_;subst he;exact⟨_,rfl,_,_,_,[],_,[],hW',trodAll_mk1<|shut_bool Tryz.underlying4 _,trodAll_mk2 (akV _ hb)<|shut_int Tryz.underlying3 hw,rfl,hb.frame _,λh=>Mp⟩
end
section
open Go.ChangeShapes Go.WideShapes Go.ChangeAt Go.WideMaps Go.WideElems Go.RowKit
def renamed_named:Tryz.prog.funcNamed "assay/assaykeep.Renamed" =some 3:=qkr
def G_:Tryz.f3.isInstance ja Rows.renamedRow.origin Rows.renamedRow.targs:=of_decide_eq_true qkr
def Hc:Tryz.f3.isWrapper ja Rows.renamedRow.wrapper Rows.renamedRow.mainSum:=by
 rw[Func.isWrapper];first|(rw[if_pos<|by decide+kernel];kernel_rfl)|(rw[if_neg<|by decide+kernel];exact⟨rfl,rfl⟩)
def renamed_row:Rows.RenamedSaid:=
 OpenClaim.holds_of_wide 3 jc rfl rfl rfl rfl rfl rfl rfl ⟨rfl,rfl,rfl,rfl,rfl⟩ rfl rfl rfl rfl rfl renamed_named jf AQ G_ Hc
  (λos started H enc _=>Bt os started H enc)
#print axioms renamed_row
end
def Cp:([22,3].all λu=> !Tryz.prog.wantsStandIn u)=true:=qkr
theorem renamed_holds:Rows.RenamedCardSaid:=
 Claim7.holds_tied_plain_at .later [] [.data,.data,.data,.sentinel,.sentinel,.data,.data] true Rows.renamedCard.stood.harness true
  renamed_row (λ_ h=>Mp) Ji (λ_ h=>Mp) renamed_row_tie rfl ⟨rfl,rfl⟩ UF rfl
  (λf fn hf hfn=>by
   obtain rfl:f=3:=(Option.some.inj<|renamed_named.symm.trans hf).symm;obtain rfl:fn=jc:=(Option.some.inj<|Tryz.func3.symm.trans hfn).symm
   exact⟨NT,λj t ht=>by
    rw[Tryz.params3]at ht;have hm:t∈[22,3]:=by simpa using Array.mem_of_getElem? ht
    exact(show Tryz.prog.wantsStandIn t=false by simpa using List.all_eq_true.1 Cp t hm)⟩)
  ER
#print axioms renamed_holds
end Go.Proofs.YtnldmeakhapdhaaGreatDoor

import Derived.Test.YtonaidfgokhmoaaGreatDoorYRtr
import Derived.Test.YtonaidfgokhmoaaGreatDoorYYz6
import Derived.Test.YtonaidfgokhmoaaGreatDoorYYv
set_option linter.all false
set_option maxRecDepth 100000
set_option maxHeartbeats 8000000
namespace Go.Proofs.YtonaidfgokhmoaaGreatDoor
open Go renaming Calls->aa,World->ca
open _root_.Option renaming none->ea
open Go.Proofs.Tryz renaming prog->ja,f3->jc,checked->jd,underlying9->jf,func3->jh
open Or renaming inl->ji,inr->jj
open Bx renaming new->jk
open _root_.Nat renaming zero_le->jl,le_trans->jm
open Go Proofs.Tryz
variable {l r s:BA} {rs:Bool} {f:Fl} {fn:FuncId} {i j k n:Int} {L:List (BA×BA)} {B:List (BA×Un.Ty)} {pl:Prop} {w:ca}
section
open Go.RowKit Go.ChangeMaps Go.MapKept Un
def aga fn rs:=∀(w:ca)(b:List BA),b.length<=1000000->aa ja fn #[] w (λe w'=>∃ty eb S,e=.returned (.iface ty<|Pv eb)/\Bq w w'/\VW ty eb w.heap.size w'.heap.size rs b S/\S w' 0 (λ_=>ea) ⟨Ty.var,λ_=>False⟩ (λ_=>ea))
def aiS:aga 30 true:=by
 intro w b d;have g:=af9 (w:=w) b;go_in;go_wp;refine g.mono ?_;rintro e w1⟨m,rfl,o,p⟩
 go_wp2
 go_ret;exact⟨_,m,_,rfl,o,aim d,p⟩
def aiT:aga 32 false:=by
 intro w b d;have g:=af_ (w:=w) b;go_in;go_wp;refine g.mono ?_;rintro e w1⟨m,rfl,o,p⟩
 go_wp2
 go_ret;exact⟨_,m,_,rfl,o,af8 d,p⟩
structure Oe n fn rs:Prop where
 Az:aga fn rs
 cf:∀(args:Array Value)(w:ca),(callFunc fn args).run ja w=.ok (.enter fn args) w
 look:∀{w:ca}{b:Nat},MG pT w b (bF 2 (.func (.func 32) #[] #[])<|bF 1 (.func (.func 30) #[] #[]) [])->(Instr.lookup 61 (Mv b) (Iv n) true).run ja w=.ok (.tuple #[.func (.func fn) #[] #[],.bool true]) w
def ah1:Oe 1 30 true:=⟨aiS,λ_ _=>qkr,λh=>(Km h).1⟩
def ah2:Oe 2 32 false:=⟨aiT,λ_ _=>qkr,λh=>(Km h).2⟩
def xC rs s f L R B:=match bq s with
 |.error f'=>f=f'/\L=bs []/\R=bs []/\B=[]|.ok l=>((fQ iy l yx).f.kind≠0/\f=(fQ iy l yx).f/\L=bs []/\R=bs []/\B=[])\/((fQ iy l yx).f.kind=0/\∃F,In.ud rs l (λ_=>ea) (λ_=>ea) ⟨Ty.var,λ_=>False⟩ B F/\f=fF F/\L=fL F/\R=fR F)
def Og(s:BA)(w:ca)(lo:Nat)(u:Value):Prop:=match bq s with
 |.error _=>u=.slice ea 0 0|.ok l=>((fQ iy l yx).f.kind≠0/\u=.slice ea 0 0)\/((fQ iy l yx).f.kind=0/\RowV QD 1 w (λb=>lo<=b) l u)
def aiU rs s w(e:Ending)w':=∃u f L R B va vc,xC rs s f L R B/\Og s w' w.heap.size u/\e=.returned (.tuple #[.agg #[u],mK f L R va B.length vc])/\A_ w' (λb=>w.heap.size<=b) B va vc/\Bq w w'
def aaI w P:A_ w P [] ea 0:=⟨by simp_all[RowV,QBd],br _⟩
def Br(h:Laid w)s(hn:Oe n fn rs):aa ja 15 #[.string s,.int .i64 n] w (aiU rs s w):=by
 obtain⟨X,R⟩:∃X,X=(w.alloc<|Cv #[Lv ea 0 0] 50).alloc (Cv (oo ea 0 0) 38):=⟨_,rfl⟩;have D:Below w.heap.size w X:=by rw[R];exact(bw _).alloc ag _
 have A0:Bx X w.heap.size #[Lv ea 0 0]:=by rw[R];exact(jk w _ _).alloc _
 have Z:Bx X (w.heap.size+1) (oo ea 0 0):=by rw[R];have:=jk (w.alloc<|Cv #[Lv ea 0 0] 50) (oo ea 0 0) 38;simpa using this
 have HC:=Kk (h.af D) s;simp only[oo]at R Z;clear h;go_in;go_wp;rw[<-R];refine HC.mono ?_;rintro e P⟨u,f,rfl,o,t⟩;obtain⟨y,A,m,hu⟩:∃y A n,u=Lv y n A:=by
  cases hr:bq s with
  |error f'=>rw[hr]at t;exact⟨_,_,_,t.2⟩|ok l=>rw[hr]at t;have⟨y,A,cs,e,_⟩:=t.2;exact⟨_,_,_,e⟩
 subst hu;have E:=D.trans<|o.mono D.size;obtain⟨T,C⟩:∃T,T=(P.alloc<|Cv #[Lv y m A] 50).alloc (Cv #[.int .i64 (f.kind:Int),.int .i64 (f.ah:Int),.int .i64 (f.to:Int)] 35):=⟨_,rfl⟩;have d:Below P.heap.size P T:=by rw[C];exact(bw _).alloc ag _
 have G:=E.trans<|d.mono E.size;have A2:=ai<|(A0.below o).below d;have B2:=ai<|(Z.below o).below d;have P2:Bx T P.heap.size #[Lv y m A]:=(by rw[C];exact(jk P _ _).alloc _);have F2:Bx T (P.heap.size+1) #[.int .i64 (f.kind:Int),.int .i64 (f.ah:Int),.int .i64 (f.to:Int)]:=(by rw[C];have:=jk (P.alloc<|Cv #[Lv y m A] 50) #[.int .i64 (f.kind:Int),.int .i64 (f.ah:Int),.int .i64 (f.to:Int)] 35;simpa using this);have N:=ai C;have ajz:=ai d;have hz1:=E.size;have hz0:=Z.z;have hz2:=o.size;unfold xN;by_cases hk:f.kind=0
 .cases hr:bq s with
  |error f'=>
   rw[hr]at t;obtain⟨rfl,_⟩:=t;have:=(sU hr).1;omega
  |ok l=>
  rw[hr]at t;obtain⟨hf,Q⟩:=t;have e0:((f.kind:Nat):Int)=0:=ae;rw[e0]at N F2;have hs:¬400<s.size:=λc=>by simp[bq,c]at hr
  have O:(fQ iy l yx).f.kind=0:=by rw[<-hf];exact hk
  have a0:=PI.init hs hr O rs (λ_=>False) (cnt:=0) ae;have f0:=(PG.init hs hr O).2;have hl:=(Ai hr).2;obtain⟨nl,g0⟩:∃nl,Hid<|nl=l.flatMap dNm:=⟨_,ai rfl⟩;rw[<-uh g0]at a0 f0;have b0:Hid (RowV QD 1 T (λb=>X.heap.size<=b/\b<P.heap.size) l<|Lv y m A):=ai<|Q.move bO d.size (λb _ z=>d.block b z)<|λb p z=>⟨p,z⟩;have hzw:=d.size;have hcf:=hn.cf;clear HC D o d E A0 Z C R Q hf hs;go_wp2_with fail;rw[<-uh N];refine Ux.mono ?_;rintro e Y⟨rfl,U,m2⟩;have hlk:=hn.look m2;have A3:=A2.below U;have B3:=B2.below U;have P3:=ai<|P2.below U;have c0:=(b0.move bO U.size (λb _ z=>U.block b z)<|λb p z=>p);have z2:=U.size;clear m2 A2 B2 P2 F2 b0 N;have⟨p1,p2,p3⟩:=uh P3
  go_wp2
  go_region_with(first
   |(go_at_call 23;go_loud(refine HIN.mono ?_);rintro e w4⟨B,F,I,J,g,rfl,V,d0⟩;have K:Below Y.heap.size w3 w4:=d0;have A4:=(A3.below K3).same K.size<|K.block _ ae;have B4:=(B3.below K3).same K.size<|K.block _ ae;have P4:=(P3.below K3).same K.size<|K.block _ ae;have h0:=ai A4;have i0:=ai B4;have j0:=ai g;have k0:=ai V;have K4:=ai K;obtain⟨a1,a2,a3⟩:=A4;obtain⟨b1,b2,b3⟩:=B4;obtain⟨c1,c2,c3⟩:=P4;clear g V K d0 HIN;unfold mK)
   |(refine(hn.Az _ nl ae).mono ?_;rintro e w3⟨ty,eb,S,rfl,k3,V,S3⟩;have g:Below Y.heap.size Y w3:=(Below.refl Y.heap.size Y).drew.trans k3;have HIN:=ai (acW V (c0.move bO g.size (λb _ z=>g.block b z) (λb p z=>by have:=p.2;show b<Y.heap.size;omega)) hl g.size (br _) S3 a0);have P5:=P3.below g;have K3:=ai g;have z3:=g.size;obtain⟨d1,d2,d3⟩:=P5;clear k3 g V S3))
  all_goals(
   go_wp2_with fail;have k3:=uh K3;have K:=uh K4;have g:=k3.trans K;have z4:=K.size;have d0:=(G.trans<|U.mono G.size).trans (g.mono (by have:=G.size;omega));have⟨c5,f5,z5⟩:=(i0.nQ (b2:=w.heap.size) ae 0<|Lv y m A).SI rfl (.int .i64 ((fF F).kind:Int)) (.int .i64 ((fF F).ah:Int)) (.int .i64 ((fF F).to:Int)) (Sv<|fL F) (Sv<|fR F) (Lv I B.length J) (Lv ea 0 0);have⟨c6,f6,z6⟩:=(h0.qO 0 (Lv y m A) #[Lv y m A] ag ag).adu (b:=w.heap.size+1) ae (.int .i64 ((fF F).kind:Int)) (.int .i64 ((fF F).ah:Int)) (.int .i64 ((fF F).to:Int)) (Sv<|fL F) (Sv<|fR F) (Lv I B.length J)<|Lv ea 0 0;refine bodyPost_ret (v:=.tuple #[Av #[Lv y m A],mK (fF F) (fL F) (fR F) I B.length J]) (by simp[results,Tryz.results15,go_sem,mK,c5,c6]) rfl ?_;have V:=Sl ((Fr.refl (λb=>b=w.heap.size\/b=w.heap.size+1) w4).set (b:=w.heap.size) (ji<|ji rfl) 0<|Lv y m A) (b:=w.heap.size+1) (ji<|jj rfl) (.int .i64 ((fF F).kind:Int)) (.int .i64 ((fF F).ah:Int)) (.int .i64 ((fF F).to:Int)) (Sv<|fL F) (Sv<|fR F) (Lv I B.length J)<|Lv ea 0 0;refine⟨Lv y m A,fF F,fL F,fR F,B,I,J,?_,?_,rfl,?_,Fr.yz d0 d0.size V (λx q=>by obtain rfl|rfl:=q<;>omega)⟩
   .unfold xC;rw[hr];exact jj ⟨O,F,j0,rfl,rfl,rfl⟩
   .unfold Og;rw[hr];exact jj ⟨O,c0.move bO (jm g.size V.size) (λb p z=>(V.block b ae (λq=>by have:=p.1;obtain rfl|rfl:=q<;>omega)).trans<|g.block b z) (λb p z=>by have:=p.1;show w.heap.size<=b;omega)⟩
   .exact k0.move V.size (λb p z=>V.block b z (λq=>by have p:w3.heap.size<=b:=p;obtain rfl|rfl:=q<;>omega)) (λb p _=>by have p:w3.heap.size<=b:=p;show w.heap.size<=b;omega))
 .have hk':((f.kind:Int)==0)=false:=bQ
  have g:xC rs s f (bs []) (bs []) []/\∀W,Og s W w.heap.size<|Lv ea 0 0:=(by
   unfold xC Og
   cases hr:bq s with
   |error f'=>
    rw[hr]at t;obtain⟨rfl,_⟩:=t;exact⟨⟨rfl,rfl,rfl,rfl⟩,λ_=>rfl⟩
   |ok l=>
    rw[hr]at t;obtain⟨rfl,_⟩:=t
    exact⟨ji ⟨hk,rfl,rfl,rfl,rfl⟩,λ_=>ji ⟨hk,rfl⟩⟩)
  clear HC D o d E A0 Z C R hk t;go_wp2_with fail;rw[<-uh N];have⟨c1,f1,z1⟩:=uh A2;have⟨c2,f2,z2⟩:=uh B2;obtain⟨c3,f3,z3⟩:=P2;obtain⟨c4,f4,z4⟩:=F2;go_region;go_wp2_with fail;have⟨c5,f5,z5⟩:=((B2.nQ (b2:=w.heap.size) ae 0<|Lv ea 0 0).SI rfl (.int .i64 (f.kind:Int)) (.int .i64 (f.ah:Int)) (.int .i64 (f.to:Int)) (Sv ⟨#[]⟩) (Sv ⟨#[]⟩) (Lv ea 0 0) (Lv ea 0 0)).lS;have⟨c6,f6,z6⟩:=((A2.qO 0 (Lv ea 0 0) #[Lv ea 0 0] ag ag).adu (b:=w.heap.size+1) ae (.int .i64 (f.kind:Int)) (.int .i64 (f.ah:Int)) (.int .i64 (f.to:Int)) (Sv ⟨#[]⟩) (Sv ⟨#[]⟩) (Lv ea 0 0)<|Lv ea 0 0).lS;refine bodyPost_ret (v:=.tuple #[Av #[Lv ea 0 0],Av #[.int .i64 (f.kind:Int),.int .i64 (f.ah:Int),.int .i64 (f.to:Int),Sv ⟨#[]⟩,Sv ⟨#[]⟩,Lv ea 0 0,Lv ea 0 0]]) (by simp[results,Tryz.results15,go_sem,c5,c6]) rfl ?_;have V:=Sl ((Fr.refl (λb=>b=w.heap.size\/b=w.heap.size+1) T).set (b:=w.heap.size) (ji<|ji rfl) 0<|Lv ea 0 0) (b:=w.heap.size+1) (ji<|jj rfl) (.int .i64 (f.kind:Int)) (.int .i64 (f.ah:Int)) (.int .i64 (f.to:Int)) (Sv ⟨#[]⟩) (Sv ⟨#[]⟩) (Lv ea 0 0)<|Lv ea 0 0;exact⟨Lv ea 0 0,f,bs [],bs [],[],ea,0,g.1,g.2 _,rfl,aaI _ _,(Fr.yz G G.size V (λx q=>by obtain rfl|rfl:=q<;>omega)).drew⟩
def aiV rs s w(e:Ending)w':=∃f L R B va vc,xC rs s f L R B/\e=.returned (mK f L R va B.length vc)/\A_ w' (λb=>w.heap.size<=b) B va vc/\Bq w w'
def Og.slice{w}{lo}{u}(h:Og s w lo u):∃va n vc,u=.slice va n vc:=by
 rw[Og]at h
 cases hr:bq s with
 |error f=>grind|ok l=>
  rw[hr]at h;obtain⟨_,h⟩|⟨_,va,vc,cs,e,_⟩:=h
  .grind
  .grind
def acX(h:Laid w)s(X:Oe n fn rs):aa ja 7 #[.string s,Iv n] w (aiV rs s w):=by
 obtain⟨t,C⟩:∃t,t=w.alloc (Cv #[Iv 0,Iv 0,Iv 0,Sv ⟨#[]⟩,Sv ⟨#[]⟩,Lv ea 0 0,Lv ea 0 0] 38):=⟨_,rfl⟩;have D:Bq w t:=by rw[C];exact bw _
 have G:Bx t w.heap.size #[Iv 0,Iv 0,Iv 0,Sv ⟨#[]⟩,Sv ⟨#[]⟩,Lv ea 0 0,Lv ea 0 0]:=by rw[C];exact jk _ _ _
 have O:=Br (h.af D) s X;go_in;go_wp;rw[<-C];refine O.mono ?_;rintro e y⟨u,f,L,R,B,d,g,P,Q,rfl,S,I⟩;obtain⟨J,pn,K,rfl⟩:=Q.slice;rw[mK];obtain⟨A,m⟩:∃A,A=(y.alloc<|Cv #[Lv J pn K] 50).alloc (Cv #[Nv f.kind,Nv f.ah,Nv f.to,Sv L,Sv R,Lv d B.length g,Lv ea 0 0] 38):=⟨_,rfl⟩;have E:Bq y A:=by rw[m];exact(bw _).alloc ag _
 have o:=I.trans<|E.mono I.size;have F:=D.trans<|o.mono D.size;have N:=ai<|G.below o;have T:Bx A (y.heap.size+1) #[Nv f.kind,Nv f.ah,Nv f.to,Sv L,Sv R,Lv d B.length g,Lv ea 0 0]:=(by rw[m];have:=jk (y.alloc<|Cv #[Lv J pn K] 50) #[Nv f.kind,Nv f.ah,Nv f.to,Sv L,Sv R,Lv d B.length g,Lv ea 0 0] 38;simpa using this);have U:=(S.move E.size (λb _ z=>E.block b z) (λb p _=>by have:=G.z;have p:t.heap.size<=b:=p;show w.heap.size+1<=b;omega));have z0:=F.size;subst m;have⟨x1,x2,x3⟩:=uh N;obtain⟨y1,y2,y3⟩:=T;go_wp2_with fail;have⟨V,p2,p3⟩:=N.SI rfl (Nv f.kind) (Nv f.ah) (Nv f.to) (Sv L) (Sv R) (Lv d B.length g) (Lv ea 0 0);refine bodyPost_ret (v:=mK f L R d B.length g) (by simp[results,Tryz.results7,go_sem,mK,V]) rfl ?_;have o:=λW:ca=>Sl (Fr.refl (λb=>b=w.heap.size) W) (b:=w.heap.size) (ji rfl) (Nv f.kind) (Nv f.ah) (Nv f.to) (Sv L) (Sv R) (Lv d B.length g)<|Lv ea 0 0;exact⟨f,L,R,B,d,g,P,rfl,U.move (o _).size (λb p z=>(o _).block b z (λq=>by have p:w.heap.size+1<=b:=p;have q:b=w.heap.size:=q;omega)) (λb p _=>by have p:w.heap.size+1<=b:=p;show w.heap.size<=b;omega),Fr.yz F F.size (o _) (λx q=>by subst q;exact br _)⟩
def wB(B:List (BA×Ty)):List (BA×BA):=B.map λp=>(p.1,bs<|wr dec (vars [] p.2) p.2 0)
def ah3{b:List (BA×Ty)}(h:In.th dec b=In.th dec B):wB b=wB B:=by
 have e:∀B:List (BA×Ty),wB B=(In.th dec B).map λp=>(p.1,bs p.2):=λB=>by simp[wB,In.th,Un.written]
 rw[e,e,h]
def agb{d}(h:D3 d):In.DcK d:=by
 cases d with
 |ty t vs ms=>
  intro m e;obtain⟨s,L,f,u,a,rfl,_⟩:=h.2.2.2.2 m e;rfl
 |lt r t b=>trivial
def FtR.rep{z z'}(h:In.FtR pl z z'):z'.f.kind=z.f.kind/\(pl->z'.f=z.f)/\SC z'=SC z/\SF z'=SF z:=by
 have b:=h.texts dec;unfold In.RL In.Fo at b;unfold SC SF;rw[<-h.1];refine⟨rfl,λp=>(h.2.1 p).symm,?_,?_⟩
 .grind
 .grind
def aaJ{F F'}(h:In.afG pl F F'):(fF F').kind=(fF F).kind/\(pl->fF F'=fF F)/\fL F'=fL F/\fR F'=fR F:=by
 cases F with
 |none=>
  cases F' with
  |none=>grind|some z=>exact h.elim
 |some z=>
  cases F' with
  |none=>exact h.elim|some z'=>exact FtR.rep h
def acY{P}{va:Option Addr}{vc:Nat}(h:A_ w P B va vc):Bl w (wB B) (.slice va B.length vc):=by
 obtain⟨⟨va,vc,cs,e,p,t⟩,b⟩:=h;simp only[Value.slice.injEq,true_and]at e;obtain⟨rfl,rfl⟩:=e;have d:(wB B).length=B.length:=by simp[wB]
 refine⟨_,_,by rw[d],by rw[d];exact b,?_⟩;obtain rfl|⟨g,rfl,_,u,hc⟩:=p
 .exact ji rfl
 .refine jj ⟨g,rfl,u,λi hi=>?_⟩;rw[d]at hi;have⟨v,x⟩:=t i hi;have m:=hc i hi 0 aD;have o:=hc i hi 1 aD;rw[v]at m;rw[x]at o;refine⟨?_,?_⟩
  .rw[Nat.add_zero]at m;rw[m];simp[wB]
  .rw[o];simp[wB]
def AM{rs:Bool}:∀{l:List Dc}{mk:In.Mks}{Γ:In.Env}{s:In.St}{B:List (BA×Ty)}{F:Option In.Ft},In.ud rs l mk Γ s B F->B.length<=l.length
 |[],_,_,_,_,_,h=>by rw[h.1];exact br _|.ty t vs ms::r,_,_,_,_,_,h=>Nat.le_succ_of_le (AM (l:=r) h)|.lt rc t b::r,_,_,_,_,_,h=>by
  obtain⟨o,_,d⟩:=h
  cases o with
  |error x=>rw[d.1];exact jl _|ok p=>
   obtain⟨_,rfl,_⟩|⟨_,T,B',_,rfl,e⟩:=d
   .exact jl _
   .exact Nat.succ_le_succ (AM (l:=r) e)
def xC.len{L R:BA}(h:xC rs s f L R B):(wB B).length<=1000000:=by
 have e:(wB B).length=B.length:=by simp[wB]
 rw[e];rw[xC]at h
 cases hr:bq s with
 |error e=>grind|ok l=>
  rw[hr]at h;obtain⟨_,_,_,_,rfl⟩|⟨_,F,q,_⟩:=h
  .exact jl _
  .have:=AM q;have:=(Ai hr).2;omega
def tF s k i j l r L:=∃rs f B,xC rs s f l r B/\k=(f.kind:Int)/\i=(f.ah:Int)/\j=(f.to:Int)/\L=wB B
def tF.len{s}{k i j}{l r}{L}(h:tF s k i j l r L):L.length<=1000000:=by
 obtain⟨rs,f,B,h,rfl,rfl,rfl,rfl⟩:=h;exact h.len
def aaK:List (BA×BA):=[(⟨#[107]⟩,⟨#[39,118,48,32,45,62,32,39,118,49,32,45,62,32,39,118,48]⟩),(⟨#[97]⟩,⟨#[85,110,105,116,32,45,62,32,73,110,116]⟩)]
def tF.fix(h:tF U8 k i j l r L):k=0/\i=0/\j=0/\l=⟨#[]⟩/\r=⟨#[]⟩/\L=aaK:=by
 obtain⟨rs,f,B,h,rfl,rfl,rfl,rfl⟩:=h;rw[xC]at h;rw[aaC]at h;simp only at h;obtain⟨b,_⟩|⟨_,F,q,rfl,rfl,rfl⟩:=h
 .rw[U9]at b;exact absurd rfl b
 .obtain⟨rfl,d⟩:=In.acP q;refine⟨rfl,rfl,rfl,rfl,rfl,?_⟩;have e:wB B=(B.map λp=>(p.1,Un.written dec p.2)).map λp=>(p.1,bs p.2):=by simp[wB,Un.written]
  rw[e,d];rfl
def lq(v:Laid w)s(x:Oe n fn rs):aa ja 7 #[.string s,Iv n] w λe w'=>∃k i j l r u L m c,e=.returned (.agg #[Iv k,Iv i,Iv j,.string l,.string r,.slice u m c,.slice ea 0 0])/\tF s k i j l r L/\Bl w' L (.slice u m c)/\Bq w w':=
 (acX v s x).mono λe w' q=>by
  obtain⟨f,L,R,B,b,d,g,o,p,t⟩:=q;exact⟨_,_,_,L,R,b,_,_,d,o,⟨rs,f,B,g,rfl,rfl,rfl,rfl⟩,acY p,t⟩
def aaL(hL:Laid w):aa ja 4 #[] w λe w'=>e=.returned (.bool true)/\Bq w w':=by
 obtain⟨p,C⟩:∃p,p=(w.alloc<|Cv #[Sv ⟨#[107]⟩,Sv ⟨#[39,118,48,32,45,62,32,39,118,49,32,45,62,32,39,118,48]⟩,Sv ⟨#[97]⟩,Sv ⟨#[85,110,105,116,32,45,62,32,73,110,116]⟩] 31).alloc (Cv #[Iv 0,Iv 0,Iv 0,Sv ⟨#[]⟩,Sv ⟨#[]⟩,Lv (some ⟨w.heap.size,0,ea⟩) 2 2,Lv ea 0 0] 38):=⟨_,rfl⟩;have F:Bq w p:=by rw[C];exact(bw _).alloc ag _
 have t:Bx p w.heap.size #[Sv ⟨#[107]⟩,Sv ⟨#[39,118,48,32,45,62,32,39,118,49,32,45,62,32,39,118,48]⟩,Sv ⟨#[97]⟩,Sv ⟨#[85,110,105,116,32,45,62,32,73,110,116]⟩]:=by rw[C];exact(jk w _ _).alloc _
 have HB:Bx p (w.heap.size+1) #[Iv 0,Iv 0,Iv 0,Sv ⟨#[]⟩,Sv ⟨#[]⟩,Lv (some ⟨w.heap.size,0,ea⟩) 2 2,Lv ea 0 0]:=by rw[C];have:=jk (w.alloc<|Cv #[Sv ⟨#[107]⟩,Sv ⟨#[39,118,48,32,45,62,32,39,118,49,32,45,62,32,39,118,48]⟩,Sv ⟨#[97]⟩,Sv ⟨#[85,110,105,116,32,45,62,32,73,110,116]⟩] 31) #[Iv 0,Iv 0,Iv 0,Sv ⟨#[]⟩,Sv ⟨#[]⟩,Lv (some ⟨w.heap.size,0,ea⟩) 2 2,Lv ea 0 0] 38;simpa using this
 have HR:Bl p aaK (Lv (some ⟨w.heap.size,0,ea⟩) 2 2):=by
  refine⟨_,2,rfl,br _,jj ⟨_,rfl,t.z,λi hi=>?_⟩⟩;have hi:i=0\/i=1:=by simp[aaK]at hi;omega
  obtain rfl|rfl:=hi
  .exact⟨by rw[t.c];rfl,by rw[t.c];rfl⟩
  .exact⟨by rw[t.c];rfl,by rw[t.c];rfl⟩
 have Y:=lq (hL.af F) U8 ah1;simp only[U8]at Y;go_in;go_wp;rw[<-C];refine Y.mono ?_;rintro e G⟨k,i,j,l,r,u,L,m,c,rfl,I,J,b⟩;obtain⟨rfl,rfl,rfl,rfl,rfl,rfl⟩:=tF.fix I;obtain⟨D,g⟩:∃D,D=G.alloc (Cv #[Iv 0,Iv 0,Iv 0,Sv ⟨#[]⟩,Sv ⟨#[]⟩,Lv u m c,Lv ea 0 0] 38):=⟨_,rfl⟩;have Z:Bq G D:=by rw[g];exact bw _
 have d:=b.trans<|Z.mono b.size;have K:=F.trans<|d.mono F.size;have N:=HR.af d;have O:=HB.below d;have P:=J.af Z;have Q:Bx D G.heap.size #[Iv 0,Iv 0,Iv 0,Sv ⟨#[]⟩,Sv ⟨#[]⟩,Lv u m c,Lv ea 0 0]:=(by rw[g];exact jk _ _ _);have v:=lq (hL.af K) U8 ah2;simp only[U8]at v;go_wp2_with fail;rw[<-g];refine v.mono ?_;rintro e R⟨k,i,j,l,r,u2,L,m2,c2,rfl,I,J,b⟩;obtain⟨rfl,rfl,rfl,rfl,rfl,rfl⟩:=tF.fix I;obtain⟨E,o⟩:∃E,E=R.alloc (Cv #[Iv 0,Iv 0,Iv 0,Sv ⟨#[]⟩,Sv ⟨#[]⟩,Lv u2 m2 c2,Lv ea 0 0] 38):=⟨_,rfl⟩;have k2:Bq R E:=by rw[o];exact bw _
 have d:=b.trans<|k2.mono b.size;have K2:=K.trans<|d.mono K.size;have x:=N.af d;have y:=ai<|O.below d;have S:=P.af d;have T:=Q.below d;have U:=J.af k2;have V:Bx E R.heap.size #[Iv 0,Iv 0,Iv 0,Sv ⟨#[]⟩,Sv ⟨#[]⟩,Lv u2 m2 c2,Lv ea 0 0]:=(by rw[o];exact jk _ _ _);subst o;have HS:=sX (k:=0) (i:=0) (j:=0) (l:=⟨#[]⟩) (r:=⟨#[]⟩) S x aD;simp only[rpt]at HS;have⟨x1,x2,x3⟩:=uh y;obtain⟨y1,y2,y3⟩:=T;go_wp2_with fail;refine HS.mono ?_;rintro e w3⟨rfl,b⟩;have K3:=K2.trans<|b.mono K2.size;have W:=ai<|y.below b;have X:=V.below b;have A:=sX (k:=0) (i:=0) (j:=0) (l:=⟨#[]⟩) (r:=⟨#[]⟩) (U.af b) (x.af b) aD;simp only[rpt]at A;have⟨x1,x2,x3⟩:=uh W;obtain⟨y1,y2,y3⟩:=X;go_wp2_with fail;refine A.mono ?_;rintro e w4⟨rfl,b⟩;have K4:=K3.trans<|b.mono K3.size
 go_wp2
 go_ret;exact⟨rfl,K4⟩
def So:∀{l e:List Dc},e.map eD=l.map eD->dL (In.DcE False) l e
 |[],[],_=>.nil|d::l,d'::e,h=>by
  simp only[List.map_cons,List.cons.injEq]at h;refine .cons ?_<|So h.2;have h:=h.1
  cases d with
  |ty t vs ms=>
   cases d' with
   |lt q t b=>cases h|ty t' vs' ms'=>
    simp only[eD,Dc.ty.injEq,Uo,Pu.Tok.mk.injEq,true_and,and_true]at h;refine .ty _ _ _ _ _ _ h.1.symm ?_ h.2.2.symm;have:=congrArg (List.map λv:Pu.Tok=>v.text) h.2.1;simpa[Function.comp_def]using this.symm
  |lt q t b=>
   cases d' with
   |ty t vs ms=>cases h|lt q' t' b'=>
    simp only[eD,Dc.lt.injEq,Uo,Pu.Tok.mk.injEq,true_and,and_true]at h;obtain⟨rfl,g,m⟩:=h;exact .lt _ _ _ _ _ g.symm (λq=>q.elim) ⟨m.symm,λq=>q.elim⟩
def tF.re{p:List Dc}(t:bq s=.ok p)(J:(ru [] p).length<=400){v K N:Int}{x y:BA}{z:List (BA×BA)}(h:tF s k i j l r L)(b:tF (bs<|ru [] p) v K N x y z):v=k/\x=l/\y=r/\z=L:=by
 obtain⟨rs,f,B,h,rfl,rfl,rfl,rfl⟩:=h;obtain⟨rs',f',B',b,rfl,rfl,rfl,rfl⟩:=b;have⟨u,_⟩:=z_ t;have⟨p',m,e⟩:=afB u J;have o:=NI t m e;rw[xC]at h b;rw[t]at h;rw[m]at b;simp only at h b;obtain⟨g,rfl,rfl,rfl,rfl⟩|⟨g,F,q,rfl,rfl,rfl⟩:=h
 .obtain⟨g',rfl,rfl,rfl,rfl⟩|⟨g',_⟩:=b
  .exact⟨by rw[o],rfl,rfl,rfl⟩
  .exact absurd (o▸g') g
 .obtain⟨g',_⟩|⟨g',F',A,rfl,rfl,rfl⟩:=b
  .exact absurd (o.trans g) g'
  .have⟨C,D⟩:=In.ZI dec (So e) (λd hd=>agb<|u d hd) _ q A;have⟨E,_,G,I⟩:=aaJ D;exact⟨by rw[E],G,I,ah3 C⟩
def tF.err(b:bq s=.error f)(h:tF s k i j l r L):k=(f.kind:Int)/\i=(f.ah:Int)/\j=(f.to:Int)/\L=[]:=by
 obtain⟨rs,f,B,h,rfl,rfl,rfl,rfl⟩:=h;rw[xC]at h;rw[b]at h;obtain⟨rfl,_,_,rfl⟩:=h;exact⟨rfl,rfl,rfl,rfl⟩
def aaM n(b: -9223372036854775808<=n)(d:n<=9223372036854775807):aa ja 10 #[Iv n] w λe w'=>∃m fn rs,e=.returned (Iv m)/\Oe m fn rs/\w'=w:=by
 go_in;go_wp;refine(Zt n 2 b d aD aD).mono ?_;rintro e w'⟨r,rfl,q0,q1,rfl⟩;obtain rfl|rfl:r=0\/r=1:=ae
 .go_wp2
  go_ret;exact⟨1,_,_,rfl,ah1,rfl⟩
 .go_wp2
  go_ret;exact⟨2,_,_,rfl,ah2,rfl⟩
def Oh(m:Laid w)(b:P10 w){z:List UInt8}(h:qI s=(z,f)):aa ja 9 #[.string s] w λe w'=>e=.returned (.tuple #[.string<|bs z,xN f])/\Bq w w':=
 (afh b m s (λl hl=>(z_ hl).2) (λf hf=>by have:=(sU hf).1;omega)).mono λe w' q=>by
  obtain⟨d,g⟩:=q;rw[h]at d;exact⟨d,g⟩
def Vc(hL:Laid w)(U:P10 w)(s:BA)(n:Int)(h0: -9223372036854775808<=n)(h1:n<=9223372036854775807):aa ja 5 #[.string s,Iv n] w λe w'=>e=.returned (.bool true)/\Bq w w':=by
 obtain⟨z,f,Z⟩:∃z f,qI s=(z,f):=⟨_,_,rfl⟩;have HS:=Oh hL U Z;have D:=ai hL;have g:=ai Z;have E:Hid (∀W:ca,aa Tryz.prog 10 #[Iv n] W λe w'=>∃m fn rs,e=Rv (Iv m)/\Oe m fn rs/\w'=W):=ai<|λW=>aaM n h0 h1;clear hL U h0 h1 Z;go_in;go_wp;refine HS.mono ?_;rintro e w1⟨rfl,d⟩;rw[xN];have F:Bq w (w1.alloc<|Cv #[Nv f.kind,Nv f.ah,Nv f.to] 35):=d.alloc d.size _;have B1:=ai<|Bx.new w1 #[Nv f.kind,Nv f.ah,Nv f.to] 35;clear HS d;go_wp2_with fail;refine(uh E _).mono ?_;rintro e w'⟨m,fn,rs,rfl,hn,rfl⟩;have G:=ai<|lq ((uh D).af F) s hn;go_wp2_with fail;refine(uh G).mono ?_;rintro e v1⟨k,i,j,l,r,u,L,m1,c,rfl,a1,V,d⟩;have lL:=a1.len;have x:Bq w (v1.alloc<|Cv #[Iv k,Iv i,Iv j,Sv l,Sv r,Lv u m1 c,Lv ea 0 0] 38):=(F.trans<|d.mono F.size).alloc (Nat.le_trans F.size d.size) _;have⟨y,X⟩:=nbh v1 #[Iv k,Iv i,Iv j,Sv l,Sv r,Lv u m1 c,Lv ea 0 0] 38;have B2:=ai<|((uh B1).below d).below y;have Y:=ai<|V.af y;have I:=ai a1;clear G B1 d y F a1;have⟨C,J,K⟩:=uh B2;have⟨N,O,P⟩:=uh X
 cases hr:bq s with
 |error f'=>
  obtain⟨rfl,rfl⟩:[]=z/\f'=f:=by have:=uh g;rw[qI]at this;rw[hr]at this;exact Prod.mk.inj this
  obtain⟨rfl,rfl,rfl,rfl⟩:=(uh I).err hr;obtain⟨va,vc,e,_⟩:=V;simp only[Value.slice.injEq,nM]at e;obtain⟨rfl,rfl,rfl⟩:=e;have hk:=(sU hr).1;have hk':((f'.kind:Int)==0)=false:=bQ;have o:=sW (w:=v1.alloc<|Cv #[Nv f'.kind,Nv f'.ah,Nv f'.to,Sv l,Sv r,Lv u 0 c,Lv ea 0 0] 38) (f'.kind:Int) (f'.ah:Int) (f'.to:Int);simp only[ftV]at o;clear Y I g hr E D;go_wp2_with fail;refine o.mono ?_;rintro e w3⟨rfl,b⟩;have t:=x.trans<|b.mono x.size;have⟨c3,f3,z3⟩:=(uh X).below b;clear C J K N O P o b
  go_wp2
  go_ret;exact⟨rfl,t⟩
 |ok p=>
  obtain⟨rfl,rfl⟩:ru [] p=z/\lA=f:=by have:=uh g;rw[qI]at this;rw[hr]at this;exact Prod.mk.inj this
  simp only[lA]at C B2⊢;have t:(bs<|ru [] p).size=(ru [] p).length:=gq _;by_cases hz:400<(ru [] p).length
  .have A:(400:Int)<((bs<|ru [] p).size:Int):=by rw[t];omega
   clear t g I Y E D hr V;generalize bs (ru [] p)=s2 at A⊢
   go_wp2
   go_ret;exact⟨rfl,x⟩
  .have A:decide ((400:Int)<((bs<|ru [] p).size:Int))=false:=by rw[t];simp;omega
   have HX:=ai<|λ(Q i' j':Int)(S T:BA)(L':List (BA×BA))(o:tF (bs<|ru [] p) Q i' j' S T L')=>tF.re hr ae (uh I) o;clear t g I hr V hz;generalize bs (ru [] p)=s2 at A HX⊢;go_wp2_with fail;refine(uh E _).mono ?_;rintro e w'⟨m',fn',rs',rfl,a0,rfl⟩;have R:=ai<|lq ((uh D).af x) s2 a0;go_wp2_with fail;refine(uh R).mono ?_;rintro e v2⟨Q,i',j',S,T,u',L',m2,c',rfl,a2,b3,b⟩;obtain⟨rfl,rfl,rfl,rfl⟩:=uh HX _ _ _ _ _ _ a2;have⟨o,S4⟩:=nbh v2 #[Iv Q,Iv i',Iv j',Sv S,Sv T,Lv u' m2 c',Lv ea 0 0] 38;have K4:=(x.trans<|b.mono x.size).trans<|o.mono<|jm x.size b.size;have R4:=ai<|((uh X).below b).below o;have HB:=ai<|wI (((uh Y).af b).af o) (b3.af o) lL;clear R HX a2 b3 Y b o E D C J K N O P B2 X;have⟨C,J,K⟩:=uh R4;have⟨N,O,P⟩:=uh S4;go_wp2_with fail;refine(uh HB).mono ?_;rintro e w5⟨rfl,v⟩;have K5:=K4.trans<|v.mono K4.size;have R5:=(uh R4).below v;have S5:=(uh S4).below v;clear C J K N O P HB v;obtain⟨C,J,K⟩:=R5;obtain⟨N,O,P⟩:=S5;have q1:(Q==Q)=true:=ag;have q2:(S.toList==S.toList)=true:=ag;have q3:(T.toList==T.toList)=true:=ag
   go_wp2
   go_ret;exact⟨rfl,K5⟩
def Ll(S:Laid w)(G:P10 w)(s:BA){p:Option Addr}{b cap:Nat}{r:Nat->Int}(t:(b:Int)<=9223372036854775807)(X:Raw w p b r)(n:Int)(Y: -9223372036854775808<=n)(Z:n<=9223372036854775807):
 aa ja 3 #[.string s,.slice p b cap,Iv n] w λe w'=>e=.returned (.bool true)/\Bq w w':=by
 have T:=ai<|aaL S;have J:=ai X;have K:Hid (∀W s,Bq w W->aa Tryz.prog 5 #[Sv s,Iv n] W λe w'=>e=Rv (.bool true)/\Bq W w'):=ai<|λW s hb=>Vc (S.af hb) (G.af hb) s n Y Z;clear X S G Y Z;have U:Hid (∀W A(I:Nat),Src W I p b cap r A->aa Tryz.prog 6 #[Pv I] W (adT I p b cap r W)):=ai<|λW A I h=>acS h;go_in;go_wp;refine T.mono ?_;rintro e y⟨rfl,d⟩;have z:Bq y (y.alloc<|Cv #[Lv p b cap,Iv 0] 26):=bw _;have m:=d.trans<|z.mono d.size;have V:Src (y.alloc<|Cv #[Lv p b cap,Iv 0] 26) y.heap.size p b cap r 0:=by
  refine⟨jk y _ _,jl _,t,λi hi=>?_,λi hi=>(J i hi).2⟩;have⟨g,o,e,u,hc⟩:=(J i hi).1;have hz:=d.size;exact⟨g,o,e,bQ,ae,(World.cell?_of_block (a:=⟨g,o+i,ea⟩) (w:=w)<|m.block g u).trans hc⟩
 have C:=ai<|uh K _ s m;have N:=d.size;have D:=ai V;have u:=ai m;clear T V d z m;go_wp2_with fail;refine(uh C).mono ?_;rintro e w3⟨rfl,v⟩;have x:=(uh u).trans<|v.mono (uh u).size;have E:=ai<|U _ 0 _<|(uh D).af v;clear U D C u;go_wp2_with fail;refine E.mono ?_;rintro e w4⟨l,rfl,A3,O,F⟩;have P:Bq w w4:=F.low x x.size N;have Q:=ai<|uh K _ l P;clear E O F v x J t K;go_wp2_with fail;refine(uh Q).mono ?_;rintro e w5⟨rfl,R⟩;have K5:=P.trans<|R.mono P.size
 go_wp2
 go_ret;exact⟨rfl,K5⟩
end
section
open Go.ChangeShapes Go.WideShapes Go.ChangeAt Go.WideMaps Go.WideElems Go.RowKit Go.ChangeMaps
def AO(os:Os)(m:os.Started)(H:Type)(enc:TypeId×Value->H):
 ReturnsInHanded {} jd os 3 .any (λw args=>(Rows.retypedSpec.pre enc ja jc [] false w args/\laidMetH ja Rows.retypedRow.laid w)/\sizedMet enc ja jc (OpenSpec.ofChange Rows.retypedSpec) false w args)
  (Rows.retypedSpec.post enc ja jc false true false false):=by
 refine returnsInHanded_of_change_and (C:=jd) (X:=λw _=>laidMetH ja Rows.retypedRow.laid w) (λ_ _ _ hh h=>h.of_heap hh) own m qkr jh
  (ChangeSpec.witness_shaped (enc:=enc) (C:=jd) (os:=os) (X:=λw _=>laidMetH ja Rows.retypedRow.laid w) false (World.doorLaid ja 72 os) #[.string ⟨#[]⟩,.slice ea 0 0,Iv 0] 8 rfl (World.shaped_of_RefB qkr qkr) qkr qkr qkr (Zs os _)) ?_
 intro W y args R gs before g J _ _ K _;have d:∀(j:Nat)t v,Tryz.f3.params[j]? =some t->args[j]? =some v->Value.okWide ja W .any y t v:=g;have o:=J;obtain⟨p,q,z,S,rfl,hfz,hnd⟩:=J;have N:DataW.TrodAll enc ja W 0 (λ_=>true) true Tryz.f3.params.toList args.toList R p:=z;rw[Tryz.params3]at N d;obtain⟨T,U,V,d0,Y,d2,p0,O,p2,rfl,rfl,rfl,Z,P,h2⟩:=trodAll_three N;obtain⟨rfl,rfl⟩:=trodVars_none S;obtain⟨s,rfl,rfl,rfl,E⟩:=open_string jf (d 0 9 T rfl rfl) Z;obtain⟨a1,F,cap,rfl⟩:=okWide_slice Am<|d 1 22 U rfl rfl;obtain⟨n,rfl,rfl,rfl,Q⟩:=open_int Tryz.underlying3 (d 2 3 V rfl rfl) h2;have G:=P;obtain⟨fuel,hf⟩:=P;clear z g;simp only[List.append_nil,List.nil_append]at o;have I:∀x∈O,x.block<W.heap.size:=λx hx=>by simpa using o.lt x hx
 have u:∀(D:ca),Bq W D->DataW.Trod enc ja D 0 (λb=>decide (b<W.heap.size)) true 22 (.slice a1 F cap) Y O:=
  λD hn=>Below.trod laidOut qkr (of_decide_eq_true qkr) G hn I
 have hn: -9223372036854775808<=n/\n<=9223372036854775807:=by have A:=Q;simp only[Lit.wf,Bool.and_eq_true,decide_eq_true_eq]at A;exact A
 obtain⟨A,r,hS⟩:=Zw (by simpa[Value.cells]using hf);refine(Ll (aco K) (Uy K) s (cap:=cap) A hS n hn.1 hn.2).mono λe D⟨he,hb⟩=>?_;subst he;exact⟨_,rfl,_,_,_,[],_,[],o,trodAll_mk1<|shut_bool Tryz.underlying4 _,trodAll_mk3 (shut_string jf E) (u _ hb)<|shut_int Tryz.underlying3 Q,rfl,hb.frame _,λh=>Pj⟩
end
section
open Go.ChangeShapes Go.WideShapes Go.ChangeAt Go.WideMaps Go.WideElems Go.RowKit
def retyped_named:Tryz.prog.funcNamed "assay/assaykeep.Retyped" =some 3:=qkr
def FY:Tryz.f3.isInstance ja Rows.retypedRow.origin Rows.retypedRow.targs:=of_decide_eq_true qkr
def FZ:Tryz.f3.isWrapper ja Rows.retypedRow.wrapper Rows.retypedRow.mainSum:=by
 rw[Func.isWrapper];first|(rw[if_pos<|by decide+kernel];kernel_rfl)|(rw[if_neg<|by decide+kernel];exact⟨rfl,rfl⟩)
def retyped_row:Rows.RetypedSaid:=
 OpenClaim.holds_of_wide 3 jc rfl rfl rfl rfl rfl rfl rfl ⟨rfl,rfl,rfl,rfl,rfl⟩ rfl rfl rfl rfl rfl retyped_named jh Ay FY FZ
  (λos started H enc _=>AO os started H enc)
#print axioms retyped_row
end
def Bs:([9,22,3].all λu=> !Tryz.prog.wantsStandIn u)=true:=qkr
theorem retyped_holds:Rows.RetypedCardSaid:=
 Claim7.holds_tied_plain_at .later [] [.data,.data,.data,.sentinel,.sentinel,.data,.data] true Rows.retypedCard.stood.harness true
  retyped_row (λ_ h=>Pj) IL (λ_ h=>Pj) retyped_row_tie rfl ⟨rfl,rfl⟩ Th rfl
  (λf fn hf hfn=>by
   obtain rfl:f=3:=(Option.some.inj<|retyped_named.symm.trans hf).symm;obtain rfl:fn=jc:=(Option.some.inj<|Tryz.func3.symm.trans hfn).symm
   exact⟨Mf,λj t ht=>by
    rw[Tryz.params3]at ht;have b:t∈[9,22,3]:=by simpa using Array.mem_of_getElem? ht
    exact(show Tryz.prog.wantsStandIn t=false by simpa using List.all_eq_true.1 Bs t b)⟩)
  Ek
#print axioms retyped_holds
end Go.Proofs.YtonaidfgokhmoaaGreatDoor

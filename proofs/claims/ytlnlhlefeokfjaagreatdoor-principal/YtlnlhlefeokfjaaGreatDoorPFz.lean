import Derived.Test.YtlnlhlefeokfjaaGreatDoorPMd
import Derived.Test.YtlnlhlefeokfjaaGreatDoorPYb
import Derived.Test.YtlnlhlefeokfjaaGreatDoorPFy
set_option linter.all false
set_option maxRecDepth 100000
set_option maxHeartbeats 8000000
namespace Go.Proofs.YtlnlhlefeokfjaaGreatDoor
open In renaming oQ->ja,Mks->jc,cz->jd,Env->jf,Ft->jh,cH->ji,dv->jj,St->jk,andM->jl,q_->jm
open Go.Value renaming slice->jo,string->jp
open Or renaming inl->jq,inr->jt
open Pu renaming Tok->ju
open Un.Ty renaming var->jv
open Go Go.RowKit Go.ChangeMaps Go.MapKept Un Proofs.Tryz
variable {st:BA} {rs:Bool} {g:f_} {Γ:jf} {mks:jc} {d:In.I7} {s:jk} {x:Int} {B:List (BA×Un.Ty)} {L:List (BA×Value)} {nl:List BA} {ms:List Nd} {vs:List ju} {b base eb f l lo nb t:Nat} {P u:Nat->Prop} {v vm vv:Value} {c:WC} {w w':World}
def lW(a b:jc):jc:=λy=>match a y with
 |some c=>some c|none=>b y
def xE(t:ju)(vs:List ju)(mk:jc):∀(ms:List Nd)(a:jc),ja t vs ms (lW a mk)=lW (ja t vs ms a) mk
 |[],_=>rfl|m::r,a=>by
  show ja t vs r _=lW (ja t vs r _) mk;rw[<-xE t vs mk r];congr 1;funext y;unfold lW;by_cases q:y=In.Ac m
  .simp[q]
  .simp[q]
def Ah(t:ju)(vs:List ju)mk ms:ja t vs ms mk=lW (ja t vs ms λ_=>none) mk:=xE t vs mk ms λ_=>none
open Classical in
noncomputable def ovM (U6 m1:jc) (done:List BA) (x:BA):Option (List Ty×Ty):=if x∈done then lW U6 m1 x else m1 x
def agL P b1 b2 m1 U6 L w gk wr:=
 ∃done,IG jp wr w.heap.size b2 L done gk/\nh wr P b1 (ovM U6 m1 done)/\Fr (λi=>i=b1) w wr
def QU{b1 b2}{m1 U6}(h1:nh w P b1 m1)(h2:nh w P b2 U6)(hP:¬P b1)(bA:∀x,P x->x<w.heap.size)(hn:b1≠b2):
 Cq 249 #[Mv b1,Mv b2] w λe w'=>e=.returned (.tuple #[])/\nh w' P b1 (lW U6 m1)/\Fr (λi=>i=b1) w w':=by
 have l1:=h1.lt;have l2:=h2.lt;obtain⟨L,m2,q1,q2⟩:=h2;obtain⟨o,cnt,hrg,mw⟩:=m2.range tF;have k1:Bq w (w.alloc o):=bw _;have HI:=ai mw;have H1:=h1.move k1.size (k1.block _ h1.lt) (λb _ z=>k1.block b z)<|λ_ p _=>p;have K1:=ai k1;have Q:=And.intro q1 q2;go_enter func249,ntmps249
 go_wp2
 go_loopg[] cnt (λgk wr=>agL P b1 b2 m1 U6 L w gk wr)
 case atStart=>
  refine⟨[],HI,?_,Fr.of K1⟩;have e:ovM U6 m1 []=m1:=by funext x;simp[ovM]
  rw[e];exact H1
 case round=>
  obtain⟨done,HI,HE,hF⟩:=hrel;have HF:=ai hF;have Xv:=HI.lt;have zr:=hF.size;rcases HI.next (P:=Tryz.prog) str_inj with⟨ha,ET⟩|⟨x,u,w2,aE,hxd,Qf,ET,IY,IX,yv,fK,hen⟩
  .go_wp2
   go_end0;refine⟨rfl,?_,HF⟩;have e:ovM U6 m1 done=lW U6 m1:=by
    funext y;unfold ovM;by_cases q:y∈done
    .rw[if_pos q]
    .rw[if_neg q];have:U6 y=none:=by
      cases hg:a_ y L with
      |none=>exact Q.1 y hg|some v=>exact absurd (ha _ v hg) q
     simp only[lW,this]
   rw[<-e];exact HE
  .obtain⟨tk,m,EC,hc⟩:=Q.2 x u Qf;have Ce:=yv;have nP:∀i,P i->¬i=w.heap.size:=λi hi e=>by have:=bA i hi;omega
   have E2:=HE.move Ce.size (Ce.block _ HE.lt ae) (λi p z=>Ce.block i z<|nP i p)<|λ_ p _=>p;have c2:=(hc.move (w':=wr) zr (λi p z=>HF.block i z<|λe=>hP<|e▸p)<|λ_ p _=>p).move (w':=w2) (Q:=P) ae (λi p z=>Ce.block i z<|nP i p)<|λ_ p _=>p;obtain⟨sa,sc,ta,xa,rfl,t1,t2⟩:=c2;have sJ:Bq w2 (w2.alloc<|.cells #[.slice sa tk.length sc,.iface ta xa] 396):=bw _;have E3:=E2.move sJ.size (sJ.block _ E2.lt) (λb _ z=>sJ.block b z)<|λ_ p _=>p;have C3:=(W7.move ⟨sa,sc,ta,xa,rfl,t1,t2⟩ sJ.size (λb _ z=>sJ.block b z)<|λ_ p _=>p);have I3:=IY.same (sJ.block b2 ae)<|sJ.block w.heap.size ae;have K3:=ai sJ;go_wp2_with(refine xC rfl _ _ _ (jt rfl) rfl E3 hP C3 x rfl rfl ?_;intro w4 H' O';have S4:=ai H';have O4:=ai O';clear H' O');go_roundg aE
   case measure=>exact IX
   case rel=>
    have o:=uh O4;have k3:=uh K3;have f1:=Ce;refine⟨x::done,I3.same (o.block b2<|Ne.symm hn)<|o.block _ ae,?_,?_⟩
    .have e:ovM U6 m1 (x::done)=λy=>if y=x then some (tk,m)else ovM U6 m1 done y:=by
      funext y;by_cases q:y=x
      .subst q;simp[ovM,lW,EC]
      .simp only[ovM,if_neg q];by_cases r:y∈done
       .rw[if_pos<|List.mem_cons_of_mem _ r,if_pos r]
       .rw[if_neg<|λh=>(List.mem_cons.1 h).elim q r,if_neg r]
     rw[e];exact S4
    .have hF:=uh HF;refine⟨o.os.trans<|k3.os.trans<|f1.os.trans hF.os,o.tape.trans<|k3.tape.trans<|f1.tape.trans hF.tape,o.output.trans<|k3.output.trans<|f1.output.trans hF.output,by rw[o.size];have:=k3.size;omega,λi hi hni=>?_⟩;rw[o.block i hni,k3.block i ae,f1.block i ae ae,hF.block i hi hni]
def MG.ajq{L'}(h:MG jp w b L)(h':MG jp w b L'):L=L':=by
 obtain⟨es,c,h1,h2,_⟩:=h;obtain⟨es',c',h1',UC,_⟩:=h';rw[h1]at h1';injection h1' with h1';injection h1' with e1 e2;subst e1;have e:=h2.symm.trans UC;have:∀(L L':List (BA×Value)),L.map (λp=>(Sv p.1,p.2))=L'.map (λp=>(Sv p.1,p.2))->L=L':=by
  intro L
  induction L with
  |nil=>intro L' e;cases L' with|nil=>rfl|cons=>simp at e
  |cons p r ih=>
   intro L' e
   cases L' with
   |nil=>simp at e|cons p' r'=>
    simp only[List.map_cons,List.cons.injEq,Prod.mk.injEq,Value.string.injEq]at e;rw[ih r' e.2,Prod.ext e.1.1 e.1.2]
 exact this L L' e
def QV{p:Prop}(h:p:=by
 have:=h.bx.c 0;rw[<-e]at this
 exact absurd this (by rw[hM.bE 0];simp)):p:=h
def WE.rm{cnt}(h:WE w c cnt):c.rb≠c.mb/\c.mb≠c.eb/\c.rb≠c.eb:=by
 refine⟨λe=>?_,λe=>?_,λe=>?_⟩
 .have⟨L,m1,g1,_⟩:=h.rs;have⟨L',m2,_,g2⟩:=h.ms;rw[e]at m1;rw[m1.ajq m2]at g1;have⟨tk,m,_,sa,sc,ta,xa,q,_⟩:=g2 _ _ g1
  cases q
 .have⟨L,hM,_⟩:=h.ms;exact QV
 .have⟨L,hM,_⟩:=h.rs;exact QV
def QW{p:Prop}(h:p:=by
 induction h with
 |var n=>exact .var n|aJ c L sa sc vs hc aN hr ih=>
  refine .aJ c L sa sc vs hc ?_ ih;obtain h0|⟨g,h1,h2,h3,h4⟩:=aN
  .exact jq h0
  .by_cases h0:L=[]
   .exact jq h0
   .refine jt ⟨g,h1,⟨h2,λe=>?_⟩,h3,h4⟩;have q:=h4 0<|List.length_pos_iff.2 h0;rw[e,hb]at q
    cases q):p:=h
def dD.tM{t:Ty}(h:dD w P t v)(hb:w.cell? ⟨b,0,none⟩=none):dD w (λi=>P i/\i≠b) t v:=by
 exact QW
def nh.tM{w}{P}{mb b}{mk}(h:nh w P mb mk)(hb:w.cell? ⟨b,0,none⟩=none):nh w (λi=>P i/\i≠b) mb mk:=by
 obtain⟨L,h1,h2,h3⟩:=h;refine⟨L,h1,h2,λk v hk=>?_⟩;obtain⟨tk,m,e,sa,sc,ta,xa,rfl,q1,q2⟩:=h3 k v hk;refine⟨tk,m,e,sa,sc,ta,xa,rfl,?_,q2.tM hb⟩;obtain q1|⟨g,vs,q3,q4,q5,q6⟩:=q1
 .exact jq q1
 .by_cases h0:tk=[]
  .exact jq h0
  .refine jt ⟨g,vs,q3,⟨q4,λe=>?_⟩,q5,λi hi=>⟨(q6 i hi).1,(q6 i hi).2.tM hb⟩⟩;have⟨q7,_⟩:=q6 0<|List.length_pos_iff.2 h0;rw[e,hb]at q7
   cases q7
def cX.tM{t:Ty}(h:cX w P t v)(hb:w.cell? ⟨b,0,none⟩=none):cX w (λi=>P i/\i≠b) t v:=by
 exact QW
def bS.tM{w}{P}{nb b}{Γ}(h:bS w P nb Γ)(hb:w.cell? ⟨b,0,none⟩=none):bS w (λi=>P i/\i≠b) nb Γ:=by
 obtain⟨L,h1,h2,h3⟩:=h;refine⟨L,h1,h2,λk v hk=>?_⟩;obtain⟨d,e,ta,xa,sa,sc,rfl,⟨⟨x',q1,q2⟩,q4⟩,q3⟩:=h3 k v hk;refine⟨d,e,ta,xa,sa,sc,rfl,⟨⟨x',q1.tM hb,q2⟩,q4⟩,?_⟩;obtain q3|⟨g,r1,r2,r3,r4⟩:=q3
 .exact jq q3
 .by_cases h0:d.any=[]
  .exact jq h0
  .refine jt ⟨g,r1,⟨r2,λe=>?_⟩,r3,r4⟩;have r5:=r4 0<|List.length_pos_iff.2 h0;rw[e,hb]at r5
   cases r5
def WT.YT{cnt}{gh}(h:WT w c cnt u Γ)(hn:c.nb≠c.mb)(hf:Fr (λi=>i=c.mb) w w')(hw:WE w' {c with mks:=mks,gh:=gh} cnt):WT w' {c with mks:=mks,gh:=gh} cnt u Γ:=by
 have⟨L,hMG,_⟩:=h.we.ms;exact⟨hw,(h.e.tM<|hMG.bE 0).move hf.size (hf.block _ h.e.lt hn) (λb p z=>hf.block b z p.2)<|λb p _=>p.1,h.n,h.hu,h.top,h.dm⟩
section
variable {cnt:Nat}
abbrev YU(c:WC)(t:ju)(vs:List ju)ms gh:={c with mks:=ja t vs ms c.mks,gh:=gh}
def QX{p:Prop}(h:p:=by
 exact YF (hv.move dF kW.size (λb _ z=>kW.block b z)<|λ_ p _=>p) (hm.move cu kW.size (λb _ z=>kW.block b z)<|λ_ p _=>p) hd):p:=h
def U7(h:WT w c cnt u Γ){t}{f}(hv:RowV QName 3 w P vs vv)(hm:RowV QMaker 6 w P ms vm)(hd:TdF t vs ms):
 Cq 239 #[Pv c.eb,.agg #[Iv f,Iv x,Nv t.aF,Nv t.to,.string t.text,vv,vm]] w (λe w'=>e=.returned (.tuple #[])/\Fr (λi=>i=c.mb) w w'/\WE w' (YU c t vs ms w'.heap.size) cnt):=by
 obtain⟨w0,yn⟩:∃w0,w0=w.alloc (Cv #[Iv f,Iv x,Nv t.aF,Nv t.to,Sv t.text,vv,vm] 125):=⟨_,rfl⟩;have K0:Bq w w0:=by rw[yn];exact bw _
 have BB:Bx w0 w.heap.size #[Iv f,Iv x,Nv t.aF,Nv t.to,Sv t.text,vv,vm]:=by rw[yn];exact Bx.new w #[Iv f,Iv x,Nv t.aF,Nv t.to,Sv t.text,vv,vm] 125
 have WE0:=h.we.af K0;have⟨r1,r2,r3⟩:=h.we.rm;have⟨d1,d2,d3⟩:=h.we.d;have⟨l1,l2,l3,l4,l5⟩:=h.we.l;have zz0:w0.heap.size=w.heap.size+1:=by rw[yn];simp
 have HMK:∀W:World,Bq w0 W->Cq 250 #[Av #[Iv f,Iv x,Nv t.aF,Nv t.to,Sv t.text,vv,vm]] W (λe w'=>∃b,e=Rv (Mv b)/\Bq W w'/\W.heap.size<=b/\nh w' (λi=>W.heap.size<=i) b (ja t vs ms λ_=>none)):=λW hb=>by
  have kW:=K0.trans<|hb.mono K0.size;exact QX
 have HCP:∀(W:World)(b:Nat),Bq w0 W->w0.heap.size<=b->nh W (λi=>w0.heap.size<=i) b (ja t vs ms λ_=>none)->Cq 249 #[Mv c.mb,Mv b] W (λe w'=>e=Rv (.tuple #[])/\nh w' (λi=>i≠c.cb/\i≠c.mb/\i<W.heap.size) c.mb (ja t vs ms c.mks)/\Fr (λi=>i=c.mb) W w'):=λW b hb hz hM=>by
  rw[Ah];have weW:=WE0.af hb;have⟨L,hMG,_⟩:=weW.ms;have zb:=hM.lt;have zs:=hb.size;have h1:nh W (λi=>i≠c.cb/\i≠c.mb/\i<W.heap.size) c.mb c.mks:=(weW.ms.tM<|hMG.bE 0).move (br _) rfl (λ_ _ _=>rfl) (λi p z=>⟨p.1.1,p.2,z⟩);have h2:nh W (λi=>i≠c.cb/\i≠c.mb/\i<W.heap.size) b (ja t vs ms λ_=>none):=hM.move (br _) rfl (λ_ _ _=>rfl) (λi p z=>⟨qBv,qBv,z⟩);exact QU h1 h2 (λq=>q.2.1 rfl) (λi p=>p.2.2) ae
 have f0:=WE0.bx.c 2;have g0:=BB.c 0;have g1:=BB.c 1;have g2:=BB.c 2;have g3:=BB.c 3;have g4:=BB.c 4;have g5:=BB.c 5;have g6:=BB.c 6;obtain⟨pa,pc,cs,rfl,aN,hq⟩:=hv;obtain⟨ma,mc,ds,rfl,ajr,hqm⟩:=hm;have ne1:¬w.heap.size=c.mb:=ae;clear h aN hq ajr hqm;go_enter func239,ntmps239;go_wp2_with fail;rw[<-yn];clear yn
 go_region_held3(λw'=>w'.cell? ⟨c.eb,2,none⟩=some (Mv c.mb)/\w'.cell? ⟨w.heap.size,0,none⟩=some (Iv f)/\w'.cell? ⟨w.heap.size,1,none⟩=some (Iv x)/\w'.cell? ⟨w.heap.size,2,none⟩=some (Nv t.aF)/\w'.cell? ⟨w.heap.size,3,none⟩=some (Nv t.to)/\w'.cell? ⟨w.heap.size,4,none⟩=some (Sv t.text)/\w'.cell? ⟨w.heap.size,5,none⟩=some (Lv pa vs.length pc)/\w'.cell? ⟨w.heap.size,6,none⟩=some (Lv ma ms.length mc)) (first|go_keep|(simp[*])) (first
  |(go_at_call 250;go_loud(refine(HMK _ (Below.refl _ _).drew).mono ?_);rintro e w2⟨b,rfl,k2,z2,hM⟩;have k2':=(Below.refl _ _).drew.trans k2;have B2:=BB.below k2';have s0:w2.cell? ⟨c.eb,2,none⟩=some (Mv c.mb):=(WE0.af k2').bx.c 2;have s1:w2.cell? ⟨w.heap.size,0,none⟩=some (Iv f):=B2.c 0;have s2:w2.cell? ⟨w.heap.size,1,none⟩=some (Iv x):=B2.c 1;have s3:w2.cell? ⟨w.heap.size,2,none⟩=some (Nv t.aF):=B2.c 2;have s4:w2.cell? ⟨w.heap.size,3,none⟩=some (Nv t.to):=B2.c 3;have s5:w2.cell? ⟨w.heap.size,4,none⟩=some (Sv t.text):=B2.c 4;have s6:w2.cell? ⟨w.heap.size,5,none⟩=some (Lv pa vs.length pc):=B2.c 5;have s7:w2.cell? ⟨w.heap.size,6,none⟩=some (Lv ma ms.length mc):=B2.c 6;have K2:=ai k2';have Z2:Hid (w0.heap.size<=b):=ai z2;have M2:Hid (nh w2 (λi=>w0.heap.size<=i) b<|ja t vs ms λ_=>none):=ai hM;clear k2 k2' z2 hM B2)
  |(go_at_call 249;go_loud(refine(HCP _ _ K2 Z2 M2).mono ?_);rintro e w3⟨rfl,hM3,F3⟩;have B3:=(BB.below K2).fr F3 ne1;have t0:w3.cell? ⟨c.eb,2,none⟩=some (Mv c.mb):=((WE0.af K2).bx.fr F3<|Ne.symm r2).c 2;have t1:w3.cell? ⟨w.heap.size,0,none⟩=some (Iv f):=B3.c 0;have t2:w3.cell? ⟨w.heap.size,1,none⟩=some (Iv x):=B3.c 1;have t3:w3.cell? ⟨w.heap.size,2,none⟩=some (Nv t.aF):=B3.c 2;have t4:w3.cell? ⟨w.heap.size,3,none⟩=some (Nv t.to):=B3.c 3;have t5:w3.cell? ⟨w.heap.size,4,none⟩=some (Sv t.text):=B3.c 4;have t6:w3.cell? ⟨w.heap.size,5,none⟩=some (Lv pa vs.length pc):=B3.c 5;have t7:w3.cell? ⟨w.heap.size,6,none⟩=some (Lv ma ms.length mc):=B3.c 6;have M3:=ai hM3;have F3':=ai F3;clear hM3 F3 B3))
 go_wp2
 go_end0;have F3:=uh F3';have k2:=uh K2;have we2:=WE0.af k2;have z3:=F3.size;have z2:=k2.size;refine⟨rfl,(Fr.of<|K0.trans<|k2.mono K0.size).trans F3,⟨we2.bx.fr F3<|Ne.symm r2,we2.ct.fr F3<|Ne.symm d3,we2.rs.same<|F3.block _ we2.rs.lt r1,?_,⟨d1,d2,d3⟩,⟨by show c.eb<w3.heap.size;omega,by show c.cb<w3.heap.size;omega,by show c.rb<w3.heap.size;omega,by show c.mb<w3.heap.size;omega,br _⟩⟩⟩;exact M3.move (br _) rfl (λ_ _ _=>rfl) (λi p _=>⟨p.1,by show i<w3.heap.size;omega⟩)
end
section
variable {cnt:Nat} {Q:Nat->Prop}
def WT.below(h:WT w c cnt u Γ)(hb:Bq w w'):WT w' c cnt u Γ:=⟨h.we.af hb,h.e.move hb.size (hb.block _ h.e.lt) (λb _ z=>hb.block b z)<|λ_ p _=>p,h.n,h.hu,h.top,h.dm⟩
theorem agM{mb}(h:bS w P nb Γ)(k:nh w Q mb mks)(q:Γ st=some d):nb≠mb:=by
 rintro rfl;obtain⟨L,h1,h2,h3⟩:=h;obtain⟨L',k1,k2,k3⟩:=k
 cases h1.ajq k1
 cases hg:a_ st L with
 |none=>grind|some v=>
  obtain⟨_,_,ta,xa,sa,sc,rfl,_⟩:=h3 st v hg;have⟨_,_,_,_,_,_,_,e,_⟩:=k3 st _ hg;simp at e
def rM.all{z}{vl vr}(h:rM w P z vl vr):rM w (λ_=>True) z vl vr:=
 ⟨h.q_,λq=>⟨(h.apart q).1.move (br _) (λ_ _ _=>rfl)<|λ_ _ _=>trivial,(h.apart q).2.move (br _) (λ_ _ _=>rfl)<|λ_ _ _=>trivial⟩,h.k⟩
end
def StW eb lo base nl w cnt(mks:jc)(s:jk)(Γ:jf):=∃(c:WC)(u:Nat->Prop),c.eb=eb/\(lo<=c.cb/\lo<=c.eb/\lo<=c.mb)/\(c.cb<base/\c.eb<base)/\c.mks=mks/\c.nl=nl/\s=⟨jv,u⟩/\c.nb≠c.mb/\WT w c cnt u Γ
theorem alD(hl:nl.length<=1000000):YV 112 eb lo base true nl (StW eb lo base nl):=by
 refine⟨?_,?_,⟨_,λw=>metW_Makers _ w,λ_ _=>qkr,?_⟩,⟨_,λw=>metW_Let _ w,λ_ _=>qkr,?_⟩⟩
 .rintro w w' cnt mks s Γ⟨c,u,h1,h2,h3,h4,h5,h6,h7,h⟩hb;exact⟨c,u,h1,h2,h3,h4,h5,h6,h7,h.below hb⟩
 .rintro w w' cnt mks s Γ b x⟨c,u,h1,h2,h3,h4,h5,h6,h7,h⟩hb hx ho f;exact⟨c,u,h1,h2,h3,h4,h5,h6,h7,h.other ⟨ae,ae⟩ hx ho f⟩
 .rintro w cnt mks s Γ t vs ms f x vv vm⟨c,u,rfl,h2,h3,rfl,rfl,rfl,h7,h⟩hv hm hd;have⟨Lm,hMG,_⟩:=id h.we.ms;refine(U7 h hv hm hd).mono ?_;rintro e w'⟨rfl,hf,hw⟩;refine⟨rfl,.of hf (λb q=>by subst q;exact h2.2.2) (λb y q _ e _=>by subst q;rw[hMG.bE 0]at e;cases e),?_⟩;exact⟨YU c t vs ms w'.heap.size,u,rfl,h2,h3,rfl,rfl,rfl,h7,h.YT h7 hf hw⟩
 .rintro w cnt mks s Γ rc st x v a y dom⟨c,u,rfl,h2,h3,rfl,rfl,rfl,h7,h⟩hp hs hd jA ha hb hm;refine(agN (Q:=(·<lo)) (a:=a) (y:=y) ⟨h,hp,λb q=>by have:b<lo:=q;omega,hs,hd,⟨ha,hb,hl⟩,hm,jA⟩).mono ?_;rintro e w'⟨hf,o,ho,hq⟩;refine⟨.of hf (λb q=>by obtain rfl|rfl:=q;exact h2.1;exact h2.2.1) (λb z q hz _ _=>by obtain rfl|rfl:=q<;>omega),o,ho,?_⟩
  cases o with
  |error z=>
   obtain⟨vl,vr,e1,e2⟩:=hq;exact⟨vl,vr,e1,e2.all⟩
  |ok p=>
   obtain⟨t,s1⟩:=p;obtain⟨z,e1⟩|⟨z,T,ta,xa,aE,Iy,e1,e2,e3,e4,e5,e6⟩:=hq
   .grind
   .refine jt ⟨z,T,ta,xa,aE,e1,e2,(e3.v e4).move (br _) (λ_ _ _=>rfl)<|λ_ _ _=>trivial,ae,{c with nb:=Iy},s1.u,rfl,h2,h3,rfl,rfl,rfl,agM e6.e e6.we.ms (st:=st) (d:=⟨T,vars [] T⟩)<|by simp[jd],e6⟩
section
variable {c:JC} {gb cnt D:Nat} {G:jf}
theorem b_.put{w1}{m}{x:BA}(q:∀y,(G y=none/\a_ y L=none)\/∃d m,G y=some d/\a_ y L=some (nA m)/\Cj g s d m)(h:MG jp w1 gb (bG x (nA m) L))(n:Cj g s d m):b_ w1 gb (jd G x d) g s:=by
 refine⟨_,h,λz=>?_⟩;rw[aO];rw[jd];by_cases e:x=z
 .grind
 .grind
def Ai{T}{cn}{xs}(hq:T=256/\cn=lh/\(∃n:Nat,xs=#[Nv f,Nv t,Nv n])\/T=259/\cn=gS/\(∃n:Bool,xs=#[Nv f,Nv t,.bool n])\/T=309/\cn=jC/\xs=#[Nv f,Nv t])(aj:AJ w c nb l cnt g s)(en:b_ w gb G g s)(hl:l<aL)(hc:cnt+1<=900000):Cq 327 #[nA c.eb,Mv gb,.iface T<|.agg xs] w (qU c nb l gb 1000 (ji (.aJ cn [],G)) g s cnt w):=by
 have hu:oA cn:=by obtain⟨-,rfl,-⟩|⟨-,rfl,-⟩|⟨-,rfl,-⟩:=hq;exact Fo;exact qA;exact tj
 have k0:Bq w (w.alloc<|Cv xs T):=bw _;have H1:=agK (aj.af k0) hu hc;have N0:=mF.start (gb:=gb) (aj.af k0)<|ji (Ty.aJ cn [],G);have EN:=en.af k0;have K0:=ai k0;obtain⟨rfl,rfl,n,rfl⟩|⟨rfl,rfl,n,rfl⟩|⟨rfl,rfl,rfl⟩:=hq;all_goals
  go_enter func327,ntmps327;go_wp2_with fail;first|refine QF.mono ?_|refine vd.mono ?_|refine zU.mono ?_
  rintro e w1⟨rfl,rfl⟩;go_wp2_with fail;refine H1.mono ?_;rintro e w2⟨n2,g2,cT,rfl,a2,t2,c2,r2⟩;have HX:=((N0.step a2 t2 t2.fg).ret (D:=1000) (cnt0:=cnt) (EN.dX hl N0.a a2.js t2) r2 ae).up K0
  go_wp2
  go_ret;exact HX
def adk(aj:AJ w c nb l cnt g s)(en:b_ w gb G g s)(hl:l<aL)(hc:cnt<=1000000):Cq 327 #[nA c.eb,Mv gb,.iface 310<|.agg #[Nv f,Nv t]] w (qU c nb l gb 1000 (jl In.jH λv=>ji (.var v,G)) g s cnt w):=by
 have k0:Bq w (w.alloc<|Cv #[Nv f,Nv t] 310):=bw _;have H1:=vD (aj.af k0) hc;have N0:=mF.start (gb:=gb) (aj.af k0)<|In.andM In.jH λv=>In.cH (Ty.var v,G);have EN:=en.af k0;have K0:=ai k0;go_enter func327,ntmps327;go_wp2_with fail;refine H1.mono ?_;rintro e w2⟨n2,g2,rfl,p2,a2,t2,r2,-⟩;have HX:=((N0.and p2 a2 t2 t2.fg).ret (D:=1000) (cnt0:=cnt) (EN.dX hl N0.a a2.js t2) r2 ae).up K0
 go_wp2
 go_ret;exact HX
def adl{x:BA}(aj:AJ w c nb l cnt g s)(en:b_ w gb G g s)(hl:l<aL)(hc:cnt<=1000000)(hg:c.gh<=gb/\gb≠c.rb/\gb≠c.mb):Cq 327 #[nA c.eb,Mv gb,.iface 253<|.agg #[Nv f,Nv t,.string x]] w (qU c nb l gb 1000 (jl In.jH λv=>ji (.var v,jd G x<|In.mono<|.var v)) g s cnt w):=by
 have⟨k0,B0⟩:=oF w #[Nv f,Nv t,Sv x] 253;have H1:=vD (aj.af k0) hc;have Jw:=aj.gno en<|br _;have N0:=mF.start (gb:=gb) (aj.af k0)<|In.andM In.jH λv=>In.cH (Ty.var v,In.cz G x<|In.mono<|.var v);have EN:=en.af k0;have K0:=ai k0;go_enter func327,ntmps327;go_wp2_with fail;refine H1.mono ?_;rintro e w2⟨n2,g2,rfl,p2,a2,t2,r2,-⟩;have⟨L,hM,hq⟩:=EN.dX hl N0.a a2.js t2;have HK:∀w3,MG Sv w3 gb (bG x (nA n2) L)->One gb w2 w3->qU c nb l gb 1000 (In.andM In.jH λv=>In.cH (Ty.var v,In.cz G x<|In.mono<|.var v)) g s cnt w (Rv<|nA n2) w3:=λw3 h3 o=>by
  have f3:Fr (λb=>b=gb) w2 w3:=o.fr rfl;have a3:=a2.lU f3 λb e=>⟨ae,ae,λi=>by rw[e];exact hM.bE i⟩;have nm:=r2.nm a2.js hl (λk o=>by simp only[aB]at o;exact jt o.symm);exact((N0.and p2 a3 t2<|(t2.fg (gb:=gb)).trans' (f3.gh λb e=>(jt e:jG c g gb b)) λb q=>jq q).ret (D:=1000) (cnt0:=cnt) (b_.put hq h3 nm) r2 ae).up K0
 have⟨b1,b2,b3⟩:=B0.fr t2.fr λq=>Jw<|jq q;have HM:=ai hM;go_wp2_with(refine cr UH cL rfl _ _ _ (jt rfl) rfl HM x (nA n2) rfl rfl ?_;intro w3 h3 o;have HX:=ai<|HK w3 h3 o;clear h3 o);go_ret;exact HX
def QY{p:Prop}(h:p:=by
 obtain⟨z,vl,vr,rfl,-⟩:=hb
 go_wp2
 exact⟨rfl,qU.up (jt HX) K0⟩):p:=h
def YW{n a}{x y}{vx vy}(Hx:Od x)(Hy:Od y)(h:FE (.mk 6 st n [x,y] f t a) c w nb l cnt g s gb G v)(hx:PP w (λb=>b<c.lo) x vx)(hy:PP w (λb=>b<c.lo) y vy):
 Cq 327 #[nA c.eb,Mv gb,.iface 315<|.agg #[Nv f,Nv t,vx,vy]] w (qU c nb l gb (1000*nn (.mk 6 st n [x,y] f t a)) (jj c.mks (.mk 6 st n [x,y] f t a) G) g s cnt w):=by
 have en:nn (.mk 6 st n [x,y] f t a)=1+nn x+nn y:=QG;have ep:jj c.mks (.mk 6 st n [x,y] f t a) G=jl (jj c.mks x G) λa=>jl (jj c.mks y a.2) λb=>ji (In.tPr a.1 b.1,b.2):=by simp[jj,In.rP,In.mA,In.dr]
 obtain⟨sx,sy⟩:rf c.mks c.nl x/\rf c.mks c.nl y:=by
  cases h.sc with
  |pr _ _ _ _ _ _ _ hx hy=>exact⟨hx,hy⟩
 have fa:=h.fa;have hl:=h.fl;rw[en]at fa;have⟨k0,B0⟩:=oF w #[Nv f,Nv t,vx,vy] 315;have HA:=h.up k0;have Jw:=h.aj.gno h.en<|br _;have N0:=mF.start (gb:=gb) HA.aj<|In.dv c.mks (.mk 6 st n [x,y] f t a) G;rw[ep]at N0;have H1:=Hx c _ nb l cnt g s gb G vx<|HA.part N0 HA.en (hx.af k0) sx NT;rw[en,ep];have HY:=hy.af k0;obtain⟨tx,ax,rfl⟩:=hx.iface;obtain⟨ty,ay,rfl⟩:=hy.iface;have K0:=ai k0;go_enter func327,ntmps327;go_wp2_with fail;refine H1.mono ?_;rintro e w1(⟨n1,g1,s1,ak,T1,G1,rfl,p1,a1,t1,f1,e1,c1,R1⟩|hb)
 .have N1:=N0.and p1 a1 t1 f1;have H2:=Hy c w1 nb l ak g1 s1 gb G1 _<|HA.part N1 e1 HY sy NT;have⟨b1,b2,b3⟩:=N1.bx B0 Jw;go_wp2_with fail;refine H2.mono ?_;rintro e w2(⟨n2,g2,s2,cT,T2,G2,rfl,p2,a2,t2,f2,E2,c2,r2⟩|hb)
  .have N2:=N1.and p2 a2 t2 f2;have H3:=afo a2 (R1.dX N1.a.js t2) r2;go_wp2_with fail;refine H3.mono ?_;rintro e w3⟨n3,g3,rfl,a3,t3,r3⟩;have HX:=((N2.step a3 t3 t3.fg).ret (D:=1000*(1+nn x+nn y)) (cnt0:=cnt) (E2.dX hl N2.a a3.js t3) r3 ae).up K0
   go_wp2
   go_ret;exact HX
  .have HX:=N1.bad hb;exact QY
 .have HX:=N0.bad hb;exact QY
end
section
variable {c:JC} {cnt:Nat}
abbrev FI(c:JC)(t:ju)(vs:List ju)ms gh:={c with mks:=ja t vs ms c.mks,gh:=gh}
def U8(h:AJ w c nb l cnt g s)(hrm:c.rb≠c.mb){t}{f}(hv:RowV QName 3 w P vs vv)(hm:RowV QMaker 6 w P ms vm)(hd:TdF t vs ms):
 Cq 303 #[nA c.eb,.agg #[Iv f,Iv x,Nv t.aF,Nv t.to,.string t.text,vv,vm]] w (λe w'=>e=.returned (.tuple #[])/\Fr (λi=>i=c.mb) w w'/\AJ w' (FI c t vs ms w'.heap.size) nb l cnt g s):=by
 obtain⟨w0,yn⟩:∃w0,w0=w.alloc (Cv #[Iv f,Iv x,Nv t.aF,Nv t.to,Sv t.text,vv,vm] 125):=⟨_,rfl⟩;have k0:Bq w w0:=by rw[yn];exact bw _
 have B0:Bx w0 w.heap.size #[Iv f,Iv x,Nv t.aF,Nv t.to,Sv t.text,vv,vm]:=by rw[yn];exact Bx.new w #[Iv f,Iv x,Nv t.aF,Nv t.to,Sv t.text,vv,vm] 125
 have a0:=h.af k0;have zm:=a0.je.ms.lt;have zc:=a0.je.ct.z;have HMK:∀W:World,Bq w0 W->Cq 250 #[Av #[Iv f,Iv x,Nv t.aF,Nv t.to,Sv t.text,vv,vm]] W (λe w'=>∃b,e=Rv (Mv b)/\Bq W w'/\W.heap.size<=b/\nh w' (λi=>W.heap.size<=i) b (ja t vs ms λ_=>none)):=λW hb=>by
  have kW:=k0.trans<|hb.mono k0.size;exact QX
 have HCP:Hid (∀(W:World)(b:Nat),Bq w0 W->w0.heap.size<=b->nh W (λi=>w0.heap.size<=i) b (ja t vs ms λ_=>none)->Cq 249 #[Mv c.mb,Mv b] W (λe w'=>e=Rv (.tuple #[])/\Fr (λi=>i=c.mb) w w'/\AJ w' (FI c t vs ms w'.heap.size) nb l cnt g s)):=ai λW b hb hz hM=>by
  have aW:=a0.af hb;have⟨L,hMG,_⟩:=id aW.je.ms;have zb:=hM.lt;have zs:=hb.size;have h1:nh W (λi=>i≠c.cb/\i≠c.mb/\i<W.heap.size) c.mb c.mks:=(aW.je.ms.tM<|hMG.bE 0).move (br _) rfl (λ_ _ _=>rfl) (λi p z=>⟨p.1.1,p.2,z⟩);have h2:nh W (λi=>i≠c.cb/\i≠c.mb/\i<W.heap.size) b (ja t vs ms λ_=>none):=hM.move (br _) rfl (λ_ _ _=>rfl) (λi p z=>⟨qBv,qBv,z⟩);refine(QU h1 h2 (λq=>q.2.1 rfl) (λi p=>p.2.2) ae).mono ?_;rintro e w'⟨rfl,hM3,F3⟩;rw[<-Ah]at hM3;have⟨n1,n2,n3,n4,n5⟩:=aW.je.ne;have z3:=F3.size;refine⟨rfl,(Fr.of<|k0.trans<|hb.mono k0.size).trans F3,⟨aW.je.bx.fr F3<|Ne.symm n5,aW.je.ct.fr F3<|Ne.symm n4,aW.je.rs.same<|F3.block _ aW.je.rs.lt hrm,hM3.move (br _) rfl (λ_ _ _=>rfl) (λi p _=>⟨p.1,by show i<w'.heap.size;omega⟩),⟨aW.je.z.1,aW.je.z.2.1,br _⟩⟩,⟨aW.js.gl.lU F3.size λb p q=>F3.block b (fy q) λe=>(by rw[e,hMG.bE 0]at q;cases q),aW.js.mY,aW.js.inj,aW.js.can,aW.js.lc,aW.js.val,aW.js.use,aW.js.ok⟩,aW.us,aW.lv,aW.lo⟩
 have HL:Hid (∀W:World,Bq w0 W->W.cell? ⟨c.eb,2,none⟩=some (Mv c.mb)):=ai λW k=>(a0.af k).je.bx.c 2;obtain⟨b1,b2,b3⟩:=B0;have⟨e1,e2,e3⟩:=a0.je.bx;obtain⟨pa,pc,cs,rfl,-⟩:=hv;obtain⟨ma,mc,ds,rfl,-⟩:=hm;have HW:=ai yn;clear h k0 a0 yn;go_enter func303,ntmps303;go_wp2_with fail;rw[<-uh HW]
 go_region_with(first
  |(go_at_call 250;go_loud(refine(HMK _ (Below.refl _ _).drew).mono ?_);rintro e w2⟨b,rfl,k2,z2,hM⟩;have k2':Bq w0 w2:=(Below.refl _ _).drew.trans k2;have s0:=uh HL _ k2';have HC:=ai<|HCP w2 b k2' z2 hM;clear k2 k2' z2 hM)
  |(go_at_call 249;go_loud(refine HC.mono ?_);rintro e w3⟨rfl,hp⟩;have HP:=ai hp;clear hp))
 all_goals
  go_wp2
  go_end0;exact⟨rfl,HP⟩
def agO nl:Cq 49 #[] w λe w'=>∃(c:JC)(nb:Nat)(g:f_),e=.returned (nA c.eb)/\Bq w w'/\AJ w' c nb 0 0 g ⟨jv,λ_=>False⟩/\b_ w' nb (λ_=>none) g ⟨jv,λ_=>False⟩/\c.mks=(λ_=>none)/\c.nl=nl/\c.lo=w.heap.size/\c.rb≠c.mb/\nb≠c.rb/\nb≠c.mb/\c.lo<=nb/\c.lo<=c.mb:=by
 have iZ:= @run_makeMap Tryz.prog;go_enter func49,ntmps49;go_wp2_with fail;refine(tG).mono ?_;rintro e w1⟨rfl,yC⟩;have k1:Bq w w1:=by rw[yC];exact bw _
 have C1':Bx w1 w.heap.size #[Iv 0]:=by rw[yC];exact Bx.new w #[Iv 0] 3
 have z1:w1.heap.size=w.heap.size+1:=by rw[yC];simp
 have K1:=ai k1;clear yC k1;go_wp2_with fail;refine(DF).mono ?_;rintro e w2⟨rfl,R2,k2,z2⟩;have K2:=ai k2;clear k2
 go_wp2
 go_ret;obtain⟨w3,rS⟩:∃w3,w3=w2.alloc (.map #[] 0):=⟨_,rfl⟩;obtain⟨w4,hw4⟩:∃w4,w4=w3.alloc (.map #[] 0):=⟨_,rfl⟩;have k3:Bq w2 w3:=by rw[rS];exact bw _
 have k4:Bq w3 w4:=by rw[hw4];exact bw _
 have z3:w3.heap.size=w2.heap.size+1:=by rw[rS];simp
 have z4:w4.heap.size=w3.heap.size+1:=by rw[hw4];simp
 have k2:=uh K2;have k1:=uh K1;have m3:MG Sv w3 (w.heap.size+2) []:=by rw[rS,show w.heap.size+2=w2.heap.size by omega];exact MG.new _ w2
 have m4:MG Sv w4 (w.heap.size+3) []:=by rw[hw4,show w.heap.size+3=w3.heap.size by omega];exact MG.new _ w3
 rw[<-rS,<-hw4];obtain⟨w5,hw5⟩:∃w5,w5=w4.alloc (Cv #[.func (.func 32) #[] #[Pv w.heap.size],Mv<|w.heap.size+1,Mv<|w.heap.size+2,Mv<|w.heap.size+3,Iv 0] 196):=⟨_,rfl⟩;have k5:Bq w4 w5:=by rw[hw5];exact bw _
 have z5:w5.heap.size=w.heap.size+5:=by rw[hw5];simp;omega
 have b5:Bx w5 (w.heap.size+4) #[.func (.func 32) #[] #[Pv w.heap.size],Mv<|w.heap.size+1,Mv<|w.heap.size+2,Mv<|w.heap.size+3,Iv 0]:=by
  have:=Bx.new w4 #[.func (.func 32) #[] #[Pv w.heap.size],Mv<|w.heap.size+1,Mv<|w.heap.size+2,Mv<|w.heap.size+3,Iv 0] 196;rw[<-hw5,show w4.heap.size=w.heap.size+4 by omega]at this;exact this
 have NF:=k4.trans<|k5.mono k4.size;have k35:=k3.trans<|NF.mono k3.size;have k25:=k2.trans<|k35.mono k2.size;have kk:=k1.trans<|k25.mono k1.size;have js:JS w5 ⟨[],λ_=>none,λ_=>none,λ_=>0,λ_=>(none,0),λ_=>0,λ_=>.var 0⟩ ⟨jv,λ_=>False⟩:=by
  refine⟨⟨λn h=>yl,λn _=>⟨rfl,rfl⟩,λn h=>yl⟩,.start _ _,λa b h=>yl,λn x k=>?_,λa h=>yl,λn h=>yl,λn h=>yl,In.tN _⟩;rfl
 have res:∃(c:JC)(nb:Nat)(g:f_),Rv (Pv<|w.heap.size+4)=Rv (nA c.eb)/\Bq w w5/\AJ w5 c nb 0 0 g ⟨jv,λ_=>False⟩/\b_ w5 nb (λ_=>none) g ⟨jv,λ_=>False⟩/\c.mks=(λ_=>none)/\c.nl=nl/\c.lo=w.heap.size/\c.rb≠c.mb/\nb≠c.rb/\nb≠c.mb/\c.lo<=nb/\c.lo<=c.mb:=by
  refine⟨⟨w.heap.size+4,w.heap.size,w.heap.size+1,w.heap.size+2,w.heap.size,w.heap.size+5,λ_=>none,nl⟩,w.heap.size+3,_,rfl,kk,⟨⟨b5,C1'.below k25,?_,⟨[],m3.same<|NF.block _ ae,λ_ _=>rfl,λx v h=>qBg⟩,?_⟩,js,λn q=>q.elim,λn h=>yl,λn h=>yl⟩,⟨[],m4.same<|k5.block _ ae,λx=>jq ⟨rfl,rfl⟩⟩,rfl,rfl,rfl,?_,?_,?_,?_,?_⟩
  .have:=R2.same (w':=w5)<|k35.block _ ae
   rwa[z1]at this
  all_goals(dsimp only;omega)
 rw[hw5]at res;exact res
end
def QBd:EQ (BA×Ty):=λ_ _ p c=>c 0=.string p.1/\c 1=.string (bs<|wr dec (vars [] p.2) p.2 0)
def o5:gq QBd:=λ_ _ _ _ _ _ h _ _ _=>h
def FK(w:World)(P:Nat->Prop)(B:List (BA×Ty))(va:Option Addr)(vc:Nat):Prop:=RowV QBd 2 w P B (.slice va B.length vc)/\B.length<=vc
theorem FK.move{w w':World}{P P':Nat->Prop}{B:List (BA×Ty)}{va:Option Addr}{vc:Nat}(h:FK w P B va vc)(hs:w.heap.size<=w'.heap.size)(hb:∀b,P b->b<w.heap.size->w'.heap[b]? =w.heap[b]?)(hq:∀b,P b->b<w.heap.size->P' b):FK w' P' B va vc:=⟨h.1.move o5 hs hb hq,h.2⟩
def dh.cap{w:World}{b6:Nat}{B:List (BA×Ty)}{va:Option Addr}{vc:Nat}(h:dh QBd 39 2 w b6 va vc B):B.length<=vc:=by
 obtain⟨cs,⟨_,h⟩,_⟩:=h;obtain⟨_,h⟩|⟨g,cap,l_,e,_,_,h,_⟩:=h
 .omega
 .simp only[Value.slice.injEq]at e;omega
def fF:Option jh->Fl
 |none=>dw|some z=>z.f
def fL:Option jh->BA
 |none=>bs []|some z=>YX z
def fR:Option jh->BA
 |none=>bs []|some z=>YY z
structure SN where
 ty:BA->Option Nat
 km:BA->Option Nat
 nm:List BA
def sn0:SN:=⟨Xb,λ_=>none,[]⟩
structure PI nl rs(Q:List (BA×Ty)->Option jh->Prop)r cnt(mks:jc)(s:jk)(Γ:jf)(e:SN)B:Prop where
 pg:rU nl r e.ty e.km mks e.nm
 fi:MkFine mks
 mf:In.MF mks
 nm:∀x,x∈e.nm->Γ x≠none
 ef:In.EF Γ
 kf:In.KF s
 qq:∀B' F,In.qV rs r mks Γ s B' F->Q (B++B') F
 cn:cnt+1048*Iz r<=850000
 sz:Iz r<=802
section
variable {Q:List (BA×Ty)->Option jh->Prop} {r:List Dc} {cnt:Nat} {e:SN}
def PI.end(h:PI nl rs Q [] cnt mks s Γ e B):Q B none:=by
 have:=h.qq [] none ⟨rfl,rfl⟩
 rwa[List.append_nil]at this
def PI.ty{t}(h:PI nl rs Q (.ty t vs ms::r) cnt mks s Γ e B):TdF t vs ms/\PI nl rs Q r cnt (ja t vs ms mks) s Γ ⟨yj e.ty t.text vs.length,mkF e.km ms,e.nm⟩ B:=by
 have⟨⟨_,g1,g2,g3⟩,g4⟩:=h.pg;have hc:=h.cn;have hs:=h.sz;rw[mG]at hc hs;exact⟨g1,g4,g2,g3,h.nm,h.ef,h.kf,h.qq,ae,ae⟩
def LtI nl rs(Q:List (BA×Ty)->Option jh->Prop)r cnt(mks:jc)(s:jk)(Γ:jf)(e:SN)B rc(t:ju)b:=∀o,In.ch rc t.text b (In.inf mks b) Γ s o->match o with
 |.error z=>In.FtF z/\Q B (some z)|.ok (a,s1)=>(48<size (sub s1.k a)->Q B (some<|jm t.aF t.to))/\∀T aE,size (sub s1.k a)<=48->T=(if In.rK b then sub s1.k a else In.eu (sub s1.k a))->aE<=cnt+1000*(1+nn b)+48->Wf T/\size T<=48/\PI nl rs Q r aE mks (In.nxt rs s1) (jd Γ t.text ⟨T,vars [] T⟩) ⟨e.ty,e.km,e.nm++[t.text]⟩ (B++[(t.text,T)])
theorem PI.lt{rc}{t}{b}(h:PI nl rs Q (.lt rc t b::r) cnt mks s Γ e B):t.text∈nl/\cnt+1000*(1+nn b)<=850000/\1+nn b<=805/\MkFine mks/\ScE mks nl (λv=>v∈e.nm\/(rc=true/\v=t.text)) b/\LtI nl rs Q r cnt mks s Γ e B rc t b:=by
 have⟨⟨g0,g3,_,g1⟩,g4⟩:=h.pg;have hc:=h.cn;have hs:=h.sz;rw[mG]at hc hs;simp only[Nc]at hc hs;refine⟨g1,ae,ae,h.fi,g3,λo ho=>?_⟩;have g:=In.Aj rc t.text b (In.YZ h.mf b g3.nw) Γ s h.kf h.ef o ho
 cases o with
 |error z=>
  refine⟨g,?_⟩;have:=h.qq [] (some z) ⟨_,ho,rfl,rfl⟩
  rwa[List.append_nil]at this
 |ok p=>
  obtain⟨a,s1⟩:=p;obtain⟨k1,k2⟩:=g;refine⟨λhz=>?_,λT aE hz hT Ae=>?_⟩
  .have:=h.qq [] (some<|jm t.aF t.to) ⟨_,ho,jq ⟨hz,rfl,rfl⟩⟩
   rwa[List.append_nil]at this
  .have hw:=In.nu k1 k2;have hTw:Wf T/\size T<=48:=by
    rw[hT];split
    .exact⟨hw,hz⟩
    .exact⟨Jx hw,by rw[lE];exact hz⟩
   refine⟨hTw.1,hTw.2,g4,h.fi,h.mf,λx hx=>?_,h.ef.set _ hTw.1,λn=>?_,λB' F q=>?_,ae,ae⟩
   .rw[jd];split
    .simp
    .rename_i cR;obtain q|q:=List.mem_append.1<|show x∈e.nm++[t.text]from hx
     .exact h.nm x q
     .grind
   .show Wf ((if rs then jv else s1.k) n)
    cases rs
    .exact k2 n
    .exact In.kG n
   .rw[List.append_assoc];exact h.qq _ F ⟨_,ho,jt ⟨hz,T,B',hT,rfl,q⟩⟩
end
def PI.init{l}(h:rU nl l Xb (λ_=>none) (λ_=>none) [])(hz:Iz l<=802)rs u{cnt}(hc:cnt<=1000):PI nl rs (In.qV rs l (λ_=>none) (λ_=>none) ⟨jv,u⟩) l cnt (λ_=>none) ⟨jv,u⟩ (λ_=>none) sn0 []:=
 ⟨h,⟨λ_ _ _ q=> mE,λ_ _ _ q=> mE,λ_ _ _ q=> mE⟩,λx tk m q=> mE,λx hx=>by simp[sn0]at hx,λy c q=> mE,In.kG,λB' F q=>q,ae,hz⟩
def o6 va n vc:=#[Iv 0,Iv 0,Iv 0,.string ⟨#[]⟩,.string ⟨#[]⟩,.slice va n vc,.slice none 0 0]
structure rV w b4 b5 b6(B:List (BA×Ty))va vc:Prop where
 r4:Bx w b4 (o6 none 0 0)
 r5:Bx w b5 (o6 va B.length vc)
 row:dh QBd 39 2 w b6 va vc B
 fst:∀b,(jo va B.length vc).ownBlock=some b->∃x,w.cell? ⟨b,0,none⟩=some (.string x)
def QZ x:Oth (.string x):=⟨λ_ _ q=> mE,λ_ _ q=> mE,λ_ q=> mE⟩
def Y3:Oth (Iv 0):=⟨λ_ _ q=> mE,λn h q=>(by injection q with _ q;omega),λ_ q=> mE⟩
section
variable {b4 b5 b6:Nat} {va:Option Addr} {vc:Nat}
def rV.same(h:rV w b4 b5 b6 B va vc)(hs:w.heap.size<=w'.heap.size)(h4:w'.heap[b4]? =w.heap[b4]?)(h5:w'.heap[b5]? =w.heap[b5]?)(h6:∀b,(jo va B.length vc).ownBlock=some b->w'.heap[b]? =w.heap[b]?):rV w' b4 b5 b6 B va vc:=by
 refine⟨h.r4.same hs h4,h.r5.same hs h5,?_,λb q=>?_⟩
 .have⟨cs,ho,hr⟩:=h.row;exact⟨cs,tH ho h6,hr⟩
 .have⟨x,hx⟩:=h.fst b q;exact⟨x,by rw[World.cell?_of_block (a:=⟨b,0,none⟩)<|h6 b q];exact hx⟩
def rV.af(h:rV w b4 b5 b6 B va vc)(k:Bq w w'):rV w' b4 b5 b6 B va vc:=
 h.same k.size (k.block _ h.r4.z) (k.block _ h.r5.z) λb q=>k.block b (h.row.block b q).2
def rV.kp(h:rV w b4 b5 b6 B va vc)(k:KpI lo base w w')(h4:base<=b4)(h5:base<=b5)(h6:base<=b6):rV w' b4 b5 b6 B va vc:=
 h.same k.size (k.box _ _ h.r4.z h4 (by rw[h.r4.c 0];rfl) Y3.p) (k.box _ _ h.r5.z h5 (by rw[h.r5.c 0];rfl) Y3.p) λb q=>by
  have⟨x,hx⟩:=h.fst b q;have:=h.row.block b q;exact k.box _ _ this.2 ae hx (QZ x).p
def dh.fst(h:dh QBd 39 2 w b6 va vc B)(hB:B≠[]):∀b,(jo va B.length vc).ownBlock=some b->∃x,w.cell? ⟨b,0,none⟩=some (.string x):=λb q=>by
 have⟨oR,oU,cs,e,aN,hq⟩:=h.v o5;injection e with e1 _ e2;subst e1 e2;have hl:=List.length_pos_iff.2 hB;obtain e|⟨g,rfl,h1,h2,h3⟩:=aN
 .exact absurd e hB
 .have hg:g=b:=by simpa[Value.ownBlock]using q
  subst hg;have:=h3 0 hl 0 aw;rw[(hq 0 hl).1]at this;exact⟨_,by simpa using this⟩
def rV.grow{S}{ty}(E:YV ty eb lo base rs nl S){cnt}{w5 w6}{n}{T}{q3 c3}{cs}(h:rV w b4 b5 b6 B va vc)(hS:S w cnt mks s Γ)(h45:b4<b5/\b5<b6)(hb6:b6<=w.heap.size)(hb:base<=b4)(sH:lo<=base)(k:Bq w w5)(NR:∀i(h:i<B.length),QBd w (λb=>b6<=b/\b<w.heap.size/\(jo va B.length vc).ownBlock≠some b) B[i]<|cs i)(h6:w6.ownsRow b6 39 2 (.slice (some ⟨q3,0,none⟩) (B.length+1) c3) (B.length+1) (gW cs 2 B.length++[.string n,.string<|bs<|wr dec (vars [] T) T 0]))(hg:(w5.alloc<|.cells #[.string n,.string<|bs<|wr dec (vars [] T) T 0] 39).grownBy w6 (jo va B.length vc).ownBlock)(U9:(jo (some ⟨q3,0,none⟩) (B.length+1) c3).ownBlock=(jo va B.length vc).ownBlock\/(jo (some ⟨q3,0,none⟩) (B.length+1) c3).ownBlock=some (w5.alloc<|.cells #[.string n,.string<|bs<|wr dec (vars [] T) T 0] 39).heap.size):
 S (w6.setCell ⟨b5,5,none⟩<|.slice (some ⟨q3,0,none⟩) (B.length+1) c3) cnt mks s Γ/\rV (w6.setCell ⟨b5,5,none⟩<|.slice (some ⟨q3,0,none⟩) (B.length+1) c3) b4 b5 b6 (B++[(n,T)]) (some ⟨q3,0,none⟩) c3/\Below lo w (w6.setCell ⟨b5,5,none⟩<|.slice (some ⟨q3,0,none⟩) (B.length+1) c3):=by
 obtain⟨W,hW⟩:∃W,W=w5.alloc (Cv #[Sv n,Sv<|bs<|wr dec (vars [] T) T 0] 39):=⟨_,rfl⟩;rw[<-hW]at hg U9;have k5:Bq w5 W:=by rw[hW];exact bw _
 have kW:=k.trans<|k5.mono k.size;have RW:=h.af kW;have Xc:=h.row.block;have z5:=h.r5.z;have zW:=kW.size;have F6:Fr (λi=>(Lv va B.length vc).ownBlock=some i) W w6:=⟨hg.os,hg.tape,hg.output,hg.size,λb hb hn=>hg.block b hb<|λe=>hn e.symm⟩;have S6:S w6 cnt mks s Γ:=by
  cases ho:(Lv va B.length vc).ownBlock with
  |none=>exact E.af (E.af hS kW) (F6.none λb q=>by rw[ho]at q;cases q)|some b=>
   have⟨x,hx⟩:=RW.fst b ho;have:=Xc b ho;exact E.oth (E.af hS kW) ae hx (QZ x) (F6.gh λi q=>by rw[ho]at q;injection q with q;exact q.symm)
 have R4:=RW.r4.fr F6 (λq=>by have:=Xc _ q;omega);have R5:=RW.r5.fr F6 (λq=>by have:=Xc _ q;omega);have F7:Fr (λi=>i=b5) w6 (w6.setCell ⟨b5,5,none⟩<|Lv (some ⟨q3,0,none⟩) (B.length+1) c3):=(Fr.refl (λi=>i=b5) w6).set (jq rfl) 5 _;have aN:dh QBd 39 2 w6 b6 (some ⟨q3,0,none⟩) c3 (B++[(n,T)]):=
  dh.push (w1:=w5) (W:=W) (lo:=w5.heap.size) (a:=(n,T)) (c:=λj=>if j=0 then Sv n else Sv (bs<|wr dec (vars [] T) T 0)) (cs:=cs) o5 (λi hi=>NR i hi) ⟨rfl,rfl⟩ (by have:=k.size;omega) (λb e=>by have:=Xc b e;have:=k.size;omega) k5 h6 hg U9
 have fK:1<=(B++[(n,T)]).length:=ag;have hlen:(B++[(n,T)]).length=B.length+1:=ag;have afs:=aN.lU (w':=w6.setCell ⟨b5,5,none⟩<|Lv (some ⟨q3,0,none⟩) (B.length+1) c3) o5 F7.size (λb q z=>F7.block b z (by show b≠b5;omega));refine⟨E.oth S6 ae (by rw[R5.c 0];rfl) Y3 F7,⟨R4.fr F7 (by show ¬b4=b5;omega),?_,afs,afs.fst ag⟩,?_⟩
 .rw[hlen];exact R5.vF 5 _ _ (by simp[o6]) (by simp[o6])
 .have hz:=h.r4.z;refine⟨F7.os.trans<|F6.os.trans kW.os,F7.tape.trans<|F6.tape.trans kW.tape,F7.output.trans<|F6.output.trans kW.output,Nat.le_trans zW<|Nat.le_trans F6.size F7.size,λb hb=>?_⟩;have h6z:=F6.size;exact(F7.block b ae (by show ¬b=b5;omega)).trans ((F6.block b ae (λq=>by have:=Xc b q;omega)).trans<|kW.block b ae)
end
theorem agP.cases{S}{lo base}{rs}{nl}{Q}{r}{cnt}{mks}{s}{Γ}{se}{B}{rc}{t}{b}{w w'}{e}(h:agP S lo base rs cnt mks s Γ rc t.text t.aF t.to b w e w')(hP:LtI nl rs Q r cnt mks s Γ se B rc t b):KpI lo base w w'/\((∃z vl vr,e=.returned (.tuple #[.nilIface,Ck z.f vl vr])/\rM w' (λ_=>True) z vl vr/\In.FtF z/\Q B (some z))\/
  ∃T ta xa aE s1,e=.returned (.tuple #[.iface ta xa,.agg MU])/\dD w' (λ_=>True) T (.iface ta xa)/\Wf T/\size T<=48/\S w' aE mks s1 (jd Γ t.text ⟨T,vars [] T⟩)/\PI nl rs Q r aE mks s1 (jd Γ t.text ⟨T,vars [] T⟩) ⟨se.ty,se.km,se.nm++[t.text]⟩ (B++[(t.text,T)])):=by
 obtain⟨hk,o,ho,hq⟩:=h;have hp:=hP o ho;refine⟨hk,?_⟩
 cases o with
 |error z=>
  obtain⟨vl,vr,e1,e2⟩:=hq;exact jq ⟨z,vl,vr,e1,e2,hp⟩
 |ok p=>
  obtain⟨a,s1⟩:=p;obtain⟨z,e1⟩|⟨z,T,ta,xa,aE,hT,e1,e2,e3,e4⟩:=hq
  .exact jq ⟨jm t.aF t.to,Zv,Zv,e1,⟨λ_=>⟨rfl,rfl⟩,λq=> mE,jt rfl⟩,In.yJ _ _,hp.1 z⟩
  .grind
end Go.Proofs.YtlnlhlefeokfjaaGreatDoor

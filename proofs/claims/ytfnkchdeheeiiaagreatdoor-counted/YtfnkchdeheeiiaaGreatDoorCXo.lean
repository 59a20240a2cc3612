import Derived.Test.YtfnkchdeheeiiaaGreatDoorCQa
import Derived.Test.YtfnkchdeheeiiaaGreatDoorCTm
import Derived.Test.YtfnkchdeheeiiaaGreatDoorCPl
set_option linter.all false
set_option maxRecDepth 100000
set_option maxHeartbeats 2000000
namespace Go.Proofs.YtfnkchdeheeiiaaGreatDoor
open Pu renaming bC->ja,Tok->jc
open Go.Proofs.Tryz renaming prog->jd,underlying236->jf,underlying233->jh
open Un renaming dQ->ji,Eq->jj
open Or renaming inr->jk,inl->jl
open Go.Value renaming string->jm
open Go Go.RowKit Go.ChangeMaps Proofs.Tryz
variable {ca cb:Array Value} {c c' s:BA} {r:Except Fl (Nd×Nat)} {ds l l':List Nat} {T:List jc} {sm:M Nd} {m:MV} {F N a b f fr h j k n rb sb y:Nat} {vr:Nat->Nat} {ly:Nat->Option Addr×Nat} {x:Nd} {sa:Option Addr} {P:Program} {t:jc} {κ:Type} {ta tb:TypeId} {ba gB:Un.Nx} {str:Un.vB} {v:Value} {w:World}
def abd{n}(hs:s.size<=1000)(hT:(ja s 0).length<=1001)(IH:eP s n)(h:SX w N rb sb m s k)(hn:(ja s 0).length<=k+1+n)(ho:a_ (tk (ja s 0) k) l_=true):
 Cq 192 #[rp rb] w (ap PE N rb sb m s (aP (ja s 0) (bP (ja s 0) n) (eH (ja s 0) n) 3 k) w):=by
 have Th:=gK;have VL:=jI;refine cz.xN h (sW ho) λH=>?_;go_enter func192,ntmps192;go_wp2_with fail;refine H.take ?_;intro w1 H;go_wp2_with fail
 cases hc:a_ (tk (ja s 0)<|k+1) kG
 .refine H.CI hc ?_;go_wp2_with fail;refine(H.re<|xM hc).expr IH ?_;intro a k2 t2 x2 w2 H l2;go_wp2_with fail
  cases hm:a_ (tk (ja s 0) k2) pQ
  .refine H.CI hm ?_;go_wp2_with fail
   cases hl:a_ (tk (ja s 0) k2) CG
   .refine H.CI hl ?_;go_wp2_with fail;refine(H.re<|uj hm λ_=>hl).take ?_;intro w5 H
    go_wp2
    go_ret;exact H.done λ⟨_,A⟩=>A
   .refine(H.re<|Gp hm hl).zO hl ?_;intro w3 H;go_wp2_with fail;refine H.call (Nw hs hT H.sx ae) ?_;intro b k4 v4 w4 H _ V;obtain⟨t4,x4,rfl⟩:=V.iface;go_wp2_with fail;refine H.take ?_;intro w5 H;go_wp2_with fail;refine H.since ?_;intro w6 H
    go_wp2
    go_ret;exact H.done λ⟨⟨_,A⟩,B⟩=>.of _ _ _ _ _ _ _ _ _ A B
  .refine(H.re<|nT hm).zO hm ?_;intro w3 H;go_wp2_with fail;refine H.expr IH ?_;intro b k4 t4 x4 w4 H l4;go_wp2_with fail;refine H.take ?_;intro w5 H;go_wp2_with fail;refine H.since ?_;intro w6 H
   go_wp2
   go_ret;exact H.done λ⟨⟨_,A⟩,B⟩=>.pr _ _ _ _ _ _ _ _ _ A B
 .refine(H.re<|xL aK hc).zO hc ?_;intro w2 H;go_wp2_with fail;refine H.since ?_;intro w3 H
  go_wp2
  go_ret;exact H.done λ_=>.unit _ _ _ _ _
def Iq(hs:s.size<=1000)(hT:(ja s 0).length<=1001)(IH:eP s n)(h:SX w N rb sb m s k)(hn:(ja s 0).length<=k+1+n)(hb:aG (tk (ja s 0) k) 3=true){x:Nat}(hx:Bx w x #[rp rb]):
 (∃f,aY (aq<|tk (ja s 0) k) (ry rb x)=some (nM f rb)/\(∀args w,(callFunc f args).run jd w=.ok (.enter f args) w)/\∀W,Bq w W->Cq f #[rp rb] W (ap PE N rb sb m s (aP (ja s 0) (bP (ja s 0) n) (eH (ja s 0) n) 3 k) W))\/
 (∃f,aY (aq<|tk (ja s 0) k) (ry rb x)=some (mh f x)/\(∀args w,(callFunc f args).run jd w=.ok (.enter f args) w)/\∀W,Bq w W->Cq f #[Pv x] W (ap PE N rb sb m s (aP (ja s 0) (bP (ja s 0) n) (eH (ja s 0) n) 3 k) W)):=by
 have ho:=dX s k h.lt;obtain hk|hk|hk|hk|hk|⟨h9,hk⟩|hk:=rF ho aK hb
 .refine jk ⟨184,by rw[iL hk];rfl,λ_ _=>qkr,?_⟩;rw[ck hb<|oK ae _];exact λW hW=>(VH (h.af hW) hs hk x<|hx.below hW).1
 .refine jl ⟨186,by rw[gO hk];rfl,λ_ _=>qkr,?_⟩;rw[ck hb<|oK ae _];exact λW hW=>(acr (h.af hW) hs hk).1
 .refine jk ⟨187,by rw[iM hk];rfl,λ_ _=>qkr,?_⟩;rw[ck hb<|oK ae _];exact λW hW=>(VJ (h.af hW) hs hk x<|hx.below hW).1
 .refine jk ⟨189,qBk,λ_ _=>qkr,?_⟩;rw[ck hb<|rG hk Zo];exact λW hW=>(vG (h.af hW) hs (jl hk) x<|hx.below hW).1
 .refine jk ⟨191,qBk,λ_ _=>qkr,?_⟩;rw[ck hb<|rG hk Zo];exact λW hW=>(vG (h.af hW) hs (jk hk) x<|hx.below hW).2.1
 .omega
 .refine jl ⟨192,qBk,λ_ _=>qkr,λW hW=>abd hs hT IH (h.af hW) hn hk⟩
def Ph(h:SX w N rb sb m s k)(hb:aG (tk (ja s 0) k) 3=false)x:aY (aq<|tk (ja s 0) k) (ry rb x)=none:=by
 have ho:=dX s k h.lt;have⟨n1,n2,n4,nt,nf,na,no⟩:=uq aK hb;obtain h'|h'|h'|h'|h'|h'|h':=ho.kd
 .exact absurd h' n1
 .exact absurd h' n2
 .rw[gP h'];rfl
 .exact absurd h' n4
 .rw[oI h'];have hz:=ho.s5 h';have qA:∀c:BA,5<c.size->c≠(tk (ja s 0) k).text:=λc hc e=>by rw[e]at hc;omega
  refine CJ λp hp=>?_;simp only[ry,List.mem_cons,List.not_mem_nil,or_false]at hp;obtain rfl|rfl|rfl|rfl|rfl|rfl:=hp
  .exact qA CB aK
  .exact qA FY aK
  .exact qA Kq aK
  .exact pR h' nt
  .exact pR h' nf
  .exact pR h' no
 .exact absurd h' h.ok
 .rw[iN h'];rfl
def aiT(hs:s.size<=1000)(hT:(ja s 0).length<=1001)(IH:eP s n)(h:SX w N rb sb m s k)(hn:(ja s 0).length<=k+1+n){x:Nat}(hM:MS jm w b (ry rb x))(hx:Bx w x #[rp rb]):Tab N rb sb m s PE (aP (ja s 0) (bP (ja s 0) n) (eH (ja s 0) n) 3) 3 b w k:=by
 refine⟨_,hM,?_⟩
 cases hc:aG (tk (ja s 0) k) 3
 .exact .inr ⟨rfl,Ph h hc x⟩
 .exact .inl ⟨rfl,(Iq hs hT IH h hn hc hx).imp id λ⟨f,h⟩=>⟨f,x,h⟩⟩
def R8(hs:s.size<=1000)(hT:(ja s 0).length<=1001)(IH:eP s n)(h:SX w N rb sb m s k)(hn:(ja s 0).length<=k+1+n){x:Nat}(hM:MS jm w b (ry rb x))(hx:Bx w x #[rp rb]):
 Cq 256 #[rp rb,Mv b] w (ap PE N rb sb m s (aP (ja s 0) (bP (ja s 0) n) (eH (ja s 0) n) 3 k) w):=acu (.inr<|.inr ⟨rfl,rfl⟩) PE.iface h<|aiT hs hT IH h hn hM hx
def SX.atom(h:SX w N rb sb m s k)(hb:m.c=Mv b):∃x,Bx w x #[rp rb]/\MS jm w b (ry rb x):=by
 have⟨x,hx,b',e,_,_,hM⟩:=h.ev.mp.at_;rw[hb]at e
 cases e
 exact⟨x,hx.2.2,hM⟩
def SX.mc(h:SX w N rb sb m s k):∃b,m.c=Mv b:=by
 have⟨x,_,b,e,_⟩:=h.ev.mp.at_;exact⟨b,e⟩
abbrev vX s n:=aP (ja s 0) (bP (ja s 0) n) (eH (ja s 0) n) 3
def Pj N rb sb m s k w r(g:Nat->Nd->M Nd)gk v wr:=
 ∃(kr:Nat)(nd:Nd)(f:Nat),cz N rb sb m s r w rb #[] (g f nd) (λw'=>PE w' (λb=>w.heap.size<=b) nd v) kr wr/\Hid (gk=(ja s 0).length-kr)/\k<kr/\(ja s 0).length<=kr+f
def below_drewN w q:Below n w (w.drewN q):=⟨rfl,rfl,rfl,br _,λ_ _=>rfl⟩
def XL(h:aG (tk T k) 3=true):jC T sm fr (f+1) x k=aM sm (λy k'=>jC T sm fr f (.mk 8 iq 0 [x,y] fr (aF T k') fr) k') k:=by
 show(if aG (tk T k) 3=true then _ else _)=_;rw[if_pos h]
def R9(h:aG (tk T k) 3=false):jC T sm fr f x k=.ok (x,k):=by
 cases f with
 |zero=>rfl|succ f=>unfold jC;rw[h];rfl
def ae4(hs:s.size<=1000)(hT:(ja s 0).length<=1001)(IH:eP s n)(h:SX w N rb sb m s k)(hn:(ja s 0).length<=k+1+n):
 Cq 206 #[rp rb] w (ap PE N rb sb m s (dr (ja s 0) (vX s n) k) w):=by
 have⟨b,hmc⟩:=h.mc;have⟨x,hx,hM⟩:=h.atom hmc;obtain⟨r,hr⟩:∃r,r=dr (Pu.bC s 0) (vX s n) k:=⟨_,rfl⟩;rw[<-hr];refine cz.xN (g:=jC (Pu.bC s 0) (vX s n) (tk (Pu.bC s 0) k).al (Pu.bC s 0).length) h hr λH=>?_;clear hr;have⟨c,ff,z⟩:=h.bx;go_enter func206,ntmps206;go_wp2_with fail;refine H.call (R8 hs hT IH h hn hM hx) ?_;intro a k1 v0 w1 H q V;obtain⟨t0,x0,rfl⟩:=V.iface;have l1:=cy (tn (T:=(Pu.bC s 0)) n) (cX n) 3 _ _ _ q;clear hx hM c ff z V q
 go_wp2
 go_loopg[4] ((ja s 0).length-k1) (λgk v wr=>Pj N rb sb m s k w r (λf nd=>jC (ja s 0) (vX s n) (tk (ja s 0) k).al f nd) gk v wr)
 case atStart=>exact⟨k1,a,_,H.imp λ_ h=>h.2,ai rfl,l1,ae⟩
 case round=>
  clear H;obtain⟨kr,nd,f,H,c_,hle,hfu⟩:=hrel;have⟨x,hx,hM⟩:=H.sx.atom hmc;have hl:=λq=>dZ (hM.same (w':=wr.drewN q) rfl) jh (rI _)<|aq<|tk (ja s 0) kr;have wo:=dZ hM jh (rI _)<|aq<|tk (ja s 0) kr;have VT:=H.sx.lt;obtain⟨tv,xv,rfl⟩:=H.p.iface;have⟨c,ff,z⟩:=H.sx.bx
  cases hb:aG (tk (ja s 0) kr) 3
  .simp only[Ph H.sx hb x,kh]at hl wo
   go_wp2
   go_quiet(fail)
   go_wp2
   go_ret;exact(H.af<|below_drewN _ nq).done id (R9 hb)
  .obtain⟨f,rfl⟩:∃f',f=f'+1:=⟨f-1,ae⟩;obtain⟨F,hg,VQ,HC⟩|⟨F,hg,VQ,HC⟩:=Iq hs hT IH H.sx ae hb hx
   all_goals(
    simp only[hg,kh]at hl wo;clear hg
    go_wp2
    go_quiet(fail);go_wp2_with fail;refine((H.af<|below_drewN _ nq).re<|XL hb).call (HC _<|below_drewN _ nq) ?_;intro a k2 v1 w1 H q V;obtain⟨t1,x1,rfl⟩:=V.iface;have l2:=cy (tn (T:=(ja s 0)) n) (cX n) 3 _ _ _ q;clear HC VQ c ff z hl wo hM hx V q;go_wp2_with fail;refine H.since ?_;intro w2 H
    go_wp2
    go_roundg((ja s 0).length-k2)
    case measure=>rw[uh c_];omega
    case rel=>exact⟨k2,_,f,(H.re rfl).imp λ_ h=>PE.call _ _ _ _ _ _ _ _ _ h.1 h.2,ai rfl,ae,ae⟩)
def XN(T:List jc)(sub:M Nd)(op:BA)(fr:Nat)(x:Nd):M Nd:=λk=>aM sub (λy k'=>.ok (.mk 7 op 0 [x,y] fr (aF T k') fr,k'))<|k+1
def ae5{sub}{op}:XN T sub op fr x k=aM pi (λ_=>aM sub<|λy k'=>.ok (.mk 7 op 0 [x,y] fr (aF T k') fr,k')) k:=rfl
def XO{sub}(h:a_ (tk T k) fG=true):kg T sub fr (f+1) x k=aM (XN T sub fG fr x) (kg T sub fr f) k:=by
 show(if a_ (tk T k) fG=true then _ else _)=_;rw[if_pos h];unfold XN aM;dsimp only
 cases sub (k+1)<;>rfl
def R_{sub}(h:a_ (tk T k) fG=false):kg T sub fr f x k=.ok (x,k):=by
 cases f with
 |zero=>rfl|succ f=>unfold kg;rw[h];rfl
def Pk{sub}(h:a_ (tk T k) gU=true\/a_ (tk T k) dP=true):qU T sub fr (f+1) x k=aM (XN T sub (tk T k).text fr x) (qU T sub fr f) k:=by
 show(if a_ (tk T k) gU=true\/a_ (tk T k) dP=true then _ else _)=_;rw[if_pos h];unfold XN aM;dsimp only
 cases sub (k+1)<;>rfl
def XP{sub}(h:a_ (tk T k) gU=false)(h':a_ (tk T k) dP=false):qU T sub fr f x k=.ok (x,k):=by
 cases f with
 |zero=>rfl|succ f=>unfold qU;rw[h,h'];rfl
def vY(h:a_ t c=true):t.text=c:=by grind[a_,acs]
def PEo(P:Nat->Prop)w(Q:Nat->Prop)a v:=PE w (λb=>P b\/Q b) a v
def ae6 a b c d w:(Instr.field 229 (.agg #[a,b,c,d]) 2).run jd w=.ok d w:=qkr
def Lp s n F(sub:M Nd):=∀(w:World)(N rb sb:Nat)(m:MV)(k:Nat),SX w N rb sb m s k->(ja s 0).length<=k+1+n->Cq F #[rp rb] w (ap PE N rb sb m s (sub k) w)
def ahm{sub}(hs:s.size<=1000)(HF:Lp s n F sub)(VQ:∀args w,(callFunc F args).run jd w=.ok (.enter F args) w)(iC:aR (ja s 0) sub)(h:SX w N rb sb m s k)(hn:(ja s 0).length<=k+1+n)(qB:(tk (ja s 0) k).text=gU\/(tk (ja s 0) k).text=dP\/(tk (ja s 0) k).text=fG\/(tk (ja s 0) k).text=du)(h7:(tk (ja s 0) k).kind≠7)fr{x}(hx:gy w N rb x #[rp rb])(hy:gy w N rb y #[nM F rb]){P}(hP:∀b,P b->b≠rb){nd}(hv:PE w P nd v):
 Cq 254 #[Nv fr,v,Pv x,Pv y] w (ap (PEo P) N rb sb m s (XN (ja s 0) sub (tk (ja s 0) k).text fr nd k) w):=by
 have VL:=ae6;obtain⟨tv,xv,rfl⟩:=hv.iface;refine cz.xN h ae5 λH=>?_;have H:=((H.add λw' a q=>hx.2.2.same a<|q x hx.2.2.z hx.2.1 hx.2.1).add λw' a q=>hy.2.2.same a<|q y hy.2.2.z hy.2.1 hy.2.1).add λw' a q=>hv.move a (λb p z=>q b z (hP b p)<|hP b p) λ_ p _=>p;clear hx hy hv;have⟨⟨⟨_,c0,f0,z0⟩,c1,f1,z1⟩,_⟩:=H.p;go_enter func254,ntmps254;go_wp2_with fail;refine H.call (VE h hs h7) ?_;intro _ _ _ w1 H q V
 cases V
 cases q
 have⟨⟨⟨⟨_,c0,f0,z0⟩,c1,f1,z1⟩,_⟩,_⟩:=H.p;go_wp2_with fail;refine H.call (HF _ _ _ _ _ _ H.sx ae) ?_;intro a k2 v2 w2 H q V;obtain⟨t2,x2,rfl⟩:=V.iface;clear V q;have⟨⟨⟨⟨⟨_,c0,f0,z0⟩,_⟩,_⟩,_⟩,_⟩:=H.p;go_wp2_with fail;refine H.since ?_;intro w3 H
 go_wp2
 go_ret;exact H.done λ⟨⟨⟨_,A⟩,_⟩,B⟩=>.op _ _ _ _ _ _ _ _ _ qB (A.wide λb p=>jl p)<|B.wide λb p=>jk p
def cz.op{sub}{op}{fr}{nd}{r}{w0}{C}{P}{g}{f}{args}{post}(H:cz N rb sb m s r w0 rb C (aM (XN (ja s 0) sub op fr nd) g) P k w)(yq:lN sub)(hC:Cq f args w (ap (PEo<|λb=>w0.heap.size<=b) N rb sb m s (XN (ja s 0) sub op fr nd k) w))(ok:∀a k' t x w',cz N rb sb m s r w0 rb C (g a) (λw'=>PE w' (λb=>w0.heap.size<=b) a<|.iface t<|.agg x) k' w'->k<k'->post (.returned<|.iface t<|.agg x) w')(st:∀a,aR (ja s 0)<|g a:=by exact VK)(bad:∀f' w',ap PE N rb sb m s r w0 (bO f') w'->post (bO f') w':=by exact λ_ _ h=>⟨rfl,h⟩):Cq f args w post:=
 hC.mono λe w' hp=>by
  cases hA:fin (ja s 0) (XN (ja s 0) sub op fr nd k)with
  |error f=>obtain⟨rfl,h⟩:=H.lost hp hA st;exact bad _ _ h
  |ok p=>
   obtain⟨a,j⟩:=p;obtain⟨v,rfl,hb,S,V⟩:=hp.ok hA;obtain⟨t,x,rfl⟩:=PE.iface V;refine ok _ _ t x w' (((H.mv hb S<|H.eq.trans<|mg hA).add λw2 a1 b1=>PE.move V a1 (λb p z=>?_) λb p _=>p.elim id λp=>Nat.le_trans H.ke.size p).imp λ_ h=>h.2) ?_
   .have h1:w0.heap.size<=b:=p.elim id λp=>Nat.le_trans H.ke.size p;have:=H.rz.1;exact b1 b z ae ae
   .have⟨_,j,h1,h2⟩:=aw (m:=sub) (k:=k+1) (pK hA).1
    cases h2
    have:=yq _ _ _ h1;omega
def rY(ho:fP t)(h6:t.kind≠6){L}(hL:∀p∈L,p.1.size<=5/\a_ t p.1=false):aY (aq t) L=none:=by grind[a_,aY,aq,CJ,rA]
def Lq w:(zeroValue 362).run jd w=.ok .nilFunc w:=qkr
def yr{sub}{g:Nat->Nd->M Nd}(hs:s.size<=1000)(HF:Lp s n F sub)(hcF:∀args w,(callFunc F args).run jd w=.ok (.enter F args) w)(iC:aR (ja s 0) sub)(yq:lN sub)(hg:∀f a,aR (ja s 0)<|g f a)(h:SX w N rb sb m s k)(hn:(ja s 0).length<=k+1+n)(hr:r=aM sub (g (ja s 0).length) k)(D:∀w k',SX w N rb sb m s k'->∃L,MS jm w b L/\((∃x y,gy w N rb x #[rp rb]/\gy w N rb y #[nM F rb]/\aY (aq<|tk (ja s 0) k') L=some (Q5 x y)/\(∃c,a_ (tk (ja s 0) k') c=true/\(c=gU\/c=dP\/c=fG\/c=du))/\∀f a,g (f+1) a k'=aM (XN (ja s 0) sub (tk (ja s 0) k').text (tk (ja s 0) k).al a) (g f) k')\/aY (aq<|tk (ja s 0) k') L=none/\∀f a,g f a k'=.ok (a,k'))):
 Cq 255 #[rp rb,nM F rb,Mv b] w (ap PE N rb sb m s r w):=by
 have hcO:∀args w,(callFunc 254 args).run jd w=.ok (.enter 254 args) w:=λ_ _=>qkr
 replace D:=ai D
 refine cz.xN h hr λH=>?_;clear hr;have⟨c,ff,z⟩:=h.bx;go_enter func255,ntmps255;go_wp2_with fail;refine H.call (HF _ _ _ _ _ _ h hn) ?_ (st:=hg _);intro a k1 v0 w1 H q V;obtain⟨t0,x0,rfl⟩:=V.iface;have l1:=yq _ _ _ q;clear c ff z V q
 go_wp2
 go_loopg[8] ((ja s 0).length-k1) (λgk v wr=>Pj N rb sb m s k w r g gk v wr)
 case atStart=>exact⟨k1,a,_,H.imp λ_ h=>h.2,ai rfl,l1,ae⟩
 case round=>
  clear H;obtain⟨kr,nd,f,H,c_,hle,hfu⟩:=hrel;have⟨L,hM,Y⟩:=uh D _ _ H.sx;have hl:=dZ hM jf (Lq _)<|aq<|tk (ja s 0) kr;have VT:=H.sx.lt;obtain⟨tv,xv,rfl⟩:=H.p.iface;have⟨c,ff,z⟩:=H.sx.bx;obtain⟨x,y,bx,yb,hq,⟨o,ho,hO⟩,E⟩|⟨hq,E⟩:=Y
  .obtain⟨f,rfl⟩:∃f',f=f'+1:=⟨f-1,ae⟩;simp only[hq,kh]at hl;have HC:=ahm hs HF hcF iC H.sx ae (by rw[vY ho];exact hO) (Gh ho) (tk (ja s 0) k).al bx yb (P:=λb=>w.heap.size<=b) (λb p=>by have p':w.heap.size<=b:=p;have:=H.rz.1;omega) H.p;have H:=H.re<|E f nd;clear E ho hO;go_wp2_with fail;refine H.op yq HC ?_ (st:=hg _);intro a k2 t x w1 H l2;clear HC bx yb c ff z hl hM hq
   go_wp2
   go_roundg((ja s 0).length-k2)
   case measure=>rw[uh c_];omega
   case rel=>exact⟨k2,_,f,H,ai rfl,ae,ae⟩
  .simp only[hq,kh]at hl;have H:=H.re (g':=λk=>.ok (nd,k))<|E f nd;clear E
   go_wp2
   go_ret;exact H.done id
def Ls{n}(hs:s.size<=1000)(hT:(ja s 0).length<=1001)(HF:Lp s n 206 (dr (ja s 0)<|vX s n))(iC:aR (ja s 0) (dr (ja s 0)<|vX s n))(yq:lN (dr (ja s 0)<|vX s n))(h:SX w N rb sb m s k)(hn:(ja s 0).length<=k+1+n)(so:m.h=Mv b):
 Cq 255 #[rp rb,nM 206 rb,Mv b] w (ap PE N rb sb m s (fK (ja s 0) (dr (ja s 0)<|vX s n) k) w):=
 yr hs HF (λ_ _=>qkr) iC yq (g:=kg (ja s 0) (dr (ja s 0)<|vX s n) (tk (ja s 0) k).al) (λf a=>nS _ _ _ _) h hn rfl λw k' S=>by
  have⟨x0,y0,h0,g0,b',e,_,_,hM⟩:=S.ev.mp.pr;rw[so]at e
  cases e
  refine⟨_,hM,?_⟩
  cases hb:a_ (tk (ja s 0) k') fG
  .exact .inr ⟨rY (dX s k' S.lt) S.ok (by simp[hb];decide),λ_ _=>R_ hb⟩
  .exact .inl ⟨x0,y0,h0,g0,by rw[fQ hb];rfl,⟨_,hb,ag⟩,λf a=>by rw[vY hb];exact XO hb⟩
def Sa{n}(hs:s.size<=1000)(hT:(ja s 0).length<=1001)(HF:Lp s n 205 (fK (ja s 0)<|dr (ja s 0)<|vX s n))(iC:aR (ja s 0) (fK (ja s 0)<|dr (ja s 0)<|vX s n))(yq:lN (fK (ja s 0)<|dr (ja s 0)<|vX s n))(h:SX w N rb sb m s k)(hn:(ja s 0).length<=k+1+n)(so:m.g=Mv b):
 Cq 255 #[rp rb,nM 205 rb,Mv b] w (ap PE N rb sb m s (uV (ja s 0) (fK (ja s 0)<|dr (ja s 0)<|vX s n) k) w):=
 yr hs HF (λ_ _=>qkr) iC yq (g:=qU (ja s 0) (fK (ja s 0)<|dr (ja s 0)<|vX s n) (tk (ja s 0) k).al) (λf a=>pO _ _ _ _) h hn rfl λw k' S=>by
  have⟨x0,y0,x1,y1,h0,g0,h1,g1,b',e,_,_,hM⟩:=S.ev.mp.sm;rw[so]at e
  cases e
  refine⟨_,hM,?_⟩
  cases hb:a_ (tk (ja s 0) k') gU
  .cases hc:a_ (tk (ja s 0) k') dP
   .exact .inr ⟨rY (dX s k' S.lt) S.ok (by simp[hb,hc];decide),λ_ _=>XP hb hc⟩
   .exact .inl ⟨x1,y1,h1,g1,by rw[fQ hc];rfl,⟨_,hc,ag⟩,λf a=>Pk<|.inr hc⟩
  .exact .inl ⟨x0,y0,h0,g0,by rw[fQ hb];rfl,⟨_,hb,ag⟩,λf a=>Pk<|.inl hb⟩
def SX.hm(h:SX w N rb sb m s k):∃b,m.h=Mv b:=by
 have⟨x0,y0,h0,g0,b',e,_,_,hM⟩:=h.ev.mp.pr;exact⟨b',e⟩
def SX.gm(h:SX w N rb sb m s k):∃b,m.g=Mv b:=by
 have⟨x0,y0,x1,y1,h0,g0,h1,g1,b',e,_,_,hM⟩:=h.ev.mp.sm;exact⟨b',e⟩
def Lt:lN (vX s n):=cy (tn n) (cX n) 3
def ys:aR (ja s 0) (vX s n):=mj _ _ _
def abe(hs:s.size<=1000)(hT:(ja s 0).length<=1001)(IH:eP s n):Lp s n 206 (dr (ja s 0)<|vX s n):=λw N rb sb m k h hn=>ae4 hs hT IH h hn
def XQ{F1 F2}(h:SX w N rb sb m s k)(hF:F1=205/\F2=206/\m.h=Mv b\/F1=204/\F2=205/\m.g=Mv b)(HC:Cq 255 #[rp rb,nM F2 rb,Mv b] w (ap PE N rb sb m s r w)):Cq F1 #[rp rb] w (ap PE N rb sb m s r w):=by
 have⟨c,ff,z⟩:=h.bx;obtain⟨rfl,rfl,so⟩|⟨rfl,rfl,so⟩:=hF
 all_goals(
  first
  |go_enter func205,ntmps205
  |go_enter func204,ntmps204
  go_wp2_with fail;refine HC.mono ?_;intro e w1 hp
  cases hA:fin (ja s 0) r with
  |error f'=>
   obtain⟨rfl,VR⟩:=hp.bad hA;exact⟨rfl,hp⟩
  |ok r=>
  obtain⟨a,k2⟩:=r;obtain⟨v,rfl,_,_,hR⟩:=hp.ok hA;obtain⟨tv,xv,rfl⟩:=hR.iface
  go_wp2
  go_ret
  exact hp)
def Lu(hs:s.size<=1000)(hT:(ja s 0).length<=1001)(IH:eP s n):Lp s n 205 (fK (ja s 0)<|dr (ja s 0)<|vX s n):=by
 intro w N rb sb m k h hn;have⟨b,so⟩:=h.hm;exact XQ h (.inl ⟨rfl,rfl,so⟩)<|Ls hs hT (abe hs hT IH) (mn ys) (rT Lt) h hn so
def ae7(hs:s.size<=1000)(hT:(ja s 0).length<=1001)(IH:eP s n):Lp s n 204 (uV (ja s 0)<|fK (ja s 0)<|dr (ja s 0)<|vX s n):=by
 intro w N rb sb m k h hn;have⟨b,so⟩:=h.gm;exact XQ h (.inr ⟨rfl,rfl,so⟩)<|Sa hs hT (Lu hs hT IH) (pP<|mn ys) (yj<|rT Lt) h hn so
def Dp(hs:s.size<=1000)(hT:(ja s 0).length<=1001)(IH:eP s n)(h:SX w N rb sb m s k)(hn:(ja s 0).length<=k+1+n):Cq 273 #[rp rb] w (ap PE N rb sb m s (qV (ja s 0) (uV (ja s 0)<|fK (ja s 0)<|dr (ja s 0)<|vX s n) k) w):=by
 have hcO:∀args w,(callFunc 254 args).run Tryz.prog w=.ok (.enter 254 args) w:=λ_ _=>qkr;have hcF:∀args w,(callFunc 204 args).run Tryz.prog w=.ok (.enter 204 args) w:=λ_ _=>qkr;have HF:=ae7 (n:=n) hs hT IH;have iC:aR (Pu.bC s 0) (uV (Pu.bC s 0)<|fK (Pu.bC s 0)<|dr (Pu.bC s 0)<|vX s n):=AK<|pP<|mn ys;have yq:lN (uV (Pu.bC s 0)<|fK (Pu.bC s 0)<|dr (Pu.bC s 0)<|vX s n):=OL<|yj<|rT Lt;obtain⟨-,-,-,-,b,so,-⟩:=h.ev.mp.cm;refine cz.xN h (aaw _ _) λH=>?_;have⟨c,ff,z⟩:=h.bx;go_enter func273,ntmps273;go_wp2_with fail;refine H.call (HF _ _ _ _ _ _ h hn) ?_ (st:=λa=>ug _ _ _);intro a k1 v0 w1 H q V;have l1:=yq _ _ _ q;obtain⟨x0,y0,bx0,by0,b',e,-,-,hM⟩:=H.sx.ev.mp.cm;rw[so]at e
 cases e
 have hl:=λq=>dZ (hM.same (w':=w1.drewN q) rfl) jf (Lq _)<|aq<|tk (ja s 0) k1;have wo:=dZ hM jf (Lq _)<|aq<|tk (ja s 0) k1;have VT:=H.sx.lt;obtain⟨tv,xv,rfl⟩:=V.iface;clear V q;have⟨c,ff,z⟩:=H.sx.bx
 cases hb:a_ (tk (ja s 0) k1) du
 .have H:=H.re (g':=λk=>.ok (a,k)) (by rw[Gn];rw[hb];rfl);simp only[rY (dX s k1 VT) H.sx.ok (L:=[(du,Q5 x0 y0)]) (by simp[hb];decide),kh]at hl wo
  go_wp2
  go_quiet(fail)
  go_wp2
  go_ret;exact(H.af<|below_drewN _ nq).done λh=>h.2
 .have hg:aY (aq<|tk (ja s 0) k1) [(du,Q5 x0 y0)]=some (Q5 x0 y0):=by rw[fQ hb];rfl
  simp only[hg,kh]at hl wo;have H:=H.re (g':=aM (XN (ja s 0) (uV (ja s 0)<|fK (ja s 0)<|dr (ja s 0)<|vX s n) (tk (ja s 0) k1).text (tk (ja s 0) k).al a) λa k=>.ok (a,k)) (by rw[<-CO,vY hb];rw[Gn];rw[if_pos hb];rfl);have HC:=λq=>ahm hs HF hcF iC (H.af<|below_drewN _ q).sx ae (by rw[vY hb];simp) (Gh hb) (tk (ja s 0) k).al (bx0.move (br _) λ_ _ _=>rfl) (by0.move (br _) λ_ _ _=>rfl) (P:=λb=>w.heap.size<=b) (λb p=>by have p':w.heap.size<=b:=p;have:=H.rz.1;omega) (H.af<|below_drewN _ q).p.2
  go_wp2
  go_quiet(fail);go_wp2_with fail;refine(H.af<|below_drewN _ nq).op yq (HC nq) ?_;intro a k2 t x w1 H _
  go_wp2
  go_ret;exact H.done id
abbrev zF:Array Value:=#[Iv 0,Iv 0,Iv 0]
def Ir a b c w:(Instr.typeAssert (.iface 224<|.agg #[a,b,c]) 20 224 true).run jd w=.ok (.tuple #[.agg #[a,b,c],.bool true]) w:=qkr
def yt b(hB:Bx w b zF)f:
 CallsD jd 102 #[Pv b] (.panicking [{v:=Ki f,recovered:=false}]) w λe u' w'=>
  e=.returned (.tuple #[])/\u'=.panicking [{v:=Ki f,recovered:=true}]/\Bx w' b #[Nv f.kind,Nv f.al,Nv f.to]/\Below b w w':=by
 have hta:=Ir;have B0:=ai hB;obtain⟨c,ff,z⟩:=hB;refine callsD_of_wpS Tryz.func102 rfl λde cs hu=>?_;apply wpS_seq;apply wpS_region;simp[wpOpsS,go_sem,recoverD,hu,Tryz.ntmps102,Exit.thenS];rw[show(#[Pv b]++((Array.replicate 16 undef).setIfInBounds 3<|Ki f).setIfInBounds 0 (Ki f))=#[Pv b,Ki f,undef,undef,Ki f,undef,undef,undef,undef,undef,undef,undef,undef,undef,undef,undef,undef]from rfl];obtain⟨CS,yM⟩:∃CS:List Frame,CS=({fn:=de.fn,tmps:=de.tmps,todo:=de.todo,defers:=de.defers,mode:=FrameMode.panicking [{v:=Ki f,recovered:=true}],kind:=de.kind,roundOf:=de.roundOf}::cs):=⟨_,rfl⟩;rw[<-yM];refine wpS_of_wp ?_;go_wp2_with fail;refine⟨rfl,_,yM,.tuple #[],by simp[results,Tryz.results102,go_sem],rfl,rfl,?_,?_⟩
 .exact((B0.fN rfl _ _ _).alloc _)
 .exact((((Below.refl b w).setCell (br _) _).setCell (br _) _).setCell (br _) _).alloc (by simp[World.setCell];omega) _
def ae8 b:
 CallsD jd 102 #[Pv b] .returning w λe u' w'=>
  e=.returned (.tuple #[])/\u'=.returning/\w'=w:=by
 refine callsD_of_wpS Tryz.func102 rfl λde cs hu=>?_;apply wpS_seq;apply wpS_region;simp[wpOpsS,go_sem,recoverD,hu,Tryz.ntmps102,Exit.thenS];rw[show(#[Pv b]++((Array.replicate 16 undef).setIfInBounds 3 Zv).setIfInBounds 0 Zv)=#[Pv b,Zv,undef,undef,Zv,undef,undef,undef,undef,undef,undef,undef,undef,undef,undef,undef,undef]from rfl];have yM:de::cs={de with mode:=.returning}::cs:=(by cases de;simp at hu;subst hu;rfl);refine wpS_of_wp ?_
 go_wp2
 exact⟨rfl,_,yM,.tuple #[],by simp[results,Tryz.results102,go_sem],rfl,rfl,rfl⟩
section
open Go.MapKept Un
section
variable [DecidableEq κ] {enc:κ->Value}
def tB(x:κ):List (κ×Value)->List (κ×Value)
 |[]=>[]|p::l=>if p.1=x then l else p::tB x l
def It(x:κ):∀(L:List (κ×Value)),List.Sublist (tB x L) L
 |[]=>List.Sublist.slnil|p::l=>by
  rw[tB];split
  .exact List.sublist_cons_self _ _
  .exact(It x l).cons_cons p
def v_(x y:κ):∀{L:List (κ×Value)},(L.map (·.1)).Nodup->aY y (tB x L)=if x=y then none else aY y L
 |[],_=>by simp[tB,aY]|p::l,h=>by
  simp only[List.map_cons,List.nodup_cons]at h;unfold tB;by_cases e:p.1=x
  .rw[if_pos e];by_cases q:x=y
   .rw[if_pos q]
    cases hg:aY y l with
    |none=>rfl|some v=>exact absurd (rP.1 (by rw[hg];rfl)) (by rw[<-q,<-e];exact h.1)
   .rw[if_neg q]
    conv=>rhs;unfold aY
    rw[if_neg<|λr=>q<|e.symm.trans r]
  .rw[if_neg e];unfold aY;rw[v_ x y h.2];by_cases q:p.1=y
   .rw[if_pos q,if_pos q,if_neg<|λr=>e<|q.trans r.symm]
   .rw[if_neg q,if_neg q]
def Pl(x:κ):∀(L:List (κ×Value))(es:List MapEntry)(i j:Nat)(u:Value),es.map (λe=>(e.key,e.val))=L.map (λp=>(enc p.1,p.2))->vC x L i=some (j,u)->i<=j/\(es.eraseIdx<|j-i).map (λe=>(e.key,e.val))=(tB x L).map (λp=>(enc p.1,p.2))
 |[],es,i,j,u,_,h=>by simp[vC]at h|p::l,[],i,j,u,h,_=>tP|p::l,e0::es,i,j,u,l9,h=>by
  simp only[List.map_cons,List.cons.injEq,Prod.mk.injEq]at l9;rw[vC]at h;split at h
  .rename_i hp;simp only[Option.some.injEq,Prod.mk.injEq]at h;obtain⟨rfl,rfl⟩:=h;refine⟨br _,?_⟩;simp[tB,hp,l9]
  .rename_i hp;have⟨h1,h4⟩:=Pl x l es (i+1) j u l9.2 h;refine⟨ae,?_⟩;rw[show j-i=(j-(i+1))+1 by omega];simp[tB,hp,h4,l9]
def tC(x:κ):∀(L:List (κ×Value)),aY x L=none->tB x L=L
 |[],_=>rfl|p::l,h=>by
  rw[aY]at h;rw[tB];split
  .rename_i e;rw[if_pos e]at h;cases h
  .rename_i e;rw[if_neg e]at h;rw[tC x l h]
variable {L:List (κ×Value)} {k e t:TypeId}
def Pm{p:Prop}(h:p:=by
 simp[Builtin.delete_,run_underlying ht,MapKept.run_getObj_map hb,K.chk,hf,MapKept.run_setObj_map _ hb,Result.andThen,setBlock]):p:=h
def MG.del(K:KL P k enc (λ_ _=>True))(h:MG enc w b L)(ht:P.underlying t=some (.map k e))x ty:∃o,(Builtin.delete_ #[t,k] ty #[Mv b,enc x]).run P w=.ok (.tuple #[]) (setBlock w b o)/\MG enc (setBlock w b o) b (tB x L):=by
 obtain⟨es,clock,hb,l9,hn,hk,hd⟩:=h;have hf:=K.fin x L es.toList w trivial (λ_ _=>trivial) l9
 cases vD:vC x L 0 with
 |none=>
  rw[vD]at hf;refine⟨.map es clock,?_,es,clock,heap_setBlock_same hb _,?_,hn,hk,?_⟩
  .exact Pm
  .rw[tC x L<|nH x L 0 vD];exact l9
  .rw[tC x L<|nH x L 0 vD];exact hd
 |some p=>
  obtain⟨j,u⟩:=p;rw[vD]at hf;have⟨_,h4⟩:=Pl (enc:=enc) x L es.toList 0 j u l9 vD;have⟨_,e0,h2,_,_⟩:=Ct (enc:=enc) x u L es.toList 0 j u l9 vD;have hjs:j<es.size:=by
   have:=(List.getElem?_eq_some_iff.1 h2).1;simpa using this
  have ajX:(es.eraseIdxIfInBounds j).toList=es.toList.eraseIdx j:=by
   rw[Array.eraseIdxIfInBounds];rw[dif_pos hjs];simp
  refine⟨.map (es.eraseIdxIfInBounds j) clock,?_,_,clock,heap_setBlock_same hb _,?_,?_,?_,?_⟩
  .exact Pm
  .grind
  .grind
  .grind
  .exact hd.sublist ((It x L).map _)
def D6(K:KL P k enc (λ_ _=>True))(ht:P.underlying t=some (.map k e)){ops}{rest}{o}{a}{Q}(hg:o.guard=none)m x(qB:o.op=Op.call {callee:=Callee.builtin Builtin.delete,args:=#[m,x],argTypes:=#[t,k]})(hm:a.eval m=Mv b)(hM:MG enc w b L)key(hx:a.eval x=enc key)(hK:∀w',MG enc w' b (tB key L)->One b w w'->wpList P ops Q rest (a.put o.dst<|.tuple #[]) w'):
 wpList P ops Q (o::rest) a w:=by
 refine wpList_plain hg λK' hK'=>?_;have⟨ob,kJ,r1⟩:=hM.del K ht key o.type;rw[Oper.wp,execOp];simp only[qB,resolve,invoke,builtin,Sem.run_bind,Sem.run_pure,Result.andThen_ok,List.map_toArray,List.map_cons,List.map_nil,hm,hx,kJ];exact hK' _ _<|hK _ r1<|One.set w b ob
end
end
section
open Un
def byS:Option (BA×List Nat)->BA
 |none=>⟨#[]⟩|some (c,_)=>pn c
abbrev nA n:=Pv n
def nP:Option Nat->Value
 |none=>.pointer none|some m=>nA m
def slN:Option (BA×List Nat)->Nat
 |none=>0|some (_,l)=>l.length
def gQ(w:World)(ds:List Nat)(sa:Option Addr):Option (BA×List Nat)->Prop
 |none=>True|some (c,l)=>CN c/\l.length<=1001/\(∀m∈l,m∈ds)/\(l=[]\/∃g,sa=some ⟨g,0,none⟩/\¬g∈ds/\g<w.heap.size/\∀i(h:i<l.length),w.cell? ⟨g,i,none⟩=some (nA l[i]))
inductive Iu(nx:Nx):Nat->Nat->Nat->Prop where
 |here{n:Nat}:nx n=none->Iu nx n n 0
 |step{n m h k:Nat}:nx n=some m->Iu nx m h k->Iu nx n h (k+1)
def Hd.len{nx}(k:Hd nx n h):∃j,Iu nx n h j:=by
 induction k with
 |here e=>exact⟨0,.here e⟩|step e _ ih=>obtain⟨j,hj⟩:=ih;exact⟨j+1,.step e hj⟩
def Iu.one{nx}{h' j'}(k:Iu nx n h j)(k':Iu nx n h' j'):j=j':=by
 induction k generalizing j' with
 |here e=>cases k' with
  |here=>rfl|step e' _=>grind
 |step e _ ih=>cases k' with
  |here e'=>grind|step e' k'=>grind
def Iu.dQ{nx}{x h j}(k:Iu nx x h j){n hn jn}(kn:Iu nx n hn jn)(bA:j<jn)v:Iu (dQ nx n v) x h j:=by
 induction k with
 | @here x e=>
   have:x≠n:=λq=>by subst q;have:=(Iu.here e).one kn;omega
   exact .here (by simpa[ji,this]using e)
 | @step x m h k e kk ih=>
   have:x≠n:=λq=>by subst q;have:=(Iu.step e kk).one kn;omega
   exact .step (m:=m) (by simpa[ji,this]using e)<|ih ae
structure im str nx ba:Prop where
 mF:∀V,lM str ba V↔lM str nx V
 mh:∀P,tX str nx P->tX str ba P
 eqs:∀P E,jj ba P E->jj nx P E
 jU:∀x h,Hd nx x h->Hd ba x h
 yT:∀n,ba n=none↔nx n=none
def im.refl str nx:im str nx nx:=⟨λ_=>Iff.rfl,λ_ h=>h,λ_ _ h=>h,λ_ _ h=>h,λ_=>Iff.rfl⟩
def im.trans{str}{a b c}(h:im str a b)(k:im str b c):im str a c:=
 ⟨λV=>(k.mF V).trans<|h.mF V,λP q=>k.mh P<|h.mh P q,λP E q=>h.eqs P E<|k.eqs P E q,λx y q=>k.jU x y<|h.jU x y q,λn=>(k.yT n).trans<|h.yT n⟩
def im.short str{nx}{n m k}(h1:nx n=some m)(h2:nx m=some k)(dw:n≠m):im str nx (ji nx n<|some k):=
 ⟨λV=>lM.short h1 h2 dw,λP h=>h.short h1 h2 dw,λP E q=>q.EW h1 h2 dw,λx h j=>j.short h1 h2,λx=>by
  by_cases e:x=n
  .subst e;simp[ji,h1]
  .simp[ji,e]⟩
def hc(nx:Nx)(ds:List Nat):Nat:=(ds.filter λn=>(nx n).isNone).length
def XS{nx}(h:im str nx ba)ds:hc ba ds=hc nx ds:=by
 rw[hc];congr 1;apply List.filter_congr;intro x _;have:=h.yT x
 cases e:ba x<;>cases e':nx x<;>simp[e,e']at this⊢
def Lx{nx}(ha:nx a=none):∀{ds:List Nat},a∈ds->hc (ji nx a<|some b) ds<hc nx ds:=by
 have hle:∀ds:List Nat,hc (ji nx a<|some b) ds<=hc nx ds:=by
  intro ds
  induction ds with
  |nil=>exact br _|cons x l ih=>
   unfold hc at ih⊢;by_cases e:x=a
   .grind
   .have e1:ji nx a (some b) x=nx x:=by simp[ji,e]
    by_cases e2:(nx x).isNone=true
    .grind
    .grind
 intro ds h
 induction ds with
 |nil=>simp at h|cons x l ih=>
  by_cases e:x=a
  .subst e;have h1:hc (ji nx x<|some b) (x::l)=hc (ji nx x<|some b) l:=by
    unfold hc;rw[List.filter_cons_of_neg Nz]
   have h2:hc nx (x::l)=hc nx l+1:=by
    unfold hc;rw[List.filter_cons_of_pos<|by simp[ha]];simp
   have:=hle l;omega
  .have:=ih<|(List.mem_cons.1 h).resolve_left<|λq=>e q.symm;have e1:ji nx a (some b) x=nx x:=by simp[ji,e]
   unfold hc at this⊢;by_cases e2:(nx x).isNone=true
   .grind
   .grind
structure JR str nx ba x y ok:Prop where
 eqs:∀P E,jj ba P E->jj nx P E
 yes:ok=true->(∀V,lM str ba V↔lM str nx V/\V x=V y)/\(∀P,tX str nx P->tX str ba P)/\(∀P E,jj ba P E->E x y)
 no:ok=false->∀V,lM str nx V->V x≠V y
def JR.n9{nx pw}{x}{ok}(h:JR str pw ba a b ok)(e:im str nx pw)(hx:Hd nx x a)(hy:Hd nx y b):JR str nx ba x y ok:=by
 refine⟨λP E q=>e.eqs P E<|h.eqs P E q,λhk=>?_,λhk V hV=>?_⟩
 .have⟨h1,h2,h3⟩:=h.yes hk;refine⟨λV=>?_,λP q=>h2 P<|e.mh P q,λP E q=>?_⟩
  .rw[h1 V,e.mF V];constructor
   .rintro⟨s,t⟩;exact⟨s,by rw[hx.mF s,hy.mF s];exact t⟩
   .rintro⟨s,t⟩;exact⟨s,by rw[<-hx.mF s,<-hy.mF s];exact t⟩
  .have q1:=e.eqs P E<|h.eqs P E q;exact q1.trans _ _ _ (hx.eq q1)<|q1.trans _ _ _ (h3 P E q)<|q1.symm _ _<|hy.eq q1
 .have:=h.no hk V<|(e.mF V).2 hV;rw[hx.mF hV,hy.mF hV];exact this
def JR.same str nx a:JR str nx nx a a true:=⟨λ_ _ q=>q,λ_=>⟨λV=>ag,λ_ q=>q,λP E q=>q.refl a⟩,λh=>JB⟩
def JR.aiU{nx}(ha:nx a=none)(hs:str a=none):JR str nx (ji nx a<|some b) a b true:=
 ⟨λP E q=>(q.iJ ha).1,λ_=>⟨λV=>lM.join ha,λP q=>q.var ha hs,λP E q=>(q.iJ ha).2⟩,λh=>JB⟩
def JR.aiV{nx}(hb:nx b=none)(hs:str b=none):JR str nx (ji nx b<|some a) a b true:=
 ⟨λP E q=>(q.iJ hb).1,λ_=>⟨λV=>(lM.join hb).trans (by constructor<;>rintro⟨s,t⟩<;>exact⟨s,t.symm⟩),λP q=>q.var hb hs,λP E q=>q.symm _ _ (q.iJ hb).2⟩,λh=>JB⟩
def JR.acM{nx}(ha:str a=some (c,l))(hb:str b=some (c',l'))(h:c≠c'\/l.length≠l'.length):JR str nx nx a b false:=by
 refine⟨λ_ _ q=>q,λh=> JB,λ_ V s e=>?_⟩;rw[s.made a c l ha,s.made b c' l' hb]at e;injection e with e1 e2;obtain h|h:=h
 .exact h e1
 .exact h (by have:=congrArg List.length e2;simpa using this)
structure JL str nxu gB(l l':List Nat)j:Prop where
 eqs:∀P E,jj gB P E->jj nxu P E
 mF:∀V,lM str gB V↔lM str nxu V/\∀i(h:i<l.length)(h':i<l'.length),i<j->V l[i]=V l'[i]
 mh:∀P,tX str nxu P->tX str gB P
 prs:∀i(h:i<l.length)(h':i<l'.length),i<j->∀P E,jj gB P E->E l[i] l'[i]
def JL.start str nx l l':JL str nx nx l l' 0:=by
 refine⟨λ_ _ q=>q,λV=>⟨λs=>⟨s,?_⟩,λs=>s.1⟩,λ_ q=>q,?_⟩
 .omega
 .grind
def JL.step{str}{nxu gB ba}{l l'}{j}(h:JL str nxu gB l l' j)(hj:j<l.length)(hj':j<l'.length)(k:JR str gB ba l[j] l'[j] true):JL str nxu ba l l' (j+1):=by
 have⟨k1,k2,k3⟩:=k.yes rfl;refine⟨λP E q=>h.eqs P E<|k.eqs P E q,λV=>?_,λP q=>k2 P<|h.mh P q,λi hi zP Y' P E q=>?_⟩
 .rw[k1 V,h.mF V];constructor
  .rintro⟨⟨s,t⟩,u⟩;refine⟨s,λi hi zP Y'=>?_⟩;by_cases e:i=j
   .subst e;exact u
   .grind
  .grind
 .by_cases e:i=j
  .grind
  .exact h.prs i hi zP ae P E (k.eqs P E q)
def my{V:Nat->Ty}(h:l.map V=l'.map V)i(hi:i<l.length)(zP:i<l'.length):V l[i]=V l'[i]:=by
 have:=congrArg (λx=>x[i]?) h;simpa[hi,zP]using this
def JL.done{nx}(ha:nx a=none)(hs:str a=some (c,l))(iD:str b=some (c,l'))(hl:l.length=l'.length)(h:JL str (ji nx a<|some b) gB l l' l.length):JR str nx gB a b true:=by
 refine⟨λP E q=>((h.eqs P E q).iJ ha).1,λ_=>⟨λV=>?_,λP q=>?_,λP E q=>((h.eqs P E q).iJ ha).2⟩,λh=>JB⟩
 .rw[h.mF V,lM.join ha];constructor
  .grind
  .rintro⟨s,t⟩;refine⟨⟨s,t⟩,λi hi zP _=>?_⟩;rw[s.made a c l hs,s.made b c l' iD]at t;injection t with _ t;exact my t i hi zP
 .have h1:=h.mh _<|q.aH ha hs iD hl;refine h1.ain λE hE m n hm=>?_;have⟨i,hi,e⟩:=List.getElem_of_mem hm;have hi1:i<l.length:=D9;have pT:i<l'.length:=D9;rw[List.getElem_zip]at e;injection e with e1 e2;subst e1;subst e2;exact h.prs i hi1 pT hi1 P E hE
def JL.fail{nx}(ha:nx a=none)(hs:str a=some (c,l))(iD:str b=some (c,l'))(h:JL str (ji nx a<|some b) gB l l' j)(hj:j<l.length)(hj':j<l'.length)(k:JR str gB ba l[j] l'[j] false):JR str nx ba a b false:=by
 refine⟨λP E q=>((h.eqs P E<|k.eqs P E q).iJ ha).1,λh=> JB,λ_ V s e=>?_⟩;have t:=e;rw[s.made a c l hs,s.made b c l' iD]at t;injection t with _ t;have s1:=(h.mF V).2 ⟨(lM.join ha).2 ⟨s,e⟩,λi hi zP _=>my t i hi zP⟩;exact k.no rfl V s1 (my t j hj hj')
def kw(h:CN c):(pn c).toList≠[]:=by
 obtain rfl|rfl|h:=h
 .rw[jM,show(ByteArray.mk #[45,62]).toList=[45,62]from toList_mk [45,62]];simp
 .rw[jN,show(ByteArray.mk #[44]).toList=[44]from toList_mk [44]];simp
 .rw[eJ h];obtain⟨x,r,e,_⟩:=h;rw[e];simp
def ae9(h:CN c)(h':CN c')(e:(pn c).toList=(pn c').toList):c=c':=by
 have f1:=toList_mk [45,62];have f2:=toList_mk [44];obtain rfl|rfl|h:=h<;>obtain rfl|rfl|h':=h'
 .rfl
 .rw[jM,jN,f1,f2]at e;simp at e
 .rw[jM,eJ h',f1]at e;exact absurd e.symm<|cP h' 45 [62] aK
 .rw[jM,jN,f1,f2]at e;simp at e
 .rfl
 .rw[jN,eJ h',f2]at e;exact absurd e.symm<|cP h' 44 [] aK
 .rw[jM,eJ h,f1]at e;exact absurd e<|cP h 45 [62] aK
 .rw[jN,eJ h,f2]at e;exact absurd e<|cP h 44 [] aK
 .rw[eJ h,eJ h']at e;exact toList_inj e
def Sb:(Tryz.prog.info? 187).map (λi=>i.size)=some 5:=qkr
def Iw{tp te}{j}(hu:P.underlying tp=some (.pointer te))(hj:P.info? te=some j)(hjs:j.size≠0)(ha:w.heap[a]? =some (.cells ca ta (0,0)))(hb:w.heap[b]? =some (.cells cb tb (0,0))):(binOp .eql tp (nA a)<|nA b).run P w=.ok (.bool<|decide (a=b)) w:=by
 have hq:(Op.equal tp (nA a)<|nA b).run P w=.ok (decide (a=b)) w:=by
  rw[Op.equal,Op.maxDepth,Op.equalIn];simp only[Sem.run_bind,run_underlying hu,Result.andThen,Go.sizeOf,Go.typeInfo,hj];by_cases e:a=b
  .subst e;simp[hjs,run_sameAddr_same,hj]
  .simp[e,hjs,hj,run_sameAddr_other w (a:=⟨a,0,none⟩) (b:=⟨b,0,none⟩) (by intro q;injection q with q;exact e q) ha hb]
 simp only[binOp];simp[hq]
def XT(ha:w.heap[a]? =some (.cells ca ta (0,0)))(hb:w.heap[b]? =some (.cells cb tb (0,0))):(binOp .eql 116 (nA a)<|nA b).run jd w=.ok (.bool<|decide (a=b)) w:=by
 have⟨j,hj,hjs⟩:=Option.map_eq_some_iff.1 Sb;exact Iw qkr hj ae ha hb
def ae_{nx}(hm:h∈ds)(hn:nx h=none):0<hc nx ds:=by
 rw[hc];apply List.length_pos_of_mem (a:=h);rw[List.mem_filter];exact⟨hm,by simp[hn]⟩
section
variable {w':World} {nx:Nx}
theorem gQ.move{s:Option (BA×List Nat)}(h:gQ w ds sa s)(hs:w.heap.size<=w'.heap.size)(hb:∀b i v,w.cell? ⟨b,i,none⟩=some v->w'.heap[b]? =w.heap[b]?):gQ w' ds sa s:=by
 cases s with
 |none=>trivial|some p=>
  obtain⟨c,l⟩:=p;obtain⟨h1,h2,h3,h4⟩:=h;refine⟨h1,h2,h3,?_⟩;by_cases e:l=[]
  .exact jl e
  .have⟨g,q1,q2,q3,q4⟩:=h4.resolve_left e;refine jk ⟨g,q1,q2,ae,λi hi=>?_⟩;have:=q4 i hi;rw[World.cell?_of_block (a:=⟨g,i,none⟩) (w:=w)<|hb g i _ this];exact this
def gQ.more{s:Option (BA×List Nat)}(h:gQ w ds sa s)(hn:w.heap.size<=n):gQ w (n::ds) sa s:=by
 cases s with
 |none=>trivial|some p=>
  obtain⟨c,l⟩:=p;obtain⟨h1,h2,h3,h4⟩:=h;refine⟨h1,h2,λm hm=>List.mem_cons_of_mem _<|h3 m hm,h4.imp id ?_⟩;rintro⟨g,q1,q2,q3,q4⟩;refine⟨g,q1,λhg=>?_,q3,q4⟩;obtain q|q:=List.mem_cons.1 hg
  .omega
  .exact q2 q
end
structure Ns where
 ds:List Nat
 str:vB
 vr:Nat->Nat
 ly:Nat->Option Addr×Nat
 ty:Nat->Ty
 vl:List Nat
def MS.pY[DecidableEq κ]{enc}{L:List (κ×Value)}(h:MS enc w b L)(i:Nat):w.cell? ⟨b,i,none⟩=none:=by
 obtain⟨es,c,hb,_⟩:=h;simp[World.cell?,hb]
def iQ{i}(h:w.cell? ⟨b,i,none⟩=some v):b<w.heap.size:=by
 by_cases e:b<w.heap.size
 .exact e
 .have:w.heap[b]? =none:=Array.getElem?_eq_none ae;simp[World.cell?,this]at h
section
variable {kb mb:Nat} {G:Ns}
def yu w:(zeroValue 116).run jd w=.ok (.pointer none) w:=qkr
end
end
end Go.Proofs.YtfnkchdeheeiiaaGreatDoor

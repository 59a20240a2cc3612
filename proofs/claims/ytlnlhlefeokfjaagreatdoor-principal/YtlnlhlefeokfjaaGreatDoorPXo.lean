import Derived.Test.YtlnlhlefeokfjaaGreatDoorPQa
import Derived.Test.YtlnlhlefeokfjaaGreatDoorPTm
import Derived.Test.YtlnlhlefeokfjaaGreatDoorPPl
set_option linter.all false
set_option maxRecDepth 100000
set_option maxHeartbeats 2000000
namespace Go.Proofs.YtlnlhlefeokfjaaGreatDoor
open Pu renaming bF->ja,Tok->jc
open Un renaming d_->jd,Eq->jf
open _root_.List renaming mem_cons_of_mem->jh,map_congr_left->ji,getD_eq_getElem?_getD->jj,mem_cons->jk
open Go.Proofs.Tryz renaming prog->jl,underlying209->jm
open Or renaming inr->jo,inl->jp
open Go.Value renaming string->jq
open Go Go.RowKit Proofs.Tryz
variable {ca cb:Array Value} {c c' s:BA} {r:Except Fl (Nd×Nat)} {pe:In.EM} {Γ:In.Env} {mk:In.Mks} {ds l l':List Nat} {T:List jc} {sm:M Nd} {m:MV} {F N a b f h k kb mb n rb sb y:Nat} {vr:Nat->Nat} {ly:Nat->Option Addr×Nat} {ty:Nat->Un.Ty} {x:Nd} {sa:Option Addr} {ta tb:TypeId} {bm gY:Un.Nx} {str:Un.sN} {t:Un.Ty} {v:Value} {w w':World}
section
open Go.ChangeMaps
def aeb{n}(hs:s.size<=1000)(hT:(ja s 0).length<=1001)(IH:fc s n)(h:SX w N rb sb m s k)(hn:(ja s 0).length<=k+1+n)(ho:aX (tk (ja s 0) k) nD=true):
 Cq 129 #[rp rb] w (ap PE N rb sb m s (aH (ja s 0) (bt (ja s 0) n) (da (ja s 0) n) 3 k) w):=by
 have Xh:=ij;have hf2:=kQ;refine cG.AK h (vY ho) λH=>?_;go_enter func129,ntmps129;go_wp2_with fail;refine H.take ?_;intro w1 H;go_wp2_with fail
 cases hc:aX (tk (ja s 0)<|k+1) nO
 .refine H.GB hc ?_;go_wp2_with fail;refine(H.re<|AH hc).expr IH ?_;intro a k2 t2 x2 w2 H l2;go_wp2_with fail
  cases hm:aX (tk (ja s 0) k2) nQ
  .refine H.GB hm ?_;go_wp2_with fail
   cases hl:aX (tk (ja s 0) k2) Gy
   .refine H.GB hl ?_;go_wp2_with fail;refine(H.re<|xT hm λ_=>hl).take ?_;intro w5 H
    go_wp2
    go_ret;exact H.done λ⟨_,A⟩=>A
   .refine(H.re<|Kn hm hl).C8 hl ?_;intro w3 H;go_wp2_with fail;refine H.call (RG hs hT H.sx ae) ?_;intro b k4 v4 w4 H _ V;obtain⟨t4,x4,rfl⟩:=V.iface;go_wp2_with fail;refine H.take ?_;intro w5 H;go_wp2_with fail;refine H.since ?_;intro w6 H
    go_wp2
    go_ret;exact H.done λ⟨⟨_,A⟩,B⟩=>.of _ _ _ _ _ _ _ _ _ A B
  .refine(H.re<|pH hm).C8 hm ?_;intro w3 H;go_wp2_with fail;refine H.expr IH ?_;intro b k4 t4 x4 w4 H l4;go_wp2_with fail;refine H.take ?_;intro w5 H;go_wp2_with fail;refine H.since ?_;intro w6 H
   go_wp2
   go_ret;exact H.done λ⟨⟨_,A⟩,B⟩=>.pr _ _ _ _ _ _ _ _ _ A B
 .refine(H.re<|AG aw hc).C8 hc ?_;intro w2 H;go_wp2_with fail;refine H.since ?_;intro w3 H
  go_wp2
  go_ret;exact H.done λ_=>.unit _ _ _ _ _
def LY(hs:s.size<=1000)(hT:(ja s 0).length<=1001)(IH:fc s n)(h:SX w N rb sb m s k)(hn:(ja s 0).length<=k+1+n)(hb:aK (tk (ja s 0) k) 3=true){x:Nat}(hx:Bx w x #[rp rb]):
 (∃f,a_ (aA<|tk (ja s 0) k) (uj rb x)=some (pA f rb)/\(∀args w,(callFunc f args).run jl w=.ok (.enter f args) w)/\∀W,Bq w W->Cq f #[rp rb] W (ap PE N rb sb m s (aH (ja s 0) (bt (ja s 0) n) (da (ja s 0) n) 3 k) W))\/
 (∃f,a_ (aA<|tk (ja s 0) k) (uj rb x)=some (mY f x)/\(∀args w,(callFunc f args).run jl w=.ok (.enter f args) w)/\∀W,Bq w W->Cq f #[Pv x] W (ap PE N rb sb m s (aH (ja s 0) (bt (ja s 0) n) (da (ja s 0) n) 3 k) W)):=by
 have ho:=eC s k h.lt;obtain hk|hk|hk|hk|hk|⟨h9,hk⟩|hk:=ux ho aw hb
 .refine jo ⟨121,by rw[jN hk];rfl,λ_ _=>qkr,?_⟩;rw[cy hb<|qK ae _];exact λW hW=>(aaf (h.af hW) hs hk x<|hx.below hW).1
 .refine jp ⟨123,by rw[iw hk];rfl,λ_ _=>qkr,?_⟩;rw[cy hb<|qK ae _];exact λW hW=>(afM (h.af hW) hs hk).1
 .refine jo ⟨124,by rw[jO hk];rfl,λ_ _=>qkr,?_⟩;rw[cy hb<|qK ae _];exact λW hW=>(aag (h.af hW) hs hk x<|hx.below hW).1
 .refine jo ⟨126,qBk,λ_ _=>qkr,?_⟩;rw[cy hb<|uy hk qAp];exact λW hW=>(yR (h.af hW) hs (jp hk) x<|hx.below hW).1
 .refine jo ⟨128,qBk,λ_ _=>qkr,?_⟩;rw[cy hb<|uy hk qAp];exact λW hW=>(yR (h.af hW) hs (jo hk) x<|hx.below hW).2.1
 .omega
 .refine jp ⟨129,qBk,λ_ _=>qkr,λW hW=>aeb hs hT IH (h.af hW) hn hk⟩
def Tc(h:SX w N rb sb m s k)(hb:aK (tk (ja s 0) k) 3=false)x:a_ (aA<|tk (ja s 0) k) (uj rb x)=none:=by
 have ho:=eC s k h.lt;have⟨n1,n2,n4,nt,nf,na,no⟩:=xV aw hb;obtain h'|h'|h'|h'|h'|h'|h':=ho.kd
 .exact absurd h' n1
 .exact absurd h' n2
 .rw[iy h'];rfl
 .exact absurd h' n4
 .rw[qI h'];have hz:=ho.s5 h';have q_:∀c:BA,5<c.size->c≠(tk (ja s 0) k).text:=λc hc e=>by rw[e]at hc;omega
  refine GC λp hp=>?_;simp only[uj,jk,List.not_mem_nil,or_false]at hp;obtain rfl|rfl|rfl|rfl|rfl|rfl:=hp
  .exact q_ Gu aw
  .exact q_ J9 aw
  .exact q_ OC aw
  .exact so h' nt
  .exact so h' nf
  .exact so h' no
 .exact absurd h' h.ok
 .rw[jP h'];rfl
def ame(hs:s.size<=1000)(hT:(ja s 0).length<=1001)(IH:fc s n)(h:SX w N rb sb m s k)(hn:(ja s 0).length<=k+1+n){x:Nat}(hM:MS jq w b (uj rb x))(hx:Bx w x #[rp rb]):Tab N rb sb m s PE (aH (ja s 0) (bt (ja s 0) n) (da (ja s 0) n) 3) 3 b w k:=by
 refine⟨_,hM,?_⟩
 cases hc:aK (tk (ja s 0) k) 3
 .exact .inr ⟨rfl,Tc h hc x⟩
 .exact .inl ⟨rfl,(LY hs hT IH h hn hc hx).imp id λ⟨f,h⟩=>⟨f,x,h⟩⟩
def Wh(hs:s.size<=1000)(hT:(ja s 0).length<=1001)(IH:fc s n)(h:SX w N rb sb m s k)(hn:(ja s 0).length<=k+1+n){x:Nat}(hM:MS jq w b (uj rb x))(hx:Bx w x #[rp rb]):
 Cq 179 #[rp rb,Mv b] w (ap PE N rb sb m s (aH (ja s 0) (bt (ja s 0) n) (da (ja s 0) n) 3 k) w):=afO (.inr<|.inr ⟨rfl,rfl⟩) PE.iface h<|ame hs hT IH h hn hM hx
def SX.atom(h:SX w N rb sb m s k)(hb:m.c=Mv b):∃x,Bx w x #[rp rb]/\MS jq w b (uj rb x):=by
 have⟨x,hx,b',e,_,_,hM⟩:=h.ev.mp.at_;rw[hb]at e
 cases e
 exact⟨x,hx.2.2,hM⟩
def SX.mc(h:SX w N rb sb m s k):∃b,m.c=Mv b:=by
 have⟨x,_,b,e,_⟩:=h.ev.mp.at_;exact⟨b,e⟩
abbrev yX s n:=aH (ja s 0) (bt (ja s 0) n) (da (ja s 0) n) 3
def Td N rb sb m s k w r(g:Nat->Nd->M Nd)gk v wr:=
 ∃(kr:Nat)(nd:Nd)(f:Nat),cG N rb sb m s r w rb #[] (g f nd) (λw'=>PE w' (λb=>w.heap.size<=b) nd v) kr wr/\Hid (gk=(ja s 0).length-kr)/\k<kr/\(ja s 0).length<=kr+f
def below_drewN w q:Below n w (w.drewN q):=⟨rfl,rfl,rfl,br _,λ_ _=>rfl⟩
def abv{fr:Nat}(h:aK (tk T k) 3=true):jF T sm fr (f+1) x k=aV sm (λy k'=>jF T sm fr f (.mk 8 jY 0 [x,y] fr (aR T k') fr) k') k:=by
 show(if aK (tk T k) 3=true then _ else _)=_;rw[if_pos h]
def Wi{fr:Nat}(h:aK (tk T k) 3=false):jF T sm fr f x k=.ok (x,k):=by
 cases f with
 |zero=>rfl|succ f=>unfold jF;rw[h];rfl
def ahP(hs:s.size<=1000)(hT:(ja s 0).length<=1001)(IH:fc s n)(h:SX w N rb sb m s k)(hn:(ja s 0).length<=k+1+n):
 Cq 143 #[rp rb] w (ap PE N rb sb m s (db (ja s 0) (yX s n) k) w):=by
 have⟨b,hmc⟩:=h.mc;have⟨x,hx,hM⟩:=h.atom hmc;obtain⟨r,hr⟩:∃r,r=db (Pu.bF s 0) (yX s n) k:=⟨_,rfl⟩;rw[<-hr];refine cG.AK (g:=jF (Pu.bF s 0) (yX s n) (tk (Pu.bF s 0) k).aF (Pu.bF s 0).length) h hr λH=>?_;clear hr;have⟨c,ff,z⟩:=h.bx;go_enter func143,ntmps143;go_wp2_with fail;refine H.call (Wh hs hT IH h hn hM hx) ?_;intro a k1 v0 w1 H q V;obtain⟨t0,x0,rfl⟩:=V.iface;have l1:=cE (wF (T:=(Pu.bF s 0)) n) (dc n) 3 _ _ _ q;clear hx hM c ff z V q
 go_wp2
 go_loopg[4] ((ja s 0).length-k1) (λgk v wr=>Td N rb sb m s k w r (λf nd=>jF (ja s 0) (yX s n) (tk (ja s 0) k).aF f nd) gk v wr)
 case atStart=>exact⟨k1,a,_,H.imp λ_ h=>h.2,ai rfl,l1,ae⟩
 case round=>
  clear H;obtain⟨kr,nd,f,H,cV,hle,hfu⟩:=hrel;have⟨x,hx,hM⟩:=H.sx.atom hmc;have hl:=λq=>eG (hM.same (w':=wr.drewN q) rfl) Tryz.underlying206 (uz _)<|aA<|tk (ja s 0) kr;have Dr:=eG hM Tryz.underlying206 (uz _)<|aA<|tk (ja s 0) kr;have hkr:=H.sx.lt;obtain⟨tv,xv,rfl⟩:=H.p.iface;have⟨c,ff,z⟩:=H.sx.bx
  cases hb:aK (tk (ja s 0) kr) 3
  .simp only[Tc H.sx hb x,lH]at hl Dr
   go_wp2
   go_quiet(fail)
   go_wp2
   go_ret;exact(H.af<|below_drewN _ nq).done id (Wi hb)
  .obtain⟨f,rfl⟩:∃f',f=f'+1:=⟨f-1,ae⟩;obtain⟨F,hg,hcf,HC⟩|⟨F,hg,hcf,HC⟩:=LY hs hT IH H.sx ae hb hx
   all_goals(
    simp only[hg,lH]at hl Dr;clear hg
    go_wp2
    go_quiet(fail);go_wp2_with fail;refine((H.af<|below_drewN _ nq).re<|abv hb).call (HC _<|below_drewN _ nq) ?_;intro a k2 v1 w1 H q V;obtain⟨t1,x1,rfl⟩:=V.iface;have l2:=cE (wF (T:=(ja s 0)) n) (dc n) 3 _ _ _ q;clear HC hcf c ff z hl Dr hM hx V q;go_wp2_with fail;refine H.since ?_;intro w2 H
    go_wp2
    go_roundg((ja s 0).length-k2)
    case measure=>rw[uh cV];omega
    case rel=>exact⟨k2,_,f,(H.re rfl).imp λ_ h=>PE.call _ _ _ _ _ _ _ _ _ h.1 h.2,ai rfl,ae,ae⟩)
def opM(T:List jc)(sub:M Nd)(op:BA)(fr:Nat)(x:Nd):M Nd:=λk=>aV sub (λy k'=>.ok (.mk 7 op 0 [x,y] fr (aR T k') fr,k'))<|k+1
def ahQ{sub}{op}{fr:Nat}:opM T sub op fr x k=aV rE (λ_=>aV sub<|λy k'=>.ok (.mk 7 op 0 [x,y] fr (aR T k') fr,k')) k:=rfl
def abw{sub}{fr:Nat}(h:aX (tk T k) jB=true):mL T sub fr (f+1) x k=aV (opM T sub jB fr x) (mL T sub fr f) k:=by
 show(if aX (tk T k) jB=true then _ else _)=_;rw[if_pos h];unfold opM aV;dsimp only
 cases sub (k+1)<;>rfl
def Wj{sub}{fr:Nat}(h:aX (tk T k) jB=false):mL T sub fr f x k=.ok (x,k):=by
 cases f with
 |zero=>rfl|succ f=>unfold mL;rw[h];rfl
def Te{sub}{fr:Nat}(h:aX (tk T k) lB=true\/aX (tk T k) gp=true):vW T sub fr (f+1) x k=aV (opM T sub (tk T k).text fr x) (vW T sub fr f) k:=by
 show(if aX (tk T k) lB=true\/aX (tk T k) gp=true then _ else _)=_;rw[if_pos h];unfold opM aV;dsimp only
 cases sub (k+1)<;>rfl
def abx{sub}{fr:Nat}(h:aX (tk T k) lB=false)(h':aX (tk T k) gp=false):vW T sub fr f x k=.ok (x,k):=by
 cases f with
 |zero=>rfl|succ f=>unfold vW;rw[h,h'];rfl
def yY{t:jc}(h:aX t c=true):t.text=c:=by grind[aX,afN]
def PEo(P:Nat->Prop)w(Q:Nat->Prop)a v:=PE w (λb=>P b\/Q b) a v
def ahR a b c d w:(Instr.field 203 (.agg #[a,b,c,d]) 2).run jl w=.ok d w:=qkr
def Pk s n F(sub:M Nd):=∀(w:World)(N rb sb:Nat)(m:MV)(k:Nat),SX w N rb sb m s k->(ja s 0).length<=k+1+n->Cq F #[rp rb] w (ap PE N rb sb m s (sub k) w)
def akl{sub}(hs:s.size<=1000)(HF:Pk s n F sub)(hcf:∀args w,(callFunc F args).run jl w=.ok (.enter F args) w)(jA:aS (ja s 0) sub)(h:SX w N rb sb m s k)(hn:(ja s 0).length<=k+1+n)(sG:(tk (ja s 0) k).text=lB\/(tk (ja s 0) k).text=gp\/(tk (ja s 0) k).text=jB\/(tk (ja s 0) k).text=iC)(h7:(tk (ja s 0) k).kind≠7)fr{x}(hx:gX w N rb x #[rp rb])(hy:gX w N rb y #[pA F rb]){P}(hP:∀b,P b->b≠rb){nd}(hv:PE w P nd v):
 Cq 177 #[Nv fr,v,Pv x,Pv y] w (ap (PEo P) N rb sb m s (opM (ja s 0) sub (tk (ja s 0) k).text fr nd k) w):=by
 have hf2:=ahR;obtain⟨tv,xv,rfl⟩:=hv.iface;refine cG.AK h ahQ λH=>?_;have H:=((H.add λw' a q=>hx.2.2.same a<|q x hx.2.2.z hx.2.1 hx.2.1).add λw' a q=>hy.2.2.same a<|q y hy.2.2.z hy.2.1 hy.2.1).add λw' a q=>hv.move a (λb p z=>q b z (hP b p)<|hP b p) λ_ p _=>p;clear hx hy hv;have⟨⟨⟨_,c0,f0,z0⟩,c1,f1,z1⟩,_⟩:=H.p;go_enter func177,ntmps177;go_wp2_with fail;refine H.call (aad h hs h7) ?_;intro _ _ _ w1 H q V
 cases V
 cases q
 have⟨⟨⟨⟨_,c0,f0,z0⟩,c1,f1,z1⟩,_⟩,_⟩:=H.p;go_wp2_with fail;refine H.call (HF _ _ _ _ _ _ H.sx ae) ?_;intro a k2 v2 w2 H q V;obtain⟨t2,x2,rfl⟩:=V.iface;clear V q;have⟨⟨⟨⟨⟨_,c0,f0,z0⟩,_⟩,_⟩,_⟩,_⟩:=H.p;go_wp2_with fail;refine H.since ?_;intro w3 H
 go_wp2
 go_ret;exact H.done λ⟨⟨⟨_,A⟩,_⟩,B⟩=>.op _ _ _ _ _ _ _ _ _ sG (A.wide λb p=>jp p)<|B.wide λb p=>jo p
def cG.op{sub}{op}{fr}{nd}{r}{w0}{C}{P}{g}{f}{args}{post}(H:cG N rb sb m s r w0 rb C (aV (opM (ja s 0) sub op fr nd) g) P k w)(Bj:mZ sub)(hC:Cq f args w (ap (PEo<|λb=>w0.heap.size<=b) N rb sb m s (opM (ja s 0) sub op fr nd k) w))(ok:∀a k' t x w',cG N rb sb m s r w0 rb C (g a) (λw'=>PE w' (λb=>w0.heap.size<=b) a<|.iface t<|.agg x) k' w'->k<k'->post (.returned<|.iface t<|.agg x) w')(st:∀a,aS (ja s 0)<|g a:=by exact stl)(bad:∀f' w',ap PE N rb sb m s r w0 (bU f') w'->post (bU f') w':=by exact λ_ _ h=>⟨rfl,h⟩):Cq f args w post:=
 hC.mono λe w' hp=>by
  cases hA:fin (ja s 0) (opM (ja s 0) sub op fr nd k)with
  |error f=>obtain⟨rfl,h⟩:=H.lost hp hA st;exact bad _ _ h
  |ok p=>
   obtain⟨a,j⟩:=p;obtain⟨v,rfl,hb,S,V⟩:=hp.ok hA;obtain⟨t,x,rfl⟩:=PE.iface V;refine ok _ _ t x w' (((H.mv hb S<|H.eq.trans<|nH hA).add λw2 a1 b1=>PE.move V a1 (λb p z=>?_) λb p _=>p.elim id λp=>Nat.le_trans H.ke.size p).imp λ_ h=>h.2) ?_
   .have h1:w0.heap.size<=b:=p.elim id λp=>Nat.le_trans H.ke.size p;have:=H.rz.1;exact b1 b z ae ae
   .have⟨_,j,h1,h2⟩:=aC (m:=sub) (k:=k+1) (r9 hA).1
    cases h2
    have:=Bj _ _ _ h1;omega
def uL{t:jc}(ho:gF t)(h6:t.kind≠6){L}(hL:∀p∈L,p.1.size<=5/\aX t p.1=false):a_ (aA t) L=none:=by grind[aX,a_,aA,GC,uk]
def Pl w:(zeroValue 265).run jl w=.ok .nilFunc w:=qkr
def Bk{sub}{g:Nat->Nd->M Nd}(hs:s.size<=1000)(HF:Pk s n F sub)(hcF:∀args w,(callFunc F args).run jl w=.ok (.enter F args) w)(jA:aS (ja s 0) sub)(Bj:mZ sub)(hg:∀f a,aS (ja s 0)<|g f a)(h:SX w N rb sb m s k)(hn:(ja s 0).length<=k+1+n)(hr:r=aV sub (g (ja s 0).length) k)(D:∀w k',SX w N rb sb m s k'->∃L,MS jq w b L/\((∃x y,gX w N rb x #[rp rb]/\gX w N rb y #[pA F rb]/\a_ (aA<|tk (ja s 0) k') L=some (Vn x y)/\(∃c,aX (tk (ja s 0) k') c=true/\(c=lB\/c=gp\/c=jB\/c=iC))/\∀f a,g (f+1) a k'=aV (opM (ja s 0) sub (tk (ja s 0) k').text (tk (ja s 0) k).aF a) (g f) k')\/a_ (aA<|tk (ja s 0) k') L=none/\∀f a,g f a k'=.ok (a,k'))):
 Cq 178 #[rp rb,pA F rb,Mv b] w (ap PE N rb sb m s r w):=by
 have hcO:∀args w,(callFunc 177 args).run jl w=.ok (.enter 177 args) w:=λ_ _=>qkr
 replace D:=ai D
 refine cG.AK h hr λH=>?_;clear hr;have⟨c,ff,z⟩:=h.bx;go_enter func178,ntmps178;go_wp2_with fail;refine H.call (HF _ _ _ _ _ _ h hn) ?_ (st:=hg _);intro a k1 v0 w1 H q V;obtain⟨t0,x0,rfl⟩:=V.iface;have l1:=Bj _ _ _ q;clear c ff z V q
 go_wp2
 go_loopg[8] ((ja s 0).length-k1) (λgk v wr=>Td N rb sb m s k w r g gk v wr)
 case atStart=>exact⟨k1,a,_,H.imp λ_ h=>h.2,ai rfl,l1,ae⟩
 case round=>
  clear H;obtain⟨kr,nd,f,H,cV,hle,hfu⟩:=hrel;have⟨L,hM,Y⟩:=uh D _ _ H.sx;have hl:=eG hM jm (Pl _)<|aA<|tk (ja s 0) kr;have hkr:=H.sx.lt;obtain⟨tv,xv,rfl⟩:=H.p.iface;have⟨c,ff,z⟩:=H.sx.bx;obtain⟨x,y,bx,yb,hq,⟨o,ho,hO⟩,E⟩|⟨hq,E⟩:=Y
  .obtain⟨f,rfl⟩:∃f',f=f'+1:=⟨f-1,ae⟩;simp only[hq,lH]at hl;have HC:=akl hs HF hcF jA H.sx ae (by rw[yY ho];exact hO) (Kg ho) (tk (ja s 0) k).aF bx yb (P:=λb=>w.heap.size<=b) (λb p=>by have p':w.heap.size<=b:=p;have:=H.rz.1;omega) H.p;have H:=H.re<|E f nd;clear E ho hO;go_wp2_with fail;refine H.op Bj HC ?_ (st:=hg _);intro a k2 t x w1 H l2;clear HC bx yb c ff z hl hM hq
   go_wp2
   go_roundg((ja s 0).length-k2)
   case measure=>rw[uh cV];omega
   case rel=>exact⟨k2,_,f,H,ai rfl,ae,ae⟩
  .simp only[hq,lH]at hl;have H:=H.re (g':=λk=>.ok (nd,k))<|E f nd;clear E
   go_wp2
   go_ret;exact H.done id
def Pm{n}(hs:s.size<=1000)(hT:(ja s 0).length<=1001)(HF:Pk s n 143 (db (ja s 0)<|yX s n))(jA:aS (ja s 0) (db (ja s 0)<|yX s n))(Bj:mZ (db (ja s 0)<|yX s n))(h:SX w N rb sb m s k)(hn:(ja s 0).length<=k+1+n)(rC:m.h=Mv b):
 Cq 178 #[rp rb,pA 143 rb,Mv b] w (ap PE N rb sb m s (fe (ja s 0) (db (ja s 0)<|yX s n) k) w):=
 Bk hs HF (λ_ _=>qkr) jA Bj (g:=mL (ja s 0) (db (ja s 0)<|yX s n) (tk (ja s 0) k).aF) (λf a=>pG _ _ _ _) h hn rfl λw k' S=>by
  have⟨x0,y0,h0,g0,b',e,_,_,hM⟩:=S.ev.mp.pr;rw[rC]at e
  cases e
  refine⟨_,hM,?_⟩
  cases hb:aX (tk (ja s 0) k') jB
  .exact .inr ⟨uL (eC s k' S.lt) S.ok (by simp[hb];decide),λ_ _=>Wj hb⟩
  .exact .inl ⟨x0,y0,h0,g0,by rw[gG hb];rfl,⟨_,hb,ag⟩,λf a=>by rw[yY hb];exact abw hb⟩
def Wk{n}(hs:s.size<=1000)(hT:(ja s 0).length<=1001)(HF:Pk s n 142 (fe (ja s 0)<|db (ja s 0)<|yX s n))(jA:aS (ja s 0) (fe (ja s 0)<|db (ja s 0)<|yX s n))(Bj:mZ (fe (ja s 0)<|db (ja s 0)<|yX s n))(h:SX w N rb sb m s k)(hn:(ja s 0).length<=k+1+n)(rC:m.g=Mv b):
 Cq 178 #[rp rb,pA 142 rb,Mv b] w (ap PE N rb sb m s (ur (ja s 0) (fe (ja s 0)<|db (ja s 0)<|yX s n) k) w):=
 Bk hs HF (λ_ _=>qkr) jA Bj (g:=vW (ja s 0) (fe (ja s 0)<|db (ja s 0)<|yX s n) (tk (ja s 0) k).aF) (λf a=>si _ _ _ _) h hn rfl λw k' S=>by
  have⟨x0,y0,x1,y1,h0,g0,h1,g1,b',e,_,_,hM⟩:=S.ev.mp.sm;rw[rC]at e
  cases e
  refine⟨_,hM,?_⟩
  cases hb:aX (tk (ja s 0) k') lB
  .cases hc:aX (tk (ja s 0) k') gp
   .exact .inr ⟨uL (eC s k' S.lt) S.ok (by simp[hb,hc];decide),λ_ _=>abx hb hc⟩
   .exact .inl ⟨x1,y1,h1,g1,by rw[gG hc];rfl,⟨_,hc,ag⟩,λf a=>Te<|.inr hc⟩
  .exact .inl ⟨x0,y0,h0,g0,by rw[gG hb];rfl,⟨_,hb,ag⟩,λf a=>Te<|.inl hb⟩
def SX.hm(h:SX w N rb sb m s k):∃b,m.h=Mv b:=by
 have⟨x0,y0,h0,g0,b',e,_,_,hM⟩:=h.ev.mp.pr;exact⟨b',e⟩
def SX.gm(h:SX w N rb sb m s k):∃b,m.g=Mv b:=by
 have⟨x0,y0,x1,y1,h0,g0,h1,g1,b',e,_,_,hM⟩:=h.ev.mp.sm;exact⟨b',e⟩
def Pn:mZ (yX s n):=cE (wF n) (dc n) 3
def Bl:aS (ja s 0) (yX s n):=nL _ _ _
def aec(hs:s.size<=1000)(hT:(ja s 0).length<=1001)(IH:fc s n):Pk s n 143 (db (ja s 0)<|yX s n):=λw N rb sb m k h hn=>ahP hs hT IH h hn
def aby{F1 F2}(h:SX w N rb sb m s k)(hF:F1=142/\F2=143/\m.h=Mv b\/F1=141/\F2=142/\m.g=Mv b)(HC:Cq 178 #[rp rb,pA F2 rb,Mv b] w (ap PE N rb sb m s r w)):Cq F1 #[rp rb] w (ap PE N rb sb m s r w):=by
 have⟨c,ff,z⟩:=h.bx;obtain⟨rfl,rfl,rC⟩|⟨rfl,rfl,rC⟩:=hF
 all_goals(
  first
  |go_enter func142,ntmps142
  |go_enter func141,ntmps141
  go_wp2_with fail;refine HC.mono ?_;intro e w1 hp
  cases hA:fin (ja s 0) r with
  |error f'=>
   obtain⟨rfl,IB⟩:=hp.bad hA;exact⟨rfl,hp⟩
  |ok r=>
  obtain⟨a,k2⟩:=r;obtain⟨v,rfl,_,_,hR⟩:=hp.ok hA;obtain⟨tv,xv,rfl⟩:=hR.iface
  go_wp2
  go_ret
  exact hp)
def Po(hs:s.size<=1000)(hT:(ja s 0).length<=1001)(IH:fc s n):Pk s n 142 (fe (ja s 0)<|db (ja s 0)<|yX s n):=by
 intro w N rb sb m k h hn;have⟨b,rC⟩:=h.hm;exact aby h (.inl ⟨rfl,rfl,rC⟩)<|Pm hs hT (aec hs hT IH) (nM Bl) (uK Pn) h hn rC
def ahS(hs:s.size<=1000)(hT:(ja s 0).length<=1001)(IH:fc s n):Pk s n 141 (ur (ja s 0)<|fe (ja s 0)<|db (ja s 0)<|yX s n):=by
 intro w N rb sb m k h hn;have⟨b,rC⟩:=h.gm;exact aby h (.inr ⟨rfl,rfl,rC⟩)<|Wk hs hT (Po hs hT IH) (sk<|nM Bl) (Bf<|uK Pn) h hn rC
def H8(hs:s.size<=1000)(hT:(ja s 0).length<=1001)(IH:fc s n)(h:SX w N rb sb m s k)(hn:(ja s 0).length<=k+1+n):Cq 194 #[rp rb] w (ap PE N rb sb m s (uv (ja s 0) (ur (ja s 0)<|fe (ja s 0)<|db (ja s 0)<|yX s n) k) w):=by
 have hcO:∀args w,(callFunc 177 args).run Tryz.prog w=.ok (.enter 177 args) w:=λ_ _=>qkr;have hcF:∀args w,(callFunc 141 args).run Tryz.prog w=.ok (.enter 141 args) w:=λ_ _=>qkr;have HF:=ahS (n:=n) hs hT IH;have jA:aS (Pu.bF s 0) (ur (Pu.bF s 0)<|fe (Pu.bF s 0)<|db (Pu.bF s 0)<|yX s n):=D_<|sk<|nM Bl;have Bj:mZ (ur (Pu.bF s 0)<|fe (Pu.bF s 0)<|db (Pu.bF s 0)<|yX s n):=SU<|Bf<|uK Pn;obtain⟨-,-,-,-,b,rC,-⟩:=h.ev.mp.cm;refine cG.AK h (adJ _ _) λH=>?_;have⟨c,ff,z⟩:=h.bx;go_enter func194,ntmps194;go_wp2_with fail;refine H.call (HF _ _ _ _ _ _ h hn) ?_ (st:=λa=>xS _ _ _);intro a k1 v0 w1 H q V;have l1:=Bj _ _ _ q;obtain⟨x0,y0,bx0,by0,b',e,-,-,hM⟩:=H.sx.ev.mp.cm;rw[rC]at e
 cases e
 have hl:=λq=>eG (hM.same (w':=w1.drewN q) rfl) jm (Pl _)<|aA<|tk (ja s 0) k1;have Dr:=eG hM jm (Pl _)<|aA<|tk (ja s 0) k1;have hkr:=H.sx.lt;obtain⟨tv,xv,rfl⟩:=V.iface;clear V q;have⟨c,ff,z⟩:=H.sx.bx
 cases hb:aX (tk (ja s 0) k1) iC
 .have H:=H.re (g':=λk=>.ok (a,k)) (by rw[Km];rw[hb];rfl);simp only[uL (eC s k1 hkr) H.sx.ok (L:=[(iC,Vn x0 y0)]) (by simp[hb];decide),lH]at hl Dr
  go_wp2
  go_quiet(fail)
  go_wp2
  go_ret;exact(H.af<|below_drewN _ nq).done λh=>h.2
 .have hg:a_ (aA<|tk (ja s 0) k1) [(iC,Vn x0 y0)]=some (Vn x0 y0):=by rw[gG hb];rfl
  simp only[hg,lH]at hl Dr;have H:=H.re (g':=aV (opM (ja s 0) (ur (ja s 0)<|fe (ja s 0)<|db (ja s 0)<|yX s n) (tk (ja s 0) k1).text (tk (ja s 0) k).aF a) λa k=>.ok (a,k)) (by rw[<-GF,yY hb];rw[Km];rw[if_pos hb];rfl);have HC:=λq=>akl hs HF hcF jA (H.af<|below_drewN _ q).sx ae (by rw[yY hb];simp) (Kg hb) (tk (ja s 0) k).aF (bx0.move (br _) λ_ _ _=>rfl) (by0.move (br _) λ_ _ _=>rfl) (P:=λb=>w.heap.size<=b) (λb p=>by have p':w.heap.size<=b:=p;have:=H.rz.1;omega) (H.af<|below_drewN _ q).p.2
  go_wp2
  go_quiet(fail);go_wp2_with fail;refine(H.af<|below_drewN _ nq).op Bj (HC nq) ?_;intro a k2 t x w1 H _
  go_wp2
  go_ret;exact H.done id
end
section
open Un
structure TdF(t:jc)(vs:List jc)(ms:List Nd):Prop where
 up:oA t.text
 vn:(vs.map (·.text)).Nodup
 vl:vs.length<=900
 vq:∀v∈vs,UG v.text
 ml:ms.length<=900
 mt:∀i(h:i<ms.length),∃s n L f u a,ms[i]=.mk 2 s n L f u a/\L.length<=900/\∀k(hk:k<L.length),ot L[k]/\(aI (vs.map (·.text)) L[k]).2=vs.map (·.text)/\aI (vs.map (·.text)) (es L[k])=aI (vs.map (·.text)) L[k]
structure MkFine(mk:In.Mks):Prop where
 sz:∀x tk m,mk x=some (tk,m)->size (In.arr tk m)<=1000
 wh:∀x tk m,mk x=some (tk,m)->Whole (In.arr tk m)
 vs:∀x tk m,mk x=some (tk,m)->∀n,aB n (In.arr tk m)->aB n m
def In.MF(mk:In.Mks):=∀x tk m,mk x=some (tk,m)->xJ tk/\Wf m
namespace In
open Classical in
mutual
noncomputable def trim:Ty->Ty
 |.var n=>.var n|.aJ c l=>if DZ c l.length then .aJ c (Ew l)else .var 0
noncomputable def Ew:List Ty->List Ty
 |[]=>[]|t::l=>trim t::Ew l
end
def Ex(σ:Nat->Ty):∀l,(aP σ l).length=l.length
 |[]=>rfl|t::l=>by simp[aP,Ex σ l]
mutual
def Bm{θ:Nat->Ty}:∀t,Wf t->trim (sub θ t)=sub (λv=>trim<|θ v) t
 |.var n,_=>rfl|.aJ c l,h=>by
  simp only[sub,trim];rw[if_pos (by rw[Ex];exact h.1),Ey l h.2]
def Ey{θ:Nat->Ty}:∀l,xJ l->Ew (aP θ l)=aP (λv=>trim<|θ v) l
 |[],_=>rfl|t::l,h=>by simp only[aP,Ew];rw[Bm t h.1,Ey l h.2]
end
mutual
def Tf{σ:Nat->Ty}:∀t,sub σ t=trim t->Wf t
 |.var n,_=>trivial|.aJ c l,h=>by
  simp only[sub,trim]at h;by_cases q:DZ c l.length
  .rw[if_pos q]at h;injection h with _ h;exact⟨q,LZ l h⟩
  .rw[if_neg q]at h;cases h
def LZ{σ:Nat->Ty}:∀l,aP σ l=Ew l->xJ l
 |[],_=>trivial|t::l,h=>by
  simp only[aP,Ew]at h;injection h with h1 h2;exact⟨Tf t h1,LZ l h2⟩
end
def yi.wf{θ}{a b:Ty}(h:yi θ a b)(ha:Wf a)(hb:Wf b)v:Wf (θ v):=by
 refine Tf _<|h.gen (λv=>trim<|θ v) ?_ v;rw[<-Bm a ha,<-Bm b hb,h.one]
def kG n:Wf (.var n):=trivial
theorem nu{σ}(h:Wf t)(k:∀n,Wf<|σ n):Wf (sub σ t):=Wf.CR t h λn _=>k n
def FtF(z:Ft):Prop:=z.f.kind=7\/z.f.kind=6/\(Wf z.l/\size z.l<=48)/\Wf z.r/\size z.r<=48
def FtF.six{z:Ft}(h:FtF z)(k:z.f.kind=6):(Wf z.l/\size z.l<=48)/\Wf z.r/\size z.r<=48:=by
 obtain h|h:=h
 .omega
 .exact h.2
def KF(s:St):=∀n,Wf<|s.k n
def EF(Γ:Env):=∀y c,Γ y=some c->Wf c.of
def Hf{α:Type}(m:MM α)s(Q:α->Prop):=∀o,m s o->match o with
 |.ok (a,s')=>Q a/\KF s'|.error z=>FtF z
section
variable {α β:Type} {s:St}
def Hf.ret{a}{Q:α->Prop}(h:Q a)(k:KF s):Hf (cH a) s Q:=by grind[KF,Hf,cH]
def Hf.and{m}{g}{Q:α->Prop}{R:β->Prop}(h:Hf m s Q)(k:∀a s',Q a->KF s'->Hf (g a) s' R):Hf (andM m g) s R:=by grind[Hf,KF,andM]
def Hf.no{Q:α->Prop}:Hf noM s Q:=λ_ q=>q.elim
def Hf.ite{c:Prop}[Decidable c]{m m'}{Q:α->Prop}(h:c->Hf m s Q)(k:¬c->Hf m' s Q):Hf (if c then m else m') s Q:=Cc
def yJ f t:FtF (q_ f t):=.inl rfl
def wI(k:KF s):Hf jH s λ_=>True:=by simp_all[KF,Hf,jH]
def rJ(k:KF s){a b:Ty}(ha:Wf a)(hb:Wf b)f t:Hf (sW a b f t) s λ_=>True:=λo q=>by
 have h1:=nu ha k;have h2:=nu hb k;obtain⟨_,rfl⟩|⟨z1,z2,⟨θ,hm,rfl⟩|⟨_,rfl⟩⟩:=q
 .exact yJ f t
 .exact⟨trivial,λn=>nu (k n)<|hm.wf h1 h2⟩
 .exact .inr ⟨rfl,⟨h1,z1⟩,h2,z2⟩
def Tg(k:KF s)l ρ:Hf (tq l ρ) s λ_=>True:=by simp_all[KF,Hf,tq]
def abz ρ(h:Wf t):Wf (sub (via ρ) t):=by grind[Wf,sub,via,nu]
def H9(k:KF s)(h:Wf t)ρ:Hf (rj t ρ) s λq=>Wf q.1:=(Tg k _ _).and λdP _ _ k1=>.ret (abz dP h) k1
def ahT(k:KF s)(ck:EF Γ)x f t:Hf (qT Γ x f t) s Wf:=by
 rw[qT]
 cases hx:Γ x with
 |none=>exact .no|some c=>
  rintro o(⟨_,rfl⟩|⟨_,ρ,s',hd,rfl⟩)
  .exact yJ f t
  .exact⟨abz ρ<|nu (ck x c hx) k,(Tg k _ _ _ hd).2⟩
def ahU{tk}{m}(h:xJ tk)(k:Wf m):Wf (arr tk m):=by
 induction tk with
 |nil=>exact k|cons t tk ih=>exact⟨⟨aw,λ_=>rfl,.inl rfl⟩,h.1,ih h.2,trivial⟩
def Bn:Wf nC:=⟨⟨aw,λe=>(by obtain e|e:=e<;>exact absurd e aw),.inr<|.inr ⟨_,_,toList_mk _,aw,aw⟩⟩,trivial⟩
def yZ:Wf th:=⟨⟨aw,λe=>(by obtain e|e:=e<;>exact absurd e aw),.inr<|.inr ⟨_,_,toList_mk _,aw,aw⟩⟩,trivial⟩
def H_:Wf mP:=⟨⟨aw,λe=>(by obtain e|e:=e<;>exact absurd e aw),.inr<|.inr ⟨_,_,toList_mk _,aw,aw⟩⟩,trivial⟩
def afV{a b:Ty}(ha:Wf a)(hb:Wf b):Wf (l9 a b):=⟨⟨aw,λ_=>rfl,.inl rfl⟩,ha,hb,trivial⟩
def afW{a b:Ty}(ha:Wf a)(hb:Wf b):Wf (tPr a b):=⟨⟨aw,λ_=>rfl,.inr<|.inl rfl⟩,ha,hb,trivial⟩
end
def EF.set(h:EF Γ)x{c}(hc:Wf c.of):EF (cz Γ x c):=λy d q=>by
 rw[cz]at q;split at q
 .grind
 .exact h y d q
theorem EF.over{g Γ}(hg:EF g)(h:EF Γ):EF (over g Γ):=by grind[EF,over]
def PF(p:PM):=∀g s,KF s->EF g->Hf (p g) s λq=>Wf q.1/\EF q.2
def XF(p:EM):=∀Γ s,KF s->EF Γ->Hf (p Γ) s Wf
def Th{p:Prop}(h:p:=by
 unfold dr;by_cases hi:i<ps.length
 .rw[jj,List.getElem?_eq_getElem hi];exact h _<|List.getElem_mem hi
 .rw[jj,List.getElem?_eq_none ae];intro _ _ _ _;exact .no):p:=h
def abA{ps}(h:∀p∈ps,PF p)i:PF (dr ps i):=by
 exact Th
def Pp{ps}(h:∀p∈ps,XF p)i:XF (dr ps i):=by
 exact Th
def Ti:∀(tk:List Ty)(L:List Nd)(ps:List PM),xJ tk->(∀p∈ps,PF p)->∀(g:Env)(ρ:Rn)(s:St),KF s->EF g->Hf (kB tk L ps g ρ) s λq=>EF q.1
 |u::tk,x::L,p::ps,hw,hp,g,ρ,s,k,hg=>by
  rw[kB];refine(hp p ag g s k hg).and λq s1⟨t1,g1⟩k1=>?_;refine(H9 k1 hw.1 ρ).and λi s2 t2 k2=>?_;refine(rJ k2 t1 t2 _ _).and λ_ s3 _ k3=>?_;exact Ti tk L ps hw.2 (λp h=>hp p<|by simp[h]) q.2 i.2 s3 k3 g1
 |[],_,_,_,_,g,ρ,s,k,hg=>.ret hg k|_::_,[],_,_,_,g,ρ,s,k,hg=>.ret hg k|_::_,_::_,[],_,_,g,ρ,s,k,hg=>.ret hg k
def ahV(hm:MF mk)k x L ps(hp:∀p∈ps,PF p):PF (rP mk k x L ps):=by
 intro g s h hg;rw[rP];split
 .exact(wI h).and λv s1 _ k1=>.ret ⟨trivial,hg⟩ k1
 split
 .exact(wI h).and λv s1 _ k1=>.ret ⟨trivial,hg.set _ trivial⟩ k1
 split
 .exact .ret ⟨Bn,hg⟩ h
 split
 .exact .ret ⟨yZ,hg⟩ h
 split
 .exact .ret ⟨H_,hg⟩ h
 split
 .refine(abA hp 0 g s h hg).and λa s1⟨t1,g1⟩k1=>?_;refine(abA hp 1 _ s1 k1 g1).and λb s2⟨t2,g2⟩k2=>?_;exact .ret ⟨afW t1 t2,g2⟩ k2
 cases e:mk x with
 |none=>exact .no|some p=>
  obtain⟨tk,m⟩:=p;have⟨w1,w2⟩:=hm x tk m e;refine(Ti tk L ps w1 hp g Cd s h hg).and λq s1 g1 k1=>?_;refine(H9 k1 w2 q.2).and λi s2 t2 k2=>?_;exact .ret ⟨t2,g1⟩ k2
mutual
def abB{mk:Mks}(hm:MF mk):∀nd,PF<|dv mk nd
 |.mk k s n L f t a=>ahV hm k s L _<|Tj hm L
def Tj{mk:Mks}(hm:MF mk):∀L,∀p∈mA mk L,PF p
 |[],p,h=>by simp[mA]at h|x::l,p,h=>by
  simp only[mA,jk]at h;obtain rfl|h:=h
  .exact abB hm x
  .exact Tj hm l p h
end
def Tk{mk:Mks}(hm:MF mk):∀(L:List Nd)(ps:List EM),(∀p∈ps,XF p)->∀(Γ:Env)(t r:Ty)(s:St),KF s->EF Γ->Wf t->Wf r->Hf (n_ mk Γ t r L ps) s λ_=>True
 |p::e::L,_::pe::ps,hp,Γ,t,r,s,h,ck,ht,hr=>by
  rw[n_];refine(abB hm p _ s h<|λ_ _ q=> mE).and λq s1⟨t1,g1⟩k1=>?_;refine(rJ k1 ht t1 _ _).and λ_ s2 _ k2=>?_;refine(hp pe ag _ s2 k2<|g1.over ck).and λu s3 t3 k3=>?_;refine(rJ k3 hr t3 _ _).and λ_ s4 _ k4=>?_;exact Tk hm L ps (λp h=>hp p<|by simp[h]) Γ t r s4 k4 ck ht hr
 |[],_,_,_,_,_,s,h,_,_,_=>.ret trivial h|[_],_,_,_,_,_,s,h,_,_,_=>.ret trivial h|_::_::_,[],_,_,_,_,s,h,_,_,_=>.ret trivial h|_::_::_,[_],_,_,_,_,s,h,_,_,_=>.ret trivial h
def Aj rc x e(hp:XF pe):XF (ch rc x e pe):=by
 intro Γ s h ck;rw[ch]
 cases rc with
 |false=>exact hp Γ s h ck|true=>
  refine(wI h).and λv s1 _ k1=>?_;refine(hp _ s1 k1<|ck.set x (c:=mono<|.var v)<|kG v).and λt s2 t2 k2=>?_;exact(rJ k2 (kG v) t2 _ _).and λ_ s3 _ k3=>.ret t2 k3
def abC rc x e{pf}(hp:XF pe)(hf:XF pf):XF (qR rc x e pe pf):=by
 intro Γ s h ck;refine(Aj rc x e hp Γ s h ck).and λt s1 t1 k1=>?_;exact hf _ s1 k1<|ck.set x<|nu t1 k1
def ahW(hm:MF mk)k x L f t ps(hp:∀p∈ps,XF p)(hL:k=14->Wf (aI []<|es<|iV L 1).1):XF (li mk k x L f t ps):=by
 intro Γ s h ck;have h0:=Pp hp 0;have h1:=Pp hp 1;have h2:=Pp hp 2;rw[li];refine .ite (λ_=>?_) λ_=>?_
 .exact ahT h ck _ _ _
 refine .ite (λ_=>?_) λ_=>?_
 .rw[upM]
  cases e:mk x with
  |none=>exact .no|some p=>
   obtain⟨tk,m⟩:=p;have⟨w1,w2⟩:=hm x tk m e;exact(H9 h (ahU w1 w2) Cd).and λq s1 t1 k1=>.ret t1 k1
 refine .ite (λ_=>?_) λ_=>?_
 .exact .ret Bn h
 refine .ite (λ_=>?_) λ_=>?_
 .exact .ret yZ h
 refine .ite (λ_=>?_) λ_=>?_
 .exact .ret H_ h
 refine .ite (λ_=>?_) λ_=>?_
 .refine(h0 Γ s h ck).and λa s1 t1 k1=>?_;exact(h1 Γ s1 k1 ck).and λb s2 t2 k2=>.ret (afW t1 t2) k2
 refine .ite (λe=>?_) λ_=>?_
 .refine .ite (λ_=>?_) λ_=>.no;refine(h0 Γ s h ck).and λa s1 t1 k1=>?_;exact(rJ k1 t1 (hL e) _ _).and λ_ s2 _ k2=>.ret (hL e) k2
 refine .ite (λ_=>?_) λ_=>?_
 .refine(h0 Γ s h ck).and λa s1 t1 k1=>?_;refine(rJ k1 t1 Bn _ _).and λ_ s2 _ k2=>?_;refine(h1 Γ s2 k2 ck).and λb s3 t3 k3=>?_;refine(rJ k3 t3 Bn _ _).and λ_ s4 _ k4=>.ret ?_ k4;split
  .exact yZ
  .exact Bn
 refine .ite (λ_=>?_) λ_=>?_
 .refine(h0 Γ s h ck).and λa s1 t1 k1=>?_;refine(h1 Γ s1 k1 ck).and λb s2 t2 k2=>?_;refine(wI k2).and λv s3 _ k3=>?_;exact(rJ k3 t1 (afV t2<|kG v) _ _).and λ_ s4 _ k4=>.ret (kG v) k4
 refine .ite (λ_=>?_) λ_=>?_
 .refine(wI h).and λv s1 _ k1=>?_;exact(h0 _ s1 k1<|ck.set _ (c:=mono<|.var v)<|kG v).and λa s2 t2 k2=>.ret (afV (kG v) t2) k2
 refine .ite (λ_=>?_) λ_=>?_
 .exact abC _ _ _ h0 h1 Γ s h ck
 refine .ite (λ_=>?_) λ_=>?_
 .exact abC _ _ _ h0 h1 Γ s h ck
 refine .ite (λ_=>?_) λ_=>?_
 .refine(h0 Γ s h ck).and λa s1 t1 k1=>?_;refine(rJ k1 t1 yZ _ _).and λ_ s2 _ k2=>?_;refine(h1 Γ s2 k2 ck).and λb s3 t3 k3=>?_;refine(h2 Γ s3 k3 ck).and λc s4 t4 k4=>?_;exact(rJ k4 t3 t4 _ _).and λ_ s5 _ k5=>.ret t3 k5
 refine .ite (λ_=>?_) λ_=>?_
 .refine(h0 Γ s h ck).and λa s1 t1 k1=>?_;refine(wI k1).and λv s2 _ k2=>?_;exact(Tk hm L.tail ps.tail (λp h=>hp p<|List.mem_of_mem_tail h) Γ a _ s2 k2 ck t1<|kG v).and λ_ s3 _ k3=>.ret (kG v) k3
 .exact .no
mutual
def NW:Nd->Prop
 |.mk k _ _ L _ _ _=>(k=14->Wf (aI []<|es<|iV L 1).1)/\NWL L
def NWL:List Nd->Prop
 |[]=>True|x::l=>NW x/\NWL l
end
mutual
def YZ{mk:Mks}(hm:MF mk):∀nd,NW nd->XF (inf mk nd)
 |.mk k s n L f t a,h=>ahW hm k s L f t _ (abD hm L h.2) h.1
def abD{mk:Mks}(hm:MF mk):∀L,NWL L->∀p∈qQ mk L,XF p
 |[],_,p,h=>by simp[qQ]at h|x::l,hn,p,h=>by
  simp only[qQ,jk]at h;obtain rfl|h:=h
  .exact YZ hm x hn.1
  .exact abD hm l hn.2 p h
end
end In
end
section
open Go.ChangeMaps Un
def byS:Option (BA×List Nat)->BA
 |none=>⟨#[]⟩|some (c,_)=>pn c
abbrev nA n:=Pv n
def nP:Option Nat->Value
 |none=>.pointer none|some m=>nA m
def slN:Option (BA×List Nat)->Nat
 |none=>0|some (_,l)=>l.length
def fB(w:World)(ds:List Nat)(sa:Option Addr):Option (BA×List Nat)->Prop
 |none=>True|some (c,l)=>CN c/\l.length<=1001/\(∀m∈l,m∈ds)/\(l=[]\/∃g,sa=some ⟨g,0,none⟩/\¬g∈ds/\g<w.heap.size/\∀i(h:i<l.length),w.cell? ⟨g,i,none⟩=some (nA l[i]))
def Bo(w:World)(ds:List Nat)(str:sN)(nx:Nx)(vr:Nat->Nat)(ly:Nat->Option Addr×Nat)(n:Nat):Prop:=
 w.heap[n]? =some (.cells #[nP<|nx n,Iv 0,Nv<|vr n,.string<|byS<|str n,.slice (ly n).1 (slN<|str n) (ly n).2] 171 (0,0))/\fB w ds (ly n).1 (str n)/\∀m,nx n=some m->m∈ds
structure GN(w:World)(ds:List Nat)(str:sN)(nx:Nx)(vr:Nat->Nat)(ly:Nat->Option Addr×Nat):Prop where
 nd:∀n,n∈ds->Bo w ds str nx vr ly n
 out:∀n,¬n∈ds->nx n=none/\str n=none
 hd:∀n,n∈ds->∃h,Hd nx n h
inductive L0(nx:Nx):Nat->Nat->Nat->Prop where
 |here{n:Nat}:nx n=none->L0 nx n n 0
 |step{n m h k:Nat}:nx n=some m->L0 nx m h k->L0 nx n h (k+1)
def Hd.len{nx}(k:Hd nx n h):∃j,L0 nx n h j:=by
 induction k with
 |here e=>exact⟨0,.here e⟩|step e _ ih=>obtain⟨j,hj⟩:=ih;exact⟨j+1,.step e hj⟩
def L0.one{nx}{n h j h' j':Nat}(k:L0 nx n h j)(k':L0 nx n h' j'):j=j':=by
 induction k generalizing j' with
 |here e=>cases k' with
  |here=>rfl|step e' _=>grind
 |step e _ ih=>cases k' with
  |here e'=>grind|step e' k'=>grind
def L0.d_{nx}{x h j}(k:L0 nx x h j){n hn jn}(kn:L0 nx n hn jn)(bA:j<jn)v:L0 (d_ nx n v) x h j:=by
 induction k with
 | @here x e=>
   have:x≠n:=λq=>by subst q;have:=(L0.here e).one kn;omega
   exact .here (by simpa[jd,this]using e)
 | @step x m h k e kk ih=>
   have:x≠n:=λq=>by subst q;have:=(L0.step e kk).one kn;omega
   exact .step (m:=m) (by simpa[jd,this]using e)<|ih ae
structure iQ str nx bm:Prop where
 lj:∀V,kY str bm V↔kY str nx V
 mY:∀P,sP str nx P->sP str bm P
 eqs:∀P E,jf bm P E->jf nx P E
 kK:∀x h,Hd nx x h->Hd bm x h
 B_:∀n,bm n=none↔nx n=none
def iQ.refl str nx:iQ str nx nx:=⟨λ_=>Iff.rfl,λ_ h=>h,λ_ _ h=>h,λ_ _ h=>h,λ_=>Iff.rfl⟩
def iQ.trans{str}{a b c}(h:iQ str a b)(k:iQ str b c):iQ str a c:=
 ⟨λV=>(k.lj V).trans<|h.lj V,λP q=>k.mY P<|h.mY P q,λP E q=>h.eqs P E<|k.eqs P E q,λx y q=>k.kK x y<|h.kK x y q,λn=>(k.B_ n).trans<|h.B_ n⟩
def iQ.short str{nx}{n m k}(h1:nx n=some m)(h2:nx m=some k)(cR:n≠m):iQ str nx (jd nx n<|some k):=
 ⟨λV=>kY.short h1 h2 cR,λP h=>h.short h1 h2 cR,λP E q=>q.JO h1 h2 cR,λx h j=>j.short h1 h2,λx=>by
  by_cases e:x=n
  .subst e;simp[jd,h1]
  .simp[jd,e]⟩
def Bo.cells{nx}(h:Bo w ds str nx vr ly n):w.cell? ⟨n,0,none⟩=some (nP<|nx n)/\w.frozen? ⟨n,0,none⟩=false/\w.cell? ⟨n,3,none⟩=some (.string<|byS<|str n)/\w.cell? ⟨n,2,none⟩=some (Nv<|vr n)/\w.cell? ⟨n,4,none⟩=some (.slice (ly n).1 (slN<|str n) (ly n).2):=by
 obtain⟨h1,_⟩:=h;exact⟨qBu,by simp[World.frozen?,h1],qBu,qBu,qBu⟩
def hc(nx:Nx)(ds:List Nat):Nat:=(ds.filter λn=>(nx n).isNone).length
def abE{nx}(h:iQ str nx bm)ds:hc bm ds=hc nx ds:=by
 rw[hc];congr 1;apply List.filter_congr;intro x _;have:=h.B_ x
 cases e:bm x<;>cases e':nx x<;>simp[e,e']at this⊢
def Pq{nx}(ha:nx a=none):∀{ds:List Nat},a∈ds->hc (jd nx a<|some b) ds<hc nx ds:=by
 have hle:∀ds:List Nat,hc (jd nx a<|some b) ds<=hc nx ds:=by
  intro ds
  induction ds with
  |nil=>exact br _|cons x l ih=>
   unfold hc at ih⊢;by_cases e:x=a
   .grind
   .have e1:jd nx a (some b) x=nx x:=by simp[jd,e]
    by_cases e2:(nx x).isNone=true
    .grind
    .grind
 intro ds h
 induction ds with
 |nil=>simp at h|cons x l ih=>
  by_cases e:x=a
  .subst e;have h1:hc (jd nx x<|some b) (x::l)=hc (jd nx x<|some b) l:=by
    unfold hc;rw[List.filter_cons_of_neg Ob]
   have h2:hc nx (x::l)=hc nx l+1:=by
    unfold hc;rw[List.filter_cons_of_pos<|by simp[ha]];simp
   have:=hle l;omega
  .have:=ih<|(List.mem_cons.1 h).resolve_left<|λq=>e q.symm;have e1:jd nx a (some b) x=nx x:=by simp[jd,e]
   unfold hc at this⊢;by_cases e2:(nx x).isNone=true
   .grind
   .grind
structure JR str nx bm x y ok:Prop where
 eqs:∀P E,jf bm P E->jf nx P E
 yes:ok=true->(∀V,kY str bm V↔kY str nx V/\V x=V y)/\(∀P,sP str nx P->sP str bm P)/\(∀P E,jf bm P E->E x y)
 no:ok=false->∀V,kY str nx V->V x≠V y
def JR.pN{nx oD}{x}{ok}(h:JR str oD bm a b ok)(e:iQ str nx oD)(hx:Hd nx x a)(hy:Hd nx y b):JR str nx bm x y ok:=by
 refine⟨λP E q=>e.eqs P E<|h.eqs P E q,λhk=>?_,λhk V hV=>?_⟩
 .have⟨h1,h2,h3⟩:=h.yes hk;refine⟨λV=>?_,λP q=>h2 P<|e.mY P q,λP E q=>?_⟩
  .rw[h1 V,e.lj V];constructor
   .rintro⟨s,t⟩;exact⟨s,by rw[hx.lj s,hy.lj s];exact t⟩
   .rintro⟨s,t⟩;exact⟨s,by rw[<-hx.lj s,<-hy.lj s];exact t⟩
  .have q1:=e.eqs P E<|h.eqs P E q;exact q1.trans _ _ _ (hx.eq q1)<|q1.trans _ _ _ (h3 P E q)<|q1.symm _ _<|hy.eq q1
 .have:=h.no hk V<|(e.lj V).2 hV;rw[hx.lj hV,hy.lj hV];exact this
def JR.same str nx a:JR str nx nx a a true:=⟨λ_ _ q=>q,λ_=>⟨λV=>ag,λ_ q=>q,λP E q=>q.refl a⟩,λh=>MO⟩
def JR.amf{nx}(ha:nx a=none)(hs:str a=none):JR str nx (jd nx a<|some b) a b true:=
 ⟨λP E q=>(q.jL ha).1,λ_=>⟨λV=>kY.join ha,λP q=>q.var ha hs,λP E q=>(q.jL ha).2⟩,λh=>MO⟩
def JR.amg{nx}(hb:nx b=none)(hs:str b=none):JR str nx (jd nx b<|some a) a b true:=
 ⟨λP E q=>(q.jL hb).1,λ_=>⟨λV=>(kY.join hb).trans (by constructor<;>rintro⟨s,t⟩<;>exact⟨s,t.symm⟩),λP q=>q.var hb hs,λP E q=>q.symm _ _ (q.jL hb).2⟩,λh=>MO⟩
def JR.afX{nx}(ha:str a=some (c,l))(hb:str b=some (c',l'))(h:c≠c'\/l.length≠l'.length):JR str nx nx a b false:=by
 refine⟨λ_ _ q=>q,λh=> MO,λ_ V s e=>?_⟩;rw[s.made a c l ha,s.made b c' l' hb]at e;injection e with e1 e2;obtain h|h:=h
 .exact h e1
 .exact h (by have:=congrArg List.length e2;simpa using this)
structure JL str nxu gY(l l':List Nat)j:Prop where
 eqs:∀P E,jf gY P E->jf nxu P E
 lj:∀V,kY str gY V↔kY str nxu V/\∀i(h:i<l.length)(h':i<l'.length),i<j->V l[i]=V l'[i]
 mY:∀P,sP str nxu P->sP str gY P
 prs:∀i(h:i<l.length)(h':i<l'.length),i<j->∀P E,jf gY P E->E l[i] l'[i]
def JL.start str nx l l':JL str nx nx l l' 0:=by
 refine⟨λ_ _ q=>q,λV=>⟨λs=>⟨s,?_⟩,λs=>s.1⟩,λ_ q=>q,?_⟩
 .omega
 .grind
def JL.step{str}{nxu gY bm}{l l'}{j}(h:JL str nxu gY l l' j)(hj:j<l.length)(hj':j<l'.length)(k:JR str gY bm l[j] l'[j] true):JL str nxu bm l l' (j+1):=by
 have⟨k1,k2,k3⟩:=k.yes rfl;refine⟨λP E q=>h.eqs P E<|k.eqs P E q,λV=>?_,λP q=>k2 P<|h.mY P q,λi hi zK hij P E q=>?_⟩
 .rw[k1 V,h.lj V];constructor
  .rintro⟨⟨s,t⟩,u⟩;refine⟨s,λi hi zK hij=>?_⟩;by_cases e:i=j
   .subst e;exact u
   .grind
  .grind
 .by_cases e:i=j
  .grind
  .exact h.prs i hi zK ae P E (k.eqs P E q)
def nV{V:Nat->Ty}(h:l.map V=l'.map V)i(hi:i<l.length)(zK:i<l'.length):V l[i]=V l'[i]:=by
 have:=congrArg (λx=>x[i]?) h;simpa[hi,zK]using this
def JL.done{nx}(ha:nx a=none)(hs:str a=some (c,l))(jD:str b=some (c,l'))(hl:l.length=l'.length)(h:JL str (jd nx a<|some b) gY l l' l.length):JR str nx gY a b true:=by
 refine⟨λP E q=>((h.eqs P E q).jL ha).1,λ_=>⟨λV=>?_,λP q=>?_,λP E q=>((h.eqs P E q).jL ha).2⟩,λh=>MO⟩
 .rw[h.lj V,kY.join ha];constructor
  .grind
  .rintro⟨s,t⟩;refine⟨⟨s,t⟩,λi hi zK _=>?_⟩;rw[s.made a c l hs,s.made b c l' jD]at t;injection t with _ t;exact nV t i hi zK
 .have h1:=h.mY _<|q.aJ ha hs jD hl;refine h1.alE λE hE m n hm=>?_;have⟨i,hi,e⟩:=List.getElem_of_mem hm;have hi1:i<l.length:=MZ;have rO:i<l'.length:=MZ;rw[List.getElem_zip]at e;injection e with e1 e2;subst e1;subst e2;exact h.prs i hi1 rO hi1 P E hE
def JL.fail{nx}{j}(ha:nx a=none)(hs:str a=some (c,l))(jD:str b=some (c,l'))(h:JL str (jd nx a<|some b) gY l l' j)(hj:j<l.length)(hj':j<l'.length)(k:JR str gY bm l[j] l'[j] false):JR str nx bm a b false:=by
 refine⟨λP E q=>((h.eqs P E<|k.eqs P E q).jL ha).1,λh=> MO,λ_ V s e=>?_⟩;have t:=e;rw[s.made a c l hs,s.made b c l' jD]at t;injection t with _ t;have s1:=(h.lj V).2 ⟨(kY.join ha).2 ⟨s,e⟩,λi hi zK _=>nV t i hi zK⟩;exact k.no rfl V s1 (nV t j hj hj')
def ls(h:CN c):(pn c).toList≠[]:=by
 obtain rfl|rfl|h:=h
 .rw[kq,show(ByteArray.mk #[45,62]).toList=[45,62]from toList_mk [45,62]];simp
 .rw[ku,show(ByteArray.mk #[44]).toList=[44]from toList_mk [44]];simp
 .rw[eS h];obtain⟨x,r,e,_⟩:=h;rw[e];simp
def ahX(h:CN c)(h':CN c')(e:(pn c).toList=(pn c').toList):c=c':=by
 have f1:=toList_mk [45,62];have f2:=toList_mk [44];obtain rfl|rfl|h:=h<;>obtain rfl|rfl|h':=h'
 .rfl
 .rw[kq,ku,f1,f2]at e;simp at e
 .rw[kq,eS h',f1]at e;exact absurd e.symm<|cJ h' 45 [62] aw
 .rw[kq,ku,f1,f2]at e;simp at e
 .rfl
 .rw[ku,eS h',f2]at e;exact absurd e.symm<|cJ h' 44 [] aw
 .rw[kq,eS h,f1]at e;exact absurd e<|cJ h 45 [62] aw
 .rw[ku,eS h,f2]at e;exact absurd e<|cJ h 44 [] aw
 .rw[eS h,eS h']at e;exact toList_inj e
def Wl:(Tryz.prog.info? 171).map (λi=>i.size)=some 5:=qkr
def L7{P}{tp te}{j}(hu:P.underlying tp=some (.pointer te))(hj:P.info? te=some j)(hjs:j.size≠0)(ha:w.heap[a]? =some (.cells ca ta (0,0)))(hb:w.heap[b]? =some (.cells cb tb (0,0))):(binOp .eql tp (nA a)<|nA b).run P w=.ok (.bool<|decide (a=b)) w:=by
 have hq:(Op.equal tp (nA a)<|nA b).run P w=.ok (decide (a=b)) w:=by
  rw[Op.equal,Op.maxDepth,Op.equalIn];simp only[Sem.run_bind,run_underlying hu,Result.andThen,Go.sizeOf,Go.typeInfo,hj];by_cases e:a=b
  .subst e;simp[hjs,run_sameAddr_same,hj]
  .simp[e,hjs,hj,run_sameAddr_other w (a:=⟨a,0,none⟩) (b:=⟨b,0,none⟩) (by intro q;injection q with q;exact e q) ha hb]
 simp only[binOp];simp[hq]
def abF(ha:w.heap[a]? =some (.cells ca ta (0,0)))(hb:w.heap[b]? =some (.cells cb tb (0,0))):(binOp .eql 103 (nA a)<|nA b).run jl w=.ok (.bool<|decide (a=b)) w:=by
 have⟨j,hj,hjs⟩:=Option.map_eq_some_iff.1 Wl;exact L7 qkr hj ae ha hb
def ahY{nx}(hm:h∈ds)(hn:nx h=none):0<hc nx ds:=by
 rw[hc];apply List.length_pos_of_mem (a:=h);rw[List.mem_filter];exact⟨hm,by simp[hn]⟩
def L8(vr:Nat->Nat)(vl:List Nat):List (Int×Value):=vl.map λn=>((vr n:Int),nA n)
def abG{vr:Nat->Nat}{v:Nat}:∀{vl:List Nat},(∀m∈vl,vr m≠v)->a_ (v:Int) (L8 vr vl)=none
 |[],_=>rfl|m::l,h=>by
  have h1:((vr m:Nat):Int)≠(v:Int):=λe=>h m ag ae;have:=abG (vr:=vr) (v:=v) (vl:=l) λx hx=>h x<|jh _ hx;simp only[L8]at this;simp[L8,a_,h1,this]
def Ez{vr:Nat->Nat}{n:Nat}:∀{vl:List Nat},n∈vl->(∀m∈vl,vr m=vr n->m=n)->a_ (vr n:Int) (L8 vr vl)=some (nA n)
 |[],h,_=>yl|m::l,h,k=>by
  by_cases e:vr m=vr n
  .have:=k m ag e;subst this;simp[L8,a_]
  .have h1:((vr m:Nat):Int)≠(vr n:Int):=λq=>e ae;have hl:n∈l:=by
    obtain q|q:=List.mem_cons.1 h
    .subst q;exact absurd rfl e
    .exact q
   have:=Ez (vr:=vr) (n:=n) hl λx hx=>k x<|jh _ hx;simp only[L8]at this;simp[L8,a_,h1,this]
def Tl{vl}{v:Nat}(h:¬n∈vl):L8 (jd vr n v) vl=L8 vr vl:=by
 rw[L8];apply ji;intro m hm;have:m≠n:=λe=>h<|e▸hm;simp[jd,this]
section
variable {nx:Nx}
theorem fB.move{s:Option (BA×List Nat)}(h:fB w ds sa s)(hs:w.heap.size<=w'.heap.size)(hb:∀b i v,w.cell? ⟨b,i,none⟩=some v->w'.heap[b]? =w.heap[b]?):fB w' ds sa s:=by
 cases s with
 |none=>trivial|some p=>
  obtain⟨c,l⟩:=p;obtain⟨h1,h2,h3,h4⟩:=h;refine⟨h1,h2,h3,?_⟩;by_cases e:l=[]
  .exact jp e
  .have⟨g,q1,q2,q3,q4⟩:=h4.resolve_left e;refine jo ⟨g,q1,q2,ae,λi hi=>?_⟩;have:=q4 i hi;rw[World.cell?_of_block (a:=⟨g,i,none⟩) (w:=w)<|hb g i _ this];exact this
theorem GN.move(h:GN w ds str nx vr ly)(hs:w.heap.size<=w'.heap.size)(hb:∀b i v,w.cell? ⟨b,i,none⟩=some v->w'.heap[b]? =w.heap[b]?):GN w' ds str nx vr ly:=by
 refine⟨λn hn=>?_,h.out,h.hd⟩;have hc:=(h.nd n hn).cells.1;have⟨h1,h2,h3⟩:=h.nd n hn;exact⟨(hb n 0 _ hc).trans h1,h2.move hs hb,h3⟩
def fB.more{s:Option (BA×List Nat)}(h:fB w ds sa s)(hn:w.heap.size<=n):fB w (n::ds) sa s:=by
 cases s with
 |none=>trivial|some p=>
  obtain⟨c,l⟩:=p;obtain⟨h1,h2,h3,h4⟩:=h;refine⟨h1,h2,λm hm=>jh _<|h3 m hm,h4.imp id ?_⟩;rintro⟨g,q1,q2,q3,q4⟩;refine⟨g,q1,λhg=>?_,q3,q4⟩;obtain q|q:=List.mem_cons.1 hg
  .omega
  .exact q2 q
def Bo.lt{n:Nat}(h:Bo w ds str nx vr ly n):n<w.heap.size:=(Array.getElem?_eq_some_iff.1 h.1).1
def GN.add(h:GN w ds str (λ_=>none) vr ly)(hs:w.heap.size<=w'.heap.size)(hb:∀b i v,w.cell? ⟨b,i,none⟩=some v->w'.heap[b]? =w.heap[b]?)(hn:w.heap.size<=n)s v a(hh:w'.heap[n]? =some (.cells #[.pointer none,Iv 0,Nv v,.string<|byS s,.slice a.1 (slN s) a.2] 171 (0,0)))(hp:fB w' (n::ds) a.1 s):
 GN w' (n::ds) (jd str n s) (λ_=>none) (jd vr n v) (jd ly n a):=by
 refine⟨λx hx=>?_,λx hx=>?_,λx _=>⟨x,.here rfl⟩⟩
 .by_cases e:x=n
  .subst e;refine⟨by simpa[jd,nP]using hh,by simpa[jd]using hp,λm hm=>by cases hm⟩
  .have uZ:=(List.mem_cons.1 hx).resolve_left e;have hc:=(h.nd x uZ).cells.1;have⟨h1,h2,h3⟩:=h.nd x uZ;refine⟨?_,?_,λm hm=>by cases hm⟩
   .rw[hb x 0 _ hc,h1];simp[jd,e]
   .simp only[jd,e,if_false];exact(h2.more hn).move hs hb
 .have uZ:x≠n/\¬x∈ds:=⟨λe=>hx qBq,λe=>hx qBq⟩;exact⟨rfl,by simpa[jd,uZ.1]using(h.out x uZ.2).2⟩
end
structure Ns where
 ds:List Nat
 str:sN
 vr:Nat->Nat
 ly:Nat->Option Addr×Nat
 ty:Nat->Ty
 vl:List Nat
def Ns.Le(G G':Ns):=∀m∈G.ds,m∈G'.ds/\G'.ty m=G.ty m
def Ns.Le.refl(G:Ns):G.Le G:=λ_ h=>⟨h,rfl⟩
def Ns.Le.trans{A B C:Ns}(h:A.Le B)(k:B.Le C):A.Le C:=λm hm=>⟨(k m (h m hm).1).1,(k m (h m hm).1).2.trans (h m hm).2⟩
def Ns.New(b:Nat)(G G':Ns):=∀m∈G'.ds,(m∈G.ds/\G'.ly m=G.ly m/\G'.str m=G.str m)\/(b<=m/\∀g,(G'.ly m).1=some ⟨g,0,none⟩->b<=g)
def Ns.New.refl b G:Ns.New b G G:=λm hm=>jp ⟨hm,rfl,rfl⟩
def Ns.New.trans{b'}{A B C}(h:Ns.New b A B)(k:Ns.New b' B C)(hb:b<=b'):Ns.New b A C:=λm hm=>by
 obtain⟨k1,k2,k3⟩|⟨k1,k2⟩:=k m hm
 .obtain⟨h1,h2,h3⟩|⟨h1,h2⟩:=h m k1
  .grind
  .grind
 .grind
def lvB(kb:Nat):Nat:=kb-2
structure VN(w:World)(kb mb:Nat)(G:Ns):Prop where
 bk:Bx w kb #[Mv mb]
 mp:MS (λn:Int=>Iv n) w mb (L8 G.vr G.vl)
 gn:GN w G.ds G.str (λ_=>none) G.vr G.ly
 of:Un.Of G.str G.vr (λn=>n∈G.ds) G.ty
 vs:∀n,n∈G.vl↔n∈G.ds/\G.str n=none
 kd:¬kb∈G.ds
 wf:∀n∈G.ds,Wf<|G.ty n
 lv:Bx w (lvB kb) #[Iv 0]
 ld:¬lvB kb∈G.ds
 lm:lvB kb≠mb
def MS.nW{κ:Type}[DecidableEq κ]{enc}{L:List (κ×Value)}(h:MS enc w b L)(i:Nat):w.cell? ⟨b,i,none⟩=none:=by
 obtain⟨es,c,hb,_⟩:=h;simp[World.cell?,hb]
def IsM(mb:Nat)(b:Nat):Prop:=b=mb
def fy{i}(h:w.cell? ⟨b,i,none⟩=some v):b<w.heap.size:=by
 by_cases e:b<w.heap.size
 .exact e
 .have:w.heap[b]? =none:=Array.getElem?_eq_none ae;simp[World.cell?,this]at h
def VN.lU{G}(h:VN w kb mb G)(hf:Fr (IsM mb) w w'):∀b i v,w.cell? ⟨b,i,none⟩=some v->w'.heap[b]? =w.heap[b]? :=by
 intro b i v hc;refine hf.block b (fy hc)<|λe=>?_;have e:=e;subst e;rw[h.mp.nW i]at hc
 cases hc
def VN.fr{S}{G}(h:VN w kb mb G)(hf:Fr S w w')(hS:∀b,S b->w.heap.size<=b):VN w' kb mb G:=by
 have hb:∀b,b<w.heap.size->w'.heap[b]? =w.heap[b]? :=λb hz=>hf.block b hz (λq=>by have:=hS b q;omega);exact⟨h.bk.same hf.size<|hb kb h.bk.z,h.mp.same<|hb mb h.mp.lt,h.gn.move hf.size<|λb i v hc=>hb b<|fy hc,h.of,h.vs,h.kd,h.wf,h.lv.same hf.size<|hb (lvB kb) h.lv.z,h.ld,h.lm⟩
def VN.one{w w'}{kb mb b}{G}(h:VN w kb mb G)(o:One b w w')(h1:¬b∈G.ds)(h2:kb≠b)(h3:mb≠b)(h6:lvB kb≠b)(h4:∀m∈G.ds,∀c l g,G.str m=some (c,l)->l≠[]->(G.ly m).1=some ⟨g,0,none⟩->g≠b):VN w' kb mb G:=by
 refine⟨h.bk.one o h2,h.mp.one o h3,⟨λn hn=>?_,h.gn.out,h.gn.hd⟩,h.of,h.vs,h.kd,h.wf,h.lv.one o h6,h.ld,h.lm⟩;have⟨p1,p2,p3⟩:=h.gn.nd n hn;have cR:n≠b:=λe=>h1<|e▸hn;refine⟨(o.block n cR).trans p1,?_,p3⟩;have h5:=h4 n hn
 cases hs:G.str n with
 |none=>trivial|some p=>
  obtain⟨c,l⟩:=p;rw[hs]at p2;obtain⟨q1,q2,q3,q4⟩:=p2;refine⟨q1,q2,q3,?_⟩;by_cases e:l=[]
  .exact jp e
  .have⟨g,r1,r2,r3,r4⟩:=q4.resolve_left e;have hg:=h5 c l g hs e r1;refine jo ⟨g,r1,r2,by rw[o.size];exact r3,λi hi=>?_⟩;rw[World.cell?_of_block (a:=⟨g,i,none⟩) (w:=w)<|o.block g hg];exact r4 i hi
def VN.row{G}(h:VN w kb mb G){m}(hm:m∈G.ds){g}(hs:G.str m=some (c,l))(hl:l≠[])(hg:(G.ly m).1=some ⟨g,0,none⟩):g<w.heap.size:=by
 have⟨_,p2,_⟩:=h.gn.nd m hm;rw[hs]at p2;have⟨g',r1,_,r3,_⟩:=p2.2.2.2.resolve_left hl;rw[hg]at r1;injection r1 with r1;injection r1 with r1;subst r1;exact r3
def Tm{p:Prop}(h:p:=by
 simp only[jd,q,r,if_false]at e1 e2 e3
 exact h.one x y ((List.mem_cons.1 hx).resolve_left q) ((List.mem_cons.1 hy).resolve_left r) e1 e2 e3):p:=h
def Tn{p:Prop}(h:p:=by
 simp only[jd,q,if_false]at e⊢
 exact h.var x ((List.mem_cons.1 hx).resolve_left q) e):p:=h
def Of.ahZ(h:Un.Of str vr (λn=>n∈ds) ty){v:Nat}(hn:¬n∈ds)(hv:∀m∈ds,str m=none->vr m≠v):Un.Of (jd str n none) (jd vr n v) (λx=>x∈n::ds) (jd ty n<|.var v):=by
 refine⟨λx hx e=>?_,λx c l e=>?_,λx y hx hy e1 e2 e3=>?_⟩
 .by_cases q:x=n
  .subst q;simp[jd]
  .exact Tn
 .by_cases q:x=n
  .subst q;simp[jd]at e
  .simp only[jd,q,if_false]at e⊢;have⟨a,b,d⟩:=h.aJ x c l e;refine⟨jh _ a,?_,λy hy=>jh _<|d y hy⟩;rw[b];congr 1;apply ji;intro y hy;have:y≠n:=λq=>hn<|q▸d y hy;simp[jd,this]
 .by_cases q:x=n<;>by_cases r:y=n
  .rw[q,r]
  .subst q;simp only[jd,r,if_true,if_false]at e2 e3;exact absurd e3.symm<|hv y ((List.mem_cons.1 hy).resolve_left r) e2
  .subst r;simp only[jd,q,if_true,if_false]at e1 e3;exact absurd e3<|hv x ((List.mem_cons.1 hx).resolve_left q) e1
  .exact Tm
def To{p:Prop}(h:p:=by
 apply ji;intro y hy;have:y≠n:=λq=>hn<|q▸hl y hy
 simp[jd,this]):p:=h
def Of.ah0(h:Un.Of str vr (λn=>n∈ds) ty)(hn:¬n∈ds)c l(hl:∀m∈l,m∈ds)v:Un.Of (jd str n<|some (c,l)) (jd vr n v) (λx=>x∈n::ds) (jd ty n<|.aJ c<|l.map ty):=by
 have ah1:∀l:List Nat,(∀m∈l,m∈ds)->l.map (jd ty n<|.aJ c<|l.map ty)=l.map ty:=by
  intro l hl;exact To
 have afY:∀(T:Ty)(l:List Nat),(∀m∈l,m∈ds)->l.map (jd ty n T)=l.map ty:=by
  intro T l hl;exact To
 refine⟨λx hx e=>?_,λx c' l' e=>?_,λx y hx hy e1 e2 e3=>?_⟩
 .by_cases q:x=n
  .subst q;simp[jd]at e
  .exact Tn
 .by_cases q:x=n
  .subst q;simp[jd]at e;obtain⟨rfl,rfl⟩:=e;refine⟨ag,?_,λy hy=>jh _<|hl y hy⟩;rw[afY _ _ hl];simp[jd]
  .have e':str x=some (c',l'):=by simpa[jd,q]using e
   have⟨a,b,d⟩:=h.aJ x c' l' e';refine⟨jh _ a,?_,λy hy=>jh _<|d y hy⟩;rw[afY _ _ d,<-b];simp[jd,q]
 .have q:x≠n:=λq=>by subst q;simp[jd]at e1
  have r:y≠n:=λq=>by subst q;simp[jd]at e2
  exact Tm
section
variable {G:Ns}
def tK w:(zeroValue 103).run jl w=.ok (.pointer none) w:=qkr
def Tp(kb mb:Nat)(G:Ns)(T:Ty)(w:World)(e:Ending)(w':World):=
 ∃n G',e=.returned (nA n)/\VN w' kb mb G'/\G.Le G'/\n∈G'.ds/\G'.ty n=T/\Fr (IsM mb) w w'/\Ns.New w.heap.size G G'
def aed(h:VN w kb mb G)v:Cq 62 #[Nv v,Pv kb,Pv<|lvB kb] w (Tp kb mb G (.var v) w):=by
 have hl:=h.mp.look (KL.num Tryz.underlying85) Tryz.underlying163 (tK w) (v:Int) trivial (λ_ _=>trivial) true;have⟨c,f,z⟩:=h.bk;have p9:=c 0;have NH:=h.lv.c 0;have hzl:=h.lv.z;by_cases hm:∃n,n∈G.vl/\G.vr n=v
 .obtain⟨n,hn,rfl⟩:=hm;have⟨n1,n2⟩:=(h.vs n).1 hn;rw[Ez hn<|λm hm e=>h.of.one m n ((h.vs m).1 hm).1 n1 ((h.vs m).1 hm).2 n2 e]at hl;simp at hl;have H:=ai h;go_enter func62,ntmps62
  go_wp2
  go_ret;exact⟨n,G,rfl,H,Ns.Le.refl _,n1,H.of.var n n1 n2,Fr.refl _ _,Ns.New.refl _ _⟩
 .have hv:∀m∈G.vl,G.vr m≠v:=λm h1 h2=>hm ⟨m,h1,h2⟩;have hg:=abG hv;rw[hg]at hl;simp at hl;have HM:=h.mp.below<|bw<|Cv #[.pointer none,Iv 0,Nv v,Sv ⟨#[]⟩,Lv none 0 0] 171;have BK:=h.bk.alloc<|Cv #[.pointer none,Iv 0,Nv v,Sv ⟨#[]⟩,Lv none 0 0] 171;obtain⟨c1,f1,z1⟩:=BK;have am0:=c1 0;have H:=ai h;go_enter func62,ntmps62;go_wp2_with(first|(go_at_call 63;go_in)|(refine aZ _ rfl _ _ _ _ (Or.inr rfl) (KL.num Tryz.underlying85) Tryz.underlying163 _ _ rfl HM (v:Int) (nA w.heap.size) rfl rfl trivial (λ_ _=>trivial) ?_;intro w' H' O';have yk:=ai H';have O2:=ai O';clear H' O'));go_ret;have O:=uh O2;have h:=uh H;have zm:=h.mp.lt;have hz:¬w.heap.size∈G.ds:=λq=>by have:=(h.gn.nd _ q).lt;omega
  have hzv:¬w.heap.size∈G.vl:=λq=>hz ((h.vs _).1 q).1;have fK:=O.size.trans<|Array.size_push ..;have F1:Fr (IsM mb) w w':=by
   have f1:Fr (IsM mb) w (w.alloc<|Cv #[.pointer none,Iv 0,Nv v,Sv ⟨#[]⟩,Lv none 0 0] 171):=Fr.of<|bw _;exact⟨O.os.trans f1.os,O.tape.trans f1.tape,O.output.trans f1.output,ae,λk hk hn=>(O.block k<|λe=>hn e).trans<|f1.block k hk hn⟩
  have akm:w'.heap[w.heap.size]? =some (Cv #[.pointer none,Iv 0,Nv v,Sv ⟨#[]⟩,Lv none 0 0] 171 (0,0)):=by
   rw[O.block _ ae];exact(MapKept.heap_alloc w _).1
  have kz:kb≠mb:=λe=>by subst e;have:=h.mp.nW 0;rw[p9]at this;cases this
  refine⟨w.heap.size,⟨w.heap.size::G.ds,jd G.str w.heap.size none,jd G.vr w.heap.size v,jd G.ly w.heap.size (none,0),jd G.ty w.heap.size<|.var v,G.vl++[w.heap.size]⟩,rfl,⟨?_,?_,?_,?_,?_,?_,?_,h.lv.fr F1<|λe=>h.lm e,λq=>(List.mem_cons.1 q).elim (λq=>ae) h.ld,h.lm⟩,?_,ag,Ob,F1,λm hm=>?_⟩
  .exact h.bk.fr F1 (λe=>kz e)
  .have:=uh yk;rw[mx _ _ _ hg]at this;have e1:L8 (jd G.vr w.heap.size v) (G.vl++[w.heap.size])=L8 G.vr G.vl++[((v:Int),nA w.heap.size)]:=by
    rw[<-Tl (v:=v) hzv];simp[L8,jd]
   show MS _ w' mb<|L8 (jd G.vr w.heap.size v)<|G.vl++[w.heap.size];rw[e1];exact this
  .exact h.gn.add F1.size (h.lU F1) (br _) none v (none,0) akm trivial
  .refine Of.ahZ h.of hz (λm hm e=>hv m<|(h.vs m).2 ⟨hm,e⟩)
  .intro x;show x∈G.vl++[w.heap.size]↔x∈w.heap.size::G.ds/\jd G.str w.heap.size none x=none;by_cases e:x=w.heap.size
   .simp[e,jd]
   .simp[e,jd,h.vs x]
  .show ¬kb∈w.heap.size::G.ds;intro q;obtain q|q:=List.mem_cons.1 q
   .omega
   .exact h.kd q
  .intro x hx;by_cases e:x=w.heap.size
   .subst e;simp[jd,Wf]
   .simp only[jd,e,if_false];exact h.wf x<|(List.mem_cons.1 hx).resolve_left e
  .intro m hm;have:m≠w.heap.size:=λe=>hz<|e▸hm;exact⟨jh _ hm,by simp[jd,this]⟩
  .by_cases e:m=w.heap.size
   .subst e;exact jo ⟨br _,λg q=>by simp[jd]at q⟩
   .have Pr:=(List.mem_cons.1 hm).resolve_left e;exact jp ⟨Pr,by simp[jd,e],by simp[jd,e]⟩
end
end
end Go.Proofs.YtlnlhlefeokfjaaGreatDoor

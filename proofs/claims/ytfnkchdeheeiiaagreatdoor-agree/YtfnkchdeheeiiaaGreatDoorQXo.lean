import Derived.Test.YtfnkchdeheeiiaaGreatDoorQQa
import Derived.Test.YtfnkchdeheeiiaaGreatDoorQTm
import Derived.Test.YtfnkchdeheeiiaaGreatDoorQPl
set_option linter.all false
set_option maxRecDepth 100000
set_option maxHeartbeats 2000000
namespace Go.Proofs.YtfnkchdeheeiiaaGreatDoor
open Pu renaming bG->ja,Tok->jc
open Go.Proofs.Tryz renaming prog->jd,underlying236->jf,underlying233->jh
open Un renaming eh->ji,Eq->jj
open Or renaming inr->jk,inl->jl
open Go.Value renaming string->jm
open Go Go.RowKit Go.ChangeMaps Proofs.Tryz
variable {ca cb:Array Value} {c c' s:BA} {r:Except Fl (Nd×Nat)} {ds l l':List Nat} {T:List jc} {sm:M Nd} {m:MV} {F N a b f fr h j k n rb sb y:Nat} {vr:Nat->Nat} {ly:Nat->Option Addr×Nat} {x:Nd} {sa:Option Addr} {P:Program} {t:jc} {κ:Type} {ta tb:TypeId} {bi gV:Un.Nx} {str:Un.ya} {v:Value} {w:World}
def ad2{n}(hs:s.size<=1000)(hT:(ja s 0).length<=1001)(IH:eW s n)(h:SX w N rb sb m s k)(hn:(ja s 0).length<=k+1+n)(ho:bh (tk (ja s 0) k) nh=true):
 Cq 192 #[rp rb] w (ap PE N rb sb m s (aJ (ja s 0) (bO (ja s 0) n) (fy (ja s 0) n) 3 k) w):=by
 have WS:=hY;have YN:=kM;refine cM.zN h (uP ho) λH=>?_;go_enter func192,ntmps192;go_wp2_with fail;refine H.take ?_;intro w1 H;go_wp2_with fail
 cases hc:bh (tk (ja s 0)<|k+1) kx
 .refine H.ET hc ?_;go_wp2_with fail;refine(H.re<|Aa hc).expr IH ?_;intro a k2 t2 x2 w2 H l2;go_wp2_with fail
  cases hm:bh (tk (ja s 0) k2) rP
  .refine H.ET hm ?_;go_wp2_with fail
   cases hl:bh (tk (ja s 0) k2) Fm
   .refine H.ET hl ?_;go_wp2_with fail;refine(H.re<|wu hm λ_=>hl).take ?_;intro w5 H
    go_wp2
    go_ret;exact H.done λ⟨_,A⟩=>A
   .refine(H.re<|Js hm hl).BS hl ?_;intro w3 H;go_wp2_with fail;refine H.call (adr hs hT H.sx ae) ?_;intro b k4 v4 w4 H _ V;obtain⟨t4,x4,rfl⟩:=V.iface;go_wp2_with fail;refine H.take ?_;intro w5 H;go_wp2_with fail;refine H.since ?_;intro w6 H
    go_wp2
    go_ret;exact H.done λ⟨⟨_,A⟩,B⟩=>.of _ _ _ _ _ _ _ _ _ A B
  .refine(H.re<|pq hm).BS hm ?_;intro w3 H;go_wp2_with fail;refine H.expr IH ?_;intro b k4 t4 x4 w4 H l4;go_wp2_with fail;refine H.take ?_;intro w5 H;go_wp2_with fail;refine H.since ?_;intro w6 H
   go_wp2
   go_ret;exact H.done λ⟨⟨_,A⟩,B⟩=>.pr _ _ _ _ _ _ _ _ _ A B
 .refine(H.re<|z_ aH hc).BS hc ?_;intro w2 H;go_wp2_with fail;refine H.since ?_;intro w3 H
  go_wp2
  go_ret;exact H.done λ_=>.unit _ _ _ _ _
def KP(hs:s.size<=1000)(hT:(ja s 0).length<=1001)(IH:eW s n)(h:SX w N rb sb m s k)(hn:(ja s 0).length<=k+1+n)(hb:aO (tk (ja s 0) k) 3=true){x:Nat}(hx:Bx w x #[rp rb]):
 (∃f,aZ (aw<|tk (ja s 0) k) (s_ rb x)=some (oY f rb)/\(∀args w,(callFunc f args).run jd w=.ok (.enter f args) w)/\∀W,Bq w W->Cq f #[rp rb] W (ap PE N rb sb m s (aJ (ja s 0) (bO (ja s 0) n) (fy (ja s 0) n) 3 k) W))\/
 (∃f,aZ (aw<|tk (ja s 0) k) (s_ rb x)=some (nk f x)/\(∀args w,(callFunc f args).run jd w=.ok (.enter f args) w)/\∀W,Bq w W->Cq f #[Pv x] W (ap PE N rb sb m s (aJ (ja s 0) (bO (ja s 0) n) (fy (ja s 0) n) 3 k) W)):=by
 have ho:=eM s k h.lt;obtain hk|hk|hk|hk|hk|⟨h9,hk⟩|hk:=tw ho aH hb
 .refine jk ⟨184,by rw[jK hk];rfl,λ_ _=>qkr,?_⟩;rw[cy hb<|p_ ae _];exact λW hW=>(Zw (h.af hW) hs hk x<|hx.below hW).1
 .refine jl ⟨186,by rw[iq hk];rfl,λ_ _=>qkr,?_⟩;rw[cy hb<|p_ ae _];exact λW hW=>(afa (h.af hW) hs hk).1
 .refine jk ⟨187,by rw[jL hk];rfl,λ_ _=>qkr,?_⟩;rw[cy hb<|p_ ae _];exact λW hW=>(Zx (h.af hW) hs hk x<|hx.below hW).1
 .refine jk ⟨189,qBk,λ_ _=>qkr,?_⟩;rw[cy hb<|tA hk qAp];exact λW hW=>(yh (h.af hW) hs (jl hk) x<|hx.below hW).1
 .refine jk ⟨191,qBk,λ_ _=>qkr,?_⟩;rw[cy hb<|tA hk qAp];exact λW hW=>(yh (h.af hW) hs (jk hk) x<|hx.below hW).2.1
 .omega
 .refine jl ⟨192,qBk,λ_ _=>qkr,λW hW=>ad2 hs hT IH (h.af hW) hn hk⟩
def R8(h:SX w N rb sb m s k)(hb:aO (tk (ja s 0) k) 3=false)x:aZ (aw<|tk (ja s 0) k) (s_ rb x)=none:=by
 have ho:=eM s k h.lt;have⟨n1,n2,n4,nt,nf,na,no⟩:=wE aH hb;obtain h'|h'|h'|h'|h'|h'|h':=ho.kd
 .exact absurd h' n1
 .exact absurd h' n2
 .rw[ir h'];rfl
 .exact absurd h' n4
 .rw[p7 h'];have hz:=ho.s5 h';have pN:∀c:BA,5<c.size->c≠(tk (ja s 0) k).text:=λc hc e=>by rw[e]at hc;omega
  refine Fp λp hp=>?_;simp only[s_,List.mem_cons,List.not_mem_nil,or_false]at hp;obtain rfl|rfl|rfl|rfl|rfl|rfl:=hp
  .exact pN Fh aH
  .exact pN I4 aH
  .exact pN Nn aH
  .exact rQ h' nt
  .exact rQ h' nf
  .exact rQ h' no
 .exact absurd h' h.ok
 .rw[jM h'];rfl
def alu(hs:s.size<=1000)(hT:(ja s 0).length<=1001)(IH:eW s n)(h:SX w N rb sb m s k)(hn:(ja s 0).length<=k+1+n){x:Nat}(hM:MS jm w b (s_ rb x))(hx:Bx w x #[rp rb]):Tab N rb sb m s PE (aJ (ja s 0) (bO (ja s 0) n) (fy (ja s 0) n) 3) 3 b w k:=by
 refine⟨_,hM,?_⟩
 cases hc:aO (tk (ja s 0) k) 3
 .exact .inr ⟨rfl,R8 h hc x⟩
 .exact .inl ⟨rfl,(KP hs hT IH h hn hc hx).imp id λ⟨f,h⟩=>⟨f,x,h⟩⟩
def VJ(hs:s.size<=1000)(hT:(ja s 0).length<=1001)(IH:eW s n)(h:SX w N rb sb m s k)(hn:(ja s 0).length<=k+1+n){x:Nat}(hM:MS jm w b (s_ rb x))(hx:Bx w x #[rp rb]):
 Cq 256 #[rp rb,Mv b] w (ap PE N rb sb m s (aJ (ja s 0) (bO (ja s 0) n) (fy (ja s 0) n) 3 k) w):=afc (.inr<|.inr ⟨rfl,rfl⟩) PE.iface h<|alu hs hT IH h hn hM hx
def SX.atom(h:SX w N rb sb m s k)(hb:m.c=Mv b):∃x,Bx w x #[rp rb]/\MS jm w b (s_ rb x):=by
 have⟨x,hx,b',e,_,_,hM⟩:=h.ev.mp.at_;rw[hb]at e
 cases e
 exact⟨x,hx.2.2,hM⟩
def SX.mc(h:SX w N rb sb m s k):∃b,m.c=Mv b:=by
 have⟨x,_,b,e,_⟩:=h.ev.mp.at_;exact⟨b,e⟩
abbrev yt s n:=aJ (ja s 0) (bO (ja s 0) n) (fy (ja s 0) n) 3
def R9 N rb sb m s k w r(g:Nat->Nd->M Nd)gk v wr:=
 ∃(kr:Nat)(nd:Nd)(f:Nat),cM N rb sb m s r w rb #[] (g f nd) (λw'=>PE w' (λb=>w.heap.size<=b) nd v) kr wr/\Hid (gk=(ja s 0).length-kr)/\k<kr/\(ja s 0).length<=kr+f
def below_drewN w q:Below n w (w.drewN q):=⟨rfl,rfl,rfl,br _,λ_ _=>rfl⟩
def aa1(h:aO (tk T k) 3=true):gi T sm fr (f+1) x k=aq sm (λy k'=>gi T sm fr f (.mk 8 ls 0 [x,y] fr (aS T k') fr) k') k:=by
 show(if aO (tk T k) 3=true then _ else _)=_;rw[if_pos h]
def VK(h:aO (tk T k) 3=false):gi T sm fr f x k=.ok (x,k):=by
 cases f with
 |zero=>rfl|succ f=>unfold gi;rw[h];rfl
def ahz(hs:s.size<=1000)(hT:(ja s 0).length<=1001)(IH:eW s n)(h:SX w N rb sb m s k)(hn:(ja s 0).length<=k+1+n):
 Cq 206 #[rp rb] w (ap PE N rb sb m s (dn (ja s 0) (yt s n) k) w):=by
 have⟨b,hmc⟩:=h.mc;have⟨x,hx,hM⟩:=h.atom hmc;obtain⟨r,hr⟩:∃r,r=dn (Pu.bG s 0) (yt s n) k:=⟨_,rfl⟩;rw[<-hr];refine cM.zN (g:=gi (Pu.bG s 0) (yt s n) (tk (Pu.bG s 0) k).ak (Pu.bG s 0).length) h hr λH=>?_;clear hr;have⟨c,ff,z⟩:=h.bx;go_enter func206,ntmps206;go_wp2_with fail;refine H.call (VJ hs hT IH h hn hM hx) ?_;intro a k1 v0 w1 H q V;obtain⟨t0,x0,rfl⟩:=V.iface;have l1:=cL (vw (T:=(Pu.bG s 0)) n) (dq n) 3 _ _ _ q;clear hx hM c ff z V q
 go_wp2
 go_loopg[4] ((ja s 0).length-k1) (λgk v wr=>R9 N rb sb m s k w r (λf nd=>gi (ja s 0) (yt s n) (tk (ja s 0) k).ak f nd) gk v wr)
 case atStart=>exact⟨k1,a,_,H.imp λ_ h=>h.2,ai rfl,l1,ae⟩
 case round=>
  clear H;obtain⟨kr,nd,f,H,dv,hle,hfu⟩:=hrel;have⟨x,hx,hM⟩:=H.sx.atom hmc;have hl:=λq=>eE (hM.same (w':=wr.drewN q) rfl) jh (tC _)<|aw<|tk (ja s 0) kr;have Cn:=eE hM jh (tC _)<|aw<|tk (ja s 0) kr;have YX:=H.sx.lt;obtain⟨tv,xv,rfl⟩:=H.p.iface;have⟨c,ff,z⟩:=H.sx.bx
  cases hb:aO (tk (ja s 0) kr) 3
  .simp only[R8 H.sx hb x,lz]at hl Cn
   go_wp2
   go_quiet(fail)
   go_wp2
   go_ret;exact(H.af<|below_drewN _ nq).done id (VK hb)
  .obtain⟨f,rfl⟩:∃f',f=f'+1:=⟨f-1,ae⟩;obtain⟨F,hg,ZB,HC⟩|⟨F,hg,ZB,HC⟩:=KP hs hT IH H.sx ae hb hx
   all_goals(
    simp only[hg,lz]at hl Cn;clear hg
    go_wp2
    go_quiet(fail);go_wp2_with fail;refine((H.af<|below_drewN _ nq).re<|aa1 hb).call (HC _<|below_drewN _ nq) ?_;intro a k2 v1 w1 H q V;obtain⟨t1,x1,rfl⟩:=V.iface;have l2:=cL (vw (T:=(ja s 0)) n) (dq n) 3 _ _ _ q;clear HC ZB c ff z hl Cn hM hx V q;go_wp2_with fail;refine H.since ?_;intro w2 H
    go_wp2
    go_roundg((ja s 0).length-k2)
    case measure=>rw[uh dv];omega
    case rel=>exact⟨k2,_,f,(H.re rfl).imp λ_ h=>PE.call _ _ _ _ _ _ _ _ _ h.1 h.2,ai rfl,ae,ae⟩)
def opM(T:List jc)(sub:M Nd)(op:BA)(fr:Nat)(x:Nd):M Nd:=λk=>aq sub (λy k'=>.ok (.mk 7 op 0 [x,y] fr (aS T k') fr,k'))<|k+1
def ahA{sub}{op}:opM T sub op fr x k=aq qX (λ_=>aq sub<|λy k'=>.ok (.mk 7 op 0 [x,y] fr (aS T k') fr,k')) k:=rfl
def aa2{sub}(h:bh (tk T k) gM=true):gQ T sub fr (f+1) x k=aq (opM T sub gM fr x) (gQ T sub fr f) k:=by
 show(if bh (tk T k) gM=true then _ else _)=_;rw[if_pos h];unfold opM aq;dsimp only
 cases sub (k+1)<;>rfl
def VL{sub}(h:bh (tk T k) gM=false):gQ T sub fr f x k=.ok (x,k):=by
 cases f with
 |zero=>rfl|succ f=>unfold gQ;rw[h];rfl
def R_{sub}(h:bh (tk T k) kq=true\/bh (tk T k) fe=true):n8 T sub fr (f+1) x k=aq (opM T sub (tk T k).text fr x) (n8 T sub fr f) k:=by
 show(if bh (tk T k) kq=true\/bh (tk T k) fe=true then _ else _)=_;rw[if_pos h];unfold opM aq;dsimp only
 cases sub (k+1)<;>rfl
def aa3{sub}(h:bh (tk T k) kq=false)(h':bh (tk T k) fe=false):n8 T sub fr f x k=.ok (x,k):=by
 cases f with
 |zero=>rfl|succ f=>unfold n8;rw[h,h'];rfl
def yu(h:bh t c=true):t.text=c:=by grind[bh,afb]
def PEo(P:Nat->Prop)w(Q:Nat->Prop)a v:=PE w (λb=>P b\/Q b) a v
def ahB a b c d w:(Instr.field 229 (.agg #[a,b,c,d]) 2).run jd w=.ok d w:=qkr
def Og s n F(sub:M Nd):=∀(w:World)(N rb sb:Nat)(m:MV)(k:Nat),SX w N rb sb m s k->(ja s 0).length<=k+1+n->Cq F #[rp rb] w (ap PE N rb sb m s (sub k) w)
def ajV{sub}(hs:s.size<=1000)(HF:Og s n F sub)(ZB:∀args w,(callFunc F args).run jd w=.ok (.enter F args) w)(jU:aR (ja s 0) sub)(h:SX w N rb sb m s k)(hn:(ja s 0).length<=k+1+n)(r_:(tk (ja s 0) k).text=kq\/(tk (ja s 0) k).text=fe\/(tk (ja s 0) k).text=gM\/(tk (ja s 0) k).text=eQ)(h7:(tk (ja s 0) k).kind≠7)fr{x}(hx:gT w N rb x #[rp rb])(hy:gT w N rb y #[oY F rb]){P}(hP:∀b,P b->b≠rb){nd}(hv:PE w P nd v):
 Cq 254 #[Nv fr,v,Pv x,Pv y] w (ap (PEo P) N rb sb m s (opM (ja s 0) sub (tk (ja s 0) k).text fr nd k) w):=by
 have YN:=ahB;obtain⟨tv,xv,rfl⟩:=hv.iface;refine cM.zN h ahA λH=>?_;have H:=((H.add λw' a q=>hx.2.2.same a<|q x hx.2.2.z hx.2.1 hx.2.1).add λw' a q=>hy.2.2.same a<|q y hy.2.2.z hy.2.1 hy.2.1).add λw' a q=>hv.move a (λb p z=>q b z (hP b p)<|hP b p) λ_ p _=>p;clear hx hy hv;have⟨⟨⟨_,c0,f0,z0⟩,c1,f1,z1⟩,_⟩:=H.p;go_enter func254,ntmps254;go_wp2_with fail;refine H.call (Zt h hs h7) ?_;intro _ _ _ w1 H q V
 cases V
 cases q
 have⟨⟨⟨⟨_,c0,f0,z0⟩,c1,f1,z1⟩,_⟩,_⟩:=H.p;go_wp2_with fail;refine H.call (HF _ _ _ _ _ _ H.sx ae) ?_;intro a k2 v2 w2 H q V;obtain⟨t2,x2,rfl⟩:=V.iface;clear V q;have⟨⟨⟨⟨⟨_,c0,f0,z0⟩,_⟩,_⟩,_⟩,_⟩:=H.p;go_wp2_with fail;refine H.since ?_;intro w3 H
 go_wp2
 go_ret;exact H.done λ⟨⟨⟨_,A⟩,_⟩,B⟩=>.op _ _ _ _ _ _ _ _ _ r_ (A.wide λb p=>jl p)<|B.wide λb p=>jk p
def cM.op{sub}{op}{fr}{nd}{r}{w0}{C}{P}{g}{f}{args}{post}(H:cM N rb sb m s r w0 rb C (aq (opM (ja s 0) sub op fr nd) g) P k w)(AD:mQ sub)(hC:Cq f args w (ap (PEo<|λb=>w0.heap.size<=b) N rb sb m s (opM (ja s 0) sub op fr nd k) w))(ok:∀a k' t x w',cM N rb sb m s r w0 rb C (g a) (λw'=>PE w' (λb=>w0.heap.size<=b) a<|.iface t<|.agg x) k' w'->k<k'->post (.returned<|.iface t<|.agg x) w')(st:∀a,aR (ja s 0)<|g a:=by exact Zy)(bad:∀f' w',ap PE N rb sb m s r w0 (bW f') w'->post (bW f') w':=by exact λ_ _ h=>⟨rfl,h⟩):Cq f args w post:=
 hC.mono λe w' hp=>by
  cases hA:fin (ja s 0) (opM (ja s 0) sub op fr nd k)with
  |error f=>obtain⟨rfl,h⟩:=H.lost hp hA st;exact bad _ _ h
  |ok p=>
   obtain⟨a,j⟩:=p;obtain⟨v,rfl,hb,S,V⟩:=hp.ok hA;obtain⟨t,x,rfl⟩:=PE.iface V;refine ok _ _ t x w' (((H.mv hb S<|H.eq.trans<|nj hA).add λw2 a1 b1=>PE.move V a1 (λb p z=>?_) λb p _=>p.elim id λp=>Nat.le_trans H.ke.size p).imp λ_ h=>h.2) ?_
   .have h1:w0.heap.size<=b:=p.elim id λp=>Nat.le_trans H.ke.size p;have:=H.rz.1;exact b1 b z ae ae
   .have⟨_,j,h1,h2⟩:=aB (m:=sub) (k:=k+1) (uN hA).1
    cases h2
    have:=AD _ _ _ h1;omega
def tT(ho:gp t)(h6:t.kind≠6){L}(hL:∀p∈L,p.1.size<=5/\bh t p.1=false):aZ (aw t) L=none:=by grind[bh,aZ,aw,Fp,td]
def Oh w:(zeroValue 362).run jd w=.ok .nilFunc w:=qkr
def AE{sub}{g:Nat->Nd->M Nd}(hs:s.size<=1000)(HF:Og s n F sub)(hcF:∀args w,(callFunc F args).run jd w=.ok (.enter F args) w)(jU:aR (ja s 0) sub)(AD:mQ sub)(hg:∀f a,aR (ja s 0)<|g f a)(h:SX w N rb sb m s k)(hn:(ja s 0).length<=k+1+n)(hr:r=aq sub (g (ja s 0).length) k)(D:∀w k',SX w N rb sb m s k'->∃L,MS jm w b L/\((∃x y,gT w N rb x #[rp rb]/\gT w N rb y #[oY F rb]/\aZ (aw<|tk (ja s 0) k') L=some (UO x y)/\(∃c,bh (tk (ja s 0) k') c=true/\(c=kq\/c=fe\/c=gM\/c=eQ))/\∀f a,g (f+1) a k'=aq (opM (ja s 0) sub (tk (ja s 0) k').text (tk (ja s 0) k).ak a) (g f) k')\/aZ (aw<|tk (ja s 0) k') L=none/\∀f a,g f a k'=.ok (a,k'))):
 Cq 255 #[rp rb,oY F rb,Mv b] w (ap PE N rb sb m s r w):=by
 have hcO:∀args w,(callFunc 254 args).run jd w=.ok (.enter 254 args) w:=λ_ _=>qkr
 replace D:=ai D
 refine cM.zN h hr λH=>?_;clear hr;have⟨c,ff,z⟩:=h.bx;go_enter func255,ntmps255;go_wp2_with fail;refine H.call (HF _ _ _ _ _ _ h hn) ?_ (st:=hg _);intro a k1 v0 w1 H q V;obtain⟨t0,x0,rfl⟩:=V.iface;have l1:=AD _ _ _ q;clear c ff z V q
 go_wp2
 go_loopg[8] ((ja s 0).length-k1) (λgk v wr=>R9 N rb sb m s k w r g gk v wr)
 case atStart=>exact⟨k1,a,_,H.imp λ_ h=>h.2,ai rfl,l1,ae⟩
 case round=>
  clear H;obtain⟨kr,nd,f,H,dv,hle,hfu⟩:=hrel;have⟨L,hM,Y⟩:=uh D _ _ H.sx;have hl:=eE hM jf (Oh _)<|aw<|tk (ja s 0) kr;have YX:=H.sx.lt;obtain⟨tv,xv,rfl⟩:=H.p.iface;have⟨c,ff,z⟩:=H.sx.bx;obtain⟨x,y,bx,yb,hq,⟨o,ho,hO⟩,E⟩|⟨hq,E⟩:=Y
  .obtain⟨f,rfl⟩:∃f',f=f'+1:=⟨f-1,ae⟩;simp only[hq,lz]at hl;have HC:=ajV hs HF hcF jU H.sx ae (by rw[yu ho];exact hO) (Jk ho) (tk (ja s 0) k).ak bx yb (P:=λb=>w.heap.size<=b) (λb p=>by have p':w.heap.size<=b:=p;have:=H.rz.1;omega) H.p;have H:=H.re<|E f nd;clear E ho hO;go_wp2_with fail;refine H.op AD HC ?_ (st:=hg _);intro a k2 t x w1 H l2;clear HC bx yb c ff z hl hM hq
   go_wp2
   go_roundg((ja s 0).length-k2)
   case measure=>rw[uh dv];omega
   case rel=>exact⟨k2,_,f,H,ai rfl,ae,ae⟩
  .simp only[hq,lz]at hl;have H:=H.re (g':=λk=>.ok (nd,k))<|E f nd;clear E
   go_wp2
   go_ret;exact H.done id
def Oi{n}(hs:s.size<=1000)(hT:(ja s 0).length<=1001)(HF:Og s n 206 (dn (ja s 0)<|yt s n))(jU:aR (ja s 0) (dn (ja s 0)<|yt s n))(AD:mQ (dn (ja s 0)<|yt s n))(h:SX w N rb sb m s k)(hn:(ja s 0).length<=k+1+n)(wF:m.h=Mv b):
 Cq 255 #[rp rb,oY 206 rb,Mv b] w (ap PE N rb sb m s (eU (ja s 0) (dn (ja s 0)<|yt s n) k) w):=
 AE hs HF (λ_ _=>qkr) jU AD (g:=gQ (ja s 0) (dn (ja s 0)<|yt s n) (tk (ja s 0) k).ak) (λf a=>po _ _ _ _) h hn rfl λw k' S=>by
  have⟨x0,y0,h0,g0,b',e,_,_,hM⟩:=S.ev.mp.pr;rw[wF]at e
  cases e
  refine⟨_,hM,?_⟩
  cases hb:bh (tk (ja s 0) k') gM
  .exact .inr ⟨tT (eM s k' S.lt) S.ok (by simp[hb];decide),λ_ _=>VL hb⟩
  .exact .inl ⟨x0,y0,h0,g0,by rw[gq hb];rfl,⟨_,hb,ag⟩,λf a=>by rw[yu hb];exact aa2 hb⟩
def VM{n}(hs:s.size<=1000)(hT:(ja s 0).length<=1001)(HF:Og s n 205 (eU (ja s 0)<|dn (ja s 0)<|yt s n))(jU:aR (ja s 0) (eU (ja s 0)<|dn (ja s 0)<|yt s n))(AD:mQ (eU (ja s 0)<|dn (ja s 0)<|yt s n))(h:SX w N rb sb m s k)(hn:(ja s 0).length<=k+1+n)(wF:m.g=Mv b):
 Cq 255 #[rp rb,oY 205 rb,Mv b] w (ap PE N rb sb m s (sJ (ja s 0) (eU (ja s 0)<|dn (ja s 0)<|yt s n) k) w):=
 AE hs HF (λ_ _=>qkr) jU AD (g:=n8 (ja s 0) (eU (ja s 0)<|dn (ja s 0)<|yt s n) (tk (ja s 0) k).ak) (λf a=>rN _ _ _ _) h hn rfl λw k' S=>by
  have⟨x0,y0,x1,y1,h0,g0,h1,g1,b',e,_,_,hM⟩:=S.ev.mp.sm;rw[wF]at e
  cases e
  refine⟨_,hM,?_⟩
  cases hb:bh (tk (ja s 0) k') kq
  .cases hc:bh (tk (ja s 0) k') fe
   .exact .inr ⟨tT (eM s k' S.lt) S.ok (by simp[hb,hc];decide),λ_ _=>aa3 hb hc⟩
   .exact .inl ⟨x1,y1,h1,g1,by rw[gq hc];rfl,⟨_,hc,ag⟩,λf a=>R_<|.inr hc⟩
  .exact .inl ⟨x0,y0,h0,g0,by rw[gq hb];rfl,⟨_,hb,ag⟩,λf a=>R_<|.inl hb⟩
def SX.hm(h:SX w N rb sb m s k):∃b,m.h=Mv b:=by
 have⟨x0,y0,h0,g0,b',e,_,_,hM⟩:=h.ev.mp.pr;exact⟨b',e⟩
def SX.gm(h:SX w N rb sb m s k):∃b,m.g=Mv b:=by
 have⟨x0,y0,x1,y1,h0,g0,h1,g1,b',e,_,_,hM⟩:=h.ev.mp.sm;exact⟨b',e⟩
def Oj:mQ (yt s n):=cL (vw n) (dq n) 3
def AF:aR (ja s 0) (yt s n):=nu _ _ _
def ad3(hs:s.size<=1000)(hT:(ja s 0).length<=1001)(IH:eW s n):Og s n 206 (dn (ja s 0)<|yt s n):=λw N rb sb m k h hn=>ahz hs hT IH h hn
def aa4{F1 F2}(h:SX w N rb sb m s k)(hF:F1=205/\F2=206/\m.h=Mv b\/F1=204/\F2=205/\m.g=Mv b)(HC:Cq 255 #[rp rb,oY F2 rb,Mv b] w (ap PE N rb sb m s r w)):Cq F1 #[rp rb] w (ap PE N rb sb m s r w):=by
 have⟨c,ff,z⟩:=h.bx;obtain⟨rfl,rfl,wF⟩|⟨rfl,rfl,wF⟩:=hF
 all_goals(
  first
  |go_enter func205,ntmps205
  |go_enter func204,ntmps204
  go_wp2_with fail;refine HC.mono ?_;intro e w1 hp
  cases hA:fin (ja s 0) r with
  |error f'=>
   obtain⟨rfl,QC⟩:=hp.bad hA;exact⟨rfl,hp⟩
  |ok r=>
  obtain⟨a,k2⟩:=r;obtain⟨v,rfl,_,_,hR⟩:=hp.ok hA;obtain⟨tv,xv,rfl⟩:=hR.iface
  go_wp2
  go_ret
  exact hp)
def Ol(hs:s.size<=1000)(hT:(ja s 0).length<=1001)(IH:eW s n):Og s n 205 (eU (ja s 0)<|dn (ja s 0)<|yt s n):=by
 intro w N rb sb m k h hn;have⟨b,wF⟩:=h.hm;exact aa4 h (.inl ⟨rfl,rfl,wF⟩)<|Oi hs hT (ad3 hs hT IH) (nB AF) (tS Oj) h hn wF
def ahC(hs:s.size<=1000)(hT:(ja s 0).length<=1001)(IH:eW s n):Og s n 204 (sJ (ja s 0)<|eU (ja s 0)<|dn (ja s 0)<|yt s n):=by
 intro w N rb sb m k h hn;have⟨b,wF⟩:=h.gm;exact aa4 h (.inr ⟨rfl,rfl,wF⟩)<|VM hs hT (Ol hs hT IH) (rO<|nB AF) (AA<|tS Oj) h hn wF
def Gr(hs:s.size<=1000)(hT:(ja s 0).length<=1001)(IH:eW s n)(h:SX w N rb sb m s k)(hn:(ja s 0).length<=k+1+n):Cq 273 #[rp rb] w (ap PE N rb sb m s (mi (ja s 0) (sJ (ja s 0)<|eU (ja s 0)<|dn (ja s 0)<|yt s n) k) w):=by
 have hcO:∀args w,(callFunc 254 args).run Tryz.prog w=.ok (.enter 254 args) w:=λ_ _=>qkr;have hcF:∀args w,(callFunc 204 args).run Tryz.prog w=.ok (.enter 204 args) w:=λ_ _=>qkr;have HF:=ahC (n:=n) hs hT IH;have jU:aR (Pu.bG s 0) (sJ (Pu.bG s 0)<|eU (Pu.bG s 0)<|dn (Pu.bG s 0)<|yt s n):=Dj<|rO<|nB AF;have AD:mQ (sJ (Pu.bG s 0)<|eU (Pu.bG s 0)<|dn (Pu.bG s 0)<|yt s n):=RU<|AA<|tS Oj;obtain⟨-,-,-,-,b,wF,-⟩:=h.ev.mp.cm;refine cM.zN h (adm _ _) λH=>?_;have⟨c,ff,z⟩:=h.bx;go_enter func273,ntmps273;go_wp2_with fail;refine H.call (HF _ _ _ _ _ _ h hn) ?_ (st:=λa=>wo _ _ _);intro a k1 v0 w1 H q V;have l1:=AD _ _ _ q;obtain⟨x0,y0,bx0,by0,b',e,-,-,hM⟩:=H.sx.ev.mp.cm;rw[wF]at e
 cases e
 have hl:=λq=>eE (hM.same (w':=w1.drewN q) rfl) jf (Oh _)<|aw<|tk (ja s 0) k1;have Cn:=eE hM jf (Oh _)<|aw<|tk (ja s 0) k1;have YX:=H.sx.lt;obtain⟨tv,xv,rfl⟩:=V.iface;clear V q;have⟨c,ff,z⟩:=H.sx.bx
 cases hb:bh (tk (ja s 0) k1) eQ
 .have H:=H.re (g':=λk=>.ok (a,k)) (by rw[Jr];rw[hb];rfl);simp only[tT (eM s k1 YX) H.sx.ok (L:=[(eQ,UO x0 y0)]) (by simp[hb];decide),lz]at hl Cn
  go_wp2
  go_quiet(fail)
  go_wp2
  go_ret;exact(H.af<|below_drewN _ nq).done λh=>h.2
 .have hg:aZ (aw<|tk (ja s 0) k1) [(eQ,UO x0 y0)]=some (UO x0 y0):=by rw[gq hb];rfl
  simp only[hg,lz]at hl Cn;have H:=H.re (g':=aq (opM (ja s 0) (sJ (ja s 0)<|eU (ja s 0)<|dn (ja s 0)<|yt s n) (tk (ja s 0) k1).text (tk (ja s 0) k).ak a) λa k=>.ok (a,k)) (by rw[<-EY,yu hb];rw[Jr];rw[if_pos hb];rfl);have HC:=λq=>ajV hs HF hcF jU (H.af<|below_drewN _ q).sx ae (by rw[yu hb];simp) (Jk hb) (tk (ja s 0) k).ak (bx0.move (br _) λ_ _ _=>rfl) (by0.move (br _) λ_ _ _=>rfl) (P:=λb=>w.heap.size<=b) (λb p=>by have p':w.heap.size<=b:=p;have:=H.rz.1;omega) (H.af<|below_drewN _ q).p.2
  go_wp2
  go_quiet(fail);go_wp2_with fail;refine(H.af<|below_drewN _ nq).op AD (HC nq) ?_;intro a k2 t x w1 H _
  go_wp2
  go_ret;exact H.done id
section
open Go.MapKept Un
section
variable [DecidableEq κ] {enc:κ->Value}
def vA(x:κ):List (κ×Value)->List (κ×Value)
 |[]=>[]|p::l=>if p.1=x then l else p::vA x l
def KR(x:κ):∀(L:List (κ×Value)),List.Sublist (vA x L) L
 |[]=>List.Sublist.slnil|p::l=>by
  rw[vA];split
  .exact List.sublist_cons_self _ _
  .exact(KR x l).cons_cons p
def yB(x y:κ):∀{L:List (κ×Value)},(L.map (·.1)).Nodup->aZ y (vA x L)=if x=y then none else aZ y L
 |[],_=>by simp[vA,aZ]|p::l,h=>by
  simp only[List.map_cons,List.nodup_cons]at h;unfold vA;by_cases e:p.1=x
  .rw[if_pos e];by_cases q:x=y
   .rw[if_pos q]
    cases hg:aZ y l with
    |none=>rfl|some v=>exact absurd (tH.1 (by rw[hg];rfl)) (by rw[<-q,<-e];exact h.1)
   .rw[if_neg q]
    conv=>rhs;unfold aZ
    rw[if_neg<|λr=>q<|e.symm.trans r]
  .rw[if_neg e];unfold aZ;rw[yB x y h.2];by_cases q:p.1=y
   .rw[if_pos q,if_pos q,if_neg<|λr=>e<|q.trans r.symm]
   .rw[if_neg q,if_neg q]
def Sa(x:κ):∀(L:List (κ×Value))(es:List MapEntry)(i j:Nat)(u:Value),es.map (λe=>(e.key,e.val))=L.map (λp=>(enc p.1,p.2))->yc x L i=some (j,u)->i<=j/\(es.eraseIdx<|j-i).map (λe=>(e.key,e.val))=(vA x L).map (λp=>(enc p.1,p.2))
 |[],es,i,j,u,_,h=>by simp[yc]at h|p::l,[],i,j,u,h,_=>vR|p::l,e0::es,i,j,u,m9,h=>by
  simp only[List.map_cons,List.cons.injEq,Prod.mk.injEq]at m9;rw[yc]at h;split at h
  .rename_i hp;simp only[Option.some.injEq,Prod.mk.injEq]at h;obtain⟨rfl,rfl⟩:=h;refine⟨br _,?_⟩;simp[vA,hp,m9]
  .rename_i hp;have⟨h1,h4⟩:=Sa x l es (i+1) j u m9.2 h;refine⟨ae,?_⟩;rw[show j-i=(j-(i+1))+1 by omega];simp[vA,hp,h4,m9]
def vB(x:κ):∀(L:List (κ×Value)),aZ x L=none->vA x L=L
 |[],_=>rfl|p::l,h=>by
  rw[aZ]at h;rw[vA];split
  .rename_i e;rw[if_pos e]at h;cases h
  .rename_i e;rw[if_neg e]at h;rw[vB x l h]
variable {L:List (κ×Value)} {k e t:TypeId}
def Sb{p:Prop}(h:p:=by
 simp[Builtin.delete_,run_underlying ht,MapKept.run_getObj_map hb,K.chk,hf,MapKept.run_setObj_map _ hb,Result.andThen,setBlock]):p:=h
def MG.del(K:KL P k enc (λ_ _=>True))(h:MG enc w b L)(ht:P.underlying t=some (.map k e))x ty:∃o,(Builtin.delete_ #[t,k] ty #[Mv b,enc x]).run P w=.ok (.tuple #[]) (setBlock w b o)/\MG enc (setBlock w b o) b (vA x L):=by
 obtain⟨es,clock,hb,m9,hn,hk,hd⟩:=h;have hf:=K.fin x L es.toList w trivial (λ_ _=>trivial) m9
 cases yd:yc x L 0 with
 |none=>
  rw[yd]at hf;refine⟨.map es clock,?_,es,clock,heap_setBlock_same hb _,?_,hn,hk,?_⟩
  .exact Sb
  .rw[vB x L<|oU x L 0 yd];exact m9
  .rw[vB x L<|oU x L 0 yd];exact hd
 |some p=>
  obtain⟨j,u⟩:=p;rw[yd]at hf;have⟨_,h4⟩:=Sa (enc:=enc) x L es.toList 0 j u m9 yd;have⟨_,e0,h2,_,_⟩:=EH (enc:=enc) x u L es.toList 0 j u m9 yd;have hjs:j<es.size:=by
   have:=(List.getElem?_eq_some_iff.1 h2).1;simpa using this
  have amF:(es.eraseIdxIfInBounds j).toList=es.toList.eraseIdx j:=by
   rw[Array.eraseIdxIfInBounds];rw[dif_pos hjs];simp
  refine⟨.map (es.eraseIdxIfInBounds j) clock,?_,_,clock,heap_setBlock_same hb _,?_,?_,?_,?_⟩
  .exact Sb
  .grind
  .grind
  .grind
  .exact hd.sublist ((KR x L).map _)
def Hl(K:KL P k enc (λ_ _=>True))(ht:P.underlying t=some (.map k e)){ops}{rest}{o}{a}{Q}(hg:o.guard=none)m x(r_:o.op=Op.call {callee:=Callee.builtin Builtin.delete,args:=#[m,x],argTypes:=#[t,k]})(hm:a.eval m=Mv b)(hM:MG enc w b L)key(hx:a.eval x=enc key)(hK:∀w',MG enc w' b (vA key L)->One b w w'->wpList P ops Q rest (a.put o.dst<|.tuple #[]) w'):
 wpList P ops Q (o::rest) a w:=by
 refine wpList_plain hg λK' hK'=>?_;have⟨ob,lN,r1⟩:=hM.del K ht key o.type;rw[Oper.wp,execOp];simp only[r_,resolve,invoke,builtin,Sem.run_bind,Sem.run_pure,Result.andThen_ok,List.map_toArray,List.map_cons,List.map_nil,hm,hx,lN];exact hK' _ _<|hK _ r1<|One.set w b ob
end
end
section
open Un
def byS:Option (BA×List Nat)->BA
 |none=>⟨#[]⟩|some (c,_)=>pn c
abbrev nA n:=Pv n
def nP:Option Nat->Value
 |none=>.pointer none|some m=>nA m
def slN:Option (BA×List Nat)->Nat
 |none=>0|some (_,l)=>l.length
def iy(w:World)(ds:List Nat)(sa:Option Addr):Option (BA×List Nat)->Prop
 |none=>True|some (c,l)=>CN c/\l.length<=1001/\(∀m∈l,m∈ds)/\(l=[]\/∃g,sa=some ⟨g,0,none⟩/\¬g∈ds/\g<w.heap.size/\∀i(h:i<l.length),w.cell? ⟨g,i,none⟩=some (nA l[i]))
inductive KS(nx:Nx):Nat->Nat->Nat->Prop where
 |here{n:Nat}:nx n=none->KS nx n n 0
 |step{n m h k:Nat}:nx n=some m->KS nx m h k->KS nx n h (k+1)
def Hd.len{nx}(k:Hd nx n h):∃j,KS nx n h j:=by
 induction k with
 |here e=>exact⟨0,.here e⟩|step e _ ih=>obtain⟨j,hj⟩:=ih;exact⟨j+1,.step e hj⟩
def KS.one{nx}{h' j'}(k:KS nx n h j)(k':KS nx n h' j'):j=j':=by
 induction k generalizing j' with
 |here e=>cases k' with
  |here=>rfl|step e' _=>grind
 |step e _ ih=>cases k' with
  |here e'=>grind|step e' k'=>grind
def KS.eh{nx}{x h j}(k:KS nx x h j){n hn jn}(kn:KS nx n hn jn)(bz:j<jn)v:KS (eh nx n v) x h j:=by
 induction k with
 | @here x e=>
   have:x≠n:=λq=>by subst q;have:=(KS.here e).one kn;omega
   exact .here (by simpa[ji,this]using e)
 | @step x m h k e kk ih=>
   have:x≠n:=λq=>by subst q;have:=(KS.step e kk).one kn;omega
   exact .step (m:=m) (by simpa[ji,this]using e)<|ih ae
structure iU str nx bi:Prop where
 nR:∀V,mP str bi V↔mP str nx V
 nk:∀P,vW str nx P->vW str bi P
 eqs:∀P E,jj bi P E->jj nx P E
 lj:∀x h,Hd nx x h->Hd bi x h
 Bt:∀n,bi n=none↔nx n=none
def iU.refl str nx:iU str nx nx:=⟨λ_=>Iff.rfl,λ_ h=>h,λ_ _ h=>h,λ_ _ h=>h,λ_=>Iff.rfl⟩
def iU.trans{str}{a b c}(h:iU str a b)(k:iU str b c):iU str a c:=
 ⟨λV=>(k.nR V).trans<|h.nR V,λP q=>k.nk P<|h.nk P q,λP E q=>h.eqs P E<|k.eqs P E q,λx y q=>k.lj x y<|h.lj x y q,λn=>(k.Bt n).trans<|h.Bt n⟩
def iU.short str{nx}{n m k}(h1:nx n=some m)(h2:nx m=some k)(df:n≠m):iU str nx (ji nx n<|some k):=
 ⟨λV=>mP.short h1 h2 df,λP h=>h.short h1 h2 df,λP E q=>q.IU h1 h2 df,λx h j=>j.short h1 h2,λx=>by
  by_cases e:x=n
  .subst e;simp[ji,h1]
  .simp[ji,e]⟩
def hc(nx:Nx)(ds:List Nat):Nat:=(ds.filter λn=>(nx n).isNone).length
def aa5{nx}(h:iU str nx bi)ds:hc bi ds=hc nx ds:=by
 rw[hc];congr 1;apply List.filter_congr;intro x _;have:=h.Bt x
 cases e:bi x<;>cases e':nx x<;>simp[e,e']at this⊢
def Om{nx}(ha:nx a=none):∀{ds:List Nat},a∈ds->hc (ji nx a<|some b) ds<hc nx ds:=by
 have hle:∀ds:List Nat,hc (ji nx a<|some b) ds<=hc nx ds:=by
  intro ds
  induction ds with
  |nil=>exact br _|cons x l ih=>
   unfold hc at ih⊢;by_cases e:x=a
   .grind
   .have e1:ji nx a (some b) x=nx x:=by simp[ji,e]
    by_cases e2:(nx x).isNone=true
    .grind
    .grind
 intro ds h
 induction ds with
 |nil=>simp at h|cons x l ih=>
  by_cases e:x=a
  .subst e;have h1:hc (ji nx x<|some b) (x::l)=hc (ji nx x<|some b) l:=by
    unfold hc;rw[List.filter_cons_of_neg QG]
   have h2:hc nx (x::l)=hc nx l+1:=by
    unfold hc;rw[List.filter_cons_of_pos<|by simp[ha]];simp
   have:=hle l;omega
  .have:=ih<|(List.mem_cons.1 h).resolve_left<|λq=>e q.symm;have e1:ji nx a (some b) x=nx x:=by simp[ji,e]
   unfold hc at this⊢;by_cases e2:(nx x).isNone=true
   .grind
   .grind
structure JR str nx bi x y ok:Prop where
 eqs:∀P E,jj bi P E->jj nx P E
 yes:ok=true->(∀V,mP str bi V↔mP str nx V/\V x=V y)/\(∀P,vW str nx P->vW str bi P)/\(∀P E,jj bi P E->E x y)
 no:ok=false->∀V,mP str nx V->V x≠V y
def JR.pE{nx ri}{x}{ok}(h:JR str ri bi a b ok)(e:iU str nx ri)(hx:Hd nx x a)(hy:Hd nx y b):JR str nx bi x y ok:=by
 refine⟨λP E q=>e.eqs P E<|h.eqs P E q,λhk=>?_,λhk V hV=>?_⟩
 .have⟨h1,h2,h3⟩:=h.yes hk;refine⟨λV=>?_,λP q=>h2 P<|e.nk P q,λP E q=>?_⟩
  .rw[h1 V,e.nR V];constructor
   .rintro⟨s,t⟩;exact⟨s,by rw[hx.nR s,hy.nR s];exact t⟩
   .rintro⟨s,t⟩;exact⟨s,by rw[<-hx.nR s,<-hy.nR s];exact t⟩
  .have q1:=e.eqs P E<|h.eqs P E q;exact q1.trans _ _ _ (hx.eq q1)<|q1.trans _ _ _ (h3 P E q)<|q1.symm _ _<|hy.eq q1
 .have:=h.no hk V<|(e.nR V).2 hV;rw[hx.nR hV,hy.nR hV];exact this
def JR.same str nx a:JR str nx nx a a true:=⟨λ_ _ q=>q,λ_=>⟨λV=>ag,λ_ q=>q,λP E q=>q.refl a⟩,λh=>Mo⟩
def JR.alv{nx}(ha:nx a=none)(hs:str a=none):JR str nx (ji nx a<|some b) a b true:=
 ⟨λP E q=>(q.jE ha).1,λ_=>⟨λV=>mP.join ha,λP q=>q.var ha hs,λP E q=>(q.jE ha).2⟩,λh=>Mo⟩
def JR.alw{nx}(hb:nx b=none)(hs:str b=none):JR str nx (ji nx b<|some a) a b true:=
 ⟨λP E q=>(q.jE hb).1,λ_=>⟨λV=>(mP.join hb).trans (by constructor<;>rintro⟨s,t⟩<;>exact⟨s,t.symm⟩),λP q=>q.var hb hs,λP E q=>q.symm _ _ (q.jE hb).2⟩,λh=>Mo⟩
def JR.afq{nx}(ha:str a=some (c,l))(hb:str b=some (c',l'))(h:c≠c'\/l.length≠l'.length):JR str nx nx a b false:=by
 refine⟨λ_ _ q=>q,λh=> Mo,λ_ V s e=>?_⟩;rw[s.made a c l ha,s.made b c' l' hb]at e;injection e with e1 e2;obtain h|h:=h
 .exact h e1
 .exact h (by have:=congrArg List.length e2;simpa using this)
structure JL str nxu gV(l l':List Nat)j:Prop where
 eqs:∀P E,jj gV P E->jj nxu P E
 nR:∀V,mP str gV V↔mP str nxu V/\∀i(h:i<l.length)(h':i<l'.length),i<j->V l[i]=V l'[i]
 nk:∀P,vW str nxu P->vW str gV P
 prs:∀i(h:i<l.length)(h':i<l'.length),i<j->∀P E,jj gV P E->E l[i] l'[i]
def JL.start str nx l l':JL str nx nx l l' 0:=by
 refine⟨λ_ _ q=>q,λV=>⟨λs=>⟨s,?_⟩,λs=>s.1⟩,λ_ q=>q,?_⟩
 .omega
 .grind
def JL.step{str}{nxu gV bi}{l l'}{j}(h:JL str nxu gV l l' j)(hj:j<l.length)(hj':j<l'.length)(k:JR str gV bi l[j] l'[j] true):JL str nxu bi l l' (j+1):=by
 have⟨k1,k2,k3⟩:=k.yes rfl;refine⟨λP E q=>h.eqs P E<|k.eqs P E q,λV=>?_,λP q=>k2 P<|h.nk P q,λi hi oj hij P E q=>?_⟩
 .rw[k1 V,h.nR V];constructor
  .rintro⟨⟨s,t⟩,u⟩;refine⟨s,λi hi oj hij=>?_⟩;by_cases e:i=j
   .subst e;exact u
   .grind
  .grind
 .by_cases e:i=j
  .grind
  .exact h.prs i hi oj ae P E (k.eqs P E q)
def nH{V:Nat->Ty}(h:l.map V=l'.map V)i(hi:i<l.length)(oj:i<l'.length):V l[i]=V l'[i]:=by
 have:=congrArg (λx=>x[i]?) h;simpa[hi,oj]using this
def JL.done{nx}(ha:nx a=none)(hs:str a=some (c,l))(lf:str b=some (c,l'))(hl:l.length=l'.length)(h:JL str (ji nx a<|some b) gV l l' l.length):JR str nx gV a b true:=by
 refine⟨λP E q=>((h.eqs P E q).jE ha).1,λ_=>⟨λV=>?_,λP q=>?_,λP E q=>((h.eqs P E q).jE ha).2⟩,λh=>Mo⟩
 .rw[h.nR V,mP.join ha];constructor
  .grind
  .rintro⟨s,t⟩;refine⟨⟨s,t⟩,λi hi oj _=>?_⟩;rw[s.made a c l hs,s.made b c l' lf]at t;injection t with _ t;exact nH t i hi oj
 .have h1:=h.nk _<|q.aK ha hs lf hl;refine h1.akX λE hE m n hm=>?_;have⟨i,hi,e⟩:=List.getElem_of_mem hm;have hi1:i<l.length:=Hv;have rS:i<l'.length:=Hv;rw[List.getElem_zip]at e;injection e with e1 e2;subst e1;subst e2;exact h.prs i hi1 rS hi1 P E hE
def JL.fail{nx}(ha:nx a=none)(hs:str a=some (c,l))(lf:str b=some (c,l'))(h:JL str (ji nx a<|some b) gV l l' j)(hj:j<l.length)(hj':j<l'.length)(k:JR str gV bi l[j] l'[j] false):JR str nx bi a b false:=by
 refine⟨λP E q=>((h.eqs P E<|k.eqs P E q).jE ha).1,λh=> Mo,λ_ V s e=>?_⟩;have t:=e;rw[s.made a c l hs,s.made b c l' lf]at t;injection t with _ t;have s1:=(h.nR V).2 ⟨(mP.join ha).2 ⟨s,e⟩,λi hi oj _=>nH t i hi oj⟩;exact k.no rfl V s1 (nH t j hj hj')
def lD(h:CN c):(pn c).toList≠[]:=by
 obtain rfl|rfl|h:=h
 .rw[kT,show(ByteArray.mk #[45,62]).toList=[45,62]from toList_mk [45,62]];simp
 .rw[kU,show(ByteArray.mk #[44]).toList=[44]from toList_mk [44]];simp
 .rw[eS h];obtain⟨x,r,e,_⟩:=h;rw[e];simp
def ahD(h:CN c)(h':CN c')(e:(pn c).toList=(pn c').toList):c=c':=by
 have f1:=toList_mk [45,62];have f2:=toList_mk [44];obtain rfl|rfl|h:=h<;>obtain rfl|rfl|h':=h'
 .rfl
 .rw[kT,kU,f1,f2]at e;simp at e
 .rw[kT,eS h',f1]at e;exact absurd e.symm<|dd h' 45 [62] aH
 .rw[kT,kU,f1,f2]at e;simp at e
 .rfl
 .rw[kU,eS h',f2]at e;exact absurd e.symm<|dd h' 44 [] aH
 .rw[kT,eS h,f1]at e;exact absurd e<|dd h 45 [62] aH
 .rw[kU,eS h,f2]at e;exact absurd e<|dd h 44 [] aH
 .rw[eS h,eS h']at e;exact toList_inj e
def VN:(Tryz.prog.info? 187).map (λi=>i.size)=some 5:=qkr
def KT{tp te}{j}(hu:P.underlying tp=some (.pointer te))(hj:P.info? te=some j)(hjs:j.size≠0)(ha:w.heap[a]? =some (.cells ca ta (0,0)))(hb:w.heap[b]? =some (.cells cb tb (0,0))):(binOp .eql tp (nA a)<|nA b).run P w=.ok (.bool<|decide (a=b)) w:=by
 have hq:(Op.equal tp (nA a)<|nA b).run P w=.ok (decide (a=b)) w:=by
  rw[Op.equal,Op.maxDepth,Op.equalIn];simp only[Sem.run_bind,run_underlying hu,Result.andThen,Go.sizeOf,Go.typeInfo,hj];by_cases e:a=b
  .subst e;simp[hjs,run_sameAddr_same,hj]
  .simp[e,hjs,hj,run_sameAddr_other w (a:=⟨a,0,none⟩) (b:=⟨b,0,none⟩) (by intro q;injection q with q;exact e q) ha hb]
 simp only[binOp];simp[hq]
def aa6(ha:w.heap[a]? =some (.cells ca ta (0,0)))(hb:w.heap[b]? =some (.cells cb tb (0,0))):(binOp .eql 116 (nA a)<|nA b).run jd w=.ok (.bool<|decide (a=b)) w:=by
 have⟨j,hj,hjs⟩:=Option.map_eq_some_iff.1 VN;exact KT qkr hj ae ha hb
def ahE{nx}(hm:h∈ds)(hn:nx h=none):0<hc nx ds:=by
 rw[hc];apply List.length_pos_of_mem (a:=h);rw[List.mem_filter];exact⟨hm,by simp[hn]⟩
section
variable {w':World} {nx:Nx}
theorem iy.move{s:Option (BA×List Nat)}(h:iy w ds sa s)(hs:w.heap.size<=w'.heap.size)(hb:∀b i v,w.cell? ⟨b,i,none⟩=some v->w'.heap[b]? =w.heap[b]?):iy w' ds sa s:=by
 cases s with
 |none=>trivial|some p=>
  obtain⟨c,l⟩:=p;obtain⟨h1,h2,h3,h4⟩:=h;refine⟨h1,h2,h3,?_⟩;by_cases e:l=[]
  .exact jl e
  .have⟨g,q1,q2,q3,q4⟩:=h4.resolve_left e;refine jk ⟨g,q1,q2,ae,λi hi=>?_⟩;have:=q4 i hi;rw[World.cell?_of_block (a:=⟨g,i,none⟩) (w:=w)<|hb g i _ this];exact this
def iy.more{s:Option (BA×List Nat)}(h:iy w ds sa s)(hn:w.heap.size<=n):iy w (n::ds) sa s:=by
 cases s with
 |none=>trivial|some p=>
  obtain⟨c,l⟩:=p;obtain⟨h1,h2,h3,h4⟩:=h;refine⟨h1,h2,λm hm=>List.mem_cons_of_mem _<|h3 m hm,h4.imp id ?_⟩;rintro⟨g,q1,q2,q3,q4⟩;refine⟨g,q1,λhg=>?_,q3,q4⟩;obtain q|q:=List.mem_cons.1 hg
  .omega
  .exact q2 q
end
structure Ns where
 ds:List Nat
 str:ya
 vr:Nat->Nat
 ly:Nat->Option Addr×Nat
 ty:Nat->Ty
 vl:List Nat
def MS.rV[DecidableEq κ]{enc}{L:List (κ×Value)}(h:MS enc w b L)(i:Nat):w.cell? ⟨b,i,none⟩=none:=by
 obtain⟨es,c,hb,_⟩:=h;simp[World.cell?,hb]
def jP{i}(h:w.cell? ⟨b,i,none⟩=some v):b<w.heap.size:=by
 by_cases e:b<w.heap.size
 .exact e
 .have:w.heap[b]? =none:=Array.getElem?_eq_none ae;simp[World.cell?,this]at h
section
variable {kb mb:Nat} {G:Ns}
def AG w:(zeroValue 116).run jd w=.ok (.pointer none) w:=qkr
end
end
end Go.Proofs.YtfnkchdeheeiiaaGreatDoor

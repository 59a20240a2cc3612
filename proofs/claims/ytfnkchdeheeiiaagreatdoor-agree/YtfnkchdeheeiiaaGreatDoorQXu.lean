import Derived.Test.YtfnkchdeheeiiaaGreatDoorQQd
import Derived.Test.YtfnkchdeheeiiaaGreatDoorQXo
import Derived.Test.YtfnkchdeheeiiaaGreatDoorQOa
set_option linter.all false
set_option maxRecDepth 100000
set_option maxHeartbeats 4000000
namespace Go.Proofs.YtfnkchdeheeiiaaGreatDoor
open Un renaming eh->ja,Fin->jc
open Pu renaming bG->jd,Tok->jf
open _root_.List renaming getElem_mem->jh,take_succ_eq_append_getElem->ji,mem_cons_of_mem->jj,map_cons->jk,map_congr_left->jl,take_length->jm,countP_cons->jo
open Or renaming inl->jp,inr->jq
open _root_.Nat renaming le_trans->jt,zero_le->ju,not_lt_zero->jv
open Classical renaming byContradiction->jx
open Go.World renaming setCell->jy,cell?_of_block->jz,frozen?->j5
open Go.Proofs.Tryz renaming prog->j6,underlying233->j7,underlying188->j8
open Bool renaming not_eq_true->j9
open Un.Ty renaming aK->qe
open In renaming bR->qf,St->qg,sv->qh
open Go Go.RowKit Go.ChangeMaps Proofs.Tryz
variable {c:BA} {s s1:qg} {ds l ps:List Nat} {T:List jf} {expr wv:M Nd} {N a b h h' k kb m mb n p rb sb v x y:Nat} {cC sq mI vr:Nat->Nat} {ly:Nat->Option Addr×Nat} {D F:Nat->Prop} {U V VF θ:Nat->Un.Ty} {G:Ns} {q:Option (BA×List Nat)} {bi eP ri:Un.Nx} {str:Un.ya} {w w':World}
def mJ{α β γ:Type}m(f:α->M β)(g:β->M γ):aq (aq m f) g=aq m λa=>aq (f a) g:=by grind[aq]
def On(T:List jf)(wv expr:M Nd):M (Nd×Nd):=aq wv λp=>aq (bu T kG) λ_=>aq expr λe k=>.ok ((p,e),k)
def ajW w P(a:Nd×Nd)(v:Value):=∃(u1 u2:Int)(vp ve:Value),v=.agg #[Iv u1,Iv u2,vp,ve]/\PP w P a.1 vp/\PE w P a.2 ve
section
def Bx.ajX{C}(h:Bx w b C)(hC:C.size=4)v0 v1 v2 v3:Bx ((((w.setCell ⟨b,0,none⟩ v0).setCell ⟨b,1,none⟩ v1).setCell ⟨b,2,none⟩ v2).setCell ⟨b,3,none⟩ v3) b #[v0,v1,v2,v3]:=by
 obtain⟨a0,a1,a2,a3,rfl⟩:∃a0 a1 a2 a3,C=#[a0,a1,a2,a3]:=by
  obtain⟨l⟩:=C
  match l,hC with
  |[a,b,c,d],_=>grind
 exact(((h.aP 0 v0 #[v0,a1,a2,a3] rfl ag).aP 1 v1 #[v0,v1,a2,a3] rfl ag).aP 2 v2 #[v0,v1,v2,a3] rfl ag).aP 3 v3 #[v0,v1,v2,v3] rfl ag
variable {m:MV} {s:BA}
def aa7{e}(hm:mQ e):mQ (bindM T e):=λk a k' h=>by
 rw[bindM]at h;split at h
 .have⟨_,k2,h3,h4⟩:=aB h;have⟨_,k3,h5,h6⟩:=aB h4;have⟨_,k4,h7,h8⟩:=aB h6
  cases h8
  have:=eH _ _ _ _ h3;have:=bA _ _ _ _ h5;have:=Gp hm _ _ _ h7;omega
 .have⟨_,k2,h3,h4⟩:=aB h;have⟨_,k3,h5,h6⟩:=aB h4;have⟨_,k4,h7,h8⟩:=aB h6
  cases h8
  have:=eH _ _ _ _ h3;have:=bA _ _ _ _ h5;have:=hm _ _ _ h7;omega
def ad4(hs:s.size<=1000)(IH:eW s n)(h:SX w N rb sb m s k)(hn:(jd s 0).length<=k+1+n):
 Cq 181 #[rp rb] w (ap PE N rb sb m s (li (jd s 0) (bO (jd s 0) n) k) w):=by
 have WS:=hY;have YN:=kM;refine cM.zN h rfl λH=>?_;go_enter func181,ntmps181;go_wp2_with fail;refine(H.re<|congrFun (mJ _ _ _) _).take ?_;intro w1 H;go_wp2_with fail;refine H.call (C7 hs IH H.sx ae) ?_;intro b k2 v2 w2 H q V;obtain⟨ve,rfl,V,-⟩:=V;obtain⟨te,xe,rfl⟩:=V.iface;clear V;have l2:k+1<k2:=aa7 (kQ n) _ _ _ q;go_wp2_with fail;refine H.box.take ?_;intro w3 H;go_wp2_with fail;refine H.expr IH ?_;intro c k4 t4 x4 w4 H l4;have⟨⟨_,c1,f1,z1⟩,_⟩:=H.p
 go_wp2
 go_region_with(go_at_call 105;refine H.drew.since ?_;intro w5 H;have⟨⟨_,c1,f1,z1⟩,_⟩:=H.p)
 all_goals(
  go_wp2
  go_ret;refine H.done ?_;rintro⟨⟨⟨_,ve,e,A,B,C,D⟩,_⟩,V⟩
  cases e
  exact .lt _ _ _ _ _ _ _ _ _ _ _ B C D A V)
def afr(hs:s.size<=1000)(IHP:BO s n)(IH:eW s n)(h:SX w N rb sb m s k)(hn:(jd s 0).length<=k+n):
 Cq 251 #[rp rb] w (ap ajW N rb sb m s (On (jd s 0) (du (jd s 0) n) (bO (jd s 0) n) k) w):=by
 have WS:=hY;have YN:=kM;have o:w.heap.size≠rb:=by have:=h.z;omega
 have⟨c0,f0,z0⟩:=h.bx;refine cM.zN h rfl λH=>?_;go_enter func251,ntmps251;go_wp2_with fail;refine H.own.wv IHP ?_;intro a k1 t1 x1 w1 H l1;go_wp2_with fail;refine H.take ?_;intro w2 H;go_wp2_with fail;refine H.expr IH ?_;intro b k3 t3 x3 w3 H l3;go_wp2_with fail;refine H.since ?_;intro w4 H;have⟨c,f,z⟩:=H.bo o;go_wp2_with fail;have B:=(H.bo o).ajX rfl (Nv (tk (Pu.bG s 0) k).ak) (.int .i64 ((aS (Pu.bG s 0) k3:Nat):Int)) (Fv t1<|Av x1) (Fv t3<|Av x3);obtain⟨cF,fF,zF⟩:=B;exact bodyPost_ret (v:=Av #[Nv (tk (Pu.bG s 0) k).ak,.int .i64 ((aS (Pu.bG s 0) k3:Nat):Int),Fv t1<|Av x1,Fv t3<|Av x3]) (by simp[results,Tryz.results251,go_sem,cF]) rfl
  ((H.put o ⟨cF,fF,zF⟩<|cW<|cW<|cW<|cW ⟨rfl,rfl,rfl,rfl,λ_ _=>rfl⟩).done λ⟨⟨_,A⟩,B⟩=>⟨_,_,_,_,rfl,A,B⟩)
end
def ad5:(Tryz.prog.info? 257).map (λi=>(i.zero,i.size,i.bytes))=some (some<|.agg #[Iv 0,Iv 0,.nilIface,.nilIface],4,48):=qkr
def VO:Tryz.prog.underlying 199=some (.slice 257):=qkr
def kZ(T:List jf)wv expr f l:=λk=>if bh (tk T k) YY=true then kH T wv expr f l (k+1)else .ok (l,k)
def Gs(T:List jf)wv expr f l k:kH T wv expr (f+1) l k=aq (On T wv expr) (λa=>kZ T wv expr f<|l++[a.1,a.2]) k:=by
 rw[On];rw[mJ];show aq wv _ k=_;congr 1;funext p;rw[mJ];congr 1;funext _;rw[mJ];rfl
def DI(hp:aR T wv)(he:aR T expr):aR T (On T wv expr):=fO hp λ_=>fO (rM _ _) λ_=>fO he λ_=>Jl _
def gB(T:List jf)wv expr f l:aR T (kZ T wv expr f l):=by grind[aR,kZ,eD,dc]
def Sc(hp:Fq wv)(he:mQ expr):mQ (On T wv expr):=λk a k' h=>by
 rw[On]at h;have⟨_,k1,h1,h2⟩:=aB h;have⟨_,k2,h3,h4⟩:=aB h2;have⟨_,k3,h5,h6⟩:=aB h4
 cases h6
 have:=hp _ _ _ h1;have:=bA _ _ _ _ h3;have:=he _ _ _ h5;omega
def aa8 A p:aU (A++[p])=aU A++[p.1,p.2]:=by
 induction A with
 |nil=>rfl|cons q l ih=>show q.1::q.2::aU (l++[p])=q.1::q.2::(aU l++_);rw[ih]
def ad6:EQ (Nd×Nd):=λw P a c=>(∃u1 u2:Int,c 0=Iv u1/\c 1=Iv u2)/\PP w P a.1 (c 2)/\PE w P a.2 (c 3)
def mK:gn ad6:=λ_ _ _ _ _ _ h h1 h2 h3=>⟨h.1,h.2.1.move h1 h2 h3,h.2.2.move h1 h2 h3⟩
def ajY x w P l v:=∃A,A≠[]/\l=x::aU A/\RowV ad6 4 w P A v
section
variable {m:MV} {s:BA}
def Sd:Mov ajW:=λ_ _ _ _ _ _⟨a,b,c,d,e,f,g⟩p q r=>⟨a,b,c,d,e,f.move p q r,g.move p q r⟩
def KU(hs:s.size<=1000)(hT:(jd s 0).length<=1001)(IHP:BO s n)(IH:eW s n)(h:SX w N rb sb m s k)(hn:(jd s 0).length<=k+n)x:
 Cq 250 #[rp rb,oY 251 rb] w (ap (ajY x) N rb sb m s (kH (jd s 0) (du (jd s 0) n) (bO (jd s 0) n) (jd s 0).length [x] k) w):=by
 have hcA:∀args w,(callFunc 251 args).run Tryz.prog w=.ok (.enter 251 args) w:=λ_ _=>qkr;have hk:=h.lt;obtain⟨r,hr⟩:∃r,r=kH (Pu.bG s 0) (du (Pu.bG s 0) n) (bO (Pu.bG s 0) n) (Pu.bG s 0).length [x] k:=⟨_,rfl⟩;rw[<-hr];obtain⟨L,hL⟩:∃L,(Pu.bG s 0).length=L+1:=⟨(Pu.bG s 0).length-1,ae⟩;refine cM.zN h (by rw[hr,hL];exact Gs _ _ _ _ _ _) λH=>?_;have HL:=ai hL;clear hr hL;go_enter func250,ntmps250;go_wp2_with fail;refine H.call (afr hs IHP IH h hn) ?_ (st:=λa=>gB _ _ _ _ _) (mv:=Sd);intro a k1 v1 w1 H q V;have l1:=Sc (oW (T:=(Pu.bG s 0)) n) (kQ n) _ _ _ q;obtain⟨u1,u2,vp,ve,rfl,P1,E1⟩:=V;obtain⟨tp,xp,rfl⟩:=P1.iface;obtain⟨te,xe,rfl⟩:=E1.iface;have H:=(H.af<|bw _).row mK (dC.one (sz:=4) (et:=257) (lo:=w.heap.size) (c:=λj=>([Iv u1,Iv u2,Fv tp<|Av xp,Fv te<|Av xe]:List Value).getD j Zv) mK ⟨⟨u1,u2,rfl,rfl⟩,P1,E1⟩ (br _) H.ke.size aH #[Iv u1,Iv u2,Fv tp<|Av xp,Fv te<|Av xe] rfl rfl) ⟨br _,.inl rfl⟩;clear P1 E1 q
 go_wp2
 go_loopg[5] ((jd s 0).length-k1) (λgk v wr=>EZ (·≠[]) ad6 257 4 N rb sb m s (k+1) w r (λf A _=>kZ (jd s 0) (du (jd s 0) n) (bO (jd s 0) n) f (x::aU A)) gk v wr)
 case atStart=>exact⟨k1,[a],L,_,1,0,rfl,ag,H,ai rfl,l1,bP,by have:=uh HL;omega⟩
 case round=>
  clear H HL;obtain⟨kr,A,f,va,vc,_,rfl,hA,H,dv,hle,hAl,hfu⟩:=hrel;have zw:=H.ke.size;have YW:=H.p.block;have YX:=H.sx.lt
  cases hb:bh (tk (jd s 0) kr) YY
  .have H:=H.re (g':=λk=>.ok (x::aU A,k)) (by dsimp only[kZ];rw[hb];rfl);go_wp2_with fail;refine H.ET hb ?_
   go_wp2
   go_ret;exact H.done λR=>⟨A,hA,rfl,R.v mK⟩
  .obtain⟨f,rfl⟩:∃f',f=f'+1:=⟨f-1,ae⟩;have H:=H.re (g':=aq qX λ_=>aq (On (jd s 0) (du (jd s 0) n)<|bO (jd s 0) n) λa=>kZ (jd s 0) (du (jd s 0) n) (bO (jd s 0) n) f (x::aU A++[a.1,a.2])) (by dsimp only[kZ];rw[if_pos hb,Gs];rfl);go_wp2_with fail;refine H.BS hb ?_ (st:=λ_=>fO (DI (p9 _)<|nC _) λa=>gB _ _ _ _ _);intro w2 H;go_wp2_with fail;have z2:=H.ke.size;have YW:=H.p.block;refine H.call (afr hs IHP IH H.sx ae) ?_ (st:=λa=>gB _ _ _ _ _) (mv:=Sd);intro a k2 v1 w1 H q V;have l2:=Sc (oW (T:=(jd s 0)) n) (kQ n) _ _ _ q;obtain⟨u1,u2,vp,ve,rfl,P1,E1⟩:=V;obtain⟨tp,xp,rfl⟩:=P1.iface;obtain⟨te,xe,rfl⟩:=E1.iface;go_wp2_with(at_builtin;go_must(refine H.append (D:=[Iv u1,Iv u2,Fv tp<|Av xp,Fv te<|Av xe]) hT mK ad5 VO H.p.1 z2 (λb e=>(YW b e).2) (c:=λj=>([Iv u1,Iv u2,Fv tp<|Av xp,Fv te<|Av xe]:List Value).getD j Zv) ⟨⟨u1,u2,rfl,rfl⟩,P1,E1⟩ ae ?_;intro q3 c3 w3 H));go_roundg((jd s 0).length-k2)
   case measure=>rw[uh dv];omega
   case rel=>exact⟨k2,A++[a],f,_,c3,0,ag,ag,H.re (by dsimp only;rw[aa8];rfl),ai rfl,ae,bP,ae⟩
end
section
variable {m:MV} {s:BA}
def RowV.mt{lo}{w w0:World}{A}{va}{vc}(h:RowV ad6 4 w (λb=>lo<=b) A (.slice va A.length vc))(h0:A≠[])(nN:w0.heap.size<=lo){x}{vx}(hx:PE w (λb=>w0.heap.size<=b) x vx)f t a:
 PE w (λb=>w0.heap.size<=b) (.mk 13 ls 0 (x::aU A) f t a) (.iface 201<|.agg #[Nv f,Nv t,vx,.slice va A.length vc]):=by
 obtain⟨qM,qN,cs,hv,aN,hr⟩:=h
 cases hv
 obtain h1|⟨g,rfl,h2,h3,h4⟩:=aN
 .exact absurd h1 h0
 have wd:∀b,lo<=b->w0.heap.size<=b:=λb p=>jt nN p;refine .mt _ _ x A f t a vx g vc (λi=>cs i 2) (λi=>cs i 3) h0 (wd g h2) h3 (λi hi=>?_) hx (λi hi=>(hr i hi).2.1.wide wd)<|λi hi=>(hr i hi).2.2.wide wd;have⟨u1,u2,e1,e2⟩:=(hr i hi).1;exact⟨⟨u1,u2,by rw[<-e1];exact h4 i hi 0 aH,by rw[<-e2];exact h4 i hi 1 aH⟩,h4 i hi 2 aH,h4 i hi 3 aH⟩
def Nu{n}(hT:0<T.length)x:aR T (kH T (du T n) (bO T n) T.length [x]):=by
 obtain⟨L,hL⟩:∃L,T.length=L+1:=⟨T.length-1,ae⟩;rw[hL];intro k h;rw[Gs];exact b_ (DI (p9 _) (nC _) k h) λ_=>gB _ _ _ _ _
def ad7(hs:s.size<=1000)(hT:(jd s 0).length<=1001)(IHP:BO s n)(IH:eW s n)(h:SX w N rb sb m s k)(hn:(jd s 0).length<=k+1+n):
 Cq 183 #[rp rb] w (ap PE N rb sb m s (lJ (jd s 0) (du (jd s 0) n) (bO (jd s 0) n) k) w):=by
 have WS:=hY;have YN:=kM;have hT0:0<(jd s 0).length:=by have:=h.lt;omega
 refine cM.zN h rfl λH=>?_;go_enter func183,ntmps183;go_wp2_with fail;refine H.take ?_;intro w1 H;go_wp2_with fail;refine H.expr IH ?_;intro x k2 t2 x2 w2 H l2;go_wp2_with fail;refine H.take ?_;intro w3 H;go_wp2_with fail;refine H.call (KU hs hT IHP IH H.sx ae x) ?_ (mv:=λ_ _ _ _ _ _⟨A,a,b,c⟩p q r=>⟨A,a,b,c.move mK p q r⟩);intro l k4 v4 w4 H q V;obtain⟨va,L,vc,rfl⟩:∃va L vc,v4=Lv va L vc:=by obtain⟨_,-,-,_,_,_,rfl,-⟩:=V;exact⟨_,_,_,rfl⟩
 clear q V;go_wp2_with fail;refine H.take ?_;intro w5 H;go_wp2_with fail;refine H.since ?_;intro w6 H
 go_wp2
 go_ret;refine H.done ?_;rintro⟨⟨_,V⟩,A,a,rfl,_,_,cs,e,R⟩
 cases e
 exact RowV.mt ⟨_,_,cs,rfl,R⟩ a (br _) V _ _ _
def tU{F}{r}(h:SX w N rb sb m s k)(hg:aZ (aw<|tk (jd s 0) k) (Qx rb)=some (oY F rb)\/aZ (aw<|tk (jd s 0) k) (Qx rb)=none/\F=273)(ZB:∀args w,(callFunc F args).run j6 w=.ok (.enter F args) w)(HC:∀W,SX W N rb sb m s k->Cq F #[rp rb] W (ap PE N rb sb m s r W)):Cq 249 #[rp rb] w (ap PE N rb sb m s r w):=by
 have⟨b,wF,_,_,hM⟩:=h.ev.mp.wd;have hl:=λq=>eE (hM.same (w':=w.drewN q) rfl) j7 (tC _)<|aw<|tk (jd s 0) k;have Cn:=eE hM j7 (tC _)<|aw<|tk (jd s 0) k;have⟨c,ff,z⟩:=h.bx;obtain hg|⟨hg,rfl⟩:=hg
 all_goals(
  simp only[hg,lz]at hl Cn;clear hg;go_enter func249,ntmps249
  go_wp2
  go_quiet(fail);go_wp2_with fail;refine(HC _<|h.af<|below_drewN _ nq).mono ?_;intro e w1 hp
  cases hA:fin (jd s 0) r with
  |error f'=>
   obtain⟨rfl,QC⟩:=hp.bad hA;exact⟨rfl,ap.fail ((Ke.of<|below_drewN _ nq).trans QC) hA⟩
  |ok p=>
  obtain⟨a,k2⟩:=p;obtain⟨v,rfl,QC,HS,HR⟩:=hp.ok hA;obtain⟨tv,xv,rfl⟩:=HR.iface;have HE:=ai (uN hA).1;have HK:=(Ke.of<|below_drewN w nq).trans QC;clear hp hA QC
  go_wp2
  go_ret
  exact ap.done HE HK HS HR)
def VP(hs:s.size<=1000)(hT:(jd s 0).length<=1001)(IH:eW s n):eW s (n+1):=by
 intro w N rb sb m k h hn;show Calls _ _ _ _<|ap PE N rb sb m s (if bh (tk (jd s 0) k) En=true then oM (jd s 0) (bO (jd s 0) n) k else if bh (tk (jd s 0) k) kIf=true then il (jd s 0) (bO (jd s 0) n) k else if bh (tk (jd s 0) k) oN=true then lJ (jd s 0) (du (jd s 0) n) (bO (jd s 0) n) k else if bh (tk (jd s 0) k) rB=true then li (jd s 0) (bO (jd s 0) n) k else(mi (jd s 0)<|sJ (jd s 0)<|eU (jd s 0)<|dn (jd s 0)<|yt s n) k) w
 cases n0:bh (tk (jd s 0) k) En
 .cases n1:bh (tk (jd s 0) k) kIf
  .cases n2:bh (tk (jd s 0) k) oN
   .cases n3:bh (tk (jd s 0) k) rB
    .exact tU h (.inr ⟨tT (eM s k h.lt) h.ok (by simp[n0,n1,n2,n3];decide),rfl⟩) (λ_ _=>qkr) λW S=>Gr hs hT IH S ae
    .exact tU h (.inl (by rw[gq n3];rfl)) (λ_ _=>qkr) λW S=>ad4 hs IH S ae
   .exact tU h (.inl (by rw[gq n2];rfl)) (λ_ _=>qkr) λW S=>ad7 hs hT (C6 hs hT n) IH S ae
  .exact tU h (.inl (by rw[gq n1];rfl)) (λ_ _=>qkr) λW S=>YO hs IH S ae
 .exact tU h (.inl (by rw[gq n0];rfl)) (λ_ _=>qkr) λW S=>rH hs IH S ae
def aa9(hs:s.size<=1000)(hT:(jd s 0).length<=1001):∀n,eW s n
 |0=>λw N rb sb m k h hn=>by have:=h.lt;omega|n+1=>VP hs hT<|aa9 hs hT n
end
section
open Un
def DJ:(Tryz.prog.info? 116).map (λi=>(i.zero,i.size,i.bytes))=some (some<|.pointer none,1,8):=qkr
def wQ:Tryz.prog.underlying 182=some (.slice 116):=qkr
def DK:∀(L:List Ty),L.length<=ah L
 |[]=>ju _|t::l=>by have:=DK l;have:=size_pos t;simp[ah];omega
def AH{α β:Type}{E E':α->β->Prop}(h:∀a b,E a b->E' a b):∀{l:List α}{k:List β},dE E l k->dE E' l k
 |_,_,.nil=>.nil|_,_,.cons p q=>.cons (h _ _ p)<|AH h q
def Gu{α β:Type}{E:α->β->Prop}:∀{l:List α}{k:List β},dE E l k->∀i(h:i<l.length)(h':i<k.length),E l[i] k[i]
 |_,_,.nil,i,h,_=>absurd h (jv _)|_,_,.cons p _,0,_,_=>p|_,_,.cons _ q,i+1,h,h'=>Gu q i G_ (by simpa using h')
def AK{α β:Type}{E:α->β->Prop}:∀{l:List α}{k:List β},dE E l k->l.length=k.length
 |_,_,.nil=>rfl|_,_,.cons _ q=>by simp[AK q]
def Fin.eqv{nx}(h:jc str nx vr F V)(e:iU str nx bi):jc str bi vr F V:=by
 intro x hx;have⟨h1,h2⟩:=h x hx;refine⟨(e.Bt x).2 h1,?_⟩
 cases hs:str x with
 |none=>grind|some p=>
  obtain⟨c,l⟩:=p;rw[hs]at h2;obtain⟨lf,a,b,d⟩:=h2;exact⟨lf,AH (λx y q=>e.lj x y q) a,b,d⟩
def mu(M:List (Nat×Value)):List Nat->Nat
 |[]=>0|x::l=>(if(aZ x M).isNone then 1 else 0)+mu M l
def Gv{M M':List (Nat×Value)}(h:∀x,aZ x M'=none->aZ x M=none):∀ds,mu M' ds<=mu M ds
 |[]=>br _|x::l=>by
  have:=Gv h l;unfold mu;by_cases e:aZ x M'=none
  .simp[e,h x e];exact this
  .have:(aZ x M').isNone=false:=by cases q:aZ x M' with
    |none=>exact absurd q e|some v=>rfl
   simp[this];omega
def aa_{M:List (Nat×Value)}{h:Nat}(hn:aZ h M=none)(v:Value):∀{ds:List Nat},h∈ds->mu (bF h v M) ds<mu M ds
 |[],q=>by simp at q|x::l,q=>by
  have hm:=Gv (M:=M) (M':=bF h v M) (λy hy=>by
   rw[aM]at hy;split at hy
   .cases hy
   .exact hy)
  by_cases e:h=x
  .subst e;have:=hm l;unfold mu;rw[aM];simp[hn];omega
  .have hl:=(List.mem_cons.1 q).resolve_left e;have:=aa_ hn v hl;unfold mu;rw[aM];simp[e];omega
def ad8{M}{v:Value}:aZ x M=some v->∃p∈M,p.1=x:=by
 induction M with
 |nil=>intro h;cases h|cons p l ih=>
  intro h;rw[aZ]at h;split at h
  .rename_i e;exact⟨p,ag,e⟩
  .grind
def KY{M}{v:Value}{p}:p∈bF x v M->p∈M\/p.1=x:=by
 induction M with
 |nil=>intro h;simp[bF]at h;exact jq (by rw[h])|cons q l ih=>
  intro h;rw[bF]at h;split at h
  .grind
  .grind
structure SZ(ds:List Nat)str nx vr M F(B:List Nat)V:Prop where
 fin:jc str nx vr F V
 fg:∀x,F x->aZ x M=some (.int .i64 ((min (size<|V x) 49:Nat):Int))
 bg:∀x∈B,aZ x M=some (Iv 0)
 gm:∀x v,aZ x M=some v->F x\/x∈B
 kd:∀p∈M,p.1∈ds
section
variable {nx:Nx} {M:List (Nat×Value)} {B:List Nat}
def SZ.eqv(h:SZ ds str nx vr M F B V)(e:iU str nx bi):SZ ds str bi vr M F B V:=⟨Fin.eqv h.fin e,h.fg,h.bg,h.gm,h.kd⟩
def SZ.fd(h:SZ ds str nx vr M F B V)(hx:F x):x∈ds:=by
 have⟨p,h1,h2⟩:=ad8<|h.fg x hx;exact h2▸h.kd p h1
def Se T:(((min (size T) 49:Nat)):Int)≠0:=by have:=size_pos T;omega
def SZ.apart(h:SZ ds str nx vr M F B V)(hx:F x)(hb:x∈B):False:=by
 have h1:=h.fg x hx;rw[h.bg x hb]at h1;injection h1 with h1;injection h1 with _ h1;exact Se _ h1.symm
def SZ.begin(h:SZ ds str nx vr M F B V)(hd:x∈ds)(hn:aZ x M=none):SZ ds str nx vr (bF x (Iv 0) M) F (x::B) V:=by
 refine⟨h.fin,λy hy=>?_,λy hy=>?_,λy v hy=>?_,λp hp=>?_⟩
 .rw[aM,if_neg (λe=>by subst e;rw[h.fg _ hy]at hn;cases hn)];exact h.fg y hy
 .rw[aM];by_cases e:x=y
  .rw[if_pos e]
  .rw[if_neg e];exact h.bg y<|(List.mem_cons.1 hy).resolve_left<|λq=>e q.symm
 .rw[aM]at hy;by_cases e:x=y
  .grind
  .rw[if_neg e]at hy;exact(h.gm y v hy).imp id λq=>Mf
 .obtain q|q:=KY hp
  .exact h.kd p q
  .rw[q];exact hd
def SZ.done(h:SZ ds str nx vr M F (x::B) V)(hxB:¬x∈B)(hd:x∈ds)(hn:nx x=none)T(hT:match str x with
 |none=>T=.var (vr x)|some (c,l)=>∃hs,dE (Hd nx) l hs/\(∀y,y∈hs->F y)/\T=.aK c (hs.map V)):
 SZ ds str nx vr (bF x (.int .i64 ((min (size T) 49:Nat):Int)) M) (λy=>F y\/y=x) B (ja V x T):=by
 have df:∀y,F y->y≠x:=λy hy e=>by subst e;exact h.apart hy ag
 have ajZ:∀hs:List Nat,(∀y,y∈hs->F y)->hs.map (ja V x T)=hs.map V:=λhs q=>by
  apply jl;intro y hy;simp[ja,df y<|q y hy]
 refine⟨λy hy=>?_,λy hy=>?_,λy hy=>?_,λy v hy=>?_,λp hp=>?_⟩
 .by_cases e:y=x
  .subst e;refine⟨hn,?_⟩
   cases hs:str y with
   |none=>rw[hs]at hT;simpa[ja]using hT|some p=>
    obtain⟨c,l⟩:=p;rw[hs]at hT;obtain⟨k,a,b,d⟩:=hT;exact⟨k,a,λz hz=>jp<|b z hz,by rw[ajZ k b];simp[ja,d]⟩
  .have hy':=hy.resolve_right e;have⟨h1,h2⟩:=h.fin y hy';refine⟨h1,?_⟩
   cases hs:str y with
   |none=>rw[hs]at h2;simpa[ja,e]using h2|some p=>
    obtain⟨c,l⟩:=p;rw[hs]at h2;obtain⟨k,a,b,d⟩:=h2;exact⟨k,a,λz hz=>jp<|b z hz,by rw[ajZ k b];simp[ja,e,d]⟩
 .rw[aM];by_cases e:x=y
  .subst e;simp[ja]
  .rw[if_neg e];have e':y≠x:=λq=>e q.symm;simp only[ja,e',if_false];exact h.fg y<|hy.resolve_right e'
 .rw[aM,if_neg (λe:x=y=>hxB<|e▸hy)];exact h.bg y (by simp[hy])
 .rw[aM]at hy;by_cases e:x=y
  .omega
  .rw[if_neg e]at hy;obtain q|q:=h.gm y v hy
   .grind
   .grind
 .obtain q|q:=KY hp
  .exact h.kd p q
  .rw[q];exact hd
end
abbrev Cf:Nat->Value:=λb=>Pv b
def VQ:(Tryz.prog.info? 187).map (λi=>i.size)=some 5:=qkr
def aba:KL j6 116 Cf (λw b=>∃c t,w.heap[b]? =some (.cells c t (0,0))):=by
 obtain⟨j,hj,hs⟩:∃j,Tryz.prog.info? 187=some j/\j.size=5:=by
  have:=VQ
  cases h:Tryz.prog.info? 187 with
  |none=>grind|some j=>grind
 exact KL.ptr Tryz.underlying116 hj ae
def AL w ds(str:ya)(nx:Nx)(vr:Nat->Nat)(ly:Nat->Option Addr×Nat)(lv:Nat->Nat)n:=
 w.heap[n]? =some (.cells #[nP<|nx n,Nv<|lv n,Nv<|vr n,.string<|byS<|str n,.slice (ly n).1 (slN<|str n) (ly n).2] 187 (0,0))/\iy w ds (ly n).1 (str n)/\∀m,nx n=some m->m∈ds
structure GL w ds str nx vr ly lv:Prop where
 nd:∀n,n∈ds->AL w ds str nx vr ly lv n
 out:∀n,¬n∈ds->nx n=none/\str n=none
 hd:∀n,n∈ds->∃h,Hd nx n h
def AL.cells{nx}{lv}(h:AL w ds str nx vr ly lv n):w.cell? ⟨n,0,none⟩=some (nP<|nx n)/\w.frozen? ⟨n,0,none⟩=false/\w.cell? ⟨n,3,none⟩=some (.string<|byS<|str n)/\w.cell? ⟨n,2,none⟩=some (Nv<|vr n)/\w.cell? ⟨n,4,none⟩=some (.slice (ly n).1 (slN<|str n) (ly n).2):=by
 obtain⟨h1,_⟩:=h;exact⟨qBu,by simp[j5,h1],qBu,qBu,qBu⟩
def AL.lvl{nx}{lv}(h:AL w ds str nx vr ly lv n):w.cell? ⟨n,1,none⟩=some (Nv<|lv n)/\w.frozen? ⟨n,1,none⟩=false:=⟨by simp[World.cell?,h.1],by simp[j5,h.1]⟩
def Sf{p:Prop}(h:p:=by
 cases hs:str x with
 |none=>trivial|some p=>
  obtain⟨c,l⟩:=p;rw[hs]at h2;obtain⟨p1,p2,p3,p4⟩:=h2;refine⟨p1,p2,p3,p4.imp id λq=>?_⟩;obtain⟨g,q1,q2,q3,q4⟩:=q;refine⟨g,q1,q2,by simpa[jy]using q3,λi hi=>?_⟩;rw[World.cell?_setCell_other _ _ _ _ (by intro e;injection e with e;subst e;exact q2 hn)]
  exact q4 i hi):p:=h
def GL.set{nx}{lv}(h:GL w ds str nx vr ly lv)(hn:n∈ds)(hk:k∈ds)(hhd:∀x,x∈ds->∃y,Hd (ja nx n<|some k) x y):GL (w.setCell ⟨n,0,none⟩<|nA k) ds str (ja nx n<|some k) vr ly lv:=by
 refine⟨λx hx=>?_,λx hx=>?_,hhd⟩
 .have⟨h1,h2,h3⟩:=h.nd x hx;have hp:iy (w.setCell ⟨n,0,none⟩<|nA k) ds (ly x).1 (str x):=by
   exact Sf
  by_cases e:x=n
  .subst e;refine⟨(dK h1 0 _).trans<|by simp[ja,nP],hp,λm hm=>?_⟩;simp[ja]at hm;subst hm;exact hk
  .refine⟨?_,hp,λm hm=>h3 m<|by simpa[ja,e]using hm⟩;rw[Below.heap_setCell _ _ _ _ e,h1];simp[ja,e]
 .have:x≠n:=λe=>hx<|e▸hn;simpa[ja,this]using h.out x hx
def GL.VR{nx}{lv}(h:GL w ds str nx vr ly lv)(hn:n∈ds)L:GL (w.setCell ⟨n,1,none⟩<|Nv L) ds str nx vr ly (ja lv n L):=by
 refine⟨λx hx=>?_,h.out,h.hd⟩;have⟨h1,h2,h3⟩:=h.nd x hx;have hp:iy (w.setCell ⟨n,1,none⟩<|Nv L) ds (ly x).1 (str x):=by
  exact Sf
 by_cases e:x=n
 .subst e;refine⟨(dK h1 1 _).trans QG,hp,h3⟩
 .refine⟨?_,hp,h3⟩;rw[Below.heap_setCell _ _ _ _ e,h1];simp[ja,e]
def VS ds str nx vr ly lv h w(e:Ending)w':=
 e=.returned (nA h)/\∃bi,GL w' ds str bi vr ly lv/\Fr (λb=>b∈ds) w w'/\iU str nx bi/\w'.heap.size=w.heap.size
def abb ds str nx vr ly lv h w gk v wr:=
 ∃n bi,v=nA n/\n∈ds/\KS bi n h gk/\GL wr ds str bi vr ly lv/\Fr (λb=>b∈ds) w wr/\iU str nx bi/\wr.heap.size=w.heap.size
section
variable {nx:Nx} {lv:Nat->Nat}
def rW(hg:GL w ds str nx vr ly lv)(hn:n∈ds)(hh:Hd nx n h):Cq 83 #[nA n] w (VS ds str nx vr ly lv h w):=by
 have⟨j0,hj0⟩:=Hd.len hh;have HJ:=ai hj0;clear hj0 hh;go_enter func83,ntmps83
 go_wp2
 go_loopg[0] j0 (λgk v wr=>abb ds str nx vr ly lv h w gk v wr)
 case atStart=>exact⟨n,nx,rfl,hn,HJ,hg,Fr.refl _ _,iU.refl _ _,rfl⟩
 case round=>
  clear hg HJ;obtain⟨n1,eP,rfl,LY,hl1,G1,F1,E1,z1⟩:=hrel;have⟨c0,f0,_⟩:=(G1.nd n1 LY).cells
  cases hl1 with
  |here e0=>
   rw[e0]at c0;have c0':wr.cell? ⟨h,0,none⟩=some (.pointer none):=c0;clear c0
   go_wp2
   go_ret;exact⟨rfl,eP,G1,F1,E1,z1⟩
  | @step _ m _ k e0 hlm=>
    have hm:m∈ds:=by
     have⟨_,_,h3⟩:=G1.nd n1 LY;exact h3 m e0
    have df:n1≠m:=λq=>by subst q;have:=(KS.step e0 hlm).one hlm;omega
    rw[e0]at c0;have c0':wr.cell? ⟨n1,0,none⟩=some (Pv m):=c0;have⟨d0,_⟩:=(G1.nd m hm).cells;clear c0
    cases hlm with
    |here e1=>
     rw[e1]at d0;have d0':wr.cell? ⟨h,0,none⟩=some (.pointer none):=d0;clear d0
     go_wp2
     go_roundg 0
     case measure=>omega
     case rel=>exact⟨h,eP,rfl,hm,.here e1,G1,F1,E1,z1⟩
    | @step _ m2 _ k2 e1 JQ=>
      rw[e1]at d0;have d0':wr.cell? ⟨m,0,none⟩=some (Pv m2):=d0;have hm2:m2∈ds:=by
       have⟨_,_,h3⟩:=G1.nd m hm;exact h3 m2 e1
      clear d0;have hnm:¬m=n1:=λq=>df q.symm
      go_wp2
      go_roundg k2
      case measure=>omega
      case rel=>
       refine⟨m2,ja eP n1<|some m2,rfl,hm2,JQ.eh (KS.step e0<|KS.step e1 JQ) ae _,G1.set LY hm2<|λx hx=>?_,F1.set (jp LY) 0 _,E1.trans<|iU.short str e0 e1 df,by simp[jy];exact z1⟩;have⟨y,hy⟩:=G1.hd x hx;exact⟨y,hy.short e0 e1⟩
end
structure k9(str:ya)(nx:Nx)(ds:List Nat)(lv cC:Nat->Nat)n L(D:Nat->Prop):Prop where
 up:∀m,D m->m∈ds/\nx m=none/\L<lv m/\cC m=L
 no:∀m,¬D m->cC m=lv m
 hd:∀h,Hd nx n h->D h\/lv h<=L
 cl:∀a,D a->∀c l,str a=some (c,l)->∀p,p∈l->∀h,Hd nx p h->D h\/lv h<=L
 re:∀R:Nat->Prop,(∀h,Hd nx n h->R h)->(∀a c l p h,R a->str a=some (c,l)->p∈l->Hd nx p h->R h)->∀a,D a->R a
structure xN(str:ya)(nx:Nx)(ds:List Nat)(lv lV:Nat->Nat)h(l:List Nat)L(D:Nat->Prop):Prop where
 own:D h
 up:∀m,D m->m∈ds/\nx m=none/\L<lv m/\lV m=L
 no:∀m,¬D m->lV m=lv m
 pt:∀p,p∈l->∀k,Hd nx p k->D k\/lv k<=L
 cl:∀a,D a->a≠h->∀c l,str a=some (c,l)->∀p,p∈l->∀k,Hd nx p k->D k\/lv k<=L
 re:∀R:Nat->Prop,R h->(∀a c l p k,R a->str a=some (c,l)->p∈l->Hd nx p k->R k)->∀a,D a->R a
section
variable {nx:Nx} {lv lV:Nat->Nat} {L:Nat} {E:Nat->Prop}
def k9.nil(hh:Hd nx n h)(hl:lv h<=L):k9 str nx ds lv lv n L (λ_=>False):=
 ⟨λ_ q=>q.elim,λ_ _=>rfl,λk q=>jq (by rw[q.one hh];exact hl),λ_ q=>q.elim,λ_ _ _ _ q=>q.elim⟩
def xN.start(hd:h∈ds)(hn:nx h=none)(hl:L<lv h):xN str nx ds lv (ja lv h L) h [] L (λm=>m=h):=
 ⟨rfl,λm q=>by subst q;exact⟨hd,hn,hl,QG⟩,λm q=>by simp[ja,q],λp q=>by simp at q,λa q r=>absurd q r,λR q _ a r=>by subst r;exact q⟩
def xN.step{p}{c}{l0}(hs:str h=some (c,l0))(hp:p∈l0)(k:xN str nx ds lv lV h l L D)(q:k9 str nx ds lV cC p L E):xN str nx ds lv cC h (l++[p]) L (λm=>D m\/E m):=by
 have dis:∀m,E m->¬D m:=λm e d=>by have:=(q.up m e).2.2.1;have:=(k.up m d).2.2.2;omega
 have low:∀x,lV x<=L->D x\/lv x<=L:=λx hx=>by
  by_cases d:D x
  .exact jp d
  .exact jq (by rw[<-k.no x d];exact hx)
 refine⟨jp k.own,λm e=>?_,λm e=>?_,λp' lU x hx=>?_,λa e ne c' l' lf p' lU x hx=>?_,λR r1 r2 a e=>?_⟩
 .by_cases d:E m
  .have⟨u1,u2,u3,u4⟩:=q.up m d;exact⟨u1,u2,by rw[<-k.no m (dis m d)];exact u3,u4⟩
  .have⟨u1,u2,u3,u4⟩:=k.up m<|e.resolve_right d;exact⟨u1,u2,u3,(q.no m d).trans u4⟩
 .rw[q.no m<|λd=>e<|jq d,k.no m<|λd=>e<|jp d]
 .obtain lU|lU:=List.mem_append.1 lU
  .exact(k.pt p' lU x hx).imp jp id
  .simp at lU;subst lU;obtain r|r:=q.hd x hx
   .grind
   .grind
 .obtain d|d:=e
  .exact(k.cl a d ne c' l' lf p' lU x hx).imp jp id
  .obtain r|r:=q.cl a d c' l' lf p' lU x hx
   .grind
   .grind
 .obtain d|d:=e
  .exact k.re R r1 r2 a d
  .exact q.re R (λx hx=>r2 h c l0 p x r1 hs hp hx) r2 a d
def xN.done{l0}(hh:Hd nx n h)(hs:str h=some (c,l0))(k:xN str nx ds lv lV h l0 L D):k9 str nx ds lv lV n L D:=by
 refine⟨k.up,k.no,λx hx=>jp (by rw[hx.one hh];exact k.own),λa d c' l' lf p hp x hx=>?_,λR r1 r2 a d=>k.re R (r1 h hh) r2 a d⟩;by_cases e:a=h
 .subst e;rw[hs]at lf;injection lf with lf;injection lf with _ e2;subst e2;exact k.pt p hp x hx
 .exact k.cl a d e c' l' lf p hp x hx
def xN.abc(hh:Hd nx n h)(hs:str h=none)(k:xN str nx ds lv lV h [] L D):k9 str nx ds lv lV n L D:=by
 refine⟨k.up,k.no,λx hx=>jp (by rw[hx.one hh];exact k.own),λa d c' l' lf p hp x hx=>?_,λR r1 r2 a d=>k.re R (r1 h hh) r2 a d⟩;by_cases e:a=h
 .grind
 .exact k.cl a d e c' l' lf p hp x hx
end
def dp(ds:List Nat)(lv:Nat->Nat)L:=ds.countP λm=>decide (L<lv m)
def afs{lv}{L:Nat}(h:∀m,L<cC m->L<lv m):dp ds cC L<=dp ds lv L:=List.countP_mono_left λm _ q=>by simpa using h m (by simpa using q)
def aft{lv cC:Nat->Nat}{L x:Nat}(h:∀m,L<cC m->L<lv m)(hx:L<lv x)(EK:¬L<cC x):∀{ds:List Nat},x∈ds->dp ds cC L<dp ds lv L
 |a::ds,hm=>by
  unfold dp;rw[jo,jo];have hle:ds.countP (λm=>decide (L<cC m))<=ds.countP (λm=>decide (L<lv m)):=afs h;by_cases e:a=x
  .subst e;simp[hx,EK];omega
  .have:=aft h hx EK (ds:=ds) (by obtain q|q:=List.mem_cons.1 hm;exact absurd q.symm e;exact q);unfold dp at this;by_cases q:L<cC a
   .simp[q,h a q];omega
   .by_cases q2:L<lv a
    .simp[q,q2];omega
    .simp[q,q2];omega
def iU.back{nx}{lv}(g:GL w ds str nx vr ly lv)(e:iU str nx bi)(k:Hd bi x h):Hd nx x h:=by
 by_cases hx:x∈ds
 .have⟨y,hy⟩:=g.hd x hx;rw[k.one<|e.lj x y hy];exact hy
 .have h0:Hd nx x x:=.here (g.out x hx).1;rw[k.one<|e.lj x x h0];exact h0
def k9.eqv{nx}{lv0 lv}{L:Nat}(g:GL w ds str nx vr ly lv0)(e:iU str nx bi)(q:k9 str bi ds lv cC n L D):k9 str nx ds lv cC n L D:=
 ⟨λm d=>⟨(q.up m d).1,(e.Bt m).1 (q.up m d).2.1,(q.up m d).2.2⟩,q.no,λh k=>q.hd h<|e.lj _ _ k,λa d c l hs p hp h k=>q.cl a d c l hs p hp h<|e.lj _ _ k,λR r1 r2=>q.re R (λh k=>r1 h<|e.back g k)<|λa c l p h ra hs hp k=>r2 a c l p h ra hs hp<|e.back g k⟩
def KZ ds str nx vr ly lv n L w(e:Ending)w':=
 e=.returned (.tuple #[])/\∃bi cC D,GL w' ds str bi vr ly cC/\Fr (λb=>b∈ds) w w'/\iU str nx bi/\w'.heap.size=w.heap.size/\k9 str nx ds lv cC n L D
def ahF ds str vr ly k:=∀(w:World)(nx:Nx)(lv:Nat->Nat)(n L:Nat),GL w ds str nx vr ly lv->n∈ds->dp ds lv L<=k->Cq 84 #[nA n,Nv L] w (KZ ds str nx vr ly lv n L w)
def ahG ds str nx vr ly lv h L(l:List Nat)w gk v wr:=
 ∃j gV lV D,Hid (gk=l.length-j)/\j<=l.length/\v=Nv j/\GL wr ds str gV vr ly lV/\Fr (λb=>b∈ds) w wr/\iU str nx gV/\wr.heap.size=w.heap.size/\xN str nx ds lv lV h (l.take j) L D
def GL.row{nx}{lv}(g:GL w ds str nx vr ly lv)(ha:a∈ds)(hs:str a=some (c,l)){j}(hj:j<l.length):∃ga,(ly a).1=some ⟨ga,0,none⟩/\w.cell? ⟨ga,j,none⟩=some (nA l[j])/\¬ga∈ds:=by
 have⟨_,h2,_⟩:=g.nd a ha;rw[hs]at h2;obtain⟨_,_,_,p4⟩:=h2;have⟨ga,q1,q2,_,q4⟩:=p4.resolve_left (λe=>by subst e;simp at hj);exact⟨ga,q1,q4 j hj,q2⟩
def GL.part{nx}{lv}(g:GL w ds str nx vr ly lv)(ha:a∈ds)(hs:str a=some (c,l)):l.length<=1001/\∀m∈l,m∈ds:=by
 have⟨_,h2,_⟩:=g.nd a ha;rw[hs]at h2;exact⟨h2.2.1,h2.2.2.1⟩
def GL.bN{nx}{lv}(g:GL w ds str nx vr ly lv)(hn:n∈ds)(k:Hd nx n h):h∈ds:=by
 induction k with
 |here=>exact hn|step e _ ih=>exact ih<|(g.nd _ hn).2.2 _ e
def Oo(IH:∀i,i<k->ahF ds str vr ly i):ahF ds str vr ly k:=by
 intro w nx lv n L Hc hn hk;have⟨h,hh⟩:=Hc.hd n hn;have hm:=Hc.bN hn hh;have HC:=rW Hc hn hh;go_enter func84,ntmps84;go_wp2_with fail;refine HC.mono ?_;rintro e w1⟨rfl,eP,HG,F1,E1',z1⟩;have⟨c1,f1⟩:=(HG.nd h hm).lvl;have LY:nx h=none:=hh.head;by_cases hle:lv h<=L
 .have hd:(lv h:Int)<=(L:Int):=ae
  go_wp2
  go_end0;exact⟨rfl,eP,lv,_,HG,F1,E1',z1,k9.nil hh hle⟩
 .have hd:¬(lv h:Int)<=(L:Int):=ae;have G2:=HG.VR hm L;have⟨_,_,_,_,c4⟩:=(HG.nd h hm).cells;have F2:Hid (Fr (λb=>b∈ds) w<|w1.setCell ⟨h,1,none⟩<|Nv L):=ai<|F1.set (jp hm) 1 _;have L9:=ai G2;have Z1:=z1;have J0:Hid (xN str nx ds lv (ja lv h L) h [] L<|λm=>m=h):=ai<|xN.start hm LY ae
  cases hs:str h with
  |none=>
   have c4':w1.cell? ⟨h,4,none⟩=some (.slice (ly h).1 0 (ly h).2):=by rw[c4,hs];rfl
   go_wp2
   go_loopg[23] 0 (λgk v wr=>v=Iv 0/\wr=w1.setCell ⟨h,1,none⟩ (Nv L))
   case atStart=>exact⟨rfl,rfl⟩
   case round=>
    obtain⟨rfl,rfl⟩:=hrel
    go_wp2
    go_end0;exact⟨rfl,eP,_,_,uh L9,uh F2,E1',qAz,(uh J0).abc hh hs⟩
  |some q=>
   obtain⟨c,l⟩:=q;have c4':w1.cell? ⟨h,4,none⟩=some (.slice (ly h).1 l.length (ly h).2):=by rw[c4,hs];rfl
   have⟨hl1,JQ⟩:=Hc.part hm hs;have hdp:dp ds (ja lv h L) L<dp ds lv L:=aft (x:=h) (λm q=>by by_cases e:m=h;subst e;simp[ja]at q;simpa[ja,e]using q) ae QG hm;by_cases Cn:l=[]
   .subst Cn;have alx:=c4'
    go_wp2
    go_loopg[23] 0 (λgk v wr=>v=Iv 0/\wr=w1.setCell ⟨h,1,none⟩ (Nv L))
    case atStart=>exact⟨rfl,rfl⟩
    case round=>
     obtain⟨rfl,rfl⟩:=hrel
     go_wp2
     go_end0;exact⟨rfl,eP,_,_,uh L9,uh F2,E1',qAz,(uh J0).done hh hs⟩
   have⟨ga,EGA,_,_⟩:=Hc.row hm hs<|List.length_pos_iff.2 Cn;rw[EGA]at c4'
   go_wp2
   go_loopg[23] l.length (λgk v wr=>ahG ds str nx vr ly lv h L l w gk v wr)
   case atStart=>exact⟨0,eP,_,_,ai ag,ju _,rfl,uh L9,uh F2,E1',qAz,by simpa using uh J0⟩
   case round=>
    obtain⟨j,gV,lV,D,dv,hj,rfl,Gj,FJ,EJ,ZJ,JJ⟩:=hrel;by_cases bq:j<l.length
    .have bz:(j:Int)<(l.length:Int):=ae;have Ij:(0:Int)<=(j:Int):=ae;have⟨ga',e1,cg,_⟩:=Gj.row hm hs bq;have e2:=e1.symm.trans EGA;injection e2 with e2;injection e2 with e2;subst e2
     have HCJ:=IH (dp ds (ja lv h L) L) ae wr gV lV l[j] L Gj (JQ _<|jh bq) (afs λm q=>by
      by_cases d:D m
      .have:=(JJ.up m d).2.2.2;omega
      .have e:m≠h:=λe=>d<|e▸JJ.own;simp only[ja,e,if_false]
       rw[<-JJ.no m d];exact q)
     go_wp2_with fail;refine HCJ.mono ?_;rintro e w2⟨rfl,ri,mI,D2,HG,F2,E2,z2,q2⟩;have HF:=FJ.trans F2;have HE:=EJ.trans E2;have HZ:=z2.trans ZJ;have HJ2:=JJ.step hs (jh bq)<|q2.eqv Hc EJ
     go_wp2
     go_roundg(l.length-(j+1))
     case measure=>rw[uh dv];omega
     case rel=>exact⟨j+1,ri,mI,_,ai rfl,Nat.succ_le_of_lt bq,jT,HG,HF,HE,HZ,by rw[ji bq];exact HJ2⟩
    .have bz:decide ((j:Int)<(l.length:Int))=false:=bP;have ej:j=l.length:=ae;subst ej;rw[jm]at JJ;have HX:=show KZ ds str nx vr ly lv n L w (Rv<|.tuple #[]) wr from⟨rfl,gV,lV,D,Gj,FJ,EJ,ZJ,JJ.done hh hs⟩
     go_wp2
     go_end0;exact HX
def Gw:∀k,ahF ds str vr ly k:=λk=>Nat.strongRecOn k λk ih=>Oo ih
def LC(str:ya)(ds:List Nat)nx(lv:Nat->Nat):=∀a,a∈ds->nx a=none->∀c l,str a=some (c,l)->∀p,p∈l->∀h,Hd nx p h->lv h<=lv a
structure wR str(ds:List Nat)nx(lv:Nat->Nat)bi(cC:Nat->Nat):Prop where
 mono:∀m,m∈ds->∀h h',Hd nx m h->Hd bi m h'->cC h'<=lv h
 lc:LC str ds nx lv->LC str ds bi cC
 low:∀(i:Nat)(U:Nat->Ty),mP str bi U->∀Lw:Ty->Prop,(∀c ts,Lw (.aK c ts)->∀t∈ts,Lw t)->(∀m,m∈ds->∀h,Hd nx m h->lv h<=i->Lw (U m))->∀m,m∈ds->∀h,Hd bi m h->cC h<=i->Lw (U m)
 gr:∀n,bi n=none->nx n=none
section
variable {nx:Nx} {lv:Nat->Nat}
def wR.trans(h:wR str ds nx lv eP sq)(k:wR str ds eP sq ri mI)(hd:∀m,m∈ds->∃x,Hd eP m x)(hs:∀U,mP str ri U->mP str eP U):wR str ds nx lv ri mI:=
 ⟨λm hm a c ka kc=>by
  have⟨b,kb⟩:=hd m hm
  exact jt (k.mono m hm b c kb kc)<|h.mono m hm a b ka kb,λq=>k.lc<|h.lc q,λi U hU Lw hc q=>k.low i U hU Lw hc<|h.low i U (hs U hU) Lw hc q,λn q=>h.gr n<|k.gr n q⟩
def wR.eqv(g:GL w ds str nx vr ly sq)(e:iU str nx eP):wR str ds nx lv eP lv:=by
 refine⟨λm _ h h' k k'=>?_,λq a ha hn c l hs p hp h k=>?_,λi U hU Lw hc q m hm h k hl=>q m hm h (e.back g k) hl,λn q=>(e.Bt n).1 q⟩
 .rw[k'.one<|e.lj _ _ k];exact br _
 .exact q a ha ((e.Bt a).1 hn) c l hs p hp h (e.back g k)
def k9.fwd{L:Nat}(g:GL w ds str nx vr ly mI)(e:iU str nx eP)(q:k9 str nx ds lv sq n L D):k9 str eP ds lv sq n L D:=
 ⟨λm d=>⟨(q.up m d).1,(e.Bt m).2 (q.up m d).2.1,(q.up m d).2.2⟩,q.no,λh k=>q.hd h<|e.back g k,λa d c l hs p hp h k=>q.cl a d c l hs p hp h<|e.back g k,λR r1 r2=>q.re R (λh k=>r1 h<|e.lj _ _ k)<|λa c l p h ra hs hp k=>r2 a c l p h ra hs hp<|e.lj _ _ k⟩
def k9.le{L:Nat}(q:k9 str nx ds lv sq n L D)m:sq m<=lv m:=by
 by_cases d:D m
 .have:=q.up m d;omega
 .rw[q.no m d];exact br _
def k9.lc{L:Nat}(q:k9 str nx ds lv sq n L D)(h:LC str ds nx lv):LC str ds nx sq:=λa ha hn c l hs p hp k hk=>by
 have h0:=h a ha hn c l hs p hp k hk;by_cases d:D a
 .rw[(q.up a d).2.2.2];obtain r|r:=q.cl a d c l hs p hp k hk
  .rw[(q.up k r).2.2.2];exact br _
  .exact jt (q.le k) r
 .rw[q.no a d];exact jt (q.le k) h0
def k9.low{L:Nat}(q:k9 str nx ds lv sq n L D){i}(hU:mP str nx U){Lw:Ty->Prop}(hc:∀c ts,Lw (.aK c ts)->∀t∈ts,Lw t)(hb:∀m,m∈ds->∀h,Hd nx m h->lv h<=i->Lw (U m))(hn:L<=i->Lw (U n)):∀m,m∈ds->∀h,Hd nx m h->sq h<=i->Lw (U m):=λm hm h hh hl=>by
 by_cases d:D h
 .have hL:L<=i:=by rw[(q.up h d).2.2.2]at hl;exact hl
  rw[hh.nR hU];refine q.re (λx=>Lw<|U x) (λx hx=>by rw[<-hx.nR hU];exact hn hL) (λa c l p k ra hs hp hk=>?_) h d;rw[<-hk.nR hU];rw[hU.made a c l hs]at ra;exact hc c _ ra _<|List.mem_map_of_mem hp
 .rw[q.no h d]at hl;exact hb m hm h hh hl
structure rX str nx ds lv mI a b:Prop where
 x:∃sq D1 D2,k9 str nx ds lv sq a (lv b) D1/\k9 str nx ds sq mI b (sq a) D2
def rX.lvs(h:rX str nx ds lv mI a b)(ha:nx a=none)(hb:nx b=none):mI a<=lv a/\mI a<=lv b/\mI b<=lv a/\mI b<=lv b/\mI a=mI b:=by
 have⟨sq,D1,D2,q1,q2⟩:=h.x;have n1:=q1.no b (λd=>by have:=(q1.up b d).2.2.1;omega);have n2:=q2.no a (λd=>by have:=(q2.up a d).2.2.1;omega);have l1:sq a<=lv b:=by
  obtain d|d:=q1.hd a<|.here ha
  .rw[(q1.up a d).2.2.2];exact br _
  .exact jt (q1.le a) d
 have l1a:=q1.le a;have l2:mI b=sq a:=by
  by_cases d:D2 b
  .exact(q2.up b d).2.2.2
  .have h2:=(q2.hd b<|.here hb).resolve_left d;rw[q2.no b d];omega
 omega
def rX.lc(h:rX str nx ds lv mI a b)(k:LC str ds nx lv):LC str ds nx mI:=by
 have⟨sq,D1,D2,q1,q2⟩:=h.x;exact q2.lc<|q1.lc k
def rX.le(h:rX str nx ds lv mI a b)m:mI m<=lv m:=by
 have⟨sq,D1,D2,q1,q2⟩:=h.x;exact jt (q2.le m)<|q1.le m
def rX.low(h:rX str nx ds lv mI a b)(ha:a∈ds)(hb:b∈ds)(na:nx a=none)(nb:nx b=none){i}{U}(hU:mP str nx U)(nX:U a=U b){Lw:Ty->Prop}(hc:∀c ts,Lw (.aK c ts)->∀t∈ts,Lw t)(hB:∀m,m∈ds->∀h,Hd nx m h->lv h<=i->Lw (U m)):∀m,m∈ds->∀h,Hd nx m h->mI h<=i->Lw (U m):=by
 have⟨sq,D1,D2,q1,q2⟩:=h.x;have s1:=q1.low hU hc hB (λq=>by rw[nX];exact hB b hb b (.here nb) q);exact q2.low hU hc s1 (λq=>by rw[<-nX];exact s1 a ha a (.here na) q)
def lF(na:nx a=none)(nb:nx b=none)(nX:a≠b)(hh:Hd nx x h)(k:Hd (ja nx a<|some b) x h'):h'=if h=a then b else h:=k.one<|hh.join na nb nX
def k_(nx0:nx x=none)(hU:mP str (ja nx x<|some y) U):mP str nx U:=by
 refine⟨hU.made,λn m e=>hU.bC n m ?_⟩;have df:n≠x:=λr=>by subst r;rw[nx0]at e;cases e
 simpa[ja,df]using e
def wR.link(h:rX str nx ds lv mI a b)(ha:a∈ds)(hb:b∈ds)(na:nx a=none)(nb:nx b=none)(nX:a≠b)(hd:∀m,m∈ds->∃x,Hd nx m x)(hp:∀a,a∈ds->∀c l,str a=some (c,l)->∀m∈l,m∈ds):wR str ds nx lv (ja nx a<|some b) mI:=by
 have⟨l1,l2,l3,l4,l5⟩:=h.lvs na nb;refine⟨λm hm x x' k k'=>?_,λq e he hn c l hs p W9 x' k'=>?_,λi U hU Lw hc hB m hm x' k' hl=>?_,λn q=>by by_cases e:n=a;subst e;exact na;simpa[ja,e]using q⟩
 .rw[lF na nb nX k k'];split
  .rename_i e;rw[e];exact l3
  .exact h.le x
 .have df:e≠a:=λr=>by subst r;simp[ja]at hn
  have hn0:nx e=none:=by simpa[ja,df]using hn
  have⟨x,k⟩:=hd p<|hp e he c l hs p W9;have:=h.lc q e he hn0 c l hs p W9 x k;rw[lF na nb nX k k'];split
  .rename_i r;rw[r]at this;omega
  .exact this
 .have hS:=k_ na hU;have abd:=hU.bC a b QG;have hL:=h.low ha hb na nb hS abd hc hB;have⟨x,k⟩:=hd m hm;rw[lF na nb nX k k']at hl;split at hl
  .rename_i r;subst r;rw[k.nR hS,abd];exact hL b hb b (.here nb) hl
  .exact hL m hm x k hl
def wR.abe(h:rX str nx ds lv mI a b)(ha:a∈ds)(hb:b∈ds)(na:nx a=none)(nb:nx b=none)(nX:a≠b)(hd:∀m,m∈ds->∃x,Hd nx m x)(hp:∀a,a∈ds->∀c l,str a=some (c,l)->∀m∈l,m∈ds):wR str ds nx lv (ja nx b<|some a) mI:=by
 have⟨l1,l2,l3,l4,l5⟩:=h.lvs na nb;refine⟨λm hm x x' k k'=>?_,λq e he hn c l hs p W9 x' k'=>?_,λi U hU Lw hc hB m hm x' k' hl=>?_,λn q=>by by_cases e:n=b;subst e;exact nb;simpa[ja,e]using q⟩
 .rw[lF nb na (Ne.symm nX) k k'];split
  .rename_i e;rw[e];exact l2
  .exact h.le x
 .have df:e≠b:=λr=>by subst r;simp[ja]at hn
  have hn0:nx e=none:=by simpa[ja,df]using hn
  have⟨x,k⟩:=hd p<|hp e he c l hs p W9;have:=h.lc q e he hn0 c l hs p W9 x k;rw[lF nb na (Ne.symm nX) k k'];split
  .rename_i r;rw[r]at this;omega
  .exact this
 .have hS:=k_ nb hU;have abd:=hU.bC b a QG;have hL:=h.low ha hb na nb hS abd.symm hc hB;have⟨x,k⟩:=hd m hm;rw[lF nb na (Ne.symm nX) k k']at hl;split at hl
  .rename_i r;subst r;rw[k.nR hS,abd];exact hL a ha a (.here na) hl
  .exact hL m hm x k hl
end
structure JG(ds:List Nat)(str:ya)nx(vr:Nat->Nat):Prop where
 Oq:∀n,∃h,Hd nx n h
 lj:∀n h,n∈ds->Hd nx n h->h∈ds
 W_:∀a c l,a∈ds->str a=some (c,l)->∀p,p∈l->p∈ds
 inj:∀a b,a∈ds->b∈ds->str a=none->str b=none->vr a=vr b->a=b
 nk:vW str nx []
def Can(str:ya)nx(vr:Nat->Nat)(V:Nat->Ty):=∀n h,Hd nx n h->V n=match str h with
 |none=>.var (vr h)|some (c,l)=>.aK c<|l.map V
section
variable {nx:Nx} {W:Nat->Ty}
def JG.eq(g:JG ds str nx vr):Un.Eq nx [] (zI nx):=zI.is λn _ _=>g.Oq n
def Can.same(hV:Can str nx vr V)(k:zI nx m n):V m=V n:=by
 obtain rfl|⟨h,a,b⟩:=k
 .rfl
 .rw[hV m h a,hV n h b]
def Ot(g:JG ds str nx vr)(k:Hd nx n h):∀{c l},str n=some (c,l)->∃l',str h=some (c,l')/\dE (zI nx) l l':=by
 induction k with
 |here e=>exact λ{c l}hs=>⟨l,hs,sS g.eq.refl l⟩|step e _ ih=>
  intro c l hs;have⟨l1,h1,h2⟩:=g.nk _ g.eq _ _ c l e hs;have⟨l2,h3,h4⟩:=ih h1;exact⟨l2,h3,lM g.eq.trans h2 h4⟩
def Can.nR(g:JG ds str nx vr)(hV:Can str nx vr V):mP str nx V:=by
 refine⟨λn c l hs=>?_,λn m e=>?_⟩
 .have⟨h,k⟩:=g.Oq n;have⟨l',h1,h2⟩:=Ot g k hs;have:=hV n h k;rw[h1]at this;rw[this];show qe c (l'.map V)=qe c (l.map V);rw[vY (λa b q=>hV.same q) h2]
 .have⟨h,k⟩:=g.Oq n;exact hV.same<|jq ⟨h,k,k.sT e⟩
noncomputable def VT (nx:Nx) (n:Nat):Nat:=by
 classical
 exact if h:∃x,Hd nx n x then h.choose else n
theorem pF(k:Hd nx n h):VT nx n=h:=by
 rw[VT];have q:∃x,Hd nx n x:=⟨h,k⟩;rw[dif_pos q];exact q.choose_spec.one k
noncomputable def vK (str:ya) (nx:Nx) (vr:Nat->Nat):Nat->Nat->Ty
 |0,_=>.var 0
 |k+1,n=>match str (VT nx n)with
  |none=>.var (vr<|VT nx n)|some (c,l)=>.aK c<|l.map<|vK str nx vr k
def kg(hp:p∈l):size (U p)<size (.aK c<|l.map U):=by
 have:=m8 (V:=U) hp;simp only[size];omega
def abg{U:Nat->Ty}(g:JG ds str nx vr)(hU:mP str nx U):∀k k' n,size (U n)<=k->size (U n)<=k'->vK str nx vr k n=vK str nx vr k' n
 |0,_,n,h,_=>by have:=size_pos<|U n;omega|_+1,0,n,_,h=>by have:=size_pos<|U n;omega|k+1,k'+1,n,h,h'=>by
  have⟨x,hx⟩:=g.Oq n;simp only[vK,pF hx]
  cases hs:str x with
  |none=>rfl|some q=>
   obtain⟨c,l⟩:=q;have e:=(hx.nR hU).trans<|hU.made x c l hs;show qe c _=qe c _;congr 1;refine eC λp hp=>abg g hU k k' p ?_ ?_;all_goals have:=kg (c:=c) (U:=U) hp;rw[<-e]at this;omega
def ahH(g:JG ds str nx vr)(hU:mP str nx U):∃V,Can str nx vr V:=by
 refine⟨λn=>vK str nx vr (size<|U n) n,λn h k=>?_⟩;have hp:=size_pos<|U n;obtain⟨j,hj⟩:∃j,size (U n)=j+1:=⟨size (U n)-1,ae⟩;show vK str nx vr (size<|U n) n=_;rw[hj];simp only[vK,pF k]
 cases hs:str h with
 |none=>rfl|some q=>
  obtain⟨c,l⟩:=q;have e:=(k.nR hU).trans<|hU.made h c l hs;show qe c _=qe c _;congr 1;refine eC λp hp=>abg g hU _ _ p ?_<|br _;have:=kg (c:=c) (U:=U) hp;rw[<-e]at this;omega
def Rt(ds:List Nat)(str:ya)(nx:Nx)(vr:Nat->Nat)v h:=h∈ds/\nx h=none/\str h=none/\vr h=v
def Rt.one(g:JG ds str nx vr)(a:Rt ds str nx vr v h)(b:Rt ds str nx vr v h'):h=h':=g.inj h h' a.1 b.1 a.2.2.1 b.2.2.1<|a.2.2.2.trans b.2.2.2.symm
def Rt.val(hV:Can str nx vr V)(a:Rt ds str nx vr v h):V h=.var v:=by
 have:=hV h h<|.here a.2.1;rw[a.2.2.1,a.2.2.2]at this;exact this
noncomputable def tau (ds:List Nat) (str:ya) (nx:Nx) (vr:Nat->Nat) (W:Nat->Ty) (v:Nat):Ty:=by
 classical
 exact if h:∃x,Rt ds str nx vr v x then W h.choose else .var v
def Ou(g:JG ds str nx vr)(a:Rt ds str nx vr v h):tau ds str nx vr W v=W h:=by
 rw[tau];have q:∃x,Rt ds str nx vr v x:=⟨h,a⟩;rw[dif_pos q,q.choose_spec.one g a]
def ahI(a:¬∃x,Rt ds str nx vr v x):tau ds str nx vr W v=.var v:=by rw[tau];rw[dif_neg a]
def Sg{V:Nat->Ty}{v:Nat}:∀{l:List Nat},bY v (l.map V)->∃p,p∈l/\aA v (V p)
 |[],h=>by simp[bY]at h|x::l,h=>by
  simp only[jk,bY]at h;obtain h|h:=h
  .exact⟨x,ag,h⟩
  .have⟨p,h1,h2⟩:=Sg h;exact⟨p,by simp[h1],h2⟩
def fc{lv:Nat->Nat}(g:JG ds str nx vr)(hV:Can str nx vr V){v:Nat}:∀k n h,n∈ds->Hd nx n h->size (V n)<=k->aA v (V n)->∃x,Rt ds str nx vr v x/\(LC str ds nx lv->lv x<=lv h)
 |0,n,_,_,_,h,_=>by have:=size_pos<|V n;omega|k+1,n,h,hn,hh,hz,ho=>by
  have hd:=g.lj n h hn hh;have e:=hV n h hh
  cases hs:str h with
  |none=>
   rw[hs]at e;rw[e]at ho;exact⟨h,⟨hd,hh.head,hs,ho⟩,λ_=>br _⟩
  |some q=>
   obtain⟨c,l⟩:=q;rw[hs]at e;have e:V n=.aK c (l.map V):=e;rw[e]at ho;obtain⟨p,hp,r_⟩:=Sg (by simpa only[aA]using ho);obtain⟨y,hy⟩:=g.Oq p;have hz':size (V p)<=k:=by have:=kg (c:=c) (U:=V) hp;rw[<-e]at this;omega
   obtain⟨x,h1,h2⟩:=fc g hV k p y (g.W_ h c l hd hs p hp) hy hz' r_;exact⟨x,h1,λhl=>jt (h2 hl)<|hl h hd hh.head c l hs p hp y hy⟩
def Gx(g:JG ds str nx vr)(hV:Can str nx vr V)(hW:mP str nx W):∀k n,n∈ds->size (V n)<=k->W n=sub (tau ds str nx vr W) (V n)
 |0,n,_,h=>by have:=size_pos<|V n;omega|k+1,n,hn,hz=>by
  have⟨h,hh⟩:=g.Oq n;have hd:=g.lj n h hn hh;have e:=hV n h hh
  cases hs:str h with
  |none=>
   rw[hs]at e;rw[e,hh.nR hW];exact(Ou g ⟨hd,hh.head,hs,rfl⟩).symm
  |some q=>
   obtain⟨c,l⟩:=q;rw[hs]at e;have e:V n=.aK c (l.map V):=e;rw[hh.nR hW,hW.made h c l hs,e];simp only[sub];rw[jY];congr 1;refine eC λp hp=>Gx g hV hW k p (g.W_ h c l hd hs p hp) ?_;have:=kg (c:=c) (U:=V) hp;rw[<-e]at this;omega
end
def ScD(str:ya)(ds:List Nat)nx(S:Nat->Prop):=∀x,x∈ds->nx x=none->S x->∀c l,str x=some (c,l)->∀p,p∈l->∀h,Hd nx p h->S h
def tV str ds nx(lv:Nat->Nat)bi(cC:Nat->Nat)a b:=∀S:Nat->Prop,ScD str ds nx S->(∀h,Hd nx a h->S h)->(∀h,Hd nx b h->S h)->∀m,m∈ds->∀h h',Hd nx m h->Hd bi m h'->(¬S h->h'=h/\cC h=lv h)/\(S h->S h')
section
variable {nx:Nx} {lv:Nat->Nat}
def tV.eqv(e:iU str nx eP):tV str ds nx lv eP lv x y:=λS _ _ _ m _ h h' k k'=>by
 rw[k'.one<|e.lj _ _ k];exact⟨λ_=>⟨rfl,rfl⟩,id⟩
def tV.pE(g:GL w ds str nx vr ly sq)(e:iU str nx eP)(hx:Hd nx x a)(hy:Hd nx y b)(k:tV str ds eP lv ri mI a b):tV str ds nx lv ri mI x y:=λS hS ha hb m hm h h' q q'=>by
 refine k S (λz hz hn sz c l hs p hp z' kz=>hS z hz ((e.Bt z).1 hn) sz c l hs p hp z'<|e.back g kz) (λz kz=>?_) (λz kz=>?_) m hm h h' (e.lj _ _ q) q'
 .have:z=a:=kz.one<|.here (e.lj _ _ hx).head;subst this;exact ha _ hx
 .have:z=b:=kz.one<|.here (e.lj _ _ hy).head;subst this;exact hb _ hy
def tV.pre(g:GL w ds str nx vr ly sq)(e:iU str nx eP)(k:tV str ds eP lv ri mI x y):tV str ds nx lv ri mI x y:=λS hS ha hb m hm h h' q q'=>
 k S (λz hz hn sz c l hs p hp z' kz=>hS z hz ((e.Bt z).1 hn) sz c l hs p hp z'<|e.back g kz) (λz kz=>ha z<|e.back g kz) (λz kz=>hb z<|e.back g kz) m hm h h' (e.lj _ _ q) q'
def tV.post(g:GL w ds str eP vr ly sq)(e:iU str eP ri)(k:tV str ds nx lv eP mI x y):tV str ds nx lv ri mI x y:=λS hS ha hb m hm h h' q q'=>k S hS ha hb m hm h h' q<|e.back g q'
def rX.out(h:rX str nx ds lv mI a b)(ha:a∈ds)(hb:b∈ds)(na:nx a=none)(nb:nx b=none)(hp:∀a,a∈ds->∀c l,str a=some (c,l)->∀m∈l,m∈ds)(hm:∀m,m∈ds->∀x,Hd nx m x->x∈ds){S}(hS:ScD str ds nx S)(sa:S a)(sb:S b){x}(hx:¬S x):mI x=lv x:=by
 have⟨sq,D1,D2,q1,q2⟩:=h.x;have cl:∀e c l p k,(S e/\e∈ds/\nx e=none)->str e=some (c,l)->p∈l->Hd nx p k->(S k/\k∈ds/\nx k=none):=λe c l p k r hs W9 hk=>⟨hS e r.2.1 r.2.2 r.1 c l hs p W9 k hk,hm p (hp e r.2.1 c l hs p W9) k hk,hk.head⟩;have d1:¬D1 x:=λd=>hx (q1.re (λx=>S x/\x∈ds/\nx x=none) (λk hk=>by rw[hk.one<|.here na];exact⟨sa,ha,na⟩) cl x d).1;have d2:¬D2 x:=λd=>hx (q2.re (λx=>S x/\x∈ds/\nx x=none) (λk hk=>by rw[hk.one<|.here nb];exact⟨sb,hb,nb⟩) cl x d).1;rw[q2.no x d2,q1.no x d1]
def tV.link(h:rX str nx ds lv mI a b)(ha:a∈ds)(hb:b∈ds)(na:nx a=none)(nb:nx b=none)(nX:a≠b)(hp:∀a,a∈ds->∀c l,str a=some (c,l)->∀m∈l,m∈ds)(hm:∀m,m∈ds->∀x,Hd nx m x->x∈ds):tV str ds nx lv (ja nx a<|some b) mI a b:=λS hS sa sb m _ x x' k k'=>by
 have sa:=sa a<|.here na;have sb:=sb b<|.here nb;rw[lF na nb nX k k'];refine⟨λq=>?_,λq=>?_⟩
 .have e:x≠a:=λe=>q<|e▸sa;exact⟨Us,h.out ha hb na nb hp hm hS sa sb q⟩
 .grind
def tV.abe(h:rX str nx ds lv mI a b)(ha:a∈ds)(hb:b∈ds)(na:nx a=none)(nb:nx b=none)(nX:a≠b)(hp:∀a,a∈ds->∀c l,str a=some (c,l)->∀m∈l,m∈ds)(hm:∀m,m∈ds->∀x,Hd nx m x->x∈ds):tV str ds nx lv (ja nx b<|some a) mI a b:=λS hS sa sb m _ x x' k k'=>by
 have sa:=sa a<|.here na;have sb:=sb b<|.here nb;rw[lF nb na (Ne.symm nX) k k'];refine⟨λq=>?_,λq=>?_⟩
 .have e:x≠b:=λe=>q<|e▸sb;exact⟨Us,h.out ha hb na nb hp hm hS sa sb q⟩
 .grind
def tV.step{p q}{c c'}{l l'}(g:wR str ds nx lv eP sq)(h:tV str ds nx lv eP sq x y)(hx:Hd nx x a)(hy:Hd nx y b)(ha:a∈ds)(hb:b∈ds)(sa:str a=some (c,l))(sb:str b=some (c',l'))(hp:p∈l)(hq:q∈l')(lj:∀a,a∈ds->∀c l,str a=some (c,l)->∀m∈l,m∈ds)(hd0:∀m,m∈ds->∃x,Hd nx m x)(MN:∀m,m∈ds->∃x,Hd eP m x)(k:tV str ds eP sq ri mI p q):tV str ds nx lv ri mI x y:=λS hS hxa hyb m hm h0 h2 k0 k2=>by
 have one:=h S hS hxa hyb;have pt:∀z,z∈ds->nx z=none->S z->∀c l,str z=some (c,l)->∀p,p∈l->∀t,Hd eP p t->S t:=λz hz hn sz c l hs p hp t kt=>by
  have Mc:=lj z hz c l hs p hp;have⟨t0,kt0⟩:=hd0 p Mc;exact(one p Mc t0 t kt0 kt).2 (hS z hz hn sz c l hs p hp t0 kt0)
 have⟨h1,k1⟩:=MN m hm;have a1:=one m hm h0 h1 k0 k1;have a2:=k S (λz hz hn=>pt z hz<|g.gr z hn) (pt a ha hx.head (hxa a hx) c l sa p hp) (pt b hb hy.head (hyb b hy) c' l' sb q hq) m hm h1 h2 k1 k2;refine⟨λn0=>?_,λs0=>a2.2<|a1.2 s0⟩;have⟨e1,e2⟩:=a1.1 n0;subst e1;have⟨e3,e4⟩:=a2.1 n0;exact⟨e3,e4.trans e2⟩
end
def GL.drewN{nx}{lv}(g:GL w ds str nx vr ly lv)n:GL (w.drewN n) ds str nx vr ly lv:=⟨g.nd,g.out,g.hd⟩
def GL.drew{nx}{lv}(g:GL w ds str nx vr ly lv):GL w.drew ds str nx vr ly lv:=⟨g.nd,g.out,g.hd⟩
def ahJ ds str nx vr ly lv x y w(e:Ending)w':=
 ∃ok bi cC,e=.returned (.bool ok)/\GL w' ds str bi vr ly cC/\Fr (λb=>b∈ds) w w'/\w'.heap.size=w.heap.size/\hc bi ds<=hc nx ds/\JR str nx bi x y ok/\(ok=true->wR str ds nx lv bi cC/\tV str ds nx lv bi cC x y)
def Ov ds str vr ly k:=∀(w:World)(nx:Nx)(lv:Nat->Nat),GL w ds str nx vr ly lv->hc nx ds<=k->∀x y,x∈ds->y∈ds->Cq 56 #[nA x,nA y] w (ahJ ds str nx vr ly lv x y w)
def abh ds str nx0 lv0 x y nx vr ly l l' k w gk v wr:=
 ∃j gV lV,Hid (gk=l.length-j)/\j<=l.length/\v=Nv j/\GL wr ds str gV vr ly lV/\Fr (λb=>b∈ds) w wr/\wr.heap.size=w.heap.size/\hc gV ds<=k/\JL str nx gV l l' j/\wR str ds nx0 lv0 gV lV/\tV str ds nx0 lv0 gV lV x y
def Ow(IH:Ov ds str vr ly k):Ov ds str vr ly (k+1):=by
 intro w nx lv G hk x y hx hy;have⟨a,Hg⟩:=G.hd x hx;have⟨b,Ox⟩:=G.hd y hy;have ha:a∈ds:=G.bN hx Hg;have hb:b∈ds:=G.bN hy Ox;have HC:=ai<|rW G hx Hg;go_enter func56,ntmps56;go_wp2_with fail;refine HC.mono ?_;rintro e w1⟨rfl,eP,G1,F1,E1,z1⟩;have sU:=ai<|rW G1 hy<|E1.lj _ _ Ox;clear HC;go_wp2_with fail;refine sU.mono ?_;rintro e w2⟨rfl,ri,G2,F2,E2,z2⟩;have E:=E1.trans E2;have FF:=F1.trans F2;have hca:=aa5 E ds;have Hh:ri a=none:=(E.lj _ _ Hg).head;have vC:ri b=none:=(E.lj _ _ Ox).head;have heq:=aa6 (G2.nd a ha).1 (G2.nd b hb).1;have⟨ca0,fa0,ca2,_,ca3⟩:=(G2.nd a ha).cells;have⟨cb0,fb0,cb2,_,cb3⟩:=(G2.nd b hb).cells;have L9:=ai G2;clear sU;by_cases nX:a=b
 .subst nX;simp at heq
  go_wp2
  go_ret;exact⟨true,ri,lv,rfl,G2,FF,ae,ae,(JR.same str ri a).pE E Hg Ox,λ_=>⟨wR.eqv G E,tV.eqv E⟩⟩
 .have hba:¬b=a:=λq=>nX q.symm;rw[show decide (a=b)=false by simp[nX]]at heq;have⟨lb2,_⟩:=(G2.nd b hb).lvl;have HL1:=ai<|Gw _ w2 ri lv a (lv b) G2 ha<|br _;go_wp2_with fail;refine HL1.mono ?_;rintro e w3⟨rfl,nx3,lv3,D3,G3,F3,E3,z3,q3⟩;have⟨la3,_⟩:=(G3.nd a ha).lvl;have HL2:=ai<|Gw _ w3 nx3 lv3 b (lv3 a) G3 hb<|br _;clear HL1 ca0 fa0 ca2 ca3 cb0 fb0 cb2 cb3 heq lb2 L9;go_wp2_with fail;refine HL2.mono ?_;rintro e w4⟨rfl,Bu,lv4,D4,G4,F4,E4,z4,q4⟩;have VU:Hid (rX str Bu ds lv lv4 a b):=ai ⟨lv3,D3,D4,q3.fwd G2<|E3.trans E4,q4.fwd G3 E4⟩;have HEQ:Hid (wR str ds nx lv Bu lv):=ai<|wR.eqv G<|(E.trans E3).trans E4;have HMM:Hid (∀m,m∈ds->∀x,Hd Bu m x->x∈ds):=ai λm hm x k=>G4.bN hm k;have Hc:=ai G;have HPT:Hid (∀a,a∈ds->∀c l,str a=some (c,l)->∀m∈l,m∈ds):=ai λx hx c l hs=>(G4.part hx hs).2;clear q3 q4;have E0:=E;clear E;have E:=(E0.trans E3).trans E4;have FF4:=(FF.trans F3).trans F4;clear hca Hh vC;have hca:=aa5 E ds;have Hh:Bu a=none:=(E.lj _ _ Hg).head;have vC:Bu b=none:=(E.lj _ _ Ox).head;have⟨ca0,fa0,ca2,_,ca3⟩:=(G4.nd a ha).cells;have⟨cb0,fb0,cb2,_,cb3⟩:=(G4.nd b hb).cells;have HHD:Hid (∀m,m∈ds->∃x,Hd Bu m x):=ai G4.hd;clear HL2 la3 F3 F4 G3 E3 E4
  cases Xa:str a with
  |none=>
   rw[Xa]at ca2;have aj0:w4.cell? ⟨a,3,none⟩=some (Sv ⟨#[]⟩):=ca2;clear ca2
   go_wp2
   go_ret;refine⟨true,ja Bu a<|some b,lv4,rfl,G4.set ha hb<|λz hz=>?_,FF4.set (jp ha) 0 _,by simp[jy];omega,by have:=Om (b:=b) Hh ha;omega,(JR.alv Hh Xa).pE E Hg Ox,λ_=>⟨HEQ.trans (wR.link VU ha hb Hh vC nX HHD HPT) HHD<|λU=>k_ Hh,(tV.link VU ha hb Hh vC nX HPT HMM).pE Hc E Hg Ox⟩⟩;have⟨q,hq⟩:=G4.hd z hz;exact⟨_,hq.join Hh vC nX⟩
  |some pa=>
   obtain⟨c,l⟩:=pa;have Xb:=(G4.nd a ha).2.1;rw[Xa]at ca2 ca3 Xb;have aj0:w4.cell? ⟨a,3,none⟩=some (Sv<|pn c):=ca2;have aly:w4.cell? ⟨a,4,none⟩=some (.slice (ly a).1 l.length (ly a).2):=ca3;obtain⟨Fb,Oy,hlm,aN⟩:=Xb;have hea:((pn c).toList==[])=false:=by rw[<-j9,beq_iff_eq];exact lD Fb
   clear ca2 ca3
   cases Xc:str b with
   |none=>
    rw[Xc]at cb2;have aj1:w4.cell? ⟨b,3,none⟩=some (Sv ⟨#[]⟩):=cb2;clear cb2
    go_wp2
    go_ret;refine⟨true,ja Bu b<|some a,lv4,rfl,G4.set hb ha<|λz hz=>?_,FF4.set (jp hb) 0 _,by simp[jy];omega,by have:=Om (b:=a) vC hb;omega,(JR.alw vC Xc).pE E Hg Ox,λ_=>⟨HEQ.trans (wR.abe VU ha hb Hh vC nX HHD HPT) HHD<|λU=>k_ vC,(tV.abe VU ha hb Hh vC nX HPT HMM).pE Hc E Hg Ox⟩⟩;have⟨q,hq⟩:=G4.hd z hz;exact⟨_,hq.join vC Hh hba⟩
   |some pb=>
    obtain⟨c',l'⟩:=pb;have hPb:=(G4.nd b hb).2.1;rw[Xc]at cb2 cb3 hPb;have aj1:w4.cell? ⟨b,3,none⟩=some (Sv<|pn c'):=cb2;have alz:w4.cell? ⟨b,4,none⟩=some (.slice (ly b).1 l'.length (ly b).2):=cb3;obtain⟨aj2,amG,alA,aj4⟩:=hPb;have heb:((pn c').toList==[])=false:=by rw[<-j9,beq_iff_eq];exact lD aj2
    clear cb2 cb3;by_cases qT:c=c'
    .subst qT;have hbb:((pn c).toList==(pn c).toList)=true:=ag;by_cases hlen:l.length=l'.length
     .have hle:((l.length:Int)==(l'.length:Int))=true:=by simp[hlen]
      have hcu:=Om (b:=b) Hh ha;have hgs:∀z,z∈ds->∃y,Hd (ja Bu a<|some b) z y:=λz hz=>by
       have⟨q,hq⟩:=G4.hd z hz;exact⟨_,hq.join Hh vC nX⟩
      clear cb0 fb0 G1 F1 F2 G
      go_wp2
      go_quiet(fail);go_wp2_with fail;have LV0:Hid (wR str ds nx lv (ja Bu a<|some b) lv4/\tV str ds nx lv (ja Bu a<|some b) lv4 x y):=ai ⟨HEQ.trans (wR.link VU ha hb Hh vC nX HHD HPT) HHD<|λU=>k_ Hh,(tV.link VU ha hb Hh vC nX HPT HMM).pE Hc E Hg Ox⟩;have GS:=ai<|(G4.drewN nq).set ha hb hgs;have FS:=ai<|(FF4.drewN nq).set (b:=a) (jp ha) 0<|nA b;have zs:((w4.drewN nq).setCell ⟨a,0,none⟩<|nA b).heap.size=w.heap.size:=by simp[jy];show w4.heap.size=_;omega
      go_loopg[77] l.length (λgk v wr=>abh ds str nx lv x y (ja Bu a<|some b) vr ly l l' (hc (ja Bu a<|some b) ds) w gk v wr)
      case atStart=>exact⟨0,ja Bu a<|some b,lv4,ai ag,ju _,rfl,GS,FS,zs,br _,JL.start _ _ _ _,LV0⟩
      case round=>
       clear GS FS zs LV0;obtain⟨j,gV,lV,dv,hj,rfl,Gj,Fj,zj,hcj,JLj,LVj⟩:=hrel;have HLV:=ai LVj;have HHJ:Hid (∀m,m∈ds->∃x,Hd gV m x):=ai Gj.hd;clear LVj;by_cases bq:j<l.length
       .have hd:(j:Int)<(l.length:Int):=ae;have xP:j<l'.length:=ae;have UF:(j:Int)<(l'.length:Int):=ae;have⟨ga,ea,ra,_⟩:=Gj.row ha Xa bq;have⟨gb,eb,rb,_⟩:=Gj.row hb Xc xP;have⟨_,_,_,_,qa⟩:=(Gj.nd a ha).cells;have⟨_,_,_,_,qb⟩:=(Gj.nd b hb).cells;rw[Xa,ea]at qa;rw[Xc,eb]at qb;have qa':wr.cell? ⟨a,4,none⟩=some (Lv (some ⟨ga,0,none⟩) l.length (ly a).2):=qa;have qb':wr.cell? ⟨b,4,none⟩=some (Lv (some ⟨gb,0,none⟩) l'.length (ly b).2):=qb
        have HJ:Hid (∀W,W=wr.drew->Cq 56 #[nA l[j],nA l'[j]] W λe w'=>∃ok bi cC,e=Rv (.bool ok)/\GL w' ds str bi vr ly cC/\Fr (λb=>b∈ds) wr w'/\w'.heap.size=wr.heap.size/\hc bi ds<=hc (ja Bu a<|some b) ds/\JR str gV bi l[j] l'[j] ok/\(ok=true->wR str ds gV lV bi cC/\tV str ds gV lV bi cC l[j] l'[j])/\(w'.cell? ⟨a,4,none⟩=some (Lv (some ⟨ga,0,none⟩) l.length (ly a).2)/\w'.cell? ⟨b,4,none⟩=some (Lv (some ⟨gb,0,none⟩) l'.length (ly b).2)/\w'.cell? ⟨ga,j,none⟩=some (nA l[j])/\w'.cell? ⟨gb,j,none⟩=some (nA l'[j]))):=ai (λW hW=>by
         subst hW;refine(IH wr.drew gV lV Gj.drew ae l[j] l'[j] (hlm _<|jh _)<|alA _<|jh _).mono ?_;rintro e w5⟨ok,nx5,lv5,rfl,G5,F5,z5,h5,J5,L5⟩;have⟨ga5,ea5,ra5,_⟩:=G5.row ha Xa bq;have⟨gb5,eb5,rb5,_⟩:=G5.row hb Xc xP;have⟨_,_,_,_,pa⟩:=(G5.nd a ha).cells;have⟨_,_,_,_,pb⟩:=(G5.nd b hb).cells;rw[Xa,ea]at pa;rw[Xc,eb]at pb;rw[ea]at ea5;rw[eb]at eb5
         cases ea5
         cases eb5
         exact⟨ok,nx5,lv5,rfl,G5,(Fr.refl _ wr).drew.trans F5,z5,jt h5 hcj,J5,L5,pa,pb,ra5,rb5⟩)
        clear ea eb qa qb aN aj4 aj0 aj1 aly alz heb hea hbb hle IH
        go_wp2
        go_region_held3(λw'=>w'.cell? ⟨a,4,none⟩=some (Lv (some ⟨ga,0,none⟩) l.length (ly a).2)/\w'.cell? ⟨b,4,none⟩=some (Lv (some ⟨gb,0,none⟩) l'.length (ly b).2)/\w'.cell? ⟨ga,j,none⟩=some (nA l[j])/\w'.cell? ⟨gb,j,none⟩=some (nA l'[j])) (first|go_keep|(simp[*])) (first|(go_at_call 56;refine(HJ _ rfl).mono ?_;rintro e w5⟨ok,nx5,lv5,rfl,hG5,hF5,hz5,h5,hJ5,hL5,k1,k2,k3,k4⟩;have HL5:=ai hL5;clear hL5;have HG5:=ai hG5;have HF5:=ai hF5;have HZ5:=ai hz5;have HJ5:=ai hJ5;clear hG5 hF5 hz5 hJ5))
        all_goals(
         cases ok with
         |true=>
          go_wp2
          go_roundg(l.length-(j+1))
          case measure=>rw[uh dv];omega
          case rel=>exact⟨j+1,nx5,lv5,ai rfl,ae,jT,HG5,Fj.trans HF5,HZ5.trans zj,h5,JLj.step bq xP HJ5,HLV.1.trans (HL5 trivial).1 HHJ<|λU q=>((HJ5.yes rfl).1 U).1 q|>.1,tV.step HLV.1 HLV.2 Hg Ox ha hb Xa Xc (jh _) (jh _) HPT Hc.hd HHJ (HL5 trivial).2⟩
         |false=>
          go_wp2
          go_ret
          exact⟨false,nx5,lv5,rfl,HG5,Fj.trans HF5,HZ5.trans zj,ae,(JL.fail Hh Xa Xc JLj bq xP HJ5).pE E Hg Ox,λq=>mO⟩)
       .have hd:decide ((j:Int)<(l.length:Int))=false:=bP;have ej:j=l.length:=ae;subst ej
        go_wp2
        go_ret;exact⟨true,gV,lV,rfl,Gj,Fj,zj,ae,(JL.done Hh Xa Xc hlen JLj).pE E Hg Ox,λ_=>HLV⟩
     .have hle:((l.length:Int)==(l'.length:Int))=false:=bP
      go_wp2
      go_quiet(fail)
      go_wp2
      go_ret;exact⟨false,Bu,lv4,rfl,G4.drewN _,FF4.drewN _,by show w4.heap.size=_;omega,ae,(JR.afq Xa Xc<|jq hlen).pE E Hg Ox,λq=>mO⟩
    .have hbb:((pn c).toList==(pn c').toList)=false:=by rw[<-j9,beq_iff_eq];exact λq=>qT<|ahD Fb aj2 q
     go_wp2
     go_quiet(fail)
     go_wp2
     go_ret;exact⟨false,Bu,lv4,rfl,G4.drewN _,FF4.drewN _,by show w4.heap.size=_;omega,ae,(JR.afq Xa Xc<|jp qT).pE E Hg Ox,λq=>mO⟩
def abj:∀k,Ov ds str vr ly k
 |0=>λw nx lv G hk x y hx hy=>by
  have⟨a,Hg⟩:=G.hd x hx;have:=ahE (G.bN hx Hg) Hg.head;omega
 |k+1=>Ow<|abj k
mutual
def abk{σ τ:Nat->Ty}{n:Nat}:∀t,sub σ t=sub τ t->aA n t->σ n=τ n
 |.var m,h,o=>by simp only[aA]at o;subst o;simpa[sub]using h|.aK c l,h,o=>by simp only[sub,Ty.aK.injEq,true_and]at h;exact Sh l h o
def Sh{σ τ:Nat->Ty}{n:Nat}:∀l,aT σ l=aT τ l->bY n l->σ n=τ n
 |[],_,o=>by simp[bY]at o|t::l,h,o=>by
  simp only[aT,List.cons.injEq]at h;obtain o|o:=o
  .exact abk t h.1 o
  .exact Sh l h.2 o
end
def ad9{a b}(one:sub θ a=sub θ b)(gen:∀σ,sub σ a=sub σ b->∀v,sub σ (θ v)=σ v)(idem:∀v x,aA x (θ v)->θ x=.var x):In.xL θ a b:=by
 classical
 let X6:Nat->Ty:=λv=>if aA v a\/aA v b then θ v else .var v;have e1:∀v,aA v a\/aA v b->X6 v=θ v:=λv h=>if_pos h;have e2:∀v,¬(aA v a\/aA v b)->X6 v=.var v:=λv h=>if_neg h;have u1:sub X6 a=sub X6 b:=by rw[sub_congr a λn o=>e1 n<|jp o,sub_congr b λn o=>e1 n<|jq o];exact one
 refine⟨one,gen,λv h1 h2=>?_,λv n hv hn=>?_⟩
 .have hv:¬(aA v a\/aA v b):=λq=>q.elim h1 h2;have g:=gen X6 u1 v;rw[e2 v hv]at g
  cases ht:θ v with
  |aK c l=>rw[ht]at g;simp[sub]at g|var x=>
   rw[ht]at g;simp only[sub]at g;by_cases hx:aA x a\/aA x b
   .rw[e1 x hx,idem v x (by rw[ht];rfl)]at g;exact g
   .grind
 .refine jx λnM=>?_;let σ2:Nat->Ty:=λx=>if x=n then .aK nO []else X6 x;have f1:∀x,x≠n->σ2 x=X6 x:=λx h=>if_neg h;have u2:sub σ2 a=sub σ2 b:=by rw[sub_congr a λx o=>f1 x<|λe=>nM<|jp<|e▸o,sub_congr b λx o=>f1 x<|λe=>nM<|jq<|e▸o];exact u1
  have hvn:v≠n:=λe=>nM<|e▸hv;have g1:=gen X6 u1 v;have g2:=gen σ2 u2 v;rw[f1 v hvn]at g2;have:=abk _ (g1.trans g2.symm) hn;rw[e2 n nM]at this;have f2:σ2 n=.aK nO []:=if_pos rfl;rw[f2]at this
  cases this
section
variable {nx:Nx}
def K9(g:JG ds str nx vr)(k:zI nx m n):VT nx m=VT nx n:=by grind[nx,zI,VT,pF]
def Si:∀{l l' hs:List Nat},dE (zI nx) l l'->dE (Hd nx) l' hs->dE (Hd nx) l hs
 |[],_,_,.nil,.nil=>.nil|_::_,_,_,.cons p q,.cons r s=>by
  refine .cons ?_<|Si q s;obtain rfl|⟨x,p1,p2⟩:=p
  .exact r
  .rw[r.one p2];exact p1
def AM{E:Nat->Nat->Prop}{f k:Nat->Ty}:∀{l m:List Nat},dE E l m->(∀p x,p∈l->x∈m->E p x->f p=k x)->l.map f=m.map k
 |[],_,.nil,_=>rfl|_::_,_,.cons r s,h=>by
  simp only[jk];rw[h _ _ ag ag r,AM s λp x hp hx=>h p x (by simp[hp])<|by simp[hx]]
def abl(g:JG ds str nx vr)(hV:Can str nx vr V)(g':JG ds str bi vr)(jr:JR str nx bi a b true)(hF:jc str bi vr F VF)(hh:Hd bi a h)(hFh:F h)(ha:a∈ds)(hb:b∈ds):∃U,mP str bi U:=by
 classical
 let σ:Nat->Ty:=λv=>if q:∃x,Rt ds str nx vr v x then(if F (VT bi q.choose)then VF (VT bi q.choose)else .var v)else .var v;have hσ:∀v x,Rt ds str nx vr v x->F (VT bi x)->σ v=VF (VT bi x):=λv x r f=>by
  have q:∃x,Rt ds str nx vr v x:=⟨x,r⟩;have e:q.choose=x:=q.choose_spec.one g r;show(if q:∃x,Rt ds str nx vr v x then _ else _)=_;rw[dif_pos q,e,if_pos f]
 have Eo:=jr.eqs [] _ g'.eq;have key:∀k n,n∈ds->size (V n)<=k->F (VT bi n)->sub σ (V n)=VF (VT bi n):=by
  intro k
  induction k with
  |zero=>intro n _ hz;have:=size_pos<|V n;omega|succ k ih=>
   intro n hn hz hf;have⟨x,hx⟩:=g.Oq n;have hd:=g.lj n x hn hx;have e:=hV n x hx;have lf:=K9 g'<|hx.eq Eo;rw[lf]at hf⊢
   cases hs:str x with
   |none=>
    rw[hs]at e;rw[e];exact hσ _ x ⟨hd,hx.head,hs,rfl⟩ hf
   |some q=>
    obtain⟨c,l⟩:=q;rw[hs]at e;have e:V n=.aK c (l.map V):=e;have⟨y,hy⟩:=g'.Oq x;rw[pF hy]at hf⊢;have⟨l',h1,h2⟩:=Ot g' hy hs;have⟨_,h3⟩:=hF y hf;rw[h1]at h3;obtain⟨Bl,h4,h5,h6⟩:=h3;rw[e,h6];simp only[sub];rw[jY];congr 1;have h7:=Si h2 h4;have hz':∀p,p∈l->p∈ds/\size (V p)<=k:=λp hp=>⟨g.W_ x c l hd hs p hp,by have:=kg (c:=c) (U:=V) hp;rw[<-e]at this;omega⟩;exact AM h7 λp z hp i_ r=>by
     have:=ih p (hz' p hp).1 (hz' p hp).2 (by rw[pF r];exact h5 z i_);rw[this,pF r]
 have sV:=hV.nR g;refine⟨λn=>sub σ<|V n,((jr.yes rfl).1 _).2 ⟨⟨λn c l hs=>?_,λn m e=>by rw[sV.bC n m e]⟩,?_⟩⟩
 .rw[sV.made n c l hs];simp only[sub];rw[jY]
 .have nX:=(jr.yes rfl).2.2 [] _ g'.eq;have eab:=K9 g' nX;show sub σ (V a)=sub σ (V b);rw[key _ a ha (br _) (by rw[pF hh];exact hFh),key _ b hb (br _) (by rw[<-eab,pF hh];exact hFh),eab]
structure aj5(ds:List Nat)str nx bi vr(V V':Nat->Ty)θ a b:Prop where
 can:Can str bi vr V'
 val:∀n,n∈ds->V' n=sub θ (V n)
 mgu:In.xL θ (V a) (V b)
 rt:∀v x,Rt ds str nx vr v x->θ v=V' x
 no:∀v,(¬∃x,Rt ds str nx vr v x)->θ v=.var v
def abm{lv}(g:JG ds str nx vr)(hV:Can str nx vr V)(g':JG ds str bi vr)(jr:JR str nx bi a b true)(lr:wR str ds nx lv bi cC)(hF:jc str bi vr F VF)(hh:Hd bi a h)(hFh:F h)(ha:a∈ds)(hb:b∈ds):∃V' θ,aj5 ds str nx bi vr V V' θ a b:=by
 have⟨U,hU⟩:=abl g hV g' jr hF hh hFh ha hb;have⟨V',hV'⟩:=ahH g' hU;have sV':=hV'.nR g';have sV:=hV.nR g;have sVn:=(((jr.yes rfl).1 V').1 sV').1;have hrt:∀v x,Rt ds str bi vr v x->Rt ds str nx vr v x:=λv x r=>⟨r.1,lr.gr x r.2.1,r.2.2⟩;have val:∀n,n∈ds->V' n=sub (tau ds str nx vr V') (V n):=λn hn=>Gx g hV sVn _ n hn<|br _;have rt:∀v x,Rt ds str nx vr v x->tau ds str nx vr V' v=V' x:=λv x r=>Ou g r;have no:∀v,(¬∃x,Rt ds str nx vr v x)->tau ds str nx vr V' v=.var v:=λv q=>ahI q;have nX:=(jr.yes rfl).2.2 [] _ g'.eq;refine⟨V',tau ds str nx vr V',hV',val,ad9 ?_ (λσ e v=>?_)<|λv x o=>?_,rt,no⟩
 .rw[<-val a ha,<-val b hb];exact hV'.same nX
 .have hW:mP str bi (λn=>sub σ<|V n):=((jr.yes rfl).1 _).2 ⟨⟨λn c l hs=>by rw[sV.made n c l hs];simp only[sub];rw[jY],λn m e=>by rw[sV.bC n m e]⟩,e⟩;have hWn:∀n,n∈ds->sub σ (V n)=sub σ (V' n):=λn hn=>by
   have h1:=Gx g' hV' hW _ n hn<|br _;have h1:=h1;rw[h1];refine sub_congr _ λw o=>?_;have⟨y,hy⟩:=g'.Oq n;have⟨x,r,_⟩:=fc (lv:=cC) g' hV' _ n y hn hy (br _) o;rw[Ou g' r];show sub σ (V x)=σ w;rw[(hrt w x r).val hV];rfl
  by_cases q:∃x,Rt ds str nx vr v x
  .obtain⟨x,r⟩:=q;rw[rt v x r,<-hWn x r.1,r.val hV];rfl
  .rw[no v q];rfl
 .by_cases q:∃y,Rt ds str nx vr v y
  .obtain⟨y,r⟩:=q;rw[rt v y r]at o;have⟨z,hz⟩:=g'.Oq y;have⟨x',r',_⟩:=fc (lv:=cC) g' hV' _ y z r.1 hz (br _) o;rw[rt x x'<|hrt x x' r',r'.val hV']
  .have q':=no v q;rw[q']at o;simp only[aA]at o;subst o;exact q'
def Lo ds str nx(vr lv:Nat->Nat)i v:=∃x,Rt ds str nx vr v x/\lv x<=i
def abn{lv}{V'}(g:JG ds str nx vr)(hV:Can str nx vr V)(g':JG ds str bi vr)(lr:wR str ds nx lv bi cC)(hl:LC str ds nx lv)(jw:aj5 ds str nx bi vr V V' θ a b)i w:Lo ds str bi vr cC i w↔∃v,Lo ds str nx vr lv i v/\aA w (θ v):=by
 constructor
 .rintro⟨x,r,hx⟩
  have hL:=lr.low i V' (jw.can.nR g') (λt=>∀w,aA w t->∃v,Lo ds str nx vr lv i v/\aA w (θ v)) (λc ts q t ht w o=>q w (by
   simp only[aA];clear q
   induction ts with
   |nil=>simp at ht|cons y ts ih=>
    obtain e|e:=List.mem_cons.1 ht
    .subst e;exact jp o
    .exact jq (ih e))) (λm hm y hy Zs w o=>by
   rw[jw.val m hm]at o;have⟨v,o1,o2⟩:=(qf _).1 o;have⟨z,r1,r2⟩:=fc (lv:=lv) g hV _ m y hm hy (br _) o1
   exact⟨v,⟨z,r1,jt (r2 hl) Zs⟩,o2⟩) x r.1 x (.here r.2.1) hx
  exact hL w (by rw[r.val jw.can];rfl)
 .rintro⟨v,⟨x,r,hx⟩,o⟩;rw[jw.rt v x r]at o;have⟨y,hy⟩:=g'.Oq x;have⟨z,r1,r2⟩:=fc (lv:=cC) g' jw.can _ x y r.1 hy (br _) o;exact⟨z,r1,jt (r2<|lr.lc hl)<|jt (lr.mono x r.1 x y (.here r.2.1) hy) hx⟩
end
section
variable {nx:Nx} {lv:Nat->Nat}
theorem GL.move(h:GL w ds str nx vr ly lv)(hs:w.heap.size<=w'.heap.size)(hb:∀b i v,w.cell? ⟨b,i,none⟩=some v->w'.heap[b]? =w.heap[b]?):GL w' ds str nx vr ly lv:=by
 refine⟨λn hn=>?_,h.out,h.hd⟩;have hc:=(h.nd n hn).cells.1;have⟨h1,h2,h3⟩:=h.nd n hn;exact⟨(hb n 0 _ hc).trans h1,h2.move hs hb,h3⟩
def AL.lt(h:AL w ds str nx vr ly lv n):n<w.heap.size:=(Array.getElem?_eq_some_iff.1 h.1).1
end
def GL.one{nx}{lv}(h:GL w ds str nx vr ly lv)(o:One b w w')(h1:¬b∈ds)(h4:∀m∈ds,∀c l g,str m=some (c,l)->l≠[]->(ly m).1=some ⟨g,0,none⟩->g≠b):GL w' ds str nx vr ly lv:=by
 refine⟨λn hn=>?_,h.out,h.hd⟩;have⟨p1,p2,p3⟩:=h.nd n hn;have df:n≠b:=λe=>h1<|e▸hn;refine⟨(o.block n df).trans p1,?_,p3⟩;have h5:=h4 n hn
 cases hs:str n with
 |none=>trivial|some p=>
  obtain⟨c,l⟩:=p;rw[hs]at p2;obtain⟨q1,q2,q3,q4⟩:=p2;refine⟨q1,q2,q3,?_⟩;by_cases e:l=[]
  .exact jp e
  .have⟨g,r1,r2,r3,r4⟩:=q4.resolve_left e;have hg:=h5 c l g hs e r1;refine jq ⟨g,r1,r2,by rw[o.size];exact r3,λi hi=>?_⟩;rw[jz (a:=⟨g,i,none⟩) (w:=w)<|o.block g hg];exact r4 i hi
def GL.aj6{nx}{lv}(h:GL w ds str nx vr ly lv)(hm:m∈ds){g}(hs:str m=some (c,l))(hl:l≠[])(hg:(ly m).1=some ⟨g,0,none⟩):g<w.heap.size:=by
 have⟨_,p2,_⟩:=h.nd m hm;rw[hs]at p2;have⟨g',r1,_,r3,_⟩:=p2.2.2.2.resolve_left hl;rw[hg]at r1;injection r1 with r1;injection r1 with r1;subst r1;exact r3
def VV ds str nx vr ly lv T w(e:Ending)w':=
 ∃u bi,e=.returned u/\dW w' (λb=>w.heap.size<=b) T u/\GL w' ds str bi vr ly lv/\iU str nx bi/\Fr (λb=>b∈ds) w w'
def Oz ds str vr ly lv F V k:=
 ∀(w:World)(nx:Nx)(n h:Nat),GL w ds str nx vr ly lv->jc str nx vr F V->n∈ds->Hd nx n h->F h->size (V h)<=k->Cq 58 #[nA n] w (VV ds str nx vr ly lv (V h) w)
def abo ds str nx vr ly lv N(L:List Ty)w gk v wr:=
 ∃(j:Nat)(C:Array Value)(gV:Nx),Hid (gk=N-j)/\j<=N/\v=Nv j/\GL wr ds str gV vr ly lv/\iU str nx gV/\Fr (λb=>b∈ds) w wr/\Bx wr w.heap.size C/\Hid (C.size=N)/\
  Hid (∀i(h:i<L.length),i<j->∃u,C[i]? =some u/\dW wr (λb=>w.heap.size<b/\b<wr.heap.size) L[i] u)
section
variable {lv:Nat->Nat}
def OA(IH:Oz ds str vr ly lv F V k):Oz ds str vr ly lv F V (k+1):=by
 intro w nx n h G0 hF hn hd hFh fW;have hh:h∈ds:=G0.bN hn hd;have HC:=ai<|rW G0 hn hd;go_enter func58,ntmps58;go_wp2_with fail;refine HC.mono ?_;rintro e w1⟨rfl,eP,G1,F1,E1,z1⟩;have hF1:=Fin.eqv hF E1;obtain⟨c0,f0,c2,c1,c3⟩:=(G1.nd h hh).cells;have Xb:=(G1.nd h hh).2.1;obtain⟨_,hV⟩:=hF1 h hFh;have Ca:∀x∈ds,x<w1.heap.size:=λx hx=>(G1.nd x hx).lt;clear HC G0 hF
 cases hs:str h with
 |none=>
  rw[hs]at c2 hV;have c2':w1.cell? ⟨h,3,none⟩=some (.string ⟨#[]⟩):=c2;clear c2 c3 Xb;have hV':V h=.var (vr h):=hV;clear hV
  go_wp2
  go_ret;refine⟨_,eP,rfl,?_,G1,E1,F1⟩;rw[hV'];exact .var _
 |some p=>
  obtain⟨c,l⟩:=p;rw[hs]at c2 hV c3 Xb;obtain⟨Fb,hl,hld,_⟩:=Xb;have c2':w1.cell? ⟨h,3,none⟩=some (.string<|pn c):=c2;have c3':w1.cell? ⟨h,4,none⟩=some (.slice (ly h).1 l.length (ly h).2):=c3;have df:((pn c).toList==[])=false:=by
   rw[<-j9,beq_iff_eq];exact lD Fb
  obtain⟨lf,a2,hF2,hVh⟩:=hV;have hlen:=AK a2;obtain⟨i0,yi,oh,m7,i_⟩:=info_parts gw;have WZ:=jZ (by_:=16) eF yi oh rfl m7 i_ aH l.length hl;rw[hVh]at fW;have alB:∀x∈lf,size (V x)<=k:=λx hx=>by have:=m8 (V:=V) hx;simp[size]at fW;omega
  have HL:=ai hlen;have HZ:=ai z1;have HV:=ai hVh;obtain⟨sa,HA⟩:∃sa,Hid<|(ly h).1=sa:=⟨_,ai rfl⟩;rw[uh HA]at c3';clear c2 c3 hlen z1 hVh
  go_wp2
  go_loopg[29] l.length (λgk v wr=>abo ds str eP vr ly lv l.length (lf.map V) w1 gk v wr)
  case atStart=>
   have cz:Bq w1 (w1.alloc<|.cells (Array.replicate l.length .nilIface) 67):=bw _;refine⟨0,Array.replicate l.length .nilIface,eP,ai ag,ju _,rfl,G1.move cz.size<|λb i v hc=>cz.block b<|jP hc,iU.refl _ _,Fr.of cz,Bx.new w1 _ _,ai ag,ai<|λi _ hi=>absurd hi<|jv _⟩
  case round=>
   obtain⟨j,C,gV,dv,hj,rfl,GJ,EJ,FJ,BJ,hC,hT⟩:=hrel;have zw:=FJ.size;have zb:=BJ.z;obtain⟨d0,e0,d2,d1,d3⟩:=(GJ.nd h hh).cells;rw[hs]at d2;have d2':wr.cell? ⟨h,3,none⟩=some (.string<|pn c):=d2;clear d0 e0 d2 d1 d3 c0 f0 c1 c2' c3' WZ;by_cases bq:j<l.length
   .have hdj:(j:Int)<(l.length:Int):=ae;obtain⟨ga,ea,cg,hga⟩:=GJ.row hh hs bq;have xP:j<lf.length:=by rw[<-uh HL];exact bq
    have hdh:=EJ.lj _ _<|Gu a2 j bq xP;have HC:=IH wr gV l[j] lf[j] GJ (Fin.eqv hF1 EJ) (hld _<|jh bq) hdh (hF2 _<|jh xP)<|alB _<|jh xP;have ea':=HA.symm.trans ea;subst ea';clear ea;go_wp2_with fail;refine HC.mono ?_;rintro e w2⟨u,ri,rfl,hU,G2,E2,F2⟩;obtain⟨tu,xu,rfl⟩:=hU.iface;have hpb:¬w1.heap.size∈ds:=λq=>by have:=Ca _ q;omega
    have B2:=BJ.fr F2 hpb;have wH:j<C.size:=qBh;have cj:w2.cell? ⟨w1.heap.size,j,none⟩=some C[j]:=(B2.c j).trans<|Array.getElem?_eq_getElem wH;have fj:=B2.f j;have B3:=ai<|B2.aP j (.iface tu xu) (C.setIfInBounds j<|.iface tu xu) rfl wH;have HU:=ai hU;have HF:=ai F2;have Bi:=ai<|FJ.trans F2;have HE:=ai<|EJ.trans E2;have z2:=F2.size;have G3:=ai (G2.one (One.cell w2 w1.heap.size j<|.iface tu xu) hpb (λm hm c' l' g' e1 e2 e3=>by have:=G1.aj6 hm e1 e2 e3;omega));clear HC hU G2 E2 F2 B2 cg d2'
    go_wp2
    go_roundg(l.length-(j+1))
    case measure=>rw[uh dv];omega
    case rel=>
     refine⟨j+1,C.setIfInBounds j<|.iface tu xu,ri,ai rfl,ae,jT,G3,HE,Bi.set (jq<|br _) j _,B3,ai (by simp;exact hC),ai<|λi hi hij=>?_⟩;have jU:∀b,w1.heap.size<b->b<w2.heap.size->(w2.setCell ⟨w1.heap.size,j,none⟩<|.iface tu xu).heap[b]? =w2.heap[b]? :=λb hb _=>Below.heap_setCell _ _ _ _ (by show b≠w1.heap.size;omega);have hss:(w2.setCell ⟨w1.heap.size,j,none⟩<|.iface tu xu).heap.size=w2.heap.size:=C9;by_cases e:i=j
     .subst e;refine⟨.iface tu xu,by simp[wH],?_⟩;rw[List.getElem_map];exact HU.low.move ae (λb p z=>jU b qAy z)<|λb p z=>⟨qAy,ae⟩
     .obtain⟨u',wI,wJ⟩:=uh hT i hi ae;refine⟨u',by rw[Array.getElem?_setIfInBounds_ne ae];exact wI,?_⟩;have h3:=wJ.fr HF (λb p _ q=>by have:=Ca _ q;omega);exact h3.move ae (λb p z=>jU b p.1 z)<|λb p z=>⟨p.1,ae⟩
   .have hdj:decide ((j:Int)<(l.length:Int))=false:=bP;have ej:j=l.length:=ae;subst ej
    go_wp2
    go_ret;refine⟨_,gV,rfl,?_,GJ,E1.trans EJ,F1.trans FJ⟩;have hlm:(lf.map V).length=l.length:=by rw[List.length_map];exact HL.symm
    rw[uh HV,<-hlm];have z1:=uh HZ;refine .aK c _ _ _ (λi=>C.getD i .nilIface) Fb (jq ⟨w1.heap.size,rfl,by show w.heap.size<=w1.heap.size;omega,zb,λi hi=>?_⟩) (λi hi=>?_)
    .obtain⟨u,hu,_⟩:=uh hT i hi ae;rw[BJ.c i,hu];simp[Array.getD_eq_getD_getElem?,hu]
    .obtain⟨u,hu,TB⟩:=uh hT i hi ae;have:C.getD i .nilIface=u:=qBm;rw[this];exact TB.wide λb p=>qAu
def Sj:∀k,Oz ds str vr ly lv F V k
 |0=>λw nx n h G hF hn hd hFh fW=>absurd fW (by have:=size_pos<|V h;omega)|k+1=>OA<|Sj k
end
def Sk{w:World}{ds:List Nat}{str:ya}{nx:Nx}{vr:Nat->Nat}{ly:Nat->Option Addr×Nat}{lv:Nat->Nat}(G:GL w ds str nx vr ly lv):∀l:List Nat,(∀m∈l,m∈ds)->∃hs,dE (Hd nx) l hs
 |[],_=>⟨[],.nil⟩|x::l,h=>by
  have⟨y,hy⟩:=G.hd x<|h x ag;have⟨hs,q⟩:=Sk G l λm hm=>h m (by simp[hm]);exact⟨y::hs,.cons hy q⟩
def VW ds str nx vr ly lv sb M(F:Nat->Prop)B(V:Nat->Ty)n w(e:Ending)w':=
 ∃bi,GL w' ds str bi vr ly lv/\iU str nx bi/\Fr (λb=>b∈ds\/b=sb) w w'/\
  ((∃M' F' V' h,e=.returned (.tuple #[.int .i64 ((min (size<|V' h) 49:Nat):Int),.bool true])/\Hd nx n h/\F' h/\(∀x,F x->F' x/\V' x=V x)/\SZ ds str bi vr M' F' B V'/\MS Cf w' sb M'/\(∀x,aZ x M'=none->aZ x M=none))\/
   (e=.returned (.tuple #[Iv 0,.bool false])/\∀W,¬mP str nx W))
def Gy ds str vr ly lv sb k:=
 ∀(w:World)(nx:Nx)(M:List (Nat×Value))(F:Nat->Prop)(B:List Nat)(V:Nat->Ty)(n:Nat),GL w ds str nx vr ly lv->SZ ds str nx vr M F B V->MS Cf w sb M->n∈ds->(∀W,mP str nx W->∀b∈B,size (W n)<size (W b))->mu M ds<k->
  Cq 85 #[.agg #[Iv 48,Mv sb],nA n] w (VW ds str nx vr ly lv sb M F B V n w)
def Sl ds str nx vr ly lv sb bx M(F:Nat->Prop)B(V:Nat->Ty)N(hs:List Nat)w gk u v wr:=
 ∃(j:Nat)(gV:Nx)(Mj:List (Nat×Value))(Fj:Nat->Prop)(Vj:Nat->Ty)(sz:Nat),Hid (gk=N-j)/\j<=N/\u=Nv sz/\v=Nv j/\sz<=49/\Hid (sz=min (1+ah ((hs.take j).map Vj)) 49)/\GL wr ds str gV vr ly lv/\iU str nx gV/\Fr (λb=>b∈ds\/b=sb) w wr/\Bx wr bx #[Iv 48,Mv sb]/\
  Hid (SZ ds str gV vr Mj Fj B Vj)/\MS Cf wr sb Mj/\Hid ((∀x,F x->Fj x/\Vj x=V x)/\(∀x,aZ x Mj=none->aZ x M=none)/\∀x∈hs.take j,Fj x)
section
variable {lv:Nat->Nat}
def OB(IH:Gy ds str vr ly lv sb k):Gy ds str vr ly lv sb (k+1):=by
 intro w nx M F B V n G0 HS M0 hn hB hmu;have⟨h,HD⟩:=G0.hd n hn;have hh:=G0.bN hn HD;have⟨cz,BA⟩:=sd w #[.int .i64 48,.map<|some sb] 190;have GA:=G0.move cz.size<|λb i v hc=>cz.block b<|jP hc;have HC:=rW GA hn HD;have zs:=M0.lt;have MA:=M0.below cz;have Ca:∀x∈ds,x<w.heap.size:=λx hx=>(G0.nd x hx).lt;have hsd:¬sb∈ds:=λq=>by have:=(G0.nd sb q).cells.1;rw[M0.rV 0]at this;cases this
 have vC:¬w.heap.size∈ds:=λq=>by have:=Ca _ q;omega
 go_enter func85,ntmps85;go_wp2_with fail;refine HC.mono ?_;rintro e w1⟨rfl,eP,G1,F1,E1,HZ⟩;have B1:=BA.fr F1 vC;have HM:=MA.same (F1.block sb (by have:=cz.size;omega) hsd);have HOK:∀x∈ds,∃c t,w1.heap[x]? =some (Cv c t (0,0)):=λx hx=>⟨_,_,(G1.nd x hx).1⟩;have hl:=HM.look aba Tryz.underlying188 (Rs w1) h (HOK h hh) (λp hp=>HOK p.1<|HS.kd p hp) true;have ca:=B1.c 0;have cb:=B1.c 1;have ca':=ca;have cb':=cb;have FF:Fr (λb=>b∈ds\/b=sb) w w1:=(Fr.of cz).trans' F1<|λx q=>Or.inl<|Or.inl q;have HD1:=E1.lj _ _ HD;clear HC GA BA MA G0 M0 ca cb
 cases hg:aZ h M with
 |some v=>
  rw[hg]at hl;simp at hl;obtain q|q:=HS.gm h v hg
  .have hv:=HS.fg h q;rw[hg]at hv;injection hv with hv;subst hv;have HP:=Se<|V h;have lU:((((min (size<|V h) 49:Nat)):Int)==0)=false:=by simpa using HP
   generalize hq:(((min (size<|V h) 49:Nat)):Int)=sz at*
   go_wp2
   go_ret2;refine⟨eP,G1,E1,FF,jp ⟨M,F,V,h,?_,HD,q,λx hx=>⟨hx,rfl⟩,HS.eqv E1,HM,λ_ hx=>hx⟩⟩;have e1:(sz !=0)=true:=by simpa using HP
   rw[hq];show Rv (Value.tuple #[.int .i64 sz,.bool<|sz !=0])=_;rw[e1]
  .have hv:=HS.bg h q;rw[hg]at hv;injection hv with hv;subst hv
   go_wp2
   go_ret2;refine⟨eP,G1,E1,FF,jq ⟨rfl,λW hW=>?_⟩⟩;have:=hB W hW h q;rw[HD.nR hW]at this;omega
 |none=>
  rw[hg]at hl;simp at hl;have⟨c0,f0,c2,c1,c3⟩:=(G1.nd h hh).cells;have Xb:=(G1.nd h hh).2.1;obtain⟨l,HLs,Oy,hld⟩:∃l:List Nat,Hid ((str h=none/\l=[])\/∃c,str h=some (c,l))/\slN (str h)=l.length/\∀m∈l,m∈ds:=by
   cases hs:str h with
   |none=>exact⟨[],ai<|jp ⟨rfl,rfl⟩,rfl,ag⟩|some p=>
    rw[hs]at Xb;exact⟨p.2,ai<|jq ⟨p.1,rfl⟩,rfl,Xb.2.2.1⟩
  have amH:l.length<=1001:=by
   obtain⟨_,e⟩|⟨c,e⟩:=uh HLs
   .subst e;simp
   .rw[e]at Xb;exact Xb.2.1
  have⟨hs,a2⟩:=Sk G1 l hld;have HL:=AK a2;obtain⟨sa,HA⟩:∃sa,Hid<|(ly h).1=sa:=⟨_,ai rfl⟩;rw[uh HA,Oy]at c3;have c3':=c3;have HS:=HS.eqv E1;have kdS:=HS.kd;have hhb:h≠sb:=λe=>hsd<|e▸hh;clear c3 Oy c0 c1 c2 f0 Xb;go_wp2_with(refine aV _ rfl _ _ _ _ (jq rfl) aba j8 _ _ rfl HM h (.int .i64 0) rfl rfl (HOK h hh) (λp hp=>HOK p.1<|kdS p hp) ?_;intro w2 H' O';have C5:=ai H';have O2:=O';clear H' O';have alC:w2.cell? ⟨h,4,none⟩=some (Lv sa l.length (ly h).2):=(jz (a:=⟨h,4,none⟩) (w:=w1)<|O2.block h hhb).trans c3');have FP:Fr (λb=>b∈ds\/b=sb) w w2:=⟨O2.os.trans FF.os,O2.tape.trans FF.tape,O2.output.trans FF.output,by rw[O2.size];exact FF.size,λb hz hn=>(O2.block b<|λe=>hn<|jq e).trans<|FF.block b hz hn⟩;have HBL:∀(gV:Nx),iU str eP gV->∀j(hj:j<l.length)W,mP str gV W->∀b∈h::B,size (W l[j])<size (W b):=by
   intro gV EJ j hj W hW b hb;have hW0:=((E1.trans EJ).nR W).1 hW;have e1:=HD.nR hW0;have bz:size (W l[j])<size (W h):=by
    obtain⟨_,e⟩|⟨c,e⟩:=uh HLs
    .subst e;simp at hj
    .rw[hW0.made h c l e];have:=m8 (V:=W)<|jh hj;simp[size];omega
   obtain q|q:=List.mem_cons.1 hb
   .rw[q];exact bz
   .have:=hB W hW0 b q;rw[e1]at this;omega
  have HGM:=hg;have alD:mu (bF h (.int .i64 0) M) ds<k:=by have:=aa_ HGM (.int .i64 0) hh;omega
  have aj7:∀b i v,w1.cell? ⟨b,i,none⟩=some v->w2.heap[b]? =w1.heap[b]? :=λb i v hc=>O2.block b (λe=>by subst e;rw[HM.rV i]at hc;cases hc);have G2:=G1.move (by rw[O2.size];exact br _) aj7;have B2:=B1.one O2 ae;clear hl ca' cb' c3' alC;go_loopg[8,34] l.length (λgk u v wr=>Sl ds str eP vr ly lv sb w.heap.size (bF h (.int .i64 0) M) F (h::B) V l.length hs w gk u v wr)
  case atStart=>
   exact⟨0,eP,bF h (.int .i64 0) M,F,V,1,ai ag,ju _,rfl,rfl,ae,ai<|by simp[ah],G2,iU.refl _ _,FP,B2,ai<|HS.begin hh HGM,uh C5,ai ⟨λx hx=>⟨hx,rfl⟩,λ_ hx=>hx,ag⟩⟩
  case round=>
   obtain⟨j,gV,Mj,Fj,Vj,sz,dv,hj,rfl,rfl,fW,hsq,GJ,EJ,FJ,BJ,SJ,HMJ,hT⟩:=hrel;have zw:=FJ.size;have zb:=BJ.z;have ca:=BJ.c 0;have cb:=BJ.c 1;by_cases bq:j<l.length
   .have hdj:(j:Int)<(l.length:Int):=ae;obtain⟨c,hsc⟩:∃c,Hid<|str h=some (c,l):=by
     obtain⟨_,e⟩|⟨c,e⟩:=uh HLs
     .subst e;simp at bq
     .exact⟨c,ai e⟩
    have⟨ga,ea,cg,hga⟩:=GJ.row hh (uh hsc) bq;have xP:j<hs.length:=by rw[<-HL];exact bq
    have hdh:=EJ.lj _ _<|Gu a2 j bq xP;have hmj:mu Mj ds<k:=Nat.lt_of_le_of_lt (Gv (uh hT).2.1 ds) alD;have HC:=IH wr gV Mj Fj (h::B) Vj l[j] GJ SJ HMJ (hld _<|jh bq) (HBL gV EJ j bq) hmj;have ea':=(uh HA).symm.trans ea;subst ea';clear ea;go_wp2_with fail;refine HC.mono ?_;rintro e w3⟨nx3,G3,E3,F3,⟨M3,F3',V3,h3,rfl,hd3,hF3,hV3,S3,MS3,hg3⟩|⟨rfl,nM⟩⟩
    .have e3:=hd3.one hdh;subst e3;obtain⟨s2,Bl⟩:∃s2,Hid<|s2=min (size<|V3 hs[j]) 49:=⟨_,ai rfl⟩;rw[<-uh Bl];have amI:s2<=49:=by rw[uh Bl];omega
     have B3:=BJ.fr F3 (λq=>by obtain q|q:=q;exact vC q;omega);have ca3:=B3.c 0;have adZ:∀(x:Bool)(w:World),(Op.unary .not<|.bool x).run j6 w=.ok (.bool<|!x) w:=λ_ _=>rfl;clear HC ca cb cg
     have HR:∀sz',sz'<=49->sz'=min (sz+s2) 49->Sl ds str eP vr ly lv sb w.heap.size (bF h (.int .i64 0) M) F (h::B) V l.length hs w (l.length-(j+1)) (.int .i64 (sz':Int)) (.int .i64<|(j:Int)+1) w3:=(λsz' m7 i_=>by
      have⟨t1,t2,t3⟩:=uh hT;have alE:∀x∈hs.take (j+1),F3' x:=λx hx=>by
       rw[ji xP]at hx;obtain q|q:=List.mem_append.1 hx
       .exact(hV3 x<|t3 x q).1
       .simp at q;rw[q];exact hF3
      have hmp:(hs.take j).map V3=(hs.take j).map Vj:=by
       apply jl;intro x hx;exact(hV3 x<|t3 x hx).2
      have alF:∀(a:List Ty)(t:Ty),ah (a++[t])=ah a+size t:=by
       intro a t
       induction a with
       |nil=>simp[ah]|cons x a ih=>simp[ah,ih];omega
      refine⟨j+1,nx3,M3,F3',V3,sz',ai rfl,ae,rfl,jT,m7,ai ?_,G3,EJ.trans E3,FJ.trans F3,B3,ai S3,MS3,ai ⟨λx hx=>⟨(hV3 x (t1 x hx).1).1,((hV3 x (t1 x hx).1).2).trans (t1 x hx).2⟩,λx hx=>t2 x<|hg3 x hx,alE⟩⟩;rw[ji xP,List.map_append,hmp];simp only[jk,List.map_nil];rw[alF,i_,uh hsq,uh Bl]
      omega)
     clear hd3 hF3 hV3 S3 MS3 hg3 hT hsq Bl G3 E3 F3;go_wp2_with fail;all_goals(go_roundg(l.length-(j+1)))
     all_goals(first|(rw[uh dv];omega)|exact HR 49 ae (by omega)|(have:=HR (sz+s2) ae ae;rw[Int.natCast_add]at this;exact this))
    .have adZ:∀(x:Bool)(w:World),(Op.unary .not<|.bool x).run j6 w=.ok (.bool<|!x) w:=λ_ _=>rfl;clear HC ca cb cg
     go_wp2
     go_ret2;exact⟨nx3,G3,(E1.trans EJ).trans E3,FJ.trans F3,jq ⟨rfl,λW hW=>nM W<|((E1.trans EJ).nR W).2 hW⟩⟩
   .have hdj:decide ((j:Int)<(l.length:Int))=false:=bP;have ej:j=l.length:=ae;subst ej;have bz:hs.take l.length=hs:=by rw[HL];exact jm
    have⟨t1,t2,t3⟩:=uh hT;have ad_:=uh hsq;rw[bz]at t3 ad_
    obtain⟨T,HT1,HT2⟩:∃T:Ty,Hid (sz=min (size T) 49)/\Hid (match str h with
     |none=>T=.var (vr h)|some (c,l)=>∃hs,dE (Hd gV) l hs/\(∀y,y∈hs->Fj y)/\T=.aK c (hs.map Vj)):=by
     obtain⟨e1,e2⟩|⟨c,e⟩:=uh HLs
     .have e3:hs=[]:=by
       have:=HL;rw[e2]at this;exact List.length_eq_zero_iff.1 this.symm
      refine⟨.var<|vr h,ai ?_,ai<|by rw[e1]⟩;rw[ad_,e3];simp[ah,size]
     .refine⟨.aK c<|hs.map Vj,ai ?_,ai ?_⟩
      .rw[ad_];simp[size]
      .rw[e];exact⟨hs,AH (λx y q=>EJ.lj x y q) a2,t3,rfl⟩
    have hxB:¬h∈B:=λq=>by
     have:=HS.bg h q;rw[HGM]at this
     cases this
    have SD:=SJ.done hxB hh ((EJ.Bt h).2<|(E1.lj _ _ HD).head) T HT2;have aj8:∀x∈ds,∃c t,wr.heap[x]? =some (Cv c t (0,0)):=(λx hx=>⟨_,_,(GJ.nd x hx).1⟩);have kdJ:=(uh SJ).kd;have HTT:=And.intro t1 t2;clear hsq ad_ t1 t2 t3 hT bz HT2;go_wp2_with(refine aV _ rfl _ _ _ _ (jq rfl) aba j8 _ _ rfl HMJ h (.int .i64 (sz:Int)) rfl rfl (aj8 h hh) (λp hp=>aj8 p.1<|kdJ p hp) ?_;intro w4 H' O';have HM4:=ai H';have O4:=O';clear H' O');go_ret2;obtain⟨t1,t2⟩:=HTT;have hsT:=uh HT1;have SD':=SD;rw[<-hsT]at SD';have hkp:∀b i v,wr.cell? ⟨b,i,none⟩=some v->w4.heap[b]? =wr.heap[b]? :=λb i v hc=>O4.block b (λe=>by subst e;rw[HMJ.rV i]at hc;cases hc);refine⟨gV,GJ.move (by rw[O4.size];exact br _) hkp,E1.trans EJ,⟨O4.os.trans FJ.os,O4.tape.trans FJ.tape,O4.output.trans FJ.output,by rw[O4.size];exact FJ.size,λb hz hn=>(O4.block b<|λe=>hn<|jq e).trans<|FJ.block b hz hn⟩,jp ⟨bF h (.int .i64 (sz:Int)) Mj,λy=>Fj y\/y=h,ja Vj h T,h,?_,HD,jq rfl,λx hx=>⟨jp (t1 x hx).1,?_⟩,SD',uh HM4,λx hx=>?_⟩⟩
    .have e1:ja Vj h T h=T:=QG;rw[e1,<-hsT];rfl
    .have df:x≠h:=λe=>by subst e;exact(uh SJ).apart (t1 x hx).1 ag
     simp only[ja,df,if_false];exact(t1 x hx).2
    .rw[aM]at hx;split at hx
     .cases hx
     .have:=t2 x hx;rw[aM]at this;split at this
      .cases this
      .exact this
def So:∀k,Gy ds str vr ly lv sb k
 |0=>λw nx M F B V n _ _ _ _ _ hmu=>absurd hmu (jv _)|k+1=>OB<|So k
end
section
variable {nx:Nx} {lv:Nat->Nat}
def aea ds str nx vr ly lv n w(e:Ending)w':=
 ∃bi,GL w' ds str bi vr ly lv/\iU str nx bi/\Fr (λb=>b∈ds) w w'/\
  ((∃F V h,e=.returned (.tuple #[.int .i64 ((min (size<|V h) 49:Nat):Int),.bool true])/\Hd nx n h/\F h/\jc str bi vr F V/\∀x,F x->x∈ds)\/
   (e=.returned (.tuple #[Iv 0,.bool false])/\∀W,¬mP str nx W))
def wS(G:GL w ds str nx vr ly lv)(hn:n∈ds):Cq 57 #[nA n,Iv 48] w (aea ds str nx vr ly lv n w):=by
 have jB:= @run_makeMap Tryz.prog;have cz:Bq w (w.alloc<|.map #[] 0):=bw _;have GA:=G.move cz.size<|λb i v hc=>cz.block b<|jP hc;have S0:SZ ds str nx vr [] (λ_=>False) [] (λ_=>.var 0):=⟨λ_ q=>q.elim,λ_ q=>q.elim,λ_ q=>(List.not_mem_nil q).elim,λx v q=>(by simp[aZ]at q),λ_ q=>(List.not_mem_nil q).elim⟩;have HC:=So (mu [] ds+1) (w.alloc<|.map #[] 0) nx [] (λ_=>False) [] (λ_=>.var 0) n GA S0 (MS.new Cf w) hn (λ_ _ b hb=>by simp at hb) (Nat.lt_succ_self _);have Ca:∀x∈ds,x<w.heap.size:=λx hx=>(G.nd x hx).lt;go_enter func57,ntmps57;go_wp2_with fail;refine HC.mono ?_
 have xS:∀w',Fr (λb=>b∈ds\/b=w.heap.size) (w.alloc<|.map #[] 0) w'->Fr (λb=>b∈ds) w w':=λw' h=>(Fr.of cz).trans' h (λx q=>by
  obtain q|q:=q
  .exact jp q
  .exact jq ae)
 rintro e w1⟨eP,G1,E1,F1,⟨M1,F',V',h,rfl,hd,hF,hV,HS,MS1,hg⟩|⟨rfl,nM⟩⟩
 .obtain⟨s2,Bl⟩:∃s2:Nat,Hid<|s2=min (size<|V' h) 49:=⟨_,ai rfl⟩;rw[<-uh Bl]
  go_wp2
  go_ret2;refine⟨eP,G1,E1,xS w1 F1,jp ⟨F',V',h,?_,hd,hF,HS.fin,λx hx=>HS.fd hx⟩⟩;rw[<-uh Bl];rfl
 .clear HC
  go_wp2
  go_ret2;exact⟨eP,G1,E1,xS w1 F1,jq ⟨rfl,nM⟩⟩
end
structure gC where
 ds:List Nat
 str:ya
 nx:Nx
 vr:Nat->Nat
 ly:Nat->Option Addr×Nat
 lv:Nat->Nat
 V:Nat->Ty
abbrev gC.L(g:gC)i v:=Lo g.ds g.str g.nx g.vr g.lv i v
abbrev gC.R(g:gC)v x:=Rt g.ds g.str g.nx g.vr v x
structure JS w(g:gC)(s:qg):Prop where
 gl:GL w g.ds g.str g.nx g.vr g.ly g.lv
 nk:vW g.str g.nx []
 inj:∀a b,a∈g.ds->b∈g.ds->g.str a=none->g.str b=none->g.vr a=g.vr b->a=b
 can:Can g.str g.nx g.vr g.V
 lc:LC g.str g.ds g.nx g.lv
 val:∀n,n∈g.ds->g.str n=none->g.V n=s.k (g.vr n)
 use:∀n,n∈g.ds->g.str n=none->s.u (g.vr n)
 ok:In.Ok s
section
variable {g g1 g2:gC} {s2:qg}
def GL.jg{nx:Nx}{lv:Nat->Nat}(h:GL w ds str nx vr ly lv)(hc:vW str nx [])(hi:∀a b,a∈ds->b∈ds->str a=none->str b=none->vr a=vr b->a=b):JG ds str nx vr where
 Oq n:=by
  by_cases q:n∈ds
  .exact h.hd n q
  .exact⟨n,.here (h.out n q).1⟩
 lj n x hn k:=h.bN hn k
 W_ a c l ha hs p hp:=(h.part ha hs).2 p hp
 inj:=hi
 nk:=hc
def JS.jg(h:JS w g s):JG g.ds g.str g.nx g.vr:=h.gl.jg h.nk h.inj
def JS.nZ(h:JS w g s)(hn:n∈g.ds)(o:aA v (g.V n)):∃x,g.R v x:=by
 have⟨y,hy⟩:=h.jg.Oq n;have⟨x,r,_⟩:=fc (lv:=g.lv) h.jg h.can _ n y hn hy (br _) o;exact⟨x,r⟩
def JS.root(h:JS w g s)(r:g.R v x):s.u v/\s.k v=.var v:=by
 rw[<-r.2.2.2];exact⟨h.use x r.1 r.2.2.1,by rw[<-h.val x r.1 r.2.2.1,r.val h.can,r.2.2.2]⟩
def JS.eqv(h:JS w g s){bi}(e:iU g.str g.nx bi)(hg:GL w' g.ds g.str bi g.vr g.ly g.lv):JS w' {g with nx:=bi} s:=
 ⟨hg,e.nk _ h.nk,h.inj,λn x k=>h.can n x<|e.back h.gl k,(wR.eqv h.gl e).lc h.lc,h.val,h.use,h.ok⟩
structure iV L(g:gC)(s:qg)(g1:gC)(s1:qg):Prop where
 eR:∀n,n∈g.ds->n∈g1.ds/\g1.str n=g.str n/\g1.vr n=g.vr n
 val:∀n,n∈g.ds->g1.V n=sub s1.k (g.V n)
 VR:∀i,i<L->∀x,g1.L i x↔∃v,g.L i v/\aA x (s1.k v)
def iV.key{L}(h:JS w g s)(k:iV L g s g1 s1)(h1:JS w' g1 s1)(hn:n∈g.ds)(hs:g.str n=none):s1.k (g.vr n)=sub s1.k (s.k<|g.vr n):=by
 have⟨b1,b2,b3⟩:=k.eR n hn;rw[<-h.val n hn hs,<-k.val n hn,h1.val n b1<|b2.trans hs,b3]
def iV.refl(h:JS w g s)L:iV L g s g s:=
 ⟨λn hn=>⟨hn,rfl,rfl⟩,λn hn=>(In.iu λv o=>by have⟨x,r⟩:=h.nZ hn o;exact(h.root r).2).symm,λi _ x=>⟨λq=>⟨x,q,by obtain⟨y,r,_⟩:=q;rw[(h.root r).2];rfl⟩,λ⟨v,q,o⟩=>by obtain⟨y,r,l⟩:=q;rw[(h.root r).2]at o;simp only[aA]at o;subst o;exact⟨y,r,l⟩⟩⟩
def iV.trans{L}{w2}(h:JS w g s)(h1:JS w' g1 s1)(h2:JS w2 g2 s2)(k:iV L g s g1 s1)(k1:iV L g1 s1 g2 s2):iV L g s g2 s2:=by
 have key:∀v y,g.R v y->s2.k v=sub s2.k (s1.k v):=λv y r=>by
  have⟨b1,b2,b3⟩:=k.eR y r.1;have:=k1.key h1 h2 b1<|b2.trans r.2.2.1
  rwa[b3,r.2.2.2]at this
 refine⟨λn hn=>?_,λn hn=>?_,λi hi x=>?_⟩
 .have⟨b1,b2,b3⟩:=k.eR n hn;have⟨c1,c2,c3⟩:=k1.eR n b1;exact⟨c1,c2.trans b2,c3.trans b3⟩
 .rw[k1.val n (k.eR n hn).1,k.val n hn,sub_sub];refine sub_congr _ λv o=>?_;have⟨y,r⟩:=h.nZ hn o;exact(key v y r).symm
 .rw[k1.VR i hi x];constructor
  .rintro⟨v1,q,o⟩;have⟨v,q0,o0⟩:=(k.VR i hi v1).1 q;refine⟨v,q0,?_⟩;obtain⟨y,r,_⟩:=q0;rw[key v y r];exact(qf _).2 ⟨v1,o0,o⟩
  .rintro⟨v,q0,o⟩;obtain⟨y,r,ly⟩:=q0;rw[key v y r]at o;have⟨v1,o0,o1⟩:=(qf _).1 o;exact⟨v1,(k.VR i hi v1).2 ⟨v,⟨y,r,ly⟩,o0⟩,o1⟩
def iV.eqv(h:JS w g s)(e:iU g.str g.nx bi)(hg:GL w' g.ds g.str bi g.vr g.ly g.lv)L:iV L g s {g with nx:=bi} s:=by
 have r:=iV.refl h L;refine⟨r.eR,r.val,λi hi x=>?_⟩;rw[<-r.VR i hi x];exact⟨λ⟨y,⟨q1,q2,q3⟩,l⟩=>⟨y,⟨q1,(e.Bt y).1 q2,q3⟩,l⟩,λ⟨y,⟨q1,q2,q3⟩,l⟩=>⟨y,⟨q1,(e.Bt y).2 q2,q3⟩,l⟩⟩
def Sq{str:ya}{nx:Nx}{vr:Nat->Nat}{ds:List Nat}{F:Nat->Prop}{VF V:Nat->Ty}(hF:jc str nx vr F VF)(hV:Can str nx vr V):∀k x,size (V x)<=k->F x->VF x=V x
 |0,x,h,_=>by have:=size_pos<|V x;omega|k+1,x,hz,hx=>by
  have⟨h1,h2⟩:=hF x hx;have e:=hV x x<|.here h1
  cases hs:str x with
  |none=>rw[hs]at h2 e;rw[h2,e]|some q=>
   obtain⟨c,l⟩:=q;rw[hs]at h2 e;have e:V x=.aK c (l.map V):=e;obtain⟨Bl,a1,a2,a3⟩:=h2;rw[a3,e];congr 1;refine(AM a1 λp y hp hy r=>?_).symm;have lU:V p=V y:=by rw[hV p y r,hV y y<|.here (hF y<|a2 y hy).1]
   rw[lU];refine(Sq (ds:=ds) hF hV k y ?_<|a2 y hy).symm;have:=kg (c:=c) (U:=V) hp;rw[<-e,lU]at this;omega
def aeb{nx}(g:JG ds str nx vr)(hV:Can str nx vr V):jc str nx vr (λh=>h∈ds/\nx h=none) V:=λh hh=>by
 refine⟨hh.2,?_⟩;have e:=hV h h<|.here hh.2
 cases hs:str h with
 |none=>rw[hs]at e;exact e|some q=>
  obtain⟨c,l⟩:=q;rw[hs]at e;have e:V h=.aK c (l.map V):=e;have hp:=g.W_ h c l hh.1 hs;have:∀l:List Nat,(∀p,p∈l->p∈ds)->∃hs,dE (Hd nx) l hs/\(∀x,x∈hs->x∈ds/\nx x=none)/\l.map V=hs.map V:=by
   intro l
   induction l with
   |nil=>exact λ_=>⟨[],.nil,ag,rfl⟩|cons p l ih=>
    intro hl;have⟨y,hy⟩:=g.Oq p;have⟨hs,h1,h2,h3⟩:=ih λq hq=>hl q (by simp[hq]);refine⟨y::hs,.cons hy h1,λx hx=>?_,?_⟩
    .obtain e|e:=List.mem_cons.1 hx
     .subst e;exact⟨g.lj p _ (hl p ag) hy,hy.head⟩
     .exact h2 x e
    .simp only[jk,h3];rw[show V p=V y from by rw[hV p y hy,hV y y<|.here hy.head]]
  have⟨Bl,h1,h2,h3⟩:=this l hp;exact⟨Bl,h1,h2,by rw[e,h3]⟩
end
abbrev guJ(f:Fl)(vl vr:Value):Value:=.iface 516<|.agg #[Nv f.kind,Nv f.ak,Nv f.to,vl,vr]
abbrev OC(f:Fl)(vl vr:Value):Ending:=.panicked [{v:=guJ f vl vr,recovered:=false}]
section
variable {g:gC}
def JS.lt(h:JS w g s){n}(hn:n∈g.ds):n<w.heap.size:=(h.gl.nd n hn).lt
def GL.af{nx}{lv}(h:GL w ds str nx vr ly lv)(hb:Bq w w'):GL w' ds str nx vr ly lv:=h.move hb.size λb i v hc=>hb.block b<|jP hc
def JS.af(h:JS w g s)(hb:Bq w w'):JS w' g s:=⟨h.gl.af hb,h.nk,h.inj,h.can,h.lc,h.val,h.use,h.ok⟩
def aec(h:JS w g s)(hn:n∈g.ds):Cq 57 #[nA n,Iv 48] w (λe w'=>e=.returned (.tuple #[.int .i64 ((min (size<|g.V n) 49:Nat):Int),.bool true])/\∃bi,iU g.str g.nx bi/\JS w' {g with nx:=bi} s/\Fr (λb=>b∈g.ds) w w'):=by
 refine(wS h.gl hn).mono ?_;rintro e w'⟨bi,G,E,F,⟨Fs,VF,x,rfl,hd,hx,hF,_⟩|⟨_,nM⟩⟩
 .have js:=h.eqv E G;have e1:=Sq (ds:=g.ds) hF js.can _ x (br _) hx;have e2:g.V n=g.V x:=by rw[h.can n x hd,h.can x x<|.here hd.head]
  refine⟨by rw[e1,e2],bi,E,js,F⟩
 .exact absurd (h.can.nR h.jg) (nM _)
def rY(h:JS w g s)(hn:n∈g.ds)f t:Cq 378 #[nA n,.agg #[Nv f,Nv t]] w (λe w'=>(∃bi,iU g.str g.nx bi/\JS w' {g with nx:=bi} s)/\Fr (λb=>b∈g.ds) w w'/\((size (g.V n)<=48/\e=.returned (.tuple #[]))\/(48<size (g.V n)/\e=OC ⟨7,f,t⟩ .nilIface .nilIface))):=by
 have⟨k0,B0⟩:=sd w #[Nv f,Nv t] 131;have HS:=aec (h.af k0) hn;have hz:¬w.heap.size∈g.ds:=λq=>by have:=h.lt q;omega
 have K0:=ai k0;go_enter func378,ntmps378;go_wp2_with fail;refine HS.mono ?_;rintro e w1⟨rfl,eP,EE,JJ,F1⟩;have HF:=(Fr.of K0).trans F1;by_cases hb:48<size (g.V n)
 .have hm:(48:Int)<((min (size<|g.V n) 49:Nat):Int):=ae;obtain⟨M,hM⟩:∃M:Int,M=((min (size<|g.V n) 49:Nat):Int):=⟨_,rfl⟩;rw[<-hM]at hm⊢;have HT:=mX (w:=w1) (f:Int) (t:Int);have⟨c1,c2,c3⟩:=B0.fr F1 hz;go_wp2_with fail;refine HT.mono ?_;rintro e w2⟨rfl,K2⟩
  go_wp2
  exact⟨rfl,⟨eP,EE,JJ.af K2⟩,HF.trans<|Fr.of K2,jq ⟨hb,rfl⟩⟩
 .have hm:¬(48:Int)<((min (size<|g.V n) 49:Nat):Int):=ae;obtain⟨M,hM⟩:∃M:Int,M=((min (size<|g.V n) 49:Nat):Int):=⟨_,rfl⟩;rw[<-hM]at hm⊢
  go_wp2
  go_end0;exact⟨⟨eP,EE,JJ⟩,HF,jp ⟨ae,rfl⟩⟩
def yv(h:JS w g s)(hn:n∈g.ds):Cq 58 #[nA n] w (λe w'=>∃tu xu bi,e=.returned (.iface tu xu)/\dW w' (λb=>w.heap.size<=b) (g.V n) (.iface tu xu)/\iU g.str g.nx bi/\JS w' {g with nx:=bi} s/\Fr (λb=>b∈g.ds) w w'):=by
 have⟨x,hx⟩:=h.jg.Oq n;refine(Sj _ w g.nx n x h.gl (aeb h.jg h.can) hn hx ⟨h.jg.lj n x hn hx,hx.head⟩<|br _).mono ?_;rintro e w'⟨u,bi,rfl,hu,G,E,F⟩;obtain⟨tu,xu,rfl⟩:=hu.iface;exact⟨tu,xu,bi,rfl,by rw[show g.V n=g.V x from by rw[h.can n x hx,h.can x x<|.here hx.head]];exact hu,E,h.eqv E G,F⟩
def JR.post{nx}(h:JR str nx eP a b true)(e:iU str eP ri):JR str nx ri a b true:=
 ⟨λP E q=>h.eqs P E<|e.eqs P E q,λ_=>⟨λV=>(e.nR V).trans<|(h.yes rfl).1 V,λP q=>e.nk P<|(h.yes rfl).2.1 P q,λP E q=>(h.yes rfl).2.2 P E<|e.eqs P E q⟩,λq=>mO⟩
def JS.join(h:JS w g s)(hg:GL w' g.ds g.str bi g.vr g.ly cC)(jr:JR g.str g.nx bi a b true)(lr:wR g.str g.ds g.nx g.lv bi cC)(hF:jc g.str bi g.vr F VF)(hx:Hd bi a x)(hFx:F x)(ha:a∈g.ds)(hb:b∈g.ds){ta tb}(ea:g.V a=sub s.k ta)(eb:g.V b=sub s.k tb)(za:size (g.V a)<=48)(zb:size (g.V b)<=48)f t:
 ∃V' s',JS w' {g with nx:=bi,lv:=cC,V:=V'} s'/\(∀L,iV L g s {g with nx:=bi,lv:=cC,V:=V'} s')/\qh ta tb f t s (.ok ((),s'))/\s'.u=s.u:=by
 have hc':=(jr.yes rfl).2.1 [] h.nk;have g':=hg.jg hc' h.inj;have⟨V',θ,jw⟩:=abm h.jg h.can g' jr lr hF hx hFx ha hb;have tin:∀{n:Nat}{T:Ty},n∈g.ds->g.V n=sub s.k T->In.cB (λ_=>True) s (sub s.k T):=λhn e=>⟨λv o=>by rw[<-e]at o;have⟨y,r⟩:=h.nZ hn o;exact(h.root r).1,λ_ _=>trivial⟩;have he:∀{ta tb:Ty},g.V a=sub s.k ta->g.V b=sub s.k tb->qh ta tb f t s (.ok ((),⟨λv=>sub θ<|s.k v,s.u⟩)):=λea eb=>jq ⟨by rw[<-ea];exact za,by rw[<-eb];exact zb,jp ⟨θ,by rw[<-ea,<-eb];exact jw.mgu,rfl⟩⟩;have G':=(In.fk (Λ:=λ_=>True) h.ok (λ_ _=>trivial) (tin ha ea) (tin hb eb) f t _ _<|he (by rw[h.ok.rf,ea])<|by rw[h.ok.rf,eb]).1.ok;have js:JS w' {g with nx:=bi,lv:=cC,V:=V'} ⟨λv=>sub θ<|s.k v,s.u⟩:=
  ⟨hg,hc',h.inj,jw.can,lr.lc h.lc,λn hn hs=>by show V' n=sub θ (s.k<|g.vr n);rw[jw.val n hn,h.val n hn hs],h.use,G'⟩
 have hr:∀v y,g.R v y->sub θ (s.k v)=θ v:=λv y r=>by rw[(h.root r).2];rfl
 refine⟨V',⟨λv=>sub θ<|s.k v,s.u⟩,js,λL=>⟨λn hn=>⟨hn,rfl,rfl⟩,λn hn=>?_,λi _ w=>?_⟩,he ea eb,rfl⟩
 .show V' n=sub (λv=>sub θ<|s.k v) (g.V n);rw[jw.val n hn];refine sub_congr _ λv o=>?_;have⟨y,r⟩:=h.nZ hn o;exact(hr v y r).symm
 .show Lo g.ds g.str bi g.vr cC i w↔_;rw[abn h.jg h.can g' lr h.lc jw i w];constructor
  .rintro⟨v,⟨y,r,ly⟩,o⟩;exact⟨v,⟨y,r,ly⟩,by show aA w (sub θ<|s.k v);rw[hr v y r];exact o⟩
  .rintro⟨v,⟨y,r,ly⟩,o⟩;have o:aA w (sub θ<|s.k v):=o;rw[hr v y r]at o;exact⟨v,⟨y,r,ly⟩,o⟩
def JS.apart(h:JS w g s)(hn:∀W,mP g.str g.nx W->W a≠W b)σ:sub σ (g.V a)≠sub σ (g.V b):=by
 have sV:=h.can.nR h.jg;exact hn (λn=>sub σ<|g.V n) ⟨λn c l hs=>by rw[sV.made n c l hs];simp only[sub];rw[jY],λn m e=>by rw[sV.bC n m e]⟩
def aed{nx}{lv}(G:GL w ds str nx vr ly lv)(hn:n∈ds):Cq 396 #[nA n] w (λe w'=>∃ok bi,e=.returned (.bool ok)/\GL w' ds str bi vr ly lv/\iU str nx bi/\Fr (λb=>b∈ds) w w'/\(ok=true->∃F V x,Hd nx n x/\F x/\jc str bi vr F V)/\(ok=false->∀W,¬mP str nx W)):=by
 have HS:=wS G hn;go_enter func396,ntmps396;go_wp2_with fail;refine HS.mono ?_;rintro e w1⟨eP,G1,E1,F1,⟨F,V,x,rfl,h1,h2,h3,_⟩|⟨rfl,nM⟩⟩
 .have HX:=show∃ok bi,Rv (.bool true)=Rv (.bool ok)/\GL w1 ds str bi vr ly lv/\iU str nx bi/\Fr (λb=>b∈ds) w w1/\(ok=true->∃F V x,Hd nx n x/\F x/\jc str bi vr F V)/\(ok=false->∀W,¬mP str nx W)from⟨true,eP,rfl,G1,E1,F1,λ_=>⟨F,V,x,h1,h2,h3⟩,λq=>mO⟩;obtain⟨M,hM⟩:∃M:Int,M=((min (size<|V x) 49:Nat):Int):=⟨_,rfl⟩;rw[<-hM]
  go_wp2
  go_ret;exact HX
 .have HX:=show∃ok bi,Rv (.bool false)=Rv (.bool ok)/\GL w1 ds str bi vr ly lv/\iU str nx bi/\Fr (λb=>b∈ds) w w1/\(ok=true->∃F V x,Hd nx n x/\F x/\jc str bi vr F V)/\(ok=false->∀W,¬mP str nx W)from⟨false,eP,rfl,G1,E1,F1,(λq=>mO),λ_=>nM⟩
  go_wp2
  go_ret;exact HX
def tW g(s:qg)a b x y f t w e w':=Fr (λb=>b∈g.ds) w w'/\
 ((e=.returned (.tuple #[])/\∃bi cC V' s',JS w' {g with nx:=bi,lv:=cC,V:=V'} s'/\(∀L,iV L g s {g with nx:=bi,lv:=cC,V:=V'} s')/\qh x y f t s (.ok ((),s'))/\s'.u=s.u/\(∀m,m∈g.ds->∀h h',Hd g.nx m h->Hd bi m h'->cC h'<=g.lv h)/\tV g.str g.ds g.nx g.lv bi cC a b)\/
  (∃z vl vr,e=OC z.f vl vr/\qh x y f t s (.error z)/\sf w' (λb=>w.heap.size<=b) z vl vr))
def abp(h:JS w g s)(ha:a∈g.ds)(hb:b∈g.ds){x y}(ea:g.V a=sub s.k x)(eb:g.V b=sub s.k y)f t:
 Cq 384 #[nA a,nA b,.agg #[Nv f,Nv t]] w (tW g s a b x y f t w):=by
 have⟨k0,B0⟩:=ul w #[Nv f,Nv t] 131;have H1:=rY (h.af k0) ha f t;have hz:¬w.heap.size∈g.ds:=λq=>by have:=h.lt q;omega
 have LT:∀n,n∈g.ds->n<w.heap.size:=λn q=>h.lt q;have K0:=ai k0;have⟨c1,c2,c3⟩:=uh B0;go_enter func384,ntmps384;go_wp2_with fail;refine H1.mono ?_;rintro e w1⟨⟨eP,E1',J1⟩,F1,hs1⟩;have aj9:=(Fr.of K0).trans F1;obtain⟨hza,rfl⟩|⟨hza,rfl⟩:=hs1.symm
 .have HX:=show tW g s a b x y f t w (OC ⟨7,f,t⟩ Zv Zv) w1 from⟨aj9,jq ⟨In.pN f t,Zv,Zv,rfl,jp ⟨jp (by rw[<-ea];exact hza),rfl⟩,⟨λ_=>⟨rfl,rfl⟩,(λq=>mO),jq rfl⟩⟩⟩
  go_wp2
  exact⟨rfl,HX⟩
 have B1:=ai<|B0.fr F1 hz;have⟨c1,c2,c3⟩:=uh B1;have H2:=rY J1 hb f t;go_wp2_with fail;refine H2.mono ?_;rintro e w2⟨⟨ri,E2,J2⟩,F2,Bl⟩;have ahK:=aj9.trans F2;obtain⟨hzb,rfl⟩|⟨hzb,rfl⟩:=Bl.symm
 .have HX:=show tW g s a b x y f t w (OC ⟨7,f,t⟩ Zv Zv) w2 from⟨ahK,jq ⟨In.pN f t,Zv,Zv,rfl,jp ⟨jq (by rw[<-eb];exact hzb),rfl⟩,⟨λ_=>⟨rfl,rfl⟩,(λq=>mO),jq rfl⟩⟩⟩
  go_wp2
  exact⟨rfl,HX⟩
 have B2:=B1.fr F2 hz;have H3:=yv J2 ha;have E2':=E1'.trans E2;have z2:=ahK.size;go_wp2_with fail;refine H3.mono ?_;rintro e w3⟨tl3,xl3,nx3,rfl,T3,E3,J3,F3⟩;have H4:=yv J3 hb;have B3:=B2.fr F3 hz;have af8:=ahK.trans F3;have E3':=E2'.trans E3;have z3:=F3.size;go_wp2_with fail;refine H4.mono ?_;rintro e w4⟨tl4,xl4,Bu,rfl,T4,E4,J4',F4⟩;have H5:=abj _ w4 Bu g.lv J4'.gl (br _) a b ha hb;have B4:=B3.fr F4 hz;have alG:=af8.trans F4;have ahL:=E3'.trans E4;have z4:=F4.size;have Bk:∀b:Nat,w.heap.size<=b->¬b∈g.ds:=λb hb q=>by have:=LT b q;omega
 have T3':=T3.fr F4 (λb p _=>Bk b (by have:w2.heap.size<=b:=p;omega));go_wp2_with fail;refine H5.mono ?_;rintro e w5⟨ok,nx5,lv5,rfl,G5',F5,z5,_,JR5,lr5⟩;have APX:∀(W:World)(vl:TypeId)(xl:Value)(vr:TypeId)(xr:Value),Fr (λb=>b∈g.ds) w W->dW W (λb=>w.heap.size<=b) (g.V a) (Fv vl xl)->dW W (λb=>w.heap.size<=b) (g.V b) (Fv vr xr)->(∀σ,sub σ (g.V a)≠sub σ (g.V b))->tW g s a b x y f t w (OC ⟨6,f,t⟩ (Fv vl xl)<|Fv vr xr) W:=λW vl xl vr xr hF h1 h2 h3=>
  ⟨hF,jq ⟨⟨⟨6,f,t⟩,g.V a,g.V b⟩,_,_,rfl,jq ⟨by rw[<-ea];exact hza,by rw[<-eb];exact hzb,jq ⟨by rw[<-ea,<-eb];exact h3,by rw[<-ea,<-eb]⟩⟩,⟨(λq=>mO),λ_=>⟨h1,h2⟩,jp rfl⟩⟩⟩
 have T35:=(T3'.fr F5<|λb p _=>Bk b (by have:w2.heap.size<=b:=p;omega)).wide (Q:=λb=>w.heap.size<=b) λb p=>by have:w2.heap.size<=b:=p;omega
 have T45:=(T4.fr F5<|λb p _=>Bk b (by have:w3.heap.size<=b:=p;omega)).wide (Q:=λb=>w.heap.size<=b) λb p=>by have:w3.heap.size<=b:=p;omega
 have ahM:=alG.trans F5;have B5:=B4.fr F5 hz
 cases ok with
 |false=>
  have hap:∀σ,sub σ (g.V a)≠sub σ (g.V b):=λσ=>J4'.apart (g:={g with nx:=Bu}) (JR5.no rfl) σ;obtain⟨c1,c2,c3⟩:=B5;have HA:=FT (w:=w5) (f:Int) (t:Int) tl3 tl4 xl3 xl4;go_wp2_with fail;refine HA.mono ?_;rintro e w6⟨rfl,k6⟩;have HX:=APX w6 tl3 xl3 tl4 xl4 (ahM.trans<|Fr.of k6) (T35.af k6) (T45.af k6) hap
  go_wp2
  exact⟨rfl,HX⟩
 |true=>
  have H6:=aed G5' ha;have LR5:=lr5 rfl;go_wp2_with fail;refine H6.mono ?_;rintro e w6⟨ok6,nx6,rfl,G6,E6,F6,hy,hn⟩
  cases ok6 with
  |false=>
   have hap:∀σ,sub σ (g.V a)≠sub σ (g.V b):=λσ eσ=>by
    have j4:=J4';have sV:=j4.can.nR j4.jg;exact hn rfl (λn=>sub σ<|g.V n) (((JR5.yes rfl).1 _).2 ⟨⟨λn c l hs=>by rw[sV.made n c l hs];simp only[sub];rw[jY],λn m e=>by rw[sV.bC n m e]⟩,eσ⟩)
   have⟨c1,c2,c3⟩:=B5.fr F6 hz;have HA:=FT (w:=w6) (f:Int) (t:Int) tl3 tl4 xl3 xl4;have T36:=T35.fr F6<|λb p _=>Bk b p;have T46:=T45.fr F6<|λb p _=>Bk b p;have alH:=ahM.trans F6;go_wp2_with fail;refine HA.mono ?_;rintro e w7⟨rfl,k7⟩;have HX:=APX w7 tl3 xl3 tl4 xl4 (alH.trans<|Fr.of k7) (T36.af k7) (T46.af k7) hap
   go_wp2
   exact⟨rfl,HX⟩
  |true=>
   have⟨FF,VF,z,q1,q2,q3⟩:=hy rfl;have j4:=J4';have hjr:=JR5.post E6;have g5:=G5';have hlr:=LR5.1.trans (wR.eqv g5 E6) g5.hd<|λU q=>(E6.nR U).1 q;have⟨V',s',js,st,he,hu⟩:=j4.join (x:=z) G6 hjr hlr q3 (E6.lj _ _ q1) q2 ha hb ea eb hza hzb f t;have HX:=show tW g s a b x y f t w (Rv<|.tuple #[]) w6 from⟨ahM.trans F6,jp ⟨rfl,nx6,lv5,V',s',js,λL=>iV.trans h j4 js (iV.eqv h ahL j4.gl L)<|st L,he,hu,λm hm p p' k k'=>hlr.mono m hm p p' (ahL.lj _ _ k) k',(LR5.2.post g5 E6).pre h.gl ahL⟩⟩
   go_wp2
   go_end0;exact HX
end
section
variable {g:gC}
def GL.add{nx}{lv}(h:GL w ds str nx vr ly lv)(hw:Bq w w')(hn:w.heap.size<=n)s v a l(hh:w'.heap[n]? =some (.cells #[.pointer none,Nv l,Nv v,.string<|byS s,.slice a.1 (slN s) a.2] 187 (0,0)))(hp:iy w' (n::ds) a.1 s):
 GL w' (n::ds) (ja str n s) nx (ja vr n v) (ja ly n a) (ja lv n l):=by
 have hb:∀b i v,w.cell? ⟨b,i,none⟩=some v->w'.heap[b]? =w.heap[b]? :=λb i v hc=>hw.block b<|jP hc;have nd:¬n∈ds:=λq=>by have:=(h.nd n q).lt;omega
 have nn:=(h.out n nd).1;refine⟨λx hx=>?_,λx hx=>?_,λx hx=>?_⟩
 .by_cases e:x=n
  .subst e;refine⟨by simpa[ja,nP,nn]using hh,by simpa[ja]using hp,λm hm=>by rw[nn]at hm;cases hm⟩
  .have EK:=(List.mem_cons.1 hx).resolve_left e;have hc:=(h.nd x EK).cells.1;have⟨h1,h2,h3⟩:=h.nd x EK;refine⟨?_,?_,λm hm=>jj _<|h3 m hm⟩
   .rw[hb x 0 _ hc,h1];simp[ja,e]
   .simp only[ja,e,if_false];exact(h2.more hn).move hw.size hb
 .have EK:x≠n/\¬x∈ds:=⟨λe=>hx Us,λe=>hx Us⟩;exact⟨(h.out x EK.2).1,by simpa[ja,EK.1]using(h.out x EK.2).2⟩
 .by_cases e:x=n
  .subst e;exact⟨x,.here nn⟩
  .exact h.hd x ((List.mem_cons.1 hx).resolve_left e)
abbrev gC.add(g:gC)(n:Nat)(q:Option (BA×List Nat))(v:Nat)(a:Option Addr×Nat)(l:Nat)(T:Ty):gC:=⟨n::g.ds,ja g.str n q,g.nx,ja g.vr n v,ja g.ly n a,ja g.lv n l,ja g.V n T⟩
def JS.Sr(h:JS w g s)(nd:¬n∈g.ds)q:vW (ja g.str n q) g.nx []:=λE hE x m c l e hs=>by
 have hx:=jx λz=>by rw[(h.gl.out x z).1]at e;cases e
 have hm:=(h.gl.nd x hx).2.2 m e;have e1:x≠n:=λz=>nd<|z▸hx;have e2:m≠n:=λz=>nd<|z▸hm;simp only[ja,e1,if_false]at hs;have⟨l',h1,h2⟩:=h.nk E hE x m c l e hs;exact⟨l',by simp only[ja,e2,if_false];exact h1,h2⟩
def JS.Ss(h:JS w g s)(nd:¬n∈g.ds){T:Ty}(hT:T=match q with|none=>.var v|some (c,l)=>.aK c<|l.map g.V)(hq:∀c l,q=some (c,l)->∀p,p∈l->p∈g.ds):Can (ja g.str n q) g.nx (ja g.vr n v) (ja g.V n T):=λx y k=>by
 have nn:=(h.gl.out n nd).1;have lm:∀l:List Nat,(∀p,p∈l->p∈g.ds)->l.map (ja g.V n T)=l.map g.V:=λl hl=>eC λp hp=>by
  have:p≠n:=λe=>nd<|e▸hl p hp;simp[ja,this]
 by_cases hx:x∈g.ds
 .have hy:=h.gl.bN hx k;have e1:x≠n:=λz=>nd<|z▸hx;have e2:y≠n:=λz=>nd<|z▸hy;simp only[ja,e1,e2,if_false];have:=h.can x y k;rw[this]
  cases hs:g.str y with
  |none=>rfl|some p=>
   obtain⟨c,l⟩:=p;show qe c (l.map g.V)=qe c (l.map<|ja g.V n T);rw[lm l (h.gl.part hy hs).2]
 .have e0:=(h.gl.out x hx).1;have ey:=k.one<|.here e0;subst ey;by_cases e:y=n
  .subst e;simp only[ja,if_true];rw[hT]
   cases q with
   |none=>rfl|some p=>
    obtain⟨c,l⟩:=p;show qe c (l.map g.V)=qe c (l.map<|ja g.V y _);rw[<-hT,lm l<|hq c l rfl]
  .simp only[ja,e,if_false];have:=h.can y y k;rw[(h.gl.out y hx).2]at this⊢;exact this
def JS.abq(h:JS w g s)(nd:¬n∈g.ds){L:Nat}(hq:∀c l,q=some (c,l)->∀p,p∈l->p∈g.ds/\∀x,Hd g.nx p x->g.lv x<=L):LC (ja g.str n q) (n::g.ds) g.nx (ja g.lv n L):=λa ha hn c l hs p hp x k=>by
 by_cases e:a=n
 .subst e;simp only[ja,if_true]at hs;have⟨h1,h2⟩:=hq c l hs p hp;have e2:x≠a:=λz=>nd<|z▸h.gl.bN h1 k;simp only[ja,e2,if_false,if_true];exact h2 x k
 .have ha':=(List.mem_cons.1 ha).resolve_left e;simp only[ja,e,if_false]at hs;have e2:x≠n:=λz=>nd<|z▸h.gl.bN ((h.gl.part ha' hs).2 p hp) k;simp only[ja,e,e2,if_false];exact h.lc a ha' hn c l hs p hp x k
def iV.add(h:JS w g s)(nd:¬n∈g.ds){a:Option Addr×Nat}{l L:Nat}{T:Ty}(hk:s1.k=s.k)(hl:q=none->L<=l):iV L g s (g.add n q v a l T) s1:=by
 have r:=iV.refl h L;have ne:∀m,m∈g.ds->m≠n:=λm hm e=>nd<|e▸hm;refine⟨λm hm=>⟨jj _ hm,by simp[ja,ne m hm],by simp[ja,ne m hm]⟩,λm hm=>?_,λi hi x=>?_⟩
 .rw[hk,<-r.val m hm];simp[ja,ne m hm]
 .rw[hk,<-r.VR i hi x];constructor
  .rintro⟨y,⟨q1,q2,q3,q4⟩,q5⟩;by_cases e:y=n
   .subst e;simp only[ja,if_true]at q3 q5;have:=hl q3;omega
   .have RA:=(List.mem_cons.1 q1).resolve_left e;simp only[ja,e,if_false]at q3 q4 q5;exact⟨y,⟨RA,q2,q3,q4⟩,q5⟩
  .rintro⟨y,⟨q1,q2,q3,q4⟩,q5⟩;have e:=ne y q1;exact⟨y,⟨jj _ q1,q2,by simpa[ja,e]using q3,by simpa[ja,e]using q4⟩,by simpa[ja,e]using q5⟩
def Su{p:Prop}(h:p:=by
 simp only[ja,e1,e2,if_false]at e sa sb
 exact h.inj a b ((List.mem_cons.1 ha).resolve_left e1) ((List.mem_cons.1 hb).resolve_left e2) sa sb e):p:=h
def Sw{p:Prop}(h:p:=by
 simpa[ja,e]using h.val m ((List.mem_cons.1 hm).resolve_left e) (by simpa[ja,e]using hs)):p:=h
def JS.var(h:JS w g s)(hw:Bq w w'){l:Nat}(hn:w.heap.size<=n)(hv:¬s.u v)(hh:w'.heap[n]? =some (.cells #[.pointer none,Nv l,Nv v,.string ⟨#[]⟩,.slice none 0 0] 187 (0,0))):
 JS w' (g.add n none v (none,0) l<|.var v) ⟨s.k,λm=>s.u m\/m=v⟩:=by
 have nd:¬n∈g.ds:=λq=>by have:=h.lt q;omega
 have ne:∀m,m∈g.ds->m≠n:=λm hm e=>nd<|e▸hm;refine⟨h.gl.add hw hn none v (none,0) l hh trivial,h.Sr nd none,λa b ha hb sa sb e=>?_,h.Ss nd rfl (λc l q=>mO),h.abq nd<|λc l q=>mO,λm hm hs=>?_,λm hm hs=>?_,(In.ij (Λ:=λ_=>True) h.ok (λ_ _=>trivial) _ _ ⟨v,hv,rfl⟩).1.ok⟩
 .by_cases e1:a=n<;>by_cases e2:b=n
  .rw[e1,e2]
  .exfalso;have QC:=(List.mem_cons.1 hb).resolve_left e2;simp only[ja,e1,e2,if_false,if_true]at e sb;exact hv (by rw[e];exact h.use b QC sb)
  .exfalso;have ha':=(List.mem_cons.1 ha).resolve_left e1;simp only[ja,e1,e2,if_false,if_true]at e sa;exact hv (by rw[<-e];exact h.use a ha' sa)
  .exact Su
 .by_cases e:m=n
  .subst e;simp[ja,h.ok.out v hv]
  .exact Sw
 .by_cases e:m=n
  .subst e;simp[ja]
  .have hm':=(List.mem_cons.1 hm).resolve_left e;simp only[ja,e,if_false]at hs⊢;exact jp<|h.use m hm' hs
def JS.abr(h:JS w g s)(hw:Bq w w'){l:Nat}{a:Option Addr×Nat}(hn:w.heap.size<=n)(hc:CN c)(hl:ps.length<=1001)(hp:∀p,p∈ps->p∈g.ds/\∀x,Hd g.nx p x->g.lv x<=l)(WL:ps=[]\/∃gg,a.1=some ⟨gg,0,none⟩/\¬gg∈n::g.ds/\gg<w'.heap.size/\∀i(h:i<ps.length),w'.cell? ⟨gg,i,none⟩=some (nA ps[i]))(hh:w'.heap[n]? =some (.cells #[.pointer none,Nv l,Iv 0,.string<|pn c,.slice a.1 ps.length a.2] 187 (0,0))):
 JS w' (g.add n (some (c,ps)) 0 a l<|.aK c<|ps.map g.V) s:=by
 have nd:¬n∈g.ds:=λq=>by have:=h.lt q;omega
 have ne:∀m,m∈g.ds->m≠n:=λm hm e=>nd<|e▸hm;refine⟨h.gl.add hw hn (some (c,ps)) 0 a l hh ⟨hc,hl,λm hm=>jj _ (hp m hm).1,WL⟩,h.Sr nd _,λa b ha hb sa sb e=>?_,h.Ss nd rfl (λc' l' q=>by injection q with q;injection q with _ q;subst q;exact λp hq=>(hp p hq).1),h.abq nd (λc' l' q=>by injection q with q;injection q with _ q;subst q;exact hp),λm hm hs=>?_,λm hm hs=>?_,h.ok⟩
 .have e1:a≠n:=λz=>by subst z;simp[ja]at sa
  have e2:b≠n:=λz=>by subst z;simp[ja]at sb
  exact Su
 .have e:m≠n:=λz=>by subst z;simp[ja]at hs
  exact Sw
 .have e:m≠n:=λz=>by subst z;simp[ja]at hs
  simp only[ja,e,if_false]at hs⊢;exact h.use m ((List.mem_cons.1 hm).resolve_left e) hs
def JS.made(h:JS w g s)(hw:Bq w w'){l:Nat}{a:Option Addr×Nat}(hn:w.heap.size<=n)(hc:CN c)(hl:ps.length<=1001)(hp:∀p,p∈ps->p∈g.ds/\∀x,Hd g.nx p x->g.lv x<=l)(hr:ps=[]\/∃gg,a.1=some ⟨gg,0,none⟩/\w.heap.size<=gg/\gg≠n/\gg<w'.heap.size/\∀i(h:i<ps.length),w'.cell? ⟨gg,i,none⟩=some (nA ps[i]))(hh:w'.heap[n]? =some (.cells #[.pointer none,Nv l,Iv 0,.string<|pn c,.slice a.1 ps.length a.2] 187 (0,0))):
 JS w' (g.add n (some (c,ps)) 0 a l<|.aK c<|ps.map g.V) s:=by
 refine h.abr hw hn hc hl hp (hr.imp id λ⟨gg,q1,q2,q3,q4,q5⟩=>⟨gg,q1,λz=>?_,q4,q5⟩) hh;obtain z|z:=List.mem_cons.1 z
 .exact q3 z
 .have:=h.lt z;omega
end
def gC.K(g:gC)(P:Nat->Prop)n:=n∈g.ds/\∀x,Hd g.nx n x->P x
open Classical in
noncomputable def gC.cut (g:gC) (P:Nat->Prop):gC:=⟨g.ds.filter λn=>decide (g.K P n),λn=>if g.K P n then g.str n else none,λn=>if g.K P n then g.nx n else none,g.vr,g.ly,g.lv,λn=>if g.K P n then g.V n else .var (g.vr n)⟩
section
variable {g:gC} {P:Nat->Prop}
def c_:n∈(g.cut P).ds↔g.K P n:=by
 simp only[gC.cut,List.mem_filter,decide_eq_true_eq];exact⟨λq=>q.2,λq=>⟨q.1,q⟩⟩
def bI(h:g.K P n):(g.cut P).str n=g.str n/\(g.cut P).nx n=g.nx n/\(g.cut P).V n=g.V n:=by simp[gC.cut,h]
def vD(h:¬g.K P n):(g.cut P).str n=none/\(g.cut P).nx n=none/\(g.cut P).V n=.var (g.vr n):=by simp[gC.cut,h]
def aee(hg:GL w g.ds g.str g.nx g.vr g.ly g.lv)(hn:n∈g.ds)(e:g.nx n=some m):g.K P n↔g.K P m:=
 ⟨λq=>⟨(hg.nd n hn).2.2 m e,λx k=>q.2 x<|.step e k⟩,λq=>⟨hn,λx k=>q.2 x<|k.sT e⟩⟩
def aef(hg:GL w g.ds g.str g.nx g.vr g.ly g.lv)(k:Hd g.nx n x)(hn:g.K P n):Hd (g.cut P).nx n x/\g.K P x:=by
 induction k with
 |here e=>exact⟨.here<|by rw[(bI hn).2.1,e],hn⟩|step e k ih=>
  have⟨h1,h2⟩:=ih<|(aee hg hn.1 e).1 hn;exact⟨.step (by rw[(bI hn).2.1,e]) h1,h2⟩
def ahN(hg:GL w g.ds g.str g.nx g.vr g.ly g.lv)(hn:g.K P n)(k:Hd (g.cut P).nx n x):Hd g.nx n x:=by
 have⟨y,hy⟩:=hg.hd n hn.1;rw[k.one (aef hg hy hn).1];exact hy
def Gz(hg:GL w g.ds g.str g.nx g.vr g.ly g.lv)(j:JG g.ds g.str g.nx g.vr)(hP:ScD g.str g.ds g.nx P)(hn:g.K P n)(hs:g.str n=some (c,l))(hp:p∈l):g.K P p:=by
 have⟨x,hx⟩:=hg.hd n hn.1;have⟨l',h1,h2⟩:=Ot j hx hs;refine⟨j.W_ n c l hn.1 hs p hp,λy hy=>?_⟩;have:∀{l l':List Nat},dE (zI g.nx) l l'->p∈l->∃q,q∈l'/\zI g.nx p q:=by
  intro l l' a
  induction a with
  |nil=>simp|cons e _ ih=>
   intro hp;obtain rfl|hp:=List.mem_cons.1 hp
   .grind
   .grind
 have⟨q,hq,e⟩:=this h2 hp;have hy':Hd g.nx q y:=by
  obtain rfl|⟨z,z1,z2⟩:=e
  .exact hy
  .rw[hy.one z1];exact z2
 exact hP x (j.lj n x hn.1 hx) hx.head (hn.2 x hx) c l' h1 q hq y hy'
def JS.cut(hg:GL w g.ds g.str g.nx g.vr g.ly g.lv)(nk:vW g.str g.nx [])(inj:∀a b,a∈g.ds->b∈g.ds->g.str a=none->g.str b=none->g.vr a=g.vr b->a=b)(can:Can g.str g.nx g.vr g.V)(val:∀n,n∈g.ds->g.str n=none->g.V n=s.k (g.vr n))(use:∀n,n∈g.ds->g.str n=none->s.u (g.vr n))(ok:In.Ok s)(hP:ScD g.str g.ds g.nx P)(lc:∀a,a∈g.ds->g.nx a=none->P a->∀c l,g.str a=some (c,l)->∀p,p∈l->∀h,Hd g.nx p h->g.lv h<=g.lv a):JS w (g.cut P) s:=by
 have j:=hg.jg nk inj;refine⟨⟨λn hn=>?_,λn hn=>?_,λn hn=>?_⟩,λE hE n m c l e hs=>?_,λa b ha hb sa sb e=>?_,λn x k=>?_,λa ha hn c l hs p hp x hx=>?_,λn hn hs=>?_,λn hn hs=>?_,ok⟩
 .have hn:=c_.1 hn;have⟨q1,q2,q3⟩:=hg.nd n hn.1;refine⟨by rw[(bI hn).1,(bI hn).2.1];exact q1,?_,λm e=>c_.2<|(aee hg hn.1 (by rw[<-(bI hn).2.1];exact e)).1 hn⟩;rw[(bI hn).1]
  cases e:g.str n with
  |none=>trivial|some q=>
   obtain⟨c,l⟩:=q;rw[e]at q2;obtain⟨r1,r2,r3,r4⟩:=q2;exact⟨r1,r2,λm hm=>c_.2<|Gz hg j hP hn e hm,r4.imp id λ⟨gg,z1,z2,z3,z4⟩=>⟨gg,z1,λz=>z2 (c_.1 z).1,z3,z4⟩⟩
 .have hn:¬g.K P n:=λq=>hn<|c_.2 q;exact⟨(vD hn).2.1,(vD hn).1⟩
 .have hn:=c_.1 hn;have⟨x,hx⟩:=hg.hd n hn.1;exact⟨x,(aef hg hx hn).1⟩
 .have hn:=jx λq=>by rw[(vD q).2.1]at e;cases e
  rw[(bI hn).2.1]at e;rw[(bI hn).1]at hs;have hm:=(aee hg hn.1 e).1 hn;have hE':Un.Eq g.nx [] (λa b=>(g.K P a↔g.K P b)/\(g.K P a->E a b)):=by
   refine⟨λa=>⟨Iff.rfl,λ_=>hE.refl a⟩,λa b q=>⟨q.1.symm,λz=>hE.symm _ _<|q.2<|q.1.2 z⟩,λa b d q r=>⟨q.1.trans r.1,λz=>hE.trans _ _ _ (q.2 z)<|r.2<|q.1.1 z⟩,λa b q=>?_,λa b q=>by simp at q⟩;have ha:=jx λz=>by rw[(hg.out a z).1]at q;cases q
   exact⟨aee hg ha q,λz=>hE.bC a b (by rw[(bI z).2.1];exact q)⟩
  have⟨l',h1,h2⟩:=nk _ hE' n m c l e hs;refine⟨l',by rw[(bI hm).1];exact h1,?_⟩;have:∀{l l':List Nat},dE (λa b=>(g.K P a↔g.K P b)/\(g.K P a->E a b)) l l'->(∀p,p∈l->g.K P p)->dE E l l':=by
   intro l l' a
   induction a with
   |nil=>exact λ_=>.nil|cons e _ ih=>exact λh=>.cons (e.2<|h _ ag) (ih λp hp=>h p<|by simp[hp])
  exact this h2 λp hp=>Gz hg j hP hn hs hp
 .have ha:=c_.1 ha;have hb:=c_.1 hb;rw[(bI ha).1]at sa;rw[(bI hb).1]at sb;exact inj a b ha.1 hb.1 sa sb e
 .by_cases hn:g.K P n
  .have k':=ahN hg hn k;have hx:=(aef hg k' hn).2;rw[(bI hn).2.2,(bI hx).1,can n x k']
   cases e:g.str x with
   |none=>rfl|some q=>
    obtain⟨c,l⟩:=q;show qe c (l.map g.V)=.aK c (l.map (g.cut P).V);rw[eC λp hp=>(bI<|Gz hg j hP hx e hp).2.2]
  .rw[k.one<|.here (vD hn).2.1,(vD hn).2.2,(vD hn).1];rfl
 .have ha:=c_.1 ha;rw[(bI ha).1]at hs;rw[(bI ha).2.1]at hn;exact lc a ha.1 hn (ha.2 a<|.here hn) c l hs p hp x<|ahN hg (Gz hg j hP ha hs hp) hx
 .have hn:=c_.1 hn;rw[(bI hn).1]at hs;rw[(bI hn).2.2];exact val n hn.1 hs
 .have hn:=c_.1 hn;rw[(bI hn).1]at hs;exact use n hn.1 hs
end
end
end Go.Proofs.YtfnkchdeheeiiaaGreatDoor

import Derived.Test.YtopmodaakdnliaaGreatDoorCKj0
import Derived.Test.YtopmodaakdnliaaGreatDoorCBn
import Derived.Test.YtopmodaakdnliaaGreatDoorCYb
set_option linter.all false
set_option maxRecDepth 100000
set_option maxHeartbeats 16000000
namespace Go.Proofs.YtopmodaakdnliaaGreatDoor
open Un renaming dZ->ja,Fin->jc
open _root_.List renaming getElem_mem->jd,mem_cons_of_mem->jf,take_succ_eq_append_getElem->jh,map_cons->ji,map_congr_left->jj,take_length->jk,countP_cons->jl
open Or renaming inl->jm,inr->jo
open _root_.Nat renaming le_trans->jq,zero_le->jt,not_lt_zero->ju
open Classical renaming byContradiction->jv
open Go.RowKit.Below renaming refl->jx,heap_setCell->jy
open Go.World renaming setCell->jz,cell?_of_block->j3,frozen?->j5
open Bool renaming not_eq_true->j6
open Un.Ty renaming aM->j7
open In renaming bI->j8,St->j9,UN->qd
open Go Go.RowKit Go.ChangeMaps Proofs.Tryz
variable {c:BA} {s s1:j9} {ds l ps:List Nat} {a b h k kb m mb n p sb v x y:Nat} {cy ry lz vr:Nat->Nat} {ly:Nat->Option Addr×Nat} {D F:Nat->Prop} {U V VF θ:Nat->Un.Ty} {G:Ns} {q:Option (BA×List Nat)} {a_ eI pR:Un.Nx} {str:Un.tO} {T:Un.Ty} {w w':World}
section
open Go.MapKept
def agI:∀nd,PXC nd:=by
 refine Nd.ind ?_;intro k s n L fr t a Ml w cb tb mb lb B ty mk lo v mks nl dom h Yh hx hs HL HM rA;have X0:CE cb tb mb lb ty mk lo w w:=⟨h,Fr.refl _ _⟩;have⟨z1,z2,z3,z4⟩:=h.lts;have Hh:∀b,b<B->¬b=lb:=λb hb q=>ae;clear h;simp only[nn]at rA
 cases hs with
 |low _ _ _ _ _ _ gJ=>
  cases hx with|low _ _ _ _ _ iO=>
  have iK:=(jx w.heap.size w).alloc (br _)<|Cv #[Nv fr,Nv t,Sv s] 305;have X1:=X0.af iK;have⟨c1,f1,y1⟩:=Bx.new w #[Nv fr,Nv t,Sv s] 305;obtain⟨N,hN⟩:∃N,Hid<|N=lo s:=⟨_,ai rfl⟩;have vC:∀q,(Instr.lookup 143 (Mv lb) (Sv s) false).run Tryz.prog ((w.alloc<|Cv #[Nv fr,Nv t,Sv s] 305).drewN q)=.ok (Nv N) ((w.alloc<|Cv #[Nv fr,Nv t,Sv s] 305).drewN q):=λq=>by
   have:=(X1.af<|(jx _ _).drewN q).d.l.look s;rw[<-uh hN]at this;exact this
  have HE:((N:Int)==0)=false:=by
   have:lo s≠0:=HL _ gJ;have h2:=uh hN;simp;omega
  have⟨c2,f2,y2⟩:=X1.d.bx;clear iK;go_enter func126,ntmps126
  go_wp2
  go_quiet(fail)
  go_wp2
  go_end0;exact⟨rfl,(X1.af<|(jx _ _).drewN _).k,(X1.af<|(jx _ _).drewN _).d⟩
 |fn _ _ _ x _ _ _ _ sx=>
  cases hx with|fn _ _ _ _ _ _ y vx iO hy hx=>
  have sx:tQ mks nl (λv=>dom v\/v∈[s]) x:=by simpa using sx
  obtain⟨t1,x1,rfl⟩:=hx.iface;have iK:=(Below.refl w.heap.size w).alloc (br _)<|Cv #[Nv fr,Nv t,Nv a,Nv y,Sv s,Fv t1<|Av x1] 191;have X1:=X0.af iK;have BB:=ai<|Bx.new w #[Nv fr,Nv t,Nv a,Nv y,Sv s,Fv t1<|Av x1] 191;simp only[cV]at rA;have HX:=hx.af iK;have HE:=Ml x ah;have⟨c1,f1,y1⟩:=uh BB;clear iK hx hy;go_enter func126,ntmps126
  go_wp2
  go_region_with(first
   |(go_at_call 125;refine(ajx _ _ _).mono ?_;rintro e w1⟨gb,rfl,hgb,b1,g1⟩;have hb:=(jx _ _).drew.trans<|b1.mono<|br _;have Y1:=ai<|X1.af hb;have Q1:=ai<|HX.af hb;have G1:=ai g1;have C1:=ai<|BB.below hb;have anQ:w.heap.size+1<=gb:=(by have:=hgb;simp at this;omega);have⟨c3,f3,y3⟩:=uh C1;clear hb b1 g1 hgb)
   |(go_at_call 124;refine(Ig HE Y1.d Yh Q1 G1 ⟨ae,ae,ae,ae⟩ sx HL HM<|λx=>qAv).mono ?_;rintro e w2'⟨rfl,k2,d2⟩;have X2:=ai<|Y1.fr k2 d2;clear k2 d2))
  all_goals(
   go_wp2
   go_end0
   exact⟨rfl,X2.k,X2.d⟩)
 |mt _ _ _ x A _ _ _ sx sp se=>
  obtain⟨vx,g,sc,vp,ve,rfl,hg,hz,hc,hX,hp,he⟩:=Yl hx;obtain⟨t1,x1,rfl⟩:=hX.iface;have iK:=(jx w.heap.size w).alloc (br _)<|Cv #[Nv fr,Nv t,Fv t1<|Av x1,Lv (some ⟨g,0,none⟩) A.length sc] 82;have X1:=X0.af iK;have B1:=ai<|Bx.new w #[Nv fr,Nv t,Fv t1<|Av x1,Lv (some ⟨g,0,none⟩) A.length sc] 82;simp only[cV]at rA;have hgB:=hg;have hAL:A.length<=5000:=by have:=rA lA;have:=Ij A;omega
  have HC:=ai<|Ml x ah _ cb tb mb lb B ty mk lo _ mks nl dom X1.d Yh (hX.af iK) sx HL HM<|λx=>qAv;have⟨c1,f1,y1⟩:=uh B1;have HIA:∀q∈A,PXC q.2:=λq hq=>by
   obtain⟨i,hi,rfl⟩:=List.getElem_of_mem hq;exact Ml _<|jf _ (Qn A i hi).2
  clear iK hx hX;go_enter func126,ntmps126;go_wp2_with fail;refine HC.mono ?_;rintro e w2⟨rfl,k2,d2⟩;have X2:=X1.fr k2 d2;have B2:=ai<|B1.fr k2 ae;have jE:∀o,w2.cell? ⟨g,o,none⟩=w.cell? ⟨g,o,none⟩:=λo=>World.cell?_of_block (a:=⟨g,o,none⟩)<|X2.k.block g hz<|Hh g hgB;have XI:=agH (sc:=sc) (vp:=vp) (ve:=ve) HIA X2.d Yh hgB (Nat.lt_of_lt_of_le hz X2.k.size) (λi hi=>by rw[jE,jE,jE,jE];exact hc i hi) (λi hi=>(hp i hi).frB X2.k Hh) (λi hi=>(he i hi).frB X2.k Hh) sp se HL HM (λq=>by have:=rA q;have:=Ec x;omega) hAL;clear k2 d2 HC c1 f1 y1 jE;have⟨c1,f1,y1⟩:=uh B2;go_wp2_with fail;refine XI.mono ?_;rintro e w3⟨rfl,k3,d3⟩;have X3:=X2.fr k3 d3;clear k3 d3 XI
  go_wp2
  go_end0;exact⟨rfl,X3.k,X3.d⟩
 |num=>
  cases hx
  go_enter func126,ntmps126
  go_wp2
  go_end0;exact⟨rfl,X0.k,X0.d⟩
end
section
open Un
def Cx:(Tryz.prog.info? 476).map (λi=>(i.zero,i.size,i.bytes))=some (some<|.pointer none,1,8):=qkr
def vF:Tryz.prog.underlying 484=some (.slice 476):=qkr
def Cy:∀(L:List Ty),L.length<=ak L
 |[]=>jt _|t::l=>by have:=Cy l;have:=size_pos t;simp[ak];omega
def yL{α β:Type}{E E':α->β->Prop}(h:∀a b,E a b->E' a b):∀{l:List α}{k:List β},gD E l k->gD E' l k
 |_,_,.nil=>.nil|_,_,.cons p q=>.cons (h _ _ p)<|yL h q
def Ek{α β:Type}{E:α->β->Prop}:∀{l:List α}{k:List β},gD E l k->∀i(h:i<l.length)(h':i<k.length),E l[i] k[i]
 |_,_,.nil,i,h,_=>absurd h (ju _)|_,_,.cons p _,0,_,_=>p|_,_,.cons _ q,i+1,h,h'=>Ek q i xB (by simpa using h')
def yM{α β:Type}{E:α->β->Prop}:∀{l:List α}{k:List β},gD E l k->l.length=k.length
 |_,_,.nil=>rfl|_,_,.cons _ q=>by simp[yM q]
def Fin.eqv{nx}(h:jc str nx vr F V)(e:iF str nx a_):jc str a_ vr F V:=by
 intro x hx;have⟨h1,h2⟩:=h x hx;refine⟨(e.Bt x).2 h1,?_⟩
 cases hs:str x with
 |none=>grind|some p=>
  obtain⟨c,l⟩:=p;rw[hs]at h2;obtain⟨iO,a,b,d⟩:=h2;exact⟨iO,yL (λx y q=>e.bO x y q) a,b,d⟩
def mu(M:List (Nat×Value)):List Nat->Nat
 |[]=>0|x::l=>(if(bd x M).isNone then 1 else 0)+mu M l
def El{M M':List (Nat×Value)}(h:∀x,bd x M'=none->bd x M=none):∀ds,mu M' ds<=mu M ds
 |[]=>br _|x::l=>by
  have:=El h l;unfold mu;by_cases e:bd x M'=none
  .simp[e,h x e];exact this
  .have:(bd x M').isNone=false:=by cases q:bd x M' with
    |none=>exact absurd q e|some v=>rfl
   simp[this];omega
def YD{M:List (Nat×Value)}{h:Nat}(hn:bd h M=none)(v:Value):∀{ds:List Nat},h∈ds->mu (bn h v M) ds<mu M ds
 |[],q=>by simp at q|x::l,q=>by
  have hm:=El (M:=M) (M':=bn h v M) (λy hy=>by
   rw[aN]at hy;split at hy
   .cases hy
   .exact hy)
  by_cases e:h=x
  .subst e;have:=hm l;unfold mu;rw[aN];simp[hn];omega
  .have hl:=(List.mem_cons.1 q).resolve_left e;have:=YD hn v hl;unfold mu;rw[aN];simp[e];omega
def adE{M}{v:Value}:bd x M=some v->∃p∈M,p.1=x:=by
 induction M with
 |nil=>intro h;cases h|cons p l ih=>
  intro h;rw[bd]at h;split at h
  .rename_i e;exact⟨p,ah,e⟩
  .grind
def ID{M}{v:Value}{p}:p∈bn x v M->p∈M\/p.1=x:=by
 induction M with
 |nil=>intro h;simp[bn]at h;exact jo (by rw[h])|cons q l ih=>
  intro h;rw[bn]at h;split at h
  .grind
  .grind
structure SZ(ds:List Nat)str nx vr M F(B:List Nat)V:Prop where
 fin:jc str nx vr F V
 fg:∀x,F x->bd x M=some (.int .i64 ((min (size<|V x) 49:Nat):Int))
 bg:∀x∈B,bd x M=some (Iv 0)
 gm:∀x v,bd x M=some v->F x\/x∈B
 kd:∀p∈M,p.1∈ds
section
variable {nx:Nx} {M:List (Nat×Value)} {B:List Nat}
def SZ.eqv(h:SZ ds str nx vr M F B V)(e:iF str nx a_):SZ ds str a_ vr M F B V:=⟨Fin.eqv h.fin e,h.fg,h.bg,h.gm,h.kd⟩
def SZ.fd(h:SZ ds str nx vr M F B V)(hx:F x):x∈ds:=by
 have⟨p,h1,h2⟩:=adE<|h.fg x hx;exact h2▸h.kd p h1
def QI T:(((min (size T) 49:Nat)):Int)≠0:=by have:=size_pos T;omega
def SZ.apart(h:SZ ds str nx vr M F B V)(hx:F x)(hb:x∈B):False:=by
 have h1:=h.fg x hx;rw[h.bg x hb]at h1;injection h1 with h1;injection h1 with _ h1;exact QI _ h1.symm
def SZ.begin(h:SZ ds str nx vr M F B V)(hd:x∈ds)(hn:bd x M=none):SZ ds str nx vr (bn x (Iv 0) M) F (x::B) V:=by
 refine⟨h.fin,λy hy=>?_,λy hy=>?_,λy v hy=>?_,λp hp=>?_⟩
 .rw[aN,if_neg (λe=>by subst e;rw[h.fg _ hy]at hn;cases hn)];exact h.fg y hy
 .rw[aN];by_cases e:x=y
  .rw[if_pos e]
  .rw[if_neg e];exact h.bg y<|(List.mem_cons.1 hy).resolve_left<|λq=>e q.symm
 .rw[aN]at hy;by_cases e:x=y
  .grind
  .rw[if_neg e]at hy;exact(h.gm y v hy).imp id λq=>qBf
 .obtain q|q:=ID hp
  .exact h.kd p q
  .rw[q];exact hd
def SZ.done(h:SZ ds str nx vr M F (x::B) V)(hxB:¬x∈B)(hd:x∈ds)(hn:nx x=none)T(hT:match str x with
 |none=>T=.var (vr x)|some (c,l)=>∃hs,gD (Hd nx) l hs/\(∀y,y∈hs->F y)/\T=.aM c (hs.map V)):
 SZ ds str nx vr (bn x (.int .i64 ((min (size T) 49:Nat):Int)) M) (λy=>F y\/y=x) B (ja V x T):=by
 have cJ:∀y,F y->y≠x:=λy hy e=>by subst e;exact h.apart hy ah
 have ajG:∀hs:List Nat,(∀y,y∈hs->F y)->hs.map (ja V x T)=hs.map V:=λhs q=>by
  apply jj;intro y hy;simp[ja,cJ y<|q y hy]
 refine⟨λy hy=>?_,λy hy=>?_,λy hy=>?_,λy v hy=>?_,λp hp=>?_⟩
 .by_cases e:y=x
  .subst e;refine⟨hn,?_⟩
   cases hs:str y with
   |none=>rw[hs]at hT;simpa[ja]using hT|some p=>
    obtain⟨c,l⟩:=p;rw[hs]at hT;obtain⟨k,a,b,d⟩:=hT;exact⟨k,a,λz hz=>jm<|b z hz,by rw[ajG k b];simp[ja,d]⟩
  .have hy':=hy.resolve_right e;have⟨h1,h2⟩:=h.fin y hy';refine⟨h1,?_⟩
   cases hs:str y with
   |none=>rw[hs]at h2;simpa[ja,e]using h2|some p=>
    obtain⟨c,l⟩:=p;rw[hs]at h2;obtain⟨k,a,b,d⟩:=h2;exact⟨k,a,λz hz=>jm<|b z hz,by rw[ajG k b];simp[ja,e,d]⟩
 .rw[aN];by_cases e:x=y
  .subst e;simp[ja]
  .rw[if_neg e];have e':y≠x:=λq=>e q.symm;simp only[ja,e',if_false];exact h.fg y<|hy.resolve_right e'
 .rw[aN,if_neg (λe:x=y=>hxB<|e▸hy)];exact h.bg y (by simp[hy])
 .rw[aN]at hy;by_cases e:x=y
  .omega
  .rw[if_neg e]at hy;obtain q|q:=h.gm y v hy
   .grind
   .grind
 .obtain q|q:=ID hp
  .exact h.kd p q
  .rw[q];exact hd
end
abbrev BQ:Nat->Value:=λb=>Pv b
def U7:(Tryz.prog.info? 486).map (λi=>i.size)=some 5:=qkr
def YE:KL Tryz.prog 476 BQ (λw b=>∃c t,w.heap[b]? =some (.cells c t (0,0))):=by
 obtain⟨j,hj,hs⟩:∃j,Tryz.prog.info? 486=some j/\j.size=5:=by
  have:=U7
  cases h:Tryz.prog.info? 486 with
  |none=>grind|some j=>grind
 exact KL.ptr Tryz.underlying476 hj ae
def yN w ds(str:tO)(nx:Nx)(vr:Nat->Nat)(ly:Nat->Option Addr×Nat)(lv:Nat->Nat)n:=
 w.heap[n]? =some (.cells #[nP<|nx n,Nv<|lv n,Nv<|vr n,.string<|byS<|str n,.slice (ly n).1 (slN<|str n) (ly n).2] 486 (0,0))/\fW w ds (ly n).1 (str n)/\∀m,nx n=some m->m∈ds
structure GL w ds str nx vr ly lv:Prop where
 nd:∀n,n∈ds->yN w ds str nx vr ly lv n
 out:∀n,¬n∈ds->nx n=none/\str n=none
 hd:∀n,n∈ds->∃h,Hd nx n h
def yN.cells{nx}{lv}(h:yN w ds str nx vr ly lv n):w.cell? ⟨n,0,none⟩=some (nP<|nx n)/\w.frozen? ⟨n,0,none⟩=false/\w.cell? ⟨n,3,none⟩=some (.string<|byS<|str n)/\w.cell? ⟨n,2,none⟩=some (Nv<|vr n)/\w.cell? ⟨n,4,none⟩=some (.slice (ly n).1 (slN<|str n) (ly n).2):=by
 obtain⟨h1,_⟩:=h;exact⟨qBu,by simp[j5,h1],qBu,qBu,qBu⟩
def yN.lvl{nx}{lv}(h:yN w ds str nx vr ly lv n):w.cell? ⟨n,1,none⟩=some (Nv<|lv n)/\w.frozen? ⟨n,1,none⟩=false:=⟨by simp[World.cell?,h.1],by simp[j5,h.1]⟩
def Ry{p:Prop}(h:p:=by
 cases hs:str x with
 |none=>trivial|some p=>
  obtain⟨c,l⟩:=p;rw[hs]at h2;obtain⟨p1,p2,p3,p4⟩:=h2;refine⟨p1,p2,p3,p4.imp id λq=>?_⟩;obtain⟨g,q1,q2,q3,q4⟩:=q;refine⟨g,q1,q2,by simpa[jz]using q3,λi hi=>?_⟩;rw[World.cell?_setCell_other _ _ _ _ (by intro e;injection e with e;subst e;exact q2 hn)]
  exact q4 i hi):p:=h
def GL.set{nx}{lv}(h:GL w ds str nx vr ly lv)(hn:n∈ds)(hk:k∈ds)(hhd:∀x,x∈ds->∃y,Hd (ja nx n<|some k) x y):GL (w.setCell ⟨n,0,none⟩<|nA k) ds str (ja nx n<|some k) vr ly lv:=by
 refine⟨λx hx=>?_,λx hx=>?_,hhd⟩
 .have⟨h1,h2,h3⟩:=h.nd x hx;have hp:fW (w.setCell ⟨n,0,none⟩<|nA k) ds (ly x).1 (str x):=by
   exact Ry
  by_cases e:x=n
  .subst e;refine⟨(dz h1 0 _).trans<|by simp[ja,nP],hp,λm hm=>?_⟩;simp[ja]at hm;subst hm;exact hk
  .refine⟨?_,hp,λm hm=>h3 m<|by simpa[ja,e]using hm⟩;rw[jy _ _ _ _ e,h1];simp[ja,e]
 .have:x≠n:=λe=>hx<|e▸hn;simpa[ja,this]using h.out x hx
def GL.U8{nx}{lv}(h:GL w ds str nx vr ly lv)(hn:n∈ds)L:GL (w.setCell ⟨n,1,none⟩<|Nv L) ds str nx vr ly (ja lv n L):=by
 refine⟨λx hx=>?_,h.out,h.hd⟩;have⟨h1,h2,h3⟩:=h.nd x hx;have hp:fW (w.setCell ⟨n,1,none⟩<|Nv L) ds (ly x).1 (str x):=by
  exact Ry
 by_cases e:x=n
 .subst e;refine⟨(dz h1 1 _).trans QK,hp,h3⟩
 .refine⟨?_,hp,h3⟩;rw[jy _ _ _ _ e,h1];simp[ja,e]
def U9 ds str nx vr ly lv h w(e:Ending)w':=
 e=.returned (nA h)/\∃a_,GL w' ds str a_ vr ly lv/\Fr (λb=>b∈ds) w w'/\iF str nx a_/\w'.heap.size=w.heap.size
def YF ds str nx vr ly lv h w gk v wr:=
 ∃n a_,v=nA n/\n∈ds/\IE a_ n h gk/\GL wr ds str a_ vr ly lv/\Fr (λb=>b∈ds) w wr/\iF str nx a_/\wr.heap.size=w.heap.size
section
variable {nx:Nx} {lv:Nat->Nat}
def p_(hg:GL w ds str nx vr ly lv)(hn:n∈ds)(hh:Hd nx n h):Cq 346 #[nA n] w (U9 ds str nx vr ly lv h w):=by
 have⟨j0,hj0⟩:=Hd.len hh;have HJ:=ai hj0;clear hj0 hh;go_enter func346,ntmps346
 go_wp2
 go_loopg[0] j0 (λgk v wr=>YF ds str nx vr ly lv h w gk v wr)
 case atStart=>exact⟨n,nx,rfl,hn,HJ,hg,Fr.refl _ _,iF.refl _ _,rfl⟩
 case round=>
  clear hg HJ;obtain⟨n1,eI,rfl,wY,hl1,G1,F1,E1,z1⟩:=hrel;have⟨c0,f0,_⟩:=(G1.nd n1 wY).cells
  cases hl1 with
  |here e0=>
   rw[e0]at c0;have c0':wr.cell? ⟨h,0,none⟩=some (.pointer none):=c0;clear c0
   go_wp2
   go_ret;exact⟨rfl,eI,G1,F1,E1,z1⟩
  | @step _ m _ k e0 hlm=>
    have hm:m∈ds:=by
     have⟨_,_,h3⟩:=G1.nd n1 wY;exact h3 m e0
    have cJ:n1≠m:=λq=>by subst q;have:=(IE.step e0 hlm).one hlm;omega
    rw[e0]at c0;have c0':wr.cell? ⟨n1,0,none⟩=some (Pv m):=c0;have⟨d0,_⟩:=(G1.nd m hm).cells;clear c0
    cases hlm with
    |here e1=>
     rw[e1]at d0;have d0':wr.cell? ⟨h,0,none⟩=some (.pointer none):=d0;clear d0
     go_wp2
     go_roundg 0
     case measure=>omega
     case rel=>exact⟨h,eI,rfl,hm,.here e1,G1,F1,E1,z1⟩
    | @step _ m2 _ k2 e1 Hm=>
      rw[e1]at d0;have d0':wr.cell? ⟨m,0,none⟩=some (Pv m2):=d0;have hm2:m2∈ds:=by
       have⟨_,_,h3⟩:=G1.nd m hm;exact h3 m2 e1
      clear d0;have hnm:¬m=n1:=λq=>cJ q.symm
      go_wp2
      go_roundg k2
      case measure=>omega
      case rel=>
       refine⟨m2,ja eI n1<|some m2,rfl,hm2,Hm.dZ (IE.step e0<|IE.step e1 Hm) ae _,G1.set wY hm2<|λx hx=>?_,F1.set (jm wY) 0 _,E1.trans<|iF.short str e0 e1 cJ,by simp[jz];exact z1⟩;have⟨y,hy⟩:=G1.hd x hx;exact⟨y,hy.short e0 e1⟩
end
structure k9(str:tO)(nx:Nx)(ds:List Nat)(lv cy:Nat->Nat)n L(D:Nat->Prop):Prop where
 up:∀m,D m->m∈ds/\nx m=none/\L<lv m/\cy m=L
 no:∀m,¬D m->cy m=lv m
 hd:∀h,Hd nx n h->D h\/lv h<=L
 cl:∀a,D a->∀c l,str a=some (c,l)->∀p,p∈l->∀h,Hd nx p h->D h\/lv h<=L
 re:∀R:Nat->Prop,(∀h,Hd nx n h->R h)->(∀a c l p h,R a->str a=some (c,l)->p∈l->Hd nx p h->R h)->∀a,D a->R a
structure xE(str:tO)(nx:Nx)(ds:List Nat)(lv li:Nat->Nat)h(l:List Nat)L(D:Nat->Prop):Prop where
 own:D h
 up:∀m,D m->m∈ds/\nx m=none/\L<lv m/\li m=L
 no:∀m,¬D m->li m=lv m
 pt:∀p,p∈l->∀k,Hd nx p k->D k\/lv k<=L
 cl:∀a,D a->a≠h->∀c l,str a=some (c,l)->∀p,p∈l->∀k,Hd nx p k->D k\/lv k<=L
 re:∀R:Nat->Prop,R h->(∀a c l p k,R a->str a=some (c,l)->p∈l->Hd nx p k->R k)->∀a,D a->R a
section
variable {nx:Nx} {lv li:Nat->Nat} {L:Nat} {E:Nat->Prop}
def k9.nil(hh:Hd nx n h)(hl:lv h<=L):k9 str nx ds lv lv n L (λ_=>False):=
 ⟨λ_ q=>q.elim,λ_ _=>rfl,λk q=>jo (by rw[q.one hh];exact hl),λ_ q=>q.elim,λ_ _ _ _ q=>q.elim⟩
def xE.start(hd:h∈ds)(hn:nx h=none)(hl:L<lv h):xE str nx ds lv (ja lv h L) h [] L (λm=>m=h):=
 ⟨rfl,λm q=>by subst q;exact⟨hd,hn,hl,QK⟩,λm q=>by simp[ja,q],λp q=>by simp at q,λa q r=>absurd q r,λR q _ a r=>by subst r;exact q⟩
def xE.step{p}{c}{l0}(hs:str h=some (c,l0))(hp:p∈l0)(k:xE str nx ds lv li h l L D)(q:k9 str nx ds li cy p L E):xE str nx ds lv cy h (l++[p]) L (λm=>D m\/E m):=by
 have dis:∀m,E m->¬D m:=λm e d=>by have:=(q.up m e).2.2.1;have:=(k.up m d).2.2.2;omega
 have low:∀x,li x<=L->D x\/lv x<=L:=λx hx=>by
  by_cases d:D x
  .exact jm d
  .exact jo (by rw[<-k.no x d];exact hx)
 refine⟨jm k.own,λm e=>?_,λm e=>?_,λp' lG x hx=>?_,λa e ne c' l' iO p' lG x hx=>?_,λR r1 r2 a e=>?_⟩
 .by_cases d:E m
  .have⟨u1,u2,u3,u4⟩:=q.up m d;exact⟨u1,u2,by rw[<-k.no m (dis m d)];exact u3,u4⟩
  .have⟨u1,u2,u3,u4⟩:=k.up m<|e.resolve_right d;exact⟨u1,u2,u3,(q.no m d).trans u4⟩
 .rw[q.no m<|λd=>e<|jo d,k.no m<|λd=>e<|jm d]
 .obtain lG|lG:=List.mem_append.1 lG
  .exact(k.pt p' lG x hx).imp jm id
  .simp at lG;subst lG;obtain r|r:=q.hd x hx
   .grind
   .grind
 .obtain d|d:=e
  .exact(k.cl a d ne c' l' iO p' lG x hx).imp jm id
  .obtain r|r:=q.cl a d c' l' iO p' lG x hx
   .grind
   .grind
 .obtain d|d:=e
  .exact k.re R r1 r2 a d
  .exact q.re R (λx hx=>r2 h c l0 p x r1 hs hp hx) r2 a d
def xE.done{l0}(hh:Hd nx n h)(hs:str h=some (c,l0))(k:xE str nx ds lv li h l0 L D):k9 str nx ds lv li n L D:=by
 refine⟨k.up,k.no,λx hx=>jm (by rw[hx.one hh];exact k.own),λa d c' l' iO p hp x hx=>?_,λR r1 r2 a d=>k.re R (r1 h hh) r2 a d⟩;by_cases e:a=h
 .subst e;rw[hs]at iO;injection iO with iO;injection iO with _ e2;subst e2;exact k.pt p hp x hx
 .exact k.cl a d e c' l' iO p hp x hx
def xE.YG(hh:Hd nx n h)(hs:str h=none)(k:xE str nx ds lv li h [] L D):k9 str nx ds lv li n L D:=by
 refine⟨k.up,k.no,λx hx=>jm (by rw[hx.one hh];exact k.own),λa d c' l' iO p hp x hx=>?_,λR r1 r2 a d=>k.re R (r1 h hh) r2 a d⟩;by_cases e:a=h
 .grind
 .exact k.cl a d e c' l' iO p hp x hx
end
def dp(ds:List Nat)(lv:Nat->Nat)L:=ds.countP λm=>decide (L<lv m)
def afO{lv}{L:Nat}(h:∀m,L<cy m->L<lv m):dp ds cy L<=dp ds lv L:=List.countP_mono_left λm _ q=>by simpa using h m (by simpa using q)
def afP{lv cy:Nat->Nat}{L x:Nat}(h:∀m,L<cy m->L<lv m)(hx:L<lv x)(Em:¬L<cy x):∀{ds:List Nat},x∈ds->dp ds cy L<dp ds lv L
 |a::ds,hm=>by
  unfold dp;rw[jl,jl];have hle:ds.countP (λm=>decide (L<cy m))<=ds.countP (λm=>decide (L<lv m)):=afO h;by_cases e:a=x
  .subst e;simp[hx,Em];omega
  .have:=afP h hx Em (ds:=ds) (by obtain q|q:=List.mem_cons.1 hm;exact absurd q.symm e;exact q);unfold dp at this;by_cases q:L<cy a
   .simp[q,h a q];omega
   .by_cases q2:L<lv a
    .simp[q,q2];omega
    .simp[q,q2];omega
def iF.back{nx}{lv}(g:GL w ds str nx vr ly lv)(e:iF str nx a_)(k:Hd a_ x h):Hd nx x h:=by
 by_cases hx:x∈ds
 .have⟨y,hy⟩:=g.hd x hx;rw[k.one<|e.bO x y hy];exact hy
 .have h0:Hd nx x x:=.here (g.out x hx).1;rw[k.one<|e.bO x x h0];exact h0
def k9.eqv{nx}{lv0 lv}{L:Nat}(g:GL w ds str nx vr ly lv0)(e:iF str nx a_)(q:k9 str a_ ds lv cy n L D):k9 str nx ds lv cy n L D:=
 ⟨λm d=>⟨(q.up m d).1,(e.Bt m).1 (q.up m d).2.1,(q.up m d).2.2⟩,q.no,λh k=>q.hd h<|e.bO _ _ k,λa d c l hs p hp h k=>q.cl a d c l hs p hp h<|e.bO _ _ k,λR r1 r2=>q.re R (λh k=>r1 h<|e.back g k)<|λa c l p h ra hs hp k=>r2 a c l p h ra hs hp<|e.back g k⟩
def IF ds str nx vr ly lv n L w(e:Ending)w':=
 e=.returned (.tuple #[])/\∃a_ cy D,GL w' ds str a_ vr ly cy/\Fr (λb=>b∈ds) w w'/\iF str nx a_/\w'.heap.size=w.heap.size/\k9 str nx ds lv cy n L D
def agU ds str vr ly k:=∀(w:World)(nx:Nx)(lv:Nat->Nat)(n L:Nat),GL w ds str nx vr ly lv->n∈ds->dp ds lv L<=k->Cq 343 #[nA n,Nv L] w (IF ds str nx vr ly lv n L w)
def agV ds str nx vr ly lv h L(l:List Nat)w gk v wr:=
 ∃j gK li D,Hid (gk=l.length-j)/\j<=l.length/\v=Nv j/\GL wr ds str gK vr ly li/\Fr (λb=>b∈ds) w wr/\iF str nx gK/\wr.heap.size=w.heap.size/\xE str nx ds lv li h (l.take j) L D
def GL.row{nx}{lv}(g:GL w ds str nx vr ly lv)(ha:a∈ds)(hs:str a=some (c,l)){j}(hj:j<l.length):∃ga,(ly a).1=some ⟨ga,0,none⟩/\w.cell? ⟨ga,j,none⟩=some (nA l[j])/\¬ga∈ds:=by
 have⟨_,h2,_⟩:=g.nd a ha;rw[hs]at h2;obtain⟨_,_,_,p4⟩:=h2;have⟨ga,q1,q2,_,q4⟩:=p4.resolve_left (λe=>by subst e;simp at hj);exact⟨ga,q1,q4 j hj,q2⟩
def GL.part{nx}{lv}(g:GL w ds str nx vr ly lv)(ha:a∈ds)(hs:str a=some (c,l)):l.length<=1001/\∀m∈l,m∈ds:=by
 have⟨_,h2,_⟩:=g.nd a ha;rw[hs]at h2;exact⟨h2.2.1,h2.2.2.1⟩
def GL.bD{nx}{lv}(g:GL w ds str nx vr ly lv)(hn:n∈ds)(k:Hd nx n h):h∈ds:=by
 induction k with
 |here=>exact hn|step e _ ih=>exact ih<|(g.nd _ hn).2.2 _ e
def Nk(IH:∀i,i<k->agU ds str vr ly i):agU ds str vr ly k:=by
 intro w nx lv n L Hn hn hk;have⟨h,hh⟩:=Hn.hd n hn;have hm:=Hn.bD hn hh;have HC:=p_ Hn hn hh;go_enter func343,ntmps343;go_wp2_with fail;refine HC.mono ?_;rintro e w1⟨rfl,eI,HG,F1,YH,z1⟩;have⟨c1,f1⟩:=(HG.nd h hm).lvl;have wY:nx h=none:=hh.head;by_cases hle:lv h<=L
 .have hd:(lv h:Int)<=(L:Int):=ae
  go_wp2
  go_end0;exact⟨rfl,eI,lv,_,HG,F1,YH,z1,k9.nil hh hle⟩
 .have hd:¬(lv h:Int)<=(L:Int):=ae;have G2:=HG.U8 hm L;have⟨_,_,_,_,c4⟩:=(HG.nd h hm).cells;have F2:Hid (Fr (λb=>b∈ds) w<|w1.setCell ⟨h,1,none⟩<|Nv L):=ai<|F1.set (jm hm) 1 _;have HG2:=ai G2;have Z1:=z1;have J0:Hid (xE str nx ds lv (ja lv h L) h [] L<|λm=>m=h):=ai<|xE.start hm wY ae
  cases hs:str h with
  |none=>
   have c4':w1.cell? ⟨h,4,none⟩=some (.slice (ly h).1 0 (ly h).2):=by rw[c4,hs];rfl
   go_wp2
   go_loopg[23] 0 (λgk v wr=>v=Iv 0/\wr=w1.setCell ⟨h,1,none⟩ (Nv L))
   case atStart=>exact⟨rfl,rfl⟩
   case round=>
    obtain⟨rfl,rfl⟩:=hrel
    go_wp2
    go_end0;exact⟨rfl,eI,_,_,uh HG2,uh F2,YH,qAz,(uh J0).YG hh hs⟩
  |some q=>
   obtain⟨c,l⟩:=q;have c4':w1.cell? ⟨h,4,none⟩=some (.slice (ly h).1 l.length (ly h).2):=by rw[c4,hs];rfl
   have⟨hl1,Hm⟩:=Hn.part hm hs;have hdp:dp ds (ja lv h L) L<dp ds lv L:=afP (x:=h) (λm q=>by by_cases e:m=h;subst e;simp[ja]at q;simpa[ja,e]using q) ae QK hm;by_cases BS:l=[]
   .subst BS;have amg:=c4'
    go_wp2
    go_loopg[23] 0 (λgk v wr=>v=Iv 0/\wr=w1.setCell ⟨h,1,none⟩ (Nv L))
    case atStart=>exact⟨rfl,rfl⟩
    case round=>
     obtain⟨rfl,rfl⟩:=hrel
     go_wp2
     go_end0;exact⟨rfl,eI,_,_,uh HG2,uh F2,YH,qAz,(uh J0).done hh hs⟩
   have⟨ga,EGA,_,_⟩:=Hn.row hm hs<|List.length_pos_iff.2 BS;rw[EGA]at c4'
   go_wp2
   go_loopg[23] l.length (λgk v wr=>agV ds str nx vr ly lv h L l w gk v wr)
   case atStart=>exact⟨0,eI,_,_,ai ah,jt _,rfl,uh HG2,uh F2,YH,qAz,by simpa using uh J0⟩
   case round=>
    obtain⟨j,gK,li,D,bE,hj,rfl,Gj,FJ,EJ,ZJ,JJ⟩:=hrel;by_cases aI:j<l.length
    .have aZ:(j:Int)<(l.length:Int):=ae;have Cz:(0:Int)<=(j:Int):=ae;have⟨ga',e1,cg,_⟩:=Gj.row hm hs aI;have e2:=e1.symm.trans EGA;injection e2 with e2;injection e2 with e2;subst e2
     have HCJ:=IH (dp ds (ja lv h L) L) ae wr gK li l[j] L Gj (Hm _<|jd aI) (afO λm q=>by
      by_cases d:D m
      .have:=(JJ.up m d).2.2.2;omega
      .have e:m≠h:=λe=>d<|e▸JJ.own;simp only[ja,e,if_false]
       rw[<-JJ.no m d];exact q)
     go_wp2_with fail;refine HCJ.mono ?_;rintro e w2⟨rfl,pR,lz,D2,HG,F2,E2,z2,q2⟩;have HF:=FJ.trans F2;have HE:=EJ.trans E2;have HZ:=z2.trans ZJ;have HJ2:=JJ.step hs (jd aI)<|q2.eqv Hn EJ
     go_wp2
     go_roundg(l.length-(j+1))
     case measure=>rw[uh bE];omega
     case rel=>exact⟨j+1,pR,lz,_,ai rfl,Nat.succ_le_of_lt aI,d_,HG,HF,HE,HZ,by rw[jh aI];exact HJ2⟩
    .have aZ:decide ((j:Int)<(l.length:Int))=false:=bi;have ej:j=l.length:=ae;subst ej;rw[jk]at JJ;have HX:=show IF ds str nx vr ly lv n L w (Rv<|.tuple #[]) wr from⟨rfl,gK,li,D,Gj,FJ,EJ,ZJ,JJ.done hh hs⟩
     go_wp2
     go_end0;exact HX
def QL:∀k,agU ds str vr ly k:=λk=>Nat.strongRecOn k λk ih=>Nk ih
def LC(str:tO)(ds:List Nat)nx(lv:Nat->Nat):=∀a,a∈ds->nx a=none->∀c l,str a=some (c,l)->∀p,p∈l->∀h,Hd nx p h->lv h<=lv a
structure vG str(ds:List Nat)nx(lv:Nat->Nat)a_(cy:Nat->Nat):Prop where
 mono:∀m,m∈ds->∀h h',Hd nx m h->Hd a_ m h'->cy h'<=lv h
 lc:LC str ds nx lv->LC str ds a_ cy
 low:∀(i:Nat)(U:Nat->Ty),mr str a_ U->∀Lw:Ty->Prop,(∀c ts,Lw (.aM c ts)->∀t∈ts,Lw t)->(∀m,m∈ds->∀h,Hd nx m h->lv h<=i->Lw (U m))->∀m,m∈ds->∀h,Hd a_ m h->cy h<=i->Lw (U m)
 gr:∀n,a_ n=none->nx n=none
section
variable {nx:Nx} {lv:Nat->Nat}
def vG.trans(h:vG str ds nx lv eI ry)(k:vG str ds eI ry pR lz)(hd:∀m,m∈ds->∃x,Hd eI m x)(hs:∀U,mr str pR U->mr str eI U):vG str ds nx lv pR lz:=
 ⟨λm hm a c ka kc=>by
  have⟨b,kb⟩:=hd m hm
  exact jq (k.mono m hm b c kb kc)<|h.mono m hm a b ka kb,λq=>k.lc<|h.lc q,λi U hU Lw hc q=>k.low i U hU Lw hc<|h.low i U (hs U hU) Lw hc q,λn q=>h.gr n<|k.gr n q⟩
def vG.eqv(g:GL w ds str nx vr ly ry)(e:iF str nx eI):vG str ds nx lv eI lv:=by
 refine⟨λm _ h h' k k'=>?_,λq a ha hn c l hs p hp h k=>?_,λi U hU Lw hc q m hm h k hl=>q m hm h (e.back g k) hl,λn q=>(e.Bt n).1 q⟩
 .rw[k'.one<|e.bO _ _ k];exact br _
 .exact q a ha ((e.Bt a).1 hn) c l hs p hp h (e.back g k)
def k9.fwd{L:Nat}(g:GL w ds str nx vr ly lz)(e:iF str nx eI)(q:k9 str nx ds lv ry n L D):k9 str eI ds lv ry n L D:=
 ⟨λm d=>⟨(q.up m d).1,(e.Bt m).2 (q.up m d).2.1,(q.up m d).2.2⟩,q.no,λh k=>q.hd h<|e.back g k,λa d c l hs p hp h k=>q.cl a d c l hs p hp h<|e.back g k,λR r1 r2=>q.re R (λh k=>r1 h<|e.bO _ _ k)<|λa c l p h ra hs hp k=>r2 a c l p h ra hs hp<|e.bO _ _ k⟩
def k9.le{L:Nat}(q:k9 str nx ds lv ry n L D)m:ry m<=lv m:=by
 by_cases d:D m
 .have:=q.up m d;omega
 .rw[q.no m d];exact br _
def k9.lc{L:Nat}(q:k9 str nx ds lv ry n L D)(h:LC str ds nx lv):LC str ds nx ry:=λa ha hn c l hs p hp k hk=>by
 have h0:=h a ha hn c l hs p hp k hk;by_cases d:D a
 .rw[(q.up a d).2.2.2];obtain r|r:=q.cl a d c l hs p hp k hk
  .rw[(q.up k r).2.2.2];exact br _
  .exact jq (q.le k) r
 .rw[q.no a d];exact jq (q.le k) h0
def k9.low{L:Nat}(q:k9 str nx ds lv ry n L D){i}(hU:mr str nx U){Lw:Ty->Prop}(hc:∀c ts,Lw (.aM c ts)->∀t∈ts,Lw t)(hb:∀m,m∈ds->∀h,Hd nx m h->lv h<=i->Lw (U m))(hn:L<=i->Lw (U n)):∀m,m∈ds->∀h,Hd nx m h->ry h<=i->Lw (U m):=λm hm h hh hl=>by
 by_cases d:D h
 .have hL:L<=i:=by rw[(q.up h d).2.2.2]at hl;exact hl
  rw[hh.m7 hU];refine q.re (λx=>Lw<|U x) (λx hx=>by rw[<-hx.m7 hU];exact hn hL) (λa c l p k ra hs hp hk=>?_) h d;rw[<-hk.m7 hU];rw[hU.made a c l hs]at ra;exact hc c _ ra _<|List.mem_map_of_mem hp
 .rw[q.no h d]at hl;exact hb m hm h hh hl
structure qA str nx ds lv lz a b:Prop where
 x:∃ry D1 D2,k9 str nx ds lv ry a (lv b) D1/\k9 str nx ds ry lz b (ry a) D2
def qA.lvs(h:qA str nx ds lv lz a b)(ha:nx a=none)(hb:nx b=none):lz a<=lv a/\lz a<=lv b/\lz b<=lv a/\lz b<=lv b/\lz a=lz b:=by
 have⟨ry,D1,D2,q1,q2⟩:=h.x;have n1:=q1.no b (λd=>by have:=(q1.up b d).2.2.1;omega);have n2:=q2.no a (λd=>by have:=(q2.up a d).2.2.1;omega);have l1:ry a<=lv b:=by
  obtain d|d:=q1.hd a<|.here ha
  .rw[(q1.up a d).2.2.2];exact br _
  .exact jq (q1.le a) d
 have l1a:=q1.le a;have l2:lz b=ry a:=by
  by_cases d:D2 b
  .exact(q2.up b d).2.2.2
  .have h2:=(q2.hd b<|.here hb).resolve_left d;rw[q2.no b d];omega
 omega
def qA.lc(h:qA str nx ds lv lz a b)(k:LC str ds nx lv):LC str ds nx lz:=by
 have⟨ry,D1,D2,q1,q2⟩:=h.x;exact q2.lc<|q1.lc k
def qA.le(h:qA str nx ds lv lz a b)m:lz m<=lv m:=by
 have⟨ry,D1,D2,q1,q2⟩:=h.x;exact jq (q2.le m)<|q1.le m
def qA.low(h:qA str nx ds lv lz a b)(ha:a∈ds)(hb:b∈ds)(na:nx a=none)(nb:nx b=none){i}{U}(hU:mr str nx U)(nI:U a=U b){Lw:Ty->Prop}(hc:∀c ts,Lw (.aM c ts)->∀t∈ts,Lw t)(hB:∀m,m∈ds->∀h,Hd nx m h->lv h<=i->Lw (U m)):∀m,m∈ds->∀h,Hd nx m h->lz h<=i->Lw (U m):=by
 have⟨ry,D1,D2,q1,q2⟩:=h.x;have s1:=q1.low hU hc hB (λq=>by rw[nI];exact hB b hb b (.here nb) q);exact q2.low hU hc s1 (λq=>by rw[<-nI];exact s1 a ha a (.here na) q)
def kG{h'}(na:nx a=none)(nb:nx b=none)(nI:a≠b)(hh:Hd nx x h)(k:Hd (ja nx a<|some b) x h'):h'=if h=a then b else h:=k.one<|hh.join na nb nI
def jH(nx0:nx x=none)(hU:mr str (ja nx x<|some y) U):mr str nx U:=by
 refine⟨hU.made,λn m e=>hU.bz n m ?_⟩;have cJ:n≠x:=λr=>by subst r;rw[nx0]at e;cases e
 simpa[ja,cJ]using e
def vG.link(h:qA str nx ds lv lz a b)(ha:a∈ds)(hb:b∈ds)(na:nx a=none)(nb:nx b=none)(nI:a≠b)(hd:∀m,m∈ds->∃x,Hd nx m x)(hp:∀a,a∈ds->∀c l,str a=some (c,l)->∀m∈l,m∈ds):vG str ds nx lv (ja nx a<|some b) lz:=by
 have⟨l1,l2,l3,l4,l5⟩:=h.lvs na nb;refine⟨λm hm x x' k k'=>?_,λq e he hn c l hs p Nl x' k'=>?_,λi U hU Lw hc hB m hm x' k' hl=>?_,λn q=>by by_cases e:n=a;subst e;exact na;simpa[ja,e]using q⟩
 .rw[kG na nb nI k k'];split
  .rename_i e;rw[e];exact l3
  .exact h.le x
 .have cJ:e≠a:=λr=>by subst r;simp[ja]at hn
  have QM:nx e=none:=by simpa[ja,cJ]using hn
  have⟨x,k⟩:=hd p<|hp e he c l hs p Nl;have:=h.lc q e he QM c l hs p Nl x k;rw[kG na nb nI k k'];split
  .rename_i r;rw[r]at this;omega
  .exact this
 .have hS:=jH na hU;have YI:=hU.bz a b QK;have hL:=h.low ha hb na nb hS YI hc hB;have⟨x,k⟩:=hd m hm;rw[kG na nb nI k k']at hl;split at hl
  .rename_i r;subst r;rw[k.m7 hS,YI];exact hL b hb b (.here nb) hl
  .exact hL m hm x k hl
def vG.YJ(h:qA str nx ds lv lz a b)(ha:a∈ds)(hb:b∈ds)(na:nx a=none)(nb:nx b=none)(nI:a≠b)(hd:∀m,m∈ds->∃x,Hd nx m x)(hp:∀a,a∈ds->∀c l,str a=some (c,l)->∀m∈l,m∈ds):vG str ds nx lv (ja nx b<|some a) lz:=by
 have⟨l1,l2,l3,l4,l5⟩:=h.lvs na nb;refine⟨λm hm x x' k k'=>?_,λq e he hn c l hs p Nl x' k'=>?_,λi U hU Lw hc hB m hm x' k' hl=>?_,λn q=>by by_cases e:n=b;subst e;exact nb;simpa[ja,e]using q⟩
 .rw[kG nb na (Ne.symm nI) k k'];split
  .rename_i e;rw[e];exact l2
  .exact h.le x
 .have cJ:e≠b:=λr=>by subst r;simp[ja]at hn
  have QM:nx e=none:=by simpa[ja,cJ]using hn
  have⟨x,k⟩:=hd p<|hp e he c l hs p Nl;have:=h.lc q e he QM c l hs p Nl x k;rw[kG nb na (Ne.symm nI) k k'];split
  .rename_i r;rw[r]at this;omega
  .exact this
 .have hS:=jH nb hU;have YI:=hU.bz b a QK;have hL:=h.low ha hb na nb hS YI.symm hc hB;have⟨x,k⟩:=hd m hm;rw[kG nb na (Ne.symm nI) k k']at hl;split at hl
  .rename_i r;subst r;rw[k.m7 hS,YI];exact hL a ha a (.here na) hl
  .exact hL m hm x k hl
end
structure JG(ds:List Nat)(str:tO)nx(vr:Nat->Nat):Prop where
 Nm:∀n,∃h,Hd nx n h
 bO:∀n h,n∈ds->Hd nx n h->h∈ds
 XO:∀a c l,a∈ds->str a=some (c,l)->∀p,p∈l->p∈ds
 inj:∀a b,a∈ds->b∈ds->str a=none->str b=none->vr a=vr b->a=b
 mA:vH str nx []
def Can(str:tO)nx(vr:Nat->Nat)(V:Nat->Ty):=∀n h,Hd nx n h->V n=match str h with
 |none=>.var (vr h)|some (c,l)=>.aM c<|l.map V
section
variable {nx:Nx} {W:Nat->Ty}
def JG.eq(g:JG ds str nx vr):Un.Eq nx [] (yO nx):=yO.is λn _ _=>g.Nm n
def Can.same(hV:Can str nx vr V)(k:yO nx m n):V m=V n:=by
 obtain rfl|⟨h,a,b⟩:=k
 .rfl
 .rw[hV m h a,hV n h b]
def Nn(g:JG ds str nx vr)(k:Hd nx n h):∀{c l},str n=some (c,l)->∃l',str h=some (c,l')/\gD (yO nx) l l':=by
 induction k with
 |here e=>exact λ{c l}hs=>⟨l,hs,rG g.eq.refl l⟩|step e _ ih=>
  intro c l hs;have⟨l1,h1,h2⟩:=g.mA _ g.eq _ _ c l e hs;have⟨l2,h3,h4⟩:=ih h1;exact⟨l2,h3,k_ g.eq.trans h2 h4⟩
def Can.m7(g:JG ds str nx vr)(hV:Can str nx vr V):mr str nx V:=by
 refine⟨λn c l hs=>?_,λn m e=>?_⟩
 .have⟨h,k⟩:=g.Nm n;have⟨l',h1,h2⟩:=Nn g k hs;have:=hV n h k;rw[h1]at this;rw[this];show j7 c (l'.map V)=j7 c (l.map V);rw[vI (λa b q=>hV.same q) h2]
 .have⟨h,k⟩:=g.Nm n;exact hV.same<|jo ⟨h,k,k.rH e⟩
noncomputable def U_ (nx:Nx) (n:Nat):Nat:=by
 classical
 exact if h:∃x,Hd nx n x then h.choose else n
theorem nJ(k:Hd nx n h):U_ nx n=h:=by
 rw[U_];have q:∃x,Hd nx n x:=⟨h,k⟩;rw[dif_pos q];exact q.choose_spec.one k
noncomputable def vK (str:tO) (nx:Nx) (vr:Nat->Nat):Nat->Nat->Ty
 |0,_=>.var 0
 |k+1,n=>match str (U_ nx n)with
  |none=>.var (vr<|U_ nx n)|some (c,l)=>.aM c<|l.map<|vK str nx vr k
def jB(hp:p∈l):size (U p)<size (.aM c<|l.map U):=by
 have:=mB (V:=U) hp;simp only[size];omega
def YK{U:Nat->Ty}(g:JG ds str nx vr)(hU:mr str nx U):∀k k' n,size (U n)<=k->size (U n)<=k'->vK str nx vr k n=vK str nx vr k' n
 |0,_,n,h,_=>by have:=size_pos<|U n;omega|_+1,0,n,_,h=>by have:=size_pos<|U n;omega|k+1,k'+1,n,h,h'=>by
  have⟨x,hx⟩:=g.Nm n;simp only[vK,nJ hx]
  cases hs:str x with
  |none=>rfl|some q=>
   obtain⟨c,l⟩:=q;have e:=(hx.m7 hU).trans<|hU.made x c l hs;show j7 c _=j7 c _;congr 1;refine dQ λp hp=>YK g hU k k' p ?_ ?_;all_goals have:=jB (c:=c) (U:=U) hp;rw[<-e]at this;omega
def agW(g:JG ds str nx vr)(hU:mr str nx U):∃V,Can str nx vr V:=by
 refine⟨λn=>vK str nx vr (size<|U n) n,λn h k=>?_⟩;have hp:=size_pos<|U n;obtain⟨j,hj⟩:∃j,size (U n)=j+1:=⟨size (U n)-1,ae⟩;show vK str nx vr (size<|U n) n=_;rw[hj];simp only[vK,nJ k]
 cases hs:str h with
 |none=>rfl|some q=>
  obtain⟨c,l⟩:=q;have e:=(k.m7 hU).trans<|hU.made h c l hs;show j7 c _=j7 c _;congr 1;refine dQ λp hp=>YK g hU _ _ p ?_<|br _;have:=jB (c:=c) (U:=U) hp;rw[<-e]at this;omega
def Rt(ds:List Nat)(str:tO)(nx:Nx)(vr:Nat->Nat)v h:=h∈ds/\nx h=none/\str h=none/\vr h=v
def Rt.one(g:JG ds str nx vr){v h h':Nat}(a:Rt ds str nx vr v h)(b:Rt ds str nx vr v h'):h=h':=g.inj h h' a.1 b.1 a.2.2.1 b.2.2.1<|a.2.2.2.trans b.2.2.2.symm
def Rt.val(hV:Can str nx vr V)(a:Rt ds str nx vr v h):V h=.var v:=by
 have:=hV h h<|.here a.2.1;rw[a.2.2.1,a.2.2.2]at this;exact this
noncomputable def tau (ds:List Nat) (str:tO) (nx:Nx) (vr:Nat->Nat) (W:Nat->Ty) (v:Nat):Ty:=by
 classical
 exact if h:∃x,Rt ds str nx vr v x then W h.choose else .var v
def Np(g:JG ds str nx vr)(a:Rt ds str nx vr v h):tau ds str nx vr W v=W h:=by
 rw[tau];have q:∃x,Rt ds str nx vr v x:=⟨h,a⟩;rw[dif_pos q,q.choose_spec.one g a]
def agX(a:¬∃x,Rt ds str nx vr v x):tau ds str nx vr W v=.var v:=by rw[tau];rw[dif_neg a]
def QN{V:Nat->Ty}{v:Nat}:∀{l:List Nat},ck v (l.map V)->∃p,p∈l/\aG v (V p)
 |[],h=>by simp[ck]at h|x::l,h=>by
  simp only[ji,ck]at h;obtain h|h:=h
  .exact⟨x,ah,h⟩
  .have⟨p,h1,h2⟩:=QN h;exact⟨p,by simp[h1],h2⟩
def e_{lv:Nat->Nat}(g:JG ds str nx vr)(hV:Can str nx vr V){v:Nat}:∀k n h,n∈ds->Hd nx n h->size (V n)<=k->aG v (V n)->∃x,Rt ds str nx vr v x/\(LC str ds nx lv->lv x<=lv h)
 |0,n,_,_,_,h,_=>by have:=size_pos<|V n;omega|k+1,n,h,hn,hh,hz,ho=>by
  have hd:=g.bO n h hn hh;have e:=hV n h hh
  cases hs:str h with
  |none=>
   rw[hs]at e;rw[e]at ho;exact⟨h,⟨hd,hh.head,hs,ho⟩,λ_=>br _⟩
  |some q=>
   obtain⟨c,l⟩:=q;rw[hs]at e;have e:V n=.aM c (l.map V):=e;rw[e]at ho;obtain⟨p,hp,tI⟩:=QN (by simpa only[aG]using ho);obtain⟨y,hy⟩:=g.Nm p;have IA:size (V p)<=k:=by have:=jB (c:=c) (U:=V) hp;rw[<-e]at this;omega
   obtain⟨x,h1,h2⟩:=e_ g hV k p y (g.XO h c l hd hs p hp) hy IA tI;exact⟨x,h1,λhl=>jq (h2 hl)<|hl h hd hh.head c l hs p hp y hy⟩
def Ep(g:JG ds str nx vr)(hV:Can str nx vr V)(hW:mr str nx W):∀k n,n∈ds->size (V n)<=k->W n=sub (tau ds str nx vr W) (V n)
 |0,n,_,h=>by have:=size_pos<|V n;omega|k+1,n,hn,hz=>by
  have⟨h,hh⟩:=g.Nm n;have hd:=g.bO n h hn hh;have e:=hV n h hh
  cases hs:str h with
  |none=>
   rw[hs]at e;rw[e,hh.m7 hW];exact(Np g ⟨hd,hh.head,hs,rfl⟩).symm
  |some q=>
   obtain⟨c,l⟩:=q;rw[hs]at e;have e:V n=.aM c (l.map V):=e;rw[hh.m7 hW,hW.made h c l hs,e];simp only[sub];rw[jC];congr 1;refine dQ λp hp=>Ep g hV hW k p (g.XO h c l hd hs p hp) ?_;have:=jB (c:=c) (U:=V) hp;rw[<-e]at this;omega
end
def ScD(str:tO)(ds:List Nat)nx(S:Nat->Prop):=∀x,x∈ds->nx x=none->S x->∀c l,str x=some (c,l)->∀p,p∈l->∀h,Hd nx p h->S h
def rI str ds nx(lv:Nat->Nat)a_(cy:Nat->Nat)a b:=∀S:Nat->Prop,ScD str ds nx S->(∀h,Hd nx a h->S h)->(∀h,Hd nx b h->S h)->∀m,m∈ds->∀h h',Hd nx m h->Hd a_ m h'->(¬S h->h'=h/\cy h=lv h)/\(S h->S h')
section
variable {nx:Nx} {lv:Nat->Nat}
def rI.eqv(e:iF str nx eI):rI str ds nx lv eI lv x y:=λS _ _ _ m _ h h' k k'=>by
 rw[k'.one<|e.bO _ _ k];exact⟨λ_=>⟨rfl,rfl⟩,id⟩
def rI.nK(g:GL w ds str nx vr ly ry)(e:iF str nx eI)(hx:Hd nx x a)(hy:Hd nx y b)(k:rI str ds eI lv pR lz a b):rI str ds nx lv pR lz x y:=λS hS ha hb m hm h h' q q'=>by
 refine k S (λz hz hn sz c l hs p hp z' kz=>hS z hz ((e.Bt z).1 hn) sz c l hs p hp z'<|e.back g kz) (λz kz=>?_) (λz kz=>?_) m hm h h' (e.bO _ _ q) q'
 .have:z=a:=kz.one<|.here (e.bO _ _ hx).head;subst this;exact ha _ hx
 .have:z=b:=kz.one<|.here (e.bO _ _ hy).head;subst this;exact hb _ hy
def rI.pre(g:GL w ds str nx vr ly ry)(e:iF str nx eI)(k:rI str ds eI lv pR lz x y):rI str ds nx lv pR lz x y:=λS hS ha hb m hm h h' q q'=>
 k S (λz hz hn sz c l hs p hp z' kz=>hS z hz ((e.Bt z).1 hn) sz c l hs p hp z'<|e.back g kz) (λz kz=>ha z<|e.back g kz) (λz kz=>hb z<|e.back g kz) m hm h h' (e.bO _ _ q) q'
def rI.post(g:GL w ds str eI vr ly ry)(e:iF str eI pR)(k:rI str ds nx lv eI lz x y):rI str ds nx lv pR lz x y:=λS hS ha hb m hm h h' q q'=>k S hS ha hb m hm h h' q<|e.back g q'
def qA.out(h:qA str nx ds lv lz a b)(ha:a∈ds)(hb:b∈ds)(na:nx a=none)(nb:nx b=none)(hp:∀a,a∈ds->∀c l,str a=some (c,l)->∀m∈l,m∈ds)(hm:∀m,m∈ds->∀x,Hd nx m x->x∈ds){S}(hS:ScD str ds nx S)(sa:S a)(sb:S b){x}(hx:¬S x):lz x=lv x:=by
 have⟨ry,D1,D2,q1,q2⟩:=h.x;have cl:∀e c l p k,(S e/\e∈ds/\nx e=none)->str e=some (c,l)->p∈l->Hd nx p k->(S k/\k∈ds/\nx k=none):=λe c l p k r hs Nl hk=>⟨hS e r.2.1 r.2.2 r.1 c l hs p Nl k hk,hm p (hp e r.2.1 c l hs p Nl) k hk,hk.head⟩;have d1:¬D1 x:=λd=>hx (q1.re (λx=>S x/\x∈ds/\nx x=none) (λk hk=>by rw[hk.one<|.here na];exact⟨sa,ha,na⟩) cl x d).1;have d2:¬D2 x:=λd=>hx (q2.re (λx=>S x/\x∈ds/\nx x=none) (λk hk=>by rw[hk.one<|.here nb];exact⟨sb,hb,nb⟩) cl x d).1;rw[q2.no x d2,q1.no x d1]
def rI.link(h:qA str nx ds lv lz a b)(ha:a∈ds)(hb:b∈ds)(na:nx a=none)(nb:nx b=none)(nI:a≠b)(hp:∀a,a∈ds->∀c l,str a=some (c,l)->∀m∈l,m∈ds)(hm:∀m,m∈ds->∀x,Hd nx m x->x∈ds):rI str ds nx lv (ja nx a<|some b) lz a b:=λS hS sa sb m _ x x' k k'=>by
 have sa:=sa a<|.here na;have sb:=sb b<|.here nb;rw[kG na nb nI k k'];refine⟨λq=>?_,λq=>?_⟩
 .have e:x≠a:=λe=>q<|e▸sa;exact⟨qBq,h.out ha hb na nb hp hm hS sa sb q⟩
 .grind
def rI.YJ(h:qA str nx ds lv lz a b)(ha:a∈ds)(hb:b∈ds)(na:nx a=none)(nb:nx b=none)(nI:a≠b)(hp:∀a,a∈ds->∀c l,str a=some (c,l)->∀m∈l,m∈ds)(hm:∀m,m∈ds->∀x,Hd nx m x->x∈ds):rI str ds nx lv (ja nx b<|some a) lz a b:=λS hS sa sb m _ x x' k k'=>by
 have sa:=sa a<|.here na;have sb:=sb b<|.here nb;rw[kG nb na (Ne.symm nI) k k'];refine⟨λq=>?_,λq=>?_⟩
 .have e:x≠b:=λe=>q<|e▸sb;exact⟨qBq,h.out ha hb na nb hp hm hS sa sb q⟩
 .grind
def rI.step{p q}{c c'}{l l'}(g:vG str ds nx lv eI ry)(h:rI str ds nx lv eI ry x y)(hx:Hd nx x a)(hy:Hd nx y b)(ha:a∈ds)(hb:b∈ds)(sa:str a=some (c,l))(sb:str b=some (c',l'))(hp:p∈l)(hq:q∈l')(bO:∀a,a∈ds->∀c l,str a=some (c,l)->∀m∈l,m∈ds)(XP:∀m,m∈ds->∃x,Hd nx m x)(II:∀m,m∈ds->∃x,Hd eI m x)(k:rI str ds eI ry pR lz p q):rI str ds nx lv pR lz x y:=λS hS hxa hyb m hm h0 h2 k0 k2=>by
 have one:=h S hS hxa hyb;have pt:∀z,z∈ds->nx z=none->S z->∀c l,str z=some (c,l)->∀p,p∈l->∀t,Hd eI p t->S t:=λz hz hn sz c l hs p hp t kt=>by
  have Mw:=bO z hz c l hs p hp;have⟨t0,kt0⟩:=XP p Mw;exact(one p Mw t0 t kt0 kt).2 (hS z hz hn sz c l hs p hp t0 kt0)
 have⟨h1,k1⟩:=II m hm;have a1:=one m hm h0 h1 k0 k1;have a2:=k S (λz hz hn=>pt z hz<|g.gr z hn) (pt a ha hx.head (hxa a hx) c l sa p hp) (pt b hb hy.head (hyb b hy) c' l' sb q hq) m hm h1 h2 k1 k2;refine⟨λn0=>?_,λs0=>a2.2<|a1.2 s0⟩;have⟨e1,e2⟩:=a1.1 n0;subst e1;have⟨e3,e4⟩:=a2.1 n0;exact⟨e3,e4.trans e2⟩
end
def GL.drewN{nx}{lv}(g:GL w ds str nx vr ly lv)n:GL (w.drewN n) ds str nx vr ly lv:=⟨g.nd,g.out,g.hd⟩
def GL.drew{nx}{lv}(g:GL w ds str nx vr ly lv):GL w.drew ds str nx vr ly lv:=⟨g.nd,g.out,g.hd⟩
def agY ds str nx vr ly lv x y w(e:Ending)w':=
 ∃ok a_ cy,e=.returned (.bool ok)/\GL w' ds str a_ vr ly cy/\Fr (λb=>b∈ds) w w'/\w'.heap.size=w.heap.size/\hc a_ ds<=hc nx ds/\JR str nx a_ x y ok/\(ok=true->vG str ds nx lv a_ cy/\rI str ds nx lv a_ cy x y)
def Nq ds str vr ly k:=∀(w:World)(nx:Nx)(lv:Nat->Nat),GL w ds str nx vr ly lv->hc nx ds<=k->∀x y,x∈ds->y∈ds->Cq 365 #[nA x,nA y] w (agY ds str nx vr ly lv x y w)
def YL ds str nx0 lv0 x y nx vr ly l l' k w gk v wr:=
 ∃j gK li,Hid (gk=l.length-j)/\j<=l.length/\v=Nv j/\GL wr ds str gK vr ly li/\Fr (λb=>b∈ds) w wr/\wr.heap.size=w.heap.size/\hc gK ds<=k/\JL str nx gK l l' j/\vG str ds nx0 lv0 gK li/\rI str ds nx0 lv0 gK li x y
def Nr(IH:Nq ds str vr ly k):Nq ds str vr ly (k+1):=by
 intro w nx lv G hk x y hx hy;have⟨a,yP⟩:=G.hd x hx;have⟨b,Nt⟩:=G.hd y hy;have ha:a∈ds:=G.bD hx yP;have hb:b∈ds:=G.bD hy Nt;have HC:=ai<|p_ G hx yP;go_enter func365,ntmps365;go_wp2_with fail;refine HC.mono ?_;rintro e w1⟨rfl,eI,G1,F1,E1,z1⟩;have XI:=ai<|p_ G1 hy<|E1.bO _ _ Nt;clear HC;go_wp2_with fail;refine XI.mono ?_;rintro e w2⟨rfl,pR,G2,F2,E2,z2⟩;have E:=E1.trans E2;have FF:=F1.trans F2;have hca:=YM E ds;have Ho:pR a=none:=(E.bO _ _ yP).head;have tJ:pR b=none:=(E.bO _ _ Nt).head;have heq:=YN (G2.nd a ha).1 (G2.nd b hb).1;have⟨ca0,fa0,ca2,_,ca3⟩:=(G2.nd a ha).cells;have⟨cb0,fb0,cb2,_,cb3⟩:=(G2.nd b hb).cells;have HG2:=ai G2;clear XI;by_cases nI:a=b
 .subst nI;simp at heq
  go_wp2
  go_ret;exact⟨true,pR,lv,rfl,G2,FF,ae,ae,(JR.same str pR a).nK E yP Nt,λ_=>⟨vG.eqv G E,rI.eqv E⟩⟩
 .have hba:¬b=a:=λq=>nI q.symm;rw[show decide (a=b)=false by simp[nI]]at heq;have⟨lb2,_⟩:=(G2.nd b hb).lvl;have HL1:=ai<|QL _ w2 pR lv a (lv b) G2 ha<|br _;go_wp2_with fail;refine HL1.mono ?_;rintro e w3⟨rfl,nx3,lv3,D3,G3,F3,E3,z3,q3⟩;have⟨la3,_⟩:=(G3.nd a ha).lvl;have HL2:=ai<|QL _ w3 nx3 lv3 b (lv3 a) G3 hb<|br _;clear HL1 ca0 fa0 ca2 ca3 cb0 fb0 cb2 cb3 heq lb2 HG2;go_wp2_with fail;refine HL2.mono ?_;rintro e w4⟨rfl,CA,lv4,D4,G4,F4,E4,z4,q4⟩;have U':Hid (qA str CA ds lv lv4 a b):=ai ⟨lv3,D3,D4,q3.fwd G2<|E3.trans E4,q4.fwd G3 E4⟩;have HEQ:Hid (vG str ds nx lv CA lv):=ai<|vG.eqv G<|(E.trans E3).trans E4;have HMM:Hid (∀m,m∈ds->∀x,Hd CA m x->x∈ds):=ai λm hm x k=>G4.bD hm k;have Hn:=ai G;have HPT:Hid (∀a,a∈ds->∀c l,str a=some (c,l)->∀m∈l,m∈ds):=ai λx hx c l hs=>(G4.part hx hs).2;clear q3 q4;have E0:=E;clear E;have E:=(E0.trans E3).trans E4;have FF4:=(FF.trans F3).trans F4;clear hca Ho tJ;have hca:=YM E ds;have Ho:CA a=none:=(E.bO _ _ yP).head;have tJ:CA b=none:=(E.bO _ _ Nt).head;have⟨ca0,fa0,ca2,_,ca3⟩:=(G4.nd a ha).cells;have⟨cb0,fb0,cb2,_,cb3⟩:=(G4.nd b hb).cells;have HHD:Hid (∀m,m∈ds->∃x,Hd CA m x):=ai G4.hd;clear HL2 la3 F3 F4 G3 E3 E4
  cases XQ:str a with
  |none=>
   rw[XQ]at ca2;have ajH:w4.cell? ⟨a,3,none⟩=some (Sv ⟨#[]⟩):=ca2;clear ca2
   go_wp2
   go_ret;refine⟨true,ja CA a<|some b,lv4,rfl,G4.set ha hb<|λz hz=>?_,FF4.set (jm ha) 0 _,by simp[jz];omega,by have:=Nu (b:=b) Ho ha;omega,(JR.amh Ho XQ).nK E yP Nt,λ_=>⟨HEQ.trans (vG.link U' ha hb Ho tJ nI HHD HPT) HHD<|λU=>jH Ho,(rI.link U' ha hb Ho tJ nI HPT HMM).nK Hn E yP Nt⟩⟩;have⟨q,hq⟩:=G4.hd z hz;exact⟨_,hq.join Ho tJ nI⟩
  |some pa=>
   obtain⟨c,l⟩:=pa;have XS:=(G4.nd a ha).2.1;rw[XQ]at ca2 ca3 XS;have ajH:w4.cell? ⟨a,3,none⟩=some (Sv<|pn c):=ca2;have ami:w4.cell? ⟨a,4,none⟩=some (.slice (ly a).1 l.length (ly a).2):=ca3;obtain⟨CB,Iz,hlm,aE⟩:=XS;have hea:((pn c).toList==[])=false:=by rw[<-j6,beq_iff_eq];exact eP CB
   clear ca2 ca3
   cases XT:str b with
   |none=>
    rw[XT]at cb2;have ajI:w4.cell? ⟨b,3,none⟩=some (Sv ⟨#[]⟩):=cb2;clear cb2
    go_wp2
    go_ret;refine⟨true,ja CA b<|some a,lv4,rfl,G4.set hb ha<|λz hz=>?_,FF4.set (jm hb) 0 _,by simp[jz];omega,by have:=Nu (b:=a) tJ hb;omega,(JR.amj tJ XT).nK E yP Nt,λ_=>⟨HEQ.trans (vG.YJ U' ha hb Ho tJ nI HHD HPT) HHD<|λU=>jH tJ,(rI.YJ U' ha hb Ho tJ nI HPT HMM).nK Hn E yP Nt⟩⟩;have⟨q,hq⟩:=G4.hd z hz;exact⟨_,hq.join tJ Ho hba⟩
   |some pb=>
    obtain⟨c',l'⟩:=pb;have hPb:=(G4.nd b hb).2.1;rw[XT]at cb2 cb3 hPb;have ajI:w4.cell? ⟨b,3,none⟩=some (Sv<|pn c'):=cb2;have amk:w4.cell? ⟨b,4,none⟩=some (.slice (ly b).1 l'.length (ly b).2):=cb3;obtain⟨ajJ,anS,aml,ajK⟩:=hPb;have heb:((pn c').toList==[])=false:=by rw[<-j6,beq_iff_eq];exact eP ajJ
    clear cb2 cb3;by_cases oY:c=c'
    .subst oY;have hbb:((pn c).toList==(pn c).toList)=true:=ah;by_cases hlen:l.length=l'.length
     .have hle:((l.length:Int)==(l'.length:Int))=true:=by simp[hlen]
      have hcu:=Nu (b:=b) Ho ha;have hgs:∀z,z∈ds->∃y,Hd (ja CA a<|some b) z y:=λz hz=>by
       have⟨q,hq⟩:=G4.hd z hz;exact⟨_,hq.join Ho tJ nI⟩
      clear cb0 fb0 G1 F1 F2 G
      go_wp2
      go_quiet(fail);go_wp2_with fail;have LV0:Hid (vG str ds nx lv (ja CA a<|some b) lv4/\rI str ds nx lv (ja CA a<|some b) lv4 x y):=ai ⟨HEQ.trans (vG.link U' ha hb Ho tJ nI HHD HPT) HHD<|λU=>jH Ho,(rI.link U' ha hb Ho tJ nI HPT HMM).nK Hn E yP Nt⟩;have GS:=ai<|(G4.drewN nq).set ha hb hgs;have FS:=ai<|(FF4.drewN nq).set (b:=a) (jm ha) 0<|nA b;have zs:((w4.drewN nq).setCell ⟨a,0,none⟩<|nA b).heap.size=w.heap.size:=by simp[jz];show w4.heap.size=_;omega
      go_loopg[77] l.length (λgk v wr=>YL ds str nx lv x y (ja CA a<|some b) vr ly l l' (hc (ja CA a<|some b) ds) w gk v wr)
      case atStart=>exact⟨0,ja CA a<|some b,lv4,ai ah,jt _,rfl,GS,FS,zs,br _,JL.start _ _ _ _,LV0⟩
      case round=>
       clear GS FS zs LV0;obtain⟨j,gK,li,bE,hj,rfl,Gj,Fj,zj,hcj,JLj,LVj⟩:=hrel;have HLV:=ai LVj;have HHJ:Hid (∀m,m∈ds->∃x,Hd gK m x):=ai Gj.hd;clear LVj;by_cases aI:j<l.length
       .have hd:(j:Int)<(l.length:Int):=ae;have xF:j<l'.length:=ae;have hd':(j:Int)<(l'.length:Int):=ae;have⟨ga,ea,ra,_⟩:=Gj.row ha XQ aI;have⟨gb,eb,rb,_⟩:=Gj.row hb XT xF;have⟨_,_,_,_,qa⟩:=(Gj.nd a ha).cells;have⟨_,_,_,_,qb⟩:=(Gj.nd b hb).cells;rw[XQ,ea]at qa;rw[XT,eb]at qb;have qa':wr.cell? ⟨a,4,none⟩=some (Lv (some ⟨ga,0,none⟩) l.length (ly a).2):=qa;have qb':wr.cell? ⟨b,4,none⟩=some (Lv (some ⟨gb,0,none⟩) l'.length (ly b).2):=qb
        have HJ:Hid (∀W,W=wr.drew->Cq 365 #[nA l[j],nA l'[j]] W λe w'=>∃ok a_ cy,e=Rv (.bool ok)/\GL w' ds str a_ vr ly cy/\Fr (λb=>b∈ds) wr w'/\w'.heap.size=wr.heap.size/\hc a_ ds<=hc (ja CA a<|some b) ds/\JR str gK a_ l[j] l'[j] ok/\(ok=true->vG str ds gK li a_ cy/\rI str ds gK li a_ cy l[j] l'[j])/\(w'.cell? ⟨a,4,none⟩=some (Lv (some ⟨ga,0,none⟩) l.length (ly a).2)/\w'.cell? ⟨b,4,none⟩=some (Lv (some ⟨gb,0,none⟩) l'.length (ly b).2)/\w'.cell? ⟨ga,j,none⟩=some (nA l[j])/\w'.cell? ⟨gb,j,none⟩=some (nA l'[j]))):=ai (λW hW=>by
         subst hW;refine(IH wr.drew gK li Gj.drew ae l[j] l'[j] (hlm _<|jd _)<|aml _<|jd _).mono ?_;rintro e w5⟨ok,nx5,lv5,rfl,G5,F5,z5,h5,J5,L5⟩;have⟨ga5,ea5,ra5,_⟩:=G5.row ha XQ aI;have⟨gb5,eb5,rb5,_⟩:=G5.row hb XT xF;have⟨_,_,_,_,pa⟩:=(G5.nd a ha).cells;have⟨_,_,_,_,pb⟩:=(G5.nd b hb).cells;rw[XQ,ea]at pa;rw[XT,eb]at pb;rw[ea]at ea5;rw[eb]at eb5
         cases ea5
         cases eb5
         exact⟨ok,nx5,lv5,rfl,G5,(Fr.refl _ wr).drew.trans F5,z5,jq h5 hcj,J5,L5,pa,pb,ra5,rb5⟩)
        clear ea eb qa qb aE ajK ajH ajI ami amk heb hea hbb hle IH
        go_wp2
        go_region_held3(λw'=>w'.cell? ⟨a,4,none⟩=some (Lv (some ⟨ga,0,none⟩) l.length (ly a).2)/\w'.cell? ⟨b,4,none⟩=some (Lv (some ⟨gb,0,none⟩) l'.length (ly b).2)/\w'.cell? ⟨ga,j,none⟩=some (nA l[j])/\w'.cell? ⟨gb,j,none⟩=some (nA l'[j])) (first|go_keep|(simp[*])) (first|(go_at_call 365;refine(HJ _ rfl).mono ?_;rintro e w5⟨ok,nx5,lv5,rfl,hG5,hF5,hz5,h5,hJ5,hL5,k1,k2,k3,k4⟩;have HL5:=ai hL5;clear hL5;have HG5:=ai hG5;have HF5:=ai hF5;have HZ5:=ai hz5;have HJ5:=ai hJ5;clear hG5 hF5 hz5 hJ5))
        all_goals(
         cases ok with
         |true=>
          go_wp2
          go_roundg(l.length-(j+1))
          case measure=>rw[uh bE];omega
          case rel=>exact⟨j+1,nx5,lv5,ai rfl,ae,d_,HG5,Fj.trans HF5,HZ5.trans zj,h5,JLj.step aI xF HJ5,HLV.1.trans (HL5 trivial).1 HHJ<|λU q=>((HJ5.yes rfl).1 U).1 q|>.1,rI.step HLV.1 HLV.2 yP Nt ha hb XQ XT (jd _) (jd _) HPT Hn.hd HHJ (HL5 trivial).2⟩
         |false=>
          go_wp2
          go_ret
          exact⟨false,nx5,lv5,rfl,HG5,Fj.trans HF5,HZ5.trans zj,ae,(JL.fail Ho XQ XT JLj aI xF HJ5).nK E yP Nt,λq=>eh⟩)
       .have hd:decide ((j:Int)<(l.length:Int))=false:=bi;have ej:j=l.length:=ae;subst ej
        go_wp2
        go_ret;exact⟨true,gK,li,rfl,Gj,Fj,zj,ae,(JL.done Ho XQ XT hlen JLj).nK E yP Nt,λ_=>HLV⟩
     .have hle:((l.length:Int)==(l'.length:Int))=false:=bi
      go_wp2
      go_quiet(fail)
      go_wp2
      go_ret;exact⟨false,CA,lv4,rfl,G4.drewN _,FF4.drewN _,by show w4.heap.size=_;omega,ae,(JR.afQ XQ XT<|jo hlen).nK E yP Nt,λq=>eh⟩
    .have hbb:((pn c).toList==(pn c').toList)=false:=by rw[<-j6,beq_iff_eq];exact λq=>oY<|agZ CB ajJ q
     go_wp2
     go_quiet(fail)
     go_wp2
     go_ret;exact⟨false,CA,lv4,rfl,G4.drewN _,FF4.drewN _,by show w4.heap.size=_;omega,ae,(JR.afQ XQ XT<|jm oY).nK E yP Nt,λq=>eh⟩
def YO:∀k,Nq ds str vr ly k
 |0=>λw nx lv G hk x y hx hy=>by
  have⟨a,yP⟩:=G.hd x hx;have:=ag0 (G.bD hx yP) yP.head;omega
 |k+1=>Nr<|YO k
mutual
def YP{σ τ:Nat->Ty}{n:Nat}:∀t,sub σ t=sub τ t->aG n t->σ n=τ n
 |.var m,h,o=>by simp only[aG]at o;subst o;simpa[sub]using h|.aM c l,h,o=>by simp only[sub,Ty.aM.injEq,true_and]at h;exact QO l h o
def QO{σ τ:Nat->Ty}{n:Nat}:∀l,ba σ l=ba τ l->ck n l->σ n=τ n
 |[],_,o=>by simp[ck]at o|t::l,h,o=>by
  simp only[ba,List.cons.injEq]at h;obtain o|o:=o
  .exact YP t h.1 o
  .exact QO l h.2 o
end
def adF{a b}(one:sub θ a=sub θ b)(gen:∀σ,sub σ a=sub σ b->∀v,sub σ (θ v)=σ v)(idem:∀v x,aG x (θ v)->θ x=.var x):In.BT θ a b:=by
 classical
 let σ1:Nat->Ty:=λv=>if aG v a\/aG v b then θ v else .var v;have e1:∀v,aG v a\/aG v b->σ1 v=θ v:=λv h=>if_pos h;have e2:∀v,¬(aG v a\/aG v b)->σ1 v=.var v:=λv h=>if_neg h;have u1:sub σ1 a=sub σ1 b:=by rw[sub_congr a λn o=>e1 n<|jm o,sub_congr b λn o=>e1 n<|jo o];exact one
 refine⟨one,gen,λv h1 h2=>?_,λv n hv hn=>?_⟩
 .have hv:¬(aG v a\/aG v b):=λq=>q.elim h1 h2;have g:=gen σ1 u1 v;rw[e2 v hv]at g
  cases ht:θ v with
  |aM c l=>rw[ht]at g;simp[sub]at g|var x=>
   rw[ht]at g;simp only[sub]at g;by_cases hx:aG x a\/aG x b
   .rw[e1 x hx,idem v x (by rw[ht];rfl)]at g;exact g
   .grind
 .refine jv λqB=>?_;let σ2:Nat->Ty:=λx=>if x=n then .aM o6 []else σ1 x;have f1:∀x,x≠n->σ2 x=σ1 x:=λx h=>if_neg h;have u2:sub σ2 a=sub σ2 b:=by rw[sub_congr a λx o=>f1 x<|λe=>qB<|jm<|e▸o,sub_congr b λx o=>f1 x<|λe=>qB<|jo<|e▸o];exact u1
  have hvn:v≠n:=λe=>qB<|e▸hv;have g1:=gen σ1 u1 v;have g2:=gen σ2 u2 v;rw[f1 v hvn]at g2;have:=YP _ (g1.trans g2.symm) hn;rw[e2 n qB]at this;have f2:σ2 n=.aM o6 []:=if_pos rfl;rw[f2]at this
  cases this
section
variable {nx:Nx}
def IJ(g:JG ds str nx vr)(k:yO nx m n):U_ nx m=U_ nx n:=by grind[nx,yO,U_,nJ]
def QP:∀{l l' hs:List Nat},gD (yO nx) l l'->gD (Hd nx) l' hs->gD (Hd nx) l hs
 |[],_,_,.nil,.nil=>.nil|_::_,_,_,.cons p q,.cons r s=>by
  refine .cons ?_<|QP q s;obtain rfl|⟨x,p1,p2⟩:=p
  .exact r
  .rw[r.one p2];exact p1
def yQ{E:Nat->Nat->Prop}{f k:Nat->Ty}:∀{l m:List Nat},gD E l m->(∀p x,p∈l->x∈m->E p x->f p=k x)->l.map f=m.map k
 |[],_,.nil,_=>rfl|_::_,_,.cons r s,h=>by
  simp only[ji];rw[h _ _ ah ah r,yQ s λp x hp hx=>h p x (by simp[hp])<|by simp[hx]]
def YQ(g:JG ds str nx vr)(hV:Can str nx vr V)(g':JG ds str a_ vr)(jr:JR str nx a_ a b true)(hF:jc str a_ vr F VF)(hh:Hd a_ a h)(hFh:F h)(ha:a∈ds)(hb:b∈ds):∃U,mr str a_ U:=by
 classical
 let σ:Nat->Ty:=λv=>if q:∃x,Rt ds str nx vr v x then(if F (U_ a_ q.choose)then VF (U_ a_ q.choose)else .var v)else .var v;have hσ:∀v x,Rt ds str nx vr v x->F (U_ a_ x)->σ v=VF (U_ a_ x):=λv x r f=>by
  have q:∃x,Rt ds str nx vr v x:=⟨x,r⟩;have e:q.choose=x:=q.choose_spec.one g r;show(if q:∃x,Rt ds str nx vr v x then _ else _)=_;rw[dif_pos q,e,if_pos f]
 have Eo:=jr.eqs [] _ g'.eq;have key:∀k n,n∈ds->size (V n)<=k->F (U_ a_ n)->sub σ (V n)=VF (U_ a_ n):=by
  intro k
  induction k with
  |zero=>intro n _ hz;have:=size_pos<|V n;omega|succ k ih=>
   intro n hn hz hf;have⟨x,hx⟩:=g.Nm n;have hd:=g.bO n x hn hx;have e:=hV n x hx;have iO:=IJ g'<|hx.eq Eo;rw[iO]at hf⊢
   cases hs:str x with
   |none=>
    rw[hs]at e;rw[e];exact hσ _ x ⟨hd,hx.head,hs,rfl⟩ hf
   |some q=>
    obtain⟨c,l⟩:=q;rw[hs]at e;have e:V n=.aM c (l.map V):=e;have⟨y,hy⟩:=g'.Nm x;rw[nJ hy]at hf⊢;have⟨l',h1,h2⟩:=Nn g' hy hs;have⟨_,h3⟩:=hF y hf;rw[h1]at h3;obtain⟨BU,h4,h5,h6⟩:=h3;rw[e,h6];simp only[sub];rw[jC];congr 1;have h7:=QP h2 h4;have IA:∀p,p∈l->p∈ds/\size (V p)<=k:=λp hp=>⟨g.XO x c l hd hs p hp,by have:=jB (c:=c) (U:=V) hp;rw[<-e]at this;omega⟩;exact yQ h7 λp z hp gC r=>by
     have:=ih p (IA p hp).1 (IA p hp).2 (by rw[nJ r];exact h5 z gC);rw[this,nJ r]
 have sV:=hV.m7 g;refine⟨λn=>sub σ<|V n,((jr.yes rfl).1 _).2 ⟨⟨λn c l hs=>?_,λn m e=>by rw[sV.bz n m e]⟩,?_⟩⟩
 .rw[sV.made n c l hs];simp only[sub];rw[jC]
 .have nI:=(jr.yes rfl).2.2 [] _ g'.eq;have eab:=IJ g' nI;show sub σ (V a)=sub σ (V b);rw[key _ a ha (br _) (by rw[nJ hh];exact hFh),key _ b hb (br _) (by rw[<-eab,nJ hh];exact hFh),eab]
structure ajL(ds:List Nat)str nx a_ vr(V V':Nat->Ty)θ a b:Prop where
 can:Can str a_ vr V'
 val:∀n,n∈ds->V' n=sub θ (V n)
 mgu:In.BT θ (V a) (V b)
 rt:∀v x,Rt ds str nx vr v x->θ v=V' x
 no:∀v,(¬∃x,Rt ds str nx vr v x)->θ v=.var v
def YR{lv}(g:JG ds str nx vr)(hV:Can str nx vr V)(g':JG ds str a_ vr)(jr:JR str nx a_ a b true)(lr:vG str ds nx lv a_ cy)(hF:jc str a_ vr F VF)(hh:Hd a_ a h)(hFh:F h)(ha:a∈ds)(hb:b∈ds):∃V' θ,ajL ds str nx a_ vr V V' θ a b:=by
 have⟨U,hU⟩:=YQ g hV g' jr hF hh hFh ha hb;have⟨V',hV'⟩:=agW g' hU;have sV':=hV'.m7 g';have sV:=hV.m7 g;have sVn:=(((jr.yes rfl).1 V').1 sV').1;have hrt:∀v x,Rt ds str a_ vr v x->Rt ds str nx vr v x:=λv x r=>⟨r.1,lr.gr x r.2.1,r.2.2⟩;have val:∀n,n∈ds->V' n=sub (tau ds str nx vr V') (V n):=λn hn=>Ep g hV sVn _ n hn<|br _;have rt:∀v x,Rt ds str nx vr v x->tau ds str nx vr V' v=V' x:=λv x r=>Np g r;have no:∀v,(¬∃x,Rt ds str nx vr v x)->tau ds str nx vr V' v=.var v:=λv q=>agX q;have nI:=(jr.yes rfl).2.2 [] _ g'.eq;refine⟨V',tau ds str nx vr V',hV',val,adF ?_ (λσ e v=>?_)<|λv x o=>?_,rt,no⟩
 .rw[<-val a ha,<-val b hb];exact hV'.same nI
 .have hW:mr str a_ (λn=>sub σ<|V n):=((jr.yes rfl).1 _).2 ⟨⟨λn c l hs=>by rw[sV.made n c l hs];simp only[sub];rw[jC],λn m e=>by rw[sV.bz n m e]⟩,e⟩;have hWn:∀n,n∈ds->sub σ (V n)=sub σ (V' n):=λn hn=>by
   have h1:=Ep g' hV' hW _ n hn<|br _;have h1:=h1;rw[h1];refine sub_congr _ λw o=>?_;have⟨y,hy⟩:=g'.Nm n;have⟨x,r,_⟩:=e_ (lv:=cy) g' hV' _ n y hn hy (br _) o;rw[Np g' r];show sub σ (V x)=σ w;rw[(hrt w x r).val hV];rfl
  by_cases q:∃x,Rt ds str nx vr v x
  .obtain⟨x,r⟩:=q;rw[rt v x r,<-hWn x r.1,r.val hV];rfl
  .rw[no v q];rfl
 .by_cases q:∃y,Rt ds str nx vr v y
  .obtain⟨y,r⟩:=q;rw[rt v y r]at o;have⟨z,hz⟩:=g'.Nm y;have⟨x',r',_⟩:=e_ (lv:=cy) g' hV' _ y z r.1 hz (br _) o;rw[rt x x'<|hrt x x' r',r'.val hV']
  .have q':=no v q;rw[q']at o;simp only[aG]at o;subst o;exact q'
def Lo ds str nx(vr lv:Nat->Nat)i v:=∃x,Rt ds str nx vr v x/\lv x<=i
def YS{lv}{V'}(g:JG ds str nx vr)(hV:Can str nx vr V)(g':JG ds str a_ vr)(lr:vG str ds nx lv a_ cy)(hl:LC str ds nx lv)(jw:ajL ds str nx a_ vr V V' θ a b)i w:Lo ds str a_ vr cy i w↔∃v,Lo ds str nx vr lv i v/\aG w (θ v):=by
 constructor
 .rintro⟨x,r,hx⟩
  have hL:=lr.low i V' (jw.can.m7 g') (λt=>∀w,aG w t->∃v,Lo ds str nx vr lv i v/\aG w (θ v)) (λc ts q t ht w o=>q w (by
   simp only[aG];clear q
   induction ts with
   |nil=>simp at ht|cons y ts ih=>
    obtain e|e:=List.mem_cons.1 ht
    .subst e;exact jm o
    .exact jo (ih e))) (λm hm y hy YT w o=>by
   rw[jw.val m hm]at o;have⟨v,o1,o2⟩:=(j8 _).1 o;have⟨z,r1,r2⟩:=e_ (lv:=lv) g hV _ m y hm hy (br _) o1
   exact⟨v,⟨z,r1,jq (r2 hl) YT⟩,o2⟩) x r.1 x (.here r.2.1) hx
  exact hL w (by rw[r.val jw.can];rfl)
 .rintro⟨v,⟨x,r,hx⟩,o⟩;rw[jw.rt v x r]at o;have⟨y,hy⟩:=g'.Nm x;have⟨z,r1,r2⟩:=e_ (lv:=cy) g' jw.can _ x y r.1 hy (br _) o;exact⟨z,r1,jq (r2<|lr.lc hl)<|jq (lr.mono x r.1 x y (.here r.2.1) hy) hx⟩
end
section
variable {nx:Nx} {lv:Nat->Nat}
theorem GL.move(h:GL w ds str nx vr ly lv)(hs:w.heap.size<=w'.heap.size)(hb:∀b i v,w.cell? ⟨b,i,none⟩=some v->w'.heap[b]? =w.heap[b]?):GL w' ds str nx vr ly lv:=by
 refine⟨λn hn=>?_,h.out,h.hd⟩;have hc:=(h.nd n hn).cells.1;have⟨h1,h2,h3⟩:=h.nd n hn;exact⟨(hb n 0 _ hc).trans h1,h2.move hs hb,h3⟩
def yN.lt(h:yN w ds str nx vr ly lv n):n<w.heap.size:=(Array.getElem?_eq_some_iff.1 h.1).1
end
def GL.one{w w':World}{b}{ds:List Nat}{str:tO}{nx}{vr:Nat->Nat}{ly:Nat->Option Addr×Nat}{lv}(h:GL w ds str nx vr ly lv)(o:One b w w')(h1:¬b∈ds)(h4:∀m∈ds,∀c l g,str m=some (c,l)->l≠[]->(ly m).1=some ⟨g,0,none⟩->g≠b):GL w' ds str nx vr ly lv:=by
 refine⟨λn hn=>?_,h.out,h.hd⟩;have⟨p1,p2,p3⟩:=h.nd n hn;have cJ:n≠b:=λe=>h1<|e▸hn;refine⟨(o.block n cJ).trans p1,?_,p3⟩;have h5:=h4 n hn
 cases hs:str n with
 |none=>trivial|some p=>
  obtain⟨c,l⟩:=p;rw[hs]at p2;obtain⟨q1,q2,q3,q4⟩:=p2;refine⟨q1,q2,q3,?_⟩;by_cases e:l=[]
  .exact jm e
  .have⟨g,r1,r2,r3,r4⟩:=q4.resolve_left e;have hg:=h5 c l g hs e r1;refine jo ⟨g,r1,r2,by rw[o.size];exact r3,λi hi=>?_⟩;rw[j3 (a:=⟨g,i,none⟩) (w:=w)<|o.block g hg];exact r4 i hi
def GL.ajM{nx}{lv}(h:GL w ds str nx vr ly lv)(hm:m∈ds){g}(hs:str m=some (c,l))(hl:l≠[])(hg:(ly m).1=some ⟨g,0,none⟩):g<w.heap.size:=by
 have⟨_,p2,_⟩:=h.nd m hm;rw[hs]at p2;have⟨g',r1,_,r3,_⟩:=p2.2.2.2.resolve_left hl;rw[hg]at r1;injection r1 with r1;injection r1 with r1;subst r1;exact r3
def Vb ds str nx vr ly lv T w(e:Ending)w':=
 ∃u a_,e=.returned u/\eN w' (λb=>w.heap.size<=b) T u/\GL w' ds str a_ vr ly lv/\iF str nx a_/\Fr (λb=>b∈ds) w w'
def Nw ds str vr ly lv F V k:=
 ∀(w:World)(nx:Nx)(n h:Nat),GL w ds str nx vr ly lv->jc str nx vr F V->n∈ds->Hd nx n h->F h->size (V h)<=k->Cq 340 #[nA n] w (Vb ds str nx vr ly lv (V h) w)
def YU ds str nx vr ly lv N(L:List Ty)w gk v wr:=
 ∃(j:Nat)(C:Array Value)(gK:Nx),Hid (gk=N-j)/\j<=N/\v=Nv j/\GL wr ds str gK vr ly lv/\iF str nx gK/\Fr (λb=>b∈ds) w wr/\Bx wr w.heap.size C/\Hid (C.size=N)/\
  Hid (∀i(h:i<L.length),i<j->∃u,C[i]? =some u/\eN wr (λb=>w.heap.size<b/\b<wr.heap.size) L[i] u)
section
variable {lv:Nat->Nat}
def Ny(IH:Nw ds str vr ly lv F V k):Nw ds str vr ly lv F V (k+1):=by
 intro w nx n h G0 hF hn hd hFh kX;have hh:h∈ds:=G0.bD hn hd;have HC:=ai<|p_ G0 hn hd;go_enter func340,ntmps340;go_wp2_with fail;refine HC.mono ?_;rintro e w1⟨rfl,eI,G1,F1,E1,z1⟩;have hF1:=Fin.eqv hF E1;obtain⟨c0,f0,c2,c1,c3⟩:=(G1.nd h hh).cells;have XS:=(G1.nd h hh).2.1;obtain⟨_,hV⟩:=hF1 h hFh;have xD:∀x∈ds,x<w1.heap.size:=λx hx=>(G1.nd x hx).lt;clear HC G0 hF
 cases hs:str h with
 |none=>
  rw[hs]at c2 hV;have c2':w1.cell? ⟨h,3,none⟩=some (.string ⟨#[]⟩):=c2;clear c2 c3 XS;have hV':V h=.var (vr h):=hV;clear hV
  go_wp2
  go_ret;refine⟨_,eI,rfl,?_,G1,E1,F1⟩;rw[hV'];exact .var _
 |some p=>
  obtain⟨c,l⟩:=p;rw[hs]at c2 hV c3 XS;obtain⟨CB,hl,hld,_⟩:=XS;have c2':w1.cell? ⟨h,3,none⟩=some (.string<|pn c):=c2;have c3':w1.cell? ⟨h,4,none⟩=some (.slice (ly h).1 l.length (ly h).2):=c3;have cJ:((pn c).toList==[])=false:=by
   rw[<-j6,beq_iff_eq];exact eP CB
  obtain⟨iO,a2,BV,hVh⟩:=hV;have hlen:=yM a2;obtain⟨i0,m6,ku,gS,gC⟩:=info_parts iP;have Hi:=lE (by_:=16) fI m6 ku rfl gS gC aA l.length hl;rw[hVh]at kX;have amm:∀x∈iO,size (V x)<=k:=λx hx=>by have:=mB (V:=V) hx;simp[size]at kX;omega
  have HL:=ai hlen;have HZ:=ai z1;have HV:=ai hVh;obtain⟨sa,HA⟩:∃sa,Hid<|(ly h).1=sa:=⟨_,ai rfl⟩;rw[uh HA]at c3';clear c2 c3 hlen z1 hVh
  go_wp2
  go_loopg[29] l.length (λgk v wr=>YU ds str eI vr ly lv l.length (iO.map V) w1 gk v wr)
  case atStart=>
   have b8:Bq w1 (w1.alloc<|.cells (Array.replicate l.length .nilIface) 98):=bw _;refine⟨0,Array.replicate l.length .nilIface,eI,ai ah,jt _,rfl,G1.move b8.size<|λb i v hc=>b8.block b<|iQ hc,iF.refl _ _,Fr.of b8,Bx.new w1 _ _,ai ah,ai<|λi _ hi=>absurd hi<|ju _⟩
  case round=>
   obtain⟨j,C,gK,bE,hj,rfl,GJ,EJ,FJ,BJ,hC,hT⟩:=hrel;have zw:=FJ.size;have zb:=BJ.z;obtain⟨d0,e0,d2,d1,d3⟩:=(GJ.nd h hh).cells;rw[hs]at d2;have d2':wr.cell? ⟨h,3,none⟩=some (.string<|pn c):=d2;clear d0 e0 d2 d1 d3 c0 f0 c1 c2' c3' Hi;by_cases aI:j<l.length
   .have hdj:(j:Int)<(l.length:Int):=ae;obtain⟨ga,ea,cg,hga⟩:=GJ.row hh hs aI;have xF:j<iO.length:=by rw[<-uh HL];exact aI
    have hdh:=EJ.bO _ _<|Ek a2 j aI xF;have HC:=IH wr gK l[j] iO[j] GJ (Fin.eqv hF1 EJ) (hld _<|jd aI) hdh (BV _<|jd xF)<|amm _<|jd xF;have ea':=HA.symm.trans ea;subst ea';clear ea;go_wp2_with fail;refine HC.mono ?_;rintro e w2⟨u,pR,rfl,hU,G2,E2,F2⟩;obtain⟨tu,xu,rfl⟩:=hU.iface;have hpb:¬w1.heap.size∈ds:=λq=>by have:=xD _ q;omega
    have B2:=BJ.fr F2 hpb;have Bp:j<C.size:=qBh;have cj:w2.cell? ⟨w1.heap.size,j,none⟩=some C[j]:=(B2.c j).trans<|Array.getElem?_eq_getElem Bp;have fj:=B2.f j;have B3:=ai<|B2.aP j (.iface tu xu) (C.setIfInBounds j<|.iface tu xu) rfl Bp;have HU:=ai hU;have HF:=ai F2;have xX:=ai<|FJ.trans F2;have HE:=ai<|EJ.trans E2;have z2:=F2.size;have G3:=ai (G2.one (One.cell w2 w1.heap.size j<|.iface tu xu) hpb (λm hm c' l' g' e1 e2 e3=>by have:=G1.ajM hm e1 e2 e3;omega));clear HC hU G2 E2 F2 B2 cg d2'
    go_wp2
    go_roundg(l.length-(j+1))
    case measure=>rw[uh bE];omega
    case rel=>
     refine⟨j+1,C.setIfInBounds j<|.iface tu xu,pR,ai rfl,ae,d_,G3,HE,xX.set (jo<|br _) j _,B3,ai (by simp;exact hC),ai<|λi hi hij=>?_⟩;have lF:∀b,w1.heap.size<b->b<w2.heap.size->(w2.setCell ⟨w1.heap.size,j,none⟩<|.iface tu xu).heap[b]? =w2.heap[b]? :=λb hb _=>jy _ _ _ _ (by show b≠w1.heap.size;omega);have Yu:(w2.setCell ⟨w1.heap.size,j,none⟩<|.iface tu xu).heap.size=w2.heap.size:=yG;by_cases e:i=j
     .subst e;refine⟨.iface tu xu,by simp[Bp],?_⟩;rw[List.getElem_map];exact HU.low.move ae (λb p z=>lF b qAy z)<|λb p z=>⟨qAy,ae⟩
     .obtain⟨u',x_,Ir⟩:=uh hT i hi ae;refine⟨u',by rw[Array.getElem?_setIfInBounds_ne ae];exact x_,?_⟩;have h3:=Ir.fr HF (λb p _ q=>by have:=xD _ q;omega);exact h3.move ae (λb p z=>lF b p.1 z)<|λb p z=>⟨p.1,ae⟩
   .have hdj:decide ((j:Int)<(l.length:Int))=false:=bi;have ej:j=l.length:=ae;subst ej
    go_wp2
    go_ret;refine⟨_,gK,rfl,?_,GJ,E1.trans EJ,F1.trans FJ⟩;have hlm:(iO.map V).length=l.length:=by rw[List.length_map];exact HL.symm
    rw[uh HV,<-hlm];have z1:=uh HZ;refine .aM c _ _ _ (λi=>C.getD i .nilIface) CB (jo ⟨w1.heap.size,rfl,by show w.heap.size<=w1.heap.size;omega,zb,λi hi=>?_⟩) (λi hi=>?_)
    .obtain⟨u,hu,_⟩:=uh hT i hi ae;rw[BJ.c i,hu];simp[Array.getD_eq_getD_getElem?,hu]
    .obtain⟨u,hu,hty⟩:=uh hT i hi ae;have:C.getD i .nilIface=u:=qBm;rw[this];exact hty.wide λb p=>qAu
def QT:∀k,Nw ds str vr ly lv F V k
 |0=>λw nx n h G hF hn hd hFh kX=>absurd kX (by have:=size_pos<|V h;omega)|k+1=>Ny<|QT k
end
def QU{w:World}{ds:List Nat}{str:tO}{nx:Nx}{vr:Nat->Nat}{ly:Nat->Option Addr×Nat}{lv:Nat->Nat}(G:GL w ds str nx vr ly lv):∀l:List Nat,(∀m∈l,m∈ds)->∃hs,gD (Hd nx) l hs
 |[],_=>⟨[],.nil⟩|x::l,h=>by
  have⟨y,hy⟩:=G.hd x<|h x ah;have⟨hs,q⟩:=QU G l λm hm=>h m (by simp[hm]);exact⟨y::hs,.cons hy q⟩
def Vc ds str nx vr ly lv sb M(F:Nat->Prop)B(V:Nat->Ty)n w(e:Ending)w':=
 ∃a_,GL w' ds str a_ vr ly lv/\iF str nx a_/\Fr (λb=>b∈ds\/b=sb) w w'/\
  ((∃M' F' V' h,e=.returned (.tuple #[.int .i64 ((min (size<|V' h) 49:Nat):Int),.bool true])/\Hd nx n h/\F' h/\(∀x,F x->F' x/\V' x=V x)/\SZ ds str a_ vr M' F' B V'/\MS BQ w' sb M'/\(∀x,bd x M'=none->bd x M=none))\/
   (e=.returned (.tuple #[Iv 0,.bool false])/\∀W,¬mr str nx W))
def Er ds str vr ly lv sb k:=
 ∀(w:World)(nx:Nx)(M:List (Nat×Value))(F:Nat->Prop)(B:List Nat)(V:Nat->Ty)(n:Nat),GL w ds str nx vr ly lv->SZ ds str nx vr M F B V->MS BQ w sb M->n∈ds->(∀W,mr str nx W->∀b∈B,size (W n)<size (W b))->mu M ds<k->
  Cq 351 #[.agg #[Iv 48,Mv sb],nA n] w (Vc ds str nx vr ly lv sb M F B V n w)
def QX ds str nx vr ly lv sb bx M(F:Nat->Prop)B(V:Nat->Ty)N(hs:List Nat)w gk u v wr:=
 ∃(j:Nat)(gK:Nx)(Mj:List (Nat×Value))(Fj:Nat->Prop)(Vj:Nat->Ty)(sz:Nat),Hid (gk=N-j)/\j<=N/\u=Nv sz/\v=Nv j/\sz<=49/\Hid (sz=min (1+ak ((hs.take j).map Vj)) 49)/\GL wr ds str gK vr ly lv/\iF str nx gK/\Fr (λb=>b∈ds\/b=sb) w wr/\Bx wr bx #[Iv 48,Mv sb]/\
  Hid (SZ ds str gK vr Mj Fj B Vj)/\MS BQ wr sb Mj/\Hid ((∀x,F x->Fj x/\Vj x=V x)/\(∀x,bd x Mj=none->bd x M=none)/\∀x∈hs.take j,Fj x)
section
variable {lv:Nat->Nat}
def Nz(IH:Er ds str vr ly lv sb k):Er ds str vr ly lv sb (k+1):=by
 intro w nx M F B V n G0 HS M0 hn hB hmu;have⟨h,HD⟩:=G0.hd n hn;have hh:=G0.bD hn HD;have⟨b8,BA⟩:=Hu w #[.int .i64 48,.map<|some sb] 492;have GA:=G0.move b8.size<|λb i v hc=>b8.block b<|iQ hc;have HC:=p_ GA hn HD;have zs:=M0.lt;have MA:=M0.below b8;have xD:∀x∈ds,x<w.heap.size:=λx hx=>(G0.nd x hx).lt;have hsd:¬sb∈ds:=λq=>by have:=(G0.nd sb q).cells.1;rw[M0.qC 0]at this;cases this
 have tJ:¬w.heap.size∈ds:=λq=>by have:=xD _ q;omega
 go_enter func351,ntmps351;go_wp2_with fail;refine HC.mono ?_;rintro e w1⟨rfl,eI,G1,F1,E1,HZ⟩;have B1:=BA.fr F1 tJ;have HM:=MA.same (F1.block sb (by have:=b8.size;omega) hsd);have HOK:∀x∈ds,∃c t,w1.heap[x]? =some (Cv c t (0,0)):=λx hx=>⟨_,_,(G1.nd x hx).1⟩;have hl:=HM.look YE Tryz.underlying490 (QY w1) h (HOK h hh) (λp hp=>HOK p.1<|HS.kd p hp) true;have ca:=B1.c 0;have cb:=B1.c 1;have ca':=ca;have cb':=cb;have FF:Fr (λb=>b∈ds\/b=sb) w w1:=(Fr.of b8).trans' F1<|λx q=>Or.inl<|Or.inl q;have HD1:=E1.bO _ _ HD;clear HC GA BA MA G0 M0 ca cb
 cases hg:bd h M with
 |some v=>
  rw[hg]at hl;simp at hl;obtain q|q:=HS.gm h v hg
  .have hv:=HS.fg h q;rw[hg]at hv;injection hv with hv;subst hv;have HP:=QI<|V h;have lG:((((min (size<|V h) 49:Nat)):Int)==0)=false:=by simpa using HP
   generalize hq:(((min (size<|V h) 49:Nat)):Int)=sz at*
   go_wp2
   go_ret2;refine⟨eI,G1,E1,FF,jm ⟨M,F,V,h,?_,HD,q,λx hx=>⟨hx,rfl⟩,HS.eqv E1,HM,λ_ hx=>hx⟩⟩;have e1:(sz !=0)=true:=by simpa using HP
   rw[hq];show Rv (Value.tuple #[.int .i64 sz,.bool<|sz !=0])=_;rw[e1]
  .have hv:=HS.bg h q;rw[hg]at hv;injection hv with hv;subst hv
   go_wp2
   go_ret2;refine⟨eI,G1,E1,FF,jo ⟨rfl,λW hW=>?_⟩⟩;have:=hB W hW h q;rw[HD.m7 hW]at this;omega
 |none=>
  rw[hg]at hl;simp at hl;have⟨c0,f0,c2,c1,c3⟩:=(G1.nd h hh).cells;have XS:=(G1.nd h hh).2.1;obtain⟨l,HLs,Iz,hld⟩:∃l:List Nat,Hid ((str h=none/\l=[])\/∃c,str h=some (c,l))/\slN (str h)=l.length/\∀m∈l,m∈ds:=by
   cases hs:str h with
   |none=>exact⟨[],ai<|jm ⟨rfl,rfl⟩,rfl,ah⟩|some p=>
    rw[hs]at XS;exact⟨p.2,ai<|jo ⟨p.1,rfl⟩,rfl,XS.2.2.1⟩
  have anT:l.length<=1001:=by
   obtain⟨_,e⟩|⟨c,e⟩:=uh HLs
   .subst e;simp
   .rw[e]at XS;exact XS.2.1
  have⟨hs,a2⟩:=QU G1 l hld;have HL:=yM a2;obtain⟨sa,HA⟩:∃sa,Hid<|(ly h).1=sa:=⟨_,ai rfl⟩;rw[uh HA,Iz]at c3;have c3':=c3;have HS:=HS.eqv E1;have kdS:=HS.kd;have hhb:h≠sb:=λe=>hsd<|e▸hh;clear c3 Iz c0 c1 c2 f0 XS;go_wp2_with(refine aY _ rfl _ _ _ _ (jo rfl) YE Tryz.underlying490 _ _ rfl HM h (.int .i64 0) rfl rfl (HOK h hh) (λp hp=>HOK p.1<|kdS p hp) ?_;intro w2 H' O';have wZ:=ai H';have O2:=O';clear H' O';have amn:w2.cell? ⟨h,4,none⟩=some (Lv sa l.length (ly h).2):=(j3 (a:=⟨h,4,none⟩) (w:=w1)<|O2.block h hhb).trans c3');have FP:Fr (λb=>b∈ds\/b=sb) w w2:=⟨O2.os.trans FF.os,O2.tape.trans FF.tape,O2.output.trans FF.output,by rw[O2.size];exact FF.size,λb hz hn=>(O2.block b<|λe=>hn<|jo e).trans<|FF.block b hz hn⟩;have HBL:∀(gK:Nx),iF str eI gK->∀j(hj:j<l.length)W,mr str gK W->∀b∈h::B,size (W l[j])<size (W b):=by
   intro gK EJ j hj W hW b hb;have BZ:=((E1.trans EJ).m7 W).1 hW;have e1:=HD.m7 BZ;have aZ:size (W l[j])<size (W h):=by
    obtain⟨_,e⟩|⟨c,e⟩:=uh HLs
    .subst e;simp at hj
    .rw[BZ.made h c l e];have:=mB (V:=W)<|jd hj;simp[size];omega
   obtain q|q:=List.mem_cons.1 hb
   .rw[q];exact aZ
   .have:=hB W BZ b q;rw[e1]at this;omega
  have HGM:=hg;have amo:mu (bn h (.int .i64 0) M) ds<k:=by have:=YD HGM (.int .i64 0) hh;omega
  have ajN:∀b i v,w1.cell? ⟨b,i,none⟩=some v->w2.heap[b]? =w1.heap[b]? :=λb i v hc=>O2.block b (λe=>by subst e;rw[HM.qC i]at hc;cases hc);have G2:=G1.move (by rw[O2.size];exact br _) ajN;have B2:=B1.one O2 ae;clear hl ca' cb' c3' amn;go_loopg[8,34] l.length (λgk u v wr=>QX ds str eI vr ly lv sb w.heap.size (bn h (.int .i64 0) M) F (h::B) V l.length hs w gk u v wr)
  case atStart=>
   exact⟨0,eI,bn h (.int .i64 0) M,F,V,1,ai ah,jt _,rfl,rfl,ae,ai<|by simp[ak],G2,iF.refl _ _,FP,B2,ai<|HS.begin hh HGM,uh wZ,ai ⟨λx hx=>⟨hx,rfl⟩,λ_ hx=>hx,ah⟩⟩
  case round=>
   obtain⟨j,gK,Mj,Fj,Vj,sz,bE,hj,rfl,rfl,kX,hsq,GJ,EJ,FJ,BJ,SJ,HMJ,hT⟩:=hrel;have zw:=FJ.size;have zb:=BJ.z;have ca:=BJ.c 0;have cb:=BJ.c 1;by_cases aI:j<l.length
   .have hdj:(j:Int)<(l.length:Int):=ae;obtain⟨c,hsc⟩:∃c,Hid<|str h=some (c,l):=by
     obtain⟨_,e⟩|⟨c,e⟩:=uh HLs
     .subst e;simp at aI
     .exact⟨c,ai e⟩
    have⟨ga,ea,cg,hga⟩:=GJ.row hh (uh hsc) aI;have xF:j<hs.length:=by rw[<-HL];exact aI
    have hdh:=EJ.bO _ _<|Ek a2 j aI xF;have hmj:mu Mj ds<k:=Nat.lt_of_le_of_lt (El (uh hT).2.1 ds) amo;have HC:=IH wr gK Mj Fj (h::B) Vj l[j] GJ SJ HMJ (hld _<|jd aI) (HBL gK EJ j aI) hmj;have ea':=(uh HA).symm.trans ea;subst ea';clear ea;go_wp2_with fail;refine HC.mono ?_;rintro e w3⟨nx3,G3,E3,F3,⟨M3,F3',V3,h3,rfl,hd3,hF3,hV3,S3,MS3,hg3⟩|⟨rfl,qB⟩⟩
    .have e3:=hd3.one hdh;subst e3;obtain⟨s2,BU⟩:∃s2,Hid<|s2=min (size<|V3 hs[j]) 49:=⟨_,ai rfl⟩;rw[<-uh BU];have anU:s2<=49:=by rw[uh BU];omega
     have B3:=BJ.fr F3 (λq=>by obtain q|q:=q;exact tJ q;omega);have ca3:=B3.c 0;have amp:∀(x:Bool)(w:World),(Op.unary .not<|.bool x).run Tryz.prog w=.ok (.bool<|!x) w:=λ_ _=>rfl;clear HC ca cb cg
     have HR:∀sz',sz'<=49->sz'=min (sz+s2) 49->QX ds str eI vr ly lv sb w.heap.size (bn h (.int .i64 0) M) F (h::B) V l.length hs w (l.length-(j+1)) (.int .i64 (sz':Int)) (.int .i64<|(j:Int)+1) w3:=(λsz' gS gC=>by
      have⟨t1,t2,t3⟩:=uh hT;have amq:∀x∈hs.take (j+1),F3' x:=λx hx=>by
       rw[jh xF]at hx;obtain q|q:=List.mem_append.1 hx
       .exact(hV3 x<|t3 x q).1
       .simp at q;rw[q];exact hF3
      have hmp:(hs.take j).map V3=(hs.take j).map Vj:=by
       apply jj;intro x hx;exact(hV3 x<|t3 x hx).2
      have amr:∀(a:List Ty)(t:Ty),ak (a++[t])=ak a+size t:=by
       intro a t
       induction a with
       |nil=>simp[ak]|cons x a ih=>simp[ak,ih];omega
      refine⟨j+1,nx3,M3,F3',V3,sz',ai rfl,ae,rfl,d_,gS,ai ?_,G3,EJ.trans E3,FJ.trans F3,B3,ai S3,MS3,ai ⟨λx hx=>⟨(hV3 x (t1 x hx).1).1,((hV3 x (t1 x hx).1).2).trans (t1 x hx).2⟩,λx hx=>t2 x<|hg3 x hx,amq⟩⟩;rw[jh xF,List.map_append,hmp];simp only[ji,List.map_nil];rw[amr,gC,uh hsq,uh BU]
      omega)
     clear hd3 hF3 hV3 S3 MS3 hg3 hT hsq BU G3 E3 F3;go_wp2_with fail;all_goals(go_roundg(l.length-(j+1)))
     all_goals(first|(rw[uh bE];omega)|exact HR 49 ae (by omega)|(have:=HR (sz+s2) ae ae;rw[Int.natCast_add]at this;exact this)|(obtain q|q:=Nat.le_total (sz+s2) 49<;>first|(rw[Int.min_eq_left ae];have:=HR (sz+s2) ae ae;rw[Int.natCast_add]at this;exact this)|(rw[Int.min_eq_right ae];exact HR 49 ae ae)))
    .have amp:∀(x:Bool)(w:World),(Op.unary .not<|.bool x).run Tryz.prog w=.ok (.bool<|!x) w:=λ_ _=>rfl;clear HC ca cb cg
     go_wp2
     go_ret2;exact⟨nx3,G3,(E1.trans EJ).trans E3,FJ.trans F3,jo ⟨rfl,λW hW=>qB W<|((E1.trans EJ).m7 W).2 hW⟩⟩
   .have hdj:decide ((j:Int)<(l.length:Int))=false:=bi;have ej:j=l.length:=ae;subst ej;have aZ:hs.take l.length=hs:=by rw[HL];exact jk
    have⟨t1,t2,t3⟩:=uh hT;have adG:=uh hsq;rw[aZ]at t3 adG
    obtain⟨T,HT1,HT2⟩:∃T:Ty,Hid (sz=min (size T) 49)/\Hid (match str h with
     |none=>T=.var (vr h)|some (c,l)=>∃hs,gD (Hd gK) l hs/\(∀y,y∈hs->Fj y)/\T=.aM c (hs.map Vj)):=by
     obtain⟨e1,e2⟩|⟨c,e⟩:=uh HLs
     .have e3:hs=[]:=by
       have:=HL;rw[e2]at this;exact List.length_eq_zero_iff.1 this.symm
      refine⟨.var<|vr h,ai ?_,ai<|by rw[e1]⟩;rw[adG,e3];simp[ak,size]
     .refine⟨.aM c<|hs.map Vj,ai ?_,ai ?_⟩
      .rw[adG];simp[size]
      .rw[e];exact⟨hs,yL (λx y q=>EJ.bO x y q) a2,t3,rfl⟩
    have hxB:¬h∈B:=λq=>by
     have:=HS.bg h q;rw[HGM]at this
     cases this
    have SD:=SJ.done hxB hh ((EJ.Bt h).2<|(E1.bO _ _ HD).head) T HT2;have ajO:∀x∈ds,∃c t,wr.heap[x]? =some (Cv c t (0,0)):=(λx hx=>⟨_,_,(GJ.nd x hx).1⟩);have kdJ:=(uh SJ).kd;have HTT:=And.intro t1 t2;clear hsq adG t1 t2 t3 hT aZ HT2;go_wp2_with(refine aY _ rfl _ _ _ _ (jo rfl) YE Tryz.underlying490 _ _ rfl HMJ h (.int .i64 (sz:Int)) rfl rfl (ajO h hh) (λp hp=>ajO p.1<|kdJ p hp) ?_;intro w4 H' O';have HM4:=ai H';have O4:=O';clear H' O');go_ret2;obtain⟨t1,t2⟩:=HTT;have hsT:=uh HT1;have SD':=SD;rw[<-hsT]at SD';have hkp:∀b i v,wr.cell? ⟨b,i,none⟩=some v->w4.heap[b]? =wr.heap[b]? :=λb i v hc=>O4.block b (λe=>by subst e;rw[HMJ.qC i]at hc;cases hc);refine⟨gK,GJ.move (by rw[O4.size];exact br _) hkp,E1.trans EJ,⟨O4.os.trans FJ.os,O4.tape.trans FJ.tape,O4.output.trans FJ.output,by rw[O4.size];exact FJ.size,λb hz hn=>(O4.block b<|λe=>hn<|jo e).trans<|FJ.block b hz hn⟩,jm ⟨bn h (.int .i64 (sz:Int)) Mj,λy=>Fj y\/y=h,ja Vj h T,h,?_,HD,jo rfl,λx hx=>⟨jm (t1 x hx).1,?_⟩,SD',uh HM4,λx hx=>?_⟩⟩
    .have e1:ja Vj h T h=T:=QK;rw[e1,<-hsT];rfl
    .have cJ:x≠h:=λe=>by subst e;exact(uh SJ).apart (t1 x hx).1 ah
     simp only[ja,cJ,if_false];exact(t1 x hx).2
    .rw[aN]at hx;split at hx
     .cases hx
     .have:=t2 x hx;rw[aN]at this;split at this
      .cases this
      .exact this
def QZ:∀k,Er ds str vr ly lv sb k
 |0=>λw nx M F B V n _ _ _ _ _ hmu=>absurd hmu (ju _)|k+1=>Nz<|QZ k
end
section
variable {nx:Nx} {lv:Nat->Nat}
def adH ds str nx vr ly lv n w(e:Ending)w':=
 ∃a_,GL w' ds str a_ vr ly lv/\iF str nx a_/\Fr (λb=>b∈ds) w w'/\
  ((∃F V h,e=.returned (.tuple #[.int .i64 ((min (size<|V h) 49:Nat):Int),.bool true])/\Hd nx n h/\F h/\jc str a_ vr F V/\∀x,F x->x∈ds)\/
   (e=.returned (.tuple #[Iv 0,.bool false])/\∀W,¬mr str nx W))
def vJ(G:GL w ds str nx vr ly lv)(hn:n∈ds):Cq 344 #[nA n,Iv 48] w (adH ds str nx vr ly lv n w):=by
 have g_:= @run_makeMap Tryz.prog;have b8:Bq w (w.alloc<|.map #[] 0):=bw _;have GA:=G.move b8.size<|λb i v hc=>b8.block b<|iQ hc;have S0:SZ ds str nx vr [] (λ_=>False) [] (λ_=>.var 0):=⟨λ_ q=>q.elim,λ_ q=>q.elim,λ_ q=>(List.not_mem_nil q).elim,λx v q=>(by simp[bd]at q),λ_ q=>(List.not_mem_nil q).elim⟩;have HC:=QZ (mu [] ds+1) (w.alloc<|.map #[] 0) nx [] (λ_=>False) [] (λ_=>.var 0) n GA S0 (MS.new BQ w) hn (λ_ _ b hb=>by simp at hb) (Nat.lt_succ_self _);have xD:∀x∈ds,x<w.heap.size:=λx hx=>(G.nd x hx).lt;go_enter func344,ntmps344;go_wp2_with fail;refine HC.mono ?_
 have BE:∀w',Fr (λb=>b∈ds\/b=w.heap.size) (w.alloc<|.map #[] 0) w'->Fr (λb=>b∈ds) w w':=λw' h=>(Fr.of b8).trans' h (λx q=>by
  obtain q|q:=q
  .exact jm q
  .exact jo ae)
 rintro e w1⟨eI,G1,E1,F1,⟨M1,F',V',h,rfl,hd,hF,hV,HS,MS1,hg⟩|⟨rfl,qB⟩⟩
 .obtain⟨s2,BU⟩:∃s2:Nat,Hid<|s2=min (size<|V' h) 49:=⟨_,ai rfl⟩;rw[<-uh BU]
  go_wp2
  go_ret2;refine⟨eI,G1,E1,BE w1 F1,jm ⟨F',V',h,?_,hd,hF,HS.fin,λx hx=>HS.fd hx⟩⟩;rw[<-uh BU];rfl
 .clear HC
  go_wp2
  go_ret2;exact⟨eI,G1,E1,BE w1 F1,jo ⟨rfl,qB⟩⟩
end
structure fU where
 ds:List Nat
 str:tO
 nx:Nx
 vr:Nat->Nat
 ly:Nat->Option Addr×Nat
 lv:Nat->Nat
 V:Nat->Ty
abbrev fU.L(g:fU)i v:=Lo g.ds g.str g.nx g.vr g.lv i v
abbrev fU.R(g:fU)v x:=Rt g.ds g.str g.nx g.vr v x
structure JS w(g:fU)(s:j9):Prop where
 gl:GL w g.ds g.str g.nx g.vr g.ly g.lv
 mA:vH g.str g.nx []
 inj:∀a b,a∈g.ds->b∈g.ds->g.str a=none->g.str b=none->g.vr a=g.vr b->a=b
 can:Can g.str g.nx g.vr g.V
 lc:LC g.str g.ds g.nx g.lv
 val:∀n,n∈g.ds->g.str n=none->g.V n=s.k (g.vr n)
 use:∀n,n∈g.ds->g.str n=none->s.u (g.vr n)
 ok:In.Ok s
section
variable {g g1 g2:fU} {s2:j9}
def GL.jg{nx:Nx}{lv:Nat->Nat}(h:GL w ds str nx vr ly lv)(hc:vH str nx [])(hi:∀a b,a∈ds->b∈ds->str a=none->str b=none->vr a=vr b->a=b):JG ds str nx vr where
 Nm n:=by
  by_cases q:n∈ds
  .exact h.hd n q
  .exact⟨n,.here (h.out n q).1⟩
 bO n x hn k:=h.bD hn k
 XO a c l ha hs p hp:=(h.part ha hs).2 p hp
 inj:=hi
 mA:=hc
def JS.jg(h:JS w g s):JG g.ds g.str g.nx g.vr:=h.gl.jg h.mA h.inj
def JS.IK(h:JS w g s)(hn:n∈g.ds)(o:aG v (g.V n)):∃x,g.R v x:=by
 have⟨y,hy⟩:=h.jg.Nm n;have⟨x,r,_⟩:=e_ (lv:=g.lv) h.jg h.can _ n y hn hy (br _) o;exact⟨x,r⟩
def JS.root(h:JS w g s)(r:g.R v x):s.u v/\s.k v=.var v:=by
 rw[<-r.2.2.2];exact⟨h.use x r.1 r.2.2.1,by rw[<-h.val x r.1 r.2.2.1,r.val h.can,r.2.2.2]⟩
def JS.eqv(h:JS w g s){a_}(e:iF g.str g.nx a_)(hg:GL w' g.ds g.str a_ g.vr g.ly g.lv):JS w' {g with nx:=a_} s:=
 ⟨hg,e.mA _ h.mA,h.inj,λn x k=>h.can n x<|e.back h.gl k,(vG.eqv h.gl e).lc h.lc,h.val,h.use,h.ok⟩
structure iG L(g:fU)(s:j9)(g1:fU)(s1:j9):Prop where
 gB:∀n,n∈g.ds->n∈g1.ds/\g1.str n=g.str n/\g1.vr n=g.vr n
 val:∀n,n∈g.ds->g1.V n=sub s1.k (g.V n)
 U8:∀i,i<L->∀x,g1.L i x↔∃v,g.L i v/\aG x (s1.k v)
def iG.key{L}(h:JS w g s)(k:iG L g s g1 s1)(h1:JS w' g1 s1)(hn:n∈g.ds)(hs:g.str n=none):s1.k (g.vr n)=sub s1.k (s.k<|g.vr n):=by
 have⟨b1,b2,b3⟩:=k.gB n hn;rw[<-h.val n hn hs,<-k.val n hn,h1.val n b1<|b2.trans hs,b3]
def iG.refl(h:JS w g s)L:iG L g s g s:=
 ⟨λn hn=>⟨hn,rfl,rfl⟩,λn hn=>(In.rJ λv o=>by have⟨x,r⟩:=h.IK hn o;exact(h.root r).2).symm,λi _ x=>⟨λq=>⟨x,q,by obtain⟨y,r,_⟩:=q;rw[(h.root r).2];rfl⟩,λ⟨v,q,o⟩=>by obtain⟨y,r,l⟩:=q;rw[(h.root r).2]at o;simp only[aG]at o;subst o;exact⟨y,r,l⟩⟩⟩
def iG.trans{L}{w2}(h:JS w g s)(h1:JS w' g1 s1)(h2:JS w2 g2 s2)(k:iG L g s g1 s1)(k1:iG L g1 s1 g2 s2):iG L g s g2 s2:=by
 have key:∀v y,g.R v y->s2.k v=sub s2.k (s1.k v):=λv y r=>by
  have⟨b1,b2,b3⟩:=k.gB y r.1;have:=k1.key h1 h2 b1<|b2.trans r.2.2.1
  rwa[b3,r.2.2.2]at this
 refine⟨λn hn=>?_,λn hn=>?_,λi hi x=>?_⟩
 .have⟨b1,b2,b3⟩:=k.gB n hn;have⟨c1,c2,c3⟩:=k1.gB n b1;exact⟨c1,c2.trans b2,c3.trans b3⟩
 .rw[k1.val n (k.gB n hn).1,k.val n hn,sub_sub];refine sub_congr _ λv o=>?_;have⟨y,r⟩:=h.IK hn o;exact(key v y r).symm
 .rw[k1.U8 i hi x];constructor
  .rintro⟨v1,q,o⟩;have⟨v,q0,o0⟩:=(k.U8 i hi v1).1 q;refine⟨v,q0,?_⟩;obtain⟨y,r,_⟩:=q0;rw[key v y r];exact(j8 _).2 ⟨v1,o0,o⟩
  .rintro⟨v,q0,o⟩;obtain⟨y,r,ly⟩:=q0;rw[key v y r]at o;have⟨v1,o0,o1⟩:=(j8 _).1 o;exact⟨v1,(k.U8 i hi v1).2 ⟨v,⟨y,r,ly⟩,o0⟩,o1⟩
def iG.eqv(h:JS w g s)(e:iF g.str g.nx a_)(hg:GL w' g.ds g.str a_ g.vr g.ly g.lv)L:iG L g s {g with nx:=a_} s:=by
 have r:=iG.refl h L;refine⟨r.gB,r.val,λi hi x=>?_⟩;rw[<-r.U8 i hi x];exact⟨λ⟨y,⟨q1,q2,q3⟩,l⟩=>⟨y,⟨q1,(e.Bt y).1 q2,q3⟩,l⟩,λ⟨y,⟨q1,q2,q3⟩,l⟩=>⟨y,⟨q1,(e.Bt y).2 q2,q3⟩,l⟩⟩
def Q0{str:tO}{nx:Nx}{vr:Nat->Nat}{ds:List Nat}{F:Nat->Prop}{VF V:Nat->Ty}(hF:jc str nx vr F VF)(hV:Can str nx vr V):∀k x,size (V x)<=k->F x->VF x=V x
 |0,x,h,_=>by have:=size_pos<|V x;omega|k+1,x,hz,hx=>by
  have⟨h1,h2⟩:=hF x hx;have e:=hV x x<|.here h1
  cases hs:str x with
  |none=>rw[hs]at h2 e;rw[h2,e]|some q=>
   obtain⟨c,l⟩:=q;rw[hs]at h2 e;have e:V x=.aM c (l.map V):=e;obtain⟨BU,a1,a2,a3⟩:=h2;rw[a3,e];congr 1;refine(yQ a1 λp y hp hy r=>?_).symm;have lG:V p=V y:=by rw[hV p y r,hV y y<|.here (hF y<|a2 y hy).1]
   rw[lG];refine(Q0 (ds:=ds) hF hV k y ?_<|a2 y hy).symm;have:=jB (c:=c) (U:=V) hp;rw[<-e,lG]at this;omega
def adI{nx}(g:JG ds str nx vr)(hV:Can str nx vr V):jc str nx vr (λh=>h∈ds/\nx h=none) V:=λh hh=>by
 refine⟨hh.2,?_⟩;have e:=hV h h<|.here hh.2
 cases hs:str h with
 |none=>rw[hs]at e;exact e|some q=>
  obtain⟨c,l⟩:=q;rw[hs]at e;have e:V h=.aM c (l.map V):=e;have hp:=g.XO h c l hh.1 hs;have:∀l:List Nat,(∀p,p∈l->p∈ds)->∃hs,gD (Hd nx) l hs/\(∀x,x∈hs->x∈ds/\nx x=none)/\l.map V=hs.map V:=by
   intro l
   induction l with
   |nil=>exact λ_=>⟨[],.nil,ah,rfl⟩|cons p l ih=>
    intro hl;have⟨y,hy⟩:=g.Nm p;have⟨hs,h1,h2,h3⟩:=ih λq hq=>hl q (by simp[hq]);refine⟨y::hs,.cons hy h1,λx hx=>?_,?_⟩
    .obtain e|e:=List.mem_cons.1 hx
     .subst e;exact⟨g.bO p _ (hl p ah) hy,hy.head⟩
     .exact h2 x e
    .simp only[ji,h3];rw[show V p=V y from by rw[hV p y hy,hV y y<|.here hy.head]]
  have⟨BU,h1,h2,h3⟩:=this l hp;exact⟨BU,h1,h2,by rw[e,h3]⟩
end
abbrev guJ(f:Fl)(vl vr:Value):Value:=.iface 474<|.agg #[Nv f.kind,Nv f.aD,Nv f.t9,vl,vr]
abbrev pnJ(f:Fl)(vl vr:Value):Ending:=.panicked [{v:=guJ f vl vr,recovered:=false}]
section
variable {g:fU}
def JS.lt(h:JS w g s){n}(hn:n∈g.ds):n<w.heap.size:=(h.gl.nd n hn).lt
def GL.af{nx}{lv}(h:GL w ds str nx vr ly lv)(hb:Bq w w'):GL w' ds str nx vr ly lv:=h.move hb.size λb i v hc=>hb.block b<|iQ hc
def JS.af(h:JS w g s)(hb:Bq w w'):JS w' g s:=⟨h.gl.af hb,h.mA,h.inj,h.can,h.lc,h.val,h.use,h.ok⟩
def adJ(h:JS w g s)(hn:n∈g.ds):Cq 344 #[nA n,Iv 48] w (λe w'=>e=.returned (.tuple #[.int .i64 ((min (size<|g.V n) 49:Nat):Int),.bool true])/\∃a_,iF g.str g.nx a_/\JS w' {g with nx:=a_} s/\Fr (λb=>b∈g.ds) w w'):=by
 refine(vJ h.gl hn).mono ?_;rintro e w'⟨a_,G,E,F,⟨Fs,VF,x,rfl,hd,hx,hF,_⟩|⟨_,qB⟩⟩
 .have js:=h.eqv E G;have e1:=Q0 (ds:=g.ds) hF js.can _ x (br _) hx;have e2:g.V n=g.V x:=by rw[h.can n x hd,h.can x x<|.here hd.head]
  refine⟨by rw[e1,e2],a_,E,js,F⟩
 .exact absurd (h.can.m7 h.jg) (qB _)
def qD(h:JS w g s)(hn:n∈g.ds)f t:Cq 338 #[nA n,.agg #[Nv f,Nv t]] w (λe w'=>(∃a_,iF g.str g.nx a_/\JS w' {g with nx:=a_} s)/\Fr (λb=>b∈g.ds) w w'/\((size (g.V n)<=48/\e=.returned (.tuple #[]))\/(48<size (g.V n)/\e=pnJ ⟨7,f,t⟩ .nilIface .nilIface))):=by
 have⟨k0,B0⟩:=Hu w #[Nv f,Nv t] 69;have HS:=adJ (h.af k0) hn;have hz:¬w.heap.size∈g.ds:=λq=>by have:=h.lt q;omega
 have K0:=ai k0;go_enter func338,ntmps338;go_wp2_with fail;refine HS.mono ?_;rintro e w1⟨rfl,eI,EE,JJ,F1⟩;have HF:=(Fr.of K0).trans F1;by_cases hb:48<size (g.V n)
 .have hm:(48:Int)<((min (size<|g.V n) 49:Nat):Int):=ae;obtain⟨M,hM⟩:∃M:Int,M=((min (size<|g.V n) 49:Nat):Int):=⟨_,rfl⟩;rw[<-hM]at hm⊢;have HT:=mC (w:=w1) (f:Int) (t:Int);have⟨c1,c2,c3⟩:=B0.fr F1 hz;go_wp2_with fail;refine HT.mono ?_;rintro e w2⟨rfl,K2⟩
  go_wp2
  exact⟨rfl,⟨eI,EE,JJ.af K2⟩,HF.trans<|Fr.of K2,jo ⟨hb,rfl⟩⟩
 .have hm:¬(48:Int)<((min (size<|g.V n) 49:Nat):Int):=ae;obtain⟨M,hM⟩:∃M:Int,M=((min (size<|g.V n) 49:Nat):Int):=⟨_,rfl⟩;rw[<-hM]at hm⊢
  go_wp2
  go_end0;exact⟨⟨eI,EE,JJ⟩,HF,jm ⟨ae,rfl⟩⟩
def Es(h:JS w g s)(hn:n∈g.ds):Cq 340 #[nA n] w (λe w'=>∃tu xu a_,e=.returned (.iface tu xu)/\eN w' (λb=>w.heap.size<=b) (g.V n) (.iface tu xu)/\iF g.str g.nx a_/\JS w' {g with nx:=a_} s/\Fr (λb=>b∈g.ds) w w'):=by
 have⟨x,hx⟩:=h.jg.Nm n;refine(QT _ w g.nx n x h.gl (adI h.jg h.can) hn hx ⟨h.jg.bO n x hn hx,hx.head⟩<|br _).mono ?_;rintro e w'⟨u,a_,rfl,hu,G,E,F⟩;obtain⟨tu,xu,rfl⟩:=hu.iface;exact⟨tu,xu,a_,rfl,by rw[show g.V n=g.V x from by rw[h.can n x hx,h.can x x<|.here hx.head]];exact hu,E,h.eqv E G,F⟩
def JR.post{nx}(h:JR str nx eI a b true)(e:iF str eI pR):JR str nx pR a b true:=
 ⟨λP E q=>h.eqs P E<|e.eqs P E q,λ_=>⟨λV=>(e.m7 V).trans<|(h.yes rfl).1 V,λP q=>e.mA P<|(h.yes rfl).2.1 P q,λP E q=>(h.yes rfl).2.2 P E<|e.eqs P E q⟩,λq=>eh⟩
def JS.join(h:JS w g s)(hg:GL w' g.ds g.str a_ g.vr g.ly cy)(jr:JR g.str g.nx a_ a b true)(lr:vG g.str g.ds g.nx g.lv a_ cy)(hF:jc g.str a_ g.vr F VF)(hx:Hd a_ a x)(hFx:F x)(ha:a∈g.ds)(hb:b∈g.ds){ta tb}(ea:g.V a=sub s.k ta)(eb:g.V b=sub s.k tb)(za:size (g.V a)<=48)(zb:size (g.V b)<=48)f t:
 ∃V' s',JS w' {g with nx:=a_,lv:=cy,V:=V'} s'/\(∀L,iG L g s {g with nx:=a_,lv:=cy,V:=V'} s')/\qd ta tb f t s (.ok ((),s'))/\s'.u=s.u:=by
 have hc':=(jr.yes rfl).2.1 [] h.mA;have g':=hg.jg hc' h.inj;have⟨V',θ,jw⟩:=YR h.jg h.can g' jr lr hF hx hFx ha hb;have tin:∀{n:Nat}{T:Ty},n∈g.ds->g.V n=sub s.k T->In.kx (λ_=>True) s (sub s.k T):=λhn e=>⟨λv o=>by rw[<-e]at o;have⟨y,r⟩:=h.IK hn o;exact(h.root r).1,λ_ _=>trivial⟩;have he:∀{ta tb:Ty},g.V a=sub s.k ta->g.V b=sub s.k tb->qd ta tb f t s (.ok ((),⟨λv=>sub θ<|s.k v,s.u⟩)):=λea eb=>jo ⟨by rw[<-ea];exact za,by rw[<-eb];exact zb,jm ⟨θ,by rw[<-ea,<-eb];exact jw.mgu,rfl⟩⟩;have ok':=(In.qE (Λ:=λ_=>True) h.ok (λ_ _=>trivial) (tin ha ea) (tin hb eb) f t _ _<|he (by rw[h.ok.yR,ea])<|by rw[h.ok.yR,eb]).1.ok;have js:JS w' {g with nx:=a_,lv:=cy,V:=V'} ⟨λv=>sub θ<|s.k v,s.u⟩:=
  ⟨hg,hc',h.inj,jw.can,lr.lc h.lc,λn hn hs=>by show V' n=sub θ (s.k<|g.vr n);rw[jw.val n hn,h.val n hn hs],h.use,ok'⟩
 have hr:∀v y,g.R v y->sub θ (s.k v)=θ v:=λv y r=>by rw[(h.root r).2];rfl
 refine⟨V',⟨λv=>sub θ<|s.k v,s.u⟩,js,λL=>⟨λn hn=>⟨hn,rfl,rfl⟩,λn hn=>?_,λi _ w=>?_⟩,he ea eb,rfl⟩
 .show V' n=sub (λv=>sub θ<|s.k v) (g.V n);rw[jw.val n hn];refine sub_congr _ λv o=>?_;have⟨y,r⟩:=h.IK hn o;exact(hr v y r).symm
 .show Lo g.ds g.str a_ g.vr cy i w↔_;rw[YS h.jg h.can g' lr h.lc jw i w];constructor
  .rintro⟨v,⟨y,r,ly⟩,o⟩;exact⟨v,⟨y,r,ly⟩,by show aG w (sub θ<|s.k v);rw[hr v y r];exact o⟩
  .rintro⟨v,⟨y,r,ly⟩,o⟩;have o:aG w (sub θ<|s.k v):=o;rw[hr v y r]at o;exact⟨v,⟨y,r,ly⟩,o⟩
def JS.apart(h:JS w g s)(hn:∀W,mr g.str g.nx W->W a≠W b)σ:sub σ (g.V a)≠sub σ (g.V b):=by
 have sV:=h.can.m7 h.jg;exact hn (λn=>sub σ<|g.V n) ⟨λn c l hs=>by rw[sV.made n c l hs];simp only[sub];rw[jC],λn m e=>by rw[sV.bz n m e]⟩
def adK{nx}{lv}(G:GL w ds str nx vr ly lv)(hn:n∈ds):Cq 366 #[nA n] w (λe w'=>∃ok a_,e=.returned (.bool ok)/\GL w' ds str a_ vr ly lv/\iF str nx a_/\Fr (λb=>b∈ds) w w'/\(ok=true->∃F V x,Hd nx n x/\F x/\jc str a_ vr F V)/\(ok=false->∀W,¬mr str nx W)):=by
 have HS:=vJ G hn;go_enter func366,ntmps366;go_wp2_with fail;refine HS.mono ?_;rintro e w1⟨eI,G1,E1,F1,⟨F,V,x,rfl,h1,h2,h3,_⟩|⟨rfl,qB⟩⟩
 .have HX:=show∃ok a_,Rv (.bool true)=Rv (.bool ok)/\GL w1 ds str a_ vr ly lv/\iF str nx a_/\Fr (λb=>b∈ds) w w1/\(ok=true->∃F V x,Hd nx n x/\F x/\jc str a_ vr F V)/\(ok=false->∀W,¬mr str nx W)from⟨true,eI,rfl,G1,E1,F1,λ_=>⟨F,V,x,h1,h2,h3⟩,λq=>eh⟩;obtain⟨M,hM⟩:∃M:Int,M=((min (size<|V x) 49:Nat):Int):=⟨_,rfl⟩;rw[<-hM]
  go_wp2
  go_ret;exact HX
 .have HX:=show∃ok a_,Rv (.bool false)=Rv (.bool ok)/\GL w1 ds str a_ vr ly lv/\iF str nx a_/\Fr (λb=>b∈ds) w w1/\(ok=true->∃F V x,Hd nx n x/\F x/\jc str a_ vr F V)/\(ok=false->∀W,¬mr str nx W)from⟨false,eI,rfl,G1,E1,F1,(λq=>eh),λ_=>qB⟩
  go_wp2
  go_ret;exact HX
def rK g(s:j9)a b x y f t w e w':=Fr (λb=>b∈g.ds) w w'/\
 ((e=.returned (.tuple #[])/\∃a_ cy V' s',JS w' {g with nx:=a_,lv:=cy,V:=V'} s'/\(∀L,iG L g s {g with nx:=a_,lv:=cy,V:=V'} s')/\qd x y f t s (.ok ((),s'))/\s'.u=s.u/\(∀m,m∈g.ds->∀h h',Hd g.nx m h->Hd a_ m h'->cy h'<=g.lv h)/\rI g.str g.ds g.nx g.lv a_ cy a b)\/
  (∃z vl vr,e=pnJ z.f vl vr/\qd x y f t s (.error z)/\vM w' (λb=>w.heap.size<=b) z vl vr))
def YV(h:JS w g s)(ha:a∈g.ds)(hb:b∈g.ds){x y}(ea:g.V a=sub s.k x)(eb:g.V b=sub s.k y)f t:
 Cq 350 #[nA a,nA b,.agg #[Nv f,Nv t]] w (rK g s a b x y f t w):=by
 have⟨k0,B0⟩:=nbh w #[Nv f,Nv t] 69;have H1:=qD (h.af k0) ha f t;have hz:¬w.heap.size∈g.ds:=λq=>by have:=h.lt q;omega
 have LT:∀n,n∈g.ds->n<w.heap.size:=λn q=>h.lt q;have K0:=ai k0;have⟨c1,c2,c3⟩:=uh B0;go_enter func350,ntmps350;go_wp2_with fail;refine H1.mono ?_;rintro e w1⟨⟨eI,YH,J1⟩,F1,hs1⟩;have ajP:=(Fr.of K0).trans F1;obtain⟨hza,rfl⟩|⟨hza,rfl⟩:=hs1.symm
 .have HX:=show rK g s a b x y f t w (pnJ ⟨7,f,t⟩ Zv Zv) w1 from⟨ajP,jo ⟨In.tK f t,Zv,Zv,rfl,jm ⟨jm (by rw[<-ea];exact hza),rfl⟩,⟨λ_=>⟨rfl,rfl⟩,(λq=>eh),jo rfl⟩⟩⟩
  go_wp2
  exact⟨rfl,HX⟩
 have B1:=ai<|B0.fr F1 hz;have⟨c1,c2,c3⟩:=uh B1;have H2:=qD J1 hb f t;go_wp2_with fail;refine H2.mono ?_;rintro e w2⟨⟨pR,E2,J2⟩,F2,BU⟩;have ag1:=ajP.trans F2;obtain⟨hzb,rfl⟩|⟨hzb,rfl⟩:=BU.symm
 .have HX:=show rK g s a b x y f t w (pnJ ⟨7,f,t⟩ Zv Zv) w2 from⟨ag1,jo ⟨In.tK f t,Zv,Zv,rfl,jm ⟨jo (by rw[<-eb];exact hzb),rfl⟩,⟨λ_=>⟨rfl,rfl⟩,(λq=>eh),jo rfl⟩⟩⟩
  go_wp2
  exact⟨rfl,HX⟩
 have B2:=B1.fr F2 hz;have H3:=Es J2 ha;have E2':=YH.trans E2;have z2:=ag1.size;go_wp2_with fail;refine H3.mono ?_;rintro e w3⟨tl3,xl3,nx3,rfl,T3,E3,J3,F3⟩;have H4:=Es J3 hb;have B3:=B2.fr F3 hz;have ag2:=ag1.trans F3;have E3':=E2'.trans E3;have z3:=F3.size;go_wp2_with fail;refine H4.mono ?_;rintro e w4⟨tl4,xl4,CA,rfl,T4,E4,J4',F4⟩;have H5:=YO _ w4 CA g.lv J4'.gl (br _) a b ha hb;have B4:=B3.fr F4 hz;have ams:=ag2.trans F4;have ag3:=E3'.trans E4;have z4:=F4.size;have yS:∀b:Nat,w.heap.size<=b->¬b∈g.ds:=λb hb q=>by have:=LT b q;omega
 have T3':=T3.fr F4 (λb p _=>yS b (by have:w2.heap.size<=b:=p;omega));go_wp2_with fail;refine H5.mono ?_;rintro e w5⟨ok,nx5,lv5,rfl,G5',F5,z5,_,JR5,lr5⟩;have APX:∀(W:World)(vl:TypeId)(xl:Value)(vr:TypeId)(xr:Value),Fr (λb=>b∈g.ds) w W->eN W (λb=>w.heap.size<=b) (g.V a) (Fv vl xl)->eN W (λb=>w.heap.size<=b) (g.V b) (Fv vr xr)->(∀σ,sub σ (g.V a)≠sub σ (g.V b))->rK g s a b x y f t w (pnJ ⟨6,f,t⟩ (Fv vl xl)<|Fv vr xr) W:=λW vl xl vr xr hF h1 h2 h3=>
  ⟨hF,jo ⟨⟨⟨6,f,t⟩,g.V a,g.V b⟩,_,_,rfl,jo ⟨by rw[<-ea];exact hza,by rw[<-eb];exact hzb,jo ⟨by rw[<-ea,<-eb];exact h3,by rw[<-ea,<-eb]⟩⟩,⟨(λq=>eh),λ_=>⟨h1,h2⟩,jm rfl⟩⟩⟩
 have T35:=(T3'.fr F5<|λb p _=>yS b (by have:w2.heap.size<=b:=p;omega)).wide (Q:=λb=>w.heap.size<=b) λb p=>by have:w2.heap.size<=b:=p;omega
 have T45:=(T4.fr F5<|λb p _=>yS b (by have:w3.heap.size<=b:=p;omega)).wide (Q:=λb=>w.heap.size<=b) λb p=>by have:w3.heap.size<=b:=p;omega
 have ag4:=ams.trans F5;have B5:=B4.fr F5 hz
 cases ok with
 |false=>
  have hap:∀σ,sub σ (g.V a)≠sub σ (g.V b):=λσ=>J4'.apart (g:={g with nx:=CA}) (JR5.no rfl) σ;obtain⟨c1,c2,c3⟩:=B5;have HA:=Et (w:=w5) (f:Int) (t:Int) tl3 tl4 xl3 xl4;go_wp2_with fail;refine HA.mono ?_;rintro e w6⟨rfl,k6⟩;have HX:=APX w6 tl3 xl3 tl4 xl4 (ag4.trans<|Fr.of k6) (T35.af k6) (T45.af k6) hap
  go_wp2
  exact⟨rfl,HX⟩
 |true=>
  have H6:=adK G5' ha;have LR5:=lr5 rfl;go_wp2_with fail;refine H6.mono ?_;rintro e w6⟨ok6,nx6,rfl,G6,E6,F6,hy,hn⟩
  cases ok6 with
  |false=>
   have hap:∀σ,sub σ (g.V a)≠sub σ (g.V b):=λσ eσ=>by
    have j4:=J4';have sV:=j4.can.m7 j4.jg;exact hn rfl (λn=>sub σ<|g.V n) (((JR5.yes rfl).1 _).2 ⟨⟨λn c l hs=>by rw[sV.made n c l hs];simp only[sub];rw[jC],λn m e=>by rw[sV.bz n m e]⟩,eσ⟩)
   have⟨c1,c2,c3⟩:=B5.fr F6 hz;have HA:=Et (w:=w6) (f:Int) (t:Int) tl3 tl4 xl3 xl4;have T36:=T35.fr F6<|λb p _=>yS b p;have T46:=T45.fr F6<|λb p _=>yS b p;have amt:=ag4.trans F6;go_wp2_with fail;refine HA.mono ?_;rintro e w7⟨rfl,k7⟩;have HX:=APX w7 tl3 xl3 tl4 xl4 (amt.trans<|Fr.of k7) (T36.af k7) (T46.af k7) hap
   go_wp2
   exact⟨rfl,HX⟩
  |true=>
   have⟨FF,VF,z,q1,q2,q3⟩:=hy rfl;have j4:=J4';have hjr:=JR5.post E6;have g5:=G5';have hlr:=LR5.1.trans (vG.eqv g5 E6) g5.hd<|λU q=>(E6.m7 U).1 q;have⟨V',s',js,st,he,hu⟩:=j4.join (x:=z) G6 hjr hlr q3 (E6.bO _ _ q1) q2 ha hb ea eb hza hzb f t;have HX:=show rK g s a b x y f t w (Rv<|.tuple #[]) w6 from⟨ag4.trans F6,jm ⟨rfl,nx6,lv5,V',s',js,λL=>iG.trans h j4 js (iG.eqv h ag3 j4.gl L)<|st L,he,hu,λm hm p p' k k'=>hlr.mono m hm p p' (ag3.bO _ _ k) k',(LR5.2.post g5 E6).pre h.gl ag3⟩⟩
   go_wp2
   go_end0;exact HX
end
section
variable {g:fU}
def GL.add{nx}{lv}(h:GL w ds str nx vr ly lv)(hw:Bq w w')(hn:w.heap.size<=n)s v a l(hh:w'.heap[n]? =some (.cells #[.pointer none,Nv l,Nv v,.string<|byS s,.slice a.1 (slN s) a.2] 486 (0,0)))(hp:fW w' (n::ds) a.1 s):
 GL w' (n::ds) (ja str n s) nx (ja vr n v) (ja ly n a) (ja lv n l):=by
 have hb:∀b i v,w.cell? ⟨b,i,none⟩=some v->w'.heap[b]? =w.heap[b]? :=λb i v hc=>hw.block b<|iQ hc;have nd:¬n∈ds:=λq=>by have:=(h.nd n q).lt;omega
 have nn:=(h.out n nd).1;refine⟨λx hx=>?_,λx hx=>?_,λx hx=>?_⟩
 .by_cases e:x=n
  .subst e;refine⟨by simpa[ja,nP,nn]using hh,by simpa[ja]using hp,λm hm=>by rw[nn]at hm;cases hm⟩
  .have Em:=(List.mem_cons.1 hx).resolve_left e;have hc:=(h.nd x Em).cells.1;have⟨h1,h2,h3⟩:=h.nd x Em;refine⟨?_,?_,λm hm=>jf _<|h3 m hm⟩
   .rw[hb x 0 _ hc,h1];simp[ja,e]
   .simp only[ja,e,if_false];exact(h2.more hn).move hw.size hb
 .have Em:x≠n/\¬x∈ds:=⟨λe=>hx qBq,λe=>hx qBq⟩;exact⟨(h.out x Em.2).1,by simpa[ja,Em.1]using(h.out x Em.2).2⟩
 .by_cases e:x=n
  .subst e;exact⟨x,.here nn⟩
  .exact h.hd x ((List.mem_cons.1 hx).resolve_left e)
abbrev fU.add(g:fU)(n:Nat)(q:Option (BA×List Nat))(v:Nat)(a:Option Addr×Nat)(l:Nat)(T:Ty):fU:=⟨n::g.ds,ja g.str n q,g.nx,ja g.vr n v,ja g.ly n a,ja g.lv n l,ja g.V n T⟩
def JS.Q3(h:JS w g s)(nd:¬n∈g.ds)q:vH (ja g.str n q) g.nx []:=λE hE x m c l e hs=>by
 have hx:=jv λz=>by rw[(h.gl.out x z).1]at e;cases e
 have hm:=(h.gl.nd x hx).2.2 m e;have e1:x≠n:=λz=>nd<|z▸hx;have e2:m≠n:=λz=>nd<|z▸hm;simp only[ja,e1,if_false]at hs;have⟨l',h1,h2⟩:=h.mA E hE x m c l e hs;exact⟨l',by simp only[ja,e2,if_false];exact h1,h2⟩
def JS.Q4(h:JS w g s)(nd:¬n∈g.ds)(hT:T=match q with|none=>.var v|some (c,l)=>.aM c<|l.map g.V)(hq:∀c l,q=some (c,l)->∀p,p∈l->p∈g.ds):Can (ja g.str n q) g.nx (ja g.vr n v) (ja g.V n T):=λx y k=>by
 have nn:=(h.gl.out n nd).1;have lm:∀l:List Nat,(∀p,p∈l->p∈g.ds)->l.map (ja g.V n T)=l.map g.V:=λl hl=>dQ λp hp=>by
  have:p≠n:=λe=>nd<|e▸hl p hp;simp[ja,this]
 by_cases hx:x∈g.ds
 .have hy:=h.gl.bD hx k;have e1:x≠n:=λz=>nd<|z▸hx;have e2:y≠n:=λz=>nd<|z▸hy;simp only[ja,e1,e2,if_false];have:=h.can x y k;rw[this]
  cases hs:g.str y with
  |none=>rfl|some p=>
   obtain⟨c,l⟩:=p;show j7 c (l.map g.V)=j7 c (l.map<|ja g.V n T);rw[lm l (h.gl.part hy hs).2]
 .have e0:=(h.gl.out x hx).1;have ey:=k.one<|.here e0;subst ey;by_cases e:y=n
  .subst e;simp only[ja,if_true];rw[hT]
   cases q with
   |none=>rfl|some p=>
    obtain⟨c,l⟩:=p;show j7 c (l.map g.V)=j7 c (l.map<|ja g.V y _);rw[<-hT,lm l<|hq c l rfl]
  .simp only[ja,e,if_false];have:=h.can y y k;rw[(h.gl.out y hx).2]at this⊢;exact this
def JS.YW(h:JS w g s)(nd:¬n∈g.ds){L:Nat}(hq:∀c l,q=some (c,l)->∀p,p∈l->p∈g.ds/\∀x,Hd g.nx p x->g.lv x<=L):LC (ja g.str n q) (n::g.ds) g.nx (ja g.lv n L):=λa ha hn c l hs p hp x k=>by
 by_cases e:a=n
 .subst e;simp only[ja,if_true]at hs;have⟨h1,h2⟩:=hq c l hs p hp;have e2:x≠a:=λz=>nd<|z▸h.gl.bD h1 k;simp only[ja,e2,if_false,if_true];exact h2 x k
 .have ha':=(List.mem_cons.1 ha).resolve_left e;simp only[ja,e,if_false]at hs;have e2:x≠n:=λz=>nd<|z▸h.gl.bD ((h.gl.part ha' hs).2 p hp) k;simp only[ja,e,e2,if_false];exact h.lc a ha' hn c l hs p hp x k
def iG.add(h:JS w g s)(nd:¬n∈g.ds){a:Option Addr×Nat}{l L:Nat}(hk:s1.k=s.k)(hl:q=none->L<=l):iG L g s (g.add n q v a l T) s1:=by
 have r:=iG.refl h L;have ne:∀m,m∈g.ds->m≠n:=λm hm e=>nd<|e▸hm;refine⟨λm hm=>⟨jf _ hm,by simp[ja,ne m hm],by simp[ja,ne m hm]⟩,λm hm=>?_,λi hi x=>?_⟩
 .rw[hk,<-r.val m hm];simp[ja,ne m hm]
 .rw[hk,<-r.U8 i hi x];constructor
  .rintro⟨y,⟨q1,q2,q3,q4⟩,q5⟩;by_cases e:y=n
   .subst e;simp only[ja,if_true]at q3 q5;have:=hl q3;omega
   .have q1':=(List.mem_cons.1 q1).resolve_left e;simp only[ja,e,if_false]at q3 q4 q5;exact⟨y,⟨q1',q2,q3,q4⟩,q5⟩
  .rintro⟨y,⟨q1,q2,q3,q4⟩,q5⟩;have e:=ne y q1;exact⟨y,⟨jf _ q1,q2,by simpa[ja,e]using q3,by simpa[ja,e]using q4⟩,by simpa[ja,e]using q5⟩
def Rz{p:Prop}(h:p:=by
 simp only[ja,e1,e2,if_false]at e sa sb
 exact h.inj a b ((List.mem_cons.1 ha).resolve_left e1) ((List.mem_cons.1 hb).resolve_left e2) sa sb e):p:=h
def RB{p:Prop}(h:p:=by
 simpa[ja,e]using h.val m ((List.mem_cons.1 hm).resolve_left e) (by simpa[ja,e]using hs)):p:=h
def JS.var(h:JS w g s)(hw:Bq w w'){l:Nat}(hn:w.heap.size<=n)(hv:¬s.u v)(hh:w'.heap[n]? =some (.cells #[.pointer none,Nv l,Nv v,.string ⟨#[]⟩,.slice none 0 0] 486 (0,0))):
 JS w' (g.add n none v (none,0) l<|.var v) ⟨s.k,λm=>s.u m\/m=v⟩:=by
 have nd:¬n∈g.ds:=λq=>by have:=h.lt q;omega
 have ne:∀m,m∈g.ds->m≠n:=λm hm e=>nd<|e▸hm;refine⟨h.gl.add hw hn none v (none,0) l hh trivial,h.Q3 nd none,λa b ha hb sa sb e=>?_,h.Q4 nd rfl (λc l q=>eh),h.YW nd<|λc l q=>eh,λm hm hs=>?_,λm hm hs=>?_,(In.mD (Λ:=λ_=>True) h.ok (λ_ _=>trivial) _ _ ⟨v,hv,rfl⟩).1.ok⟩
 .by_cases e1:a=n<;>by_cases e2:b=n
  .rw[e1,e2]
  .exfalso;have hb':=(List.mem_cons.1 hb).resolve_left e2;simp only[ja,e1,e2,if_false,if_true]at e sb;exact hv (by rw[e];exact h.use b hb' sb)
  .exfalso;have ha':=(List.mem_cons.1 ha).resolve_left e1;simp only[ja,e1,e2,if_false,if_true]at e sa;exact hv (by rw[<-e];exact h.use a ha' sa)
  .exact Rz
 .by_cases e:m=n
  .subst e;simp[ja,h.ok.out v hv]
  .exact RB
 .by_cases e:m=n
  .subst e;simp[ja]
  .have CC:=(List.mem_cons.1 hm).resolve_left e;simp only[ja,e,if_false]at hs⊢;exact jm<|h.use m CC hs
def JS.YX(h:JS w g s)(hw:Bq w w'){l:Nat}{a:Option Addr×Nat}(hn:w.heap.size<=n)(hc:CN c)(hl:ps.length<=1001)(hp:∀p,p∈ps->p∈g.ds/\∀x,Hd g.nx p x->g.lv x<=l)(Eu:ps=[]\/∃gg,a.1=some ⟨gg,0,none⟩/\¬gg∈n::g.ds/\gg<w'.heap.size/\∀i(h:i<ps.length),w'.cell? ⟨gg,i,none⟩=some (nA ps[i]))(hh:w'.heap[n]? =some (.cells #[.pointer none,Nv l,Iv 0,.string<|pn c,.slice a.1 ps.length a.2] 486 (0,0))):
 JS w' (g.add n (some (c,ps)) 0 a l<|.aM c<|ps.map g.V) s:=by
 have nd:¬n∈g.ds:=λq=>by have:=h.lt q;omega
 have ne:∀m,m∈g.ds->m≠n:=λm hm e=>nd<|e▸hm;refine⟨h.gl.add hw hn (some (c,ps)) 0 a l hh ⟨hc,hl,λm hm=>jf _ (hp m hm).1,Eu⟩,h.Q3 nd _,λa b ha hb sa sb e=>?_,h.Q4 nd rfl (λc' l' q=>by injection q with q;injection q with _ q;subst q;exact λp hq=>(hp p hq).1),h.YW nd (λc' l' q=>by injection q with q;injection q with _ q;subst q;exact hp),λm hm hs=>?_,λm hm hs=>?_,h.ok⟩
 .have e1:a≠n:=λz=>by subst z;simp[ja]at sa
  have e2:b≠n:=λz=>by subst z;simp[ja]at sb
  exact Rz
 .have e:m≠n:=λz=>by subst z;simp[ja]at hs
  exact RB
 .have e:m≠n:=λz=>by subst z;simp[ja]at hs
  simp only[ja,e,if_false]at hs⊢;exact h.use m ((List.mem_cons.1 hm).resolve_left e) hs
def JS.made(h:JS w g s)(hw:Bq w w'){l:Nat}{a:Option Addr×Nat}(hn:w.heap.size<=n)(hc:CN c)(hl:ps.length<=1001)(hp:∀p,p∈ps->p∈g.ds/\∀x,Hd g.nx p x->g.lv x<=l)(hr:ps=[]\/∃gg,a.1=some ⟨gg,0,none⟩/\w.heap.size<=gg/\gg≠n/\gg<w'.heap.size/\∀i(h:i<ps.length),w'.cell? ⟨gg,i,none⟩=some (nA ps[i]))(hh:w'.heap[n]? =some (.cells #[.pointer none,Nv l,Iv 0,.string<|pn c,.slice a.1 ps.length a.2] 486 (0,0))):
 JS w' (g.add n (some (c,ps)) 0 a l<|.aM c<|ps.map g.V) s:=by
 refine h.YX hw hn hc hl hp (hr.imp id λ⟨gg,q1,q2,q3,q4,q5⟩=>⟨gg,q1,λz=>?_,q4,q5⟩) hh;obtain z|z:=List.mem_cons.1 z
 .exact q3 z
 .have:=h.lt z;omega
end
def fU.K(g:fU)(P:Nat->Prop)n:=n∈g.ds/\∀x,Hd g.nx n x->P x
open Classical in
noncomputable def fU.cut (g:fU) (P:Nat->Prop):fU:=⟨g.ds.filter λn=>decide (g.K P n),λn=>if g.K P n then g.str n else none,λn=>if g.K P n then g.nx n else none,g.vr,g.ly,g.lv,λn=>if g.K P n then g.V n else .var (g.vr n)⟩
section
variable {g:fU} {P:Nat->Prop}
def cQ:n∈(g.cut P).ds↔g.K P n:=by
 simp only[fU.cut,List.mem_filter,decide_eq_true_eq];exact⟨λq=>q.2,λq=>⟨q.1,q⟩⟩
def bB(h:g.K P n):(g.cut P).str n=g.str n/\(g.cut P).nx n=g.nx n/\(g.cut P).V n=g.V n:=by simp[fU.cut,h]
def tX(h:¬g.K P n):(g.cut P).str n=none/\(g.cut P).nx n=none/\(g.cut P).V n=.var (g.vr n):=by simp[fU.cut,h]
def adL(hg:GL w g.ds g.str g.nx g.vr g.ly g.lv)(hn:n∈g.ds)(e:g.nx n=some m):g.K P n↔g.K P m:=
 ⟨λq=>⟨(hg.nd n hn).2.2 m e,λx k=>q.2 x<|.step e k⟩,λq=>⟨hn,λx k=>q.2 x<|k.rH e⟩⟩
def adM(hg:GL w g.ds g.str g.nx g.vr g.ly g.lv)(k:Hd g.nx n x)(hn:g.K P n):Hd (g.cut P).nx n x/\g.K P x:=by
 induction k with
 |here e=>exact⟨.here<|by rw[(bB hn).2.1,e],hn⟩|step e k ih=>
  have⟨h1,h2⟩:=ih<|(adL hg hn.1 e).1 hn;exact⟨.step (by rw[(bB hn).2.1,e]) h1,h2⟩
def ag5(hg:GL w g.ds g.str g.nx g.vr g.ly g.lv)(hn:g.K P n)(k:Hd (g.cut P).nx n x):Hd g.nx n x:=by
 have⟨y,hy⟩:=hg.hd n hn.1;rw[k.one (adM hg hy hn).1];exact hy
def Ev(hg:GL w g.ds g.str g.nx g.vr g.ly g.lv)(j:JG g.ds g.str g.nx g.vr)(hP:ScD g.str g.ds g.nx P)(hn:g.K P n)(hs:g.str n=some (c,l))(hp:p∈l):g.K P p:=by
 have⟨x,hx⟩:=hg.hd n hn.1;have⟨l',h1,h2⟩:=Nn j hx hs;refine⟨j.XO n c l hn.1 hs p hp,λy hy=>?_⟩;have:∀{l l':List Nat},gD (yO g.nx) l l'->p∈l->∃q,q∈l'/\yO g.nx p q:=by
  intro l l' a
  induction a with
  |nil=>simp|cons e _ ih=>
   intro hp;obtain rfl|hp:=List.mem_cons.1 hp
   .grind
   .grind
 have⟨q,hq,e⟩:=this h2 hp;have hy':Hd g.nx q y:=by
  obtain rfl|⟨z,z1,z2⟩:=e
  .exact hy
  .rw[hy.one z1];exact z2
 exact hP x (j.bO n x hn.1 hx) hx.head (hn.2 x hx) c l' h1 q hq y hy'
def JS.cut(hg:GL w g.ds g.str g.nx g.vr g.ly g.lv)(mA:vH g.str g.nx [])(inj:∀a b,a∈g.ds->b∈g.ds->g.str a=none->g.str b=none->g.vr a=g.vr b->a=b)(can:Can g.str g.nx g.vr g.V)(val:∀n,n∈g.ds->g.str n=none->g.V n=s.k (g.vr n))(use:∀n,n∈g.ds->g.str n=none->s.u (g.vr n))(ok:In.Ok s)(hP:ScD g.str g.ds g.nx P)(lc:∀a,a∈g.ds->g.nx a=none->P a->∀c l,g.str a=some (c,l)->∀p,p∈l->∀h,Hd g.nx p h->g.lv h<=g.lv a):JS w (g.cut P) s:=by
 have j:=hg.jg mA inj;refine⟨⟨λn hn=>?_,λn hn=>?_,λn hn=>?_⟩,λE hE n m c l e hs=>?_,λa b ha hb sa sb e=>?_,λn x k=>?_,λa ha hn c l hs p hp x hx=>?_,λn hn hs=>?_,λn hn hs=>?_,ok⟩
 .have hn:=cQ.1 hn;have⟨q1,q2,q3⟩:=hg.nd n hn.1;refine⟨by rw[(bB hn).1,(bB hn).2.1];exact q1,?_,λm e=>cQ.2<|(adL hg hn.1 (by rw[<-(bB hn).2.1];exact e)).1 hn⟩;rw[(bB hn).1]
  cases e:g.str n with
  |none=>trivial|some q=>
   obtain⟨c,l⟩:=q;rw[e]at q2;obtain⟨r1,r2,r3,r4⟩:=q2;exact⟨r1,r2,λm hm=>cQ.2<|Ev hg j hP hn e hm,r4.imp id λ⟨gg,z1,z2,z3,z4⟩=>⟨gg,z1,λz=>z2 (cQ.1 z).1,z3,z4⟩⟩
 .have hn:¬g.K P n:=λq=>hn<|cQ.2 q;exact⟨(tX hn).2.1,(tX hn).1⟩
 .have hn:=cQ.1 hn;have⟨x,hx⟩:=hg.hd n hn.1;exact⟨x,(adM hg hx hn).1⟩
 .have hn:=jv λq=>by rw[(tX q).2.1]at e;cases e
  rw[(bB hn).2.1]at e;rw[(bB hn).1]at hs;have hm:=(adL hg hn.1 e).1 hn;have hE':Un.Eq g.nx [] (λa b=>(g.K P a↔g.K P b)/\(g.K P a->E a b)):=by
   refine⟨λa=>⟨Iff.rfl,λ_=>hE.refl a⟩,λa b q=>⟨q.1.symm,λz=>hE.symm _ _<|q.2<|q.1.2 z⟩,λa b d q r=>⟨q.1.trans r.1,λz=>hE.trans _ _ _ (q.2 z)<|r.2<|q.1.1 z⟩,λa b q=>?_,λa b q=>by simp at q⟩;have ha:=jv λz=>by rw[(hg.out a z).1]at q;cases q
   exact⟨adL hg ha q,λz=>hE.bz a b (by rw[(bB z).2.1];exact q)⟩
  have⟨l',h1,h2⟩:=mA _ hE' n m c l e hs;refine⟨l',by rw[(bB hm).1];exact h1,?_⟩;have:∀{l l':List Nat},gD (λa b=>(g.K P a↔g.K P b)/\(g.K P a->E a b)) l l'->(∀p,p∈l->g.K P p)->gD E l l':=by
   intro l l' a
   induction a with
   |nil=>exact λ_=>.nil|cons e _ ih=>exact λh=>.cons (e.2<|h _ ah) (ih λp hp=>h p<|by simp[hp])
  exact this h2 λp hp=>Ev hg j hP hn hs hp
 .have ha:=cQ.1 ha;have hb:=cQ.1 hb;rw[(bB ha).1]at sa;rw[(bB hb).1]at sb;exact inj a b ha.1 hb.1 sa sb e
 .by_cases hn:g.K P n
  .have k':=ag5 hg hn k;have hx:=(adM hg k' hn).2;rw[(bB hn).2.2,(bB hx).1,can n x k']
   cases e:g.str x with
   |none=>rfl|some q=>
    obtain⟨c,l⟩:=q;show j7 c (l.map g.V)=.aM c (l.map (g.cut P).V);rw[dQ λp hp=>(bB<|Ev hg j hP hx e hp).2.2]
  .rw[k.one<|.here (tX hn).2.1,(tX hn).2.2,(tX hn).1];rfl
 .have ha:=cQ.1 ha;rw[(bB ha).1]at hs;rw[(bB ha).2.1]at hn;exact lc a ha.1 hn (ha.2 a<|.here hn) c l hs p hp x<|ag5 hg (Ev hg j hP ha hs hp) hx
 .have hn:=cQ.1 hn;rw[(bB hn).1]at hs;rw[(bB hn).2.2];exact val n hn.1 hs
 .have hn:=cQ.1 hn;rw[(bB hn).1]at hs;exact use n hn.1 hs
end
end
end Go.Proofs.YtopmodaakdnliaaGreatDoor

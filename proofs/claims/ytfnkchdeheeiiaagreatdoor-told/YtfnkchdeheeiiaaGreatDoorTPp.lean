import Derived.Test.YtfnkchdeheeiiaaGreatDoorTOa
import Derived.Test.YtfnkchdeheeiiaaGreatDoorTXu
set_option linter.all false
set_option maxRecDepth 100000
set_option maxHeartbeats 4000000
namespace Go.Proofs.YtfnkchdeheeiiaaGreatDoor
open _root_.List renaming take_succ_eq_append_getElem->ja,mem_cons_of_mem->jc,take_length->jd,getElem_mem->jf,map_append->jh,drop_eq_getElem_cons->ji,getElem_cons_zero->jj,getElem_cons_succ->jk,take_append_drop->jl,mem_append_right->jm,mem_append_left->jo,mem_map_of_mem->jp,map_congr_left->jq,countP_cons->jt,map_map->ju
open In renaming St->jv,wi->jx,via->jy,Env->jz,Mks->j3,Rn->j5,cy->j6,inf->j7,andM->j8,gH->j9,Nt->qd,MM->qe,arr->qf,pE->qg,cu->qh,dY->qi,iw->qk,og->ql,ux->qm,sN->qn,Qo->qp,Y9->qr,gD->qs,ub->qt
open Or renaming inl->qu,inr->qv
open _root_.Nat renaming lt_of_lt_of_le->qw,le_trans->qx,succ_le_of_lt->qy,le_of_eq->qz,zero_le->q9,not_lt_zero->xc,le_succ->xd
open And renaming intro->xf
open Go.World renaming cell?_of_block->xg
open Un renaming dR->xh
open Go.RowKit.Below renaming refl->xi,heap_setCell->xj
open Go.Proofs.Tryz renaming prog->xk
open Go.Value renaming string->xm
open Pu renaming Tok->xn,bH->xo,nC->xq
open _root_.Array renaming replicate->xt,getElem?_eq_getElem->xw
open Go.MapKept renaming heap_alloc->xy
open Ne renaming symm->zd
open Bx renaming new->zh
open Go Go.RowKit Proofs.Tryz
variable {st:BA} {dom:BA->Prop} {e:Ending} {g g1 g2:fW} {Γ:jz} {z:In.Ft} {q:qe Un.Ty} {ρ my:j5} {s s1 s2:jv} {A:List (Nd×Nd)} {ns:List BA} {ds ps:List Nat} {L ms:List Nd} {vs:List xn} {B B' K Kb b b1 b2 base cap ak f gb gv h j jb k kb l l' lo m mb n nb Ie p rb sb sc vc y:Nat} {cq vr:Nat->Nat} {ly:Nat->Option Addr×Nat} {D E P Q S u Λ:Nat->Prop} {va:Option Addr} {σ σ':St} {κ:Type} {bi:Un.Nx} {str:Un.rF} {T t:Un.Ty} {v vl vm vv vx vy x:Value} {c:WC} {V W w w' w0 w1 w2:World}
section
open Go.ChangeMaps
abbrev zF:Array Value:=#[Iv 0,Iv 0,Iv 0]
def J_ a b c w:(Instr.typeAssert (.iface 224<|.agg #[a,b,c]) 20 224 true).run xk w=.ok (.tuple #[.agg #[a,b,c],.bool true]) w:=qkr
def As b(hB:Bx w b zF)f:
 CallsD xk 102 #[Pv b] (.panicking [{v:=NK f,recovered:=false}]) w λe u' w'=>
  e=.returned (.tuple #[])/\u'=.panicking [{v:=NK f,recovered:=true}]/\Bx w' b #[Nv f.kind,Nv f.al,Nv f.to]/\Below b w w':=by
 have hta:=J_;have B0:=ai hB;obtain⟨c,ff,z⟩:=hB;refine callsD_of_wpS Tryz.func102 rfl λdd cs hu=>?_;apply wpS_seq;apply wpS_region;simp[wpOpsS,go_sem,recoverD,hu,Tryz.ntmps102,Exit.thenS];rw[show(#[Pv b]++((xt 16 undef).setIfInBounds 3<|NK f).setIfInBounds 0 (NK f))=#[Pv b,NK f,undef,undef,NK f,undef,undef,undef,undef,undef,undef,undef,undef,undef,undef,undef,undef]from rfl];obtain⟨CS,Be⟩:∃CS:List Frame,CS=({fn:=dd.fn,tmps:=dd.tmps,todo:=dd.todo,defers:=dd.defers,mode:=FrameMode.panicking [{v:=NK f,recovered:=true}],kind:=dd.kind,roundOf:=dd.roundOf}::cs):=⟨_,rfl⟩;rw[<-Be];refine wpS_of_wp ?_;go_wp2_with fail;refine⟨rfl,_,Be,.tuple #[],by simp[results,Tryz.results102,go_sem],rfl,rfl,?_,?_⟩
 .exact((B0.dJ rfl _ _ _).alloc _)
 .exact((((xi b w).setCell (br _) _).setCell (br _) _).setCell (br _) _).alloc (by simp[World.setCell];omega) _
def ag8 b:
 CallsD xk 102 #[Pv b] .returning w λe u' w'=>
  e=.returned (.tuple #[])/\u'=.returning/\w'=w:=by
 refine callsD_of_wpS Tryz.func102 rfl λdd cs hu=>?_;apply wpS_seq;apply wpS_region;simp[wpOpsS,go_sem,recoverD,hu,Tryz.ntmps102,Exit.thenS];rw[show(#[Pv b]++((xt 16 undef).setIfInBounds 3 Zv).setIfInBounds 0 Zv)=#[Pv b,Zv,undef,undef,Zv,undef,undef,undef,undef,undef,undef,undef,undef,undef,undef,undef,undef]from rfl];have Be:dd::cs={dd with mode:=.returning}::cs:=(by cases dd;simp at hu;subst hu;rfl);refine wpS_of_wp ?_
 go_wp2
 exact⟨rfl,_,Be,.tuple #[],by simp[results,Tryz.results102,go_sem],rfl,rfl,rfl⟩
def UW{s}(h:(aC s p).kind=7):aC s p=Pu.dL s:=by
 rw[aC]at h⊢;split at h
 .exfalso;revert h;rw[Pu.cI];repeat' split
  all_goals simp[Pu.gG]
 .rename_i hn;rw[if_neg hn]
def J'{s}(hk:k<(xo s 0).length)(h:(tk (xo s 0) k).kind=7):(aC s (tk (xo s 0) k).to).kind≠6:=by
 rw[iW s k hk]at h⊢;rw[UW h];show(aC s s.size).kind≠6;rw[aC];rw[if_neg (by rw[Pu.jD<|br _];omega)];simp[Pu.dL]
abbrev nE:BA:=⟨#[116,104,101,32,101,110,100]⟩
def Ke.low{a b c}(k:Ke rb b c)(h:Below B a b)(hB:B<=b.heap.size)(hr:B<=rb):Below B a c:=
 ⟨k.os.trans h.os,k.tape.trans h.tape,k.output.trans h.output,qx h.size k.size,λi hi=>(k.block i (qw hi hB) ae).trans<|h.block i hi⟩
def uV(s:BA):∀f i,(xq s f i).length<=f+1
 |0,i=>by simp[xq]|f+1,i=>by
  rw[xq];split
  .split
   .have:=uV s f<|i+1;omega
   .have:=uV s f (Pu.cI s i).to;simp;omega
  .simp
theorem Ka s i:(xo s i).length<=s.size-i+1:=uV s _ _
end
section
open Go.ChangeMaps Go.MapKept Un
abbrev KLI:KL xk 3 pT (λ_ _=>True):=KL.num Tryz.underlying3
def Kc:Tryz.prog.underlying 85=some (.map 3 83):=qkr
def adx w:(zeroValue 83).run xk w=.ok .nilFunc w:=qkr
def UX:Cq 39 #[] w λe w'=>e=.returned (Mv w.heap.size)/\Bq w w'/\MG pT w' w.heap.size (bD 2 (.func (.func 63) #[] #[])<|bD 1 (.func (.func 61) #[] #[]) []):=by
 have iN:= @run_makeMap Tryz.prog;have M0:=MG.new pT w;have k0:Bq w (w.alloc<|.map #[] 0):=bw _;have K0:=ai k0;go_enter func39,ntmps39;go_wp2_with((refine cd KLI Kc rfl _ _ _ (Or.inl rfl) rfl M0 _ _ rfl rfl ?_;clear M0;intro w' H' O';have M0:=ai H';have K1:=K0;clear K0;have K0:=ai (One.below K1 O'<|by exact br _);clear H' O' K1));go_ret;exact⟨rfl,K0,M0⟩
def Kd{w}(h:MG pT w b (bD 2 (.func (.func 63) #[] #[])<|bD 1 (.func (.func 61) #[] #[]) [])):(Instr.lookup 85 (Mv b) (Iv 1) true).run xk w=.ok (.tuple #[.func (.func 61) #[] #[],.bool true]) w/\(Instr.lookup 85 (Mv b) (Iv 2) true).run xk w=.ok (.tuple #[.func (.func 63) #[] #[],.bool true]) w:=by
 have hl:=λk:Int=>h.ms.look KLI Kc (adx w) k trivial (λ_ _=>trivial) true;constructor
 .have:=hl 1;simpa[aO]using this
 .have:=hl 2;simpa[aO]using this
section
variable {cnt:Nat} {g:jz}
def UY w C1 C2 v wc:=∃p,v=Pv p/\w.heap.size<p/\Bx wc w.heap.size C1/\Bx wc p C2/\Bq w wc
theorem UY.a w C1 C2 t1 t2:UY w C1 C2 (Pv<|w.heap.size+1) ((w.alloc<|.cells C1 t1).alloc<|.cells C2 t2).drew:=by
 have⟨p,q,h1,h2,h3,h4,h5,h6,h7⟩:=p_.a w C1 C2 t1 t2;injection h1 with h1;injection h1 with h1;injection h1 with h1;injection h2 with h2;injection h2 with h2;injection h2 with h2;subst h1 h2;exact⟨_,rfl,Nat.lt_succ_self _,h5,h6,h7⟩
def afa{R}{ab}(hs:fe w (pV c gv) ab (λv=>(R v).map Ty.var))(nM:pV c gv ab)(ht:cW w P t v)(hz:size t<=1000)(Gc:Whole t)(hcb:c.cb<w.heap.size)(hgv:gv<w.heap.size):
 Cq 314 #[Mv ab,v] w (λe w'=>∃tr xr,e=.returned (.iface tr xr)/\TW w' (pV c gv) 1100 (sub (jy R) t) (.iface tr xr)/\Bq w w'):=by
 have ev:DQ (λv=>(R v).map Ty.var)=jy R:=by
  funext v;show((R v).map Ty.var).getD (.var v)=_;rw[jy]
  cases R v<;>rfl
 have I8:=GQ hs nM ht ae (by rw[ev,iz];omega);rw[ev]at I8;refine I8.mono ?_;rintro e w'⟨u,rfl,Uk,hk⟩;obtain⟨tr,xr,rfl⟩:=Uk.iface;have hw':=pB R _ Gc;refine⟨tr,xr,rfl,⟨⟨_,Uk.wide λi p=>by obtain p|p:=p;exact p;exact⟨ae,ae⟩,(cZ.refl _).cut hw',?_⟩,hw'⟩,hk⟩;have hlq:(vars []<|sub (jy R) t).length<=1000:=by
  rw[cr];have h2:=cX (occs<|sub (jy R) t) [];have h3:=cY<|sub (jy R) t;rw[iz]at h3;simp only[ua]at h2;omega
 have:=fh hw' hlq ae;omega
def ajL c gv cnt(s:jv)w(R:j5)(p:qe (Ty×jz))Λ tk m L C1 C2 pb ab gk v1 v31 wr:=
 ∃j cj sj kj g D,Hid (gk=L.length-j)/\j<=L.length/\v1=Mv kj/\v31=Nv j/\MdS c gv cnt s w R p Λ tk m L j wr cj sj kj g D/\Bx wr w.heap.size C1/\Bx wr pb C2/\fe wr (pV c gv) ab (λv=>(R v).map Ty.var)
def At tk m i(h:i<tk.length):size tk[i]<=size (qf tk m)/\(Whole (qf tk m)->Whole tk[i])/\∀v,aD v tk[i]->aD v (qf tk m):=by
 induction tk generalizing i with
 |nil=>simp at h|cons t tk ih=>
  have e:qf (t::tk) m=In.nQ t (qf tk m):=rfl;rw[e]
  cases i with
  |zero=>
   refine⟨by simp only[jj,size,ah];omega,λq=>q.2.1,λv q=>?_⟩;simp only[aD,bT,or_false];exact qu q
  |succ i=>
   have⟨h1,h2,h3⟩:=ih i Bm;refine⟨by simp only[jk,size,ah];omega,λq=>h2 q.2.2.1,λv q=>?_⟩;simp only[aD,bT,or_false];exact qv<|h3 v q
def aan tk m:Whole (qf tk m)->Whole m:=by
 induction tk with
 |nil=>exact id|cons t tk ih=>exact λq=>ih q.2.2.1
def ady{t a}{sa}{vs:Nat->Value}(H:∀i(h:i<L.length),YG L[i])(h:PaA (.mk 2 st n L f t a) c w cnt s kb Λ g gv Q (.iface 307<|.agg #[Nv f,Nv t,Nv a,Nv y,.string st,.slice sa L.length sc]))(aM:L=[]\/∃g,sa=some ⟨g,0,none⟩/\Q g/\g<w.heap.size/\∀i,i<L.length->w.cell? ⟨g,i,none⟩=some (vs i))(hr:∀i(h:i<L.length),PP w Q L[i]<|vs i):
 Cq 360 #[Pv c.eb,Mv kb,Mv gv,.agg #[Nv f,Nv t,Nv a,Nv y,.string st,.slice sa L.length sc]] w (d_ c gv (1100*nn (.mk 2 st n L f t a)) (1000*nn (.mk 2 st n L f t a)) (qi c.mks (.mk 2 st n L f t a) g) s cnt w):=by
 have en:nn (.mk 2 st n L f t a)=1+b8 L:=by simp[nn]
 obtain⟨tk,m,hx,hl,hsc⟩:∃tk m,c.mks st=some (tk,m)/\L.length=tk.length/\∀i(h:i<L.length),rN c.mks c.nl L[i]:=by
  cases h.sc with
  |up _ _ _ _ _ _ tk m hx hl hr=>exact⟨tk,m,hx,hl,hr⟩|leaf _ _ _ _ _ _ hk=>omega
 obtain⟨p,hp⟩:∃p,p=qi c.mks (.mk 2 st n L f t a) g:=⟨_,rfl⟩;have lJ:=hp;rw[zS hx]at lJ;rw[<-hp,en];have VR:=h.ft.a;have ftb:=h.ft.b;rw[en]at VR ftb;have dU:=h.mf.sz st tk m hx;have Gc:=h.mf.wh st tk m hx;have hvs:=h.mf.vs st tk m hx;have has:=sL tk m;have yJ:(vars [] m).length<=size m:=by
  rw[cr];have h2:=cX (occs m) [];have h3:=cY m;simp only[ua]at h2;omega
 obtain⟨R,hR⟩:∃R,R=qD cnt (vars [] m):=⟨_,rfl⟩;have MR:MdR c cnt tk m R:=⟨hR,λi hi v o=>hvs v<|(At tk m i hi).2.2 v o⟩;have hta:∀i(h:i<tk.length),size tk[i]<=1000/\Whole tk[i]:=λi hi=>⟨Nat.le_trans (At tk m i hi).1 dU,(At tk m i hi).2.1 Gc⟩;have hwm:=aan tk m Gc;have k0:Bq w (w.alloc<|Cv #[Nv f,Nv t,Nv a,Nv y,Sv st,Lv sa L.length sc] 307):=bw _;have⟨v,hv,xQ⟩:=h.we.ms.look hx;obtain⟨ma,mc,ta,xa,rfl,hmr,iN⟩:=hv;have zc:=h.we.dh;have lg:=h.e.lt;have lgl:=h.l;have⟨l1,l2,l3,l4,l5⟩:=h.we.l;have⟨d1,d2,d3⟩:=h.we.d;have acP:=xQ (w.alloc<|Cv #[Nv f,Nv t,Nv a,Nv y,Sv st,Lv sa L.length sc] 307).drew<|k0.drew.block c.mb ae;have k00:Bq w ((w.alloc<|Cv #[Nv f,Nv t,Nv a,Nv y,Sv st,Lv sa L.length sc] 307).alloc<|Cv #[Lv none 0 0,Zv] 470):=k0.alloc k0.size _;have acQ:=xQ _<|k00.drew.block c.mb ae;have⟨e1,e2,e3⟩:=h.we.bx;have amp:size m<=1000:=ae;have hln:L.length<=1000:=ae;clear k00;have HA:=ai h;have HL:=ai hl;have HM:=ai<|And.intro hmr iN;have HT:=ai hta;have HS:=ai hsc;have HP':=ai lJ;have MR':=ai MR;clear h xQ hmr iN hta hsc k0 hp lJ hvs Gc dU MR hl;go_enter func360,ntmps360;go_wp2_with fail;go_cut[10]from 16 (λv1 wc=>UY w #[Nv f,Nv t,Nv a,Nv y,Sv st,Lv sa L.length sc] #[Lv ma tk.length mc,Fv ta xa] v1 wc)
 case first=>
  go_region
  all_goals(
   go_wp2_with fail
   go_meet
   case rel=>exact UY.a w _ _ _ _)
 case rest=>
  obtain⟨pb,rfl,zp,X1,X2,kc⟩:=hcut;clear acP acQ e1 e2 e3;have h:=uh HA;have HRN:=CR (h.we.af kc) ((HM.2.w.af kc)) ae ae;obtain⟨x1,x2,x3⟩:=X2;have X1':=ai X1;have X2':=show Bx wc pb #[Lv ma tk.length mc,Fv ta xa]from⟨x1,x2,x3⟩;have KC:=ai kc;clear X1 kc h;go_wp2_with fail;refine HRN.mono ?_;rintro e w2⟨ab,rfl,nM,hw2,sd,F2⟩;clear HRN x1 x2 x3;have h:=uh HA;have zkc:=KC.size;have F02:Fr (λi=>i=c.cb\/i=gv) w w2:=((Fr.of KC).trans F2).fV λ_ q=>qu q;have FB:=(Fr.of (S:=λi=>i=c.cb) KC).trans F2;have X1:=X1'.fr F2 ae;have X2:=X2'.fr F2 ae;rw[<-hR]at sd;have SB:fe w2 (pV c gv) ab (λv=>(R v).map Ty.var):=sd.bare;have M0':MdS c gv cnt s w R p Λ tk m L 0 w2 (cnt+(vars [] m).length) s kb g (λ_=>False):=by
   have k2:=h.wk.fr F02;refine⟨F02,hw2,⟨k2.k,k2.n,λn q=>by have:=k2.u n q;unfold us at*;omega,k2.ok,k2.wh⟩,h.hn,h.e.move F02.size (FB.block _ h.e.lt ae) (λb p z=>FB.block b z p.1)<|λ_ p _=>p,h.i,by rw[zR];exact In.oF.zero Λ s,λv n _ q z=>?_,λn q=>qu q,br _,by rw[List.drop_zero];omega,λo ho=>by rw[zR]at ho;rw[uh HP'];exact ho⟩;have:=MR'.num q;have:=h.wk.u n z;rw[us]at this;omega
  have SB':=ai SB;have T1:=ai X1;have T2:=ai X2;obtain⟨y1,y2,y3⟩:=X1;clear h hw2 sd F2 F02 FB X2 SB X1' X2' KC
  go_wp2
  go_loopg[1,31] L.length (λgk v1 v31 wr=>ajL c gv cnt s w R p Λ tk m L #[Nv f,Nv t,Nv a,Nv y,Sv st,Lv sa L.length sc] #[Lv ma tk.length mc,Fv ta xa] pb ab gk v1 v31 wr)
  case atStart=>exact⟨0,_,_,_,_,_,ai ag,q9 _,rfl,rfl,M0',T1,T2,SB'⟩
  case round=>
   clear M0' SB' T1 T2 y1 y2 y3;obtain⟨j,cj,sj,kj,gj,D,cR,hj,rfl,rfl,MS,X1,X2,SB2⟩:=hrel;have h:=uh HA;have zcr:=MS.we.dh;have lgr:=MS.e.lt;have zab:=SB2.lt;have nab:pV c gv ab:=⟨ae,ae⟩;by_cases aY:j<L.length
   .have bq:(j:Int)<(L.length:Int):=ae;have IF:(0:Int)<=(j:Int):=ae;have hjt:j<tk.length:=by have:=uh HL;omega
    have ag9:(j:Int)<(tk.length:Int):=ae;obtain⟨gg,rfl,hQ,hz,bM⟩:=aM.resolve_left<|λe=>qBs;have Oi:=hr j aY;have cg:=(xg (a:=⟨gg,j,none⟩)<|MS.F.block gg hz λq=>q.elim (h.hq gg hQ).1 (h.hq gg hQ).2).trans<|bM j aY;have⟨tx,ax,evs⟩:=Oi.iface;rw[evs]at cg Oi;have LV:=Oi.place;dsimp only[PlF]at LV;have hdn:b8 (L.drop j)=nn L[j]+b8 (L.drop<|j+1):=by rw[ji aY];rfl
    have mc2:=MS.c2;have mc1:=MS.c1;have hnj:nn L[j]<=b8 L:=by
     have:b8 (L.take j)+b8 (L.drop j)=b8 L:=by rw[<-sT,jl]
     omega
    have H1:=H j aY c wr cj sj kj Λ gj gv Q _ ⟨MS.we,MS.wk,MS.n,MS.e,MS.i,h.l,Oi.move MS.F.size (λb p z=>MS.F.block b z λq=>q.elim (h.hq b p).1 (h.hq b p).2)<|λ_ p _=>p,h.hq,HS j aY,⟨ae,ae,h.ft.l⟩,h.mf⟩;obtain⟨gt,vt,rfl,pgt,zgt,hct⟩:=HM.1.resolve_left (λe=>by subst e;simp at hjt);have⟨CT,TT⟩:=hct j hjt;have⟨tb,xb,evt⟩:=TT.w.iface;rw[evt]at CT TT;have B1:=ai X1;have B2:=ai X2;have HWU:=ai h.wk.u;obtain⟨y1,y2,y3⟩:=X1;clear X2 h Oi bM hct;go_wp2_with fail;refine H1.mono ?_;intro e w3 hp3;clear H1 y1 y2 y3 cg;obtain⟨c3,zz,vl,vr,rfl,q⟩|⟨c3,T3,g3,s3,ta3,xa3,kb3,rfl,q⟩:=hp3.split
    .have HP:=MS.no (S:=1100*(1+b8 L)) (DD:=1000*(1+b8 L)) HL aY (br _) q;clear hp3 q
     go_wp2
     exact⟨rfl,HP⟩
    have⟨s4,mt⟩:=MS.arg (DD:=0) MR' HL aY HWU q;have amq:=mt.c1;have amr:=mt.c2;have zmt:=mt.we.dh;have zgm:=mt.e.lt;have F3:=q.F;have LS:=mt.F;have ajM:=SB2.fr F3 (λr=>r.elim nab.1 nab.2)<|λb p _ r=>r.elim p.1 p.2;have ct3:=(xg (a:=⟨gt,j,none⟩)<|LS.block gt zgt (by have:=pgt;omega)).trans CT;have tt3:=TT.w.move (Q:=λ_=>True) LS.size (λb p z=>LS.block b z (by have:=p;omega))<|λ_ _ _=>trivial;have⟨ht1,ht2⟩:=uh HT j hjt;have zU:=afa ajM nab tt3 ht1 ht2 zmt zgm;have xS:=B1.fr F3 ae;have X2:=B2.fr F3 ae;obtain⟨x1,x2,x3⟩:=X2;have Xl:=show Bx w3 pb #[Lv (some ⟨gt,0,none⟩) tk.length mc,Fv ta xa]from⟨x1,x2,x3⟩;have MT:=ai mt;have T3':=ai q.t;clear hp3 q mt F3 LS tt3 B1 B2 SB2 MS CT TT;go_wp2_with fail;refine zU.mono ?_;rintro e w4⟨tr,xr,rfl,U4,K4⟩;clear zU x1 x2 x3 ct3;go_wp2_with fail;refine(c_ _ _).mono ?_;rintro e w5⟨rfl,k5⟩;have K5:=K4.trans<|k5.mono K4.size;have mt:=uh MT;have HEQ:=ajg (mt.we.af K5) (qw zgm K5.size) (mt.wk.af K5) mt.n ae (S:=1100*nn L[j]+1100) ae ((T3'.af K5).le ae) ((U4.af k5).le ae) mt.ti mt.ui (qk L[j])<|qm L[j];clear mt k5 U4;go_wp2_with fail;refine HEQ.mono ?_;intro e w6 hq6;clear HEQ;obtain hn|hq6:=hq6
    .obtain⟨fl,vl,vr,rfl,k6,z,rfl,he,hf⟩:=hn;have HP:=MT.no (S:=1100*(1+b8 L)) (DD:=1000*(1+b8 L)) (K5.trans<|k6.mono K5.size) (br _) he hf;clear k6 he hf
     go_wp2
     exact⟨rfl,HP⟩
    .obtain⟨b6,rfl,k6,s6,he6,kp6,wk6,hu6⟩:=hq6;have K6:=K5.trans<|k6.mono K5.size;have MS6:=MT.next K6 he6 kp6 wk6 hu6;clear k6 he6 kp6 wk6 hu6
     go_wp2
     go_roundg(L.length-(j+1))
     case measure=>rw[uh cR];omega
     case rel=>exact⟨j+1,_,_,_,_,_,ai rfl,qy aY,rfl,iK,MS6,xS.below K6,Xl.below K6,ajM.af K6⟩
   .have bq:¬(j:Int)<(L.length:Int):=ae;have ej:j=L.length:=ae;subst ej;have tmm:=HM.2.w.move (Q:=λ_=>True) MS.F.size (λb p z=>MS.F.block b z (by have:=p;omega))<|λ_ _ _=>trivial;have zU:=afa SB2 nab tmm ae hwm zcr lgr;obtain⟨x1,x2,x3⟩:=X2;clear X1 h tmm;go_wp2_with fail;refine zU.mono ?_;rintro e w4⟨tr,xr,rfl,hu4,k4⟩;have HD:=MS.done (DD:=1000*(1+b8 L)) MR' HL k4 (br _) (hu4.le<|show 1100<=1100*(1+b8 L) by omega);clear hu4 k4 zU
    go_wp2
    go_ret2;exact HD
end
section
variable {cnt:Nat} {S D:Nat} {p:qe (Ty×jz)}
def d_.below(h:d_ c gv S D p s cnt w0 e w')(hb:Bq w w0):d_ c gv S D p s cnt w e w':=⟨(Fr.of hb).trans h.1,h.2⟩
end
def ajN st n f t a(H:∀i(h:i<L.length),YG L[i]):YG (.mk 2 st n L f t a):=by
 intro c w cnt s kb Λ g gv Q v h;obtain⟨y,sa,sc,vs,rfl,aM,hr⟩:∃(y:Nat)(sa:Option Addr)(sc:Nat)(vs:Nat->Value),v=Fv 307 (Av #[Nv f,Nv t,Nv a,Nv y,Sv st,Lv sa L.length sc])/\(L=[]\/∃g,sa=some ⟨g,0,none⟩/\Q g/\g<w.heap.size/\∀i,i<L.length->w.cell? ⟨g,i,none⟩=some (vs i))/\∀i(h:i<L.length),PP w Q L[i]<|vs i:=by
  cases h.pp with
  |up _ _ _ _ _ _ y sa sc vs hu hy aM hr=>exact⟨_,sa,sc,vs,rfl,aM,hr⟩
 have k0:Bq w (w.alloc<|Cv #[Nv f,Nv t,Nv a,Nv y,Sv st,Lv sa L.length sc] 307):=bw _
 have H1:=ady H (h.part k0 h.pp h.sc<|br _) (aM.imp id λq=>by
  obtain⟨g,q1,q2,q3,q4⟩:=q
  exact⟨g,q1,q2,qw q3 k0.size,λi hi=>(xg (a:=⟨g,i,none⟩)<|k0.block g q3).trans<|q4 i hi⟩)<|λi hi=>(hr i hi).af k0
 have K0:=ai k0;have q1:=Xu;have q2:=ug;have q3:=P0;have q4:=P7;go_enter func353,ntmps353;go_wp2_with fail;refine H1.mono ?_;intro e w1 hp;have lJ:=hp.below K0;obtain⟨ak,zz,vl,vr,rfl,q⟩|⟨ak,T1,g1,s1,yO,yP,iQ,rfl,q⟩:=hp.split
 .have HP:=ai lJ
  go_wp2
  exact⟨rfl,HP⟩
 .have HP:=ai lJ
  go_wp2
  go_ret2;exact HP
def Oj:∀(L:List Nd)(i:Nat)(h:i<L.length),nn L[i]<=b8 L
 |x::l,0,_=>by simp only[jj,b8];omega|x::l,i+1,h=>by simp only[jk,b8];have:=Oj l i Bm;omega
def adz:∀(k:Nat)(nd:Nd),nn nd<=k->YG nd:=by
 intro k
 induction k with
 |zero=>intro nd h;cases nd;simp only[nn]at h;omega|succ k ih=>
  intro nd hk c w cnt s kb Λ g gv Q v h;have hp:=h.pp
  cases hp with
  |any st n f t a=>exact agp st n f t a c w cnt s kb Λ g gv Q _ h|low st n f t a=>exact agr st n f t a c w cnt s kb Λ g gv Q _ h|num st n f t a=>exact Ek (qu ⟨rfl,rfl⟩) st _ f t a c w cnt s kb Λ g gv Q _ h|word st n f t a b=>exact Ek (qv<|qu ⟨rfl,rfl⟩) st n f t a c w cnt s kb Λ g gv Q _ h|unit st n f t a=>exact Ek (qv<|qv ⟨rfl,rfl⟩) st n f t a c w cnt s kb Λ g gv Q _ h|pr st n x y f t a vx vy hx hy=>exact ajk st n f t a (ih x Cy) (ih y Cy) c w cnt s kb Λ g gv Q _ h|up st n L f t a y sa sc vs hu hy aM hr=>exact ajN st n f t a (λi hi=>ih _ (by have:=Oj L i hi;simp only[nn]at hk;omega)) c w cnt s kb Λ g gv Q _ h
def ag_ nd:YG nd:=adz _ nd<|br _
section
variable {n0:Nat} {M:qe Ty} {cnt0 cnt D D2:Nat} {s0:jv} {q2:qe Ty} {P:World->jv->Prop} {post:Ending->World->Prop} {y:Nd}
def gK.to(H:gK n0 M c w0 cnt0 s0 Λ Γ gb Q dom D q P s cnt kb w)(k:∀o,q2 s o->q s o):gK n0 M c w0 cnt0 s0 Λ Γ gb Q dom D q2 P s cnt kb w:=⟨H.wg,H.hq,H.hd,H.ft,H.mf,H.f,H.we,H.st,H.cl.imp k,H.lv,H.cn⟩
def gK.imp{P'}(H:gK n0 M c w0 cnt0 s0 Λ Γ gb Q dom D q P s cnt kb w)(k:∀w s,P w s->P' w s):gK n0 M c w0 cnt0 s0 Λ Γ gb Q dom D q P' s cnt kb w:=⟨H.wg,H.hq,H.hd,H.ft,H.mf,H.f,H.we,H.st,H.cl,λw s a b=>k _ _<|H.lv w s a b,H.cn⟩
def gK.ur{g}(H:gK n0 M c w0 cnt0 s0 Λ Γ gb Q dom D (j8 (qi c.mks y λ_=>none) g) P s cnt kb w)(K:Bq w W)(E:bP W (pV c gv) gv λ_=>none)(hg:w.heap.size<=gv)(hy:PP w0 Q y vy)(sy:rN c.mks c.nl y)(ok:∀T g1 ta xa s' aB Nc w',gK n0 M c w0 cnt0 s0 Λ Γ gb Q dom D2 (g (T,g1)) (λw s=>P w s/\(TW w (dn c) (1100*nn y) T (.iface ta xa)/\j9 Λ s T)/\bP w (dn c) gv g1/\In.du Λ s g1) s' aB Nc w'->qi c.mks y (λ_=>none) s (.ok ((T,g1),s'))->w.heap.size<=w'.heap.size->post (.returned<|.tuple #[.iface ta xa,Mv Nc]) w')(hD:D2+1000*nn y<=D)(hn:nn y<=n0)(bad:∀f l r w',ba c (1100*n0) (1000*n0) M s0 cnt0 w0 (CL f l r) w'->post (CL f l r) w':=by exact λ_ _ _ _ h=>⟨rfl,h⟩):
 Cq 353 #[Pv c.eb,Mv kb,Mv gv,vy] W post:=by
 have cn:=H.cn;have zc:=H.we.dh;have k:=(CQ.of H.st.k hg).af K;have pp:=(hy.move (Q:=λb=>Q b/\b<w.heap.size) H.f.size (λb p z=>H.f.block b z<|H.hq b p)<|λb p z=>⟨p,qw z H.f.size⟩).af K;refine(ag_ y c W cnt s kb Λ (λ_=>none) gv _ _ ⟨H.we.af K,k,H.st.n,E,(λy d q=>lI),by have:=H.we.l.2.2.2.2;omega,pp,(λb q=>⟨H.hq b q.1,by have:=q.2;omega⟩),sy,H.ft.le ae hn,H.mf⟩).mono λe w' hp=>?_;obtain⟨c3,zz,vl,vr,rfl,q⟩|⟨c3,T3,g3,s3,ta3,xa3,kb3,rfl,q⟩:=hp.split
 .exact bad _ _ _ _ (H.cl _ _ ⟨YO K hg q.F,c3,.error zz,q.c1,by have:=q.c2;omega,q.we,qu ⟨zz,q.m,rfl⟩,vl,vr,rfl,q.f⟩)
 .have st:=q.step k H.st.n<|λy d q=>lI;have F:=YO (c:=c) K hg q.F;have:=q.c1;have:=q.c2;exact ok T3 g3 ta3 xa3 s3 c3 kb3 w' ⟨H.wg,H.hq,H.hd,H.ft,H.mf,H.f.trans F,q.we,H.st.and ⟨st.k.wk,st.n,st.p⟩,H.cl.and q.m F q.c1 q.u ae,λw2 s2 a b=>⟨H.lv w2 s2 (F.trans a)<|st.p.trans b,⟨(q.t.wide (Q:=dn c) λi p=>p.1).fr a<|λ_ p _=>p,st.t.run b.run⟩,(q.e.wide (Q:=dn c) λi p=>p.1).fr a ae<|λ_ p _=>p,st.i.run b.run⟩,ae⟩ q.m F.size
end
def ajO n0(M:qe Ty)c w0 cnt0(s0:jv)Λ(Γ:jz)gb Q dom T ts xs rv nx A gk v1 v35 wr:=
 ∃j cj sj kj,Hid (gk=A.length-j)/\j<=A.length/\v1=Mv kj/\v35=Nv j/\gK n0 M c w0 cnt0 s0 Λ Γ gb Q dom (1000*b8 (aU<|A.drop j)) (l_ c.mks Γ T (.var rv) A j) (λw s=>(TW w (dn c) (1100*nx) T (.iface ts xs)/\j9 Λ s T)/\j9 Λ s (.var rv)) sj cj kj wr
def Di(h:j<A.length):b8 (aU<|A.drop j)=nn A[j].1+nn A[j].2+b8 (aU<|A.drop<|j+1):=by
 rw[ji h];simp only[aU,b8];omega
def oU:∀A:List (Nd×Nd),A.length<=b8 (aU A)
 |[]=>ag|p::r=>by have:=oU r;have:=uF p.1;simp only[pk,aU,b8];omega
def sP:∀(A:List (Nd×Nd))(j:Nat)(h:j<A.length),nn A[j].1+nn A[j].2<=b8 (aU A)
 |p::r,0,_=>by simp only[jj,aU,b8];omega|p::r,j+1,h=>by have:=sP r j Bm;simp only[jk,aU,b8];omega
section
variable {cnt:Nat}
def agy{t a}{x}{g}{vp ve:Nat->Value}(Hx:Bh x)(He:∀i(h:i<A.length),Bh A[i].2)(h:CO (.mk 13 st n (x::aU A) f t a) c w cnt s kb Λ Γ gb Q dom (.iface 201<|.agg #[Nv f,Nv t,vx,.slice (some ⟨g,0,none⟩) A.length sc]))(hg:Q g)(iP:g<w.heap.size)(hc:∀i,i<A.length->(∃u v,w.cell? ⟨g,i*4,none⟩=some (Iv u)/\w.cell? ⟨g,i*4+1,none⟩=some (Iv v))/\w.cell? ⟨g,i*4+2,none⟩=some (vp i)/\w.cell? ⟨g,i*4+3,none⟩=some (ve i))(hx:PE w Q x vx)(hp:∀i(h:i<A.length),PP w Q A[i].1<|vp i)(he:∀i(h:i<A.length),PE w Q A[i].2<|ve i):
 Cq 341 #[Pv c.eb,Mv kb,Mv gb,.agg #[Nv f,Nv t,vx,.slice (some ⟨g,0,none⟩) A.length sc]] w (ba c (1100*nn (.mk 13 st n (x::aU A) f t a)) (1000*nn (.mk 13 st n (x::aU A) f t a)) (j7 c.mks (.mk 13 st n (x::aU A) f t a) Γ) s cnt w):=by
 have en:nn (.mk 13 st n (x::aU A) f t a)=1+nn x+b8 (aU A):=LG;obtain⟨sx,SP,SE⟩:ScE c.mks c.nl dom x/\(∀i(h:i<A.length),rN c.mks c.nl A[i].1)/\∀i(h:i<A.length),ScE c.mks c.nl (λv=>dom v\/v∈pC A[i].1) A[i].2:=by
  have hs:=h.sc;generalize hL:x::aU A=L at hs
  cases hs with
  |mt _ _ _ x' A' _ _ _ hx hp he=>
   injection hL with h1 h2;subst h1;have hA:A=A':=by
    have:∀(A A':List (Nd×Nd)),aU A=aU A'->A=A':=by
     intro A
     induction A with
     |nil=>intro A' e;cases A' with|nil=>rfl|cons=>simp[aU]at e
     |cons p r ih=>
      intro A' e
      cases A' with
      |nil=>simp[aU]at e|cons p' r'=>
       simp only[aU,List.cons.injEq]at e;obtain⟨e1,e2,e3⟩:=e;rw[ih r' e3,Prod.ext e1 e2]
    exact this A A' h2
   subst hA;exact⟨hx,hp,he⟩
  |leaf _ _ _ _ _ _ _ hk=>omega|two _ _ _ _ _ _ _ _ _ hk=>omega|lt _ _ _ _ _ _ _ _ _ _ hk=>omega
 have fb:=h.ft.b;rw[en]at fb;have hAl:=oU A;have iN:= @run_makeMap Tryz.prog;have HX:=ai hx;obtain⟨tx,ax,rfl⟩:=hx.iface;have H:=gK.start h<|Nb ..;obtain⟨n0,hn0⟩:∃n0,n0=nn (.mk 13 st n (x::aU A) f t a):=⟨_,rfl⟩;obtain⟨M,hM⟩:∃M,M=In.inf c.mks (.mk 13 st n (x::aU A) f t a) Γ:=⟨_,rfl⟩;rw[<-hM,<-hn0]at H⊢;rw[en]at hn0;have EN:=ai hn0;have HP:=ai hp;have HE:=ai he;have HC:=ai hc;clear h hx en hn0 hM hp he hc;go_enter func341,ntmps341;go_wp2_with fail;refine H.box.ex (D2:=1000*(1+b8 (aU A))) Hx HX sx ?_ (by rw[uh EN];omega) (by rw[uh EN];omega);intro T1 yO yP s1 ak iQ w1 H;have⟨⟨_,b1,b2,b3⟩,_⟩:=H.p;have⟨e1,e2,e3⟩:=H.we.bx;go_wp2_with fail;refine H.new (D2:=1000*b8 (aU A)) ?_ ae;intro s3 w3 H;clear e1 e2 e3 b1 b2 b3;have⟨⟨⟨_,b1,b2,b3⟩,_⟩,_⟩:=H.p
 go_wp2
 go_loopg[1,35] A.length (λgk v1 v35 wr=>ajO n0 M c w cnt s Λ Γ gb Q dom T1 yO yP (ak+1) (nn x) A gk v1 v35 wr)
 case atStart=>exact⟨0,_,_,_,ai ag,q9 _,rfl,rfl,H.imp λ_ _ h=>⟨h.1.2,h.2⟩⟩
 case round=>
  clear H b1 b2 b3;obtain⟨j,cj,sj,kj,cR,hj,rfl,rfl,H⟩:=hrel;by_cases aY:j<A.length
  .have bq:(j:Int)<(A.length:Int):=ae;have IF:(0:Int)<=(j:Int):=ae;have⟨⟨u,v,d0,d1⟩,d2,d3⟩:=HC j aY;rw[<-xg (a:=⟨g,_,none⟩) (H.f.block g iP<|H.hq g hg)]at d0 d1 d2 d3;have⟨t1,x1,e1⟩:=(HP j aY).iface;have⟨t2,x2,e2⟩:=(HE j aY).iface;have PP1:=HP j aY;have PE2:=HE j aY;rw[e1]at d2 PP1;rw[e2]at d3 PE2;have pl1:=PP1.place;have pl2:=PE2.place;dsimp only[PlF]at pl1 pl2
   replace PP1:=ai PP1
   replace PE2:=ai PE2
   have hdn:=Di aY;have hnn:=sP A j aY;have l5:=H.we.l.2.2.2.2;have H:=H.to λo q=>CV aY q;have zc:=H.we.dh;go_wp2_with fail;refine(H.box (C:=#[Iv u,Iv v,Fv t1<|Av x1,Fv t2<|Av x2]) (t:=257)).ur (D2:=1000*(nn A[j].2+b8 (aU<|A.drop<|j+1))) (gv:=wr.heap.size+1) (bw _) (by have:=bP.new (wr.alloc<|Cv #[Iv u,Iv v,Fv t1<|Av x1,Fv t2<|Av x2] 257)<|pV c<|wr.heap.size+1;simpa using this) ag PP1 (SP j aY) ?_ ae (by rw[uh EN];omega);intro T3 g3 ta3 xa3 s3 c3 kb3 w3 H hm3 z3;clear d0 d1 d2 d3;have⟨⟨_,b1,b2,b3⟩,_⟩:=H.p;go_wp2_with fail;refine(c_ _ _).mono ?_;rintro e w4⟨rfl,K4⟩;have H:=H.af K4;clear b1 b2 b3;have⟨⟨_,b1,b2,b3⟩,_⟩:=H.p;go_wp2_with fail;refine H.eq (S:=900000) (H.p.1.1.1.1.le ae) (H.p.2.1.1.le ae) H.p.1.1.1.2 H.p.2.1.2 ?_;intro b5 s5 w5 H;clear b1 b2 b3;have⟨⟨_,b1,b2,b3⟩,_⟩:=H.p
   replace hm3:=ai hm3
   go_wp2_with fail;go_cut[16,17]from 56 to 75 (λv16 v17 wc=>∃T6 s6 c6 YU YV VV,v16=Mv VV/\v17=Fv YU YV/\gK n0 M c w cnt s Λ Γ gb Q dom (1000*b8 (aU<|A.drop<|j+1)) (j8 (qt (.var<|ak+1) T6 (qk A[j].2)<|qm A[j].2) λ_=>l_ c.mks Γ T1 (.var<|ak+1) A<|j+1) (λw' s=>(((TW w' (dn c) (1100*nn x) T1 (Fv yO yP)/\j9 Λ s T1)/\j9 Λ s (.var<|ak+1))/\Bx w' wr.heap.size #[Iv u,Iv v,Fv t1<|Av x1,Fv t2<|Av x2])/\TW w' (dn c) (1100*nn A[j].2) T6 (Fv YU YV)/\j9 Λ s T6) s6 c6 VV wc)
   case first=>
    go_region_with(first
     |(go_at_call 331;go_loud(refine(Cg ((H.wg.fr H.f H.st.p.run).e.af (xi _ _).drew)<|H.p.2.2.1.af (xi _ _).drew).mono ?_);rintro e w6⟨b6,rfl,z6,h6,k6⟩;have K6:=ai<|(xi w5.heap.size w5).drew.trans k6;have⟨⟨_,d1,d2,d3⟩,_⟩:=(H.af K6).p;have E6:=ai h6;have Z6:=ai z6;clear k6 h6 z6)
     |(go_at_call 323;go_loud(refine H.exG (D2:=1000*b8 (aU<|A.drop<|j+1)) K6 (He j aY) ⟨H.we.af K6,H.st.k.af K6,H.st.n,(H.wg.fr H.f H.st.p.run).over (SP j aY) hm3 H.p.2.2.2 E6 (by have z:=uh Z6;have:=H.we.dh;have q:w5.heap.size<=b6:=z;omega),(PE2.move H.f.size (λb p z=>H.f.block b z<|H.hq b p)<|λ_ p _=>p).af K6,H.hq,SE j aY,Jd (SP j aY) hm3 H.hd,H.ft.le qBw (by rw[uh EN];omega),H.mf⟩ ?_ ae);intro T6 YU YV s6 c6 VV w7 H7))
    all_goals(
     go_wp2_with fail
     go_meet
     case rel=>exact⟨_,_,_,_,_,_,rfl,rfl,H7.imp λ_ _ h=>⟨h.1.1,h.2⟩⟩)
   case rest=>
    obtain⟨T6,s6,c6,YU,YV,VV,rfl,rfl,H⟩:=hcut;clear b1 b2 b3;have⟨⟨_,b1,b2,b3⟩,_⟩:=H.p;go_wp2_with fail;refine(c_ _ _).mono ?_;rintro e w8⟨rfl,K8⟩;have H:=H.af K8;go_wp2_with fail;refine H.eq (S:=900000) (pD w8 c ak _ ae) (H.p.2.1.le ae) H.p.1.1.2 H.p.2.2 ?_;intro b9 s9 w9 H
    go_wp2
    go_roundg(A.length-(j+1))
    case measure=>rw[uh cR];omega
    case rel=>exact⟨j+1,_,_,_,ai rfl,qy aY,rfl,iK,H.imp λ_ _ h=>h.1.1⟩
  .have bq:¬(j:Int)<(A.length:Int):=ae;have ej:j=A.length:=ae;subst ej;have H:=H.to λo q=>Jc c.mks Γ T1 (.var<|ak+1) A sj o q
   go_wp2
   go_ret2;exact H.ret (pD wr c ak 1<|br _) (by rw[uh EN];omega)
end
section
variable {cnt:Nat}
def aao(mk:j3)s n x y f t a(Γ:jz)(hv:vars [] (aH []<|es y).1=[]):j7 mk (.mk 14 s n [x,y] f t a) Γ=j8 (j7 mk x Γ) λa=>j8 (qt a (aH []<|es y).1 (qk x)<|qm x) λ_=>In.cT (aH []<|es y).1:=by simp[j7,In.oB,In.dZ,In.dv,In.iU,hv]
def YX{t a}{x y}(Hx:Bh x)(h:CO (.mk 14 st n [x,y] f t a) c w cnt s kb Λ Γ gb Q dom (.iface 311<|.agg #[Nv f,Nv t,vx,vy]))(hx:PE w Q x vx)(hy:PT w Q y vy):
 Cq 337 #[Pv c.eb,Mv kb,Mv gb,.agg #[Nv f,Nv t,vx,vy]] w (ba c (1100*nn (.mk 14 st n [x,y] f t a)) (1000*nn (.mk 14 st n [x,y] f t a)) (j7 c.mks (.mk 14 st n [x,y] f t a) Γ) s cnt w):=by
 have en:nn (.mk 14 st n [x,y] f t a)=1+nn x+nn y:=LG;obtain⟨sx,hv,hz,hw⟩:ScE c.mks c.nl dom x/\vars [] (aH []<|es y).1=[]/\size (aH []<|es y).1<=1000/\Whole (aH []<|es y).1:=by
  cases h.sc with
  |of _ _ _ _ _ _ _ _ hx hv hz hw=>exact⟨hx,hv,hz,hw⟩|two _ _ _ _ _ _ _ _ _ hk=>omega|lt _ _ _ _ _ _ _ _ _ _ hk=>omega
 obtain⟨n0,em⟩:=aeU hy [] (λm o=>by have:=In.bC.2 o;rw[hv]at this;cases this) hz;have ei:=aao c.mks st n x y f t a Γ hv;rw[em]at hz hw hv ei;obtain⟨M,hM⟩:∃M,M=m0 y:=⟨_,rfl⟩;have zU:=aeV y n0;unfold En at zU;rw[<-hM]at hv hz hw zU ei;dsimp only at hv hz hw ei;have tiM:∀s,j9 Λ s M:=λs=>by
  have mE:∀m,¬aD m M:=λm o=>by have:=In.bC.2 o;rw[hv]at this;cases this
  refine⟨λm o=>(mE m o).elim,λm o=>?_⟩;obtain⟨m',o1,_⟩:=(qh _).1 o;exact(mE m' o1).elim
 have hny:=uF y;have DT:=uF x;have fb:=h.ft.b;rw[en]at fb;have H:=gK.start h ei
 replace en:=ai en
 clear h ei hM em;have HX:=ai hx;have HY:=ai hy;have TI:=ai tiM;have PR:=ai<|And.intro hw hz;obtain⟨tx,ax,rfl⟩:=hx.iface;obtain⟨ty,ay,rfl⟩:=hy.bJ;have LV:=hx.place;dsimp only[PlF]at LV;clear hx hy tiM hv hw hz;go_enter func337,ntmps337;go_wp2_with fail;refine H.box.ex (D2:=1000) Hx HX sx ?_ qA qA;intro T1 yO yP s1 ak iQ w1 H;obtain⟨⟨_,b1,b2,b3⟩,_⟩:=H.p;have HO:=zU w1 Q _<|HY.fr H.f<|λb p _=>H.hq b p;have z1:=H.we.dh;go_wp2_with fail;refine HO.mono ?_;rintro e w2⟨u2,rfl,vE,F2⟩;obtain⟨tu,xu,rfl⟩:=vE.iface;have TM:=TW.of (vE.w.wide λb p=>by show b≠c.cb;have:w1.heap.size<=b:=p;omega) PR.1 PR.2;have H:=(H.af ⟨F2.os,F2.tape,F2.output,F2.size,λb z=>F2.block b z id⟩).add λw' _ f _=>TM.fr f<|λ_ p _=>p;clear b1 b2 b3 vE TM HO;obtain⟨⟨⟨_,b1,b2,b3⟩,_⟩,_⟩:=H.p;go_wp2_with fail;refine(c_ _ _).mono ?_;rintro e w4⟨rfl,K4⟩;have H:=H.af K4;go_wp2_with fail;refine H.eq (S:=900000) (H.p.1.2.1.le ae) (H.p.2.le ae) H.p.1.2.2 (TI _) ?_;intro kb5 s5 w5 H
 go_wp2
 go_ret2;exact H.ret H.p.2 qA
end
structure BdA rc st x c w cnt(s:jv)kb(Λ:Nat->Prop)(Γ:jz)gb Q(dom:BA->Prop)v:Prop where
 we:WE w c cnt
 wk:WK w c cnt s kb
 hn:∀n,¬s.u n->Λ n
 wg:WG w c s Λ Γ gb
 pe:PE w Q x v
 hq:∀b,Q b->b≠c.cb
 sc:ScE c.mks c.nl (λv=>dom v\/(rc=true/\v=st)) x
 hd:∀x,dom x->Γ x≠none
 ft:Fit c cnt (1+nn x)
 mf:MkFine c.mks
 iL:st∈c.nl
section
variable {cnt:Nat}
def BdA.af{rc}{st}{x}{v}{w1}(h:BdA rc st x c w cnt s kb Λ Γ gb Q dom v)(hb:Bq w w1):BdA rc st x c w1 cnt s kb Λ Γ gb Q dom v:=
 ⟨h.we.af hb,h.wk.af hb,h.hn,h.wg.af hb,h.pe.af hb,h.hq,h.sc,h.hd,h.ft,h.mf,h.iL⟩
def YS{a:Nat}{x:Nd}(Hx:Bh x)(h:BdA false st x c w cnt s kb Λ Γ gb Q dom vx):
 Cq 313 #[Pv c.eb,Mv kb,Mv gb,.agg #[.bool false,Nv a,Nv y,.string st,vx]] w (ba c (1100*(1+nn x)) (1000*(1+nn x)) (j6 false st x (j7 c.mks x) Γ) s cnt w):=by
 have k0:Bq w (w.alloc<|Cv #[.bool false,Nv a,Nv y,Sv st,vx] 142):=bw _;have h1:=h.af k0;have H1:=Hx c _ cnt s kb Λ Γ gb Q _ vx ⟨h1.we,h1.wk,h1.hn,h1.wg,h1.pe,h1.hq,h1.sc,λv q=>h1.hd v (q.resolve_right λr=>by cases r.1),h1.ft.le ae ae,h1.mf⟩;have K0:=ai k0;obtain⟨tx,ax,rfl⟩:=h.pe.iface;go_enter func313,ntmps313;go_wp2_with fail;refine H1.mono ?_;intro e w1 hp;obtain⟨ak,zz,vl,vr,rfl,q1⟩|⟨ak,T1,s1,yO,yP,iQ,rfl,q1⟩:=hp.split
 .clear hp
  go_wp2
  exact⟨rfl,(Fr.of K0).trans q1.F,ak,.error zz,q1.c1,by have:=q1.c2;omega,q1.we,q1.m,vl,vr,rfl,q1.f⟩
 .have QQ:=ai q1
  go_wp2
  go_ret2;have q1:=uh QQ;exact⟨(Fr.of K0).trans q1.F,ak,.ok (T1,s1),q1.c1,by have:=q1.c2;omega,q1.we,q1.m,q1.u,q1.wh,yO,yP,iQ,rfl,q1.n,q1.k,q1.t.le ae⟩
def Er st x pe(Γ:jz):j6 true st x pe Γ=j8 In.kM λv=>j8 (pe<|qs Γ st<|In.mono<|.var v) λt=>j8 (qt (.var v) t (qk x)<|qm x) λ_=>In.cT t:=by simp[j6]
def BdA.at{rc}{x:Nd}{M}(h:BdA rc st x c w cnt s kb Λ Γ gb Q dom v)(e:M=q):gK (1+nn x) M c w cnt s Λ Γ gb Q dom (1000*(1+nn x)) q (λ_ _=>True) s cnt kb w:=⟨h.wg,h.hq,h.hd,h.ft,h.mf,Fr.refl _ _,h.we,⟨h.wk,h.hn,In.Kp.refl h.wk.ok h.hn⟩,λ_ _ h=>e▸h,λ_ _ _ _=>trivial,br _⟩
def YT{a:Nat}{x:Nd}(Hx:Bh x)(h:BdA true st x c w cnt s kb Λ Γ gb Q dom vx):
 Cq 313 #[Pv c.eb,Mv kb,Mv gb,.agg #[.bool true,Nv a,Nv y,.string st,vx]] w (ba c (1100*(1+nn x)) (1000*(1+nn x)) (j6 true st x (j7 c.mks x) Γ) s cnt w):=by
 have dU:=jU;have fb:=h.ft.b;have iL:=h.iL;have sx:=ai h.sc;obtain⟨tx,ax,rfl⟩:=h.pe.iface;have HX:=ai h.pe;have LV:=h.pe.place;have H:=h.at<|Er st x (In.inf c.mks x) Γ;dsimp only[PlF]at LV;clear h;have⟨e1,e2,e3⟩:=H.we.bx;go_enter func313,ntmps313;go_wp2_with fail;refine H.box.new (D2:=1000*nn x+999) ?_ ae;intro s3 w3 H;clear e1 e2 e3;have⟨⟨_,b1,b2,b3⟩,_⟩:=H.p;go_wp2_with fail;go_cut[11,1]from 12 (λvt vk wc=>∃T6 s6 Jf YU YV VV,vt=Fv YU YV/\vk=Mv VV/\gK (1+nn x) (In.cy true st x (In.inf c.mks x) Γ) c w cnt s Λ Γ gb Q dom 999 (In.andM (In.ub (.var<|cnt+1) T6 (In.iw x)<|In.ux x) λ_=>In.cT T6) (λw' s=>((True/\Bx w' w.heap.size #[.bool true,Nv a,Nv y,Sv st,Fv tx<|Av ax])/\In.gH Λ s (.var<|cnt+1))/\TW w' (dn c) (1100*nn x) T6 (Fv YU YV)/\In.gH Λ s T6) s6 Jf VV wc)
 case first=>
  go_region_with(first
   |(go_at_call 319;go_loud(refine(xP ((H.wg.fr H.f H.st.p.run).e.af (xi _ _).drew) st<|I4 (pD w3.drew c cnt 1<|br _) ae).mono ?_);rintro e w5⟨b5,rfl,z5,h5,k5⟩;have K5:=ai<|(xi w3.heap.size w3).drew.trans k5;have⟨⟨_,d1,d2,d3⟩,_⟩:=(H.af K5).p;have E5:=ai h5;have Z5:=ai z5;clear k5 h5 z5)
   |(go_at_call 323;go_loud(refine H.exG (D2:=999) K5 Hx (H.asks K5 E5 Z5 H.p.2.mono List.nodup_nil iL HX sx (λ_ q=>q.imp id (·.2)) ae ae) ?_);intro T6 YU YV s6 Jf VV w6 H6))
  all_goals
   go_wp2_with fail
   go_meet
   case rel=>exact⟨_,_,_,_,_,_,rfl,rfl,H6⟩
 case rest=>
  obtain⟨T6,s6,Jf,YU,YV,VV,rfl,rfl,H⟩:=hcut;clear b1 b2 b3;have⟨⟨⟨_,b1,b2,b3⟩,_⟩,_⟩:=H.p;go_wp2_with fail;refine(c_ _ _).mono ?_;rintro e w7⟨rfl,K7⟩;have H:=H.af K7;go_wp2_with fail;refine H.eq (S:=900000) (pD w7 c cnt _ ae) (H.p.2.1.le ae) H.p.1.2 H.p.2.2 ?_;intro kb8 s8 w8 H
  go_wp2
  go_ret2;exact H.ret H.p.2.1 ae
end
structure WT w c cnt(u:Nat->Prop)(Γ:jz):Prop where
 we:WE w c cnt
 e:bP w (λi=>i≠c.cb/\i≠c.eb) c.nb Γ
 n:c.nb≠c.cb/\c.nb≠c.eb
 hu:∀n,u n->us cnt n
 top:In.Top ⟨Ty.var,u⟩ Γ
 dm:∀x,Γ x≠none->x∈c.nl
structure LtA rc st x c w cnt u(Γ:jz)Q(dom:BA->Prop)v:Prop where
 wt:WT w c cnt u Γ
 pe:PE w Q x v
 hq:∀b,Q b->b≠c.cb/\b≠c.eb
 sc:ScE c.mks c.nl (λv=>dom v\/(rc=true/\v=st)) x
 hd:∀x,dom x->Γ x≠none
 ft:Fit c cnt (1+nn x)
 mf:MkFine c.mks
 iL:st∈c.nl
def Rq{p:Prop}(h:p:=by
 induction h with
 |var n=>exact .var n|aJ c L sa sc vs hc aM hr ih=>
  refine .aJ c L sa sc vs hc ?_ ih;obtain h0|⟨g,h1,h2,h3,h4⟩:=aM
  .exact qu h0
  .by_cases h0:L=[]
   .exact qu h0
   .refine qv ⟨g,h1,⟨h2,λe=>?_⟩,h3,h4⟩;have hl:=List.length_pos_iff.2 h0;have q:=h4 0 hl;rw[e,hb]at q;injection q with q;obtain⟨a,y,r⟩:=(hr 0 hl).iface
    exact hx a y<|q.trans r):p:=h
def cW.not(h:cW w P t v)(hb:w.cell? ⟨b,0,none⟩=some x)(hx:∀a y,x≠.iface a y):cW w (λi=>P i/\i≠b) t v:=by
 exact Rq
def dB.not(h:dB w P t v)(hb:w.cell? ⟨b,0,none⟩=some x)(hx:∀a y,x≠.iface a y):dB w (λi=>P i/\i≠b) t v:=by
 exact Rq
def qO.hv{vr:Value}(h:qO w P z vl vr):(vl=.nilIface/\vr=.nilIface)\/∃a b c d,vl=.iface a b/\vr=.iface c d:=by
 obtain k|k:=h.k
 .have⟨h1,h2⟩:=h.apart k;have⟨a,b,e1⟩:=h1.iface;have⟨c,d,e2⟩:=h2.iface;exact qv ⟨a,b,c,d,e1,e2⟩
 .exact qu (h.rK k)
def qO.one{vr:Value}(h:qO w P z vl vr)(hb:w.cell? ⟨b,0,none⟩=some x)(hx:∀a y,x≠.iface a y)(hf:Fr (λi=>i=b) w w'):qO w' P z vl vr:=
 ⟨h.rK,λk=>⟨((h.apart k).1.not hb hx).move hf.size (λi p q=>hf.block i q p.2)<|λ_ p _=>p.1,((h.apart k).2.not hb hx).move hf.size (λi p q=>hf.block i q p.2)<|λ_ p _=>p.1⟩,h.k⟩
abbrev BQ(f:Fl)(vl vr:Value):Value:=.agg #[Nv f.kind,Nv f.al,Nv f.to,vl,vr]
def Xj c cnt u(Γ:jz)rc st a y x w(e:Ending)w':=Fr (λi=>i=c.cb\/i=c.eb) w w'/\∃o,j6 rc st x (j7 c.mks x) Γ ⟨Ty.var,u⟩ o/\match o with
 |.error z=>∃vl vr,e=.returned (.tuple #[.nilIface,BQ z.f vl vr])/\qO w' (dn c) z vl vr
 |.ok (t,s)=>(48<size (sub s.k t)/\e=.returned (.tuple #[.nilIface,BQ ⟨7,a,y⟩ .nilIface .nilIface]))\/
  (size (sub s.k t)<=48/\∃T ta xa aB Ie,T=(if In.H9 x then sub s.k t else ql (sub s.k t))/\e=.returned (.tuple #[.iface ta xa,.agg LD])/\cW w' (dn c) T (.iface ta xa)/\Whole T/\aB<=cnt+1000*(1+nn x)/\WT w' {c with nb:=Ie} aB s.u (qs Γ st ⟨T,vars [] T⟩))
def mN.not{w}{P}{mb b}{mk}{x}(h:mN w P mb mk)(hb:w.cell? ⟨b,0,none⟩=some x)(hx:∀a y,x≠.iface a y):mN w (λi=>P i/\i≠b) mb mk:=by
 obtain⟨L,h1,h2,h3⟩:=h;refine⟨L,h1,h2,λk v hk=>?_⟩;obtain⟨tk,m,e,sa,sc,ta,xa,rfl,q1,q2⟩:=h3 k v hk;refine⟨tk,m,e,sa,sc,ta,xa,rfl,?_,q2.not hb hx⟩;obtain q1|⟨g,vs,q3,q4,q5,q6⟩:=q1
 .exact qu q1
 .by_cases h0:tk=[]
  .exact qu h0
  .have hl:=List.length_pos_iff.2 h0;refine qv ⟨g,vs,q3,⟨q4,λe=>?_⟩,q5,λi hi=>⟨(q6 i hi).1,(q6 i hi).2.not hb hx⟩⟩;have⟨q7,q8⟩:=q6 0 hl;rw[e,hb]at q7;injection q7 with q7;have⟨a,y,r⟩:=q8.iface;exact hx a y<|q7.trans r
def MG.bE{enc}{L:List (κ×Value)}(h:MG enc w b L)(o:Nat):w.cell? ⟨b,o,none⟩=none:=by
 obtain⟨es,c,h1,_⟩:=h;simp[World.cell?,h1]
def yh{p:Prop}(h:p:=by
 have:=h.bx.c 0;rw[<-e]at this
 exact absurd this (by rw[hM.bE 0];simp)):p:=h
def WE.put{cnt}(h:WE w c cnt)(hf:Fr (λi=>i=c.eb\/c.fV<=i) w w')(he:Bx w' c.eb (afU {c with nb:=nb})):WE w' {c with nb:=nb} cnt:=by
 have⟨l1,l2,l3,l4,l5⟩:=h.l;have⟨d1,d2,d3⟩:=h.d;have ne1:c.rb≠c.eb:=λe=>by
  have⟨L,hM,_⟩:=h.rs;exact yh
 have ne2:c.mb≠c.eb:=λe=>by
  have⟨L,hM,_⟩:=h.ms;exact yh
 refine⟨he,h.ct.fr hf ae,h.rs.same<|hf.block _ h.rs.lt ae,?_,h.d,⟨l1,l2,l3,l4,qx l5 hf.size⟩⟩;exact(h.ms.not (h.bx.c 0) ag).move hf.size (hf.block _ h.ms.lt ae) (λb p z=>hf.block b z (by have:=p;omega)) (λb p _=>p.1)
mutual
def Au:∀t,size (sub (λ_=>qn) t)=size t
 |.var n=>by simp[sub,size,ah]|.aJ c l=>by simp only[sub,size,wJ l]
def wJ:∀l,ah (aS (λ_=>qn) l)=ah l
 |[]=>rfl|t::l=>by simp only[aS,ah,Au t,wJ l]
end
def kQ t:size (ql t)=size t:=Au t
def yX:Whole qn:=⟨λe=>by have:=congrArg ByteArray.size e;revert this;decide,trivial⟩
def QTy:EQ Ty:=λw P t c=>dB w P t<|c 0
def iB:gw QTy:=by grind[gw,QTy,dB.move]
def vsT(j:Nat):List Ty:=(List.range j).map λi=>.var<|i+1
def aap j:vsT (j+1)=vsT j++[.var<|j+1]:=by simp[vsT,List.range_succ]
def pQ j:(vsT j).length=j:=by simp[vsT]
structure TdF(t:xn)(vs:List xn)(ms:List Nd):Prop where
 up:nI t.text
 vn:(vs.map (·.text)).Nodup
 vl:vs.length<=900
 vq:∀v∈vs,O6 v.text
 ml:ms.length<=900
 mt:∀i(h:i<ms.length),∃s n L f u a,ms[i]=.mk 2 s n L f u a/\L.length<=900/\∀k(hk:k<L.length),sI L[k]/\(aH (vs.map (·.text)) L[k]).2=vs.map (·.text)/\aH (vs.map (·.text)) (es L[k])=aH (vs.map (·.text)) L[k]
def Rr{s:BA}:∀{ns:List BA},s∉ns->ix s ns=ns.length/\ix s (ns++[s])=ns.length
 |[],_=>⟨rfl,by simp[ix]⟩|a::ns,h=>by
  have h1:¬a.toList=s.toList:=λe=>h (by rw[show a=s from by have:=congrArg List.toArray e;cases a;cases s;simp_all[ByteArray.toList_eq]];simp);have⟨h2,h3⟩:=Rr (s:=s) (ns:=ns)<|λq=>h ML;simp[ix,h1,h2,h3]
def Fr.grown{a}{row}(h:Fr S a W)(hg:W.grownBy w' row)(hr:∀b,row=some b->S b\/a.heap.size<=b):Fr S a w':=
 ⟨hg.os.trans h.os,hg.tape.trans h.tape,hg.output.trans h.output,qx h.size hg.size,λk hk hn=>(hg.block k (qw hk h.size) (λe=>by obtain q|q:=hr k e.symm;exact hn q;omega)).trans (h.block k hk hn)⟩
def dw.ty{c}{L:List Ty}(hc:nI c)(h:dw QTy 67 1 w base va vc L):dB w (λb=>base<=b) (.aJ c L) (.iface 169<|.agg #[.string c,.slice va L.length vc]):=by
 have⟨pZ,p7,cs,e,aM,hq⟩:=h.v iB;injection e with e1 _ e2;subst e1 e2;have:=dB.aJ (w:=w) (P:=λb=>base<=b) c L va vc (λi=>cs i 0) (qv<|qv hc) (aM.imp id λ⟨g,q1,q2,q3,q4⟩=>⟨g,q1,q2,q3,λi hi=>by simpa using q4 i hi 0 aK⟩) (λi hi=>hq i hi)
 rwa[eM hc]at this
def dw.alg{L:List Ty}(h:dw QTy 67 1 w base va vc L):Yw w (λb=>base<=b) va L:=by
 have⟨pZ,p7,cs,e,aM,hq⟩:=h.v iB;injection e with e1 _ e2;subst e1 e2;exact aM.imp id λ⟨g,q1,q2,q3,q4⟩=>⟨g,λi=>cs i 0,q1,q2,q3,λi hi=>⟨by simpa using q4 i hi 0 aK,hq i hi⟩⟩
def tA:Tryz.prog.underlying 214=some (.map 9 470):=qkr
def wK{ops}{rest}{o}{a}{F}{mk}(hg:o.guard=none)m x v(rJ:o.op=Op.insert 214 m x v\/o.op=Op.mapUpdate 214 m x v)(hm:a.eval m=Mv b)(h:mN w P b mk)(hP:¬P b){tk}{mt}{u}(hc:VT w P tk mt u)n(hx:a.eval x=.string n)(hv:a.eval v=u)(hK:∀w',mN w' P b (λy=>if y=n then some (tk,mt)else mk y)->One b w w'->wpList xk ops F rest (a.put o.dst undef) w'):
 wpList xk ops F (o::rest) a w:=by
 obtain⟨L,h1,h2,h3⟩:=h;refine cd PL tA hg m x v rJ hm h1 n u hx hv λw' hM o=>hK w' ⟨_,hM,λy hy=>?_,λy z hy=>?_⟩ o
 .rw[aO]at hy;by_cases e:n=y
  .grind
  .grind
 .have mv:∀{tk m v},VT w P tk m v->VT w' P tk m v:=λh=>h.move LB (λx p _=>o.block x<|λe=>hP<|e▸p)<|λ_ p _=>p;rw[aO]at hy;by_cases e:n=y
  .grind
  .grind
def Aw(t:xn)(vs:List xn)(m:Nd):∀(l:List Nd)(mk:j3),jx t vs (l++[m]) mk=λy=>if y=qr m then some (In.QT (vs.map (·.text)) m,qd t vs)else jx t vs l mk y
 |[],mk=>rfl|x::l,mk=>by
  show jx t vs (l++[m]) _=_;rw[Aw t vs m l];rfl
def Rs ns(L:List Nd):=L.map λx=>(aH ns x).1
def aaq{ns:List BA}:∀{L:List Nd},(∀k(hk:k<L.length),(aH ns L[k]).2=ns/\aH ns (es L[k])=aH ns L[k])->aA ns (vX L)=(Rs ns L,ns)
 |[],_=>rfl|x::l,h=>by
  have⟨h1,h2⟩:=h 0 ag;have h1:(aH ns x).2=ns:=h1;have h2:aH ns (es x)=aH ns x:=h2;have h3:=aaq (L:=l) λk hk=>h (k+1) bB;simp[vX,aA,h2,h1,h3,Rs]
def aar(h:k<L.length):Rs ns (L.take<|k+1)=Rs ns (L.take k)++[(aH ns L[k]).1]:=by
 rw[Rs];rw[ja h,jh];rfl
def adA(h:k<=L.length):(Rs ns<|L.take k).length=k:=by grind[Rs]
def alh w7 B p4 mm kb fb cb mb(t:xn)(vs:List xn)(ms:List Nd)va vc gk v wr:=
 ∃(j:Nat),Hid (gk=ms.length-j)/\j<=ms.length/\v=Nv j/\NM wr kb fb cb mb (vs.map (·.text))/\Bx wr p4 #[.string t.text,.slice va vs.length vc]/\dB wr (λi=>B<=i/\i≠cb/\i≠mb/\i≠mm) (qd t vs) (.iface 169<|.agg #[.string t.text,.slice va vs.length vc])/\mN wr (λi=>B<=i/\i≠cb/\i≠mb/\i≠mm) mm (jx t vs (ms.take j) λ_=>none)/\Fr (λi=>i=cb\/i=mb\/i=mm) w7 wr
def ali w8 p10 kb fb cb mb(vs:List xn)(L:List Nd)mv gk v wr:=
 ∃(j:Nat)(va:Option Addr)(vc:Nat),Hid (gk=L.length-j)/\j<=L.length/\v=Nv j/\NM wr kb fb cb mb (vs.map (·.text))/\Bx wr p10 #[.slice va j vc,mv]/\dw QTy 67 1 wr w8.heap.size va vc (Rs (vs.map (·.text))<|L.take j)/\Fr (λi=>i=cb\/i=mb\/i=p10) w8 wr
def alj w0 p4 kb fb cb mb(t:xn)(vs:List xn)gk v wr:=
 ∃(j:Nat)(va:Option Addr)(vc:Nat),Hid (gk=vs.length-j)/\j<=vs.length/\v=Nv j/\NM wr kb fb cb mb ((vs.map (·.text)).take j)/\Bx wr p4 #[.string t.text,.slice va j vc]/\dw QTy 67 1 wr w0.heap.size va vc (vsT j)/\Fr (λi=>i=cb\/i=mb\/i=p4) w0 wr
def Kf{t}{f u}(hv:RowV QName 3 w P vs vv)(hm:RowV QMaker 6 w P ms vm)(hd:TdF t vs ms):
 Calls xk 322 #[.agg #[.int .i64 f,.int .i64 u,.int .i64 (t.al:Int),.int .i64 (t.to:Int),.string t.text,vv,vm]] w (λe w'=>∃b,e=.returned (.map<|some b)/\Below w.heap.size w w'/\w.heap.size<=b/\mN w' (λi=>w.heap.size<=i) b (jx t vs ms λ_=>none)):=by
 obtain⟨pa,pc,cs,rfl,HR,HQ⟩:=hv;obtain⟨ma,mc,ds,rfl,HRM,HQM⟩:=hm;have hl:=hd.vl;have iN:= @run_makeMap Tryz.prog;have⟨i0,vC,nJ,lG,jB⟩:=info_parts fY;have⟨k0,B0⟩:=nK w #[.int .i64 f,.int .i64 u,.int .i64 (t.al:Int),.int .i64 (t.to:Int),Sv t.text,Lv pa vs.length pc,Lv ma ms.length mc] 137;have K0:=ai k0;clear k0;go_enter func322,ntmps322;go_wp2_with fail;refine(xW).mono ?_;rintro e w1⟨rfl,xJ⟩;have k1:Below (w.alloc<|Cv #[.int .i64 f,.int .i64 u,.int .i64 (t.al:Int),.int .i64 (t.to:Int),Sv t.text,Lv pa vs.length pc,Lv ma ms.length mc] 137).heap.size (w.alloc<|Cv #[.int .i64 f,.int .i64 u,.int .i64 (t.al:Int),.int .i64 (t.to:Int),Sv t.text,Lv pa vs.length pc,Lv ma ms.length mc] 137) w1:=by rw[xJ];exact bw _
 have C1:Bx w1 (w.heap.size+1) #[.int .i64 0]:=by rw[xJ];have:=zh (w.alloc<|Cv #[.int .i64 f,.int .i64 u,.int .i64 (t.al:Int),.int .i64 (t.to:Int),Sv t.text,Lv pa vs.length pc,Lv ma ms.length mc] 137) #[.int .i64 0] 3;simpa using this
 have B1:=B0.below k1;have K1:=K0.trans<|k1.mono K0.size;have HN:=QF _ C1;have zw1:w1.heap.size=w.heap.size+2:=by rw[xJ];simp
 clear xJ k1 C1 B0 K0;go_wp2_with fail;refine HN.mono ?_;rintro e w2⟨kb,fb,mb,rfl,nm,k2,zmb⟩;clear HN;have⟨b1,b2,b3⟩:=B1.below k2;have K2:=K1.trans<|k2.mono K1.size;have B2:=B1.below k2;have NM2:=ai nm;have⟨y1,y2,y3,y4⟩:=nm.lt;have zz2:=B2.z;have zc1:=K1.size;clear nm k2 B1;go_wp2_with fail;obtain⟨w3,qW⟩:∃w3,w3=w2.alloc (Cv #[Sv t.text,Lv none 0 0] 169):=⟨_,rfl⟩;have k3:Below w2.heap.size w2 w3:=by rw[qW];exact bw _
 have P3':Bx w3 w2.heap.size #[Sv t.text,Lv none 0 0]:=by rw[qW];exact zh w2 #[Sv t.text,Lv none 0 0] 169
 have z3:w3.heap.size=w2.heap.size+1:=by rw[qW];simp
 have NM3:=NM2.af k3;have B3:=B2.below k3;have K3:=K2.trans<|k3.mono K2.size;rw[<-qW];clear qW k3 NM2 B2 K2;go_loopg[22] vs.length (λgk v wr=>alj w3 w2.heap.size kb fb (w.heap.size+1) mb t vs gk v wr)
 case atStart=>exact⟨0,none,0,ai ag,q9 _,rfl,by simpa using NM3,P3',by simpa[vsT]using dw.nil QTy 67 1 w3 w3.heap.size,Fr.refl _ _⟩
 case round=>
  obtain⟨j,va,vc,cR,hj,rfl,nm,p4,ro,FR3⟩:=hrel;have zr:=FR3.size;by_cases aY:j<vs.length
  .have bq:(j:Int)<(vs.length:Int):=ae;have IF:(0:Int)<=(j:Int):=ae;obtain⟨g,rfl,hPg,iP,bM⟩:=HR.resolve_left<|λe=>qBs;obtain⟨q0,q1,q2,alk,-⟩:=HQ j aY;have l8:∀o,wr.cell? ⟨g,o,none⟩=w.cell? ⟨g,o,none⟩:=λo=>(xg (a:=⟨g,o,none⟩)<|FR3.block g (by have:=K3.size;omega) ae).trans<|xg (a:=⟨g,o,none⟩)<|K3.block g iP;have d0:wr.cell? ⟨g,j*3,none⟩=some (.int .i64 (vs[j].al:Int)):=by rw[l8];exact(bM j aY 0 aK).trans (congrArg some q0)
   have d1:wr.cell? ⟨g,j*3+1,none⟩=some (.int .i64 (vs[j].to:Int)):=by rw[l8];exact(bM j aY 1 aK).trans (congrArg some q1)
   have d2:wr.cell? ⟨g,j*3+2,none⟩=some (Sv<|tl vs[j].text):=by rw[l8];exact(bM j aY 2 aK).trans (congrArg some q2)
   obtain⟨s,hs⟩:∃s,s=vs[j].text:=⟨_,rfl⟩;have hsn:s∉(vs.map (·.text)).take j:=by
    have hn:=hd.vn;have e:(vs.map (·.text))=(vs.map (·.text)).take j++(vs.map (·.text)).drop j:=(jl _ _).symm;rw[e,List.nodup_append]at hn;intro q;refine hn.2.2 s q s ?_ rfl;rw[ji (show j<(vs.map (·.text)).length by simpa using aY),hs];simp
   have hln:((vs.map (·.text)).take j).length=j:=bB;have hix:=Rr hsn;have had:nW s ((vs.map (·.text)).take j)=(vs.map (·.text)).take (j+1):=by
    rw[nW];rw[hix.1,if_neg ae,ja (show j<(vs.map (·.text)).length by simpa using aY),hs];simp
   have ajP:ix s (nW s ((vs.map (·.text)).take j))=j:=by
    rw[nW];rw[hix.1,if_neg ae,hix.2,hln]
   have HNA:∀W:World,Below wr.heap.size wr W->Calls xk 46 #[Sv<|tl s,.pointer<|some ⟨kb,0,none⟩,.pointer<|some ⟨fb,0,none⟩] W (λe w'=>e=Rv (Fv 98<|.int .i64<|(j:Int)+1)/\NM w' kb fb (w.heap.size+1) mb ((vs.map (·.text)).take<|j+1)/\Fr (Two (w.heap.size+1) mb) W w'):=λW hb=>by
    refine(Gn (nm.af hb) s (by rw[hs];exact alk) ae).mono ?_;rintro e w'⟨rfl,h2,h3⟩;rw[ajP,had]at*;exact⟨rfl,h2,h3⟩
   rw[<-hs]at d2;obtain⟨fr0,ajQ⟩:∃x:Int,x=(vs[j].al:Int):=⟨_,rfl⟩;obtain⟨to0,ajR⟩:∃x:Int,x=(vs[j].to:Int):=⟨_,rfl⟩;rw[<-ajQ]at d0;rw[<-ajR]at d1;have⟨y1,y2,y3,y4⟩:=nm.lt;have⟨n1,n2,n3,n4,n5⟩:=nm.d1;have P4:=ai p4;have RO:=ai ro;obtain⟨x1,x2,x3⟩:=p4;have zp:=x3;have kA:Below wr.heap.size wr (wr.alloc<|Cv #[.int .i64 fr0,.int .i64 to0,Sv<|tl s] 133):=bw _;obtain⟨wA,hwA⟩:∃wA,wA=wr.alloc (Cv #[.int .i64 fr0,.int .i64 to0,Sv<|tl s] 133):=⟨_,rfl⟩;have A1:wA.cell? ⟨w2.heap.size,1,none⟩=some (Lv va j vc):=by rw[hwA];exact((uh P4).below kA).c 1
   have A2:wA.cell? ⟨wr.heap.size,2,none⟩=some (Sv<|tl s):=by rw[hwA];exact(zh wr #[.int .i64 fr0,.int .i64 to0,Sv<|tl s] 133).c 2
   rw[<-hwA]at kA;have KA:=ai kA;clear nm bM q0 q1 q2 l8 hix ajP had hsn ajQ ajR hs ro kA hln;go_wp2_with fail;rw[<-hwA];clear hwA d0 d1 d2 x1 x2;have⟨cs',OW,HPE⟩:=uh RO;rw[pQ]at OW;have LX:=fD OW;have zKA:=(uh KA).size;have np4:¬w2.heap.size=w.heap.size+1:=ae;have np5:¬w2.heap.size=mb:=ae
   go_region_law(first
    |(go_simp;go_at_call 46;go_loud(refine(HNA _ KA.drew).mono ?_);rintro e w5⟨rfl,nm5,F5⟩;have B5:=(P4.below KA.drew).fr F5<|λq=>q.elim np4 np5;have A5:w5.cell? ⟨w2.heap.size,1,none⟩=some (Lv va j vc):=B5.c 1;have O5:Hid (w5.ownsRow w3.heap.size 67 1 (Lv va j vc) j<|gR cs' 1 j):=ai (rZ OW λg hg=>(F5.block g (qw (LX g hg).2 KA.drew.size) (λq=>by have:=(LX g hg).1;obtain q|q:=q<;>omega)).trans<|KA.drew.block g (LX g hg).2);have BB5:=ai B5;have NM5:=ai nm5;have F5':=ai F5;have z5:wA.heap.size<=w5.heap.size:=F5.size;have z25:w2.heap.size<w5.heap.size:= ae;clear B5 nm5 F5;dsimp only)
    |(refine iH rfl (.tmp 27) (.tmp 32) 167 rfl w3.heap.size 67 i0 _ 1 16 dS vC nJ lG jB rfl aK (Lv va j vc) j _ rfl (jC O5<|bw _) ⟨w5.heap.size,0,none⟩ 1 1 [Fv 98<|.int .i64<|(j:Int)+1] rfl rfl (nX _ _ _ _ ag) qAn Wu ae (by simp;have:=KA.size;omega) ?_;intro v6 w6 oV Kg wL;obtain⟨q3,c3,rfl⟩:=sD oV ae;have b5A:=BB5.below<|bw<|Cv #[Fv 98<|.int .i64<|(j:Int)+1] 67;have B6:=b5A.same Kg.size (Kg.block _ b5A.z (λe=>by have:=(LX _ e.symm).1;omega));have A6:w6.cell? ⟨w2.heap.size,1,none⟩=some (Lv va j vc):=B6.c 1;have A7:w6.frozen? ⟨w2.heap.size,1,none⟩=false:=B6.f 1;have BB6:=ai B6;have OW6:=ai oV;have HG6:=ai Kg;have HL6:=ai wL;clear oV Kg wL b5A B6))
   all_goals(
    go_wp2
    go_roundg(vs.length-(j+1))
    case measure=>rw[uh cR];omega
    case rel=>
     have kA:=(uh KA).drew;have F5:=uh F5';have hg:=uh HG6;have k5:Below w5.heap.size w5 (w5.alloc<|Cv #[Fv 98<|.int .i64<|(j:Int)+1] 67):=bw _;have F56:=(Fr.of k5).grown hg<|λb e=>qu (LX b e).1;have zA:=kA.size;refine⟨j+1,some ⟨q3,0,none⟩,c3,ai rfl,qy aY,iK,((uh NM5).fr F56<|λb p=>ae).set ae 1 _,(uh BB6).aP 1 _ #[Sv t.text,Lv (some ⟨q3,0,none⟩) (j+1) c3] rfl ag,?_,?_⟩
     .rw[aap];have PU:=dw.push (Q:=QTy) (et:=67) (sz:=1) (base:=w3.heap.size) (va:=va) (vc:=vc) (L:=vsT j) (w1:=w5) (W:=w5.alloc<|Cv #[Fv 98<|.int .i64<|(j:Int)+1] 67) (w3:=w6) (lo:=w5.heap.size) (q3:=q3) (c3:=c3) (a:=.var<|j+1) (c:=λ_=>Fv 98<|.int .i64<|(j:Int)+1) (cs:=cs') iB
       (λi hi=>iB _ _ _ _ _ _ (HPE i hi) ae (λb p z=>(F5.block b ae (λq=>by have:=p.1;obtain q|q:=q<;>omega)).trans<|kA.block b z)<|λb p z=>⟨p.1,ae,p.2.2⟩)
       (by have:=dB.var (w:=w5) (P:=λb=>w5.heap.size<=b)<|j+1;show dB _ _ _ _;simpa using this) ae (λb e=>by rw[pQ]at e;have:=(LX b e).2;omega) k5 (by rw[pQ];exact uh OW6) (by rw[pQ];exact hg) (by rw[pQ];exact uh HL6)
      exact PU.lq iB yw (λb h1 h2=>xj _ _ _ _ (by show b≠w2.heap.size;omega))
     .have Fa:=(FR3.trans<|Fr.of kA).trans<|F5.fV λi q=>q.elim qu<|λr=>qv<|qu r
      exact((Fa.trans<|Fr.of k5).grown hg<|λb e=>qv (LX b e).1).set (qu<|qv<|qv rfl) 1 _)
  .obtain⟨wx,hx⟩:∃wx,wx=wr:=⟨_,rfl⟩;subst hx;have bq:decide ((j:Int)<(vs.length:Int))=false:=bB;have ej:j=vs.length:=ae;subst ej;rw[show(vs.map (·.text)).take vs.length=vs.map (·.text)from by rw[List.take_of_length_le];simp]at nm;have ms0:=ro.ty hd.up;rw[pQ]at ms0;have zp:=p4.z;obtain⟨wm,hwm⟩:∃wm,wm=wx.alloc (.map #[] 0):=⟨_,rfl⟩;have km:Below wx.heap.size wx wm:=by rw[hwm];exact bw _
   have zm:wm.heap.size=wx.heap.size+1:=by rw[hwm];simp
   have MK0:mN wm (λi=>w.heap.size<=i/\i≠w.heap.size+1/\i≠mb/\i≠wx.heap.size) wx.heap.size (jx t vs (ms.take 0) λ_=>none):=(by rw[hwm];exact⟨[],MG.new _ wx,λ_ _=>rfl,λx v h=>qBg⟩);have kr:Below w.heap.size w wx:=⟨FR3.os.trans K3.os,FR3.tape.trans K3.tape,FR3.output.trans K3.output,qx K3.size FR3.size,λk hk=>(FR3.block k (by have:=K3.size;omega) ae).trans<|K3.block k hk⟩;have BD:=(B3.fr FR3 ae).below km;have⟨b1,b2,b3⟩:=B3.fr FR3 ae;have NMm:=nm.af km;have P4m:=p4.below km;have MSm:dB wm (λi=>w.heap.size<=i/\i≠w.heap.size+1/\i≠mb/\i≠wx.heap.size) (qd t vs) (Fv 169<|Av #[Sv t.text,Lv va vs.length vc]):=(ms0.move km.size (λb _ z=>km.block b z)<|λb p z=>⟨ae,ae,ae,ae⟩);have KM:=kr.trans<|km.mono kr.size;have⟨n1,n2,n3,n4,n5⟩:=nm.d1;have Wp:=hd.ml;clear nm p4 ro ms0 km kr;go_wp2_with fail;rw[<-hwm];clear hwm b1 b2 b3;go_loopg[40] ms.length (λgk v wq=>alh wm w.heap.size w2.heap.size wx.heap.size kb fb (w.heap.size+1) mb t vs ms va vc gk v wq)
   case atStart=>exact⟨0,ai ag,q9 _,rfl,NMm,P4m,MSm,MK0,Fr.refl _ _⟩
   case round=>
    clear NMm P4m MSm MK0;obtain⟨i,alm,hi,rfl,nm,p4,MKq,MWq,FMq⟩:=hrel;have zq:=FMq.size;by_cases Na:i<ms.length
    .have ag9:(i:Int)<(ms.length:Int):=ae;have ai7:(0:Int)<=(i:Int):=ae;obtain⟨wq,hx⟩:∃wq,wq=wr:=⟨_,rfl⟩;subst hx;have⟨s,n,L,f',u',a',HEM,hLl,HLT⟩:=hd.mt i Na;obtain⟨gm,rfl,hPm,hmz,Ga⟩:=HRM.resolve_left (λe=>by subst e;simp at Na);have⟨s2,m2,L2,f2,t2,a2,y2,vL,e0,e1,e2,e3,e4,e5,e6,vE,hy2,hRL⟩:=HQM i Na;have e0':=HEM.symm.trans e0;injection e0' with q1 q2 q3 q4 q5 q6 q7;subst q2 q4;obtain⟨la,lc,el,rfl,HRL,hqL⟩:=hRL;have l8:∀o,wq.cell? ⟨gm,o,none⟩=w.cell? ⟨gm,o,none⟩:=λo=>(xg (a:=⟨gm,o,none⟩)<|FMq.block gm (by have:=KM.size;omega) ae).trans<|xg (a:=⟨gm,o,none⟩)<|KM.block gm hmz;have d0:wq.cell? ⟨gm,i*6,none⟩=some (.int .i64 (f2:Int)):=by rw[l8];exact(Ga i Na 0 aK).trans (congrArg some e1)
     have d1:wq.cell? ⟨gm,i*6+1,none⟩=some (.int .i64 (t2:Int)):=by rw[l8];exact(Ga i Na 1 aK).trans (congrArg some e2)
     have d2:wq.cell? ⟨gm,i*6+2,none⟩=some (.int .i64 (a2:Int)):=by rw[l8];exact(Ga i Na 2 aK).trans (congrArg some e3)
     have d3:wq.cell? ⟨gm,i*6+3,none⟩=some (.int .i64 (y2:Int)):=by rw[l8];exact(Ga i Na 3 aK).trans (congrArg some e4)
     have d4:wq.cell? ⟨gm,i*6+4,none⟩=some (Sv s):=by rw[l8];exact(Ga i Na 4 aK).trans (congrArg some e5)
     have d5:wq.cell? ⟨gm,i*6+5,none⟩=some (Lv la L.length lc):=by rw[l8];exact(Ga i Na 5 aK).trans (congrArg some e6)
     obtain⟨w8,hw8⟩:∃w8,w8=(wq.alloc<|Cv #[.int .i64 (f2:Int),.int .i64 (t2:Int),.int .i64 (a2:Int),.int .i64 (y2:Int),Sv s,Lv la L.length lc] 286).alloc (Cv #[Lv none 0 0,Fv 169<|Av #[Sv t.text,Lv va vs.length vc]] 470):=⟨_,rfl⟩;have k8:Below wq.heap.size wq w8:=by rw[hw8];exact(bw _).alloc ag _
     have z8:w8.heap.size=wq.heap.size+2:=by rw[hw8];simp
     have B8:Bx w8 wq.heap.size #[.int .i64 (f2:Int),.int .i64 (t2:Int),.int .i64 (a2:Int),.int .i64 (y2:Int),Sv s,Lv la L.length lc]:=(by rw[hw8];exact(zh wq #[.int .i64 (f2:Int),.int .i64 (t2:Int),.int .i64 (a2:Int),.int .i64 (y2:Int),Sv s,Lv la L.length lc] 286).alloc (Cv #[Lv none 0 0,Fv 169<|Av #[Sv t.text,Lv va vs.length vc]] 470))
     have M8:Bx w8 (wq.heap.size+1) #[Lv none 0 0,Fv 169<|Av #[Sv t.text,Lv va vs.length vc]]:=(by
      rw[hw8];have:=zh (wq.alloc<|Cv #[.int .i64 (f2:Int),.int .i64 (t2:Int),.int .i64 (a2:Int),.int .i64 (y2:Int),Sv s,Lv la L.length lc] 286) #[Lv none 0 0,Fv 169<|Av #[Sv t.text,Lv va vs.length vc]] 470
      simpa using this)
     have NM8:=nm.af k8;have NMq:=ai nm;have P4q:=ai p4;have K8:=ai k8;have HQL:=ai hqL;have zpq:=p4.z;have zmm:=MWq.lt;have⟨v1,v2,v3,v4⟩:=nm.lt;obtain⟨x1,x2,x3⟩:=p4;clear nm k8 hqL e0 e1 e2 e3 e4 e5 e6 q1 q3 q5 q6 q7 l8 Ga vE hy2;go_wp2_with fail;rw[<-hw8];clear hw8 d0 d1 d2 d3 d4 d5 x1 x2 x3;go_loopg[50] L.length (λgk v wr=>ali w8 (wq.heap.size+1) kb fb (w.heap.size+1) mb vs L (Fv 169<|Av #[Sv t.text,Lv va vs.length vc]) gk v wr)
     case atStart=>exact⟨0,none,0,ai ag,q9 _,rfl,NM8,M8,by simpa[Rs]using dw.nil QTy 67 1 w8 w8.heap.size,Fr.refl _ _⟩
     case round=>
      clear NM8 M8;obtain⟨k,va2,vc2,aln,hk,rfl,NMr,P10,ro,F8⟩:=hrel;have zr:=F8.size;by_cases hkl:k<L.length
      .have alo:(k:Int)<(L.length:Int):=ae;have ams:(0:Int)<=(k:Int):=ae;obtain⟨gl,rfl,hPl,hlz,hcl⟩:=HRL.resolve_left (λe=>by subst e;simp at hkl);have kw8:Below w.heap.size w w8:=by
        have h1:=FMq;have h2:=KM;have h3:=uh K8;exact⟨h3.os.trans<|h1.os.trans h2.os,h3.tape.trans<|h1.tape.trans h2.tape,h3.output.trans<|h1.output.trans h2.output,by have:=h1.size;have:=h2.size;have:=h3.size;omega,λb hb=>(h3.block b (by have:=h1.size;have:=h2.size;omega)).trans<|(h1.block b (by have:=h2.size;omega) ae).trans<|h2.block b hb⟩
       have cgl:wr.cell? ⟨gl,k,none⟩=some (el k 0):=by
        rw[xg (a:=⟨gl,k,none⟩) (w:=w8)<|F8.block gl (by have:=kw8.size;omega) ae,xg (a:=⟨gl,k,none⟩) (w:=w)<|kw8.block gl hlz];simpa using hcl k hkl 0 aK
       have⟨hT1,HT2,hT3⟩:=HLT k hkl;have hpt:PT wr (λb=>P b/\b<w.heap.size) L[k] (el k 0):=(show PT w P L[k] (el k 0)from uh HQL k hkl).move (by have:=kw8.size;omega) (λb p z=>(F8.block b (by have:=kw8.size;omega) ae).trans<|kw8.block b z)<|λb p z=>⟨p,z⟩;have⟨tv,xv,ev⟩:=hpt.bJ;rw[ev]at cgl hpt;have hnl:(vs.map (·.text)).length<=2000:=bB;have zU:∀W:World,Below wr.heap.size wr W->Calls xk 44 #[Fv tv<|Av xv,nmV kb fb] W (λe w'=>∃tu xu,e=Rv (Fv tu xu)/\dB w' (λb=>W.heap.size<=b) (aH (vs.map (·.text)) L[k]).1 (Fv tu xu)/\NM w' kb fb (w.heap.size+1) mb (vs.map (·.text))/\Fr (Two (w.heap.size+1) mb) W w'):=λW hb=>by
        refine(aeR L[k] hT1 W kb fb (w.heap.size+1) mb (vs.map (·.text)) (λb=>P b/\b<w.heap.size) _ (NMr.af hb) (hpt.af hb) (λb q=>ae) (by rw[HT2];exact hnl)).mono ?_;rintro e w'⟨uu,rfl,h2,h3,h4⟩;obtain⟨tu,xu,rfl⟩:=h2.iface;rw[HT2]at h3;exact⟨tu,xu,rfl,h2,h3,h4⟩
       have FR8:=ai F8;have A1:=P10.c 0;have zp:=P10.z;obtain⟨cs',OW,HPE⟩:=ro;have ekl:=adA (ns:=vs.map (·.text)) hk;rw[ekl]at OW;have LX:=fD OW;have EKL:=ai ekl;have np4:¬wq.heap.size+1=w.heap.size+1:=ae;have np5:¬wq.heap.size+1=mb:=ae;clear F8 hcl hpt hT1 hT3 ev ekl;go_wp2_with fail;clear cgl
       go_region_law(first
        |(go_simp;go_at_call 44;go_loud(refine(zU _ (xi _ _).drew).mono ?_);rintro e w5⟨tu,xu,rfl,tu5,nm5,F5⟩;have B5:=(P10.below (xi _ _).drew).fr F5<|λq=>q.elim np4 np5;have A5:w5.cell? ⟨wq.heap.size+1,0,none⟩=some (Lv va2 k vc2):=B5.c 0;have O5:Hid (w5.ownsRow w8.heap.size 67 1 (Lv va2 k vc2) k<|gR cs' 1 k):=ai (rZ OW λg hg=>F5.block g (LX g hg).2 (λq=>by have:=(LX g hg).1;obtain q|q:=q<;>omega));have BB5:=ai B5;have NM5:=ai nm5;have F5':=ai F5;have TU5:=ai tu5;have z5:wr.heap.size<=w5.heap.size:=F5.size;have z25:wq.heap.size+1<w5.heap.size:= ae;clear B5 nm5 F5 tu5;dsimp only)
        |(refine iH rfl (.tmp 55) (.tmp 59) 167 rfl w8.heap.size 67 i0 _ 1 16 dS vC nJ lG jB rfl aK (Lv va2 k vc2) k _ rfl (jC O5<|bw _) ⟨w5.heap.size,0,none⟩ 1 1 [Fv tu xu] rfl rfl (nX _ _ _ _ ag) qAn Wu ae bB ?_;intro v6 w6 oV Kg wL;obtain⟨q3,c3,rfl⟩:=sD oV ae;have b5A:=BB5.below<|bw<|Cv #[Fv tu xu] 67;have B6:=b5A.same Kg.size (Kg.block _ b5A.z (λe=>by have:=(LX _ e.symm).1;omega));have A6:w6.cell? ⟨wq.heap.size+1,0,none⟩=some (Lv va2 k vc2):=B6.c 0;have A7:w6.frozen? ⟨wq.heap.size+1,0,none⟩=false:=B6.f 0;have BB6:=ai B6;have OW6:=ai oV;have HG6:=ai Kg;have HL6:=ai wL;clear oV Kg wL b5A B6))
       all_goals(
        go_wp2
        go_roundg(L.length-(k+1))
        case measure=>rw[uh aln];omega
        case rel=>
         have F5:=uh F5';have hg:=uh HG6;have k5:Below w5.heap.size w5 (w5.alloc<|Cv #[Fv tu xu] 67):=bw _;have F56:=(Fr.of k5).grown hg<|λb e=>qu (LX b e).1;have ekl:=uh EKL;refine⟨k+1,some ⟨q3,0,none⟩,c3,ai rfl,qy hkl,iK,((uh NM5).fr F56<|λb p=>ae).set ae 0 _,(uh BB6).aP 0 _ #[Lv (some ⟨q3,0,none⟩) (k+1) c3,Fv 169<|Av #[Sv t.text,Lv va vs.length vc]] rfl ag,?_,?_⟩
         .rw[aar hkl];have tu5:=uh TU5;have PU:=dw.push (Q:=QTy) (et:=67) (sz:=1) (base:=w8.heap.size) (va:=va2) (vc:=vc2) (L:=Rs (vs.map λv:xn=>v.text)<|L.take k) (w1:=w5) (W:=w5.alloc<|Cv #[Fv tu xu] 67) (w3:=w6) (lo:=wr.heap.size) (q3:=q3) (c3:=c3) (a:=(aH (vs.map λv:xn=>v.text) L[k]).1) (c:=λ_=>Fv tu xu) (cs:=cs') iB
           (λi hi=>iB _ _ _ _ _ _ (HPE i hi) z5 (λb p z=>F5.block b z (λq=>by have:=p.1;obtain q|q:=q<;>omega))<|λb p z=>⟨p.1,ae,p.2.2⟩)
           tu5 ae (λb e=>by rw[ekl]at e;exact(LX b e).2) k5 (by rw[ekl];exact uh OW6) (by rw[ekl];exact hg) (by rw[ekl];exact uh HL6)
          exact PU.lq iB yw (λb h1 h2=>xj _ _ _ _ (by show b≠wq.heap.size+1;omega))
         .have Fa:Fr (λi=>i=w.heap.size+1\/i=mb\/i=wq.heap.size+1) w8 w5:=((uh FR8).trans<|Fr.of (xi _ _).drew).trans<|F5.fV λi q=>q.elim qu<|λr=>qv<|qu r
          exact((Fa.trans<|Fr.of k5).grown hg<|λb e=>qv (LX b e).1).set (qu<|qv<|qv rfl) 0 _)
      .have alo:decide ((k:Int)<(L.length:Int))=false:=bB;have ek:k=L.length:=ae;subst ek;rw[jd]at ro;have alp:(Rs (vs.map (·.text)) L).length=L.length:=by simp[Rs]
       have k8:=uh K8;have mvr:∀b,(w.heap.size<=b/\b≠w.heap.size+1/\b≠mb/\b≠wx.heap.size)->b<wq.heap.size->wr.heap[b]? =wq.heap[b]? :=λb p z=>(F8.block b ae ae).trans<|k8.block b z;have MV:VT wr (λi=>w.heap.size<=i/\i≠w.heap.size+1/\i≠mb/\i≠wx.heap.size) (Rs (vs.map (·.text)) L) (qd t vs) (Av #[Lv va2 L.length vc2,Fv 169<|Av #[Sv t.text,Lv va vs.length vc]]):=⟨va2,vc2,_,_,by rw[alp],ro.alg.move (br _) (λ_ _ _=>rfl)<|λb p z=>⟨ae,ae,ae,ae⟩,MKq.move ae mvr<|λ_ p _=>p⟩;have MWr:=MWq.move ae ((F8.block _ ae ae).trans<|k8.block _ zmm) mvr<|λ_ p _=>p;have MKr:=MKq.move ae mvr<|λ_ p _=>p;have P4r:=(P4q.below k8).fr F8 ae;have FMr:=((FMq.trans<|Fr.of k8).gV F8 (λb q=>by obtain q|q|q:=q;exact qu<|qu q;exact qu<|qv<|qu q;exact qv ae));obtain⟨x1,x2,x3⟩:=P10;have⟨y1,y2,y3⟩:=B8.fr F8 ae;have Gi:In.QT (vs.map (·.text)) ms[i]=Rs (vs.map (·.text)) L/\qr ms[i]=s:=(by rw[HEM];exact⟨congrArg Prod.fst<|aaq λk hk=>(HLT k hk).2,rfl⟩);clear ro F8 k8 mvr;go_wp2_with(refine wK rfl _ _ _ (qv rfl) rfl MWr (λq=>q.2.2.2 rfl) MV s rfl rfl ?_;intro w9 H' O';have M9:=ai H';have O9:=ai O';clear H' O');go_roundg(ms.length-(i+1))
       case measure=>rw[uh alm];omega
       case rel=>
        have o:=uh O9;have F9:Fr (λb=>b=wx.heap.size) wr w9:=⟨o.os,o.tape,o.output,LB,λb _ hb=>o.block b hb⟩;refine⟨i+1,ai rfl,qy Na,iK,NMr.fr F9 (λb p=>by subst p;omega),P4r.fr F9 ae,MKr.move F9.size (λb p z=>F9.block b z p.2.2.2)<|λ_ p _=>p,?_,FMr.trans<|F9.fV λb q=>qv<|qv q⟩;rw[ja Na,Aw,Gi.1,Gi.2];exact uh M9
    .have ag9:decide ((i:Int)<(ms.length:Int))=false:=bB;have ei:i=ms.length:=ae;subst ei;rw[jd]at MWq;have HX:∃b,Rv (.map<|some wx.heap.size)=Rv (.map<|some b)/\Below w.heap.size w wr/\w.heap.size<=b/\mN wr (λi=>w.heap.size<=i) b (jx t vs ms λ_=>none):=⟨_,rfl,⟨FMq.os.trans KM.os,FMq.tape.trans KM.tape,FMq.output.trans KM.output,qx KM.size FMq.size,λk hk=>(FMq.block k (by have:=KM.size;omega) ae).trans<|KM.block k hk⟩,ae,MWq.move (br _) rfl (λ_ _ _=>rfl) (λb p _=>p.1)⟩;clear nm p4
     go_wp2
     go_ret;exact HX
def lE(a b:j3):j3:=λy=>match a y with
 |some c=>some c|none=>b y
def wM(t:xn)(vs:List xn)(mk:j3):∀(ms:List Nd)(a:j3),jx t vs ms (lE a mk)=lE (jx t vs ms a) mk
 |[],_=>rfl|m::r,a=>by
  show jx t vs r _=lE (jx t vs r _) mk;rw[<-wM t vs mk r];congr 1;funext y;unfold lE;by_cases q:y=qr m
  .simp[q]
  .simp[q]
def Ax(t:xn)(vs:List xn)(mk:j3)ms:jx t vs ms mk=lE (jx t vs ms λ_=>none) mk:=wM t vs mk ms λ_=>none
open Classical in
noncomputable def ovM (UZ m1:j3) (done:List BA) (x:BA):Option (List Ty×Ty):=if x∈done then lE UZ m1 x else m1 x
def aha P b1 b2(m1 UZ:j3)L w gk wr:=
 ∃done,IG xm wr w.heap.size b2 L done gk/\mN wr P b1 (ovM UZ m1 done)/\Fr (λi=>i=b1) w wr
def Ru{m1 UZ}(h1:mN w P b1 m1)(h2:mN w P b2 UZ)(hP:¬P b1)(bq:∀x,P x->x<w.heap.size)(hn:b1≠b2):
 Cq 321 #[Mv b1,Mv b2] w λe w'=>e=.returned (.tuple #[])/\mN w' P b1 (lE UZ m1)/\Fr (λi=>i=b1) w w':=by
 have l1:=h1.lt;have l2:=h2.lt;obtain⟨L,m2,q1,q2⟩:=h2;obtain⟨o,cnt,hrg,lR⟩:=m2.range tA;have k1:Bq w (w.alloc o):=bw _;have HI:=ai lR;have H1:=h1.move k1.size (k1.block _ h1.lt) (λb _ z=>k1.block b z)<|λ_ p _=>p;have K1:=ai k1;have Q:=And.intro q1 q2;go_enter func321,ntmps321
 go_wp2
 go_loopg[] cnt (λgk wr=>aha P b1 b2 m1 UZ L w gk wr)
 case atStart=>
  refine⟨[],HI,?_,Fr.of K1⟩;have e:ovM UZ m1 []=m1:=by funext x;simp[ovM]
  rw[e];exact H1
 case round=>
  obtain⟨done,HI,HE,hF⟩:=hrel;have HF:=ai hF;have WW:=HI.lt;have zr:=hF.size;rcases HI.next (P:=xk) str_inj with⟨ha,DT⟩|⟨x,u,w2,aB,hxd,Ps,DT,Hl,Hn,xL,dU,hen⟩
  .go_wp2
   go_end0;refine⟨rfl,?_,HF⟩;have e:ovM UZ m1 done=lE UZ m1:=by
    funext y;unfold ovM;by_cases q:y∈done
    .rw[if_pos q]
    .rw[if_neg q];have:UZ y=none:=by
      cases hg:aX y L with
      |none=>exact Q.1 y hg|some v=>exact absurd (ha _ v hg) q
     simp only[lE,this]
   rw[<-e];exact HE
  .obtain⟨tk,m,EC,hc⟩:=Q.2 x u Ps;have Bp:=xL;have nP:∀i,P i->¬i=w.heap.size:=λi hi e=>by have:=bq i hi;omega
   have E2:=HE.move Bp.size (Bp.block _ HE.lt ae) (λi p z=>Bp.block i z<|nP i p)<|λ_ p _=>p;have c2:=(hc.move (w':=wr) zr (λi p z=>HF.block i z<|λe=>hP<|e▸p)<|λ_ p _=>p).move (w':=w2) (Q:=P) ae (λi p z=>Bp.block i z<|nP i p)<|λ_ p _=>p;obtain⟨sa,sc,ta,xa,rfl,t1,t2⟩:=c2;have tT:Bq w2 (w2.alloc<|.cells #[.slice sa tk.length sc,.iface ta xa] 470):=bw _;have E3:=E2.move tT.size (tT.block _ E2.lt) (λb _ z=>tT.block b z)<|λ_ p _=>p;have C3:=(VT.move ⟨sa,sc,ta,xa,rfl,t1,t2⟩ tT.size (λb _ z=>tT.block b z)<|λ_ p _=>p);have I3:=Hl.same (tT.block b2 ae)<|tT.block w.heap.size ae;have K3:=ai tT;go_wp2_with(refine wK rfl _ _ _ (qv rfl) rfl E3 hP C3 x rfl rfl ?_;intro w4 H' O';have S4:=ai H';have O4:=ai O';clear H' O');go_roundg aB
   case measure=>exact Hn
   case rel=>
    have o:=uh O4;have k3:=uh K3;have f1:=Bp;refine⟨x::done,I3.same (o.block b2<|zd hn)<|o.block _ ae,?_,?_⟩
    .have e:ovM UZ m1 (x::done)=λy=>if y=x then some (tk,m)else ovM UZ m1 done y:=by
      funext y;by_cases q:y=x
      .subst q;simp[ovM,lE,EC]
      .simp only[ovM,if_neg q];by_cases r:y∈done
       .rw[if_pos<|jc _ r,if_pos r]
       .rw[if_neg<|λh=>(List.mem_cons.1 h).elim q r,if_neg r]
     rw[e];exact S4
    .have hF:=uh HF;refine⟨o.os.trans<|k3.os.trans<|f1.os.trans hF.os,o.tape.trans<|k3.tape.trans<|f1.tape.trans hF.tape,o.output.trans<|k3.output.trans<|f1.output.trans hF.output,by rw[o.size];have:=k3.size;omega,λi hi hni=>?_⟩;rw[o.block i hni,k3.block i ae,f1.block i ae ae,hF.block i hi hni]
def MG.aiS{L L'}(h:MG xm w b L)(h':MG xm w b L'):L=L':=by
 obtain⟨es,c,h1,h2,_⟩:=h;obtain⟨es',c',h1',Gb,_⟩:=h';rw[h1]at h1';injection h1' with h1';injection h1' with e1 e2;subst e1;have e:=h2.symm.trans Gb;have:∀(L L':List (BA×Value)),L.map (λp=>(Sv p.1,p.2))=L'.map (λp=>(Sv p.1,p.2))->L=L':=by
  intro L
  induction L with
  |nil=>intro L' e;cases L' with|nil=>rfl|cons=>simp at e
  |cons p r ih=>
   intro L' e
   cases L' with
   |nil=>simp at e|cons p' r'=>
    simp only[List.map_cons,List.cons.injEq,Prod.mk.injEq,Value.string.injEq]at e;rw[ih r' e.2,Prod.ext e.1.1 e.1.2]
 exact this L L' e
def WE.rm{cnt}(h:WE w c cnt):c.rb≠c.mb/\c.mb≠c.eb/\c.rb≠c.eb:=by
 refine⟨λe=>?_,λe=>?_,λe=>?_⟩
 .have⟨L,m1,g1,_⟩:=h.rs;have⟨L',m2,_,g2⟩:=h.ms;rw[e]at m1;rw[m1.aiS m2]at g1;have⟨tk,m,_,sa,sc,ta,xa,q,_⟩:=g2 _ _ g1
  cases q
 .have⟨L,hM,_⟩:=h.ms;exact yh
 .have⟨L,hM,_⟩:=h.rs;exact yh
def Rw{p:Prop}(h:p:=by
 induction h with
 |var n=>exact .var n|aJ c L sa sc vs hc aM hr ih=>
  refine .aJ c L sa sc vs hc ?_ ih;obtain h0|⟨g,h1,h2,h3,h4⟩:=aM
  .exact qu h0
  .by_cases h0:L=[]
   .exact qu h0
   .refine qv ⟨g,h1,⟨h2,λe=>?_⟩,h3,h4⟩;have q:=h4 0<|List.length_pos_iff.2 h0;rw[e,hb]at q
    cases q):p:=h
def dB.tB(h:dB w P t v)(hb:w.cell? ⟨b,0,none⟩=none):dB w (λi=>P i/\i≠b) t v:=by
 exact Rw
def mN.tB{w}{P}{mb b}{mk}(h:mN w P mb mk)(hb:w.cell? ⟨b,0,none⟩=none):mN w (λi=>P i/\i≠b) mb mk:=by
 obtain⟨L,h1,h2,h3⟩:=h;refine⟨L,h1,h2,λk v hk=>?_⟩;obtain⟨tk,m,e,sa,sc,ta,xa,rfl,q1,q2⟩:=h3 k v hk;refine⟨tk,m,e,sa,sc,ta,xa,rfl,?_,q2.tB hb⟩;obtain q1|⟨g,vs,q3,q4,q5,q6⟩:=q1
 .exact qu q1
 .by_cases h0:tk=[]
  .exact qu h0
  .refine qv ⟨g,vs,q3,⟨q4,λe=>?_⟩,q5,λi hi=>⟨(q6 i hi).1,(q6 i hi).2.tB hb⟩⟩;have⟨q7,_⟩:=q6 0<|List.length_pos_iff.2 h0;rw[e,hb]at q7
   cases q7
def cW.tB(h:cW w P t v)(hb:w.cell? ⟨b,0,none⟩=none):cW w (λi=>P i/\i≠b) t v:=by
 exact Rw
def bP.tB{w}{P}{nb b}{Γ}(h:bP w P nb Γ)(hb:w.cell? ⟨b,0,none⟩=none):bP w (λi=>P i/\i≠b) nb Γ:=by
 obtain⟨L,h1,h2,h3⟩:=h;refine⟨L,h1,h2,λk v hk=>?_⟩;obtain⟨d,e,ta,xa,sa,sc,rfl,⟨⟨x',q1,q2⟩,q4⟩,q3⟩:=h3 k v hk;refine⟨d,e,ta,xa,sa,sc,rfl,⟨⟨x',q1.tB hb,q2⟩,q4⟩,?_⟩;obtain q3|⟨g,r1,r2,r3,r4⟩:=q3
 .exact qu q3
 .by_cases h0:d.any=[]
  .exact qu h0
  .refine qv ⟨g,r1,⟨r2,λe=>?_⟩,r3,r4⟩;have r5:=r4 0<|List.length_pos_iff.2 h0;rw[e,hb]at r5
   cases r5
def WT.Xo{cnt}{mks}{fV}(h:WT w c cnt u Γ)(hn:c.nb≠c.mb)(hf:Fr (λi=>i=c.mb) w w')(hw:WE w' {c with mks:=mks,fV:=fV} cnt):WT w' {c with mks:=mks,fV:=fV} cnt u Γ:=by
 have⟨L,hMG,_⟩:=h.we.ms;exact⟨hw,(h.e.tB<|hMG.bE 0).move hf.size (hf.block _ h.e.lt hn) (λb p z=>hf.block b z p.2)<|λb p _=>p.1,h.n,h.hu,h.top,h.dm⟩
section
variable {cnt:Nat}
abbrev Xn(c:WC)(t:xn)(vs:List xn)ms fV:={c with mks:=jx t vs ms c.mks,fV:=fV}
def TL(h:WT w c cnt u Γ){t}{f x}(hv:RowV QName 3 w P vs vv)(hm:RowV QMaker 6 w P ms vm)(hd:TdF t vs ms):
 Cq 311 #[Pv c.eb,.agg #[Iv f,Iv x,Nv t.al,Nv t.to,.string t.text,vv,vm]] w (λe w'=>e=.returned (.tuple #[])/\Fr (λi=>i=c.mb) w w'/\WE w' (Xn c t vs ms w'.heap.size) cnt):=by
 obtain⟨w0,wU⟩:∃w0,w0=w.alloc (Cv #[Iv f,Iv x,Nv t.al,Nv t.to,Sv t.text,vv,vm] 137):=⟨_,rfl⟩;have K0:Bq w w0:=by rw[wU];exact bw _
 have BB:Bx w0 w.heap.size #[Iv f,Iv x,Nv t.al,Nv t.to,Sv t.text,vv,vm]:=by rw[wU];exact zh w #[Iv f,Iv x,Nv t.al,Nv t.to,Sv t.text,vv,vm] 137
 have WE0:=h.we.af K0;have⟨r1,r2,r3⟩:=h.we.rm;have⟨d1,d2,d3⟩:=h.we.d;have⟨l1,l2,l3,l4,l5⟩:=h.we.l;have zz0:w0.heap.size=w.heap.size+1:=by rw[wU];simp
 have HMK:∀W:World,Bq w0 W->Cq 322 #[Av #[Iv f,Iv x,Nv t.al,Nv t.to,Sv t.text,vv,vm]] W (λe w'=>∃b,e=Rv (Mv b)/\Bq W w'/\W.heap.size<=b/\mN w' (λi=>W.heap.size<=i) b (jx t vs ms λ_=>none)):=λW hb=>by
  have kW:=K0.trans<|hb.mono K0.size;exact Kf (hv.move df kW.size (λb _ z=>kW.block b z)<|λ_ p _=>p) (hm.move bV kW.size (λb _ z=>kW.block b z)<|λ_ p _=>p) hd
 have HCP:∀(W:World)(b:Nat),Bq w0 W->w0.heap.size<=b->mN W (λi=>w0.heap.size<=i) b (jx t vs ms λ_=>none)->Cq 321 #[Mv c.mb,Mv b] W (λe w'=>e=Rv (.tuple #[])/\mN w' (λi=>i≠c.cb/\i≠c.mb/\i<W.heap.size) c.mb (jx t vs ms c.mks)/\Fr (λi=>i=c.mb) W w'):=λW b hb hz hM=>by
  rw[Ax];have weW:=WE0.af hb;have⟨L,hMG,_⟩:=weW.ms;have zb:=hM.lt;have zs:=hb.size;have h1:mN W (λi=>i≠c.cb/\i≠c.mb/\i<W.heap.size) c.mb c.mks:=(weW.ms.tB<|hMG.bE 0).move (br _) rfl (λ_ _ _=>rfl) (λi p z=>⟨p.1.1,p.2,z⟩);have h2:mN W (λi=>i≠c.cb/\i≠c.mb/\i<W.heap.size) b (jx t vs ms λ_=>none):=hM.move (br _) rfl (λ_ _ _=>rfl) (λi p z=>⟨qBv,qBv,z⟩);exact Ru h1 h2 (λq=>q.2.1 rfl) (λi p=>p.2.2) ae
 have f0:=WE0.bx.c 2;have g0:=BB.c 0;have g1:=BB.c 1;have g2:=BB.c 2;have g3:=BB.c 3;have g4:=BB.c 4;have g5:=BB.c 5;have g6:=BB.c 6;obtain⟨pa,pc,cs,rfl,aM,hq⟩:=hv;obtain⟨ma,mc,ds,rfl,ajS,hqm⟩:=hm;have ne1:¬w.heap.size=c.mb:=ae;clear h aM hq ajS hqm;go_enter func311,ntmps311;go_wp2_with fail;rw[<-wU];clear wU
 go_region_held3(λw'=>w'.cell? ⟨c.eb,2,none⟩=some (Mv c.mb)/\w'.cell? ⟨w.heap.size,0,none⟩=some (Iv f)/\w'.cell? ⟨w.heap.size,1,none⟩=some (Iv x)/\w'.cell? ⟨w.heap.size,2,none⟩=some (Nv t.al)/\w'.cell? ⟨w.heap.size,3,none⟩=some (Nv t.to)/\w'.cell? ⟨w.heap.size,4,none⟩=some (Sv t.text)/\w'.cell? ⟨w.heap.size,5,none⟩=some (Lv pa vs.length pc)/\w'.cell? ⟨w.heap.size,6,none⟩=some (Lv ma ms.length mc)) (first|go_keep|(simp[*])) (first
  |(go_at_call 322;go_loud(refine(HMK _ (xi _ _).drew).mono ?_);rintro e w2⟨b,rfl,k2,z2,hM⟩;have k2':=(xi _ _).drew.trans k2;have B2:=BB.below k2';have s0:w2.cell? ⟨c.eb,2,none⟩=some (Mv c.mb):=(WE0.af k2').bx.c 2;have s1:w2.cell? ⟨w.heap.size,0,none⟩=some (Iv f):=B2.c 0;have s2:w2.cell? ⟨w.heap.size,1,none⟩=some (Iv x):=B2.c 1;have s3:w2.cell? ⟨w.heap.size,2,none⟩=some (Nv t.al):=B2.c 2;have s4:w2.cell? ⟨w.heap.size,3,none⟩=some (Nv t.to):=B2.c 3;have s5:w2.cell? ⟨w.heap.size,4,none⟩=some (Sv t.text):=B2.c 4;have s6:w2.cell? ⟨w.heap.size,5,none⟩=some (Lv pa vs.length pc):=B2.c 5;have s7:w2.cell? ⟨w.heap.size,6,none⟩=some (Lv ma ms.length mc):=B2.c 6;have K2:=ai k2';have Z2:Hid (w0.heap.size<=b):=ai z2;have M2:Hid (mN w2 (λi=>w0.heap.size<=i) b<|jx t vs ms λ_=>none):=ai hM;clear k2 k2' z2 hM B2)
  |(go_at_call 321;go_loud(refine(HCP _ _ K2 Z2 M2).mono ?_);rintro e w3⟨rfl,hM3,F3⟩;have B3:=(BB.below K2).fr F3 ne1;have t0:w3.cell? ⟨c.eb,2,none⟩=some (Mv c.mb):=((WE0.af K2).bx.fr F3<|zd r2).c 2;have t1:w3.cell? ⟨w.heap.size,0,none⟩=some (Iv f):=B3.c 0;have t2:w3.cell? ⟨w.heap.size,1,none⟩=some (Iv x):=B3.c 1;have t3:w3.cell? ⟨w.heap.size,2,none⟩=some (Nv t.al):=B3.c 2;have t4:w3.cell? ⟨w.heap.size,3,none⟩=some (Nv t.to):=B3.c 3;have t5:w3.cell? ⟨w.heap.size,4,none⟩=some (Sv t.text):=B3.c 4;have t6:w3.cell? ⟨w.heap.size,5,none⟩=some (Lv pa vs.length pc):=B3.c 5;have t7:w3.cell? ⟨w.heap.size,6,none⟩=some (Lv ma ms.length mc):=B3.c 6;have M3:=ai hM3;have F3':=ai F3;clear hM3 F3 B3))
 go_wp2
 go_end0;have F3:=uh F3';have k2:=uh K2;have we2:=WE0.af k2;have z3:=F3.size;have z2:=k2.size;refine⟨rfl,(Fr.of<|K0.trans<|k2.mono K0.size).trans F3,⟨we2.bx.fr F3<|zd r2,we2.ct.fr F3<|zd d3,we2.rs.same<|F3.block _ we2.rs.lt r1,?_,⟨d1,d2,d3⟩,⟨by show c.eb<w3.heap.size;omega,by show c.cb<w3.heap.size;omega,by show c.rb<w3.heap.size;omega,by show c.mb<w3.heap.size;omega,br _⟩⟩⟩;exact M3.move (br _) rfl (λ_ _ _=>rfl) (λi p _=>⟨p.1,by show i<w3.heap.size;omega⟩)
end
def Dj:Cq 94 #[] w λe w'=>e=.returned (Mv w.heap.size)/\uy w' w.heap.size/\Bq w w'/\w'.heap.size=w.heap.size+1:=by
 have iN:= @run_makeMap xk;have M0:=MG.new xm w;have k0:Bq w (w.alloc<|.map #[] 0):=bw _;have Z0:(w.alloc<|.map #[] 0).heap.size=w.heap.size+1:=by simp
 have K0:=ai k0;go_enter func94,ntmps94;go_wp2_with((refine cd PL Je rfl _ _ _ (Or.inl rfl) rfl M0 _ _ rfl rfl ?_;clear M0;intro w' H' O';have M0:=ai H';have K1:=K0;have Z1:=Z0;clear K0 Z0;have K0:=ai (One.below K1 O'<|by exact br _);have Z0:=ai<|O'.size.trans Z1;clear H' O' K1 Z1));go_ret;refine⟨rfl,⟨_,M0,?_,?_,?_,?_⟩,K0,Z0⟩;all_goals(simp only[aO];rfl)
def ahb nl:Cq 62 #[] w λe w'=>∃c:WC,e=.returned (Pv c.eb)/\Bq w w'/\WT w' c 0 (λ_=>False) (λ_=>none)/\c.nb≠c.mb/\c.mks=(λ_=>none)/\c.nl=nl/\w.heap.size<=c.cb/\w.heap.size<=c.eb/\w.heap.size<=c.mb:=by
 have iN:= @run_makeMap Tryz.prog;go_enter func62,ntmps62;go_wp2_with fail;refine(xW).mono ?_;rintro e w1⟨rfl,xJ⟩;have k1:Bq w w1:=by rw[xJ];exact bw _
 have C1':Bx w1 w.heap.size #[Iv 0]:=by rw[xJ];exact zh w #[Iv 0] 3
 have z1:w1.heap.size=w.heap.size+1:=by rw[xJ];simp
 have K1:=ai k1;clear xJ k1;go_wp2_with fail;refine(Dj).mono ?_;rintro e w2⟨rfl,R2,k2,z2⟩;have K2:=ai k2;clear k2
 go_wp2
 go_ret;obtain⟨w3,qW⟩:∃w3,w3=w2.alloc (.map #[] 0):=⟨_,rfl⟩;obtain⟨w4,hw4⟩:∃w4,w4=w3.alloc (.map #[] 0):=⟨_,rfl⟩;have k3:Bq w2 w3:=by rw[qW];exact bw _
 have k4:Bq w3 w4:=by rw[hw4];exact bw _
 have z3:w3.heap.size=w2.heap.size+1:=by rw[qW];simp
 have z4:w4.heap.size=w3.heap.size+1:=by rw[hw4];simp
 have k2:=uh K2;have k1:=uh K1;have m3:MG Sv w3 (w.heap.size+2) []:=by rw[qW,show w.heap.size+2=w2.heap.size by omega];exact MG.new _ w2
 have m4:MG Sv w4 (w.heap.size+3) []:=by rw[hw4,show w.heap.size+3=w3.heap.size by omega];exact MG.new _ w3
 rw[<-qW,<-hw4];obtain⟨w5,hw5⟩:∃w5,w5=w4.alloc (Cv #[.func (.func 47) #[] #[Pv w.heap.size],Mv<|w.heap.size+1,Mv<|w.heap.size+2,Mv<|w.heap.size+3] 218):=⟨_,rfl⟩;have k5:Bq w4 w5:=by rw[hw5];exact bw _
 have z5:w5.heap.size=w.heap.size+5:=by rw[hw5];simp;omega
 have b5:Bx w5 (w.heap.size+4) #[.func (.func 47) #[] #[Pv w.heap.size],Mv<|w.heap.size+1,Mv<|w.heap.size+2,Mv<|w.heap.size+3]:=by
  have:=zh w4 #[.func (.func 47) #[] #[Pv w.heap.size],Mv<|w.heap.size+1,Mv<|w.heap.size+2,Mv<|w.heap.size+3] 218;rw[<-hw5,show w4.heap.size=w.heap.size+4 by omega]at this;exact this
 have z1:w1.heap.size=w.heap.size+1:=ae;have Ms:=k4.trans<|k5.mono k4.size;have k35:=k3.trans<|Ms.mono k3.size;have k25:=k2.trans<|k35.mono k2.size;have kk:=k1.trans<|k25.mono k1.size;have res:∃c:WC,Rv (Pv<|w.heap.size+4)=Rv (Pv c.eb)/\Bq w w5/\WT w5 c 0 (λ_=>False) (λ_=>none)/\c.nb≠c.mb/\c.mks=(λ_=>none)/\c.nl=nl/\w.heap.size<=c.cb/\w.heap.size<=c.eb/\w.heap.size<=c.mb:=by
  refine⟨⟨w.heap.size+4,w.heap.size,w.heap.size+1,w.heap.size+2,w.heap.size+3,w.heap.size+5,λ_=>none,nl⟩,rfl,kk,⟨⟨b5,C1'.below k25,?_,⟨[],m3.same<|Ms.block _ ae,λ_ _=>rfl,λx v h=>qBg⟩,?_,?_⟩,⟨[],m4.same<|k5.block _ ae,λ_ _=>rfl,λx v h=>qBg⟩,?_,λn q=>q.elim,(λy d q=>lI),λx q=>absurd rfl q⟩,?_,rfl,rfl,?_,?_,?_⟩
  .have:=R2.same (w':=w5)<|k35.block _ ae
   rwa[z1]at this
  all_goals(dsimp only;omega)
 rw[hw5]at res;exact res
structure Oth(x:Value):Prop where
 i:∀a y,x≠.iface a y
 n:∀n:Nat,1<=n->x≠Nv n
 p:∀q,x≠.pointer q
def bP.other(h:bP w P nb Γ)(hv:∀y d,Γ y=some d->∀n∈d.any,1<=n)(hb:w.cell? ⟨b,0,none⟩=some x)(hx:Oth x):bP w (λi=>P i/\i≠b) nb Γ:=by
 obtain⟨L,h1,h2,h3⟩:=h;refine⟨L,h1,h2,λk v hk=>?_⟩;obtain⟨d,e,ta,xa,sa,sc,rfl,⟨⟨x',q1,q2⟩,q4⟩,q3⟩:=h3 k v hk;refine⟨d,e,ta,xa,sa,sc,rfl,⟨⟨x',q1.not hb hx.i,q2⟩,q4⟩,?_⟩;obtain q3|⟨g,r1,r2,r3,r4⟩:=q3
 .exact qu q3
 .by_cases h0:d.any=[]
  .exact qu h0
  .refine qv ⟨g,r1,⟨r2,λeg=>?_⟩,r3,r4⟩;have hl:=List.length_pos_iff.2 h0;have r5:=r4 0 hl;rw[eg,hb]at r5;injection r5 with r5;exact hx.n _ (hv k d e _<|jf hl) r5
def hH{enc}{b'}{L:List (κ×Value)}(h:MG enc w b' L)(hb:w.cell? ⟨b,0,none⟩=some x):b'≠b:=λe=>by
 have:=h.bE 0;rw[e,hb]at this
 cases this
def WT.other{w w'}{c}{cnt}{u}{Γ}{b}{x}(h:WT w c cnt u Γ)(hn:b≠c.cb/\b≠c.eb)(hb:w.cell? ⟨b,0,none⟩=some x)(hx:Oth x)(f:Fr (λi=>i=b) w w'):WT w' c cnt u Γ:=by
 have⟨Lr,hr,_⟩:=id h.we.rs;have⟨Lm,hm,_⟩:=id h.we.ms;have⟨Ln,hnn,_⟩:=id h.e;have nr:=hH hr hb;have nm:=hH hm hb;have nn:=hH hnn hb;have⟨l1,l2,l3,l4,l5⟩:=h.we.l;have hz:=f.size;refine⟨⟨h.we.bx.fr f<|zd hn.2,h.we.ct.fr f<|zd hn.1,h.we.rs.same<|f.block _ h.we.rs.lt nr,(h.we.ms.not hb hx.i).move f.size (f.block _ h.we.ms.lt nm) (λi p z=>f.block i z p.2)<|λi p _=>p.1,h.we.d,l1,l2,l3,l4,ae⟩,?_,h.n,h.hu,h.top,h.dm⟩;refine(h.e.other ?_ hb hx).move f.size (f.block _ h.e.lt nn) (λi p z=>f.block i z p.2) (λi p _=>p.1);intro y d q n hq;exact(h.hu n<|(h.top.env y d q).use n<|(h.top.env y d q).sub n hq).1
structure KpI lo base(w w':World):Prop where
 os:w'.os=w.os
 tape:w'.tape=w.tape
 output:w'.output=w.output
 size:w.heap.size<=w'.heap.size
 low:∀b,b<w.heap.size->b<lo->w'.heap[b]? =w.heap[b]?
 box:∀b x,b<w.heap.size->base<=b->w.cell? ⟨b,0,none⟩=some x->(∀q,x≠.pointer q)->w'.heap[b]? =w.heap[b]?
def KpI.of(f:Fr S w w')(h1:∀b,S b->lo<=b)(h2:∀b x,S b->base<=b->w.cell? ⟨b,0,none⟩=some x->¬∀q,x≠.pointer q):KpI lo base w w':=
 ⟨f.os,f.tape,f.output,f.size,λb hb hl=>f.block b hb λq=>by have:=h1 b q;omega,λb x hb hl hx ho=>f.block b hb λq=>h2 b x q hl hx ho⟩
def KpI.bx{C}(k:KpI lo base w w')(h:Bx w b C)(hb:base<=b)(hx:C[0]? =some x)(ho:∀q,x≠.pointer q):Bx w' b C:=h.same k.size (k.box b x h.z hb (by rw[h.c 0];exact hx) ho)
def ahc(S:World->Nat->j3->jv->jz->Prop)lo base rs cnt(mks:j3)(s:jv)(Γ:jz)rc st a y x w(e:Ending)w':=KpI lo base w w'/\∃o,j6 rc st x (j7 mks x) Γ s o/\match o with
 |.error z=>∃vl vr,e=.returned (.tuple #[.nilIface,BQ z.f vl vr])/\qO w' (λ_=>True) z vl vr
 |.ok (t,s1)=>(48<size (sub s1.k t)/\e=.returned (.tuple #[.nilIface,BQ ⟨7,a,y⟩ .nilIface .nilIface]))\/
  (size (sub s1.k t)<=48/\∃T ta xa aB,T=(if In.H9 x then sub s1.k t else ql (sub s1.k t))/\e=.returned (.tuple #[.iface ta xa,.agg LD])/\dB w' (λ_=>True) T (.iface ta xa)/\aB<=cnt+1000*(1+nn x)+48/\S w' aB mks (In.nxt rs s1) (qs Γ st ⟨T,vars [] T⟩))
structure Xm ty eb lo base rs nl(S:World->Nat->j3->jv->jz->Prop):Prop where
 af:∀{w w':World}{cnt:Nat}{mks:j3}{s:jv}{Γ:jz},S w cnt mks s Γ->Bq w w'->S w' cnt mks s Γ
 oth:∀{w w':World}{cnt:Nat}{mks:j3}{s:jv}{Γ:jz}{b:Nat}{x:Value},S w cnt mks s Γ->base<=b->w.cell? ⟨b,0,none⟩=some x->Oth x->Fr (λi=>i=b) w w'->S w' cnt mks s Γ
 mks:∃fn,(∀w,(method 641 ty (.pointer<|some ⟨eb,0,none⟩) "Makers").run Tryz.prog w=.ok (fn,.pointer<|some ⟨eb,0,none⟩) w)/\(∀(args:Array Value)(w:World),(callFunc fn args).run Tryz.prog w=.ok (.enter fn args) w)/\∀{w:World}{cnt:Nat}{mks:In.Mks}{s:In.St}{Γ:In.Env}{t:Pu.Tok}{vs:List Pu.Tok}{ms:List Nd}{f x:Int}{vv vm:Value},S w cnt mks s Γ->RowV QName 3 w (·<lo) vs vv->RowV QMaker 6 w (·<lo) ms vm->TdF t vs ms->
  Cq fn #[Pv eb,.agg #[Iv f,Iv x,Nv t.al,Nv t.to,.string t.text,vv,vm]] w (λe w'=>e=.returned (.tuple #[])/\KpI lo base w w'/\S w' cnt (jx t vs ms mks) s Γ)
 lts:∃fn,(∀w,(method 641 ty (.pointer<|some ⟨eb,0,none⟩) "Let").run Tryz.prog w=.ok (fn,.pointer<|some ⟨eb,0,none⟩) w)/\(∀(args:Array Value)(w:World),(callFunc fn args).run Tryz.prog w=.ok (.enter fn args) w)/\∀{w:World}{cnt:Nat}{mks:In.Mks}{s:In.St}{Γ:In.Env}{rc:Bool}{st:BA}{x:Nd}{v:Value}{a y:Nat}{dom:BA->Prop},S w cnt mks s Γ->PE w (·<lo) x v->ScE mks nl (fun v=>dom v\/(rc=true/\v=st)) x->(∀x,dom x->Γ x≠none)->st∈nl->cnt+1000*(1+nn x)<=850000->1+nn x<=805->MkFine mks->
  Cq fn #[Pv eb,.agg #[.bool rc,Nv a,Nv y,.string st,v]] w (ahc S lo base rs cnt mks s Γ rc st a y x w)
structure JC where
 (eb cb rb mb lo fV:Nat)
 mks:j3
 nl:List BA
abbrev TO(c:JC)nb l:=#[.func (.func 47) #[] #[Pv c.cb],Mv c.rb,Mv c.mb,Mv nb,Nv l]
structure JE w c nb l cnt:Prop where
 bx:Bx w c.eb (TO c nb l)
 ct:Bx w c.cb #[Nv cnt]
 rs:uy w c.rb
 ms:mN w (λi=>i≠c.cb/\i<c.fV) c.mb c.mks
 z:c.lo<=c.eb/\c.lo<=c.cb/\c.fV<=w.heap.size
section
variable {c:JC} {cnt:Nat}
def GL.qE{nx}{lv}(h:GL w ds str nx vr ly lv)(hn:n∈ds):∃p,w.cell? ⟨n,0,none⟩=some (.pointer p):=by
 have:=(h.nd n hn).cells.1
 cases e:nx n with
 |none=>rw[e]at this;exact⟨none,this⟩|some m=>rw[e]at this;exact⟨_,this⟩
def JE.yY(h:JE w c nb l cnt)(j:JS w g s):¬c.eb∈g.ds:=λq=>by
 have⟨p,hp⟩:=j.gl.qE q;have:=h.bx.c 0;rw[hp]at this;simp at this
def JE.yZ(h:JE w c nb l cnt)(j:JS w g s):¬c.cb∈g.ds:=λq=>by
 have⟨p,hp⟩:=j.gl.qE q;have:=h.ct.c 0;rw[hp]at this;simp at this
def JE.ne(h:JE w c nb l cnt):c.eb≠c.cb/\c.rb≠c.cb/\c.rb≠c.eb/\c.mb≠c.cb/\c.mb≠c.eb:=by
 have⟨L,m1,_⟩:=h.rs;have⟨L',m2,_⟩:=h.ms;have a:=h.bx.c 0;have b:=h.ct.c 0;refine⟨λe=>?_,λe=>?_,λe=>?_,λe=>?_,λe=>?_⟩
 .grind
 .rw[<-e,m1.bE 0]at b;simp at b
 .rw[<-e,m1.bE 0]at a;simp at a
 .rw[<-e,m2.bE 0]at b;simp at b
 .rw[<-e,m2.bE 0]at a;simp at a
def JE.ni(h:JE w c nb l cnt)(j:JS w g s):¬c.rb∈g.ds/\¬c.mb∈g.ds:=by
 have⟨L,m1,_⟩:=h.rs;have⟨L',m2,_⟩:=h.ms;refine⟨λq=>?_,λq=>?_⟩
 .have⟨p,hp⟩:=j.gl.qE q;rw[m1.bE 0]at hp
  cases hp
 .have⟨p,hp⟩:=j.gl.qE q;rw[m2.bE 0]at hp
  cases hp
def dB.Ur(h:dB w P t v)(hS:∀b,S b->∀a y,w.cell? ⟨b,0,none⟩≠some (.iface a y)):dB w (λi=>P i/\¬S i) t v:=by
 induction h with
 |var n=>exact .var n|aJ c L sa sc vs hc aM hr ih=>
  refine .aJ c L sa sc vs hc ?_ ih;obtain h0|⟨g,h1,h2,h3,h4⟩:=aM
  .exact qu h0
  .by_cases h0:L=[]
   .exact qu h0
   .refine qv ⟨g,h1,⟨h2,λe=>?_⟩,h3,h4⟩;have hl:=List.length_pos_iff.2 h0;have⟨a,y,r⟩:=(hr 0 hl).iface;exact hS g e a y (by rw[h4 0 hl,r])
def mN.Ur{P S:Nat->Prop}{mb}{mk}(h:mN w P mb mk)(hS:∀b,S b->∀a y,w.cell? ⟨b,0,none⟩≠some (.iface a y)):mN w (λi=>P i/\¬S i) mb mk:=by
 obtain⟨L,h1,h2,h3⟩:=h;refine⟨L,h1,h2,λk v hk=>?_⟩;obtain⟨tk,m,e,sa,sc,ta,xa,rfl,q1,q2⟩:=h3 k v hk;refine⟨tk,m,e,sa,sc,ta,xa,rfl,?_,q2.Ur hS⟩;obtain q1|⟨g,vs,q3,q4,q5,q6⟩:=q1
 .exact qu q1
 .by_cases h0:tk=[]
  .exact qu h0
  .have hl:=List.length_pos_iff.2 h0;refine qv ⟨g,vs,q3,⟨q4,λe=>?_⟩,q5,λi hi=>⟨(q6 i hi).1,(q6 i hi).2.Ur hS⟩⟩;have⟨q7,q8⟩:=q6 0 hl;have⟨a,y,r⟩:=q8.iface;exact hS g e a y (by rw[q7,r])
abbrev jS(c:JC)(g:fW)b:=b=c.cb\/b=c.eb\/b∈g.ds
def JE.fr(h:JE w c nb l cnt)(j:JS w g s)(hf:Fr (jS c g) w w'){aB}(he:Bx w' c.eb (TO c Ie l'))(hc:Bx w' c.cb #[Nv aB]):JE w' c Ie l' aB:=by
 have⟨n1,n2,n3,n4,n5⟩:=h.ne;have⟨n6,n7⟩:=h.ni j;refine⟨he,hc,h.rs.same<|hf.block _ h.rs.lt<|λq=>q.elim n2<|λq=>q.elim n3 n6,?_,⟨h.z.1,h.z.2.1,qx h.z.2.2 hf.size⟩⟩;refine(h.ms.Ur (S:=jS c g) ?_).move hf.size (hf.block _ h.ms.lt<|λq=>q.elim n4<|λq=>q.elim n5 n7) (λb p z=>hf.block b z p.2) (λb p _=>p.1);rintro b(rfl|rfl|q)a y e
 .have:=h.ct.c 0;rw[e]at this;simp at this
 .have:=h.bx.c 0;rw[e]at this;simp at this
 .have⟨p,hp⟩:=j.gl.qE q;rw[e]at hp
  cases hp
def JE.af(h:JE w c nb l cnt)(hb:Bq w w'):JE w' c nb l cnt:=⟨h.bx.below hb,h.ct.below hb,h.rs.same<|hb.block _ h.rs.lt,h.ms.move hb.size (hb.block _ h.ms.lt) (λb _ z=>hb.block b z)<|λ_ p _=>p,⟨h.z.1,h.z.2.1,qx h.z.2.2 hb.size⟩⟩
def Kh v l:Cq 81 #[Iv v,Iv l] w λe w'=>e=.returned (nA w.heap.size)/\w'=w.alloc (.cells #[.pointer none,Iv l,Iv v,.string ⟨#[]⟩,.slice none 0 0] 187):=by
 go_enter func81,ntmps81
 go_wp2
 go_ret;exact⟨rfl,rfl⟩
def Fm b l a n k:Cq 82 #[.string b,Iv l,.slice a n k] w λe w'=>e=.returned (nA w.heap.size)/\w'=w.alloc (.cells #[.pointer none,Iv l,Iv 0,.string b,.slice a n k] 187):=by
 go_enter func82,ntmps82
 go_wp2
 go_ret;exact⟨rfl,rfl⟩
end
section
variable {c:JC} {cnt:Nat}
def oG(h:JE w c nb l cnt)(j:JS w g s)(hu:∀n,s.u n->us cnt n)(hc:cnt<=1000000):Cq 382 #[Pv c.eb] w (λe w'=>∃n,e=.returned (nA n)/\w.heap.size<=n/\JE w' c nb l (cnt+1)/\JS w' (g.add n none (cnt+1) (none,0) l<|.var<|cnt+1) ⟨s.k,λm=>s.u m\/m=cnt+1⟩/\Fr (λb=>b=c.cb) w w'):=by
 have f0:=h.bx.c 0;have f1:=h.bx.c 4;have⟨n1,_,_,_,_⟩:=h.ne;have dn:=h.yZ j;have zc:=h.ct.z;have HE:=ai h;have HFR:∀W:World,W=w.drew->Cq 47 #[Pv c.cb] W λe w'=>e=Rv (Iv<|(cnt:Int)+1)/\∃_:JE w' c nb l (cnt+1),Fr (λb=>b=c.cb) w w'/\JS w' g s/\w'.heap.size=w.heap.size:=λW hW=>by
  subst hW;refine(oD cnt hc<|h.ct.gL).mono ?_;rintro e w'⟨rfl,rfl⟩;have F:Fr (λb=>b=c.cb) w (w.drew.setCell ⟨c.cb,0,none⟩<|Iv<|(cnt:Int)+1):=(Fr.of (S:=λb=>b=c.cb) (xi _ w).drew).set (b:=c.cb) (qu rfl) 0 _;have B:Bx (w.drew.setCell ⟨c.cb,0,none⟩<|Iv<|(cnt:Int)+1) c.cb #[.int .i64 ((cnt+1:Nat):Int)]:=h.ct.gL.aP 0 _ _ rfl ag;have hF:Fr (jS c g) w (w.drew.setCell ⟨c.cb,0,none⟩<|Iv<|(cnt:Int)+1):=F.fV λb q=>qu q;have hG:GL (w.drew.setCell ⟨c.cb,0,none⟩<|Iv<|(cnt:Int)+1) g.ds g.str g.nx g.vr g.ly g.lv:=by
   refine j.gl.one (b:=c.cb) ⟨rfl,rfl,rfl,yw,λi hi=>xj _ _ _ _ hi⟩ dn<|λm hm c' l' gg hs hl hg e=>?_;have⟨ga,q1,q2,_⟩:=j.gl.row hm hs<|List.length_pos_iff.2 hl;rw[hg]at q1;injection q1 with q1;injection q1 with q1;subst q1;have:=h.ct.c 0;rw[<-e,q2]at this;simp at this
  exact⟨rfl,h.fr j hF (h.bx.fr F n1) B,F,⟨hG,j.mF,j.inj,j.can,j.lc,j.val,j.use,j.ok⟩,yw⟩
 go_enter func382,ntmps382
 go_wp2
 go_region_held3(λw'=>w'.cell? ⟨c.eb,0,none⟩=some (.func (.func 47) #[] #[Pv c.cb])/\w'.cell? ⟨c.eb,4,none⟩=some (Nv l)) (first|go_keep|(simp[*])) (first
  |(go_at_call 47;go_loud(refine(HFR _ rfl).mono ?_);rintro e w2⟨rfl,e2,F2,j2,z2⟩;have s0:w2.cell? ⟨c.eb,0,none⟩=some (.func (.func 47) #[] #[Pv c.cb]):=e2.bx.c 0;have s1:w2.cell? ⟨c.eb,4,none⟩=some (Nv l):=e2.bx.c 4;have E2:=ai e2;have Tl:=ai F2;have J2:=ai j2;have Z2:=ai z2;clear e2 F2 j2 z2)
  |(go_at_call 81;go_loud(refine(Kh _ _).mono ?_);rintro e w3⟨rfl,qW⟩;have k3:Bq w2 w3:=(by rw[qW];exact bw _);have B3:w3.heap[w2.heap.size]? =some (Cv #[.pointer none,Nv l,Iv<|(cnt:Int)+1,Sv ⟨#[]⟩,Lv none 0 0] 187 (0,0)):=(by rw[qW];exact(xy w2 _).1);have s2:w3.cell? ⟨c.eb,0,none⟩=some (.func (.func 47) #[] #[Pv c.cb]):=(E2.af k3).bx.c 0;have s3:w3.cell? ⟨c.eb,4,none⟩=some (Nv l):=(E2.af k3).bx.c 4;have K3:=ai k3;have B3':=ai B3;clear qW k3 B3))
 go_wp2
 go_ret;have k3:=uh K3;have hv:¬s.u (cnt+1):=λq=>by have:=hu _ q;rw[us]at this;omega
 exact⟨w2.heap.size,rfl,by rw[uh Z2];exact br _,(uh E2).af k3,(uh J2).var k3 (br _) hv<|by simpa using uh B3',(uh Tl).trans<|Fr.of k3⟩
def Jg{fn}{cn}(hk:fn=389/\cn=nB\/fn=387/\cn=lj)(h:JE w c nb l cnt)(j:JS w g s){a}(ha:a∈g.ds/\∀x,Hd g.nx a x->g.lv x<=l)(hb:b∈g.ds/\∀x,Hd g.nx b x->g.lv x<=l):Cq fn #[Pv c.eb,nA a,nA b] w (λe w'=>∃n ar,e=.returned (nA n)/\w.heap.size<=n/\JE w' c nb l cnt/\JS w' (g.add n (some (cn,[a,b])) 0 ar l<|.aJ cn [g.V a,g.V b]) s/\Bq w w'):=by
 have yv:CN cn:=by obtain⟨-,rfl⟩|⟨-,rfl⟩:=hk;exact qu rfl;exact qv<|qu rfl
 have f1:w.cell? ⟨c.eb,4,none⟩=some (Nv l):=h.bx.c 4;have⟨k0,B0⟩:=sf w #[nA a,nA b] 116;have HM:=Fm (w:=w.alloc<|Cv #[nA a,nA b] 116) (pn cn) (l:Int) (some ⟨w.heap.size,0,none⟩) 2 2;have K0:=ai k0;have HE:=ai h;have HJ:=ai j;clear h j k0;obtain⟨rfl,ec⟩|⟨rfl,ec⟩:=hk;all_goals
  first|(rw[ec,jI]at HM;go_enter func389,ntmps389)|(rw[ec,jJ]at HM;go_enter func387,ntmps387)
  go_wp2_with fail;refine HM.mono ?_;rintro e w2⟨rfl,hw2⟩;have k2:Bq (w.alloc<|Cv #[nA a,nA b] 116) w2:=by rw[hw2];exact bw _
  have B2:w2.heap[w.heap.size+1]? =some (Cv #[.pointer none,Nv l,Iv 0,Sv<|pn cn,Lv (some ⟨w.heap.size,0,none⟩) 2 2] 187 (0,0)):=by
   rw[hw2];have:=(xy (w.alloc<|Cv #[nA a,nA b] 116)<|Cv #[.pointer none,Nv l,Iv 0,Sv<|pn cn,Lv (some ⟨w.heap.size,0,none⟩) 2 2] 187).1;simpa[ec,jI,jJ]using this
  have R2:=B0.below k2;have k02:=K0.trans<|k2.mono K0.size;have HX:=ai<|xf k02<|xf B2 R2;clear HM hw2 k2 B2 R2 k02 B0
  go_wp2
  go_ret;have⟨k02,B2,R2⟩:=uh HX;refine⟨w.heap.size+1,(some ⟨w.heap.size,0,none⟩,2),rfl,xd _,HE.af k02,HJ.made (c:=cn) (ps:=[a,b]) (a:=(some ⟨w.heap.size,0,none⟩,2)) k02 (xd _) yv ag (λp hp=>?_) (qv ⟨w.heap.size,rfl,br _,ae,R2.z,λi hi=>?_⟩) B2,k02⟩
  .obtain e|e:=List.mem_cons.1 hp
   .subst e;exact ha
   .simp at e;subst e;exact hb
  .have qK:i=0\/i=1:=Gd;rw[R2.c i];obtain rfl|rfl:=qK<;>rfl
end
end
section
open Go.ChangeMaps Un
abbrev aL:Nat:=9223372036854775807
def Nf(lv:Nat->Nat)L h:=lv h<=L\/lv h=aL
structure uW(str:rF)(nx:Nx)(ds:List Nat)(lv cq:Nat->Nat)n L(D:Nat->Prop):Prop where
 up:∀m,D m->m∈ds/\nx m=none/\L<lv m/\lv m≠aL/\cq m=aL
 no:∀m,¬D m->cq m=lv m
 hd:∀h,Hd nx n h->D h\/Nf lv L h
 cl:∀a,D a->∀c l,str a=some (c,l)->∀p,p∈l->∀h,Hd nx p h->D h\/Nf lv L h
 re:∀R:Nat->Prop,(∀h,Hd nx n h->R h)->(∀a c l p h,R a->str a=some (c,l)->p∈l->Hd nx p h->R h)->∀a,D a->R a
structure wZ(str:rF)(nx:Nx)(ds:List Nat)(lv lK:Nat->Nat)h(l:List Nat)L(D:Nat->Prop):Prop where
 own:D h
 up:∀m,D m->m∈ds/\nx m=none/\L<lv m/\lv m≠aL/\lK m=aL
 no:∀m,¬D m->lK m=lv m
 pt:∀p,p∈l->∀k,Hd nx p k->D k\/Nf lv L k
 cl:∀a,D a->a≠h->∀c l,str a=some (c,l)->∀p,p∈l->∀k,Hd nx p k->D k\/Nf lv L k
 re:∀R:Nat->Prop,R h->(∀a c l p k,R a->str a=some (c,l)->p∈l->Hd nx p k->R k)->∀a,D a->R a
section
variable {nx:Nx} {lv lK:Nat->Nat} {L:Nat} {l:List Nat}
def uW.nil(hh:Hd nx n h)(hl:Nf lv L h):uW str nx ds lv lv n L (λ_=>False):=
 ⟨λ_ q=>q.elim,λ_ _=>rfl,λk q=>qv (by rw[q.one hh];exact hl),λ_ q=>q.elim,λ_ _ _ _ q=>q.elim⟩
def wZ.start(hd:h∈ds)(hn:nx h=none)(hl:L<lv h)(ha:lv h≠aL):wZ str nx ds lv (xh lv h aL) h [] L (λm=>m=h):=
 ⟨rfl,λm q=>by subst q;exact⟨hd,hn,hl,ha,MI⟩,λm q=>by simp[xh,q],λp q=>by simp at q,λa q r=>absurd q r,λR q _ a r=>by subst r;exact q⟩
def wZ.step{p}{c}{l0}(hs:str h=some (c,l0))(hp:p∈l0)(k:wZ str nx ds lv lK h l L D)(q:uW str nx ds lK cq p L E):wZ str nx ds lv cq h (l++[p]) L (λm=>D m\/E m):=by
 have dis:∀m,E m->¬D m:=λm e d=>(q.up m e).2.2.2.1 (k.up m d).2.2.2.2;have low:∀x,Nf lK L x->D x\/Nf lv L x:=λx hx=>by
  by_cases d:D x
  .exact qu d
  .exact qv (by unfold Nf at*;rw[<-k.no x d];exact hx)
 refine⟨qu k.own,λm e=>?_,λm e=>?_,λp' lJ x hx=>?_,λa e ne c' l' iO p' lJ x hx=>?_,λR r1 r2 a e=>?_⟩
 .by_cases d:E m
  .have⟨u1,u2,u3,u4,u5⟩:=q.up m d;rw[k.no m<|dis m d]at u3 u4;exact⟨u1,u2,u3,u4,u5⟩
  .have⟨u1,u2,u3,u4,u5⟩:=k.up m<|e.resolve_right d;exact⟨u1,u2,u3,u4,(q.no m d).trans u5⟩
 .rw[q.no m<|λd=>e<|qv d,k.no m<|λd=>e<|qu d]
 .obtain lJ|lJ:=List.mem_append.1 lJ
  .exact(k.pt p' lJ x hx).imp qu id
  .simp at lJ;subst lJ;obtain r|r:=q.hd x hx
   .grind
   .grind
 .obtain d|d:=e
  .exact(k.cl a d ne c' l' iO p' lJ x hx).imp qu id
  .obtain r|r:=q.cl a d c' l' iO p' lJ x hx
   .grind
   .grind
 .obtain d|d:=e
  .exact k.re R r1 r2 a d
  .exact q.re R (λx hx=>r2 h c l0 p x r1 hs hp hx) r2 a d
def wZ.done{c}{l0}(hh:Hd nx n h)(hs:str h=some (c,l0))(k:wZ str nx ds lv lK h l0 L D):uW str nx ds lv lK n L D:=by
 refine⟨k.up,k.no,λx hx=>qu (by rw[hx.one hh];exact k.own),λa d c' l' iO p hp x hx=>?_,λR r1 r2 a d=>k.re R (r1 h hh) r2 a d⟩;by_cases e:a=h
 .subst e;rw[hs]at iO;injection iO with iO;injection iO with _ e2;subst e2;exact k.pt p hp x hx
 .exact k.cl a d e c' l' iO p hp x hx
def wZ.aas(hh:Hd nx n h)(hs:str h=none)(k:wZ str nx ds lv lK h [] L D):uW str nx ds lv lK n L D:=by
 refine⟨k.up,k.no,λx hx=>qu (by rw[hx.one hh];exact k.own),λa d c' l' iO p hp x hx=>?_,λR r1 r2 a d=>k.re R (r1 h hh) r2 a d⟩;by_cases e:a=h
 .grind
 .exact k.cl a d e c' l' iO p hp x hx
end
def fp(ds:List Nat)(lv:Nat->Nat)L:=ds.countP λm=>decide (L<lv m/\lv m≠aL)
def afb{lv}{L:Nat}(h:∀m,L<cq m/\cq m≠aL->L<lv m/\lv m≠aL):fp ds cq L<=fp ds lv L:=List.countP_mono_left λm _ q=>by simpa using h m (by simpa using q)
def afc{lv cq:Nat->Nat}{L x:Nat}(h:∀m,L<cq m/\cq m≠aL->L<lv m/\lv m≠aL)(hx:L<lv x/\lv x≠aL)(uk:¬(L<cq x/\cq x≠aL)):∀{ds:List Nat},x∈ds->fp ds cq L<fp ds lv L
 |a::ds,hm=>by
  unfold fp;rw[jt,jt];have hle:ds.countP (λm=>decide (L<cq m/\cq m≠aL))<=ds.countP (λm=>decide (L<lv m/\lv m≠aL)):=afb h;by_cases e:a=x
  .subst e;rw[if_pos<|decide_eq_true hx,if_neg<|by simpa using uk];omega
  .have:=afc h hx uk (ds:=ds) (by obtain q|q:=List.mem_cons.1 hm;exact absurd q.symm e;exact q);unfold fp at this;by_cases q:L<cq a/\cq a≠aL
   .rw[if_pos<|decide_eq_true q,if_pos<|decide_eq_true<|h a q];omega
   .rw[if_neg<|by simpa using q];split<;>omega
def uW.eqv{nx}{lv0 lv}{L:Nat}(g:GL w ds str nx vr ly lv0)(e:iD str nx bi)(q:uW str bi ds lv cq n L D):uW str nx ds lv cq n L D:=
 ⟨λm d=>⟨(q.up m d).1,(e.Bf m).1 (q.up m d).2.1,(q.up m d).2.2⟩,q.no,λh k=>q.hd h<|e.jN _ _ k,λa d c l hs p hp h k=>q.cl a d c l hs p hp h<|e.jN _ _ k,λR r1 r2=>q.re R (λh k=>r1 h<|e.back g k)<|λa c l p h ra hs hp k=>r2 a c l p h ra hs hp<|e.back g k⟩
def Ki ds str nx vr ly lv n L w(e:Ending)w':=
 e=.returned (.tuple #[])/\∃bi cq D,GL w' ds str bi vr ly cq/\Fr (λb=>b∈ds) w w'/\iD str nx bi/\w'.heap.size=w.heap.size/\uW str nx ds lv cq n L D
def ahd ds str vr ly k:=∀(w:World)(nx:Nx)(lv:Nat->Nat)(n L:Nat),GL w ds str nx vr ly lv->n∈ds->fp ds lv L<=k->Cq 309 #[nA n,Nv L] w (Ki ds str nx vr ly lv n L w)
def ahe ds str nx vr ly lv h L(l:List Nat)w gk v wr:=
 ∃j gS lK D,Hid (gk=l.length-j)/\j<=l.length/\v=Nv j/\GL wr ds str gS vr ly lK/\Fr (λb=>b∈ds) w wr/\iD str nx gS/\wr.heap.size=w.heap.size/\wZ str nx ds lv lK h (l.take j) L D
def U0(IH:∀i,i<k->ahd ds str vr ly i):ahd ds str vr ly k:=by
 intro w nx lv n L Gk hn hk;have⟨h,hh⟩:=Gk.hd n hn;have hm:=Gk.bI hn hh;have HC:=rB Gk hn hh;go_enter func309,ntmps309;go_wp2_with fail;refine HC.mono ?_;rintro e w1⟨rfl,dP,G1,F1,E1,z1⟩;clear HC;have⟨c1,f1⟩:=(G1.nd h hm).lvl;have LF:nx h=none:=hh.head;by_cases hle:lv h<=L
 .have hd:(lv h:Int)<=(L:Int):=ae;have HG:=ai G1;clear G1
  go_wp2
  go_end0;exact⟨rfl,dP,lv,_,uh HG,F1,E1,z1,uW.nil hh<|qu hle⟩
 .have hd:decide ((lv h:Int)<=(L:Int))=false:=bB;by_cases han:lv h=aL
  .have he:((lv h:Int)==(9223372036854775807:Int))=true:=by rw[han];rfl
   have HAN:=ai han;have HG:=ai G1;clear G1 han
   go_wp2
   go_end0;exact⟨rfl,dP,lv,_,uh HG,F1,E1,z1,uW.nil hh<|qv<|uh HAN⟩
  have he:((lv h:Int)==(9223372036854775807:Int))=false:=by simp;intro q;exact han (by show lv h=9223372036854775807;omega)
  have G2:=G1.TN hm aL;have⟨_,_,_,_,c4⟩:=(G1.nd h hm).cells;have F2:Hid (Fr (λb=>b∈ds) w<|w1.setCell ⟨h,1,none⟩<|Iv 9223372036854775807):=ai<|F1.set (qu hm) 1 _;have LN:=ai G2;have Z1:=z1;have E1':=ai E1;have J0:Hid (wZ str nx ds lv (xh lv h aL) h [] L<|λm=>m=h):=ai<|wZ.start hm LF ae han;clear G1 G2 F1 z1 E1
  cases hs:str h with
  |none=>
   have c4':w1.cell? ⟨h,4,none⟩=some (.slice (ly h).1 0 (ly h).2):=by rw[c4,hs];rfl
   clear c4
   go_wp2
   go_loopg[29] 0 (λgk v wr=>v=Iv 0/\wr=w1.setCell ⟨h,1,none⟩ (Iv 9223372036854775807))
   case atStart=>exact⟨rfl,rfl⟩
   case round=>
    obtain⟨rfl,rfl⟩:=hrel
    go_wp2
    go_end0;exact⟨rfl,dP,_,_,uh LN,uh F2,uh E1',qAz,(uh J0).aas hh hs⟩
  |some q=>
   obtain⟨c,l⟩:=q;have c4':w1.cell? ⟨h,4,none⟩=some (.slice (ly h).1 l.length (ly h).2):=by rw[c4,hs];rfl
   have⟨hl1,Po⟩:=Gk.part hm hs;have hdp:fp ds (xh lv h aL) L<fp ds lv L:=afc (x:=h) (λm q=>by by_cases e:m=h;subst e;exact⟨ae,han⟩;simpa[xh,e]using q) ⟨ae,han⟩ MI hm;clear c4;by_cases Cb:l=[]
   .subst Cb;have alq:=c4';clear c4'
    go_wp2
    go_loopg[29] 0 (λgk v wr=>v=Iv 0/\wr=w1.setCell ⟨h,1,none⟩ (Iv 9223372036854775807))
    case atStart=>exact⟨rfl,rfl⟩
    case round=>
     obtain⟨rfl,rfl⟩:=hrel
     go_wp2
     go_end0;exact⟨rfl,dP,_,_,uh LN,uh F2,uh E1',qAz,(uh J0).done hh hs⟩
   have⟨ga,EGA,_,_⟩:=Gk.row hm hs<|List.length_pos_iff.2 Cb;rw[EGA]at c4'
   go_wp2
   go_loopg[29] l.length (λgk v wr=>ahe ds str nx vr ly lv h L l w gk v wr)
   case atStart=>exact⟨0,dP,_,_,ai ag,q9 _,rfl,uh LN,uh F2,uh E1',qAz,by simpa using uh J0⟩
   case round=>
    clear LN F2 E1' J0 c4' c1 f1;obtain⟨j,gS,lK,D,cR,hj,rfl,Gj,FJ,EJ,ZJ,JJ⟩:=hrel;by_cases aY:j<l.length
    .have bq:(j:Int)<(l.length:Int):=ae;have IF:(0:Int)<=(j:Int):=ae;have⟨ga',e1,cg,_⟩:=Gj.row hm hs aY;have e2:=e1.symm.trans EGA;injection e2 with e2;injection e2 with e2;subst e2
     have HCJ:=IH (fp ds (xh lv h aL) L) ae wr gS lK l[j] L Gj (Po _<|jf aY) (afb λm q=>by
      by_cases d:D m
      .exact absurd (JJ.up m d).2.2.2.2 q.2
      .have e:m≠h:=λe=>d<|e▸JJ.own;simp only[xh,e,if_false]
       rw[<-JJ.no m d];exact q)
     clear e1;clear Gj;go_wp2_with fail;refine HCJ.mono ?_;rintro e w2⟨rfl,oH,mz,D2,G2,F2,E2,z2,q2⟩;have HG:=ai G2;have HF:=FJ.trans F2;have HE:=EJ.trans E2;have HZ:=z2.trans ZJ;have HJ2:=JJ.step hs (jf aY)<|q2.eqv Gk EJ
     go_wp2
     go_roundg(l.length-(j+1))
     case measure=>rw[uh cR];omega
     case rel=>exact⟨j+1,oH,mz,_,ai rfl,qy aY,iK,uh HG,HF,HE,HZ,by rw[ja aY];exact HJ2⟩
    .have bq:decide ((j:Int)<(l.length:Int))=false:=bB;have ej:j=l.length:=ae;subst ej;rw[jd]at JJ;have HX:=show Ki ds str nx vr ly lv n L w (Rv<|.tuple #[]) wr from⟨rfl,gS,lK,D,Gj,FJ,EJ,ZJ,JJ.done hh hs⟩
     go_wp2
     go_end0;exact HX
def afZ:∀k,ahd ds str vr ly k:=λk=>Nat.strongRecOn k λk ih=>U0 ih
end
section
open Go.ChangeMaps Go.MapKept Un
structure OR l B g(s:jv)cnt(ρ:j5)g'(s':jv)(aB:Nat)(eG:j5):Prop where
 st:iI l g s g' s'
 hd:∀m,m∈g.ds->∀x,Hd g'.nx m x↔Hd g.nx m x
 kk:s'.k=s.k
 ext:∀v n,ρ v=some n->eG v=some n
 cc:cnt<=aB
 uu:∀m,s'.u m->s.u m\/(cnt<m/\m<=aB)
 nw:∀v n,ρ v=none->eG v=some n->¬s.u n
 on:∀v v' n,ρ v=none->eG v=some n->eG v'=some n->v=v'
 Y3:∀n,s'.u n↔s.u n\/∃v,ρ v=none/\eG v=some n
 gC:∀m,m∈g.ds->g'.lv m=g.lv m/\g'.V m=g.V m
 new:∀m,m∈g'.ds->(m∈g.ds/\g'.ly m=g.ly m/\g'.str m=g.str m)\/(B<=m/\∀gg,(g'.ly m).1=some ⟨gg,0,none⟩->B<=gg)
 nl:∀m,m∈g'.ds->¬m∈g.ds->g'.lv m<=l
section
variable {cnt cD:Nat} {ρ2:j5}
def OR.refl(h:JS w g s)l B cnt(ρ:j5):OR l B g s cnt ρ g s cnt ρ:=⟨iI.refl h l,λ_ _ _=>Iff.rfl,rfl,λ_ _ q=>q,br _,λ_ q=>qu q,(λv n q r=>qAw),(λv v' n q r=>qAw),λn=>⟨qu,λq=>q.elim id λ⟨v,q,r⟩=>qAw⟩,λ_ _=>⟨rfl,rfl⟩,λm hm=>qu ⟨hm,rfl,rfl⟩,λm hm q=>absurd hm q⟩
def OR.trans(h:JS w g s)(h1:JS w1 g1 s1)(h2:JS w2 g2 s2)(a:OR l B g s cnt ρ g1 s1 ak my)(b:OR l B' g1 s1 ak my g2 s2 cD ρ2)(hB:B<=B'):OR l B g s cnt ρ g2 s2 cD ρ2 where
 st:=iI.trans h h1 h2 a.st b.st
 hd m hm x:=(b.hd m (a.st.gC m hm).1 x).trans<|a.hd m hm x
 kk:=b.kk.trans a.kk
 ext v n q:=b.ext v n<|a.ext v n q
 cc:=qx a.cc b.cc
 uu m q:=by
  have:=a.cc;have:=b.cc;obtain q|q:=b.uu m q
  .exact(a.uu m q).imp id λr=>ae
  .omega
 nw v n h0 h2:=by
  cases e:my v with
  |none=>exact λq=>b.nw v n e h2 ((a.Y3 n).2<|qu q)|some n'=>
   have:=b.ext v n' e;rw[h2]at this;injection this with this;subst this;exact a.nw v _ h0 e
 on v v' n h0 h2 Gb:=by
  cases e:my v with
  |none=>exact b.on v v' n e h2 Gb|some n'=>
   have:=b.ext v n' e;rw[h2]at this;injection this with this;subst this
   cases e':my v' with
   |none=>exact(b.on v' v n e' Gb h2).symm|some n''=>
    have:=b.ext v' n'' e';rw[Gb]at this;injection this with this;subst this;exact a.on v v' _ h0 e e'
 Y3 n:=by
  rw[b.Y3 n,a.Y3 n];constructor
  .rintro((q|⟨v,q,r⟩)|⟨v,q,r⟩)
   .exact qu q
   .exact qv ⟨v,q,b.ext v n r⟩
   .refine qv ⟨v,?_,r⟩
    cases e:ρ v with
    |none=>rfl|some n'=>rw[a.ext v n' e]at q;cases q
  .rintro(q|⟨v,q,r⟩)
   .grind
   .cases e:my v with
    |none=>grind|some n'=>
     have:=b.ext v n' e;rw[r]at this;injection this with this;subst this;exact qu<|qv ⟨v,q,e⟩
 gC m hm:=⟨(b.gC m (a.st.gC m hm).1).1.trans (a.gC m hm).1,(b.gC m (a.st.gC m hm).1).2.trans (a.gC m hm).2⟩
 new m hm:=by
  obtain⟨q1,q2,q3⟩|⟨q1,q2⟩:=b.new m hm
  .obtain⟨r1,r2,r3⟩|⟨r1,r2⟩:=a.new m q1
   .grind
   .grind
  .grind
 nl m hm q:=by
  by_cases q1:m∈g1.ds
  .rw[(b.gC m q1).1];exact a.nl m q1 q
  .exact b.nl m hm q1
end
section
variable {c:JC} {cnt:Nat}
def OR.used(a:OR l B g s cnt ρ g1 s1 ak my)(h:∀n,s.u n->us cnt n):∀n,s1.u n->us ak n:=λn q=>by
 have:=a.cc;obtain q|q:=a.uu n q
 .have:=h n q;rw[us]at this⊢;omega
 .rw[us];omega
def OR.Ep(a:OR l B' g s cnt ρ g1 s1 ak my)(h:B<=B'):OR l B g s cnt ρ g1 s1 ak my:={a with new:=λm hm=>(a.new m hm).imp id λq=>⟨ae,λgg e=>by have:=q.2 gg e;omega⟩}
def JS.one(h:JS w g s)(o:One b w w')(h1:¬b∈g.ds)(h4:∀m∈g.ds,∀c l gg,g.str m=some (c,l)->l≠[]->(g.ly m).1=some ⟨gg,0,none⟩->gg≠b):JS w' g s:=⟨h.gl.one o h1 h4,h.mF,h.inj,h.can,h.lc,h.val,h.use,h.ok⟩
def JE.one(h:JE w c nb l cnt)(o:One b w w')(h1:c.fV<=b)(h2:c.eb<b)(h3:c.cb<b)(h4:c.rb<b)(h5:c.mb<b):JE w' c nb l cnt:=
 ⟨h.bx.same (qz o.size.symm)<|o.block c.eb ae,h.ct.same (qz o.size.symm)<|o.block c.cb ae,h.rs.same<|o.block _ ae,h.ms.move (qz o.size.symm) (o.block _ ae) (λb' p _=>o.block _ (by have:=p.2;omega))<|λ_ p _=>p,⟨h.z.1,h.z.2.1,by rw[o.size];exact h.z.2.2⟩⟩
def JS.ahf(h:JS w g s)(hm:m∈g.ds){k}{gg}(hs:g.str m=some (k,ps))(hl:ps≠[])(hg:(g.ly m).1=some ⟨gg,0,none⟩):gg<w.heap.size:=by
 have⟨ga,q1,q2,_⟩:=h.gl.row hm hs<|List.length_pos_iff.2 hl;rw[hg]at q1;injection q1 with q1;injection q1 with q1;subst q1;exact eY q2
def Rx{p:Prop}(h:p:=by
 exact qu ⟨(List.mem_cons.1 hm).resolve_left e,by simp[xh,e],by simp[xh,e]⟩):p:=h
def OR.add(h:JS w g s){n:Nat}(hn:B<=n)(nd:¬n∈g.ds){q:BA×List Nat}{a:Option Addr×Nat}{T:Ty}(ha:∀gg,a.1=some ⟨gg,0,none⟩->B<=gg):OR l B g s cnt ρ (g.add n (some q) 0 a l T) s cnt ρ where
 st:=iI.add h nd rfl (λe=>by cases e)
 hd _ _ _:=Iff.rfl
 kk:=rfl
 ext _ _ q:=q
 cc:=br _
 uu _ q:=qu q
 nw v n q r:=qAw
 on v v' n q r:=qAw
 Y3 n:=⟨qu,λq=>q.elim id λ⟨v,q,r⟩=>qAw⟩
 gC m hm:=by
  have e:m≠n:=λe=>nd<|e▸hm;simp[xh,e]
 new m hm:=by
  by_cases e:m=n
  .subst e;exact qv ⟨hn,λgg q=>ha gg<|by simpa[xh]using q⟩
  .exact Rx
 nl m hm q:=by
  rw[(List.mem_cons.1 hm).resolve_right q];simp[xh]
end
structure OKs(c:JC)l Kb(Tb:Nat->Prop)(K:World->fW->jv->Nat->j5->Prop):Prop where
 af:∀w w' g s cnt ρ,K w g s cnt ρ->Bq w w'->K w' g s cnt ρ
 one:∀w w' g s cnt ρ b,K w g s cnt ρ->One b w w'->Kb<=b->K w' g s cnt ρ
 add:∀w g s cnt ρ n q v a T,K w g s cnt ρ->¬n∈g.ds->K w (g.add n (some q) v a l T) s cnt ρ
 tb:∀b,Tb b->b<Kb
def Kj c nb l(Tb:Nat->Prop)(K:World->fW->jv->Nat->j5->Prop)g(s:jv)cnt(ρ:j5)T w(e:Ending)w':=
 ∃n g' s' aB eG,e=.returned (nA n)/\JE w' c nb l aB/\JS w' g' s'/\K w' g' s' aB eG/\OR l w.heap.size g s cnt ρ g' s' aB eG/\n∈g'.ds/\g'.V n=sub s.k (sub (jy eG) T)/\(∀x,Hd g'.nx n x->g'.lv x<=l)/\(∀v,(aD v T->eG v≠none)/\(¬aD v T->eG v=ρ v))/\aB<=cnt+size T/\Fr (λb=>b=c.cb\/Tb b) w w'
def OfJ c nb l Kb Tb(K:World->fW->jv->Nat->j5->Prop)F(A:Nat->Prop)T:=∀(w:World)(g:fW)(s:jv)(cnt:Nat)(ρ:j5)(Q:Nat->Prop)(v:Value),JE w c nb l cnt->JS w g s->(∀n,s.u n->us cnt n)->K w g s cnt ρ->Kb<=w.heap.size->dB w Q T v->(∀b,Q b->b≠c.cb/\¬Tb b)->size T<=1000->(∀n,aD n T->A n)->cnt+size T<=900000->Cq 55 #[v,Nv l,F] w (Kj c nb l Tb K g s cnt ρ T w)
def ajT c nb l(Tb:Nat->Prop)(K:World->fW->jv->Nat->j5->Prop)g(s:jv)cnt(ρ:j5)k(L:List Ty)sa sc w gk v wr:=
 ∃(j:Nat)(C:Array Value)(g':fW)(s':jv)(aB:Nat)(eG:j5)(ps:List Nat),Hid (gk=L.length-j)/\j<=L.length/\v=Nv j/\JE wr c nb l aB/\JS wr g' s'/\K wr g' s' aB eG/\OR l (w.heap.size+2) g s cnt ρ g' s' aB eG/\Fr (λb=>b=c.cb\/Tb b) w wr/\Bx wr w.heap.size #[.string<|pn k,.slice sa L.length sc]/\Bx wr (w.heap.size+1) C/\Hid (C.size=L.length)/\
  Hid (ps.length=j/\(∀m,m∈ps->m∈g'.ds/\∀x,Hd g'.nx m x->g'.lv x<=l)/\ps.map g'.V=(L.take j).map (λt=>sub s.k<|sub (jy eG) t)/\(∀i(h:i<ps.length),C[i]? =some (nA ps[i]))/\(∀v,((∃t,t∈L.take j/\aD v t)->eG v≠none)/\((∀t,t∈L.take j->¬aD v t)->eG v=ρ v))/\aB<=cnt+ah (L.take j))
def uX:∀a b:List Ty,ah (a++b)=ah a+ah b
 |[],b=>by simp[ah]|t::a,b=>by simp only[List.cons_append,ah,uX a b];omega
def Ay L(h:j<L.length):ah (L.take<|j+1)=ah (L.take j)+size L[j]/\ah (L.take<|j+1)<=ah L:=by
 have e:ah (L.take<|j+1)=ah (L.take j)+size L[j]:=by rw[ja h,uX];simp[ah]
 refine⟨e,?_⟩;have:ah (L.take<|j+1)+ah (L.drop<|j+1)=ah L:=by rw[<-uX,jl]
 omega
section
variable {c:JC} {Tb:Nat->Prop} {K:World->fW->jv->Nat->j5->Prop} {F:Value} {A:Nat->Prop}
def adB{eG}(hc:∀v,aD v t->ρ v≠none)(he:∀v n,ρ v=some n->eG v=some n):sub (jy ρ) t=sub (jy eG) t:=sub_congr t λv o=>by
 unfold jy
 cases e:ρ v with
 |none=>exact absurd e (hc v o)|some n=>rw[he v n e]
def Ry{p:Prop}(h:p:=by
 refine js2.one oc (λq=>?_)<|λy hy c' l' gg e1 e2 e3 e4=>?_
 .obtain⟨q,_⟩|⟨q,_⟩:=or3.new _ q
  .have:=js.lt q;omega
  .omega
 .obtain⟨q1,q2,q3⟩|⟨q1,q2⟩:=or3.new y hy
  .have:=js.ahf q1 (q3▸e1) e2<|q2▸e3;omega
  .have:=q2 gg e3;omega):p:=h
def Rz{p:Prop}(h:p:=by
 intro y hy;obtain q|q:=List.mem_append.1 hy
 .obtain⟨r1,r2⟩:=x2 y q;refine⟨(LY.st.gC y r1).1,λx k=>?_⟩;have k:=(LY.hd y r1 x).1 k;rw[(LY.gC x<|lL.gl.bI r1 k).1];exact r2 x k
 .simp at q;subst q;exact⟨hm,yJ⟩):p:=h
def RA{p:Prop}(h:p:=by
 intro i hi;by_cases e:i<j
 .rw[Array.getElem?_setIfInBounds_ne ae,x4 i ae,List.getElem_append_left ae]
 .have e:i=j:=Gd;subst e;rw[List.getElem_append_right ae]
  simp[rG,x1]):p:=h
def RB{p:Prop}(h:p:=by
 cases e:my v with
 |none=>exact absurd e this|some n=>rw[LY.ext v n e];simp):p:=h
def aat(hF:F=.nilFunc\/∃fn cap,F=.func fn #[] cap)(hK:OKs c l Kb Tb K)k L(IH:∀i(h:i<L.length),OfJ c nb l Kb Tb K F A L[i]):OfJ c nb l Kb Tb K F A (.aJ k L):=by
 intro w g s cnt ρ Q v je js HU hk0 hkb hv hQ hs HA amt
 cases hv with
 |aJ _ _ sa sc vs yv aM hr=>
 have hL:L.length<=1001:=by have:=uY L;simp[size]at hs;omega
 have dU:ah L<size (.aJ k L):=by simp only[size];omega
 have⟨i0,vC,nJ,lG,jB⟩:=info_parts uZ;have Te:=gT (by_:=8) oW vC nJ rfl lG jB aK L.length hL;have zc:=je.ct.z;have bN:Bq w ((w.alloc<|Cv #[Sv<|pn k,Lv sa L.length sc] 169).alloc<|Cv (Array.replicate L.length<|.pointer none) 116):=(bw _).alloc ag _;have ST:ajT c nb l Tb K g s cnt ρ k L sa sc w L.length (Iv 0) ((w.alloc<|Cv #[Sv<|pn k,Lv sa L.length sc] 169).alloc<|Cv (Array.replicate L.length<|.pointer none) 116):=⟨0,Array.replicate L.length<|.pointer none,g,s,cnt,ρ,[],ai ag,Nat.zero_le _,rfl,je.af bN,js.af bN,hK.af _ _ _ _ _ _ hk0 bN,OR.refl js _ _ _ _,Fr.of bN,(Bx.new w _ _).alloc _,by have:=Bx.new (w.alloc<|Cv #[Sv<|pn k,Lv sa L.length sc] 169) (Array.replicate L.length<|.pointer none) 116;simpa using this,ai ag,ai ⟨rfl,ag,ag,λi hi=>by simp at hi,λv=>⟨ag,λ_=>rfl⟩,by simp[ah]⟩⟩;have HJ:=ai js;have HQ:=ai hQ;have HZ:=And.intro je.z.2.2<|And.intro je.bx.z<|And.intro je.ct.z<|And.intro je.rs.lt je.ms.lt;go_enter func55,ntmps55
 go_wp2
 go_loopg[29] L.length (λgk v wr=>ajT c nb l Tb K g s cnt ρ k L sa sc w gk v wr)
 case atStart=>exact ST
 case round=>
  obtain⟨j,C,g1,s1,ak,my,ps,cR,hj,rfl,Dk,lL,k1,rO,F1,HB0,B1,hC,hT⟩:=hrel;have zw:=F1.size;have zb:=B1.z;by_cases aY:j<L.length
  .have hd:(j:Int)<(L.length:Int):=ae;obtain⟨gg,rfl,hg,iP,bM⟩:∃g,sa=some ⟨g,0,none⟩/\Q g/\g<w.heap.size/\∀i,i<L.length->w.cell? ⟨g,i,none⟩=some (vs i):=by
    obtain h0|h0:=aM
    .subst h0;simp at aY
    .exact h0
   have hQ:=uh HQ;have cg:wr.cell? ⟨gg,j,none⟩=some (vs j):=by
    rw[xg (a:=⟨gg,j,none⟩) (w:=w)<|F1.block gg iP<|λq=>q.elim (hQ gg hg).1 (hQ gg hg).2];exact bM j aY
   have PJ:=(hr j aY).fr F1<|λb p _ q=>q.elim (hQ b p).1 (hQ b p).2;have⟨tv,xv,hv⟩:=PJ.iface;have⟨x1,x2,x3,x4,x5,x6⟩:=uh hT;have⟨y1,y2⟩:=Ay L aY;have HC:=IH j aY wr g1 s1 ak my Q (vs j) Dk lL (rO.used HU) k1 ae PJ hQ ae (λn o=>HA n (by simp only[aD];exact(mA _ _).2 ⟨_,jf aY,o⟩)) ae;rw[hv]at cg HC;have HJ1:=ai lL;have HO1:=ai rO;have Bp:=ai F1;have dq:=ai B1;go_wp2_with fail;refine HC.mono ?_;rintro e w1⟨m,g2,s2,cD,ρ2,rfl,je2,js2,k2,LY,hm,hV,yJ,Fo,Az,F2⟩;have nmr:∀b,w.heap.size<=b->¬(b=c.cb\/Tb b):=λb hb q=>q.elim (λq=>ae) (λq=>by have:=hK.tb b q;omega);have B2:=dq.fr F2<|nmr _ ae;have B02:=HB0.fr F2<|nmr _ ae;have rG:j<C.size:=qBh;have cj:=(B2.c j).trans<|xw rG;have fj:=B2.f j;have B3:=B2.aP j (nA m) (C.setIfInBounds j<|nA m) rfl rG;have B03:=B02.bO (b2:=w.heap.size+1) ae j<|nA m;have I8:=HO1.trans HJ HJ1 js2 LY ae;have HX:=xf je2<|xf js2<|xf k2<|xf LY<|xf hm<|xf hV<|xf yJ<|xf Fo Az;have xF:=Bp.trans F2;have z2:=F2.size
   go_wp2
   go_roundg(L.length-(j+1))
   case measure=>rw[uh cR];omega
   case rel=>
    have⟨x1,x2,x3,x4,x5,x6⟩:=uh hT;obtain⟨je2,js2,k2,LY,hm,hV,yJ,Fo,Az⟩:=HX;have or3:=I8;have lL:=uh HJ1;have js:=uh HJ;have oc:=One.cell w1 (w.heap.size+1) j<|nA m;obtain⟨u1,u2,u3,u4,u5⟩:=HZ;refine⟨j+1,C.setIfInBounds j<|nA m,g2,s2,cD,ρ2,ps++[m],ai rfl,ae,iK,je2.one oc ae ae ae ae ae,?_,hK.one _ _ _ _ _ _ _ k2 oc ae,or3,xF.set (qv ae) j _,B03,B3,ai (by simp;exact hC),ai ⟨by simp[x1],?_,?_,?_,?_,ae⟩⟩
    .exact Ry
    .exact Rz
    .rw[jh,ja aY,jh];have e1:=dD λp hp=>(LY.gC p (x2 p hp).1).2;have e2:(L.take j).map (λt=>sub s.k<|sub (jy my) t)=(L.take j).map (λt=>sub s.k<|sub (jy ρ2) t):=jq λt ht=>by rw[adB (λv o=>(x5 v).1 ⟨t,ht,o⟩) LY.ext]
     rw[e1,x3,e2];have:=HO1.kk;simp[hV,this]
    .exact RA
    .intro v;rw[ja aY];refine⟨?_,λq=>?_⟩
     .rintro⟨t,ht,o⟩;obtain q|q:=List.mem_append.1 ht
      .have:=(x5 v).1 ⟨t,q,o⟩;exact RB
      .simp at q;subst q;exact(Fo v).1 o
     .rw[(Fo v).2<|q _<|jm _<|List.mem_singleton.2 rfl,(x5 v).2 λt ht=>q t<|jo _ ht]
  .have hd:decide ((j:Int)<(L.length:Int))=false:=bB;have ej:j=L.length:=ae;subst ej;have c0:=HB0.c 0;have HX:=xf Dk<|xf lL<|xf k1<|xf rO<|xf F1<|xf B1 hT;go_wp2_with fail;refine(Fm (w:=wr) (pn k) (l:Int) (some ⟨w.heap.size+1,0,none⟩) L.length L.length).mono ?_;rintro e w3⟨rfl,rfl⟩
   go_wp2
   go_ret;obtain⟨Dk,lL,k1,rO,F1,B1,x1,x2,x3,x4,x5,x6⟩:=HX;simp only[jd]at x3 x5 x6;have b_:Bq wr (wr.alloc<|Cv #[.pointer none,Nv l,Iv 0,Sv<|pn k,Lv (some ⟨w.heap.size+1,0,none⟩) L.length L.length] 187):=bw _;have xS:=B1.alloc<|Cv #[.pointer none,Nv l,Iv 0,Sv<|pn k,Lv (some ⟨w.heap.size+1,0,none⟩) L.length L.length] 187;have hz:¬wr.heap.size∈g1.ds:=λq=>by have:=lL.lt q;omega
   have U6:¬(w.heap.size+1)∈g1.ds:=λq=>by
    obtain⟨q,_⟩|⟨q,_⟩:=rO.new _ q
    .have:=HJ.lt q;omega
    .omega
   have js3:=lL.aau b_ (n:=wr.heap.size) (l:=l) (c:=k) (ps:=ps) (a:=(some ⟨w.heap.size+1,0,none⟩,L.length)) (br _) yv ae x2 (qv ⟨w.heap.size+1,rfl,(λq=>by
    obtain q|q:=List.mem_cons.1 q
    .omega
    .exact U6 q),xS.z,λi hi=>(xS.c i).trans<|x4 i hi⟩) (by rw[x1];exact(xy wr _).1)
   have or3:OR l w.heap.size g1 s1 ak my (g1.add wr.heap.size (some (k,ps)) 0 (some ⟨w.heap.size+1,0,none⟩,L.length) l<|.aJ k<|ps.map g1.V) s1 ak my:=OR.add lL ae hz (λgg e=>by injection e with e;injection e with e;omega);refine⟨wr.heap.size,_,s1,ak,my,rfl,Dk.af b_,js3,hK.add _ _ _ _ _ _ _ _ _ _ (hK.af _ _ _ _ _ _ k1 b_) hz,(rO.Ep ae).trans HJ lL js3 or3<|br _,ag,?_,λx q=>?_,λv=>?_,ae,F1.trans<|Fr.of b_⟩
   .simp only[xh,if_true,sub,ij,x3,ju];rfl
   .have:x=wr.heap.size:=q.one<|.here (lL.gl.out _ hz).1;subst this;simp[xh]
   .simp only[aD];rw[mA];exact⟨(x5 v).1,λq=>(x5 v).2 λt h1 h2=>q ⟨t,h1,h2⟩⟩
end
abbrev anV(kb jb:Nat):Value:=.func (.func 398) #[] #[Pv kb,Pv jb]
structure rP(c:JC)l kb jb mb w(g:fW)(s:jv)(cnt:Nat)(ρ:j5):Prop where
 bk:Bx w kb #[Mv mb]
 bj:Bx w jb #[Pv c.eb]
 mp:∃L:List (Int×Value),MS (λn:Int=>Iv n) w mb L/\∀v:Nat,(ρ v=none/\aX (v:Int) L=none)\/∃n m,ρ v=some n/\aX (v:Int) L=some (nA m)/\m∈g.ds/\g.str m=none/\g.vr m=n/\∀x,Hd g.nx m x->g.lv x<=l
 far:c.fV<=mb/\c.eb<mb/\c.cb<mb/\c.rb<mb/\c.mb<mb
section
variable {c:JC} {cnt:Nat}
def RC{p:Prop}(h:p:=by
 refine⟨n',m,r1,r2,jc _ r3,by simp[xh,e,r4],by simp[xh,e,r5],λx k=>?_⟩;by_cases ex:x=n
 .simp[xh,ex]
 .simp only[xh,ex,if_false];exact r6 x k):p:=h
def rP.ks(hk:kb<Kb)(hj:jb<Kb)(hm:mb<Kb):OKs c l Kb (λb=>b=mb) (rP c l kb jb mb) where
 af w w' g s cnt ρ h hb:=by
  have⟨L,h1,h2⟩:=h.mp;exact⟨h.bk.below hb,h.bj.below hb,⟨L,h1.below hb,h2⟩,h.far⟩
 one w w' g s cnt ρ b h o hb:=by
  have⟨L,h1,h2⟩:=h.mp;exact⟨h.bk.same (qz o.size.symm)<|o.block kb ae,h.bj.same (qz o.size.symm)<|o.block jb ae,⟨L,h1.one o ae,h2⟩,h.far⟩
 add w g s cnt ρ n q v a T h hn:=by
  have⟨L,h1,h2⟩:=h.mp;refine⟨h.bk,h.bj,⟨L,h1,λv=>(h2 v).imp id ?_⟩,h.far⟩;rintro⟨n',m,r1,r2,r3,r4,r5,r6⟩;have e:m≠n:=λe=>hn<|e▸r3;exact RC
 tb b e:=ae
def JS.M6(h:JS w g s)(hm:m∈g.ds)(hs:g.str m=none):g.V m=s.k (g.vr m):=h.val m hm hs
def JS.ni(h:JS w g s)[DecidableEq κ]{enc}{L:List (κ×Value)}(hm:MS enc w b L):¬b∈g.ds/\∀m∈g.ds,∀c l gg,g.str m=some (c,l)->l≠[]->(g.ly m).1=some ⟨gg,0,none⟩->gg≠b:=by
 refine⟨λq=>?_,λm Ol c l gg hs hl hg e=>?_⟩
 .have⟨p,hp⟩:=h.gl.qE q;rw[hm.nj 0]at hp
  cases hp
 .have⟨ga,q1,q2,_⟩:=h.gl.row Ol hs<|List.length_pos_iff.2 hl;rw[hg]at q1;injection q1 with q1;injection q1 with q1;subst q1;rw[e,hm.nj _]at q2
  cases q2
def OR.var(h:JS w g s){v}(hn:B<=n)(nd:¬n∈g.ds)(hu:∀n,s.u n->us cnt n)(hv:ρ v=none)(hr:∀y n',ρ y=some n'->s.u n'):OR l B g s cnt ρ (g.add n none (cnt+1) (none,0) l<|.var<|cnt+1) ⟨s.k,λm=>s.u m\/m=cnt+1⟩ (cnt+1) (λy=>if y=v then some (cnt+1)else ρ y):=by
 have hnu:¬s.u (cnt+1):=λq=>by have:=hu _ q;rw[us]at this;omega
 have hor:∀y n',ρ y=some n'->y≠v:=λy n' q e=>by rw[e,hv]at q;cases q
 refine⟨iI.add h nd rfl (λ_=>br _),λ_ _ _=>Iff.rfl,rfl,λy n' q=>by simp[hor y n' q,q],ae,λm q=>q.imp id λe=>ae,λy n' h0 h1=>?_,λy y' n' h0 h1 h2=>?_,λn'=>⟨?_,?_⟩,λm hm=>?_,λm hm=>?_,λm hm q=>by rw[(List.mem_cons.1 hm).resolve_right q];simp[xh]⟩
 .grind
 .grind
 .grind
 .grind
 .have e:m≠n:=λe=>nd<|e▸hm;simp[xh,e]
 .by_cases e:m=n
  .subst e;exact qv ⟨hn,λgg q=>by simp[xh]at q⟩
  .exact Rx
def rP.rng(h:rP c l kb jb mb w g s cnt ρ)(j:JS w g s):∀y n',ρ y=some n'->s.u n':=λy n' q=>by
 have⟨L,h1,h2⟩:=h.mp;obtain⟨r,_⟩|⟨n,m,r1,r2,r3,r4,r5,r6⟩:=h2 y
 .rw[r]at q;cases q
 .rw[r1]at q;injection q with q;subst q;rw[<-r5];exact j.use m r3 r4
def adC(h:JE w c nb l cnt)(j:JS w g s)(hu:∀n,s.u n->us cnt n)(ha:rP c l kb jb mb w g s cnt ρ)v(hc:cnt+1<=900000):Cq 398 #[Nv v,Pv kb,Pv jb] w (Kj c nb l (λb=>b=mb) (rP c l kb jb mb) g s cnt ρ (.var v) w):=by
 have⟨L,HM,HL⟩:=ha.mp;have hl:=HM.look (KL.num Tryz.underlying98) Tryz.underlying179 (sQ w) (v:Int) trivial (λ_ _=>trivial) true;have pi:=ha.bk.c 0;have hcj:=ha.bj.c 0;have hkm:kb≠mb:=λe=>by have:=HM.nj 0;rw[<-e,pi]at this;cases this
 have hjm:jb≠mb:=λe=>by have:=HM.nj 0;rw[<-e,hcj]at this;cases this
 have Ga:c.cb≠mb:=by have:=ha.far.2.2.1;omega
 obtain⟨HR,q⟩|⟨n,m,r1,r2,r3,r4,r5,r6⟩:=HL v
 .rw[q]at hl;simp at hl;have hkc:kb≠c.cb:=λe=>by have:=h.ct.c 0;rw[<-e,pi]at this;simp at this
  have hjc:jb≠c.cb:=λe=>by have:=h.ct.c 0;rw[<-e,hcj]at this;simp at this
  have HV:=oG h j hu ae;have HA:=ai ha;have HJ:=ai j;go_enter func398,ntmps398;go_wp2_with fail;refine HV.mono ?_;rintro e w1⟨n,rfl,hn,Dk,lL,F1⟩;have hc1:=(HA.bk.fr F1 hkc).c 0;have BK1:=HA.bk.fr F1 hkc;have BJ1:=HA.bj.fr F1 hjc;have HM1:=HM.same<|F1.block mb HM.lt<|λe=>Ga e.symm;have HX:=And.intro Dk<|And.intro lL F1;go_wp2_with(refine aT _ rfl _ _ _ _ (Or.inr rfl) (KL.num Tryz.underlying98) Tryz.underlying179 _ _ rfl HM1 (v:Int) (nA n) rfl rfl trivial (λ_ _=>trivial) ?_;intro w' H' O';have Bc:=ai H';have O2:=ai O';clear H' O');go_ret;obtain⟨Dk,lL,F1⟩:=HX;have O:=uh O2;have j:=uh HJ;have nd:¬n∈g.ds:=λq=>by have:=j.lt q;omega
  have ha:=uh HA;have⟨f1,f2,f3,f4,f5⟩:=ha.far;have⟨n1,n2⟩:=lL.ni HM1;refine⟨n,_,_,cnt+1,_,rfl,Dk.one O f1 f2 f3 f4 f5,lL.one O n1 n2,⟨BK1.same (qz O.size.symm)<|O.block kb hkm,BJ1.same (qz O.size.symm)<|O.block jb hjm,⟨_,Bc,λy=>?_⟩,ha.far⟩,OR.var j (v:=v) hn nd hu HR<|ha.rng j,ag,?_,λx k=>?_,λy=>⟨λo=>?_,λo=>?_⟩,by simp[size],?_⟩
  .rw[aO];by_cases e:y=v
   .subst e;refine qv ⟨cnt+1,n,ag,ag,ag,MI,MI,λx k=>?_⟩;have:x=n:=k.one<|.here (j.gl.out _ nd).1;subst this;simp[xh]
   .have e':¬(v:Int)=(y:Int):=ae;simp only[e,e',if_false];refine(HL y).imp id ?_;rintro⟨n',m,r1,r2,r3,r4,r5,r6⟩;have e:m≠n:=λe=>nd<|e▸r3;exact RC
  .have hnu:¬s.u (cnt+1):=λq=>by have:=hu _ q;rw[us]at this;omega
   simp[xh,sub,jy,j.ok.out _ hnu]
  .have:x=n:=k.one<|.here (j.gl.out _ nd).1;subst this;simp[xh]
  .simp only[aD]at o;subst o;simp
  .simp only[aD]at o;simp[zd o]
  .exact⟨O.os.trans F1.os,O.tape.trans F1.tape,O.output.trans F1.output,by rw[O.size];exact F1.size,λk hk hn=>(O.block k<|λe=>hn<|qv e).trans<|F1.block k hk<|λe=>hn<|qu e⟩
 .rw[r2]at hl;simp at hl;have HX:=show Kj c nb l (λb=>b=mb) (rP c l kb jb mb) g s cnt ρ (.var v) w (Rv<|nA m) w from⟨m,g,s,cnt,ρ,rfl,h,j,ha,OR.refl j _ _ _ _,r3,by simp[sub,In.via,r1,j.M6 r3 r4,r5],r6,λy=>⟨λo=>by simp only[aD]at o;subst o;simp[r1],λ_=>rfl⟩,ae,Fr.refl _ _⟩;go_enter func398,ntmps398
  go_wp2
  go_ret;exact HX
end
section
variable {c:JC} {cnt:Nat}
def ahg n:OfJ c nb l Kb (λb=>b=mb) (rP c l kb jb mb) (anV kb jb) (λ_=>True) (.var n):=by
 intro w g s cnt ρ Q v je js hu hk0 hkb hv hQ hs hA yv
 cases hv
 have HC:=adC je js hu hk0 n (by simpa[size]using yv);go_enter func55,ntmps55;go_wp2_with fail;refine HC.mono ?_;rintro e w1⟨m,g',s',aB,eG,rfl,r⟩
 go_wp2
 go_ret;exact⟨m,g',s',aB,eG,rfl,r⟩
mutual
def RE(hk:kb<Kb)(hj:jb<Kb)(hm:mb<Kb):∀T:Ty,OfJ c nb l Kb (λb=>b=mb) (rP c l kb jb mb) (anV kb jb) (λ_=>True) T
 |.var n=>ahg n|.aJ k L=>aat (qv ⟨_,_,rfl⟩) (rP.ks hk hj hm) k L<|afd hk hj hm L
def afd(hk:kb<Kb)(hj:jb<Kb)(hm:mb<Kb):∀(L:List Ty)(i:Nat)(h:i<L.length),OfJ c nb l Kb (λb=>b=mb) (rP c l kb jb mb) (anV kb jb) (λ_=>True) L[i]
 |[],i,h=>absurd h (xc _)|t::L,0,h=>RE hk hj hm t|t::L,i+1,h=>afd hk hj hm L i<|Nat.lt_of_succ_lt_succ h
end
abbrev noK:World->fW->jv->Nat->j5->Prop:=λ_ _ _ _ _=>True
def alr:OKs c l 0 (λ_=>False) noK:=⟨λ_ _ _ _ _ _ _ _=>trivial,λ_ _ _ _ _ _ _ _ _ _=>trivial,λ_ _ _ _ _ _ _ _ _ _ _ _=>trivial,λ_ h=>h.elim⟩
mutual
def afe:∀T:Ty,OfJ c nb l 0 (λ_=>False) noK .nilFunc (λ_=>False) T
 |.var n=>λw g s cnt ρ Q v _ _ _ _ _ _ _ _ hA _=>(hA n rfl).elim|.aJ k L=>aat (qu rfl) alr k L<|aff L
def aff:∀(L:List Ty)(i:Nat)(h:i<L.length),OfJ c nb l 0 (λ_=>False) noK .nilFunc (λ_=>False) L[i]
 |[],i,h=>absurd h (xc _)|t::L,0,h=>afe t|t::L,i+1,h=>aff L i<|Nat.lt_of_succ_lt_succ h
end
def ajU c nb l g(s:jv)cnt T w(e:Ending)w':=
 ∃n g' aB,e=.returned (nA n)/\JE w' c nb l aB/\JS w' g' s/\OR l w.heap.size g s cnt qp g' s aB qp/\n∈g'.ds/\g'.V n=T/\(∀x,Hd g'.nx n x->g'.lv x<=l)/\aB<=cnt+size T/\Fr (λb=>b=c.cb) w w'
def als (hT:∀v,¬aD v T) (h:Kj c nb l (λ_=>False) noK g s cnt qp T w e w'):ajU c nb l g s cnt T w e w':=by
 obtain ⟨n,g',s',aB,eG,rfl,h1,h2,_,h4,h5,h6,h7,h8,h9,h10⟩:=h;have hρ:=funext λv=>(h8 v).2 (hT v);subst hρ;have hs:s'=s:=by
  obtain ⟨k',u'⟩:=s';obtain ⟨k,u⟩:=s;have e1:k'=k:=h4.kk;have e2:u'=u:=funext λn=>propext ⟨λq=>((h4.Y3 n).1 q).elim id (λ⟨v,_,r⟩=>nomatch r),λq=>(h4.Y3 n).2 (qu q)⟩;rw [e1,e2]
 subst hs;refine ⟨n,g',aB,rfl,h1,h2,h4,h5,?_,h7,h9,h10.fV λb q=>q.elim id False.elim⟩;rw [h6,qg (t:=T) λv o=>(hT v o).elim,qg λv o=>(hT v o).elim]
def acT(h:JE w c nb l cnt)(j:JS w g s)(hu:∀n,s.u n->us cnt n)(hv:dB w Q T v)(hQ:∀b,Q b->b≠c.cb)(hs:size T<=1000)(hT:∀n,¬aD n T)(hc:cnt+size T<=900000):Cq 379 #[Pv c.eb,v] w (ajU c nb l g s cnt T w):=by
 have f1:=h.bx.c 4;have HC:=afe T w g s cnt In.Qo Q v h j hu trivial (Nat.zero_le _) hv (λb q=>⟨hQ b q,id⟩) hs (λn o=>hT n o) hc;obtain⟨tv,xv,rfl⟩:=hv.iface;go_enter func379,ntmps379;go_wp2_with fail;refine HC.mono ?_;rintro e w1 r;have r':=als hT r;obtain⟨n,g',aB,rfl,R⟩:=r'
 go_wp2
 go_ret;exact⟨n,g',aB,rfl,R⟩
def RG(h:JE w c nb l cnt)(g:fW)(s:jv):Cq 386 #[Pv c.eb] w λe w'=>∃kb jb mb,e=.returned (anV kb jb)/\rP c l kb jb mb w' g s cnt qp/\Bq w w'/\(kb<w'.heap.size/\jb<w'.heap.size/\mb<w'.heap.size)/\w.heap.size<=mb/\w.heap.size<=jb/\w.heap.size<=kb:=by
 have iN:= @run_makeMap Tryz.prog;have HE:=ai h;go_enter func386,ntmps386
 go_wp2
 go_ret;have h:=uh HE;have bN:=(((xi w.heap.size w).alloc (br _)<|Cv #[Pv c.eb] 126).alloc ag<|.map #[] 0).alloc bB<|Cv #[Mv<|w.heap.size+1] 179;have z1:=h.z.2.2;have z2:=h.bx.z;have z3:=h.ct.z;have z4:=h.rs.lt;have z5:=h.ms.lt;refine⟨w.heap.size+1+1,w.heap.size,w.heap.size+1,rfl,⟨?_,?_,⟨[],?_,λv=>qu ⟨rfl,rfl⟩⟩,ae,ae,ae,ae,ae⟩,bN,bB,ae,ae,ae⟩
 .have:=zh ((w.alloc<|Cv #[Pv c.eb] 126).alloc<|.map #[] 0) #[Mv<|w.heap.size+1] 179;simpa using this
 .exact((zh w #[Pv c.eb] 126).alloc _).alloc _
 .have:=(MS.new (λn:Int=>Iv n)<|w.alloc<|Cv #[Pv c.eb] 126).below<|bw<|Cv #[Mv<|w.heap.size+1] 179;simpa using this
def OR.drawn(h:OR l B g s cnt ρ g1 s1 ak my)(hT:∀v,(aD v T->my v≠none)/\(¬aD v T->my v=ρ v)):In.sE T ρ s (.ok ((sub (jy my) T,my),s1)):=by
 refine qv ⟨my,s1,⟨my,s1.u,⟨h.ext,λv q=>(hT v).2 λo=>q<|In.bC.2 o,λv q=>(hT v).1<|In.bC.1 q,h.nw,h.on,h.Y3⟩,?_⟩,rfl⟩;have:=h.kk;obtain⟨k',u'⟩:=s1;simp only at this;rw[this]
end
def Fa(g:fW)l n:=∃S:Nat->Prop,ScD g.str g.ds g.nx S/\(∀x,S x->g.lv x<=l\/g.lv x=aL)/\∀h,Hd g.nx n h->S h
def dQ(g:fW)v:=∃x,g.R v x/\g.lv x=aL
structure uE(E:Nat->Prop)l sb w(g:fW)(s:jv)(ρ:j5)M:Prop where
 ms:MS BS w sb M
 kd:∀p,p∈M->p.1∈g.ds
 gm:∀h v,aX h M=some v->∃m,v=nA m/\m∈g.ds/\g.V m=sub (jy ρ) (g.V h)/\(∀x,Hd g.nx m x->g.lv x<=l)/\∀y,aD y (g.V h)->dQ g y->ρ y≠none
 rn:∀v n,ρ v=some n->s.u n/\∃x,g.R v x/\g.lv x=aL/\(aX x M≠none\/E x)
section
variable {c:JC} {cnt:Nat} {M:List (Nat×Value)}
def uE.any(h:uE E l sb w g s ρ M){v:Nat}(q:ρ v=some n):dQ g v:=by
 have⟨_,x,r,q,_⟩:=h.rn v n q;exact⟨x,r,q⟩
def Fa.mv(h:JS w g s)(h1:JS w1 g1 s1)(o:OR l B g s cnt ρ g1 s1 ak my){L:Nat}(hn:n∈g.ds)(f:Fa g L n):Fa g1 L n:=by
 obtain⟨S,f1,f2,f3⟩:=f;refine⟨λx=>S x/\x∈g.ds,λx hx DT hS k l hs p hp y ky=>?_,λx hx=>by rw[(o.gC x hx.2).1];exact f2 x hx.1,λy ky=>?_⟩
 .have e:=(o.st.gC x hS.2).2.1;rw[e]at hs;have LZ:=(h.gl.part hS.2 hs).2 p hp;have ky':=(o.hd p LZ y).1 ky;exact⟨f1 x hS.2 ((o.hd x hS.2 x).1<|.here DT).head hS.1 k l hs p hp y ky',h.gl.bI LZ ky'⟩
 .have ky':=(o.hd n hn y).1 ky;exact⟨f3 y ky',h.gl.bI hn ky'⟩
def Fa.part{L a:Nat}{k}(f:Fa g L n)(ha:Hd g.nx n a)(had:a∈g.ds)(hs:g.str a=some (k,ps))(hp:p∈ps):Fa g L p:=by
 obtain⟨S,f1,f2,f3⟩:=f;exact⟨S,f1,f2,λy ky=>f1 a had ha.head (f3 a ha) k ps hs p hp y ky⟩
def dQ.back(h:JS w g s)(h1:JS w1 g1 s1)(o:OR l B g s cnt ρ g1 s1 ak my){v:Nat}(hp:p∈g.ds)(hv:aD v (g.V p))(a:dQ g1 v):dQ g v:=by
 obtain⟨x,r,q⟩:=a;have⟨y,r0⟩:=h.Cj hp hv;have⟨b1,b2,b3⟩:=o.st.gC y r0.1;have e:=h1.inj y x b1 r.1 (b2.trans r0.2.2.1) r.2.2.1 (by rw[b3,r0.2.2.2,r.2.2.2]);subst e;exact⟨y,r0,by rw[<-(o.gC y r0.1).1];exact q⟩
def dQ.fwd(h:JS w g s)(o:OR l B g s cnt ρ g1 s1 ak my){v:Nat}(a:dQ g v):dQ g1 v:=by
 obtain⟨x,r,q⟩:=a;have⟨b1,b2,b3⟩:=o.st.gC x r.1;exact⟨x,⟨b1,((o.hd x r.1 x).2<|.here r.2.1).head,b2.trans r.2.2.1,b3.trans r.2.2.2⟩,by rw[(o.gC x r.1).1];exact q⟩
def adD(h:JS w g s)(h1:JS w1 g1 s1)(o:OR l B g s cnt ρ g1 s1 ak my)(hr:∀v n,my v=some n->dQ g1 v)(hp:p∈g.ds)(hc:∀v,aD v (g.V p)->dQ g v->ρ v≠none):sub (jy ρ) (g.V p)=sub (jy my) (g.V p):=sub_congr _ λv ov=>by
 unfold jy
 cases e:ρ v with
 |some n=>rw[o.ext v n e]|none=>
  cases e1:my v with
  |none=>rfl|some n=>exact absurd e<|hc v ov<|dQ.back h h1 o hp ov<|hr v n e1
def ahh(h:JS w g s)(hr:∀v n,ρ v=some n->dQ g v){x}(hn:n∈g.ds)(hx:Hd g.nx n x)(hl:g.lv x<aL):(∀v,aD v (g.V n)->¬dQ g v)/\sub (jy ρ) (g.V n)=g.V n:=by
 have a:∀v,aD v (g.V n)->¬dQ g v:=λv ov⟨y,r,q⟩=>by
  have⟨z,r1,q1⟩:=eZ (lv:=g.lv) h.jg h.can _ n x hn hx (br _) ov;have e:=h.inj z y r1.1 r.1 r1.2.2.1 r.2.2.1<|r1.2.2.2.trans r.2.2.2.symm;subst e;have:=q1 h.lc;omega
 refine⟨a,qg λv ov=>?_⟩;rw[jy]
 cases e:ρ v with
 |none=>rfl|some n=>grind
end
abbrev vrV(c:JC):Value:=.func (.func 382) #[Pv c.eb] #[]
abbrev Kk c l sb:=#[Nv l,vrV c,Mv sb]
def Nq E c nb l sb g(s:jv)cnt(ρ:j5)n w(e:Ending)w':=
 ∃m g' s' aB eG M',e=.returned (nA m)/\JE w' c nb l aB/\JS w' g' s'/\uE E l sb w' g' s' eG M'/\OR l w.heap.size g s cnt ρ g' s' aB eG/\m∈g'.ds/\g'.V m=sub (jy eG) (g.V n)/\(∀x,Hd g'.nx m x->g'.lv x<=l)/\(∀v,aD v (g.V n)->dQ g v->eG v≠none)/\(∀v,ρ v=none->eG v≠none->aD v (g.V n))/\aB<=cnt+size (g.V n)/\Fr (λb=>b=c.cb\/b∈g.ds\/b=sb) w w'
def Us(c:JC)sb:=c.fV<=sb/\c.eb<sb/\c.cb<sb/\c.rb<sb/\c.mb<sb
def adE c nb l sb k:=∀(w:World)(g:fW)(s:jv)(cnt:Nat)(ρ:j5)(M:List (Nat×Value))(n:Nat),JE w c nb l cnt->JS w g s->(∀n,s.u n->us cnt n)->uE (λ_=>False) l sb w g s ρ M->n∈g.ds->Fa g l n->size (g.V n)<=k->cnt+size (g.V n)<=900000->Cq 400 #[.agg<|Kk c l sb,nA n] w (Nq (λ_=>False) c nb l sb g s cnt ρ n w)
def ajV c nb l sb k:=∀(w:World)(g:fW)(s:jv)(cnt:Nat)(ρ:j5)(M:List (Nat×Value))(h:Nat),JE w c nb l cnt->JS w g s->(∀n,s.u n->us cnt n)->uE (λ_=>False) l sb w g s ρ M->h∈g.ds->g.nx h=none->g.lv h=aL->aX h M=none->Fa g l h->size (g.V h)<=k->cnt+size (g.V h)<=900000->Cq 402 #[.agg<|Kk c l sb,nA h] w (Nq (λx=>x=h) c nb l sb g s cnt ρ h w)
section
variable {c:JC} {cnt:Nat} {M:List (Nat×Value)}
def OR.eqv{bi:Nx}(h:JS w g s)(e:iD g.str g.nx bi)(hg:GL w' g.ds g.str bi g.vr g.ly g.lv)(B:Nat):OR l B g s cnt ρ {g with nx:=bi} s cnt ρ where
 st:=iI.eqv h e hg l
 hd m _ x:=⟨e.back h.gl,e.jN m x⟩
 kk:=rfl
 ext _ _ q:=q
 cc:=br _
 uu _ q:=qu q
 nw v n q r:=qAw
 on v v' n q r:=qAw
 Y3 n:=⟨qu,λq=>q.elim id λ⟨v,q,r⟩=>qAw⟩
 gC m _:=⟨rfl,rfl⟩
 new m hm:=qu ⟨hm,rfl,rfl⟩
 nl m hm q:=absurd hm q
def uE.eqv(h:uE E l sb w g s ρ M)(j:JS w g s)(e:iD g.str g.nx bi)(hms:MS BS w' sb M):uE E l sb w' {g with nx:=bi} s ρ M where
 ms:=hms
 kd:=h.kd
 gm y v q:=by
  have⟨m,r1,r2,r3,r4,r5⟩:=h.gm y v q;exact⟨m,r1,r2,r3,λx k=>r4 x<|e.back j.gl k,λz oz⟨x,⟨a1,a2,a3,a4⟩,b⟩=>r5 z oz ⟨x,⟨a1,(e.Bf x).1 a2,a3,a4⟩,b⟩⟩
 rn v n q:=by
  have⟨q1,x,⟨a1,a2,a3,a4⟩,q2,q3⟩:=h.rn v n q;exact⟨q1,x,⟨a1,(e.Bf x).2 a2,a3,a4⟩,q2,q3⟩
def uE.put{a:Nat}(h:uE (λx=>x=a) l sb w g s ρ M)(hms:MS BS w' sb (bD a (nA m) M))(ha:a∈g.ds)(hm:m∈g.ds)(hV:g.V m=sub (jy ρ) (g.V a))(hl:∀x,Hd g.nx m x->g.lv x<=l)(ho:∀y,aD y (g.V a)->dQ g y->ρ y≠none):uE (λ_=>False) l sb w' g s ρ (bD a (nA m) M) where
 ms:=hms
 kd p hp:=by
  have:aX p.1 (bD a (nA m) M)≠none:=λq=>by
   have:=(r9 (x:=p.1) (L:=bD a (nA m) M)).2<|jp hp;rw[q]at this
   cases this
  rw[aO]at this;split at this
  .rename_i e;rw[<-e];exact ha
  .cases e:aX p.1 M with
   |none=>exact absurd e this|some v=>exact h.kd (p.1,v)<|pq e
 gm y v q:=by
  rw[aO]at q;split at q
  .rename_i e;subst e;injection q with q;exact⟨m,q.symm,hm,hV,hl,ho⟩
  .exact h.gm y v q
 rn v n q:=by
  have⟨q1,x,r,q2,q3⟩:=h.rn v n q;refine⟨q1,x,r,q2,qu ?_⟩;rw[aO];split
  .simp
  .rename_i e;exact q3.resolve_right<|λq=>e q.symm
def RH{p:Prop}(h:p:=by
 by_cases e:z=n
 .simp[xh,e]
 .simp only[xh,e,if_false];exact r4 z k):p:=h
def uE.var{w1}(h:uE (λ_=>False) l sb w g s ρ M)(j:JS w g s)(hms:MS BS w1 sb M){x n}(hx:x∈g.ds)(hn:g.nx x=none)(hs:g.str x=none)(hl:g.lv x=aL)(hg:aX x M=none)(nd:¬n∈g.ds)(L0:l<aL):ρ (g.vr x)=none/\uE (λy=>y=x) l sb w1 (g.add n none (cnt+1) (none,0) l<|.var<|cnt+1) ⟨s.k,λm=>s.u m\/m=cnt+1⟩ (λy=>if y=g.vr x then some (cnt+1)else ρ y) M:=by
 have hr:ρ (g.vr x)=none:=by
  cases e:ρ (g.vr x)with
  |none=>rfl|some n'=>
   have⟨_,y,r,_,q⟩:=h.rn _ _ e;have:=j.inj x y hx r.1 hs r.2.2.1 r.2.2.2.symm;subst this;exact(q.resolve_right id hg).elim
 have ne:∀m,m∈g.ds->m≠n:=λm hm e=>nd<|e▸hm;have agA:∀v,dQ (g.add n none (cnt+1) (none,0) l<|.var<|cnt+1) v->dQ g v:=λv⟨y,⟨r1,r2,r3,r4⟩,q⟩=>by
  by_cases e:y=n
  .subst e;simp[xh]at q;omega
  .exact⟨y,⟨(List.mem_cons.1 r1).resolve_left e,r2,by simpa[xh,e]using r3,by simpa[xh,e]using r4⟩,by simpa[xh,e]using q⟩
 refine⟨hr,hms,λp hp=>jc _<|h.kd p hp,λy v q=>?_,λv n' q=>?_⟩
 .have⟨m,r1,r2,r3,r4,r5⟩:=h.gm y v q;have hy:y∈g.ds:=by
   have:(y,v)∈M:=pq q;exact h.kd _ this
  refine⟨m,r1,jc _ r2,?_,λz k=>?_,λz oz az=>?_⟩
  .simp only[xh,ne m r2,ne y hy,if_false];rw[r3];refine sub_congr _ λz oz=>?_;unfold jy;by_cases e:z=g.vr x
   .exact absurd hr (by rw[<-e];exact r5 z oz ⟨x,⟨hx,hn,hs,e.symm⟩,hl⟩)
   .simp[e]
  .exact RH
  .simp only[xh,ne y hy,if_false]at oz;have:=r5 z oz<|agA z az;by_cases e:z=g.vr x
   .simp[e]
   .simpa[e]using this
 .by_cases e:v=g.vr x
  .simp[e]at q;exact⟨qv q.symm,x,⟨jc _ hx,hn,by simp[xh,ne x hx,hs],by simp[xh,ne x hx,e]⟩,by simp[xh,ne x hx,hl],qv rfl⟩
  .simp[e]at q;have⟨q1,y,⟨r1,r2,r3,r4⟩,q2,q3⟩:=h.rn v n' q;exact⟨qu q1,y,⟨jc _ r1,r2,by simp[xh,ne y r1,r3],by simp[xh,ne y r1,r4]⟩,by simp[xh,ne y r1,q2],q3.imp id False.elim⟩
def U7(hf:Us c sb)(L0:l<aL)(h:JE w c nb l cnt)(j:JS w g s)(hu:∀n,s.u n->us cnt n)(cp:uE (λ_=>False) l sb w g s ρ M){x}(hx:x∈g.ds)(hn:g.nx x=none)(hl:g.lv x=aL)(hg:aX x M=none)(hs:g.str x=none)(hc:cnt+1<=900000):Cq 402 #[.agg<|Kk c l sb,nA x] w (Nq (λy=>y=x) c nb l sb g s cnt ρ x w):=by
 have k0:Bq w (w.alloc<|Cv (Kk c l sb) 538):=bw _;have⟨_,_,c3,_,_⟩:=((j.af k0).gl.nd x hx).cells;rw[hs]at c3;have c3':(w.alloc<|Cv (Kk c l sb) 538).cell? ⟨x,3,none⟩=some (Sv ⟨#[]⟩):=c3;have b1:(w.alloc<|Cv (Kk c l sb) 538).cell? ⟨w.heap.size,1,none⟩=some (vrV c):=(Bx.new w (Kk c l sb) 538).c 1;have HV:=oG (h.af k0) (j.af k0) hu ae;have zc:=h.ct.z;have HX:=ai<|And.intro h<|And.intro j<|And.intro hu cp;have K0:=ai k0;clear h j hu cp k0 c3;go_enter func402,ntmps402;go_wp2_with fail;refine HV.mono ?_;rintro e w1⟨n,rfl,hnn,Dk,lL,F1⟩;have HY:=ai<|And.intro Dk<|And.intro lL F1;clear HV Dk lL F1
 go_wp2
 go_ret;have⟨h,j,hu,cp⟩:=uh HX;have⟨Dk,lL,F1⟩:=uh HY;have k0:=uh K0;have zk:=k0.size;have nd:¬n∈g.ds:=λq=>by have:=j.lt q;omega
 have zs:=cp.ms.lt;obtain⟨f1,f2,f3,f4,f5⟩:=hf;have hms:MS BS w1 sb M:=(cp.ms.below k0).same (F1.block sb ae (λe=>by have e:sb=c.cb:=e;omega));have⟨hr,Ec⟩:=cp.var j (cnt:=cnt) hms hx hn hs hl hg nd L0;have hV:g.V x=.var (g.vr x):=by have:=j.can x x<|.here hn;rw[hs]at this;exact this
 refine⟨n,_,_,cnt+1,_,M,rfl,Dk,lL,Ec,OR.var j (v:=g.vr x) ae nd hu hr<|λy n' q=>(cp.rn y n' q).1,ag,?_,λz k=>?_,λv o _=>?_,λv q q'=>?_,by rw[hV];simp[size],?_⟩
 .simp[xh,hV,sub,jy]
 .have:z=n:=k.one<|.here (j.gl.out _ nd).1;subst this;simp[xh]
 .rw[hV]at o;simp only[aD]at o;simp[o]
 .rw[hV];simp only[aD];exact Classical.byContradiction λe=>q' (by simp[zd e,q])
 .exact(Fr.of k0).trans (F1.fV λb q=>qu q)
def ahi(hf:Us c sb)(L0:l<aL)(HM:ajV c nb l sb k):adE c nb l sb k:=by
 intro w g s cnt ρ M n h j hu cp hn fa hk hc;have⟨a,hd⟩:=j.gl.hd n hn;have ha:=j.gl.bI hn hd;have⟨k0,BA⟩:=nK w (Kk c l sb) 538;have HC:=rB (j.af k0).gl hn hd;have zs:=cp.ms.lt;have lD:∀x∈g.ds,x<w.heap.size:=λx hx=>j.lt hx;have HX:=And.intro h<|And.intro j<|And.intro hu<|And.intro cp fa;have HHD:=ai hd;have K0:=ai k0;go_enter func400,ntmps400;go_wp2_with fail;refine HC.mono ?_;rintro e w1⟨rfl,dP,G1,F1,E1,z1⟩;have j:=HX.2.1;have cp:=HX.2.2.2.1;have hd:=uh HHD;have k0:=uh K0;have zk:=k0.size;have hsd:=(j.ni cp.ms).1;have rQ:¬w.heap.size∈g.ds:=λq=>by have:=lD _ q;omega
 have xS:=BA.fr F1 rQ;have M1:=(cp.ms.below k0).same<|F1.block sb ae hsd;have j1:=j.eqv E1 G1;have Ec:=cp.eqv j E1 M1;have o1:OR l w.heap.size g s cnt ρ {g with nx:=dP} s cnt ρ:=OR.eqv j E1 G1 _;have hcb:=HX.1.yZ j;have heb:=HX.1.yY j;have e1:=(HX.1.af k0).fr (j.af k0) (F1.fV λb q=>qv<|qv q) ((HX.1.af k0).bx.fr F1 heb)<|(HX.1.af k0).ct.fr F1 hcb;have FF:Fr (λb=>b=c.cb\/b∈g.ds\/b=sb) w w1:=(Fr.of k0).trans' F1<|λx q=>qu<|qv<|qu q;have⟨rR,_⟩:=(G1.nd a ha).lvl;have hVa:g.V n=g.V a:=by rw[j.can n a hd,j.can a a<|.here hd.head]
 have b2:=xS.c 2;by_cases hla:g.lv a=aL
 .have Jv:∀x∈g.ds,∃c t,w1.heap[x]? =some (Cv c t (0,0)):=λx hx=>⟨_,_,(G1.nd x hx).1⟩;have hl:=M1.look aav Tryz.underlying536 (sQ w1) a (Jv a ha) (λp hp=>Jv p.1<|cp.kd p hp) true;rw[hla]at rR
  cases hg:aX a M with
  |some v=>
   rw[hg]at hl;obtain⟨m,rfl,r2,r3,r4,r5⟩:=Ec.gm a v hg;simp at hl;have HY:=show Nq (λ_=>False) c nb l sb g s cnt ρ n w (Rv<|nA m) w1 from⟨m,{g with nx:=dP},s,cnt,ρ,M,rfl,e1,j1,Ec,o1,r2,by rw[hVa];exact r3,r4,λv o av=>r5 v (by rw[<-hVa];exact o)<|dQ.fwd j o1 av,λv q q'=>absurd q q',ae,FF⟩
   go_wp2
   go_ret;exact HY
  |none=>
   rw[hg]at hl;simp at hl;have fa1:Fa {g with nx:=dP} l a:=by
    have⟨S,f1,f2,f3⟩:=HX.2.2.2.2.mv j j1 o1 hn;exact⟨S,f1,f2,λy ky=>by rw[ky.one<|.here (E1.jN _ _ hd).head];exact f3 a<|E1.jN _ _ hd⟩
   have HD:=HM w1 {g with nx:=dP} s cnt ρ M a e1 j1 HX.2.2.1 Ec ha (E1.jN _ _ hd).head hla hg fa1 (by rw[hVa]at hk;exact hk) (by rw[hVa]at hc;exact hc);have b0:=xS.c 0;have b1:=xS.c 1;have zb1:=xS.z;have HY:=xf j1<|xf o1 FF;have HJ0:=ai j;have nbx:¬(w.heap.size=c.cb\/w.heap.size∈g.ds\/w.heap.size=sb):=by
    have:=HX.1.ct.z;rintro(q|q|q)
    .omega
    .exact rQ q
    .omega
   go_wp2_with fail;refine HD.mono ?_;rintro e w2⟨m,g2,s2,cD,ρ2,M2,rfl,e2,j2,Qn,o2,r1,r2,r3,r4,r5,r6,F2⟩;have b2':=(xS.fr F2 nbx).c 2;have HMS:=ai Qn.ms;have HOK:∀x∈g2.ds,∃c t,w2.heap[x]? =some (Cv c t (0,0)):=λx hx=>⟨_,_,(j2.gl.nd x hx).1⟩;have ha2:=(o2.st.gC a ha).1;have kd2:=ai Qn.kd;have HZ:=xf e2<|xf j2<|xf Qn<|xf o2<|xf r1<|xf r2<|xf r3<|xf r4<|xf r5<|xf r6 F2;go_wp2_with(refine aT _ rfl _ _ _ _ (qv rfl) aav Tryz.underlying536 _ _ rfl HMS a (nA m) rfl rfl (HOK a ha2) (λp hp=>HOK p.1<|kd2 p hp) ?_;intro w3 H' O';have HM3:=ai H';have O3:=ai O';clear H' O');go_ret;obtain⟨e2,j2,Qn,o2,r1,r2,r3,r4,r5,r6,F2⟩:=HZ;obtain⟨j1,o1,FF⟩:=HY;have O:=uh O3;have j:=uh HJ0;obtain⟨f1,f2,f3,f4,f5⟩:=hf;have⟨n1,n2⟩:=j2.ni Qn.ms;have eV:=(o2.gC a ha).2;refine⟨m,g2,s2,cD,ρ2,_,rfl,e2.one O f1 f2 f3 f4 f5,j2.one O n1 n2,Qn.put HM3 ha2 r1 (by rw[eV];exact r2) r3<|λy oy ay=>?_,o1.trans j j1 j2 o2 ae,r1,by rw[hVa];exact r2,r3,λv o av=>r4 v (by show aD v (g.V a);rw[<-hVa];exact o) (dQ.fwd j o1 av),λv q q'=>by rw[hVa];exact r5 v q q',by rw[hVa];exact r6,?_⟩
   .rw[eV]at oy;exact r4 y oy<|dQ.back j1 j2 o2 ha oy ay
   .have F3:=FF.trans F2;exact⟨O.os.trans F3.os,O.tape.trans F3.tape,O.output.trans F3.output,by rw[O.size];exact F3.size,λk hk hn=>(O.block k<|λe=>hn<|qv<|qv e).trans<|F3.block k hk hn⟩
 .have hle:g.lv a<=l:=by
   have⟨S,f1,f2,f3⟩:=HX.2.2.2.2;exact(f2 a<|f3 a hd).resolve_right hla
  have cO:¬((g.lv a:Nat):Int)=9223372036854775807:=by have:l<9223372036854775807:=L0;omega
  have⟨v1,v2⟩:=ahh j (λv n=>cp.any) hn hd ae;have HY:=show Nq (λ_=>False) c nb l sb g s cnt ρ n w (Rv<|nA a) w1 from⟨a,{g with nx:=dP},s,cnt,ρ,M,rfl,e1,j1,Ec,o1,ha,by rw[v2];exact hVa.symm,(λx k=>by rw[k.one<|.here (E1.jN _ _ hd).head];exact hle),λv o av=>absurd av<|v1 v o,λv q q'=>absurd q q',ae,FF⟩
  go_wp2
  go_ret;exact HY
end
def CpR c nb l sb g(s:jv)cnt(ρ:j5)(L:List Nat)w gk v wr:=
 ∃(j:Nat)(C:Array Value)(g':fW)(s':jv)(aB:Nat)(eG:j5)(M':List (Nat×Value))(ps:List Nat),Hid (gk=L.length-j)/\j<=L.length/\v=Nv j/\JE wr c nb l aB/\JS wr g' s'/\uE (λ_=>False) l sb wr g' s' eG M'/\OR l (w.heap.size+2) g s cnt ρ g' s' aB eG/\Fr (λb=>b=c.cb\/b∈g.ds\/b=sb) w wr/\Bx wr w.heap.size (Kk c l sb)/\Bx wr (w.heap.size+1) C/\Hid (C.size=L.length)/\
  Hid (ps.length=j/\(∀m,m∈ps->m∈g'.ds/\∀x,Hd g'.nx m x->g'.lv x<=l)/\ps.map g'.V=(L.take j).map (λp=>sub (jy eG)<|g.V p)/\(∀i(h:i<ps.length),C[i]? =some (nA ps[i]))/\(∀v,(∃p,p∈L.take j/\aD v (g.V p))->dQ g v->eG v≠none)/\(∀v,ρ v=none->eG v≠none->∃p,p∈L.take j/\aD v (g.V p))/\aB<=cnt+ah ((L.take j).map g.V))
def uE.af{M}(h:uE E l sb w g s ρ M)(hb:Bq w w'):uE E l sb w' g s ρ M:=⟨h.ms.below hb,h.kd,h.gm,h.rn⟩
def uE.one{E}{l sb b}{w w'}{g}{s}{ρ}{M}(h:uE E l sb w g s ρ M)(o:One b w w')(hb:sb≠b):uE E l sb w' g s ρ M:=⟨h.ms.one o hb,h.kd,h.gm,h.rn⟩
def uE.add{E:Nat->Prop}{l sb:Nat}{w:World}{g:fW}{s:jv}{ρ:j5}{M}(h:uE (λ_=>False) l sb w g s ρ M){n}(nd:¬n∈g.ds)q v a T:uE E l sb w (g.add n (some q) v a l T) s ρ M:=by
 have ne:∀m,m∈g.ds->m≠n:=λm hm e=>nd<|e▸hm;refine⟨h.ms,λp hp=>jc _<|h.kd p hp,λy u r=>?_,λu n' r=>?_⟩
 .have⟨m,r1,r2,r3,r4,r5⟩:=h.gm y u r;have hy:=h.kd _<|pq r;refine⟨m,r1,jc _ r2,by simp[xh,ne m r2,ne y hy,r3],λz k=>?_,λz oz⟨t,⟨b1,b2,b3,b4⟩,b5⟩=>?_⟩
  .exact RH
  .simp only[xh,ne y hy,if_false]at oz;have e:t≠n:=λe=>by subst e;simp[xh]at b3
   exact r5 z oz ⟨t,⟨(List.mem_cons.1 b1).resolve_left e,b2,by simpa[xh,e]using b3,by simpa[xh,e]using b4⟩,by simpa[xh,e]using b5⟩
 .have⟨q1,y,⟨r1,r2,r3,r4⟩,q2,q3⟩:=h.rn u n' r;exact⟨q1,y,⟨jc _ r1,r2,by simp[xh,ne y r1,r3],by simp[xh,ne y r1,r4]⟩,by simp[xh,ne y r1,q2],q3.imp id False.elim⟩
section
variable {c:JC} {cnt:Nat} {M:List (Nat×Value)}
def U8(hf:Us c sb)(IH:adE c nb l sb K)(h:JE w c nb l cnt)(js:JS w g s)(hu:∀n,s.u n->us cnt n)(cp:uE (λ_=>False) l sb w g s ρ M){x}(hx:x∈g.ds)(hn:g.nx x=none)(fa:Fa g l x){k}{L}(hs:g.str x=some (k,L))(hz:size (g.V x)<=K+1)(hc:cnt+size (g.V x)<=900000):Cq 402 #[.agg<|Kk c l sb,nA x] w (Nq (λy=>y=x) c nb l sb g s cnt ρ x w):=by
 have hP:=(js.gl.nd x hx).2.1;rw[hs]at hP;obtain⟨yv,hL,HLM,aM⟩:=hP;have hV:g.V x=.aJ k (L.map g.V):=by have:=js.can x x<|.here hn;rw[hs]at this;exact this
 have HSZ:size (g.V x)=1+ah (L.map g.V):=by rw[hV];simp[size]
 have⟨i0,vC,nJ,lG,jB⟩:=info_parts uZ;have Te:=gT (by_:=8) oW vC nJ rfl lG jB aK L.length hL;have k0:Bq w (w.alloc<|Cv (Kk c l sb) 538):=bw _;have bN:Bq w ((w.alloc<|Cv (Kk c l sb) 538).alloc<|Cv (xt L.length<|.pointer none) 116):=(bw _).alloc ag _;have⟨_,_,a3,_,a4⟩:=((js.af k0).gl.nd x hx).cells;rw[hs]at a3 a4;have a3':(w.alloc<|Cv (Kk c l sb) 538).cell? ⟨x,3,none⟩=some (Sv<|pn k):=a3;have a4':(w.alloc<|Cv (Kk c l sb) 538).cell? ⟨x,4,none⟩=some (.slice (g.ly x).1 L.length (g.ly x).2):=a4;have⟨_,_,_,_,d4⟩:=((js.af bN).gl.nd x hx).cells;rw[hs]at d4;have d4':((w.alloc<|Cv (Kk c l sb) 538).alloc<|Cv (xt L.length<|.pointer none) 116).cell? ⟨x,4,none⟩=some (.slice (g.ly x).1 L.length (g.ly x).2):=d4;obtain⟨⟨sa,sc⟩,ZY⟩:∃q,g.ly x=q:=⟨_,rfl⟩;rw[ZY]at a4' d4';have HLY:=ai ZY;have hea:((pn k).toList==[])=false:=by rw[<-Bool.not_eq_true,beq_iff_eq];exact lh yv
 have zc:=h.ct.z;have zs:=cp.ms.lt;have ST:Hid (CpR c nb l sb g s cnt ρ L w L.length (Iv 0)<|(w.alloc<|Cv (Kk c l sb) 538).alloc<|Cv (Array.replicate L.length<|.pointer none) 116):=ai ⟨0,Array.replicate L.length<|.pointer none,g,s,cnt,ρ,M,[],ai ag,Nat.zero_le _,rfl,h.af bN,js.af bN,cp.af bN,OR.refl js _ _ _ _,Fr.of bN,(Bx.new w _ _).alloc _,by have:=Bx.new (w.alloc<|Cv (Kk c l sb) 538) (Array.replicate L.length<|.pointer none) 116;simpa using this,ai ag,ai ⟨rfl,ag,ag,(λi hi=>by simp at hi),(λv⟨p,q,_⟩=>by simp at q),(λv q q'=>absurd q q'),by simp[ah]⟩⟩;have HJ:=ai js;have HV:=ai hV;have HZ:=ai<|And.intro h.z.2.2<|And.intro h.bx.z<|And.intro h.ct.z<|And.intro h.rs.lt h.ms.lt;have xlt:=js.lt hx;clear h js cp k0 bN a3 a4 d4 aM hV ZY;go_enter func402,ntmps402
 go_wp2
 go_loopg[27] L.length (λgk v wr=>CpR c nb l sb g s cnt ρ L w gk v wr)
 case atStart=>exact ST
 case round=>
  clear ST a3' a4' d4' hea Te;obtain⟨j,C,g1,s1,ak,my,M1,ps,cR,hj,rfl,Dk,lL,Ec,rO,F1,B0,B1,hC,hT⟩:=hrel;have zw:=F1.size;have zb:=B1.z;have Tu:x∈g1.ds/\g1.ly x=g.ly x/\g1.str x=some (k,L):=by
   have⟨b1,b2,b3⟩:=rO.st.gC x hx;obtain⟨_,q2,_⟩|⟨q,_⟩:=rO.new x b1
   .exact⟨b1,q2,b2.trans hs⟩
   .omega
  have V5:∀p,p∈L->g1.V p=g.V p:=λp hp=>(rO.gC p<|HLM p hp).2;have sz:=HSZ;by_cases aY:j<L.length
  .have hd:(j:Int)<(L.length:Int):=ae;have⟨ga,ea,ra,_⟩:=lL.gl.row Tu.1 Tu.2.2 aY;rw[Tu.2.1,uh HLY]at ea;have ea:=ea;subst ea;have⟨x1,x2,x3,x4,x5,x6,x7⟩:=uh hT;have hjm:j<(L.map g.V).length:=by simpa using aY
   have⟨y1,y2⟩:=Ay (L.map g.V) hjm;simp only[List.getElem_map,<-List.map_take]at y1 y2;have hpm:=jf aY;have LZ:=HLM _ hpm;have HC:=IH wr g1 s1 ak my M1 L[j] Dk lL (rO.used hu) Ec (rO.st.gC _ LZ).1 ((fa.part (.here hn) hx hs hpm).mv HJ lL rO LZ) (by rw[V5 _ hpm];omega) (by rw[V5 _ hpm];omega);have b0:=B0.c 0;have b1:=B0.c 1;have b2:=B0.c 2;have HY:=ai<|xf lL<|xf rO<|xf F1<|xf B0<|xf B1 Ec;have EQV:=ai V5;have nm:∀b,w.heap.size<=b->b<w.heap.size+2->¬(b=c.cb\/b∈g1.ds\/b=sb):=λb q1 q2=>by
    rintro(q|q|q)
    .omega
    .obtain⟨q,_⟩|⟨q,_⟩:=rO.new b q
     .have:=HJ.lt q;omega
     .omega
    .omega
   clear Dk lL Ec rO F1 B0 B1 x1 x2 x3 x4 x5 x6 x7 V5 Tu sz;go_wp2_with fail;refine HC.mono ?_;rintro e w1⟨m,g2,s2,cD,ρ2,M2,rfl,je2,js2,Qn,LY,hm,hVm,yJ,Fo,BG,Az,F2⟩;have⟨lL,rO,F1,B0,B1,Ec⟩:=uh HY;have B2:=B1.fr F2<|nm _ ae ae;have B02:=B0.fr F2<|nm _ ae ae;have rG:j<C.size:=qBh;have cj:=(B2.c j).trans<|xw rG;have fj:=B2.f j;have B3:=B2.aP j (nA m) (C.setIfInBounds j<|nA m) rfl rG;have B03:=B02.bO (b2:=w.heap.size+1) ae j<|nA m;have I8:=rO.trans HJ lL js2 LY ae;have HD:=xf je2<|xf js2<|xf Qn<|xf LY<|xf hm<|xf hVm<|xf yJ<|xf Fo<|xf BG Az
   have xF:=ai (F1.trans' F2 (λb q=>by
    obtain q|q|q:=q
    .exact qu (qu q)
    .obtain⟨q,_⟩|⟨q,_⟩:=rO.new b q
     .exact qu (qv<|qu q)
     .exact qv ae
    .exact qu (qv<|qv q)))
   have z2:=F2.size;clear HC F2 F1 B0 B1 B2 B02 lL rO Ec je2 js2 Qn LY hm hVm yJ Fo BG Az nm b0 b1 b2 ra
   go_wp2
   go_roundg(L.length-(j+1))
   case measure=>rw[uh cR];omega
   case rel=>
    have⟨x1,x2,x3,x4,x5,x6,x7⟩:=uh hT;obtain⟨je2,js2,Qn,LY,hm,hVm,yJ,Fo,BG,Az⟩:=HD;have⟨lL,rO,F1,B0,B1,Ec⟩:=uh HY;have or3:=I8;have js:=uh HJ;have V5:=uh EQV;have oc:=One.cell w1 (w.heap.size+1) j<|nA m;have⟨u1,u2,u3,u4,u5⟩:=uh HZ;have hp1:=(rO.st.gC _ LZ).1;refine⟨j+1,C.setIfInBounds j<|nA m,g2,s2,cD,ρ2,M2,ps++[m],ai rfl,ae,iK,je2.one oc ae ae ae ae ae,?_,Qn.one oc ae,or3,xF.set (qv ae) j _,B03,B3,ai (by simp;exact hC),ai ⟨by simp[x1],?_,?_,?_,?_,?_,by rw[V5 _ hpm]at Az;omega⟩⟩
    .exact Ry
    .exact Rz
    .rw[jh,ja aY,jh];have e1:ps.map g2.V=ps.map g1.V:=dD λp hp=>(LY.gC p (x2 p hp).1).2;have e2:(L.take j).map (λp=>sub (jy my)<|g.V p)=(L.take j).map (λp=>sub (jy ρ2)<|g.V p):=jq λp hp=>by
      have V7:p∈L:=List.mem_of_mem_take hp;have hpg:=HLM p V7
      have:=adD lL js2 LY (λv n=>Qn.any) (rO.st.gC p hpg).1 (λv ov av=>by
       rw[V5 p V7]at ov
       exact x5 v ⟨p,hp,ov⟩<|dQ.back js lL rO hpg ov av)
      rw[V5 p V7]at this;exact this
     rw[e1,x3,e2];simp[hVm,V5 _ hpm]
    .exact RA
    .rintro v⟨p,hp,o⟩av;rw[ja aY]at hp;obtain q|q:=List.mem_append.1 hp
     .have:=x5 v ⟨p,q,o⟩ av;exact RB
     .simp at q;subst q;exact Fo v (by rw[V5 _ hpm];exact o)<|dQ.fwd js rO av
    .intro v q q';rw[ja aY]
     cases e:my v with
     |none=>
      have:=BG v e q';rw[V5 _ hpm]at this;exact⟨L[j],jm _<|List.mem_singleton.2 rfl,this⟩
     |some n=>
      have⟨p,hp,o⟩:=x6 v q (by rw[e];simp);exact⟨p,jo _ hp,o⟩
  .have hd:decide ((j:Int)<(L.length:Int))=false:=bB;have ej:j=L.length:=ae;subst ej;have b0:=B0.c 0;have⟨_,_,a3,_,_⟩:=(lL.gl.nd x Tu.1).cells;rw[Tu.2.2]at a3;have a3':wr.cell? ⟨x,3,none⟩=some (Sv<|pn k):=a3;have HY:=ai<|xf Dk<|xf lL<|xf Ec<|xf rO<|xf F1<|xf B1 hT;clear Dk lL Ec rO F1 B0 B1 hT V5 Tu sz a3
   go_wp2
   go_region_held3(λw'=>w'.cell? ⟨w.heap.size,0,none⟩=some (Nv l)/\w'.cell? ⟨x,3,none⟩=some (Sv<|pn k)) (first|go_keep|(simp[*])) (first
    |(go_at_call 82;go_loud(refine(Fm _ _ _ _ _).mono ?_);rintro e w3⟨rfl,qW⟩;have k3:Bq wr w3:=(by rw[qW];exact(xi _ _).drew.alloc (br _) _);have N3:w3.heap[wr.heap.size]? =some (Cv #[.pointer none,Nv l,Iv 0,Sv<|pn k,Lv (some ⟨w.heap.size+1,0,none⟩) L.length L.length] 187 (0,0)):=(by rw[qW];exact(xy wr.drew _).1);have s2:w3.cell? ⟨w.heap.size,0,none⟩=some (Nv l):=(xg (a:=⟨w.heap.size,0,none⟩) (w:=wr)<|k3.block w.heap.size ae).trans b0;have s3:w3.cell? ⟨x,3,none⟩=some (Sv<|pn k):=(xg (a:=⟨x,3,none⟩) (w:=wr)<|k3.block x ae).trans a3';have K3:=ai k3;have N3':=ai N3;clear qW k3 N3))
   go_wp2
   go_ret;have⟨Dk,lL,Ec,rO,F1,B1,x1,x2,x3,x4,x5,x6,x7⟩:=uh HY;simp only[jd]at x3 x5 x6 x7;have b_:=uh K3;have xS:=B1.below b_;have js:=uh HJ;have hV:=uh HV;have hz:¬wr.heap.size∈g1.ds:=λq=>by have:=lL.lt q;omega
   have U6:¬(w.heap.size+1)∈g1.ds:=λq=>by
    obtain⟨q,_⟩|⟨q,_⟩:=rO.new _ q
    .have:=js.lt q;omega
    .omega
   have js3:=lL.aau b_ (n:=wr.heap.size) (l:=l) (c:=k) (ps:=ps) (a:=(some ⟨w.heap.size+1,0,none⟩,L.length)) (br _) yv ae x2 (qv ⟨w.heap.size+1,rfl,(λq=>by
    obtain q|q:=List.mem_cons.1 q
    .omega
    .exact U6 q),xS.z,λi hi=>(xS.c i).trans<|x4 i hi⟩) (by rw[x1];exact N3')
   have or3:OR l w.heap.size g1 s1 ak my (g1.add wr.heap.size (some (k,ps)) 0 (some ⟨w.heap.size+1,0,none⟩,L.length) l<|.aJ k<|ps.map g1.V) s1 ak my:=OR.add lL ae hz (λgg e=>by injection e with e;injection e with e;omega);refine⟨wr.heap.size,_,s1,ak,my,M1,rfl,Dk.af b_,js3,(Ec.af b_).add hz _ _ _ _,(rO.Ep ae).trans js lL js3 or3<|br _,ag,?_,λz q=>?_,λv o av=>?_,λv q q'=>?_,by rw[HSZ];omega,F1.trans<|Fr.of b_⟩
   .rw[hV];simp only[xh,if_true,sub,ij,x3,ju];rfl
   .have:z=wr.heap.size:=q.one<|.here (lL.gl.out _ hz).1;subst this;simp[xh]
   .rw[hV]at o;simp only[aD]at o;have⟨t,h1,h2⟩:=(mA _ _).1 o;obtain⟨p,h3,rfl⟩:=List.mem_map.1 h1;exact x5 v ⟨p,h3,h2⟩ av
   .have⟨p,h1,h2⟩:=x6 v q q';rw[hV];simp only[aD];exact(mA _ _).2 ⟨_,jp h1,h2⟩
def ahj(hf:Us c sb)(L0:l<aL)(IH:adE c nb l sb K):ajV c nb l sb (K+1):=by
 intro w g s cnt ρ M x h j hu cp hx hn hl hg fa hz hc
 cases hs:g.str x with
 |none=>exact U7 hf L0 h j hu cp hx hn hl hg hs (by have:=size_pos<|g.V x;omega)|some q=>
  obtain⟨k,L⟩:=q;exact U8 hf IH h j hu cp hx hn fa hs hz hc
def ae0(hf:Us c sb)(L0:l<aL):∀K,adE c nb l sb K
 |0=>λw g s cnt ρ M n h j hu cp hn fa hk hc=>by have:=size_pos<|g.V n;omega|K+1=>ahi hf L0<|ahj hf L0<|ae0 hf L0 K
end
structure AJ w c nb l cnt g(s:jv):Prop where
 je:JE w c nb l cnt
 js:JS w g s
 us:∀n,s.u n->us cnt n
 lv:∀n,n∈g.ds->g.nx n=none->g.lv n<=l\/g.lv n=aL
 lo:∀n,n∈g.ds->c.lo<=n
structure fQ l c(w:World)g(s:jv)w1 g1(s1:jv):Prop where
 st:iI l g s g1 s1
 an:∀m,m∈g.ds->∀h,Hd g.nx m h->g.lv h=aL->Hd g1.nx m h/\g1.lv h=aL
 lo:∀m,m∈g.ds->∀h h',Hd g.nx m h->Hd g1.nx m h'->∀i,i<=l->g.lv h<=i->g1.lv h'<=i
 nw:∀m,m∈g1.ds->m∈g.ds\/w.heap.size<=m
 fr:Fr (jS c g) w w1
 ky:∀v,s1.k v=sub s1.k (s.k v)
 um:∀n,s.u n->s1.u n
structure mO l(g:fW)(s:jv)n T:Prop where
 mem:n∈g.ds
 val:g.V n=sub s.k T
 lv:∀x,Hd g.nx n x->g.lv x<=l
structure Bu(g:fW)(s:jv)(d:In.Td)m:Prop where
 mem:m∈g.ds
 val:g.V m=sub s.k d.of
 any:∀v,v∈d.any↔aD v (g.V m)/\dQ g v
 use:∀n,aD n d.of->s.u n
 sub:∀v,v∈d.any->aD v d.of
def bW w nb(Γ:jz)g(s:jv):=∃L,MG xm w nb L/\∀x,(Γ x=none/\aX x L=none)\/∃d m,Γ x=some d/\aX x L=some (nA m)/\Bu g s d m
section
variable {c:JC} {cnt:Nat}
def Fp(h:∀v,s1.k v=sub s1.k (s.k v))T:sub s1.k (sub s.k T)=sub s1.k T:=by
 rw[sub_sub];exact sub_congr _ λv _=>(h v).symm
def AJ.hd(a:AJ w c nb l cnt g s)(hm:m∈g.ds)(k:Hd g.nx m h):g.lv h<=l\/g.lv h=aL:=a.lv h (a.js.gl.bI hm k) k.head
def fQ.refl(h:JS w g s)c l:fQ l c w g s w g s:=⟨.refl h l,λm _ h k e=>⟨k,e⟩,λm _ h h' k k' i _ z=>by rw[k'.one k];exact z,λm hm=>qu hm,.refl _ _,λv=>(h.ok.vY<|.var v).symm,λ_ q=>q⟩
def fQ.trans{Wa Wb Wc:World}(h:JS Wa g s)(h1:JS Wb g1 s1)(h2:JS Wc g2 s2)(a:fQ l c w g s w1 g1 s1)(b:fQ l c w1 g1 s1 w2 g2 s2):fQ l c w g s w2 g2 s2 where
 st:=a.st.trans h h1 h2 b.st
 an m hm x k e:=by have⟨k1,e1⟩:=a.an m hm x k e;exact b.an m (a.st.gC m hm).1 x k1 e1
 lo m hm x x' k k' i hi z:=by
  have⟨y,hy⟩:=h1.gl.hd m (a.st.gC m hm).1;exact b.lo m (a.st.gC m hm).1 y x' hy k' i hi<|a.lo m hm x y k hy i hi z
 nw m hm:=by
  obtain q|q:=b.nw m hm
  .exact a.nw m q
  .exact qv (qx a.fr.size q)
 fr:=a.fr.trans' b.fr λx q=>by
  obtain q|q|q:=q
  .omega
  .omega
  .exact(a.nw x q).imp (λz=>qv<|qv z) id
 ky v:=by rw[b.ky v,a.ky v,Fp b.ky]
 um n q:=b.um n<|a.um n q
def fQ.le(a:fQ l c w g s w1 g1 s1)(hl:l'<=l):fQ l' c w g s w1 g1 s1:={a with st:=⟨a.st.gC,a.st.val,λi hi=>a.st.TN i ae⟩,lo:=λm hm x x' k k' i hi=>a.lo m hm x x' k k' i<|by omega}
def mO.kX(r:mO l g s n T)(h:JS W g s)(a:fQ l c w g s w1 g1 s1):mO l g1 s1 n T:=by
 have⟨x,hx⟩:=h.gl.hd n r.mem;exact⟨(a.st.gC n r.mem).1,by rw[a.st.val n r.mem,r.val,Fp a.ky],λy hy=>a.lo n r.mem x y hx hy l (br _)<|r.lv x hx⟩
def fQ.adF(a:fQ l c w g s w1 g1 s1){v:Nat}(q:dQ g v):dQ g1 v:=by
 obtain⟨x,⟨r1,r2,r3,r4⟩,e⟩:=q;have⟨k,e1⟩:=a.an x r1 x (.here r2) e;have⟨o1,o2,o3⟩:=a.st.gC x r1;exact⟨x,⟨o1,k.head,o2.trans r3,o3.trans r4⟩,e1⟩
def fQ.root{W}(a:fQ l c w g s w1 g1 s1)(h1:JS W g1 s1){v}(q:dQ g v):s1.k v=.var v:=by
 have⟨x,r,_⟩:=a.adF q;exact(h1.root r).2
def fQ.back(hl:l<aL)(aj:AJ V c nb l cnt g s)(h1:JS W g1 s1)(a:fQ l c w g s w1 g1 s1){v:Nat}(hm:m∈g.ds)(o:aD v (g1.V m))(q:dQ g1 v):aD v (g.V m)/\dQ g v:=by
 rw[a.st.val m hm]at o;have⟨u,ou,ov⟩:=(qh _).1 o;have⟨y,hy⟩:=aj.js.gl.hd m hm;have⟨x,r,_⟩:=eZ (lv:=g.lv) aj.js.jg aj.js.can _ m y hm hy (br _) ou;obtain z|z:=aj.lv x r.1 r.2.1
 .exfalso;have⟨o1,o2,o3⟩:=a.st.gC x r.1;have⟨x',uk⟩:=h1.gl.hd x o1;have ez:=a.lo x r.1 x x' (.here r.2.1) uk l (br _) z;have ov':aD v (g1.V x):=by rw[h1.val x o1<|o2.trans r.2.2.1,o3,r.2.2.2];exact ov
  have⟨x2,r2,e2⟩:=eZ (lv:=g1.lv) h1.jg h1.can _ x x' o1 uk (br _) ov';obtain⟨x3,r3,e3⟩:=q;have e2:=e2 h1.lc;rw[r2.one h1.jg r3,e3]at e2;omega
 .have qa:dQ g u:=⟨x,r,z⟩;rw[a.root h1 qa]at ov;simp only[aD]at ov;subst ov;exact⟨ou,qa⟩
def Bu.kX{d:In.Td}(n:Bu g s d m)(hl:l<aL)(aj:AJ V c nb l cnt g s)(h1:JS W g1 s1)(a:fQ l c w g s w1 g1 s1):Bu g1 s1 d m where
 mem:=(a.st.gC m n.mem).1
 val:=by rw[a.st.val m n.mem,n.val,Fp a.ky]
 any v:=by
  rw[n.any v];refine⟨λq=>⟨?_,a.adF q.2⟩,λq=>a.back hl aj h1 n.mem q.1 q.2⟩;rw[a.st.val m n.mem];exact(qh _).2 ⟨v,q.1,by rw[a.root h1 q.2];rfl⟩
 use k q:=a.um k<|n.use k q
 sub:=n.sub
def bW.kX{Γ}(e:bW w nb Γ g s)(hl:l<aL)(aj:AJ w c Ie l cnt g s)(h1:JS w1 g1 s1)(a:fQ l c w g s w1 g1 s1):bW w1 nb Γ g1 s1:=by
 obtain⟨L,h,q⟩:=e;refine⟨L,h.fr a.fr ?_,λx=>(q x).imp id λ⟨d,m,q1,q2,q3⟩=>⟨d,m,q1,q2,q3.kX hl aj h1 a⟩⟩;rintro(z|z|z)
 .have:=aj.je.ct.c 0;rw[<-z,h.bE 0]at this;simp at this
 .have:=aj.je.bx.c 0;rw[<-z,h.bE 0]at this;simp at this
 .exact(aj.js.ni h.ms).1 z
def OR.stj(o:OR l B g s cnt ρ g1 s1 ak my)(h:JS w g s)(hB:w.heap.size<=B)(hf:Fr (jS c g) w w1):fQ l c w g s w1 g1 s1 where
 st:=o.st
 an m hm x k e:=⟨(o.hd m hm x).2 k,by rw[(o.gC x<|h.gl.bI hm k).1];exact e⟩
 lo m hm x x' k k' i _ z:=by
  rw[((o.hd m hm x').1 k').one k,(o.gC x<|h.gl.bI hm k).1];exact z
 nw m hm:=(o.new m hm).imp (λq=>q.1) λq=>by have:=q.1;omega
 fr:=hf
 ky v:=by rw[o.kk];exact(h.ok.vY<|.var v).symm
 um n q:=(o.Y3 n).2<|qu q
def OR.aj(o:OR l B g s cnt ρ g1 s1 ak my)(a:AJ w c nb l cnt g s)(hB:w.heap.size<=B)(je:JE w1 c nb l ak)(js:JS w1 g1 s1):AJ w1 c nb l ak g1 s1 where
 je:=je
 js:=js
 us:=o.used a.us
 lv n hm e:=by
  by_cases q:n∈g.ds
  .have k:=(o.hd n q n).1<|.here e;rw[(o.gC n q).1];exact a.lv n q k.head
  .exact qu (o.nl n hm q)
 lo n hm:=by
  obtain q|q:=o.new n hm
  .exact a.lo n q.1
  .have h1:=q.1;have h2:=a.je.z;have:=a.je.bx.z;omega
end
section
variable {c:JC} {cnt:Nat} {wQ:jz}
def One.fr(o:One b w w')(h:S b):Fr S w w':=⟨o.os,o.tape,o.output,qz o.size.symm,λk _ hn=>o.block k λe=>hn<|e▸h⟩
def JS.eb(j:JS w g s)(h:JE w c nb l cnt)(o:One c.eb w w'):JS w' g s:=by
 refine j.one o (h.yY j) λm hm k l' gg hs hl hg e=>?_;have⟨ga,q1,q2,_⟩:=j.gl.row hm hs<|List.length_pos_iff.2 hl;rw[hg]at q1;injection q1 with q1;injection q1 with q1;subst q1;have:=h.bx.c 0;rw[<-e,q2]at this;simp at this
def AJ.eng(a:AJ w c nb l cnt g s)(o:One c.eb w w')(hb:Bx w' c.eb (TO c Ie l'))(hl:l<=l'):AJ w' c Ie l' cnt g s:=
 ⟨a.je.fr a.js (o.fr<|qv<|qu rfl) hb<|a.je.ct.one o<|zd a.je.ne.1,a.js.eb a.je o,a.us,λn hn e=>(a.lv n hn e).imp (λq=>ae) id,a.lo⟩
def gd w b j v:One b w (w.setCell ⟨b,j,none⟩ v):=⟨rfl,rfl,rfl,yw,λi hi=>xj _ _ _ _ hi⟩
def AJ.given(a:AJ w c nb l cnt g s)Ie:AJ (w.setCell ⟨c.eb,3,none⟩<|Mv Ie) c Ie l cnt g s:=a.eng (gd _ _ _ _) (a.je.bx.aP 3 _ _ rfl ag) (br _)
def AJ.af(a:AJ w c nb l cnt g s)(k:Bq w w'):AJ w' c nb l cnt g s:=⟨a.je.af k,a.js.af k,a.us,a.lv,a.lo⟩
def bW.af(e:bW w nb Γ g s)(k:Bq w w'):bW w' nb Γ g s:=by obtain⟨L,h,q⟩:=e;exact⟨L,h.af k,q⟩
def bW.one(e:bW w nb Γ g s)(o:One b w w')(h:nb≠b):bW w' nb Γ g s:=by obtain⟨L,m,q⟩:=e;exact⟨L,m.one o h,q⟩
def bW.aeF(e:bW w nb Γ g s)(a:JE w c Ie l cnt):nb≠c.eb:=λz=>by
 obtain⟨L,h,_⟩:=e;have:=a.bx.c 0;rw[<-z,h.bE 0]at this;simp at this
def bW.lt(e:bW w nb Γ g s):nb<w.heap.size:=by obtain⟨L,h,_⟩:=e;exact h.lt
def bW.new(w:World)g(s:jv):bW (w.alloc<|.map #[] 0) w.heap.size (λ_=>none) g s:=⟨[],MG.new _ w,λx=>qu ⟨rfl,rfl⟩⟩
def ajW b1 b2 L1 L w gk wr:=
 ∃done L',IG xm wr w.heap.size b2 L done gk/\MG xm wr b1 L'/\(∀x,x∈done->aX x L'=aX x L/\aX x L≠none)/\(∀x,¬x∈done->aX x L'=aX x L1)/\Fr (λi=>i=b1) w wr
def acU{L1 L}(h1:MG xm w b1 L1)(h2:MG xm w b2 L)(hn:b1≠b2):
 Cq 395 #[Mv b1,Mv b2] w λe w'=>e=.returned (.tuple #[])/\(∃L',MG xm w' b1 L'/\∀x,aX x L'=match aX x L with|some v=>some v|none=>aX x L1)/\Fr (λi=>i=b1) w w':=by
 have l1:=h1.lt;have⟨o,cnt,hrg,lR⟩:=h2.range cE;have k1:Bq w (w.alloc o):=bw _;have ST:ajW b1 b2 L1 L w cnt (w.alloc o):=⟨[],L1,lR,h1.af k1,λx q=>by simp at q,λx _=>rfl,Fr.of k1⟩;go_enter func395,ntmps395
 go_wp2
 go_loopg[] cnt (λgk wr=>ajW b1 b2 L1 L w gk wr)
 case atStart=>exact ST
 case round=>
  obtain⟨done,L',lR,hM,H3,H4,HF⟩:=hrel;have WW:=lR.lt;have zr:=HF.size;rcases lR.next (P:=xk) str_inj with⟨HA,DT⟩|⟨x,u,w2,aB,hxd,HX,DT,I2,Hn,xL,dU,hen⟩
  .have HM:=ai hM
   go_wp2
   go_end0;refine⟨rfl,⟨L',HM,λx=>?_⟩,HF⟩
   cases e:aX x L with
   |some v=>rw[(H3 x<|HA x v e).1,e]|none=>
    exact H4 x λq=>(H3 x q).2 e
  .have F2:=xL;have M2:=hM.fr F2 ae;go_wp2_with(refine cd PL cE rfl _ _ _ (qv rfl) rfl M2 x u rfl rfl ?_;intro w4 H' O';have S4:=ai H';have O4:=ai O';clear H' O');go_roundg aB
   case measure=>exact Hn
   case rel=>
    have o:=uh O4;refine⟨x::done,_,I2.same (o.block b2<|zd hn)<|o.block _ ae,S4,λy hy=>?_,λy hy=>?_,(HF.gV F2<|λi e=>qv ae).trans<|o.fr rfl⟩
    .rw[aO];by_cases q:x=y
     .subst q;rw[if_pos rfl,HX];simp
     .rw[if_neg q];exact H3 y<|(List.mem_cons.1 hy).resolve_left<|zd q
    .rw[aO,if_neg λe=>hy Mm];exact H4 y λq=>hy ML
end
end
section
open Go.ChangeMaps
def U9 a b c d e w:(Instr.typeAssert (.iface 516<|.agg #[a,b,c,d,e]) 20 516 true).run xk w=.ok (.tuple #[.agg #[a,b,c,d,e],.bool true]) w:=qkr
def Dl b(hB:Bx w b LD)(f:Fl)vl vr(hv:(vl=.nilIface/\vr=.nilIface)\/∃a b c d,vl=.iface a b/\vr=.iface c d):
 CallsD xk 376 #[Pv b] (.panicking [{v:=.iface 516<|.agg #[Nv f.kind,Nv f.al,Nv f.to,vl,vr],recovered:=false}]) w λe u' w'=>
  e=.returned (.tuple #[])/\u'=.panicking [{v:=.iface 516<|.agg #[Nv f.kind,Nv f.al,Nv f.to,vl,vr],recovered:=true}]/\Bx w' b #[Nv f.kind,Nv f.al,Nv f.to,vl,vr]/\Fr (λi=>i=b) w w':=by
 obtain⟨G,hG⟩:∃G:Value,G=.iface 516 (.agg #[Nv f.kind,Nv f.al,Nv f.to,vl,vr]):=⟨_,rfl⟩;rw[<-hG];have hta:=U9;have B0:=ai hB;obtain⟨c,ff,z⟩:=hB;refine callsD_of_wpS Tryz.func376 rfl λdd cs hu=>?_;apply wpS_seq;apply wpS_region;simp[wpOpsS,go_sem,recoverD,hu,Tryz.ntmps376,Exit.thenS];rw[show(#[Pv b]++((xt 16 undef).setIfInBounds 3 G).setIfInBounds 0 G)=#[Pv b,G,undef,undef,G,undef,undef,undef,undef,undef,undef,undef,undef,undef,undef,undef,undef]from rfl];obtain⟨CS,Be⟩:∃CS:List Frame,CS=({fn:=dd.fn,tmps:=dd.tmps,todo:=dd.todo,defers:=dd.defers,mode:=FrameMode.panicking [{v:=G,recovered:=true}],kind:=dd.kind,roundOf:=dd.roundOf}::cs):=⟨_,rfl⟩;rw[<-Be];refine wpS_of_wp ?_;subst hG;obtain⟨rfl,rfl⟩|⟨ta,xa,tb,xb,rfl,rfl⟩:=hv
 all_goals(
 go_wp2_with fail;refine⟨rfl,_,Be,.tuple #[],by simp[results,Tryz.results376,go_sem],rfl,rfl,?_,?_⟩
 .exact((B0.PQ rfl _ _ _ _ _).alloc _)
 .exact(((((Fr.refl (λi=>i=b) w).set (b:=b) (qu rfl) 0 _).set (qu rfl) 1 _).set (qu rfl) 2 _).set (qu rfl) 3 _).set (qu rfl) 4 _|>.trans (Fr.of<|bw _))
def adG b:
 CallsD xk 376 #[Pv b] .returning w λe u' w'=>
  e=.returned (.tuple #[])/\u'=.returning/\w'=w:=by
 refine callsD_of_wpS Tryz.func376 rfl λdd cs hu=>?_;apply wpS_seq;apply wpS_region;simp[wpOpsS,go_sem,recoverD,hu,Tryz.ntmps376,Exit.thenS];rw[show(#[Pv b]++((xt 16 undef).setIfInBounds 3 Zv).setIfInBounds 0 Zv)=#[Pv b,Zv,undef,undef,Zv,undef,undef,undef,undef,undef,undef,undef,undef,undef,undef,undef,undef]from rfl];have Be:dd::cs={dd with mode:=.returning}::cs:=(by cases dd;simp at hu;subst hu;rfl);refine wpS_of_wp ?_
 go_wp2
 exact⟨rfl,_,Be,.tuple #[],by simp[results,Tryz.results376,go_sem],rfl,rfl,rfl⟩
end
section
open Un
def fB(c:UInt8):BA:=⟨#[c]⟩
def ahk c:(fB c).toList=[c]:=by rw[fB];exact toList_mk _
def nm1 c(h:Pu.fk c.toNat=true)(hw:Pu.eP ⟨#[c]⟩=false):x_ (fB c):=⟨c,[],ahk c,h,ag,hw⟩
inductive nT:List UInt8->List UInt8->Prop where
 |low{L:List UInt8}{c:UInt8}(hc:c∈L)(h:x_ (fB c)):nT L [c]
 |up{L:List UInt8}{c:UInt8}(h:c=78\/c=80):nT L [c]
 |tr{L:List UInt8}:nT L [116,114,117,101]
 |one{L:List UInt8}:nT L [49]
 |unit{L:List UInt8}:nT L [40,41]
 |fn{L:List UInt8}{c:UInt8}{l:List UInt8}(hc:x_ (fB c))(h:nT (L++[c]) l):nT L ([40,102,117,110,32]++[c]++[32,45,62,32]++l++[41])
 |rM{L:List UInt8}{l m:List UInt8}(h:nT L l)(k:nT L m):nT L ([40]++l++[32]++m++[41])
 |lt{L:List UInt8}{c:UInt8}{l m:List UInt8}(hc:x_ (fB c))(h:nT L l)(k:nT (L++[c]) m):nT L ([40,108,101,116,32]++[c]++[32,61,32]++l++[32,105,110,32]++m++[41])
 |pair{L:List UInt8}{l m:List UInt8}(h:nT L l)(k:nT L m):nT L ([40]++l++[44,32]++m++[41])
 |aJ{L:List UInt8}{l m:List UInt8}(h:nT L l)(k:nT L m):nT L ([40,67,32]++l++[32]++m++[41])
 |ite{L:List UInt8}{l m:List UInt8}(h:nT L l)(k:nT L m):nT L ([40,105,102,32,116,114,117,101,32,116,104,101,110,32]++l++[32,101,108,115,101,32]++m++[41])
 |mt{L:List UInt8}{c:UInt8}{l m:List UInt8}(hc:x_ (fB c))(h:nT L l)(k:nT (L++[c]) m):nT L ([40,109,97,116,99,104,32]++l++[32,119,105,116,104,32,78,32,45,62,32,49,32,124,32,67,32]++[c]++[32,95,32,45,62,32]++m++[32,101,110,100,41])
def mB:Nat->Nat
 |0=>4|d+1=>2*mB d+40
def MXq d L l:=nT L l/\l.length<=mB d
def ahl:∀d,4<=mB d
 |0=>br _|d+1=>by have:=ahl d;simp only[mB];omega
def ahm:List UInt8:=[116,121,112,101,32,76,32,39,97,32,61,32,78,32,124,32,67,32,39,97,32,40,76,32,39,97,41,59,116,121,112,101,32,83,32,61,32,80,32,124,32,81,32,73,110,116,32,66,111,111,108,59]
inductive MQ:List UInt8->List UInt8->Prop where
 |zero:MQ [] ahm
 |next{L:List UInt8}{c:UInt8}{l m:List UInt8}(h:MQ L l)(hc:x_ (fB c))(k:nT L m)(hz:l.length+m.length<=330\/m=[49]):MQ (L++[c]) (l++[108,101,116,32]++[c]++[61]++m++[59])
def MQ.len{L l}(h:MQ L l):l.length<=337+8*L.length:=by
 induction h with
 |zero=>simp[ahm]|next h hc k hz ih=>
  simp only[tQ,pk,ua];obtain q|q:=hz
  .omega
  .subst q;simp;omega
end
end Go.Proofs.YtfnkchdeheeiiaaGreatDoor

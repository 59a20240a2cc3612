import Derived.Test.YtonaidfgokhmoaaGreatDoorYQa
import Derived.Test.YtonaidfgokhmoaaGreatDoorYXb
set_option linter.all false
set_option maxRecDepth 100000
set_option maxHeartbeats 8000000
namespace Go.Proofs.YtonaidfgokhmoaaGreatDoor
open Go renaming Calls->aa,World->ca,Value->ea,Ending->fa
open _root_.Option renaming some->ga,none->ha
open _root_.Bool renaming false->ia
open In renaming andM->ja,Env->jc,St->jd,inf->jf,dG->jh,MM->ji,Mks->jj,dl->jk,arr->jl,cy->jm,via->jo,tG->jp,cV->jq,Dp->jt,iG->ju,Rn->jv,wO->jx,bA->jy,ls->jz,tZ->j3,over->j5,lC->j6,pM->j7,dB->j8,mD->j9,Bt->qe,qD->qf,Ft->qg,Kp->qh,mono->qi,nC->qj,Holds->qk,Ck->ql,tPr->qm,Gb->qn,yu->qp,me->qr,Lp->qs,iT->qt,p9->qu
open Or renaming inr->qv,inl->qw
open _root_.List renaming drop_eq_getElem_cons->qx,mem_append->qy,mem_cons->qz,append_nil->q9,drop_length->xf,not_mem_nil->xg,map_cons->xh,nodup_nil->xi,drop_zero->xj
open Go.Proofs.Tryz renaming prog->xk
open Pu renaming bP->xm,Tok->xn,oI->xo
open _root_.Nat renaming le_succ->xq,le_trans->xt,not_lt_zero->xw,lt_of_lt_of_le->zd,lt_succ_self->zg,zero_le->zh
open Go.RowKit.Below renaming refl->zi
open Go.World renaming cell?_of_block->zo,setCell->zt
open Go.Instr renaming lookup->zu
open _root_.Array renaming replicate->zv
open Un.Ty renaming var->zx
open Go Go.RowKit Proofs.Tryz
variable {st:BA} {ty:BA->Option Nat} {dom Xd:BA->Prop} {e:fa} {o:Except qg ((Un.Ty×jc)×jd)} {g g1 Γ:jc} {z:qg} {mk mks:jj} {R ρ:jv} {d:qs} {s s0 s1:jd} {nl:List BA} {l:List Nat} {L:List Nd} {D D1 DD S S1 S2 aR al f gb gv j k kb lP n t:Nat} {P Q Λ:Nat->Prop} {nd x:Nd} {α:Type} {ta:TypeId} {T U X a b m y:Un.Ty} {u v va vb vl vr vx xa:ea} {W w w' w0 w1:ca}
section
open Go.ChangeMaps
def Tm{s}{p}(h:(aG s p).kind=7):aG s p=Pu.fD s:=by
 rw[aG]at h⊢;split at h
 .exfalso;revert h;rw[Pu.dw];repeat' split
  all_goals simp[Pu.gL]
 .rename_i hn;rw[if_neg hn]
def Xe{s}(i:k<(xm s 0).length)(h:(tk (xm s 0) k).kind=7):(aG s (tk (xm s 0) k).to).kind≠6:=by
 rw[kR s k i]at h⊢;rw[Tm h];show(aG s s.size).kind≠6;rw[aG];rw[if_neg (by rw[Pu.jI<|br _];omega)];simp[Pu.fD]
abbrev Cm:BA:=⟨#[116,104,101,32,101,110,100]⟩
def Ke.low{rb B}{a b c}(k:Ke rb b c)(h:Below B a b)(r:B<=b.heap.size)(hr:B<=rb):Below B a c:=
 ⟨k.os.trans h.os,k.tape.trans h.tape,k.output.trans h.output,xt h.size k.size,λi hi=>(k.block i (zd hi r) ae).trans<|h.block i hi⟩
def uq(s:BA):∀f i,(xo s f i).length<=f+1
 |0,i=>by simp[xo]|f+1,i=>by
  rw[xo];split
  .split
   .have:=uq s f<|i+1;omega
   .have:=uq s f (Pu.dw s i).to;simp;omega
  .simp
theorem Xf s i:(xm s i).length<=s.size-i+1:=uq s _ _
def ur b(A:Bx w b zF)f:
 CallsD xk 36 #[Pv b] (.panicking [{v:=guV f,recovered:=ia}]) w λe u' w'=>
  e=.returned (.tuple #[])/\u'=.panicking [{v:=guV f,recovered:=true}]/\Bx w' b #[Nv f.kind,Nv f.ah,Nv f.to]/\Below b w w':=by
 have hta:=W6;have B:=ai A;obtain⟨c,ff,z⟩:=A;refine callsD_of_wpS Tryz.func36 rfl λfh cs hu=>?_;apply wpS_seq;apply wpS_region;simp[wpOpsS,go_sem,recoverD,hu,Tryz.ntmps36,Exit.thenS];rw[show(#[Pv b]++((zv 16 undef).setIfInBounds 3<|guV f).setIfInBounds 0 (guV f))=#[Pv b,guV f,undef,undef,guV f,undef,undef,undef,undef,undef,undef,undef,undef,undef,undef,undef,undef]from rfl];obtain⟨r,i⟩:∃r:List Frame,r=({fn:=fh.fn,tmps:=fh.tmps,todo:=fh.todo,defers:=fh.defers,mode:=FrameMode.panicking [{v:=guV f,recovered:=true}],kind:=fh.kind,roundOf:=fh.roundOf}::cs):=⟨_,rfl⟩;rw[<-i];refine wpS_of_wp ?_;go_wp2_with fail;refine⟨rfl,_,i,.tuple #[],by simp[results,Tryz.results36,go_sem],rfl,rfl,?_,?_⟩
 .exact((B.l_ rfl _ _ _).alloc _)
 .exact((((zi b w).setCell (br _) _).setCell (br _) _).setCell (br _) _).alloc (by simp[zt];omega) _
def abp b:
 CallsD xk 36 #[Pv b] .returning w λe u' w'=>
  e=.returned (.tuple #[])/\u'=.returning/\w'=w:=by
 refine callsD_of_wpS Tryz.func36 rfl λfh cs hu=>?_;apply wpS_seq;apply wpS_region;simp[wpOpsS,go_sem,recoverD,hu,Tryz.ntmps36,Exit.thenS];rw[show(#[Pv b]++((zv 16 undef).setIfInBounds 3 Zv).setIfInBounds 0 Zv)=#[Pv b,Zv,undef,undef,Zv,undef,undef,undef,undef,undef,undef,undef,undef,undef,undef,undef,undef]from rfl];have i:fh::cs={fh with mode:=.returning}::cs:=(by cases fh;simp at hu;subst hu;rfl);refine wpS_of_wp ?_
 go_wp2
 exact⟨rfl,_,i,.tuple #[],by simp[results,Tryz.results36,go_sem],rfl,rfl,rfl⟩
def Mq(T:List xn)l:aS T (D7 T l):=λk h=>by unfold D7;rw[if_neg ae];rfl
def Cn{s:BA}(r:¬400<s.size){f}(h:fin (xm s 0) (dc (xm s 0) (ec (xm s 0) (xm s 0).length) (xm s 0).length [] 0)=.error f):bq s=.error f:=by
 unfold bq;rw[if_neg r];have:=b_ h<|λl=>Mq (xm s 0) l;unfold fin at this;split at this
 .rename_i e;cases this;rw[e]
 .rename_i a k e;split at this
  .rename_i h6;exfalso;have⟨l,j,_,i⟩:=aB e;unfold D7 at i;split at i
   .cases i;omega
   .cases i
  .cases this
def Xg{s:BA}(hs:¬400<s.size){l}(h:fin (xm s 0) (dc (xm s 0) (ec (xm s 0) (xm s 0).length) (xm s 0).length [] 0)=.ok (l,k)):bq s=if(tk (xm s 0) k).kind=7 then .ok l else .error (eA<|tk (xm s 0) k):=by grind[fin,dc,ec,bq,tk,eA,mT,D7]
def oJ s w(e:fa)w':=
 ∃u f,e=.returned (.tuple #[.agg #[u],xN f])/\Bq w w'/\match bq s with
  |.error f'=>f=f'/\u=.slice ha 0 0|.ok l=>f=lA/\RowV QD 1 w' (λb=>w.heap.size<=b) l u
abbrev Tn:Array ea:=#[.slice ha 0 0]
theorem Hq s(B:400<s.size):aa xk 24 #[.string s,.func (.func 25) #[] #[]] w (oJ s w):=by
 have h1:(400:Int)<(s.size:Int):=ae;have i:Hid (bq s=.error ⟨1,0,0⟩):=by show _=_;simp[bq,B]
 have r:=(Bx.new w Tn 50).alloc<|Cv zF 35;have A:Bx ((w.alloc<|Cv Tn 50).alloc<|Cv zF 35) (w.heap.size+1) zF:=by have:=Bx.new (w.alloc<|Cv Tn 50) zF 35;simpa using this
 obtain⟨c,f,z⟩:=r;obtain⟨c',f',z'⟩:=A
 go_enter_defers Tryz.func24,Tryz.ntmps24
 go_wp2_with fail;simp[bodyPostD,Leaves,settle,results,Tryz.results24,go_sem];refine⟨_,⟨1,0,0⟩,rfl,(bw _).alloc ag _,?_⟩;rw[uh i];exact⟨rfl,rfl⟩
theorem Xh(h:Laid w)s(hs:¬400<s.size)(hT:(xm s 0).length<=1001):aa xk 24 #[.string s,.func (.func 25) #[] #[]] w (oJ s w):=by
 have h1:decide ((400:Int)<(s.size:Int))=ia:=bQ;have K:s.size<=1000:=ae;have a0:0<(xm s 0).length:=by
  rw[l8 s 0<|zh _];split<;>simp
 have B0:=(Bx.new w Tn 50).alloc<|Cv zF 35;have F0:Bx ((w.alloc<|Cv Tn 50).alloc<|Cv zF 35) (w.heap.size+1) zF:=by have:=Bx.new (w.alloc<|Cv Tn 50) zF 35;simpa using this
 have O:Bq w ((w.alloc<|Cv Tn 50).alloc<|Cv zF 35):=(bw _).alloc ag _;have b0:((w.alloc<|Cv Tn 50).alloc<|Cv zF 35).heap.size=w.heap.size+2:=ag;have HL:=h.af O
 go_enter_defers Tryz.func24,Tryz.ntmps24
 go_wp2_with fail;refine(Hr HL s K).mono ?_;intro e w1 F;obtain⟨i,F⟩:=F;rw[b0]at F;have B1:=B0.below i;have F1:=F0.below i;have B:=O.trans<|i.mono O.size;have et:=kR s 0 a0;rw[show aF (xm s 0) 0=0 from rfl]at et;have z1:=i.size;rw[b0]at z1;obtain⟨h6,rfl,N,sb,m,X1,E1⟩|⟨h6,rfl⟩:=F
 .rw[<-et]at X1 h6;have S1:SX w1 N (w.heap.size+2) sb m s 0:=⟨by rw[show aF (xm s 0) 0=0 from rfl];exact X1,E1,a0,h6⟩;have HA:=To (n:=(xm s 0).length) K hT S1 ae;have hrb:=S1.z;go_wp2_with fail;refine HA.mono ?_;intro e w2 F
  cases hA:fin (xm s 0) (dc (xm s 0) (ec (xm s 0) (xm s 0).length) (xm s 0).length [] 0)with
  |error f=>
   obtain⟨rfl,J⟩:=F.bad hA;have G:=J.low B B.size ae;refine leaves_cons (f:=36) (args:=#[Pv<|w.heap.size+1]) ag qBb ?_;refine(ur (w.heap.size+1) (F1.Ha J ae)<|f).mono ?_;rintro e u' w9⟨rfl,rfl,hB,C⟩;obtain⟨c9,_,_⟩:=hB;have P9:=(B1.Ha J ae).same C.size<|C.block w.heap.size<|zg _;obtain⟨d9,_,_⟩:=P9;simp[Leaves,settle,results,Tryz.results24,go_sem,c9,d9];refine⟨_,f,rfl,G.trans<|C.mono<|xq _,?_⟩;rw[Cn hs hA];exact⟨rfl,rfl⟩
  |ok r=>
  obtain⟨l,k⟩:=r;obtain⟨v,rfl,J,S2,u,rfl,RV⟩:=F.ok hA;have G:=J.low B B.size ae;have z2:=J.size;have V:=Xg hs hA;have hk:=S2.lt;have ho:=eY s k hk;have c0:=WZ ho S2.ok;have⟨A,R3⟩:=rF w2 #[u] 50;have B3:=(B1.Ha J ae).below A;have F3:=(F1.Ha J ae).below A;have Z:=S2.af A;have I:=G.trans<|A.mono G.size;have h0:RowV QD 1 (w2.alloc<|Cv #[u] 50) (λb=>w1.heap.size<=b/\b<w2.heap.size) l u:=RV.move bO A.size (λb _ z=>A.block b z)<|λb p z=>⟨p,z⟩;have z3:(w2.alloc<|Cv #[u] 50).heap.size=w2.heap.size+1:=ag;obtain⟨va,vc,cs,hu,_,_⟩:=RV;subst hu;have d0:=ai h0;by_cases h7:(tk (xm s 0) k).kind=7
  .have t7:((aq<|tk (xm s 0) k).toList==Cm.toList)=true:=by rw[show Cm.toList=[116,104,101,32,101,110,100]from toList_mk _,c0];simp[h7]
   go_wp2_with fail;refine(jV Z.rd K (sB s k hk) Cm t7).mono ?_;intro e w3 F;obtain⟨rfl,E,R4⟩:=F.ok<|Xe hk h7;have zk:=E.size;have B4:=B3.Ha E ae;have F4:=F3.Ha E ae;have R5:=R3.Ha E ae;have i0:=E.low I I.size ae;have e0:=d0.move bO E.size (λb p z=>E.block b z ae)<|λ_ p _=>p;have f0:=ai B4;have g0:=ai F4;obtain⟨c3,f3,y3⟩:=R5;obtain⟨c4,f4,y4⟩:=B4;obtain⟨c5,f5,y5⟩:=F4;go_wp2_with fail;have B6:=(((f0.aW 0 (Lv va l.length vc) #[Lv va l.length vc] rfl ag).bU (b2:=w.heap.size+1) ae 0 (Iv 0)).bU (b2:=w.heap.size+1) ae 1 (Iv 0)).bU (b2:=w.heap.size+1) ae 2 (Iv 0);have F6:=(g0.bU (b2:=w.heap.size) ae 0<|Lv va l.length vc).l_ rfl (Iv 0) (Iv 0) (Iv 0);have j0:=((((e0.sv bO (b:=w.heap.size) (λc p=>ae) 0<|Lv va l.length vc).sv bO (b:=w.heap.size+1) (λc p=>ae) 0<|Iv 0).sv bO (b:=w.heap.size+1) (λc p=>ae) 1<|Iv 0).sv bO (b:=w.heap.size+1) (λc p=>ae) 2<|Iv 0).move bO (br _) (λ_ _ _=>rfl) (P':=λb=>w.heap.size<=b)<|λb p _=>ae;have k0:=(((i0.setCell (p:=⟨w.heap.size,0,ha⟩) (br _)<|Lv va l.length vc).setCell (p:=⟨w.heap.size+1,0,ha⟩) (xq _)<|Iv 0).setCell (p:=⟨w.heap.size+1,1,ha⟩) (xq _)<|Iv 0).setCell (p:=⟨w.heap.size+1,2,ha⟩) (xq _)<|Iv 0
   refine leaves_cons (f:=36) (args:=#[Pv<|w.heap.size+1]) ag qBb ?_;refine(abp<|w.heap.size+1).mono ?_;rintro e u' w9⟨rfl,rfl,rfl⟩;obtain⟨c7,_,_⟩:=B6;obtain⟨c8,_,_⟩:=F6;simp[Leaves,settle,results,Tryz.results24,go_sem,c7,c8];refine⟨_,lA,rfl,k0,?_⟩;rw[V,if_pos h7];exact⟨rfl,j0⟩
  .have t7:((aq<|tk (xm s 0) k).toList==Cm.toList)=ia:=by rw[show Cm.toList=[116,104,101,32,101,110,100]from toList_mk _,c0];simp[h7]
   go_wp2_with fail;refine(DZ Z.rd Cm t7 Z.ok).mono ?_;rintro e w3⟨rfl,E⟩;have e0:=E.low I I.size ae;rw[if_neg h7]at V;refine leaves_cons (f:=36) (args:=#[Pv<|w.heap.size+1]) ag qBb ?_;refine(ur (w.heap.size+1) (F3.Ha E ae)<|eA<|tk (xm s 0) k).mono ?_;rintro e u' w9⟨rfl,rfl,hB,C⟩;obtain⟨c9,_,_⟩:=hB;have P9:=(B3.Ha E ae).same C.size<|C.block w.heap.size<|zg _;obtain⟨d9,_,_⟩:=P9;simp[Leaves,settle,results,Tryz.results24,go_sem,c9,d9];refine⟨_,eA<|tk (xm s 0) k,rfl,e0.trans<|C.mono<|xq _,?_⟩;rw[V];exact⟨rfl,rfl⟩
 .rw[<-et]at h6⊢;have A:fin (xm s 0) (dc (xm s 0) (ec (xm s 0) (xm s 0).length) (xm s 0).length [] 0)=.error (eA<|tk (xm s 0) 0):=vR _ _ _ _ 0 h6;refine leaves_cons (f:=36) (args:=#[Pv<|w.heap.size+1]) ag qBb ?_;refine(ur (w.heap.size+1) F1<|eA<|tk (xm s 0) 0).mono ?_;rintro e u' w9⟨rfl,rfl,hB,C⟩;obtain⟨c9,_,_⟩:=hB;have P9:=B1.same C.size<|C.block w.heap.size<|zg _;obtain⟨d9,_,_⟩:=P9;simp[Leaves,settle,results,Tryz.results24,go_sem,c9,d9];refine⟨_,eA<|tk (xm s 0) 0,rfl,B.trans<|C.mono<|xq _,?_⟩;rw[Cn hs A];exact⟨rfl,rfl⟩
def Mr(h:Laid w)s:aa xk 24 #[.string s,.func (.func 25) #[] #[]] w (oJ s w):=by grind[oJ,Hq,Xh,Xf]
def Co(h:Laid w)s:aa xk 17 #[.string s] w (oJ s w):=by
 have r:Bq w ((w.alloc<|Cv Tn 50).alloc<|Cv zF 35):=(bw _).alloc ag _;have C:((w.alloc<|Cv Tn 50).alloc<|Cv zF 35).heap.size=w.heap.size+2:=ag;have J:=(Bx.new w Tn 50).alloc<|Cv zF 35;have K:Bx ((w.alloc<|Cv Tn 50).alloc<|Cv zF 35) (w.heap.size+1) zF:=(by have:=Bx.new (w.alloc<|Cv Tn 50) zF 35;simpa using this);have N:=Mr (h.af r) s;go_in;go_wp;refine N.mono ?_;rintro e w1⟨u,f,rfl,A,i⟩;have G:=J.below A;have I:=K.below A;have O:=(((G.aW 0 u #[u] rfl ag).bU (b2:=w.heap.size+1) ae 0 (Nv f.kind)).bU (b2:=w.heap.size+1) ae 1 (Nv f.ah)).bU (b2:=w.heap.size+1) ae 2 (Nv f.to);have V:=(I.bU (b2:=w.heap.size) ae 0 u).l_ rfl (Nv f.kind) (Nv f.ah) (Nv f.to);have E:=((((r.trans<|A.mono r.size).setCell (p:=⟨w.heap.size,0,ha⟩) (br _) u).setCell (p:=⟨w.heap.size+1,0,ha⟩) (Nat.le_succ _)<|Nv f.kind).setCell (p:=⟨w.heap.size+1,1,ha⟩) (Nat.le_succ _)<|Nv f.ah).setCell (p:=⟨w.heap.size+1,2,ha⟩) (Nat.le_succ _)<|Nv f.to;obtain⟨va,B,n,Z⟩:∃va B n,u=Lv va n B:=by
  cases hr:bq s with
  |error f'=>rw[hr]at i;exact⟨_,_,_,i.2⟩|ok l=>rw[hr]at i;have⟨va,B,cs,e,_⟩:=i.2;exact⟨_,_,_,e⟩
 subst Z;obtain⟨c1,f1,z1⟩:=G;obtain⟨c2,f2,z2⟩:=I;have Hp:=ai i;rw[xN];go_wp2_with fail;obtain⟨c3,f3,z3⟩:=O;obtain⟨c4,f4,z4⟩:=V;refine bodyPost_ret (v:=.tuple #[Av #[Lv va n B],xN f]) (by simp[results,Tryz.results17,go_sem,xN,c3,c4]) rfl ⟨Lv va n B,f,rfl,E,?_⟩;have i:=uh Hp
 cases hr:bq s with
 |error f'=>rw[hr]at i;exact i|ok l=>
  rw[hr]at i;rw[C]at i;have q:∀c,w.heap.size+2<=c->c≠w.heap.size:=λc h=>ae;have F:∀c,w.heap.size+2<=c->c≠w.heap.size+1:=λc h=>ae;exact⟨i.1,((((i.2.sv bO (b:=w.heap.size) q 0 _).sv bO (b:=w.heap.size+1) F 0 _).sv bO (b:=w.heap.size+1) F 1 _).sv bO (b:=w.heap.size+1) F 2 _).move bO (br _) (λ_ _ _=>rfl) (λb p _=>by have p':w.heap.size+2<=b:=p;show w.heap.size<=b;omega)⟩
end
section
open Go.ChangeMaps Go.MapKept Un
structure WC where
 (eb cb rb mb nb fU:Nat)
 mks:jj
 nl:List BA
abbrev ad1(c:WC):Array ea:=#[.func (.func 71) #[] #[Pv c.cb],Mv c.rb,Mv c.mb,Mv c.nb]
def tU w b:=∃L,MG Value.string w b L/\ba cY L=ga (.func (.func 72) #[] #[])/\ba bM L=ga (.func (.func 72) #[] #[])/\ba cD L=ga (.func (.func 72) #[] #[])/\ba b8 L=ga (.func (.func 73) #[] #[])
def VJ w P(sa:Option Addr)l:=l=[]\/∃(g:Nat)(r:Nat->ea),sa=ga ⟨g,0,ha⟩/\P g/\g<w.heap.size/\∀i(h:i<l.length),w.cell? ⟨g,i,ha⟩=ga (r i)/\eh w P l[i] (r i)
def Vf w P tk m(v:ea):=∃sa sc ta xa,v=.agg #[.slice sa tk.length sc,.iface ta xa]/\VJ w P sa tk/\eh w P m (.iface ta xa)
def mI w P b(mk:jj):=∃L,MG Value.string w b L/\(∀x,ba x L=ha->mk x=ha)/\∀x v,ba x L=ga v->∃tk m,mk x=ga (tk,m)/\Vf w P tk m v
abbrev dF(c:WC)i:=i≠c.cb
structure WE w c cnt:Prop where
 bx:Bx w c.eb (ad1 c)
 ct:Bx w c.cb #[Nv cnt]
 rs:tU w c.rb
 ms:mI w (λi=>i≠c.cb/\i<c.fU) c.mb c.mks
 d:c.eb≠c.cb/\c.rb≠c.cb/\c.mb≠c.cb
 l:c.eb<c.fU/\c.cb<c.fU/\c.rb<c.fU/\c.mb<c.fU/\c.fU<=w.heap.size
section
variable {c:WC} {cnt:Nat}
theorem VJ.move{sa}{l}(h:VJ w P sa l)(C:w.heap.size<=w'.heap.size)(E:∀b,P b->b<w.heap.size->w'.heap[b]? =w.heap[b]?)(F:∀b,P b->b<w.heap.size->Q b):VJ w' Q sa l:=by
 obtain h|⟨g,G,I,A,r,B⟩:=h
 .exact qw h
 .exact qv ⟨g,G,I,F g A r,zd r C,λi hi=>⟨(zo (a:=⟨g,i,ha⟩)<|E g A r).trans (B i hi).1,(B i hi).2.move C E F⟩⟩
theorem mI.move{b}{mk}(h:mI w P b mk)(r:w.heap.size<=w'.heap.size)(i:w'.heap[b]? =w.heap[b]?)(A:∀b,P b->b<w.heap.size->w'.heap[b]? =w.heap[b]?)(B:∀b,P b->b<w.heap.size->Q b):mI w' Q b mk:=by
 obtain⟨L,C,E,F⟩:=h;refine⟨L,C.same i,E,λx v hx=>?_⟩;obtain⟨tk,m,e,G,I,ta,xa,rfl,J,K⟩:=F x v hx;exact⟨tk,m,e,G,I,ta,xa,rfl,J.move r A B,K.move r A B⟩
def mI.lt{b}{mk}(h:mI w P b mk):b<w.heap.size:=qAr
def tU.same{b}(h:tU w b)(hb:w'.heap[b]? =w.heap[b]?):tU w' b:=qAs
def tU.lt{b}(h:tU w b):b<w.heap.size:=qAr
def WE.fr(h:WE w c cnt)(r:Fr (λi=>i=c.cb\/c.fU<=i) w w'){aR}(hc:Bx w' c.cb #[Nv aR]):WE w' c aR:=by
 have⟨A,B,C,E,F⟩:=h.l;have⟨d1,d2,d3⟩:=h.d;exact⟨h.bx.fr r ae,hc,h.rs.same<|r.block _ h.rs.lt ae,h.ms.move r.size (r.block _ h.ms.lt ae) (λb p z=>r.block b z ae)<|λ_ p _=>p,h.d,⟨A,B,C,E,xt F r.size⟩⟩
def Fr.fU{S T}(h:Fr S w w')(r:∀i,S i->T i):Fr T w w':=⟨h.os,h.tape,h.output,h.size,λk hk hn=>h.block k hk λq=>hn<|r k q⟩
def WE.frc(h:WE w c cnt)(r:Fr (λi=>i=c.cb) w w')(hc:Bx w' c.cb #[Nv aR]):WE w' c aR:=h.fr (r.fU λ_ q=>qw q) hc
def WE.one{b}(h:WE w c cnt)(o:One b w w')(r:c.fU<=b):WE w' c cnt:=h.fr ⟨o.os,o.tape,o.output,Vg,λi _ hi=>o.block i λe=>hi<|qv<|e▸r⟩ (h.ct.one o (by have:=h.l;omega))
def WE.af(h:WE w c cnt)(i:Bq w w'):WE w' c cnt:=h.frc (Fr.of i)<|h.ct.below i
def WE.dE(h:WE w c cnt):c.cb<w.heap.size:=h.ct.z
end
def us cnt n:=1<=n/\n<=cnt
section
variable {c:WC} {cnt:Nat}
def oh{cb}n(hn:n<=1000000)(h:Bx w cb #[Nv n]):aa xk 71 #[Pv cb] w λe w'=>e=.returned (Iv<|(n:Int)+1)/\w'=w.setCell ⟨cb,0,ha⟩ (Iv<|(n:Int)+1):=by
 obtain⟨c,f,z⟩:=h;go_wp2
 go_ret;exact⟨rfl,rfl⟩
def WE.fresh(h:WE w c cnt):WE (w.setCell ⟨c.cb,0,ha⟩<|Iv<|(cnt:Int)+1) c (cnt+1)/\Fr (λi=>i=c.cb) w (w.setCell ⟨c.cb,0,ha⟩<|Iv<|(cnt:Int)+1):=by
 have F:Fr (λi=>i=c.cb) w (w.setCell ⟨c.cb,0,ha⟩<|Iv<|(cnt:Int)+1):=(Fr.refl (λi=>i=c.cb) w).set (b:=c.cb) (qw rfl) 0 _;have:=h.ct.aW 0 (Iv<|(cnt:Int)+1) #[Iv<|(cnt:Int)+1] rfl ag;exact⟨h.frc F<|by simpa using this,F⟩
def p7 cnt(l:List Nat)v:=if v∈l then ga (cnt+1+l.idxOf v)else ha
def anD(cnt:Nat)(l:List Nat)(j:Nat)(v:Nat):Option Ty:=if v∈l.take j then ga (.var<|cnt+1+l.idxOf v)else ha
def Hu{v v'}(B:v∈l)(i:v'∈l)(e:l.idxOf v=l.idxOf v'):v=v':=by
 have r:=List.getElem_idxOf<|List.idxOf_lt_length_iff.2 B;have A:=List.getElem_idxOf<|List.idxOf_lt_length_iff.2 i;simp only[e]at r;exact r.symm.trans A
def Cp(cnt:Nat)(l:List Nat)(r:l.Nodup){u:Nat->Prop}(A:∀n,u n->us cnt n):ql l qe (p7 cnt l) u (λn=>u n\/(cnt<n/\n<=cnt+l.length)) where
 fV v n h:=Pj
 out v h:=by simp[p7,h,qe]
 all v h:=by simp[p7,h]
 new v n _ h q:=by
  have:=A n q;rw[p7]at h;split at h
  .injection h with h;rw[us]at this;omega
  .cases h
 one v v' n _ h1 h2:=by
  rw[p7]at h1 h2;split at h1<;>split at h2
  .injection h1 with h1;injection h2 with h2;rename_i a b;exact Hu a b ae
  .cases h2
  .cases h1
  .cases h1
 use n:=by
  constructor
  .rintro(h|h)
   .exact qw h
   .right;have i:n-cnt-1<l.length:=ae;refine⟨l[n-cnt-1],rfl,?_⟩;rw[p7];rw[if_pos<|List.getElem_mem i,r.idxOf_getElem (n-cnt-1) i];congr 1;omega
  .rintro(h|⟨v,_,h⟩)
   .exact qw h
   .rw[p7]at h;split at h
    .rename_i hv;injection h with h;have:=List.idxOf_lt_length_iff.2 hv;exact qv ae
    .cases h
def agM c cnt l w gk v wr:=
 ∃j:Nat,Hid (gk=l.length-j)/\j<=l.length/\v=Nv j/\WE wr c (cnt+j)/\fA wr (λi=>i≠c.cb/\i≠w.heap.size) w.heap.size (anD cnt l j)/\Fr (λi=>i=c.cb) w wr/\Hid (w.heap.size<wr.heap.size)
def Hv c cnt l w(e:fa)w':=
 ∃b,e=.returned (Mv b)/\w.heap.size<=b/\WE w' c (cnt+l.length)/\fA w' (dF c) b (λv=>(p7 cnt l v).map zx)/\Fr (λi=>i=c.cb) w w'
def Xi(h:WE w c cnt){sa}{sc}(hv:qL w (dF c) sa l)(hn:l.Nodup)(hz:cnt+l.length<=1000000):aa xk 260 #[Pv c.eb,.slice sa l.length sc] w (Hv c cnt l w):=by
 have k1:Bq w (w.alloc<|.map #[] 0):=bw _;have zc:=h.dE;have W1:=h.af k1;have E:=ai h.l.2.2.2.2;have S1:=fA.new w<|λi=>i≠c.cb/\i≠w.heap.size;have K1:=ai k1;go_wp2
 go_loopg[11] l.length (λgk v wr=>agM c cnt l w gk v wr)
 case atStart=>
  refine⟨0,ai ag,zh _,rfl,W1,?_,Fr.of K1,ai ag⟩;have e:anD cnt l 0=λ_=>ha:=by funext v;simp[anD]
  rw[e];exact S1
 case round=>
  obtain⟨j,F,hj,rfl,C,V,G,I⟩:=hrel;by_cases bY:j<l.length
  .have hd:=kK bY;obtain⟨g,rfl,hg,J,B⟩:=hv.resolve_left<|λe=>qBs;have cg:=(zo (a:=⟨g,j,ha⟩)<|G.block g J hg).trans<|B j bY;obtain⟨m,K⟩:∃m,Hid<|m=cnt+j:=⟨_,ai rfl⟩;rw[<-uh K]at C;have HC:=oh m (by have:=uh K;omega) C.ct;have⟨N,Z⟩:=C.fresh;have S3:=V.fr Z (λe=>ae)<|λi p _=>p.1;have⟨c1,f1,z1⟩:=C.bx;have O:=G.trans Z;have nz:=C.d.1;have ZZ:w.heap.size<(wr.setCell ⟨c.cb,0,ha⟩<|Iv<|(m:Int)+1).heap.size:=(by have:=uh I;simp[zt];exact this);have T3:dq (wr.setCell ⟨c.cb,0,ha⟩<|Iv<|(m:Int)+1) (λi=>i≠c.cb/\i≠w.heap.size) (.var<|m+1) (Fv 182<|Iv<|(m:Int)+1):=(by have:=dq.var (w:=wr.setCell ⟨c.cb,0,ha⟩<|Iv<|(m:Int)+1) (P:=λi=>i≠c.cb/\i≠w.heap.size)<|m+1;simpa using this);generalize hx:l[j]=xx at*;go_wp2_with fail;refine HC.mono ?_;rintro e w3⟨rfl,rfl⟩;go_wp2_with(refine kU iB rfl _ _ _ (qv rfl) rfl S3 (λq=>q.2 rfl) T3 xx rfl rfl ?_;intro w4 H' O';have S4:=ai H';have O4:=ai O';clear H' O');go_roundg(l.length-(j+1))
   case measure=>rw[uh F];omega
   case rel=>
    have o:=uh O4;have em:=uh K;have fo:Fr (λi=>i=w.heap.size) (wr.setCell ⟨c.cb,0,ha⟩<|Iv<|(m:Int)+1) w4:=⟨o.os,o.tape,o.output,Vg,λi _ hi=>o.block i hi⟩;refine⟨j+1,ai rfl,ae,iF,?_,?_,?_,ai (by rw[o.size];exact ZZ)⟩
    .have A:=N;have e:cnt+(j+1)=m+1:=ae;rw[e];exact A.one o E
    .have e:anD cnt l (j+1)=eE (anD cnt l j) xx (ga<|.var<|m+1):=by
      funext v;rw[anD,eE];have A:v∈l.take (j+1)↔v∈l.take j\/v=xx:=by rw[List.take_succ_eq_append_getElem bY,hx,qy,List.mem_singleton]
      by_cases q:v=xx
      .subst q;have:l.idxOf v=j:=by rw[<-hx];exact hn.idxOf_getElem j bY
       rw[if_pos<|A.2<|qv rfl,if_pos rfl,this,em];congr 2;omega
      .rw[if_neg q];by_cases r:v∈l.take j
       .rw[if_pos<|A.2<|qw r];exact(if_pos r).symm
       .rw[if_neg<|λh=>(A.1 h).elim r q];exact(if_neg r).symm
     rw[e];exact S4
    .have f:=O;exact⟨o.os.trans f.os,o.tape.trans f.tape,o.output.trans f.output,by rw[o.size];exact f.size,λi hi hni=>(o.block i ae).trans<|f.block i hi hni⟩
  .have hd:=nN bY;have A:j=l.length:=ae;subst A
   go_wp2
   go_ret;refine⟨w.heap.size,rfl,br _,C,?_,G⟩;have e:anD cnt l l.length=λv=>(p7 cnt l v).map zx:=by
    funext v;rw[anD,p7];rw[List.take_length];by_cases q:v∈l
    .rw[if_pos q,if_pos q];rfl
    .rw[if_neg q,if_neg q];rfl
   rw[<-e];exact V.wide λi p=>p.1
structure WK w c cnt(s:jd)kb:Prop where
 k:KW w (dF c) kb s.k
 n:kb≠c.cb
 u:∀n,s.u n->us cnt n
 ok:In.Ok s
 wh:∀n,Whole<|s.k n
def LG{cnt}(i:l.Nodup)(h:∀n,n∈l->us cnt n):l.length<=cnt:=by
 have:=D8 (V:=(List.range cnt).map (·+1)) i λx hx=>by
  have q:=h x hx;rw[us]at q;exact List.mem_map.2 ⟨x-1,List.mem_range.2 ae,ae⟩
 simpa using this
def WK.Dq(h:WK w c cnt s kb)(hc:cnt<=1000000)(h1:1<=cnt\/True):vS s.k where
 wh:=h.wh
 len n:=by
  by_cases q:s.u n
  .refine xt (LG (dO _ xi) λm hm=>?_) hc;exact h.u m (h.ok.use n m q<|by simpa using(bC (s.k n) [] m).1 hm)
  .rw[h.ok.out n q];simp[vars,Un.seen]
structure WG w c s Λ(Γ:jc)gb:Prop where
 e:bW w (dF c) gb Γ
 n:gb≠c.cb
 i:jy Λ s Γ
 nd:∀y d,Γ y=ga d->d.any.Nodup
 dm:∀x,Γ x≠ha->x∈c.nl
def jN w:(zeroValue 358).run xk w=.ok (.agg #[.nilIface,.slice ha 0 0]) w:=qkr
def Xj c(d:qs)f t(s:jd)cnt w(e:fa)w':=Fr (λi=>i=c.cb) w w'/\
 ((48<size (sub s.k d.of)/\WE w' c cnt/\e=.panicked [{v:=guW ⟨7,f,t⟩ .nilIface .nilIface,recovered:=ia}])\/
  (size (sub s.k d.of)<=48/\WE w' c (cnt+d.any.length)/\∃ta xa,e=.returned (.iface ta xa)/\dq w' (dF c) (sub (jo<|p7 cnt d.any)<|sub s.k d.of) (.iface ta xa)))
def Pk cnt l:Dr (λv=>(p7 cnt l v).map zx)=jo (p7 cnt l):=by
 funext v;show((p7 cnt l v).map zx).getD (.var v)=_;rw[jo]
 cases p7 cnt l v<;>rfl
mutual
def ir(ρ:jv):∀t,size (sub (jo ρ) t)=size t
 |.var n=>by simp only[sub,jo];split<;>simp[size]|.aM c l=>by simp only[sub,size,Cq ρ l]
def Cq(ρ:jv):∀l,ak (aU (jo ρ) l)=ak l
 |[]=>rfl|t::l=>by simp only[aU,ak,ir ρ t,Cq ρ l]
end
def ph(ρ:jv)t(h:Whole t):Whole (sub (jo ρ) t):=cu t h λn _=>by rw[jo];split<;>trivial
end
abbrev BE(f:Fl)(vl vr:ea):fa:=.panicked [{v:=guW f vl vr,recovered:=ia}]
def aeh(c:WC)(S:Nat)(s:jd)(cnt:Nat)(w':ca)(aR:Nat)(e:fa)(o:Except qg (Ty×jd)):Prop:=match o with
 |.ok (T,s')=>(∀n,s'.u n->s.u n\/(cnt<n/\n<=aR))/\(∀n,Whole<|s'.k n)/\∃ta xa kb,e=.returned (.tuple #[.iface ta xa,Mv kb])/\kb≠c.cb/\KW w' (dF c) kb s'.k/\TW w' (dF c) S T (.iface ta xa)|.error z=>∃vl vr,e=BE z.f vl vr/\qM w' (dF c) z vl vr
def aZ c S D(p:ji Ty)(s:jd)cnt w e w':=Fr (λi=>i=c.cb) w w'/\∃aR o,cnt<=aR/\aR<=cnt+D/\WE w' c aR/\p s o/\aeh c S s cnt w' aR e o
structure Fit(c:WC)cnt n:Prop where
 a:cnt+1000*n<=850000
 b:n<=805
 l:c.nl.length<=1000000
def Fit.le{c:WC}{cnt n'}(h:Fit c cnt n)(h1:aR+1000*n'<=cnt+1000*n)(h2:n'<=n):Fit c aR n':=⟨by have:=h.a;omega,by have:=h.b;omega,h.l⟩
section
variable {c:WC} {cnt:Nat}
def WG.fr{s'}(h:WG w c s Λ Γ gb)(r:Fr (λi=>i=c.cb) w w')(A:In.Lu Λ s s'):WG w' c s' Λ Γ gb:=⟨h.e.fr r h.n<|λ_ p _=>p,h.n,h.i.run A,h.nd,h.dm⟩
def WG.af(h:WG w c s Λ Γ gb)(r:Bq w w'):WG w' c s Λ Γ gb:=⟨h.e.af r,h.n,h.i,h.nd,h.dm⟩
def WK.af(h:WK w c cnt s kb)(i:Bq w w'):WK w' c cnt s kb:=⟨h.k.af i,h.n,h.u,h.ok,h.wh⟩
structure DG(w w1:ca)c al(s s1:jd)(Λ:Nat->Prop)lP:Prop where
 k:WK w1 c al s1 lP
 n:∀n,¬s1.u n->Λ n
 p:qh Λ s s1
def Xk(A:WK w c cnt s kb)(C:∀n,¬s.u n->Λ n)(E:WG w c s Λ Γ gb)(F:jf mk x Γ s (.ok (T,s1)))(G:∀n,s1.u n->s.u n\/(cnt<n/\n<=al))(hcc:cnt<=al)(I:∀n,Whole<|s1.k n)(J:lP≠c.cb)(K:KW w1 (dF c) lP s1.k):DG w w1 c al s s1 Λ lP/\jm Λ s1 T:=by
 have⟨g1,B⟩:=In.oj mk x Γ s Λ A.ok C E.i T s1 F;exact⟨⟨⟨K,J,λn q=>by obtain r|r:=G n q;have:=A.u n r;unfold us at*;omega;rw[us];omega,g1.ok,I⟩,g1.new,g1⟩,B⟩
def mZ c cnt(s:jd)Λ x y f t w e w':=Bq w w'/\∃o,jp x y f t s o/\match o with
 |.ok (_,s')=>qh Λ s s'/\∃b,e=.returned (Mv b)/\WK w' c cnt s' b|.error z=>∃vl vr,e=BE z.f vl vr/\qM w' (dF c) z vl vr
def D9{p:Prop}(h:p:=by
 obtain⟨_,q'⟩|⟨_,_,⟨θ,_,q'⟩|⟨_,q'⟩⟩:=ho
 .cases q'
 .grind
 .cases q'):p:=h
def agN(h:WE w c cnt)(r:WK w c cnt s kb)(F:∀n,¬s.u n->Λ n)(hc:cnt<=1000000)(G:S<=900000){x:Ty}(I:TW w (dF c) S x v)(J:TW w (dF c) S y u)(K:jm Λ s x)(ty:jm Λ s y)f t:
 aa xk 231 #[Mv kb,v,u,.agg #[Nv f,Nv t]] w (mZ c cnt s Λ x y f t w):=by
 have zc:=h.dE;refine(Hw r.k r.n (r.Dq hc<|qv trivial) G I J f t s.u).mono ?_;rintro e w1⟨k1,o,ho,B⟩;refine⟨k1,o,ho,?_⟩
 cases o with
 |ok q=>
  obtain⟨b,rfl,hb,A,C⟩:=B;have⟨g1,_⟩:=In.fE (s:=s) r.ok F K ty f t q.1 q.2 ho;have E:q.2.u=s.u:=by
   exact D9
  exact⟨g1,b,rfl,⟨A.wide λi p=>by obtain p|p:=p;exact p;show i≠c.cb;omega,ae,λn q=>r.u n<|E▸q,g1.ok,C⟩⟩
 |error z=>
  obtain⟨vl,vr,rfl,A⟩:=B;refine⟨vl,vr,rfl,A.p9,λq=>?_,A.k⟩;have C:∀i,(dF c i\/w.heap.size<=i)->dF c i:=λi p=>by obtain p|p:=p;exact p;show i≠c.cb;omega
  exact⟨(A.apart q).1.wide C,(A.apart q).2.wide C⟩
def aeB(s:jd)x y:=size (sub s.k x)<=48/\size (sub s.k y)<=48/\∃σ,sub σ (sub s.k x)=sub σ (sub s.k y)
def AW c cnt(s:jd)Λ x y f t w(e:fa)w':=∃b,e=.returned (Mv b)/\Bq w w'/\∃s',jp x y f t s (.ok ((),s'))/\qh Λ s s'/\WK w' c cnt s' b/\s'.u=s.u
def Xl c(s:jd)x y f t w e w':=∃fl vl vr,e=BE fl vl vr/\Bq w w'/\∃z,z.f=fl/\jp x y f t s (.error z)/\qM w' (dF c) z vl vr
def mZ.ok{x y}{f t}{e}(h:mZ c cnt s Λ x y f t w e w')(hc:aeB s x y):AW c cnt s Λ x y f t w e w':=by
 obtain⟨k1,o,ho,i⟩:=h;obtain⟨a1,a2,σ,A⟩:=hc
 cases o with
 |ok q=>
  obtain⟨g,b,rfl,B⟩:=i;refine⟨b,rfl,k1,q.2,ho,g,B,?_⟩;exact D9
 |error z=>
  exfalso;obtain⟨r,_⟩|⟨_,_,⟨θ,_,q'⟩|⟨r,_⟩⟩:=ho
  .omega
  .cases q'
  .exact r σ A
def mZ.no{x:Ty}(h:mZ c cnt s Λ x y f t w e w')(hc:¬aeB s x y):Xl c s x y f t w e w':=by
 obtain⟨k1,o,A,B⟩:=h
 cases o with
 |ok q=>
  exfalso;obtain⟨_,i⟩|⟨C,E,⟨θ,r,i⟩|⟨_,i⟩⟩:=A
  .cases i
  .exact hc ⟨C,E,θ,r.one⟩
  .cases i
 |error z=>
  obtain⟨vl,vr,rfl,i⟩:=B;exact⟨z.f,vl,vr,rfl,k1,z,rfl,A,i⟩
end
mutual
def pj:Nd->List BA
 |.mk k s _ L _ _ _=>if k=1 then[s]else m_ L
def m_:List Nd->List BA
 |[]=>[]|x::l=>pj x++m_ l
end
inductive rE(mk:jj)(nl:List BA):Nd->Prop where
 |leaf(k:Nat)(s:BA)(n f t a:Nat)(h:k=15\/k=3\/k=4\/k=5):rE mk nl (.mk k s n [] f t a)
 |low(s:BA)(n f t a:Nat)(h:s∈nl):rE mk nl (.mk 1 s n [] f t a)
 |pr(s:BA)(n:Nat)(x y:Nd)(f t a:Nat)(hx:rE mk nl x)(hy:rE mk nl y):rE mk nl (.mk 6 s n [x,y] f t a)
 |up(s:BA)(n:Nat)(L:List Nd)(f t a:Nat)(tk:List Ty)(m:Ty)(h:mk s=ga (tk,m))(hl:L.length=tk.length)(hr:∀i(h:i<L.length),rE mk nl L[i]):rE mk nl (.mk 2 s n L f t a)
inductive ScE(mk:jj)(nl:List BA):(BA->Prop)->Nd->Prop where
 |low(dom:BA->Prop)(s:BA)(n f t a:Nat)(h:dom s):ScE mk nl dom (.mk 1 s n [] f t a)
 |up(dom:BA->Prop)(s:BA)(n f t a:Nat)(tk:List Ty)(m:Ty)(h:mk s=ga (tk,m)):ScE mk nl dom (.mk 2 s n [] f t a)
 |leaf(dom:BA->Prop)(k:Nat)(s:BA)(n f t a:Nat)(h:k=3\/k=4\/k=5):ScE mk nl dom (.mk k s n [] f t a)
 |two(dom:BA->Prop)(k:Nat)(s:BA)(n:Nat)(x y:Nd)(f t a:Nat)(h:k=6\/k=7\/k=8)(hx:ScE mk nl dom x)(hy:ScE mk nl dom y):ScE mk nl dom (.mk k s n [x,y] f t a)
 |of(dom:BA->Prop)(s:BA)(n:Nat)(x y:Nd)(f t a:Nat)(hx:ScE mk nl dom x)(hv:vars [] (bm []<|es y).1=[])(hz:size (bm []<|es y).1<=1000)(hw:Whole (bm []<|es y).1):ScE mk nl dom (.mk 14 s n [x,y] f t a)
 |fn(dom:BA->Prop)(s:BA)(n:Nat)(x:Nd)(f t a:Nat)(hs:s∈nl)(hx:ScE mk nl (λv=>dom v\/v=s) x):ScE mk nl dom (.mk 9 s n [x] f t a)
 |lt(dom:BA->Prop)(c:Nat)(s:BA)(n:Nat)(x z:Nd)(f t a:Nat)(hs:s∈nl)(hc:c=10\/c=11)(hx:ScE mk nl (λv=>dom v\/(c=11/\v=s)) x)(hz:ScE mk nl (λv=>dom v\/v=s) z):ScE mk nl dom (.mk c s n [x,z] f t a)
 |ite(dom:BA->Prop)(s:BA)(n:Nat)(x y z:Nd)(f t a:Nat)(hx:ScE mk nl dom x)(hy:ScE mk nl dom y)(hz:ScE mk nl dom z):ScE mk nl dom (.mk 12 s n [x,y,z] f t a)
 |mt(dom:BA->Prop)(s:BA)(n:Nat)(x:Nd)(A:List (Nd×Nd))(f t a:Nat)(hx:ScE mk nl dom x)(hp:∀i(h:i<A.length),rE mk nl A[i].1)(he:∀i(h:i<A.length),ScE mk nl (λv=>dom v\/v∈pj A[i].1) A[i].2):ScE mk nl dom (.mk 13 s n (x::aN A) f t a)
structure MkFine(mk:jj):Prop where
 sz:∀x tk m,mk x=ga (tk,m)->size (jl tk m)<=1000
 wh:∀x tk m,mk x=ga (tk,m)->Whole (jl tk m)
 vs:∀x tk m,mk x=ga (tk,m)->∀n,aA n (jl tk m)->aA n m
structure Bz nd c w cnt(s:jd)kb(Λ:Nat->Prop)(Γ:jc)gb Q dom v:Prop where
 we:WE w c cnt
 wk:WK w c cnt s kb
 hn:∀n,¬s.u n->Λ n
 wg:WG w c s Λ Γ gb
 pe:PE w Q nd v
 hq:∀b,Q b->b≠c.cb
 sc:ScE c.mks c.nl dom nd
 hd:∀x,dom x->Γ x≠ha
 ft:Fit c cnt (nn nd)
 mf:MkFine c.mks
def AP nd:=∀(c:WC)(w:ca)(cnt:Nat)(s:jd)(kb:Nat)(Λ:Nat->Prop)(Γ:jc)(gb:Nat)(Q:Nat->Prop)(dom:BA->Prop)(v:ea),Bz nd c w cnt s kb Λ Γ gb Q dom v->
 aa xk 230 #[Pv c.eb,Mv kb,Mv gb,v] w (aZ c (1100*nn nd) (1000*nn nd) (jf c.mks nd Γ) s cnt w)
section
variable {c:WC} {cnt:Nat}
def Bz.part(h:Bz nd c w cnt s kb Λ Γ gb Q dom v)(i:Bq w w1)(r:PE w Q x u)(A:ScE c.mks c.nl dom x)(B:nn x<=nn nd):Bz x c w1 cnt s kb Λ Γ gb Q dom u:=
 ⟨h.we.af i,h.wk.af i,h.hn,h.wg.af i,r.af i,h.hq,A,h.hd,h.ft.le ae B,h.mf⟩
end
section
variable {c:WC} {cnt:Nat}
def Gf(mk:jj)s n x y f t a(Γ:jc):jf mk (.mk 8 s n [x,y] f t a) Γ=ja (jf mk x Γ) λa=>ja (jf mk y Γ) λb=>ja j6 λv=>ja (jp a (j9 b<|.var v) f t) λ_=>jk<|.var v:=by simp[jf,jz,j7,j8]
def yT(h:WK w c cnt s kb)(B:∀n,¬s.u n->Λ n)(C:Fr (λi=>i=c.cb) w w1):j6 s (.ok (cnt+1,⟨s.k,λn=>s.u n\/n=cnt+1⟩))/\DG w w1 c (cnt+1) s ⟨s.k,λn=>s.u n\/n=cnt+1⟩ Λ kb/\jm Λ ⟨s.k,λn=>s.u n\/n=cnt+1⟩ (.var<|cnt+1):=by
 have r:j6 s (.ok (cnt+1,⟨s.k,λn=>s.u n\/n=cnt+1⟩)):=⟨cnt+1,λq=>by have:=h.u _ q;unfold us at this;omega,rfl⟩;have⟨g1,A,_⟩:=In.ie h.ok B _ _ r;exact⟨r,⟨⟨h.k.fr C h.n<|λ_ p _=>p,h.n,λn q=>by obtain q|q:=q;have:=h.u n q;unfold us at*;omega;unfold us;omega,g1.ok,h.wh⟩,g1.new,g1⟩,A⟩
def adq:CN rG:=qw rfl
def Xm:rG≠rI:=by grind[rI]
def Xn:pq≠rI:=by grind[rI]
def TW.fn(I:TW w (dF c) S1 a va)(J:TW w (dF c) S2 b vb)(hc:c.cb<w.heap.size):TW (w.alloc<|.cells #[va,vb] 105) (dF c) (1+S1+S2) (j9 a b) (.iface 194<|.agg #[.string<|pn rG,.slice (ga ⟨w.heap.size,0,ha⟩) 2 2]):=by
 obtain⟨⟨i,r,A,z1⟩,B⟩:=I;obtain⟨⟨C,E,F,z2⟩,G⟩:=J;exact⟨⟨.aM rG [i,C],nc.ty adq r E (by show w.heap.size≠c.cb;omega),dr.aew rG Xm A F,by simp only[size,ak];omega⟩,⟨Xm,B,G,trivial⟩⟩
def aaS{s}(i:jm Λ s a)(r:jm Λ s b):jm Λ s (j9 a b):=by
 refine⟨λn q=>?_,λn q=>?_⟩
 .simp only[aA,bZ,or_false]at q;exact q.elim (i.use n)<|r.use n
 .simp only[sub,aU,aA,bZ,or_false]at q;exact q.elim (i.loc n)<|r.loc n
def mZ.or{x}(h:mZ c cnt s Λ x y f t w e w'):Xl c s x y f t w e w'\/AW c cnt s Λ x y f t w e w':=by
 by_cases hc:aeB s x y
 .exact qv (h.ok hc)
 .exact qw (h.no hc)
end
section
variable {c:WC} {cnt:Nat}
def LN(mk:jj)s n x f t a(Γ:jc):jf mk (.mk 9 s n [x] f t a) Γ=ja j6 λv=>ja (jf mk x<|jq Γ s<|qi<|.var v) λa=>jk<|j9 (.var v) a:=by simp[jf,jz,j7,j8]
def pi w c n S(h:1<=S):TW w (dF c) S (.var<|n+1) (.iface 182<|Iv<|(n:Int)+1):=TW.of (x:=.var<|n+1) (by have:=dq.var (w:=w) (P:=dF c)<|n+1;simpa using this) trivial (by simpa[size]using h)
def Gg(h:TW w (dF c) S T (.iface ta xa))(i:S<=900000):nL w (dF c) (qi T) (.agg #[.iface ta xa,.slice ha 0 0]):=⟨ta,xa,ha,0,rfl,h.le i,qw rfl⟩
def WG.set{w':ca}{r:Nat}{d:qs}{x:BA}(h:WG w c s Λ Γ gb)(A:bW w' (dF c) r (jq Γ x d))(B:r≠c.cb)(C:In.nH Λ s d)(hd:d.any.Nodup)(E:x∈c.nl):WG w' c s Λ (jq Γ x d) r where
 e:=A
 n:=B
 i:=h.i.set x C
 nd y d' q:=by
  rw[jq]at q;split at q
  .grind
  .exact h.nd y d' q
 dm y q:=by
  rw[jq]at q;split at q
  .rename_i e;rw[e];exact E
  .exact h.dm y q
def DI{x}(h:∀y,dom y->Γ y≠ha):∀y,(dom y\/y=x)->jq Γ x d y≠ha:=λy q=>by
 rw[jq];split
 .simp
 .grind
end
structure aa6(c:WC)S D(m:ji Ty)(s:jd)cnt w(al:Nat)(T:Ty)(s1:jd)(ta:TypeId)(xa:ea)(lP:Nat)(w':ca):Prop where
 F:Fr (λi=>i=c.cb) w w'
 c1:cnt<=al
 c2:al<=cnt+D
 we:WE w' c al
 m:m s (.ok (T,s1))
 u:∀n,s1.u n->s.u n\/(cnt<n/\n<=al)
 wh:∀n,Whole<|s1.k n
 n:lP≠c.cb
 k:KW w' (dF c) lP s1.k
 t:TW w' (dF c) S T (.iface ta xa)
structure aeC{α:Type}(c:WC)D(m:ji α)(s:jd)cnt w(al:Nat)(z:qg)(vl vr:ea)(w':ca):Prop where
 F:Fr (λi=>i=c.cb) w w'
 c1:cnt<=al
 c2:al<=cnt+D
 we:WE w' c al
 m:m s (.error z)
 f:qM w' (dF c) z vl vr
section
variable {c:WC} {cnt:Nat} {m:ji α} {g:α->ji Ty} {a:α}
def Pl{p:Prop}(h:p:=by
 split
 .obtain⟨q1,q2⟩:=h5;refine⟨λn q=>?_,q2⟩;obtain r|r:=q1 n q
  .grind
  .omega
 .exact h5):p:=h
def aZ.and(h:aZ c S D1 (g a) s1 al w1 e w')(C:m s (.ok (a,s1)))(E:Fr (λi=>i=c.cb) w w1)(hc:cnt<=al)(hu:∀n,s1.u n->s.u n\/(cnt<n/\n<=al))(hD:al+D1<=cnt+D):aZ c S D (ja m g) s cnt w e w':=by
 obtain⟨F,aR,o,h1,h2,A,B,h5⟩:=h;refine⟨E.trans F,aR,o,ae,ae,A,qv ⟨a,s1,C,B⟩,?_⟩;unfold aeh at*;exact Pl
def Pm{p:Prop}(h:p:=by
 obtain⟨vl,vr,rfl,hF⟩:=h5
 exact qw ⟨aR,z,vl,vr,rfl,F,h1,h2,h3,h4,hF⟩):p:=h
def aZ.split{m}(h:aZ c S D m s cnt w e w'):(∃al z vl vr,e=BE z.f vl vr/\aeC c D m s cnt w al z vl vr w')\/(∃al T s1 ta xa lP,e=.returned (.tuple #[.iface ta xa,Mv lP])/\aa6 c S D m s cnt w al T s1 ta xa lP w'):=by
 obtain⟨F,aR,o,h1,h2,h3,h4,h5⟩:=h;obtain z|⟨T,s1⟩:=o
 .exact Pm
 .obtain⟨i,r,ta,xa,kb,rfl,A,B,C⟩:=h5;exact qv ⟨aR,T,s1,ta,xa,kb,rfl,F,h1,h2,h3,h4,i,r,A,B,C⟩
def aeC.post(h:aeC c D1 m s cnt w0 al z vl vr w')(r:Fr (λi=>i=c.cb) w w0)(hD:D1<=D):aZ c S D (ja m g) s cnt w (BE z.f vl vr) w':=⟨r.trans h.F,al,.error z,h.c1,by have:=h.c2;omega,h.we,qw ⟨z,h.m,rfl⟩,vl,vr,rfl,h.f⟩
def Pn(A:WE w c cnt)(r:WK w c cnt s kb)(B:TW w (dF c) S T (.iface ta xa))(C:Fr (λi=>i=c.cb) w0 w):aZ c S D (jk T) s cnt w0 (.returned<|.tuple #[.iface ta xa,Mv kb]) w:=⟨C,cnt,.ok (T,s),br _,ae,A,rfl,λn q=>qw q,r.wh,ta,xa,kb,rfl,r.n,r.k,B⟩
def Xl.post{x:Ty}(h:Xl c s x y f t w0 e w')(C:WE w0 c cnt)(E:Fr (λi=>i=c.cb) w w0){g}:∃fl vl vr,e=BE fl vl vr/\aZ c S D (ja (jp x y f t) g) s cnt w e w':=by
 obtain⟨fl,vl,vr,rfl,r,z,rfl,A,B⟩:=h;exact⟨z.f,vl,vr,rfl,E.trans<|Fr.of r,cnt,.error z,br _,ae,C.af r,qw ⟨z,A,rfl⟩,vl,vr,rfl,B⟩
def AW.up{x:Ty}(h:AW c cnt s Λ x y f t w0 e w')(i:Bq w w0):AW c cnt s Λ x y f t w e w':=by
 obtain⟨b,r,A,B⟩:=h;exact⟨b,r,i.trans<|A.mono i.size,B⟩
def DG.and{w2}{dH kb2}{s2}(h:DG w w1 c al s s1 Λ lP)(k:DG w1 w2 c dH s1 s2 Λ kb2):DG w w2 c dH s s2 Λ kb2:=⟨k.k,k.n,h.p.trans k.p⟩
def aa6.step{mk}{x}{T}{ta}{xa}(q:aa6 c S D (jf mk x Γ) s cnt w0 al T s1 ta xa lP w1)(i:WK w c cnt s kb)(r:∀n,¬s.u n->Λ n)(A:WG w c s Λ Γ gb):DG w w1 c al s s1 Λ lP/\jm Λ s1 T:=Xk i r A q.m q.u q.c1 q.wh q.n q.k
def Cl c S D(p:ji Ty)(s:jd)cnt w D1(p1:ji Ty)(s1:jd)al w1:=∀e w',aZ c S D1 p1 s1 al w1 e w'->aZ c S D p s cnt w e w'
def Cl.refl c S D(p:ji Ty)(s:jd)cnt w:Cl c S D p s cnt w D p s cnt w:=λ_ _ h=>h
def Cl.and{p}{w2}{dH}{s2}(h:Cl c S D p s cnt w D1 (ja m g) s1 al w1)(r:m s1 (.ok (a,s2)))(A:Fr (λi=>i=c.cb) w1 w2)(hc:al<=dH)(B:∀n,s2.u n->s1.u n\/(al<n/\n<=dH)){D2}(C:dH+D2<=al+D1):Cl c S D p s cnt w D2 (g a) s2 dH w2:=λe w' hh=>h e w'<|hh.and r A hc B C
def uZ{k}(B:p_ k)w c S(h:1<=S):TW w (dF c) S (.aM k []) (.iface 194<|.agg #[.string k,.slice ha 0 0]):=by
 have q:=dq.aM (w:=w) (P:=dF c) k [] ha 0 (λ_=>Zv) (qw<|qv<|qv B) (qw rfl)<|λi h=>vB;rw[e9 B]at q;exact TW.of q ⟨λe=>by obtain⟨a,r,A,C⟩:=B;rw[e,show rI.toList=[116,111,111,32,108,97,114,103,101]from toList_mk _]at A;injection A with A _;subst A;revert C;decide,trivial⟩ (by simpa[size,ak]using h)
def tS k:jm Λ s (.aM k []):=⟨λn q=>by simp[aA,bZ]at q,λn q=>by simp[sub,aU,aA,bZ]at q⟩
end
section
variable {c:WC} {cnt:Nat}
def Ol(mk:jj)s n x y z f t a(Γ:jc):jf mk (.mk 12 s n [x,y,z] f t a) Γ=ja (jf mk x Γ) λa=>ja (jp a In.nX (ju x)<|jx x) λ_=>ja (jf mk y Γ) λb=>ja (jf mk z Γ) λc=>ja (jp b c (ju z)<|jx z) λ_=>jk b:=by simp[jf,jz,j7,j8,In.iH]
end
section
variable {c:WC} {cnt:Nat} {p:ji Ty}
def aZ.below(h:aZ c S D p s cnt w0 e w')(i:Bq w w0):aZ c S D p s cnt w e w':=⟨(Fr.of i).trans h.1,h.2⟩
def Dsp w c cnt(s:jd)kb gb S D(p:ji Ty)fn T xs:=
 (∀W:ca,Bq w W->aa xk fn #[Pv c.eb,Mv kb,Mv gb,.agg xs] W (aZ c S D p s cnt W))->
  aa xk 230 #[Pv c.eb,Mv kb,Mv gb,.iface T<|.agg xs] w (aZ c S D p s cnt w)
def GB:
 (∀{tx ty ax ay},Dsp w c cnt s kb gb S D p 245 256 #[Nv f,Nv t,.iface tx ax,.iface ty ay])/\
 (∀{tx ty ax ay},Dsp w c cnt s kb gb S D p 246 258 #[Nv f,Nv t,.iface tx ax,.iface ty ay])/\
 (∀{tx ty ax ay},Dsp w c cnt s kb gb S D p 252 269 #[Nv f,Nv t,.iface tx ax,.iface ty ay])/\
 (∀{a y:Nat}{st tx ax},Dsp w c cnt s kb gb S D p 247 239 #[Nv f,Nv t,Nv a,Nv y,.string st,.iface tx ax])/\
 (∀{a y:Nat}{rc st tx tz ax az},Dsp w c cnt s kb gb S D p 248 241 #[Nv f,Nv t,.bool rc,Nv a,Nv y,.string st,.iface tx ax,.iface tz az])/\
 (∀{tx ty tz ax ay az},Dsp w c cnt s kb gb S D p 249 243 #[Nv f,Nv t,.iface tx ax,.iface ty ay,.iface tz az])/\
 (∀{n sc sa tx ax},Dsp w c cnt s kb gb S D p 250 250 #[Nv f,Nv t,.iface tx ax,.slice sa n sc])/\
 (∀{st tx ty ax ay},Dsp w c cnt s kb gb S D p 251 216 #[Nv f,Nv t,.string st,.iface tx ax,.iface ty ay]):=by
 refine⟨?_,?_,?_,?_,?_,?_,?_,?_⟩;all_goals
  intros;intro H;go_in;go_wp;refine(H _<|bw _).mono ?_;intro e w1 i;have r:=ai<|i.below<|bw _;obtain⟨al,zz,vl,vr,rfl,q⟩|⟨al,T1,s1,ta1,xa1,lP,rfl,q⟩:=i.split
  .go_wp2
   exact⟨rfl,r⟩
  .go_wp2
   go_ret2;exact r
def Wc(C:WE w c cnt)(E:WK w c cnt s kb)(B:1<=S):
 (∀n:Nat,aa xk 230 #[Pv c.eb,Mv kb,Mv gb,.iface 200<|.agg #[Nv f,Nv t,Nv n]] w<|aZ c S D (jk<|.aM t_ []) s cnt w)/\
 (∀n:Bool,aa xk 230 #[Pv c.eb,Mv kb,Mv gb,.iface 203<|.agg #[Nv f,Nv t,.bool n]] w<|aZ c S D (jk<|.aM lV []) s cnt w)/\
 aa xk 230 #[Pv c.eb,Mv kb,Mv gb,.iface 254<|.agg #[Nv f,Nv t]] w (aZ c S D (jk<|.aM kQ []) s cnt w):=by
 have r:=ai C;have A:=ai E;clear C E;refine⟨λn=>?_,λn=>?_,?_⟩;all_goals
  go_in;go_wp;first|refine rN.mono ?_|refine nY.mono ?_|refine yF.mono ?_
  rintro e w1⟨rfl,rfl⟩
  go_wp2
  go_ret2;have i:=(zi w.heap.size w).alloc<|br _;first|exact Pn (r.af<|i _) (A.af<|i _) (uZ mH _ c _ B) (Fr.of<|i _)|exact Pn (r.af<|i _) (A.af<|i _) (uZ kO _ c _ B) (Fr.of<|i _)|exact Pn (r.af<|i _) (A.af<|i _) (uZ r_ _ c _ B)<|Fr.of<|i _
end
abbrev pN(c:WC)gv i:=i≠c.cb/\i≠gv
structure BG w c gv cnt(s:jd)kb:Prop where
 k:KW w (pN c gv) kb s.k
 n:pN c gv kb
 u:∀n,s.u n->us cnt n
 ok:In.Ok s
 wh:∀n,Whole<|s.k n
section
variable {c:WC} {cnt:Nat}
def BG.wk(h:BG w c gv cnt s kb):WK w c cnt s kb:=⟨h.k.wide λ_ p=>p.1,h.n.1,h.u,h.ok,h.wh⟩
def BG.of(h:WK w c cnt s kb)(hg:w.heap.size<=gv):BG w c gv cnt s kb:=⟨h.k.move (br _) rfl (λ_ _ _=>rfl) (λi p z=>⟨p,ae⟩),⟨h.n,by have:=h.k.lt;omega⟩,h.u,h.ok,h.wh⟩
def BG.fr(h:BG w c gv cnt s kb)(r:Fr (λi=>i=c.cb\/i=gv) w w'):BG w' c gv cnt s kb:=⟨h.k.fr r (λq=>q.elim h.n.1 h.n.2)<|λi p _ q=>q.elim p.1 p.2,h.n,h.u,h.ok,h.wh⟩
def BG.af(h:BG w c gv cnt s kb)(i:Bq w w'):BG w' c gv cnt s kb:=h.fr<|Fr.of i
def agO c gv cnt(s:jd)Λ x y f t w(e:fa)w':=∃b,e=.returned (Mv b)/\Bq w w'/\∃s',jp x y f t s (.ok ((),s'))/\qh Λ s s'/\BG w' c gv cnt s' b/\s'.u=s.u
def agk(h:WE w c cnt)(hg:gv<w.heap.size)(r:BG w c gv cnt s kb)(F:∀n,¬s.u n->Λ n)(hc:cnt<=1000000)(G:S<=900000){x}(I:TW w (pN c gv) S x v)(J:TW w (pN c gv) S y u)(K:jm Λ s x)(ty:jm Λ s y)f t:
 aa xk 231 #[Mv kb,v,u,.agg #[Nv f,Nv t]] w (λe w'=>Xl c s x y f t w e w'\/agO c gv cnt s Λ x y f t w e w'):=by
 have zc:=h.dE;refine(Hw r.k r.n (r.wk.Dq hc<|qv trivial) G I J f t s.u).mono ?_;rintro e w1⟨k1,o,ho,B⟩
 cases o with
 |ok q=>
  obtain⟨b,rfl,hb,C,E⟩:=B;have⟨g1,_⟩:=In.fE (s:=s) r.ok F K ty f t q.1 q.2 ho;have A:q.2.u=s.u:=by
   exact D9
  exact qv ⟨b,rfl,k1,q.2,ho,g1,⟨C.wide λi p=>by obtain p|p:=p;exact p;exact⟨ae,ae⟩,⟨ae,ae⟩,λn q=>r.u n<|A▸q,g1.ok,E⟩,A⟩
 |error z=>
  obtain⟨vl,vr,rfl,A⟩:=B;refine qw ⟨z.f,vl,vr,rfl,k1,z,rfl,ho,A.p9,λq=>?_,A.k⟩;have C:∀i,(pN c gv i\/w.heap.size<=i)->dF c i:=λi p=>by obtain p|p:=p;exact p.1;show i≠c.cb;omega
  exact⟨(A.apart q).1.wide C,(A.apart q).2.wide C⟩
end
def agP(c:WC)(gv S:Nat)(s:jd)(cnt:Nat)(w':ca)(aR:Nat)(e:fa)(o:Except qg ((Ty×jc)×jd)):Prop:=match o with
 |.ok ((T,g'),s')=>(∀n,s'.u n->s.u n\/(cnt<n/\n<=aR))/\(∀n,Whole<|s'.k n)/\∃ta xa kb,e=.returned (.tuple #[.iface ta xa,Mv kb])/\pN c gv kb/\KW w' (pN c gv) kb s'.k/\TW w' (pN c gv) S T (.iface ta xa)/\bW w' (pN c gv) gv g'|.error z=>∃vl vr,e=BE z.f vl vr/\qM w' (dF c) z vl vr
def eF c gv S D(p:ji (Ty×jc))(s:jd)cnt w e w':=Fr (λi=>i=c.cb\/i=gv) w w'/\∃aR o,cnt<=aR/\aR<=cnt+D/\WE w' c aR/\p s o/\agP c gv S s cnt w' aR e o
structure PaA nd c w cnt(s:jd)kb(Λ:Nat->Prop)g gv Q v:Prop where
 we:WE w c cnt
 wk:BG w c gv cnt s kb
 hn:∀n,¬s.u n->Λ n
 e:bW w (pN c gv) gv g
 i:jy Λ s g
 l:c.fU<=gv
 pp:PP w Q nd v
 hq:∀b,Q b->b≠c.cb/\b≠gv
 sc:rE c.mks c.nl nd
 ft:Fit c cnt (nn nd)
 mf:MkFine c.mks
def Vw nd:=∀(c:WC)(w:ca)(cnt:Nat)(s:jd)(kb:Nat)(Λ:Nat->Prop)(g:jc)(gv:Nat)(Q:Nat->Prop)(v:ea),PaA nd c w cnt s kb Λ g gv Q v->
 aa xk 264 #[Pv c.eb,Mv kb,Mv gv,v] w (eF c gv (1100*nn nd) (1000*nn nd) (jh c.mks nd g) s cnt w)
section
variable {c:WC} {cnt:Nat}
def adr(A:WE w c cnt)(r:BG w c gv cnt s kb)(B:TW w (pN c gv) S T (.iface ta xa))(C:bW w (pN c gv) gv g)(E:Fr (λi=>i=c.cb\/i=gv) w0 w):eF c gv S D (jk (T,g)) s cnt w0 (.returned<|.tuple #[.iface ta xa,Mv kb]) w:=⟨E,cnt,.ok ((T,g),s),br _,ae,A,rfl,λn q=>qw q,r.wh,ta,xa,kb,rfl,r.n,r.k,B,C⟩
def agQ{k}(A:p_ k)w c gv S(h:1<=S):TW w (pN c gv) S (.aM k []) (.iface 194<|.agg #[.string k,.slice ha 0 0]):=TW.of (H8 w _ A) ⟨λe=>by obtain⟨a,r,i,B⟩:=A;rw[e,show rI.toList=[116,111,111,32,108,97,114,103,101]from toList_mk _]at i;injection i with i _;subst i;revert B;decide,trivial⟩ (by simpa[size,ak]using h)
def D_ w c gv n S(h:1<=S):TW w (pN c gv) S (.var<|n+1) (.iface 182<|Iv<|(n:Int)+1):=TW.of (x:=.var<|n+1) (by have:=dq.var (w:=w) (P:=pN c gv)<|n+1;simpa using this) trivial (by simpa[size]using h)
end
def Ds{cn}(B:k=3/\cn=t_\/k=4/\cn=lV\/k=5/\cn=kQ)st n f t a:Vw (.mk k st n [] f t a):=by
 intro c w cnt s kb Λ g gv Q v h;have E:p_ cn:=by obtain⟨-,rfl⟩|⟨-,rfl⟩|⟨-,rfl⟩:=B;exact mH;exact kO;exact r_
 have en:nn (.mk k st n [] f t a)=1:=qBi;have C:jh c.mks (.mk k st n [] f t a) g=jk (.aM cn [],g):=by obtain⟨rfl,rfl⟩|⟨rfl,rfl⟩|⟨rfl,rfl⟩:=B<;>simp[jh,j3]
 rw[en,C];have r:=h.pp;obtain⟨T,i,rfl,F⟩:∃T i,v=Fv T (Av i)/\(T=200/\cn=t_/\(∃n:Nat,i=#[Nv f,Nv t,Nv n])\/T=203/\cn=lV/\(∃n:Bool,i=#[Nv f,Nv t,.bool n])\/T=254/\cn=kQ/\i=#[Nv f,Nv t]):=by
  obtain⟨rfl,rfl⟩|⟨rfl,rfl⟩|⟨rfl,rfl⟩:=B
  .cases r;exact⟨_,_,rfl,qw ⟨rfl,rfl,_,rfl⟩⟩
  .cases r;exact⟨_,_,rfl,qv<|qw ⟨rfl,rfl,_,rfl⟩⟩
  .cases r;exact⟨_,_,rfl,qv<|qv ⟨rfl,rfl,rfl⟩⟩
 have A:=(zi w.heap.size w).alloc (br _)<|Cv i T;have G:=h.we.af A;have I:=h.wk.af A;have J:=h.e.af A;have K:=ai A;clear B r C;obtain⟨rfl,rfl,n,rfl⟩|⟨rfl,rfl,n,rfl⟩|⟨rfl,rfl,rfl⟩:=F;all_goals
  go_in;go_wp;first|refine rN.mono ?_|refine nY.mono ?_|refine yF.mono ?_
  rintro e w1⟨rfl,rfl⟩
  go_wp2
  go_ret2;exact adr G I (agQ E _ c gv _ ae) J<|Fr.of K
def adW st n f t a:Vw (.mk 15 st n [] f t a):=by
 intro c w cnt s kb Λ g gv Q v h;have en:nn (.mk 15 st n [] f t a)=1:=qBi;have ep:jh c.mks (.mk 15 st n [] f t a) g=ja j6 λv=>jk (.var v,g):=by simp[jh,j3]
 rw[en,ep];obtain⟨-,rfl⟩:∃_:Unit,v=Fv 259 (Av #[Nv f,Nv t]):=by cases h.pp;exact⟨(),rfl⟩
 have F:Bq w (w.alloc<|Cv #[Nv f,Nv t] 259):=bw _;have zc:=h.we.dE;have I:=h.ft.a;rw[en]at I;have W0:=ai<|h.we.af F;have⟨e1,e2,e3⟩:=h.we.bx;have Z:=oh cnt ae (h.we.af F).ct;have HA:=ai h;have K0:=ai F;have lg:=h.e.lt;have ll:=h.l;have lc:=h.we.l;clear h F;go_in;go_wp;refine Z.mono ?_;rintro e w3⟨rfl,A⟩;have⟨C,J⟩:=W0.fresh;rw[<-A]at C J;clear A Z e1 e2 e3;have h:=uh HA;have r:=(Fr.of (S:=λi=>i=c.cb) K0).trans J;have⟨B,K,N⟩:=yT h.wk.wk h.hn r;have FG:=r.fU (T:=λi=>i=c.cb\/i=gv) λ_ q=>Or.inl q;have O:=ai C;have G:=ai FG;have V:=ai B;have E:=ai r;clear h J r FG B K N C
 go_wp2
 go_ret2;have h:=uh HA;have k3:=h.wk.fr G;exact⟨G,cnt+1,.ok ((.var<|cnt+1,g),⟨s.k,λn=>s.u n\/n=cnt+1⟩),ae,ae,O,qv ⟨cnt+1,_,V,rfl⟩,λn q=>q.imp id λq=>ae,h.wk.wh,_,_,kb,rfl,k3.n,k3.k,D_ _ c gv cnt _ ae,h.e.move G.size (E.block _ h.e.lt ae) (λb p z=>G.block b z<|λq=>q.elim p.1 p.2)<|λ_ p _=>p⟩
def adX st n f t a:Vw (.mk 1 st n [] f t a):=by
 intro c w cnt s kb Λ g gv Q v h;have en:nn (.mk 1 st n [] f t a)=1:=qBi;have ep:jh c.mks (.mk 1 st n [] f t a) g=ja j6 λv=>jk (.var v,jq g st<|qi<|.var v):=by simp[jh,j3]
 have Bu:=jN;rw[en,ep];obtain⟨-,rfl⟩:∃_:Unit,v=Fv 197 (Av #[Nv f,Nv t,Sv st]):=by cases h.pp;exact⟨(),rfl⟩
 have⟨C,N⟩:=rF w #[Nv f,Nv t,Sv st] 197;have zc:=h.we.dE;have F:=h.ft.a;rw[en]at F;have W0:=h.we.af C;have⟨e1,e2,e3⟩:=h.we.bx;have O:=oh cnt ae (h.we.af C).ct;have V:=ai h;have K0:=ai C;have lg:=h.e.lt;have ll:=h.l;have lc:=h.we.l;clear h C;go_in;go_wp;refine O.mono ?_;rintro e G⟨rfl,A⟩;have⟨B,E⟩:=W0.fresh;rw[<-A]at B E;clear A O e1 e2 e3;have h:=uh V;have r:=(Fr.of (S:=λi=>i=c.cb) K0).trans E;have⟨I,J,K⟩:=yT h.wk.wk h.hn r;have Z:=r.fU (T:=λi=>i=c.cb\/i=gv) λ_ q=>Or.inl q;have E3:=h.e.move (Q:=pN c gv) r.size (r.block _ h.e.lt ae) (λb p z=>r.block b z p.1)<|λ_ p _=>p;have C3:nL G (pN c gv) (In.mono<|.var<|cnt+1) (Av #[Fv 182<|Iv<|(cnt:Int)+1,Lv ha 0 0]):=⟨_,_,ha,0,rfl,D_ G c gv cnt _ ae,Or.inl rfl⟩;have⟨b1,b2,b3⟩:=N.fr E ae;clear h E r J K N;go_wp2_with(refine oK rfl _ _ _ (Or.inr rfl) rfl E3 (λq=>q.2 rfl) C3 st rfl rfl ?_;intro w4 H' O';have S4:=ai H';have O4:=ai O';clear H' O');go_ret2;have h:=uh V;have o:=uh O4;have F4:Fr (λi=>i=c.cb\/i=gv) G w4:=⟨o.os,o.tape,o.output,Vg,λi _ hi=>o.block i λe=>hi<|Or.inr e⟩;have k3:=h.wk.fr<|Z.trans F4
 exact⟨Z.trans F4,cnt+1,.ok ((.var<|cnt+1,jq g st<|qi<|.var<|cnt+1),⟨s.k,λn=>s.u n\/n=cnt+1⟩),ae,ae,B.one o ae,qv ⟨cnt+1,_,I,rfl⟩,λn q=>q.imp id λq=>ae,h.wk.wh,_,_,kb,rfl,k3.n,k3.k,D_ _ c gv cnt _ ae,S4⟩
structure abq(c:WC)gv S D(m:ji (Ty×jc))(s:jd)cnt w(al:Nat)(T:Ty)(g1:jc)(s1:jd)(ta:TypeId)(xa:ea)(lP:Nat)(w':ca):Prop where
 F:Fr (λi=>i=c.cb\/i=gv) w w'
 c1:cnt<=al
 c2:al<=cnt+D
 we:WE w' c al
 m:m s (.ok ((T,g1),s1))
 u:∀n,s1.u n->s.u n\/(cnt<n/\n<=al)
 wh:∀n,Whole<|s1.k n
 n:pN c gv lP
 k:KW w' (pN c gv) lP s1.k
 t:TW w' (pN c gv) S T (.iface ta xa)
 e:bW w' (pN c gv) gv g1
structure abr{α:Type}(c:WC)gv D(m:ji α)(s:jd)cnt w(al:Nat)(z:qg)(vl vr:ea)(w':ca):Prop where
 F:Fr (λi=>i=c.cb\/i=gv) w w'
 c1:cnt<=al
 c2:al<=cnt+D
 we:WE w' c al
 m:m s (.error z)
 f:qM w' (dF c) z vl vr
section
variable {c:WC} {cnt:Nat} {m:ji α} {gg:α->ji (Ty×jc)} {a:α}
def eF.split{m}(h:eF c gv S D m s cnt w e w'):(∃al z vl vr,e=BE z.f vl vr/\abr c gv D m s cnt w al z vl vr w')\/(∃al T g1 s1 ta xa lP,e=.returned (.tuple #[.iface ta xa,Mv lP])/\abq c gv S D m s cnt w al T g1 s1 ta xa lP w'):=by
 obtain⟨F,aR,o,h1,h2,h3,h4,h5⟩:=h;obtain z|⟨⟨T,g1⟩,s1⟩:=o
 .exact Pm
 .obtain⟨i,r,ta,xa,kb,rfl,A,B,C,E⟩:=h5;exact qv ⟨aR,T,g1,s1,ta,xa,kb,rfl,F,h1,h2,h3,h4,i,r,A,B,C,E⟩
def abr.post(h:abr c gv D1 m s cnt w0 al z vl vr w')(r:Fr (λi=>i=c.cb\/i=gv) w w0)(hD:D1<=D):eF c gv S D (ja m gg) s cnt w (BE z.f vl vr) w':=⟨r.trans h.F,al,.error z,h.c1,by have:=h.c2;omega,h.we,qw ⟨z,h.m,rfl⟩,vl,vr,rfl,h.f⟩
def eF.and(h:eF c gv S D1 (gg a) s1 al w1 e w')(C:m s (.ok (a,s1)))(E:Fr (λi=>i=c.cb\/i=gv) w w1)(hc:cnt<=al)(hu:∀n,s1.u n->s.u n\/(cnt<n/\n<=al))(hD:al+D1<=cnt+D):eF c gv S D (ja m gg) s cnt w e w':=by
 obtain⟨F,aR,o,h1,h2,A,B,h5⟩:=h;refine⟨E.trans F,aR,o,ae,ae,A,qv ⟨a,s1,C,B⟩,?_⟩;unfold agP at*;exact Pl
def PCl c gv S D(p:ji (Ty×jc))(s:jd)cnt w D1(p1:ji (Ty×jc))(s1:jd)al w1:=∀e w',eF c gv S D1 p1 s1 al w1 e w'->eF c gv S D p s cnt w e w'
def PCl.refl c gv S D(p:ji (Ty×jc))(s:jd)cnt w:PCl c gv S D p s cnt w D p s cnt w:=λ_ _ h=>h
def PCl.and{p}{w2}{dH}{s2}(h:PCl c gv S D p s cnt w D1 (ja m gg) s1 al w1)(r:m s1 (.ok (a,s2)))(A:Fr (λi=>i=c.cb\/i=gv) w1 w2)(hc:al<=dH)(B:∀n,s2.u n->s1.u n\/(al<n/\n<=dH)){D2}(C:dH+D2<=al+D1):PCl c gv S D p s cnt w D2 (gg a) s2 dH w2:=λe w' hh=>h e w'<|hh.and r A hc B C
end
section
variable {c:WC} {cnt:Nat}
def PaA.part(h:PaA nd c w cnt s kb Λ g gv Q v)(r:Bq w w1)(A:PP w Q x u)(B:rE c.mks c.nl x)(C:nn x<=nn nd):PaA x c w1 cnt s kb Λ g gv Q u:=
 ⟨h.we.af r,h.wk.af r,h.hn,h.e.af r,h.i,h.l,A.af r,h.hq,B,h.ft.le ae C,h.mf⟩
structure agR w1 c gv al(s s1:jd)(Λ:Nat->Prop)lP(g1:jc)T:Prop where
 k:BG w1 c gv al s1 lP
 n:∀n,¬s1.u n->Λ n
 p:qh Λ s s1
 i:jy Λ s1 g1
 t:jm Λ s1 T
def abq.step{mk}{w0}{T}{ta}{xa}(q:abq c gv S D (jh mk x g) s cnt w0 al T g1 s1 ta xa lP w1)(A:BG w c gv cnt s kb)(E:∀n,¬s.u n->Λ n)(F:jy Λ s g):agR w1 c gv al s s1 Λ lP g1 T:=by
 have⟨i,B,C⟩:=In.uv mk x g s Λ A.ok E F _ s1 q.m;exact⟨⟨q.k,q.n,λn p=>by obtain r|r:=q.u n p;have:=A.u n r;have:=q.c1;unfold us at*;omega;rw[us];omega,i.ok,q.wh⟩,i.new,i,C,B⟩
end
section
variable {c:WC} {cnt:Nat}
def PaA.next(h:PaA nd c w cnt s kb Λ g gv Q v)(r:Fr (λi=>i=c.cb\/i=gv) w w1)(A:WE w1 c al)(st:agR w1 c gv al s0 s1 Λ lP g1 T)(B:bW w1 (pN c gv) gv g1)(C:PP w Q x u)(E:rE c.mks c.nl x)(F:al+1000*nn x<=cnt+1000*nn nd)(G:nn x<=nn nd):PaA x c w1 al s1 lP Λ g1 gv Q u:=
 ⟨A,st.k,st.n,B,st.i,h.l,C.move r.size (λb p z=>r.block b z λq=>q.elim (h.hq b p).1 (h.hq b p).2)<|λ_ p _=>p,h.hq,E,h.ft.le F G,h.mf⟩
def Xo(mk:jj)s n x y f t a(g:jc):jh mk (.mk 6 s n [x,y] f t a) g=ja (jh mk x g) λa=>ja (jh mk y a.2) λb=>jk (qm a.1 b.1,b.2):=by simp[jh,j3,qj,j8]
end
def agm st n f t a{y}(Hx:Vw x)(Hy:Vw y):Vw (.mk 6 st n [x,y] f t a):=by
 intro c w cnt s kb Λ g gv Q v h;have en:nn (.mk 6 st n [x,y] f t a)=1+nn x+nn y:=Lq;rw[Xo];obtain⟨sx,sy⟩:rE c.mks c.nl x/\rE c.mks c.nl y:=by
  cases h.sc with
  |pr _ _ _ _ _ _ _ hx hy=>exact⟨hx,hy⟩
 obtain⟨vx,vy,rfl,hx,HY⟩:∃vx vy,v=Fv 264 (Av #[Nv f,Nv t,vx,vy])/\PP w Q x vx/\PP w Q y vy:=by cases h.pp with|pr _ _ _ _ _ _ _ vx vy hx hy=>exact⟨vx,vy,rfl,hx,hy⟩
 have⟨k0,B0⟩:=rF w #[Nv f,Nv t,vx,vy] 264;have H1:=Hx c _ cnt s kb Λ g gv Q vx<|h.part k0 hx sx DH;have zc:=h.we.dE;have lg:=h.e.lt;have HA:=ai h;have C0:=PCl.refl c gv (1100*(1+nn x+nn y)) (1000*(1+nn x+nn y)) (In.andM (In.dG c.mks x g) λa=>In.andM (In.dG c.mks y a.2) λb=>In.dl (In.tPr a.1 b.1,b.2)) s cnt w;rw[en];have K0:=ai k0;obtain⟨tx,ax,rfl⟩:=hx.iface;obtain⟨ty,ay,rfl⟩:=HY.iface;go_in;go_wp;refine H1.mono ?_;intro e w1 N;obtain⟨al,zz,vl,vr,rfl,q⟩|⟨al,T1,g1,s1,B,C,lP,rfl,q⟩:=N.split
 .have E:=q.post (S:=1100*(1+nn x+nn y)) (D:=1000*(1+nn x+nn y)) (gg:=λa=>ja (jh c.mks y a.2) λb=>jk (qm a.1 b.1,b.2)) (Fr.of K0) ae
  go_wp2
  exact⟨rfl,E⟩
 have h:=uh HA;have G:=(Fr.of (S:=λi=>i=c.cb\/i=gv) K0).trans q.F;have c1:=q.c1;have c2:=q.c2;have A:=q.step h.wk h.hn h.i;have C1:=C0.and q.m G q.c1 q.u (D2:=1000*(1+nn y)) ae;have H2:=Hy c w1 al s1 lP Λ g1 gv Q _<|h.next G q.we A q.e HY sy DH DH;have B1:=B0.fr q.F ae;obtain⟨b1,b2,b3⟩:=B1;have O:=ai q.t;go_wp2_with fail;refine H2.mono ?_;intro e V N;obtain⟨dH,zz,vl,vr,rfl,q⟩|⟨dH,T2,g2,s2,I,J,kb2,rfl,q⟩:=N.split
 .have E:=q.post (S:=1100*(1+nn x+nn y)) (D:=1000*(1+nn y)) (gg:=λb=>jk (qm T1 b.1,b.2)) (Fr.refl _ _) ae
  go_wp2
  exact⟨rfl,C1 _ _ E⟩
 have c3:=q.c1;have c4:=q.c2;have C2:=C1.and q.m q.F q.c1 q.u (D2:=1000) ae;have Z:=q.step A.k A.n A.i;have a0:=O.move q.F.size (λb p z=>q.F.block b z λr=>r.elim p.1 p.2)<|λ_ p _=>p;have b0:=ai q.t;have c0:=ai Z.k;have E2:=ai q.e;have d0:=ai q.we;have z2:=q.we.dE;have lg2:=q.e.lt;have E:=Om (w:=V) B I C J;go_wp2_with fail;refine E.mono ?_;rintro e w3⟨rfl,rfl⟩
 go_wp2
 go_ret2;have K:Bq V (V.alloc<|Cv #[Fv B C,Fv I J] 105):=bw _;obtain⟨⟨x1,y1,e1,z1⟩,wx⟩:=a0;have⟨⟨x2,y2,e2,z2'⟩,wy⟩:=uh b0;refine C2 _ _ (adr (d0.af K) (c0.af K) ⟨⟨.aM pq [x1,x2],nc.ty (qv<|qw rfl) y1 y2 ⟨ae,ae⟩,dr.aew pq (by rw[pq,rI];intro e;simp at e) e1 e2,?_⟩,?_⟩ (E2.af K) (Fr.of K))
 .simp only[size,ak];omega
 .exact⟨by rw[pq,rI];intro e;simp at e,wx,wy,trivial⟩
section
variable {c:WC} {cnt:Nat}
def aeD(h:WE w c cnt)(hk:WK w c cnt s kb)(hd:nL w (dF c) d v)(e0:d.any.Nodup)(hct:cnt<=1000000)(hz:size (sub s.k d.of)<=48->cnt+d.any.length<=1000000)f t:
 aa xk 242 #[Pv c.eb,Mv kb,v,.agg #[Nv f,Nv t]] w (Xj c d f t s cnt w):=by
 have hf:=hk.Dq ae<|qv trivial;obtain⟨ta,xa,O,sc,rfl,V,T2⟩:=hd;have E:Whole (sub s.k d.of):=cu _ V.wh λn _=>hf.wh n;have Z:Bq w ((w.alloc<|Cv #[Fv ta xa,Lv O d.any.length sc] 358).alloc<|Cv #[Nv f,Nv t] 90):=(bw _).alloc ag _;have B1:=(Bx.new w #[Fv ta xa,Lv O d.any.length sc] 358).below<|bw<|Cv #[Nv f,Nv t] 90;have B2:Hid (Bx ((w.alloc<|Cv #[Fv ta xa,Lv O d.any.length sc] 358).alloc<|Cv #[Nv f,Nv t] 90) (w.heap.size+1) #[Nv f,Nv t]):=by
  have:=Bx.new (w.alloc<|Cv #[Fv ta xa,Lv O d.any.length sc] 358) #[Nv f,Nv t] 90;rw[aY]at this;exact ai this
 have HO:=tP (hk.k.af Z) hk.n hf (br _)<|V.af Z;have a0:=V.Wg hf<|br _;have zc:=h.dE;have K0:=ai Z;clear hk V Z;go_in;go_wp;refine HO.mono ?_;rintro e w1⟨u,rfl,hu,k1⟩;have HS:=pw _ w1 _ _ hu a0;obtain⟨n1,C⟩:∃n,n=sz (bJ<|sub s.k d.of):=⟨_,rfl⟩;rw[<-C]at HS;have E1:=DK (sub s.k d.of) E;rw[<-C]at E1;obtain⟨tu,xu,rfl⟩:=hu.iface;have z0:=K0.size;simp only[aY]at z0;have F:=K0.trans<|k1.mono K0.size;have U1:=hu.wide (Q:=dF c) λi p=>by obtain p|p:=p;exact p;simp only[aY]at p;show i≠c.cb;omega
 have B3:=B1.below k1;have B4:=B2.below k1;clear hu k1 HO C B1 B2;go_wp2_with fail;refine HS.mono ?_;rintro e w2⟨rfl,G⟩;have r:=F.trans<|G.mono F.size;have⟨c3,f3,z3⟩:=B3.below G;have⟨c4,f4,z4⟩:=B4.below G;have U2:=U1.af G;clear G HS U1 B3 B4;by_cases B:48<n1
 .have hm:=kK B;have I:=mO (w:=w2) (f:Int) (t:Int);go_wp2_with fail;refine I.mono ?_;rintro e w3⟨rfl,J⟩;clear I;go_wp2_with fail;have A:=r.trans<|J.mono r.size;exact⟨rfl,Fr.of A,qw ⟨E1.1.1 B,h.af A,rfl⟩⟩
 .have hm:¬(48:Int)<(n1:Int):=ae;have hs:size (sub s.k d.of)<=48:=by have:=E1.1;omega
  have HA:=Xi (sc:=sc) (h.af r) (T2.move r.size (λi _ hi=>r.block i hi)<|λ_ p _=>p) e0<|hz hs;have I:=E1.2 hs;rw[I]at U2;go_wp2_with fail;refine HA.mono ?_;rintro e w3⟨b,rfl,hb,W3,J,F3⟩;have ev:=Pk cnt d.any;have K:=U2.fr F3<|λi p _=>p;have A:=Gd J (show dF c b by have:=r.size;show b≠c.cb;omega) K ae (by rw[ev,ir];omega);rw[ev]at A;have hcut:bJ (sub (jo<|p7 cnt d.any)<|sub s.k d.of)=sub (jo<|p7 cnt d.any) (sub s.k d.of):=yU (by rw[ir];exact hs)<|ph _ _ E;rw[hcut]at A;have b0:=(Fr.of r).trans F3;clear J F3 HA ev K hcut I;go_wp2_with fail;refine A.mono ?_;rintro e w4⟨u4,rfl,U4,N⟩;obtain⟨c0,d0,rfl⟩:=U4.iface;have K4:=ai N;clear N A
  go_wp2
  go_ret;have N:=uh K4;have f3:=b0;refine⟨f3.trans<|Fr.of N,qv ⟨hs,W3.af N,c0,d0,rfl,U4.wide λi p=>?_⟩⟩;obtain p|p:=p
  .exact p
  .show i≠c.cb;have:=f3.size;omega
end
section
variable {c:WC} {cnt:Nat}
def bW.look{P}{b}(h:bW w P b Γ){x}{d}(C:Γ x=ga d):∃v,nL w P d v/\(zu 144 (Mv b) (.string x) ia).run xk w=.ok v w:=by
 obtain⟨L,r,h2,A⟩:=h;have i:=r.ms.look Oq eN (jN w) x trivial (λ_ _=>trivial) ia
 cases hg:ba x L with
 |none=>grind|some v=>
  rw[hg]at i;have⟨d',e,B⟩:=A x v hg;rw[C]at e;injection e with e;subst e;exact⟨v,B,by simpa using i⟩
def Xp(h:In.nH Λ s d)(A:d.any.Nodup):d.any.length<=size (sub s.k d.of):=by
 have i:=D8 (V:=vars []<|sub s.k d.of) A λv hv=>(bC (sub s.k d.of) [] v).2 (qv<|(lO d.of).2 ⟨v,h.sub v hv,by rw[(h.fix v hv).1];simp[aA]⟩);rw[cC]at i;have r:=dt (occs<|sub s.k d.of) [];have h3:=du<|sub s.k d.of;simp only[nM]at r;omega
def abt(mk:jj)x n f t a{Γ}(h:Γ x=ga d):jf mk (.mk 1 x n [] f t a) Γ=λs o=>(48<size (sub s.k d.of)/\o=.error (qu f t))\/(size (sub s.k d.of)<=48/\∃ρ s',In.r9 d.any qe s (.ok (ρ,s'))/\o=.ok (sub (jo ρ)<|sub s.k d.of,s')):=by
 simp[jf,jz,In.rY,h]
def Wb{x}{a}(h:Bz (.mk 1 x n [] f t a) c w cnt s kb Λ Γ gb Q dom (.iface 197<|.agg #[Nv f,Nv t,.string x])):
 aa xk 230 #[Pv c.eb,Mv kb,Mv gb,.iface 197<|.agg #[Nv f,Nv t,.string x]] w (aZ c (1100*nn (.mk 1 x n [] f t a)) (1000*nn (.mk 1 x n [] f t a)) (jf c.mks (.mk 1 x n [] f t a) Γ) s cnt w):=by
 have en:nn (.mk 1 x n [] f t a)=1:=qBi;have E:dom x:=by
  cases h.sc with
  |low _ _ _ _ _ _ E=>exact E|leaf _ _ _ _ _ _ _ hk=>omega
 obtain⟨d,A⟩:∃d,Γ x=ga d:=by
  cases hg:Γ x with
  |none=>exact absurd hg (h.hd x E)|some d=>exact⟨d,rfl⟩
 rw[en,abt c.mks x n f t a A];have F:=h.ft.a;rw[en]at F;have r:=h.wg.nd x d A;have Bu:=Xp (h.wg.i x d A) r;have B:Bq w (w.alloc<|Cv #[Nv f,Nv t,Sv x] 197):=bw _;have⟨v,K,hlk⟩:=(h.wg.af B).e.look A;have V:=aeD (h.we.af B) (h.wk.af B) K r ae (λq=>ae) f t;obtain⟨ta,xa,sa,sc,rfl,G,hv2⟩:=K;have Z:=ai h;have N:=ai B;have I:=ai G.wh;go_in;go_wp;refine V.mono ?_;rintro e w1⟨O,hp⟩;obtain⟨hb,J,rfl⟩|⟨hs,J,tb,xb,rfl,HT⟩:=hp
 .have C:=ai O
  go_wp2
  exact⟨rfl,(Fr.of N).trans C,cnt,.error<|qu f t,br _,ae,J,qw ⟨hb,rfl⟩,Zv,Zv,rfl,λ_=>⟨rfl,rfl⟩,λq=>by simp[qu]at q,qv rfl⟩
 .have C:=(Fr.of (S:=λi=>i=c.cb) N).trans O
  go_wp2
  go_ret2;have h:=uh Z;refine⟨C,cnt+d.any.length,.ok (sub (jo<|p7 cnt d.any)<|sub s.k d.of,⟨s.k,λn=>s.u n\/(cnt<n/\n<=cnt+d.any.length)⟩),ae,ae,J,qv ⟨hs,_,_,⟨_,_,Cp cnt d.any r h.wk.u,rfl⟩,rfl⟩,λn q=>q,h.wk.wh,tb,xb,kb,rfl,h.wk.n,h.wk.k.fr C h.wk.n<|λ_ p _=>p,TW.of HT ?_ ?_⟩
  .exact ph _ _ (cu _ I λn _=>h.wk.wh n)
  .rw[ir];omega
end
section
variable {c:WC} {cnt:Nat}
def GD{base}(h:gF w 182 base v (oL l)):∃sa sc,v=.slice sa l.length sc/\qL w (λi=>base<=i) sa l:=by
 by_cases C:l=[]
 .subst C;have⟨va,r,e⟩:=dZ h (n:=0) (by simp[oL]);exact⟨va,r,e,qw rfl⟩
 .have r:0<(oL l).length:=by rw[fv];exact Nat.pos_of_ne_zero<|λe=>C<|List.eq_nil_of_length_eq_zero e
  obtain⟨g,E,m,rfl,F,B,A⟩:=iC h r;have A:=uh A;rw[fv]at A;subst A;refine⟨ga ⟨g,0,ha⟩,E,rfl,qv ⟨g,rfl,F,B,λi hi=>?_⟩⟩;have:=mg h i (by rw[fv];exact hi);rw[this];simp[oL]
def Po{p:Prop}(h:p:=by
 rw[cC];have h2:=dt (occs m) [];have h3:=du m;simp only[nM]at h2
 omega):p:=h
def Bv(h:WE w c cnt)(B:dq w P m v)(hz:size m<=1000)(hc:cnt<=900000):aa xk 243 #[Pv c.eb,v] w (Hv c cnt (vars [] m) w):=by
 have C:=fI B ae;have hl:(vars [] m).length<=1000:=by
  exact Po
 obtain⟨ta,xa,rfl⟩:=B.iface;have zc:=h.dE;go_in;go_wp;refine C.mono ?_;rintro e w1⟨V,rfl,E,r⟩;obtain⟨sa,sc,rfl,F⟩:=GD E;have G:=Xi (sc:=sc) (h.af r) (F.move (br _) (λ_ _ _=>rfl) (Q:=dF c) λi p _=>by show i≠c.cb;omega) (dO m List.nodup_nil) ae;go_wp2_with fail;refine G.mono ?_;rintro e w2⟨b,rfl,I,J,S2,A⟩
 go_wp2
 go_ret;exact⟨b,rfl,xt r.size I,J,S2,(Fr.of r).trans A⟩
def agS P(tk:List Ty)m w gk(i r:ea)wr:=
 ∃j:Nat,Hid (gk=j)/\j<=tk.length/\r=Iv ((j:Int)-1)/\(∃ta xa,i=.iface ta xa/\dq wr P (jl (tk.drop j) m) (.iface ta xa))/\Bq w wr
def vU{tk}(h:Vf w P tk m v)(hl:tk.length<=1000):aa xk 244 #[v] w (λe w'=>∃u,e=.returned u/\dq w' (λi=>P i\/w.heap.size<=i) (jl tk m) u/\Bq w w'):=by
 obtain⟨C,E,ta,xa,rfl,HR,hm⟩:=h;have⟨N,B0⟩:=rF w #[Lv C tk.length E,Fv ta xa] 361;have HM:=hm.w.af N;have K0:=ai N;go_wp2
 go_loopg[3,4] tk.length (λgk v3 v4 wr=>agS (λi=>P i\/w.heap.size<=i) tk m w gk v3 v4 wr/\Bx wr w.heap.size #[Lv C tk.length E,Fv ta xa])
 case atStart=>
  refine⟨⟨tk.length,ai rfl,br _,iF,⟨ta,xa,rfl,?_⟩,uh K0⟩,B0⟩;rw[xf];exact HM.wide λi p=>qw p
 case round=>
  obtain⟨⟨j,F,hj,rfl,⟨tt,xx,rfl,O⟩,B⟩,hB⟩:=hrel;obtain⟨b1,b2,b3⟩:=hB;have BB:=show Bx wr w.heap.size #[Lv C tk.length E,Fv ta xa]from⟨b1,b2,b3⟩;by_cases G:j=0
  .subst G;have hd:decide ((0:Int)<=((0:Nat):Int)-1)=ia:=aD
   go_wp2
   go_ret;exact⟨_,rfl,by simpa using O,B⟩
  .obtain⟨i,rfl⟩:∃i,j=i+1:=⟨j-1,ae⟩;have ei:(((i+1:Nat):Int)-1)=(i:Int):=ae;rw[ei];have r:i<tk.length:=ae;obtain⟨g,vs,rfl,hg,I,A⟩:=HR.resolve_left (λe=>by subst e;simp at r);have⟨cg,V⟩:=A i r;have J:=(zo (a:=⟨g,i,ha⟩)<|B.block g I).trans cg;have Z:=V.w.af B;have⟨tb,xb,K⟩:=V.w.iface;rw[K]at J Z;have hge:(0:Int)<=(i:Int):=ae;have hlt:(i:Int)<(tk.length:Int):=ae;go_wp2_with fail;refine(vV (w:=wr) _ _ _ _).mono ?_;rintro e w7⟨rfl,rfl⟩;go_wp2_with fail;have k7:Bq wr (wr.alloc<|Cv #[Fv tb xb,Fv tt xx] 105):=bw _;go_roundg i
   case measure=>rw[uh F];omega
   case rel=>
    refine⟨⟨i,ai rfl,ae,iF,⟨_,_,rfl,?_⟩,B.trans<|k7.mono B.size⟩,BB.below k7⟩;rw[qx r];exact nc.ty adq (Z.wide λi p=>qw p) O<|qv B.size
end
section
variable {c:WC} {cnt:Nat}
def abu tk m n(h:aA n m):aA n (jl tk m):=by
 induction tk with
 |nil=>exact h|cons t tk ih=>
  show aA n<|j9 t<|jl tk m;simp only[aA,bZ,or_false];exact qv ih
def rL tk m:size m+tk.length<=size (jl tk m):=by
 induction tk with
 |nil=>exact br _|cons t tk ih=>
  show _<=size (j9 t<|jl tk m);simp only[size,ak,eG];omega
def H9{l'}{iU}{u u'}(h:ql l ρ iU u u')(i:∀v,v∈l↔v∈l'):ql l' ρ iU u u':=⟨h.fV,λv q=>h.out v λr=>q<|(i v).1 r,λv q=>h.all v<|(i v).2 q,h.new,h.one,h.use⟩
def abv:Tryz.prog.underlying 142=ga (.map 9 361):=qkr
def aeE w:(zeroValue 361).run xk w=.ok (.agg #[.slice ha 0 0,.nilIface]) w:=qkr
def mI.look{P}{b}{mk}(h:mI w P b mk){x}{tk}{m}(F:mk x=ga (tk,m)):∃v,Vf w P tk m v/\∀w':ca,w'.heap[b]? =w.heap[b]? ->(zu 142 (Mv b) (.string x) ia).run xk w'=.ok v w':=by
 obtain⟨L,r,h2,A⟩:=h
 cases hg:ba x L with
 |none=>grind|some v=>
  have⟨tk',m',e,B⟩:=A x v hg;rw[F]at e;injection e with e;injection e with C E;subst C E;refine⟨v,B,λw' hb=>?_⟩;have i:=(r.same hb).ms.look Oq abv (aeE w') x trivial (λ_ _=>trivial) ia;rw[hg]at i;simpa using i
theorem Vf.move{P Q}{w'}{tk}{m}{v}(h:Vf w P tk m v)(i:w.heap.size<=w'.heap.size)(r:∀b,P b->b<w.heap.size->w'.heap[b]? =w.heap[b]?)(A:∀b,P b->b<w.heap.size->Q b):Vf w' Q tk m v:=by
 obtain⟨B,C,ta,xa,rfl,E,F⟩:=h;exact⟨B,C,ta,xa,rfl,E.move i r A,F.move i r A⟩
def Xq(mk:jj)x n f t a(Γ:jc){tk}(h:mk x=ga (tk,m)):jf mk (.mk 2 x n [] f t a) Γ=ja (qf (jl tk m) qe) λq=>jk q.1:=by
 simp[jf,jz,In.upM,h]
def agT a n k tb b w:(Instr.field 361 (.agg #[.slice a n k,.iface tb b]) 1).run xk w=.ok (.iface tb b) w:=qkr
structure RnA(c:WC)cnt(l:List Nat)w w' b:Prop where
 z:c.cb<b
 we:WE w' c (cnt+l.length)
 sb:fA w' (dF c) b (λv=>(p7 cnt l v).map zx)
 F:Fr (λi=>i=c.cb) w w'
end
open Classical in
noncomputable def gP (R:jv) (D:Nat->Prop):jv:=λv=>if D v then R v else ha
def yp(R:jv):gP R (λ_=>False)=qe:=by funext v;simp[gP,qe]
def fO{D:Nat->Prop}{v:Nat}(h:D v):gP R D v=R v:=by simp[gP,h]
def uw{D:Nat->Prop}{v:Nat}(h:¬D v):gP R D v=ha:=by simp[gP,h]
def j_{D:Nat->Prop}{v:Nat}(h:gP R D v=ga n):D v/\R v=ga n:=by grind[gP]
def comes(R:jv)(D:Nat->Prop)t(u:Nat->Prop)n:=u n\/∃v,¬D v/\aA v t/\R v=ga n
def Tp{D:Nat->Prop}{u:Nat->Prop}{t:Ty}(E:∀v,aA v t->R v≠ha)(F:∀v v' n,R v=ga n->R v'=ga n->v=v')(G:∀v n,¬D v->R v=ga n->¬u n):
 ql (vars [] t) (gP R D) (gP R<|λv=>D v\/aA v t) u (comes R D t u) where
 fV v n h:=by have⟨i,A⟩:=j_ h;rw[fO<|qw i];exact A
 out v h:=by
  have h:¬aA v t:=λq=>h<|In.aE.2 q;by_cases q:D v
  .rw[fO<|qw q,fO q]
  .rw[uw<|λr=>r.elim q h,uw q]
 all v h:=by
  have h:=In.aE.1 h;rw[fO<|qv h];exact E v h
 new v n i A:=by
  have⟨C,B⟩:=j_ A;by_cases q:D v
  .rw[fO q]at i;rw[i]at B;cases B
  .exact G v n q B
 one v v' n _ A C:=F v v' n (j_ A).2 (j_ C).2
 use n:=by
  rw[comes];refine⟨λq=>q.imp id ?_,λq=>q.imp id ?_⟩
  .rintro⟨v,i,A,C⟩;exact⟨v,uw i,by rw[fO<|qv A];exact C⟩
  .rintro⟨v,i,A⟩;have⟨C,B⟩:=j_ A;by_cases q:D v
   .rw[fO q]at i;rw[i]at B;cases B
   .grind
def Cr{D:Nat->Prop}{t:Ty}(i:∀v,aA v t->R v≠ha)(r:∀v v' n,R v=ga n->R v'=ga n->v=v')(A:∀v n,¬D v->R v=ga n->¬s.u n):
 qf t (gP R D) s (.ok ((sub (jo R) t,gP R<|λv=>D v\/aA v t),⟨s.k,comes R D t s.u⟩)):=by
 refine qv ⟨gP R<|λv=>D v\/aA v t,_,⟨_,_,Tp i r A,rfl⟩,?_⟩;have e:sub (jo<|gP R<|λv=>D v\/aA v t) t=sub (jo R) t:=sub_congr t λn hn=>by unfold jo;rw[fO (D:=λv=>D v\/aA v t)<|qv hn]
 show Except.ok _=Except.ok _;rw[e]
def fG{β γ:Type}{m}{g:α->ji β}{h:β->ji γ}{o:Except qg (γ×jd)}(q:ja m (λa=>ja (g a) h) s o):ja (ja m g) h s o:=by
 obtain⟨x,i,rfl⟩|⟨a,s1,i,⟨x,r,rfl⟩|⟨b,A,r,B⟩⟩:=q
 .exact qw ⟨x,qw ⟨x,i,rfl⟩,rfl⟩
 .exact qw ⟨x,qv ⟨a,s1,i,r⟩,rfl⟩
 .exact qv ⟨b,A,qv ⟨a,s1,i,r⟩,B⟩
def Xr m(q:jc×jv):=ja (qf m q.2) λi=>jk (i.1,q.1)
def gK(mk:jj)(tk:List Ty)m(L:List Nd)j g(ρ:jv):=ja (qr (tk.drop j) (L.drop j) (qj mk<|L.drop j) g ρ)<|Xr m
def yo{tk}(h:mk st=ga (tk,m))n L f t a g:jh mk (.mk 2 st n L f t a) g=gK mk tk m L 0 g qe:=by
 simp[jh,j3,h,gK];rfl
def Pp{p:Prop}(h:p:=by
 obtain⟨x,q1,rfl⟩|⟨b,s2,q2,h⟩:=h
 .exact qw ⟨x,q1,rfl⟩
 exact qv ⟨b,s2,q2,fG h⟩):p:=h
def ub{tk:List Ty}(hl:L.length=tk.length)(r:j<L.length)(h:ja (jh mk L[j] g) (λq=>ja (qf (tk[j]' ae) ρ) λi=>ja (jp q.1 i.1 (ju L[j])<|jx L[j]) λ_=>gK mk tk m L (j+1) q.2 i.2) s o):gK mk tk m L j g ρ s o:=by
 unfold gK at*;rw[qx r,qx<|show j<tk.length by omega];show ja (ja (jh mk L[j] g) λq=>ja (qf (tk[j]' ae) ρ) λi=>ja (jp q.1 i.1 (ju L[j])<|jx L[j]) λ_=>qr (tk.drop<|j+1) (L.drop<|j+1) (qj mk<|L.drop<|j+1) q.2 i.2) (Xr m) s o;refine fG ?_;obtain⟨x,q1,rfl⟩|⟨a,s1,q1,h⟩:=h
 .exact qw ⟨x,q1,rfl⟩
 refine qv ⟨a,s1,q1,fG ?_⟩;exact Pp
def GG{tk}(i:L.length=tk.length)(h:Xr m (g,ρ) s o):gK mk tk m L L.length g ρ s o:=by
 rw[gK];rw[xf,i,xf];exact qv ⟨(g,ρ),s,rfl,h⟩
structure MdR(c:WC)cnt(tk:List Ty)m(R:jv):Prop where
 e:R=p7 cnt (vars [] m)
 a:∀i(h:i<tk.length)v,aA v tk[i]->aA v m
def MdR.one{c:WC}{cnt}{tk}{m:Ty}{R:jv}(h:MdR c cnt tk m R):∀v v' n,R v=ga n->R v'=ga n->v=v':=λv v' n h1 h2=>by
 rw[h.e]at h1 h2;rw[p7]at h1 h2;split at h1<;>split at h2
 .rename_i q1 q2;injection h1 with h1;injection h2 with h2;exact Hu q1 q2 ae
 .cases h2
 .cases h1
 .cases h1
def MdR.num{c:WC}{cnt}{tk}(h:MdR c cnt tk m R){v:Nat}(q:R v=ga n):cnt<n/\n<=cnt+(vars [] m).length:=by
 rw[h.e]at q;rw[p7]at q;split at q
 .rename_i q1;have:=List.idxOf_lt_length_iff.2 q1;injection q with q;omega
 .cases q
def MdR.has{c:WC}{cnt}{tk}(h:MdR c cnt tk m R){v:Nat}(q:aA v m):R v≠ha:=by
 rw[h.e];rw[p7];rw[if_pos<|In.aE.2 q];simp
structure MdS(c:WC)gv cnt(s:jd)w(R:jv)(p:ji (Ty×jc))(Λ:Nat->Prop)tk m L j wr cj(sj:jd)kj g D:Prop where
 F:Fr (λi=>i=c.cb\/i=gv) w wr
 we:WE wr c cj
 wk:BG wr c gv cj sj kj
 n:∀n,¬sj.u n->Λ n
 e:bW wr (pN c gv) gv g
 i:jy Λ sj g
 r:In.iu Λ sj (gP R D)
 fr:∀v n,¬D v->R v=ga n->¬sj.u n
 u:∀n,sj.u n->s.u n\/(cnt<n/\n<=cj)
 c1:cnt+(vars [] m).length<=cj
 c2:cj+1000*cr (L.drop j)<=cnt+1000*(1+cr L)
 p:∀o,gK c.mks tk m L j g (gP R D) sj o->p s o
structure MdT(c:WC)gv cnt(s:jd)w(R:jv)(p:ji (Ty×jc))(Λ:Nat->Prop)tk m L j wr cj(sj:jd)kj g D T U f t:Prop where
 F:Fr (λi=>i=c.cb\/i=gv) w wr
 we:WE wr c cj
 wk:BG wr c gv cj sj kj
 n:∀n,¬sj.u n->Λ n
 e:bW wr (pN c gv) gv g
 i:jy Λ sj g
 r:In.iu Λ sj (gP R D)
 fr:∀v n,¬D v->R v=ga n->¬sj.u n
 u:∀n,sj.u n->s.u n\/(cnt<n/\n<=cj)
 c1:cnt+(vars [] m).length<=cj
 c2:cj+1000*cr (L.drop<|j+1)<=cnt+1000*(1+cr L)
 ti:jm Λ sj T
 ui:jm Λ sj U
 p:∀o,ja (jp T U f t) (λ_=>gK c.mks tk m L (j+1) g<|gP R D) sj o->p s o
section
variable {wr:ca} {c:WC} {cnt cj c1:Nat} {sj:jd} {kj k1:Nat} {D:Nat->Prop} {p:ji (Ty×jc)} {tk:List Ty}
def MdS.arg{S DD:Nat}{T:Ty}{ta:TypeId}{xa:ea}(B:MdR c cnt tk m R)(Z:L.length=tk.length)(I:j<L.length)(LS:∀n,s.u n->us cnt n)(h:MdS c gv cnt s w R p Λ tk m L j wr cj sj kj g D)(q:abq c gv S (1000*nn L[j]) (jh c.mks L[j] g) sj cj wr c1 T g1 s1 ta xa k1 w1):∃s2,MdT c gv cnt s w R p Λ tk m L j w1 c1 s2 k1 g1 (λv=>D v\/aA v (tk[j]' ae)) T (sub (jo R)<|tk[j]' ae) (ju L[j])<|jx L[j]:=by
 have st:=q.step h.wk h.n h.i;have G:∀v n,¬D v->R v=ga n->¬s1.u n:=λv n a b z=>by
  have hb:=B.num b;obtain r|r:=q.u n z
  .exact h.fr v n a b r
  .have:=h.c1;omega
 have C:=Cr (R:=R) (s:=s1) (t:=tk[j]' ae) (λv o=>B.has<|B.a j ae v o) B.one G;have⟨A,J,K⟩:=In.sE st.k.ok st.n (h.r.run st.p.run) (tk[j]' ae) _ _ C;have hd:cr (L.drop j)=nn L[j]+cr (L.drop<|j+1):=by rw[qx I];rfl
 have c2:=h.c2;have qc1:=q.c1;have qc2:=q.c2;have hc1:=h.c1;have E:∀v n,R v=ga n->cnt<n/\n<=c1:=λv n r=>by have:=B.num r;omega
 refine⟨⟨s1.k,comes R D (tk[j]' ae) s1.u⟩,h.F.trans q.F,q.we,⟨st.k.k,st.k.n,λn z=>?_,A.ok,st.k.wh⟩,A.new,q.e,st.i.run A.run,K,λv n a b z=>?_,λn z=>?_,ae,ae,st.t.run A.run,J,λo ho=>h.p o<|ub Z I<|qv ⟨(T,g1),s1,q.m,qv ⟨_,_,C,ho⟩⟩⟩
 .obtain z|⟨v,_,_,z⟩:=z
  .exact st.k.u n z
  .have:=E v n z;rw[us];omega
 .obtain z|⟨N,z1,O,V⟩:=z
  .grind
  .exact a (qv<|B.one N v n V b▸O)
 .obtain z|⟨v,_,_,z⟩:=z
  .obtain r|r:=q.u n z
   .exact(h.u n r).imp id λr=>ae
   .omega
  .grind
def MdT.next(h:MdT c gv cnt s w R p Λ tk m L j wr cj sj kj g D T U f t)(A:Bq wr w1){s'}{b:Nat}(E:jp T U f t sj (.ok ((),s')))(B:qh Λ sj s')(G:BG w1 c gv cj s' b)(C:s'.u=sj.u):MdS c gv cnt s w R p Λ tk m L (j+1) w1 cj s' b g D:=
 ⟨h.F.trans<|Fr.of A,h.we.af A,G,B.new,h.e.af A,h.i.run B.run,h.r.run B.run,λv n a b z=>h.fr v n a b<|C▸z,λn z=>h.u n<|C▸z,h.c1,h.c2,λo ho=>h.p o<|qv ⟨(),s',E,ho⟩⟩
def MdT.no(h:MdT c gv cnt s w R p Λ tk m L j wr cj sj kj g D T U f t)(i:Bq wr w1)(hD:1000*(1+cr L)<=DD)(r:jp T U f t sj (.error z))(A:qM w1 (dF c) z vl vr):eF c gv S DD p s cnt w (BE z.f vl vr) w1:=
 ⟨h.F.trans<|Fr.of i,cj,.error z,by have:=h.c1;omega,by have:=h.c2;omega,h.we.af i,h.p _<|qw ⟨z,r,rfl⟩,vl,vr,rfl,A⟩
def MdS.no(r:L.length=tk.length)(i:j<L.length)(h:MdS c gv cnt s w R p Λ tk m L j wr cj sj kj g D)(hD:1000*(1+cr L)<=DD)(q:abr c gv (1000*nn L[j]) (jh c.mks L[j] g) sj cj wr c1 z vl vr w1):eF c gv S DD p s cnt w (BE z.f vl vr) w1:=
 ⟨h.F.trans q.F,c1,.error z,by have:=h.c1;have:=q.c1;omega,by
  have hd:cr (L.drop j)=nn L[j]+cr (L.drop<|j+1):=by rw[qx i];rfl
  have:=h.c2;have:=q.c2;omega,q.we,h.p _<|ub r i<|qw ⟨z,q.m,rfl⟩,vl,vr,rfl,q.f⟩
def MdS.done(A:MdR c cnt tk m R)(B:L.length=tk.length)(h:MdS c gv cnt s w R p Λ tk m L L.length wr cj sj kj g D)(i:Bq wr w1)(hD:1000*(1+cr L)<=DD)(C:TW w1 (pN c gv) S (sub (jo R) m) (.iface ta xa)):eF c gv S DD p s cnt w (.returned<|.tuple #[.iface ta xa,Mv kj]) w1:=by
 have r:=Cr (R:=R) (s:=sj) (t:=m) (λv o=>A.has o) A.one h.fr;refine⟨h.F.trans<|Fr.of i,cj,.ok ((sub (jo R) m,g),⟨sj.k,comes R D m sj.u⟩),by have:=h.c1;omega,by have:=h.c2;omega,h.we.af i,h.p _<|GG B<|qv ⟨_,_,r,rfl⟩,λn z=>?_,h.wk.wh,ta,xa,kj,rfl,h.wk.n,h.wk.k.af i,C,h.e.af i⟩;obtain z|⟨v,_,_,z⟩:=z
 .exact h.u n z
 .have:=A.num z;exact qv ⟨this.1,by have:=h.c1;omega⟩
def fA.bare{b:Nat}{R:jv}(h:fA w P b (λv=>(R v).map zx)):fA w Q b (λv=>(R v).map zx):=by
 obtain⟨L,i,r,A,B⟩:=h;refine⟨L,i,r,λn u hu=>?_,B⟩;have⟨t,e,C⟩:=A n u hu;refine⟨t,e,?_⟩
 cases hr:R n with
 |none=>simp[hr]at e|some k=>
  simp only[hr,Option.map_some,Option.some.injEq]at e;subst e
  cases C
  exact .var k
end
def rh(l:List BA)(g g':jc):=(∀y,g' y≠ha↔g y≠ha\/y∈l)/\∀y d,g' y=ga d->g y=ga d\/d.any=[]
def rh.refl(g:jc):rh [] g g:=⟨λy=>ag,λy d h=>qw h⟩
def rh.and{l l'}{g2}(h:rh l g g1)(k:rh l' g1 g2):rh (l++l') g g2:=⟨λy=>by rw[k.1,h.1,qy,or_assoc],λy d q=>(k.2 y d q).elim (λq=>h.2 y d q) qv⟩
def rh.set(g:jc)s t:rh [s] g (jq g s<|qi t):=by
 refine⟨λy=>?_,λy d h=>?_⟩
 .unfold jq;by_cases q:y=s
  .simp[q]
  .simp[q]
 .unfold jq at h;split at h
  .grind
  .exact qw h
def mh{m:ji α}:qk m s λ_ _=>True:=λ_ _ _=>trivial
def H_(mk:jj):∀(tk:List Ty)(L:List Nd),L.length=tk.length->(∀i(h:i<L.length),∀g s,qk (jh mk L[i] g) s λq _=>rh (pj L[i]) g q.2)->∀g ρ s,qk (qr tk L (qj mk L) g ρ) s λq _=>rh (m_ L) g q.1
 |[],[],_,_,g,ρ,s=>.ret (rh.refl g)|[],_::_,h,_,_,_,_=>vB|_::_,[],h,_,_,_,_=>vB|u::tk,x::L,hl,H,g,ρ,s=>by
  refine(H 0 ag g s).and λq s1 h1=>mh.and λi s2 _=>mh.and λ_ s3 _=>?_;exact(H_ mk tk L (by simpa using hl) (λi hi=>H (i+1) bQ) q.2 i.2 s3).imp λa s' h=>h1.and h
def Ea{p:Prop}(h:p:=by
 simp[jh,j3]
 exact .ret<|rh.refl g):p:=h
def Eb(h:rE mk nl nd):∀g s,qk (jh mk nd g) s λq _=>rh (pj nd) g q.2:=by
 induction h with
 |leaf k st n f t a hk=>
  intro g s;have e:pj (.mk k st n [] f t a)=[]:=by
   have:¬k=1:=ae;simp[pj,m_,this]
  rw[e];obtain rfl|rfl|rfl|rfl:=hk
  .simp only[jh,j3,if_true];exact mh.and λv s' _=>.ret<|rh.refl g
  .exact Ea
  .exact Ea
  .exact Ea
 |low st n f t a hs=>
  intro g s;simp[jh,j3,pj];exact mh.and λv s' _=>.ret<|rh.set g st _
 |pr st n x y f t a hx hy bu cW=>
  intro g s;rw[Xo];have e:pj (.mk 6 st n [x,y] f t a)=pj x++pj y:=by simp[pj,m_]
  rw[e];exact(bu g s).and λq s1 h1=>(cW q.2 s1).and λr s2 h2=>.ret<|h1.and h2
 |up st n L f t a tk m hm hl hr ih=>
  intro g s;rw[yo hm];have e:pj (.mk 2 st n L f t a)=m_ L:=by simp[pj]
  rw[e];unfold gK;rw[xj,xj];exact(H_ mk tk L hl ih g qe s).and λq s1 h1=>mh.and λi s2 _=>.ret h1
def Ia{nl:List BA}:∀(L:List Nd),(∀i(h:i<L.length),∀y,y∈pj L[i]->y∈nl)->∀y,y∈m_ L->y∈nl
 |[],_,y,h=>by simp[m_]at h|x::l,H,y,h=>by
  simp only[m_,qy]at h;obtain h|h:=h
  .exact H 0 ag y h
  .exact Ia l (λi hi=>H (i+1) bQ) y h
def abw(h:rE mk nl nd):∀y,y∈pj nd->y∈nl:=by
 induction h with
 |leaf k st n f t a hk=>intro y q;have:¬k=1:=ae
                        simp[pj,m_,this]at q
 |low st n f t a hs=>intro y q;simp[pj]at q;subst q;exact hs|pr st n x y f t a hx hy bu cW=>
  intro z q;simp[pj,m_]at q;exact q.elim (bu z)<|cW z
 |up st n L f t a tk m hm hl hr ih=>
  intro y q;have e:pj (.mk 2 st n L f t a)=m_ L:=by simp[pj]
  rw[e]at q;exact Ia L ih y q
noncomputable def lQ (mk:jj) (Γ:jc) (T r:Ty) (A:List (Nd×Nd)) (j:Nat):ji Ty:=ja (In.nI mk Γ T r (aN<|A.drop j)<|j7 mk<|aN<|A.drop j) λ_=>jk r
def LR(mk:jj)s n x A f t a(Γ:jc):jf mk (.mk 13 s n (x::aN A) f t a) Γ=ja (jf mk x Γ) λa=>ja j6 λv=>lQ mk Γ a (.var v) A 0:=by
 simp[jf,jz,j7,j8,lQ]
noncomputable def Wv (mk:jj) (Γ:jc) (T r:Ty) (A:List (Nd×Nd)) (j:Nat) (h:j<A.length):ji Ty:=ja (jh mk A[j].1 λ_=>ha) λq=>ja (jp T q.1 (ju A[j].1)<|jx A[j].1) λ_=>ja (jf mk A[j].2<|j5 q.2 Γ) λu=>ja (jp r u (ju A[j].2)<|jx A[j].2) λ_=>lQ mk Γ T r A<|j+1
def BI{r}{A}hj{o}(h:Wv mk Γ T r A j hj s o):lQ mk Γ T r A j s o:=by
 unfold Wv lQ at*;rw[qx hj];show ja (ja (jh mk A[j].1 λ_=>ha) λq=>ja (jp T q.1 (ju A[j].1)<|jx A[j].1) λ_=>ja (jf mk A[j].2<|j5 q.2 Γ) λu=>ja (jp r u (ju A[j].2)<|jx A[j].2) λ_=>In.nI mk Γ T r (aN<|A.drop<|j+1)<|j7 mk<|aN<|A.drop<|j+1) (λ_=>jk r) s o;refine fG ?_;obtain⟨x,q1,rfl⟩|⟨a,s1,q1,h⟩:=h
 .exact qw ⟨x,q1,rfl⟩
 refine qv ⟨a,s1,q1,fG ?_⟩;obtain⟨x,q1,rfl⟩|⟨b,s2,q2,h⟩:=h
 .exact qw ⟨x,q1,rfl⟩
 refine qv ⟨b,s2,q2,fG ?_⟩;exact Pp
def Gi(mk:jj)(Γ:jc)T r A(s:jd)(o:Except qg (Ty×jd))(h:jk r s o):lQ mk Γ T r A A.length s o:=by
 unfold lQ;rw[xf];exact qv ⟨(),s,rfl,h⟩
section
variable {c:WC} {cnt:Nat} {p p1 p2:ji Ty}
def Cl.imp(h:Cl c S D p s cnt w D1 p1 s1 al w1)(k:∀o,p2 s1 o->p1 s1 o):Cl c S D p s cnt w D1 p2 s1 al w1:=λe w' q=>h e w' (by obtain⟨i,r,o,A,B,C,E,F⟩:=q;exact⟨i,r,o,A,B,C,k o E,F⟩)
def VD(r:Bq w w0)(hg:w.heap.size<=gv)(A:Fr (λi=>i=c.cb\/i=gv) w0 w'):Fr (λi=>i=c.cb) w w':=⟨A.os.trans r.os,A.tape.trans r.tape,A.output.trans r.output,xt r.size A.size,λk hk hn=>(A.block k (zd hk r.size)<|λq=>q.elim hn ae).trans<|r.block k hk⟩
theorem WG.over{mk:jj}{nd:Nd}{T:Ty}{A:Nat}(h:WG w c s Λ Γ gb)(B:rE mk c.nl nd){s0:jd}(C:jh mk nd (λ_=>ha) s0 (.ok ((T,g1),s1)))(F:jy Λ s g1)(G:bW w' (dF c) A (j5 g1 Γ))(I:A≠c.cb):WG w' c s Λ (j5 g1 Γ) A where
 e:=G
 n:=I
 i:=F.over h.i
 nd y d q:=by
  have⟨_,E⟩:=Eb B _ _ _ _ C;unfold j5 at q;split at q
  .rename_i c' hc;injection q with q;subst q;obtain r|r:=E y c' hc
   .cases r
   .grind
  .exact h.nd y d q
 dm y q:=by
  have⟨E,_⟩:=Eb B _ _ _ _ C;unfold j5 at q;split at q
  .rename_i c' hc;rcases(E y).1 (by show g1 y≠ha;rw[hc];simp)with r|r
   .exact absurd rfl r
   .exact abw B y r
  .exact h.dm y q
def Gh(i:rE mk nl nd)(r:jh mk nd (λ_=>ha) s0 (.ok ((T,g1),s1)))(A:∀x,dom x->Γ x≠ha):∀x,dom x\/x∈pj nd->j5 g1 Γ x≠ha:=λx q=>by
 have⟨h1,_⟩:=Eb i _ _ _ _ r;unfold j5;split
 .simp
 .rename_i hc;obtain q|q:=q
  .exact A x q
  .grind
end
structure gE n0(M:ji Ty)c w0 cnt0(s0:jd)Λ(Γ:jc)gb(Q:Nat->Prop)(dom:BA->Prop)D(p:ji Ty)(P:ca->jd->Prop)(s:jd)cnt kb w:Prop where
 wg:WG w0 c s0 Λ Γ gb
 hq:∀b,Q b->b≠c.cb
 hd:∀x,dom x->Γ x≠ha
 ft:Fit c cnt0 n0
 mf:MkFine c.mks
 f:Fr (λi=>i=c.cb) w0 w
 we:WE w c cnt
 st:DG w0 w c cnt s0 s Λ kb
 cl:Cl c (1100*n0) (1000*n0) M s0 cnt0 w0 D p s cnt w
 lv:∀w' s',Fr (λi=>i=c.cb) w w'->qh Λ s s'->P w' s'
 cn:cnt+D<=cnt0+1000*n0
section
variable {n0:Nat} {M:ji Ty} {c:WC} {cnt0 cnt D2 kb0:Nat} {q:ji Ty} {P P':ca->jd->Prop} {post:fa->ca->Prop}
def gE.start(h:Bz nd c w0 cnt0 s0 kb0 Λ Γ gb Q dom v)(e:jf c.mks nd Γ=q):gE (nn nd) (jf c.mks nd Γ) c w0 cnt0 s0 Λ Γ gb Q dom (1000*nn nd) q (λ_ _=>True) s0 cnt0 kb0 w0:=⟨h.wg,h.hq,h.hd,h.ft,h.mf,Fr.refl _ _,h.we,⟨h.wk,h.hn,In.Kp.refl h.wk.ok h.hn⟩,λ_ _ h=>e▸h,λ_ _ _ _=>trivial,br _⟩
def gE.p(H:gE n0 M c w0 cnt0 s0 Λ Γ gb Q dom D q P s cnt kb w):P w s:=H.lv _ _ (Fr.refl _ _)<|In.Kp.refl H.st.k.ok H.st.n
def gE.af(H:gE n0 M c w0 cnt0 s0 Λ Γ gb Q dom D q P s cnt kb w)(k:Bq w w'):gE n0 M c w0 cnt0 s0 Λ Γ gb Q dom D q P s cnt kb w':=
 ⟨H.wg,H.hq,H.hd,H.ft,H.mf,H.f.trans<|Fr.of k,H.we.af k,⟨H.st.k.af k,H.st.n,H.st.p⟩,λe w2 h=>H.cl e w2 ⟨(Fr.of k).trans h.1,h.2⟩,λw2 s2 a b=>H.lv w2 s2 ((Fr.of k).trans a) b,H.cn⟩
def gE.drew(H:gE n0 M c w0 cnt0 s0 Λ Γ gb Q dom D q P s cnt kb w):gE n0 M c w0 cnt0 s0 Λ Γ gb Q dom D q P s cnt kb w.drew:=H.af (zi _ _).drew
def gE.add(H:gE n0 M c w0 cnt0 s0 Λ Γ gb Q dom D q P s cnt kb w)(h:∀w' s',Fr (λi=>i=c.cb) w w'->qh Λ s s'->P' w' s'):gE n0 M c w0 cnt0 s0 Λ Γ gb Q dom D q (λw s=>P w s/\P' w s) s cnt kb w:=⟨H.wg,H.hq,H.hd,H.ft,H.mf,H.f,H.we,H.st,H.cl,λw s a b=>⟨H.lv w s a b,h w s a b⟩,H.cn⟩
def gE.box{C}{t}(H:gE n0 M c w0 cnt0 s0 Λ Γ gb Q dom D q P s cnt kb w):gE n0 M c w0 cnt0 s0 Λ Γ gb Q dom D q (λw' s=>P w' s/\Bx w' w.heap.size C) s cnt kb (w.alloc<|.cells C t):=
 (H.af<|bw _).add λw' _ a _=>(Bx.new w C t).fr a (by have:=H.we.dE;omega)
def gE.asks{b:Nat}(H:gE n0 M c w0 cnt0 s0 Λ Γ gb Q dom D q P s cnt kb w)(K:Bq w W)(r:bW W (dF c) b (jq Γ st d))(hz:w.heap.size<=b)(A:In.nH Λ s d)(B:d.any.Nodup)(i:st∈c.nl)(C:PE w0 Q x vx)(E:ScE c.mks c.nl Xd x)(F:∀y,Xd y->dom y\/y=st)(hD:1000*nn x<=D)(G:nn x<=n0):Bz x c W cnt s kb Λ (jq Γ st d) b Q Xd vx:=
 ⟨H.we.af K,H.st.k.af K,H.st.n,(H.wg.fr H.f H.st.p.run).set r (by have:=H.we.dE;omega) A B i,(C.move H.f.size (λb p z=>H.f.block b z<|H.hq b p)<|λ_ p _=>p).af K,H.hq,E,λy q=>DI H.hd y<|F y q,H.ft.le qBw G,H.mf⟩
def gE.exG{g:Ty->ji Ty}{Lz}{gb'}(H:gE n0 M c w0 cnt0 s0 Λ Γ gb Q dom D (ja (jf c.mks x Lz) g) P s cnt kb w)(K:Bq w W)(B:AP x)(a:Bz x c W cnt s kb Λ Lz gb' Q Xd vx)(C:∀T ta xa s' aR LQ w',gE n0 M c w0 cnt0 s0 Λ Γ gb Q dom D2 (g T) (λw s=>P w s/\TW w (dF c) (1100*nn x) T (.iface ta xa)/\jm Λ s T) s' aR LQ w'->post (.returned<|.tuple #[.iface ta xa,Mv LQ]) w')(hD:D2+1000*nn x<=D:=by omega)(A:∀f l r w',aZ c (1100*n0) (1000*n0) M s0 cnt0 w0 (BE f l r) w'->post (BE f l r) w':=by exact λ_ _ _ _ h=>⟨rfl,h⟩):
 aa xk 230 #[Pv c.eb,Mv kb,Mv gb',vx] W post:=by
 refine(B c W cnt s kb Λ Lz gb' Q Xd vx a).mono λe w' hp=>?_;obtain⟨al,z,vl,vr,rfl,q⟩|⟨al,T,s1,ta,xa,lP,rfl,q⟩:=hp.split
 .exact A _ _ _ _ (H.cl _ _<|q.post (Fr.of K) ae)
 .have⟨st,ty⟩:=q.step a.wk a.hn a.wg;have:=q.c1;have:=q.c2;have:=H.cn;have F:=(Fr.of (S:=λi=>i=c.cb) K).trans q.F;exact C T ta xa s1 al lP w' ⟨H.wg,H.hq,H.hd,H.ft,H.mf,H.f.trans F,q.we,H.st.and ⟨st.k,st.n,st.p⟩,H.cl.and q.m F q.c1 q.u ae,λw2 s2 a b=>⟨H.lv w2 s2 (F.trans a)<|st.p.trans b,q.t.fr a<|λ_ p _=>p,ty.run b.run⟩,ae⟩
def gE.ex{g:Ty->ji Ty}(H:gE n0 M c w0 cnt0 s0 Λ Γ gb Q dom D (ja (jf c.mks x Γ) g) P s cnt kb w)(A:AP x)(B:PE w0 Q x vx)(C:ScE c.mks c.nl dom x)(E:∀T ta xa s' aR LQ w',gE n0 M c w0 cnt0 s0 Λ Γ gb Q dom D2 (g T) (λw s=>P w s/\TW w (dF c) (1100*nn x) T (.iface ta xa)/\jm Λ s T) s' aR LQ w'->post (.returned<|.tuple #[.iface ta xa,Mv LQ]) w')(F:D2+1000*nn x<=D:=by omega)(G:nn x<=n0:=by rw[en];omega)(i:∀f l r w',aZ c (1100*n0) (1000*n0) M s0 cnt0 w0 (BE f l r) w'->post (BE f l r) w':=by exact λ_ _ _ _ h=>⟨rfl,h⟩):
 aa xk 230 #[Pv c.eb,Mv kb,Mv gb,vx] w post:=
 H.exG (zi _ _) A ⟨H.we,H.st.k,H.st.n,H.wg.fr H.f H.st.p.run,B.move H.f.size (λb p z=>H.f.block b z<|H.hq b p)<|λ_ p _=>p,H.hq,C,H.hd,H.ft.le qBw G,H.mf⟩ E F i
section
variable {Y:Ty} {g:Unit->ji Ty} {v1 v2:ea}
def gE.eqc(H:gE n0 M c w0 cnt0 s0 Λ Γ gb Q dom D (ja (jp X Y f t) g) P s cnt kb w)(K:Bq w W)(B:TW W (dF c) S X v1)(C:TW W (dF c) S Y v2)(E:jm Λ s X)(ty:jm Λ s Y)(F:S<=900000:=by omega):
 aa xk 231 #[Mv kb,v1,v2,.agg #[Nv f,Nv t]] W λe w'=>(∃fl l r,e=BE fl l r/\aZ c (1100*n0) (1000*n0) M s0 cnt0 w0 e w')\/AW c cnt s Λ X Y f t w e w':=by
 have:=H.cn;have:=H.ft.a;refine(agN (H.we.af K) (H.st.k.af K) H.st.n ae F B C E ty f t).mono λe w' q=>?_;obtain q|q:=q.or
 .obtain⟨fl,l,r,i,A⟩:=q.post (H.we.af K)<|Fr.of K;exact .inl ⟨fl,l,r,i,H.cl _ _ A⟩
 .exact .inr (q.up K)
def gE.eqd(H:gE n0 M c w0 cnt0 s0 Λ Γ gb Q dom D (ja (jp X Y f t) g) P s cnt kb w)(q:AW c cnt s Λ X Y f t w (.returned u) w'):∃LQ s',u=Mv LQ/\gE n0 M c w0 cnt0 s0 Λ Γ gb Q dom D (g ()) P s' cnt LQ w':=by
 obtain⟨b,e,k,s',r,i,A,B⟩:=q;injection e with e;exact⟨b,s',e,H.wg,H.hq,H.hd,H.ft,H.mf,H.f.trans<|Fr.of k,H.we.af k,⟨A,i.new,H.st.p.trans i⟩,H.cl.and r (Fr.of k) (br _) (λn q=>qw<|B▸q)<|br _,λw2 s2 a b=>H.lv w2 s2 ((Fr.of k).trans a)<|i.trans b,H.cn⟩
def gE.eq(H:gE n0 M c w0 cnt0 s0 Λ Γ gb Q dom D (ja (jp X Y f t) g) P s cnt kb w)(A:TW w (dF c) S X v1)(B:TW w (dF c) S Y v2)(C:jm Λ s X)(ty:jm Λ s Y)(E:∀LQ s' w',gE n0 M c w0 cnt0 s0 Λ Γ gb Q dom D (g ()) P s' cnt LQ w'->post (.returned<|Mv LQ) w')(F:S<=900000:=by omega)(i:∀f l r w',aZ c (1100*n0) (1000*n0) M s0 cnt0 w0 (BE f l r) w'->post (BE f l r) w':=by exact λ_ _ _ _ h=>⟨rfl,h⟩):aa xk 231 #[Mv kb,v1,v2,.agg #[Nv f,Nv t]] w post:=
 (H.eqc (zi _ _) A B C ty F).mono λe w' q=>by
  obtain⟨fl,l,r,rfl,q⟩|q:=q
  .exact i _ _ _ _ q
  .have h:=q;obtain⟨b,rfl,-⟩:=q;have⟨LQ,s',e,H⟩:=H.eqd h
   cases e
   exact E _ _ _ H
end
def gE.new{g}(H:gE n0 M c w0 cnt0 s0 Λ Γ gb Q dom D (ja j6 g) P s cnt kb w)(i:∀s' w',gE n0 M c w0 cnt0 s0 Λ Γ gb Q dom D2 (g<|cnt+1) (λw s=>P w s/\jm Λ s (.var<|cnt+1)) s' (cnt+1) kb w'->post (.returned<|Iv<|(cnt:Int)+1) w')(hD:D2+1<=D:=by omega):aa xk 71 #[Pv c.cb] w post:=by
 have cn:=H.cn;have:=H.ft.a;have⟨W,F⟩:=H.we.fresh;have⟨m,st,ty⟩:=yT H.st.k H.st.n F;refine(oh cnt ae H.we.ct).mono ?_;rintro e w'⟨rfl,rfl⟩;exact i _ _ ⟨H.wg,H.hq,H.hd,H.ft,H.mf,H.f.trans F,W,H.st.and st,H.cl.and m F ae (λn q=>q.imp id λq=>ae) ae,λw2 s2 a b=>⟨H.lv w2 s2 (F.trans a)<|st.p.trans b,ty.run b.run⟩,ae⟩
def VA w c n:TW w (dF c) 1 (.var n) (.iface 182<|Nv n):=TW.of (x:=.var n) (dq.var n) trivial (by simp[size])
def TW.pr(I:TW w (dF c) S1 a va)(J:TW w (dF c) S2 b vb)(hc:c.cb<w.heap.size):TW (w.alloc<|.cells #[va,vb] 105) (dF c) (1+S1+S2) (qm a b) (.iface 194<|.agg #[.string<|pn pq,.slice (ga ⟨w.heap.size,0,ha⟩) 2 2]):=by
 obtain⟨⟨i,r,A,z1⟩,B⟩:=I;obtain⟨⟨C,E,F,z2⟩,G⟩:=J;exact⟨⟨.aM pq [i,C],nc.ty (qv<|qw rfl) r E (by show w.heap.size≠c.cb;omega),dr.aew pq Xn A F,by simp only[size,ak];omega⟩,⟨Xn,B,G,trivial⟩⟩
def agn{tb}{xb}(i:TW w (dF c) S1 a (.iface ta xa))(r:TW w (dF c) S2 b (.iface tb xb))(hc:c.cb<w.heap.size):aa xk 261 #[.iface ta xa,.iface tb xb] w λe w'=>∃g,e=.returned (.iface 194<|.agg #[.string<|pn rG,.slice (ga ⟨g,0,ha⟩) 2 2])/\Bq w w'/\TW w' (dF c) (1+S1+S2) (j9 a b) (.iface 194<|.agg #[.string<|pn rG,.slice (ga ⟨g,0,ha⟩) 2 2]):=
 (vV _ _ _ _).mono λe w' h=>by
  obtain⟨rfl,rfl⟩:=h;exact⟨_,rfl,bw _,TW.fn i r hc⟩
def gE.ret(H:gE n0 M c w0 cnt0 s0 Λ Γ gb Q dom D (jk X) P s cnt kb w)(i:TW w (dF c) S X (.iface ta xa))(r:S<=1100*n0:=by rw[en];omega):aZ c (1100*n0) (1000*n0) M s0 cnt0 w0 (.returned<|.tuple #[.iface ta xa,Mv kb]) w:=H.cl _ _<|Pn H.we H.st.k (i.le r)<|Fr.refl _ _
end
section
variable {c:WC} {cnt:Nat} {a:Nat} {y z:Nd} {vy vz:ea}
def LL(mk:jj)s n x y f t a(Γ:jc):jf mk (.mk 6 s n [x,y] f t a) Γ=ja (jf mk x Γ) λa=>ja (jf mk y Γ) λb=>jk<|qm a b:=by simp[jf,jz,j7,j8]
def ScE.adZ(h:ScE c.mks c.nl dom (.mk k st n [x,y] f t a))(i:k=6\/k=7\/k=8):ScE c.mks c.nl dom x/\ScE c.mks c.nl dom y:=by
 obtain rfl|rfl|rfl:=i<;>cases h with
 |two _ _ _ _ _ _ _ _ _ _ hx hy=>exact⟨hx,hy⟩|lt _ _ _ _ _ _ _ _ _ _ hc=>omega
def opT s:=if s=b8 then In.nX else qt
def LK(mk:jj)s n x y f t a(Γ:jc):jf mk (.mk 7 s n [x,y] f t a) Γ=ja (jf mk x Γ) λa=>ja (jp a qt (ju x)<|jx x) λ_=>ja (jf mk y Γ) λb=>ja (jp b qt (ju y)<|jx y) λ_=>jk<|opT s:=by simp[jf,jz,j7,j8,In.iH,opT]
def Gm:Tryz.prog.underlying 140=ga (.map 9 183):=qkr
def abx w:(zeroValue 183).run xk w=.ok .nilFunc w:=qkr
def tU.look{b}(h:tU w b){k}(r:k=cY\/k=bM\/k=cD\/k=b8):(k=b8/\(zu 140 (Mv b) (.string k) ia).run xk w=.ok (.func (.func 73) #[] #[]) w)\/(k≠b8/\(zu 140 (Mv b) (.string k) ia).run xk w=.ok (.func (.func 72) #[] #[]) w):=by
 obtain⟨L,i,g1,g2,g3,g4⟩:=h;have hl:=λk=>i.ms.look Oq Gm (abx w) k trivial (λ_ _=>trivial) ia;obtain rfl|rfl|rfl|rfl:=r
 .grind
 .grind
 .grind
 .grind
def tU.drew{b:Nat}(h:tU w b):tU w.drew b:=h.same rfl
end
section
variable {c:WC} {cnt:Nat}
def aa7{x}{a}(h:Bz (.mk 2 x n [] f t a) c w cnt s kb Λ Γ gb Q dom (.iface 251<|.agg #[Nv f,Nv t,.string x])):
 aa xk 230 #[Pv c.eb,Mv kb,Mv gb,.iface 251<|.agg #[Nv f,Nv t,.string x]] w (aZ c (1100*nn (.mk 2 x n [] f t a)) (1000*nn (.mk 2 x n [] f t a)) (jf c.mks (.mk 2 x n [] f t a) Γ) s cnt w):=by
 have en:nn (.mk 2 x n [] f t a)=1:=qBi;obtain⟨tk,m,E⟩:∃tk m,c.mks x=ga (tk,m):=by
  cases h.sc with
  |up _ _ _ _ _ _ tk m E=>exact⟨tk,m,E⟩|leaf _ _ _ _ _ _ _ hk=>omega
 rw[en,Xq c.mks x n f t a Γ E];have a0:=h.ft.a;rw[en]at a0;have Bu:=h.mf.sz x tk m E;have K:=h.mf.wh x tk m E;have b0:=h.mf.vs x tk m E;have has:=rL tk m;have Vx:(vars [] m).length<=size m:=by
  exact Po
 have hla:(vars []<|jl tk m).length<=1000:=by
  rw[cC];have h2:=dt (occs<|jl tk m) [];have h3:=du<|jl tk m;simp only[nM]at h2;omega
 have⟨N,B0⟩:=rF w #[Nv f,Nv t,Sv x] 251;obtain⟨w0,G⟩:∃w0,w0=w.alloc (Cv #[Nv f,Nv t,Sv x] 251):=⟨_,rfl⟩;have A:=h.we.af N;have r:=h.wk.af N;rw[<-G]at N B0 A r;have⟨v,hv,O⟩:=A.ms.look E;have ld:=A.d;have ll:=A.l;have c0:=hv;obtain⟨sa,sc,ta,xa,rfl,hr,hm⟩:=c0;have d0:∀W:ca,Bq w0 W->aa xk 243 #[Pv c.eb,Fv ta xa] W (λe w'=>∃b,e=Rv (Mv b)/\RnA c cnt (vars [] m) w0 w' b):=λW hb=>by
  refine(Bv (A.af hb) (hm.w.af hb) ae ae).mono ?_;rintro e w'⟨b,rfl,h1,h2,h3,B⟩;exact⟨b,rfl,by have:=hb.size;omega,h2,h3,(Fr.of hb).trans B⟩
 have e0:∀W:ca,Fr (λi=>i=c.cb) w0 W->aa xk 244 #[Av #[Lv sa tk.length sc,Fv ta xa]] W (λe w'=>∃tu xu,e=Rv (Fv tu xu)/\dq w' (dF c) (jl tk m) (Fv tu xu)/\Bq W w'):=λW hF=>by
  refine(vU (hv.move (Q:=dF c) hF.size (λb p z=>hF.block b z p.1)<|λb p _=>p.1) ae).mono ?_;rintro e w'⟨u,rfl,C,hk⟩;obtain⟨tu,xu,rfl⟩:=C.iface;exact⟨tu,xu,rfl,C.wide λi p=>by obtain p|p:=p;exact p;show i≠c.cb;have:=hF.size;omega,hk⟩
 have f0:∀(W:ca)(b:Nat)(tu:TypeId)(xu:ea),RnA c cnt (vars [] m) w0 W b->dq W (dF c) (jl tk m) (Fv tu xu)->aa xk 221 #[Mv b,Fv tu xu] W (λe w'=>∃tr xr,e=Rv (Fv tr xr)/\TW w' (dF c) 1100 (sub (jo<|p7 cnt<|vars [] m)<|jl tk m) (Fv tr xr)/\Bq W w'):=λW b tu xu hA C=>by
  have Z:=Pk cnt<|vars [] m;have I:=Gd hA.sb (show dF c b by have:=hA.z;show b≠c.cb;omega) C ae (by rw[Z,ir];omega);rw[Z]at I;refine I.mono ?_;rintro e w'⟨u,rfl,J,hk⟩;obtain⟨tr,xr,rfl⟩:=J.iface;have B:=ph (p7 cnt<|vars [] m) _ K;refine⟨tr,xr,rfl,⟨⟨_,J.wide λi p=>by obtain p|p:=p;exact p;show i≠c.cb;have:=hA.F.size;omega,(dr.refl _).cut B,?_⟩,B⟩,hk⟩;have V:(vars []<|sub (jo<|p7 cnt<|vars [] m)<|jl tk m).length<=1000:=by
   rw[cC];have h2:=dt (occs<|sub (jo<|p7 cnt<|vars [] m)<|jl tk m) [];have h3:=du<|sub (jo<|p7 cnt<|vars [] m)<|jl tk m;rw[ir]at h3;simp only[nM]at h2;omega
  have:=fy B V ae;omega
 have B:∀W:ca,Fr (λi=>i=c.cb) w0 W->(Instr.lookup 142 (Mv c.mb) (Sv x) ia).run Tryz.prog W=.ok (Av #[Lv sa tk.length sc,Fv ta xa]) W:=λW hF=>O W<|hF.block _ ae ae;have aja:=B w0.drew<|Fr.of (Below.refl _ _).drew;obtain⟨b1,b2,b3⟩:=B0;have⟨e1,e2,e3⟩:=A.bx;have BB:=show Bx w0 w.heap.size #[Nv f,Nv t,Sv x]from⟨b1,b2,b3⟩;have K0:=ai N;have g0:=ai r;have HU:=ai h.wk.u;have nz:=ld.1;have zc:=h.we.dE;clear h N A r hv O hr hm K ld ll;go_in;go_wp;rw[<-G];clear G;have ajb:=agT;have I:¬w.heap.size=c.cb:=ae;have f1:=e1 2;have f2:=b1 2;clear e1 e2 e3 b1 b2 b3
 go_region_held3(λw'=>w'.cell? ⟨c.eb,2,ha⟩=ga (Mv c.mb)/\w'.cell? ⟨w.heap.size,2,ha⟩=ga (Sv x)/\(zu 142 (Mv c.mb) (Sv x) ia).run xk w'=.ok (Av #[Lv sa tk.length sc,Fv ta xa]) w') (first|go_keep|(simp[*])) (first
  |(go_at_call 243;go_loud(refine(d0 _ (zi _ _).drew).mono ?_);rintro e J⟨b5,rfl,hA⟩;have g1:J.cell? ⟨c.eb,2,ha⟩=ga (Mv c.mb):=hA.we.bx.c 2;have g2:J.cell? ⟨w.heap.size,2,ha⟩=ga (Sv x):=(BB.fr hA.F I).c 2;have ajc:=B J hA.F;have V:=ai hA;clear hA)
  |(go_at_call 244;go_loud(refine(e0 _ V.F).mono ?_);rintro e Z⟨tu,xu,rfl,C,k3⟩;have J:Hid (RnA c cnt (vars [] m) w0 Z b5):=ai ⟨V.z,V.we.af k3,V.sb.af k3,V.F.trans<|Fr.of k3⟩;have g3:Z.cell? ⟨c.eb,2,ha⟩=ga (Mv c.mb):=J.we.bx.c 2;have g4:Z.cell? ⟨w.heap.size,2,ha⟩=ga (Sv x):=(BB.fr J.F I).c 2;have ajd:=B Z J.F;have V:=ai C;clear C k3)
  |(go_at_call 221;go_loud(refine(f0 _ _ _ _ J V).mono ?_);rintro e V⟨tr,xr,rfl,ht,C⟩;have Z:=J.F.trans<|Fr.of C;have g5:V.cell? ⟨c.eb,2,ha⟩=ga (Mv c.mb):=(J.we.af C).bx.c 2;have g6:V.cell? ⟨w.heap.size,2,ha⟩=ga (Sv x):=(BB.fr Z I).c 2;have aje:=B V Z;have K4:=ai C;have T4:=ai ht;clear ht C Z))
 all_goals
  go_wp2
  go_ret2;have V:=uh J;have C:=uh K4;have r:=uh g0;refine⟨(Fr.of K0).trans<|V.F.trans<|Fr.of C,cnt+(vars [] m).length,.ok (sub (jo<|p7 cnt<|vars [] m)<|jl tk m,⟨s.k,λn=>s.u n\/(cnt<n/\n<=cnt+(vars [] m).length)⟩),ae,ae,V.we.af C,qv ⟨(_,p7 cnt<|vars [] m),_,qv ⟨p7 cnt<|vars [] m,_,⟨_,_,H9 (Cp cnt (vars [] m) (dO m xi) HU) λv=>?_,rfl⟩,rfl⟩,rfl⟩,λn q=>q,r.wh,tr,xr,kb,rfl,r.n,(r.k.fr V.F r.n<|λ_ p _=>p).af C,T4.le ae⟩;rw[bC,bC];simp only[xg,false_or];exact⟨abu tk m v,b0 v⟩
end
end
section
open Un
def wQ.head{s:BA}(h:wQ s):∃x r,s.toList=x::r/\65<=x.toNat/\x.toNat<=90:=by
 obtain⟨x,r,A,i,_⟩:=h;exact⟨x,r,A,by simp[Pu.AU]at i;omega,by simp[Pu.AU]at i;omega⟩
def wQ.ne{s:BA}(h:wQ s)y q(hy:y.toNat<65\/90<y.toNat):s≠⟨(y::q).toArray⟩:=by
 rintro rfl;have⟨x,r,i,h2,h3⟩:=h.head;rw[toList_mk]at i;injection i with A _;subst A;omega
def wQ.VS{s:BA}(h:wQ s)(hz:s.size<=400)n:VS s n:=
 ⟨ae,λe=>(by
  obtain e|e:=e
  .exact absurd e (h.ne 62 [] aD)
  .exact absurd e (h.ne 44 [] aD)),.inr<|.inr h⟩
structure TyG own nd:Prop where
 st:(bm own nd).2=own
 oc:∀n,aA n (bm own nd).1->1<=n/\n<=own.length
 es:bm own (es nd)=bm own nd
 sz:size (bm own nd).1<=nn nd
 wh:Whole (bm own nd).1
 ty:nn nd<=1001->ys nd
structure Bb own L:Prop where
 st:(aJ own L).2=own
 oc:∀n,bZ n (aJ own L).1->1<=n/\n<=own.length
 es:aJ own (bB L)=aJ own L
 sz:ak (aJ own L).1<=cr L
 wh:jT (aJ own L).1
 ty:cr L<=1001->∀i(h:i<L.length),ys L[i]
def Bb.of{own:List BA}:∀{L:List Nd},(∀x∈L,TyG own x)->Bb own L
 |[],_=>⟨rfl,λn h=>h.elim,rfl,br _,trivial,λ_ i h=>absurd h<|xw i⟩|x::L,h=>by
  have r:=h x ag;have A:=Bb.of (L:=L) λy hy=>h y (by simp[hy]);refine⟨?_,?_,?_,?_,?_,λhn i hi=>?_⟩
  .simp only[aJ];rw[r.st];exact A.st
  .simp only[aJ];rw[r.st];exact λn q=>q.elim (r.oc n)<|A.oc n
  .simp only[aJ,bB];rw[r.es,r.st,A.es]
  .simp only[aJ,ak,cr];rw[r.st];have:=r.sz;have:=A.sz;omega
  .simp only[aJ];rw[r.st];exact⟨r.wh,A.wh⟩
  .simp only[cr]at hn
   cases i with
   |zero=>exact r.ty ae|succ i=>exact A.ty ae i WW
def TyG.aM{own}{k}{s}{n f t a}{L}(hk:k=2\/k=6\/k=17)(E:pP k s≠rI)(r:Bb own L)(B:nn (.mk k s n L f t a)<=1001->ys (.mk k s n L f t a)):TyG own (.mk k s n L f t a):=by
 have A:k≠16:=ae;have C:¬(k=3\/k=15):=ae;have i:∀(s:BA)n(M:List Nd)f t a,bm own (.mk k s n M f t a)=(.aM (pP k s) (aJ own M).1,(aJ own M).2):=λs n M f t a=>by simp[bm,A]
 refine⟨?_,?_,?_,?_,?_,B⟩
 .rw[i];exact r.st
 .rw[i];exact r.oc
 .simp only[Go.Proofs.YtonaidfgokhmoaaGreatDoor.es];rw[if_neg C,i,i,r.es]
 .rw[i];simp only[size,nn];have:=r.sz;omega
 .rw[i];exact⟨E,r.wh⟩
def oa{ty:BA->Option Nat}{own:List BA}:∀{L:List Nd}{z:Fl},(iJ ty own L z).kind=0->∀x∈L,∃z',(rV ty own x z').kind=0
 |y::L,z,h,x,hx=>by
  rw[iJ]at h;obtain e|e:=List.mem_cons.1 hx
  .subst e;exact⟨z,yw L _ h⟩
  .exact oa h x e
def Pq{p:Prop}(h:p:=by
 obtain⟨z',q⟩:=oa hz u hu;simp only[qz,xg,or_false]at hu;obtain rfl|rfl:=hu
 .exact bu z' q
 .exact cW z' q):p:=h
def LW{own}(h:qN nd):∀z,(rV ty own nd z).kind=0->TyG own nd:=by
 induction h with
 |var s n f t a h1 h2 h3=>
  intro z hz;rw[rV,iJ]at hz;have r:s∈own:=by
   have:=(cZ aD (cZ aD hz).2).1;simpa[gG]using this
  have i:∀n f t a,bm own (.mk 16 s n [] f t a)=(.var<|ix s own+1,own):=λn f t a=>by simp[bm,Pr r]
  refine⟨by rw[i],?_,?_,by rw[i];simp[size,nn],by rw[i];trivial,λ_=>.var s n f t a⟩
  .rw[i];intro n q;have q:n=ix s own+1:=by first|exact q|exact q.symm
   have:=Ms r;omega
  .simp only[Go.Proofs.YtonaidfgokhmoaaGreatDoor.es,bB];rw[i,if_neg aD,i]
 |up s n L f t a h1 h2 h3 h4 ih=>
  intro z hz;rw[rV]at hz;have i:Bb own L:=.of λx hx=>by
   have⟨z',q⟩:=oa hz x hx;exact ih x hx z' q
  refine .aM (qw rfl) ?_ i λhn=>?_
  .rw[show pP 2 s=s from rfl];exact h1.ne 116 [111,111,32,108,97,114,103,101] aD
  .simp only[nn]at hn;have:=mJ L;exact .up s n L f t a (h1.VS h2) ae<|i.ty ae
 |pr x y f t a h1 h2 bu cW=>
  intro z hz;rw[rV]at hz;have i:Bb own [x,y]:=.of λu hu=>by
   exact Pq
  refine .aM (qv<|qw rfl) aD i λhn=>?_;simp only[nn]at hn;exact .two 6 cX 0 x y f t a (qv rfl) (i.ty ae 0 ag)<|i.ty ae 1 ag
 |fn x y f t a h1 h2 bu cW=>
  intro z hz;rw[rV]at hz;have i:Bb own [x,y]:=.of λu hu=>by
   exact Pq
  refine .aM (qv<|qv rfl) aD i λhn=>?_;simp only[nn]at hn;exact .two 17 cX 0 x y f t a (qw rfl) (i.ty ae 0 ag)<|i.ty ae 1 ag
def TyG.shut(h:TyG [] nd):vars [] (bm []<|Go.Proofs.YtonaidfgokhmoaaGreatDoor.es nd).1=[]:=by
 rw[h.es];exact yL _ [] λn hn=>by have:=h.oc n hn;simp at this;omega
def rU(mk:BA->Option Nat)(mks:jj):=∀s n,mk s=ga n->∃tk m,mks s=ga (tk,m)/\tk.length=n
section
variable {mk:BA->Option Nat}
def Ec(E:rU mk mks):∀{L:List Nd},(∀x∈L,∀q,(jJ mk x q).2.kind=0->(∀s∈nO x,s∈nl)->(jJ mk x q).1=q.1++pj x/\rE mks nl x)->∀q,(dW mk L q).2.kind=0->(∀s∈kB L,s∈nl)->(dW mk L q).1=q.1++m_ L/\∀i(h:i<L.length),rE mks nl L[i]
 |[],_,q,_,_=>⟨by simp[dW,m_],λi h=>absurd h<|xw i⟩|x::L,ih,q,hz,hn=>by
  rw[dW]at hz⊢;have⟨r,A⟩:=ih x ag q (Ed L _ hz) λs hs=>hn s (by simp[kB,hs]);have⟨B,C⟩:=Ec E (L:=L) (λy hy=>ih y<|by simp[hy]) _ hz λs hs=>hn s (by simp[kB,hs]);refine⟨by rw[B,r];simp[m_],λi hi=>?_⟩
  cases i with
  |zero=>exact A|succ i=>exact C i WW
def aeF(B:rU mk mks)(h:tH nd):∀q,(jJ mk nd q).2.kind=0->(∀s∈nO nd,s∈nl)->(jJ mk nd q).1=q.1++pj nd/\rE mks nl nd:=by
 induction h with
 |any s f t a _=>exact λq _ _=>⟨by simp[jJ,dW,pj,m_],.leaf 15 s 0 f t a ag⟩|low s f t a _ _=>exact λq _ hn=>⟨by simp[jJ,pj],.low s 0 f t a<|hn s<|by simp[nO]⟩|num s n f t a _ _=>exact λq _ _=>⟨by simp[jJ,dW,pj,m_],.leaf 3 s n f t a ag⟩|word s f t a _ _=>exact λq _ _=>⟨by simp[jJ,dW,pj,m_],.leaf 4 s 0 f t a ag⟩|unit f t a=>exact λq _ _=>⟨by simp[jJ,dW,pj,m_],.leaf 5 cX 0 f t a ag⟩|pr x y f t a _ _ bu cW=>
  intro q i hn;have e:jJ mk (.mk 6 cX 0 [x,y] f t a) q=dW mk [x,y] q:=by simp[jJ,bR]
  rw[e]at i⊢
  have⟨A,r⟩:=Ec B (L:=[x,y]) (λu hu=>by
   simp only[qz,xg,or_false]at hu;obtain rfl|rfl:=hu
   .exact bu
   .exact cW) q i λs hs=>hn s (by simp only[nO,qz];exact qv hs)
  exact⟨by rw[A];simp[pj],.pr cX 0 x y f t a (r 0 ag)<|r 1 ag⟩
 |up s n L f t a _ _ _ _ ih=>
  intro q i hn;have e:jJ mk (.mk 2 s n L f t a) q=dW mk L (q.1,bR (mk s !=ga L.length) 5 a (a+s.size) q.2):=by simp[jJ]
  rw[e]at i⊢;have C:=(cZ aD<|Ed L _ i).1;have⟨A,r⟩:=Ec B (L:=L) (λu hu=>ih u hu) _ i λs hs=>hn s (by simp only[nO,qz];exact qv hs);have⟨tk,m,g1,E⟩:=B s L.length (by simpa using C);exact⟨by rw[A];simp[pj],.up s n L f t a tk m g1 E.symm r⟩
def Ps(B:rU mk mks){l:List BA}{dom:BA->Prop}(C:∀s∈l,dom s):∀{A:List (Nd×Nd)},(∀p∈A,tH p.1)->(∀p∈A,∀l z,(dV ty mk p.2 l z).kind=0->(∀s∈nO p.2,s∈nl)->nn p.2<=1000->∀dom:BA->Prop,(∀s∈l,dom s)->ScE mks nl dom p.2)->∀z,(mi ty mk (aN A) l z).kind=0->(∀s∈kB (aN A),s∈nl)->cr (aN A)<=1000->(∀i(h:i<A.length),rE mks nl A[i].1)/\∀i(h:i<A.length),ScE mks nl (λv=>dom v\/v∈pj A[i].1) A[i].2
 |[],_,_,z,_,_,_=>⟨λi h=>absurd h<|xw i,λi h=>absurd h<|xw i⟩|(p,e)::A,hp,he,z,hz,hn,hl=>by
  simp only[aN]at hz hn hl;simp only[kB,qy]at hn;simp only[cr]at hl;rw[mi,Ee]at hz;have r:=Ef (aN A) l _ hz;have⟨g1,E⟩:=aeF B (hp (p,e) ag) _ (lR e _ _ r) λs hs=>hn s<|qw hs;simp only[List.nil_append]at g1;have⟨F,G⟩:=Ps B C (A:=A) (λq hq=>hp q<|by simp[hq]) (λq hq=>he q<|by simp[hq]) _ hz (λs hs=>hn s<|qv<|qv hs) ae;have I:=he (p,e) ag _ _ r (λs hs=>hn s<|qv<|qw hs) (by show nn e<=1000;omega) (λv=>dom v\/v∈pj p) λs hs=>by
   obtain q|q:=List.mem_append.1 hs
   .exact qw (C s q)
   .rw[g1]at q;exact qv q
  refine⟨λi hi=>?_,λi hi=>?_⟩
  .cases i with
   |zero=>exact E|succ i=>exact F i WW
  .cases i with
   |zero=>exact I|succ i=>exact G i WW
end
section
variable {mk:BA->Option Nat}
def EG ty mk(mks:jj)nl nd:=∀l z,(dV ty mk nd l z).kind=0->(∀s∈nO nd,s∈nl)->nn nd<=1000->∀dom:BA->Prop,(∀s∈l,dom s)->ScE mks nl dom nd
def EG.two{k}{s}{n f t a}{x y}(B:k=6\/k=7\/k=8)(E:EG ty mk mks nl x)(F:EG ty mk mks nl y):EG ty mk mks nl (.mk k s n [x,y] f t a):=by
 intro l z i r C dom A;have e:dV ty mk (.mk k s n [x,y] f t a) l z=dV ty mk y l (dV ty mk x l z):=by obtain rfl|rfl|rfl:=B<;>simp[dV,gn]
 rw[e]at i;simp only[nO,kB,qz,qy,q9]at r;simp only[nn,cr]at C;exact .two dom k s n x y f t a B (E l z (lR y _ _ i) (λs hs=>r s<|qv<|qw hs) ae dom A)<|F l _ i (λs hs=>r s<|qv<|qv hs) ae dom A
def EG.fn{s}{n f t a}{x}(C:EG ty mk mks nl x):EG ty mk mks nl (.mk 9 s n [x] f t a):=by
 intro l z r i A dom B;have e:dV ty mk (.mk 9 s n [x] f t a) l z=dV ty mk x (l++[s]) z:=by simp[dV,Bc]
 rw[e]at r;simp only[nO,kB,qz,q9]at i;simp only[nn,cr]at A;refine .fn dom s n x f t a (i s<|qw rfl)<|C _ z r (λs hs=>i s<|qv hs) ae _ λv hv=>?_;obtain q|q:=List.mem_append.1 hv
 .exact qw (B v q)
 .grind
def EG.lt{c}{s}{n f t a}{x y}(hc:c=10\/c=11)(E:EG ty mk mks nl x)(F:EG ty mk mks nl y):EG ty mk mks nl (.mk c s n [x,y] f t a):=by
 intro l z A r B dom C;have e:dV ty mk (.mk c s n [x,y] f t a) l z=dV ty mk y (l++[s]) (dV ty mk x (if c=11 then l++[s]else l) z):=by obtain rfl|rfl:=hc<;>simp[dV,Eg,Bc]
 rw[e]at A;simp only[nO,kB,qz,qy,q9]at r;simp only[nn,cr]at B;have i:∀v∈l++[s],dom v\/v=s:=λv hv=>by
  obtain q|q:=List.mem_append.1 hv
  .exact qw (C v q)
  .grind
 refine .lt dom c s n x y f t a (r s<|qw rfl) hc (E _ z (lR y _ _ A) (λs i=>r s<|qv<|qw i) ae _ λv hv=>?_)<|F _ _ A (λs i=>r s<|qv<|qv i) ae _ i;split at hv
 .rename_i q;exact(i v hv).imp id λe=>⟨q,e⟩
 .grind
def ad4(F:rU mk mks)(h:gT nd):EG ty mk mks nl nd:=by
 induction h with
 |low s f t a _ _=>
  intro l z i r C dom B;have e:dV ty mk (.mk 1 s 0 [] f t a) l z=bR (!gG s l) 5 f t z:=by simp[dV]
  rw[e]at i;exact .low dom s 0 f t a (B s<|Pt.1<|by simpa using(cZ aD i).1)
 |up s f t a _ _=>
  intro l z i r C dom B;have e:dV ty mk (.mk 2 s 0 [] f t a) l z=bR (mk s).isNone 5 f t z:=by simp[dV]
  rw[e]at i;have E:=(cZ aD i).1
  cases hm:mk s with
  |none=>grind|some n=>
   have⟨tk,m,g1,_⟩:=F s n hm;exact .up dom s 0 f t a tk m g1
 |num s n f t a _ _=>exact λl z _ _ _ dom _=>.leaf dom 3 s n f t a ag|word s f t a _ _=>exact λl z _ _ _ dom _=>.leaf dom 4 s 0 f t a ag|unit f t a=>exact λl z _ _ _ dom _=>.leaf dom 5 cX 0 f t a ag|pr x y f t a _ _ bu cW=>exact .two ag bu cW|of x y f t a _ hy bu=>
  intro l z i r C dom B;have e:dV ty mk (.mk 14 cX 0 [x,y] f t a) l z=rV ty [] y (dV ty mk x l z):=by simp[dV,Bd]
  rw[e]at i;simp only[nO,kB,qz,qy,q9]at r;simp only[nn,cr]at C;have g:=LW hy _ i;have gz:=g.sz;exact .of dom cX 0 x y f t a (bu l z (Xs y _ i) (λs hs=>r s<|qv<|qw hs) ae dom B) g.shut (by rw[g.es];omega) (by rw[g.es];exact g.wh)
 |op s x y f t a _ _ _ bu cW=>exact .two ag bu cW|call x y f t a _ _ bu cW=>exact .two ag bu cW|fn s x f t a _ _ _ ih=>exact ih.fn|lt s x z f t a _ _ _ _ bu qA=>exact .lt (qw rfl) bu qA|ltr s s' x z f t a f' t' a' _ _ _ _ _ _ bu qA=>exact .lt (qv rfl) bu.fn qA|ite x y w f t a _ _ _ bu cW ihw=>
  intro l z i r C dom B;have e:dV ty mk (.mk 12 cX 0 [x,y,w] f t a) l z=dV ty mk w l (dV ty mk y l<|dV ty mk x l z):=by simp[dV,gn]
  rw[e]at i;simp only[nO,kB,qz,qy,q9]at r;simp only[nn,cr]at C;have E:=lR w _ _ i;exact .ite dom cX 0 x y w f t a (bu l z (lR y _ _ E) (λs hs=>r s<|qv<|qw hs) ae dom B) (cW l _ E (λs hs=>r s<|qv<|qv<|qw hs) ae dom B)<|ihw l _ i (λs hs=>r s<|qv<|qv<|qv hs) ae dom B
 |mt x A f t a _ _ hp _ bu ihA=>
  intro l z i r C dom B;have e:dV ty mk (.mk 13 cX 0 (x::aN A) f t a) l z=mi ty mk (aN A) l (dV ty mk x l z):=by simp[dV,Ib]
  rw[e]at i;simp only[nO,kB,qz,qy]at r;simp only[nn,cr]at C;have⟨g1,E⟩:=Ps F B hp (λp hq=>ihA p hq) _ i (λs hs=>r s<|qv<|qv hs) ae;exact .mt dom cX 0 x A f t a (bu l z (Ef (aN A) l _ i) (λs hs=>r s<|qv<|qw hs) ae dom B) g1 E
end
def LU:∀{vs:List xn}{p:List BA}{z:Fl},(F9 p vs z).kind=0->z.kind=0/\(vs.map (·.text)).Nodup/\∀v∈vs,v.text∉p
 |[],p,z,h=>⟨h,ag,ag⟩|v::r,p,z,h=>by
  rw[F9]at h;have⟨B,C,A⟩:=LU h;have⟨E,F⟩:=cZ aD B;refine⟨F,?_,?_⟩
  .simp only[xh,List.nodup_cons];refine⟨λq=>?_,C⟩;have⟨u,i,e⟩:=List.mem_map.1 q;exact A u i Vh
  .intro u i;obtain e|e:=List.mem_cons.1 i
   .subst e;exact Pw.1 E
   .exact λq=>A u e qBf
def VR{ty:BA->Option Nat}(t:xn)(vs:List xn):∀{ms:List Nd}{q:(BA->Option Nat)×Fl}{mks:jj},(∀m∈ms,Dx qN m)->(xG iy ty (vs.map (·.text)) ms q).2.kind=0->rU q.1 mks->
 q.2.kind=0/\rU (xG iy ty (vs.map (·.text)) ms q).1 (In.rK t vs ms mks)/\∀m∈ms,∃s L f u a,m=.mk 2 s 0 L f u a/\Bb (vs.map (·.text)) L
 |[],q,mks,_,h,hm=>⟨h,hm,ag⟩|m::r,q,mks,h3,h,hm=>by
  obtain⟨s,L,f,u,a,rfl,g1,g2,A⟩:=h3 m ag;rw[xG]at h⊢;have hL':∀(z:Fl),(iJ ty (vs.map (·.text)) L z).kind=0->Bb (vs.map (·.text)) L:=λz hz=>.of λx hx=>by
   have⟨i,q⟩:=oa hz x hx;exact LW (A x hx) i q
  have B:rU (iy q.1 s L.length) (λy=>if y=qn (.mk 2 s 0 L f u a)then ga (qp (vs.map (·.text))<|.mk 2 s 0 L f u a,jt t vs)else mks y):=by
   intro y n i;rw[iy]at i;by_cases e:y=s
   .rw[if_pos e]at i;injection i with i;refine⟨_,_,if_pos<|show y=qn (.mk 2 s 0 L f u a)from e,?_⟩;rw[<-i];have:∀(l:List Nd)ns,(aJ ns<|bB l).1.length=l.length:=by
     intro l
     induction l with
     |nil=>intro ns;rfl|cons x l ih=>intro ns;simp only[bB,aJ,eG,ih]
    exact this L _
   .rw[if_neg e]at i;have⟨tk,m,C,E⟩:=hm y n i;exact⟨tk,m,(if_neg e).trans C,E⟩
  have⟨k1,i,C⟩:=VR t vs (ms:=r) (λm hm=>h3 m<|by simp[hm]) h B;refine⟨(cZ aD<|yw L _ k1).2,i,λm hm=>?_⟩;obtain e|e:=List.mem_cons.1 hm
  .grind
  .exact C m e
def Tq(t:xn)(vs:List xn)n(h:1<=n/\n<=vs.length):aA n (jt t vs):=by
 rw[jt];simp only[aA];have:∀(l:List Nat),n-1∈l->bZ n (l.map λi=>zx<|i+1):=by
  intro l
  induction l with
  |nil=>simp|cons x l ih=>
   intro r;simp only[xh,bZ];obtain e|e:=List.mem_cons.1 r
   .left;simp only[aA];omega
   .exact qv (ih e)
 exact this _<|List.mem_range.2 ae
def Mt(t:xn)(vs:List xn):size (jt t vs)=1+vs.length:=by
 rw[jt];simp only[size];have:∀(l:List Nat),ak (l.map λi=>zx<|i+1)=l.length:=by
  intro l
  induction l with
  |nil=>rfl|cons x l ih=>simp only[xh,ak,size,ih,eG];omega
 rw[this,List.length_range]
def Ic{t}(vs:List xn)(h:wQ t.text):Whole (jt t vs):=by
 refine⟨h.ne 116 [111,111,32,108,97,114,103,101] aD,?_⟩;have:∀(l:List Nat),jT<|l.map λi=>zx<|i+1:=by
  intro l
  induction l with
  |nil=>trivial|cons x l ih=>exact⟨trivial,ih⟩
 exact this _
def Px:∀(tk:List Ty)(m:Ty),size (jl tk m)=ak tk+tk.length+size m/\(jT tk->Whole m->Whole (jl tk m))/\∀n,aA n (jl tk m)->bZ n tk\/aA n m
 |[],m=>⟨by simp[jl,ak],λ_ h=>h,λn h=>qv h⟩|t::tk,m=>by
  have⟨i,r,A⟩:=Px tk m;have e:jl (t::tk) m=j9 t (jl tk m):=rfl;rw[e];refine⟨?_,λq1 q2=>⟨aD,q1.1,r q1.2 q2,trivial⟩,λn q=>?_⟩
  .simp only[size,ak,eG,i];omega
  .simp only[aA,bZ,or_false]at q;obtain q|q:=q
   .exact qw (qw q)
   .exact(A n q).imp qv id
def MkFine.add{t:xn}{vs:List xn}(A:wQ t.text):∀{ms:List Nd}{mks:jj},MkFine mks->(∀m∈ms,vs.length+nn m+kl m<=802)->(∀m∈ms,∃s L f u a,m=.mk 2 s 0 L f u a/\Bb (vs.map (·.text)) L)->MkFine (In.rK t vs ms mks)
 |[],mks,h,_,_=>h|m::r,mks,h,hz,hm=>by
  refine MkFine.add A (ms:=r) ?_ (λm hm=>hz m<|by simp[hm]) (λx hx=>hm x<|by simp[hx]);obtain⟨s,L,f,u,a,rfl,g⟩:=hm m ag;have hz:=hz _<|List.mem_cons_self ..;simp only[nn,kl]at hz;have e:qp (vs.map (·.text)) (.mk 2 s 0 L f u a)=(aJ (vs.map (·.text)) L).1:=by show(aJ _<|bB L).1=_;rw[g.es]
  have B:(aJ (vs.map (·.text)) L).1.length=L.length:=by
   have:∀(l:List Nd)ns,(aJ ns l).1.length=l.length:=by
    intro l
    induction l with
    |nil=>intro ns;rfl|cons x l ih=>intro ns;simp only[aJ,eG,ih]
   exact this L _
  have⟨C,E,F⟩:=Px (aJ (vs.map (·.text)) L).1<|jt t vs;have i:∀x tk m,(if x=qn (.mk 2 s 0 L f u a)then ga (qp (vs.map (·.text))<|.mk 2 s 0 L f u a,jt t vs)else mks x)=ga (tk,m)->mks x=ga (tk,m)\/(tk=(aJ (vs.map (·.text)) L).1/\m=jt t vs):=BS;refine⟨λx tk m q=>?_,λx tk m q=>?_,λx tk m q=>?_⟩
  .obtain q|⟨rfl,rfl⟩:=i x tk m q
   .exact h.sz x tk m q
   .rw[C,Mt,B];have:=g.sz;omega
  .obtain q|⟨rfl,rfl⟩:=i x tk m q
   .exact h.wh x tk m q
   .exact E g.wh (Ic vs A)
  .obtain q|⟨rfl,rfl⟩:=i x tk m q
   .exact h.vs x tk m q
   .intro n G;obtain q|q:=F n G
    .have:=g.oc n q;rw[List.length_map]at this;exact Tq t vs n this
    .exact q
def Gn:MkFine (λ_=>ha):=⟨λ_ _ _ q=> iP,λ_ _ _ q=> iP,λ_ _ _ q=> iP⟩
def LX:rU (λ_=>ha) mks:=λ_ _ q=> iP
end
section
open Go.ChangeMaps
def Tr a b c d e w:(Instr.typeAssert (.iface 414<|.agg #[a,b,c,d,e]) 20 414 true).run xk w=.ok (.tuple #[.agg #[a,b,c,d,e],.bool true]) w:=qkr
def Cs b(C:Bx w b Ls)(f:Fl)vl vr(F:(vl=.nilIface/\vr=.nilIface)\/∃a b c d,vl=.iface a b/\vr=.iface c d):
 CallsD xk 287 #[Pv b] (.panicking [{v:=.iface 414<|.agg #[Nv f.kind,Nv f.ah,Nv f.to,vl,vr],recovered:=ia}]) w λe u' w'=>
  e=.returned (.tuple #[])/\u'=.panicking [{v:=.iface 414<|.agg #[Nv f.kind,Nv f.ah,Nv f.to,vl,vr],recovered:=true}]/\Bx w' b #[Nv f.kind,Nv f.ah,Nv f.to,vl,vr]/\Fr (λi=>i=b) w w':=by
 obtain⟨G,A⟩:∃G:ea,G=.iface 414 (.agg #[Nv f.kind,Nv f.ah,Nv f.to,vl,vr]):=⟨_,rfl⟩;rw[<-A];have hta:=Tr;have E:=ai C;obtain⟨c,ff,z⟩:=C;refine callsD_of_wpS Tryz.func287 rfl λfh cs hu=>?_;apply wpS_seq;apply wpS_region;simp[wpOpsS,go_sem,recoverD,hu,Tryz.ntmps287,Exit.thenS];rw[show(#[Pv b]++((zv 16 undef).setIfInBounds 3 G).setIfInBounds 0 G)=#[Pv b,G,undef,undef,G,undef,undef,undef,undef,undef,undef,undef,undef,undef,undef,undef,undef]from rfl];obtain⟨B,r⟩:∃B:List Frame,B=({fn:=fh.fn,tmps:=fh.tmps,todo:=fh.todo,defers:=fh.defers,mode:=FrameMode.panicking [{v:=G,recovered:=true}],kind:=fh.kind,roundOf:=fh.roundOf}::cs):=⟨_,rfl⟩;rw[<-r];refine wpS_of_wp ?_;subst A;obtain⟨rfl,rfl⟩|⟨ta,xa,tb,xb,rfl,rfl⟩:=F
 all_goals(
 go_wp2_with fail;refine⟨rfl,_,r,.tuple #[],by simp[results,Tryz.results287,go_sem],rfl,rfl,?_,?_⟩
 .exact((E.OM rfl _ _ _ _ _).alloc _)
 .exact(((((Fr.refl (λi=>i=b) w).set (b:=b) (qw rfl) 0 _).set (qw rfl) 1 _).set (qw rfl) 2 _).set (qw rfl) 3 _).set (qw rfl) 4 _|>.trans (Fr.of<|bw _))
def aby b:
 CallsD xk 287 #[Pv b] .returning w λe u' w'=>
  e=.returned (.tuple #[])/\u'=.returning/\w'=w:=by
 refine callsD_of_wpS Tryz.func287 rfl λfh cs hu=>?_;apply wpS_seq;apply wpS_region;simp[wpOpsS,go_sem,recoverD,hu,Tryz.ntmps287,Exit.thenS];rw[show(#[Pv b]++((zv 16 undef).setIfInBounds 3 Zv).setIfInBounds 0 Zv)=#[Pv b,Zv,undef,undef,Zv,undef,undef,undef,undef,undef,undef,undef,undef,undef,undef,undef,undef]from rfl];have i:fh::cs={fh with mode:=.returning}::cs:=(by cases fh;simp at hu;subst hu;rfl);refine wpS_of_wp ?_
 go_wp2
 exact⟨rfl,_,i,.tuple #[],by simp[results,Tryz.results287,go_sem],rfl,rfl,rfl⟩
end
end Go.Proofs.YtonaidfgokhmoaaGreatDoor

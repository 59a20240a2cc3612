import Derived.Test.YtlnlhlefeokfjaaGreatDoorPFd
import Derived.Test.YtlnlhlefeokfjaaGreatDoorPXz
set_option linter.all false
set_option maxRecDepth 100000
set_option maxHeartbeats 4000000
namespace Go.Proofs.YtlnlhlefeokfjaaGreatDoor
open In renaming MM->ja,St->jc,inf->jd,Env->jf,Cd->jh,oQ->ji,andM->jj,over->jk,fs->jl,N'->jm,qT->jo,ch->jp,cz->jq,cH->jt,via->ju
open Or renaming inr->jv,inl->jx
open _root_.Nat renaming le_trans->jy,succ_le_of_lt->jz,zero_le->j3,lt_of_lt_of_le->j5,not_lt_zero->j6
open Go.World renaming cell?_of_block->j7
open Go.RowKit.Below renaming refl->j8,heap_setCell->j9
open _root_.List renaming take_succ_eq_append_getElem->qe,take_length->qf
open Go.Value renaming string->qg
open Go.Proofs.Tryz renaming prog->qh
open Pu renaming Tok->qi
open Bx renaming new->qj
open Un renaming d_->qk
open Go Go.RowKit Go.ChangeMaps Go.MapKept Un Proofs.Tryz
variable {C:Array Value} {st:BA} {dom:BA->Prop} {e:Ending} {g g0 g1:f_} {Γ yF:jf} {q:ja Un.Ty} {d:In.I7} {s s0 s1:jc} {c:JC} {ns:List BA} {L:List Un.Ty} {D D' a b base cnt0 ak f k l m mb n nb t vc:Nat} {P Q S:Nat->Prop} {nd x:Nd} {va:Option Addr} {α β:Type} {T X y:Un.Ty} {u v vx:Value} {W w w' w0 w1:World}
def QTy:EQ Ty:=λw P t c=>dD w P t<|c 0
theorem iH:gq QTy:=by grind[gq,QTy,dD.move]
def vsT(j:Nat):List Ty:=(List.range j).map λi=>.var<|i+1
def YC j:vsT (j+1)=vsT j++[.var<|j+1]:=by simp[vsT,List.range_succ]
def qE j:(vsT j).length=j:=by simp[vsT]
def QN{s:BA}:∀{ns:List BA},s∉ns->ix s ns=ns.length/\ix s (ns++[s])=ns.length
 |[],_=>⟨rfl,by simp[ix]⟩|a::ns,h=>by
  have h1:¬a.toList=s.toList:=λe=>h (by rw[show a=s from by have:=congrArg List.toArray e;cases a;cases s;simp_all[ByteArray.toList_eq]];simp);have⟨h2,h3⟩:=QN (s:=s) (ns:=ns)<|λq=>h qBf;simp[ix,h1,h2,h3]
def Fr.grown{a}{row}(h:Fr S a W)(hg:W.grownBy w' row)(hr:∀b,row=some b->S b\/a.heap.size<=b):Fr S a w':=
 ⟨hg.os.trans h.os,hg.tape.trans h.tape,hg.output.trans h.output,jy h.size hg.size,λk hk hn=>(hg.block k (j5 hk h.size) (λe=>by obtain q|q:=hr k e.symm;exact hn q;omega)).trans (h.block k hk hn)⟩
def dh.ty{c}(hc:oA c)(h:dh QTy 56 1 w base va vc L):dD w (λb=>base<=b) (.aJ c L) (.iface 153<|.agg #[.string c,.slice va L.length vc]):=by
 have⟨oR,oU,cs,e,aN,hq⟩:=h.v iH;injection e with e1 _ e2;subst e1 e2;have:=dD.aJ (w:=w) (P:=λb=>base<=b) c L va vc (λi=>cs i 0) (jv<|jv hc) (aN.imp id λ⟨g,q1,q2,q3,q4⟩=>⟨g,q1,q2,q3,λi hi=>by simpa using q4 i hi 0 aw⟩) (λi hi=>hq i hi)
 rwa[eS hc]at this
def dh.alr(h:dh QTy 56 1 w base va vc L):X6 w (λb=>base<=b) va L:=by
 have⟨oR,oU,cs,e,aN,hq⟩:=h.v iH;injection e with e1 _ e2;subst e1 e2;exact aN.imp id λ⟨g,q1,q2,q3,q4⟩=>⟨g,λi=>cs i 0,q1,q2,q3,λi hi=>⟨by simpa using q4 i hi 0 aw,hq i hi⟩⟩
def tF:Tryz.prog.underlying 188=some (.map 9 396):=qkr
theorem xC{ops}{rest}{o}{a}{F}{mk}(hg:o.guard=none)m x v(sG:o.op=Op.insert 188 m x v\/o.op=Op.mapUpdate 188 m x v)(hm:a.eval m=Mv b)(h:nh w P b mk)(hP:¬P b){tk}{mt}(hc:W7 w P tk mt u)n(hx:a.eval x=.string n)(hv:a.eval v=u)(hK:∀w',nh w' P b (λy=>if y=n then some (tk,mt)else mk y)->One b w w'->wpList qh ops F rest (a.put o.dst undef) w'):
 wpList qh ops F (o::rest) a w:=by
 obtain⟨L,h1,h2,h3⟩:=h;refine cr UH tF hg m x v sG hm h1 n u hx hv λw' hM o=>hK w' ⟨_,hM,λy hy=>?_,λy z hy=>?_⟩ o
 .rw[aO]at hy;by_cases e:n=y
  .grind
  .grind
 .have mv:∀{tk m v},W7 w P tk m v->W7 w' P tk m v:=λh=>h.move UE (λx p _=>o.block x<|λe=>hP<|e▸p)<|λ_ p _=>p;rw[aO]at hy;by_cases e:n=y
  .grind
  .grind
def Ab(t:qi)(vs:List qi)(m:Nd):∀(l:List Nd)(mk:In.Mks),ji t vs (l++[m]) mk=λy=>if y=In.Ac m then some (In.DE (vs.map (·.text)) m,jm t vs)else ji t vs l mk y
 |[],mk=>rfl|x::l,mk=>by
  show ji t vs (l++[m]) _=_;rw[Ab t vs m l];rfl
def QO ns(L:List Nd):=L.map λx=>(aI ns x).1
def YD{ns:List BA}:∀{L:List Nd},(∀k(hk:k<L.length),(aI ns L[k]).2=ns/\aI ns (es L[k])=aI ns L[k])->aG ns (dz L)=(QO ns L,ns)
 |[],_=>rfl|x::l,h=>by
  have⟨h1,h2⟩:=h 0 ag;have h1:(aI ns x).2=ns:=h1;have h2:aI ns (es x)=aI ns x:=h2;have h3:=YD (L:=l) λk hk=>h (k+1) bD;simp[dz,aG,h2,h1,h3,QO]
def YE{L:List Nd}(h:k<L.length):QO ns (L.take<|k+1)=QO ns (L.take k)++[(aI ns L[k]).1]:=by
 rw[QO];rw[qe h,List.map_append];rfl
theorem ade{L:List Nd}(h:k<=L.length):(QO ns<|L.take k).length=k:=by grind[QO]
def als w7 B p4 mm kb fb cb mb(t:qi)(vs:List qi)(ms:List Nd)va vc gk v wr:=
 ∃(j:Nat),Hid (gk=ms.length-j)/\j<=ms.length/\v=Nv j/\NM wr kb fb cb mb (vs.map (·.text))/\Bx wr p4 #[.string t.text,.slice va vs.length vc]/\dD wr (λi=>B<=i/\i≠cb/\i≠mb/\i≠mm) (jm t vs) (.iface 153<|.agg #[.string t.text,.slice va vs.length vc])/\nh wr (λi=>B<=i/\i≠cb/\i≠mb/\i≠mm) mm (ji t vs (ms.take j) λ_=>none)/\Fr (λi=>i=cb\/i=mb\/i=mm) w7 wr
def alt w8 p10 kb fb cb mb(vs:List qi)(L:List Nd)mv gk v wr:=
 ∃(j:Nat)(va:Option Addr)(vc:Nat),Hid (gk=L.length-j)/\j<=L.length/\v=Nv j/\NM wr kb fb cb mb (vs.map (·.text))/\Bx wr p10 #[.slice va j vc,mv]/\dh QTy 56 1 wr w8.heap.size va vc (QO (vs.map (·.text))<|L.take j)/\Fr (λi=>i=cb\/i=mb\/i=p10) w8 wr
def alu w0 p4 kb fb cb mb(t:qi)(vs:List qi)gk v wr:=
 ∃(j:Nat)(va:Option Addr)(vc:Nat),Hid (gk=vs.length-j)/\j<=vs.length/\v=Nv j/\NM wr kb fb cb mb ((vs.map (·.text)).take j)/\Bx wr p4 #[.string t.text,.slice va j vc]/\dh QTy 56 1 wr w0.heap.size va vc (vsT j)/\Fr (λi=>i=cb\/i=mb\/i=p4) w0 wr
def YF{t}{vs}{ms}{f u}{vv vm}(hv:RowV QName 3 w P vs vv)(hm:RowV QMaker 6 w P ms vm)(hd:TdF t vs ms):
 Calls qh 250 #[.agg #[.int .i64 f,.int .i64 u,.int .i64 (t.aF:Int),.int .i64 (t.to:Int),.string t.text,vv,vm]] w (λe w'=>∃b,e=.returned (.map<|some b)/\Below w.heap.size w w'/\w.heap.size<=b/\nh w' (λi=>w.heap.size<=i) b (ji t vs ms λ_=>none)):=by
 obtain⟨pa,pc,cs,rfl,HR,HQ⟩:=hv;obtain⟨ma,mc,ds,rfl,HRM,HQM⟩:=hm;have hl:=hd.vl;have iZ:= @run_makeMap Tryz.prog;have⟨i0,wY,og,l8,gR⟩:=info_parts gu;have⟨k0,B0⟩:=oF w #[.int .i64 f,.int .i64 u,.int .i64 (t.aF:Int),.int .i64 (t.to:Int),Sv t.text,Lv pa vs.length pc,Lv ma ms.length mc] 125;have K0:=ai k0;clear k0;go_enter func250,ntmps250;go_wp2_with fail;refine(tG).mono ?_;rintro e w1⟨rfl,yC⟩;have k1:Below (w.alloc<|Cv #[.int .i64 f,.int .i64 u,.int .i64 (t.aF:Int),.int .i64 (t.to:Int),Sv t.text,Lv pa vs.length pc,Lv ma ms.length mc] 125).heap.size (w.alloc<|Cv #[.int .i64 f,.int .i64 u,.int .i64 (t.aF:Int),.int .i64 (t.to:Int),Sv t.text,Lv pa vs.length pc,Lv ma ms.length mc] 125) w1:=by rw[yC];exact bw _
 have C1:Bx w1 (w.heap.size+1) #[.int .i64 0]:=by rw[yC];have:=qj (w.alloc<|Cv #[.int .i64 f,.int .i64 u,.int .i64 (t.aF:Int),.int .i64 (t.to:Int),Sv t.text,Lv pa vs.length pc,Lv ma ms.length mc] 125) #[.int .i64 0] 3;simpa using this
 have B1:=B0.below k1;have K1:=K0.trans<|k1.mono K0.size;have HN:=FD _ C1;have zw1:w1.heap.size=w.heap.size+2:=by rw[yC];simp
 clear yC k1 C1 B0 K0;go_wp2_with fail;refine HN.mono ?_;rintro e w2⟨kb,fb,mb,rfl,nm,k2,zmb⟩;clear HN;have⟨b1,b2,b3⟩:=B1.below k2;have K2:=K1.trans<|k2.mono K1.size;have B2:=B1.below k2;have NM2:=ai nm;have⟨y1,y2,y3,y4⟩:=nm.lt;have zz2:=B2.z;have zc1:=K1.size;clear nm k2 B1;go_wp2_with fail;obtain⟨w3,rS⟩:∃w3,w3=w2.alloc (Cv #[Sv t.text,Lv none 0 0] 153):=⟨_,rfl⟩;have k3:Below w2.heap.size w2 w3:=by rw[rS];exact bw _
 have P3':Bx w3 w2.heap.size #[Sv t.text,Lv none 0 0]:=by rw[rS];exact qj w2 #[Sv t.text,Lv none 0 0] 153
 have z3:w3.heap.size=w2.heap.size+1:=by rw[rS];simp
 have NM3:=NM2.af k3;have B3:=B2.below k3;have K3:=K2.trans<|k3.mono K2.size;rw[<-rS];clear rS k3 NM2 B2 K2;go_loopg[22] vs.length (λgk v wr=>alu w3 w2.heap.size kb fb (w.heap.size+1) mb t vs gk v wr)
 case atStart=>exact⟨0,none,0,ai ag,j3 _,rfl,by simpa using NM3,P3',by simpa[vsT]using dh.nil QTy 56 1 w3 w3.heap.size,Fr.refl _ _⟩
 case round=>
  obtain⟨j,va,vc,cV,hj,rfl,nm,p4,ro,FR3⟩:=hrel;have zr:=FR3.size;by_cases bh:j<vs.length
  .have bA:(j:Int)<(vs.length:Int):=ae;have Jl:(0:Int)<=(j:Int):=ae;obtain⟨g,rfl,hPg,iP,bQ⟩:=HR.resolve_left<|λe=>qBs;obtain⟨q0,q1,q2,alv,-⟩:=HQ j bh;have my:∀o,wr.cell? ⟨g,o,none⟩=w.cell? ⟨g,o,none⟩:=λo=>(j7 (a:=⟨g,o,none⟩)<|FR3.block g (by have:=K3.size;omega) ae).trans<|j7 (a:=⟨g,o,none⟩)<|K3.block g iP;have d0:wr.cell? ⟨g,j*3,none⟩=some (.int .i64 (vs[j].aF:Int)):=by rw[my];exact(bQ j bh 0 aw).trans (congrArg some q0)
   have d1:wr.cell? ⟨g,j*3+1,none⟩=some (.int .i64 (vs[j].to:Int)):=by rw[my];exact(bQ j bh 1 aw).trans (congrArg some q1)
   have d2:wr.cell? ⟨g,j*3+2,none⟩=some (Sv<|tl vs[j].text):=by rw[my];exact(bQ j bh 2 aw).trans (congrArg some q2)
   obtain⟨s,hs⟩:∃s,s=vs[j].text:=⟨_,rfl⟩;have hsn:s∉(vs.map (·.text)).take j:=by
    have hn:=hd.vn;have e:(vs.map (·.text))=(vs.map (·.text)).take j++(vs.map (·.text)).drop j:=(List.take_append_drop _ _).symm;rw[e,List.nodup_append]at hn;intro q;refine hn.2.2 s q s ?_ rfl;rw[List.drop_eq_getElem_cons (show j<(vs.map (·.text)).length by simpa using bh),hs];simp
   have hln:((vs.map (·.text)).take j).length=j:=bD;have hix:=QN hsn;have had:oV s ((vs.map (·.text)).take j)=(vs.map (·.text)).take (j+1):=by
    rw[oV];rw[hix.1,if_neg ae,qe (show j<(vs.map (·.text)).length by simpa using bh),hs];simp
   have ajh:ix s (oV s ((vs.map (·.text)).take j))=j:=by
    rw[oV];rw[hix.1,if_neg ae,hix.2,hln]
   have HNA:∀W:World,Below wr.heap.size wr W->Calls qh 31 #[Sv<|tl s,.pointer<|some ⟨kb,0,none⟩,.pointer<|some ⟨fb,0,none⟩] W (λe w'=>e=Rv (Fv 85<|.int .i64<|(j:Int)+1)/\NM w' kb fb (w.heap.size+1) mb ((vs.map (·.text)).take<|j+1)/\Fr (YG (w.heap.size+1) mb) W w'):=λW hb=>by
    refine(Jr (nm.af hb) s (by rw[hs];exact alv) ae).mono ?_;rintro e w'⟨rfl,h2,h3⟩;rw[ajh,had]at*;exact⟨rfl,h2,h3⟩
   rw[<-hs]at d2;obtain⟨fr0,aji⟩:∃x:Int,x=(vs[j].aF:Int):=⟨_,rfl⟩;obtain⟨to0,ajj⟩:∃x:Int,x=(vs[j].to:Int):=⟨_,rfl⟩;rw[<-aji]at d0;rw[<-ajj]at d1;have⟨y1,y2,y3,y4⟩:=nm.lt;have⟨n1,n2,n3,n4,n5⟩:=nm.d1;have P4:=ai p4;have RO:=ai ro;obtain⟨x1,x2,x3⟩:=p4;have zp:=x3;have kA:Below wr.heap.size wr (wr.alloc<|Cv #[.int .i64 fr0,.int .i64 to0,Sv<|tl s] 121):=bw _;obtain⟨wA,hwA⟩:∃wA,wA=wr.alloc (Cv #[.int .i64 fr0,.int .i64 to0,Sv<|tl s] 121):=⟨_,rfl⟩;have A1:wA.cell? ⟨w2.heap.size,1,none⟩=some (Lv va j vc):=by rw[hwA];exact((uh P4).below kA).c 1
   have A2:wA.cell? ⟨wr.heap.size,2,none⟩=some (Sv<|tl s):=by rw[hwA];exact(qj wr #[.int .i64 fr0,.int .i64 to0,Sv<|tl s] 121).c 2
   rw[<-hwA]at kA;have KA:=ai kA;clear nm bQ q0 q1 q2 my hix ajh had hsn aji ajj hs ro kA hln;go_wp2_with fail;rw[<-hwA];clear hwA d0 d1 d2 x1 x2;have⟨cs',OW,HPE⟩:=uh RO;rw[qE]at OW;have Nb:=fU OW;have zKA:=(uh KA).size;have np4:¬w2.heap.size=w.heap.size+1:=ae;have np5:¬w2.heap.size=mb:=ae
   go_region_law(first
    |(go_simp;go_at_call 31;go_loud(refine(HNA _ KA.drew).mono ?_);rintro e w5⟨rfl,nm5,F5⟩;have B5:=(P4.below KA.drew).fr F5<|λq=>q.elim np4 np5;have A5:w5.cell? ⟨w2.heap.size,1,none⟩=some (Lv va j vc):=B5.c 1;have O5:Hid (w5.ownsRow w3.heap.size 56 1 (Lv va j vc) j<|gW cs' 1 j):=ai (tH OW λg hg=>(F5.block g (j5 (Nb g hg).2 KA.drew.size) (λq=>by have:=(Nb g hg).1;obtain q|q:=q<;>omega)).trans<|KA.drew.block g (Nb g hg).2);have BB5:=ai B5;have NM5:=ai nm5;have F5':=ai F5;have z5:wA.heap.size<=w5.heap.size:=F5.size;have z25:w2.heap.size<w5.heap.size:= ae;clear B5 nm5 F5;dsimp only)
    |(refine iW rfl (.tmp 27) (.tmp 32) 151 rfl w3.heap.size 56 i0 _ 1 16 eh wY og l8 gR rfl aw (Lv va j vc) j _ rfl (jX O5<|bw _) ⟨w5.heap.size,0,none⟩ 1 1 [Fv 85<|.int .i64<|(j:Int)+1] rfl rfl (oW _ _ _ _ ag) qAn Yu ae (by simp;have:=KA.size;omega) ?_;intro v6 w6 oX Js xD;obtain⟨q3,c3,rfl⟩:=tI oX ae;have YH:=BB5.below<|bw<|Cv #[Fv 85<|.int .i64<|(j:Int)+1] 56;have B6:=YH.same Js.size (Js.block _ YH.z (λe=>by have:=(Nb _ e.symm).1;omega));have A6:w6.cell? ⟨w2.heap.size,1,none⟩=some (Lv va j vc):=B6.c 1;have A7:w6.frozen? ⟨w2.heap.size,1,none⟩=false:=B6.f 1;have BB6:=ai B6;have OW6:=ai oX;have HG6:=ai Js;have HL6:=ai xD;clear oX Js xD YH B6))
   all_goals(
    go_wp2
    go_roundg(vs.length-(j+1))
    case measure=>rw[uh cV];omega
    case rel=>
     have kA:=(uh KA).drew;have F5:=uh F5';have hg:=uh HG6;have k5:Below w5.heap.size w5 (w5.alloc<|Cv #[Fv 85<|.int .i64<|(j:Int)+1] 56):=bw _;have F56:=(Fr.of k5).grown hg<|λb e=>jx (Nb b e).1;have zA:=kA.size;refine⟨j+1,some ⟨q3,0,none⟩,c3,ai rfl,jz bh,i_,((uh NM5).fr F56<|λb p=>ae).set ae 1 _,(uh BB6).aT 1 _ #[Sv t.text,Lv (some ⟨q3,0,none⟩) (j+1) c3] rfl ag,?_,?_⟩
     .rw[YC];have PU:=dh.push (Q:=QTy) (et:=56) (sz:=1) (base:=w3.heap.size) (va:=va) (vc:=vc) (L:=vsT j) (w1:=w5) (W:=w5.alloc<|Cv #[Fv 85<|.int .i64<|(j:Int)+1] 56) (w3:=w6) (lo:=w5.heap.size) (q3:=q3) (c3:=c3) (a:=.var<|j+1) (c:=λ_=>Fv 85<|.int .i64<|(j:Int)+1) (cs:=cs') iH
       (λi hi=>iH _ _ _ _ _ _ (HPE i hi) ae (λb p z=>(F5.block b ae (λq=>by have:=p.1;obtain q|q:=q<;>omega)).trans<|kA.block b z)<|λb p z=>⟨p.1,ae,p.2.2⟩)
       (by have:=dD.var (w:=w5) (P:=λb=>w5.heap.size<=b)<|j+1;show dD _ _ _ _;simpa using this) ae (λb e=>by rw[qE]at e;have:=(Nb b e).2;omega) k5 (by rw[qE];exact uh OW6) (by rw[qE];exact hg) (by rw[qE];exact uh HL6)
      exact PU.lU iH zJ (λb h1 h2=>j9 _ _ _ _ (by show b≠w2.heap.size;omega))
     .have Fa:=(FR3.trans<|Fr.of kA).trans<|F5.gh λi q=>q.elim jx<|λr=>jv<|jx r
      exact((Fa.trans<|Fr.of k5).grown hg<|λb e=>jv (Nb b e).1).set (jx<|jv<|jv rfl) 1 _)
  .obtain⟨wx,hx⟩:∃wx,wx=wr:=⟨_,rfl⟩;subst hx;have bA:decide ((j:Int)<(vs.length:Int))=false:=bD;have ej:j=vs.length:=ae;subst ej;rw[show(vs.map (·.text)).take vs.length=vs.map (·.text)from by rw[List.take_of_length_le];simp]at nm;have ms0:=ro.ty hd.up;rw[qE]at ms0;have zp:=p4.z;obtain⟨wm,hwm⟩:∃wm,wm=wx.alloc (.map #[] 0):=⟨_,rfl⟩;have km:Below wx.heap.size wx wm:=by rw[hwm];exact bw _
   have zm:wm.heap.size=wx.heap.size+1:=by rw[hwm];simp
   have MK0:nh wm (λi=>w.heap.size<=i/\i≠w.heap.size+1/\i≠mb/\i≠wx.heap.size) wx.heap.size (ji t vs (ms.take 0) λ_=>none):=(by rw[hwm];exact⟨[],MG.new _ wx,λ_ _=>rfl,λx v h=>qBg⟩);have kr:Below w.heap.size w wx:=⟨FR3.os.trans K3.os,FR3.tape.trans K3.tape,FR3.output.trans K3.output,jy K3.size FR3.size,λk hk=>(FR3.block k (by have:=K3.size;omega) ae).trans<|K3.block k hk⟩;have BD:=(B3.fr FR3 ae).below km;have⟨b1,b2,b3⟩:=B3.fr FR3 ae;have NMm:=nm.af km;have P4m:=p4.below km;have MSm:dD wm (λi=>w.heap.size<=i/\i≠w.heap.size+1/\i≠mb/\i≠wx.heap.size) (jm t vs) (Fv 153<|Av #[Sv t.text,Lv va vs.length vc]):=(ms0.move km.size (λb _ z=>km.block b z)<|λb p z=>⟨ae,ae,ae,ae⟩);have KM:=kr.trans<|km.mono kr.size;have⟨n1,n2,n3,n4,n5⟩:=nm.d1;have hml:=hd.ml;clear nm p4 ro ms0 km kr;go_wp2_with fail;rw[<-hwm];clear hwm b1 b2 b3;go_loopg[40] ms.length (λgk v wq=>als wm w.heap.size w2.heap.size wx.heap.size kb fb (w.heap.size+1) mb t vs ms va vc gk v wq)
   case atStart=>exact⟨0,ai ag,j3 _,rfl,NMm,P4m,MSm,MK0,Fr.refl _ _⟩
   case round=>
    clear NMm P4m MSm MK0;obtain⟨i,alw,hi,rfl,nm,p4,MKq,MWq,FMq⟩:=hrel;have zq:=FMq.size;by_cases NU:i<ms.length
    .have agF:(i:Int)<(ms.length:Int):=ae;have ajk:(0:Int)<=(i:Int):=ae;obtain⟨wq,hx⟩:∃wq,wq=wr:=⟨_,rfl⟩;subst hx;have⟨s,n,L,f',u',a',HEM,hLl,HLT⟩:=hd.mt i NU;obtain⟨gm,rfl,hPm,hmz,Ix⟩:=HRM.resolve_left (λe=>by subst e;simp at NU);have⟨s2,m2,L2,f2,t2,a2,y2,vL,e0,e1,e2,e3,e4,e5,e6,wU,hy2,hRL⟩:=HQM i NU;have e0':=HEM.symm.trans e0;injection e0' with q1 q2 q3 q4 q5 q6 q7;subst q2 q4;obtain⟨la,lc,el,rfl,HRL,hqL⟩:=hRL;have my:∀o,wq.cell? ⟨gm,o,none⟩=w.cell? ⟨gm,o,none⟩:=λo=>(j7 (a:=⟨gm,o,none⟩)<|FMq.block gm (by have:=KM.size;omega) ae).trans<|j7 (a:=⟨gm,o,none⟩)<|KM.block gm hmz;have d0:wq.cell? ⟨gm,i*6,none⟩=some (.int .i64 (f2:Int)):=by rw[my];exact(Ix i NU 0 aw).trans (congrArg some e1)
     have d1:wq.cell? ⟨gm,i*6+1,none⟩=some (.int .i64 (t2:Int)):=by rw[my];exact(Ix i NU 1 aw).trans (congrArg some e2)
     have d2:wq.cell? ⟨gm,i*6+2,none⟩=some (.int .i64 (a2:Int)):=by rw[my];exact(Ix i NU 2 aw).trans (congrArg some e3)
     have d3:wq.cell? ⟨gm,i*6+3,none⟩=some (.int .i64 (y2:Int)):=by rw[my];exact(Ix i NU 3 aw).trans (congrArg some e4)
     have d4:wq.cell? ⟨gm,i*6+4,none⟩=some (Sv s):=by rw[my];exact(Ix i NU 4 aw).trans (congrArg some e5)
     have d5:wq.cell? ⟨gm,i*6+5,none⟩=some (Lv la L.length lc):=by rw[my];exact(Ix i NU 5 aw).trans (congrArg some e6)
     obtain⟨w8,hw8⟩:∃w8,w8=(wq.alloc<|Cv #[.int .i64 (f2:Int),.int .i64 (t2:Int),.int .i64 (a2:Int),.int .i64 (y2:Int),Sv s,Lv la L.length lc] 247).alloc (Cv #[Lv none 0 0,Fv 153<|Av #[Sv t.text,Lv va vs.length vc]] 396):=⟨_,rfl⟩;have k8:Below wq.heap.size wq w8:=by rw[hw8];exact(bw _).alloc ag _
     have z8:w8.heap.size=wq.heap.size+2:=by rw[hw8];simp
     have B8:Bx w8 wq.heap.size #[.int .i64 (f2:Int),.int .i64 (t2:Int),.int .i64 (a2:Int),.int .i64 (y2:Int),Sv s,Lv la L.length lc]:=(by rw[hw8];exact(qj wq #[.int .i64 (f2:Int),.int .i64 (t2:Int),.int .i64 (a2:Int),.int .i64 (y2:Int),Sv s,Lv la L.length lc] 247).alloc (Cv #[Lv none 0 0,Fv 153<|Av #[Sv t.text,Lv va vs.length vc]] 396))
     have M8:Bx w8 (wq.heap.size+1) #[Lv none 0 0,Fv 153<|Av #[Sv t.text,Lv va vs.length vc]]:=(by
      rw[hw8];have:=qj (wq.alloc<|Cv #[.int .i64 (f2:Int),.int .i64 (t2:Int),.int .i64 (a2:Int),.int .i64 (y2:Int),Sv s,Lv la L.length lc] 247) #[Lv none 0 0,Fv 153<|Av #[Sv t.text,Lv va vs.length vc]] 396
      simpa using this)
     have NM8:=nm.af k8;have NMq:=ai nm;have P4q:=ai p4;have K8:=ai k8;have HQL:=ai hqL;have zpq:=p4.z;have zmm:=MWq.lt;have⟨v1,v2,v3,v4⟩:=nm.lt;obtain⟨x1,x2,x3⟩:=p4;clear nm k8 hqL e0 e1 e2 e3 e4 e5 e6 q1 q3 q5 q6 q7 my Ix wU hy2;go_wp2_with fail;rw[<-hw8];clear hw8 d0 d1 d2 d3 d4 d5 x1 x2 x3;go_loopg[50] L.length (λgk v wr=>alt w8 (wq.heap.size+1) kb fb (w.heap.size+1) mb vs L (Fv 153<|Av #[Sv t.text,Lv va vs.length vc]) gk v wr)
     case atStart=>exact⟨0,none,0,ai ag,j3 _,rfl,NM8,M8,by simpa[QO]using dh.nil QTy 56 1 w8 w8.heap.size,Fr.refl _ _⟩
     case round=>
      clear NM8 M8;obtain⟨k,va2,vc2,alx,hk,rfl,NMr,P10,ro,F8⟩:=hrel;have zr:=F8.size;by_cases hkl:k<L.length
      .have aly:(k:Int)<(L.length:Int):=ae;have amR:(0:Int)<=(k:Int):=ae;obtain⟨gl,rfl,hPl,hlz,NH⟩:=HRL.resolve_left (λe=>by subst e;simp at hkl);have kw8:Below w.heap.size w w8:=by
        have h1:=FMq;have h2:=KM;have h3:=uh K8;exact⟨h3.os.trans<|h1.os.trans h2.os,h3.tape.trans<|h1.tape.trans h2.tape,h3.output.trans<|h1.output.trans h2.output,by have:=h1.size;have:=h2.size;have:=h3.size;omega,λb hb=>(h3.block b (by have:=h1.size;have:=h2.size;omega)).trans<|(h1.block b (by have:=h2.size;omega) ae).trans<|h2.block b hb⟩
       have cgl:wr.cell? ⟨gl,k,none⟩=some (el k 0):=by
        rw[j7 (a:=⟨gl,k,none⟩) (w:=w8)<|F8.block gl (by have:=kw8.size;omega) ae,j7 (a:=⟨gl,k,none⟩) (w:=w)<|kw8.block gl hlz];simpa using NH k hkl 0 aw
       have⟨hT1,HT2,hT3⟩:=HLT k hkl;have hpt:PT wr (λb=>P b/\b<w.heap.size) L[k] (el k 0):=(show PT w P L[k] (el k 0)from uh HQL k hkl).move (by have:=kw8.size;omega) (λb p z=>(F8.block b (by have:=kw8.size;omega) ae).trans<|kw8.block b z)<|λb p z=>⟨p,z⟩;have⟨tv,xv,ev⟩:=hpt.bO;rw[ev]at cgl hpt;have hnl:(vs.map (·.text)).length<=2000:=bD;have Ad:∀W:World,Below wr.heap.size wr W->Calls qh 29 #[Fv tv<|Av xv,nmV kb fb] W (λe w'=>∃tu xu,e=Rv (Fv tu xu)/\dD w' (λb=>W.heap.size<=b) (aI (vs.map (·.text)) L[k]).1 (Fv tu xu)/\NM w' kb fb (w.heap.size+1) mb (vs.map (·.text))/\Fr (YG (w.heap.size+1) mb) W w'):=λW hb=>by
        refine(afh L[k] hT1 W kb fb (w.heap.size+1) mb (vs.map (·.text)) (λb=>P b/\b<w.heap.size) _ (NMr.af hb) (hpt.af hb) (λb q=>ae) (by rw[HT2];exact hnl)).mono ?_;rintro e w'⟨uu,rfl,h2,h3,h4⟩;obtain⟨tu,xu,rfl⟩:=h2.iface;rw[HT2]at h3;exact⟨tu,xu,rfl,h2,h3,h4⟩
       have FR8:=ai F8;have A1:=P10.c 0;have zp:=P10.z;obtain⟨cs',OW,HPE⟩:=ro;have ekl:=ade (ns:=vs.map (·.text)) hk;rw[ekl]at OW;have Nb:=fU OW;have EKL:=ai ekl;have np4:¬wq.heap.size+1=w.heap.size+1:=ae;have np5:¬wq.heap.size+1=mb:=ae;clear F8 NH hpt hT1 hT3 ev ekl;go_wp2_with fail;clear cgl
       go_region_law(first
        |(go_simp;go_at_call 29;go_loud(refine(Ad _ (j8 _ _).drew).mono ?_);rintro e w5⟨tu,xu,rfl,tu5,nm5,F5⟩;have B5:=(P10.below (j8 _ _).drew).fr F5<|λq=>q.elim np4 np5;have A5:w5.cell? ⟨wq.heap.size+1,0,none⟩=some (Lv va2 k vc2):=B5.c 0;have O5:Hid (w5.ownsRow w8.heap.size 56 1 (Lv va2 k vc2) k<|gW cs' 1 k):=ai (tH OW λg hg=>F5.block g (Nb g hg).2 (λq=>by have:=(Nb g hg).1;obtain q|q:=q<;>omega));have BB5:=ai B5;have NM5:=ai nm5;have F5':=ai F5;have TU5:=ai tu5;have z5:wr.heap.size<=w5.heap.size:=F5.size;have z25:wq.heap.size+1<w5.heap.size:= ae;clear B5 nm5 F5 tu5;dsimp only)
        |(refine iW rfl (.tmp 55) (.tmp 59) 151 rfl w8.heap.size 56 i0 _ 1 16 eh wY og l8 gR rfl aw (Lv va2 k vc2) k _ rfl (jX O5<|bw _) ⟨w5.heap.size,0,none⟩ 1 1 [Fv tu xu] rfl rfl (oW _ _ _ _ ag) qAn Yu ae bD ?_;intro v6 w6 oX Js xD;obtain⟨q3,c3,rfl⟩:=tI oX ae;have YH:=BB5.below<|bw<|Cv #[Fv tu xu] 56;have B6:=YH.same Js.size (Js.block _ YH.z (λe=>by have:=(Nb _ e.symm).1;omega));have A6:w6.cell? ⟨wq.heap.size+1,0,none⟩=some (Lv va2 k vc2):=B6.c 0;have A7:w6.frozen? ⟨wq.heap.size+1,0,none⟩=false:=B6.f 0;have BB6:=ai B6;have OW6:=ai oX;have HG6:=ai Js;have HL6:=ai xD;clear oX Js xD YH B6))
       all_goals(
        go_wp2
        go_roundg(L.length-(k+1))
        case measure=>rw[uh alx];omega
        case rel=>
         have F5:=uh F5';have hg:=uh HG6;have k5:Below w5.heap.size w5 (w5.alloc<|Cv #[Fv tu xu] 56):=bw _;have F56:=(Fr.of k5).grown hg<|λb e=>jx (Nb b e).1;have ekl:=uh EKL;refine⟨k+1,some ⟨q3,0,none⟩,c3,ai rfl,jz hkl,i_,((uh NM5).fr F56<|λb p=>ae).set ae 0 _,(uh BB6).aT 0 _ #[Lv (some ⟨q3,0,none⟩) (k+1) c3,Fv 153<|Av #[Sv t.text,Lv va vs.length vc]] rfl ag,?_,?_⟩
         .rw[YE hkl];have tu5:=uh TU5;have PU:=dh.push (Q:=QTy) (et:=56) (sz:=1) (base:=w8.heap.size) (va:=va2) (vc:=vc2) (L:=QO (vs.map λv:qi=>v.text)<|L.take k) (w1:=w5) (W:=w5.alloc<|Cv #[Fv tu xu] 56) (w3:=w6) (lo:=wr.heap.size) (q3:=q3) (c3:=c3) (a:=(aI (vs.map λv:qi=>v.text) L[k]).1) (c:=λ_=>Fv tu xu) (cs:=cs') iH
           (λi hi=>iH _ _ _ _ _ _ (HPE i hi) z5 (λb p z=>F5.block b z (λq=>by have:=p.1;obtain q|q:=q<;>omega))<|λb p z=>⟨p.1,ae,p.2.2⟩)
           tu5 ae (λb e=>by rw[ekl]at e;exact(Nb b e).2) k5 (by rw[ekl];exact uh OW6) (by rw[ekl];exact hg) (by rw[ekl];exact uh HL6)
          exact PU.lU iH zJ (λb h1 h2=>j9 _ _ _ _ (by show b≠wq.heap.size+1;omega))
         .have Fa:Fr (λi=>i=w.heap.size+1\/i=mb\/i=wq.heap.size+1) w8 w5:=((uh FR8).trans<|Fr.of (j8 _ _).drew).trans<|F5.gh λi q=>q.elim jx<|λr=>jv<|jx r
          exact((Fa.trans<|Fr.of k5).grown hg<|λb e=>jv (Nb b e).1).set (jx<|jv<|jv rfl) 0 _)
      .have aly:decide ((k:Int)<(L.length:Int))=false:=bD;have ek:k=L.length:=ae;subst ek;rw[qf]at ro;have alz:(QO (vs.map (·.text)) L).length=L.length:=by simp[QO]
       have k8:=uh K8;have mvr:∀b,(w.heap.size<=b/\b≠w.heap.size+1/\b≠mb/\b≠wx.heap.size)->b<wq.heap.size->wr.heap[b]? =wq.heap[b]? :=λb p z=>(F8.block b ae ae).trans<|k8.block b z;have MV:W7 wr (λi=>w.heap.size<=i/\i≠w.heap.size+1/\i≠mb/\i≠wx.heap.size) (QO (vs.map (·.text)) L) (jm t vs) (Av #[Lv va2 L.length vc2,Fv 153<|Av #[Sv t.text,Lv va vs.length vc]]):=⟨va2,vc2,_,_,by rw[alz],ro.alr.move (br _) (λ_ _ _=>rfl)<|λb p z=>⟨ae,ae,ae,ae⟩,MKq.move ae mvr<|λ_ p _=>p⟩;have MWr:=MWq.move ae ((F8.block _ ae ae).trans<|k8.block _ zmm) mvr<|λ_ p _=>p;have MKr:=MKq.move ae mvr<|λ_ p _=>p;have P4r:=(P4q.below k8).fr F8 ae;have FMr:=((FMq.trans<|Fr.of k8).hY F8 (λb q=>by obtain q|q|q:=q;exact jx<|jx q;exact jx<|jv<|jx q;exact jv ae));obtain⟨x1,x2,x3⟩:=P10;have⟨y1,y2,y3⟩:=B8.fr F8 ae;have HTK:In.DE (vs.map (·.text)) ms[i]=QO (vs.map (·.text)) L/\In.Ac ms[i]=s:=(by rw[HEM];exact⟨congrArg Prod.fst<|YD λk hk=>(HLT k hk).2,rfl⟩);clear ro F8 k8 mvr;go_wp2_with(refine xC rfl _ _ _ (jv rfl) rfl MWr (λq=>q.2.2.2 rfl) MV s rfl rfl ?_;intro w9 H' O';have M9:=ai H';have O9:=ai O';clear H' O');go_roundg(ms.length-(i+1))
       case measure=>rw[uh alw];omega
       case rel=>
        have o:=uh O9;have F9:Fr (λb=>b=wx.heap.size) wr w9:=⟨o.os,o.tape,o.output,UE,λb _ hb=>o.block b hb⟩;refine⟨i+1,ai rfl,jz NU,i_,NMr.fr F9 (λb p=>by subst p;omega),P4r.fr F9 ae,MKr.move F9.size (λb p z=>F9.block b z p.2.2.2)<|λ_ p _=>p,?_,FMr.trans<|F9.gh λb q=>jv<|jv q⟩;rw[qe NU,Ab,HTK.1,HTK.2];exact uh M9
    .have agF:decide ((i:Int)<(ms.length:Int))=false:=bD;have ei:i=ms.length:=ae;subst ei;rw[qf]at MWq;have HX:∃b,Rv (.map<|some wx.heap.size)=Rv (.map<|some b)/\Below w.heap.size w wr/\w.heap.size<=b/\nh wr (λi=>w.heap.size<=i) b (ji t vs ms λ_=>none):=⟨_,rfl,⟨FMq.os.trans KM.os,FMq.tape.trans KM.tape,FMq.output.trans KM.output,jy KM.size FMq.size,λk hk=>(FMq.block k (by have:=KM.size;omega) ae).trans<|KM.block k hk⟩,ae,MWq.move (br _) rfl (λ_ _ _=>rfl) (λb p _=>p.1)⟩;clear nm p4
     go_wp2
     go_ret;exact HX
section
variable {cnt kb jb Kb:Nat} {ρ:In.Rn}
def agG n:OfJ c nb l Kb (λb=>b=mb) (sM c l kb jb mb) (anV kb jb) (λ_=>True) (.var n):=by
 intro w g s cnt ρ Q v je js hu hk0 hkb hv hQ hs hA Ae
 cases hv
 have HC:=adf je js hu hk0 n (by simpa[size]using Ae);go_enter func40,ntmps40;go_wp2_with fail;refine HC.mono ?_;rintro e w1⟨m,g',s',aE,dP,rfl,r⟩
 go_wp2
 go_ret;exact⟨m,g',s',aE,dP,rfl,r⟩
mutual
def QP(hk:kb<Kb)(hj:jb<Kb)(hm:mb<Kb):∀T:Ty,OfJ c nb l Kb (λb=>b=mb) (sM c l kb jb mb) (anV kb jb) (λ_=>True) T
 |.var n=>agG n|.aJ k L=>YI (jv ⟨_,_,rfl⟩) (sM.ks hk hj hm) k L<|afi hk hj hm L
def afi(hk:kb<Kb)(hj:jb<Kb)(hm:mb<Kb):∀(L:List Ty)(i:Nat)(h:i<L.length),OfJ c nb l Kb (λb=>b=mb) (sM c l kb jb mb) (anV kb jb) (λ_=>True) L[i]
 |[],i,h=>absurd h (j6 _)|t::L,0,h=>QP hk hj hm t|t::L,i+1,h=>afi hk hj hm L i<|Nat.lt_of_succ_lt_succ h
end
abbrev noK:World->f_->jc->Nat->In.Rn->Prop:=λ_ _ _ _ _=>True
def alA:OKs c l 0 (λ_=>False) noK:=⟨λ_ _ _ _ _ _ _ _=>trivial,λ_ _ _ _ _ _ _ _ _ _=>trivial,λ_ _ _ _ _ _ _ _ _ _ _ _=>trivial,λ_ h=>h.elim⟩
mutual
def afj:∀T:Ty,OfJ c nb l 0 (λ_=>False) noK .nilFunc (λ_=>False) T
 |.var n=>λw g s cnt ρ Q v _ _ _ _ _ _ _ _ hA _=>(hA n rfl).elim|.aJ k L=>YI (jx rfl) alA k L<|afk L
def afk:∀(L:List Ty)(i:Nat)(h:i<L.length),OfJ c nb l 0 (λ_=>False) noK .nilFunc (λ_=>False) L[i]
 |[],i,h=>absurd h (j6 _)|t::L,0,h=>afj t|t::L,i+1,h=>afk L i<|Nat.lt_of_succ_lt_succ h
end
def ajl c nb l g(s:jc)cnt T w(e:Ending)w':=
 ∃n g' aE,e=.returned (nA n)/\JE w' c nb l aE/\JS w' g' s/\OR l w.heap.size g s cnt jh g' s aE jh/\n∈g'.ds/\g'.V n=T/\(∀x,Hd g'.nx n x->g'.lv x<=l)/\aE<=cnt+size T/\Fr (λb=>b=c.cb) w w'
def alB (hT:∀v,¬aB v T) (h:Jt c nb l (λ_=>False) noK g s cnt jh T w e w'):ajl c nb l g s cnt T w e w':=by
 obtain ⟨n,g',s',aE,dP,rfl,h1,h2,_,h4,h5,h6,h7,h8,h9,h10⟩:=h;have YJ:=funext λv=>(h8 v).2 (hT v);subst YJ;have hs:s'=s:=by
  obtain ⟨k',u'⟩:=s';obtain ⟨k,u⟩:=s;have e1:k'=k:=h4.kk;have e2:u'=u:=funext λn=>propext ⟨λq=>((h4.YK n).1 q).elim id (λ⟨v,_,r⟩=>nomatch r),λq=>(h4.YK n).2 (jx q)⟩;rw [e1,e2]
 subst hs;refine ⟨n,g',aE,rfl,h1,h2,h4,h5,?_,h7,h9,h10.gh λb q=>q.elim id False.elim⟩;rw [h6,jl (t:=T) λv o=>(hT v o).elim,jl λv o=>(hT v o).elim]
def adg(h:JE w c nb l cnt)(j:JS w g s)(hu:∀n,s.u n->us cnt n)(hv:dD w Q T v)(hQ:∀b,Q b->b≠c.cb)(hs:size T<=1000)(hT:∀n,¬aB n T)(hc:cnt+size T<=900000):Cq 307 #[Pv c.eb,v] w (ajl c nb l g s cnt T w):=by
 have f1:=h.bx.c 4;have HC:=afj T w g s cnt In.Cd Q v h j hu trivial (Nat.zero_le _) hv (λb q=>⟨hQ b q,id⟩) hs (λn o=>hT n o) hc;obtain⟨tv,xv,rfl⟩:=hv.iface;go_enter func307,ntmps307;go_wp2_with fail;refine HC.mono ?_;rintro e w1 r;have r':=alB hT r;obtain⟨n,g',aE,rfl,R⟩:=r'
 go_wp2
 go_ret;exact⟨n,g',aE,rfl,R⟩
def QR(h:JE w c nb l cnt)(g:f_)(s:jc):Cq 314 #[Pv c.eb] w λe w'=>∃kb jb mb,e=.returned (anV kb jb)/\sM c l kb jb mb w' g s cnt jh/\Bq w w'/\(kb<w'.heap.size/\jb<w'.heap.size/\mb<w'.heap.size)/\w.heap.size<=mb/\w.heap.size<=jb/\w.heap.size<=kb:=by
 have iZ:= @run_makeMap Tryz.prog;have HE:=ai h;go_enter func314,ntmps314
 go_wp2
 go_ret;have h:=uh HE;have bP:=(((j8 w.heap.size w).alloc (br _)<|Cv #[Pv c.eb] 114).alloc ag<|.map #[] 0).alloc bD<|Cv #[Mv<|w.heap.size+1] 163;have z1:=h.z.2.2;have z2:=h.bx.z;have z3:=h.ct.z;have z4:=h.rs.lt;have z5:=h.ms.lt;refine⟨w.heap.size+1+1,w.heap.size,w.heap.size+1,rfl,⟨?_,?_,⟨[],?_,λv=>jx ⟨rfl,rfl⟩⟩,ae,ae,ae,ae,ae⟩,bP,bD,ae,ae,ae⟩
 .have:=qj ((w.alloc<|Cv #[Pv c.eb] 114).alloc<|.map #[] 0) #[Mv<|w.heap.size+1] 163;simpa using this
 .exact((qj w #[Pv c.eb] 114).alloc _).alloc _
 .have:=(MS.new (λn:Int=>Iv n)<|w.alloc<|Cv #[Pv c.eb] 114).below<|bw<|Cv #[Mv<|w.heap.size+1] 163;simpa using this
def OR.drawn{B:Nat}{bH:In.Rn}(h:OR l B g s cnt ρ g1 s1 ak bH)(hT:∀v,(aB v T->bH v≠none)/\(¬aB v T->bH v=ρ v)):In.rj T ρ s (.ok ((sub (ju bH) T,bH),s1)):=by
 refine jv ⟨bH,s1,⟨bH,s1.u,⟨h.ext,λv q=>(hT v).2 λo=>q<|In.aq.2 o,λv q=>(hT v).1<|In.aq.1 q,h.nw,h.on,h.YK⟩,?_⟩,rfl⟩;have:=h.kk;obtain⟨k',u'⟩:=s1;simp only at this;rw[this]
end
section
variable {Iy l' cnt:Nat}
def One.fr(o:One b w w')(h:S b):Fr S w w':=⟨o.os,o.tape,o.output,Nat.le_of_eq o.size.symm,λk _ hn=>o.block k λe=>hn<|e▸h⟩
def JS.eb(j:JS w g s)(h:JE w c nb l cnt)(o:One c.eb w w'):JS w' g s:=by
 refine j.one o (h.Af j) λm hm k l' gg hs hl hg e=>?_;have⟨ga,q1,q2,_⟩:=j.gl.row hm hs<|List.length_pos_iff.2 hl;rw[hg]at q1;injection q1 with q1;injection q1 with q1;subst q1;have:=h.bx.c 0;rw[<-e,q2]at this;simp at this
def AJ.eng(a:AJ w c nb l cnt g s)(o:One c.eb w w')(hb:Bx w' c.eb (UX c Iy l'))(hl:l<=l'):AJ w' c Iy l' cnt g s:=
 ⟨a.je.fr a.js (o.fr<|jv<|jx rfl) hb<|a.je.ct.one o<|Ne.symm a.je.ne.1,a.js.eb a.je o,a.us,λn hn e=>(a.lv n hn e).imp (λq=>ae) id,a.lo⟩
def gw w b j v:One b w (w.setCell ⟨b,j,none⟩ v):=⟨rfl,rfl,rfl,zJ,λi hi=>j9 _ _ _ _ hi⟩
def AJ.given(a:AJ w c nb l cnt g s)Iy:AJ (w.setCell ⟨c.eb,3,none⟩<|Mv Iy) c Iy l cnt g s:=a.eng (gw _ _ _ _) (a.je.bx.aT 3 _ _ rfl ag) (br _)
def AJ.af(a:AJ w c nb l cnt g s)(k:Bq w w'):AJ w' c nb l cnt g s:=⟨a.je.af k,a.js.af k,a.us,a.lv,a.lo⟩
def b_.af(e:b_ w nb Γ g s)(k:Bq w w'):b_ w' nb Γ g s:=by obtain⟨L,h,q⟩:=e;exact⟨L,h.af k,q⟩
def b_.one(e:b_ w nb Γ g s)(o:One b w w')(h:nb≠b):b_ w' nb Γ g s:=by obtain⟨L,m,q⟩:=e;exact⟨L,m.one o h,q⟩
def b_.afl(e:b_ w nb Γ g s)(a:JE w c Iy l cnt):nb≠c.eb:=λz=>by
 obtain⟨L,h,_⟩:=e;have:=a.bx.c 0;rw[<-z,h.bE 0]at this;simp at this
def b_.lt(e:b_ w nb Γ g s):nb<w.heap.size:=by obtain⟨L,h,_⟩:=e;exact h.lt
def b_.new(w:World)g(s:jc):b_ (w.alloc<|.map #[] 0) w.heap.size (λ_=>none) g s:=⟨[],MG.new _ w,λx=>jx ⟨rfl,rfl⟩⟩
def ajm b1 b2 L1 L w gk wr:=
 ∃done L',IG qg wr w.heap.size b2 L done gk/\MG qg wr b1 L'/\(∀x,x∈done->a_ x L'=a_ x L/\a_ x L≠none)/\(∀x,¬x∈done->a_ x L'=a_ x L1)/\Fr (λi=>i=b1) w wr
def adh{b1 b2}{L1 L}(h1:MG qg w b1 L1)(h2:MG qg w b2 L)(hn:b1≠b2):
 Cq 323 #[Mv b1,Mv b2] w λe w'=>e=.returned (.tuple #[])/\(∃L',MG qg w' b1 L'/\∀x,a_ x L'=match a_ x L with|some v=>some v|none=>a_ x L1)/\Fr (λi=>i=b1) w w':=by
 have l1:=h1.lt;have⟨o,cnt,hrg,mw⟩:=h2.range cL;have k1:Bq w (w.alloc o):=bw _;have ST:ajm b1 b2 L1 L w cnt (w.alloc o):=⟨[],L1,mw,h1.af k1,λx q=>by simp at q,λx _=>rfl,Fr.of k1⟩;go_enter func323,ntmps323
 go_wp2
 go_loopg[] cnt (λgk wr=>ajm b1 b2 L1 L w gk wr)
 case atStart=>exact ST
 case round=>
  obtain⟨done,L',mw,hM,H3,H4,HF⟩:=hrel;have Xv:=mw.lt;have zr:=HF.size;rcases mw.next (P:=qh) str_inj with⟨HA,ET⟩|⟨x,u,w2,aE,hxd,HX,ET,I2,IX,yv,fK,hen⟩
  .have HM:=ai hM
   go_wp2
   go_end0;refine⟨rfl,⟨L',HM,λx=>?_⟩,HF⟩
   cases e:a_ x L with
   |some v=>rw[(H3 x<|HA x v e).1,e]|none=>
    exact H4 x λq=>(H3 x q).2 e
  .have F2:=yv;have M2:=hM.fr F2 ae;go_wp2_with(refine cr UH cL rfl _ _ _ (jv rfl) rfl M2 x u rfl rfl ?_;intro w4 H' O';have S4:=ai H';have O4:=ai O';clear H' O');go_roundg aE
   case measure=>exact IX
   case rel=>
    have o:=uh O4;refine⟨x::done,_,I2.same (o.block b2<|Ne.symm hn)<|o.block _ ae,S4,λy hy=>?_,λy hy=>?_,(HF.hY F2<|λi e=>jv ae).trans<|o.fr rfl⟩
    .rw[aO];by_cases q:x=y
     .subst q;rw[if_pos rfl,HX];simp
     .rw[if_neg q];exact H3 y<|(List.mem_cons.1 hy).resolve_left<|Ne.symm q
    .rw[aO,if_neg λe=>hy qBq];exact H4 y λq=>hy qBf
end
def vC{α:Type}c(p:ja α)g(s:jc)w e w':=∃z vl vr,e=Oa z.f vl vr/\p s (.error z)/\rM w' (λ_=>True) z vl vr/\Fr (jS c g) w w'
def c_ c nb l D(p:ja Ty)g(s:jc)cnt w e w':=
 (∃n g' s' aE T,e=.returned (nA n)/\p s (.ok (T,s'))/\AJ w' c nb l aE g' s'/\gi l c w g s w' g' s'/\aE<=cnt+D/\np l g' s' n T)\/vC c p g s w e w'
structure oY nd c w nb l cnt g(s:jc)(Γ:jf)dom v:Prop where
 aj:AJ w c nb l cnt g s
 en:b_ w nb Γ g s
 pe:PE w (λb=>b<c.lo) nd v
 sc:ScE c.mks c.nl dom nd
 hd:∀x,dom x->Γ x≠none
 fa:cnt+1000*nn nd<=850000
 fb:l+nn nd<=805
 mf:MkFine c.mks
def lV nd:=∀(c:JC)(w:World)(nb l cnt:Nat)(g:f_)(s:jc)(Γ:jf)(dom:BA->Prop)(v:Value),oY nd c w nb l cnt g s Γ dom v->
 Cq 309 #[nA c.eb,v] w (c_ c nb l (1000*nn nd) (jd c.mks nd Γ) g s cnt w)
structure yI c nb l w0 g0(s0:jc)w g(s:jc)cnt:Prop where
 a:AJ w c nb l cnt g s
 t:gi l c w0 g0 s0 w g s
 z:∃k,AJ w0 c nb l k g0 s0
def rM.wide{x}{vl vr}(h:rM w P x vl vr)(q:∀b,P b->Q b):rM w Q x vl vr:=⟨h.q_,λk=>⟨(h.apart k).1.move (br _) (λ_ _ _=>rfl)<|λb p _=>q b p,(h.apart k).2.move (br _) (λ_ _ _=>rfl)<|λb p _=>q b p⟩,h.k⟩
section
variable {cnt:Nat}
def yI.refl(a:AJ w c nb l cnt g s):yI c nb l w g s w g s cnt:=⟨a,.refl a.js c l,_,a⟩
def yI.next(n:yI c nb l w0 g0 s0 w g s cnt)(a:AJ w1 c nb l ak g1 s1)(t:gi l c w g s w1 g1 s1):yI c nb l w0 g0 s0 w1 g1 s1 ak:=by
 have⟨k,z⟩:=n.z;exact⟨a,n.t.trans z.js n.a.js a.js t,n.z⟩
def yI.fr(n:yI c nb l w0 g0 s0 w g s cnt)(f:Fr (jS c g) w w1):Fr (jS c g0) w0 w1:=n.t.fr.trans' f λx q=>by
 obtain q|q|q:=q
 .omega
 .omega
 .exact(n.t.nw x q).imp (λz=>jv<|jv z) id
def yI.af(n:yI c nb l w0 g0 s0 w g s cnt)(k:Bq w w1):yI c nb l w0 g0 s0 w1 g s cnt:=n.next (n.a.af k) {gi.refl n.a.js c l with fr:=Fr.of k}
def yI.bad{p:ja α}{q:ja β}(n:yI c nb l w0 g0 s0 w g s cnt)(b:vC c p g s w e w')(hp:∀z,p s (.error z)->q s0 (.error z)):vC c q g0 s0 w0 e w':=by
 obtain⟨z,vl,vr,h1,h2,h3,h4⟩:=b;exact⟨z,vl,vr,h1,hp z h2,h3,n.fr h4⟩
def yI.bx(n:yI c nb l w0 g0 s0 w g s cnt)(h:Bx w0 b C)(hb:¬jS c g0 b):Bx w b C:=h.fr n.t.fr hb
def AJ.kE(a:AJ w c nb l cnt g s)(hb:w.heap.size<=b):¬jS c g b:=by
 have h1:=a.je.ct.z;have h2:=a.je.bx.z;rintro(q|q|q)
 .omega
 .omega
 .have:=a.js.lt q;omega
def AJ.YL(a:AJ w c nb l cnt g s)(hb:b<c.lo):¬jS c g b:=by
 have h1:=a.je.z;rintro(q|q|q)
 .omega
 .omega
 .have:=a.lo b q;omega
def yI.pe(n:yI c nb l w0 g0 s0 w g s cnt)(h:PE w0 (λb=>b<c.lo) x u):PE w (λb=>b<c.lo) x u:=by
 have⟨k,z⟩:=n.z;exact h.move n.t.fr.size (λb p q=>n.t.fr.block b q<|z.YL p)<|λ_ p _=>p
def oY.part(h:oY nd c w0 nb l cnt0 g0 s0 Γ dom v)(n:yI c nb l w0 g0 s0 w g s cnt)(hp:PE w0 (λb=>b<c.lo) x u)(hs:ScE c.mks c.nl dom x)(hz:cnt+1000*nn x<=cnt0+1000*nn nd)(hx:nn x<=nn nd):oY x c w nb l cnt g s Γ dom u:=
 have:=h.fa;have:=h.fb
 ⟨n.a,h.en.dX qAx h.aj n.a.js n.t,n.pe hp,hs,h.hd,ae,ae,h.mf⟩
def oY.up(h:oY nd c w nb l cnt g s Γ dom v)(k:Bq w w1):oY nd c w1 nb l cnt g s Γ dom v:=⟨h.aj.af k,h.en.af k,h.pe.af k,h.sc,h.hd,h.fa,h.fb,h.mf⟩
def c_.up{p:ja Ty}(h:c_ c nb l D p g s cnt w1 e w')(k:Bq w w1):c_ c nb l D p g s cnt w e w':=by
 obtain⟨n,g',s',aE,T,h1,h2,h3,h4,h5,h6⟩|⟨z,vl,vr,h1,h2,h3,h4⟩:=h
 .exact jx ⟨n,g',s',aE,T,h1,h2,h3,{h4 with nw:=λm hm=>(h4.nw m hm).imp id<|jy k.size,fr:=(Fr.of k).trans h4.fr},h5,h6⟩
 .exact jv ⟨z,vl,vr,h1,h2,h3,(Fr.of k).trans h4⟩
def c_.ok{p:ja Ty}(n:yI c nb l w0 g0 s0 w g s cnt)(hp:p s0 (.ok (T,s)))(r:np l g s m T)(hc:cnt<=cnt0+D):c_ c nb l D p g0 s0 cnt0 w0 (.returned<|nA m) w:=jx ⟨m,g,s,cnt,T,rfl,hp,n.a,n.t,hc,r⟩
def alC c nb l(p:ja Unit)g(s:jc)cnt w e w':=
 (e=.returned (.tuple #[])/\∃g' s',p s (.ok ((),s'))/\AJ w' c nb l cnt g' s'/\gi l c w g s w' g' s')\/vC c p g s w e w'
theorem Ju(aj:AJ w c nb l cnt g s)(hl:l<aL){x}(ra:np l g s a x)(rb:np l g s b y)f t:
 Cq 312 #[nA a,nA b,.agg #[Nv f,Nv t]] w (alC c nb l (In.sW x y f t) g s cnt w):=by
 refine(YM aj.js ra.mem rb.mem ra.val rb.val f t).mono ?_;rintro e w'⟨F,⟨rfl,bm,cB,V',s',js,st,hp,hu,mo,ln⟩|⟨z,vl,vr,rfl,hp,hF⟩⟩
 .have F':Fr (jS c g) w w':=F.gh λb q=>jv<|jv q;have ln:=ln (λx=>g.lv x<=l) (λx hx hn q k ps hs p hp h hh=>jy (aj.js.lc x hx hn k ps hs p hp h hh) q) ra.lv rb.lv;have any:∀m,m∈g.ds->∀h h',Hd g.nx m h->Hd bm m h'->g.lv h=aL->h'=h/\cB h=aL:=λm hm h h' k k' e=>by
   have⟨q1,q2⟩:=(ln m hm h h' k k').1 (by rw[e];unfold aL at*;omega);exact⟨q1,q2.trans e⟩
  refine jx ⟨rfl,_,s',hp,⟨aj.je.fr aj.js F' (aj.je.bx.fr F<|aj.je.Af aj.js)<|aj.je.ct.fr F<|aj.je.Ag aj.js,js,by rw[hu];exact aj.us,λn hn e=>?_,aj.lo⟩,⟨st l,λm hm h k e=>?_,λm hm h h' k k' i hi z=>jy (mo m hm h h' k k') z,λm hm=>jx hm,F',λv=>?_,λn q=>by rw[hu];exact q⟩⟩
  .have⟨h,k⟩:=aj.js.gl.hd n hn;have k':Hd bm n n:=.here e;obtain q|q:=aj.hd hn k
   .grind
   .grind
  .have⟨h',k'⟩:=js.gl.hd m hm;have⟨q1,q2⟩:=any m hm h h' k k' e;exact⟨q1▸k',q2⟩
  .obtain⟨_,q⟩|⟨_,_,⟨θ,_,q⟩|⟨_,q⟩⟩:=hp
   .cases q
   .cases q
    show sub θ (s.k v)=sub (λv=>sub θ<|s.k v) (s.k v);exact sub_congr _ λn o=>by rw[aj.js.ok.idem v n o];rfl
   .cases q
 .exact jv ⟨z,vl,vr,rfl,hp,hF.wide λ_ _=>trivial,F.gh λb q=>jv<|jv q⟩
def ajn c nb l g(s:jc)cnt w(e:Ending)w':=∃n g',e=.returned (nA n)/\In.jH s (.ok (cnt+1,⟨s.k,λm=>s.u m\/m=cnt+1⟩))/\AJ w' c nb l (cnt+1) g' ⟨s.k,λm=>s.u m\/m=cnt+1⟩/\gi l c w g s w' g' ⟨s.k,λm=>s.u m\/m=cnt+1⟩/\np l g' ⟨s.k,λm=>s.u m\/m=cnt+1⟩ n (.var<|cnt+1)/\g'.str n=none/\g'.vr n=cnt+1/\g'.nx n=none
def vD(aj:AJ w c nb l cnt g s)(hc:cnt<=1000000):Cq 310 #[nA c.eb] w (ajn c nb l g s cnt w):=by
 refine(oZ aj.je aj.js aj.us hc).mono ?_;rintro e w'⟨n,rfl,hn,je,js,F⟩;have nd:¬n∈g.ds:=λq=>by have:=aj.js.lt q;omega
 have o:OR l w.heap.size g s cnt (λ_=>none) _ _ _ _:=OR.var (v:=0) aj.js hn nd aj.us rfl (λy n' q=>mE);have nx:=(aj.js.gl.out n nd).1;have hu:¬s.u (cnt+1):=λq=>by have:=aj.us _ q;rw[us]at this;omega
 refine⟨n,_,rfl,⟨cnt+1,hu,rfl⟩,o.aj aj (br _) je js,o.stj aj.js (br _)<|F.gh λb q=>jx q,⟨ag,?_,λx k=>?_⟩,Ob,Ob,nx⟩
 .show qk g.V n (.var<|cnt+1) n=s.k (cnt+1);simp[qk,aj.js.ok.out _ hu]
 .rw[k.one<|.here nx];simp[qk]
theorem agH(aj:AJ w c nb l cnt g s)(hn:w.heap.size<=n){q}{ar}(je:JE w' c nb l cnt)(js:JS w' (g.add n (some q) 0 ar l T) s)(k:Bq w w'):AJ w' c nb l cnt (g.add n (some q) 0 ar l T) s/\gi l c w g s w' (g.add n (some q) 0 ar l T) s/\n∈(g.add n (some q) 0 ar l T).ds/\(g.add n (some q) 0 ar l T).V n=T/\∀x,Hd (g.add n (some q) 0 ar l T).nx n x->(g.add n (some q) 0 ar l T).lv x<=l:=by
 have nd:¬n∈g.ds:=λq=>by have:=aj.js.lt q;omega
 have nx:=(aj.js.gl.out n nd).1;refine⟨⟨je,js,aj.us,λm hm e=>?_,λm hm=>?_⟩,⟨.add aj.js nd rfl (λe=>by cases e),λm hm h hk e=>⟨hk,?_⟩,λm hm h h' hk iX i _ z=>?_,λm hm=>?_,Fr.of k,λv=>(aj.js.ok.rA<|.var v).symm,λ_ q=>q⟩,ag,Ob,λx hx=>?_⟩
 .by_cases z:m=n
  .exact jx (by simp[qk,z])
  .simp only[qk,z,if_false];exact aj.lv m ((List.mem_cons.1 hm).resolve_left z) e
 .obtain z|z:=List.mem_cons.1 hm
  .have:=aj.je.z;have:=aj.je.bx.z;omega
  .exact aj.lo m z
 .have z:h≠n:=λz=>nd<|z▸aj.js.gl.bM hm hk;simpa[qk,z]using e
 .have iX:=iX;rw[iX.one hk];have y:h≠n:=λz=>nd<|z▸aj.js.gl.bM hm hk;simpa[qk,y]using z
 .grind
 .have hx:=hx;rw[hx.one<|.here nx];simp[qk]
def afm k c nb l g(s:jc)cnt x y w(e:Ending)w':=∃n g',e=.returned (nA n)/\AJ w' c nb l cnt g' s/\gi l c w g s w' g' s/\np l g' s n (.aJ k [x,y])
def QS{p:Prop}(h:p:=by
 rintro e w'⟨n,ar,rfl,hn,je,js,k⟩;obtain⟨h1,h2,h3,h4,h5⟩:=agH aj hn je js k
 exact⟨n,_,rfl,h1,h2,h3,by rw[h4,ra.val,rb.val];rfl,h5⟩):p:=h
def afn(aj:AJ w c nb l cnt g s){x}(ra:np l g s a x)(rb:np l g s b y):Cq 317 #[nA c.eb,nA a,nA b] w (afm m9 c nb l g s cnt x y w):=by
 refine(Jv (jx ⟨rfl,rfl⟩) aj.je aj.js ⟨ra.mem,ra.lv⟩ ⟨rb.mem,rb.lv⟩).mono ?_;exact QS
def afo(aj:AJ w c nb l cnt g s){x}(ra:np l g s a x)(rb:np l g s b y):Cq 315 #[nA c.eb,nA a,nA b] w (afm lq c nb l g s cnt x y w):=by
 refine(Jv (jv ⟨rfl,rfl⟩) aj.je aj.js ⟨ra.mem,ra.lv⟩ ⟨rb.mem,rb.lv⟩).mono ?_;exact QS
def ajo c nb l D T g(s:jc)cnt w(e:Ending)w':=∃n g' aE,e=.returned (nA n)/\AJ w' c nb l aE g' s/\gi l c w g s w' g' s/\aE<=cnt+D/\np l g' s n T
def YN(aj:AJ w c nb l cnt g s){v}(hv:dD w Q T v)(hQ:∀b,Q b->b≠c.cb)(hs:size T<=1000)(hT:∀n,¬aB n T)(hc:cnt+size T<=900000):Cq 307 #[nA c.eb,v] w (ajo c nb l (size T) T g s cnt w):=by
 refine(adg aj.je aj.js aj.us hv hQ hs hT hc).mono ?_;rintro e w'⟨n,g',aE,rfl,je,js,o,hn,hV,hl,p9,F⟩;exact⟨n,g',aE,rfl,o.aj aj (br _) je js,o.stj aj.js (br _)<|F.gh λb q=>jx q,p9,hn,by rw[hV];exact(jl λn o=>absurd o<|hT n).symm,hl⟩
end
section
variable {cnt:Nat}
def GL.lU{ds}{str}{nx}{vr}{ly}{lv}(h:GL w ds str nx vr ly lv)(hs:w.heap.size<=w'.heap.size)(hb:∀b p,w.cell? ⟨b,0,none⟩=some (.pointer p)->w'.heap[b]? =w.heap[b]?):GL w' ds str nx vr ly lv:=by
 refine⟨λn hn=>?_,h.out,h.hd⟩;have⟨p1,p2,p3⟩:=h.nd n hn;have⟨p,hp⟩:=h.rB hn;refine⟨(hb n p hp).trans p1,?_,p3⟩
 cases e:str n with
 |none=>trivial|some q=>
  obtain⟨k,ps⟩:=q;rw[e]at p2;obtain⟨q1,q2,q3,q4⟩:=p2;refine⟨q1,q2,q3,?_⟩;by_cases e0:ps=[]
  .exact jx e0
  .have⟨gg,r1,r2,r3,r4⟩:=q4.resolve_left e0;have hl:=List.length_pos_iff.2 e0;have:=hb gg _<|r4 0 hl;exact jv ⟨gg,r1,r2,ae,λi hi=>by rw[<-r4 i hi];simp only[World.cell?,this]⟩
def AJ.lU{S}(a:AJ w c nb l cnt g s)(f:Fr S w w')(h:∀b,S b->b≠c.rb/\b≠c.mb/\∀o,w.cell? ⟨b,o,none⟩=none):AJ w' c nb l cnt g s:=by
 have nc:∀{b o v},w.cell? ⟨b,o,none⟩=some v->w'.heap[b]? =w.heap[b]? :=λ{b o v}q=>f.block b (fy q) λz=>by rw[(h b z).2.2 o]at q;cases q
 obtain⟨⟨bx,ct,rs,ms,z⟩,js,q1,q2,q3⟩:=a;have e1:=nc<|bx.c 0;have e2:=nc<|ct.c 0;exact⟨⟨bx.same f.size e1,ct.same f.size e2,rs.same<|f.block _ rs.lt λz=>(h _ z).1 rfl,(ms.UY (S:=S) λb q a y e=>by rw[(h b q).2.2 0]at e;cases e).move f.size (f.block _ ms.lt λz=>(h _ z).2.1 rfl) (λb p y=>f.block b y p.2)<|λ_ p _=>p.1,⟨z.1,z.2.1,jy z.2.2 f.size⟩⟩,⟨js.gl.lU f.size λb p q=>nc q,js.mY,js.inj,js.can,js.lc,js.val,js.use,js.ok⟩,q1,q2,q3⟩
theorem b_.over{nb1}{L L2 L'}(q:∀x,(Γ x=none/\a_ x L=none)\/∃d m,Γ x=some d/\a_ x L=some (nA m)/\Cj g s d m)(q2:∀x,(yF x=none/\a_ x L2=none)\/∃d m,yF x=some d/\a_ x L2=some (nA m)/\Cj g s d m)(h:MG qg w nb1 L')(e:∀x,a_ x L'=match a_ x L2 with|some v=>some v|none=>a_ x L):b_ w nb1 (jk yF Γ) g s:=by
 refine⟨L',h,λx=>?_⟩;rw[e x];rw[jk];obtain⟨h1,h2⟩|⟨d,m,h1,h2,h3⟩:=q2 x
 .grind
 .grind
def qF(Hx:lV x)(aj:AJ w c nb l cnt g s)(en:b_ w nb Γ g s)(em:b_ w mb yF g s)(hx:PE w (λb=>b<c.lo) x v)(sc:ScE c.mks c.nl dom x)(hd:∀y,dom y->jk yF Γ y≠none)(fa:cnt+1000*nn x<=850000)(fb:l+nn x<=805)(mf:MkFine c.mks):
 Cq 311 #[nA c.eb,Mv mb,v] w (c_ c nb l (1000*nn x) (jd c.mks x<|jk yF Γ) g s cnt w):=by
 have f3:=aj.je.bx.c 3;have ze:=aj.je.bx.z;have gh:=aj.je.z.2.2;have zr:=aj.je.rs.lt;have zm:=aj.je.ms.lt;have n2:=em.afl aj.je;have z2:=em.lt;obtain⟨L,m1,q1⟩:=en;obtain⟨L2,M2,q2⟩:=em;have HC:=YO m1;have HK:∀w1 w3 L',Bq w w1->w1.heap.size=w.heap.size+1->MG Sv w1 w.heap.size L->MG Sv w3 w.heap.size L'->(∀x,a_ x L'=match a_ x L2 with|some v=>some v|none=>a_ x L)->Fr (λi=>i=w.heap.size) (w1.setCell ⟨c.eb,3,none⟩<|Mv w.heap.size) w3->yI c w.heap.size l w3 g s w3 g s cnt/\gi l c w g s w3 g s/\Cq 309 #[nA c.eb,v] w3 (c_ c w.heap.size l (1000*nn x) (jd c.mks x<|jk yF Γ) g s cnt w3):=λw1 w3 L' k1 z1 mc m3 e3 f=>by
  have o:=gw w1 c.eb 3<|Mv w.heap.size;have aj3:=((aj.af k1).given w.heap.size).lU f λb e=>by
   have mc':=mc.one o ae;exact⟨ae,ae,λi=>by rw[e];exact mc'.bE i⟩
  have F:Fr (jS c g) w w3:=((Fr.of k1).trans<|o.fr<|jv<|jx rfl).hY f λi e=>jv ae;exact⟨.refl aj3,{gi.refl aj.js c l with fr:=F},Hx c w3 w.heap.size l cnt g s _ dom v ⟨aj3,.over q1 q2 m3 e3,hx.move F.size (λb p q=>F.block b q<|aj.YL p)<|λ_ p _=>p,sc,hd,fa,fb,mf⟩⟩
 obtain⟨tx,ax,rfl⟩:=hx.iface;go_enter func311,ntmps311;go_wp2_with fail;refine HC.mono ?_;rintro e w1⟨rfl,MC,K1,Z1⟩;have HD:=adh (w:=w1.setCell ⟨c.eb,3,none⟩<|Mv w.heap.size) (MC.one (gw _ _ _ _) ae) ((M2.af K1).one (gw _ _ _ _) n2) ae;have c1:=(aj.je.bx.below K1).c;have c2:=(aj.je.bx.below K1).f;go_wp2_with fail;refine HD.mono ?_;rintro e w3⟨rfl,⟨L',m3,e3⟩,F3⟩;have⟨NX,st,HE⟩:=HK w1 w3 L' K1 Z1 MC m3 e3 F3;have ST:=ai st;go_wp2_with fail;refine HE.mono ?_;rintro e w4(⟨n,g4,s4,aje,T,rfl,HP,a4,t4,hc,R4⟩|⟨z,vl,vr,rfl,HP,hF,yv⟩)
 .have d1:=a4.je.bx.c;have d2:=a4.je.bx.f;have A5:=a4.given nb;have S5:=ST.trans aj.js NX.a.js a4.js t4
  go_wp2
  go_ret;have st:=S5;exact jx ⟨n,g4,s4,aje,T,rfl,HP,A5,{st with fr:=st.fr.set (jx<|jv<|jx rfl) 3 _},hc,R4⟩
 .have HX:=show vC c (jd c.mks x<|jk yF Γ) g s w (Oa z.f vl vr) w4 from⟨z,vl,vr,rfl,HP,hF,ST.fr.trans yv⟩
  go_wp2
  exact⟨rfl,jv HX⟩
end
structure n8{β:Type}c nb l w0 g0(s0:jc)(p:ja β)w g(s:jc)cnt(q:ja β):Prop where
 n:yI c nb l w0 g0 s0 w g s cnt
 p:∀o,q s o->p s0 o
section
variable {cnt:Nat} {p:ja Ty} {p' q':ja β} {m:ja α} {k:α->ja β} {a:α}
def n8.start(a:AJ w c nb l cnt g s)(p':ja β):n8 c nb l w g s p' w g s cnt p':=⟨.refl a,λ_ h=>h⟩
def n8.and(n:n8 c nb l w0 g0 s0 p' w g s cnt (jj m k))(hm:m s (.ok (a,s1)))(a1:AJ w1 c nb l ak g1 s1)(t1:gi l c w g s w1 g1 s1):n8 c nb l w0 g0 s0 p' w1 g1 s1 ak (k a):=⟨n.n.next a1 t1,λo ho=>n.p o<|jv ⟨a,s1,hm,ho⟩⟩
def n8.bad(n:n8 c nb l w0 g0 s0 p' w g s cnt (jj m k))(b:vC c m g s w e w'):vC c p' g0 s0 w0 e w':=n.n.bad b λz h=>n.p _<|jx ⟨z,h,rfl⟩
def n8.ret{x}(n:n8 c nb l w0 g0 s0 p w g s cnt (jt T))(r:np l g s x T)(hc:cnt<=cnt0+D):c_ c nb l D p g0 s0 cnt0 w0 (.returned<|nA x) w:=.ok n.n (n.p _ rfl) r hc
def n8.af(n:n8 c nb l w0 g0 s0 p' w g s cnt q')(k:Bq w w1):n8 c nb l w0 g0 s0 p' w1 g s cnt q':=⟨n.n.af k,n.p⟩
def n8.step(n:n8 c nb l w0 g0 s0 p' w g s cnt q')(a1:AJ w1 c nb l ak g1 s)(t1:gi l c w g s w1 g1 s):n8 c nb l w0 g0 s0 p' w1 g1 s ak q':=⟨n.n.next a1 t1,n.p⟩
def n8.last(n:n8 c nb l w0 g0 s0 p w g s cnt q)(h:c_ c nb l D' q g s cnt w e w')(hc:cnt+D'<=cnt0+D):c_ c nb l D p g0 s0 cnt0 w0 e w':=by
 obtain⟨x,g',s',aE,T,h1,h2,h3,h4,h5,h6⟩|h:=h
 .obtain rfl:=h1;exact .ok (n.n.next h3 h4) (n.p _ h2) h6 ae
 .exact jv (n.n.bad h λz h=>n.p _ h)
def afp(d:In.I7)c nb l g(s:jc)cnt w(e:Ending)w':=∃n g' s' aE ρ,e=.returned (nA n)/\In.tq d.any jh s (.ok (ρ,s'))/\AJ w' c nb l aE g' s'/\gi l c w g s w' g' s'/\aE<=cnt+48/\np l g' s' n (sub (ju ρ)<|sub s.k d.of)
def adi(aj:AJ w c nb l cnt g s)(hl:l<aL){m}(nm:Cj g s d m)(hz:size (g.V m)<=48)(hc:cnt+48<=900000):Cq 325 #[nA m,Nv l,vrV c] w (afp d c nb l g s cnt w):=by
 have iZ:= @run_makeMap qh;have k0:Bq w (w.alloc<|.map #[] 0):=bw _;have a0:=aj.af k0;have z:=aj.je.z.2.2;have hf:UZ c w.heap.size:=⟨z,aj.je.bx.z,aj.je.ct.z,aj.je.rs.lt,aj.je.ms.lt⟩;have cp:vE (λ_=>False) l w.heap.size (w.alloc<|.map #[] 0) g s jh []:=⟨MS.new _ w,λp q=>by simp at q,λh v q=>by simp[a_]at q,λv n q=>mE⟩;have fa:Fa g l m:=⟨λx=>x∈g.ds/\g.nx x=none,λx hx _ _ k ps hs p hp h hh=>⟨aj.js.gl.bM (aj.js.jg.Xa x k ps hx hs p hp) hh,hh.head⟩,λx q=>aj.lv x q.1 q.2,λh hh=>⟨aj.js.gl.bM nm.mem hh,hh.head⟩⟩;have HI:=afq (nb:=nb) hf hl 48 _ g s cnt jh [] m a0.je a0.js aj.us cp nm.mem fa hz ae;have HK:Hid (∀e w',Oc (λ_=>False) c nb l w.heap.size g s cnt jh m (w.alloc<|.map #[] 0) e w'->(∃n,e=Rv (nA n))/\afp d c nb l g s cnt w e w'):=ai λe w' hp=>by
  obtain⟨n,g',s',aE,dP,M',rfl,je,js,cp',o,hn,hV,zP,h1,h2,h3,F⟩:=hp;have F':Fr (jS c g) w w':=(Fr.of k0).hY F λb q=>by
   obtain q|q|q:=q
   .exact jx (jx q)
   .exact jx (jv<|jv q)
   .exact jv ae
  have o':=o.tJ k0.size;have agI:∀v,dP v≠none->aB v (g.V m)/\dY g v:=λv q=>by
   have ov:=h2 v rfl q
   cases e:dP v with
   |none=>exact absurd e q|some x=>exact⟨ov,dY.back aj.js js o' nm.mem ov<|cp'.any e⟩
  refine⟨⟨n,rfl⟩,n,g',s',aE,dP,rfl,⟨dP,s'.u,⟨λv n q=> mE,λv hv=>?_,λv hv=>h1 v ((nm.any v).1 hv).1 ((nm.any v).1 hv).2,λv n _ q=>o.nw v n rfl q,λv v' n _ q q'=>o.on v v' n rfl q q',o.YK⟩,by rw[<-o.kk]⟩,o'.aj aj (br _) je js,o'.stj aj.js (br _) F',ae,hn,?_,zP⟩
  .cases e:dP v with
   |none=>rfl|some x=>exact absurd ((nm.any v).2<|agI v (by rw[e];simp)) hv
  .rw[<-nm.val,<-hV];exact(jl λv ov=>by have⟨x,r⟩:=js.om hn ov;exact(js.root r).2).symm
 go_enter func325,ntmps325;go_wp2_with fail;refine HI.mono ?_;intro e w1 hp;obtain⟨⟨n,rfl⟩,Q⟩:=uh HK e w1 hp
 go_wp2
 go_ret;exact Q
def afr(aj:AJ w c nb l cnt g s)(hn:n∈g.ds)f t:Cq 306 #[nA n,.agg #[Nv f,Nv t]] w (λe w'=>(∃bm,AJ w' c nb l cnt {g with nx:=bm} s/\gi l c w g s w' {g with nx:=bm} s)/\((size (g.V n)<=48/\e=.returned (.tuple #[]))\/(48<size (g.V n)/\e=Oa ⟨7,f,t⟩ .nilIface .nilIface))):=by
 refine(rT aj.js hn f t).mono ?_;rintro e w'⟨⟨bm,E,js⟩,F,h⟩;have o:OR l w.heap.size g s cnt jh {g with nx:=bm} s cnt jh:=OR.eqv aj.js E js.gl _;have F':Fr (jS c g) w w':=F.gh λb q=>jv<|jv q;exact⟨⟨bm,o.aj aj (br _) (aj.je.fr aj.js F' (aj.je.bx.fr F<|aj.je.Af aj.js)<|aj.je.ct.fr F<|aj.je.Ag aj.js) js,o.stj aj.js (br _) F'⟩,h⟩
def agJ(aj:AJ w c nb l cnt g s)(hl:l<aL)(en:b_ w nb Γ g s){x}(hx:Γ x≠none)f t(hc:cnt+48<=900000):Cq 313 #[nA c.eb,.agg #[Nv f,Nv t,.string x]] w (c_ c nb l 48 (jo Γ x f t) g s cnt w):=by
 obtain⟨L,hM,hq⟩:=en;have⟨d,m,e1,e2,NM⟩:=(hq x).resolve_left λq=>hx q.1;have⟨k0,b0⟩:=oF w #[Nv f,Nv t,Sv x] 253;have HL:∀n,(Instr.lookup 194 (Mv nb) (Sv x) false).run qh ((w.alloc<|Cv #[Nv f,Nv t,Sv x] 253).drewN n)=.ok (nA m) ((w.alloc<|Cv #[Nv f,Nv t,Sv x] 253).drewN n):=λn=>by
  have:=(hM.af<|k0.drewN n).ms.look UH cL (tK _) x trivial (λ_ _=>trivial) false;rw[e2]at this;exact this
 have f3:=(aj.af k0).je.bx.c 3;obtain⟨c1,c2,c3⟩:=b0;have K0:=ai k0;go_enter func313,ntmps313
 go_wp2
 go_quiet(fail);have KQ:=K0.drewN nq;have aQ:=aj.af KQ;have HM:=afr aQ NM.mem f t;have N0:=yI.refl aQ;go_wp2_with fail;refine HM.mono ?_;rintro e w2⟨⟨oD,a2,t2⟩,⟨hz,rfl⟩|⟨hz,rfl⟩⟩
 .have N2:=N0.next a2 t2;have nm2:=NM.dX hl N0.a a2.js t2;have HI:=adi a2 hl nm2 hz hc;have HV:=ai nm2.val;have f4:=a2.je.bx.c 4;go_wp2_with fail;refine HI.mono ?_;rintro e w3⟨n,g3,s3,vw,ρ,rfl,hd,a3,t3,hc3,r3⟩;have n3:=N2.next a3 t3;have hp:jo Γ x f t s (.ok (sub (ju ρ)<|sub s.k d.of,s3)):=by
   rw[jo];rw[e1];exact jv ⟨by rw[<-(uh HV)];exact hz,ρ,s3,hd,rfl⟩
  have HX:=(c_.ok (D:=48) (cnt0:=cnt) n3 hp r3 hc3).up KQ
  go_wp2
  go_ret;exact HX
 .have HX:=show c_ c nb l 48 (jo Γ x f t) g s cnt w (Oa ⟨7,f,t⟩ Zv Zv) w2 from jv ⟨In.q_ f t,Zv,Zv,rfl,by rw[jo];rw[e1];exact jx ⟨by rw[<-NM.val];exact hz,rfl⟩,⟨λ_=>⟨rfl,rfl⟩,λq=>by simp[In.q_]at q,jv rfl⟩,(Fr.of KQ).trans t2.fr⟩
  go_wp2
  exact⟨rfl,HX⟩
end
def ajp{k}(hu:oA k)w:dD w (λ_=>False) (.aJ k []) (.iface 153<|.agg #[.string k,.slice none 0 0]):=by
 have:=dD.aJ (w:=w) (P:=λ_=>False) k [] none 0 (λ_=>Zv) (jv<|jv hu) (jx rfl)<|λi h=>yl
 rwa[eS hu]at this
section
variable {cnt:Nat}
def agK(aj:AJ w c nb l cnt g s){k}(hu:oA k)(hc:cnt+1<=900000):Cq 307 #[nA c.eb,.iface 153<|.agg #[.string k,.slice none 0 0]] w (ajo c nb l 1 (.aJ k []) g s cnt w):=by
 have:=YN aj (ajp hu w) (λb q=>q.elim) (by simp[size,ah]) (λn q=>by simp[aB,bX]at q) (by simpa[size,ah]using hc);simpa[size,ah]using this
end
structure BdJ rc st x c w nb l cnt g(s:jc)(Γ:jf)(dom:BA->Prop)v:Prop where
 aj:AJ w c nb l cnt g s
 en:b_ w nb Γ g s
 pe:PE w (λb=>b<c.lo) x v
 sc:ScE c.mks c.nl (λy=>dom y\/(rc=true/\y=st)) x
 hd:∀y,dom y->Γ y≠none
 fa:cnt+1000*(1+nn x)<=850000
 fb:l+nn x<=805
 mf:MkFine c.mks
section
variable {cnt:Nat} {rc:Bool}
def One.af(o:One b W w')(k:Bq w W)(hb:w.heap.size<=b):Bq w w':=⟨o.os.trans k.os,o.tape.trans k.tape,o.output.trans k.output,by rw[o.size];exact k.size,λi hi=>(o.block i ae).trans<|k.block i hi⟩
def np.nm(r:np l g s n T)(js:JS w g s)(hl:l<aL)(hu:∀k,aB k T->s.u k):Cj g s (In.mono T) n where
 mem:=r.mem
 val:=r.val
 any v:=⟨λq=> mE,λ⟨o,x,rx,e⟩=>by
  have⟨y,hy⟩:=js.gl.hd n r.mem;have⟨z,rz,q⟩:=fA (lv:=g.lv) js.jg js.can _ n y r.mem hy (br _) o;have q:=q js.lc;have:=r.lv y hy;rw[rz.one js.jg rx,e]at q
  omega⟩
 use:=hu
 sub v q:=mE
theorem b_.lit{y}(h:MG qg w b (bG y (nA m) []))(n:Cj g s d m):b_ w b (jq (λ_=>none) y d) g s:=by
 refine⟨_,h,λz=>?_⟩;rw[aO];rw[jq];by_cases e:y=z
 .grind
 .rw[if_neg e,if_neg<|Ne.symm e];exact jx ⟨rfl,rfl⟩
def BdJ.up(h:BdJ rc st x c w nb l cnt g s Γ dom v)(k:Bq w w1):BdJ rc st x c w1 nb l cnt g s Γ dom v:=⟨h.aj.af k,h.en.af k,h.pe.af k,h.sc,h.hd,h.fa,h.fb,h.mf⟩
def YP{y:Nat}(Hx:lV x)(h:BdJ false st x c w nb l cnt g s Γ dom v):Cq 308 #[nA c.eb,.agg #[.bool false,Nv a,Nv y,.string st,v]] w (c_ c nb l (1000*(1+nn x)) (jp false st x (jd c.mks x) Γ) g s cnt w):=by
 have k0:Bq w (w.alloc<|Cv #[.bool false,Nv a,Nv y,Sv st,v] 130):=bw _;have h0:=h.up k0;have fa:=h.fa;have fb:=h.fb;have H1:=Hx c _ nb l cnt g s Γ _ v ⟨h0.aj,h0.en,h0.pe,h0.sc,λz q=>h.hd z (q.resolve_right λq=>by cases q.1),ae,ae,h.mf⟩;obtain⟨tx,ax,rfl⟩:=h.pe.iface;have N0:=n8.start h0.aj<|In.inf c.mks x Γ;have K0:=ai k0;go_enter func308,ntmps308;go_wp2_with fail;refine H1.mono ?_;intro e w1 hq;have HX:=(N0.last (cnt0:=cnt) (D:=1000*(1+nn x)) hq ae).up K0;obtain⟨n1,g1,s1,ak,T1,rfl,-⟩|⟨z,vl,vr,rfl,-⟩:=hq
 .clear H1
  go_wp2
  go_ret;exact HX
 .clear H1
  go_wp2
  exact⟨rfl,HX⟩
def QT{p:Prop}(h:p:=by
 obtain⟨z,vl,vr,rfl,-⟩:=hb
 go_wp2
 exact⟨rfl,c_.up (jv HX) K0⟩):p:=h
def YQ{y:Nat}(Hx:lV x)(h:BdJ true st x c w nb l cnt g s Γ dom v):Cq 308 #[nA c.eb,.agg #[.bool true,Nv a,Nv y,.string st,v]] w (c_ c nb l (1000*(1+nn x)) (jp true st x (jd c.mks x) Γ) g s cnt w):=by
 have iZ:= @run_makeMap Tryz.prog;have fa:=h.fa;have fb:=h.fb;have hl:l<aL:=qAx;have⟨k0,B0⟩:=oF w #[.bool true,Nv a,Nv y,Sv st,v] 130;have HA:=h.up k0;have Jw:=h.aj.kE<|br _;have N0:=n8.start HA.aj<|In.ch true st x (In.inf c.mks x) Γ;rw[Fu]at N0;rw[Fu];have H1:=vD HA.aj ae;obtain⟨tx,ax,rfl⟩:=h.pe.iface;have pl:=h.pe.place;dsimp only[PlF]at pl;have K0:=ai k0;go_enter func308,ntmps308;go_wp2_with fail;refine H1.mono ?_;rintro e w1⟨n1,g1,rfl,p1,a1,t1,R1,-⟩;have N1:=N0.and p1 a1 t1;have nm:=R1.nm a1.js hl (λk o=>by simp only[aB]at o;exact Or.inr o.symm);have HW:∀(w2:World)(mb:Nat),Bq w1 w2->MG Sv w2 mb (bG st (nA n1) [])->Cq 311 #[nA c.eb,Mv mb,Fv tx<|Av ax] w2 (c_ c nb l (1000*nn x) (In.inf c.mks x<|In.cz Γ st<|In.mono<|.var<|cnt+1) g1 ⟨s.k,λm=>s.u m\/m=cnt+1⟩ (cnt+1) w2):=λw2 mb k hM=>by
  have h:=HA;have n1:=N1.n;have:=qF Hx (a1.af k) ((h.en.dX hl h.aj a1.js t1).af k) (b_.lit hM nm) ((n1.pe h.pe).af k) h.sc (λz q=>?_) ae ae h.mf
  .rw[kv]at this;exact this
  .rw[kv];rw[jq];split
   .simp
   .exact h.hd z (q.resolve_right λq=>by have:=q.2;contradiction)
 have⟨b1,b2,b3⟩:=N1.n.bx B0 Jw;go_wp2_with(refine cr UH cL rfl _ _ _ (jx rfl) rfl (MG.new _ _) st (nA n1) rfl rfl ?_;intro w2 hM o;have k2:=o.af ((j8 _ w1).alloc (br _)<|.map #[] 0)<|br _;have⟨d1,d2,d3⟩:=N1.af k2|>.n.bx B0 Jw;have HM:=ai hM;have K2:=ai k2;clear hM o k2);refine(HW _ _ K2 HM).mono ?_;rintro e w3(⟨n3,g3,s3,vw,T3,rfl,p3,a3,t3,c3,r3⟩|hb)
 .have N3:=(N1.af K2).and p3 a3 t3;have R3:=And.intro (R1.dX N1.n.a.js t3) r3;have⟨d1',d2',d3'⟩:=N3.n.bx B0 Jw;go_wp2_with fail;refine(dR _ _).mono ?_;rintro e w4⟨rfl,k4⟩;have N4:=N3.af k4;have H4:=Ju N4.n.a hl R3.1 R3.2 (In.kZ x)<|In.BT x;go_wp2_with fail;refine H4.mono ?_;rintro e w5(⟨rfl,g5,s5,p5,a5,t5⟩|hb)
  .have N5:=N4.and p5 a5 t5;have R5:=R3.2.dX N4.n.a.js t5
   go_wp2
   go_ret;exact(N5.ret R5 ae).up K0
  .have HX:=N4.bad hb;exact QT
 .have HX:=(N1.af K2).bad hb;exact QT
def YR{y:Nat}(Hx:lV x)(h:BdJ rc st x c w nb l cnt g s Γ dom v):Cq 308 #[nA c.eb,.agg #[.bool rc,Nv a,Nv y,.string st,v]] w (c_ c nb l (1000*(1+nn x)) (jp rc st x (jd c.mks x) Γ) g s cnt w):=by
 cases rc
 .exact YP Hx h
 .exact YQ Hx h
end
abbrev jG c g gb b:=jS c g b\/b=gb
def YS{α:Type}c gb(p:ja α)g(s:jc)w e w':=∃z vl vr,e=Oa z.f vl vr/\p s (.error z)/\rM w' (λ_=>True) z vl vr/\Fr (jG c g gb) w w'
def qU c nb l gb D(p:ja (Ty×jf))g(s:jc)cnt w e w':=
 (∃n g' s' aE T G,e=.returned (nA n)/\p s (.ok ((T,G),s'))/\AJ w' c nb l aE g' s'/\gi l c w g s w g' s'/\Fr (jG c g gb) w w'/\b_ w' gb G g' s'/\aE<=cnt+D/\np l g' s' n T)\/YS c gb p g s w e w'
structure FE nd c w nb l cnt g(s:jc)gb(G:jf)v:Prop where
 aj:AJ w c nb l cnt g s
 en:b_ w gb G g s
 pp:PP w (λb=>b<c.lo) nd v
 sc:rf c.mks c.nl nd
 fg:c.gh<=gb/\gb≠c.rb/\gb≠c.mb/\c.lo<=gb
 fa:cnt+1000*nn nd<=850000
 fl:l<aL
 mf:MkFine c.mks
def Od nd:=∀(c:JC)(w:World)(nb l cnt:Nat)(g:f_)(s:jc)(gb:Nat)(G:jf)(v:Value),FE nd c w nb l cnt g s gb G v->
 Cq 327 #[nA c.eb,Mv gb,v] w (qU c nb l gb (1000*nn nd) (In.dv c.mks nd G) g s cnt w)
structure mF{β:Type}c nb l gb w0 g0(s0:jc)(p:ja β)w g(s:jc)cnt(q:ja β):Prop where
 a:AJ w c nb l cnt g s
 t:gi l c w0 g0 s0 w0 g s
 f:Fr (jG c g0 gb) w0 w
 z:∃k,AJ w0 c nb l k g0 s0
 p:∀o,q s o->p s0 o
section
variable {W1:World} {gb cnt:Nat} {p' q':ja β} {m:ja α} {k:α->ja β} {a:α} {G:jf}
def gi.fg(t:gi l c w g s w1 g1 s1):Fr (jG c g gb) w w1:=t.fr.gh λ_ q=>jx q
def mF.start(a:AJ w c nb l cnt g s)(p':ja β):mF c nb l gb w g s p' w g s cnt p':=⟨a,.refl a.js c l,.refl _ _,⟨_,a⟩,λ_ h=>h⟩
def mF.fr(n:mF c nb l gb w0 g0 s0 p' w g s cnt q')(f:Fr (jG c g gb) w w1):Fr (jG c g0 gb) w0 w1:=n.f.trans' f λx q=>by
 obtain  (q|q|q)|q:=q
 .omega
 .omega
 .exact(n.t.nw x q).imp (λz=>jx<|jv<|jv z) id
 .omega
def mF.gr(n:mF c nb l gb w0 g0 s0 p' w g s cnt q')(a1:AJ w1 c nb l ak g1 s1)(t1:gi l c w g s W g1 s1):gi l c w0 g0 s0 w0 g1 s1:=by
 have⟨k,z⟩:=n.z;exact n.t.trans z.js n.a.js a1.js {t1 with nw:=λm hm=>(t1.nw m hm).imp id<|jy n.f.size,fr:=.refl _ _}
def mF.and(n:mF c nb l gb w0 g0 s0 p' w g s cnt (jj m k))(hm:m s (.ok (a,s1)))(a1:AJ w1 c nb l ak g1 s1)(t1:gi l c w g s W g1 s1)(f:Fr (jG c g gb) w w1):mF c nb l gb w0 g0 s0 p' w1 g1 s1 ak (k a):=⟨a1,n.gr a1 t1,n.fr f,n.z,λo ho=>n.p o<|jv ⟨a,s1,hm,ho⟩⟩
def mF.step{W}(n:mF c nb l gb w0 g0 s0 p' w g s cnt q')(a1:AJ w1 c nb l ak g1 s)(t1:gi l c w g s W g1 s)(f:Fr (jG c g gb) w w1):mF c nb l gb w0 g0 s0 p' w1 g1 s ak q':=⟨a1,n.gr a1 t1,n.fr f,n.z,n.p⟩
def mF.af(n:mF c nb l gb w0 g0 s0 p' w g s cnt q')(k:Bq w w1):mF c nb l gb w0 g0 s0 p' w1 g s cnt q':=n.step (n.a.af k) (.refl n.a.js c l)<|Fr.of k
def vC.bp{p:ja α}(b:vC c p g s w e w'):YS c gb p g s w e w':=by
 obtain⟨z,vl,vr,h1,h2,h3,h4⟩:=b;exact⟨z,vl,vr,h1,h2,h3,h4.gh λ_ q=>jx q⟩
def mF.bad(n:mF c nb l gb w0 g0 s0 p' w g s cnt (jj m k))(b:YS c gb m g s w e w'):YS c gb p' g0 s0 w0 e w':=by
 obtain⟨z,vl,vr,h1,h2,h3,h4⟩:=b;exact⟨z,vl,vr,h1,n.p _<|jx ⟨z,h2,rfl⟩,h3,n.fr h4⟩
def mF.bx(n:mF c nb l gb w0 g0 s0 p' w g s cnt q')(h:Bx w0 b C)(hb:¬jG c g0 gb b):Bx w b C:=h.fr n.f hb
def mF.ret{p:ja (Ty×jf)}{x}(n:mF c nb l gb w0 g0 s0 p w g s cnt (jt (T,G)))(en:b_ w gb G g s)(r:np l g s x T)(hc:cnt<=cnt0+D):qU c nb l gb D p g0 s0 cnt0 w0 (.returned<|nA x) w:=jx ⟨x,g,s,cnt,T,G,rfl,n.p _ rfl,n.a,n.t,n.f,en,hc,r⟩
def qU.up{p:ja (Ty×jf)}(h:qU c nb l gb D p g s cnt w1 e w')(k:Bq w w1):qU c nb l gb D p g s cnt w e w':=by
 obtain⟨n,g',s',aE,T,G,h1,h2,h3,h4,h5,h6⟩|⟨z,vl,vr,h1,h2,h3,h4⟩:=h
 .exact jx ⟨n,g',s',aE,T,G,h1,h2,h3,{h4 with nw:=λm hm=>(h4.nw m hm).imp id<|jy k.size,fr:=.refl _ _},(Fr.of k).trans h5,h6⟩
 .exact jv ⟨z,vl,vr,h1,h2,h3,(Fr.of k).trans h4⟩
def AJ.gno(aj:AJ w c nb l cnt g s)(en:b_ w gb G g s)(hb:w.heap.size<=b):¬jG c g gb b:=λq=>q.elim (aj.kE hb) λq=>by have:=en.lt;omega
def FE.up{nd:Nd}{v:Value}(h:FE nd c w nb l cnt g s gb G v)(k:Bq w w1):FE nd c w1 nb l cnt g s gb G v:=⟨h.aj.af k,h.en.af k,h.pp.af k,h.sc,h.fg,h.fa,h.fl,h.mf⟩
def FE.part{G1}(h:FE nd c w0 nb l cnt0 g0 s0 gb G v)(n:mF c nb l gb w0 g0 s0 p' w g s cnt q')(en:b_ w gb G1 g s)(hp:PP w0 (λb=>b<c.lo) x u)(hs:rf c.mks c.nl x)(hz:cnt+1000*nn x<=cnt0+1000*nn nd):FE x c w nb l cnt g s gb G1 u:=
 ⟨n.a,en,hp.move n.f.size (λb p q=>n.f.block b q λz=>z.elim (h.aj.YL p) λz=>by have:=h.fg;omega)<|λ_ p _=>p,hs,h.fg,by have:=h.fa;omega,h.fl,h.mf⟩
end
structure mi nd c nb l w0 cnt0 g0 s0(Γ:jf)dom v D(q:ja Ty)(P:World->f_->jc->Prop)s cnt g w:Prop where
 h:oY nd c w0 nb l cnt0 g0 s0 Γ dom v
 n:n8 c nb l w0 g0 s0 (jd c.mks nd Γ) w g s cnt q
 lv:∀w' g' s' k,AJ w' c nb l k g' s'->gi l c w g s w' g' s'->P w' g' s'
 cn:cnt+D<=cnt0+1000*nn nd
section
variable {cnt D2:Nat} {q2:ja Ty} {P P':World->f_->jc->Prop} {post:Ending->World->Prop}
def mi.start(h:oY nd c w0 nb l cnt0 g0 s0 Γ dom v)(e:jd c.mks nd Γ=q):mi nd c nb l w0 cnt0 g0 s0 Γ dom v (1000*nn nd) q (λ_ _ _=>True) s0 cnt0 g0 w0:=⟨h,⟨.refl h.aj,λo k=>e▸k⟩,λ_ _ _ _ _ _=>trivial,br _⟩
def mi.p(H:mi nd c nb l w0 cnt0 g0 s0 Γ dom v D q P s cnt g w):P w g s:=H.lv w g s _ H.n.n.a<|.refl H.n.n.a.js c l
def mi.hl(H:mi nd c nb l w0 cnt0 g0 s0 Γ dom v D q P s cnt g w):l<aL:=by have:=H.h.fb;rw[aL];omega
def mi.next(H:mi nd c nb l w0 cnt0 g0 s0 Γ dom v D q P s cnt g w)(a1:AJ w1 c nb l ak g1 s1)(t1:gi l c w g s w1 g1 s1)(hq:∀o,q2 s1 o->q s o)(hc:ak+D2<=cnt+D):mi nd c nb l w0 cnt0 g0 s0 Γ dom v D2 q2 P s1 ak g1 w1:=
 ⟨H.h,⟨H.n.n.next a1 t1,λo k=>H.n.p o<|hq o k⟩,λw' g' s' k a t=>H.lv w' g' s' k a<|gi.trans H.n.n.a.js a1.js a.js t1 t,qBw⟩
def mi.add(H:mi nd c nb l w0 cnt0 g0 s0 Γ dom v D q P s cnt g w)(h:∀w' g' s' k,AJ w' c nb l k g' s'->gi l c w g s w' g' s'->P' w' g' s'):mi nd c nb l w0 cnt0 g0 s0 Γ dom v D q (λw g s=>P w g s/\P' w g s) s cnt g w:=⟨H.h,H.n,λw g s k a t=>⟨H.lv w g s k a t,h w g s k a t⟩,H.cn⟩
def mi.rs(H:mi nd c nb l w0 cnt0 g0 s0 Γ dom v D q P s cnt g w)(r:np l g s m T):mi nd c nb l w0 cnt0 g0 s0 Γ dom v D q (λw g s=>P w g s/\np l g s m T) s cnt g w:=H.add λ_ _ _ _ _ t=>r.dX H.n.n.a.js t
def mi.af(H:mi nd c nb l w0 cnt0 g0 s0 Γ dom v D q P s cnt g w)(k:Bq w w1):mi nd c nb l w0 cnt0 g0 s0 Γ dom v D q P s cnt g w1:=H.next (H.n.n.a.af k) {gi.refl H.n.n.a.js c l with fr:=Fr.of k} (λ_ h=>h) (br _)
def mi.box{t}(H:mi nd c nb l w0 cnt0 g0 s0 Γ dom v D q P s cnt g w):mi nd c nb l w0 cnt0 g0 s0 Γ dom v D q (λw' g s=>P w' g s/\Bx w' w.heap.size C) s cnt g (w.alloc<|.cells C t):=
 (H.af<|bw _).add λ_ _ _ _ _ u=>(qj w C t).fr u.fr<|H.n.n.a.kE<|br _
def mi.no{m}{k:α->ja Ty}(H:mi nd c nb l w0 cnt0 g0 s0 Γ dom v D (jj m k) P s cnt g w)(b:vC c m g s w e w1):∃f a r,e=Oa f a r/\c_ c nb l (1000*nn nd) (jd c.mks nd Γ) g0 s0 cnt0 w0 e w1:=by
 have B:=H.n.bad b;obtain⟨z,vl,vr,rfl,-⟩:=b;exact⟨_,_,_,rfl,jv B⟩
def mi.ex{k}(H:mi nd c nb l w0 cnt0 g0 s0 Γ dom v D (jj (jd c.mks x Γ) k) P s cnt g w)(Hx:lV x)(hx:PE w0 (λb=>b<c.lo) x vx)(sx:ScE c.mks c.nl dom x)(ok:∀T m s' aE g' w',mi nd c nb l w0 cnt0 g0 s0 Γ dom v D2 (k T) (λw g s=>P w g s/\np l g s m T) s' aE g' w'->post (.returned<|nA m) w')(hD:D2+1000*nn x<=D)(hn:nn x<=nn nd)(bad:∀f a r w',c_ c nb l (1000*nn nd) (jd c.mks nd Γ) g0 s0 cnt0 w0 (Oa f a r) w'->post (Oa f a r) w':=by exact λ_ _ _ _ h=>⟨rfl,h⟩):Cq 309 #[nA c.eb,vx] w post:=by
 refine(Hx c w nb l cnt g s Γ dom vx<|H.h.part H.n.n hx sx qBw hn).mono ?_;rintro e w1(⟨m,g1,s1,ak,T,rfl,p1,a1,t1,c1,r1⟩|hb)
 .exact ok T m s1 ak g1 w1 ((H.next a1 t1 (λo h=>jv ⟨T,s1,p1,h⟩) ae).rs r1)
 .obtain⟨f,a,r,rfl,B⟩:=H.no hb;exact bad _ _ _ _ B
def mi.eq{k}{Y}(H:mi nd c nb l w0 cnt0 g0 s0 Γ dom v D (jj (In.sW X Y f t) k) P s cnt g w)(ra:np l g s a X)(rb:np l g s b Y)(ok:∀s' g' w',mi nd c nb l w0 cnt0 g0 s0 Γ dom v D (k ()) P s' cnt g' w'->post (.returned<|.tuple #[]) w')(bad:∀f a r w',c_ c nb l (1000*nn nd) (jd c.mks nd Γ) g0 s0 cnt0 w0 (Oa f a r) w'->post (Oa f a r) w':=by exact λ_ _ _ _ h=>⟨rfl,h⟩):Cq 312 #[nA a,nA b,.agg #[Nv f,Nv t]] w post:=by
 refine(Ju H.n.n.a H.hl ra rb f t).mono ?_;rintro e w1(⟨rfl,g1,s1,p1,a1,t1⟩|hb)
 .exact ok s1 g1 w1 (H.next a1 t1 (λo h=>jv ⟨(),s1,p1,h⟩)<|br _)
 .obtain⟨f,a,r,rfl,B⟩:=H.no hb;exact bad _ _ _ _ B
def mi.ret{X}{m}(H:mi nd c nb l w0 cnt0 g0 s0 Γ dom v D (jt X) P s cnt g w)(r:np l g s m X):c_ c nb l (1000*nn nd) (jd c.mks nd Γ) g0 s0 cnt0 w0 (.returned<|nA m) w:=H.n.ret r qBw
def mi.nde{D3 ak}(H:mi nd c nb l w0 cnt0 g0 s0 Γ dom v D q P s cnt g w)(a1:AJ w1 c nb l ak g1 s)(t1:gi l c w g s w1 g1 s)(hc:ak<=cnt+D3)(r:np l g1 s m X)(hD:D2+D3<=D):mi nd c nb l w0 cnt0 g0 s0 Γ dom v D2 q (λw g s=>P w g s/\np l g s m X) s ak g1 w1:=(H.next a1 t1 (λ_ h=>h) ae).rs r
end
section
variable {cnt:Nat} {y z:Nd} {vy vz:Value}
def adj(Hx:lV x)(Hy:lV y)(h:oY (.mk 8 st n [x,y] f t a) c w nb l cnt g s Γ dom v)(hx:PE w (λb=>b<c.lo) x vx)(hy:PE w (λb=>b<c.lo) y vy):
 Cq 321 #[nA c.eb,.agg #[Nv f,Nv t,vx,vy]] w (c_ c nb l (1000*nn (.mk 8 st n [x,y] f t a)) (jd c.mks (.mk 8 st n [x,y] f t a) Γ) g s cnt w):=by
 have en:nn (.mk 8 st n [x,y] f t a)=1+nn x+nn y:=QG;obtain⟨sx,sy⟩:ScE c.mks c.nl dom x/\ScE c.mks c.nl dom y:=by
  cases h.sc with
  |two _ _ _ _ _ _ _ _ _ _ hx hy=>exact⟨hx,hy⟩|lt _ _ _ _ _ _ _ _ _ _ hc=>omega
 have fa:=h.fa;rw[en]at fa;have H:=mi.start h<|Jf ..
 replace en:=ai en
 clear h;have HX:=ai hx;have HY:=ai hy;obtain⟨tx,ax,rfl⟩:=hx.iface;obtain⟨ty,ay,rfl⟩:=hy.iface;clear hx hy;go_enter func321,ntmps321;go_wp2_with fail;refine H.box.ex (D2:=1000*(1+nn y)) Hx HX sx ?_ uX uX;intro T1 n1 s1 ak g1 w1 H;have⟨⟨_,b1,b2,b3⟩,_⟩:=H.p;go_wp2_with fail;refine H.ex (D2:=1000) Hy HY sy ?_ ae uX;intro T2 n2 s2 cT g2 w2 H;have cn:=H.cn;go_wp2_with fail;refine(vD H.n.n.a (by rw[uh en]at cn;omega)).mono ?_;rintro e w3⟨n3,g3,rfl,p3,a3,t3,r3,-⟩;have H:=(H.next (D2:=999) a3 t3 (λo h=>Or.inr ⟨_,_,p3,h⟩) ae).rs r3;clear b1 b2 b3 a3 t3 r3;have⟨⟨⟨⟨_,b1,b2,b3⟩,_⟩,_⟩,_⟩:=H.p
 go_wp2
 go_region_with(first
  |(go_at_call 317;go_loud(refine(afn (H.n.n.a.af (j8 _ _).drew) H.p.1.2 H.p.2).mono ?_);rintro e w4⟨n4,g4,rfl,a4,t4,r4⟩;have H4:=ai<|(H.af (j8 _ _).drew).nde (D2:=999) (D3:=0) a4 t4 ae r4 ae;have⟨⟨⟨⟨⟨_,d1,d2,d3⟩,_⟩,_⟩,_⟩,_⟩:=H4.p;clear a4 t4 r4)
  |(go_at_call 312;go_loud(refine mi.eq (uh H4) H4.p.1.1.1.2 H4.p.2 ?_);intro s5 g5 w5 H5))
 all_goals
  go_wp2
  go_ret;exact H5.ret H5.p.1.2
def U0(Hx:lV x)(Hy:lV y)(Hz:lV z)(h:oY (.mk 12 st n [x,y,z] f t a) c w nb l cnt g s Γ dom v)(hx:PE w (λb=>b<c.lo) x vx)(hy:PE w (λb=>b<c.lo) y vy)(hz:PE w (λb=>b<c.lo) z vz):
 Cq 318 #[nA c.eb,.agg #[Nv f,Nv t,vx,vy,vz]] w (c_ c nb l (1000*nn (.mk 12 st n [x,y,z] f t a)) (jd c.mks (.mk 12 st n [x,y,z] f t a) Γ) g s cnt w):=by
 have en:nn (.mk 12 st n [x,y,z] f t a)=1+nn x+nn y+nn z:=QG;obtain⟨sx,sy,sz⟩:ScE c.mks c.nl dom x/\ScE c.mks c.nl dom y/\ScE c.mks c.nl dom z:=by
  cases h.sc with
  |ite _ _ _ _ _ _ _ _ _ hx hy hz=>exact⟨hx,hy,hz⟩
 have fa:=h.fa;rw[en]at fa;have H:=mi.start h<|QE ..
 replace en:=ai en
 clear h;have HX:=ai hx;have HY:=ai hy;have HZ:=ai hz;obtain⟨tx,ax,rfl⟩:=hx.iface;obtain⟨ty,ay,rfl⟩:=hy.iface;obtain⟨tz,az,rfl⟩:=hz.iface;have UR:=hx.place;have plz:=hz.place;dsimp only[PlF]at UR plz;clear hx hy hz;go_enter func318,ntmps318;go_wp2_with fail;have H:=H.box (C:=#[Nv f,Nv t,Fv tx<|Av ax,Fv ty<|Av ay,Fv tz<|Av az]) (t:=293);go_cut[]from 7 (λwc=>∃s1 ak g1,mi (.mk 12 st n [x,y,z] f t a) c nb l w cnt g s Γ dom v (1000*(nn y+nn z)+500) (In.andM (In.inf c.mks y Γ) λb=>In.andM (In.inf c.mks z Γ) λd=>In.andM (In.sW b d (In.kZ z)<|In.BT z) λ_=>In.cH b) (λw' _ _=>Bx w' w.heap.size #[Nv f,Nv t,Fv tx<|Av ax,Fv ty<|Av ay,Fv tz<|Av az]) s1 ak g1 wc)
 case first=>
  have⟨_,c1,c2,c3⟩:=H.p
  go_region_with(first
   |(go_at_call 309;go_loud(refine(H.af (j8 _ _).drew).ex (D2:=1000*(nn y+nn z)+1000) Hx HX sx ?_ uX uX);intro T1 n1 s1 ak g1 w1 H1;replace H1:=ai H1;have⟨⟨_,d1,d2,d3⟩,_⟩:=H1.p)
   |(go_at_call 88;refine(vd).mono ?_;rintro e w4⟨rfl,rfl⟩)
   |(go_at_call 307;go_loud(refine(agK H1.n.n.a qA (by have cn:=H1.cn;rw[uh en]at cn;omega)).mono ?_);rintro e w2⟨n2,g2,cT,rfl,a2,t2,hc2,r2⟩;have H2:=ai<|mi.nde (D2:=1000*(nn y+nn z)+500) (uh H1) a2 t2 hc2 r2 ae;have⟨⟨⟨_,e1,e2,e3⟩,_⟩,_⟩:=H2.p;clear a2 t2 r2)
   |(go_at_call 331;refine(dR _ _).mono ?_;rintro e w5⟨rfl,k5⟩;have H5:=ai<|mi.af (uh H2) k5;clear k5)
   |(go_at_call 312;go_loud(refine mi.eq (uh H5) H5.p.1.2 H5.p.2 ?_);intro s6 g6 w6 H6))
  all_goals
   go_wp2_with fail
   go_meet
   case rel=>exact⟨_,_,_,H6.h,H6.n,λw' g' s' k a t=>(H6.lv w' g' s' k a t).1.1.2,H6.cn⟩
 case rest=>
  clear H;obtain⟨s1,ak,g1,H⟩:=hcut;have⟨b1,b2,b3⟩:=H.p;go_wp2_with fail;refine H.ex (D2:=1000*nn z+500) Hy HY sy ?_ ae uX;intro T2 n2 s2 cT g2 w2 H;clear b1 b2 b3;have⟨⟨b1,b2,b3⟩,_⟩:=H.p;go_wp2_with fail;refine H.ex (D2:=500) Hz HZ sz ?_ ae uX;intro T3 n3 s3 vw g3 w3 H;clear b1 b2 b3;have⟨⟨⟨b1,b2,b3⟩,_⟩,_⟩:=H.p;go_wp2_with fail;refine(dR _ _).mono ?_;rintro e w4⟨rfl,k4⟩;have H:=H.af k4;go_wp2_with fail;refine H.eq H.p.1.2 H.p.2 ?_;intro s5 g5 w5 H
  go_wp2
  go_ret;exact H.ret H.p.1.2
end
end Go.Proofs.YtlnlhlefeokfjaaGreatDoor

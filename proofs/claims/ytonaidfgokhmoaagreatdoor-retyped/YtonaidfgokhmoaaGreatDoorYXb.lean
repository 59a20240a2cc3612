import Derived.Laws.AppendOwnNone
import Derived.Shelf.SlMaps.Clone
import Derived.Test.YtonaidfgokhmoaaGreatDoorYPf
import Derived.Test.YtonaidfgokhmoaaGreatDoorYWj
set_option linter.all false
set_option maxRecDepth 100000
set_option maxHeartbeats 8000000
namespace Go.Proofs.YtonaidfgokhmoaaGreatDoor
open Go renaming Calls->aa,World->ca,Value->ea,Ending->fa
open _root_.Option renaming some->ga,none->ha
open _root_.Bool renaming true->ia,false->ka
open Pu renaming bP->ja,Tok->jc,oI->jd,dw->jf,fD->jh,aK->ji,at_->jj,d_->jk,gL->jl,nE->jm,su->jo,a_->jp,Ts->jq,gH->jt,fJ->ju
open Go.Proofs.Tryz renaming prog->jv
open _root_.Nat renaming lt_of_lt_of_le->jx,le_trans->jy,zero_le->jz,succ_mul->j3,mul_le_mul_right->j5,le_succ->j6,le_of_lt->j7
open _root_.List renaming getD_eq_getElem?_getD->j8,getElem?_eq_getElem->j9,not_mem_nil->qe,mem_cons->qf,range->qg,map_cons->qh,getElem_cons_succ->qi,map_nil->qj
open Or renaming inr->qk,inl->ql
open Go.Value renaming string->qm,slice->qn,ownBlock->qp
open Go.ByteArray renaming toList_eq->qr
open aC renaming done->qs,fail->qt
open Go.World renaming ownsRow_nil->qu,cell?_of_block->qv
open Bool renaming and_eq_true->qw
open Go.RowKit.Below renaming heap_setCell->qx,refl->qy
open Un.Ty renaming var->qz
open Go Go.RowKit Proofs.Tryz
variable {ops:Array Oper} {C D:Array ea} {s:BA} {d:Dc} {r:Except Fl (Nd×Nat)} {o:Except In.Ft (Un.Ty×In.St)} {Γ:In.Env} {mk:In.Mks} {L:List (BA×ea)} {l:List Dc} {ms:List Nd} {rest:List Oper} {T:List jc} {xs:List ea} {part q sm F_:M Nd} {F N base cap e f fr i j k k' len n rb sb sort vc xb y:Nat} {P u:Nat->Prop} {a:Nd} {va:Option Addr} {t:jc} {α β γ:Type} {et:TypeId} {W w w' w0 w3:ca} {R:ca->(Nat->Prop)->Nd->ea->Prop}
section
open Go.ChangeMaps
def Bn(s:BA):=∃x r,s.toList=x::r/\jt x.toNat=ia
def acp s:=0<s.size/\s.size<=9/\∀i,i<s.size->jk (jj s i)=ia
structure adK(t:jc):Prop where
 sp:t.to=t.ah+t.text.size
 v1:t.kind=1->Bn t.text
 v4:t.kind=4->acp t.text
def pI{p}:∀(d i j:Nat),j-i=d->i<=j->j<ji s p i->p (jj s j)=ia:=by
 have x:∀i,i<ji s p i->i<s.size/\p (jj s i)=ia:=λi h=>by
  by_cases z:i<s.size
  .cases q:p (jj s i)with
   |true=>exact⟨z,rfl⟩|false=>rw[Pu.oM z q]at h;omega
  .rw[Pu.jI ae]at h;omega
 intro d
 induction d with
 |zero=>grind|succ d ih=>
  intro i j h1 h2 A;have z:i<ji s p i:=ae;have⟨B,E⟩:=x i z;rw[ju B E]at A;exact ih (i+1) j ae ae A
def ZR s i e j(he:e<=s.size)(hj:i+j<e):jj (s.extract i e) j=jj s (i+j):=by
 have x:j<(s.extract i e).size:=qBo;rw[jm x,jm ae];rw[ByteArray.getElem_extract]
def KS s i(A:i<s.size):adK (jf s i):=by
 have x:=jo s i A;revert x;rw[jf];have B:∀k b:Nat,i<b->b<=s.size->(jl s i k b).to=(jl s i k b).ah+(jl s i k b).text.size:=λk b h1 h2=>by
  show b=i+(s.extract i b).size;rw[ByteArray.size_extract];omega
 repeat' split
 all_goals intro x
 all_goals refine⟨B _ _ x.1 x.2,?_,?_⟩
 all_goals intro q
 all_goals try(exfalso;simp[jl]at q;done)
 .rename_i h1 _;exact⟨_,_,iY A x.1,by rw[<-jm A];exact h1⟩
 .rename_i h4 h5;have z:ji s jk (i+1)<=s.size:=x.2;have hlt:i<ji s jk (i+1):=x.1;have Bu:(s.extract i<|ji s jk<|i+1).size=ji s jk (i+1)-i:=qBo;refine⟨by show 0<(s.extract i _).size;omega,by show(s.extract i _).size<=9;omega,λj hj=>?_⟩;have hj':j<(s.extract i<|ji s jk<|i+1).size:=hj;show jk (jj (s.extract i _) j)=ia;rw[ZR s i _ j z ae]
  cases j with
  |zero=>exact h4|succ j=>exact pI j (i+1) (i+(j+1)) ae ae ae
def o7 s k(x:k<(ja s 0).length):adK (tk (ja s 0) k):=by
 rw[kR s k x];rw[aG];split
 .rename_i h;exact KS s _ h
 .exact⟨by simp[jh];rfl,qBr,qBr⟩
inductive PP(w:ca)(P:Nat->Prop):Nd->ea->Prop where
 |any(s:BA)(n f t a:Nat):PP w P (.mk 15 s n [] f t a) (.iface 259<|.agg #[Nv f,Nv t])
 |low(s:BA)(n f t a:Nat)(hs:Bn s):PP w P (.mk 1 s n [] f t a) (.iface 197<|.agg #[Nv f,Nv t,.string s])
 |num(s:BA)(n f t a:Nat):PP w P (.mk 3 s n [] f t a) (.iface 200<|.agg #[Nv f,Nv t,Nv n])
 |word(s:BA)(n f t a:Nat)(hs:s.toList=dJ.toList\/s.toList=cx.toList):PP w P (.mk 4 s n [] f t a) (.iface 203<|.agg #[Nv f,Nv t,.bool<|s.toList==[116,114,117,101]])
 |unit(s:BA)(n f t a:Nat):PP w P (.mk 5 s n [] f t a) (.iface 254<|.agg #[Nv f,Nv t])
 |pr(s:BA)(n:Nat)(x y:Nd)(f t a:Nat)(vx vy:ea)(hx:PP w P x vx)(hy:PP w P y vy):PP w P (.mk 6 s n [x,y] f t a) (.iface 264<|.agg #[Nv f,Nv t,vx,vy])
 |up(s:BA)(n:Nat)(L:List Nd)(f t a y:Nat)(sa:Option Addr)(sc:Nat)(vs:Nat->ea)(hu:p_ s)(hy:y=a+s.size)(bK:L=[]\/∃g,sa=ga ⟨g,0,ha⟩/\P g/\g<w.heap.size/\∀i,i<L.length->w.cell? ⟨g,i,ha⟩=ga (vs i))(hr:∀i(h:i<L.length),PP w P L[i]<|vs i):
  PP w P (.mk 2 s n L f t a) (.iface 262<|.agg #[Nv f,Nv t,Nv a,Nv y,.string s,.slice sa L.length sc])
inductive PE(w:ca)(P:Nat->Prop):Nd->ea->Prop where
 |low(s:BA)(n f t a:Nat)(hs:Bn s):PE w P (.mk 1 s n [] f t a) (.iface 197<|.agg #[Nv f,Nv t,.string s])
 |up(s:BA)(n f t a:Nat)(hs:p_ s):PE w P (.mk 2 s n [] f t a) (.iface 251<|.agg #[Nv f,Nv t,.string s])
 |num(s:BA)(n f t a:Nat):PE w P (.mk 3 s n [] f t a) (.iface 200<|.agg #[Nv f,Nv t,Nv n])
 |word(s:BA)(n f t a:Nat)(hs:s.toList=dJ.toList\/s.toList=cx.toList):PE w P (.mk 4 s n [] f t a) (.iface 203<|.agg #[Nv f,Nv t,.bool<|s.toList==[116,114,117,101]])
 |unit(s:BA)(n f t a:Nat):PE w P (.mk 5 s n [] f t a) (.iface 254<|.agg #[Nv f,Nv t])
 |pr(s:BA)(n:Nat)(x y:Nd)(f t a:Nat)(vx vy:ea)(hx:PE w P x vx)(hy:PE w P y vy):PE w P (.mk 6 s n [x,y] f t a) (.iface 256<|.agg #[Nv f,Nv t,vx,vy])
 |of(s:BA)(n:Nat)(x y:Nd)(f t a:Nat)(vx vy:ea)(hx:PE w P x vx)(hy:PT w P y vy):PE w P (.mk 14 s n [x,y] f t a) (.iface 258<|.agg #[Nv f,Nv t,vx,vy])
 |op(s:BA)(n:Nat)(x y:Nd)(f t a:Nat)(vx vy:ea)(hs:s=cY\/s=bM\/s=cD\/s=b8)(hx:PE w P x vx)(hy:PE w P y vy):PE w P (.mk 7 s n [x,y] f t a) (.iface 216<|.agg #[Nv f,Nv t,.string s,vx,vy])
 |call(s:BA)(n:Nat)(x y:Nd)(f t a:Nat)(vx vy:ea)(hx:PE w P x vx)(hy:PE w P y vy):PE w P (.mk 8 s n [x,y] f t a) (.iface 269<|.agg #[Nv f,Nv t,vx,vy])
 |fn(s:BA)(n:Nat)(x:Nd)(f t a y:Nat)(vx:ea)(hs:Bn s)(hy:y=a+s.size)(hx:PE w P x vx):PE w P (.mk 9 s n [x] f t a) (.iface 239<|.agg #[Nv f,Nv t,Nv a,Nv y,.string s,vx])
 |lt(c:Nat)(s:BA)(n:Nat)(x z:Nd)(f t a y:Nat)(vx vz:ea)(hc:c=10\/c=11)(hs:Bn s)(hy:y=a+s.size)(hx:PE w P x vx)(hz:PE w P z vz):PE w P (.mk c s n [x,z] f t a) (.iface 241<|.agg #[Nv f,Nv t,.bool<|c==11,Nv a,Nv y,.string s,vx,vz])
 |ite(s:BA)(n:Nat)(x y z:Nd)(f t a:Nat)(vx vy vz:ea)(hx:PE w P x vx)(hy:PE w P y vy)(hz:PE w P z vz):PE w P (.mk 12 s n [x,y,z] f t a) (.iface 243<|.agg #[Nv f,Nv t,vx,vy,vz])
 |mt(s:BA)(n:Nat)(x:Nd)(A:List (Nd×Nd))(f t a:Nat)(vx:ea)(g sc:Nat)(vp ve:Nat->ea)(h0:A≠[])(hg:P g)(hz:g<w.heap.size)(hc:∀i,i<A.length->(∃u v,w.cell? ⟨g,i*4,ha⟩=ga (Iv u)/\w.cell? ⟨g,i*4+1,ha⟩=ga (Iv v))/\w.cell? ⟨g,i*4+2,ha⟩=ga (vp i)/\w.cell? ⟨g,i*4+3,ha⟩=ga (ve i))(hx:PE w P x vx)(hp:∀i(h:i<A.length),PP w P A[i].1<|vp i)(he:∀i(h:i<A.length),PE w P A[i].2<|ve i):
  PE w P (.mk 13 s n (x::aN A) f t a) (.iface 250<|.agg #[Nv f,Nv t,vx,.slice (ga ⟨g,0,ha⟩) A.length sc])
section
variable {Q:Nat->Prop} {nd:Nd} {v:ea}
theorem PP.move(h:PP w P nd v)(G:w.heap.size<=w'.heap.size)(I:∀b,P b->b<w.heap.size->w'.heap[b]? =w.heap[b]?)(J:∀b,P b->b<w.heap.size->Q b):PP w' Q nd v:=by
 induction h with
 |any s n f t a=>exact .any s n f t a|low s n f t a h=>exact .low s n f t a h|num s n f t a=>exact .num s n f t a|word s n f t a h=>exact .word s n f t a h|unit s n f t a=>exact .unit s n f t a|pr s n x y f t a vx vy _ _ bu cW=>exact .pr s n x y f t a vx vy bu cW|up s n L f t a y sa sc vs hu hy bK hr ih=>
  refine .up s n L f t a y sa sc vs hu hy ?_ ih;obtain B|⟨g,E,A,z,hc⟩:=bK
  .exact ql B
  .refine qk ⟨g,E,J g A z,jx z G,λi hi=>?_⟩;rw[qv (a:=⟨g,i,ha⟩) (w:=w)<|I g A z];exact hc i hi
def PP.af(h:PP w P nd v)(x:Bq w w'):PP w' P nd v:=h.move x.size (λb _ hz=>x.block b hz)<|λ_ p _=>p
def PP.wide(h:PP w P nd v)(x:∀b,P b->Q b):PP w Q nd v:=h.move (br _) (λ_ _ _=>rfl)<|λb p _=>x b p
def PP.iface(h:PP w P nd v):∃t x,v=.iface t (.agg x):=by cases h<;>exact⟨_,_,rfl⟩
theorem PE.move(h:PE w P nd v)(B:w.heap.size<=w'.heap.size)(E:∀b,P b->b<w.heap.size->w'.heap[b]? =w.heap[b]?)(G:∀b,P b->b<w.heap.size->Q b):PE w' Q nd v:=by
 induction h with
 |low s n f t a h=>exact .low s n f t a h|up s n f t a h=>exact .up s n f t a h|num s n f t a=>exact .num s n f t a|word s n f t a h=>exact .word s n f t a h|unit s n f t a=>exact .unit s n f t a|pr s n x y f t a vx vy _ _ bu cW=>exact .pr s n x y f t a vx vy bu cW|of s n x y f t a vx vy _ hy bu=>exact .of s n x y f t a vx vy bu (hy.move B E G)|op s n x y f t a vx vy ho _ _ bu cW=>exact .op s n x y f t a vx vy ho bu cW|call s n x y f t a vx vy _ _ bu cW=>exact .call s n x y f t a vx vy bu cW|fn s n x f t a y vx h1 h2 _ ih=>exact .fn s n x f t a y vx h1 h2 ih|lt c s n x z f t a y vx vz h1 h2 h3 _ _ bu qA=>exact .lt c s n x z f t a y vx vz h1 h2 h3 bu qA|ite s n x y z f t a vx vy vz _ _ _ bu cW qA=>exact .ite s n x y z f t a vx vy vz bu cW qA|mt s n x A f t a vx g sc vp ve h0 hg hz hc _ hp _ bu ihe=>
  have c:∀j,w'.cell? ⟨g,j,ha⟩=w.cell? ⟨g,j,ha⟩:=λj=>qv (a:=⟨g,j,ha⟩)<|E g hg hz;refine .mt s n x A f t a vx g sc vp ve h0 (G g hg hz) (jx hz B) (λi hi=>?_) bu (λi hi=>(hp i hi).move B E G) ihe;rw[c,c,c,c];exact hc i hi
def PE.af(h:PE w P nd v)(x:Bq w w'):PE w' P nd v:=h.move x.size (λb _ hz=>x.block b hz)<|λ_ p _=>p
def PE.wide(h:PE w P nd v)(x:∀b,P b->Q b):PE w Q nd v:=h.move (br _) (λ_ _ _=>rfl)<|λb p _=>x b p
def PE.iface(h:PE w P nd v):∃t x,v=.iface t (.agg x):=by cases h<;>exact⟨_,_,rfl⟩
end
def fk s n:=∀(w:ca)(N rb sb:Nat)(m:MV)(k:Nat),SX w N rb sb m s k->(ja s 0).length<=k+n->
 aa jv 141 #[rp rb] w (aC PE N rb sb m s (bi (ja s 0) n k) w)
def Bo s n:=∀(w:ca)(N rb sb:Nat)(m:MV)(k:Nat),SX w N rb sb m s k->(ja s 0).length<=k+n->
 aa jv 147 #[rp rb] w (aC PP N rb sb m s (dG (ja s 0) n k) w)
def pX w rb(ms:List (Nat×List (BA×ea)))(bs:List (Nat×Array ea)):=
 (∀p∈ms,p.1≠rb/\MS qm w p.1 p.2)/\∀q∈bs,q.1≠rb/\Bx w q.1 q.2
section
variable {ms:List (Nat×List (BA×ea))} {bs:List (Nat×Array ea)}
def pX.ke(h:pX w rb ms bs)(x:Ke rb w w'):pX w' rb ms bs:=
 ⟨λp q=>⟨(h.1 p q).1,(h.1 p q).2.same<|x.block _ (h.1 p q).2.lt (h.1 p q).1⟩,λp q=>⟨(h.2 p q).1,(h.2 p q).2.ke x (h.2 p q).1⟩⟩
def pX.m(h:pX w rb ms bs){b}(hn:rb<b)(hm:MS qm w b L):pX w rb ((b,L)::ms) bs:=by grind[pX,bs,MS]
def pX.b(h:pX w rb ms bs){b}(hn:rb<b)(hm:Bx w b C):pX w rb ms ((b,C)::bs):=by grind[pX,bs]
def pX.map(h:pX w rb ms bs){b}(x:(b,L)∈ms):oE w w.heap.size rb (Mv b) L:=⟨b,rfl,(h.1 _ x).2.lt,(h.1 _ x).1,(h.1 _ x).2⟩
def pX.box(h:pX w rb ms bs){b}(x:(b,C)∈bs):gM w w.heap.size rb b C:=⟨(h.2 _ x).2.z,(h.2 _ x).1,(h.2 _ x).2⟩
end
def ahE s w e w':=
 Bq w w'/\(((aG s 0).kind≠6/\e=.returned (rp w.heap.size)/\∃N sb m,Bx w' w.heap.size (rdC s (aG s 0) 0 m sb)/\Env w' N w.heap.size sb m)\/((aG s 0).kind=6/\e=bX (eA<|aG s 0)))
abbrev rdM(s:BA)(l:List ea):Array ea:=(.string s::Iv 0::Iv 0::.string ⟨#[]⟩::.string ⟨#[]⟩::Iv 0::l).toArray
structure UM(w:ca)(ms:List (Nat×List (BA×ea)))(bs:List (Nat×Array ea))(C:Array ea)(W:ca):Prop where
 h:pX W w.heap.size ms bs
 k:Bq w W
 b:Bx W w.heap.size C
section
variable {W' W0:ca} {ms ms0:List (Nat×List (BA×ea))} {bs bs0:List (Nat×Array ea)} {C0:Array ea} {b:Nat}
def UM.af(H:UM w ms bs C W)(x:Bq W W'):UM w ms bs C W':=⟨H.h.ke<|Ke.of x,H.k.trans<|x.mono H.k.size,H.b.below x⟩
def UM.m(H:UM w ms bs C W)(x:Bq W W')(A:W.heap.size<=b){L:List (BA×ea)}(B:MS qm W' b L):UM w ((b,L)::ms) bs C W':=⟨(H.af x).h.m (jx H.b.z A) B,(H.af x).k,(H.af x).b⟩
def UM.x(H:UM w ms bs C W)(z:w.heap.size<W0.heap.size)(A:W0.heap.size<=b)(B:Bx W b C0):UM w ms ((b,C0)::bs) C W:=⟨H.h.b (jx z A) B,H.k,H.b⟩
def UM.set{l:List ea}(H:UM w ms bs (rdM s l) W)(i:Nat)(v:ea)(hi:i<l.length:=by simp):UM w ms bs (rdM s<|l.set i v) (W.setCell ⟨w.heap.size,i+6,ha⟩ v):=⟨H.h.ke<|Ke.yO _ _ _ _,H.k.setCell (br _) _,H.b.aW (i+6) v _ (by simp[rdM]) (by simp[rdM];omega)⟩
end
def Fq rb:aa jv 56 #[rp rb] w λe w'=>∃b,e=.returned (Mv b)/\w.heap.size<=b/\MS qm w' b (smL rb)/\Bq w w':=Ba _
def Hr(h:Laid w)s(hs:s.size<=1000):aa jv 37 #[.string s] w (ahE s w):=by
 have H:UM w [] [] (rdM s [.map ha,.map ha,.map ha,.map ha,.map ha,.map ha,.map ha,.map ha]) (w.alloc<|Cv (zRd s) 128):=⟨⟨nofun,nofun⟩,bw _,Bx.new w (zRd s) 128⟩;have HL:=ai h;have E:∀W,Laid W->aa Tryz.prog 60 #[Sv s,Iv 0] W (eQ (aG s 0) W):=λW hW=>G' hW s 0 (Nat.zero_le _) hs;have S:∀W:ca,Bq w W->Laid W:=λW h=>HL.af h;have hz:=HL.hz;unfold ahE;generalize aG s 0=T at E⊢;go_in;go_wp;refine(Xa w.heap.size).1.mono ?_;rintro e w0⟨Z,rfl,l0,I,G⟩
 replace H:=H.m G l0 I
 have⟨c,f,z⟩:=H.b;go_wp2_with fail
 replace H:=H.set 0<|Mv Z
 refine(Xa w.heap.size).2.mono ?_;rintro e w1⟨b1,rfl,l1,I,G⟩
 replace H:=H.m G l1 I
 have⟨c,f,z⟩:=H.b;go_wp2_with fail
 replace H:=H.set 1<|Mv b1
 refine(Xb w.heap.size).1.mono ?_;rintro e w2⟨b2,x2,rfl,l2,J,K,I,G⟩
 replace H:=(H.m G l2 I).x H.b.z J K
 have⟨c,f,z⟩:=H.b;go_wp2_with fail
 replace H:=H.set 2<|Mv b2
 refine(Xb w.heap.size).2.mono ?_;rintro e w3⟨b3,x3,rfl,l3,J,K,I,G⟩
 replace H:=(H.m G l3 I).x H.b.z J K
 have⟨c,f,z⟩:=H.b;go_wp2_with fail
 replace H:=H.set 3<|Mv b3
 refine(Fq w.heap.size).mono ?_;rintro e w4⟨Y,rfl,l4,I,G⟩
 replace H:=H.m G l4 I
 have⟨c,f,z⟩:=H.b;go_wp2_with fail
 replace H:=H.set 4<|Mv Y
 refine(Xc w.heap.size).1.mono ?_;rintro e w5⟨b5,x5,y5,rfl,l5,K,U,J,V,I,G⟩
 replace H:=((H.m G l5 I).x H.b.z J K).x H.b.z V U
 have⟨c,f,z⟩:=H.b;go_wp2_with fail
 replace H:=H.set 5<|Mv b5
 refine(Mn w.heap.size).mono ?_;rintro e w6⟨b6,x6,y6,u6,v6,rfl,l6,K,U,J,V,hu,hv,lu,lv,I,G⟩
 replace H:=((((H.m G l6 I).x H.b.z J K).x H.b.z V U).x H.b.z lu hu).x H.b.z lv hv
 have⟨c,f,z⟩:=H.b;go_wp2_with fail
 replace H:=H.set 6<|Mv b6
 refine(Xc w.heap.size).2.mono ?_;rintro e w7⟨b7,x7,y7,rfl,l7,K,U,J,V,I,G⟩
 replace H:=((H.m G l7 I).x H.b.z J K).x H.b.z V U
 have⟨c,f,z⟩:=H.b;go_wp2_with fail
 replace H:=H.set 7<|Mv b7
 refine(E _<|S _ H.k).mono ?_;intro e w9 hp;by_cases X:T.kind=6
 .obtain⟨rfl,G⟩:=hp.bad X;exact⟨rfl,(H.af G).k,qk ⟨X,by rw[ado T X];rfl⟩⟩
 .obtain⟨rfl,G⟩:=hp.ok X
  replace H:=H.af G
  have B:Hid (Bx w9 w.heap.size<|rdM s [Mv Z,Mv b1,Mv b2,Mv b3,Mv Y,Mv b5,Mv b6,Mv b7]):=ai H.b;have⟨c,f,z⟩:=uh B
  go_wp2
  go_ret;have O:=(((H.k.setCell (p:=⟨w.heap.size,1,ha⟩) (br _)<|Nv T.ah).setCell (p:=⟨w.heap.size,2,ha⟩) (br _)<|Nv T.to).setCell (p:=⟨w.heap.size,3,ha⟩) (br _)<|Sv<|aq T).setCell (p:=⟨w.heap.size,4,ha⟩) (br _)<|Sv T.text;have A:=((((H.h.ke<|Ke.yO _ _ 1<|Nv T.ah).ke<|Ke.yO _ _ 2<|Nv T.to).ke<|Ke.yO _ _ 3<|Sv<|aq T).ke<|Ke.yO _ _ 4<|Sv T.text);have B2:=Bx.WU (uh B) (Nv T.ah) (Nv T.to) (Sv<|aq T)<|Sv T.text;generalize(((w9.setCell ⟨w.heap.size,1,ha⟩<|Nv T.ah).setCell ⟨w.heap.size,2,ha⟩<|Nv T.to).setCell ⟨w.heap.size,3,ha⟩<|Sv<|aq T).setCell ⟨w.heap.size,4,ha⟩ (Sv T.text)=W at O A B2⊢;have a0:=A.map (b:=Y) (L:=smL w.heap.size) (by repeat constructor);obtain⟨_,q1,q2,q3,q4⟩:=a0
  cases q1
  refine⟨O,ql ⟨X,rfl,W.heap.size,Y,⟨Mv Z,Mv b1,Mv b2,Mv b3,Mv b5,Mv b6,Mv b7⟩,B2,q4,S _ O,hz,B2.z,q2,q3,br _,?_⟩⟩;exact⟨A.map<|by repeat constructor,A.map<|by repeat constructor,⟨x2,A.box<|by repeat constructor,A.map<|by repeat constructor⟩,⟨x3,A.box<|by repeat constructor,A.map<|by repeat constructor⟩,⟨x5,y5,A.box<|by repeat constructor,A.box<|by repeat constructor,A.map<|by repeat constructor⟩,⟨x6,y6,u6,v6,A.box<|by repeat constructor,A.box<|by repeat constructor,A.box<|by repeat constructor,A.box<|by repeat constructor,A.map<|by repeat constructor⟩,⟨x7,y7,A.box<|by repeat constructor,A.box<|by repeat constructor,A.map<|by repeat constructor⟩⟩
end
def KT w e s:Bq w (Lib.bytesWorld w e s):=by
 refine⟨?_,?_,?_,by rw[Lib.bytesWorld_size];omega,λb hb=>Lib.bytesWorld_at_old w e s b hb⟩;all_goals(simp[Lib.bytesWorld,World.freeze];try rfl)
def acq s(h:acp s):aa jv 165 #[.string s] w λe w'=>e=.returned (.tuple #[Nv<|rj s,.nilIface])/\Bq w w':=by
 obtain⟨E,h9,G⟩:=h;have A:=Lib.run_convert_string_bytes (P:=Tryz.prog) w 9 78 5 s Tryz.underlying9 Tryz.underlying78 Tryz.underlying5;have I:=KT w 5 s;have x:=λj hj=>Lib.bytesWorld_cell w 5 s j hj;have l0:(0:Int)<(s.size:Int):=ae;have l1:(s.size:Int)<19:=ae;have J:=G 0 E;rw[Pu.nE E]at J;simp only[Pu.d_,Bool.and_eq_true,Nat.ble_eq]at J;have e1:((s[0].toNat:Int)==45)=ka:=bQ;have e2:((s[0].toNat:Int)==43)=ka:=bQ;generalize Lib.bytesWorld w 5 s=W at A I x;generalize grownCap w s.size 0 5=C at A;go_wp2
 go_loop[6,49] (λn i=>∃k:Nat,k<=s.size/\i=Nv k/\n=Nv (nT s k)) (λ_ i=>s.size-(intOf i).toNat)
 case atStart=>exact⟨0,ae,rfl,rfl⟩
 case round=>
  obtain⟨k,h1,rfl,rfl⟩:=hrel;have hn:=abA s k ae;by_cases z:k<s.size
  .have hc:=x k z;have K:=G k z;have O:s.data.toList.getD k 0=s[k]:=by
    rw[j8,j9<|by simpa using z];rfl
   rw[O]at hc;rw[jm z]at K;simp only[jk,qw,Nat.ble_eq]at K;have B:=kK z;clear x
   go_wp2
   refine⟨⟨k+1,ae,iF,congrArg (Value.int .i64) ?_⟩,by simp[intOf];omega⟩;simp only[nT,jm z];omega
  .have B:=nN z;clear x
   go_wp2
   go_ret2;have O:k=s.size:=ae;refine⟨?_,I⟩;show Rv (.tuple #[Nv<|nT s k,Zv])=_;rw[rj];rw[show min s.size 9=k by omega]
def afL w:(binOp .neq 180 .nilIface .nilIface).run jv w=.ok (.bool ka) w:=qkr
def afM s(h:acp s):aa jv 144 #[.string s] w λe w'=>e=.returned (.tuple #[Nv<|rj s,.nilIface])/\Bq w w':=by
 have x:=acq (w:=w) s h;have hn:=afL;go_in;go_wp;refine x.mono ?_;rintro e w1⟨rfl,z⟩
 go_wp2
 go_ret2;exact⟨rfl,z⟩
section
open Go.ChangeMaps
section
variable {m:MV}
def SX.set(h:SX w N rb sb m s k){b:Nat}(hb:N<=b)j v:SX (w.setCell ⟨b,j,ha⟩ v) N rb sb m s k:=
 h.move BL λc hc=>qx _ _ _ _ (by show c≠b;omega)
def SX.Ti(h:SX w N rb sb m s k){b:Nat}(x:N<=b)v0 v1 v2:SX (((w.setCell ⟨b,0,ha⟩ v0).setCell ⟨b,1,ha⟩ v1).setCell ⟨b,2,ha⟩ v2) N rb sb m s k:=((h.set x 0 v0).set x 1 v1).set x 2 v2
def ZS(h:SX w N rb sb m s k)(A:s.size<=1000)(B:(tk (ja s 0) k).kind≠7):aa jv 62 #[rp rb] w (aC (Is<|tkA<|tk (ja s 0) k) N rb sb m s (.ok ((),k+1)) w):=
 (yP h.rd A<|sB s k h.lt).mono λe w' hp=>by
  have z:cA rb sb m s (tk (ja s 0) k) (dM<|tk (ja s 0) k) w e w':=hp;exact z.x (R:=Is<|tkA<|tk (ja s 0) k) h B rfl
def UN(h:SX w N rb sb m s k)(B:s.size<=1000)(E:(tk (ja s 0) k).kind=4):aa jv 38 #[rp rb,.string Ml] w (aC (Is<|tkA<|tk (ja s 0) k) N rb sb m s (.ok ((),k+1)) w):=by
 have A:=W9 (eY s k h.lt) h.ok;rw[E]at A;refine(jV h.rd B (sB s k h.lt) Ml<|by simpa using A).mono λe w' hp=>?_;have z:cA rb sb m s (tk (ja s 0) k) (dM<|tk (ja s 0) k) w e w':=hp;exact z.x (R:=Is<|tkA<|tk (ja s 0) k) h ae rfl
def tj{k}(h:(tk T k).kind=n):dk T n k=.ok (tk T k,k+1):=by grind[tk,dk]
def tn{k}c(h:aQ (tk T k)=c):bD (tk T k)=.mk c (tk T k).text (cO<|tk T k) [] (tk T k).ah (tk T k).to (tk T k).ah:=by rw[bD];rw[h]
def RU{p:Prop}(h:p:=by
 obtain⟨rfl,hb⟩:=hp.bad hA
 exact⟨rfl,qt ((Ke.of b0).trans hb) hA⟩):p:=h
def UO(h:SX w N rb sb m s k)(U:s.size<=1000):aa jv 88 #[rp rb] w (aC Mm N rb sb m s (dk (ja s 0) 1 k) w):=by
 have hz:=h.z;have B:=h.ev.hN;have⟨b0,E⟩:=rF w zNm 197;have G:=uk (h.af b0) U 1 D6<|Or.inl ⟨rfl,rfl⟩;go_in;go_wp;refine G.mono ?_;intro e w1 hp
 cases hA:fin (ja s 0) (dk (ja s 0) 1 k)with
 |error f=>
  exact RU
 |ok r=>
 obtain⟨t,k1⟩:=r;obtain⟨v,rfl,hb,I,J⟩:=hp.ok hA
 cases J
 have A:=ai<|(E.Ha hb ae).alloc<|Cv #[Nv t.ah,Nv t.to,Sv t.text] 92;have K:=((Ke.of b0).trans hb).gd<|bw<|Cv #[Nv t.ah,Nv t.to,Sv t.text] 92;have O:=I.af<|bw<|Cv #[Nv t.ah,Nv t.to,Sv t.text] 92;have x:=hb.size;simp at x;have⟨c,f,z⟩:=uh A;go_wp2_with fail;have⟨S,fF,zF⟩:=A.l_ rfl (Nv t.ah) (Nv t.to) (Sv t.text);exact bodyPost_ret (v:=nmA t) (by simp[results,Tryz.results88,go_sem,S]) rfl (qs (ug hA).1 (K.sA (br _) _ _ _) (O.Ti B _ _ _) rfl)
def tq{p:Prop}(h:p:=by
 obtain⟨rfl,hb⟩:=hp.bad<|dn _ h6
 exact⟨rfl,qt hb<|dn _ h6⟩):p:=h
def adL(h:SX w N rb sb m s k)(O:s.size<=1000)(x:(tk (ja s 0) k).kind=2):(aa jv 89 #[rp rb] w<|aC PE N rb sb m s (.ok (bD<|tk (ja s 0) k,k+1)) w)/\
 aa jv 98 #[rp rb] w (aC PP N rb sb m s (.ok (bD<|tk (ja s 0) k,k+1)) w):=by
 have z:=o7 s k h.lt;have A:=eY s k h.lt;have B:=uk h O 2 G_<|qk ⟨rfl,rfl⟩;have Vr:=gV;refine⟨?_,?_⟩;all_goals
  go_in
  go_wp;refine B.mono ?_;intro e w1 hp;have E:=tj x;rw[E]at hp;by_cases h6:(tk (ja s 0)<|k+1).kind=6
  .exact tq
  obtain⟨v,rfl,hb,G,I⟩:=hp.ok<|kS _ h6
  cases I
  have J:=hb.gd<|bw<|Cv #[Nv (tk (ja s 0) k).ah,Nv (tk (ja s 0) k).to,Sv (tk (ja s 0) k).text] 92;have K:=G.af<|bw<|Cv #[Nv (tk (ja s 0) k).ah,Nv (tk (ja s 0) k).to,Sv (tk (ja s 0) k).text] 92
  go_wp2
  go_ret;refine qs rfl J K ?_;rw[tn 2 (by rw[aQ];simp[x])];first|exact .up _ _ _ _ _ (A.v2 x)|exact .up _ _ [] _ _ _ _ ha 0 (λ_=>Zv) (A.v2 x) z.sp (ql rfl) (λi z=>by simp at z)
def NR(h:SX w N rb sb m s k)(I:s.size<=1000)(x:aT (tk (ja s 0) k) pR=ia):aa jv 96 #[rp rb] w (aC PP N rb sb m s (.ok (bD<|tk (ja s 0) k,k+1)) w):=by
 have hi:=o7 s k h.lt;have ho:=eY s k h.lt;have z:=W_ h I pR aD;have Vr:=gV;go_in;go_wp;refine z.mono ?_;intro e w1 hp;have A:bt (Pu.bP s 0) pR k=.ok ((),k+1):=by rw[bt];rw[if_pos x]
 rw[A]at hp;by_cases h6:(tk (ja s 0)<|k+1).kind=6
 .exact tq
 obtain⟨v,rfl,B,E,G⟩:=hp.ok<|kS _ h6
 cases G
 go_wp2
 go_ret;refine qs rfl B E ?_;have h5:=oP x;rw[tn 15 (by rw[aQ];rw[if_neg ae,if_neg ae,if_neg ae,if_neg ae,if_neg (by rw[Il,Cy];rw[PC]at x;simp at x;simp[x.2]),if_pos x])];exact .any _ _ _ _ _
def RW{p:Prop}(h:p:=by
 obtain⟨rfl,hb⟩:=hp.bad<|dn _ h6
 exact⟨rfl,qt ((Ke.of b0).trans hb)<|dn _ h6⟩):p:=h
def acr(h:SX w N rb sb m s k)(V:s.size<=1000)(x:aT (tk (ja s 0) k) dJ=ia\/aT (tk (ja s 0) k) cx=ia):aa jv 93 #[rp rb] w (aC (Is<|.agg #[Nv (tk (ja s 0) k).ah,Nv (tk (ja s 0) k).to,.bool<|(aq<|tk (ja s 0) k).toList==[116,114,117,101]]) N rb sb m s (.ok ((),k+1)) w):=by
 have hz:=h.z;have E:=h.ev.hN;have hi:=o7 s k h.lt;have⟨b0,G⟩:=rF w #[Iv 0,Iv 0,.bool ka] 203;have I:=ZS (h.af b0) V (by obtain x|x:=x<;>exact Hk x);go_in;go_wp;refine I.mono ?_;intro e w1 hp;by_cases h6:(tk (Pu.bP s 0)<|k+1).kind=6
 .exact RW
 obtain⟨v,rfl,hb,J,K⟩:=hp.ok<|kS _ h6
 cases K
 have B:=ai<|(G.Ha hb ae).alloc<|Cv #[Nv (tk (ja s 0) k).ah,Nv (tk (ja s 0) k).to,Sv<|aq<|tk (ja s 0) k,Sv (tk (ja s 0) k).text] 119;have O:=((Ke.of b0).trans hb).gd<|bw<|Cv #[Nv (tk (ja s 0) k).ah,Nv (tk (ja s 0) k).to,Sv<|aq<|tk (ja s 0) k,Sv (tk (ja s 0) k).text] 119;have S:=J.af<|bw<|Cv #[Nv (tk (ja s 0) k).ah,Nv (tk (ja s 0) k).to,Sv<|aq<|tk (ja s 0) k,Sv (tk (ja s 0) k).text] 119;have A:=hb.size;simp at A;have⟨c,f,z⟩:=uh B;go_wp2_with fail;have⟨U,fF,zF⟩:=B.l_ rfl (Nv (tk (ja s 0) k).ah) (Nv (tk (ja s 0) k).to) (.bool<|(aq<|tk (ja s 0) k).toList==[116,114,117,101]);exact bodyPost_ret (v:=Av #[Nv (tk (ja s 0) k).ah,Nv (tk (ja s 0) k).to,.bool<|(aq<|tk (ja s 0) k).toList==[116,114,117,101]]) (by simp[results,Tryz.results93,go_sem,U]) rfl (qs rfl (O.sA (br _) _ _ _) (S.Ti E _ _ _) rfl)
def ZT(h:SX w N rb sb m s k)(hs:s.size<=1000)(I:(tk (ja s 0) k).kind=4):aa jv 91 #[rp rb] w (aC (Is<|.agg #[Nv (tk (ja s 0) k).ah,Nv (tk (ja s 0) k).to,Nv<|rj (tk (ja s 0) k).text]) N rb sb m s (.ok ((),k+1)) w):=by
 have hz:=h.z;have J:=h.ev.hN;have K:=o7 s k h.lt;have⟨b0,O⟩:=rF w #[Iv 0,Iv 0,Iv 0] 200;have S:=UN (h.af b0) hs I;go_in;go_wp;refine S.mono ?_;intro e U hp;by_cases h6:(tk (Pu.bP s 0)<|k+1).kind=6
 .exact RW
 obtain⟨v,rfl,hb,V,X⟩:=hp.ok<|kS _ h6
 cases X
 have x:=ai<|(O.Ha hb ae).alloc<|Cv #[Nv (tk (ja s 0) k).ah,Nv (tk (ja s 0) k).to,Sv<|aq<|tk (ja s 0) k,Sv (tk (ja s 0) k).text] 119;have A:=ai<|Bx.new U #[Nv (tk (ja s 0) k).ah,Nv (tk (ja s 0) k).to,Sv<|aq<|tk (ja s 0) k,Sv (tk (ja s 0) k).text] 119;have B:=((Ke.of b0).trans hb).gd<|bw<|Cv #[Nv (tk (ja s 0) k).ah,Nv (tk (ja s 0) k).to,Sv<|aq<|tk (ja s 0) k,Sv (tk (ja s 0) k).text] 119;have E:=V.af<|bw<|Cv #[Nv (tk (ja s 0) k).ah,Nv (tk (ja s 0) k).to,Sv<|aq<|tk (ja s 0) k,Sv (tk (ja s 0) k).text] 119;have G:=hb.size;simp at G;have⟨c,f,z⟩:=uh x;have⟨Y,Z,z2⟩:=uh A;go_wp2_with fail;refine(afM _<|K.v4 I).mono ?_;rintro e w2⟨rfl,hb⟩;have x:=ai<|x.below hb;have A:=ai<|A.below hb;have B:=B.gd hb;have E:=E.af hb;have⟨c,f,z⟩:=uh x;have⟨Y,Z,z2⟩:=uh A;go_wp2_with fail;have⟨cF,fF,zF⟩:=x.l_ rfl (Nv (tk (ja s 0) k).ah) (Nv (tk (ja s 0) k).to) (Nv<|rj (tk (ja s 0) k).text);exact bodyPost_ret (v:=Av #[Nv (tk (ja s 0) k).ah,Nv (tk (ja s 0) k).to,Nv<|rj (tk (ja s 0) k).text]) (by simp[results,Tryz.results91,go_sem,cF]) rfl (qs rfl (B.sA (br _) _ _ _) (E.Ti J _ _ _) rfl)
end
section
variable {m:MV}
def Fu(h:aT t dJ=ia\/aT t cx=ia):aQ t=4:=by
 have h5:t.kind=5:=by obtain h|h:=h<;>exact oP h
 rw[aQ];rw[if_neg ae,if_neg ae,if_neg ae,if_neg ae,if_pos h]
def acs(h:aT t dJ=ia\/aT t cx=ia):t.text.toList=dJ.toList\/t.text.toList=cx.toList:=by
 obtain h|h:=h
 .left;rw[aT]at h;simp only[qw,beq_iff_eq]at h;exact h.2
 .right;rw[aT]at h;simp only[qw,beq_iff_eq]at h;exact h.2
def ZU(h:SX w N rb sb m s k)(J:s.size<=1000)(z:(tk (ja s 0) k).kind=1)x(K:Bx w x #[rp rb]):
 aa jv 87 #[Pv x] w (aC PE N rb sb m s (.ok (bD<|tk (ja s 0) k,k+1)) w)/\
 aa jv 97 #[Pv x] w (aC PP N rb sb m s (.ok (bD<|tk (ja s 0) k,k+1)) w):=by
 have A:=o7 s k h.lt;have B:=UO h J;obtain⟨c0,f0,z0⟩:=K;refine⟨?_,?_⟩;all_goals
  go_in
  go_wp;refine B.mono ?_;intro e w1 hp;rw[tj z]at hp;by_cases h6:(tk (ja s 0)<|k+1).kind=6
  .exact tq
  obtain⟨v,rfl,E,G,I⟩:=hp.ok<|kS _ h6
  cases I
  go_wp2
  go_ret;refine qs rfl E G ?_;rw[tn 1 (by rw[aQ];simp[z])];exact .low _ _ _ _ _<|A.v1 z
def ZV(h:SX w N rb sb m s k)(I:s.size<=1000)(z:(tk (ja s 0) k).kind=4)x(J:Bx w x #[rp rb]):
 aa jv 90 #[Pv x] w (aC PE N rb sb m s (.ok (bD<|tk (ja s 0) k,k+1)) w)/\
 aa jv 99 #[Pv x] w (aC PP N rb sb m s (.ok (bD<|tk (ja s 0) k,k+1)) w):=by
 have hi:=o7 s k h.lt;have A:=ZT h I z;obtain⟨c0,f0,z0⟩:=J;refine⟨?_,?_⟩;all_goals
  go_in
  go_wp;refine A.mono ?_;intro e w1 hp;by_cases h6:(tk (ja s 0)<|k+1).kind=6
  .exact tq
  obtain⟨v,rfl,B,E,G⟩:=hp.ok<|kS _ h6
  cases G
  go_wp2
  go_ret;refine qs rfl B E ?_;rw[tn 3 (by rw[aQ];simp[z]),show cO (tk (ja s 0) k)=rj (tk (ja s 0) k).text by rw[cO];simp[z]];exact .num _ _ _ _ _
def yg(h:SX w N rb sb m s k)(I:s.size<=1000)(z:aT (tk (ja s 0) k) dJ=ia\/aT (tk (ja s 0) k) cx=ia)x(J:Bx w x #[rp rb]):
 aa jv 92 #[Pv x] w (aC PE N rb sb m s (.ok (bD<|tk (ja s 0) k,k+1)) w)/\
 aa jv 94 #[Pv x] w (aC PE N rb sb m s (.ok (bD<|tk (ja s 0) k,k+1)) w)/\
 aa jv 100 #[Pv x] w (aC PP N rb sb m s (.ok (bD<|tk (ja s 0) k,k+1)) w)/\
 aa jv 101 #[Pv x] w (aC PP N rb sb m s (.ok (bD<|tk (ja s 0) k,k+1)) w):=by
 have hi:=o7 s k h.lt;have A:=acr h I z;obtain⟨c0,f0,z0⟩:=J;refine⟨?_,?_,?_,?_⟩;all_goals
  go_in
  go_wp;refine A.mono ?_;intro e w1 hp;by_cases h6:(tk (ja s 0)<|k+1).kind=6
  .exact tq
  obtain⟨v,rfl,B,E,G⟩:=hp.ok<|kS _ h6
  cases G
  go_wp2
  go_ret;refine qs rfl B E ?_;rw[tn 4<|Fu z,pB (by obtain z|z:=z<;>exact oP z)];exact .word _ _ _ _ _<|acs z
end
def acu(h:dk (ja s 0) 1 k=.ok (t,k'))(x:k<(ja s 0).length):Bn t.text/\t.to=t.ah+t.text.size:=by
 rw[dk]at h;split at h
 .rename_i hq
  cases h
  have:=o7 s k x;exact⟨this.v1<|by simpa using hq,this.sp⟩
 .cases h
def stl{p:Prop}(h:p:=by intros;repeat' (first|exact Hl _|exact qV _ _|exact mX _|exact pC _|exact qX _ _ (by decide)|exact Tl _|exact NS _|exact Ci _ _|exact NT hT0 _|exact Fw hT0|exact NU _ _ _|exact LS|exact λq h=>vN _ _ _ _ q h|exact λq h=>oG _ _ _ _ q h|exact λq h=>qY _ _ _ _ q h|exact vM _ _ _ _ _|exact oF (pC _) _ _|exact oF (Ci _ _) _ _|exact oF (mX _) _ _|refine fK ?_ λ_=>?_)):p:=h
def Mov{α:Type}(R:ca->(Nat->Prop)->α->ea->Prop):=∀w w' P Q a v,R w P a v->w.heap.size<=w'.heap.size->(∀b,P b->b<w.heap.size->w'.heap[b]? =w.heap[b]?)->(∀b,P b->b<w.heap.size->Q b)->R w' Q a v
structure cL{γ:Type}N rb sb m s r w0 xb C(g:M γ)(P:ca->Prop)k w:Prop where
 sx:SX w N rb sb m s k
 ke:Ke rb w0 w
 eq:r=g k
 lv:∀w',w.heap.size<=w'.heap.size->(∀b,b<w.heap.size->b≠rb->b≠xb->w'.heap[b]? =w.heap[b]?)->P w'
 rz:rb<w0.heap.size/\N<=w0.heap.size
 xz:xb<w.heap.size
 bx:xb=rb\/N<=xb/\w0.heap.size<=xb/\Bx w xb C
section
variable {m:MV} {r:Except Fl (γ×Nat)} {P Q:ca->Prop} {g g':M γ} {f:FuncId} {args:Array ea} {post:fa->ca->Prop}
def cL.p(H:cL N rb sb m s r w0 xb C g P k w):P w:=H.lv w (br _) λ_ _ _ _=>rfl
def cL.mv(H:cL N rb sb m s r w0 xb C g P k w)(q:Ke rb w w')(S:SX w' N rb sb m s k')(e:r=g' k'):cL N rb sb m s r w0 xb C g' P k' w':=
 ⟨S,H.ke.trans q,e,λw2 a b=>H.lv w2 (jy q.size a) λc c1 c2 c3=>(b c (jx c1 q.size) c2 c3).trans<|q.block c c1 c2,H.rz,jx H.xz q.size,H.bx.imp id λ⟨a,b,c⟩=>⟨a,b,c.Ha q (by have:=H.rz.1;omega)⟩⟩
def cL.af(H:cL N rb sb m s r w0 xb C g P k w)(x:Bq w w'):cL N rb sb m s r w0 xb C g P k w':=H.mv (Ke.of x) (H.sx.af x) H.eq
def cL.drew(H:cL N rb sb m s r w0 xb C g P k w):cL N rb sb m s r w0 xb C g P k w.drew:=H.af (qy _ _).drew
def cL.re(H:cL N rb sb m s r w0 xb C g P k w)(h:g k=g' k):cL N rb sb m s r w0 xb C g' P k w:=H.mv (Ke.refl _ _) H.sx<|H.eq.trans h
def cL.add(H:cL N rb sb m s r w0 xb C g P k w)(h:∀w',w.heap.size<=w'.heap.size->(∀b,b<w.heap.size->b≠rb->b≠xb->w'.heap[b]? =w.heap[b]?)->Q w'):cL N rb sb m s r w0 xb C g (λw=>P w/\Q w) k w:=⟨H.sx,H.ke,H.eq,λw' a b=>⟨H.lv w' a b,h w' a b⟩,H.rz,H.xz,H.bx⟩
def cL.box{t:TypeId}(H:cL N rb sb m s r w0 xb C g P k w):cL N rb sb m s r w0 xb C g (λv=>P v/\Bx v w.heap.size D) k (w.alloc<|.cells D t):=
 (H.af<|bw _).add λw' a b=>(Bx.new w D t).same a (b _ ag (by have:=H.rz.1;have:=H.ke.size;omega) (by have:=H.xz;omega))
def cL.own{t:TypeId}(H:cL N rb sb m s r w0 rb C g P k w):cL N rb sb m s r w0 w.heap.size D g P k (w.alloc<|.cells D t):=
 have K:=H.af<|bw<|Cv D t
 ⟨K.sx,K.ke,K.eq,λw' a b=>H.lv w' (jy ag a) λc c1 c2 _=>(b c bQ c2 ae).trans<|(bw _).block c c1,H.rz,ag,.inr ⟨H.sx.ev.hN,H.ke.size,Bx.new w D t⟩⟩
def cL.put(H:cL N rb sb m s r w0 xb C g P k w)(o:xb≠rb)(B:Bx w' xb D)(q:One xb w w'):cL N rb sb m s r w0 xb D g P k w':=by
 obtain h|⟨b1,x,b3⟩:=H.bx
 .exact absurd h o
 have K:=H.ke;have z:=q.size;exact⟨H.sx.move ae λb p=>q.block b ae,⟨q.os.trans K.os,q.tape.trans K.tape,q.output.trans K.output,by rw[z];exact K.size,λb z n=>(q.block b ae).trans<|K.block b z n⟩,H.eq,λw2 a b=>H.lv w2 ae λc c1 c2 c3=>(b c ae c2 c3).trans<|q.block c c3,H.rz,B.z,.inr ⟨b1,x,B⟩⟩
def df{w0 w}{b}{v}(h:One b w0 w):One b w0 (w.setCell ⟨b,j,ha⟩ v):=⟨h.os,h.tape,h.output,by simpa[World.setCell]using h.size,λi hi=>(qx _ _ _ _ hi).trans<|h.block i hi⟩
def cL.bo(H:cL N rb sb m s r w0 xb C g P k w)(o:xb≠rb):Bx w xb C:=(H.bx.resolve_left o).2.2
def cL.at(h:SX w N rb sb m s k)(e:r=g k):cL N rb sb m s r w rb #[] g (λ_=>True) k w:=⟨h,Ke.refl _ _,e,λ_ _ _=>trivial,⟨h.z,h.ev.hN⟩,h.z,.inl rfl⟩
def cL.Az{R}{mm}{g:α->M γ}(h:SX w N rb sb m s k)(e:r=aI mm g k)(c:cL N rb sb m s r w rb #[] (aI mm g) (λ_=>True) k w->aa jv f args w (aC R N rb sb m s r w)):aa jv f args w (aC R N rb sb m s r w):=
 c (.at h e)
def cL.imp(H:cL N rb sb m s r w0 xb C g P k w)(h:∀w,P w->Q w):cL N rb sb m s r w0 xb C g Q k w:=⟨H.sx,H.ke,H.eq,λw' a b=>h _<|H.lv w' a b,H.rz,H.xz,H.bx⟩
theorem cL.ba{R}{mm}{g}{e:fa}{a:α}(H:cL N rb sb m s r w0 xb C (aI mm g) P k w)(h:aC R N rb sb m s (mm k) w e w')(x:fin (ja s 0) (mm k)=.ok (a,k'))(mv:Mov R:=by first|exact λ_ _ _ _ _ _ h _ _ _=>h|exact λ_ _ _ _ _ _ h a b c=>h.move a b c):∃v,e=.returned v/\cL N rb sb m s r w0 xb C (g a) (λw'=>P w'/\R w' (λb=>w0.heap.size<=b) a v) k' w'/\R w' (λb=>w.heap.size<=b) a v:=by
 have⟨v,A,B,S,V⟩:=h.ok x;exact⟨v,A,(H.mv B S<|H.eq.trans<|mT x).add λw2 a1 b1=>mv _ _ _ _ _ _ V a1 (λb p z=>b1 b z (by have:=H.rz.1;have:=H.ke.size;have E:w.heap.size<=b:=p;omega) (by have:=H.xz;have E:w.heap.size<=b:=p;omega)) λb p _=>jy H.ke.size p,V⟩
def cL.lost{R}{R'}{mm}{g:α->M γ}{e:fa}{f:Fl}(H:cL N rb sb m s r w0 xb C (aI mm g) P k w)(h:aC R N rb sb m s (mm k) w e w')(x:fin (ja s 0) (mm k)=.error f)(st:∀a,aS (ja s 0)<|g a:=by exact stl):e=bX f/\aC R' N rb sb m s r w0 (bX f) w':=⟨(h.bad x).1,aC.stop H.eq x st<|H.ke.trans (h.bad x).2⟩
def cL.call{R}{R'}{mm}{g:α->M γ}(H:cL N rb sb m s r w0 xb C (aI mm g) P k w)(z:aa jv f args w (aC R N rb sb m s (mm k) w))(ok:∀a k' v w',cL N rb sb m s r w0 xb C (g a) (λw'=>P w'/\R w' (λb=>w0.heap.size<=b) a v) k' w'->mm k=.ok (a,k')->R w' (λb=>w.heap.size<=b) a v->post (.returned v) w')(st:∀a,aS (ja s 0)<|g a:=by exact stl)(x:∀f' w',aC R' N rb sb m s r w0 (bX f') w'->post (bX f') w':=by exact λ_ _ h=>⟨rfl,h⟩)(mv:Mov R:=by first|exact λ_ _ _ _ _ _ h _ _ _=>h|exact λ_ _ _ _ _ _ h a b c=>h.move a b c):aa jv f args w post:=
 z.mono λe w' hp=>by
  cases hA:fin (ja s 0) (mm k)with
  |error f=>obtain⟨rfl,h⟩:=H.lost hp hA st;exact x _ _ h
  |ok p=>obtain⟨v,rfl,H,V⟩:=H.ba (a:=p.1) hp hA mv;exact ok _ _ v w' H (ug hA).1 V
def cL.take{c:BA}{R'}{g}(H:cL N rb sb m s r w0 xb C (aI (bt (ja s 0) c) g) P k w)(z:∀w',cL N rb sb m s r w0 xb C (g ()) P (k+1) w'->post (.returned<|tkA<|tk (ja s 0) k) w')(A:s.size<=1000:=by assumption)(hc:c.size<=5:=by decide)(st:∀a,aS (ja s 0)<|g a:=by exact stl)(x:∀f' w',aC R' N rb sb m s r w0 (bX f') w'->post (bX f') w':=by exact λ_ _ h=>⟨rfl,h⟩):aa jv 38 #[rp rb,.string c] w post:=
 aC.go H.ke H.eq (W_ H.sx A c hc) st x λa k' v w' S K E q _ hb hR=>by
  cases hR
  cases bz _ _ _ _ q
  exact z w'<|H.mv hb S E
def cL.Fx{c:BA}{R'}{g}(H:cL N rb sb m s r w0 xb C (aI qF g) P k w)(z:aT (tk (ja s 0) k) c=ia)(A:∀w',cL N rb sb m s r w0 xb C (g ()) P (k+1) w'->post (.returned<|.bool ia) w')(B:s.size<=1000:=by assumption)(hc:c.size<=5:=by decide)(st:∀a,aS (ja s 0)<|g a:=by exact stl)(x:∀f' w',aC R' N rb sb m s r w0 (bX f') w'->post (bX f') w':=by exact λ_ _ h=>⟨rfl,h⟩):aa jv 145 #[rp rb,.string c] w post:=
 aC.go H.ke H.eq (aez H.sx B c hc z) st x λa k' v w' S K E q _ hb hR=>by
  cases hR
  cases q
  exact A w'<|H.mv hb S E
def cL.Fy{c:BA}(H:cL N rb sb m s r w0 xb C g P k w)(x:aT (tk (ja s 0) k) c=ka)(z:post (.returned<|.bool ka) w)(hc:c.size<=5:=by decide):aa jv 145 #[rp rb,.string c] w post:=
 (aeA H.sx c hc x).mono λ_ _⟨a,b⟩=>by subst a;subst b;exact z
def cL.name{R'}{g}(H:cL N rb sb m s r w0 xb C (aI (dk (ja s 0) 1) g) P k w)(z:∀t w',cL N rb sb m s r w0 xb C (g t) P (k+1) w'->Hid (Bn t.text/\t.to=t.ah+t.text.size)->post (.returned<|nmA t) w')(A:s.size<=1000:=by assumption)(st:∀a,aS (ja s 0)<|g a:=by exact stl)(x:∀f' w',aC R' N rb sb m s r w0 (bX f') w'->post (bX f') w':=by exact λ_ _ h=>⟨rfl,h⟩):aa jv 135 #[rp rb,.string D6] w post:=
 aC.go H.ke H.eq (uk H.sx A 1 D6<|ql ⟨rfl,rfl⟩) st x λa k' v w' S K E q _ hb hR=>by
  have:=acu q H.sx.lt
  cases hR
  cases eS _ _ _ _ q
  exact z a w' (H.mv hb S E) this
def cL.expr{R'}{g}(H:cL N rb sb m s r w0 xb C (aI (bi (ja s 0) n) g) P k w)(A:fk s n)(B:∀a k' t x w',cL N rb sb m s r w0 xb C (g a) (λw'=>P w'/\PE w' (λb=>w0.heap.size<=b) a (.iface t<|.agg x)) k' w'->k<k'->post (.returned<|.iface t<|.agg x) w')(E:(ja s 0).length<=k+n:=by omega)(st:∀a,aS (ja s 0)<|g a:=by exact stl)(z:∀f' w',aC R' N rb sb m s r w0 (bX f') w'->post (bX f') w':=by exact λ_ _ h=>⟨rfl,h⟩):aa jv 141 #[rp rb] w post:=
 H.call (A _ _ _ _ _ _ H.sx E) (λa k' v w' H q V=>by obtain⟨t,x,rfl⟩:=V.iface;exact B a k' t x w' H<|kG n _ _ _ q) st z
def cL.LO{R'}{g}(H:cL N rb sb m s r w0 xb C (aI (dG (ja s 0) n) g) P k w)(A:Bo s n)(B:∀a k' t x w',cL N rb sb m s r w0 xb C (g a) (λw'=>P w'/\PP w' (λb=>w0.heap.size<=b) a (.iface t<|.agg x)) k' w'->k<=k'->post (.returned<|.iface t<|.agg x) w')(E:(ja s 0).length<=k+n:=by omega)(st:∀a,aS (ja s 0)<|g a:=by exact stl)(z:∀f' w',aC R' N rb sb m s r w0 (bX f') w'->post (bX f') w':=by exact λ_ _ h=>⟨rfl,h⟩):aa jv 147 #[rp rb] w post:=
 H.call (A _ _ _ _ _ _ H.sx E) (λa k' v w' H q V=>by obtain⟨t,x,rfl⟩:=V.iface;exact B a k' t x w' H<|oZ n _ _ _ q) st z
def cL.since{i}(H:cL N rb sb m s r w0 xb C g P k w)(x:∀w',cL N rb sb m s r w0 xb C g P k w'->post (.returned<|.agg #[Iv i,.int .i64 ((aF (ja s 0) k:Nat):Int)]) w'):aa jv 139 #[rp rb,Iv i] w post:=
 (abn H.sx i).mono λ_ _⟨a,b⟩=>by subst a;exact x _<|H.af b
def cL.done{R}{a}{v}(H:cL N rb sb m s r w0 xb C g P k w)(h:P w->R w (λb=>w0.heap.size<=b) a v)(x:g k=.ok (a,k):=by rfl):aC R N rb sb m s r w0 (.returned v) w:=
 qs (H.eq.trans x) H.ke H.sx (h H.p)
end
section
variable {m:MV}
def RX{p:Prop}(h:p:=by
 intro b k4 t4 x4 w4 H l4;go_wp2_with fail;refine H.take ?_;intro w5 H;go_wp2_with fail;refine H.since ?_;intro w6 H
 go_wp2
 go_ret
 exact H.done λ⟨⟨_,A⟩,B⟩=>.pr _ _ _ _ _ _ _ _ _ A B):p:=h
def RY{p:Prop}(h:p:=by
 refine(H.re<|Mp aD hc).Fx hc ?_;intro w2 H;go_wp2_with fail;refine H.since ?_;intro w3 H
 go_wp2
 go_ret
 exact H.done λ_=>.unit _ _ _ _ _):p:=h
def RZ{p:Prop}(h:p:=by
 refine H.Fy hm ?_;go_wp2_with fail;refine(H.re<|vQ hm λh=>ae).take ?_;intro w5 H
 go_wp2
 go_ret
 exact H.done λ⟨_,A⟩=>A):p:=h
def AA(hs:s.size<=1000)(x:Bo s n)(h:SX w N rb sb m s k)(hn:(ja s 0).length<=k+1+n)(E:aT (tk (ja s 0) k) mR=ia):
 aa jv 102 #[rp rb] w (aC PP N rb sb m s (ap (ja s 0) (dG (ja s 0) n) (lG<|ja s 0) 2 k) w):=by
 have Vr:=gV;have ZW:=jX;refine cL.Az h (uo E) λH=>?_;go_in;go_wp;refine H.take ?_;intro w1 H;go_wp2_with fail
 cases hc:aT (tk (ja s 0)<|k+1) bH
 .refine H.Fy hc ?_;go_wp2_with fail;refine(H.re<|yS hc).LO x ?_;intro a z t2 x2 w2 H l2;go_wp2_with fail
  cases hm:aT (tk (ja s 0) z) db
  .exact RZ
  .refine(H.re<|oH hm).Fx hm ?_;intro w3 H;go_wp2_with fail;refine H.LO x ?_;exact RX
 .exact RY
end
abbrev EQ(α:Type):=ca->(Nat->Prop)->α->(Nat->ea)->Prop
def fX{α:Type}(Q:EQ α):=∀(w w':ca)(P x:Nat->Prop)(a:α)(c:Nat->ea),Q w P a c->w.heap.size<=w'.heap.size->(∀b,P b->b<w.heap.size->w'.heap[b]? =w.heap[b]?)->(∀b,P b->b<w.heap.size->x b)->Q w' x a c
def gJ(cs:Nat->Nat->ea)(sz:Nat):Nat->List ea
 |0=>[]|n+1=>gJ cs sz n++(qg sz).map (cs n)
def uT cs sz n:(gJ cs sz n).length=n*sz:=by
 induction n with
 |zero=>simp[gJ]|succ n ih=>simp only[gJ,g_,ih,List.length_map,List.length_range,j3]
def ZX cs sz:∀n i j,i<n->j<sz->(gJ cs sz n)[i*sz+j]? =ga (cs i j):=by
 intro n
 induction n with
 |zero=>intro i j h;omega|succ n ih=>
  intro i j hi x;simp only[gJ];by_cases h:i<n
  .have:i*sz+j<n*sz:=by
    have:(i+1)*sz<=n*sz:=j5 _ h;rw[j3]at this;omega
   rw[List.getElem?_append_left (by rw[uT];exact this)];exact ih i j h x
  .have e:i=n:=ae;subst e;rw[List.getElem?_append_right (by rw[uT];omega),uT];rw[show i*sz+j-i*sz=j by omega];simp[x]
def wJ{cs ds:Nat->Nat->ea}{sz:Nat}:∀n,(∀i,i<n->cs i=ds i)->gJ cs sz n=gJ ds sz n
 |0,_=>rfl|n+1,h=>by simp only[gJ];rw[wJ n<|λi hi=>h i ae,h n ae]
def dC{α:Type}(Q:EQ α)et sz w base va vc(L:List α):=
 ∃cs:Nat->Nat->ea,w.ownsRow base et sz (.slice va L.length vc) L.length (gJ cs sz L.length)/\∀i(h:i<L.length),Q w (λb=>base<=b/\b<w.heap.size/\(qn va L.length vc).ownBlock≠ga b) L[i]<|cs i
def RowV{α:Type}(Q:EQ α)sz w P L(v:ea):=
 ∃(va:Option Addr)(vc:Nat)(x:Nat->Nat->ea),v=.slice va L.length vc/\(L=[]\/∃g,va=ga ⟨g,0,ha⟩/\P g/\g<w.heap.size/\∀i,i<L.length->∀j,j<sz->w.cell? ⟨g,i*sz+j,ha⟩=ga (x i j))/\∀i(h:i<L.length),Q w P L[i]<|x i
section
variable {Q:EQ α} {sz:Nat} {L:List α}
def dC.nil(Q:EQ α)et sz w base:dC Q et sz w base ha 0 []:=⟨λ_ _=>.nilIface,qu _ _ _ _,λi h=>absurd h ag⟩
def dC.v(S:fX Q)(h:dC Q et sz w base va vc L):RowV Q sz w (λb=>base<=b) L (.slice va L.length vc):=by
 obtain⟨z,B,E⟩:=h;refine⟨va,vc,z,rfl,?_,λi hi=>S _ _ _ _ _ _ (E i hi) (br _) (λ_ _ _=>rfl) λb p _=>p.1⟩;obtain⟨h1,G⟩:=B;obtain⟨_,hz⟩|⟨q,cap,Wy,I,J,A,_,_,_,K⟩:=G
 .grind
 .injection I with O e2 e3;subst O;refine qk ⟨q,rfl,J,(Array.getElem?_eq_some_iff.1 A).1,λi hi j hj=>?_⟩;have x:i*sz+j<L.length*sz:=by
   have:(i+1)*sz<=L.length*sz:=j5 _ hi;rw[j3]at this;omega
  rw[<-ZX z sz L.length i j hi hj,<-K];simp only[World.cell?,A];rw[List.getElem?_take_of_lt x];simp
def dC.fB(U:fX Q)(h:dC Q et sz w base va vc L)(V:w.heap.size<=w'.heap.size)(G:∀b,base<=b->b<w.heap.size->w'.heap[b]? =w.heap[b]?):dC Q et sz w' base va vc L:=by
 obtain⟨I,J,K⟩:=h;refine⟨I,?_,λi hi=>U _ _ _ _ _ _ (K i hi) V (λb p z=>G b p.1 z) λb p _=>⟨p.1,ae,p.2.2⟩⟩;obtain⟨O,x⟩:=J;refine⟨O,?_⟩;obtain x|⟨q,cap,A,S,B,E,r⟩:=x
 .exact ql x
 .refine qk ⟨q,cap,A,S,B,?_,r⟩;rw[G q B (Array.getElem?_eq_some_iff.1 E).1,E]
def dC.block(h:dC Q et sz w base va vc L):∀b,(qn va L.length vc).ownBlock=ga b->base<=b/\b<w.heap.size:=by
 obtain⟨cs,x,_⟩:=h;exact eP x
def dC.one{lo q:Nat}{a}{c:Nat->ea}(B:fX Q)(E:Q w (λb=>lo<=b) a c)(x:base<=lo)(hb:lo<=w.heap.size)(hs:0<sz)C(G:C=((qg sz).map c).toArray)(A:q=w.heap.size):dC Q et sz (w.alloc<|.cells C et) base (ga ⟨q,0,ha⟩) 1 [a]:=by
 subst A G;refine⟨λ_=>c,⟨by simp[gJ],qk ⟨w.heap.size,1,_,rfl,ae,(MapKept.heap_alloc w _).1,ag,VM,ag,by simp[gJ];exact List.take_of_length_le ag⟩⟩,λi hi=>?_⟩;have:i=0:=WW;subst this;refine B _ _ _ _ _ _ E ag (λb _ z=>Below.heap_alloc _ _ _ z) λb p z=>⟨jy x p,bQ,?_⟩;simp[qp];omega
def dC.push{w1}{lo q3 c3:Nat}{a}{c:Nat->ea}(V:fX Q){cs}(Z:∀i(h:i<L.length),Q w1 (λb=>base<=b/\b<w1.heap.size/\(qn va L.length vc).ownBlock≠ga b) L[i]<|cs i)(hq:Q w1 (λb=>lo<=b) a c)(B:base<=lo)(J:∀b,(qn va L.length vc).ownBlock=ga b->b<lo)(O:Bq w1 W)(h3:w3.ownsRow base et sz (.slice (ga ⟨q3,0,ha⟩) (L.length+1) c3) (L.length+1) (gJ cs sz L.length++(qg sz).map c))(X:W.grownBy w3 (qn va L.length vc).ownBlock)(K:(qn (ga ⟨q3,0,ha⟩) (L.length+1) c3).ownBlock=(qn va L.length vc).ownBlock\/(qn (ga ⟨q3,0,ha⟩) (L.length+1) c3).ownBlock=ga W.heap.size):
 dC Q et sz w3 base (ga ⟨q3,0,ha⟩) c3 (L++[a]):=by
 have x:(L++[a]).length=L.length+1:=ag;have Bu:=X.size;have E:∀b,b<w1.heap.size->(Lv va L.length vc).ownBlock≠ga b->w3.heap[b]? =w1.heap[b]? :=λb hb hn=>(X.block b (jx hb O.size)<|λe=>hn e.symm).trans<|O.block b hb;have A:∀b,b<w1.heap.size->(Lv va L.length vc).ownBlock≠ga b->(Lv (ga ⟨q3,0,ha⟩) (L.length+1) c3).ownBlock≠ga b:=λb hb hn e=>by
  obtain g|g:=K
  .exact hn (g▸e)
  .have q:=e.symm.trans g;simp at q;have:=O.size;omega
 have hws:=O.size;have S:∀i,i<L.length->(λi=>if i=L.length then c else cs i) i=cs i:=λi hi=>if_neg ae;refine⟨λi=>if i=L.length then c else cs i,?_,λi hi=>?_⟩
 .rw[x];show w3.ownsRow base et sz _ _<|gJ _ sz L.length++(qg sz).map (if L.length=L.length then c else cs L.length);rw[if_pos rfl,wJ (ds:=cs) L.length S];exact h3
 .rw[x];by_cases G:i<L.length
  .rw[List.getElem_append_left G];show Q w3 _ L[i]<|if i=L.length then c else cs i;rw[if_neg ae];exact V _ _ _ _ _ _ (Z i G) ae (λb p z=>E b p.2.1 p.2.2) λb p z=>⟨p.1,ae,A b p.2.1 p.2.2⟩
  .have U:i=L.length:=LY;subst U;have Y:(L++[a])[L.length]'hi=a:=ag;rw[Y];show Q w3 _ a<|if L.length=L.length then c else cs L.length;rw[if_pos rfl];have I:∀b,lo<=b->(Lv va L.length vc).ownBlock≠ga b:=λb h1 e=>by have:=J b e;omega
   exact V _ _ _ _ _ _ hq ae (λb p z=>E b z<|I b p) λb p z=>⟨jy B p,ae,A b z<|I b p⟩
end
def Q1(R:ca->(Nat->Prop)->Nd->ea->Prop):EQ Nd:=λw P a c=>R w P a<|c 0
def ZY:fX (Q1 PT):=λ_ _ _ _ _ _ h h1 h2 h3=>PT.move h h1 h2 h3
section
variable {row:Option Nat} {m:MV}
def SX.grown(x:W.grownBy w3 row)(h:SX W N rb sb m s k)(z:∀j,row=ga j->N<=j):SX w3 N rb sb m s k:=
 h.move x.size λb hb=>x.block b (jx hb h.ev.hN) λe=>by have:=z b e.symm;omega
def eO{b}{mt ft}(h:MS qm W b L)(z:Tryz.prog.underlying mt=ga (.map 117 ft))(A:(zeroValue ft).run jv W=.ok .nilFunc W)x:
 (Instr.lookup mt (Mv b) (.string x) ia).run jv W=.ok (kT (ba x L) .nilFunc) W:=by
 have:=h.look (KL.str Tryz.underlying117) z A x trivial (λ_ _=>trivial) ia;rw[this]
 cases ba x L<;>rfl
theorem Fz{x:BA}:∀{L:List (BA×ea)},(∀p∈L,p.1≠x)->ba x L=ha
 |[],_=>rfl|p::l,h=>by
  rw[ba];rw[if_neg<|h p<|List.mem_cons_self ..];exact Fz λq hq=>h q<|List.mem_cons_of_mem _ hq
end
def tw(ho:gh t)(B:sort=2\/sort=3)(z:aH t sort=ia):t.kind=1\/t.kind=2\/t.kind=4\/aT t dJ=ia\/aT t cx=ia\/(sort=2/\aT t pR=ia)\/aT t mR=ia:=by
 by_cases A:aT t mR=ia
 .simp[A]
 have x:aT t bT=ka:=by simpa using A
 rw[aH]at z;rw[x]at z;rw[aQ]at z;by_cases E:t.kind=1
 .exact ql E
 by_cases h2:t.kind=2
 .omega
 by_cases h4:t.kind=4
 .omega
 by_cases G:aT t dJ=ia
 .simp[G]
 by_cases I:aT t cx=ia
 .simp[I]
 by_cases J:aT t pR=ia
 .obtain rfl|rfl:=B
  .simp[J]
  .grind
 .exfalso;obtain rfl|rfl:=B
  .grind
  .grind
def wK(hs:sort=2\/sort=3)(z:aH t sort=ka):t.kind≠1/\t.kind≠2/\t.kind≠4/\aT t dJ=ka/\aT t cx=ka/\(sort=2->aT t pR=ka)/\aT t mR=ka:=by
 rw[aH]at z;rw[Bool.or_eq_false_iff]at z;obtain⟨A,z⟩:=z;have x:∀c,c=1\/c=2\/c=3\/c=4->aQ t≠c:=BS;refine⟨λe=>x 1 ag (by rw[aQ];simp[e]),λe=>x 2 ag (by rw[aQ];simp[e]),λe=>x 3 ag (by rw[aQ];simp[e]),?_,?_,?_,A⟩
 .cases h:aT t dJ with
  |false=>rfl|true=>exact absurd (Fu<|ql h)<|x 4 ag
 .cases h:aT t cx with
  |false=>rfl|true=>exact absurd (Fu<|qk h)<|x 4 ag
 .rintro rfl
  cases h:aT t pR with
  |false=>rfl|true=>
   have h5:=oP h;have:aQ t=15:=by
    rw[aQ];rw[if_neg ae,if_neg ae,if_neg ae,if_neg ae,if_neg (by rw[Il,Cy];rw[PC]at h;simp at h;simp[h.2]),if_pos h]
   rw[this]at z;simp at z
def cB{p}(z:aH (tk T k) sort=ia)(A:aT (tk T k) mR=ka):ap T p q sort k=.ok (bD<|tk T k,k+1):=by
 have x:=A;rw[ap];rw[if_pos z,if_neg<|by simp[x]]
theorem adM{a b:BA}(h:a.toList=b.toList):a=b:=by
 rw[qr,qr]at h;exact ByteArray.ext<|Array.ext' h
def gu{c:BA}(h:aT t c=ia):aq t=c:=by
 rw[pB<|oP h];rw[aT]at h;simp only[qw,beq_iff_eq]at h;exact adM h.2
def rB{c:BA}(x:t.kind=5)(h:aT t c=ka):c≠t.text:=λe=>by
 subst e;rw[aT]at h;simp[x]at h
def pJ(h:t.kind≠5)c:aT t c=ka:=by rw[aT];simp[h]
def tA{c d:BA}(h:aT t c=ia)(x:c.toList≠d.toList):aT t d=ka:=by
 rw[aT]at h⊢;simp only[qw,beq_iff_eq]at h;simp[h.1,h.2,x]
section
variable {m:MV}
def UP(z:s.size<=1000)(G:Bo s n)(h:SX w N rb sb m s k)(I:(ja s 0).length<=k+1+n)(A:aH (tk (ja s 0) k) 2=ia){x}(B:Bx w x #[rp rb]):
 (∃f,ba (aq<|tk (ja s 0) k) (qW rb x)=ga (oD f rb)/\(∀args w,(callFunc f args).run jv w=.ok (.enter f args) w)/\∀W,Bq w W->aa jv f #[rp rb] W (aC PP N rb sb m s (ap (ja s 0) (dG (ja s 0) n) (lG<|ja s 0) 2 k) W))\/
 (∃f,ba (aq<|tk (ja s 0) k) (qW rb x)=ga (mM f x)/\(∀args w,(callFunc f args).run jv w=.ok (.enter f args) w)/\∀W,Bq w W->aa jv f #[Pv x] W (aC PP N rb sb m s (ap (ja s 0) (dG (ja s 0) n) (lG<|ja s 0) 2 k) W)):=by
 have E:=eY s k h.lt;obtain hk|hk|hk|hk|hk|⟨h9,hk⟩|hk:=tw E aD A
 .refine qk ⟨97,by rw[iZ hk];rfl,λ_ _=>qkr,?_⟩;rw[cB A<|pJ ae _];exact λW hW=>(ZU (h.af hW) z hk x<|B.below hW).2
 .refine ql ⟨98,by rw[hY hk];rfl,λ_ _=>qkr,?_⟩;rw[cB A<|pJ ae _];exact λW hW=>(adL (h.af hW) z hk).2
 .refine qk ⟨99,by rw[i_ hk];rfl,λ_ _=>qkr,?_⟩;rw[cB A<|pJ ae _];exact λW hW=>(ZV (h.af hW) z hk x<|B.below hW).2
 .refine qk ⟨100,qBk,λ_ _=>qkr,?_⟩;rw[cB A<|tA hk qAp];exact λW hW=>(yg (h.af hW) z (ql hk) x<|B.below hW).2.2.1
 .refine qk ⟨101,qBk,λ_ _=>qkr,?_⟩;rw[cB A<|tA hk qAp];exact λW hW=>(yg (h.af hW) z (qk hk) x<|B.below hW).2.2.2
 .refine ql ⟨96,qBk,λ_ _=>qkr,?_⟩;rw[cB A<|tA hk qAp];exact λW hW=>NR (h.af hW) z hk
 .refine ql ⟨102,qBk,λ_ _=>qkr,λW hW=>AA z G (h.af hW) I hk⟩
def Z3(h:SX w N rb sb m s k)(O:aH (tk (ja s 0) k) 2=ka)x:ba (aq<|tk (ja s 0) k) (qW rb x)=ha:=by
 have z:=eY s k h.lt;have⟨A,B,E,G,I,J,K⟩:=wK aD O;obtain h'|h'|h'|h'|h'|h'|h':=z.kd
 .exact absurd h' A
 .exact absurd h' B
 .rw[h_ h'];rfl
 .exact absurd h' E
 .rw[pB h'];have hz:=z.s5 h';have p9:∀c:BA,5<c.size->c≠(tk (ja s 0) k).text:=λc hc e=>by rw[e]at hc;omega
  refine Fz λp hp=>?_;simp only[qW,qf,qe,or_false]at hp;obtain rfl|rfl|rfl|rfl|rfl|rfl|rfl:=hp
  .exact rB h' (J rfl)
  .exact p9 D6 aD
  .exact p9 G_ aD
  .exact p9 Ml aD
  .exact rB h' G
  .exact rB h' I
  .exact rB h' K
 .exact absurd h' h.ok
 .rw[jr h'];rfl
def acv w:(zeroValue 205).run jv w=.ok .nilFunc w:=qkr
end
theorem RowV.move{Q}{sz}{P'}{L:List α}{v:ea}(h:RowV Q sz w P L v)(V:fX Q)(B:w.heap.size<=w'.heap.size)(E:∀b,P b->b<w.heap.size->w'.heap[b]? =w.heap[b]?)(G:∀b,P b->b<w.heap.size->P' b):RowV Q sz w' P' L v:=by
 obtain⟨va,vc,I,J,x,K⟩:=h;refine⟨va,vc,I,J,?_,λi hi=>V _ _ _ _ _ _ (K i hi) B E G⟩;obtain O|⟨g,S,A,z,U⟩:=x
 .exact ql O
 .refine qk ⟨g,S,G g A z,jx z B,λi hi j hj=>?_⟩;rw[qv (a:=⟨g,i*sz+j,ha⟩) (w:=w)<|E g A z];exact U i hi j hj
section
variable {Q:EQ α} {sz:Nat} {m:MV} {r:Except Fl (γ×Nat)} {P:ca->Prop} {g:M γ} {L:List α}
def FA(I:List α->Prop)Q et sz N rb sb m s k w r(g:Nat->List α->Nat->M γ)gk(v:ea)wr:=
 ∃(x:Nat)(L:List α)(f:Nat)(va:Option Addr)(vc z:Nat),v=.slice va L.length vc/\I L/\cL N rb sb m s r w rb #[] (g f L z) (λw'=>dC Q et sz w' w.heap.size va vc L) x wr/\Hid (gk=(ja s 0).length-x)/\k<=x/\L.length<=x/\(ja s 0).length<=x+f
def cL.row(H:cL N rb sb m s r w0 xb C g P k w)(x:fX Q)(R:dC Q et sz w base va vc L)(hb:w0.heap.size<=base/\(xb=rb\/xb<base)):cL N rb sb m s r w0 xb C g (λw'=>dC Q et sz w' base va vc L) k w:=
 (H.add λw' a b=>R.fB x a λc c1 c2=>b c c2 (by have:=H.rz;omega) (by have:=H.rz;omega)).imp λ_ h=>h.2
def cL.append{o}{ac}{K}{sO xO}{t bytes}{z}{D}{c}{a}{wr:ca}(H:cL N rb sb m s r w0 xb C g P k w)(hT:(ja s 0).length<=1001)(hQ:fX Q)(inf:(Tryz.prog.info? et).map (λi=>(i.zero,i.size,i.bytes))=ga (ga z,sz,bytes))(ut:Tryz.prog.underlying t=ga (.slice et))(R:dC Q et sz w base va vc L)(hr:base<=wr.heap.size)(hb:∀b,(qn va L.length vc).ownBlock=ga b->b<wr.heap.size)(V:Q w (λb=>wr.heap.size<=b) a c)(hl:L.length<k)(h:∀q c' w3,cL N rb sb m s r w0 xb C g (λw'=>dC Q et sz w' base (ga ⟨q,0,ha⟩) c'<|L++[a]) k w3->wpList jv ops K rest (ac.put o.dst<|.slice (ga ⟨q,0,ha⟩) (L++[a]).length c') w3)(he:w0.heap.size<=base/\(xb=rb\/xb<base)/\base<=w.heap.size:=by exact⟨br _,.inl rfl,H.ke.size⟩)(hD:D=(qg sz).map c:=by rfl)(h1:∀u∈D,u.oneCell'=ia:=by intro u Y;simp at Y;obtain rfl|rfl|rfl|rfl|rfl|rfl:=Y<;>rfl)(U:z.cells.size=sz/\0<sz/\bytes<=1000:=by decide)(X:o.guard=ha:=by rfl)(ho:o.op=.call {callee:=.builtin .append,args:=#[sO,xO],argTypes:=#[t,t]}:=by rfl)(hs:ac.eval sO=.slice va L.length vc:=by rfl)(hx:ac.eval xO=.slice (ga ⟨w.heap.size,0,ha⟩) 1 1:=by rfl):
 wpList jv ops K (o::rest) ac (w.alloc<|.cells D.toArray et):=by
 have⟨i0,I,J,O,S⟩:=info_parts inf;obtain⟨cs,Z,HP⟩:=R;have kl:=H.sx.lt;have x:Bq w (w.alloc<|Cv D.toArray et):=bw _;have A:=eP Z;refine wpList_append_own_at _ X sO xO t ho base et i0 _ sz bytes ut I J O S U.1 U.2.1 (Lv va L.length vc) L.length _ hs (jD Z x) ⟨w.heap.size,0,ha⟩ 1 1 D hx (by rw[hD];simp) (n9 _ _ _ _ ag) h1 VM (jy (Nat.mul_le_mul_left _ U.2.2) ae) bQ ?_;intro v3 w3 O3 E n3 l3;obtain⟨q,c',rfl⟩:=rS O3 ae;have e:(L++[a]).length=L.length+1:=ag;have B:=H.af x;have rz:=H.rz;have G:cL N rb sb m s r w0 xb C g (λ_=>True) k w3:=⟨SX.grown E B.sx λj e=>by have:=A j e;omega,Ke.grown E B.ke λj e=>by have:=A j e;omega,H.eq,λ_ _ _=>trivial,H.rz,jx B.xz E.size,B.bx.imp id λ⟨b1,b2,b3⟩=>⟨b1,b2,b3.grown E λj e=>by have:=A j e;omega⟩⟩;have:=h q c' w3<|G.row hQ (dC.push (w1:=w) (lo:=wr.heap.size) (c:=c) hQ HP V hr hb x (hD▸O3) E l3) ⟨he.1,he.2.1⟩;rw[e]at this;exact this
end
def acw:(Tryz.prog.info? 207).map (λi=>(i.zero,i.size,i.bytes))=ga (ga .nilIface,1,16):=qkr
def UQ:Tryz.prog.underlying 260=ga (.slice 207):=qkr
def JD:(Tryz.prog.info? 155).map (λi=>(i.zero,i.size,i.bytes))=ga (ga .nilIface,1,16):=qkr
def zS:Tryz.prog.underlying 173=ga (.slice 155):=qkr
def tB w:(zeroValue 196).run jv w=.ok .nilFunc w:=qkr
def KU{x:Nd}(h:aH (tk T k) sort=ka):da T sm sort f x k=.ok (x,k):=by
 cases f with
 |zero=>rfl|succ f=>unfold da;rw[h];rfl
def UR{x:Nd}(h:aH (tk T k) sort=ia):da T sm sort (f+1) x k=aI sm (λy k'=>da T sm sort f (x.add y<|aF T k') k') k:=by
 show(if aH (tk T k) sort=ia then _ else _)=_;rw[if_pos h]
def rC{T:List jc}{sm:M Nd}{sort c:Nat}{nm:BA}{n fr at_:Nat}:∀f L k a k2,da T sm sort f (.mk c nm n L fr (aF T k) at_) k=.ok (a,k2)->∃L',a=.mk c nm n L' fr (aF T k2) at_
 |0,L,k,a,k2,h=>by cases h;exact⟨L,rfl⟩|f+1,L,k,a,k2,h=>by
  unfold da at h;split at h
  .have⟨y,x,_,z⟩:=aB h;exact rC f (L++[y]) x a k2 z
  .cases h;exact⟨L,rfl⟩
def FC(f:M α)k:f k=aI f (λa k=>.ok (a,k)) k:=by rw[aI];cases f k<;>rfl
def acx R nm w P(a:Nd)v:=∃L fr tz at_,a=.mk 2 nm 0 L fr tz at_/\RowV (Q1 R) 1 w P L v
def Tab N rb sb m s R(sm:M Nd)sort b w k:=∃L,MS qm w b L/\
 (aH (tk (ja s 0) k) sort=ia/\((∃F,ba (aq<|tk (ja s 0) k) L=ga (oD F rb)/\(∀args w,(callFunc F args).run jv w=.ok (.enter F args) w)/\∀W,Bq w W->aa jv F #[rp rb] W (aC R N rb sb m s (sm k) W))\/
  (∃F x,ba (aq<|tk (ja s 0) k) L=ga (mM F x)/\(∀args w,(callFunc F args).run jv w=.ok (.enter F args) w)/\∀W,Bq w W->aa jv F #[Pv x] W (aC R N rb sb m s (sm k) W)))\/
  aH (tk (ja s 0) k) sort=ka/\ba (aq<|tk (ja s 0) k) L=ha)
section
variable {m:MV} {b:Nat} {p:M Nd}
def KY{mt:Nat}(A:mt=125\/mt=124\/mt=123)(z:MS qm w b L)x:(Instr.lookup mt (Mv b) (.string x) ia).run jv w=.ok (kT (ba x L) .nilFunc) w:=by
 obtain rfl|rfl|rfl:=A
 .exact eO z Tryz.underlying125 (aey w) x
 .exact eO z Tryz.underlying124 (acv w) x
 .exact eO z Tryz.underlying123 (tB w) x
def FD{p:Prop}(h:p:=by
 obtain⟨rfl,hb'⟩:=hp.bad hA
 exact⟨rfl,hp⟩):p:=h
def adN{B mt:Nat}(K:B=184/\mt=125\/B=168/\mt=124\/B=150/\mt=123)(V:∀{w P a v},R w P a v->∃t x,v=.iface t (.agg x))(h:SX w N rb sb m s k)(Y:Tab N rb sb m s R (ap (ja s 0) p q sort) sort b w k):
 aa jv B #[rp rb,Mv b] w (aC R N rb sb m s (ap (ja s 0) p q sort k) w):=by
 obtain⟨L,G,Y⟩:=Y;have O:=KY (mt:=mt) (by obtain h|h|h:=K<;>simp[h.2]) G (aq<|tk (ja s 0) k);have⟨c,f,z⟩:=h.bx;obtain⟨I,⟨F,A,E,J⟩|⟨F,x,A,E,J⟩⟩|⟨I,A⟩:=Y;all_goals simp only[A,kT]at O
 all_goals clear A G
 all_goals obtain⟨rfl,rfl⟩|⟨rfl,rfl⟩|⟨rfl,rfl⟩:=K
 all_goals(
  go_in
  first
  |(go_wp2_with(go_at_call 61;refine(vH h.rd).mono ?_;rintro e S⟨rfl,hb'⟩)
    refine⟨rfl,Ke.of hb',?_⟩;rw[show ap (ja s 0) p q sort k=.error (eA<|tk (ja s 0) k) by rw[ap];rw[I];rfl,eA,if_neg h.ok]
    rfl)
  |(go_wp2_with fail
    refine(J _<|qy _ _).mono ?_;intro e S hp
    cases hA:fin (ja s 0) (ap (ja s 0) p q sort k)with
    |error f'=>
     exact FD
    |ok r=>
    obtain⟨a,k2⟩:=r;obtain⟨v,rfl,_,_,U⟩:=hp.ok hA;obtain⟨tv,xv,rfl⟩:=V U
    go_wp2
    go_ret
    exact hp))
def Z8{FM mt et:Nat}(hT:(ja s 0).length<=1001)(hF:FM=163/\mt=125/\et=155\/FM=169/\mt=124/\et=207)(hI:∀{w P a v},R w P a v->∃t x,v=.iface t (.agg x))(mv:Mov R)(a0:mG sm)(D:∀w k',SX w N rb sb m s k'->k<=k'->Tab N rb sb m s R sm sort b w k')(h:SX w N rb sb m s k)nm(fr G at_:Nat):
 aa jv FM #[rp rb,Mv b] w (aC (acx R nm) N rb sb m s (da (ja s 0) sm sort (ja s 0).length (.mk 2 nm 0 [] fr G at_) k) w):=by
 have A:fX (Q1 R):=λ_ _ _ _ _ _ h a b c=>mv _ _ _ _ _ _ h a b c;obtain⟨r,J⟩:∃r,r=da (ja s 0) sm sort (ja s 0).length (.mk 2 nm 0 [] fr G at_) k:=⟨_,rfl⟩;rw[<-J];have H:=cL.at h J
 replace D:=ai D
 have tl:=ai (λ(w:ca)(L:List (BA×ea))(h:MS Sv w b L)=>KY (mt:=mt) (by obtain h|h:=hF<;>simp[h.2.1]) h);clear h J;obtain⟨rfl,rfl,I⟩|⟨rfl,rfl,I⟩:=hF
 all_goals(
  replace I:=ai I
  go_wp2
  go_loopg[5] ((ja s 0).length-k) (λgk v wr=>FA (λ_=>True) (Q1 R) et 1 N rb sb m s k w r (λf L G=>da (ja s 0) sm sort f<|.mk 2 nm 0 L fr G at_) gk v wr)
  case atStart=>exact⟨k,[],(ja s 0).length,ha,0,G,rfl,trivial,H.row A (dC.nil _ _ _ _ _) ⟨br _,.inl rfl⟩,ai rfl,br _,ag,ae⟩
  case round=>
   clear H;obtain rfl:=uh I;obtain⟨kr,L,f,va,vc,to',rfl,-,H,K,O,hLl,hfu⟩:=hrel;have⟨X,hM,Y⟩:=uh D _ _ H.sx O;have S:=uh tl _ _ hM<|aq<|tk (ja s 0) kr;have hkr:=H.sx.lt;have zw:=H.ke.size;have U:=H.p.block;have⟨c,ff,z⟩:=H.sx.bx;obtain⟨Z,Y⟩|⟨Z,B⟩:=Y
   .obtain⟨f,rfl⟩:∃f',f=f'+1:=⟨f-1,ae⟩;obtain⟨F,B,E,HC⟩|⟨F,x,B,E,HC⟩:=Y
    all_goals(
     simp only[B,kT]at S;clear B;go_wp2_with fail;refine(H.re<|UR Z).call (HC _<|qy _ _) ?_ (st:=λa q h=>jA _ _ _ _ q h) (mv:=mv);intro a k2 v w1 H q V;obtain⟨tv,xv,rfl⟩:=hI V;have l2:=a0 _ _ _ q;clear HC E c ff z S hM q;go_wp2_with(at_builtin;go_must(refine H.append (D:=[Fv tv<|Av xv]) (z:=Zv) (bytes:=16) hT A (by first|exact JD|exact acw) (by first|exact zS|exact UQ) H.p.1 zw (λb e=>(U b e).2) (c:=λ_=>Fv tv<|Av xv) V ae ?_;intro q3 c3 w3 H));go_roundg((ja s 0).length-k2)
     case measure=>rw[uh K];omega
     case rel=>exact⟨k2,L++[a],f,_,c3,_,ag,trivial,H.re rfl,ai rfl,ae,bQ,ae⟩)
   .simp only[B,kT]at S
    go_wp2
    go_ret
    exact H.done (λR=>⟨L,_,_,_,rfl,R.v A⟩)<|KU Z)
end
section
variable {m:MV} {b:Nat} {p:M Nd}
def KZ{nm}(mv:Mov R):Mov (acx R nm):=λ_ _ _ _ _ _⟨L,a,b,c,d,e⟩x y z=>⟨L,a,b,c,d,e.move (λ_ _ _ _ _ _ h a b c=>mv _ _ _ _ _ _ h a b c) x y z⟩
def acx.sl{nm}{v}(h:acx R nm w P a v):∃va L vc,v=.slice va L vc:=by obtain⟨_,_,_,_,_,_,_,_,rfl,-⟩:=h;exact⟨_,_,_,rfl⟩
def Z9{FH tt}(hs:s.size<=1000)(hT:(ja s 0).length<=1001)(Y:FH=147/\tt=262/\m.d=Mv b\/FH=167/\tt=230/\b=sb)(K:∀{w P a v},R w P a v->∃t x,v=.iface t (.agg x))(mv:Mov R)(O:mG (ap (ja s 0) p q sort))(D:∀w k',SX w N rb sb m s k'->k<=k'->Tab N rb sb m s R (ap (ja s 0) p q sort) sort b w k')(h:SX w N rb sb m s k)(mk:∀{w P nm L v}{f t a y:Nat},p_ nm->y=a+nm.size->RowV (Q1 R) 1 w P L v->R w P (.mk 2 nm 0 L f t a) (.iface tt<|.agg #[Nv f,Nv t,Nv a,Nv y,.string nm,v])):
 aa jv FH #[rp rb] w (aC R N rb sb m s (fN (ja s 0) (ap (ja s 0) p q sort) sort k) w):=by
 have U:=eY s k h.lt;have B:=(o7 s k h.lt).sp;have E:=D5 U h.ok;rw[show G_.toList=[117,112,32,110,97,109,101]from toList_mk _]at E;have⟨c,f,z⟩:=h.bx
 replace D:=ai D
 replace B:=ai B
 by_cases A:(tk (ja s 0) k).kind=2
 .rw[A]at E;have⟨Z,e1,X⟩:=Pe s k h.lt ae;have G:fN (ja s 0) (ap (ja s 0) p q sort) sort k=aI (dk (ja s 0) 2) (λ_=>da (ja s 0) (ap (ja s 0) p q sort) sort (ja s 0).length<|.mk 2 (tk (ja s 0) k).text 0 [] (tk (ja s 0) k).ah (aF (ja s 0)<|k+1) (tk (ja s 0) k).ah) k:=by
   unfold fN;rw[if_pos<|by simp[A]];unfold aI;rw[Zz sort k A,tj A,X];unfold bD aQ cO;simp[A]
  obtain⟨rfl,rfl,I⟩|⟨rfl,rfl,rfl⟩:=Y
  all_goals(
   refine cL.Az h G λH=>?_;clear G e1 X;go_in
   go_wp;refine H.call (uk h hs 2 G_<|qk ⟨rfl,rfl⟩) ?_ (st:=λ_=>jA _ _ _ _);intro t Z v w1 H q V
   cases V
   rw[tj A]at q
   cases q
   have H:=H.box (D:=#[Nv (tk (ja s 0) k).ah,Nv (tk (ja s 0) k).to,Sv (tk (ja s 0) k).text]) (t:=92);clear c f z;have⟨c,f,z⟩:=H.sx.bx;go_wp2_with fail;clear c f z;refine(H.re<|FC (da (ja s 0) (ap (ja s 0) p q sort) sort (ja s 0).length<|.mk 2 (tk (ja s 0) k).text 0 [] (tk (ja s 0) k).ah (aF (ja s 0)<|k+1) (tk (ja s 0) k).ah)<|k+1).call (Z8 hT (by first|exact .inl ⟨rfl,rfl,rfl⟩|exact .inr ⟨rfl,rfl,rfl⟩) K mv O (λw k' S l=>uh D w k' S ae) H.sx _ _ _ _) ?_ (mv:=KZ mv);intro a k2 v w3 H q V;have⟨L',J⟩:=rC _ _ _ _ _ q;subst J;obtain⟨va,L,vc,rfl⟩:=V.sl;clear V q;have⟨⟨_,c3,f3,z3⟩,_⟩:=H.p
   go_wp2
   go_region_with(go_at_call 139;refine H.drew.since ?_;intro w4 H;have⟨⟨_,c4,f4,z4⟩,_⟩:=H.p)
   all_goals(
    go_wp2
    go_ret;refine H.done ?_;rintro⟨_,L1,fr,tz,at_,e,V⟩;injection e with _ _ _ e3 e4 e5 e6;subst e3 e4 e5 e6
    exact mk (U.v2 A) B V))
 .rw[show((tk (ja s 0) k).kind==2)=ka by simp[A]]at E;have G:fN (ja s 0) (ap (ja s 0) p q sort) sort k=(ap (ja s 0) p q sort) k:=by unfold fN;rw[if_neg<|by simp[A]]
  rw[G];obtain⟨rfl,rfl,I⟩|⟨rfl,rfl,rfl⟩:=Y
  all_goals(
   go_in
   go_wp;refine(adN (by first|exact .inl ⟨rfl,rfl⟩|exact .inr<|.inl ⟨rfl,rfl⟩) K h<|uh D _ _ h<|br _).mono ?_;intro e w1 hp
   cases hA:fin (ja s 0) ((ap (ja s 0) p q sort) k)with
   |error f'=>
    exact FD
   |ok r=>
   obtain⟨a,k2⟩:=r;obtain⟨v,rfl,_,_,J⟩:=hp.ok hA;obtain⟨tv,xv,rfl⟩:=K J
   go_wp2
   go_ret
   exact hp)
end
abbrev Df s n:=ap (ja s 0) (c_ (ja s 0) n) (c_ (ja s 0) n) 1
def RowV.pt{L}{v}{nm}{t a}(J:p_ nm)(K:y=a+nm.size)(h:RowV (Q1 PT) 1 w P L v):PT w P (.mk 2 nm 0 L f t a) (.iface 230<|.agg #[Nv f,Nv t,Nv a,Nv y,.string nm,v]):=by
 obtain⟨va,vc,z,rfl,x,A⟩:=h;exact .up nm 0 L f t a _ _ _ _ va vc (λi=>z i 0) J (x.imp id λ⟨g,B,E,G,I⟩=>⟨g,B,E,G,λi hi=>by simpa using I i hi 0 aD⟩) A rfl (by rw[K])
def Z_ s n:=∀(w:ca)(N rb sb:Nat)(m:MV)(k:Nat),SX w N rb sb m s k->(ja s 0).length<=k+n->aa jv 146 #[rp rb] w (aC PT N rb sb m s (c_ (ja s 0) n k) w)
section
variable {m:MV}
def K9(hs:s.size<=1000)(x:Z_ s n)(h:SX w N rb sb m s k)(hn:(ja s 0).length<=k+1+n)(E:aT (tk (ja s 0) k) mR=ia):aa jv 105 #[rp rb] w (aC PT N rb sb m s (Df s n k) w):=by
 have Vr:=gV;have ZW:=jX;refine cL.Az h (uo E) λH=>?_;go_in;go_wp;refine H.take ?_;intro w1 H;go_wp2_with fail;refine(H.re (g':=aI (c_ (Pu.bP s 0) n)<|gN (Pu.bP s 0) (c_ (Pu.bP s 0) n) (c_ (Pu.bP s 0) n) 1 (tk (Pu.bP s 0) k).ah) (by rw[dD];rw[if_neg ag])).call (x _ _ _ _ _ _ H.sx ae) ?_;intro a z v w2 H q V;obtain⟨t2,x2,rfl⟩:=V.iface;have l2:=dz (T:=(Pu.bP s 0)) n _ _ _ q;go_wp2_with fail
 cases hm:aT (tk (ja s 0) z) db
 .exact RZ
 .refine(H.re<|oH hm).Fx hm ?_;intro w3 H;go_wp2_with fail;refine H.call (x _ _ _ _ _ _ H.sx ae) ?_;intro b k4 v w4 H q V;obtain⟨t4,x4,rfl⟩:=V.iface;go_wp2_with fail;refine H.take ?_;intro w5 H;go_wp2_with fail;refine H.since ?_;intro w6 H
  go_wp2
  go_ret;exact H.done λ⟨⟨_,A⟩,B⟩=>.pr _ _ _ _ _ _ _ _ _ _ _ A B
def ahF(E:s.size<=1000)(I:Z_ s n)(h:SX w N rb sb m s k)(J:(ja s 0).length<=k+1+n):Tab N rb sb m s PT (Df s n) 1 sb w k:=by
 have B:=eY s k h.lt;have G:=sB s k h.lt;refine⟨smL rb,h.ev.sm,?_⟩
 cases hb:aH (tk (ja s 0) k) 1
 .exact .inr ⟨rfl,W5 B h.ok hb⟩
 .refine .inl ⟨rfl,.inl ⟨_,abm B h.ok hb,W4 _,λW hW=>?_⟩⟩;have h:=h.af hW;rw[fid];by_cases z:(tk (ja s 0) k).kind=3
  .rw[if_pos z,show Df s n k=_ from vJ (ql z)];refine(Tj h.rd E G z B).mono λe w' q=>q.x h ae ?_;rw[show bD (tk (ja s 0) k)=.mk 16 (tk (ja s 0) k).text 0 [] (tk (ja s 0) k).ah (tk (ja s 0) k).to (tk (ja s 0) k).ah by rw[bD,aQ,cO];simp[z]];exact .var _ _ _ _ _ _ _ (B.v3 z) rfl (by rw[adp s k h.lt])
  rw[if_neg z];by_cases A:(tk (ja s 0) k).kind=2
  .rw[if_pos A,show Df s n k=_ from vJ (qk A)];refine(Mk h.rd E G A).mono λe w' q=>q.x h ae ?_;rw[show bD (tk (ja s 0) k)=.mk 2 (tk (ja s 0) k).text 0 [] (tk (ja s 0) k).ah (tk (ja s 0) k).to (tk (ja s 0) k).ah by rw[bD,aQ,cO];simp[A]];exact .up _ _ [] _ _ _ _ _ _ _ ha 0 (λ_=>Zv) (B.v2 A) (ql rfl) (λi hi=>by simp at hi) rfl (by rw[adp s k h.lt])
  rw[if_neg A];rw[uj B]at hb;exact K9 E I h J (by simpa[A,z]using hb)
def NY(E:s.size<=1000)(J:(ja s 0).length<=1001)(G:Z_ s n):Z_ s (n+1):=by
 intro w N rb sb m k h hn;have x:mG (Df s n):=cI (dz (T:=(Pu.bP s 0)) n) (dz n) 1;refine cL.Az (mm:=fN (Pu.bP s 0) (Df s n) 1) (g:=lF (Pu.bP s 0) (c_ (Pu.bP s 0) n) (tk (Pu.bP s 0) k).ah) h rfl λH=>?_;have⟨c,f,z⟩:=h.bx;go_in;go_wp;refine H.call (Z9 (R:=PT) E J (.inr ⟨rfl,rfl,rfl⟩) PT.iface (λ_ _ _ _ _ _ h a b c=>h.move a b c) x (λw k' S l=>ahF E G S ae) h RowV.pt) ?_ (st:=λa=>vI _ _ _ a);intro a I v w1 H q V;obtain⟨tv,xv,rfl⟩:=V.iface;have l2:=uL x 1 _ _ _ q;clear V q;go_wp2_with fail
 cases hc:aT (tk (ja s 0) I) cH
 .refine H.Fy hc ?_;have H:=H.re (g':=λk=>.ok (a,k)) (by rw[lF];rw[hc];rfl)
  go_wp2
  go_ret;exact H.done λh=>h.2
 .refine(H.re (g':=aI qF λ_=>aI (c_ (ja s 0) n) λb k'=>.ok (.mk 17 cX 0 [a,b] (tk (ja s 0) k).ah (aF (ja s 0) k') (tk (ja s 0) k).ah,k')) (by rw[lF];rw[if_pos hc];rfl)).Fx hc ?_;intro w3 H;go_wp2_with fail;refine H.call (G _ _ _ _ _ _ H.sx ae) ?_;intro b k4 v w4 H q V;obtain⟨t4,x4,rfl⟩:=V.iface;go_wp2_with fail;refine H.since ?_;intro w5 H
  go_wp2
  go_ret;exact H.done λ⟨⟨_,A⟩,B⟩=>.fn _ _ _ _ _ _ _ _ _ _ _ A B
def Z'(x:s.size<=1000)(z:(ja s 0).length<=1001):∀n,Z_ s n
 |0=>λw N rb sb m k h hn=>by have:=h.lt;omega|n+1=>NY x z<|Z' x z n
def acy(x:s.size<=1000)(z:(ja s 0).length<=1001)(h:SX w N rb sb m s k)(A:(ja s 0).length<=k+n):aa jv 146 #[rp rb] w (aC PT N rb sb m s (c_ (ja s 0) n k) w):=Z' x z n _ _ _ _ _ _ h A
end
abbrev smP s n:=ap (ja s 0) (dG (ja s 0) n) (lG<|ja s 0) 2
section
variable {m:MV}
def SX.plain(h:SX w N rb sb m s k){b}(B:m.d=Mv b):∃x,Bx w x #[rp rb]/\MS qm w b (qW rb x):=by
 have⟨x,z,b',e,_,_,A⟩:=h.ev.mp.pl;rw[B]at e
 cases e
 exact⟨x,z.2.2,A⟩
def aiO(B:s.size<=1000)(E:Bo s n)(h:SX w N rb sb m s k)(G:(ja s 0).length<=k+1+n){b}(I:m.d=Mv b):Tab N rb sb m s PP (smP s n) 2 b w k:=by
 have⟨x,z,A⟩:=h.plain I;refine⟨_,A,?_⟩
 cases hc:aH (tk (ja s 0) k) 2
 .exact .inr ⟨rfl,Z3 h hc x⟩
 .exact .inl ⟨rfl,(UP B E h G hc z).imp id λ⟨f,h⟩=>⟨f,x,h⟩⟩
end
section
variable {m:MV}
def SX.md(h:SX w N rb sb m s k):∃b,m.d=Mv b:=by
 have⟨x,_,b,e,_⟩:=h.ev.mp.pl;exact⟨b,e⟩
def RowV.up{P}{L}{v}(h:RowV (Q1 PP) 1 w P L v)s n f t a y(E:p_ s)(G:y=a+s.size):PP w P (.mk 2 s n L f t a) (.iface 262<|.agg #[Nv f,Nv t,Nv a,Nv y,.string s,v]):=by
 obtain⟨va,vc,z,rfl,x,A⟩:=h;refine .up s n L f t a y va vc (λi=>z i 0) E G ?_ A;obtain B|⟨g,h1,h2,h3,h4⟩:=x
 .exact ql B
 .grind
def FE(z:s.size<=1000)(A:(ja s 0).length<=1001)(B:Bo s n):Bo s (n+1):=by
 intro w N rb sb m k h hn;have⟨b,x⟩:=h.md;exact Z9 (R:=PP) z A (.inl ⟨rfl,rfl,x⟩) PP.iface (λ_ _ _ _ _ _ h a b c=>h.move a b c) (cI (oZ (T:=(ja s 0)) n) nu 2) (λw k' S l=>aiO z B S ae x) h λhu hy h=>h.up _ _ _ _ _ _ hu hy
def Dg(x:s.size<=1000)(z:(ja s 0).length<=1001):∀n,Bo s n
 |0=>λw N rb sb m k h hn=>by have:=h.lt;omega|n+1=>FE x z<|Dg x z n
end
section
variable {m:MV}
def acz{n}(E:s.size<=1000)(G:(ja s 0).length<=1001)(z:fk s n)(h:SX w N rb sb m s k)(hn:(ja s 0).length<=k+1+n)(I:aT (tk (ja s 0) k) mR=ia):
 aa jv 95 #[rp rb] w (aC PE N rb sb m s (ap (ja s 0) (bi (ja s 0) n) (c_ (ja s 0) n) 3 k) w):=by
 have Vr:=gV;have ZW:=jX;refine cL.Az h (uo I) λH=>?_;go_in;go_wp;refine H.take ?_;intro w1 H;go_wp2_with fail
 cases hc:aT (tk (ja s 0)<|k+1) bH
 .refine H.Fy hc ?_;go_wp2_with fail;refine(H.re<|yS hc).expr z ?_;intro a x t2 x2 w2 H l2;go_wp2_with fail
  cases hm:aT (tk (ja s 0) x) db
  .refine H.Fy hm ?_;go_wp2_with fail
   cases hl:aT (tk (ja s 0) x) mY
   .refine H.Fy hl ?_;go_wp2_with fail;refine(H.re<|vQ hm λ_=>hl).take ?_;intro w5 H
    go_wp2
    go_ret;exact H.done λ⟨_,A⟩=>A
   .refine(H.re<|Ho hm hl).Fx hl ?_;intro w3 H;go_wp2_with fail;refine H.call (acy E G H.sx ae) ?_;intro b k4 v4 w4 H _ V;obtain⟨t4,x4,rfl⟩:=V.iface;go_wp2_with fail;refine H.take ?_;intro w5 H;go_wp2_with fail;refine H.since ?_;intro w6 H
    go_wp2
    go_ret;exact H.done λ⟨⟨_,A⟩,B⟩=>.of _ _ _ _ _ _ _ _ _ A B
  .refine(H.re<|oH hm).Fx hm ?_;intro w3 H;go_wp2_with fail;refine H.expr z ?_;exact RX
 .exact RY
def K_(z:s.size<=1000)(G:(ja s 0).length<=1001)(I:fk s n)(h:SX w N rb sb m s k)(J:(ja s 0).length<=k+1+n)(A:aH (tk (ja s 0) k) 3=ia){x:Nat}(B:Bx w x #[rp rb]):
 (∃f,ba (aq<|tk (ja s 0) k) (sC rb x)=ga (oD f rb)/\(∀args w,(callFunc f args).run jv w=.ok (.enter f args) w)/\∀W,Bq w W->aa jv f #[rp rb] W (aC PE N rb sb m s (ap (ja s 0) (bi (ja s 0) n) (c_ (ja s 0) n) 3 k) W))\/
 (∃f,ba (aq<|tk (ja s 0) k) (sC rb x)=ga (mM f x)/\(∀args w,(callFunc f args).run jv w=.ok (.enter f args) w)/\∀W,Bq w W->aa jv f #[Pv x] W (aC PE N rb sb m s (ap (ja s 0) (bi (ja s 0) n) (c_ (ja s 0) n) 3 k) W)):=by
 have E:=eY s k h.lt;obtain hk|hk|hk|hk|hk|⟨h9,hk⟩|hk:=tw E aD A
 .refine qk ⟨87,by rw[iZ hk];rfl,λ_ _=>qkr,?_⟩;rw[cB A<|pJ ae _];exact λW hW=>(ZU (h.af hW) z hk x<|B.below hW).1
 .refine ql ⟨89,by rw[hY hk];rfl,λ_ _=>qkr,?_⟩;rw[cB A<|pJ ae _];exact λW hW=>(adL (h.af hW) z hk).1
 .refine qk ⟨90,by rw[i_ hk];rfl,λ_ _=>qkr,?_⟩;rw[cB A<|pJ ae _];exact λW hW=>(ZV (h.af hW) z hk x<|B.below hW).1
 .refine qk ⟨92,qBk,λ_ _=>qkr,?_⟩;rw[cB A<|tA hk qAp];exact λW hW=>(yg (h.af hW) z (ql hk) x<|B.below hW).1
 .refine qk ⟨94,qBk,λ_ _=>qkr,?_⟩;rw[cB A<|tA hk qAp];exact λW hW=>(yg (h.af hW) z (qk hk) x<|B.below hW).2.1
 .omega
 .refine ql ⟨95,qBk,λ_ _=>qkr,λW hW=>acz z G I (h.af hW) J hk⟩
def R7(h:SX w N rb sb m s k)(K:aH (tk (ja s 0) k) 3=ka)x:ba (aq<|tk (ja s 0) k) (sC rb x)=ha:=by
 have z:=eY s k h.lt;have⟨A,B,E,G,I,na,J⟩:=wK aD K;obtain h'|h'|h'|h'|h'|h'|h':=z.kd
 .exact absurd h' A
 .exact absurd h' B
 .rw[h_ h'];rfl
 .exact absurd h' E
 .rw[pB h'];have hz:=z.s5 h';have p9:∀c:BA,5<c.size->c≠(tk (ja s 0) k).text:=λc hc e=>by rw[e]at hc;omega
  refine Fz λp hp=>?_;simp only[sC,qf,qe,or_false]at hp;obtain rfl|rfl|rfl|rfl|rfl|rfl:=hp
  .exact p9 D6 aD
  .exact p9 G_ aD
  .exact p9 Ml aD
  .exact rB h' G
  .exact rB h' I
  .exact rB h' J
 .exact absurd h' h.ok
 .rw[jr h'];rfl
def aiP(z:s.size<=1000)(A:(ja s 0).length<=1001)(B:fk s n)(h:SX w N rb sb m s k)(E:(ja s 0).length<=k+1+n){b x:Nat}(G:MS qm w b (sC rb x))(I:Bx w x #[rp rb]):Tab N rb sb m s PE (ap (ja s 0) (bi (ja s 0) n) (c_ (ja s 0) n) 3) 3 b w k:=by
 refine⟨_,G,?_⟩
 cases hc:aH (tk (ja s 0) k) 3
 .exact .inr ⟨rfl,R7 h hc x⟩
 .exact .inl ⟨rfl,(K_ z A B h E hc I).imp id λ⟨f,h⟩=>⟨f,x,h⟩⟩
def US(z:s.size<=1000)(A:(ja s 0).length<=1001)(B:fk s n)(h:SX w N rb sb m s k)(E:(ja s 0).length<=k+1+n){b x:Nat}(G:MS qm w b (sC rb x))(I:Bx w x #[rp rb]):
 aa jv 150 #[rp rb,Mv b] w (aC PE N rb sb m s (ap (ja s 0) (bi (ja s 0) n) (c_ (ja s 0) n) 3 k) w):=adN (.inr<|.inr ⟨rfl,rfl⟩) PE.iface h<|aiP z A B h E G I
def SX.atom(h:SX w N rb sb m s k){b:Nat}(B:m.c=Mv b):∃x,Bx w x #[rp rb]/\MS qm w b (sC rb x):=by
 have⟨x,z,b',e,_,_,A⟩:=h.ev.mp.at_;rw[B]at e
 cases e
 exact⟨x,z.2.2,A⟩
def SX.mc(h:SX w N rb sb m s k):∃b,m.c=Mv b:=by
 have⟨x,_,b,e,_⟩:=h.ev.mp.at_;exact⟨b,e⟩
end
abbrev yh s n:=ap (ja s 0) (bi (ja s 0) n) (c_ (ja s 0) n) 3
def R8 N rb sb m s k w r(g:Nat->Nd->M Nd)gk v wr:=
 ∃(x:Nat)(nd:Nd)(f:Nat),cL N rb sb m s r w rb #[] (g f nd) (λw'=>PE w' (λb=>w.heap.size<=b) nd v) x wr/\Hid (gk=(ja s 0).length-x)/\k<x/\(ja s 0).length<=x+f
def below_drewN w q:Below n w (w.drewN q):=⟨rfl,rfl,rfl,br _,λ_ _=>rfl⟩
def aaa{x:Nd}(h:aH (tk T k) 3=ia):gi T sm fr (f+1) x k=aI sm (λy k'=>gi T sm fr f (.mk 8 cX 0 [x,y] fr (aF T k') fr) k') k:=by
 show(if aH (tk T k) 3=ia then _ else _)=_;rw[if_pos h]
def UT{x:Nd}(h:aH (tk T k) 3=ka):gi T sm fr f x k=.ok (x,k):=by
 cases f with
 |zero=>rfl|succ f=>unfold gi;rw[h];rfl
section
variable {m:MV}
def afN(hs:s.size<=1000)(hT:(ja s 0).length<=1001)(IH:fk s n)(h:SX w N rb sb m s k)(hn:(ja s 0).length<=k+1+n):
 aa jv 109 #[rp rb] w (aC PE N rb sb m s (cd (ja s 0) (yh s n) k) w):=by
 have⟨b,E⟩:=h.mc;have⟨x,G,B⟩:=h.atom E;obtain⟨r,J⟩:∃r,r=cd (Pu.bP s 0) (yh s n) k:=⟨_,rfl⟩;rw[<-J];refine cL.Az (g:=gi (Pu.bP s 0) (yh s n) (tk (Pu.bP s 0) k).ah (Pu.bP s 0).length) h J λH=>?_;clear J;have⟨c,K,z⟩:=h.bx;go_in;go_wp;refine H.call (US hs hT IH h hn B G) ?_;intro a Z v0 w1 H q V;obtain⟨t0,x0,rfl⟩:=V.iface;have l1:=cI (uM (T:=(Pu.bP s 0)) n) (dz n) 3 _ _ _ q;clear G B c K z V q
 go_wp2
 go_loopg[4] ((ja s 0).length-Z) (λgk v wr=>R8 N rb sb m s k w r (λf nd=>gi (ja s 0) (yh s n) (tk (ja s 0) k).ah f nd) gk v wr)
 case atStart=>exact⟨Z,a,_,H.imp λ_ h=>h.2,ai rfl,l1,ae⟩
 case round=>
  clear H;obtain⟨O,nd,f,H,S,hle,hfu⟩:=hrel;have⟨x,G,B⟩:=H.sx.atom E;have U:=λq=>eO (B.same (w':=wr.drewN q) rfl) Tryz.underlying123 (tB _)<|aq<|tk (ja s 0) O;have A:=eO B Tryz.underlying123 (tB _)<|aq<|tk (ja s 0) O;have hkr:=H.sx.lt;obtain⟨tv,xv,rfl⟩:=H.p.iface;have⟨c,K,z⟩:=H.sx.bx
  cases hb:aH (tk (ja s 0) O) 3
  .simp only[R7 H.sx hb x,kT]at U A
   go_wp2
   go_quiet(fail)
   go_wp2
   go_ret;exact(H.af<|below_drewN _ nq).done id (UT hb)
  .obtain⟨f,rfl⟩:∃f',f=f'+1:=⟨f-1,ae⟩;obtain⟨F,X,I,Y⟩|⟨F,X,I,Y⟩:=K_ hs hT IH H.sx ae hb G
   all_goals(
    simp only[X,kT]at U A;clear X
    go_wp2
    go_quiet(fail);go_wp2_with fail;refine((H.af<|below_drewN _ nq).re<|aaa hb).call (Y _<|below_drewN _ nq) ?_;intro a k2 v1 w1 H q V;obtain⟨t1,x1,rfl⟩:=V.iface;have l2:=cI (uM (T:=(ja s 0)) n) (dz n) 3 _ _ _ q;clear Y I c K z U A B G V q;go_wp2_with fail;refine H.since ?_;intro w2 H
    go_wp2
    go_roundg((ja s 0).length-k2)
    case measure=>rw[uh S];omega
    case rel=>exact⟨k2,_,f,(H.re rfl).imp λ_ h=>PE.call _ _ _ _ _ _ _ _ _ h.1 h.2,ai rfl,ae,ae⟩)
end
def opM(T:List jc)(sub:M Nd)(z:BA)(fr:Nat)(x:Nd):M Nd:=λk=>aI sub (λy k'=>.ok (.mk 7 z 0 [x,y] fr (aF T k') fr,k'))<|k+1
def afO{sub}{op}{x:Nd}:opM T sub op fr x k=aI qF (λ_=>aI sub<|λy k'=>.ok (.mk 7 op 0 [x,y] fr (aF T k') fr,k')) k:=rfl
def aab{sub}{x:Nd}(h:aT (tk T k) cD=ia):gO T sub fr (f+1) x k=aI (opM T sub cD fr x) (gO T sub fr f) k:=by
 show(if aT (tk T k) cD=ia then _ else _)=_;rw[if_pos h];unfold opM aI;dsimp only
 cases sub (k+1)<;>rfl
def UU{sub}{x:Nd}(h:aT (tk T k) cD=ka):gO T sub fr f x k=.ok (x,k):=by
 cases f with
 |zero=>rfl|succ f=>unfold gO;rw[h];rfl
def R9{sub}{x:Nd}(h:aT (tk T k) cY=ia\/aT (tk T k) bM=ia):nS T sub fr (f+1) x k=aI (opM T sub (tk T k).text fr x) (nS T sub fr f) k:=by
 show(if aT (tk T k) cY=ia\/aT (tk T k) bM=ia then _ else _)=_;rw[if_pos h];unfold opM aI;dsimp only
 cases sub (k+1)<;>rfl
def aac{sub}{x:Nd}(h:aT (tk T k) cY=ka)(z:aT (tk T k) bM=ka):nS T sub fr f x k=.ok (x,k):=by
 cases f with
 |zero=>rfl|succ f=>unfold nS;rw[h,z];rfl
def yi{c}(h:aT t c=ia):t.text=c:=by grind[aT,adM]
def PEo(P:Nat->Prop)w(Q:Nat->Prop)a v:=PE w (λb=>P b\/Q b) a v
def afP a b c d w:(Instr.field 119 (.agg #[a,b,c,d]) 2).run jv w=.ok d w:=qkr
section
variable {m:MV}
def NZ s n F(sub:M Nd):=∀(w:ca)(N rb sb:Nat)(m:MV)(k:Nat),SX w N rb sb m s k->(ja s 0).length<=k+1+n->aa jv F #[rp rb] w (aC PE N rb sb m s (sub k) w)
def ahG{sub}(hs:s.size<=1000)(HF:NZ s n F sub)(hcf:∀args w,(callFunc F args).run jv w=.ok (.enter F args) w)(LS:aS (ja s 0) sub)(h:SX w N rb sb m s k)(hn:(ja s 0).length<=k+1+n)(I:(tk (ja s 0) k).text=cY\/(tk (ja s 0) k).text=bM\/(tk (ja s 0) k).text=cD\/(tk (ja s 0) k).text=b8)(h7:(tk (ja s 0) k).kind≠7)fr{x}(E:gM w N rb x #[rp rb])(G:gM w N rb y #[oD F rb])(U:∀b,P b->b≠rb){nd}{v}(J:PE w P nd v):
 aa jv 148 #[Nv fr,v,Pv x,Pv y] w (aC (PEo P) N rb sb m s (opM (ja s 0) sub (tk (ja s 0) k).text fr nd k) w):=by
 have ZW:=afP;obtain⟨tv,xv,rfl⟩:=J.iface;refine cL.Az h afO λH=>?_;have H:=((H.add λw' a q=>E.2.2.same a<|q x E.2.2.z E.2.1 E.2.1).add λw' a q=>G.2.2.same a<|q y G.2.2.z G.2.1 G.2.1).add λw' a q=>J.move a (λb p z=>q b z (U b p)<|U b p) λ_ p _=>p;clear E G J;have⟨⟨⟨_,K,O,S⟩,X,Y,Z⟩,_⟩:=H.p;go_in;go_wp;refine H.call (ZS h hs h7) ?_;intro _ _ _ w1 H q V
 cases V
 cases q
 have⟨⟨⟨⟨_,K,O,S⟩,X,Y,Z⟩,_⟩,_⟩:=H.p;go_wp2_with fail;refine H.call (HF _ _ _ _ _ _ H.sx ae) ?_;intro a k2 v2 w2 H q V;obtain⟨t2,x2,rfl⟩:=V.iface;clear V q;have⟨⟨⟨⟨⟨_,K,O,S⟩,_⟩,_⟩,_⟩,_⟩:=H.p;go_wp2_with fail;refine H.since ?_;intro w3 H
 go_wp2
 go_ret;exact H.done λ⟨⟨⟨_,A⟩,_⟩,B⟩=>.op _ _ _ _ _ _ _ _ _ I (A.wide λb p=>ql p)<|B.wide λb p=>qk p
def cL.op{sub}{op}{fr}{nd}{r}{w0}{C}{P}{g}{f}{args}{post}(H:cL N rb sb m s r w0 rb C (aI (opM (ja s 0) sub op fr nd) g) P k w)(A:mG sub)(J:aa jv f args w (aC (PEo<|λb=>w0.heap.size<=b) N rb sb m s (opM (ja s 0) sub op fr nd k) w))(ok:∀a k' t x w',cL N rb sb m s r w0 rb C (g a) (λw'=>PE w' (λb=>w0.heap.size<=b) a<|.iface t<|.agg x) k' w'->k<k'->post (.returned<|.iface t<|.agg x) w')(st:∀a,aS (ja s 0)<|g a:=by exact stl)(B:∀f' w',aC PE N rb sb m s r w0 (bX f') w'->post (bX f') w':=by exact λ_ _ h=>⟨rfl,h⟩):aa jv f args w post:=
 J.mono λe w' hp=>by
  cases hA:fin (ja s 0) (opM (ja s 0) sub op fr nd k)with
  |error f=>obtain⟨rfl,h⟩:=H.lost hp hA st;exact B _ _ h
  |ok p=>
   obtain⟨a,j⟩:=p;obtain⟨v,rfl,G,S,V⟩:=hp.ok hA;obtain⟨t,x,rfl⟩:=PE.iface V;refine ok _ _ t x w' (((H.mv G S<|H.eq.trans<|mT hA).add λw2 a1 b1=>PE.move V a1 (λb p z=>?_) λb p _=>p.elim id λp=>jy H.ke.size p).imp λ_ h=>h.2) ?_
   .have E:w0.heap.size<=b:=p.elim id λp=>jy H.ke.size p;have:=H.rz.1;exact b1 b z ae ae
   .have⟨_,j,E,I⟩:=aB (m:=sub) (k:=k+1) (ug hA).1
    cases I
    have:=A _ _ _ E;omega
def tC(ho:gh t)(h6:t.kind≠6)(hL:∀p∈L,p.1.size<=5/\aT t p.1=ka):ba (aq t) L=ha:=by grind[aT,ba,aq,Fz,sD]
def N7 w:(zeroValue 210).run jv w=.ok .nilFunc w:=qkr
def AB{b:Nat}{sub}{g:Nat->Nd->M Nd}(hs:s.size<=1000)(HF:NZ s n F sub)(K:∀args w,(callFunc F args).run jv w=.ok (.enter F args) w)(O:aS (ja s 0) sub)(A:mG sub)(hg:∀f a,aS (ja s 0)<|g f a)(h:SX w N rb sb m s k)(hn:(ja s 0).length<=k+1+n)(hr:r=aI sub (g (ja s 0).length) k)(D:∀w k',SX w N rb sb m s k'->∃L,MS qm w b L/\((∃x y,gM w N rb x #[rp rb]/\gM w N rb y #[oD F rb]/\ba (aq<|tk (ja s 0) k') L=ga (Tk x y)/\(∃c,aT (tk (ja s 0) k') c=ia/\(c=cY\/c=bM\/c=cD\/c=b8))/\∀f a,g (f+1) a k'=aI (opM (ja s 0) sub (tk (ja s 0) k').text (tk (ja s 0) k).ah a) (g f) k')\/ba (aq<|tk (ja s 0) k') L=ha/\∀f a,g f a k'=.ok (a,k'))):
 aa jv 149 #[rp rb,oD F rb,Mv b] w (aC PE N rb sb m s r w):=by
 have hcO:∀args w,(callFunc 148 args).run jv w=.ok (.enter 148 args) w:=λ_ _=>qkr
 replace D:=ai D
 refine cL.Az h hr λH=>?_;clear hr;have⟨c,B,z⟩:=h.bx;go_in;go_wp;refine H.call (HF _ _ _ _ _ _ h hn) ?_ (st:=hg _);intro a S v0 w1 H q V;obtain⟨t0,x0,rfl⟩:=V.iface;have l1:=A _ _ _ q;clear c B z V q
 go_wp2
 go_loopg[8] ((ja s 0).length-S) (λgk v wr=>R8 N rb sb m s k w r g gk v wr)
 case atStart=>exact⟨S,a,_,H.imp λ_ h=>h.2,ai rfl,l1,ae⟩
 case round=>
  clear H;obtain⟨kr,nd,f,H,G,hle,hfu⟩:=hrel;have⟨L,U,Y⟩:=uh D _ _ H.sx;have I:=eO U Tryz.underlying126 (N7 _)<|aq<|tk (ja s 0) kr;have hkr:=H.sx.lt;obtain⟨tv,xv,rfl⟩:=H.p.iface;have⟨c,B,z⟩:=H.sx.bx;obtain⟨x,y,X,Z,hq,⟨o,J,hO⟩,E⟩|⟨hq,E⟩:=Y
  .obtain⟨f,rfl⟩:∃f',f=f'+1:=⟨f-1,ae⟩;simp only[hq,kT]at I;have HC:=ahG hs HF K O H.sx ae (by rw[yi J];exact hO) (Hk J) (tk (ja s 0) k).ah X Z (P:=λb=>w.heap.size<=b) (λb p=>by have p':w.heap.size<=b:=p;have:=H.rz.1;omega) H.p;have H:=H.re<|E f nd;clear E J hO;go_wp2_with fail;refine H.op A HC ?_ (st:=hg _);intro a k2 t x w1 H l2;clear HC X Z c B z I U hq
   go_wp2
   go_roundg((ja s 0).length-k2)
   case measure=>rw[uh G];omega
   case rel=>exact⟨k2,_,f,H,ai rfl,ae,ae⟩
  .simp only[hq,kT]at I;have H:=H.re (g':=λk=>.ok (nd,k))<|E f nd;clear E
   go_wp2
   go_ret;exact H.done id
def N8{n}(K:s.size<=1000)(hT:(ja s 0).length<=1001)(O:NZ s n 109 (cd (ja s 0)<|yh s n))(z:aS (ja s 0) (cd (ja s 0)<|yh s n))(x:mG (cd (ja s 0)<|yh s n))(h:SX w N rb sb m s k)(U:(ja s 0).length<=k+1+n){b:Nat}(A:m.h=Mv b):
 aa jv 149 #[rp rb,oD 109 rb,Mv b] w (aC PE N rb sb m s (dN (ja s 0) (cd (ja s 0)<|yh s n) k) w):=
 AB K O (λ_ _=>qkr) z x (g:=gO (ja s 0) (cd (ja s 0)<|yh s n) (tk (ja s 0) k).ah) (λf a=>oG _ _ _ _) h U rfl λw k' S=>by
  have⟨B,E,G,I,b',e,_,_,J⟩:=S.ev.mp.pr;rw[A]at e
  cases e
  refine⟨_,J,?_⟩
  cases hb:aT (tk (ja s 0) k') cD
  .exact .inr ⟨tC (eY s k' S.lt) S.ok (by simp[hb];decide),λ_ _=>UU hb⟩
  .exact .inl ⟨B,E,G,I,by rw[gu hb];rfl,⟨_,hb,ag⟩,λf a=>by rw[yi hb];exact aab hb⟩
def UW{n}(X:s.size<=1000)(hT:(ja s 0).length<=1001)(Y:NZ s n 108 (dN (ja s 0)<|cd (ja s 0)<|yh s n))(z:aS (ja s 0) (dN (ja s 0)<|cd (ja s 0)<|yh s n))(x:mG (dN (ja s 0)<|cd (ja s 0)<|yh s n))(h:SX w N rb sb m s k)(Z:(ja s 0).length<=k+1+n){b:Nat}(A:m.g=Mv b):
 aa jv 149 #[rp rb,oD 108 rb,Mv b] w (aC PE N rb sb m s (q_ (ja s 0) (dN (ja s 0)<|cd (ja s 0)<|yh s n) k) w):=
 AB X Y (λ_ _=>qkr) z x (g:=nS (ja s 0) (dN (ja s 0)<|cd (ja s 0)<|yh s n) (tk (ja s 0) k).ah) (λf a=>qY _ _ _ _) h Z rfl λw k' S=>by
  have⟨B,E,G,I,J,K,O,U,b',e,_,_,V⟩:=S.ev.mp.sm;rw[A]at e
  cases e
  refine⟨_,V,?_⟩
  cases hb:aT (tk (ja s 0) k') cY
  .cases hc:aT (tk (ja s 0) k') bM
   .exact .inr ⟨tC (eY s k' S.lt) S.ok (by simp[hb,hc];decide),λ_ _=>aac hb hc⟩
   .exact .inl ⟨G,I,O,U,by rw[gu hc];rfl,⟨_,hc,ag⟩,λf a=>R9<|.inr hc⟩
  .exact .inl ⟨B,E,J,K,by rw[gu hb];rfl,⟨_,hb,ag⟩,λf a=>R9<|.inl hb⟩
def SX.hm(h:SX w N rb sb m s k):∃b,m.h=Mv b:=by
 have⟨x0,y0,h0,g0,x,e,_,_,hM⟩:=h.ev.mp.pr;exact⟨x,e⟩
def SX.gm(h:SX w N rb sb m s k):∃b,m.g=Mv b:=by
 have⟨x0,y0,x1,y1,h0,g0,h1,g1,x,e,_,_,hM⟩:=h.ev.mp.sm;exact⟨x,e⟩
end
section
variable {m:MV}
def N9:mG (yh s n):=cI (uM n) (dz n) 3
def AD:aS (ja s 0) (yh s n):=mV _ _ _
def acA(x:s.size<=1000)(z:(ja s 0).length<=1001)(A:fk s n):NZ s n 109 (cd (ja s 0)<|yh s n):=λw N rb sb m k h hn=>afN x z A h hn
def aad{F1 F2 b}(h:SX w N rb sb m s k)(B:F1=108/\F2=109/\m.h=Mv b\/F1=107/\F2=108/\m.g=Mv b)(E:aa jv 149 #[rp rb,oD F2 rb,Mv b] w (aC PE N rb sb m s r w)):aa jv F1 #[rp rb] w (aC PE N rb sb m s r w):=by
 have⟨c,ff,z⟩:=h.bx;obtain⟨rfl,rfl,x⟩|⟨rfl,rfl,x⟩:=B
 all_goals(
  go_in
  go_wp;refine E.mono ?_;intro e w1 hp
  cases hA:fin (ja s 0) r with
  |error f'=>
   exact FD
  |ok r=>
  obtain⟨a,k2⟩:=r;obtain⟨v,rfl,_,_,A⟩:=hp.ok hA;obtain⟨tv,xv,rfl⟩:=A.iface
  go_wp2
  go_ret
  exact hp)
def N_(z:s.size<=1000)(A:(ja s 0).length<=1001)(E:fk s n):NZ s n 108 (dN (ja s 0)<|cd (ja s 0)<|yh s n):=by
 intro w N rb sb m k h B;have⟨b,x⟩:=h.hm;exact aad h (.inl ⟨rfl,rfl,x⟩)<|N8 z A (acA z A E) (mW AD) (sZ N9) h B x
def afQ(z:s.size<=1000)(A:(ja s 0).length<=1001)(E:fk s n):NZ s n 107 (q_ (ja s 0)<|dN (ja s 0)<|cd (ja s 0)<|yh s n):=by
 intro w N rb sb m k h B;have⟨b,x⟩:=h.gm;exact aad h (.inr ⟨rfl,rfl,x⟩)<|UW z A (N_ z A E) (qZ<|mW AD) (Ao<|sZ N9) h B x
def FI(hs:s.size<=1000)(hT:(ja s 0).length<=1001)(IH:fk s n)(h:SX w N rb sb m s k)(hn:(ja s 0).length<=k+1+n):aa jv 164 #[rp rb] w (aC PE N rb sb m s (nF (ja s 0) (q_ (ja s 0)<|dN (ja s 0)<|cd (ja s 0)<|yh s n) k) w):=by
 have hcO:∀args w,(callFunc 148 args).run Tryz.prog w=.ok (.enter 148 args) w:=λ_ _=>qkr;have G:∀args w,(callFunc 107 args).run Tryz.prog w=.ok (.enter 107 args) w:=λ_ _=>qkr;have Y:=afQ (n:=n) hs hT IH;have I:aS (Pu.bP s 0) (q_ (Pu.bP s 0)<|dN (Pu.bP s 0)<|cd (Pu.bP s 0)<|yh s n):=Cj<|qZ<|mW AD;have A:mG (q_ (Pu.bP s 0)<|dN (Pu.bP s 0)<|cd (Pu.bP s 0)<|yh s n):=Ry<|Ao<|sZ N9;obtain⟨-,-,-,-,b,J,-⟩:=h.ev.mp.cm;refine cL.Az h (abo _ _) λH=>?_;have⟨c,ff,z⟩:=h.bx;go_in;go_wp;refine H.call (Y _ _ _ _ _ _ h hn) ?_ (st:=λa=>vO _ _ _);intro a B v0 Z H q V;have l1:=A _ _ _ q;obtain⟨K,O,S,U,b',e,-,-,hM⟩:=H.sx.ev.mp.cm;rw[J]at e
 cases e
 have hl:=λq=>eO (hM.same (w':=Z.drewN q) rfl) Tryz.underlying126 (N7 _)<|aq<|tk (ja s 0) B;have E:=eO hM Tryz.underlying126 (N7 _)<|aq<|tk (ja s 0) B;have X:=H.sx.lt;obtain⟨tv,xv,rfl⟩:=V.iface;clear V q;have⟨c,ff,z⟩:=H.sx.bx
 cases hb:aT (tk (ja s 0) B) b8
 .have H:=H.re (g':=λk=>.ok (a,k)) (by rw[Hn];rw[hb];rfl);simp only[tC (eY s B X) H.sx.ok (L:=[(b8,Tk K O)]) (by simp[hb];decide),kT]at hl E
  go_wp2
  go_quiet(fail)
  go_wp2
  go_ret;exact(H.af<|below_drewN _ nq).done λh=>h.2
 .have hg:ba (aq<|tk (ja s 0) B) [(b8,Tk K O)]=ga (Tk K O):=by rw[gu hb];rfl
  simp only[hg,kT]at hl E;have H:=H.re (g':=aI (opM (ja s 0) (q_ (ja s 0)<|dN (ja s 0)<|cd (ja s 0)<|yh s n) (tk (ja s 0) B).text (tk (ja s 0) k).ah a) λa k=>.ok (a,k)) (by rw[<-FC,yi hb];rw[Hn];rw[if_pos hb];rfl);have HC:=λq=>ahG hs Y G I (H.af<|below_drewN _ q).sx ae (by rw[yi hb];simp) (Hk hb) (tk (ja s 0) k).ah (S.move (br _) λ_ _ _=>rfl) (U.move (br _) λ_ _ _=>rfl) (P:=λb=>w.heap.size<=b) (λb p=>by have p':w.heap.size<=b:=p;have:=H.rz.1;omega) (H.af<|below_drewN _ q).p.2
  go_wp2
  go_quiet(fail);go_wp2_with fail;refine(H.af<|below_drewN _ nq).op A (HC nq) ?_;intro a k2 t x Z H _
  go_wp2
  go_ret;exact H.done id
end
section
variable {m:MV}
def rD(hs:s.size<=1000)(A:fk s n)(h:SX w N rb sb m s k)(hn:(ja s 0).length<=k+1+n):
 aa jv 83 #[rp rb] w (aC PE N rb sb m s (rf (ja s 0) (bi (ja s 0) n) k) w):=by
 have Vr:=gV;have ZW:=jX;refine cL.Az h rfl λH=>?_;go_in;go_wp;refine H.take ?_;intro w1 H;go_wp2_with fail;refine H.name ?_;intro t w2 H x;go_wp2_with fail;refine H.box.take ?_;intro w3 H;go_wp2_with fail;refine H.expr A ?_;intro a k4 t4 x4 w4 H l4;have⟨⟨_,c,f,z⟩,_⟩:=H.p
 go_wp2
 go_region_with(go_at_call 139;refine H.drew.since ?_;intro w5 H;have⟨⟨_,c,f,z⟩,_⟩:=H.p)
 all_goals(
  go_wp2
  go_ret
  exact H.done λ⟨_,V⟩=>.fn _ _ _ _ _ _ _ _ x.1 x.2 V)
def aae(hs:s.size<=1000)(x:fk s n)(h:SX w N rb sb m s k)(hn:(ja s 0).length<=k+1+n):
 aa jv 85 #[rp rb] w (aC PE N rb sb m s (kX (ja s 0) (bi (ja s 0) n) k) w):=by
 have Vr:=gV;have ZW:=jX;refine cL.Az h rfl λH=>?_;go_in;go_wp;refine H.take ?_;intro w1 H;go_wp2_with fail;refine H.expr x ?_;intro a k2 t2 x2 w2 H l2;go_wp2_with fail;refine H.take ?_;intro w3 H;go_wp2_with fail;refine H.expr x ?_;intro b k4 t4 x4 w4 H l4;go_wp2_with fail;refine H.take ?_;intro w5 H;go_wp2_with fail;refine H.expr x ?_;intro c k6 t6 x6 w6 H l6;go_wp2_with fail;refine H.since ?_;intro w7 H
 go_wp2
 go_ret;exact H.done λ⟨⟨⟨_,A⟩,B⟩,C⟩=>.ite _ _ _ _ _ _ _ _ _ _ _ A B C
end
def bindM T e:=λk=>
 if aT (tk T k) pS=ia then aI (dk T 1) (λt=>aI (bt T tN) λ_=>aI (rf T e) λe k'=>.ok ((11,t,e),k')) (k+1)
 else aI (dk T 1) (λt=>aI (bt T tN) λ_=>aI e λe k'=>.ok ((10,t,e),k')) k
def UX{e:M Nd}(h:aT (tk T k) pS=ia):bindM T e k=aI qF (λ_=>aI (dk T 1) λt=>aI (bt T tN) λ_=>aI (rf T e) λe k'=>.ok ((11,t,e),k')) k:=by rw[bindM];rw[if_pos h];rfl
def La{e:M Nd}(h:aT (tk T k) pS=ka):bindM T e k=aI (dk T 1) (λt=>aI (bt T tN) λ_=>aI e λe k'=>.ok ((10,t,e),k')) k:=by rw[bindM];rw[h];rfl
def NS e:aS T (bindM T e):=λk h=>by
 rw[La<|eM h _];exact b_ (qX T 1 aD k h) λ_ q g=>by
  rw[aI];rw[show bt T tN q=.error (eA<|tk T q) by rw[bt];rw[eM g];rfl];rfl
def AE w P(b:Nat×jc×Nd)(v:ea):=
 ∃ve,v=.agg #[.bool<|b.1==11,Nv b.2.1.ah,Nv b.2.1.to,.string b.2.1.text,ve]/\PE w P b.2.2 ve/\(b.1=10\/b.1=11)/\Bn b.2.1.text/\b.2.1.to=b.2.1.ah+b.2.1.text.size
def Bx.aiQ{b:Nat}(h:Bx w b C)(G:C.size=5)v0 v1 v2 v3 v4:Bx (((((w.setCell ⟨b,0,ha⟩ v0).setCell ⟨b,1,ha⟩ v1).setCell ⟨b,2,ha⟩ v2).setCell ⟨b,3,ha⟩ v3).setCell ⟨b,4,ha⟩ v4) b #[v0,v1,v2,v3,v4]:=by
 obtain⟨E,B,A,z,x,rfl⟩:∃E B A z x,C=#[E,B,A,z,x]:=by
  obtain⟨l⟩:=C
  match l,G with
  |[a,b,c,d,e],_=>grind
 exact((((h.aW 0 v0 #[v0,B,A,z,x] rfl ag).aW 1 v1 #[v0,v1,A,z,x] rfl ag).aW 2 v2 #[v0,v1,v2,z,x] rfl ag).aW 3 v3 #[v0,v1,v2,v3,x] rfl ag).aW 4 v4 #[v0,v1,v2,v3,v4] rfl ag
section
variable {m:MV}
theorem AE.move{w w'}{P Q}{b}{v}(h:AE w P b v)(E:w.heap.size<=w'.heap.size)(G:∀b,P b->b<w.heap.size->w'.heap[b]? =w.heap[b]?)(I:∀b,P b->b<w.heap.size->Q b):AE w' Q b v:=by
 obtain⟨x,z,A,B⟩:=h;exact⟨x,z,A.move E G I,B⟩
def Lb{c}{tv}{xv}{g}{P:ca->Prop}{r}{bb}(o:w.heap.size≠rb)(hc:(c==11)=bb)(x:Hid (Bn t.text/\t.to=t.ah+t.text.size))(H:cL N rb sb m s r w w.heap.size D g (λw'=>P w'/\PE w' (λb=>w.heap.size<=b) a (.iface tv<|.agg xv)) k' w')(z:D.size=5)(A:g k'=.ok ((c,t,a),k'))(E:c=10\/c=11):∃W,W=(((((w'.setCell ⟨w.heap.size,0,ha⟩<|.bool bb).setCell ⟨w.heap.size,1,ha⟩<|Nv t.ah).setCell ⟨w.heap.size,2,ha⟩<|Nv t.to).setCell ⟨w.heap.size,3,ha⟩<|.string t.text).setCell ⟨w.heap.size,4,ha⟩<|.iface tv<|.agg xv)/\
 Bx W w.heap.size #[.bool bb,Nv t.ah,Nv t.to,.string t.text,.iface tv<|.agg xv]/\aC AE N rb sb m s r w (.returned<|.agg #[.bool bb,Nv t.ah,Nv t.to,.string t.text,.iface tv<|.agg xv]) W:=by
 have B:=(H.bo o).aiQ z (.bool bb) (Nv t.ah) (Nv t.to) (Sv t.text)<|Fv tv<|Av xv;subst hc;exact⟨_,rfl,B,(H.put o B<|df<|df<|df<|df<|df ⟨rfl,rfl,rfl,rfl,λ_ _=>rfl⟩).done (λV=>⟨_,rfl,V.2,E,x.1,x.2⟩) A⟩
def Dh(Y:s.size<=1000)(A:fk s n)(h:SX w N rb sb m s k)(hn:(ja s 0).length<=k+n):
 aa jv 140 #[rp rb] w (aC AE N rb sb m s (bindM (ja s 0) (bi (ja s 0) n) k) w):=by
 have Vr:=gV;have ZW:=jX;have hcE:∀args w,(callFunc 141 args).run jv w=.ok (.enter 141 args) w:=λ_ _=>qkr;have hcF:∀args w,(callFunc 83 args).run jv w=.ok (.enter 83 args) w:=λ_ _=>qkr;have o:w.heap.size≠rb:=by have:=h.z;omega
 cases hc:aT (tk (ja s 0) k) pS
 .refine cL.Az h (La hc) λH=>?_;go_in;go_wp;refine H.own.Fy hc ?_;go_wp2_with fail;refine H.own.name ?_;intro t Z H B;go_wp2_with fail;refine H.box.take ?_;intro w3 H;go_wp2_with fail;have⟨_,E,G,I⟩:=H.p;have⟨J,K,O⟩:=H.bo o
  cases hA:fin (ja s 0) (bi (ja s 0) n<|k+1+1)with
  |error f'=>
   go_region_dies
   all_goals(refine(A _ _ _ _ _ _ H.drew.sx ae).mono ?_;intro e S x;obtain⟨rfl,U⟩:=H.drew.lost (R':=AE) x hA;exact⟨rfl,U⟩)
  |ok rr=>
  obtain⟨a,k4⟩:=rr;go_region_with(go_at_call 141;refine(A _ _ _ _ _ _ H.drew.sx ae).mono ?_;intro e S x;obtain⟨v,rfl,H,V⟩:=H.drew.ba x hA;obtain⟨tv,xv,rfl⟩:=V.iface;have⟨⟨_,E,G,I⟩,_⟩:=H.p;have⟨J,K,O⟩:=H.bo o;clear x V)
  all_goals(
   go_wp2_with fail;obtain⟨_,rfl,⟨X,fF,zF⟩,h⟩:=Lb (c:=10) (bb:=ka) o rfl B H rfl rfl (.inl rfl)
   exact bodyPost_ret (by simp[results,Tryz.results140,go_sem,X]) rfl h)
 .refine cL.Az h (UX hc) λH=>?_;go_in;go_wp;refine H.own.Fx hc ?_;intro w1 H;go_wp2_with fail;refine H.name ?_;intro t Z H B;go_wp2_with fail;refine H.box.take ?_;intro w3 H;go_wp2_with fail;have⟨_,E,G,I⟩:=H.p;have⟨J,K,O⟩:=H.bo o
  cases hA:fin (ja s 0) (rf (ja s 0) (bi (ja s 0) n)<|k+1+1+1)with
  |error f'=>
   go_region_dies
   all_goals(refine(rD Y A H.drew.sx ae).mono ?_;intro e S x;obtain⟨rfl,U⟩:=H.drew.lost (R':=AE) x hA;exact⟨rfl,U⟩)
  |ok rr=>
  obtain⟨a,k4⟩:=rr;go_region_with(go_at_call 83;refine(rD Y A H.drew.sx ae).mono ?_;intro e S x;obtain⟨v,rfl,H,V⟩:=H.drew.ba x hA;obtain⟨tv,xv,rfl⟩:=V.iface;have⟨⟨_,E,G,I⟩,_⟩:=H.p;have⟨J,K,O⟩:=H.bo o;clear x V)
  all_goals(
   go_wp2_with fail;obtain⟨_,rfl,⟨X,fF,zF⟩,h⟩:=Lb (c:=11) (bb:=ia) o rfl B H rfl rfl (.inr rfl)
   exact bodyPost_ret (by simp[results,Tryz.results140,go_sem,X]) rfl h)
end
def mz m(f:α->M β)(g:β->M γ):aI (aI m f) g=aI m λa=>aI (f a) g:=by grind[aI]
def N'(T:List jc)(z x:M Nd):M (Nd×Nd):=aI z λp=>aI (bt T cH) λ_=>aI x λe k=>.ok ((p,e),k)
def ahH w P(a:Nd×Nd)(v:ea):=∃(A B:Int)(x z:ea),v=.agg #[Iv A,Iv B,x,z]/\PP w P a.1 x/\PE w P a.2 z
section
def Bx.ahI{b}(h:Bx w b C)(E:C.size=4)v0 v1 v2 v3:Bx ((((w.setCell ⟨b,0,ha⟩ v0).setCell ⟨b,1,ha⟩ v1).setCell ⟨b,2,ha⟩ v2).setCell ⟨b,3,ha⟩ v3) b #[v0,v1,v2,v3]:=by
 obtain⟨B,A,z,x,rfl⟩:∃B A z x,C=#[B,A,z,x]:=by
  obtain⟨l⟩:=C
  match l,E with
  |[a,b,c,d],_=>grind
 exact(((h.aW 0 v0 #[v0,A,z,x] rfl ag).aW 1 v1 #[v0,v1,z,x] rfl ag).aW 2 v2 #[v0,v1,v2,x] rfl ag).aW 3 v3 #[v0,v1,v2,v3] rfl ag
variable {m:MV}
def aaf{e}(I:mG e):mG (bindM T e):=λk a k' h=>by
 rw[bindM]at h;split at h
 .have⟨_,J,x,z⟩:=aB h;have⟨_,K,A,B⟩:=aB z;have⟨_,O,E,G⟩:=aB B
  cases G
  have:=eS _ _ _ _ x;have:=bz _ _ _ _ A;have:=Fe I _ _ _ E;omega
 .have⟨_,J,x,z⟩:=aB h;have⟨_,K,A,B⟩:=aB z;have⟨_,O,E,G⟩:=aB B
  cases G
  have:=eS _ _ _ _ x;have:=bz _ _ _ _ A;have:=I _ _ _ E;omega
def acB(K:s.size<=1000)(x:fk s n)(h:SX w N rb sb m s k)(hn:(ja s 0).length<=k+1+n):
 aa jv 84 #[rp rb] w (aC PE N rb sb m s (nK (ja s 0) (bi (ja s 0) n) k) w):=by
 have Vr:=gV;have ZW:=jX;refine cL.Az h rfl λH=>?_;go_in;go_wp;refine(H.re<|congrFun (mz _ _ _) _).take ?_;intro w1 H;go_wp2_with fail;refine H.call (Dh K x H.sx ae) ?_;intro b z v2 w2 H q V;obtain⟨E,rfl,V,-⟩:=V;obtain⟨te,xe,rfl⟩:=V.iface;clear V;have l2:k+1<z:=aaf (kG n) _ _ _ q;go_wp2_with fail;refine H.box.take ?_;intro w3 H;go_wp2_with fail;refine H.expr x ?_;intro c k4 t4 x4 w4 H l4;have⟨⟨_,G,I,J⟩,_⟩:=H.p
 go_wp2
 go_region_with(go_at_call 139;refine H.drew.since ?_;intro w5 H;have⟨⟨_,G,I,J⟩,_⟩:=H.p)
 all_goals(
  go_wp2
  go_ret;refine H.done ?_;rintro⟨⟨⟨_,E,e,A,B,C,D⟩,_⟩,V⟩
  cases e
  exact .lt _ _ _ _ _ _ _ _ _ _ _ B C D A V)
def adO(hs:s.size<=1000)(x:Bo s n)(S:fk s n)(h:SX w N rb sb m s k)(hn:(ja s 0).length<=k+n):
 aa jv 143 #[rp rb] w (aC ahH N rb sb m s (N' (ja s 0) (dG (ja s 0) n) (bi (ja s 0) n) k) w):=by
 have Vr:=gV;have ZW:=jX;have o:w.heap.size≠rb:=by have:=h.z;omega
 have⟨c0,f0,z0⟩:=h.bx;refine cL.Az h rfl λH=>?_;go_in;go_wp;refine H.own.LO x ?_;intro a k1 E G w1 H l1;go_wp2_with fail;refine H.take ?_;intro w2 H;go_wp2_with fail;refine H.expr S ?_;intro b I J K w3 H l3;go_wp2_with fail;refine H.since ?_;intro w4 H;have⟨c,f,z⟩:=H.bo o;go_wp2_with fail;have B:=(H.bo o).ahI rfl (Nv (tk (Pu.bP s 0) k).ah) (.int .i64 ((aF (Pu.bP s 0) I:Nat):Int)) (Fv E<|Av G) (Fv J<|Av K);obtain⟨O,fF,zF⟩:=B;exact bodyPost_ret (v:=Av #[Nv (tk (Pu.bP s 0) k).ah,.int .i64 ((aF (Pu.bP s 0) I:Nat):Int),Fv E<|Av G,Fv J<|Av K]) (by simp[results,Tryz.results143,go_sem,O]) rfl
  ((H.put o ⟨O,fF,zF⟩<|df<|df<|df<|df ⟨rfl,rfl,rfl,rfl,λ_ _=>rfl⟩).done λ⟨⟨_,A⟩,B⟩=>⟨_,_,_,_,rfl,A,B⟩)
end
def acC:(Tryz.prog.info? 247).map (λi=>(i.zero,i.size,i.bytes))=ga (ga<|.agg #[Iv 0,Iv 0,.nilIface,.nilIface],4,48):=qkr
def UY:Tryz.prog.underlying 244=ga (.slice 247):=qkr
def kI T LO expr f l:=λk=>if aT (tk T k) oN=ia then kY T LO expr f l (k+1)else .ok (l,k)
def FK T LO expr f l k:kY T LO expr (f+1) l k=aI (N' T LO expr) (λa=>kI T LO expr f<|l++[a.1,a.2]) k:=by
 rw[N'];rw[mz];show aI LO _ k=_;congr 1;funext p;rw[mz];congr 1;funext _;rw[mz];rfl
def Di{z x:M Nd}(A:aS T z)(B:aS T x):aS T (N' T z x):=fK A λ_=>fK (qV _ _) λ_=>fK B λ_=>Hl _
def gC T LO expr f l:aS T (kI T LO expr f l):=by grind[aS,kI,eM,dn]
def R_{z x:M Nd}(K:Ei z)(O:mG x):mG (N' T z x):=λk a k' h=>by
 rw[N']at h;have⟨_,k1,A,B⟩:=aB h;have⟨_,k2,E,G⟩:=aB B;have⟨_,k3,I,J⟩:=aB G
 cases J
 have:=K _ _ _ A;have:=bz _ _ _ _ E;have:=O _ _ _ I;omega
def Lc A p:aN (A++[p])=aN A++[p.1,p.2]:=by
 induction A with
 |nil=>rfl|cons q l ih=>show q.1::q.2::aN (l++[p])=q.1::q.2::(aN l++_);rw[ih]
def acD:EQ (Nd×Nd):=λw P a c=>(∃u1 u2:Int,c 0=Iv u1/\c 1=Iv u2)/\PP w P a.1 (c 2)/\PE w P a.2 (c 3)
def mA:fX acD:=λ_ _ _ _ _ _ h h1 h2 h3=>⟨h.1,h.2.1.move h1 h2 h3,h.2.2.move h1 h2 h3⟩
def ahJ x w P l v:=∃A,A≠[]/\l=x::aN A/\RowV acD 4 w P A v
section
variable {m:MV}
def Sa:Mov ahH:=λ_ _ _ _ _ _⟨a,b,c,d,e,f,g⟩p q r=>⟨a,b,c,d,e,f.move p q r,g.move p q r⟩
def Ld(hs:s.size<=1000)(hT:(ja s 0).length<=1001)(U:Bo s n)(IH:fk s n)(h:SX w N rb sb m s k)(hn:(ja s 0).length<=k+n)x:
 aa jv 142 #[rp rb,oD 143 rb] w (aC (ahJ x) N rb sb m s (kY (ja s 0) (dG (ja s 0) n) (bi (ja s 0) n) (ja s 0).length [x] k) w):=by
 have hcA:∀args w,(callFunc 143 args).run Tryz.prog w=.ok (.enter 143 args) w:=λ_ _=>qkr;have hk:=h.lt;obtain⟨r,X⟩:∃r,r=kY (Pu.bP s 0) (dG (Pu.bP s 0) n) (bi (Pu.bP s 0) n) (Pu.bP s 0).length [x] k:=⟨_,rfl⟩;rw[<-X];obtain⟨L,Y⟩:∃L,(Pu.bP s 0).length=L+1:=⟨(Pu.bP s 0).length-1,ae⟩;refine cL.Az h (by rw[X,Y];exact FK _ _ _ _ _ _) λH=>?_;have HL:=ai Y;clear X Y;go_in;go_wp;refine H.call (adO hs U IH h hn) ?_ (st:=λa=>gC _ _ _ _ _) (mv:=Sa);intro a k1 v1 w1 H q V;have l1:=R_ (oZ (T:=(Pu.bP s 0)) n) (kG n) _ _ _ q;obtain⟨z,B,vp,ve,rfl,E,G⟩:=V;obtain⟨I,J,rfl⟩:=E.iface;obtain⟨K,O,rfl⟩:=G.iface;have H:=(H.af<|bw _).row mA (dC.one (sz:=4) (et:=247) (lo:=w.heap.size) (c:=λj=>([Iv z,Iv B,Fv I<|Av J,Fv K<|Av O]:List ea).getD j Zv) mA ⟨⟨z,B,rfl,rfl⟩,E,G⟩ (br _) H.ke.size aD #[Iv z,Iv B,Fv I<|Av J,Fv K<|Av O] rfl rfl) ⟨br _,.inl rfl⟩;clear E G q
 go_wp2
 go_loopg[5] ((ja s 0).length-k1) (λgk v wr=>FA (·≠[]) acD 247 4 N rb sb m s (k+1) w r (λf A _=>kI (ja s 0) (dG (ja s 0) n) (bi (ja s 0) n) f (x::aN A)) gk v wr)
 case atStart=>exact⟨k1,[a],L,_,1,0,rfl,ag,H,ai rfl,l1,bQ,by have:=uh HL;omega⟩
 case round=>
  clear H HL;obtain⟨kr,A,f,va,vc,_,rfl,hA,H,Z,hle,hAl,hfu⟩:=hrel;have zw:=H.ke.size;have S:=H.p.block;have hkr:=H.sx.lt
  cases hb:aT (tk (ja s 0) kr) oN
  .have H:=H.re (g':=λk=>.ok (x::aN A,k)) (by dsimp only[kI];rw[hb];rfl);go_wp2_with fail;refine H.Fy hb ?_
   go_wp2
   go_ret;exact H.done λR=>⟨A,hA,rfl,R.v mA⟩
  .obtain⟨f,rfl⟩:∃f',f=f'+1:=⟨f-1,ae⟩;have H:=H.re (g':=aI qF λ_=>aI (N' (ja s 0) (dG (ja s 0) n)<|bi (ja s 0) n) λa=>kI (ja s 0) (dG (ja s 0) n) (bi (ja s 0) n) f (x::aN A++[a.1,a.2])) (by dsimp only[kI];rw[if_pos hb,FK];rfl);go_wp2_with fail;refine H.Fx hb ?_ (st:=λ_=>fK (Di (pC _)<|mX _) λa=>gC _ _ _ _ _);intro w2 H;go_wp2_with fail;have z2:=H.ke.size;have S:=H.p.block;refine H.call (adO hs U IH H.sx ae) ?_ (st:=λa=>gC _ _ _ _ _) (mv:=Sa);intro a k2 v1 w1 H q V;have l2:=R_ (oZ (T:=(ja s 0)) n) (kG n) _ _ _ q;obtain⟨z,B,vp,ve,rfl,E,G⟩:=V;obtain⟨I,J,rfl⟩:=E.iface;obtain⟨K,O,rfl⟩:=G.iface;go_wp2_with(at_builtin;go_must(refine H.append (D:=[Iv z,Iv B,Fv I<|Av J,Fv K<|Av O]) hT mA acC UY H.p.1 z2 (λb e=>(S b e).2) (c:=λj=>([Iv z,Iv B,Fv I<|Av J,Fv K<|Av O]:List ea).getD j Zv) ⟨⟨z,B,rfl,rfl⟩,E,G⟩ ae ?_;intro q3 c3 w3 H));go_roundg((ja s 0).length-k2)
   case measure=>rw[uh Z];omega
   case rel=>exact⟨k2,A++[a],f,_,c3,0,ag,ag,H.re (by dsimp only;rw[Lc];rfl),ai rfl,ae,bQ,ae⟩
end
section
variable {m:MV}
def RowV.mt{lo}{w w0:ca}{A}{va}{vc}(h:RowV acD 4 w (λb=>lo<=b) A (.slice va A.length vc))(K:A≠[])(I:w0.heap.size<=lo){x}{vx}(hx:PE w (λb=>w0.heap.size<=b) x vx)f t a:
 PE w (λb=>w0.heap.size<=b) (.mk 13 cX 0 (x::aN A) f t a) (.iface 250<|.agg #[Nv f,Nv t,vx,.slice va A.length vc]):=by
 obtain⟨va',vc',J,O,z,E⟩:=h
 cases O
 obtain S|⟨g,rfl,U,V,B⟩:=z
 .exact absurd S K
 have G:∀b,lo<=b->w0.heap.size<=b:=λb p=>jy I p;refine .mt _ _ x A f t a vx g vc (λi=>J i 2) (λi=>J i 3) K (G g U) V (λi hi=>?_) hx (λi hi=>(E i hi).2.1.wide G)<|λi hi=>(E i hi).2.2.wide G;have⟨X,Y,Z,e2⟩:=(E i hi).1;exact⟨⟨X,Y,by rw[<-Z];exact B i hi 0 aD,by rw[<-e2];exact B i hi 1 aD⟩,B i hi 2 aD,B i hi 3 aD⟩
def NT{n}(hT:0<T.length)x:aS T (kY T (dG T n) (bi T n) T.length [x]):=by
 obtain⟨L,z⟩:∃L,T.length=L+1:=⟨T.length-1,ae⟩;rw[z];intro k h;rw[FK];exact b_ (Di (pC _) (mX _) k h) λ_=>gC _ _ _ _ _
def acE(I:s.size<=1000)(J:(ja s 0).length<=1001)(z:Bo s n)(B:fk s n)(h:SX w N rb sb m s k)(hn:(ja s 0).length<=k+1+n):
 aa jv 86 #[rp rb] w (aC PE N rb sb m s (oO (ja s 0) (dG (ja s 0) n) (bi (ja s 0) n) k) w):=by
 have Vr:=gV;have ZW:=jX;have hT0:0<(ja s 0).length:=by have:=h.lt;omega
 refine cL.Az h rfl λH=>?_;go_in;go_wp;refine H.take ?_;intro w1 H;go_wp2_with fail;refine H.expr B ?_;intro x k2 t2 x2 w2 H l2;go_wp2_with fail;refine H.take ?_;intro w3 H;go_wp2_with fail;refine H.call (Ld I J z B H.sx ae x) ?_ (mv:=λ_ _ _ _ _ _⟨A,a,b,c⟩p q r=>⟨A,a,b,c.move mA p q r⟩);intro l k4 E w4 H q V;obtain⟨va,L,vc,rfl⟩:∃va L vc,E=Lv va L vc:=by obtain⟨_,-,-,_,_,_,rfl,-⟩:=V;exact⟨_,_,_,rfl⟩
 clear q V;go_wp2_with fail;refine H.take ?_;intro w5 H;go_wp2_with fail;refine H.since ?_;intro w6 H
 go_wp2
 go_ret;refine H.done ?_;rintro⟨⟨_,V⟩,A,a,rfl,_,_,G,e,R⟩
 cases e
 exact RowV.mt ⟨_,_,G,rfl,R⟩ a (br _) V _ _ _
def tD(h:SX w N rb sb m s k)(A:ba (aq<|tk (ja s 0) k) (Pf rb)=ga (oD F rb)\/ba (aq<|tk (ja s 0) k) (Pf rb)=ha/\F=164)(hcf:∀args w,(callFunc F args).run jv w=.ok (.enter F args) w)(U:∀W,SX W N rb sb m s k->aa jv F #[rp rb] W (aC PE N rb sb m s r W)):aa jv 141 #[rp rb] w (aC PE N rb sb m s r w):=by
 have⟨b,hmb,_,_,G⟩:=h.ev.mp.wd;have J:=λq=>eO (G.same (w':=w.drewN q) rfl) Tryz.underlying123 (tB _)<|aq<|tk (ja s 0) k;have B:=eO G Tryz.underlying123 (tB _)<|aq<|tk (ja s 0) k;have⟨c,ff,z⟩:=h.bx;obtain A|⟨A,rfl⟩:=A
 all_goals(
  simp only[A,kT]at J B;clear A;go_wp2
  go_quiet(fail);go_wp2_with fail;refine(U _<|h.af<|below_drewN _ nq).mono ?_;intro e w1 E
  cases hA:fin (ja s 0) r with
  |error f'=>
   obtain⟨rfl,x⟩:=E.bad hA;exact⟨rfl,qt ((Ke.of<|below_drewN _ nq).trans x) hA⟩
  |ok p=>
  obtain⟨a,k2⟩:=p;obtain⟨v,rfl,x,K,I⟩:=E.ok hA;obtain⟨tv,xv,rfl⟩:=I.iface;have O:=ai (ug hA).1;have S:=(Ke.of<|below_drewN w nq).trans x;clear E hA x
  go_wp2
  go_ret
  exact qs O S K I)
def UZ(x:s.size<=1000)(A:(ja s 0).length<=1001)(z:fk s n):fk s (n+1):=by
 intro w N rb sb m k h hn;show aa _ _ _ _<|aC PE N rb sb m s (if aT (tk (ja s 0) k) wT=ia then rf (ja s 0) (bi (ja s 0) n) k else if aT (tk (ja s 0) k) W7=ia then kX (ja s 0) (bi (ja s 0) n) k else if aT (tk (ja s 0) k) gW=ia then oO (ja s 0) (dG (ja s 0) n) (bi (ja s 0) n) k else if aT (tk (ja s 0) k) jZ=ia then nK (ja s 0) (bi (ja s 0) n) k else(nF (ja s 0)<|q_ (ja s 0)<|dN (ja s 0)<|cd (ja s 0)<|yh s n) k) w
 cases n0:aT (tk (ja s 0) k) wT
 .cases n1:aT (tk (ja s 0) k) W7
  .cases n2:aT (tk (ja s 0) k) gW
   .cases n3:aT (tk (ja s 0) k) jZ
    .exact tD h (.inr ⟨tC (eY s k h.lt) h.ok (by simp[n0,n1,n2,n3];decide),rfl⟩) (λ_ _=>qkr) λW S=>FI x A z S ae
    .exact tD h (.inl (by rw[gu n3];rfl)) (λ_ _=>qkr) λW S=>acB x z S ae
   .exact tD h (.inl (by rw[gu n2];rfl)) (λ_ _=>qkr) λW S=>acE x A (Dg x A n) z S ae
  .exact tD h (.inl (by rw[gu n1];rfl)) (λ_ _=>qkr) λW S=>aae x z S ae
 .exact tD h (.inl (by rw[gu n0];rfl)) (λ_ _=>qkr) λW S=>rD x z S ae
def aag(x:s.size<=1000)(z:(ja s 0).length<=1001):∀n,fk s n
 |0=>λw N rb sb m k h hn=>by have:=h.lt;omega|n+1=>UZ x z<|aag x z n
end
def gY T mk f l k:dU T mk (f+1) l k=aI mk (λx=>iO T mk (dU T mk f)<|l++[x]) k:=rfl
theorem jC T mk go l:aS T (iO T mk go l):=by grind[aS,iO,eM,dn]
theorem wL T sm:aS T (cR T sm):=by grind[aS,cR,fK,qX,jA]
theorem uU(A:∀k a k',sm k=.ok (a,k')->k<k'):mG (cR T sm):=λk a k' h=>by
 rw[cR]at h;have⟨_,k1,x,z⟩:=aB h;have:=eS _ _ _ _ x;have:=An A 1 _ _ _ _ _ z;omega
def QMaker:EQ Nd:=λw P nd c=>∃(s:BA)(n:Nat)(L:List Nd)(f t a y:Nat)(v:ea),nd=.mk 2 s n L f t a/\c 0=Nv f/\c 1=Nv t/\c 2=Nv a/\c 3=Nv y/\c 4=.string s/\c 5=v/\p_ s/\y=a+s.size/\RowV (Q1 PT) 1 w P L v
def cS:fX QMaker:=λ_ _ _ _ _ _ h h1 h2 h3=>by
 obtain⟨s,n,L,f,t,a,y,v,x,z,A,B,E,G,I,J,K,O⟩:=h;exact⟨s,n,L,f,t,a,y,v,x,z,A,B,E,G,I,J,K,O.move ZY h1 h2 h3⟩
def FL w P nd(v:ea):=∃c:Nat->ea,v=.agg #[c 0,c 1,c 2,c 3,c 4,c 5]/\QMaker w P nd c
section
variable {m:MV}
def Le{k}(h:dk (ja s 0) 2 k=.ok (t,k'))(x:k<(ja s 0).length):p_ t.text/\t.to=t.ah+t.text.size:=by
 rw[dk]at h;split at h
 .rename_i hq
  cases h
  exact⟨(eY s k x).v2<|by simpa using hq,(o7 s k x).sp⟩
 .cases h
def Bx.ahK{w}{b}(h:Bx w b C)(I:C.size=6)v0 v1 v2 v3 v4 v5:Bx ((((((w.setCell ⟨b,0,ha⟩ v0).setCell ⟨b,1,ha⟩ v1).setCell ⟨b,2,ha⟩ v2).setCell ⟨b,3,ha⟩ v3).setCell ⟨b,4,ha⟩ v4).setCell ⟨b,5,ha⟩ v5) b #[v0,v1,v2,v3,v4,v5]:=by
 obtain⟨G,E,B,A,z,x,rfl⟩:∃G E B A z x,C=#[G,E,B,A,z,x]:=by
  obtain⟨l⟩:=C
  match l,I with
  |[a,b,c,d,e,f],_=>grind
 exact(((((h.aW 0 v0 #[v0,E,B,A,z,x] rfl ag).aW 1 v1 #[v0,v1,B,A,z,x] rfl ag).aW 2 v2 #[v0,v1,v2,A,z,x] rfl ag).aW 3 v3 #[v0,v1,v2,v3,z,x] rfl ag).aW 4 v4 #[v0,v1,v2,v3,v4,x] rfl ag).aW 5 v5 #[v0,v1,v2,v3,v4,v5] rfl ag
def RowV.sv{Q}{sz}{L:List α}{v:ea}(h:RowV Q sz w P L v)(x:fX Q){b:Nat}(z:∀c,P c->c≠b)(j:Nat)(u:ea):RowV Q sz (w.setCell ⟨b,j,ha⟩ u) P L v:=h.move x BL (λc p _=>qx _ _ _ _<|z c p)<|λ_ p _=>p
def Sb(E:s.size<=1000)(J:(ja s 0).length<=1001)(h:SX w N rb sb m s k)(hn:(ja s 0).length<=k+1+n):aa jv 138 #[rp rb] w (aC FL N rb sb m s (cR (ja s 0) (Df s n) k) w):=by
 have o:w.heap.size≠rb:=by have:=h.z;omega
 have x:=h.lt;refine cL.Az h rfl λH=>?_;go_in;go_wp;refine H.own.call (uk H.own.sx E 2 G_<|Or.inr ⟨rfl,rfl⟩) ?_ (st:=λ_ k h=>jA _ _ _ _ k h);intro t k1 v w1 H q V
 cases V
 have G:=ai<|Le q x
 cases eS _ _ _ _ q
 clear q;have H:=H.box (D:=#[Nv t.ah,Nv t.to,Sv t.text]) (t:=92);have⟨K,O,U⟩:=H.sx.bx;go_wp2_with fail;clear K O U;refine(H.re<|FC (da (ja s 0) (Df s n) 1 (ja s 0).length<|.mk 2 t.text 0 [] t.ah (aF (ja s 0)<|k+1) t.ah)<|k+1).call (Z8 (R:=PT) J (.inl ⟨rfl,rfl,rfl⟩) PT.iface (λ_ _ _ _ _ _ h a b c=>h.move a b c) (cI (dz (T:=(ja s 0)) n) (dz n) 1) (λw k' S l=>ahF E (Z' E J n) S ae) H.sx t.text t.ah (aF (ja s 0)<|k+1) t.ah) ?_ (mv:=KZ λ_ _ _ _ _ _ h a b c=>h.move a b c);intro a A v w3 H q V;have⟨L',B⟩:=rC _ _ _ _ _ q;subst B;obtain⟨va,L,vc,rfl⟩:=V.sl;clear V q;have⟨⟨_,d3,g3,x3⟩,_⟩:=H.p;have⟨c3,f3,y3⟩:=H.bo o
 go_wp2
 go_region_with(go_at_call 139;refine H.drew.since ?_;intro w4 H;have⟨⟨_,d4,g4,x4⟩,_⟩:=H.p;have⟨c4,f4,y4⟩:=H.bo o)
 all_goals(
  go_wp2_with fail;have⟨I,fF,zF⟩:=(H.bo o).ahK rfl (Nv t.ah) (.int .i64 ((aF (ja s 0) A:Nat):Int)) (Nv t.ah) (Nv t.to) (Sv t.text) (Lv va L vc);refine bodyPost_ret (v:=Av #[Nv t.ah,.int .i64 ((aF (ja s 0) A:Nat):Int),Nv t.ah,Nv t.to,Sv t.text,Lv va L vc]) (by simp[results,Tryz.results138,go_sem,I]) rfl ((H.put o ⟨I,fF,zF⟩<|df<|df<|df<|df<|df<|df ⟨rfl,rfl,rfl,rfl,λ_ _=>rfl⟩).done ?_);rintro⟨_,L1,fr,tz,at_,e,R⟩;injection e with _ _ _ X Y Z e6;subst X Y Z e6
  exact⟨λj=>([Nv t.ah,.int .i64 ((aF (ja s 0) A:Nat):Int),Nv t.ah,Nv t.to,Sv t.text,Lv va L vc]:List ea).getD j Zv,rfl,_,_,_,_,_,_,_,_,rfl,rfl,rfl,rfl,rfl,rfl,rfl,G.1,G.2,R⟩)
end
def U6:(Tryz.prog.info? 175).map (λi=>(i.zero,i.size,i.bytes))=ga (ga<|.agg #[Iv 0,Iv 0,Iv 0,Iv 0,.string ⟨#[]⟩,.slice ha 0 0],6,72):=qkr
def Lf:Tryz.prog.underlying 94=ga (.slice 175):=qkr
def FL.open{nd}{v}(h:FL w P nd v):∃(s:BA)(n:Nat)(L:List Nd)(f t a y:Nat)(va:Option Addr)(vc:Nat),nd=.mk 2 s n L f t a/\v=.agg #[Nv f,Nv t,Nv a,Nv y,.string s,.slice va L.length vc]/\p_ s/\y=a+s.size/\RowV (Q1 PT) 1 w P L (.slice va L.length vc):=by
 obtain⟨c,rfl,s,n,L,f,t,a,y,v,A,B,E,G,I,J,K,O,S,z⟩:=h;have x:=z;obtain⟨va,vc,cs,rfl,_,_⟩:=z;exact⟨s,n,L,f,t,a,y,va,vc,A,by rw[B,E,G,I,J,K],O,S,x⟩
def Dj:Mov FL:=λ_ _ _ _ _ _⟨c,h1,h2⟩p q r=>⟨c,h1,cS _ _ _ _ _ _ h2 p q r⟩
def acF w P l v:=l≠[]/\RowV QMaker 6 w P l v
section
variable {m:MV}
def Bp(hs:s.size<=1000)(hT:(ja s 0).length<=1001)(h:SX w N rb sb m s k)(hn:(ja s 0).length<=k+1+n):
 aa jv 137 #[rp rb,oD 138 rb] w (aC acF N rb sb m s (dU (ja s 0) (cR (ja s 0)<|Df s n) (ja s 0).length [] k) w):=by
 have hcA:∀args w,(callFunc 138 args).run Tryz.prog w=.ok (.enter 138 args) w:=λ_ _=>qkr;have hk:=h.lt;obtain⟨r,Z⟩:∃r,r=dU (Pu.bP s 0) (cR (Pu.bP s 0)<|Df s n) (Pu.bP s 0).length [] k:=⟨_,rfl⟩;rw[<-Z];obtain⟨L,hL⟩:∃L,(Pu.bP s 0).length=L+1:=⟨(Pu.bP s 0).length-1,ae⟩;refine cL.Az h (by rw[Z,hL];exact gY _ _ _ _ _) λH=>?_;have HL:=ai hL;clear Z hL;go_in;go_wp;refine H.call (Sb (n:=n) hs hT h hn) ?_ (st:=λa=>jC _ _ _ _) (mv:=Dj);intro a k1 v1 w1 H q V;have l1:=uU (T:=(Pu.bP s 0)) (cI (dz n) (dz n) 1) _ _ _ q;obtain⟨E,O,G,x,I,J,K,z,B,rfl,rfl,X,S,Y⟩:=V.open;have H:=(H.af<|bw _).row cS (dC.one (sz:=6) (et:=175) (lo:=w.heap.size) (c:=λj=>([Nv x,Nv I,Nv J,Nv K,Sv E,Lv z G.length B]:List ea).getD j Zv) cS ⟨E,O,G,x,I,J,K,_,rfl,rfl,rfl,rfl,rfl,rfl,rfl,X,S,Y⟩ (br _) H.ke.size aD #[Nv x,Nv I,Nv J,Nv K,Sv E,Lv z G.length B] rfl rfl) ⟨br _,.inl rfl⟩;clear X S Y V q
 go_wp2
 go_loopg[5] ((ja s 0).length-k1) (λgk v wr=>FA (·≠[]) QMaker 175 6 N rb sb m s (k+1) w r (λf A _=>iO (ja s 0) (cR (ja s 0)<|Df s n) (dU (ja s 0) (cR (ja s 0)<|Df s n) f) A) gk v wr)
 case atStart=>exact⟨k1,[Nd.mk 2 E O G x I J],L,_,1,0,rfl,ag,H,ai rfl,l1,bQ,by have:=uh HL;omega⟩
 case round=>
  clear H HL;obtain⟨kr,A,f,va,vc,_,rfl,hA,H,a0,hle,hAl,hfu⟩:=hrel;have zw:=H.ke.size;have U:=H.p.block;have hkr:=H.sx.lt
  cases hb:aT (tk (ja s 0) kr) oN
  .have H:=H.re (g':=λk=>.ok (A,k)) (by dsimp only[iO];rw[hb];rfl);go_wp2_with fail;refine H.Fy hb ?_
   go_wp2
   go_ret;exact H.done λR=>⟨hA,R.v cS⟩
  .obtain⟨f,rfl⟩:∃x,f=x+1:=⟨f-1,ae⟩;have H:=H.re (g':=aI qF λ_=>aI (cR (ja s 0)<|Df s n) λa=>iO (ja s 0) (cR (ja s 0)<|Df s n) (dU (ja s 0) (cR (ja s 0)<|Df s n) f)<|A++[a]) (by dsimp only[iO];rw[if_pos hb,gY];rfl);go_wp2_with fail;refine H.Fx hb ?_ (st:=λ_=>fK (wL _ _) λa=>jC _ _ _ _);intro w2 H;go_wp2_with fail;have z2:=H.ke.size;have U:=H.p.block;refine H.call (Sb (n:=n) hs hT H.sx ae) ?_ (st:=λa=>jC _ _ _ _) (mv:=Dj);intro a k2 v1 w1 H q V;have l2:=uU (T:=(ja s 0)) (cI (dz n) (dz n) 1) _ _ _ q;obtain⟨E,O,G,x,I,J,K,z,B,rfl,rfl,X,S,Y⟩:=V.open
   replace S:=ai S
   go_wp2_with(at_builtin;go_must(refine H.append (a:=.mk 2 E O G x I J) (D:=[Nv x,Nv I,Nv J,Nv K,Sv E,Lv z G.length B]) hT cS U6 Lf H.p.1 z2 (λb e=>(U b e).2) (c:=λj=>([Nv x,Nv I,Nv J,Nv K,Sv E,Lv z G.length B]:List ea).getD j Zv) ⟨E,O,G,x,I,J,K,_,rfl,rfl,rfl,rfl,rfl,rfl,rfl,X,S,Y⟩ ae ?_;intro q3 c3 w3 H));go_roundg((ja s 0).length-k2)
   case measure=>rw[uh a0];omega
   case rel=>exact⟨k2,A++[Nd.mk 2 E O G x I J],f,_,c3,0,ag,ag,H,ai rfl,ae,bQ,ae⟩
end
def NU(T:List jc):∀f l,aS T<|iE T f l
 |0,l=>λk h=>dn _ h|f+1,l=>λk h=>by unfold iE;rw[if_neg ae];exact dn _ h
def AF(T:List jc):∀f l k a k',iE T f l k=.ok (a,k')->k<=k'
 |0,l,k,a,k',h=>by cases h;omega|f+1,l,k,a,k',h=>by
  unfold iE at h;split at h
  .have:=AF T f _ _ _ _ h;omega
  .cases h;omega
def Fw(hT:0<T.length):aS T (dU T (cR T sm) T.length []):=by
 obtain⟨L,x⟩:∃L,T.length=L+1:=⟨T.length-1,ae⟩;rw[x];intro k h;rw[gY];exact b_ (wL _ _ k h) λ_=>jC _ _ _ _
def wM{T:List jc}{mk:M Nd}(z:mG mk):∀f l k a k',dU T mk f l k=.ok (a,k')->k<=k'
 |0,l,k,a,k',h=>by cases h;omega|f+1,l,k,a,k',h=>by
  rw[gY]at h;have⟨_,k1,A,x⟩:=aB h;have:=z _ _ _ A;rw[iO]at x;split at x
  .have:=wM z f _ _ _ _ x;omega
  .cases x;omega
def QName:EQ jc:=λ_ _ t c=>c 0=Nv t.ah/\c 1=Nv t.to/\c 2=.string (t.text.extract 1 t.text.size)/\(∃r,t.text.toList=39::r)/\t.to=t.ah+t.text.size
def eI:fX QName:=by grind[fX,QName]
def aah:(Tryz.prog.info? 92).map (λi=>(i.zero,i.size,i.bytes))=ga (ga<|.agg #[Iv 0,Iv 0,.string ⟨#[]⟩],3,32):=qkr
def Oa:Tryz.prog.underlying 93=ga (.slice 92):=qkr
def PD(w:ca)(P:Nat->Prop):Dc->ea->Prop
 |.ty t vs ms,v=>∃(f u:Int)(x z:ea),v=.iface 96 (.agg #[Iv f,Iv u,Nv t.ah,Nv t.to,.string t.text,x,z])/\p_ t.text/\t.to=t.ah+t.text.size/\RowV QName 3 w P vs x/\ms≠[]/\RowV QMaker 6 w P ms z|.lt r t b,v=>∃(f u:Int)(x:ea),v=.iface 103 (.agg #[Iv f,Iv u,.bool r,Nv t.ah,Nv t.to,.string t.text,x])/\Bn t.text/\t.to=t.ah+t.text.size/\PE w P b x
theorem PD.move{w w'}{P Q}{d}{v}(h:PD w P d v)(E:w.heap.size<=w'.heap.size)(G:∀b,P b->b<w.heap.size->w'.heap[b]? =w.heap[b]?)(I:∀b,P b->b<w.heap.size->Q b):PD w' Q d v:=by
 cases d with
 |ty t vs ms=>
  obtain⟨f,u,J,K,x,z,A,B,O,S⟩:=h;exact⟨f,u,J,K,x,z,A,B.move eI E G I,O,S.move cS E G I⟩
 |lt r t b=>
  obtain⟨f,u,J,x,z,A,B⟩:=h;exact⟨f,u,J,x,z,A,B.move E G I⟩
def PD.iface{v}(h:PD w P d v):∃t x,v=.iface t (.agg x):=by
 cases d with
 |ty t vs ms=>obtain⟨f,u,vv,vm,z,_⟩:=h;exact⟨_,_,z⟩
 |lt r t b=>obtain⟨f,u,vb,z,_⟩:=h;exact⟨_,_,z⟩
def acG N rb sb m s k2 nb NC w r(G:List jc->M Dc)(z:Nat)(v:ea)(wr:ca):=
 ∃(x:Nat)(V:List jc)(f:Nat)(va:Option Addr)(vc:Nat),v=.slice va V.length vc/\cL N rb sb m s r w nb NC (aI (iE (ja s 0) f V) G) (λw'=>dC QName 92 3 w' (nb+1) va vc V) x wr/\Hid (z=(ja s 0).length-x)/\k2<=x/\V.length<=x/\(ja s 0).length<=x+f
section
variable {m:MV}
def aai(h:gh t)(z:t.kind≠6):((aq t).toList==[97,32,118,97,114,105,97,98,108,101])=(t.kind==3):=by
 obtain x|x|x|x|x|x|x:=h.kd
 .rw[iZ x];simp[x,qr]
 .rw[hY x];simp[x,qr]
 .rw[h_ x];simp[x,qr]
 .rw[i_ x];simp[x,qr]
 .have:=l9 h z (kd:=uf) aD x;rw[show uf.toList=[97,32,118,97,114,105,97,98,108,101]from toList_mk _]at this;rw[this];simp[x]
 .exact absurd x z
 .rw[jr x];simp[x,qr]
def AG(h:SX w N rb sb m s k)(z:s.size<=1000)(A:(tk (ja s 0) k).kind=3):aa jv 136 #[rp rb] w (aC (Is<|.agg #[Nv (tk (ja s 0) k).ah,Nv (tk (ja s 0) k).to,.string<|(tk (ja s 0) k).text.extract 1 (tk (ja s 0) k).text.size]) N rb sb m s (.ok ((),k+1)) w):=
 (jW h.rd z (sB s k h.lt) A<|eY s k h.lt).mono λ_ _ q=>q.x h ae rfl
def U7(G:s.size<=1000)(I:fk s n)(h:SX w N rb sb m s k)(hn:(ja s 0).length<=k+1+n):
 aa jv 82 #[rp rb] w (aC PD N rb sb m s (Ad (ja s 0) (bi (ja s 0) n) k) w):=by
 have Vr:=gV;have ZW:=jX;refine cL.Az h rfl λH=>?_;go_in;go_wp;refine(H.re<|congrFun (mz _ _ _) _).take ?_;intro w1 H;go_wp2_with fail;refine H.call (Dh G I H.sx ae) ?_;intro b k2 v2 w2 H q V;obtain⟨x,rfl,V,-⟩:=V;obtain⟨te,xe,rfl⟩:=V.iface;clear V;go_wp2_with fail;refine H.box.take ?_;intro w3 H;have⟨_,z,B,E⟩:=H.p
 go_wp2
 go_region_with(go_at_call 139;refine H.drew.since ?_;intro w5 H;have⟨_,z,B,E⟩:=H.p)
 all_goals(
  go_wp2
  go_ret;refine H.done ?_;rintro⟨⟨_,x,e,A,_,C,D⟩,_⟩
  cases e
  exact⟨_,_,_,rfl,C,D,A⟩)
def Ob(Z:s.size<=1000)(hT:(ja s 0).length<=1001)(h:SX w N rb sb m s k)(hn:(ja s 0).length<=k+1+n):
 aa jv 81 #[rp rb] w (aC PD N rb sb m s (Af (ja s 0) (cR (ja s 0)<|Df s n) k) w):=by
 have Vr:=gV;have ZW:=jX;have hT0:0<(ja s 0).length:=by have:=h.lt;omega
 have hz:=h.z;obtain⟨r,J⟩:∃r,r=Af (Pu.bP s 0) (cR (Pu.bP s 0)<|Df s n) k:=⟨_,rfl⟩;rw[<-J];refine cL.Az h J λH=>?_;clear J;go_in;go_wp;refine H.take ?_;intro w1 H;go_wp2_with fail;have K:=H.sx.lt;refine H.call (uk H.sx Z 2 G_<|Or.inr ⟨rfl,rfl⟩) ?_;intro t O v I H q V
 cases V
 have Ht:=ai<|Le q K;have ek:=eS _ _ _ _ q;have z2:=H.ke.size;clear q;go_wp2_with fail;have H:=H.own (D:=#[Nv t.ah,Nv t.to,Sv t.text]) (t:=92);have hk2:=H.sx.lt;go_loopg[5] ((ja s 0).length-O) (λgk v wr=>acG N rb sb m s O I.heap.size #[Nv t.ah,Nv t.to,Sv t.text] w r (λvs=>aI (bt (ja s 0) tN) λ_=>aI (dU (ja s 0) (cR (ja s 0)<|Df s n) (ja s 0).length []) λms=>aI (bt (ja s 0) dK) λ_ k=>.ok (Dc.ty t vs ms,k)) gk v wr)
 case atStart=>exact⟨O,[],(ja s 0).length,ha,0,rfl,H.row eI (dC.nil _ _ _ _ _) ⟨ae,.inr ae⟩,ai rfl,br _,ag,ae⟩
 case round=>
  clear H;obtain⟨x,V,f,va,vc,rfl,H,S,hle,hVl,hfu⟩:=hrel;have E:=H.sx.lt;have ho:=eY s x E;have A:=aai ho H.sx.ok;have⟨c,ff,z⟩:=H.sx.bx;by_cases B:(tk (ja s 0) x).kind=3
  .rw[B]at A;obtain⟨f,rfl⟩:∃f',f=f'+1:=⟨f-1,ae⟩;have H:=H.re (g':=aI qF λ_=>aI (iE (ja s 0) f<|V++[(tk (ja s 0) x)])<|λvs=>aI (bt (ja s 0) tN) λ_=>aI (dU (ja s 0) (cR (ja s 0)<|Df s n) (ja s 0).length []) λms=>aI (bt (ja s 0) dK) λ_ k=>.ok (Dc.ty t vs ms,k)) (by rw[aI];rw[show iE (ja s 0) (f+1) V x=iE (ja s 0) f (V++[(tk (ja s 0) x)]) (x+1)from if_pos B];rfl);have zr:=H.xz;have U:=H.p.block;have G:=ai<|And.intro (ho.v3 B) (o7 s x E).sp;go_wp2_with fail;refine H.call (AG H.sx Z B) ?_;intro _ _ _ w1' H q V'
   cases V'
   cases q
   clear c ff z A;go_wp2_with(at_builtin;go_must(refine H.append (D:=[Nv (tk (ja s 0) x).ah,Nv (tk (ja s 0) x).to,Sv<|(tk (ja s 0) x).text.extract 1 (tk (ja s 0) x).text.size]) hT eI aah Oa H.p.1 (wr:=wr) zr (λb e=>(U b e).2) (a:=(tk (ja s 0) x)) (c:=λj=>([Nv (tk (ja s 0) x).ah,Nv (tk (ja s 0) x).to,Sv<|(tk (ja s 0) x).text.extract 1 (tk (ja s 0) x).text.size]:List ea).getD j Zv) ⟨rfl,rfl,rfl,G.1,G.2⟩ ae ?_ ⟨ae,.inr ae,H.xz⟩;intro q3 c3 w3 H));go_roundg((ja s 0).length-(x+1))
   case measure=>rw[uh S];omega
   case rel=>exact⟨x+1,V++[(tk (ja s 0) x)],f,_,c3,ag,H,ai rfl,ae,bQ,ae⟩
  .rw[show((tk (ja s 0) x).kind==3)=ka by simp[B]]at A;have H:=H.re (g':=(λvs=>aI (bt (ja s 0) tN) λ_=>aI (dU (ja s 0) (cR (ja s 0)<|Df s n) (ja s 0).length []) λms=>aI (bt (ja s 0) dK) λ_ k=>.ok (Dc.ty t vs ms,k)) V) (by rw[aI];rw[show iE (ja s 0) f V x=.ok (V,x) by cases f with|zero=>rfl|succ f=>exact if_neg B]);have H:=(H.add (Q:=λw'=>RowV QName 3 w' (λb=>w.heap.size<=b) V<|Lv va V.length vc) λw' a b=>(H.p.v eI).move eI a (λc p z=>b c z (by have G:I.heap.size+1<=c:=p;omega) (by have G:I.heap.size+1<=c:=p;omega)) λc p _=>by have G:I.heap.size+1<=c:=p;show w.heap.size<=c;omega).imp λ_ h=>h.2;go_wp2_with fail;clear c ff z;refine H.take ?_;intro w3 H;go_wp2_with fail;refine H.call (Bp (n:=n) Z hT H.sx ae) ?_ (mv:=λ_ _ _ _ _ _ h a b c=>⟨h.1,h.2.move cS a b c⟩);intro ms k4 U w4 H q Y;obtain⟨va4,L4,vc4,rfl⟩:∃va L vc,U=Lv va L vc:=by obtain⟨_,_,_,_,rfl,-⟩:=Y;exact⟨_,_,_,rfl⟩
   clear q Y;go_wp2_with fail;refine H.take ?_;intro w5 H;have⟨c1,f1,y1⟩:=H.bo ae
   go_wp2
   go_region_with(go_at_call 139;refine H.drew.since ?_;intro w6 H;have⟨c6,f6,y6⟩:=H.bo ae)
   all_goals(
    go_wp2
    go_ret;refine H.done ?_;rintro⟨X,Y⟩
    exact⟨_,_,_,_,rfl,Ht.1,Ht.2,X,Y⟩)
end
def J9{d:M Dc}(h:aT (tk T k) jY=ia\/aT (tk T k) jZ=ia):dc T d (f+1) l k=aI d (λx=>dc T d f<|l++[x]) k:=by grind[aT,tk,dc,aI]
def CV{d:M Dc}(h:aT (tk T k) jY=ka)(x:aT (tk T k) jZ=ka):dc T d f l k=.ok (l,k):=by
 cases f with
 |zero=>rfl|succ f=>unfold dc;rw[h,x];rfl
def vR(T:List jc)(d:M Dc):∀f l,aS T<|dc T d f l
 |0,l=>λk h=>dn _ h|f+1,l=>λk h=>by unfold dc;rw[eM h,eM h,if_neg ag];exact dn _ h
theorem aaj{mk}(V:mG mk):mG (Af T mk):=λk a k' h=>by
 rw[Af]at h;have⟨_,k1,B,E⟩:=aB h;have⟨_,k2,G,I⟩:=aB E;have⟨_,k3,J,K⟩:=aB I;have⟨_,k4,O,S⟩:=aB K;have⟨_,k5,U,x⟩:=aB S;have⟨_,k6,z,A⟩:=aB x
 cases A
 have:=bz _ _ _ _ B;have:=eS _ _ _ _ G;have:=AF _ _ _ _ _ _ J;have:=bz _ _ _ _ O;have:=wM V _ _ _ _ _ U;have:=bz _ _ _ _ z;omega
theorem aak{e}(E:mG e):mG (Ad T e):=λk a k' h=>by
 rw[Ad]at h;have⟨_,k1,x,z⟩:=aB h;have⟨_,k2,A,B⟩:=aB z
 cases B
 have:=C5 E _ _ _ x;have:=bz _ _ _ _ A;omega
def aal T n:mG (ec T n):=by grind[mG,ec,aaj,uU,cI,dz,aak,kG]
def QD:EQ Dc:=λw P d c=>PD w P d<|c 0
def bO:fX QD:=by grind[fX,QD,PD.move]
def aam:(Tryz.prog.info? 75).map (λi=>(i.zero,i.size,i.bytes))=ga (ga .nilIface,1,16):=qkr
def Oc:Tryz.prog.underlying 48=ga (.slice 75):=qkr
def acH w:(zeroValue 166).run jv w=.ok .nilFunc w:=qkr
def afR w P l v:=RowV QD 1 w P l v
section
variable {m:MV}
def SX.decl(h:SX w N rb sb m s k){b:Nat}(z:m.a=Mv b):MS qm w b (Hj rb):=by
 have⟨b',e,_,_,x⟩:=h.ev.mp.d;rw[z]at e
 cases e
 exact x
def SX.ma(h:SX w N rb sb m s k):∃b,m.a=Mv b:=by
 have⟨x,e,_,_,hM⟩:=h.ev.mp.d;exact⟨x,e⟩
def Od(J:s.size<=1000)(K:(ja s 0).length<=1001)(h:SX w N rb sb m s k)(hn:(ja s 0).length<=k+1+n){b:Nat}(O:m.a=Mv b):
 aa jv 39 #[rp rb,Mv b] w (aC afR N rb sb m s (dc (ja s 0) (ec (ja s 0) n) (ja s 0).length [] k) w):=by
 obtain⟨r,A⟩:∃r,r=dc (Pu.bP s 0) (ec (Pu.bP s 0) n) (Pu.bP s 0).length [] k:=⟨_,rfl⟩;rw[<-A];have H:=cL.at h A;clear h A;go_wp2
 go_loopg[5] ((ja s 0).length-k) (λgk v wr=>FA (λ_=>True) QD 75 1 N rb sb m s k w r (λf L _=>dc (ja s 0) (ec (ja s 0) n) f L) gk v wr)
 case atStart=>exact⟨k,[],(ja s 0).length,ha,0,0,rfl,trivial,H.row bO (dC.nil _ _ _ _ _) ⟨br _,.inl rfl⟩,ai rfl,br _,ag,ae⟩
 case round=>
  clear H;obtain⟨x,L,f,va,vc,_,rfl,-,H,B,hle,hLl,hfu⟩:=hrel;have S:=H.sx.decl O;have E:=eO S Tryz.underlying122 (acH wr)<|aq<|tk (ja s 0) x;have G:=H.sx.lt;have zw:=H.ke.size;have I:=H.p.block;have⟨c,ff,z⟩:=H.sx.bx;have Y:(aT (tk (ja s 0) x) jY=ka/\aT (tk (ja s 0) x) jZ=ka)\/∃F,(∀args w,(callFunc F args).run jv w=.ok (.enter F args) w)/\ba (aq<|tk (ja s 0) x) (Hj rb)=ga (oD F rb)/\aa jv F #[rp rb] wr (aC PD N rb sb m s ((ec (ja s 0) n) x) wr)/\(aT (tk (ja s 0) x) jY=ia\/aT (tk (ja s 0) x) jZ=ia):=by
   cases n0:aT (tk (ja s 0) x) jY
   .cases n1:aT (tk (ja s 0) x) jZ
    .exact .inl ⟨rfl,rfl⟩
    .exact .inr ⟨82,λ_ _=>qkr,by rw[gu n1];rfl,by rw[show(ec (ja s 0) n) x=_ from if_neg (by simp[n0])];exact U7 J (aag J K n) H.sx ae,.inr rfl⟩
   .exact .inr ⟨81,λ_ _=>qkr,by rw[gu n0];rfl,by rw[show(ec (ja s 0) n) x=_ from if_pos n0];exact Ob J K H.sx ae,.inl rfl⟩
  obtain⟨n0,n1⟩|⟨F,hcf,U,X,Z⟩:=Y
  .have H:=H.re (g':=λk=>.ok (L,k))<|CV n0 n1;simp only[tC (L:=Hj rb) (eY s x G) H.sx.ok (by simp[n0,n1];decide),kT]at E
   go_wp2
   go_ret;exact H.done λR=>R.v bO
  .obtain⟨f,rfl⟩:∃f',f=f'+1:=⟨f-1,ae⟩;have H:=H.re<|J9 Z;simp only[U,kT]at E;clear U Z;go_wp2_with fail;refine H.call X ?_ (st:=λa=>vR _ _ _ _);intro a k2 v w1 H q V;obtain⟨tv,xv,rfl⟩:=V.iface;have l2:=aal _ _ _ _ _ q;clear X c ff z E S q;go_wp2_with(at_builtin;go_must(refine H.append (D:=[Fv tv<|Av xv]) K bO aam Oc H.p.1 zw (λb e=>(I b e).2) (c:=λ_=>Fv tv<|Av xv) V ae ?_;intro q3 c3 w3 H));go_roundg((ja s 0).length-k2)
   case measure=>rw[uh B];omega
   case rel=>exact⟨k2,L++[a],f,_,c3,0,ag,trivial,H,ai rfl,ae,bQ,ae⟩
def ahL w P l(v:ea):=∃u,v=.agg #[u]/\RowV QD 1 w P l u
def To(X:s.size<=1000)(Y:(ja s 0).length<=1001)(h:SX w N rb sb m s k)(Z:(ja s 0).length<=k+1+n):
 aa jv 25 #[rp rb] w (aC ahL N rb sb m s (dc (ja s 0) (ec (ja s 0) n) (ja s 0).length [] k) w):=by
 obtain⟨b,x⟩:=h.ma;have hz:=h.z;have A:=h.ev.hN;have⟨b0,G⟩:=rF w #[.slice ha 0 0] 50;have I:=Od (n:=n) X Y (h.af b0) Z x;obtain⟨c,f,z⟩:=(h.af b0).bx;go_in;go_wp;refine I.mono ?_;intro e w1 hp
 cases hA:fin (ja s 0) (dc (ja s 0) (ec (ja s 0) n) (ja s 0).length [] k)with
 |error f=>
  exact RU
 |ok rr=>
 obtain⟨l,k1⟩:=rr;obtain⟨v,rfl,hb,J,B⟩:=hp.ok hA;have K:=(RowV.move B bO (br _) (λ_ _ _=>rfl)<|λb p _=>by simpa using p);obtain⟨va,vc,cs,rfl,_,_⟩:=B;have E:=ai (G.Ha hb<|by omega);have O:=(Ke.of b0).trans hb;have S:=ai (ug hA).1;obtain⟨c,f,z⟩:=uh E;go_wp2_with fail;obtain⟨U,fF,zF⟩:=E.aW 0 (.slice va l.length vc) #[.slice va l.length vc] rfl (by simp);exact bodyPost_ret (v:=.agg #[.slice va l.length vc]) (by simp[results,Tryz.results25,go_sem,U]) rfl (qs S (O.oB (br _) 0 _) (J.set (b:=w.heap.size) A 0 _) ⟨_,rfl,(K.sv bO (b:=w.heap.size) (λc p=>by have V:w.heap.size+1<=c:=p;omega) 0 _).move bO (br _) (λ_ _ _=>rfl) (λb p _=>by have V:w.heap.size+1<=b:=p;show w.heap.size<=b;omega)⟩)
end
end
def JX(s:BA):=∃x r,s.toList=x::r/\jt x.toNat=ia/\(∀y∈r,jp y.toNat=ia)/\Pu.fe ⟨(x::r).toArray⟩=ka
def VQ(s:BA):=∃x r,s.toList=39::x::r/\jt x.toNat=ia/\(∀y∈r,jp y.toNat=ia)/\Pu.fe ⟨(x::r).toArray⟩=ka
structure afS(t:jc):Prop where
 low:t.kind=1->JX t.text
 up:t.kind=2->wQ t.text
 var:t.kind=3->VQ t.text
 num:t.kind=4->rj t.text<1000000000
 sz:t.text.size<=400
structure eX(T:List jc)e:Prop where
 en:(tk T e).kind=7
 tok:∀k,afS<|tk T k
 pos:0<T.length
inductive qN:Nd->Prop where
 |var(s:BA)(n f t a:Nat):VQ s->s.size<=400->n=0->qN (.mk 16 s n [] f t a)
 |up(s:BA)(n:Nat)(L:List Nd)(f t a:Nat):wQ s->s.size<=400->n=0->(∀x∈L,qN x)->qN (.mk 2 s n L f t a)
 |pr(x y:Nd)(f t a:Nat):qN x->qN y->qN (.mk 6 cX 0 [x,y] f t a)
 |fn(x y:Nd)(f t a:Nat):qN x->qN y->qN (.mk 17 cX 0 [x,y] f t a)
inductive tH:Nd->Prop where
 |any(s:BA)(f t a:Nat):s.size<=400->tH (.mk 15 s 0 [] f t a)
 |low(s:BA)(f t a:Nat):JX s->s.size<=400->tH (.mk 1 s 0 [] f t a)
 |num(s:BA)(n f t a:Nat):n<1000000000->s.size<=400->tH (.mk 3 s n [] f t a)
 |word(s:BA)(f t a:Nat):s.toList=dJ.toList\/s.toList=cx.toList->s.size<=400->tH (.mk 4 s 0 [] f t a)
 |unit(f t a:Nat):tH (.mk 5 cX 0 [] f t a)
 |pr(x y:Nd)(f t a:Nat):tH x->tH y->tH (.mk 6 cX 0 [x,y] f t a)
 |up(s:BA)(n:Nat)(L:List Nd)(f t a:Nat):wQ s->s.size<=400->n=0->(∀x∈L,tH x)->tH (.mk 2 s n L f t a)
inductive gT:Nd->Prop where
 |low(s:BA)(f t a:Nat):JX s->s.size<=400->gT (.mk 1 s 0 [] f t a)
 |up(s:BA)(f t a:Nat):wQ s->s.size<=400->gT (.mk 2 s 0 [] f t a)
 |num(s:BA)(n f t a:Nat):n<1000000000->s.size<=400->gT (.mk 3 s n [] f t a)
 |word(s:BA)(f t a:Nat):s.toList=dJ.toList\/s.toList=cx.toList->s.size<=400->gT (.mk 4 s 0 [] f t a)
 |unit(f t a:Nat):gT (.mk 5 cX 0 [] f t a)
 |pr(x y:Nd)(f t a:Nat):gT x->gT y->gT (.mk 6 cX 0 [x,y] f t a)
 |of(x y:Nd)(f t a:Nat):gT x->qN y->gT (.mk 14 cX 0 [x,y] f t a)
 |op(s:BA)(x y:Nd)(f t a:Nat):s=cY\/s=bM\/s=cD\/s=b8->gT x->gT y->gT (.mk 7 s 0 [x,y] f t a)
 |call(x y:Nd)(f t a:Nat):gT x->gT y->gT (.mk 8 cX 0 [x,y] f t a)
 |fn(s:BA)(x:Nd)(f t a:Nat):JX s->s.size<=400->gT x->gT (.mk 9 s 0 [x] f t a)
 |lt(s:BA)(x z:Nd)(f t a:Nat):JX s->s.size<=400->gT x->gT z->gT (.mk 10 s 0 [x,z] f t a)
 |ltr(s s':BA)(x z:Nd)(f t a f' t' a':Nat):JX s->s.size<=400->JX s'->s'.size<=400->gT x->gT z->gT (.mk 11 s 0 [.mk 9 s' 0 [x] f' t' a',z] f t a)
 |ite(x y z:Nd)(f t a:Nat):gT x->gT y->gT z->gT (.mk 12 cX 0 [x,y,z] f t a)
 |mt(x:Nd)(A:List (Nd×Nd))(f t a:Nat):A≠[]->gT x->(∀p∈A,tH p.1)->(∀p∈A,gT p.2)->gT (.mk 13 cX 0 (x::aN A) f t a)
def Fn3(nd:Nd):=∃s x f t a,nd=.mk 9 s 0 [x] f t a/\JX s/\s.size<=400/\gT x
def Fn3.ex{nd:Nd}(h:Fn3 nd):gT nd:=by
 obtain⟨s,x,f,t,a,rfl,z,A,B⟩:=h;exact .fn s x f t a z A B
def afT(T:List jc)f:=∃j,f=eA (tk T j)
def wN{α:Type}(T:List jc)(r:Except Fl (α×Nat))(Q:α->Nat->Prop):Prop:=match r with
 |.error f=>afT T f|.ok (a,k')=>Q a k'
theorem wN.aI{m}{f}{k}{Q:α->Nat->Prop}{R:β->Nat->Prop}(h:wN T (m k) Q)(x:∀a k',Q a k'->wN T (f a k') R):wN T (Go.Proofs.YtonaidfgokhmoaaGreatDoor.aI m f k) R:=by
 rw[Go.Proofs.YtonaidfgokhmoaaGreatDoor.aI]
 cases hm:m k with
 |error e=>rw[hm]at h;exact h|ok p=>rw[hm]at h;exact x _ _ h
def wN.mono{r}{Q R:α->Nat->Prop}(h:wN T r Q)(x:∀a k',Q a k'->R a k'):wN T r R:=by
 cases r with
 |error f=>exact h|ok p=>exact x _ _ h
def fP{Q}:wN T (.error (eA<|tk T k):Except Fl (α×Nat)) Q:=⟨k,rfl⟩
def eX.step(h:eX T e){k}(hk:k<=e)(x:(tk T k).kind≠7):k+1<=e:=by
 have:k≠e:=λq=>x (by rw[q];exact h.en);omega
def Ig(h:aT t s=ia):t.kind=5:=by grind[aT]
def ck(h:eX T e)(x:k<=e)s:wN T (bt T s k) (λ_ k'=>k'=k+1/\k'<=e):=by
 rw[bt];split
 .rename_i q;exact⟨rfl,h.step x (by rw[Ig q];decide)⟩
 .exact fP
def o8(h:eX T e)(z:k<=e)n(A:n≠7):wN T (dk T n k) (λt k'=>t=tk T k/\t.kind=n/\k'=k+1/\k'<=e):=by
 rw[dk];split
 .rename_i q;have x:(tk T k).kind=n:=by simpa using q
  exact⟨rfl,x,rfl,h.step z (by rw[x];exact A)⟩
 .exact fP
def uV(h:eX T e)(x:k<=e)mk:wN T (oC T mk k) (λa k'=>a=mk k'/\k'=k+1/\k'<=e):=
 (ck h x bH).aI λ_ k' q=>⟨rfl,q.1,q.2⟩
def AH{c}(q:aQ t=c):(c=1->t.kind=1)/\(c=2->t.kind=2)/\(c=16->t.kind=3)/\(c=3->t.kind=4):=by grind[aQ]
def aan(h:aH t sort=ia):t.kind≠7:=by
 intro x;have z:aT t dJ=ka:=by simp[aT,x]
 have A:aT t cx=ka:=by simp[aT,x]
 have B:aT t pR=ka:=by simp[aT,x]
 have E:aT t bT=ka:=by simp[aT,x]
 have G:aQ t=0:=by rw[aQ];rw[z,A,B];simp[x]
 rw[aH]at h;rw[E,G]at h;revert h;simp
def aao x y u:nn (x.add y u)=nn x+nn y:=by
 obtain⟨k,s,n,L,f,t,a⟩:=x;simp[Nd.add,nn,rM,cr];omega
def Dx(P:Nd->Prop)(nd:Nd):=∃s L f t a,nd=.mk 2 s 0 L f t a/\wQ s/\s.size<=400/\∀x∈L,P x
def Dx.add{P:Nd->Prop}{x y}(h:Dx P x)(G:P y)u:Dx P (x.add y u):=by
 obtain⟨s,L,f,t,a,rfl,A,B,E⟩:=h
 exact⟨s,L++[y],f,u,a,rfl,A,B,λz hz=>by
  obtain q|q:=List.mem_append.1 hz
  .exact E z q
  .rw[List.mem_singleton.1 q];exact G⟩
def ahM(h:eX T e)(z:aH (tk T k) 1=ia)(A:aT (tk T k) bT=ka):qN (bD<|tk T k):=by
 have g:=h.tok k;rw[aH]at z;rw[A]at z;simp at z;rw[bD];obtain q|q:=z
 .rw[q];have x:=(AH q).2.2.1 rfl;exact .var _ _ _ _ _ (g.var x) g.sz (by simp[cO,x])
 .rw[q];have x:=(AH q).2.1 rfl;exact .up _ _ _ _ _ _ (g.up x) g.sz (by simp[cO,x]) ag
def Dx.ty{nd:Nd}(h:Dx qN nd):qN nd:=by obtain⟨s,L,f,t,a,rfl,x,z,A⟩:=h;exact .up s 0 L f t a x z rfl A
def Dx.pa{nd:Nd}(h:Dx tH nd):tH nd:=by obtain⟨s,L,f,t,a,rfl,x,z,A⟩:=h;exact .up s 0 L f t a x z rfl A
def Dl(h:aQ t=4):t.text.toList=dJ.toList\/t.text.toList=cx.toList:=by grind[aQ,aT,toList_mk]
def kJ(h:aQ t≠3):cO t=0:=by grind[aQ,cO]
def Sc{p:Prop}(h:p:=by
 intro c q hc;have:=AH q;obtain rfl|rfl|rfl:=hc
 .exact this.1 rfl
 .exact this.2.1 rfl
 .exact this.2.2.2 rfl):p:=h
def Sd{p:Prop}(h:p:=by
 rw[q];have h4:(tk T k).kind=4:=hk 3 q ae
 exact .num _ _ _ _ _ (by unfold cO;rw[if_pos h4];exact g.num h4) g.sz):p:=h
def ahN(h:eX T e)(x:aH (tk T k) 2=ia)(z:aT (tk T k) bT=ka):tH (bD<|tk T k):=by
 have g:=h.tok k;rw[aH]at x;rw[z]at x;simp at x;rw[bD];have hk:∀c,aQ (tk T k)=c->c=1\/c=2\/c=3->(tk T k).kind=if c=3 then 4 else c:=by
  exact Sc
 rcases x with(((q|q)|q)|q)|q
 .rw[kJ ae,q];exact .any _ _ _ _ g.sz
 .rw[kJ ae,q];exact .low _ _ _ _ (g.low<|hk 1 q ae) g.sz
 .rw[kJ ae,q];exact .up _ _ _ _ _ _ (g.up<|hk 2 q ae) g.sz rfl ag
 .exact Sd
 .rw[kJ ae,q];exact .word _ _ _ _ (Dl q) g.sz
def ahO(h:eX T e)(x:aH (tk T k) 3=ia)(z:aT (tk T k) bT=ka):gT (bD<|tk T k):=by
 have g:=h.tok k;rw[aH]at x;rw[z]at x;simp at x;rw[bD];have hk:∀c,aQ (tk T k)=c->c=1\/c=2\/c=3->(tk T k).kind=if c=3 then 4 else c:=by
  exact Sc
 rcases x with((q|q)|q)|q
 .rw[kJ ae,q];exact .low _ _ _ _ (g.low<|hk 1 q ae) g.sz
 .rw[kJ ae,q];exact .up _ _ _ _ (g.up<|hk 2 q ae) g.sz
 .exact Sd
 .rw[kJ ae,q];exact .word _ _ _ _ (Dl q) g.sz
def aap(h:aT t s=ia):t.text=s:=by grind[aT,toList_inj]
section
open Un
def pK{b}(hi:i<b)(B:b<=s.size):∃x r,(s.extract i b).toList=x::r/\x.toNat=jj s i/\∀p:Nat->Bool,(∀j,i<j->j<b->p (jj s j)=ia)->∀y∈r,p y.toNat=ia:=by
 have z:(s.extract i b).toList.length=b-i:=by
  rw[qr];show(s.extract i b).size=_;rw[ByteArray.size_extract];omega
 have A:∀j(h:j<(s.extract i b).toList.length),((s.extract i b).toList[j]).toNat=jj s (i+j):=λj h=>by
  rw[<-ZR s i b j B ae,jm qBo];simp only[qr,ByteArray.getElem_eq_getElem_data,Array.getElem_toList]
 cases hc:(s.extract i b).toList with
 |nil=>grind|cons x r=>
  refine⟨x,r,rfl,?_,λp hp y hy=>?_⟩
  .have:=A 0 ae;simp only[hc]at this;simpa using this
  .obtain⟨j,hj,rfl⟩:=List.getElem_of_mem hy;rw[hc]at z;simp at z;have:=A (j+1) (by rw[hc];simp;omega);simp only[hc]at this;simp only[qi]at this;rw[this];exact hp _ ae ae
def Lg(s:BA):∀k,(∀i,i<k->jk (jj s i)=ia)->nT s k<10^k
 |0,_=>by simp[nT]|k+1,h=>by
  have h1:=Lg s k<|λi hi=>h i ae;have x:=h k ae;simp[jk]at x;have:(jj s k+208)%256<=9:=ae;simp only[nT,Nat.pow_succ];omega
def acI(h:acp s):rj s<1000000000:=by
 rw[rj];obtain⟨h1,x,z⟩:=h;rw[Nat.min_eq_left x];have:=Lg s s.size z;have h4:(10:Nat)^s.size<=10^9:=Nat.pow_le_pow_right aD x;omega
def aaq s{x}{r}(h:s.toList=x::r):(⟨(x::r).toArray⟩:BA)=s:=by grind[toList_inj,toList_mk]
def acJ s(hs:s.size<=400)i(X:i<s.size):afS (jf s i):=by
 have A:=KS s i X;have z:=jo s i X;have G:=jq s i;have B:(jf s i).text.size<=400:=by have:=A.sp;omega
 refine⟨λk1=>?_,λk2=>?_,λk3=>?_,λk4=>acI<|A.v4 k4,B⟩
 .clear A B;revert k1 z G;rw[jf];repeat' split
  all_goals intro z G k1
  all_goals try(exfalso;simp[jl]at k1;done)
  rename_i h1 h2;simp only[jl]at z;have⟨x,r,E,I,K⟩:=pK z.1 z.2;refine⟨x,r,E,by rw[I];exact h1,K _<|λj a b=>pI (j-i) i j rfl ae b,?_⟩;rw[aaq _ E];simpa using h2
 .clear A B;revert k2 z G;rw[jf];repeat' split
  all_goals intro z G k2
  all_goals try(exfalso;simp[jl]at k2;done)
  rename_i h1 h2;simp only[jl]at z;have⟨x,r,E,I,K⟩:=pK z.1 z.2;exact⟨x,r,E,by rw[I];exact h2,K _<|λj a b=>pI (j-i) i j rfl ae b⟩
 .clear A B;revert k3 z G;rw[jf];repeat' split
  all_goals intro z G k3
  all_goals try(exfalso;simp[jl]at k3;done)
  rename_i h1 h2 h3 h4;simp only[jl]at z;have⟨x,r,E,I,K⟩:=pK z.1 z.2;have O:i+1<ji s jp (i+1):=by
   have J:i+1<s.size:=by
    obtain q|q:=Nat.lt_or_ge (i+1) s.size
    .exact q
    .have:=h3.2;rw[Pu.Py q]at this;simp[jt]at this
   rw[ju J<|by simp[jp,h3.2]];have:=Pu.fc s jp<|i+1+1;omega
  have⟨y,Y,J,S,U⟩:=pK O z.2;have V:x=39:=UInt8.toNat_inj.1 (by rw[I,h3.1];rfl);have er:r=y::Y:=by
   have Z:=iY X z.1;rw[E,J]at Z;injection Z with _ q2
  refine⟨y,Y,by show(s.extract i _).toList=_;rw[E,V,er],by rw[S];exact h3.2,U _<|λj a b=>pI (j-(i+1)) (i+1) j rfl ae b,?_⟩;rw[aaq _ J];simpa using h4
def pL(s:BA):∀f i t,t∈jd s f i->(∃j,j<s.size/\t=jf s j)\/t=jh s
 |0,i,t,h=>qk (by simpa[jd]using h)|f+1,i,t,h=>by
  rw[jd]at h;split at h
  .rename_i hi;split at h
   .exact pL s f _ t h
   .obtain rfl|h:=List.mem_cons.1 h
    .exact ql ⟨i,hi,rfl⟩
    .exact pL s f _ t h
  .exact qk uY
def ln(s:BA):∀f i,∃l,jd s f i=l++[jh s]/\l.length<=f
 |0,i=>⟨[],rfl,ag⟩|f+1,i=>by
  rw[jd];split
  .split
   .have⟨l,x,z⟩:=ln s f<|i+1;exact⟨l,x,ae⟩
   .have⟨l,x,z⟩:=ln s f (jf s i).to;exact⟨jf s i::l,by rw[x];rfl,bQ⟩
  .exact⟨[],rfl,ag⟩
def aar(T:List jc)k:tk T k∈T\/tk T k=⟨7,⟨#[]⟩,0,0⟩:=by grind[tk]
def Lh(t:jc)(x:t.kind=7)(z:t.text.size<=400):afS t:=⟨by simp[x],by simp[x],by simp[x],by simp[x],z⟩
def tE s(A:s.size<=400):eX (ja s 0) ((ja s 0).length-1)/\(ja s 0).length<=401:=by
 have⟨l,x,h2⟩:=ln s (s.size-0) 0;have e:ja s 0=l++[jh s]:=x;refine⟨⟨?_,λk=>?_,by rw[e];simp⟩,by rw[e];simp;omega⟩
 .rw[e];rw[tk];simp[jh]
 .obtain q|q:=aar (ja s 0) k
  .obtain⟨j,z,q⟩|q:=pL s _ _ _ q
   .rw[q];exact acJ s A j z
   .rw[q];exact Lh _ rfl (by simp[jh];decide)
  .rw[q];exact Lh _ rfl aD
def acK{f}(h:afT (ja s 0) f):f.kind%6≠0/\f.ah<=f.to/\f.to<=s.size:=by
 obtain⟨k,rfl⟩:=h;refine⟨by rw[eA];split<;>simp,?_⟩;have:(tk (ja s 0) k).ah<=(tk (ja s 0) k).to/\(tk (ja s 0) k).to<=s.size:=by
  obtain q|q:=aar (ja s 0) k
  .obtain⟨j,x,q⟩|q:=pL s _ _ _ q
   .rw[q,jq];have:=jo s j x;omega
   .rw[q];simp[jh]
  .rw[q];simp
 rw[eA];split<;>exact this
def D3:Dc->Prop
 |.ty t vs ms=>wQ t.text/\t.text.size<=400/\(∀v∈vs,VQ v.text/\v.text.size<=400)/\ms≠[]/\∀m∈ms,Dx qN m|.lt r t b=>JX t.text/\t.text.size<=400/\gT b/\(r=ia->Fn3 b)
def AY:Dc->Nat
 |.ty _ vs ms=>1+vs.length+cr ms|.lt _ _ b=>1+nn b
def Dv(l:List Dc):Nat:=(l.map AY).sum
end
inductive eC(T:List jc)(e:Nat):Nat->Nat->Nat->Nd->Prop where
 |leaf{s k:Nat}:(s=1\/s=2\/s=3)->k+1<=e->aH (tk T k) s=ia->aT (tk T k) bT=ka->eC T e s k (k+1) (bD<|tk T k)
 |unit{s k:Nat}:(s=2\/s=3)->k+2<=e->eC T e s k (k+2) (.mk 5 cX 0 [] (tk T k).ah (aF T<|k+2) (tk T k).ah)
 |par{s k j:Nat}{x:Nd}:eC T e s (k+1) j x->j+1<=e->eC T e s k (j+1) x
 |two{c s s' k i j:Nat}{x y:Nd}:(c=6/\s'=s/\(s=1\/s=2\/s=3)\/c=14/\s=3/\s'=1)->eC T e s (k+1) i x->eC T e s' (i+1) j y->j+1<=e->eC T e s k (j+1) (.mk c cX 0 [x,y] (tk T k).ah (aF T<|j+1) (tk T k).ah)
 |nm{s k:Nat}:(tk T k).kind=2->k+1<=e->eC T e (s+10) k (k+1) (.mk 2 (tk T k).text 0 [] (tk T k).ah (tk T k).to (tk T k).ah)
 |add{s k i j:Nat}{x y:Nd}:eC T e (s+10) k i x->eC T e s i j y->eC T e (s+10) k j (x.add y<|aF T j)
 |up{s k j:Nat}{x:Nd}:(s=1\/s=2)->eC T e (s+10) k j x->eC T e s k j x
 |arr{k i j:Nat}{x y:Nd}:eC T e 1 k i x->eC T e 1 (i+1) j y->eC T e 1 k j (.mk 17 cX 0 [x,y] (tk T k).ah (aF T j) (tk T k).ah)
 |call{k i j:Nat}{x y:Nd}:eC T e 3 k i x->eC T e 3 i j y->eC T e 3 k j (.mk 8 cX 0 [x,y] (tk T k).ah (aF T j) (tk T k).ah)
 |op{s:BA}{k i j:Nat}{x y:Nd}:(s=cY\/s=bM\/s=cD\/s=b8)->eC T e 3 k i x->eC T e 3 (i+1) j y->eC T e 3 k j (.mk 7 s 0 [x,y] (tk T k).ah (aF T j) (tk T k).ah)
 |fn{k j:Nat}{x:Nd}:(tk T<|k+1).kind=1->eC T e 3 (k+3) j x->eC T e 4 k j (.mk 9 (tk T<|k+1).text 0 [x] (tk T k).ah (aF T j) (tk T<|k+1).ah)
 |ex{k j:Nat}{x:Nd}:eC T e 4 k j x->eC T e 3 k j x
 |lt{k i j:Nat}{x z:Nd}:(tk T<|k+1).kind=1->eC T e 3 (k+3) i x->eC T e 3 (i+1) j z->eC T e 3 k j (.mk 10 (tk T<|k+1).text 0 [x,z] (tk T k).ah (aF T j) (tk T<|k+1).ah)
 |ltr{k i j:Nat}{x z:Nd}:(tk T<|k+2).kind=1->eC T e 4 (k+4) i x->eC T e 3 (i+1) j z->eC T e 3 k j (.mk 11 (tk T<|k+2).text 0 [x,z] (tk T k).ah (aF T j) (tk T<|k+2).ah)
 |ite{k i j l:Nat}{x y z:Nd}:eC T e 3 (k+1) i x->eC T e 3 (i+1) j y->eC T e 3 (j+1) l z->eC T e 3 k l (.mk 12 cX 0 [x,y,z] (tk T k).ah (aF T l) (tk T k).ah)
 |ar0{k i:Nat}{x:Nd}:eC T e 3 (k+1) i x->i+1<=e->eC T e 5 k (i+1) (.mk 13 cX 0 [x] (tk T k).ah (aF T<|i+1) (tk T k).ah)
 |ar{k i j q q':Nat}{l:List Nd}{p x:Nd}:eC T e 5 k i (.mk 13 cX 0 l (tk T k).ah (aF T i) (tk T k).ah)->eC T e 2 i j p->eC T e 3 (j+1) q x->(q'=q\/q'=q+1/\q+1<=e)->eC T e 5 k q' (.mk 13 cX 0 (l++[p,x]) (tk T k).ah (aF T q') (tk T k).ah)
 |mt{k i:Nat}{l:List Nd}:eC T e 5 k i (.mk 13 cX 0 l (tk T k).ah (aF T i) (tk T k).ah)->l.length≠1->i+1<=e->eC T e 3 k (i+1) (.mk 13 cX 0 l (tk T k).ah (aF T<|i+1) (tk T k).ah)
mutual
def PlN(n:Nat):Nd->Prop
 |.mk k s _ L f t a=>f<t/\t<=n/\(k=2->a+s.size<=n)/\(k=16->f+s.size<=n)/\PlL n L
def PlL(n:Nat):List Nd->Prop
 |[]=>True|x::l=>PlN n x/\PlL n l
end
def eC.le{s:Nat}(h:eC T e s k j a):k<j/\j<=e:=by induction h<;>omega
def pY(T:List jc)(e s:Nat)(m:M Nd):=∀k,k<=e->wN T (m k) (λa k'=>eC T e s k k' a)
def yj(h:eX T e){s:Nat}(E:s=1\/s=2\/s=3)(G:pY T e s part)(J:s=3->pY T e 1 F_):pY T e s (ap T part F_ s):=by
 intro k I;rw[ap];split
 .rename_i hb;have z:=h.step I<|aan hb;split
  .rw[dD];split
   .rename_i hc;exact .unit (by have:=hc.1;omega)<|h.step z qBn
   .refine(G (k+1) z).aI λx k1 p=>?_;rw[gN];split
    .rename_i hc;refine(G (k1+1)<|h.step p.le.2 qAc).aI λy k2 q=>?_;refine(uV h q.le.2 _).mono ?_;rintro a B⟨rfl,rfl,A⟩;exact .two (.inl ⟨rfl,rfl,E⟩) p q A
    .split
     .rename_i hc;refine(J hc.1 (k1+1)<|h.step p.le.2 qBn).aI λy k2 q=>?_;refine(uV h q.le.2 _).mono ?_;rintro a B⟨rfl,rfl,A⟩;exact .two (.inr ⟨rfl,hc.1,rfl⟩) p q A
     .refine(uV h p.le.2 _).mono ?_;rintro a B⟨rfl,rfl,A⟩;exact .par p A
  .rename_i ho;exact .leaf E z hb (by simpa using ho)
 .exact fP
def FO{s i:Nat}{sm:M Nd}(z:pY T e s sm):∀f x k,eC T e (s+10) i k x->wN T (da T sm s f x k) (λa k'=>eC T e (s+10) i k' a)
 |0,x,k,hx=>hx|f+1,x,k,hx=>by
  unfold da;split
  .exact(z k hx.le.2).aI λy k1 p=>FO z f _ k1<|.add hx p
  .exact hx
def aas(h:eX T e){s:Nat}(G:s=1\/s=2)(B:pY T e s (ap T part F_ s)):pY T e s (fN T (ap T part F_ s) s):=by
 intro k A;rw[fN];split
 .rename_i h2;have x:(tk T k).kind=2:=by simpa using h2
  have z:ap T part F_ s k=.error (eA<|tk T k)\/ap T part F_ s k=.ok (bD<|tk T k,k+1):=by
   rw[ap];split
   .rw[if_neg (by rw[aT];simp[x])];exact qk rfl
   .exact ql rfl
  obtain q|q:=z
  .rw[aI];rw[q];exact fP
  .rw[aI];rw[q];have E:eC T e (s+10) k (k+1) (bD<|tk T k):=by
    rw[show bD (tk T k)=.mk 2 (tk T k).text 0 [] (tk T k).ah (tk T k).to (tk T k).ah by simp[bD,aQ,x,cO]];exact .nm x (h.step A (by rw[x];decide))
   exact(FO B T.length _ (k+1) E).mono λa k'=>.up G
 .exact B k A
def aat(h:eX T e):∀n,pY T e 1<|c_ T n
 |0=>λk hk=>fP|n+1=>λk hk=>by
  have z:=aat h n;rw[c_];refine(aas h (.inl rfl) (yj h (.inl rfl) z λ_=>z) k hk).aI λx k1 p=>?_;rw[lF];split
  .rename_i hc;exact(z (k1+1)<|h.step p.le.2 qAc).aI λy k2 q=>.arr p q
  .exact p
def adP(h:eX T e):∀n,pY T e 2<|dG T n
 |0=>λk hk=>fP|n+1=>λk hk=>by
  rw[dG];exact aas h (.inr rfl) (yj h (.inr<|.inl rfl) (adP h n) λq=>iP) k hk
def FQ{F:Nat->Nd->M Nd}(z:pY T e 3 sm)(A:∀i x k,eC T e 3 i k x->wN T (F (tk T i).ah x k) (λa k'=>eC T e 3 i k' a)):pY T e 3 (λk=>aI sm (F (tk T k).ah) k):=
 λk hk=>(z k hk).aI λx k1 p=>A k x k1 p
def Se{sm:M Nd}(z:pY T e 3 sm){i:Nat}:∀f x k,eC T e 3 i k x->wN T (gi T sm (tk T i).ah f x k) (λa k'=>eC T e 3 i k' a)
 |0,x,k,hx=>hx|f+1,x,k,hx=>by
  unfold gi;split
  .exact(z k hx.le.2).aI λy k1 p=>Se z f _ k1<|.call hx p
  .exact hx
def Sf(h:eX T e){sm:M Nd}(z:pY T e 3 sm){i:Nat}:∀f x k,eC T e 3 i k x->wN T (gO T sm (tk T i).ah f x k) (λa k'=>eC T e 3 i k' a)
 |0,x,k,hx=>hx|f+1,x,k,hx=>by
  unfold gO;split
  .rename_i hc;exact(z (k+1)<|h.step hx.le.2 qAc).aI λy k1 p=>Sf h z f _ k1<|.op ag hx p
  .exact hx
def aau(h:eX T e){sm:M Nd}(z:pY T e 3 sm){i:Nat}:∀f x k,eC T e 3 i k x->wN T (nS T sm (tk T i).ah f x k) (λa k'=>eC T e 3 i k' a)
 |0,x,k,hx=>hx|f+1,x,k,hx=>by
  unfold nS;split
  .rename_i hc;have A:=hc.elim Ig Ig;exact(z (k+1)<|h.step hx.le.2 (by rw[A];decide)).aI λy k1 p=>aau h z f _ k1 (.op (by obtain q|q:=hc<;>rw[aap q]<;>simp) hx p)
  .exact hx
def ahP(h:eX T e)(B:pY T e 3 sm):pY T e 3 (q_ T<|dN T<|cd T sm):=
 have z:=FQ (F:=λfr=>gi T sm fr T.length) B λi x k=>Se B T.length x k;have A:=FQ (F:=λfr=>gO T (cd T sm) fr T.length) z λi x k=>Sf h z T.length x k
 FQ (F:=λfr=>nS T (dN T<|cd T sm) fr T.length) A λi x k=>aau h A T.length x k
def afU(h:eX T e)(z:pY T e 3 sm):pY T e 3 (nF T sm):=by
 intro k A;rw[nF];refine(z k A).aI λx k1 p=>?_;show wN T (if _ then _ else _) _;split
 .rename_i hc;exact(z (k1+1)<|h.step p.le.2 qAc).aI λy k2 q=>.op ag p q
 .exact p
def adQ(h:eX T e){z:M Nd}(J:pY T e 3 z):pY T e 4 (rf T z):=by
 intro k A;rw[rf];refine(ck h A wT).aI ?_;rintro _ k1⟨rfl,B⟩;refine(o8 h B 1 aD).aI ?_;rintro t k2⟨rfl,E,rfl,G⟩;refine(ck h G cH).aI ?_;rintro _ k3⟨rfl,I⟩;exact(J _ I).aI λx k4 q=>.fn E q
def BdD(T:List jc)(e k:Nat)(b:Nat×jc×Nd)(j:Nat):=(b.1=10/\b.2.1=tk T (k+1)/\(tk T<|k+1).kind=1/\eC T e 3 (k+3) j b.2.2)\/(b.1=11/\b.2.1=tk T (k+2)/\(tk T<|k+2).kind=1/\eC T e 4 (k+4) j b.2.2)
def BdD.le{k j:Nat}{b:Nat×jc×Nd}(h:BdD T e k b j):k+3<j/\j<=e:=by
 obtain⟨_,_,_,q⟩|⟨_,_,_,q⟩:=h<;>have:=q.le<;>omega
def Sg(h:eX T e){G:M Nd}(I:pY T e 3 G)(O:k<=e):wN T (cG T G k) (BdD T e k):=by
 rw[cG];refine(ck h O jZ).aI ?_;rintro _ k1⟨rfl,E⟩;show wN T (if _ then _ else _) _;split
 .rename_i hc;refine(o8 h (h.step E qAc) 1 aD).aI ?_;rintro t J⟨rfl,z,rfl,A⟩;refine(ck h A tN).aI ?_;rintro _ K⟨rfl,B⟩;exact(adQ h I _ B).aI λx k4 q=>.inr ⟨rfl,rfl,z,q⟩
 .refine(o8 h E 1 aD).aI ?_;rintro t J⟨rfl,z,rfl,A⟩;refine(ck h A tN).aI ?_;rintro _ K⟨rfl,B⟩;exact(I _ B).aI λx k4 q=>.inl ⟨rfl,rfl,z,q⟩
def aav(h:eX T e){B:M Nd}(A:pY T e 3 B):pY T e 3 (kX T B):=by
 intro k E;rw[kX];refine(ck h E W7).aI ?_;rintro _ k1⟨rfl,G⟩;refine(A _ G).aI λx k2 a=>?_;refine(ck h a.le.2 yV).aI ?_;rintro _ k3⟨rfl,I⟩;refine(A _ I).aI λy k4 b=>?_;refine(ck h b.le.2 yW).aI ?_;rintro _ k5⟨rfl,J⟩;exact(A _ J).aI λz k6 c=>.ite a b c
def ahQ(h:eX T e){A:M Nd}(B:pY T e 3 A):pY T e 3 (nK T A):=by
 intro k E;rw[nK];refine(Sg h B E).aI ?_;rintro⟨c,t,x⟩k1 b;refine(ck h b.le.2 kIn).aI ?_;rintro _ k2⟨rfl,G⟩;refine(B _ G).aI λz k3 q=>?_;obtain⟨e1,e2,e3,e4⟩|⟨e1,e2,e3,e4⟩:=b<;>simp only at e1 e2 e4<;>subst e1 e2
 .exact .lt e3 e4 q
 .exact .ltr e3 e4 q
def aaw(h:eX T e){B E:M Nd}(G:pY T e 2 B)(I:pY T e 3 E){i:Nat}:∀f l k,f≠0->eC T e 5 i k (.mk 13 cX 0 l (tk T i).ah (aF T k) (tk T i).ah)->l≠[]->wN T (kY T B E f l k) (λl' k'=>eC T e 5 i k' (.mk 13 cX 0 l' (tk T i).ah (aF T k') (tk T i).ah)/\l'.length≠1)
 |f+1,l,k,_,hl,hn=>by
  rw[kY];refine(G k hl.le.2).aI λp k1 a=>?_;refine(ck h a.le.2 cH).aI ?_;rintro _ k2⟨rfl,J⟩;refine(I _ J).aI λx k3 b=>?_;have A:(l++[p,x]).length≠1:=ag;show wN T (if _ then _ else _) _;split
  .rename_i hc;have z:=h.step b.le.2 qAc
   cases f with
   |zero=>exact⟨.ar hl a b<|.inr ⟨rfl,z⟩,A⟩|succ f=>exact aaw h G I (f+1) _ (k3+1) ag (.ar hl a b<|.inr ⟨rfl,z⟩) ag
  .exact⟨.ar hl a b<|.inl rfl,A⟩
def acL(h:eX T e){A B:M Nd}(S:pY T e 2 A)(E:pY T e 3 B):pY T e 3 (oO T A B):=by
 intro k G;rw[oO];refine(ck h G gW).aI ?_;rintro _ k1⟨rfl,I⟩;refine(E _ I).aI λx k2 a=>?_;refine(ck h a.le.2 sH).aI ?_;rintro _ k3⟨rfl,J⟩;refine(aaw h S E T.length [x] _ (by have:=h.pos;omega) (.ar0 a J) ag).aI ?_;rintro l k4⟨z,K⟩;refine(ck h z.le.2 wU).aI ?_;rintro _ k5⟨rfl,O⟩;exact .mt z K O
def aax(h:eX T e):∀n,pY T e 3<|bi T n
 |0=>λk hk=>fP|n+1=>λk hk=>by
  have x:=aax h n;unfold bi;split
  .exact(adQ h x k hk).mono λ_ _=>.ex
  split
  .exact aav h x k hk
  split
  .exact acL h (adP h n) x k hk
  split
  .exact ahQ h x k hk
  .exact afU h (ahP h<|yj h (.inr<|.inr rfl) x λ_=>aat h n) k hk
def Ar3(nd:Nd):=∃x A f t a,nd=.mk 13 cX 0 (x::aN A) f t a/\gT x/\(∀p∈A,tH p.1)/\∀p∈A,gT p.2
def Shp:Nat->Nd->Prop
 |1=>qN|2=>tH|3=>gT|4=>Fn3|5=>Ar3|11=>Dx qN|12=>Dx tH|_=>λ_=>True
def eC.shp(h:eX T e){s:Nat}(d:eC T e s k j a):Shp s a:=by
 induction d with
 |leaf hs h1 h2 h3=>
  obtain rfl|rfl|rfl:=hs
  .exact ahM h h2 h3
  .exact ahN h h2 h3
  .exact ahO h h2 h3
 |unit hs _=>
  obtain rfl|rfl:=hs
  .exact tH.unit ..
  .exact gT.unit ..
 |par _ _ ih=>exact ih|two hc _ _ _ i1 i2=>
  obtain⟨rfl,rfl,rfl|rfl|rfl⟩|⟨rfl,rfl,rfl⟩:=hc
  .exact qN.pr _ _ _ _ _ i1 i2
  .exact tH.pr _ _ _ _ _ i1 i2
  .exact gT.pr _ _ _ _ _ i1 i2
  .exact gT.of _ _ _ _ _ i1 i2
 | @nm s k h1 h2=>
   have u:∀P,Dx P<|.mk 2 (tk T k).text 0 [] (tk T k).ah (tk T k).to (tk T k).ah:=λP=>⟨_,[],_,_,_,rfl,(h.tok k).up h1,(h.tok k).sz,ag⟩
   match s with
   |0=>trivial|1=>exact u _|2=>exact u _|_+3=>trivial
 | @add s _ _ _ _ _ _ _ i1 i2=>
   match s,i1,i2 with
   |0,_,_=>trivial|1,i1,i2=>exact Dx.add i1 i2 _|2,i1,i2=>exact Dx.add i1 i2 _|_+3,_,_=>trivial
 |up hs _ ih=>
  obtain rfl|rfl:=hs
  .exact Dx.ty ih
  .exact Dx.pa ih
 |arr _ _ i1 i2=>exact qN.fn _ _ _ _ _ i1 i2|call _ _ i1 i2=>exact gT.call _ _ _ _ _ i1 i2|op hs _ _ i1 i2=>exact gT.op _ _ _ _ _ _ hs i1 i2|fn h1 _ ih=>exact⟨_,_,_,_,_,rfl,(h.tok _).low h1,(h.tok _).sz,ih⟩|ex _ ih=>exact Fn3.ex ih|lt h1 _ _ i1 i2=>exact gT.lt _ _ _ _ _ _ ((h.tok _).low h1) (h.tok _).sz i1 i2|ltr h1 _ _ i1 i2=>
  obtain⟨s',x',f',t',a',rfl,E,G,I⟩:=i1;exact gT.ltr _ _ _ _ _ _ _ _ _ _ ((h.tok _).low h1) (h.tok _).sz E G I i2
 |ite _ _ _ i1 i2 i3=>exact gT.ite _ _ _ _ _ _ i1 i2 i3| @ar0 _ _ x _ _ ih=>exact⟨x,[],_,_,_,rfl,ih,ag,ag⟩| @ar _ _ _ _ _ _ p x _ _ _ _ i1 i2 i3=>
   obtain⟨y,A,f,t,a,B,E,G,I⟩:=i1;injection B with _ _ _ B;subst B;refine⟨y,A++[(p,x)],_,_,_,by rw[Lc];rfl,E,?_,?_⟩
   .intro q J;obtain z|z:=List.mem_append.1 J
    .exact G q z
    .rw[List.mem_singleton.1 z];exact i2
   .intro q J;obtain z|z:=List.mem_append.1 J
    .exact I q z
    .rw[List.mem_singleton.1 z];exact i3
 |mt d hn _ ih=>
  obtain⟨y,A,f,t,a,B,E,G,I⟩:=ih;injection B with _ _ _ B;subst B;exact gT.mt _ _ _ _ _ (λq=>by subst q;simp[aN]at hn) E G I
def FR{s:Nat}(d:eC T e s k j a):k<j/\nn a+1<=2*(j-k):=by
 induction d
 all_goals(try simp only[nn,cr,aao,rM,bD]at*)
 all_goals omega
structure nk(T:List jc)(e n:Nat):Prop where
 g:eX T e
 top:∀i,(tk T i).ah<=400
 asc:∀i j,i<=j->j<=e->(tk T i).ah<=(tk T j).ah
 lt:∀i,i<e->(tk T i).ah<(tk T i).to/\(tk T i).to<=n/\(tk T i).to=(tk T i).ah+(tk T i).text.size
 nx:∀i j,i<j->j<e->(tk T i).to<=(tk T j).ah
def nk.last(h:nk T e n)(hi:i<j)(hj:j<=e):(tk T i).ah<aF T j/\aF T j<=n:=by
 rw[aF];rw[if_neg ae];have a:=h.lt i ae;have b:=h.lt (j-1) ae;have c:=h.asc i (j-1) ae ae;omega
def nk.mono(h:nk T e n)(h0:0<i)(hi:i<=j)(hj:j<=e):aF T i<=aF T j:=by
 unfold aF;rw[if_neg ae,if_neg ae];by_cases q:i=j
 .rw[q];exact br _
 .have:=h.nx (i-1) (j-1) ae ae;have:=h.lt (j-1) ae;omega
def toN:Nd->Nat
 |.mk _ _ _ _ _ t _=>t
def FT{lo:Nat}:∀{l m:List Nd},LB lo l->LB lo m->LB lo (l++m)
 |[],_,_,h=>h|_::_,_,g,h=>⟨g.1,FT g.2 h⟩
def PlL.pD{n:Nat}:∀{l m:List Nd},PlL n l->PlL n m->PlL n (l++m)
 |[],_,_,h=>h|_::_,_,h,k=>⟨h.1,PlL.pD h.2 k⟩
def acM(T:List jc)(n k j:Nat)(a:Nd):Prop:=Ge (tk T k).ah a/\PlN n a/\toN a<=aF T j
def nk.nd(h:nk T e n){c a m:Nat}{L:List Nd}(x:k<j)(z:j<=e)(hc:c≠2/\c≠16)(A:(tk T k).ah<=a/\a<=400)(B:s.size<=400)(g:LB (tk T k).ah L/\PlL n L):acM T n k j (.mk c s m L (tk T k).ah (aF T j) a):=
 ⟨⟨⟨br _,A.1⟩,⟨h.top _,A.2,B⟩,g.1⟩,⟨(h.last x z).1,(h.last x z).2,λq=>absurd q hc.1,λq=>absurd q hc.2,g.2⟩,br _⟩
def acM.c(h:nk T e n){x:Nd}(p:acM T n k' j x)(z:k<=k')(A:k'<=e):Ge (tk T k).ah x/\PlN n x:=⟨p.1.mono<|h.asc k k' z A,p.2.1⟩
def nk.at0(h:nk T e n)(k:Nat):(tk T k).ah<=(tk T k).ah/\(tk T k).ah<=400:=⟨br _,h.top k⟩
def eC.pos(h:nk T e n){s:Nat}(d:eC T e s k j a):acM T n k j a:=by
 have two:∀{k:Nat}{x y:Nd},Ge (tk T k).ah x/\PlN n x->Ge (tk T k).ah y/\PlN n y->LB (tk T k).ah [x,y]/\PlL n [x,y]:=λp q=>⟨⟨p.1,q.1,trivial⟩,p.2,q.2,trivial⟩;have G:∀{s:BA},(s=cY\/s=bM\/s=cD\/s=b8)->s.size<=400:=by rintro s(rfl|rfl|rfl|rfl)<;>decide
 have E:cX.size<=400:=aD
 induction d with
 | @leaf s k hs h1 h2 h3=>
   have q:=h.lt k h1;exact⟨⟨⟨br _,br _⟩,⟨h.top _,h.top _,(h.g.tok k).sz⟩,trivial⟩,⟨q.1,q.2.1,λ_=>ae,λ_=>ae,trivial⟩,br _⟩
 |unit hs hj=>exact h.nd ae hj aD (h.at0 _) E ⟨trivial,trivial⟩|par d hj ih=>have:=d.le;exact⟨(ih.c h ae ae).1,ih.2.1,jy ih.2.2<|h.mono ae ae hj⟩|two hc d1 d2 hj i1 i2=>
  have B:=d1.le;have A:=d2.le;exact h.nd ae hj (by obtain⟨rfl,_⟩|⟨rfl,_⟩:=hc<;>decide) (h.at0 _) E<|two (i1.c h ae ae)<|i2.c h ae ae
 | @nm s k h1 h2=>
   have q:=h.lt k h2;exact⟨⟨⟨br _,br _⟩,⟨h.top _,h.top _,(h.g.tok k).sz⟩,trivial⟩,⟨q.1,q.2.1,λ_=>ae,(λq=>iP),trivial⟩,br _⟩
 | @add _ _ _ _ x _ d1 d2 i1 i2=>
   have B:=d1.le;have A:=d2.le;have z:=i2.c h (j7 B.1) ae;have m:=h.mono (i:=_) ae (j7 A.1) A.2
   cases x
   obtain⟨⟨J,K,O⟩,⟨p1,p2,S,U,V⟩,I⟩:=i1;have I:_<=_:=I;simp only[toN]at I;have l:=h.last (i:=_) A.1 A.2;exact⟨⟨J,K,FT O ⟨z.1,trivial⟩⟩,⟨ae,l.2,S,U,V.pD ⟨z.2,trivial⟩⟩,br _⟩
 |up _ _ ih=>exact ih|ex _ ih=>exact ih|arr d1 d2 i1 i2|op _ d1 d2 i1 i2|call d1 d2 i1 i2=>
  have B:=d1.le;have A:=d2.le;exact h.nd ae A.2 aD (h.at0 _) (by first|exact E|(apply G;assumption))<|two (i1.c h ae ae)<|i2.c h ae ae
 |fn h1 d ih=>
  have B:=d.le;exact h.nd ae B.2 aD ⟨h.asc _ _ ae ae,h.top _⟩ (h.g.tok _).sz ⟨⟨(ih.c h ae ae).1,trivial⟩,ih.2.1,trivial⟩
 |lt _ d1 d2 i1 i2|ltr _ d1 d2 i1 i2=>
  have B:=d1.le;have A:=d2.le;exact h.nd ae A.2 aD ⟨h.asc _ _ ae ae,h.top _⟩ (h.g.tok _).sz<|two (i1.c h ae ae)<|i2.c h ae ae
 | @ite k _ _ _ _ _ _ d1 d2 d3 i1 i2 i3=>
   have B:=d1.le;have A:=d2.le;have I:=d3.le;have z:=i1.c h (j6 _) ae;have y:=two (i2.c h (k:=k) ae ae)<|i3.c h ae ae;exact h.nd ae I.2 aD (h.at0 _) E ⟨⟨z.1,y.1⟩,z.2,y.2⟩
 |ar0 d hj ih=>
  have B:=d.le;have z:=ih.c h (j6 _) ae;exact h.nd ae hj aD (h.at0 _) E ⟨⟨z.1,trivial⟩,z.2,trivial⟩
 | @ar k _ _ _ _ _ _ _ d1 d2 d3 hq i1 i2 i3=>
   have B:=d1.le;have A:=d2.le;have I:=d3.le;have y:=two (i2.c h (k:=k) ae ae)<|i3.c h ae ae;obtain⟨⟨_,_,g⟩,⟨_,_,_,_,p⟩,_⟩:=i1;exact h.nd ae ae aD (h.at0 _) E ⟨FT g y.1,p.pD y.2⟩
 |mt d hn hj ih=>
  have B:=d.le;obtain⟨⟨_,_,g⟩,⟨_,_,_,_,p⟩,_⟩:=ih;exact h.nd ae hj aD (h.at0 _) E ⟨g,p⟩
inductive NF(T:List jc)(e:Nat):Nat->Nat->List Nd->Prop where
 |one{i j:Nat}{m:Nd}:eC T e 11 i j m->NF T e i j [m]
 |more{i j q:Nat}{ms:List Nd}{m:Nd}:NF T e i j ms->eC T e 11 (j+1) q m->NF T e i q (ms++[m])
inductive DcD(T:List jc)(e:Nat):Nat->Nat->Dc->Prop where
 |ty{k j q:Nat}{vs:List jc}{ms:List Nd}:(tk T<|k+1).kind=2->(∀v∈vs,v.kind=3/\∃q,q<e/\v=tk T q)/\(∀i(h:i<vs.length),vs[i]=tk T (k+2+i))->NF T e (k+3+vs.length) j ms->j<q->q<=e->DcD T e k q (.ty (tk T<|k+1) vs ms)
 |lt{k j:Nat}{b:Nat×jc×Nd}:BdD T e k b j->j+1<=e->DcD T e k (j+1) (.lt (b.1==11) b.2.1 b.2.2)
inductive NG(T:List jc)(e:Nat):Nat->List Dc->Prop where
 |nil:NG T e 0 []
 |more{i j:Nat}{l:List Dc}{d:Dc}:NG T e i l->DcD T e i j d->NG T e j (l++[d])
def NF.le{i j:Nat}{ms:List Nd}(h:NF T e i j ms):i<j/\j<=e:=by
 induction h with
 |one d=>exact d.le|more _ d ih=>have:=d.le;omega
def DcD.le{i j:Nat}{d:Dc}(h:DcD T e i j d):i<j/\j<=e:=by
 cases h with
 |ty _ _ m hj _=>have:=m.le;omega|lt b hj=>have:=b.le;omega
def NG.le{j:Nat}{l:List Dc}(h:NG T e j l):j<=e:=by
 cases h with
 |nil=>exact jz _|more _ d=>exact d.le.2
def acN(h:eX T e)(B:pY T e 1 sm):pY T e 11 (cR T sm):=by
 intro k x;rw[cR];refine(o8 h x 2 aD).aI ?_;rintro t k1⟨rfl,z,rfl,A⟩;exact FO (s:=1) B T.length _ (k+1)<|.nm z A
def Li(h:eX T e){mk:M Nd}(x:pY T e 11 mk){i:Nat}:∀f l k,k<=e->(l=[]/\k=i/\f≠0\/∃j,k=j+1/\NF T e i j l)->wN T (dU T mk f l k) (λl' k'=>∃j,j<=k'/\k'<=e/\NF T e i j l')
 |0,l,k,hk,hl=>by
  obtain⟨_,_,q⟩|⟨j,rfl,hl⟩:=hl
  .exact absurd rfl q
  .exact⟨j,j6 _,hk,hl⟩
 |f+1,l,k,hk,hl=>by
  rw[gY];refine(x k hk).aI λm k1 d=>?_;have q:NF T e i k1 (l++[m]):=by
   obtain⟨rfl,rfl,_⟩|⟨j,rfl,hl⟩:=hl
   .exact .one d
   .exact .more hl d
  rw[iO];split
  .rename_i hc;exact Li h x f _ (k1+1) (h.step d.le.2 qAc)<|.inr ⟨k1,rfl,q⟩
  .exact⟨k1,br _,d.le.2,q⟩
def aay(h:eX T e):∀f l k,k<=e->wN T (iE T f l k) (λl' k'=>∃vs,l'=l++vs/\((∀v∈vs,v.kind=3/\∃q,q<e/\v=tk T q)/\∀i(h:i<vs.length),vs[i]=tk T (k+i))/\k'=k+vs.length/\k'<=e)
 |0,l,k,hk=>⟨[],ag,⟨ag,ag⟩,rfl,hk⟩|f+1,l,k,hk=>by
  unfold iE;split
  .rename_i h3;have x:=h.step hk ae;refine(aay h f _ (k+1) x).mono ?_;rintro l' k'⟨vs,rfl,z,a2,A⟩
   exact⟨tk T k::vs,ag,⟨λv hv=>by
    obtain rfl|hv:=List.mem_cons.1 hv
    .exact⟨h3,k,x,rfl⟩
    .exact z.1 v hv,λi hi=>by
    cases i with
    |zero=>rfl|succ i=>rw[qi,z.2 i WW,Nat.add_assoc,Nat.add_comm 1]⟩,bQ,A⟩
  .exact⟨[],ag,⟨ag,ag⟩,rfl,hk⟩
def afV(h:eX T e)(d:Nat)(A:k<=e):wN T (ec T d k) (λx k'=>DcD T e k k' x):=by
 have z:=aat h d;rw[ec];split
 .rw[Af];refine(ck h A jY).aI ?_;rintro _ B⟨rfl,E⟩;refine(o8 h E 2 aD).aI ?_;rintro t G⟨rfl,I,rfl,J⟩;refine(aay h T.length [] _ J).aI ?_;rintro l k3⟨vs,rfl,K,rfl,O⟩;refine(ck h O tN).aI ?_;rintro _ k4⟨rfl,S⟩;refine(Li h (i:=k+3+l.length) (acN h<|yj h (.inl rfl) z λ_=>z) T.length [] _ S<|.inl ⟨rfl,ae,by have:=h.pos;omega⟩).aI ?_;rintro ms k5⟨j,m1,U,V⟩;refine(ck h U dK).aI ?_;rintro _ k6⟨rfl,X⟩;exact .ty I K V ae X
 .rw[Ad];refine(Sg h (aax h d) A).aI λb B q=>?_;refine(ck h q.le.2 dK).aI ?_;rintro _ G⟨rfl,B⟩;exact .lt q B
def Sh(h:eX T e)(d:Nat):∀f l k,NG T e k l->wN T (dc T (ec T d) f l k) (λl' k'=>NG T e k' l')
 |0,l,k,hl=>hl|f+1,l,k,hl=>by
  unfold dc;split
  .exact(afV h d hl.le).aI λx k1 q=>Sh h d f _ k1<|.more hl q
  .exact hl
def yb(z:¬400<s.size):match bq s with
 |.error f=>afT (ja s 0) f|.ok l=>∃j,NG (ja s 0) ((ja s 0).length-1) j l:=by
 have h:=(tE s ae).1
 have x:=(Sh h (ja s 0).length (ja s 0).length [] 0 .nil).aI (f:=D7<|ja s 0) (R:=λl _=>∃j,NG (ja s 0) ((ja s 0).length-1) j l) (by
  intro l' k' q;rw[D7];split
  .exact⟨_,q⟩
  .exact fP)
 rw[bq];rw[if_neg z];revert x
 cases aI (dc (ja s 0) (ec (ja s 0) (ja s 0).length) (ja s 0).length []) (D7<|ja s 0) 0 with
 |error f=>intro x;exact x|ok p=>intro x;exact x
def NF.all{P:Nd->Prop}(h:NF T e i j ms)(A:∀k q m,i<=k->q<=j->eC T e 11 k q m->P m):∀m∈ms,P m:=by
 induction h with
 |one d=>intro m x;rw[List.mem_singleton.1 x];exact A _ _ _ (br _) (br _) d|more a d ih=>
  have:=a.le;have:=d.le;intro m x;obtain z|z:=List.mem_append.1 x
  .exact ih (λk q m h1 h2=>A k q m h1 ae) m z
  .rw[List.mem_singleton.1 z];exact A _ _ _ ae (br _) d
def NF.nn(h:NF T e i j ms):ms≠[]/\cr ms<=2*(j-i):=by
 induction h with
 |one d=>have:=FR d;exact⟨ag,by simp[cr];omega⟩|more a d ih=>
  have:=a.le;have:=FR d;exact⟨ag,by simp[rM,cr];omega⟩
def NG.all{P:Dc->Prop}(h:NG T e j l)(B:∀i j d,DcD T e i j d->P d):∀d∈l,P d:=by
 induction h with
 |nil=>simp|more a d ih=>
  intro x A;obtain z|z:=List.mem_append.1 A
  .exact ih x z
  .rw[List.mem_singleton.1 z];exact B _ _ _ d
def BdD.ex(h:eX T e){k j:Nat}{b:Nat×jc×Nd}(q:BdD T e k b j):JX b.2.1.text/\b.2.1.text.size<=400/\gT b.2.2/\((b.1==11)=ia->Fn3 b.2.2)/\nn b.2.2+3<=2*(j-k):=by
 obtain⟨e1,e2,e3,e4⟩|⟨e1,e2,e3,e4⟩:=q<;>rw[e2,e1]<;>have:=FR e4
 .exact⟨(h.tok _).low e3,(h.tok _).sz,e4.shp h,nofun,ae⟩
 .exact⟨(h.tok _).low e3,(h.tok _).sz,Fn3.ex<|e4.shp h,λ_=>e4.shp h,ae⟩
def DcD.d3(h:eX T e)(q:DcD T e k j d):D3 d/\AY d<=2*(j-k):=by
 cases q with
 |ty t1 v m h1 h2=>
  have a:=m.nn;have b:=m.le;exact⟨⟨(h.tok _).up t1,(h.tok _).sz,λv' hv=>(by obtain⟨z,q,_,rfl⟩:=v.1 v' hv;exact⟨(h.tok q).var z,(h.tok q).sz⟩),a.1,m.all λ_ _ _ _ _ d=>d.shp h⟩,by simp only[AY];omega⟩
 |lt b hj=>
  have⟨x,A,B,E,b5⟩:=b.ex h;exact⟨⟨x,A,B,E⟩,by simp only[AY];omega⟩
def NG.nd(h:eX T e)(q:NG T e j l):Dv l<=2*j:=by
 induction q with
 |nil=>simp[Dv]|more a d ih=>
  have:=(d.d3 h).2;have:=d.le;simp only[Dv,List.map_append,List.sum_append,qh,qj,List.sum_cons,List.sum_nil]at*;omega
def po(x:¬400<s.size):match bq s with
 |.error f=>f.kind%6≠0/\f.ah<=f.to/\f.to<=s.size|.ok l=>(∀d∈l,D3 d)/\Dv l<=802:=by
 have⟨h,hl⟩:=tE s ae;have q:=yb x
 cases e:bq s with
 |error f=>rw[e]at q;exact acK q|ok l=>
  rw[e]at q;obtain⟨j,q⟩:=q;exact⟨q.all λ_ _ _ d=>(d.d3 h).1,by have:=q.nd h;have:=q.le;omega⟩
section
open Un
def Zr:Nd->Nat
 |.mk k _ _ _ _ _ _=>k
def TkP n(t:jc):=t.ah<t.to/\t.to<=n
def GeZ:Dc->Prop
 |.ty _ _ ms=>∀m∈ms,Ge 0 m|.lt _ _ b=>Ge 0 b
def PlD(n:Nat):Dc->Prop
 |.ty t vs ms=>TkP n t/\(∀v∈vs,TkP n v)/\∀m∈ms,PlN n m/\Zr m=2|.lt _ t b=>TkP n t/\PlN n b
def AK(s:BA):∀f i,(∀(j:Nat)(h:j+1<(jd s f i).length),i<=((jd s f i)[j]).ah/\((jd s f i)[j]).ah<((jd s f i)[j]).to/\((jd s f i)[j]).to<=s.size/\((jd s f i)[j]).to=((jd s f i)[j]).ah+((jd s f i)[j]).text.size)/\∀(j k:Nat)(E:j<k)(h:k+1<(jd s f i).length),((jd s f i)[j]).to<=((jd s f i)[k]).ah
 |0,i=>⟨λj h=>by simp[jd]at h,λj k _ h=>by simp[jd]at h⟩|f+1,i=>by
  unfold jd;by_cases x:i<s.size
  .by_cases G:Pu.cN (jj s i)=ia
   .simp only[x,G,if_true];have⟨z,A⟩:=AK s f<|i+1;exact⟨λj h=>⟨by have:=(z j h).1;omega,(z j h).2⟩,A⟩
   .simp only[x,G,if_true,if_false];have⟨z,A⟩:=AK s f (jf s i).to;have I:=jo s i x;have J:=jq s i;have B:=Hg s i x;refine⟨λj h=>?_,λj k E h=>?_⟩
    .cases j with
     |zero=>exact⟨by simp[J],by simp[J];exact I.1,by simp;exact I.2,by simpa using B⟩|succ j=>
      have q:=z j uY;exact⟨by have:=q.1;show i<=_;exact jy ae q.1,q.2⟩
    .cases k with
     |zero=>omega|succ k=>
      cases j with
      |zero=>simpa using(z k uY).1|succ j=>simpa using A j k ae uY
  .simp only[x,if_false];exact⟨λj h=>vB,λj k _ h=>vB⟩
def Rj(s:BA)(G:s.size<=400):nk (ja s 0) ((ja s 0).length-1) s.size:=by
 have⟨l,E,_⟩:=ln s (s.size-0) 0;have e:ja s 0=l++[jh s]:=E;have⟨A,B⟩:=AK s (s.size-0) 0;have A:∀(j:Nat)(h:j+1<(ja s 0).length),0<=((ja s 0)[j]).ah/\((ja s 0)[j]).ah<((ja s 0)[j]).to/\((ja s 0)[j]).to<=s.size/\((ja s 0)[j]).to=((ja s 0)[j]).ah+((ja s 0)[j]).text.size:=A;have B:∀(j k:Nat)(hjk:j<k)(h:k+1<(ja s 0).length),((ja s 0)[j]).to<=((ja s 0)[k]).ah:=B;have a:∀j,j<(ja s 0).length-1->(tk (ja s 0) j).ah<(tk (ja s 0) j).to/\(tk (ja s 0) j).to<=s.size/\(tk (ja s 0) j).to=(tk (ja s 0) j).ah+(tk (ja s 0) j).text.size:=λj hj=>by
  rw[<-Hb (T:=ja s 0) (k:=j) ae];exact(A j ae).2
 have b:∀i j,i<j->j<(ja s 0).length-1->(tk (ja s 0) i).to<=(tk (ja s 0) j).ah:=λi j hij hj=>by
  rw[<-Hb (T:=ja s 0) (k:=i) ae,<-Hb (T:=ja s 0) (k:=j) ae];exact B i j hij ae
 have c:∀j,(ja s 0).length-1<=j->(tk (ja s 0) j).ah=if j=(ja s 0).length-1 then s.size else 0:=λj hj=>by
  rw[tk];rw[j8];split
  .rename_i q;rw[q,e];simp[jh]
  .rw[List.getElem?_eq_none ae];rfl
 refine⟨(tE s G).1,λi=>?_,λi j A B=>?_,a,b⟩
 .by_cases q:i<(ja s 0).length-1
  .have:=a i q;omega
  .rw[c i ae];split<;>omega
 .by_cases q:i=j
  .rw[q];exact br _
  .have x:=a i ae;by_cases z:j<(ja s 0).length-1
   .have:=b i j ae z;omega
   .rw[c j ae,if_pos ae];omega
theorem nk.tk(h:nk T e n)(x:k<e):TkP n (Go.Proofs.YtonaidfgokhmoaaGreatDoor.tk T k):=⟨(h.lt k x).1,(h.lt k x).2.1⟩
def BdD.pos(h:nk T e n){k j:Nat}{b:Nat×jc×Nd}(q:BdD T e k b j):TkP n b.2.1/\PlN n b.2.2/\Ge 0 b.2.2:=by
 have:=q.le;obtain⟨_,e2,_,e4⟩|⟨_,e2,_,e4⟩:=q<;>rw[e2]<;>exact⟨h.tk ae,(e4.pos h).2.1,(e4.pos h).1.mono<|jz _⟩
def DcD.pos(h:nk T e n){k j:Nat}{d:Dc}(q:DcD T e k j d):PlD n d/\GeZ d:=by
 cases q with
 |ty t1 v m h1 h2=>
  have:=m.le;exact⟨⟨h.tk ae,λx hx=>(by obtain⟨_,q,z,rfl⟩:=v.1 x hx;exact h.tk z),m.all λ_ _ _ _ _ d=>⟨(d.pos h).2.1,by obtain⟨_,_,_,_,_,rfl,_⟩:=d.shp h.g;rfl⟩⟩,m.all λ_ _ _ _ _ d=>(d.pos h).1.mono<|jz _⟩
 |lt b hj=>have:=b.pos h;exact⟨⟨this.1,this.2.1⟩,this.2.2⟩
def Uw(h:bq s=.ok l):∀d∈l,PlD s.size d/\GeZ d:=by
 have x:¬400<s.size:=λq=>by simp[bq,q]at h
 have q:=yb x;rw[h]at q;obtain⟨j,q⟩:=q;exact q.all λ_ _ _ d=>d.pos<|Rj s ae
def cZ{c}{a b}{z}(x:k≠0)(h:(bR c k a b z).kind=0):c=ka/\z.kind=0:=by
 rw[bR]at h
 cases c with
 |false=>exact⟨rfl,h⟩|true=>
  rw[if_pos rfl]at h;exact absurd h (UB k a b z x).1
mutual
def Xs{ty:BA->Option Nat}{own:List BA}:∀(nd:Nd)(z:Fl),(rV ty own nd z).kind=0->z.kind=0
 |.mk k s n L f t a,z,h=>by
  rw[rV]at h;exact(cZ aD (cZ aD<|yw L _ h).2).2
def yw{ty:BA->Option Nat}{own:List BA}:∀(l:List Nd)(z:Fl),(iJ ty own l z).kind=0->z.kind=0
 |[],z,h=>h|x::l,z,h=>by rw[iJ]at h;exact Xs x z<|yw l _ h
end
mutual
def adR{mk:BA->Option Nat}:∀(nd:Nd)(q:List BA×Fl),(jJ mk nd q).2.kind=0->q.2.kind=0
 |.mk k s n L f t a,q,h=>by
  rw[jJ]at h;split at h
  .exact(cZ aD h).2
  .exact(cZ aD<|Ed L _ h).2
def Ed{mk:BA->Option Nat}:∀(l:List Nd)(q:List BA×Fl),(dW mk l q).2.kind=0->q.2.kind=0
 |[],q,h=>h|x::l,q,h=>by rw[dW]at h;exact adR x q<|Ed l _ h
end
mutual
def lR{ty mk:BA->Option Nat}:∀(nd:Nd)(l:List BA)(z:Fl),(dV ty mk nd l z).kind=0->z.kind=0
 |.mk k s n L f t a,l,z,h=>by
  rw[dV]at h;split at h
  .exact(cZ aD h).2
  split at h
  .exact(cZ aD h).2
  split at h
  .exact aaz L _ z h
  split at h
  .exact aaA L _ _ z h
  split at h
  .exact aaA L _ _ z h
  split at h
  .exact afW L l z h
  split at h
  .exact afX L l z h
  .exact aaB L l z h
def aaz{ty mk:BA->Option Nat}:∀(L:List Nd)(l:List BA)(z:Fl),(Bc ty mk L l z).kind=0->z.kind=0
 |[],l,z,h=>h|x::r,l,z,h=>lR x l z (by rw[Bc]at h;exact h)
def aaA{ty mk:BA->Option Nat}:∀(L:List Nd)(l A:List BA)(z:Fl),(Eg ty mk L l A z).kind=0->z.kind=0
 |[],l,A,z,h=>h|x::r,l,A,z,h=>lR x l z (aaz r A _ (by rw[Eg]at h;exact h))
def afX{ty mk:BA->Option Nat}:∀(L:List Nd)(l:List BA)(z:Fl),(Bd ty mk L l z).kind=0->z.kind=0
 |[],l,z,h=>h|[x],l,z,h=>lR x l z (by rw[Bd]at h;exact h)|x::y::r,l,z,h=>lR x l z (Xs y _ (by rw[Bd]at h;exact h))
def aaB{ty mk:BA->Option Nat}:∀(L:List Nd)(l:List BA)(z:Fl),(gn ty mk L l z).kind=0->z.kind=0
 |[],l,z,h=>h|x::r,l,z,h=>lR x l z (aaB r l _ (by rw[gn]at h;exact h))
def afW{ty mk:BA->Option Nat}:∀(L:List Nd)(l:List BA)(z:Fl),(Ib ty mk L l z).kind=0->z.kind=0
 |[],l,z,h=>h|x::r,l,z,h=>lR x l z (Ef r l _ (by rw[Ib]at h;exact h))
def Ef{ty mk:BA->Option Nat}:∀(L:List Nd)(l:List BA)(z:Fl),(mi ty mk L l z).kind=0->z.kind=0
 |[],l,z,h=>h|p::r,l,z,h=>adR p ([],z) (afY r l _ (by rw[mi]at h;exact h))
def afY{ty mk:BA->Option Nat}:∀(L:List Nd)(l:List BA)(q:List BA×Fl),(Ee ty mk L l q).kind=0->q.2.kind=0
 |[],l,q,h=>h|e::r,l,q,h=>lR e _ q.2 (Ef r l _ (by rw[Ee]at h;exact h))
end
mutual
def nO:Nd->List BA
 |.mk _ s _ L _ _ _=>s::kB L
def kB:List Nd->List BA
 |[]=>[]|x::l=>nO x++kB l
end
mutual
def Gp:∀nd,(nO nd).length=nn nd
 |.mk k s n L f t a=>by simp only[nO,nn,eG,Dm L];omega
def Dm:∀l,(kB l).length=cr l
 |[]=>rfl|x::l=>by simp only[kB,cr,g_,Gp x,Dm l]
end
def kl:Nd->Nat
 |.mk _ _ _ L _ _ _=>L.length
def MkL:Dc->Prop
 |.ty _ vs ms=>∀m∈ms,vs.length+nn m+kl m<=802|.lt _ _ _=>True
def afZ{s:Nat}(d:eC T e s k j a):10<=s->nn a+kl a<=2*(j-k):=by
 induction d
 case add d1 d2 i1 i2=>
  intro h;have:=d1.le;have:=FR d2;have:=i1 h;rw[aao,show∀x y u,kl (Nd.add x y u)=kl x+1 from λx y u=>by cases x;simp[Nd.add,kl]];omega
 case par d _ ih=>intro h;have:=ih h;omega
 case nm=>intro;simp[nn,cr,kl]
 all_goals intro;omega
def SA(A:¬400<s.size):match bq s with
 |.error _=>True|.ok l=>∀d∈l,MkL d:=by
 have q:=yb A;have hl:=(tE s ae).2
 cases e:bq s with
 |error f=>trivial|ok l=>
  rw[e]at q;obtain⟨j,q⟩:=q;refine q.all λi j d z=>?_
  cases z with
  |lt=>trivial|ty _ _ m h1 h2=>exact m.all λk q' x a b c=>by have:=afZ c aD;have:=c.le;omega
namespace In
end In
def U8:BA:=⟨#[108,101,116,32,107,32,61,32,102,117,110,32,120,32,45,62,32,102,117,110,32,121,32,45,62,32,120,59,32,108,101,116,32,97,32,61,32,107,32,49,59]⟩
def af0:List Dc:=[.lt ka ⟨1,⟨#[107]⟩,4,5⟩<|.mk 9 ⟨#[120]⟩ 0 [.mk 9 ⟨#[121]⟩ 0 [.mk 1 ⟨#[120]⟩ 0 [] 26 27 26] 17 27 21] 8 27 12,.lt ka ⟨1,⟨#[97]⟩,33,34⟩<|.mk 8 cX 0 [.mk 1 ⟨#[107]⟩ 0 [] 37 38 37,.mk 3 ⟨#[49]⟩ 1 [] 39 40 39] 37 40 37]
def aaC:bq U8=.ok af0:=qkr
def U9:(fQ iy af0 yx).f=lA:=qkr
namespace In
section
variable {s:St}
theorem FU{g}{o:Except Ft (β×St)}(h:andM lC g s o):∃v,¬s.u v/\g v ⟨s.k,λn=>s.u n\/n=v⟩ o:=by
 obtain⟨x,⟨v,_,e⟩,_⟩|⟨v,s1,⟨v',hv,e⟩,ho⟩:=h
 .cases e
 .grind
theorem o9{m}{g}{o:Except Ft (β×St)}{Q:α->St->Prop}(h:andM m g s o)(hm:∀o,m s o->∃a s',o=.ok (a,s')/\Q a s'):∃a s',Q a s'/\g a s' o:=by
 obtain⟨x,z,_⟩|⟨a,s1,z,ho⟩:=h
 .grind
 .grind
def acO{x}{t a v:Nat}(h:Γ x=ga (mono<|.var v))(E:s.k=qz)(A:inf mk (.mk 1 x n [] f t a) Γ s o):∃s',o=.ok (.var v,s')/\s'.k=qz/\∀n,s'.u n↔s.u n:=by
 simp only[inf,ls,rY,h,if_true]at A;rw[E]at A;obtain⟨G,_⟩|⟨_,ρ,s',⟨iU,I,z,e⟩,rfl⟩:=A
 .simp[sub,size]at G
 .cases e
  have B:∀y,ρ y=ha:=λy=>z.out y ag;refine⟨⟨s.k,I⟩,by simp[sub,via,B],E,λn=>⟨λq=>?_,λq=>(z.use n).2<|ql q⟩⟩;obtain q|⟨y,_,q⟩:=(z.use n).1 q
  .exact q
  .rw[B]at q;cases q
end
def ahR(x:inf mk (.mk 9 ⟨#[120]⟩ 0 [.mk 9 ⟨#[121]⟩ 0 [.mk 1 ⟨#[120]⟩ 0 [] 26 27 26] 17 27 21] 8 27 12) (λ_=>ha) ⟨qz,u⟩ o):∃v v2 s',v≠v2/\o=.ok (mD (.var v)<|mD (.var v2)<|.var v,s')/\s'.k=qz/\s'.u v/\s'.u v2:=by
 have I:∀Γ,inf mk (.mk 9 ⟨#[120]⟩ 0 [.mk 9 ⟨#[121]⟩ 0 [.mk 1 ⟨#[120]⟩ 0 [] 26 27 26] 17 27 21] 8 27 12) Γ=andM lC λv=>andM (inf mk (.mk 9 ⟨#[121]⟩ 0 [.mk 1 ⟨#[120]⟩ 0 [] 26 27 26] 17 27 21)<|cV Γ ⟨#[120]⟩<|mono<|.var v) λa=>dl<|mD (.var v) a:=λΓ=>by simp[inf,ls,pM,dB]
 have J:∀Γ,inf mk (.mk 9 ⟨#[121]⟩ 0 [.mk 1 ⟨#[120]⟩ 0 [] 26 27 26] 17 27 21) Γ=andM lC λv=>andM (inf mk (.mk 1 ⟨#[120]⟩ 0 [] 26 27 26)<|cV Γ ⟨#[121]⟩<|mono<|.var v) λa=>dl<|mD (.var v) a:=λΓ=>by simp[inf,ls,pM,dB]
 rw[I]at x;have⟨v,hv,x⟩:=FU x
 obtain⟨a,G,⟨v2,A,rfl,B,z,K⟩,x⟩:=o9 (Q:=λa s'=>∃v2,v≠v2/\a=mD (.var v2) (.var v)/\s'.k=qz/\s'.u v/\s'.u v2) x (by
  intro o x;rw[J]at x;have⟨v2,E,x⟩:=FU x
  obtain⟨a,G,⟨rfl,B,z⟩,x⟩:=o9 (Q:=λa s'=>a=.var v/\s'.k=qz/\∀n,s'.u n↔((u n\/n=v)\/n=v2)) x (by
   intro o x;obtain⟨s',rfl,O,S⟩:=acO (v:=v) (by simp[cV]) rfl x
   exact⟨_,_,rfl,rfl,O,S⟩)
  cases x
  exact⟨_,_,rfl,v2,λe=>E<|qk e.symm,rfl,B,(z _).2<|ql<|qk rfl,(z _).2<|qk rfl⟩)
 cases x
 exact⟨v,v2,G,A,rfl,B,z,K⟩
def ahS{v B:Nat}(G:v≠B)(S:Γ ⟨#[107]⟩=ga ⟨mD (.var v)<|mD (.var B)<|.var v,vars []<|mD (.var v)<|mD (.var B)<|.var v⟩){s:St}(hk:s.k=qz)(z:inf mk (.mk 8 cX 0 [.mk 1 ⟨#[107]⟩ 0 [] 37 38 37,.mk 3 ⟨#[49]⟩ 1 [] 39 40 39] 37 40 37) Γ s o):∃a s' m,o=.ok (a,s')/\sub s'.k a=mD (.var m) iT:=by
 have U:vars [] (mD (.var v)<|mD (.var B)<|.var v)=[v,B]:=by simp[vars,aX,Un.seen,G,Ne.symm G]
 rw[U]at S;have e1:inf mk (.mk 8 cX 0 [.mk 1 ⟨#[107]⟩ 0 [] 37 38 37,.mk 3 ⟨#[49]⟩ 1 [] 39 40 39] 37 40 37) Γ=andM (inf mk (.mk 1 ⟨#[107]⟩ 0 [] 37 38 37) Γ) λa=>andM (dl iT) λb=>andM lC λv=>andM (tG a (mD b<|.var v) 37 40) λ_=>dl<|.var v:=by simp[inf,ls,pM,dB]
 rw[e1]at z
 obtain⟨a,s1,⟨n,A,rfl,I,k1,u1,u2⟩,z⟩:=o9 (Q:=λa s'=>∃n A,a=mD (.var n) (mD (.var A)<|.var n)/\n≠A/\s'.k=qz/\s'.u n/\s'.u A) z (by
  intro o z;simp only[inf,ls,rY,S,if_true]at z;rw[hk]at z;obtain⟨J,_⟩|⟨_,ρ,s',⟨iU,u',K,e⟩,rfl⟩:=z
  .rw[cM]at J;simp[size,ak]at J
  .cases e
   have⟨n,I⟩:=Option.ne_none_iff_exists'.1<|K.all v ag;have⟨A,E⟩:=Option.ne_none_iff_exists'.1<|K.all B ag
   refine⟨_,_,rfl,n,A,by rw[cM];simp[sub,aU,via,I,E],λe=>G<|K.one v B n rfl I (by rw[e];exact E),hk,(K.use n).2<|qk ⟨v,rfl,I⟩,(K.use A).2<|qk ⟨B,rfl,E⟩⟩)
 have⟨b,s2,⟨hb,V⟩,E⟩:=o9 (Q:=λb s'=>b=iT/\s'=s1) z<|λo z=>⟨_,_,z,rfl,rfl⟩;rw[hb,V]at E;have⟨r,Z,z⟩:=FU E;have X:r≠n:=λe=>Z<|e▸u1;have K:r≠A:=λe=>Z<|e▸u2
 have⟨x,s3,⟨m,q⟩,Y⟩:=o9 (Q:=λ_ s'=>∃m,sub s'.k (.var r)=mD (.var m) iT) z (by
  intro o z;rw[tG]at z;simp only[k1,cM]at z;have O:sub (λw=>if w=n then iT else if w=r then mD (.var A) iT else .var w) (mD (.var n)<|mD (.var A)<|.var n)=sub (λw=>if w=n then iT else if w=r then mD (.var A) iT else .var w) (mD iT<|.var r):=by
   simp[sub,aU,I.symm,X,Ne.symm K]
  obtain⟨J,_⟩|⟨_,_,⟨θ,hm,rfl⟩|⟨J,_⟩⟩:=z
  .simp[size,ak]at J
  .refine⟨_,_,rfl,?_⟩;have g:=hm.gen _ O A;simp only[if_neg<|Ne.symm I,if_neg<|Ne.symm K]at g;have z:=hm.one;simp only[sub,aU,Ty.aM.injEq,List.cons.injEq,true_and,and_true]at z
   cases hθ:θ A with
   |var m=>exact⟨m,by show sub (λw=>sub θ<|.var w) (.var r)=_;simp only[sub];rw[<-z.2,z.1,hθ]⟩|aM c l=>rw[hθ]at g;simp[sub]at g
  .exact absurd O (J _))
 cases Y
 exact⟨_,_,m,rfl,q⟩
def acP{rs}{B}{F}(h:ud rs af0 (λ_=>ha) (λ_=>ha) ⟨qz,u⟩ B F):F=ha/\B.map (λp=>(p.1,Un.written Go.Proofs.YtonaidfgokhmoaaGreatDoor.dec p.2))=[(⟨#[107]⟩,[39,118,48,32,45,62,32,39,118,49,32,45,62,32,39,118,48]),(⟨#[97]⟩,[85,110,105,116,32,45,62,32,73,110,116])]:=by
 obtain⟨o,J,x⟩:=h;obtain⟨v,A,S,E,rfl,K,u1,u2⟩:=ahR J;obtain⟨z,_⟩|⟨_,T,B',I,rfl,x⟩:=x
 .rw[K,cM]at z;simp[size,ak]at z
 .have G:T=mD (.var v) (mD (.var A)<|.var v):=by rw[I,K,cM];rfl
  subst G;obtain⟨o,J,x⟩:=x;have V:(nxt rs S).k=qz:=by
   show(if rs then qz else S.k)=qz
   cases rs
   .exact K
   .rfl
  obtain⟨a,s2,m,rfl,U⟩:=ahS E (by simp[cV]) V J;obtain⟨z,_⟩|⟨_,T,B'',I,rfl,x⟩:=x
  .rw[U]at z;simp[size,ak]at z
  .obtain⟨rfl,rfl⟩:=x;have X:xD (.mk 8 cX 0 [.mk 1 ⟨#[107]⟩ 0 [] 37 38 37,.mk 3 ⟨#[49]⟩ 1 [] 39 40 39] 37 40 37)=ka:=by simp[xD,isC,isM]
   rw[X,U]at I;have G:T=mD kM iT:=by rw[I];simp[fW,sub,aU]
   subst G;have O:vars [] (mD (.var v)<|mD (.var A)<|.var v)=[v,A]:=by simp[vars,aX,Un.seen,E,Ne.symm E]
   have Y:([v,A]:List Nat).idxOf v=0:=ag;have Z:([v,A]:List Nat).idxOf A=1:=BS;have a1:Un.written Go.Proofs.YtonaidfgokhmoaaGreatDoor.dec (mD (.var v)<|mD (.var A)<|.var v)=[39,118,48,32,45,62,32,39,118,49,32,45,62,32,39,118,48]:=by
    rw[Un.written];rw[O];simp only[Un.wr,Un.F7,Y,Z];kernel_rfl
   have a2:Un.written Go.Proofs.YtonaidfgokhmoaaGreatDoor.dec (mD kM iT)=[85,110,105,116,32,45,62,32,73,110,116]:=qkr;refine⟨rfl,?_⟩;rw[qh,qh,qj,a1,a2]
end In
def aaD:(Tryz.prog.info? 9).map (λi=>(i.zero,i.size,i.bytes))=ga (ga<|.string ⟨#[]⟩,1,16):=qkr
def AL:Tryz.prog.underlying 46=ga (.slice 9):=qkr
abbrev nB(w:ca)base v xs:=w.ownsRow base 9 1 v xs.length xs
def nB.new(w:ca)C base(x:base<=w.heap.size)(hl:C.length<=1000)n(z:n=C.length):nB (w.alloc<|.cells C.toArray 9) base (.slice (ga ⟨w.heap.size,0,ha⟩) n n) C:=by
 subst z;exact⟨ag,.inr ⟨w.heap.size,C.length,C.toArray,rfl,x,heap_alloc_new w _,br _,VM,ag,ag⟩⟩
def uW{o}{a}{Q}(E:o.guard=ha)s x(X:o.op=.call {callee:=.builtin .append,args:=#[s,x],argTypes:=#[46,46]}){b0}{v u:ea}{news}(Y:a.eval s=v)(A:nB w base v xs)(Z:a.eval x=u)(hn:nB w b0 u news)(h1:∀u∈news,u.oneCell'=ia)(hz:xs.length+news.length<=1000)(B:base<=w.heap.size)(h:∀v' w',nB w' base v' (xs++news)->w.grownBy w' v.ownBlock->wpList jv ops Q rest (a.put o.dst v') w'):wpList jv ops Q (o::rest) a w:=by
 have⟨U,V,G,I,J⟩:=info_parts aaD;have K:=hn;obtain⟨hl,hc⟩:=hn;obtain⟨rfl,h0⟩|⟨g,cap,Wy,rfl,hg,hh,r⟩:=hc
 .have e:=List.eq_nil_of_length_eq_zero h0;subst e;refine wpList_append_own_none E s x 46 X base 9 U 1 AL V v xs.length xs Y A Z ?_;exact h v w (by simpa using A) ⟨rfl,rfl,rfl,br _,λ_ _ _=>rfl⟩
 .refine wpList_append_own w E s x 46 X base 9 U _ 1 16 AL V G I J rfl aD v xs.length xs Y A ⟨g,0,ha⟩ news.length cap news Z ae (λj z e=>K.cells rfl j z e) h1 VM ae B ?_;intro v' w' O S _;exact h v' w' (by rw[nB];rw[g_];exact O) S
def mB:Nat->Nat
 |0=>4|d+1=>2*mB d+40
def ahT:∀d,4<=mB d
 |0=>br _|d+1=>by have:=ahT d;simp only[mB];omega
def Sho(xs:List ea):=∀u∈xs,∃s,u=.string s/\s.size<=4
def Sho.pD{xs x:List ea}(h:Sho xs)(k:Sho x):Sho (xs++x):=λu hu=>(List.mem_append.1 hu).elim (h u)<|k u
def Sho.one{xs:List ea}(h:Sho xs):∀u∈xs,u.oneCell'=ia:=λu hu=>by obtain⟨s,rfl,_⟩:=h u hu;rfl
structure NSv w xb v(xs:List ea):Prop where
 o:∃base,nB w base v xs
 n:v.ownBlock≠ga xb
 k:Sho xs
def FV{v:ea}(h:nB w base v xs)(G:Ke rb w w')(I:v.ownBlock≠ga rb):nB w' base v xs:=by
 obtain⟨B,x⟩:=h;refine⟨B,?_⟩;obtain x|⟨g,cap,z,rfl,E,A,r⟩:=x
 .exact .inl x
 .exact .inr ⟨g,cap,z,rfl,E,(G.block g (by have:=(Array.getElem?_eq_some_iff.1 A).1;exact this) (by intro e;exact I<|by simp[qp,e])).trans A,r⟩
def NSv.ke{v:ea}{L:List ea}(h:NSv w xb v L)(z:Ke xb w w'):NSv w' xb v L:=by
 have⟨base,x⟩:=h.o;exact⟨⟨base,FV x z h.n⟩,h.n,h.k⟩
def NSv.af{v:ea}{L:List ea}(h:NSv w xb v L)(x:Bq w w'):NSv w' xb v L:=h.ke<|Ke.of x
def mC{B}{row}(h:Below B W w)(x:w.grownBy w' row)(hz:B<=w.heap.size)(z:∀k,row=ga k->B<=k):Below B W w':=
 ⟨x.os.trans h.os,x.tape.trans h.tape,x.output.trans h.output,jy h.size x.size,λi hi=>(x.block i ae (λe=>by have:=z i e.symm;omega)).trans<|h.block i hi⟩
def lp{v:ea}(h:nB w base v xs):∀k,v.ownBlock=ga k->base<=k:=λk hk=>(World.ownsRow.lt h k hk).1
section
variable {p:Option Addr} {r:Nat->Int}
def MkP xb p len cap r d w(e:fa)w':=∃s,e=.returned (.string s)/\s.size<=mB d/\yc xb p len cap r w w'
def MkE xb p len cap r d:=∀(w:ca)(A:Nat)(v:ea)(L:List ea),Src w xb p len cap r A->NSv w xb v L->L.length+d<=6->aa jv 14 #[Pv xb,Nv d,v] w (MkP xb p len cap r d w)
def FX:List ea:=[.string ⟨#[49]⟩,.string ⟨#[116,114,117,101]⟩,.string ⟨#[40,41]⟩,.string ⟨#[78]⟩,.string ⟨#[80]⟩]
def af1:Sho FX:=by
 intro u x;simp only[FX,qf,qe,or_false]at x;obtain rfl|rfl|rfl|rfl|rfl:=x<;>exact⟨_,rfl,aD⟩
def Lj:ea->BA
 |.string s=>s|_=>⟨#[]⟩
def acQ{w}{v:ea}(h:nB w base v xs)(G:∀u∈xs,∃s,u=.string s)(hn:0<xs.length):∃g cp,v=.slice (ga ⟨g,0,ha⟩) xs.length cp/\base<=g/\g<w.heap.size/\Txt w g xs.length (λj=>Lj<|xs.getD j<|.bool ka):=by
 have x:=h;obtain⟨h1,A⟩:=h;obtain⟨rfl,q⟩|⟨g,cp,Wy,rfl,B,hh,r⟩:=A
 .omega
 .refine⟨g,cp,rfl,B,(World.ownsRow.lt x g rfl).2,λj hj=>?_⟩;have e:=x.cells (g:=g) rfl j xs[j] (j9 hj);have⟨s,z⟩:=G xs[j]<|List.getElem_mem hj;have E:(⟨g,0,ha⟩:Addr).add j=⟨g,j,ha⟩:=by
   rw[Addr.add];split
   .grind
   .simp
  show w.cell? ⟨g,j,ha⟩=ga (Sv<|Lj<|xs.getD j<|.bool ka);rw[E,z]at e;rw[e,j8,j9 hj,z];rfl
def adS(h:Sho xs)(j:Nat):(Lj<|xs.getD j<|.bool ka).size<=4:=by
 rw[j8]
 cases e:xs[j]? with
 |none=>decide|some u=>obtain⟨s,rfl,x⟩:=h u<|List.mem_of_getElem? e;exact x
def nB.ahU{w}{v:ea}(h:nB w base v xs)o:nB (w.alloc o) base v xs:=jD h<|bw o
def lit(a:Array UInt8):(ByteArray.mk a).size=a.size:=rfl
def abf:List ea:=[.string ⟨#[97]⟩,.string ⟨#[98]⟩,.string ⟨#[102]⟩]
def ahV:Sho abf:=by
 intro u x;simp only[abf,qf,qe,or_false]at x;obtain rfl|rfl|rfl:=x<;>exact⟨_,rfl,aD⟩
def acR(w1:ca):Txt (w1.alloc<|.cells abf.toArray 9) w1.heap.size 3 (λj=>Lj<|abf.getD j<|.bool ka):=by
 intro j hj;have hc:j=0\/j=1\/j=2:=ae;rw[(Bx.new w1 abf.toArray 9).c j];obtain rfl|rfl|rfl:=hc<;>rfl
def ahW{d:Nat}(hd:d<=3)(X:∀k,d=k+1->MkE xb p len cap r k):MkE xb p len cap r d:=by
 intro w A v L hS HN hL;have HC:=Fc hS 12 ae ae;go_in;go_wp;refine HC.mono ?_;rintro e O⟨q,rfl,q0,q1,A1,HS,HK⟩;have E:=HN.ke HK;have h1:=E.k.one;by_cases h3:d=0\/q<3
 .have hs:=(af1.pD E.k).pD E.k;have Y:((FX++L)++L).length=5+2*L.length:=by simp[FX];omega
  have Z:((d:Int)==0)=ia\/((d:Int)==0)=ka/\q<3:=by
   by_cases e:d=0
   .exact ql Vh
   .exact qk ⟨Vh,h3.resolve_left e⟩
  have O1:=qu (O.alloc<|Cv FX.toArray 9) O.heap.size 9 1;have f0:=HS.b.z;clear h3 X;obtain Z|⟨Z,hq⟩:=Z
  all_goals(
   go_wp2_with(first
    |(at_builtin;refine uW rfl (.tmp 32) (.tmp 33) rfl rfl O1 rfl (nB.new O FX 0 (jz _) aD 5 rfl) aD aD ag ?_;intro v2 w2 I K;have x:Bq O w2:=mC (bw _) K ag<|lp O1;have⟨b2,B⟩:=(E.af x).o;have O2:=ai I;have G:=ai B;have J:=ai x;have S:=x.size;have U:=ai<|lp I;clear I B x K O1)
    |(at_builtin;refine uW rfl (.tmp 35) (.tmp 36) rfl rfl O2 rfl G h1 (by simp[FX];omega) S ?_;intro v3 w3 o3 g3;have x:Bq O w3:=mC J g3 S U;have⟨b3,B⟩:=(E.af x).o;have O3:=ai o3;have K:=ai B;have I:=ai x;have z3:=x.size;have G3:=ai<|lp o3;clear o3 B x g3 O2 G J S U)
    |(at_builtin;refine uW rfl (.tmp 38) (.tmp 39) rfl rfl O3 rfl K h1 (by simp[FX];omega) z3 ?_;intro v4 w4 V g4;have B:Bq O w4:=mC I g4 z3 G3;have U:=ai B;have z4:=B.size;obtain⟨g,cp,rfl,hg,S,J⟩:=acQ (show nB w4 O.heap.size v4 ((FX++L)++L)from V) (λu hu=>by have⟨l,e,_⟩:=hs u hu;exact⟨_,e⟩) (by rw[Y];omega);rw[Y]at J;simp only[Y];have HX:=ai J;clear V g4 J B O3 K I z3 G3))
   refine(Zu (HS.af U) HX S ae ae ae).mono ?_;rintro e w5⟨j,hj,rfl,A5,J,K⟩;have HM:=jy (adS hs j)<|ahT d;have S:=(HK.trans<|Ke.of U).trans K
   go_wp2
   go_ret
   exact⟨_,rfl,HM,A5,J,S⟩)
 .obtain⟨d,rfl⟩:∃k,d=k+1:=⟨d-1,ae⟩;have X:=X d rfl;have hB:mB d<=136:=by
   have hc:d=0\/d=1\/d=2:=ae;obtain rfl|rfl|rfl:=hc<;>decide
  have hd0:(((d+1:Nat):Int)==0)=ka:=bQ;have hd1:((d+1:Nat):Int)-1=(d:Int):=ae;have g0:decide (q<3)=ka:=bQ;have f0:=HS.b.z;have Y:Bq O (O.alloc<|Cv abf.toArray 9):=bw _;go_wp2_with fail;refine(Zu (HS.af Y) (acR O) ag ae ae ae).mono ?_;rintro e w2⟨j,hj,rfl,A2,Z,a0⟩;have b0:=adS ahV j;have c0:=(HK.trans<|Ke.of Y).trans a0;have U:=(E.af Y).ke a0;have⟨b2,G⟩:=U.o;have hz2:=Z.b.z;have O2:=qu w2 w2.heap.size 9 1;generalize Lj (abf.getD j<|.bool ka)=c at b0⊢;have h0:q=3\/q=4\/q=5\/q=6\/q=7\/q=8\/q=9\/q=10\/q=11:=by simp at g0;omega
  obtain rfl|rfl|rfl|rfl|rfl|rfl|rfl|rfl|rfl:=h0
  all_goals(
   go_wp2_with(first
    |(at_builtin;refine uW rfl (.tmp 47) (.tmp 48) rfl rfl O2 rfl G h1 bQ (br _) ?_;intro v3 w3 o3 g3;have x:Bq w2 w3:=mC (qy _ _) g3 (br _)<|lp O2;have O3:=ai o3;have I:=ai x;have z3:=x.size;clear o3 g3 x O2 G)
    |(at_builtin;refine uW rfl (.tmp 50) (.tmp 52) rfl rfl (O3.ahU _) rfl (nB.new w3 [Sv c] 0 (jz _) ag 1 rfl) qAn bQ bQ ?_;intro v4 w4 V g4))
   have B:=mC (I.alloc z3 _) g4 bQ<|lp O3;rw[List.nil_append]at V;have x:NSv w4 xb v4 (L++[Sv c]):=⟨⟨_,V⟩,λe=>by have:=lp V xb e;omega,U.k.pD (by intro u hu;rw[List.mem_singleton.1 hu];exact⟨_,rfl,b0⟩)⟩;have d0:=U.af B;have e0:=Z.af B;have i0:=c0.trans<|Ke.of B;clear V g4 B O3 I z3 Z c0 U;have I:=X w4 A2 _ _ e0 d0 ae;have V:=X w4 A2 _ _ e0 x bQ;first|with_reducible refine I.mono ?_|with_reducible refine V.mono ?_
   clear I V;rintro e w5⟨s5,rfl,z5,A5,J,K⟩;have S:=i0.trans K;have I:=d0.ke K;have V:=x.ke K;have y5:=jy z5 hB;have a5:=ai<|X w5 A5 _ _ J I ae;have b5:=ai<|X w5 A5 _ _ J V bQ;go_wp2_with fail
   try(first|with_reducible refine(uh a5).mono ?_|with_reducible refine(uh b5).mono ?_))
  iterate 2 next=>
   go_ret;refine⟨_,rfl,?_,A5,J,S⟩;simp only[ByteArray.size_append,mB,lit,List.size_toArray,eG,nM];omega
  all_goals(
   rintro e w6⟨s6,rfl,J,K,x,B⟩;have I:=S.trans B;have y6:=jy J hB
   go_wp2
   go_ret;refine⟨_,rfl,?_,K,x,I⟩;simp only[ByteArray.size_append,mB,lit,List.size_toArray,eG,nM]
   omega)
def aaE:∀d,d<=3->MkE xb p len cap r d
 |0,h=>ahW h nofun|d+1,h=>ahW h λk e=>by cases e;exact aaE d ae
end
section
variable {p:Option Addr} {r:Nat->Int}
def af2:List ea:=[.string ⟨#[120]⟩,.string ⟨#[121]⟩,.string ⟨#[122]⟩]
def af3{w}{b:Nat}(h:Bx w b af2.toArray)n(hn:n<3):∃s,w.cell? ⟨b,n,ha⟩=ga (.string s)/\s.size<=4:=by
 rw[h.c n];have hc:n=0\/n=1\/n=2:=ae;obtain rfl|rfl|rfl:=hc<;>exact⟨_,rfl,aD⟩
def PrR xb p len cap r w g(s nm c:ea)wr:=
 ∃(n:Nat)(l:BA)(L:List ea)(A:Nat),g=3-n/\n<=3/\s=.string l/\c=Nv n/\l.size<=400+400*n/\nB wr (w.heap.size+1) nm L/\L.length=n/\Sho L/\Src wr xb p len cap r A/\Bx wr w.heap.size af2.toArray/\Ke xb w wr/\w.heap.size+1<=wr.heap.size
def adT xb p len cap r w(e:fa)w':=∃s,e=.returned (.string s)/\yc xb p len cap r w w'
def Bx.ke2{w}{b:Nat}(h:Bx w b C)(x:Ke rb w w')(A:b≠rb):Bx w' b C:=h.same x.size<|x.block b h.z A
def Ke.grow{xb}{a b c}{row:Option Nat}(h:Ke xb a b)(g:b.grownBy c row)(x:∀k,row=ga k->a.heap.size<=k):Ke xb a c:=
 ⟨g.os.trans h.os,g.tape.trans h.tape,g.output.trans h.output,jy h.size g.size,λk hk hn=>(g.block k (jx hk h.size) (λe=>by have:=x k e.symm;omega)).trans<|h.block k hk hn⟩
def Bx.grow{w}{b:Nat}{row:Option Nat}(h:Bx w b C)(g:w.grownBy w' row)(x:∀k,row=ga k->b<k):Bx w' b C:=h.same g.size (g.block b h.z (λe=>by have:=x b e.symm;omega))
def acS{A}(hS:Src w xb p len cap r A):aa jv 6 #[Pv xb] w (adT xb p len cap r w):=by
 have hxz:=hS.b.z;have⟨G,X⟩:=rF w af2.toArray 9;have Y:=hS.af G;have Z:=Ke.of (rb:=xb) G;go_wp2
 go_loopg[3,5,6] 3 (λg s nm c wr=>PrR xb p len cap r w g s nm c wr)
 case atStart=>exact⟨0,_,[],A,rfl,ae,rfl,rfl,aD,qu _ _ _ _,rfl,nofun,Y,X,Z,ag⟩
 case round=>
  obtain⟨n,l,L,A1,rfl,hn,rfl,rfl,hll,HO,hL,HN,hs,HB,HK,hz⟩:=hrel;have HC:=Fc hs 3 ae ae;go_wp2_with fail;refine HC.mono ?_;rintro e w2⟨q,rfl,q0,q1,A2,I,x⟩;have E:u5.ownBlock≠ga xb:=λe=>by have:=lp HO xb e;omega
  have J:=HK.trans x;have K:=FV HO x E;have a0:=HB.ke2 x ae;have z2:=x.size;by_cases hq:(n:Int)<=q
  .have hn3:(n:Int)<3:=ae;have HE:=aaE 3 ae w2 A2 u5 L I ⟨⟨_,K⟩,E,HN⟩ ae;go_wp2_with fail;refine HE.mono ?_;rintro e w3⟨m,rfl,b0,A3,O,B⟩;simp only[mB]at b0;have c0:=J.trans B;have S:=FV K B E;have U:=a0.ke2 B ae;have z3:=B.size;have⟨c,hc3,d0⟩:=af3 U n ae;have hh:(330:Int)<(l.size:Int)+(m.size:Int)\/decide ((330:Int)<(l.size:Int)+(m.size:Int))=ka:=by
    by_cases h:(330:Int)<(l.size:Int)+(m.size:Int)
    .exact ql h
    .exact qk uY
   obtain hh|hh:=hh
   all_goals(
    go_wp2_with(at_builtin;refine uW rfl (.tmp 39) (.tmp 44) rfl rfl (S.ahU _) rfl (nB.new w3 [Sv c] 0 (jz _) ag 1 rfl) qAn bQ bQ ?_;intro v4 w4 o4 V);have hr4:=lp S;have k4:=(c0.alloc<|Cv #[Sv c] 9).grow V<|λk e=>qBt;have s4:=hS.ke k4 ((O.b.alloc<|Cv #[Sv c] 9).grow V<|λk e=>qBt) O.a;have b4:=(U.alloc<|Cv #[Sv c] 9).grow V<|λk e=>qBt;have z4:=V.size;go_roundg(3-(n+1))
    case rel=>
     refine⟨n+1,_,_,A3,rfl,ae,rfl,iF,?_,o4,by simp[hL],HN.pD (by intro u hu;rw[List.mem_singleton.1 hu];exact⟨_,rfl,d0⟩),s4,b4,k4,by simp at z4;omega⟩;simp only[ByteArray.size_append,lit,List.size_toArray,eG,nM];omega
    case measure=>omega)
  .have hq':decide ((n:Int)<=q)=ka:=by simpa using hq
   go_wp2
   go_ret;exact⟨l,rfl,A2,I,J⟩
end
end
end Go.Proofs.YtonaidfgokhmoaaGreatDoor

import Derived.Laws.EntriesVeiled
import Derived.Test.YtfnkchdeheeiiaaGreatDoorQQa
import Derived.Test.YtfnkchdeheeiiaaGreatDoorQTm
import Derived.Test.YtfnkchdeheeiiaaGreatDoorQPl
set_option linter.all false
set_option maxRecDepth 100000
set_option maxHeartbeats 10000000
namespace Go.Proofs.YtfnkchdeheeiiaaGreatDoor
open Or renaming inr->ja,inl->jc
open _root_.List renaming getElem?_eq_getElem->jd,take_append_drop->jf,take_succ_cons->jh,getElem_mem->ji,getElem?_append_right->jj,getElem?_append_left->jk,getElem_cons_succ->jl,append_assoc->jm,take_length->jo,cons_append->jp,nil_append->jq,map_append->jt
open _root_.Nat renaming le_trans->ju,mul_le_mul_left->jv,lt_of_lt_of_le->jx,strongRecOn->jy,zero_le->jz
open _root_.Array renaming replicate->j5,getD_eq_getD_getElem?->j6
open Go.World renaming cell?_of_block->j7
open Go.ByteArray renaming toList_eq->j8
open SizeOf renaming sizeOf->j9
open In renaming sw->qe,isM->qf,Vl->qg
open Go.Proofs.Tryz renaming prog->qh
open Go.Instr renaming typeAssert->qi
open Un renaming seen->qk,par->ql
open Un.dD renaming afj->qm,Q6->qn
open Go.RowKit.Below renaming refl->qp
open And renaming intro->qr
open Go Go.RowKit Go.ChangeMaps Proofs.Tryz
variable {C:Array Value} {last s t:BA} {V:List Nat} {l:List UInt8} {B S b mb nb pb:Nat} {K:Nat->Option Un.Ty} {P Q:Nat->Prop} {R κ:Nat->Un.Ty} {a nd:Nd} {tx:TypeId} {T x y:Un.Ty} {bv mv u v:Value} {w w':World}
section
open Un
mutual
def nz:Nd->Nat
 |.mk _ _ _ L _ _ _=>1+nzL L
def nzL:List Nd->Nat
 |[]=>0|x::l=>nz x+nzL l
end
def py:∀(L:List Ty)(i:Nat)(h:i<L.length),ah (L.take<|i+1)=ah (L.take i)+size L[i]
 |[],i,h=>vR|x::l,0,h=>by simp[ah]|x::l,i+1,h=>by simp only[jh,ah,jl];rw[py l i G_];omega
def lQ:∀(L:List Ty)(i:Nat),ah (L.take i)<=ah L
 |[],i=>ag|x::l,0=>by simp[ah]|x::l,i+1=>by simp only[jh,ah];have:=lQ l i;omega
def uU:∀(L:List Ty),L.length<=ah L
 |[]=>ag|x::l=>by
  have h1:=uU l;have h2:1<=size x:=by cases x<;>simp[size]
  simp only[ah,ot];omega
@[simp] theorem aha a b w:(qi (.iface 169<|.agg #[a,b]) 67 169 true).run qh w=.ok (.tuple #[.agg #[a,b],.bool true]) w:=qkr
mutual
def wT:Nd->Nat->List UInt8
 |.mk k s _ L _ _ _=>if k=16 then λ_=>s.toList else bC (iR k s) (wTL L)
def wTL:List Nd->List (Nat->List UInt8)
 |[]=>[]|x::l=>wT x::wTL l
end
def sep(last:BA):List UInt8:=if last.toList=[]\/last.toList=[40]then[]else[32]
def J8(t:BA):Prop:=t.toList≠[]/\t.toList≠[40]
def kV(h:J8 t):sep t=[32]:=by rw[sep];rw[if_neg (by intro q;exact q.elim h.1 h.2)]
def pA(h1:t.toList≠[41])(h2:t.toList≠[44])(h3:t.toList≠[59]):tI l last t=l++(sep last++t.toList):=by
 rw[tI,spB,sep];rw[show t.data.toList=t.toList from(j8 t).symm];by_cases q1:last.toList=[]
 .simp[q1,h1,h2,h3]
 .grind
def uV(h:t.toList=[41]\/t.toList=[44]):tI l last t=l++t.toList:=by
 rw[tI,spB];rw[show t.data.toList=t.toList from(j8 t).symm];obtain h|h:=h<;>simp[h]
def NQ w pb(Q:Nat->Prop):=∀b,Q b->b<w.heap.size/\b≠pb/\Q_ w b
def NQ.fn{B pb}{w w'}{Q}(h:NQ w pb Q)(hf:FN B pb w w'):NQ w' pb Q:=λb q=>⟨jx (h b q).1 hf.size,(h b q).2.1,(h b q).2.2.fn (h b q).1 (h b q).2.1 hf⟩
inductive mF(w:World)(P:Nat->Prop):Nd->Value->Prop where
 |var(s:BA)(n f t a:Nat)(x y:Int)(hq:∃r,s.toList=39::r):mF w P (.mk 16 s n [] f t a) (.iface 159<|.agg #[Iv x,Iv y,.string<|s.extract 1 s.size])
 |fn(s:BA)(n:Nat)(a b:Nd)(f t at_:Nat)(x y:Int)(va vb:Value)(ha:mF w P a va)(hb:mF w P b vb):mF w P (.mk 17 s n [a,b] f t at_) (.iface 161<|.agg #[Iv x,Iv y,va,vb])
 |pr(s:BA)(n:Nat)(a b:Nd)(f t at_:Nat)(x y:Int)(va vb:Value)(ha:mF w P a va)(hb:mF w P b vb):mF w P (.mk 6 s n [a,b] f t at_) (.iface 163<|.agg #[Iv x,Iv y,va,vb])
 |up(s:BA)(n:Nat)(L:List Nd)(f t at_:Nat)(x y x' y':Int)(sa:Option Addr)(sc:Nat)(vs:Nat->Value)(hu:nY s)(aN:L=[]\/∃g,sa=some ⟨g,0,none⟩/\P g/\g<w.heap.size/\∀i,i<L.length->w.cell? ⟨g,i,none⟩=some (vs i))(hr:∀i(h:i<L.length),mF w P L[i]<|vs i):
  mF w P (.mk 2 s n L f t at_) (.iface 166<|.agg #[Iv x,Iv y,Iv x',Iv y',.string s,.slice sa L.length sc])
theorem mF.move(h:mF w P nd v)(hs:w.heap.size<=w'.heap.size)(hb:∀b,P b->b<w.heap.size->w'.heap[b]? =w.heap[b]?)(hq:∀b,P b->b<w.heap.size->Q b):mF w' Q nd v:=by
 induction h with
 |var s n f t a x y hq=>exact .var s n f t a x y hq|fn s n a b f t at_ x y va vb _ _ Nj Nk=>exact .fn s n a b f t at_ x y va vb Nj Nk|pr s n a b f t at_ x y va vb _ _ Nj Nk=>exact .pr s n a b f t at_ x y va vb Nj Nk|up s n L f t at_ x y x' y' sa sc vs hu aN hr ih=>
  refine .up s n L f t at_ x y x' y' sa sc vs hu ?_ ih;obtain h0|⟨g,h1,hP,hz,hc⟩:=aN
  .exact jc h0
  .refine ja ⟨g,h1,hq g hP hz,jx hz hs,λi hi=>?_⟩;rw[j7 (a:=⟨g,i,none⟩) (w:=w)<|hb g hP hz];exact hc i hi
def mF.af(h:mF w P nd v)(hb:Bq w w'):mF w' P nd v:=h.move hb.size (λb _ hz=>hb.block b hz)<|λ_ p _=>p
def mF.wide(h:mF w P nd v)(hq:∀b,P b->Q b):mF w Q nd v:=h.move (br _) (λ_ _ _=>rfl)<|λb p _=>hq b p
def mF.fr{S}(h:mF w P nd v)(hf:Fr S w w')(hS:∀b,P b->b<w.heap.size->¬S b):mF w' P nd v:=h.move hf.size (λb p z=>hf.block b z<|hS b p z)<|λ_ p _=>p
def mF.iface(h:mF w P a v):∃t x,v=.iface t (.agg x):=by
 cases h<;>exact⟨_,_,rfl⟩
def mF.bQ(h:mF w P a v):∃t x,v=.iface t (.agg x):=h.iface
def mF.fnQ(h:mF w Q nd v)(hq:NQ w pb Q)(hf:FN B pb w w'):mF w' Q nd v:=h.move hf.size (λb p z=>hf.block b z (hq b p).2.1<|ja (hq b p).2.2)<|λ_ p _=>p
def uW B pb mv txt w(e:Ending)w':=
 e=.returned (.tuple #[])/\∃bv' J9,PN w' B pb bv' txt J9 mv/\J8 J9/\FN B pb w w'
def WV nd:=∀(w:World)(B pb:Nat)(bv:Value)(l:List UInt8)(last:BA)(mv:Value)(Q:Nat->Prop)(v:Value)(k:Nat),PN w B pb bv l last mv->mF w Q nd v->NQ w pb Q->k<=2->(l++(sep last++wT nd k)).length<=800000->B<=pb->
 Cq 51 #[Pv pb,v,Nv k] w (uW B pb mv (l++(sep last++wT nd k)) w)
def Am nd:=∀(w:World)(B pb:Nat)(bv:Value)(l:List UInt8)(last:BA)(mv:Value)(Q:Nat->Prop)(v:Value),PN w B pb bv l last mv->mF w Q nd v->NQ w pb Q->(l++(sep last++wT nd 0)).length<=800000->B<=pb->
 Cq 78 #[Pv pb,v] w (uW B pb mv (l++(sep last++wT nd 0)) w)
def rk:Nd->Nat
 |.mk k _ _ L _ _ _=>if k=17 then 0 else if k=2/\L≠[]then 1 else 2
def Q'{p:Prop}(h:p:=by
 go_enter func76,ntmps76
 go_wp2
 go_ret
 exact⟨by simp[rk],(qp _ _)⟩):p:=h
def aao(h:mF w Q nd v):Cq 76 #[v] w λe w'=>e=.returned (Nv<|rk nd)/\Bq w w':=by
 cases h with
 |var s n f t a x y hq=>
  exact Q'
 |fn s n a b f t at_ x y va vb ha hb=>
  obtain⟨ta,xa,rfl⟩:=ha.bQ;obtain⟨tb,xb,rfl⟩:=hb.bQ;go_enter func76,ntmps76
  go_wp2
  go_ret;exact⟨by simp[rk],bw _⟩
 |pr s n a b f t at_ x y va vb ha hb=>
  obtain⟨ta,xa,rfl⟩:=ha.bQ;obtain⟨tb,xb,rfl⟩:=hb.bQ;exact Q'
 |up s n L f t at_ x y x' y' sa sc vs hu aN hr=>
  by_cases hL:L=[]
  .have h3:decide ((0:Int)<(L.length:Int))=false:=by simp[hL]
   go_enter func76,ntmps76
   go_wp2
   go_ret;exact⟨by simp[rk,hL],bw _⟩
  .have h3:(0:Int)<(L.length:Int):=by have:=List.length_pos_iff.2 hL;omega
   go_enter func76,ntmps76
   go_wp2
   go_ret;exact⟨by simp[rk,hL],bw _⟩
def ahb s n L c f t a k(hc:c=16\/c=17\/c=6\/(c=2/\nY s))(hk:k<=2):wT (.mk c s n L f t a) k=ql (decide (rk (.mk c s n L f t a)<k)) (wT (.mk c s n L f t a) 0):=by
 have hpf:∀x,ql false x=x:=λx=>rfl;have hup:nY s->s≠qJ/\s≠nO:=λh=>⟨λe=>dd h 62 [] aH (by rw[e];exact toList_mk [62]),λe=>dd h 44 [] aH (by rw[e];exact toList_mk [44])⟩;obtain rfl|rfl|rfl|⟨rfl,hu⟩:=hc
 .have hr:decide (rk (.mk 16 s n L f t a)<k)=false:=by simp[rk];omega
  rw[hr,hpf];simp[wT]
 .have hr:decide (rk (.mk 17 s n L f t a)<k)=decide (0<k):=by simp[rk]
  rw[hr];simp only[wT,iR,if_true,show ¬(17=16) by decide,if_false,bC];rfl
 .have hr:decide (rk (.mk 6 s n L f t a)<k)=false:=by simp[rk];omega
  rw[hr,hpf];simp only[wT,iR,show ¬(6=16) by decide,show ¬(6=17) by decide,if_false,if_true,bC];have df:¬nO=qJ:=xC;rw[if_neg df,if_neg df]
 .have⟨h1,h2⟩:=hup hu;have hle:(wTL L).isEmpty=L.isEmpty:=by cases L<;>simp[wTL]
  simp only[wT,iR,show ¬(2=16) by decide,show ¬(2=17) by decide,show ¬(2=6) by decide,if_false,bC,if_neg h1,if_neg h2,hle];have hr:decide (rk (.mk 2 s n L f t a)<k)=(decide (1<k)&& !L.isEmpty):=by
   cases L with
   |nil=>simp[rk];omega|cons x l=>simp[rk]
  rw[hr];rfl
def KN':Nd->Prop
 |.mk c s _ _ _ _ _=>c=16\/c=17\/c=6\/(c=2/\nY s)
def mF.kn(h:mF w Q nd v):KN' nd:=by
 cases h with
 |var=>exact jc rfl|fn=>exact ja (jc rfl)|pr=>exact ja (ja<|jc rfl)|up=>exact ja<|ja<|ja ⟨rfl,qas⟩
def Ra{p:Prop}(h:p:=by
 go_wp2_with fail;refine HC.mono ?_;intro e w1 hp1;have hp2:=hp1;obtain⟨rfl,_⟩:=hp1
 go_wp2
 go_end0
 exact hp2):p:=h
def aap(HB:Am nd)(h:PN w B pb bv l last mv)(hp:mF w Q nd v)(hq:NQ w pb Q)(hl:(l++(sep last++wT nd 0)).length<=800000)(hB:B<=pb)b1 b2(h1:Bx w b1 #[Pv pb])(h2:Bx w b2 #[v]):
 Cq 77 #[Pv b1,Pv b2] w (uW B pb mv (l++(sep last++wT nd 0)) w):=by
 obtain⟨tv,xv,rfl⟩:=hp.bQ;obtain⟨c1,f1,z1⟩:=h1;obtain⟨c2,f2,z2⟩:=h2;have HC:=HB w B pb bv l last mv Q _ h hp hq hl hB;go_enter func77,ntmps77;exact Ra
def aaq{W w1}(h:Bq W.drew w1):Bq W w1:=((qp W.heap.size W).drew).trans h
abbrev gU:BA:=⟨#[40]⟩
abbrev iS:BA:=⟨#[41]⟩
def J_:sep gU=[]:=by rw[sep];rw[if_pos<|ja<|toList_mk [40]]
def FN.lD{w}(hf:FN B pb w w')(h:Bx w b C)(hp:b≠pb)(hx:∀x,C[0]? =some x->∀c,x≠.int .u8 c):Bx w' b C:=h.fn hp (ja<|h.nby hx) hf
def adJ(HB:Am nd)k(hk:k<=2)(h:PN w B pb bv l last mv)(hp:mF w Q nd v)(hq:NQ w pb Q)(hl:(l++(sep last++wT nd k)).length<=800000)(hB:B<=pb)b1 b2(h1:Bx w b1 #[Pv pb])(h2:Bx w b2 #[v])(n1:b1≠pb)(n2:b2≠pb):
 Cq 75 #[Pv pb,.bool<|decide (rk nd<k),.func (.func 77) #[] #[Pv b1,Pv b2]] w (uW B pb mv (l++(sep last++wT nd k)) w):=by
 have hw:wT nd k=ql (decide (rk nd<k)) (wT nd 0):=by
  obtain⟨c,s,n,L,f,t,a⟩:=nd;exact ahb s n L c f t a k hp.kn hk
 rw[hw]at hl⊢;obtain⟨tv,xv,rfl⟩:=hp.bQ
 cases hd:decide (rk nd<k)with
 |false=>
  rw[hd]at hl;have hl':=hl;have HC:=aap HB h hp hq hl' hB b1 b2 h1 h2;go_enter func75,ntmps75;exact Ra
 |true=>
  rw[hd]at hl;have alm:ql true (wT nd 0)=40::(wT nd 0++[41]):=rfl;rw[alm]at hl⊢;simp only[ot,ug,uq]at hl;have hzp:=h.lt;have cz:Bq w (w.alloc<|Cv #[Sv gU] 9):=bw _;have HP:=wM (h.af cz) gU aH ae w.heap.size (Bx.new w #[Sv gU] 9) ae;have hpt:tI l last gU=l++(sep last++[40]):=by
   have:=pA (l:=l) (last:=last) (t:=gU) qAm qAm qAm;rw[this,show gU.toList=[40]from toList_mk [40]]
  rw[hpt]at HP;go_enter func75,ntmps75;go_wp2_with fail;refine HP.mono ?_;rintro e w1⟨rfl,bv1,N1,F1⟩;have FA:=(FN.of (B:=B) (pb:=pb) cz).trans F1;have X1:=FA.lD h1 n1 qAi;have X2:=FA.lD h2 n2 qAi;have HC:=aap HB N1 (hp.fnQ hq FA) (hq.fn FA) (by simp only[ug,ot,uq,J_];omega) hB b1 b2 X1 X2;have hs1:sep gU=[]:=by rw[sep];rw[if_pos<|Or.inr<|toList_mk [40]]
  rw[hs1]at HC;go_wp2_with fail;refine HC.mono ?_;rintro e w2⟨rfl,W5,Dq,N2,fi2,F2⟩;have aln:=N2.lt;have iG:Bq w2 (w2.alloc<|Cv #[Sv iS] 9):=bw _;have HP2:=wM (N2.af iG) iS aH (by simp only[ug,ot,uq,J_];omega) w2.heap.size (Bx.new w2 #[Sv iS] 9) ae;rw[uV<|jc<|toList_mk [41],show iS.toList=[41]from toList_mk [41]]at HP2;go_wp2_with fail;refine HP2.mono ?_;rintro e w3⟨rfl,bv3,N3,F3⟩
  go_wp2
  go_end0;refine⟨rfl,bv3,iS,?_,⟨by rw[show iS.toList=[41]from toList_mk [41]];decide,by rw[show iS.toList=[41]from toList_mk [41]];decide⟩,(FA.trans F2).trans<|(FN.of iG).trans F3⟩;have e9:l++(sep last++[40])++([]++wT nd 0)++[41]=l++(sep last++40::(wT nd 0++[41])):=ag;rw[<-e9];exact N3
def adK{c}(h:nY c):J8 c:=⟨λe=>(by obtain⟨x,r,h1,_⟩:=h;rw[h1]at e;cases e),dd h 40 [] aH⟩
abbrev pB:BA:=⟨#[45,62]⟩
abbrev An:BA:=⟨#[44]⟩
def Rb:∀L:List Nd,wTL L=L.map wT
 |[]=>rfl|x::l=>by simp[wTL,Rb l]
def FI t:(sep t).length<=1:=by rw[sep];split<;>simp
def aar B pb mv l(L:List Nd)w gk v wr:=
 ∃(j:Nat)(bv':Value)(J9:BA),Hid (gk=L.length-j)/\j<=L.length/\v=Nv j/\PN wr B pb bv' (l++((L.take j).map wT).flatMap λp=>32::p 2) J9 mv/\J8 J9/\FN B pb w wr
def Vm(L:List Nd)j(h:j<L.length):(((L.take<|j+1).map wT).flatMap λp=>32::p 2)=(((L.take j).map wT).flatMap λp=>32::p 2)++32::wT L[j] 2:=by
 rw[List.take_add_one,jd h];simp only[jt,List.flatMap_append,Option.toList_some,List.map_cons,List.map_nil,List.flatMap_cons,List.flatMap_nil,List.append_nil]
def adL(L:List Nd)j:(((L.take j).map wT).flatMap λp=>32::p 2).length<=((L.map wT).flatMap λp=>32::p 2).length:=by
 have e:((L.map wT).flatMap λp=>32::p 2)=(((L.take j).map wT).flatMap λp=>32::p 2)++(((L.drop j).map wT).flatMap λp=>32::p 2):=by
  rw[<-List.flatMap_append,<-jt,jf]
 rw[e,ug];omega
def adM s(hu:nY s)(hss:s.size<=1000)x y L sa sc(vs:Nat->Value)(hL:L.length<=1001)(h:PN w B pb bv l last mv)(hq:NQ w pb Q)(hB:B<=pb)(aN:L=[]\/∃g,sa=some ⟨g,0,none⟩/\Q g/\g<w.heap.size/\∀i,i<L.length->w.cell? ⟨g,i,none⟩=some (vs i))(hr:∀i(h:i<L.length),mF w Q L[i]<|vs i)(IH:∀i(h:i<L.length),WV L[i])(hl:(l++(sep last++(s.toList++(L.map wT).flatMap λp=>32::p 2))).length<=800000):
 Cq 109 #[Pv pb,.agg #[Iv x,Iv y,.string s],.slice sa L.length sc] w (uW B pb mv (l++(sep last++(s.toList++(L.map wT).flatMap λp=>32::p 2))) w):=by
 have hzp:=h.lt;have hsl:=FI last;simp only[ug]at hl;have cz:Bq w ((w.alloc<|Cv #[Iv x,Iv y,Sv s] 133).alloc<|Cv #[Sv s] 9):=(bw _).alloc ag _;have BX:Bx ((w.alloc<|Cv #[Iv x,Iv y,Sv s] 133).alloc<|Cv #[Sv s] 9) (w.heap.size+1) #[Sv s]:=by have:=Bx.new (w.alloc<|Cv #[Iv x,Iv y,Sv s] 133) #[Sv s] 9;simpa using this
 have HP:=wM (h.af cz) s ae ae (w.heap.size+1) BX ae;rw[pA (dd hu 41 [] aH) (dd hu 44 [] aH)<|dd hu 59 [] aH]at HP;have F0:=FN.of (B:=B) (pb:=pb) cz;have Zy:s.toList.length=s.size:=by rw[j8];simp
 go_enter func109,ntmps109;go_wp2_with fail;refine HP.mono ?_;rintro e w1⟨rfl,bv1,N1,F1⟩;have FA:=F0.trans F1
 go_wp2
 go_loopg[15] L.length (λgk v wr=>aar B pb mv (l++(sep last++s.toList)) L w gk v wr)
 case atStart=>exact⟨0,bv1,s,ai ag,jz _,rfl,by simpa using N1,adK hu,FA⟩
 case round=>
  obtain⟨j,W5,Dq,dv,hj,rfl,N2,fi2,F2⟩:=hrel;by_cases bq:j<L.length
  .have hd:(j:Int)<(L.length:Int):=ae;obtain⟨g,rfl,hg,lh,b8⟩:∃g,sa=some ⟨g,0,none⟩/\Q g/\g<w.heap.size/\∀i,i<L.length->w.cell? ⟨g,i,none⟩=some (vs i):=by
    obtain h0|h0:=aN
    .subst h0;simp at bq
    .exact h0
   have cg:=(j7 (a:=⟨g,j,none⟩)<|F2.block g lh (hq g hg).2.1<|ja (hq g hg).2.2).trans<|b8 j bq;have PJ:=(hr j bq).fnQ hq F2;have⟨tv,xv,hv⟩:=PJ.bQ;have ft:=Vm L j bq;have fl:=adL L<|j+1;rw[ft]at fl;simp only[ug,ot]at fl;have HC:=IH j bq wr B pb W5 _ Dq mv Q (vs j) 2 N2 PJ (hq.fn F2) (br _) (by rw[kV fi2];simp only[ug,ot,uq];omega) hB;rw[hv]at cg HC;rw[kV fi2]at HC;go_wp2_with(go_at_call 51;refine HC.mono ?_;rintro e w3⟨rfl,bv3,Rc,hN3,fi3,hF3⟩;have HN3:=ai hN3;have HF3:=ai<|F2.trans hF3;clear hN3 hF3);go_roundg(L.length-(j+1))
   case measure=>rw[uh dv];omega
   case rel=>
    refine⟨j+1,bv3,Rc,ai rfl,ae,jT,?_,fi3,HF3⟩;rw[ft];have e9:l++(sep last++s.toList)++((((L.take j).map wT).flatMap λp=>32::p 2)++32::wT L[j] 2)=l++(sep last++s.toList)++(((L.take j).map wT).flatMap λp=>32::p 2)++([32]++wT L[j] 2):=ag;rw[e9];exact HN3
  .have hd:decide ((j:Int)<(L.length:Int))=false:=bP;have ej:j=L.length:=ae;subst ej;rw[jo]at N2
   go_wp2
   go_end0;refine⟨rfl,W5,Dq,?_,fi2,F2⟩;have e9:l++(sep last++(s.toList++(L.map wT).flatMap λp=>32::p 2))=l++(sep last++s.toList)++(L.map wT).flatMap λp=>32::p 2:=ag;rw[e9];exact N2
def adN(h:QM s):(⟨#[39]⟩:BA)++s.extract 1 s.size=s:=by
 obtain⟨r,hr⟩:=h;apply toList_inj;rw[hr];have h2:=yj hr;rw[tl]at h2;rw[j8]at h2⊢;rw[ByteArray.data_append];simp only[Array.toList_append,h2];rfl
def aas(h:QM s):J8 s:=by grind[QM,J8]
def ahc s n f t a k:wT (.mk 16 s n [] f t a) k=s.toList:=by simp[wT]
def ajF s n x y f t a:wT (.mk 17 s n [x,y] f t a) 0=wT x 1++([32,45,62,32]++wT y 0):=by
 simp only[wT,iR,show ¬(17=16) by decide,if_false,if_true,bC,wTL];rfl
def ajG s n x y f t a:wT (.mk 6 s n [x,y] f t a) 0=40::(wT x 0++([44,32]++(wT y 0++[41]))):=by
 have df:¬nO=qJ:=xC;simp only[wT,iR,show ¬(6=16) by decide,show ¬(6=17) by decide,if_false,if_true,bC,if_neg df,wTL];rfl
def ajH s(hu:nY s)n L f t a:wT (.mk 2 s n L f t a) 0=s.toList++(L.map wT).flatMap λp=>32::p 2:=by
 have h1:s≠qJ:=λe=>dd hu 62 [] aH (by rw[e];exact toList_mk [62]);have h2:s≠nO:=λe=>dd hu 44 [] aH (by rw[e];exact toList_mk [44]);simp only[wT,iR,show ¬(2=16) by decide,show ¬(2=17) by decide,show ¬(2=6) by decide,if_false,bC,if_neg h1,if_neg h2,Rb];rfl
def tJ{r}(h:t.toList=r)(h1:r≠[])(h2:r≠[40]):J8 t:=by grind[J8]
def Y5 s n f t a(hss:s.size<=1000):Am (.mk 16 s n [] f t a):=by
 intro w B pb bv l last mv Q v h hp hq hl hB
 cases hp with
 |var s n f t a x y hqu=>
 rw[ahc]at hl⊢;simp only[ug]at hl;have hzp:=h.lt;have Zy:s.toList.length=s.size:=by rw[j8];simp
 have cz:Bq w ((w.alloc<|Cv #[Iv x,Iv y,Sv<|s.extract 1 s.size] 159).alloc<|Cv #[Sv s] 9):=(bw _).alloc ag _;have BX:Bx ((w.alloc<|Cv #[Iv x,Iv y,Sv<|s.extract 1 s.size] 159).alloc<|Cv #[Sv s] 9) (w.heap.size+1) #[Sv s]:=by have:=Bx.new (w.alloc<|Cv #[Iv x,Iv y,Sv<|s.extract 1 s.size] 159) #[Sv s] 9;simpa using this
 have HP:=wM (h.af cz) s ae ae (w.heap.size+1) BX ae;obtain⟨r,Hr⟩:=hqu;rw[pA (by rw[Hr];simp) (by rw[Hr];simp) (by rw[Hr];simp)]at HP;have F0:=FN.of (B:=B) (pb:=pb) cz;have ahd:=adN ⟨r,Hr⟩;go_enter func78,ntmps78;go_wp2_with fail;refine HP.mono ?_;rintro e w1⟨rfl,bv1,N1,F1⟩
 go_wp2
 go_end0;exact⟨rfl,bv1,s,N1,aas ⟨r,Hr⟩,F0.trans F1⟩
def ac8 s n L f t a(hss:s.size<=1000)(hL:L.length<=1001)(IH:∀i(h:i<L.length),WV L[i]):Am (.mk 2 s n L f t a):=by
 intro w B pb bv l last mv Q v h hp hq hl hB
 cases hp with
 |up s n L f t at_ x y x' y' sa sc vs hu aN hr=>
 rw[ajH s hu]at hl⊢;have Zy:s.toList.length=s.size:=by rw[j8];simp
 have cz:Bq w (w.alloc<|Cv #[Iv x,Iv y,Iv x',Iv y',Sv s,Lv sa L.length sc] 166):=bw _;have F0:=FN.of (B:=B) (pb:=pb) cz
 have HC:=ai (adM (Q:=Q) s hu hss x' y' L sa sc vs hL (h.af cz) (hq.fn F0) hB
  (aN.imp id λq=>by
   obtain⟨g,q1,q2,q3,q4⟩:=q
   exact⟨g,q1,q2,bP,λi hi=>(j7 (a:=⟨g,i,none⟩)<|cz.block g q3).trans<|q4 i hi⟩)
  (λi hi=>(hr i hi).af cz) IH hl)
 go_enter func78,ntmps78;go_wp2_with fail;refine HC.mono ?_;rintro e w1⟨rfl,bv1,afm,N1,fi1,F1⟩
 go_wp2
 go_end0;exact⟨rfl,bv1,afm,N1,fi1,F0.trans F1⟩
def ac6 s n a b f t at_(Ha:WV a)(Hb:WV b):Am (.mk 17 s n [a,b] f t at_):=by
 intro w B pb bv l last mv Q v h hp hq hl hB
 cases hp with
 |fn s n a b f t at_ x y va vb ha hb=>
 rw[ajF]at hl⊢;obtain⟨ta,xa,rfl⟩:=ha.bQ;obtain⟨tb,xb,rfl⟩:=hb.bQ;have hzp:=h.lt;have hsl:=FI last;simp only[ug,ot,uq]at hl;have⟨cz,XB⟩:=sd w #[Iv x,Iv y,Fv ta<|Av xa,Fv tb<|Av xb] 161;have F0:=FN.of (B:=B) (pb:=pb) cz;have HC:=Ha _ B pb bv l last mv Q _ 1 (h.af cz) (ha.af cz) (hq.fn F0) ae (by simp only[ug];omega) hB;go_enter func78,ntmps78;go_wp2_with fail;refine HC.mono ?_;rintro e w1⟨rfl,bv1,afm,N1,fi1,F1⟩;have X1:=F1.lD XB ae qAi;obtain⟨c1,f1,z1⟩:=X1;have amB:=N1.lt;have dA:Bq w1 (w1.alloc<|Cv #[Sv pB] 9):=bw _;have HP:=wM (N1.af dA) pB aH (by simp only[ug];omega) w1.heap.size (Bx.new w1 #[Sv pB] 9) ae;rw[pA (by rw[show pB.toList=[45,62]from toList_mk [45,62]];decide) (by rw[show pB.toList=[45,62]from toList_mk [45,62]];decide) (by rw[show pB.toList=[45,62]from toList_mk [45,62]];decide),show pB.toList=[45,62]from toList_mk [45,62],kV fi1]at HP;go_wp2_with fail;refine HP.mono ?_;rintro e w2⟨rfl,W5,N2,F2⟩;have F12:=(FN.of (B:=B) (pb:=pb) dA).trans F2;have FA:=(F0.trans F1).trans F12;have X2:=(F1.trans F12).lD XB ae qAi;obtain⟨c2,f2,z2⟩:=X2;have HD:=Hb w2 B pb W5 _ pB mv Q _ 0 N2 (hb.fnQ hq FA) (hq.fn FA) ae (by rw[kV<|tJ (toList_mk [45,62]) aH aH];simp only[ug,ot,uq];omega) hB;rw[kV<|tJ (toList_mk [45,62]) aH aH]at HD
 go_wp2_with fail;refine HD.mono ?_;rintro e w3⟨rfl,bv3,Rc,N3,fi3,F3⟩
 go_wp2
 go_end0;refine⟨rfl,bv3,Rc,?_,fi3,FA.trans F3⟩;have e9:l++(sep last++wT a 1)++([32]++[45,62])++([32]++wT b 0)=l++(sep last++(wT a 1++([32,45,62,32]++wT b 0))):=ag;rw[e9]at N3;simp only[jm,jp,jq]at N3⊢;exact N3
def ac7 s n a b f t at_(Ha:WV a)(Hb:WV b):Am (.mk 6 s n [a,b] f t at_):=by
 intro w B pb bv l last mv Q v h hp hq hl hB
 cases hp with
 |pr s n a b f t at_ x y va vb ha hb=>
 rw[ajG]at hl⊢;obtain⟨ta,xa,rfl⟩:=ha.bQ;obtain⟨tb,xb,rfl⟩:=hb.bQ;have hzp:=h.lt;have hsl:=FI last;simp only[ug,ot,uq]at hl;have cz:Bq w ((w.alloc<|Cv #[Iv x,Iv y,Fv ta<|Av xa,Fv tb<|Av xb] 163).alloc<|Cv #[Sv gU] 9):=(bw _).alloc ag _;have F0:=FN.of (B:=B) (pb:=pb) cz;have XB:=(Bx.new w #[Iv x,Iv y,Fv ta<|Av xa,Fv tb<|Av xb] 163).alloc<|Cv #[Sv gU] 9;have BX:Bx ((w.alloc<|Cv #[Iv x,Iv y,Fv ta<|Av xa,Fv tb<|Av xb] 163).alloc<|Cv #[Sv gU] 9) (w.heap.size+1) #[Sv gU]:=by have:=Bx.new (w.alloc<|Cv #[Iv x,Iv y,Fv ta<|Av xa,Fv tb<|Av xb] 163) #[Sv gU] 9;simpa using this
 have HP:=wM (h.af cz) gU aH ae (w.heap.size+1) BX ae;rw[pA qAm qAm qAm,show gU.toList=[40]from toList_mk [40]]at HP;have nx:∀x0,(#[Iv x,Iv y,Fv ta<|Av xa,Fv tb<|Av xb])[0]? =some x0->∀c,x0≠.int .u8 c:=qAi;go_enter func78,ntmps78;go_wp2_with fail;refine HP.mono ?_;rintro e w1⟨rfl,bv1,N1,F1⟩;have G1:=F0.trans F1;have⟨c1,f1,z1⟩:=F1.lD XB ae nx;have hs1:sep gU=[]:=by rw[sep];rw[if_pos<|Or.inr<|toList_mk [40]]
 have HC:=Ha w1 B pb bv1 _ gU mv Q _ 0 N1 (ha.fnQ hq G1) (hq.fn G1) ae (by rw[hs1];simp only[ug,ot,uq];omega) hB;rw[hs1]at HC;go_wp2_with fail;refine HC.mono ?_;rintro e w2⟨rfl,W5,Dq,N2,fi2,F2⟩;have G2:=G1.trans F2;have aln:=N2.lt;have iG:Bq w2 (w2.alloc<|Cv #[Sv An] 9):=bw _;have HP2:=wM (N2.af iG) An aH (by simp only[ug,ot,uq];omega) w2.heap.size (Bx.new w2 #[Sv An] 9) ae;rw[uV<|ja<|toList_mk [44],show An.toList=[44]from toList_mk [44]]at HP2;have⟨c2,f2,z2⟩:=(F1.trans F2).lD XB ae nx;go_wp2_with fail;refine HP2.mono ?_;rintro e w3⟨rfl,bv3,N3,F3⟩;have F23:=(FN.of (B:=B) (pb:=pb) iG).trans F3;have G3:=G2.trans F23;have⟨c3,f3,z3⟩:=((F1.trans F2).trans F23).lD XB ae nx;have HD:=Hb w3 B pb bv3 _ An mv Q _ 0 N3 (hb.fnQ hq G3) (hq.fn G3) ae (by rw[kV<|tJ (toList_mk [44]) aH aH];simp only[ug,ot,uq];omega) hB;rw[kV<|tJ (toList_mk [44]) aH aH]at HD;go_wp2_with fail;refine HD.mono ?_;rintro e w4⟨rfl,bv4,amb,N4,fi4,F4⟩;have G4:=G3.trans F4;have amC:=N4.lt;have GY:Bq w4 (w4.alloc<|Cv #[Sv iS] 9):=bw _;have HP4:=wM (N4.af GY) iS aH (by simp only[ug,ot,uq];omega) w4.heap.size (Bx.new w4 #[Sv iS] 9) ae;rw[uV<|jc<|toList_mk [41],show iS.toList=[41]from toList_mk [41]]at HP4;go_wp2_with fail;refine HP4.mono ?_
 rintro e w5⟨rfl,bv5,N5,F5⟩
 go_wp2
 go_end0;refine⟨rfl,bv5,iS,?_,tJ (toList_mk [41]) aH aH,G4.trans<|(FN.of GY).trans F5⟩;have e9:l++(sep last++[40])++([]++wT a 0)++[44]++([32]++wT b 0)++[41]=l++(sep last++40::(wT a 0++([44,32]++(wT b 0++[41])))):=ag;rw[e9]at N5;simp only[jm,jp,jq]at N5⊢;exact N5
def isF(c:BA):Bool:=c.toList==[62]
def isP(c:BA):Bool:=c.toList==[44]
def kd c:=if isF c=true then 17 else if isP c=true then 6 else 2
mutual
def sp(a:List Nat):Ty->Nd
 |.var n=>.mk 16 (bs (39::vT ((qk a n).idxOf n))) 0 [] 0 0 0|.aK c l=>.mk (kd c) c 0 (nD a l) 0 0 0
def nD(a:List Nat):List Ty->List Nd
 |[]=>[]|t::l=>sp a t::nD (vars a t) l
end
def qB c:isF c=true↔c=qJ:=by
 rw[isF];rw[beq_iff_eq];exact⟨λh=>toList_inj<|h.trans (toList_mk [62]).symm,λh=>by rw[h];exact toList_mk [62]⟩
def yn c:isP c=true↔c=nO:=by
 rw[isP];rw[beq_iff_eq];exact⟨λh=>toList_inj<|h.trans (toList_mk [44]).symm,λh=>by rw[h];exact toList_mk [44]⟩
def adO c:iR (kd c) c=c:=by
 rw[iR,kd];by_cases h1:isF c=true
 .simp[h1];exact((qB c).1 h1).symm
 .by_cases h2:isP c=true
  .simp[h1,h2];exact((yn c).1 h2).symm
  .simp[h1,h2]
def ajI c:kd c≠16:=by rw[kd];split;decide;split<;>decide
mutual
def aat:∀(T:Ty)(a:List Nat),wT (sp a T)=wr dec (vars a T) T
 |.var n,a=>by
  funext k;simp only[sp,wT,if_true,wr,vars];rw[show(bs (39::vT ((qk a n).idxOf n))).toList=39::vT ((qk a n).idxOf n)from toList_mk _];rfl
 |.aK c l,a=>by
  simp only[sp,wT,if_neg<|ajI c,adO,wr,vars];rw[aau l a]
def aau:∀(l:List Ty)(a:List Nat),wTL (nD a l)=Bm dec (ba a l) l
 |[],a=>rfl|t::l,a=>by
  simp only[nD,wTL,Bm,ba];rw[aat t a,aau l<|vars a t,J'<|mn l<|vars a t]
end
def eJ:∀(l:List Ty)(a:List Nat),(nD a l).length=l.length
 |[],a=>rfl|t::l,a=>by simp[nD,eJ l]
def tK:∀(l:List Ty)(a:List Nat)(i:Nat)(h:i<l.length),nD a (l.take<|i+1)=nD a (l.take i)++[sp (ba a<|l.take i) l[i]]/\ba a (l.take<|i+1)=vars (ba a<|l.take i) l[i]
 |[],a,i,h=>vR|t::l,a,0,h=>by simp[nD,ba]|t::l,a,i+1,h=>by
  have:=tK l (vars a t) i G_;simp only[jh,nD,ba,this,jl];simp
def Ao:∀(a b:List Ty)(x:List Nat),ba x (a++b)=ba (ba x a) b
 |[],b,x=>rfl|t::a,b,x=>by simp[ba,Ao a b]
def qZ l a i:(ba a<|l.take i).length<=(ba a l).length:=by
 have:ba a l=ba (ba a<|l.take i) (l.drop i):=by
  rw[<-Ao,jf]
 rw[this];exact(mn _ _).length_le
def mF.by{w}{P}{nd}{v}(h:mF w P nd v):mF w (λb=>P b/\b<w.heap.size/\Q_ w b) nd v:=by
 induction h with
 |var s n f t a x y hq=>exact .var s n f t a x y hq|fn s n a b f t at_ x y va vb _ _ Nj Nk=>exact .fn s n a b f t at_ x y va vb Nj Nk|pr s n a b f t at_ x y va vb _ _ Nj Nk=>exact .pr s n a b f t at_ x y va vb Nj Nk|up s n L f t at_ x y x' y' sa sc vs hu aN hr ih=>
  refine .up s n L f t at_ x y x' y' sa sc vs hu ?_ ih;obtain h0|⟨g,h1,hP,hz,hc⟩:=aN
  .exact jc h0
  .by_cases hL:L=[]
   .exact jc hL
   .have hl:=List.length_pos_iff.2 hL;refine ja ⟨g,h1,⟨hP,hz,λq hq c e=>?_⟩,hz,hc⟩;have⟨t',x'',hv⟩:=(hr 0 hl).bQ;rw[hc 0 hl,hv]at hq
    cases hq
    cases e
inductive WN:Nd->Prop where
 |var(s:BA)(n f t a:Nat)(h:s.size<=1000):WN (.mk 16 s n [] f t a)
 |fn(s:BA)(n:Nat)(x y:Nd)(f t a:Nat)(hx:WN x)(hy:WN y):WN (.mk 17 s n [x,y] f t a)
 |pr(s:BA)(n:Nat)(x y:Nd)(f t a:Nat)(hx:WN x)(hy:WN y):WN (.mk 6 s n [x,y] f t a)
 |up(s:BA)(n:Nat)(L:List Nd)(f t a:Nat)(h:s.size<=1000)(hl:L.length<=1001)(hL:∀i(h:i<L.length),WN L[i]):WN (.mk 2 s n L f t a)
def Rd{p:Prop}(h:p:=by
 subst ha hb;go_enter func79,ntmps79
 go_wp2
 go_region
 all_goals(
  go_wp2
  go_ret
  exact⟨rfl,(qp _ _).drew⟩)):p:=h
def adP g sc va vb ta tb xa xb(ha:va=.iface ta xa)(hb:vb=.iface tb xb)(h0:w.cell? ⟨g,0,none⟩=some va)(h1:w.cell? ⟨g,1,none⟩=some vb):Cq 79 #[.string ⟨#[45,62]⟩,.slice (some ⟨g,0,none⟩) 2 sc] w λe w'=>e=.returned (.iface 161<|.agg #[Iv 0,Iv 0,va,vb])/\Bq w w':=by
 exact Rd
def adQ g sc va vb ta tb xa xb(ha:va=.iface ta xa)(hb:vb=.iface tb xb)(h0:w.cell? ⟨g,0,none⟩=some va)(h1:w.cell? ⟨g,1,none⟩=some vb):Cq 79 #[.string ⟨#[44]⟩,.slice (some ⟨g,0,none⟩) 2 sc] w λe w'=>e=.returned (.iface 163<|.agg #[Iv 0,Iv 0,va,vb])/\Bq w w':=by
 exact Rd
def adR c(hu:nY c)sa n sc:Cq 79 #[.string c,.slice sa n sc] w λe w'=>e=.returned (.iface 166<|.agg #[Iv 0,Iv 0,Iv 0,Iv 0,.string c,.slice sa n sc])/\Bq w w':=by
 have h1:(c.toList==[45,62])=false:=by rw[<-Bool.not_eq_true,beq_iff_eq];exact dd hu 45 [62] aH
 have h2:(c.toList==[44])=false:=by rw[<-Bool.not_eq_true,beq_iff_eq];exact dd hu 44 [] aH
 go_enter func79,ntmps79
 go_wp2
 go_ret;exact⟨rfl,qp _ _⟩
def ahe nb mb nd a' w(e:Ending)w':=
 ∃u,e=.returned u/\mF w' (λb=>w.heap.size<=b) nd u/\NB w' nb mb a'/\Fr (λb=>b=mb) w w'
def SpC T:=∀(w:World)(nb mb:Nat)(a:List Nat)(P:Nat->Prop)(v:Value),dW w P T v->NB w nb mb a->(∀b,P b->b≠mb)->Wf T->(vars a T).length<=96->ah [T]<=1000->
 Cq 52 #[v,nbV nb] w (ahe nb mb (sp a T) (vars a T) w)
@[simp] theorem alo a w:(qi (.iface 98<|Iv a) 67 98 true).run qh w=.ok (.tuple #[Iv a,.bool true]) w:=qkr
@[simp] theorem ahf a b w:(qi (.iface 169<|.agg #[a,b]) 67 98 true).run qh w=.ok (.tuple #[Iv 0,.bool false]) w:=qkr
def ahg n:SpC (.var n):=by
 intro w nb mb a P v h hN hP hW hv hs
 cases h
 simp only[vars]at hv;have HC:=Vn hN n hv;go_enter func52,ntmps52;go_wp2_with fail;refine HC.mono ?_;rintro e w1⟨rfl,N1,F1⟩
 go_wp2
 go_ret;refine⟨_,rfl,?_,N1,F1⟩;have hq:QM (bs (39::vT ((qk a n).idxOf n))):=⟨_,toList_mk _⟩;have ht:bs (vT<|(qk a n).idxOf n)=(bs (39::vT ((qk a n).idxOf n))).extract 1 (bs (39::vT ((qk a n).idxOf n))).size:=by
  apply toList_inj;have:=yj (s:=bs (39::vT ((qk a n).idxOf n)))<|toList_mk _;rw[tl]at this;rw[this];exact toList_mk _
 rw[ht];exact .var _ _ _ _ _ _ _ hq
def ajJ nb mb a(L:List Ty)w pb sb M gk v wr:=
 ∃(j:Nat)(C:Array Value),Hid (gk=L.length-j)/\j<=L.length/\v=Nv j/\NB wr nb mb (ba a<|L.take j)/\Fr (λb=>b=mb) w wr/\Bx wr pb C/\Bx wr sb M/\Hid (C.size=L.length)/\
  Hid (∀i(h:i<(nD a<|L.take j).length),∃u,C[i]? =some u/\mF wr (λb=>pb<b/\b<wr.heap.size) (nD a<|L.take j)[i] u)
def NB.lt{L}(h:NB w nb mb L):nb<w.heap.size/\mb<w.heap.size:=⟨h.bk.z,h.mp.lt⟩
def NB.set{L}(h:NB w nb mb L)(h1:b≠nb)(h2:b≠mb)j v:NB (w.setCell ⟨b,j,none⟩ v) nb mb L:=
 ⟨h.bk.bV h1.symm j v,h.mp.uI h2.symm j v,h.ne⟩
def Re{p:Prop}(h:p:=by
 unfold kd
 rw[if_neg<|λq=>dd hu 62 [] aH (by rw[(qB c).1 q];exact toList_mk [62]),if_neg<|λq=>dd hu 44 [] aH (by rw[(yn c).1 q];exact toList_mk [44])]):p:=h
def Rf{p:Prop}(h:p:=by
 simp only[sp,hk];congr 1;apply List.ext_getElem
 .simp;omega
 .intro i h1 h2;have:i=0\/i=1:=by simp at h2;omega
  obtain rfl|rfl:=this<;>rfl):p:=h
def ahh c L(IH:∀i(h:i<L.length),SpC L[i]):SpC (.aK c L):=by
 intro w nb mb a P v h HN hP hW hv hs
 cases h with
 |aK c L sa sc vs hc aN hr=>
 obtain⟨i0,yi,oh,m7,i_⟩:=info_parts Jt;have fW:ah L<=1000:=by simp[ah,size]at hs;omega
 have hLl:=uU L;have WZ:=jZ (by_:=16) Ac yi oh rfl m7 i_ aH L.length ae;obtain⟨Hok,hWL⟩:=hW;rw[FK]at hWL;simp only[vars]at hv;have h1:=ahf;have h2:=aha;have bz:=HN.lt;have cz:Bq w ((w.alloc<|.cells #[.string<|pn c,.slice sa L.length sc] 169).alloc<|.cells (Array.replicate L.length .nilIface) 92):=(bw _).alloc ag _;have XM:=ai<|(Bx.new w #[.string<|pn c,.slice sa L.length sc] 169).alloc<|.cells (Array.replicate L.length .nilIface) 92;obtain⟨cm,fm,zm⟩:=uh XM;go_enter func52,ntmps52
 go_wp2
 go_loopg[29] L.length (λgk v wr=>ajJ nb mb a L w (w.heap.size+1) w.heap.size #[.string<|pn c,.slice sa L.length sc] gk v wr)
 case atStart=>
  have BP:Bx ((w.alloc<|.cells #[.string<|pn c,.slice sa L.length sc] 169).alloc<|.cells (j5 L.length .nilIface) 92) (w.heap.size+1) (j5 L.length .nilIface):=by have:=Bx.new (w.alloc<|.cells #[.string<|pn c,.slice sa L.length sc] 169) (j5 L.length .nilIface) 92;simpa using this
  refine⟨0,j5 L.length .nilIface,ai ag,jz _,rfl,?_,Fr.of cz,BP,XM,ai ag,ai<|λi hi=>absurd hi<|by simp[nD]⟩;simpa[ba]using HN.af cz
 case round=>
  obtain⟨j,C,dv,hj,rfl,N1,F1,B1,BM,hC,hT⟩:=hrel;have zw:=F1.size;have n1:=N1.lt;have zpb:=B1.z;by_cases bq:j<L.length
  .have hd:(j:Int)<(L.length:Int):=ae;obtain⟨g,rfl,hg,lh,b8⟩:∃g,sa=some ⟨g,0,none⟩/\P g/\g<w.heap.size/\∀i,i<L.length->w.cell? ⟨g,i,none⟩=some (vs i):=by
    obtain h0|h0:=aN
    .subst h0;simp at bq
    .exact h0
   have cg:=(j7 (a:=⟨g,j,none⟩)<|F1.block g lh<|hP g hg).trans<|b8 j bq;have TJ:=(hr j bq).fr F1<|λb p _=>hP b p;obtain⟨tv,xv,Mn⟩:=TJ.iface;obtain⟨mt1,mt2⟩:=tK L a j bq;have hnj:(vars (ba a<|L.take j) L[j]).length<=96:=by rw[<-mt2];exact ju (qZ L a<|j+1) hv
   have hsj:ah [L[j]]<=1000:=by
    have e1:=py L j bq;have e2:=lQ L<|j+1;simp[ah];omega
   have HC:=IH j bq wr nb mb _ P (vs j) TJ N1 hP (hWL _<|ji bq) hnj hsj;rw[Mn]at cg HC;go_wp2_with fail;refine HC.mono ?_;rintro e w1⟨u,rfl,HU,PK,HF⟩;obtain⟨tu,xu,rfl⟩:=HU.bQ;have hpm:w.heap.size+1≠mb:=ae;have B2:=B1.fr HF hpm;have wH:j<C.size:=qBh;have cj:=(B2.c j).trans<|Array.getElem?_eq_getElem wH;have fj:=B2.f j;have B3:=B2.aP j (.iface tu<|.agg xu) (C.setIfInBounds j<|.iface tu<|.agg xu) rfl wH;have BM2:=(BM.fr HF<|show ¬w.heap.size=mb by omega).bV (show w.heap.size≠w.heap.size+1 by omega) j (.iface tu<|.agg xu);have Bi:=F1.trans HF;have z2:=HF.size
   go_wp2
   go_roundg(L.length-(j+1))
   case measure=>rw[uh dv];omega
   case rel=>
    have NN:(nD a<|L.take j).length=j:=by rw[eJ];simp;omega
    refine⟨j+1,C.setIfInBounds j<|.iface tu<|.agg xu,ai rfl,ae,jT,?_,?_,B3,BM2,ai (by simp;exact hC),ai<|λi hi=>?_⟩
    .rw[mt2];exact PK.set ae ae j _
    .exact Bi.set (ja ae) j _
    .have jU:∀b,w.heap.size+1<b->b<w1.heap.size->(w1.setCell ⟨w.heap.size+1,j,none⟩<|.iface tu<|.agg xu).heap[b]? =w1.heap[b]? :=λb hb _=>Below.heap_setCell _ _ _ _ (by show b≠w.heap.size+1;omega);have hss:(w1.setCell ⟨w.heap.size+1,j,none⟩<|.iface tu<|.agg xu).heap.size=w1.heap.size:=C9;have oj:i<j+1:=by rw[mt1]at hi;simp[NN]at hi;omega
     by_cases e:i=j
     .subst e;refine⟨.iface tu<|.agg xu,by simp[wH],?_⟩;have e1:(nD a<|L.take<|i+1)[i]'hi=sp (ba a<|L.take i) L[i]:=by
       have:(nD a<|L.take<|i+1)[i]? =some (sp (ba a<|L.take i) L[i]):=by rw[mt1,jj ae];simp[NN]
       rw[jd hi]at this;exact Option.some.inj this
      rw[e1];exact HU.by.move ae (λb p z=>jU b qAy z)<|λb p z=>⟨qAy,ae⟩
     .have rS:i<(nD a<|L.take j).length:=ae;obtain⟨u',wI,wJ⟩:=uh hT i rS;have e1:(nD a<|L.take<|j+1)[i]'hi=(nD a<|L.take j)[i]'rS:=by
       have:(nD a<|L.take<|j+1)[i]? =some ((nD a<|L.take j)[i]'rS):=by rw[mt1,jk rS,jd rS]
       rw[jd hi]at this;exact Option.some.inj this
      refine⟨u',by rw[Array.getElem?_setIfInBounds_ne ae];exact wI,?_⟩;rw[e1];have h3:=wJ.fr HF (λb p _ q=>by subst q;omega);exact h3.move ae (λb p z=>jU b p.1 z)<|λb p z=>⟨p.1,ae⟩
  .have hd:decide ((j:Int)<(L.length:Int))=false:=bP;have ej:j=L.length:=ae;subst ej;rw[jo]at N1 hT;obtain⟨cw,fw,zw'⟩:=BM;have hsl:=eJ L a;have hCs:C.size=L.length:=uh hC;obtain rfl|rfl|hu:=hc
   .have h2L:=Hok.2<|jc rfl;obtain⟨u0,hu0,hp0⟩:=uh hT 0 ae;obtain⟨u1,wI,hp1⟩:=uh hT 1 ae;obtain⟨t0,x0,rfl⟩:=hp0.bQ;obtain⟨t1,x1,rfl⟩:=hp1.bQ;have HC:=adP (w:=wr) (w.heap.size+1) L.length (.iface t0<|.agg x0) (.iface t1<|.agg x1) t0 t1 (.agg x0) (.agg x1) rfl rfl ((B1.c 0).trans hu0) ((B1.c 1).trans wI);rw[kT]at cw;rw[h2L]at HC;go_wp2_with fail;rw[h2L];refine HC.mono ?_;rintro e w9⟨rfl,NU⟩
    go_wp2
    go_ret;refine⟨_,rfl,?_,N1.af NU,F1.trans<|Fr.of NU⟩;have esp:sp a (.aK qJ L)=.mk 17 qJ 0 [(nD a L)[0]' ae,(nD a L)[1]' ae] 0 0 0:=by
     have hk:kd qJ=17:=by unfold kd;rw[if_pos<|(qB qJ).2 rfl]
     exact Rf
    rw[esp];exact .fn _ _ _ _ _ _ _ _ _ _ _ ((hp0.af NU).wide λb p=>qAu)<|(hp1.af NU).wide λb p=>qAu
   .have h2L:=Hok.2<|ja rfl;obtain⟨u0,hu0,hp0⟩:=uh hT 0 ae;obtain⟨u1,wI,hp1⟩:=uh hT 1 ae;obtain⟨t0,x0,rfl⟩:=hp0.bQ;obtain⟨t1,x1,rfl⟩:=hp1.bQ;have HC:=adQ (w:=wr) (w.heap.size+1) L.length (.iface t0<|.agg x0) (.iface t1<|.agg x1) t0 t1 (.agg x0) (.agg x1) rfl rfl ((B1.c 0).trans hu0) ((B1.c 1).trans wI);rw[kU]at cw;rw[h2L]at HC;go_wp2_with fail;rw[h2L];refine HC.mono ?_;rintro e w9⟨rfl,NU⟩
    go_wp2
    go_ret;refine⟨_,rfl,?_,N1.af NU,F1.trans<|Fr.of NU⟩;have esp:sp a (.aK nO L)=.mk 6 nO 0 [(nD a L)[0]' ae,(nD a L)[1]' ae] 0 0 0:=by
     have df:¬nO=qJ:=by intro e;have:=congrArg ByteArray.toList e;rw[show nO.toList=[44]from toList_mk [44],show qJ.toList=[62]from toList_mk [62]]at this;simp at this
     have hk:kd nO=6:=by unfold kd;rw[if_neg<|λq=>df<|(qB nO).1 q,if_pos<|(yn nO).2 rfl]
     exact Rf
    rw[esp];exact .pr _ _ _ _ _ _ _ _ _ _ _ ((hp0.af NU).wide λb p=>qAu)<|(hp1.af NU).wide λb p=>qAu
   .have HC:=adR (w:=wr) c hu (some ⟨w.heap.size+1,0,none⟩) L.length L.length;rw[eS hu]at cw;go_wp2_with fail;refine HC.mono ?_;rintro e w9⟨rfl,NU⟩
    go_wp2
    go_ret;refine⟨_,rfl,?_,N1.af NU,F1.trans<|Fr.of NU⟩;have hk:kd c=2:=by
     exact Re
    simp only[sp,hk];rw[<-hsl];refine .up c 0 (nD a L) 0 0 0 0 0 0 0 _ _ (λi=>C.getD i .nilIface) hu (ja ⟨w.heap.size+1,rfl,by show w.heap.size<=w.heap.size+1;omega,jx B1.z NU.size,λi hi=>?_⟩) (λi hi=>?_)
    .obtain⟨u,LW,_⟩:=uh hT i hi;rw[j7 (a:=⟨w.heap.size+1,i,none⟩)<|NU.block _ B1.z,B1.c i,LW];simp[j6,LW]
    .obtain⟨u,LW,TB⟩:=uh hT i hi;have:C.getD i .nilIface=u:=by simp[j6,LW]
     rw[this];exact(TB.af NU).wide λb p=>qAu
def Dr:∀(T:Ty),SpC T
 |.var n=>ahg n|.aK c L=>ahh c L λi h=>Dr L[i]
termination_by T=>j9 T
decreasing_by
 have h2:=List.sizeOf_lt_of_mem<|ji h;simp;omega
def ahi i(h:i<=900):(bs (39::vT i)).size<=1000:=by
 rw[jN];have:=yo i;simp[vT];omega
def aav{α:Type}{l:List α}(h:l.length=2):∃x y,l=[x,y]:=by
 match l,h with
 |[x,y],_=>exact⟨x,y,rfl⟩
def Rg:∀(x y:List Ty)(a:List Nat),nD a (x++y)=nD a x++nD (ba a x) y
 |[],y,a=>rfl|t::x,y,a=>by simp[nD,ba,Rg x y]
def ahj l a i h:(nD a l)[i]'(by rw[eJ];exact h)=sp (ba a<|l.take i) l[i]:=by
 have h1:=(tK l a i h).1;have h2:(nD a l)[i]? =(nD a<|l.take<|i+1)[i]? :=by
  have e:nD a l=nD a (l.take<|i+1)++nD (ba a<|l.take<|i+1) (l.drop<|i+1):=by
   rw[<-Rg,jf]
  rw[e,jk (by rw[eJ];simp;omega)]
 rw[h1,jj (by rw[eJ];simp;omega),eJ]at h2;rw[jd (by rw[eJ];exact h)]at h2;have h3:i-(l.take i).length=0:=bP;rw[h3]at h2;exact Option.some.inj h2
def WN.sp{w}{P}{T}{v}(h:dW w P T v):Wf T->size T<=900->∀a,(vars a T).length<=900->WN (sp a T):=by
 induction h with
 |var n=>
  intro _ _ a hv;simp only[vars]at hv;refine .var _ _ _ _ _<|ahi _ ?_;have:(qk a n).idxOf n<(qk a n).length:=List.idxOf_lt_length_iff.2 (by rw[qk];split<;>simp[*]);omega
 |aK c L sa sc vs hc aN hr ih=>
  intro hW hs a hv;obtain⟨Ka,hWL⟩:=hW;rw[FK]at hWL;simp only[size]at hs;simp only[vars]at hv;have key:∀i(h:i<L.length),WN<|(nD a L)[i]'(by rw[eJ];exact h):=λi hi=>by
   rw[ahj L a i hi];have e1:=py L i hi;have e2:=lQ L<|i+1;refine ih i hi (hWL _<|ji hi) ae _ ?_;rw[<-(tK L a i hi).2];exact ju (qZ L a<|i+1) hv
  have hl:=uU L;obtain rfl|rfl|hu:=hc
  .have h2:(nD a L).length=2:=by rw[eJ];exact Ka.2<|jc rfl
   have hL2:=Ka.2<|jc rfl;have⟨x,y,e⟩:=aav h2;have hk:kd qJ=17:=by rw[kd];rw[if_pos<|(qB qJ).2 rfl]
   simp only[Go.Proofs.YtfnkchdeheeiiaaGreatDoor.sp,hk];have k0:=key 0 ae;have k1:=key 1 ae;simp only[e]at k0 k1⊢;exact .fn _ _ _ _ _ _ _ k0 k1
  .have h2:(nD a L).length=2:=by rw[eJ];exact Ka.2<|ja rfl
   have hL2:=Ka.2<|ja rfl;have⟨x,y,e⟩:=aav h2;have df:¬nO=qJ:=xC;have hk:kd nO=6:=by rw[kd];rw[if_neg<|λq=>df<|(qB nO).1 q,if_pos<|(yn nO).2 rfl]
   simp only[Go.Proofs.YtfnkchdeheeiiaaGreatDoor.sp,hk];have k0:=key 0 ae;have k1:=key 1 ae;simp only[e]at k0 k1⊢;exact .pr _ _ _ _ _ _ _ k0 k1
  .have hk:kd c=2:=by
    exact Re
   simp only[Go.Proofs.YtfnkchdeheeiiaaGreatDoor.sp,hk];refine .up _ _ _ _ _ _ Ka.1 (by rw[eJ];omega) (λi hi=>key i (by rw[eJ]at hi;exact hi))
def dW.ajK(h:dW w P T v)L:wr dec L T 0≠[]:=by
 cases h with
 |var n=>simp[wr]|aK c l sa sc vs hc aN hr=>
  simp only[wr];rw[bC];split
  .rw[ql];simp
  .split
   .simp
   .rename_i h1 h2;obtain rfl|rfl|hu:=hc
    .exact absurd rfl h1
    .exact absurd rfl h2
    .obtain⟨x,r,e,_⟩:=hu;rw[ql];simp[e]
def adS p x y z:Cq 107 #[.pointer<|some p,Iv x,Iv y,Iv z] w λe w'=>(∃v,e=.returned v)/\Bq w w':=by
 go_enter func107,ntmps107
 go_wp2
 go_ret;exact⟨⟨_,rfl⟩,(((bw _).alloc ag _).alloc bP _).alloc bP _⟩
def NY p:Cq 74 #[.pointer<|some p] w (UL w):=by
 have H:=Ma.new (w:=w);have HB:=(Below.refl w.heap.size w).alloc (br _)<|.map #[] 0;have jB:= @run_makeMap Tryz.prog;go_enter func74,ntmps74;go_wp2_with(first|(refine aV _ rfl _ _ _ _ (Or.inl rfl) (KL.str Tryz.underlying9) Tryz.underlying111 _ _ rfl H _ _ rfl rfl trivial (λ_ _=>trivial) ?_;clear H;intro w' H' O';have H:=ai H';have HB:=ai<|One.below HB O' qbr;clear H' O')|(go_at_call 107;refine(adS _ _ _ _).mono ?_;rintro e w'⟨⟨v,rfl⟩,hb⟩;have H:=ai<|H.below hb;have HB:=ai<|HB.trans<|hb.mono HB.size;clear hb));go_ret;exact⟨_,rfl,ag,HB⟩
def aaw:Cq 50 #[] w λe w'=>e=.returned (Pv w.heap.size)/\(∃mv,PN w' w.heap.size w.heap.size (.slice none 0 0) [] ⟨#[]⟩ mv)/\Bq w w':=by
 have cz:Bq w (w.alloc<|Cv #[.pointer none,Lv none 0 0,Sv ⟨#[]⟩,.map none] 113):=bw _;have h0:(w.alloc<|Cv #[.pointer none,Lv none 0 0,Sv ⟨#[]⟩,.map none] 113).heap[w.heap.size]? =some (Cv #[.pointer none,Lv none 0 0,Sv ⟨#[]⟩,.map none] 113 (0,0)):=(MapKept.heap_alloc w _).1;have H0:=ai h0;go_enter func50,ntmps50;go_wp2_with(go_at_call 74;refine(NY _).mono ?_;rintro e w1⟨b,rfl,hle,hb⟩;have h1:w1.heap[w.heap.size]? =some (Cv #[.pointer none,Lv none 0 0,Sv ⟨#[]⟩,.map none] 113 (0,0)):=(hb.block _ ag).trans H0;have c3:w1.cell? ⟨w.heap.size,3,none⟩=some (.map none):= qBu;have f3:w1.frozen? ⟨w.heap.size,3,none⟩=false:=(by simp[World.frozen?,h1]);have H1:=ai h1;have eN:=ai<|cz.trans<|hb.mono cz.size;clear h1 hb);go_ret;have hz:=eN.size;exact⟨rfl,⟨Mv b,⟨_,(dK H1 3 _).trans ag,Or.inl rfl⟩,⟨rfl,Or.inl ⟨rfl,rfl⟩⟩,λ_=>rfl,by simp[World.setCell];exact hz⟩,eN.setCell (br _) _⟩
def Kc:Cq 48 #[] w λe w'=>e=.returned (.func (.func 72) #[] #[Pv<|w.heap.size+1])/\NB w' (w.heap.size+1) w.heap.size []/\Bq w w':=by
 have jB:= @run_makeMap Tryz.prog;go_enter func48,ntmps48
 go_wp2
 go_ret;refine⟨rfl,⟨?_,?_,ae⟩,(bw _).alloc ag _⟩
 .have:=Bx.new (w.alloc<|.map #[] 0) #[Mv w.heap.size] 171;simpa using this
 .exact(MS.new ajL w).below (bw _)
def Rh:Cq 34 #[] w λe w'=>∃cb nb mb,e=.returned (.func (.func 49) #[] #[Pv cb])/\Bx w' cb #[nbV nb]/\NB w' nb mb []/\w.heap.size<=mb/\cb≠mb/\Bq w w':=by
 go_enter func34,ntmps34;go_wp2_with(go_at_call 48;refine Kc.mono ?_;rintro e w1⟨rfl,hN,hb⟩;have HN:=ai hN;have HB:=ai hb;clear hN hb);go_ret;have hz:=HN.lt;have dA:Bq w1 (w1.alloc<|Cv #[nbV<|w.heap.size+1] 100):=bw _;exact⟨w1.heap.size,w.heap.size+1,w.heap.size,rfl,Bx.new _ _ _,HN.af dA,br _,ae,HB.trans<|dA.mono HB.size⟩
def Vo nb mb a T w(e:Ending)w':=
 e=.returned (.string<|bs<|wr dec (vars a T) T 0)/\NB w' nb mb (vars a T)/\Fr (λb=>b=mb) w w'
def FQ(HAt:∀nd,WN nd->WV nd){cb}{a}(hT:dW w P T v)(hP:∀b,P b->b≠mb)(hN:NB w nb mb a)(hC:Bx w cb #[nbV nb])(LU:cb≠mb)(hW:Wf T)(hs:size T<=48)(hv:(vars a T).length<=96):
 Cq 49 #[v,Pv cb] w (Vo nb mb a T w):=by
 have bz:=hN.lt;have hcz:=hC.z;obtain⟨tv,xv,rfl⟩:=hT.iface;go_enter func49,ntmps49;go_wp2_with fail;refine aaw.mono ?_;rintro e w1⟨rfl,⟨mv,hPN⟩,dA⟩;have C1:=hC.below dA;obtain⟨c1,f1,z1⟩:=C1;have zw1:=hPN.lt;have HC:=Dr T w1 nb mb a P _ (hT.af dA) (hN.af dA) hP hW hv (by simp[ah];omega);go_wp2_with fail;refine HC.mono ?_;rintro e w2⟨u,rfl,hU,N2,F2⟩;obtain⟨tu,xu,rfl⟩:=hU.bQ
 have P2:=hPN.same F2.size (λb hb q=>F2.block b hb (λe=>by
  obtain q|q:=q
  .omega
  .simp[Value.ownBlock]at q))
 have hwn:=WN.sp hT hW ae a ae;have hwl:=uX (L:=vars a T) ae T hW 0;have hnq:NQ w2 w.heap.size (λb=>w1.heap.size<=b/\b<w2.heap.size/\Q_ w2 b):=λb q=>⟨q.2.1,ae,q.2.2⟩;have hsp:sep ⟨#[]⟩=[]:=by rw[sep];rw[if_pos<|jc<|toList_mk []]
 have HA:=HAt _ hwn w2 w.heap.size w.heap.size _ [] ⟨#[]⟩ mv _ _ 0 P2 hU.by hnq ae (by rw[hsp,aat];simp;omega)<|br _;rw[hsp,aat]at HA;go_wp2_with fail;refine HA.mono ?_;rintro e w3⟨rfl,bv3,Rc,N3,fi3,F3⟩;have df:=hT.ajK<|vars a T;have HS:=aax N3 (by simpa using df);have⟨ad,ZA,_⟩:=N3.bk;go_wp2_with fail;refine HS.mono ?_;rintro e w4⟨rfl,F4⟩
 go_wp2
 go_ret;have Ca:∀k,k<w.heap.size->k≠mb->w4.heap[k]? =w.heap[k]? :=λk hk hm=>by
  have e1:=dA.block k hk;have e2:=F2.block k ae hm;have e3:=F3.block k (by have:=F2.size;omega) ae<|jc hk
  have e4:=F4.block k (by have:=F2.size;have:=F3.size;omega) (λq=>by
   obtain q|q:=q
   .omega
   .have:=(fK N3.ow k q).1;omega)
  exact e4.trans<|e3.trans<|e2.trans e1
 have wF:w4.heap[mb]? =w2.heap[mb]? :=by
  have e3:=F3.block mb (by have:=F2.size;omega) ae<|jc bz.2
  have e4:=F4.block mb (by have:=F2.size;have:=F3.size;omega) (λq=>by
   obtain q|q:=q
   .omega
   .have:=(fK N3.ow mb q).1;omega)
  exact e4.trans e3
 have hs4:=ju dA.size<|ju F2.size<|ju F3.size F4.size;refine⟨ag,⟨?_,N2.mp.same wF,N2.ne⟩,⟨?_,?_,?_,hs4,Ca⟩⟩
 .exact N2.bk.same (ju F3.size F4.size) (by
   have e2:=F2.block nb ae N2.ne;have e1:=dA.block nb bz.1
   rw[Ca nb bz.1 N2.ne,<-e1,<-e2])
 .exact F4.os.trans (F3.os.trans<|F2.os.trans dA.os)
 .exact F4.tape.trans (F3.tape.trans<|F2.tape.trans dA.tape)
 .exact F4.output.trans (F3.output.trans<|F2.output.trans dA.output)
end
section
open Go.MapKept Un
namespace Un
def uk.ind{K}{R}{rk}(hK:uk K R rk){J:Nat->Prop}(h0:∀n,K n=none->J n)(h1:∀n t,K n=some t->(∀m,aA m t->J m)->J n):∀(s r n:Nat),size (R n)<=s->rk n<=r->J n:=by
 intro s
 induction s using jy with
 |ind s ihs=>
  intro r
  induction r using jy with
  |ind r ihr=>
   intro n hs hr
   cases e:K n with
   |none=>exact h0 n e|some t=>
    refine h1 n t e λm hm=>?_;have q:=hK.shut n t e
    cases t with
    |var u=>
     simp only[aA]at hm;subst hm;have:=hK.Yp n u e;refine ihr (rk u) ae u ?_<|br _;rw[q]at hs;simpa[sub]using hs
    |aK c l=>
     have h3:=jX R m l (by simpa[aA]using hm);have h4:=congrArg size q;simp only[sub,size]at h4;exact ihs (size<|R m) ae (rk m) m (br _)<|br _
def uk.all{rk}(hK:uk K R rk){J:Nat->Prop}(h0:∀n,K n=none->J n)(h1:∀n t,K n=some t->(∀m,aA m t->J m)->J n)n:J n:=hK.ind h0 h1 _ _ n (br _)<|br _
end Un
section
variable {rk:Nat->Nat}
def aay(hK:uk K R rk)(hI:B_ V K)n m:n∈V->aA m (R n)->m∈V:=by
 refine hK.all (J:=λn=>n∈V->aA m (R n)->m∈V) (λn e hn ho=>?_) (λn t e ih hn ho=>?_) n
 .rw[hK.open_ n e]at ho;simp only[aA]at ho;subst ho;exact hn
 .rw[hK.shut n t e]at ho;have⟨x,h1,h2⟩:=(l9 t).1 ho;exact ih x h1 ((hI n t e).2.v x h1) h2
def Ds(hK:uk K R rk)(hI:B_ V K)n:Whole (R n):=by
 refine hK.all (J:=λn=>Whole<|R n) (λn e=>?_) (λn t e ih=>?_) n
 .rw[hK.open_ n e];trivial
 .rw[hK.shut n t e];exact cr t (hI n t e).2.w ih
def D5{l V:List Nat}(h:l.Nodup)(hs:∀x,x∈l->x∈V):l.length<=V.length:=by
 induction l generalizing V with
 |nil=>simp|cons a l ih=>
  have ha:=hs a ag;have hn:=List.nodup_cons.1 h;have:=ih (V:=V.erase a) hn.2 λx hx=>(List.mem_erase_of_ne<|λe=>hn.1 (by rw[<-e];exact hx)).2 (hs x<|by simp[hx]);rw[List.length_erase_of_mem ha]at this;have:0<V.length:=List.length_pos_of_mem ha;simp only[ot];omega
def Kd(hK:uk K R rk)(hI:B_ V K)(hV:V.length<=1000):Al K R where
 whole:=Ds hK hI
 small n t e:=(hI n t e).2.z
 len n:=by
  cases e:K n with
  |none=>rw[hK.open_ n e];simp[vars,qk]|some t=>
   have hn:=(hI n t e).1;exact ju (D5 (dG (R n) List.nodup_nil) λx hx=>aay hK hI n x hn<|by simpa using(bE (R n) [] x).1 hx) hV
def ClR(P:Nat->Prop)b K R L w gk wr:=
 ∃done D,IG qI wr (w.heap.size+1) b L done gk/\fh wr (λx=>(P x/\x<w.heap.size)\/w.heap.size+2<=x) w.heap.size D/\aaj K R D/\(∀n:Nat,(n:Int)∈done->D n≠none)/\Bq w wr
def KW w P b(κ:Nat->Ty):=∃D,fh w P b D/\∀n,(D n=none->κ n=.var n)/\(D n≠none->D n=some (bK<|κ n))
def NZ(P:Nat->Prop)R w(e:Ending)w':=∃wb,e=.returned (Mv wb)/\w.heap.size<=wb/\KW w' (λx=>P x\/w.heap.size<=x) wb R/\Bq w w'
def Vp(h:fh w P b K)(hb:P b)(hK:uk K R rk)(hF:Al K R):Cq 355 #[Mv b] w (NZ P R w):=by
 have HH:=ai h;have bl:=h.lt;have jB:= @run_makeMap Tryz.prog;obtain⟨L,m1,q1,q2,q3⟩:=h;have k1:Bq w (w.alloc<|.map #[] 0):=bw _;have⟨o,cnt,hrg,lY⟩:=(m1.af k1).range pw;rw[aX]at hrg lY;have k2:Bq w ((w.alloc<|.map #[] 0).alloc o):=k1.alloc ag _;have HI:=ai lY;have K2:=ai k2;have S0:Hid (fh ((w.alloc<|.map #[] 0).alloc o) (λx=>(P x/\x<w.heap.size)\/w.heap.size+2<=x) w.heap.size<|λ_=>none):=ai<|(fh.new w _).af<|bw _;have Q:=And.intro q1<|And.intro q2 q3;go_enter func355,ntmps355
 go_wp2
 go_loopg[] cnt (λgk wr=>ClR P b K R L w gk wr)
 case atStart=>exact⟨[],λ_=>none,HI,uh S0,(λn t e=>by cases e),(λn hn=>by simp at hn),uh K2⟩
 case round=>
  obtain⟨done,D,HI,HS,HG,HD,HB⟩:=hrel;have Xh:=HI.lt;have zr:=HB.size;rcases HI.next (P:=qh) JV with⟨ha,DX⟩|⟨x,u,w2,aE,hxd,Pc,DX,WQ,bz,xS,fW,hen⟩
  .go_wp2
   go_ret;refine⟨w.heap.size,rfl,br _,⟨D,HS.wide λx p=>by obtain p|p:=p;exact jc p.1;exact ja ae,λn=>⟨λe=>?_,λe=>?_⟩⟩,HB⟩
   .apply hK.open_ n
    cases hg:aZ (n:Int) L with
    |none=>exact Q.1 n hg|some v=>exact absurd e<|HD n<|ha _ v hg
   .cases hd:D n with
    |none=>exact absurd hd e|some t=>rw[(HG n t hd).1]
  .obtain⟨n,rfl⟩:=Q.2.2 x u Pc;have F1:=xS;have kb:∀i,i<w.heap.size->w2.heap[i]? =w.heap[i]? :=λi hi=>(F1.block i ae ae).trans<|HB.block i hi;have eA:Bq w w2:=⟨F1.os.trans HB.os,F1.tape.trans HB.tape,F1.output.trans HB.output,ae,kb⟩;have alp:FC b w.heap.size K R (λx=>(P x/\x<w.heap.size)\/(w.heap.size+2<=x/\x<w2.heap.size)) D w2:=by
    refine⟨?_,?_,ae,jc ⟨hb,bl⟩,?_,?_,HG⟩
    .rintro x(p|p)<;>omega
    .rintro(p|p)<;>omega
    .exact HH.move eA.size (kb b bl) (λx _ hx=>kb x hx) (λx p hx=>jc ⟨p,hx⟩)
    .exact(HS.fr F1 ae (λx p _=>by obtain p|p:=p<;>omega)).low.wide λx p=>by
      obtain q|q:=p.1
      .exact jc q
      .exact ja ⟨q,p.2⟩
   have HC:=J7 (b:=b) (wb:=w.heap.size) hK hF (size<|R n) (rk n) n (br _) (br _) w2 _ D alp;have hKn:Hid (K n≠none):=by
    have⟨t,e,_⟩:=Q.2.1 n u Pc;rw[e];exact ai ag
   go_wp2_with fail;refine HC.mono ?_;rintro e w3⟨u3,D',rfl,hu3,hd3,G3,M3,hn3,F3⟩;obtain⟨tu,xu,rfl⟩:=hu3.iface;have z3:=F3.size;have N3:=hn3 hKn
   have S3:=ai (hd3.wide (Q:=λx=>(P x/\x<w.heap.size)\/w.heap.size+2<=x) λx p=>by
    obtain  (q|q)|q:=p.1
    .exact jc q
    .exact ja q.1
    .exact ja ae)
   have I3:=WQ.same (F3.block b ae ae)<|F3.block _ ae ae;have K3:=show Bq w w3 from⟨F3.os.trans eA.os,F3.tape.trans eA.tape,F3.output.trans eA.output,by have:=eA.size;omega,λi hi=>(F3.block i ae ae).trans<|eA.block i hi⟩
   go_wp2
   go_roundg aE
   case measure=>exact bz
   case rel=>
    refine⟨(n:Int)::done,D',I3,S3,G3,λm hm=>?_,K3⟩;obtain q|q:=List.mem_cons.1 hm
    .have:m=n:=ae;subst this;exact N3
    .exact M3 m (HD m q)
def aaz(P:Nat->Prop)x y w(e:Ending)w':=Bq w w'/\
 ((∃wb θ,e=.returned (.tuple #[Mv wb,.bool true])/\w.heap.size<=wb/\In.xL θ x y/\(∀n,Whole<|θ n)/\(∀n,(vars []<|θ n).length<=1000)/\KW w' (λi=>P i\/w.heap.size<=i) wb θ)\/(e=.returned (.tuple #[.map none,.bool false])/\∀σ,sub σ x≠sub σ y))
def aaA(hx:de w P x v)(hy:de w P y u)(hxs:size x<=48)(hys:size y<=48)(hxw:Whole x)(hyw:Whole y):Cq 344 #[v,u] w (aaz P x y w):=by
 have jB:= @run_makeMap qh;have k1:Bq w (w.alloc<|.map #[] 0):=bw _;have hVx:∀m,aA m x->m∈vars (vars [] x) y:=λm hm=>(bE y _ m).2<|jc<|(bE x [] m).2<|ja hm;have hVy:∀m,aA m y->m∈vars (vars [] x) y:=λm hm=>(bE y _ m).2<|ja hm;have hV1:∀m,m∈vars (vars [] x) y->aA m x\/aA m y:=λm hm=>by
  obtain q|q:=(bE y _ m).1 hm
  .obtain r|r:=(bE x [] m).1 q
   .simp at r
   .exact jc r
  .exact ja q
 have hVl:(vars (vars [] x) y).length<=1000:=by
  have h1:=dh (occs x) [];have h2:=dh (occs y)<|vars [] x;have h3:=di x;have h4:=di y;rw[<-cD]at h1 h2;simp at h1;omega
 have HC:=aag (P:=λi=>P i/\i<w.heap.size) (b:=w.heap.size) (V:=vars (vars [] x) y) ae _ _ (λ_=>none) Ty.var (λ_=>0) x y (br _) (br _) _ v u (fh.new w _) uk.start (λn t e=>by cases e) ⟨hVx,hxs,hxw⟩ ⟨hVy,hys,hyw⟩ (hx.low.af k1) (hy.low.af k1);obtain⟨ta,xa,rfl⟩:=hx.iface;obtain⟨tb,xb,rfl⟩:=hy.iface;have K1:=ai k1;go_enter func344,ntmps344;go_wp2_with fail;refine HC.mono ?_;rintro e w1⟨ok,rfl,F1,h1,h2⟩;have kb:Bq w w1:=by
  have k:=uh K1;exact⟨F1.os.trans k.os,F1.tape.trans k.tape,F1.output.trans k.output,ju k.size F1.size,λi hi=>(F1.block i (by have:=k.size;omega) ae).trans<|k.block i hi⟩
 cases ok with
 |false=>
  have H2:=h2 rfl;have KB:=ai kb
  go_wp2
  go_ret2;refine⟨KB,ja ⟨rfl,λσ=>?_⟩⟩;have:=H2 σ
  rwa[cO,cO]at this
 |true=>
  have⟨K',R',PY,s1,s2,s3,s4,s5⟩:=h1 rfl;have HC:=Vp (P:=λi=>P i\/w.heap.size<=i) (s1.wide λi p=>jc p.1) (ja<|br _) s2<|Kd s2 s3 hVl;have KB:=ai kb;have H3:=qr s2<|qr s3 s4;go_wp2_with fail;refine HC.mono ?_;rintro e w2⟨wb,rfl,hwb,HK,K2⟩
  go_wp2
  go_ret2;obtain⟨s2,s3,s4⟩:=H3;have kb:=uh KB;refine⟨kb.trans<|K2.mono kb.size,jc ⟨wb,R',rfl,ju kb.size hwb,⟨s4.same,λσ e n=>?_,λn h1 h2=>?_,λn m h1 h2=>?_⟩,Ds s2 s3,(Kd s2 s3 hVl).len,?_⟩⟩
  .have:=s4.least σ (by rw[cO,cO];exact e) n;simpa[sub]using this
  .cases e:K' n with
   |none=>exact s2.open_ n e|some t=>obtain q|q:=hV1 n (s3 n t e).1;exact absurd q h1;exact absurd q h2
  .exact hV1 m (aay s2 s3 n m (by obtain q|q:=h1;exact hVx n q;exact hVy n q) h2)
  .obtain⟨D,d1,d2⟩:=HK;exact⟨D,d1.wide λi p=>by obtain  (p|p)|p:=p;exact jc p;exact ja p;exact ja<|ju kb.size p,d2⟩
end
theorem KW.move(h:KW w P b κ)(hs:w.heap.size<=w'.heap.size)(hb:w'.heap[b]? =w.heap[b]?)(hp:∀x,P x->x<w.heap.size->w'.heap[x]? =w.heap[x]?)(hq:∀x,P x->x<w.heap.size->Q x):KW w' Q b κ:=by
 obtain⟨D,h1,h2⟩:=h;exact⟨D,h1.move hs hb hp hq,h2⟩
def KW.af(h:KW w P b κ)(hb:Bq w w'):KW w' P b κ:=by obtain⟨D,h1,h2⟩:=h;exact⟨D,h1.af hb,h2⟩
def KW.wide(h:KW w P b κ)(hq:∀x,P x->Q x):KW w Q b κ:=by obtain⟨D,h1,h2⟩:=h;exact⟨D,h1.wide hq,h2⟩
def KW.fr{S}(h:KW w P b κ)(hf:Fr S w w')(hb:¬S b)(hS:∀x,P x->x<w.heap.size->¬S x):KW w' P b κ:=by obtain⟨D,h1,h2⟩:=h;exact⟨D,h1.fr hf hb hS,h2⟩
def KW.lt(h:KW w P b κ):b<w.heap.size:=by obtain⟨D,h1,h2⟩:=h;exact h1.lt
def yp{D}(h:∀n,(D n=none->κ n=.var n)/\(D n≠none->D n=some (bK<|κ n)))n:D7 D n=bK (κ n):=by
 rw[D7]
 cases e:D n with
 |none=>rw[(h n).1 e,J4];rfl|some t=>grind
structure vN(κ:Nat->Ty):Prop where
 wh:∀n,Whole<|κ n
 len:∀n,(vars []<|κ n).length<=1000000
theorem vN.sz(h:vN κ)n:size (bK<|κ n)<=1000001:=by have:=fq (h.wh n) (h.len n) aH;omega
structure TW w P S x v:Prop where
 ex:∃x',de w P x' v/\dD x' x/\size x'<=S
 wh:Whole x
theorem TW.move{S}{x}{v}(h:TW w P S x v)(hs:w.heap.size<=w'.heap.size)(hb:∀b,P b->b<w.heap.size->w'.heap[b]? =w.heap[b]?)(hq:∀b,P b->b<w.heap.size->Q b):TW w' Q S x v:=by
 obtain⟨⟨x',h1,h2,h3⟩,h4⟩:=h;exact⟨⟨x',h1.move hs hb hq,h2,h3⟩,h4⟩
def TW.af(h:TW w P S x v)(hb:Bq w w'):TW w' P S x v:=h.move hb.size (λb _ hz=>hb.block b hz)<|λ_ p _=>p
def TW.wide(h:TW w P S x v)(hq:∀x,P x->Q x):TW w Q S x v:=h.move (br _) (λ_ _ _=>rfl)<|λb p _=>hq b p
def TW.fr{F}(h:TW w P S x v)(hf:Fr F w w')(hS:∀b,P b->b<w.heap.size->¬F b):TW w' P S x v:=h.move hf.size (λb p z=>hf.block b z<|hS b p z)<|λ_ p _=>p
def TW.iface{S}{x}{v}(h:TW w P S x v):∃a y,v=.iface a y:=by obtain⟨⟨x',h1,_⟩,_⟩:=h;exact h1.iface
def TW.le{S'}(h:TW w P S x v)(hs:S<=S'):TW w P S' x v:=by obtain⟨⟨x',h1,h2,h3⟩,h4⟩:=h;exact⟨⟨x',h1,h2,ju h3 hs⟩,h4⟩
def TW.of(h:de w P x v)(hw:Whole x)(hs:size x<=S):TW w P S x v:=⟨⟨x,h,dD.refl x,hs⟩,hw⟩
def uo(h:KW w P b κ)(hb:P b)(hf:vN κ)(hS:S<=900000)(hx:TW w Q S x v):Cq 314 #[Mv b,v] w (QY (bK<|sub κ x) P w):=by
 obtain⟨D,h1,h2⟩:=h;obtain⟨⟨x',t1,t2,t3⟩,t4⟩:=hx;have e:bK (sub (D7 D) x')=bK (sub κ x):=by
  refine qn (t2.sub λn _=>?_)<|cr x t4 λn _=>hf.wh n;rw[yp h2 n];exact qm _<|hf.wh n
 rw[<-e];refine Ih h1 hb t1 ae ?_;have q:=iI (D7 D) 1000001 x' (λn _=>by rw[yp h2 n];exact hf.sz n) aH;have:1000001*size x'<=1000001*900000:=jv _ ae;omega
def TW.Xl(hx:TW w P S x v)(hf:vN κ)(hS:S<=900000):size (bK<|sub κ x)<=1000000000000:=by
 obtain⟨⟨x',t1,t2,t3⟩,t4⟩:=hx;have hw:=cr x t4 λn _=>hf.wh n;have e:=qn (t2.sub λn _=>qm _<|hf.wh n) hw;have q:=iI (λn=>bK<|κ n) 1000001 x' (λn _=>hf.sz n) aH;have q2:1000001*size x'<=1000001*900000:=jv _ ae;have hl:(vars []<|sub κ x).length<=1000001*900000:=by
  have h1:=gX<|sub κ x;rw[<-e,gX]at h1;rw[<-h1,cD];have h2:=dh (occs<|sub (λn=>bK<|κ n) x') [];have h3:=di<|sub (λn=>bK<|κ n) x';simp only[uq]at h2;omega
 have:=fq hw hl aH;omega
abbrev guW(f:Fl)(vl vr:Value):Value:=.iface 454<|.agg #[Nv f.kind,Nv f.ak,Nv f.to,vl,vr]
structure sf w P(x:In.Ft)(vl vr:Value):Prop where
 pN:x.f.kind=7->vl=.nilIface/\vr=.nilIface
 apart:x.f.kind=6->dW w P x.l vl/\dW w P x.r vr
 k:x.f.kind=6\/x.f.kind=7
def adT(P:Nat->Prop)κ u x y f t w(e:Ending)w':=Bq w w'/\∃o,In.sv x y f t ⟨κ,u⟩ o/\match o with
 |.ok (_,s)=>∃b,e=.returned (Mv b)/\w.heap.size<=b/\KW w' (λi=>P i\/w.heap.size<=i) b s.k/\∀n,Whole (s.k n)|.error z=>∃vl vr,e=.panicked [{v:=guW z.f vl vr,recovered:=false}]/\sf w' (λi=>P i\/w.heap.size<=i) z vl vr
def mX f t:Cq 316 #[.agg #[Iv f,Iv t]] w λe w'=>e=.returned (.agg #[Iv 7,Iv f,Iv t,.nilIface,.nilIface])/\Bq w w':=by
 go_enter func316,ntmps316
 go_wp2
 exact bodyPost_ret (v:=Av #[Iv 7,Iv f,Iv t,Zv,Zv]) (by simp[results,Tryz.results316,go_sem]) rfl ⟨rfl,(bw _).alloc ag _⟩
def FT f t ta tb xa xb:Cq 345 #[.agg #[Iv f,Iv t],.iface ta xa,.iface tb xb] w λe w'=>e=.returned (.agg #[Iv 6,Iv f,Iv t,.iface ta xa,.iface tb xb])/\Bq w w':=by
 go_enter func345,ntmps345
 go_wp2
 exact bodyPost_ret (v:=Av #[Iv 6,Iv f,Iv t,Fv ta xa,Fv tb xb]) (by simp[results,Tryz.results345,go_sem]) rfl ⟨rfl,(bw _).alloc ag _⟩
def Ed t(hw:Whole t):(48<sz (bK t)↔48<size t)/\(size t<=48->bK t=t):=by
 refine⟨(qm t hw).aeZ hw,λh=>yM h hw⟩
def H9(h:KW w P b κ)(hb:P b)(hf:vN κ)(hS:S<=900000)(hx:TW w P S x v)(hy:TW w P S y u)f t us:
 Cq 324 #[Mv b,v,u,.agg #[Nv f,Nv t]] w (adT P κ us x y f t w):=by
 have⟨k0,B0⟩:=sd w #[Nv f,Nv t] 131;have hxw:=cr x hx.wh λn _=>hf.wh n;have hyw:=cr y hy.wh λn _=>hf.wh n;have H1:=uo (h.af k0) hb hf hS<|hx.af k0;have HH:=ai h;have K0:=ai k0;obtain⟨ta,xa,rfl⟩:=hx.iface;obtain⟨tb,xb,rfl⟩:=hy.iface;clear h k0;go_enter func324,ntmps324;go_wp2_with fail;refine H1.mono ?_;rintro e w1⟨u1,rfl,wI,k1⟩;have KK1:=K0.trans<|k1.mono K0.size;have H2:=uo (HH.af KK1) hb hf hS<|hy.af KK1;have U1:=wI.wide (Q:=λi=>P i\/w.heap.size<=i) λi p=>by obtain p|p:=p;exact Or.inl p;exact Or.inr<|Nat.le_trans K0.size p
 have B1:=B0.below k1;obtain⟨yI,yJ,rfl⟩:=wI.iface;clear wI k1 H1 B0;go_wp2_with fail;refine H2.mono ?_;rintro e w2⟨u2,rfl,wJ,k2⟩;have XE:=KK1.trans<|k2.mono KK1.size;have U1':=U1.af k2;have U2':=wJ.wide (Q:=λi=>P i\/w.heap.size<=i) λi p=>by obtain p|p:=p;exact jc p;exact ja<|ju KK1.size p
 have B2:=B1.below k2;obtain⟨tb1,xb1,rfl⟩:=wJ.iface;have S1:=pV _ w2 _ _ U1'<|hx.Xl hf hS;have S2:=λ(W:World)(hk:Bq w2 W)=>pV _ W _ _ (U2'.af hk)<|hy.Xl hf hS;obtain⟨n1,N1⟩:∃n,n=sz (bK<|sub κ x):=⟨_,rfl⟩;obtain⟨n2,N2⟩:∃n,n=sz (bK<|sub κ y):=⟨_,rfl⟩;rw[<-N1]at S1;rw[<-N2]at S2;clear wJ k2 H2 B1 U1 KK1;go_wp2_with fail;refine S1.mono ?_;rintro e w3⟨rfl,K3⟩;have S2:=S2 w3 K3;have B3:=B2.below K3;clear S1 B2;go_wp2_with fail;refine S2.mono ?_;rintro e w4⟨rfl,k4⟩;have B4:=ai<|B3.below k4;have k34:=K3.trans<|k4.mono K3.size;have KK4:=XE.trans<|k34.mono XE.size;have U3:=U1'.af k34;have U4:=U2'.af k34;clear k4 S2 B3 k34 K3 U1' U2' XE;have⟨c4,f4,z4⟩:=uh B4;have e1:=Ed (sub κ x) hxw;have e2:=Ed (sub κ y) hyw;rw[<-N1]at e1;rw[<-N2]at e2;have E1:=ai e1;have E2:=ai e2;clear e1 e2;have KX:=hf.wh;by_cases bz:n1<n2
 all_goals(
  by_cases XG:48<n1\/48<n2
  .first|(have hm:(48:Int)<(n1:Int):=by omega)|(have hm:(48:Int)<(n2:Int):=by omega)
   have HT:=mX (w:=w4) (f:Int) (t:Int);go_wp2_with fail;refine HT.mono ?_;rintro e w5⟨rfl,k5⟩;have K5:=ai k5;clear k5 HT;go_wp2_with fail;have Xm:=KK4.trans<|K5.mono KK4.size;refine⟨rfl,Xm,.error<|In.pN f t,jc ⟨?_,rfl⟩,Zv,Zv,rfl,⟨λ_=>⟨rfl,rfl⟩,(λh=>Mo),ja rfl⟩⟩;obtain q|q:=XG
   .exact jc (E1.1.1 q)
   .exact ja (E2.1.1 q)
  .have hm1:¬(48:Int)<(n1:Int):=ae;have hm2:¬(48:Int)<(n2:Int):=ae;have s1:size (sub κ x)<=48:=by have:=E1.1;omega
   have s2:size (sub κ y)<=48:=by have:=E2.1;omega
   have V1:=U3;have V2:=U4;rw[(uh E1).2 s1]at V1;rw[(uh E2).2 s2]at V2;have HU:=aaA V1 V2 s1 s2 hxw hyw;go_wp2_with fail;refine HU.mono ?_;rintro e w5⟨k5,hp⟩;have B5:=ai<|B4.below k5;have⟨c5,f5,z5⟩:=uh B5;have K5:=ai k5;have KK5:=ai<|KK4.trans<|k5.mono KK4.size;have adU:=qr s1 s2;have z45:=k5.size;have z04:=KK4.size;clear c4 f4 z4 HU s1 s2 k5;obtain⟨wb,θ,rfl,hwb,hM,hWh,hLn,hKW⟩|⟨rfl,HN⟩:=hp
   .have hko:KW w5 (λi=>P i\/w.heap.size<=i) b κ:=(HH.af KK5).wide λi p=>jc p;have hkn:=hKW.wide λi p=>by
     obtain p|p:=p
     .exact p
     .exact ja ae
    obtain⟨D1,d1,d2⟩:=hko;obtain⟨D2,e1,e2⟩:=hkn;have fW:∀n t,D1 n=some t->size t<=1000000000000/\size (sub (D7 D2) t)<=1000000000000:=λn t ht=>by
     have h1:=(d2 n).2 (by rw[ht];simp);rw[ht]at h1;injection h1 with h1;subst h1;have h2:=hf.sz n;have h3:=iI (D7 D2) 1001 (bK<|κ n) (λm _=>by rw[yp e2 m];have:=fq (hWh m) (hLn m) aH;omega) aH;have h4:1001*size (bK<|κ n)<=1001*1000001:=jv _ h2;exact⟨ae,ae⟩
    have HT:=adF d1 e1 (ja ae) fW;have HD:=qr d2 e2;have HMW:=qr hM hWh;clear d1 e1 d2 e2 fW hKW hLn hM hWh;go_wp2_with fail;refine HT.mono ?_;rintro e w6⟨b3,rfl,oJ,S3,K6⟩;clear HT
    go_wp2
    go_ret;have Xm:=KK5.trans<|K6.mono KK5.size;obtain⟨d2,e2⟩:=HD;obtain⟨hM,hWh⟩:=HMW;have hwt:∀n,Whole<|sub θ<|κ n:=λn=>cr _ (KX n) λm _=>hWh m;refine⟨Xm,.ok ((),⟨λn=>sub θ<|κ n,us⟩),ja ⟨adU.1,adU.2,jc ⟨θ,hM,rfl⟩⟩,b3,rfl,ae,⟨Ai D1 D2,S3.wide λi p=>?_,λn=>⟨λq=>?_,λq=>?_⟩⟩,hwt⟩
    .obtain p|p:=p
     .exact p
     .exact ja ae
    .rw[Ai]at q
     cases hd:D1 n with
     |none=>
      rw[hd]at q;show sub θ (κ n)=_;rw[(d2 n).1 hd,sub,(e2 n).1 q]
     |some t=>rw[hd]at q;cases q
    .rw[Ai]
     cases hd:D1 n with
     |none=>
      show D2 n=some (bK<|sub θ<|κ n);rw[(d2 n).1 hd,sub];refine(e2 n).2 λr=>q ?_;rw[Ai];rw[hd];exact r
     |some t=>
      have h1:=(d2 n).2 (by rw[hd];simp);rw[hd]at h1;injection h1 with h1;subst h1;show some (bK<|sub (D7 D2)<|bK<|κ n)=some (bK<|sub θ<|κ n);congr 1;refine qn ((qm _<|KX n).sub λm _=>?_)<|hwt n;rw[yp e2 m];exact qm _<|hWh m
   .have HA:=FT (w:=w5) (f:Int) (t:Int) yI tb1 yJ xb1;go_wp2_with fail;refine HA.mono ?_;rintro e w6⟨rfl,K6⟩;clear HA;go_wp2_with fail;have k46:=K5.trans<|K6.mono K5.size;have Xm:=KK5.trans<|K6.mono KK5.size;refine⟨rfl,Xm,.error ⟨⟨6,f,t⟩,sub κ x,sub κ y⟩,ja ⟨adU.1,adU.2,ja ⟨HN,rfl⟩⟩,Fv yI yJ,Fv tb1 xb1,rfl,⟨(λh=>Mo),λ_=>⟨?_,?_⟩,jc rfl⟩⟩
    .exact(V1.af k46).v hxw
    .exact(V2.af k46).v hyw)
abbrev TeN I D A z:=∀(x:Array Value)(w:World),(qi (.iface D<|.agg x) I A true).run qh w=.ok (.tuple #[.agg z,.bool false]) w
def zK.te{A}{z}(h:zK A z){I D}(hd:D≠A):TeN I D A z:=λx w=>h I D (.agg x) w hd
def IvC nd:=∀(w:World)(Q:Nat->Prop)(v:Value),PE w Q nd v->Cq 317 #[v] w λe w'=>e=.returned (.bool<|qe nd)/\Bq w w'
def ImC x y:=∀(w:World)(Q:Nat->Prop)(vx vy:Value)(f t:Int),PE w Q x vx->PE w Q y vy->Cq 328 #[.agg #[Iv f,Iv t,vx,vy]] w λe w'=>e=.returned (.bool<|qf x&&qe y)/\Bq w w'
def ajM s n x y f t a(Hx:IvC x)(Hy:IvC y):IvC (.mk 6 s n [x,y] f t a):=by
 intro w Q v h;have ev:qe (.mk 6 s n [x,y] f t a)=(qe x&&qe y):=by simp[qe,In.Vq]
 rw[ev]
 cases h with
 |lt c s n x z f t a y vx vz hc hs hy hx hz=>omega|pr s n x y f t a vx vy hx hy=>
 obtain⟨tx,ax,rfl⟩:=hx.iface;obtain⟨ty,ay,rfl⟩:=hy.iface;have⟨K0,B0⟩:=sd w #[Nv f,Nv t,Fv tx<|Av ax,Fv ty<|Av ay] 309;have H1:=Hx _ Q _<|hx.af K0;go_enter func317,ntmps317;go_wp2_with fail;refine H1.mono ?_;rintro e w1⟨rfl,k1⟩;have KK:=K0.trans<|k1.mono K0.size;have H2:=Hy _ Q _<|hy.af KK;have⟨c1,f1,z1⟩:=B0.below k1
 cases hb:qe x with
 |true=>
  go_wp2_with fail;refine H2.mono ?_;rintro e w2⟨rfl,K2⟩
  go_wp2
  go_ret;exact⟨by rw[hb];rfl,KK.trans<|K2.mono KK.size⟩
 |false=>
  go_wp2
  go_ret;exact⟨by rw[hb];rfl,KK⟩
def Ri{p:Prop}(h:p:=by
 go_enter func317,ntmps317;go_wp2_with fail;refine H1.mono ?_;rintro e w1⟨rfl,K1⟩
 go_wp2
 go_ret
 exact⟨rfl,K0.trans<|K1.mono K0.size⟩):p:=h
def ajN s n x y f t a(Hx:IvC x):IvC (.mk 14 s n [x,y] f t a):=by
 intro w Q v h;have ev:qe (.mk 14 s n [x,y] f t a)=qe x:=by simp[qe,qg]
 rw[ev]
 cases h with
 |lt c s n x z f t a y vx vz hc hs hy hx hz=>omega|of s n x y f t a vx vy hx hy=>
 obtain⟨tx,ax,rfl⟩:=hx.iface;obtain⟨ty,ay,rfl⟩:=hy.bQ;have K0:Bq w (w.alloc<|Cv #[Nv f,Nv t,Fv tx<|Av ax,Fv ty<|Av ay] 311):=bw _;have H1:=Hx _ Q _<|hx.af K0;exact Ri
def adV s n x y f t a(Hm:ImC x y):IvC (.mk 8 s n [x,y] f t a):=by
 intro w Q v h;have ev:qe (.mk 8 s n [x,y] f t a)=(qf x&&qe y):=by simp[qe,In.isC,In.N7,qg]
 rw[ev]
 cases h with
 |lt c s n x z f t a y vx vz hc hs hy hx hz=>omega|call s n x y f t a vx vy hx hy=>
 obtain⟨tx,ax,rfl⟩:=hx.iface;obtain⟨ty,ay,rfl⟩:=hy.iface;have K0:Bq w (w.alloc<|Cv #[Nv f,Nv t,Fv tx<|Av ax,Fv ty<|Av ay] 319):=bw _;have H1:=Hm _ Q _ _ (f:Int) (t:Int) (hx.af K0)<|hy.af K0;exact Ri
def PE.kinds{x}(h:PE w Q x v):(∃ax:Array Value,v=.iface 390 (.agg ax)/\(∃(a0 a1:Int)(a2:BA),ax=#[Iv a0,Iv a1,.string a2])/\qf x=true)\/(∃(s:BA)(n:Nat)(u z:Nd)(f t a:Nat)(vu vz:Value),x=.mk 8 s n [u,z] f t a/\v=.iface 319 (.agg #[Nv f,Nv t,vu,vz])/\PE w Q u vu/\PE w Q z vz)\/(qf x=false/\∃(D:TypeId)(ax:Array Value),v=.iface D (.agg ax)/\TeN 140 D 390 #[Iv 0,Iv 0,.string ⟨#[]⟩]/\TeN 140 D 319 #[Iv 0,Iv 0,.nilIface,.nilIface]):=by
 cases h with
 |up s n f t a hs=>exact jc ⟨_,rfl,⟨_,_,_,rfl⟩,by simp[qf]⟩|call s n x y f t a vx vy hx hy=>grind|lt c s n x z f t a y vx vz hc hs hy hx hz=>exact ja (ja ⟨by obtain rfl|rfl:=hc<;>simp[qf],_,_,rfl,(YF.te aH),(Qa.te aH)⟩)
 |_=>exact ja (ja ⟨by simp[qf],_,_,rfl,(YF.te aH),(Qa.te aH)⟩)
def adW x y(Hy:IvC y)(IH:∀(s:BA)(n:Nat)(u z:Nd)(f t a:Nat),x=.mk 8 s n [u,z] f t a->ImC u z):ImC x y:=by
 intro w Q vx vy f t hx hy;have⟨K0,B0⟩:=sd w #[Iv f,Iv t,vx,vy] 319;have H1:=Hy _ Q _<|hy.af K0;have Md:=hx.kinds;obtain⟨tx,ax,rfl⟩:=hx.iface;obtain⟨ty,ay,rfl⟩:=hy.iface;obtain⟨Z,hZ⟩:∃Z,Hid<|Z=(In.isM x&&In.sw y):=⟨_,ai rfl⟩;rw[<-uh hZ];go_enter func328,ntmps328;go_wp2_with fail;refine H1.mono ?_;rintro e w1⟨rfl,k1⟩;have KK:=K0.trans<|k1.mono K0.size;have⟨c1,f1,z1⟩:=B0.below k1
 cases hb:qe y with
 |false=>
  go_wp2
  go_ret;exact⟨by rw[uh hZ,hb,Bool.and_false];rfl,KK⟩
 |true=>
  rw[hb,Bool.and_true]at hZ;obtain⟨bx,e1,⟨a0,a1,a2,rfl⟩,e2⟩|⟨s,n,u,z,f',t',a,vu,vz,rfl,e1,hu,hz⟩|⟨e2,D,bx,e1,h1,h2⟩:=Md
  .injection e1 with e1 e3;injection e3 with e3;subst e1 e3;rw[e2]at hZ
   go_wp2
   go_ret;exact⟨by rw[uh hZ];rfl,KK.alloc KK.size _⟩
  .injection e1 with e1 e3;injection e3 with e3;subst e1 e3;obtain⟨tu,au,rfl⟩:=hu.iface;obtain⟨tz,az,rfl⟩:=hz.iface;have k2:Bq w1 (w1.alloc<|Cv #[Nv f',Nv t',Fv tu<|Av au,Fv tz<|Av az] 319):=bw _;have H3:=IH s n u z f' t' a rfl _ Q _ _ (f':Int) (t':Int) ((hu.af KK).af k2) ((hz.af KK).af k2);have em:qf (.mk 8 s n [u,z] f' t' a)=(qf u&&qe z):=by simp[qf,In.isC,In.N7,qg]
   rw[em]at hZ;have K2:=KK.trans<|k2.mono KK.size;go_wp2_with fail;refine H3.mono ?_;rintro e w3⟨rfl,K3⟩
   go_wp2
   go_ret;exact⟨by rw[uh hZ];rfl,K2.trans<|K3.mono K2.size⟩
  .injection e1 with e1 e3;injection e3 with e3;subst e1 e3;rw[e2]at hZ
   go_wp2
   go_ret;exact⟨by rw[uh hZ];rfl,KK⟩
def Rj{p:Prop}(h:p:=by
 go_enter func317,ntmps317
 go_wp2
 go_ret
 exact⟨by simp[qe],qp _ _⟩):p:=h
def Kf:∀(m:Nat),(∀nd:Nd,j9 nd<=m->IvC nd)/\∀x y:Nd,j9 x+j9 y<=m->ImC x y:=by
 intro m
 induction m using jy with
 |_ m ih=>
  have sp:∀nd:Nd,1<=j9 nd:=λnd=>by cases nd;simp;omega
  have IV:∀nd:Nd,j9 nd<m->IvC nd:=λnd h=>(ih (m-1) ae).1 nd ae;have IM:∀x y:Nd,j9 x+j9 y<m->ImC x y:=λx y h=>(ih (m-1) ae).2 x y ae;refine⟨λnd hm=>?_,λx y hm=>adW x y (IV y (by have:=sp x;omega)) λs n u z f t a e=>IM u z (by subst e;simp at hm;omega)⟩;intro w Q v h
  cases h with
  |pr s n x y f t a vx vy hx hy=>simp at hm;exact ajM s n x y f t a (IV x ae) (IV y ae) w Q _ (.pr s n x y f t a vx vy hx hy)|of s n x y f t a vx vy hx hy=>simp at hm;exact ajN s n x y f t a (IV x ae) w Q _ (.of s n x y f t a vx vy hx hy)|call s n x y f t a vx vy hx hy=>simp at hm;exact adV s n x y f t a (IM x y ae) w Q _ (.call s n x y f t a vx vy hx hy)|lt c s n x z f t a y vx vz hc=>
   obtain rfl|rfl:=hc;all_goals
    exact Rj
  |_=>
   exact Rj
def pT nd:IvC nd:=(Kf<|j9 nd).1 nd<|br _
def wPl_Low a0 a1 a2 N w:(method (N+1) 356 (.agg #[a0,a1,a2]) "Place").run Tryz.prog w=.ok (403,.agg #[a0,a1]) w:=qkr
def wPl_Up a0 a1 a2 N w:(method (N+1) 390 (.agg #[a0,a1,a2]) "Place").run Tryz.prog w=.ok (403,.agg #[a0,a1]) w:=qkr
def wPl_Number a0 a1 a2 N w:(method (N+1) 326 (.agg #[a0,a1,a2]) "Place").run Tryz.prog w=.ok (403,.agg #[a0,a1]) w:=qkr
def wPl_Bool a0 a1 a2 N w:(method (N+1) 321 (.agg #[a0,a1,a2]) "Place").run Tryz.prog w=.ok (403,.agg #[a0,a1]) w:=qkr
def wPl_Unit a0 a1 N w:(method (N+1) 324 (.agg #[a0,a1]) "Place").run Tryz.prog w=.ok (403,.agg #[a0,a1]) w:=qkr
def wPl_Pair a0 a1 a2 a3 N w:(method (N+1) 309 (.agg #[a0,a1,a2,a3]) "Place").run Tryz.prog w=.ok (403,.agg #[a0,a1]) w:=qkr
def wPl_Typed a0 a1 a2 a3 N w:(method (N+1) 311 (.agg #[a0,a1,a2,a3]) "Place").run Tryz.prog w=.ok (403,.agg #[a0,a1]) w:=qkr
def wPl_Fun a0 a1 a2 a3 a4 a5 N w:(method (N+1) 313 (.agg #[a0,a1,a2,a3,a4,a5]) "Place").run Tryz.prog w=.ok (403,.agg #[a0,a1]) w:=qkr
def wPl_Let a0 a1 a2 a3 a4 a5 a6 a7 N w:(method (N+1) 315 (.agg #[a0,a1,a2,a3,a4,a5,a6,a7]) "Place").run Tryz.prog w=.ok (403,.agg #[a0,a1]) w:=qkr
def wPl_If a0 a1 a2 a3 a4 N w:(method (N+1) 317 (.agg #[a0,a1,a2,a3,a4]) "Place").run Tryz.prog w=.ok (403,.agg #[a0,a1]) w:=qkr
def wPl_Match a0 a1 a2 a3 N w:(method (N+1) 201 (.agg #[a0,a1,a2,a3]) "Place").run Tryz.prog w=.ok (403,.agg #[a0,a1]) w:=qkr
def wPl_Binary a0 a1 a2 a3 a4 N w:(method (N+1) 297 (.agg #[a0,a1,a2,a3,a4]) "Place").run Tryz.prog w=.ok (403,.agg #[a0,a1]) w:=qkr
def wPl_Call a0 a1 a2 a3 N w:(method (N+1) 319 (.agg #[a0,a1,a2,a3]) "Place").run Tryz.prog w=.ok (403,.agg #[a0,a1]) w:=qkr
def wPl_Any a0 a1 N w:(method (N+1) 337 (.agg #[a0,a1]) "Place").run Tryz.prog w=.ok (403,.agg #[a0,a1]) w:=qkr
def wPl_PatternPair a0 a1 a2 a3 N w:(method (N+1) 328 (.agg #[a0,a1,a2,a3]) "Place").run Tryz.prog w=.ok (403,.agg #[a0,a1]) w:=qkr
def wPl_Made a0 a1 a2 a3 a4 a5 N w:(method (N+1) 307 (.agg #[a0,a1,a2,a3,a4,a5]) "Place").run Tryz.prog w=.ok (403,.agg #[a0,a1]) w:=qkr
abbrev PlF tx x(f t:Nat):=∀(N:Nat)(w:World),(method (N+1) tx x "Place").run Tryz.prog w=.ok (403,.agg #[.int .i64 (f:Int),.int .i64 (t:Int)]) w
def PE.place{x:Value}(h:PE w Q nd (.iface tx x)):PlF tx x (In.gW nd) (In.ue nd):=by
 intro N w'
 cases h with
 |low=>exact wPl_Low _ _ _ _ _|up=>exact wPl_Up _ _ _ _ _|num=>exact wPl_Number _ _ _ _ _|word=>exact wPl_Bool _ _ _ _ _|unit=>exact wPl_Unit _ _ _ _|pr=>exact wPl_Pair _ _ _ _ _ _|of=>exact wPl_Typed _ _ _ _ _ _|op=>exact wPl_Binary _ _ _ _ _ _ _|call=>exact wPl_Call _ _ _ _ _ _|fn=>exact wPl_Fun _ _ _ _ _ _ _ _|lt=>exact wPl_Let _ _ _ _ _ _ _ _ _ _|ite=>exact wPl_If _ _ _ _ _ _ _|mt=>exact wPl_Match _ _ _ _ _ _
def PP.place{x:Value}(h:PP w Q nd (.iface tx x)):PlF tx x (In.gW nd) (In.ue nd):=by
 intro N w'
 cases h with
 |any=>exact wPl_Any _ _ _ _|low=>exact wPl_Low _ _ _ _ _|num=>exact wPl_Number _ _ _ _ _|word=>exact wPl_Bool _ _ _ _ _|unit=>exact wPl_Unit _ _ _ _|pr=>exact wPl_PatternPair _ _ _ _ _ _|up=>exact wPl_Made _ _ _ _ _ _ _ _
def dl f t:Cq 403 #[.agg #[Iv f,Iv t]] w λe w'=>e=.returned (.agg #[Iv f,Iv t])/\Bq w w':=by
 go_enter func403,ntmps403
 go_wp2
 exact bodyPost_ret (v:=Av #[Iv f,Iv t]) (by simp[results,Tryz.results403,go_sem]) rfl ⟨rfl,(bw _).alloc ag _⟩
end
abbrev L0:Array Value:=#[Iv 0,Iv 0,Iv 0,.nilIface,.nilIface]
def Vr a b c d e w:(qi (.iface 454<|.agg #[a,b,c,d,e]) 20 454 true).run qh w=.ok (.tuple #[.agg #[a,b,c,d,e],.bool true]) w:=qkr
def Bx.Pn(h:Bx w b C)(hC:C.size=5)v0 v1 v2 v3 v4:Bx (((((w.setCell ⟨b,0,none⟩ v0).setCell ⟨b,1,none⟩ v1).setCell ⟨b,2,none⟩ v2).setCell ⟨b,3,none⟩ v3).setCell ⟨b,4,none⟩ v4) b #[v0,v1,v2,v3,v4]:=by
 obtain⟨a0,a1,a2,a3,a4,rfl⟩:∃a0 a1 a2 a3 a4,C=#[a0,a1,a2,a3,a4]:=by
  obtain⟨l⟩:=C
  match l,hC with
  |[a,b,c,d,e],_=>grind
 exact((((h.aP 0 v0 #[v0,a1,a2,a3,a4] rfl ag).aP 1 v1 #[v0,v1,a2,a3,a4] rfl ag).aP 2 v2 #[v0,v1,v2,a3,a4] rfl ag).aP 3 v3 #[v0,v1,v2,v3,a4] rfl ag).aP 4 v4 #[v0,v1,v2,v3,v4] rfl ag
def CA b(hB:Bx w b L0)(f:Fl)vl vr(hv:(vl=.nilIface/\vr=.nilIface)\/∃a b c d,vl=.iface a b/\vr=.iface c d):
 CallsD qh 312 #[Pv b] (.panicking [{v:=.iface 454<|.agg #[Nv f.kind,Nv f.ak,Nv f.to,vl,vr],recovered:=false}]) w λe u' w'=>
  e=.returned (.tuple #[])/\u'=.panicking [{v:=.iface 454<|.agg #[Nv f.kind,Nv f.ak,Nv f.to,vl,vr],recovered:=true}]/\Bx w' b #[Nv f.kind,Nv f.ak,Nv f.to,vl,vr]/\Fr (λi=>i=b) w w':=by
 obtain⟨G,hG⟩:∃G:Value,G=.iface 454 (.agg #[Nv f.kind,Nv f.ak,Nv f.to,vl,vr]):=⟨_,rfl⟩;rw[<-hG];have hta:=Vr;have B0:=ai hB;obtain⟨c,ff,z⟩:=hB;refine callsD_of_wpS Tryz.func312 rfl λeY cs hu=>?_;apply wpS_seq;apply wpS_region;simp[wpOpsS,go_sem,recoverD,hu,Tryz.ntmps312,Exit.thenS];rw[show(#[Pv b]++((j5 16 undef).setIfInBounds 3 G).setIfInBounds 0 G)=#[Pv b,G,undef,undef,G,undef,undef,undef,undef,undef,undef,undef,undef,undef,undef,undef,undef]from rfl];obtain⟨CS,Hu⟩:∃CS:List Frame,CS=({fn:=eY.fn,tmps:=eY.tmps,todo:=eY.todo,defers:=eY.defers,mode:=FrameMode.panicking [{v:=G,recovered:=true}],kind:=eY.kind,roundOf:=eY.roundOf}::cs):=⟨_,rfl⟩;rw[<-Hu];refine wpS_of_wp ?_;subst hG;obtain⟨rfl,rfl⟩|⟨ta,xa,tb,xb,rfl,rfl⟩:=hv
 all_goals(
 go_wp2_with fail;refine⟨rfl,_,Hu,.tuple #[],by simp[results,Tryz.results312,go_sem],rfl,rfl,?_,?_⟩
 .exact((B0.Pn rfl _ _ _ _ _).alloc _)
 .exact(((((Fr.refl (λi=>i=b) w).set (b:=b) (jc rfl) 0 _).set (jc rfl) 1 _).set (jc rfl) 2 _).set (jc rfl) 3 _).set (jc rfl) 4 _|>.trans (Fr.of<|bw _))
def acU b:
 CallsD qh 312 #[Pv b] .returning w λe u' w'=>
  e=.returned (.tuple #[])/\u'=.returning/\w'=w:=by
 refine callsD_of_wpS Tryz.func312 rfl λeY cs hu=>?_;apply wpS_seq;apply wpS_region;simp[wpOpsS,go_sem,recoverD,hu,Tryz.ntmps312,Exit.thenS];rw[show(#[Pv b]++((j5 16 undef).setIfInBounds 3 Zv).setIfInBounds 0 Zv)=#[Pv b,Zv,undef,undef,Zv,undef,undef,undef,undef,undef,undef,undef,undef,undef,undef,undef,undef]from rfl];have Hu:eY::cs={eY with mode:=.returning}::cs:=(by cases eY;simp at hu;subst hu;rfl);refine wpS_of_wp ?_
 go_wp2
 exact⟨rfl,_,Hu,.tuple #[],by simp[results,Tryz.results312,go_sem],rfl,rfl,rfl⟩
def Vs a b c d e w:(qi (.iface 516<|.agg #[a,b,c,d,e]) 20 516 true).run qh w=.ok (.tuple #[.agg #[a,b,c,d,e],.bool true]) w:=qkr
def Dt b(hB:Bx w b L0)(f:Fl)vl vr(hv:(vl=.nilIface/\vr=.nilIface)\/∃a b c d,vl=.iface a b/\vr=.iface c d):
 CallsD qh 376 #[Pv b] (.panicking [{v:=.iface 516<|.agg #[Nv f.kind,Nv f.ak,Nv f.to,vl,vr],recovered:=false}]) w λe u' w'=>
  e=.returned (.tuple #[])/\u'=.panicking [{v:=.iface 516<|.agg #[Nv f.kind,Nv f.ak,Nv f.to,vl,vr],recovered:=true}]/\Bx w' b #[Nv f.kind,Nv f.ak,Nv f.to,vl,vr]/\Fr (λi=>i=b) w w':=by
 obtain⟨G,hG⟩:∃G:Value,G=.iface 516 (.agg #[Nv f.kind,Nv f.ak,Nv f.to,vl,vr]):=⟨_,rfl⟩;rw[<-hG];have hta:=Vs;have B0:=ai hB;obtain⟨c,ff,z⟩:=hB;refine callsD_of_wpS Tryz.func376 rfl λeY cs hu=>?_;apply wpS_seq;apply wpS_region;simp[wpOpsS,go_sem,recoverD,hu,Tryz.ntmps376,Exit.thenS];rw[show(#[Pv b]++((j5 16 undef).setIfInBounds 3 G).setIfInBounds 0 G)=#[Pv b,G,undef,undef,G,undef,undef,undef,undef,undef,undef,undef,undef,undef,undef,undef,undef]from rfl];obtain⟨CS,Hu⟩:∃CS:List Frame,CS=({fn:=eY.fn,tmps:=eY.tmps,todo:=eY.todo,defers:=eY.defers,mode:=FrameMode.panicking [{v:=G,recovered:=true}],kind:=eY.kind,roundOf:=eY.roundOf}::cs):=⟨_,rfl⟩;rw[<-Hu];refine wpS_of_wp ?_;subst hG;obtain⟨rfl,rfl⟩|⟨ta,xa,tb,xb,rfl,rfl⟩:=hv
 all_goals(
 go_wp2_with fail;refine⟨rfl,_,Hu,.tuple #[],by simp[results,Tryz.results376,go_sem],rfl,rfl,?_,?_⟩
 .exact((B0.Pn rfl _ _ _ _ _).alloc _)
 .exact(((((Fr.refl (λi=>i=b) w).set (b:=b) (jc rfl) 0 _).set (jc rfl) 1 _).set (jc rfl) 2 _).set (jc rfl) 3 _).set (jc rfl) 4 _|>.trans (Fr.of<|bw _))
def adX b:
 CallsD qh 376 #[Pv b] .returning w λe u' w'=>
  e=.returned (.tuple #[])/\u'=.returning/\w'=w:=by
 refine callsD_of_wpS Tryz.func376 rfl λeY cs hu=>?_;apply wpS_seq;apply wpS_region;simp[wpOpsS,go_sem,recoverD,hu,Tryz.ntmps376,Exit.thenS];rw[show(#[Pv b]++((j5 16 undef).setIfInBounds 3 Zv).setIfInBounds 0 Zv)=#[Pv b,Zv,undef,undef,Zv,undef,undef,undef,undef,undef,undef,undef,undef,undef,undef,undef,undef]from rfl];have Hu:eY::cs={eY with mode:=.returning}::cs:=(by cases eY;simp at hu;subst hu;rfl);refine wpS_of_wp ?_
 go_wp2
 exact⟨rfl,_,Hu,.tuple #[],by simp[results,Tryz.results376,go_sem],rfl,rfl,rfl⟩
section
open Un
def sX(HB:Am nd):WV nd:=by
 intro w B pb bv l last mv Q v k h hp hq hk hl hB;have⟨tv,xv,hv⟩:=hp.bQ;have hzp:=h.lt;have n1:w.heap.size≠pb:=ae;have n2:w.heap.size+1≠pb:=ae;obtain⟨R,hR⟩:∃R,R=uW B pb mv (l++(sep last++wT nd k)) w:=⟨_,rfl⟩;obtain⟨r,hr⟩:∃r,r=rk nd:=⟨_,rfl⟩;have cz:Bq w ((w.alloc<|Cv #[Pv pb] 102).alloc<|Cv #[v] 92):=(bw _).alloc ag _;have X1:=((Bx.new w #[Pv pb] 102).alloc<|Cv #[v] 92);have X2:Bx ((w.alloc<|Cv #[Pv pb] 102).alloc<|Cv #[v] 92) (w.heap.size+1) #[v]:=by have:=Bx.new (w.alloc<|Cv #[Pv pb] 102) #[v] 92;simpa using this
 have HN:=h.af cz;have HP:=hp.af cz;have F0:=FN.of (B:=B) (pb:=pb) cz;have HQ:=hq.fn F0;subst hv;rw[<-hR];clear h hp hq cz;go_enter func51,ntmps51;go_wp2_with fail;generalize((w.alloc<|Cv #[Pv pb] 102).alloc<|Cv #[Fv tv<|Av xv] 92)=W0 at X1 X2 HN HP F0 HQ⊢;generalize w.heap.size=b1 at n1 n2 X1 X2⊢;have c1:=X1.c;have f1:=X1.f;have z1:=X1.z;have c2:=X2.c;have f2:=X2.f;have z2:=X2.z;have HRK:Hid (∀W,Bq W0 W->Cq 76 #[Fv tv<|Av xv] W λe w'=>e=Rv (Nv r)/\Bq W w'):=ai (λW hW=>by rw[hr];exact aao<|HP.af hW)
 have HG:Hid (∀W,Bq W0 W->Cq 75 #[Pv pb,.bool<|decide (r<k),.func (.func 77) #[] #[Pv b1,Pv<|b1+1]] W λe w'=>e=Rv (.tuple #[])/\R e w'/\w'.cell? ⟨b1,0,none⟩=some (Pv pb)/\w'.cell? ⟨b1+1,0,none⟩=some (Fv tv<|Av xv)):=ai (λW hW=>by
  have FW:=FN.of (B:=B) (pb:=pb) hW;rw[hr];refine(adJ HB k hk (HN.af hW) (HP.af hW) (HQ.fn FW) hl hB b1 (b1+1) (X1.below hW) (X2.below hW) n1 n2).mono ?_;rintro e w2⟨rfl,W5,Dq,M6,fi2,hF2⟩;have Y1:=hF2.lD (X1.below hW) n1 qAi;have Y2:=hF2.lD (X2.below hW) n2 qAi;refine⟨rfl,?_,Y1.c 0,Y2.c 0⟩;rw[hR]
  exact⟨rfl,W5,Dq,M6,fi2,F0.trans<|FW.trans hF2⟩)
 clear HB HN HP HQ F0 hR hr hl X1 X2 n1 n2 hzp hk hB;have k1:W0.cell? ⟨b1,0,none⟩=some (Pv pb):=c1 0;have k2:W0.cell? ⟨b1+1,0,none⟩=some (Fv tv<|Av xv):=c2 0;clear c1 c2 f1 f2;go_region_held3(λw'=>w'.cell? ⟨b1,0,none⟩=some (Pv pb)/\w'.cell? ⟨b1+1,0,none⟩=some (Fv tv<|Av xv)) (first|go_keep|(simp[*])) (first|(go_at_call 76;refine(uh HRK _ (qp _ _).drew).mono ?_;rintro e w1⟨rfl,dA⟩;have eN:=ai<|aaq dA;have k3:w1.cell? ⟨b1,0,none⟩=some (Pv pb):=(j7 (a:=⟨b1,0,none⟩)<|(uh eN).block b1 z1).trans k1;have k4:w1.cell? ⟨b1+1,0,none⟩=some (Fv tv<|Av xv):=(j7 (a:=⟨b1+1,0,none⟩)<|(uh eN).block (b1+1) z2).trans k2;clear dA)|(go_at_call 75;with_reducible refine(uh HG _<|uh eN).mono ?_;rintro e w2⟨rfl,hR2,k5,k6⟩;have HR2:=ai hR2;clear hR2))
 all_goals(
  go_wp2
  go_end0
  exact uh HR2)
end
end Go.Proofs.YtfnkchdeheeiiaaGreatDoor

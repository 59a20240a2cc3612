import Derived.Test.YtfnkchdeheeiiaaGreatDoorCQa
import Derived.Test.YtfnkchdeheeiiaaGreatDoorCTm
import Derived.Test.YtfnkchdeheeiiaaGreatDoorCPl
set_option linter.all false
set_option maxRecDepth 100000
set_option maxHeartbeats 10000000
namespace Go.Proofs.YtfnkchdeheeiiaaGreatDoor
open Or renaming inr->ja,inl->jc
open _root_.List renaming getElem?_eq_getElem->jd,take_append_drop->jf,getElem?_append_right->jh,getElem?_append_left->ji,getElem_mem->jj,append_assoc->jk,take_length->jl,cons_append->jm,nil_append->jo,map_append->jp
open _root_.Nat renaming le_trans->jq,mul_le_mul_left->jt,lt_of_lt_of_le->ju,strongRecOn->jv,zero_le->jx
open _root_.Array renaming replicate->jy,getD_eq_getD_getElem?->jz
open Go.World renaming cell?_of_block->j3
open Go.ByteArray renaming toList_eq->j5
open SizeOf renaming sizeOf->j6
open In renaming Jw->j7,isM->j8,aeE->j9
open Go.Proofs.Tryz renaming prog->qc
open Un renaming seen->qd,par->qe
open Go.Instr renaming typeAssert->qf
open Un.dF renaming acC->qg,Oe->qh
open Go.RowKit.Below renaming refl->qi
open And renaming intro->qk
open Go Go.RowKit Go.ChangeMaps Proofs.Tryz
variable {C:Array Value} {last s t:BA} {V:List Nat} {l:List UInt8} {B S b mb nb pb:Nat} {K:Nat->Option Un.Ty} {P Q:Nat->Prop} {R κ:Nat->Un.Ty} {a nd:Nd} {tx:TypeId} {T x y:Un.Ty} {bv mv u v:Value} {w w':World}
section
open Un
mutual
def wT:Nd->Nat->List UInt8
 |.mk k s _ L _ _ _=>if k=16 then λ_=>s.toList else bz (eX k s) (Zt L)
def Zt:List Nd->List (Nat->List UInt8)
 |[]=>[]|x::l=>wT x::Zt l
end
def sep(last:BA):List UInt8:=if last.toList=[]\/last.toList=[40]then[]else[32]
def Ic(t:BA):Prop:=t.toList≠[]/\t.toList≠[40]
def jO(h:Ic t):sep t=[32]:=by rw[sep];rw[if_neg (by intro q;exact q.elim h.1 h.2)]
def nY(h1:t.toList≠[41])(h2:t.toList≠[44])(h3:t.toList≠[59]):rR l last t=l++(sep last++t.toList):=by
 rw[rR,spB,sep];rw[show t.data.toList=t.toList from(j5 t).symm];by_cases q1:last.toList=[]
 .simp[q1,h1,h2,h3]
 .grind
def tw(h:t.toList=[41]\/t.toList=[44]):rR l last t=l++t.toList:=by
 rw[rR,spB];rw[show t.data.toList=t.toList from(j5 t).symm];obtain h|h:=h<;>simp[h]
def NQ w pb(Q:Nat->Prop):=∀b,Q b->b<w.heap.size/\b≠pb/\Oq w b
def NQ.fn{B pb}{w w'}{Q}(h:NQ w pb Q)(hf:FN B pb w w'):NQ w' pb Q:=λb q=>⟨ju (h b q).1 hf.size,(h b q).2.1,(h b q).2.2.fn (h b q).1 (h b q).2.1 hf⟩
inductive lD(w:World)(P:Nat->Prop):Nd->Value->Prop where
 |var(s:BA)(n f t a:Nat)(x y:Int)(hq:∃r,s.toList=39::r):lD w P (.mk 16 s n [] f t a) (.iface 159<|.agg #[Iv x,Iv y,.string<|s.extract 1 s.size])
 |fn(s:BA)(n:Nat)(a b:Nd)(f t at_:Nat)(x y:Int)(va vb:Value)(ha:lD w P a va)(hb:lD w P b vb):lD w P (.mk 17 s n [a,b] f t at_) (.iface 161<|.agg #[Iv x,Iv y,va,vb])
 |pr(s:BA)(n:Nat)(a b:Nd)(f t at_:Nat)(x y:Int)(va vb:Value)(ha:lD w P a va)(hb:lD w P b vb):lD w P (.mk 6 s n [a,b] f t at_) (.iface 163<|.agg #[Iv x,Iv y,va,vb])
 |up(s:BA)(n:Nat)(L:List Nd)(f t at_:Nat)(x y x' y':Int)(sa:Option Addr)(sc:Nat)(vs:Nat->Value)(hu:mN s)(aN:L=[]\/∃g,sa=some ⟨g,0,none⟩/\P g/\g<w.heap.size/\∀i,i<L.length->w.cell? ⟨g,i,none⟩=some (vs i))(hr:∀i(h:i<L.length),lD w P L[i]<|vs i):
  lD w P (.mk 2 s n L f t at_) (.iface 166<|.agg #[Iv x,Iv y,Iv x',Iv y',.string s,.slice sa L.length sc])
theorem lD.move(h:lD w P nd v)(hs:w.heap.size<=w'.heap.size)(hb:∀b,P b->b<w.heap.size->w'.heap[b]? =w.heap[b]?)(hq:∀b,P b->b<w.heap.size->Q b):lD w' Q nd v:=by
 induction h with
 |var s n f t a x y hq=>exact .var s n f t a x y hq|fn s n a b f t at_ x y va vb _ _ Kl Km=>exact .fn s n a b f t at_ x y va vb Kl Km|pr s n a b f t at_ x y va vb _ _ Kl Km=>exact .pr s n a b f t at_ x y va vb Kl Km|up s n L f t at_ x y x' y' sa sc vs hu aN hr ih=>
  refine .up s n L f t at_ x y x' y' sa sc vs hu ?_ ih;obtain h0|⟨g,h1,hP,hz,hc⟩:=aN
  .exact jc h0
  .refine ja ⟨g,h1,hq g hP hz,ju hz hs,λi hi=>?_⟩;rw[j3 (a:=⟨g,i,none⟩) (w:=w)<|hb g hP hz];exact hc i hi
def lD.af(h:lD w P nd v)(hb:Bq w w'):lD w' P nd v:=h.move hb.size (λb _ hz=>hb.block b hz)<|λ_ p _=>p
def lD.wide(h:lD w P nd v)(hq:∀b,P b->Q b):lD w Q nd v:=h.move (br _) (λ_ _ _=>rfl)<|λb p _=>hq b p
def lD.fr{S}(h:lD w P nd v)(hf:Fr S w w')(hS:∀b,P b->b<w.heap.size->¬S b):lD w' P nd v:=h.move hf.size (λb p z=>hf.block b z<|hS b p z)<|λ_ p _=>p
def lD.iface(h:lD w P a v):∃t x,v=.iface t (.agg x):=by
 cases h<;>exact⟨_,_,rfl⟩
def lD.bJ(h:lD w P a v):∃t x,v=.iface t (.agg x):=h.iface
def lD.fnQ(h:lD w Q nd v)(hq:NQ w pb Q)(hf:FN B pb w w'):lD w' Q nd v:=h.move hf.size (λb p z=>hf.block b z (hq b p).2.1<|ja (hq b p).2.2)<|λ_ p _=>p
def tA B pb mv txt w(e:Ending)w':=
 e=.returned (.tuple #[])/\∃W6 Ie,PN w' B pb W6 txt Ie mv/\Ic Ie/\FN B pb w w'
def RN nd:=∀(w:World)(B pb:Nat)(bv:Value)(l:List UInt8)(last:BA)(mv:Value)(Q:Nat->Prop)(v:Value)(k:Nat),PN w B pb bv l last mv->lD w Q nd v->NQ w pb Q->k<=2->(l++(sep last++wT nd k)).length<=800000->B<=pb->
 Cq 51 #[Pv pb,v,Nv k] w (tA B pb mv (l++(sep last++wT nd k)) w)
def yk nd:=∀(w:World)(B pb:Nat)(bv:Value)(l:List UInt8)(last:BA)(mv:Value)(Q:Nat->Prop)(v:Value),PN w B pb bv l last mv->lD w Q nd v->NQ w pb Q->(l++(sep last++wT nd 0)).length<=800000->B<=pb->
 Cq 78 #[Pv pb,v] w (tA B pb mv (l++(sep last++wT nd 0)) w)
def rk:Nd->Nat
 |.mk k _ _ L _ _ _=>if k=17 then 0 else if k=2/\L≠[]then 1 else 2
def OO{p:Prop}(h:p:=by
 go_enter func76,ntmps76
 go_wp2
 go_ret
 exact⟨by simp[rk],(qi _ _)⟩):p:=h
def Xl(h:lD w Q nd v):Cq 76 #[v] w λe w'=>e=.returned (Nv<|rk nd)/\Bq w w':=by
 cases h with
 |var s n f t a x y hq=>
  exact OO
 |fn s n a b f t at_ x y va vb ha hb=>
  obtain⟨ta,xa,rfl⟩:=ha.bJ;obtain⟨tb,xb,rfl⟩:=hb.bJ;go_enter func76,ntmps76
  go_wp2
  go_ret;exact⟨by simp[rk],bw _⟩
 |pr s n a b f t at_ x y va vb ha hb=>
  obtain⟨ta,xa,rfl⟩:=ha.bJ;obtain⟨tb,xb,rfl⟩:=hb.bJ;exact OO
 |up s n L f t at_ x y x' y' sa sc vs hu aN hr=>
  by_cases hL:L=[]
  .have h3:decide ((0:Int)<(L.length:Int))=false:=by simp[hL]
   go_enter func76,ntmps76
   go_wp2
   go_ret;exact⟨by simp[rk,hL],bw _⟩
  .have h3:(0:Int)<(L.length:Int):=by have:=List.length_pos_iff.2 hL;omega
   go_enter func76,ntmps76
   go_wp2
   go_ret;exact⟨by simp[rk,hL],bw _⟩
def aeR s n L c f t a k(hc:c=16\/c=17\/c=6\/(c=2/\mN s))(hk:k<=2):wT (.mk c s n L f t a) k=qe (decide (rk (.mk c s n L f t a)<k)) (wT (.mk c s n L f t a) 0):=by
 have hpf:∀x,qe false x=x:=λx=>rfl;have hup:mN s->s≠ot/\s≠lT:=λh=>⟨λe=>cP h 62 [] aK (by rw[e];exact toList_mk [62]),λe=>cP h 44 [] aK (by rw[e];exact toList_mk [44])⟩;obtain rfl|rfl|rfl|⟨rfl,hu⟩:=hc
 .have hr:decide (rk (.mk 16 s n L f t a)<k)=false:=by simp[rk];omega
  rw[hr,hpf];simp[wT]
 .have hr:decide (rk (.mk 17 s n L f t a)<k)=decide (0<k):=by simp[rk]
  rw[hr];simp only[wT,eX,if_true,show ¬(17=16) by decide,if_false,bz];rfl
 .have hr:decide (rk (.mk 6 s n L f t a)<k)=false:=by simp[rk];omega
  rw[hr,hpf];simp only[wT,eX,show ¬(6=16) by decide,show ¬(6=17) by decide,if_false,if_true,bz];have dw:¬lT=ot:=yV;rw[if_neg dw,if_neg dw]
 .have⟨h1,h2⟩:=hup hu;have hle:(Zt L).isEmpty=L.isEmpty:=by cases L<;>simp[Zt]
  simp only[wT,eX,show ¬(2=16) by decide,show ¬(2=17) by decide,show ¬(2=6) by decide,if_false,bz,if_neg h1,if_neg h2,hle];have hr:decide (rk (.mk 2 s n L f t a)<k)=(decide (1<k)&& !L.isEmpty):=by
   cases L with
   |nil=>simp[rk];omega|cons x l=>simp[rk]
  rw[hr];rfl
def KN':Nd->Prop
 |.mk c s _ _ _ _ _=>c=16\/c=17\/c=6\/(c=2/\mN s)
def lD.kn(h:lD w Q nd v):KN' nd:=by
 cases h with
 |var=>exact jc rfl|fn=>exact ja (jc rfl)|pr=>exact ja (ja<|jc rfl)|up=>exact ja<|ja<|ja ⟨rfl,qas⟩
def OP{p:Prop}(h:p:=by
 go_wp2_with fail;refine HC.mono ?_;intro e w1 hp1;have hp2:=hp1;obtain⟨rfl,_⟩:=hp1
 go_wp2
 go_end0
 exact hp2):p:=h
def Xm(HB:yk nd)(h:PN w B pb bv l last mv)(hp:lD w Q nd v)(hq:NQ w pb Q)(hl:(l++(sep last++wT nd 0)).length<=800000)(hB:B<=pb)b1 b2(h1:Bx w b1 #[Pv pb])(h2:Bx w b2 #[v]):
 Cq 77 #[Pv b1,Pv b2] w (tA B pb mv (l++(sep last++wT nd 0)) w):=by
 obtain⟨tv,xv,rfl⟩:=hp.bJ;obtain⟨c1,f1,z1⟩:=h1;obtain⟨c2,f2,z2⟩:=h2;have HC:=HB w B pb bv l last mv Q _ h hp hq hl hB;go_enter func77,ntmps77;exact OP
def Xn{W w1}(h:Bq W.drew w1):Bq W w1:=((qi W.heap.size W).drew).trans h
abbrev gA:BA:=⟨#[40]⟩
abbrev iu:BA:=⟨#[41]⟩
def Ig:sep gA=[]:=by rw[sep];rw[if_pos<|ja<|toList_mk [40]]
def FN.kw{w}(hf:FN B pb w w')(h:Bx w b C)(hp:b≠pb)(hx:∀x,C[0]? =some x->∀c,x≠.int .u8 c):Bx w' b C:=h.fn hp (ja<|h.nby hx) hf
def aaU(HB:yk nd)k(hk:k<=2)(h:PN w B pb bv l last mv)(hp:lD w Q nd v)(hq:NQ w pb Q)(hl:(l++(sep last++wT nd k)).length<=800000)(hB:B<=pb)b1 b2(h1:Bx w b1 #[Pv pb])(h2:Bx w b2 #[v])(n1:b1≠pb)(n2:b2≠pb):
 Cq 75 #[Pv pb,.bool<|decide (rk nd<k),.func (.func 77) #[] #[Pv b1,Pv b2]] w (tA B pb mv (l++(sep last++wT nd k)) w):=by
 have hw:wT nd k=qe (decide (rk nd<k)) (wT nd 0):=by
  obtain⟨c,s,n,L,f,t,a⟩:=nd;exact aeR s n L c f t a k hp.kn hk
 rw[hw]at hl⊢;obtain⟨tv,xv,rfl⟩:=hp.bJ
 cases hd:decide (rk nd<k)with
 |false=>
  rw[hd]at hl;have hl':=hl;have HC:=Xm HB h hp hq hl' hB b1 b2 h1 h2;go_enter func75,ntmps75;exact OP
 |true=>
  rw[hd]at hl;have aiM:qe true (wT nd 0)=40::(wT nd 0++[41]):=rfl;rw[aiM]at hl⊢;simp only[mV,vg,vf]at hl;have hzp:=h.lt;have bR:Bq w (w.alloc<|Cv #[Sv gA] 9):=bw _;have HP:=uE (h.af bR) gA aK ae w.heap.size (Bx.new w #[Sv gA] 9) ae;have hpt:rR l last gA=l++(sep last++[40]):=by
   have:=nY (l:=l) (last:=last) (t:=gA) qAm qAm qAm;rw[this,show gA.toList=[40]from toList_mk [40]]
  rw[hpt]at HP;go_enter func75,ntmps75;go_wp2_with fail;refine HP.mono ?_;rintro e w1⟨rfl,Zs,N1,F1⟩;have FA:=(FN.of (B:=B) (pb:=pb) bR).trans F1;have X1:=FA.kw h1 n1 qAi;have X2:=FA.kw h2 n2 qAi;have HC:=Xm HB N1 (hp.fnQ hq FA) (hq.fn FA) (by simp only[vg,mV,vf,Ig];omega) hB b1 b2 X1 X2;have hs1:sep gA=[]:=by rw[sep];rw[if_pos<|Or.inr<|toList_mk [40]]
  rw[hs1]at HC;go_wp2_with fail;refine HC.mono ?_;rintro e w2⟨rfl,Tl,Bd,N2,fi2,F2⟩;have aiN:=N2.lt;have jT:Bq w2 (w2.alloc<|Cv #[Sv iu] 9):=bw _;have HP2:=uE (N2.af jT) iu aK (by simp only[vg,mV,vf,Ig];omega) w2.heap.size (Bx.new w2 #[Sv iu] 9) ae;rw[tw<|jc<|toList_mk [41],show iu.toList=[41]from toList_mk [41]]at HP2;go_wp2_with fail;refine HP2.mono ?_;rintro e w3⟨rfl,bv3,N3,F3⟩
  go_wp2
  go_end0;refine⟨rfl,bv3,iu,?_,⟨by rw[show iu.toList=[41]from toList_mk [41]];decide,by rw[show iu.toList=[41]from toList_mk [41]];decide⟩,(FA.trans F2).trans<|(FN.of jT).trans F3⟩;have e9:l++(sep last++[40])++([]++wT nd 0)++[41]=l++(sep last++40::(wT nd 0++[41])):=ag;rw[<-e9];exact N3
def rU(HB:yk nd):RN nd:=by
 intro w B pb bv l last mv Q v k h hp hq hk hl hB;have⟨tv,xv,hv⟩:=hp.bJ;have hzp:=h.lt;have n1:w.heap.size≠pb:=ae;have n2:w.heap.size+1≠pb:=ae;obtain⟨R,hR⟩:∃R,R=tA B pb mv (l++(sep last++wT nd k)) w:=⟨_,rfl⟩;obtain⟨r,hr⟩:∃r,r=rk nd:=⟨_,rfl⟩;have bR:Bq w ((w.alloc<|Cv #[Pv pb] 102).alloc<|Cv #[v] 92):=(bw _).alloc ag _;have X1:=((Bx.new w #[Pv pb] 102).alloc<|Cv #[v] 92);have X2:Bx ((w.alloc<|Cv #[Pv pb] 102).alloc<|Cv #[v] 92) (w.heap.size+1) #[v]:=by have:=Bx.new (w.alloc<|Cv #[Pv pb] 102) #[v] 92;simpa using this
 have HN:=h.af bR;have HP:=hp.af bR;have F0:=FN.of (B:=B) (pb:=pb) bR;have HQ:=hq.fn F0;subst hv;rw[<-hR];clear h hp hq bR;go_enter func51,ntmps51;go_wp2_with fail;generalize((w.alloc<|Cv #[Pv pb] 102).alloc<|Cv #[Fv tv<|Av xv] 92)=W0 at X1 X2 HN HP F0 HQ⊢;generalize w.heap.size=b1 at n1 n2 X1 X2⊢;have c1:=X1.c;have f1:=X1.f;have z1:=X1.z;have c2:=X2.c;have f2:=X2.f;have z2:=X2.z;have HRK:Hid (∀W,Bq W0 W->Cq 76 #[Fv tv<|Av xv] W λe w'=>e=Rv (Nv r)/\Bq W w'):=ai (λW hW=>by rw[hr];exact Xl<|HP.af hW)
 have HG:Hid (∀W,Bq W0 W->Cq 75 #[Pv pb,.bool<|decide (r<k),.func (.func 77) #[] #[Pv b1,Pv<|b1+1]] W λe w'=>e=Rv (.tuple #[])/\R e w'/\w'.cell? ⟨b1,0,none⟩=some (Pv pb)/\w'.cell? ⟨b1+1,0,none⟩=some (Fv tv<|Av xv)):=ai (λW hW=>by
  have FW:=FN.of (B:=B) (pb:=pb) hW;rw[hr];refine(aaU HB k hk (HN.af hW) (HP.af hW) (HQ.fn FW) hl hB b1 (b1+1) (X1.below hW) (X2.below hW) n1 n2).mono ?_;rintro e w2⟨rfl,Tl,Bd,Lb,fi2,W_⟩;have Y1:=W_.kw (X1.below hW) n1 qAi;have Y2:=W_.kw (X2.below hW) n2 qAi;refine⟨rfl,?_,Y1.c 0,Y2.c 0⟩;rw[hR]
  exact⟨rfl,Tl,Bd,Lb,fi2,F0.trans<|FW.trans W_⟩)
 clear HB HN HP HQ F0 hR hr hl X1 X2 n1 n2 hzp hk hB;have k1:W0.cell? ⟨b1,0,none⟩=some (Pv pb):=c1 0;have k2:W0.cell? ⟨b1+1,0,none⟩=some (Fv tv<|Av xv):=c2 0;clear c1 c2 f1 f2;go_region_held3(λw'=>w'.cell? ⟨b1,0,none⟩=some (Pv pb)/\w'.cell? ⟨b1+1,0,none⟩=some (Fv tv<|Av xv)) (first|go_keep|(simp[*])) (first|(go_at_call 76;refine(uh HRK _ (qi _ _).drew).mono ?_;rintro e w1⟨rfl,da⟩;have dC:=ai<|Xn da;have k3:w1.cell? ⟨b1,0,none⟩=some (Pv pb):=(j3 (a:=⟨b1,0,none⟩)<|(uh dC).block b1 z1).trans k1;have k4:w1.cell? ⟨b1+1,0,none⟩=some (Fv tv<|Av xv):=(j3 (a:=⟨b1+1,0,none⟩)<|(uh dC).block (b1+1) z2).trans k2;clear da)|(go_at_call 75;with_reducible refine(uh HG _<|uh dC).mono ?_;rintro e w2⟨rfl,hR2,k5,k6⟩;have HR2:=ai hR2;clear hR2))
 all_goals(
  go_wp2
  go_end0
  exact uh HR2)
def aaV{c}(h:mN c):Ic c:=⟨λe=>(by obtain⟨x,r,h1,_⟩:=h;rw[h1]at e;cases e),cP h 40 [] aK⟩
abbrev nZ:BA:=⟨#[45,62]⟩
abbrev yl:BA:=⟨#[44]⟩
def OQ:∀L:List Nd,Zt L=L.map wT
 |[]=>rfl|x::l=>by simp[Zt,OQ l]
def Dh t:(sep t).length<=1:=by rw[sep];split<;>simp
def Xo B pb mv l(L:List Nd)w gk v wr:=
 ∃(j:Nat)(W6:Value)(Ie:BA),Hid (gk=L.length-j)/\j<=L.length/\v=Nv j/\PN wr B pb W6 (l++((L.take j).map wT).flatMap λp=>32::p 2) Ie mv/\Ic Ie/\FN B pb w wr
def RP(L:List Nd)j(h:j<L.length):(((L.take<|j+1).map wT).flatMap λp=>32::p 2)=(((L.take j).map wT).flatMap λp=>32::p 2)++32::wT L[j] 2:=by
 rw[List.take_add_one,jd h];simp only[jp,List.flatMap_append,Option.toList_some,List.map_cons,List.map_nil,List.flatMap_cons,List.flatMap_nil,List.append_nil]
def aaW(L:List Nd)j:(((L.take j).map wT).flatMap λp=>32::p 2).length<=((L.map wT).flatMap λp=>32::p 2).length:=by
 have e:((L.map wT).flatMap λp=>32::p 2)=(((L.take j).map wT).flatMap λp=>32::p 2)++(((L.drop j).map wT).flatMap λp=>32::p 2):=by
  rw[<-List.flatMap_append,<-jp,jf]
 rw[e,vg];omega
def aaX s(hu:mN s)(Zq:s.size<=1000)x y L sa sc(vs:Nat->Value)(hL:L.length<=1001)(h:PN w B pb bv l last mv)(hq:NQ w pb Q)(hB:B<=pb)(aN:L=[]\/∃g,sa=some ⟨g,0,none⟩/\Q g/\g<w.heap.size/\∀i,i<L.length->w.cell? ⟨g,i,none⟩=some (vs i))(hr:∀i(h:i<L.length),lD w Q L[i]<|vs i)(IH:∀i(h:i<L.length),RN L[i])(hl:(l++(sep last++(s.toList++(L.map wT).flatMap λp=>32::p 2))).length<=800000):
 Cq 109 #[Pv pb,.agg #[Iv x,Iv y,.string s],.slice sa L.length sc] w (tA B pb mv (l++(sep last++(s.toList++(L.map wT).flatMap λp=>32::p 2))) w):=by
 have hzp:=h.lt;have hsl:=Dh last;simp only[vg]at hl;have bR:Bq w ((w.alloc<|Cv #[Iv x,Iv y,Sv s] 133).alloc<|Cv #[Sv s] 9):=(bw _).alloc ag _;have BX:Bx ((w.alloc<|Cv #[Iv x,Iv y,Sv s] 133).alloc<|Cv #[Sv s] 9) (w.heap.size+1) #[Sv s]:=by have:=Bx.new (w.alloc<|Cv #[Iv x,Iv y,Sv s] 133) #[Sv s] 9;simpa using this
 have HP:=uE (h.af bR) s ae ae (w.heap.size+1) BX ae;rw[nY (cP hu 41 [] aK) (cP hu 44 [] aK)<|cP hu 59 [] aK]at HP;have F0:=FN.of (B:=B) (pb:=pb) bR;have VK:s.toList.length=s.size:=by rw[j5];simp
 go_enter func109,ntmps109;go_wp2_with fail;refine HP.mono ?_;rintro e w1⟨rfl,Zs,N1,F1⟩;have FA:=F0.trans F1
 go_wp2
 go_loopg[15] L.length (λgk v wr=>Xo B pb mv (l++(sep last++s.toList)) L w gk v wr)
 case atStart=>exact⟨0,Zs,s,ai ag,jx _,rfl,by simpa using N1,aaV hu,FA⟩
 case round=>
  obtain⟨j,Tl,Bd,c_,hj,rfl,N2,fi2,F2⟩:=hrel;by_cases bh:j<L.length
  .have hd:(j:Int)<(L.length:Int):=ae;obtain⟨g,rfl,hg,kC,bU⟩:∃g,sa=some ⟨g,0,none⟩/\Q g/\g<w.heap.size/\∀i,i<L.length->w.cell? ⟨g,i,none⟩=some (vs i):=by
    obtain h0|h0:=aN
    .subst h0;simp at bh
    .exact h0
   have cg:=(j3 (a:=⟨g,j,none⟩)<|F2.block g kC (hq g hg).2.1<|ja (hq g hg).2.2).trans<|bU j bh;have PJ:=(hr j bh).fnQ hq F2;have⟨tv,xv,hv⟩:=PJ.bJ;have ft:=RP L j bh;have fl:=aaW L<|j+1;rw[ft]at fl;simp only[vg,mV]at fl;have HC:=IH j bh wr B pb Tl _ Bd mv Q (vs j) 2 N2 PJ (hq.fn F2) (br _) (by rw[jO fi2];simp only[vg,mV,vf];omega) hB;rw[hv]at cg HC;rw[jO fi2]at HC;go_wp2_with(go_at_call 51;refine HC.mono ?_;rintro e w3⟨rfl,bv3,OS,hN3,fi3,hF3⟩;have HN3:=ai hN3;have HF3:=ai<|F2.trans hF3;clear hN3 hF3);go_roundg(L.length-(j+1))
   case measure=>rw[uh c_];omega
   case rel=>
    refine⟨j+1,bv3,OS,ai rfl,ae,iF,?_,fi3,HF3⟩;rw[ft];have e9:l++(sep last++s.toList)++((((L.take j).map wT).flatMap λp=>32::p 2)++32::wT L[j] 2)=l++(sep last++s.toList)++(((L.take j).map wT).flatMap λp=>32::p 2)++([32]++wT L[j] 2):=ag;rw[e9];exact HN3
  .have hd:decide ((j:Int)<(L.length:Int))=false:=bQ;have ej:j=L.length:=ae;subst ej;rw[jl]at N2
   go_wp2
   go_end0;refine⟨rfl,Tl,Bd,?_,fi2,F2⟩;have e9:l++(sep last++(s.toList++(L.map wT).flatMap λp=>32::p 2))=l++(sep last++s.toList)++(L.map wT).flatMap λp=>32::p 2:=ag;rw[e9];exact N2
def aaY(h:NH s):(⟨#[39]⟩:BA)++s.extract 1 s.size=s:=by
 obtain⟨r,hr⟩:=h;apply toList_inj;rw[hr];have h2:=vI hr;rw[tl]at h2;rw[j5]at h2⊢;rw[ByteArray.data_append];simp only[Array.toList_append,h2];rfl
def Xp(h:NH s):Ic s:=by grind[NH,Ic]
def aeS s n f t a k:wT (.mk 16 s n [] f t a) k=s.toList:=by simp[wT]
def aha s n x y f t a:wT (.mk 17 s n [x,y] f t a) 0=wT x 1++([32,45,62,32]++wT y 0):=by
 simp only[wT,eX,show ¬(17=16) by decide,if_false,if_true,bz,Zt];rfl
def ahb s n x y f t a:wT (.mk 6 s n [x,y] f t a) 0=40::(wT x 0++([44,32]++(wT y 0++[41]))):=by
 have dw:¬lT=ot:=yV;simp only[wT,eX,show ¬(6=16) by decide,show ¬(6=17) by decide,if_false,if_true,bz,if_neg dw,Zt];rfl
def ahc s(hu:mN s)n L f t a:wT (.mk 2 s n L f t a) 0=s.toList++(L.map wT).flatMap λp=>32::p 2:=by
 have h1:s≠ot:=λe=>cP hu 62 [] aK (by rw[e];exact toList_mk [62]);have h2:s≠lT:=λe=>cP hu 44 [] aK (by rw[e];exact toList_mk [44]);simp only[wT,eX,show ¬(2=16) by decide,show ¬(2=17) by decide,show ¬(2=6) by decide,if_false,bz,if_neg h1,if_neg h2,OQ];rfl
def rV{r}(h:t.toList=r)(h1:r≠[])(h2:r≠[40]):Ic t:=by grind[Ic]
def Xq s n f t a(Zq:s.size<=1000):yk (.mk 16 s n [] f t a):=by
 intro w B pb bv l last mv Q v h hp hq hl hB
 cases hp with
 |var s n f t a x y hqu=>
 rw[aeS]at hl⊢;simp only[vg]at hl;have hzp:=h.lt;have VK:s.toList.length=s.size:=by rw[j5];simp
 have bR:Bq w ((w.alloc<|Cv #[Iv x,Iv y,Sv<|s.extract 1 s.size] 159).alloc<|Cv #[Sv s] 9):=(bw _).alloc ag _;have BX:Bx ((w.alloc<|Cv #[Iv x,Iv y,Sv<|s.extract 1 s.size] 159).alloc<|Cv #[Sv s] 9) (w.heap.size+1) #[Sv s]:=by have:=Bx.new (w.alloc<|Cv #[Iv x,Iv y,Sv<|s.extract 1 s.size] 159) #[Sv s] 9;simpa using this
 have HP:=uE (h.af bR) s ae ae (w.heap.size+1) BX ae;obtain⟨r,Hr⟩:=hqu;rw[nY (by rw[Hr];simp) (by rw[Hr];simp) (by rw[Hr];simp)]at HP;have F0:=FN.of (B:=B) (pb:=pb) bR;have aeI:=aaY ⟨r,Hr⟩;go_enter func78,ntmps78;go_wp2_with fail;refine HP.mono ?_;rintro e w1⟨rfl,Zs,N1,F1⟩
 go_wp2
 go_end0;exact⟨rfl,Zs,s,N1,Xp ⟨r,Hr⟩,F0.trans F1⟩
def aaZ s n L f t a(Zq:s.size<=1000)(hL:L.length<=1001)(IH:∀i(h:i<L.length),RN L[i]):yk (.mk 2 s n L f t a):=by
 intro w B pb bv l last mv Q v h hp hq hl hB
 cases hp with
 |up s n L f t at_ x y x' y' sa sc vs hu aN hr=>
 rw[ahc s hu]at hl⊢;have VK:s.toList.length=s.size:=by rw[j5];simp
 have bR:Bq w (w.alloc<|Cv #[Iv x,Iv y,Iv x',Iv y',Sv s,Lv sa L.length sc] 166):=bw _;have F0:=FN.of (B:=B) (pb:=pb) bR
 have HC:=ai (aaX (Q:=Q) s hu Zq x' y' L sa sc vs hL (h.af bR) (hq.fn F0) hB
  (aN.imp id λq=>by
   obtain⟨g,q1,q2,q3,q4⟩:=q
   exact⟨g,q1,q2,bQ,λi hi=>(j3 (a:=⟨g,i,none⟩)<|bR.block g q3).trans<|q4 i hi⟩)
  (λi hi=>(hr i hi).af bR) IH hl)
 go_enter func78,ntmps78;go_wp2_with fail;refine HC.mono ?_;rintro e w1⟨rfl,Zs,acK,N1,fi1,F1⟩
 go_wp2
 go_end0;exact⟨rfl,Zs,acK,N1,fi1,F0.trans F1⟩
def aa0 s n a b f t at_(Ha:RN a)(Hb:RN b):yk (.mk 17 s n [a,b] f t at_):=by
 intro w B pb bv l last mv Q v h hp hq hl hB
 cases hp with
 |fn s n a b f t at_ x y va vb ha hb=>
 rw[aha]at hl⊢;obtain⟨ta,xa,rfl⟩:=ha.bJ;obtain⟨tb,xb,rfl⟩:=hb.bJ;have hzp:=h.lt;have hsl:=Dh last;simp only[vg,mV,vf]at hl;have⟨bR,XB⟩:=mM w #[Iv x,Iv y,Fv ta<|Av xa,Fv tb<|Av xb] 161;have F0:=FN.of (B:=B) (pb:=pb) bR;have HC:=Ha _ B pb bv l last mv Q _ 1 (h.af bR) (ha.af bR) (hq.fn F0) ae (by simp only[vg];omega) hB;go_enter func78,ntmps78;go_wp2_with fail;refine HC.mono ?_;rintro e w1⟨rfl,Zs,acK,N1,fi1,F1⟩;have X1:=F1.kw XB ae qAi;obtain⟨c1,f1,z1⟩:=X1;have ajU:=N1.lt;have da:Bq w1 (w1.alloc<|Cv #[Sv nZ] 9):=bw _;have HP:=uE (N1.af da) nZ aK (by simp only[vg];omega) w1.heap.size (Bx.new w1 #[Sv nZ] 9) ae;rw[nY (by rw[show nZ.toList=[45,62]from toList_mk [45,62]];decide) (by rw[show nZ.toList=[45,62]from toList_mk [45,62]];decide) (by rw[show nZ.toList=[45,62]from toList_mk [45,62]];decide),show nZ.toList=[45,62]from toList_mk [45,62],jO fi1]at HP;go_wp2_with fail;refine HP.mono ?_;rintro e w2⟨rfl,Tl,N2,F2⟩;have F12:=(FN.of (B:=B) (pb:=pb) da).trans F2;have FA:=(F0.trans F1).trans F12;have X2:=(F1.trans F12).kw XB ae qAi;obtain⟨c2,f2,z2⟩:=X2;have HD:=Hb w2 B pb Tl _ nZ mv Q _ 0 N2 (hb.fnQ hq FA) (hq.fn FA) ae (by rw[jO<|rV (toList_mk [45,62]) aK aK];simp only[vg,mV,vf];omega) hB;rw[jO<|rV (toList_mk [45,62]) aK aK]at HD
 go_wp2_with fail;refine HD.mono ?_;rintro e w3⟨rfl,bv3,OS,N3,fi3,F3⟩
 go_wp2
 go_end0;refine⟨rfl,bv3,OS,?_,fi3,FA.trans F3⟩;have e9:l++(sep last++wT a 1)++([32]++[45,62])++([32]++wT b 0)=l++(sep last++(wT a 1++([32,45,62,32]++wT b 0))):=ag;rw[e9]at N3;simp only[jk,jm,jo]at N3⊢;exact N3
def aa1 s n a b f t at_(Ha:RN a)(Hb:RN b):yk (.mk 6 s n [a,b] f t at_):=by
 intro w B pb bv l last mv Q v h hp hq hl hB
 cases hp with
 |pr s n a b f t at_ x y va vb ha hb=>
 rw[ahb]at hl⊢;obtain⟨ta,xa,rfl⟩:=ha.bJ;obtain⟨tb,xb,rfl⟩:=hb.bJ;have hzp:=h.lt;have hsl:=Dh last;simp only[vg,mV,vf]at hl;have bR:Bq w ((w.alloc<|Cv #[Iv x,Iv y,Fv ta<|Av xa,Fv tb<|Av xb] 163).alloc<|Cv #[Sv gA] 9):=(bw _).alloc ag _;have F0:=FN.of (B:=B) (pb:=pb) bR;have XB:=(Bx.new w #[Iv x,Iv y,Fv ta<|Av xa,Fv tb<|Av xb] 163).alloc<|Cv #[Sv gA] 9;have BX:Bx ((w.alloc<|Cv #[Iv x,Iv y,Fv ta<|Av xa,Fv tb<|Av xb] 163).alloc<|Cv #[Sv gA] 9) (w.heap.size+1) #[Sv gA]:=by have:=Bx.new (w.alloc<|Cv #[Iv x,Iv y,Fv ta<|Av xa,Fv tb<|Av xb] 163) #[Sv gA] 9;simpa using this
 have HP:=uE (h.af bR) gA aK ae (w.heap.size+1) BX ae;rw[nY qAm qAm qAm,show gA.toList=[40]from toList_mk [40]]at HP;have nx:∀x0,(#[Iv x,Iv y,Fv ta<|Av xa,Fv tb<|Av xb])[0]? =some x0->∀c,x0≠.int .u8 c:=qAi;go_enter func78,ntmps78;go_wp2_with fail;refine HP.mono ?_;rintro e w1⟨rfl,Zs,N1,F1⟩;have G1:=F0.trans F1;have⟨c1,f1,z1⟩:=F1.kw XB ae nx;have hs1:sep gA=[]:=by rw[sep];rw[if_pos<|Or.inr<|toList_mk [40]]
 have HC:=Ha w1 B pb Zs _ gA mv Q _ 0 N1 (ha.fnQ hq G1) (hq.fn G1) ae (by rw[hs1];simp only[vg,mV,vf];omega) hB;rw[hs1]at HC;go_wp2_with fail;refine HC.mono ?_;rintro e w2⟨rfl,Tl,Bd,N2,fi2,F2⟩;have G2:=G1.trans F2;have aiN:=N2.lt;have jT:Bq w2 (w2.alloc<|Cv #[Sv yl] 9):=bw _;have HP2:=uE (N2.af jT) yl aK (by simp only[vg,mV,vf];omega) w2.heap.size (Bx.new w2 #[Sv yl] 9) ae;rw[tw<|ja<|toList_mk [44],show yl.toList=[44]from toList_mk [44]]at HP2;have⟨c2,f2,z2⟩:=(F1.trans F2).kw XB ae nx;go_wp2_with fail;refine HP2.mono ?_;rintro e w3⟨rfl,bv3,N3,F3⟩;have F23:=(FN.of (B:=B) (pb:=pb) jT).trans F3;have G3:=G2.trans F23;have⟨c3,f3,z3⟩:=((F1.trans F2).trans F23).kw XB ae nx;have HD:=Hb w3 B pb bv3 _ yl mv Q _ 0 N3 (hb.fnQ hq G3) (hq.fn G3) ae (by rw[jO<|rV (toList_mk [44]) aK aK];simp only[vg,mV,vf];omega) hB;rw[jO<|rV (toList_mk [44]) aK aK]at HD;go_wp2_with fail;refine HD.mono ?_;rintro e w4⟨rfl,bv4,ajE,N4,fi4,F4⟩;have G4:=G3.trans F4;have ajV:=N4.lt;have DN:Bq w4 (w4.alloc<|Cv #[Sv iu] 9):=bw _;have HP4:=uE (N4.af DN) iu aK (by simp only[vg,mV,vf];omega) w4.heap.size (Bx.new w4 #[Sv iu] 9) ae;rw[tw<|jc<|toList_mk [41],show iu.toList=[41]from toList_mk [41]]at HP4;go_wp2_with fail;refine HP4.mono ?_
 rintro e w5⟨rfl,bv5,N5,F5⟩
 go_wp2
 go_end0;refine⟨rfl,bv5,iu,?_,rV (toList_mk [41]) aK aK,G4.trans<|(FN.of DN).trans F5⟩;have e9:l++(sep last++[40])++([]++wT a 0)++[44]++([32]++wT b 0)++[41]=l++(sep last++40::(wT a 0++([44,32]++(wT b 0++[41])))):=ag;rw[e9]at N5;simp only[jk,jm,jo]at N5⊢;exact N5
def isF(c:BA):Bool:=c.toList==[62]
def isP(c:BA):Bool:=c.toList==[44]
def kd c:=if isF c=true then 17 else if isP c=true then 6 else 2
mutual
def sp(a:List Nat):Ty->Nd
 |.var n=>.mk 16 (bs (39::vT ((qd a n).idxOf n))) 0 [] 0 0 0|.aH c l=>.mk (kd c) c 0 (mx a l) 0 0 0
def mx(a:List Nat):List Ty->List Nd
 |[]=>[]|t::l=>sp a t::mx (vars a t) l
end
def oO c:isF c=true↔c=ot:=by
 rw[isF];rw[beq_iff_eq];exact⟨λh=>toList_inj<|h.trans (toList_mk [62]).symm,λh=>by rw[h];exact toList_mk [62]⟩
def vS c:isP c=true↔c=lT:=by
 rw[isP];rw[beq_iff_eq];exact⟨λh=>toList_inj<|h.trans (toList_mk [44]).symm,λh=>by rw[h];exact toList_mk [44]⟩
def aa2 c:eX (kd c) c=c:=by
 rw[eX,kd];by_cases h1:isF c=true
 .simp[h1];exact((oO c).1 h1).symm
 .by_cases h2:isP c=true
  .simp[h1,h2];exact((vS c).1 h2).symm
  .simp[h1,h2]
def ahd c:kd c≠16:=by rw[kd];split;decide;split<;>decide
mutual
def Xr:∀(T:Ty)(a:List Nat),wT (sp a T)=wr dec (vars a T) T
 |.var n,a=>by
  funext k;simp only[sp,wT,if_true,wr,vars];rw[show(bs (39::vT ((qd a n).idxOf n))).toList=39::vT ((qd a n).idxOf n)from toList_mk _];rfl
 |.aH c l,a=>by
  simp only[sp,wT,if_neg<|ahd c,aa2,wr,vars];rw[Xs l a]
def Xs:∀(l:List Ty)(a:List Nat),Zt (mx a l)=EU dec (bm a l) l
 |[],a=>rfl|t::l,a=>by
  simp only[mx,Zt,EU,bm];rw[Xr t a,Xs l<|vars a t,Hj<|oH l<|vars a t]
end
def eF:∀(l:List Ty)(a:List Nat),(mx a l).length=l.length
 |[],a=>rfl|t::l,a=>by simp[mx,eF l]
def rW:∀(l:List Ty)(a:List Nat)(i:Nat)(h:i<l.length),mx a (l.take<|i+1)=mx a (l.take i)++[sp (bm a<|l.take i) l[i]]/\bm a (l.take<|i+1)=vars (bm a<|l.take i) l[i]
 |[],a,i,h=>tP|t::l,a,0,h=>by simp[mx,bm]|t::l,a,i+1,h=>by
  have:=rW l (vars a t) i DQ;simp only[List.take_succ_cons,mx,bm,this,List.getElem_cons_succ];simp
def ym:∀(a b:List Ty)(x:List Nat),bm x (a++b)=bm (bm x a) b
 |[],b,x=>rfl|t::a,b,x=>by simp[bm,ym a b]
def pu l a i:(bm a<|l.take i).length<=(bm a l).length:=by
 have:bm a l=bm (bm a<|l.take i) (l.drop i):=by
  rw[<-ym,jf]
 rw[this];exact(oH _ _).length_le
def lD.by{w}{P}{nd}{v}(h:lD w P nd v):lD w (λb=>P b/\b<w.heap.size/\Oq w b) nd v:=by
 induction h with
 |var s n f t a x y hq=>exact .var s n f t a x y hq|fn s n a b f t at_ x y va vb _ _ Kl Km=>exact .fn s n a b f t at_ x y va vb Kl Km|pr s n a b f t at_ x y va vb _ _ Kl Km=>exact .pr s n a b f t at_ x y va vb Kl Km|up s n L f t at_ x y x' y' sa sc vs hu aN hr ih=>
  refine .up s n L f t at_ x y x' y' sa sc vs hu ?_ ih;obtain h0|⟨g,h1,hP,hz,hc⟩:=aN
  .exact jc h0
  .by_cases hL:L=[]
   .exact jc hL
   .have hl:=List.length_pos_iff.2 hL;refine ja ⟨g,h1,⟨hP,hz,λq hq c e=>?_⟩,hz,hc⟩;have⟨t',x'',hv⟩:=(hr 0 hl).bJ;rw[hc 0 hl,hv]at hq
    cases hq
    cases e
inductive WN:Nd->Prop where
 |var(s:BA)(n f t a:Nat)(h:s.size<=1000):WN (.mk 16 s n [] f t a)
 |fn(s:BA)(n:Nat)(x y:Nd)(f t a:Nat)(hx:WN x)(hy:WN y):WN (.mk 17 s n [x,y] f t a)
 |pr(s:BA)(n:Nat)(x y:Nd)(f t a:Nat)(hx:WN x)(hy:WN y):WN (.mk 6 s n [x,y] f t a)
 |up(s:BA)(n:Nat)(L:List Nd)(f t a:Nat)(h:s.size<=1000)(hl:L.length<=1001)(hL:∀i(h:i<L.length),WN L[i]):WN (.mk 2 s n L f t a)
def OT{p:Prop}(h:p:=by
 subst ha hb;go_enter func79,ntmps79
 go_wp2
 go_region
 all_goals(
  go_wp2
  go_ret
  exact⟨rfl,(qi _ _).drew⟩)):p:=h
def aa3 g sc va vb ta tb xa xb(ha:va=.iface ta xa)(hb:vb=.iface tb xb)(h0:w.cell? ⟨g,0,none⟩=some va)(h1:w.cell? ⟨g,1,none⟩=some vb):Cq 79 #[.string ⟨#[45,62]⟩,.slice (some ⟨g,0,none⟩) 2 sc] w λe w'=>e=.returned (.iface 161<|.agg #[Iv 0,Iv 0,va,vb])/\Bq w w':=by
 exact OT
def aa4 g sc va vb ta tb xa xb(ha:va=.iface ta xa)(hb:vb=.iface tb xb)(h0:w.cell? ⟨g,0,none⟩=some va)(h1:w.cell? ⟨g,1,none⟩=some vb):Cq 79 #[.string ⟨#[44]⟩,.slice (some ⟨g,0,none⟩) 2 sc] w λe w'=>e=.returned (.iface 163<|.agg #[Iv 0,Iv 0,va,vb])/\Bq w w':=by
 exact OT
def aa5 c(hu:mN c)sa n sc:Cq 79 #[.string c,.slice sa n sc] w λe w'=>e=.returned (.iface 166<|.agg #[Iv 0,Iv 0,Iv 0,Iv 0,.string c,.slice sa n sc])/\Bq w w':=by
 have h1:(c.toList==[45,62])=false:=by rw[<-Bool.not_eq_true,beq_iff_eq];exact cP hu 45 [62] aK
 have h2:(c.toList==[44])=false:=by rw[<-Bool.not_eq_true,beq_iff_eq];exact cP hu 44 [] aK
 go_enter func79,ntmps79
 go_wp2
 go_ret;exact⟨rfl,qi _ _⟩
def aeT nb mb nd a' w(e:Ending)w':=
 ∃u,e=.returned u/\lD w' (λb=>w.heap.size<=b) nd u/\NB w' nb mb a'/\Fr (λb=>b=mb) w w'
def SpC T:=∀(w:World)(nb mb:Nat)(a:List Nat)(P:Nat->Prop)(v:Value),dE w P T v->NB w nb mb a->(∀b,P b->b≠mb)->Wf T->(vars a T).length<=96->ah [T]<=1000->
 Cq 52 #[v,nbV nb] w (aeT nb mb (sp a T) (vars a T) w)
@[simp] theorem aiO a w:(qf (.iface 98<|Iv a) 67 98 true).run qc w=.ok (.tuple #[Iv a,.bool true]) w:=qkr
@[simp] theorem aeU a b w:(qf (.iface 169<|.agg #[a,b]) 67 98 true).run qc w=.ok (.tuple #[Iv 0,.bool false]) w:=qkr
def aeV n:SpC (.var n):=by
 intro w nb mb a P v h hN hP hW hv hs
 cases h
 simp only[vars]at hv;have HC:=RC hN n hv;go_enter func52,ntmps52;go_wp2_with fail;refine HC.mono ?_;rintro e w1⟨rfl,N1,F1⟩
 go_wp2
 go_ret;refine⟨_,rfl,?_,N1,F1⟩;have hq:NH (bs (39::vT ((qd a n).idxOf n))):=⟨_,toList_mk _⟩;have ht:bs (vT<|(qd a n).idxOf n)=(bs (39::vT ((qd a n).idxOf n))).extract 1 (bs (39::vT ((qd a n).idxOf n))).size:=by
  apply toList_inj;have:=vI (s:=bs (39::vT ((qd a n).idxOf n)))<|toList_mk _;rw[tl]at this;rw[this];exact toList_mk _
 rw[ht];exact .var _ _ _ _ _ _ _ hq
def ahe nb mb a(L:List Ty)w pb sb M gk v wr:=
 ∃(j:Nat)(C:Array Value),Hid (gk=L.length-j)/\j<=L.length/\v=Nv j/\NB wr nb mb (bm a<|L.take j)/\Fr (λb=>b=mb) w wr/\Bx wr pb C/\Bx wr sb M/\Hid (C.size=L.length)/\
  Hid (∀i(h:i<(mx a<|L.take j).length),∃u,C[i]? =some u/\lD wr (λb=>pb<b/\b<wr.heap.size) (mx a<|L.take j)[i] u)
def NB.lt{L}(h:NB w nb mb L):nb<w.heap.size/\mb<w.heap.size:=⟨h.bk.z,h.mp.lt⟩
def NB.set{L}(h:NB w nb mb L)(h1:b≠nb)(h2:b≠mb)j v:NB (w.setCell ⟨b,j,none⟩ v) nb mb L:=
 ⟨h.bk.bN h1.symm j v,h.mp.sQ h2.symm j v,h.ne⟩
def OU{p:Prop}(h:p:=by
 unfold kd
 rw[if_neg<|λq=>cP hu 62 [] aK (by rw[(oO c).1 q];exact toList_mk [62]),if_neg<|λq=>cP hu 44 [] aK (by rw[(vS c).1 q];exact toList_mk [44])]):p:=h
def OX{p:Prop}(h:p:=by
 simp only[sp,hk];congr 1;apply List.ext_getElem
 .simp;omega
 .intro i h1 h2;have:i=0\/i=1:=by simp at h2;omega
  obtain rfl|rfl:=this<;>rfl):p:=h
def aeW c L(IH:∀i(h:i<L.length),SpC L[i]):SpC (.aH c L):=by
 intro w nb mb a P v h HN hP hW hv hs
 cases h with
 |aH c L sa sc vs hc aN hr=>
 obtain⟨i0,vH,oW,lY,kE⟩:=info_parts Gq;have eG:ah L<=1000:=by simp[ah,size]at hs;omega
 have hLl:=oL L;have Ti:=iV (by_:=16) xQ vH oW rfl lY kE aK L.length ae;obtain⟨Hok,hWL⟩:=hW;rw[vO]at hWL;simp only[vars]at hv;have h1:=aeU;have h2:=aet;have bA:=HN.lt;have bR:Bq w ((w.alloc<|.cells #[.string<|pn c,.slice sa L.length sc] 169).alloc<|.cells (Array.replicate L.length .nilIface) 92):=(bw _).alloc ag _;have XM:=ai<|(Bx.new w #[.string<|pn c,.slice sa L.length sc] 169).alloc<|.cells (Array.replicate L.length .nilIface) 92;obtain⟨cm,fm,zm⟩:=uh XM;go_enter func52,ntmps52
 go_wp2
 go_loopg[29] L.length (λgk v wr=>ahe nb mb a L w (w.heap.size+1) w.heap.size #[.string<|pn c,.slice sa L.length sc] gk v wr)
 case atStart=>
  have BP:Bx ((w.alloc<|.cells #[.string<|pn c,.slice sa L.length sc] 169).alloc<|.cells (jy L.length .nilIface) 92) (w.heap.size+1) (jy L.length .nilIface):=by have:=Bx.new (w.alloc<|.cells #[.string<|pn c,.slice sa L.length sc] 169) (jy L.length .nilIface) 92;simpa using this
  refine⟨0,jy L.length .nilIface,ai ag,jx _,rfl,?_,Fr.of bR,BP,XM,ai ag,ai<|λi hi=>absurd hi<|by simp[mx]⟩;simpa[bm]using HN.af bR
 case round=>
  obtain⟨j,C,c_,hj,rfl,N1,F1,B1,BM,hC,hT⟩:=hrel;have zw:=F1.size;have n1:=N1.lt;have zpb:=B1.z;by_cases bh:j<L.length
  .have hd:(j:Int)<(L.length:Int):=ae;obtain⟨g,rfl,hg,kC,bU⟩:∃g,sa=some ⟨g,0,none⟩/\P g/\g<w.heap.size/\∀i,i<L.length->w.cell? ⟨g,i,none⟩=some (vs i):=by
    obtain h0|h0:=aN
    .subst h0;simp at bh
    .exact h0
   have cg:=(j3 (a:=⟨g,j,none⟩)<|F1.block g kC<|hP g hg).trans<|bU j bh;have TJ:=(hr j bh).fr F1<|λb p _=>hP b p;obtain⟨tv,xv,hv'⟩:=TJ.iface;obtain⟨mt1,mt2⟩:=rW L a j bh;have hnj:(vars (bm a<|L.take j) L[j]).length<=96:=by rw[<-mt2];exact jq (pu L a<|j+1) hv
   have hsj:ah [L[j]]<=1000:=by
    have e1:=ku L j bh;have e2:=eQ L<|j+1;simp[ah];omega
   have HC:=IH j bh wr nb mb _ P (vs j) TJ N1 hP (hWL _<|jj bh) hnj hsj;rw[hv']at cg HC;go_wp2_with fail;refine HC.mono ?_;rintro e w1⟨u,rfl,HU,HN2,HF⟩;obtain⟨tu,xu,rfl⟩:=HU.bJ;have Zu:w.heap.size+1≠mb:=ae;have B2:=B1.fr HF Zu;have uw:j<C.size:=qBh;have cj:=(B2.c j).trans<|Array.getElem?_eq_getElem uw;have fj:=B2.f j;have B3:=B2.aO j (.iface tu<|.agg xu) (C.setIfInBounds j<|.iface tu<|.agg xu) rfl uw;have BM2:=(BM.fr HF<|show ¬w.heap.size=mb by omega).bN (show w.heap.size≠w.heap.size+1 by omega) j (.iface tu<|.agg xu);have yN:=F1.trans HF;have z2:=HF.size
   go_wp2
   go_roundg(L.length-(j+1))
   case measure=>rw[uh c_];omega
   case rel=>
    have KS:(mx a<|L.take j).length=j:=by rw[eF];simp;omega
    refine⟨j+1,C.setIfInBounds j<|.iface tu<|.agg xu,ai rfl,ae,iF,?_,?_,B3,BM2,ai (by simp;exact hC),ai<|λi hi=>?_⟩
    .rw[mt2];exact HN2.set ae ae j _
    .exact yN.set (ja ae) j _
    .have iC:∀b,w.heap.size+1<b->b<w1.heap.size->(w1.setCell ⟨w.heap.size+1,j,none⟩<|.iface tu<|.agg xu).heap[b]? =w1.heap[b]? :=λb hb _=>Below.heap_setCell _ _ _ _ (by show b≠w.heap.size+1;omega);have Zq:(w1.setCell ⟨w.heap.size+1,j,none⟩<|.iface tu<|.agg xu).heap.size=w1.heap.size:=xH;have zP:i<j+1:=by rw[mt1]at hi;simp[KS]at hi;omega
     by_cases e:i=j
     .subst e;refine⟨.iface tu<|.agg xu,by simp[uw],?_⟩;have e1:(mx a<|L.take<|i+1)[i]'hi=sp (bm a<|L.take i) L[i]:=by
       have:(mx a<|L.take<|i+1)[i]? =some (sp (bm a<|L.take i) L[i]):=by rw[mt1,jh ae];simp[KS]
       rw[jd hi]at this;exact Option.some.inj this
      rw[e1];exact HU.by.move ae (λb p z=>iC b qAy z)<|λb p z=>⟨qAy,ae⟩
     .have pT:i<(mx a<|L.take j).length:=ae;obtain⟨u',ux,uy⟩:=uh hT i pT;have e1:(mx a<|L.take<|j+1)[i]'hi=(mx a<|L.take j)[i]'pT:=by
       have:(mx a<|L.take<|j+1)[i]? =some ((mx a<|L.take j)[i]'pT):=by rw[mt1,ji pT,jd pT]
       rw[jd hi]at this;exact Option.some.inj this
      refine⟨u',by rw[Array.getElem?_setIfInBounds_ne ae];exact ux,?_⟩;rw[e1];have h3:=uy.fr HF (λb p _ q=>by subst q;omega);exact h3.move ae (λb p z=>iC b p.1 z)<|λb p z=>⟨p.1,ae⟩
  .have hd:decide ((j:Int)<(L.length:Int))=false:=bQ;have ej:j=L.length:=ae;subst ej;rw[jl]at N1 hT;obtain⟨cw,fw,zw'⟩:=BM;have hsl:=eF L a;have hCs:C.size=L.length:=uh hC;obtain rfl|rfl|hu:=hc
   .have h2L:=Hok.2.1<|jc rfl;obtain⟨u0,hu0,hp0⟩:=uh hT 0 ae;obtain⟨u1,ux,hp1⟩:=uh hT 1 ae;obtain⟨t0,x0,rfl⟩:=hp0.bJ;obtain⟨t1,x1,rfl⟩:=hp1.bJ;have HC:=aa3 (w:=wr) (w.heap.size+1) L.length (.iface t0<|.agg x0) (.iface t1<|.agg x1) t0 t1 (.agg x0) (.agg x1) rfl rfl ((B1.c 0).trans hu0) ((B1.c 1).trans ux);rw[jM]at cw;rw[h2L]at HC;go_wp2_with fail;rw[h2L];refine HC.mono ?_;rintro e w9⟨rfl,Lh⟩
    go_wp2
    go_ret;refine⟨_,rfl,?_,N1.af Lh,F1.trans<|Fr.of Lh⟩;have esp:sp a (.aH ot L)=.mk 17 ot 0 [(mx a L)[0]' ae,(mx a L)[1]' ae] 0 0 0:=by
     have hk:kd ot=17:=by unfold kd;rw[if_pos<|(oO ot).2 rfl]
     exact OX
    rw[esp];exact .fn _ _ _ _ _ _ _ _ _ _ _ ((hp0.af Lh).wide λb p=>qAu)<|(hp1.af Lh).wide λb p=>qAu
   .have h2L:=Hok.2.1<|ja rfl;obtain⟨u0,hu0,hp0⟩:=uh hT 0 ae;obtain⟨u1,ux,hp1⟩:=uh hT 1 ae;obtain⟨t0,x0,rfl⟩:=hp0.bJ;obtain⟨t1,x1,rfl⟩:=hp1.bJ;have HC:=aa4 (w:=wr) (w.heap.size+1) L.length (.iface t0<|.agg x0) (.iface t1<|.agg x1) t0 t1 (.agg x0) (.agg x1) rfl rfl ((B1.c 0).trans hu0) ((B1.c 1).trans ux);rw[jN]at cw;rw[h2L]at HC;go_wp2_with fail;rw[h2L];refine HC.mono ?_;rintro e w9⟨rfl,Lh⟩
    go_wp2
    go_ret;refine⟨_,rfl,?_,N1.af Lh,F1.trans<|Fr.of Lh⟩;have esp:sp a (.aH lT L)=.mk 6 lT 0 [(mx a L)[0]' ae,(mx a L)[1]' ae] 0 0 0:=by
     have dw:¬lT=ot:=by intro e;have:=congrArg ByteArray.toList e;rw[show lT.toList=[44]from toList_mk [44],show ot.toList=[62]from toList_mk [62]]at this;simp at this
     have hk:kd lT=6:=by unfold kd;rw[if_neg<|λq=>dw<|(oO lT).1 q,if_pos<|(vS lT).2 rfl]
     exact OX
    rw[esp];exact .pr _ _ _ _ _ _ _ _ _ _ _ ((hp0.af Lh).wide λb p=>qAu)<|(hp1.af Lh).wide λb p=>qAu
   .have HC:=aa5 (w:=wr) c hu (some ⟨w.heap.size+1,0,none⟩) L.length L.length;rw[eJ hu]at cw;go_wp2_with fail;refine HC.mono ?_;rintro e w9⟨rfl,Lh⟩
    go_wp2
    go_ret;refine⟨_,rfl,?_,N1.af Lh,F1.trans<|Fr.of Lh⟩;have hk:kd c=2:=by
     exact OU
    simp only[sp,hk];rw[<-hsl];refine .up c 0 (mx a L) 0 0 0 0 0 0 0 _ _ (λi=>C.getD i .nilIface) hu (ja ⟨w.heap.size+1,rfl,by show w.heap.size<=w.heap.size+1;omega,ju B1.z Lh.size,λi hi=>?_⟩) (λi hi=>?_)
    .obtain⟨u,Qw,_⟩:=uh hT i hi;rw[j3 (a:=⟨w.heap.size+1,i,none⟩)<|Lh.block _ B1.z,B1.c i,Qw];simp[jz,Qw]
    .obtain⟨u,Qw,Qv⟩:=uh hT i hi;have:C.getD i .nilIface=u:=by simp[jz,Qw]
     rw[this];exact(Qv.af Lh).wide λb p=>qAu
def Be:∀(T:Ty),SpC T
 |.var n=>aeV n|.aH c L=>aeW c L λi h=>Be L[i]
termination_by T=>j6 T
decreasing_by
 have h2:=List.sizeOf_lt_of_mem<|jj h;simp;omega
def aeX i(h:i<=900):(bs (39::vT i)).size<=1000:=by
 rw[jZ];have:=vP i;simp[vT];omega
def Xt{α:Type}{l:List α}(h:l.length=2):∃x y,l=[x,y]:=by
 match l,h with
 |[x,y],_=>exact⟨x,y,rfl⟩
def OY:∀(x y:List Ty)(a:List Nat),mx a (x++y)=mx a x++mx (bm a x) y
 |[],y,a=>rfl|t::x,y,a=>by simp[mx,bm,OY x y]
def aeY l a i h:(mx a l)[i]'(by rw[eF];exact h)=sp (bm a<|l.take i) l[i]:=by
 have h1:=(rW l a i h).1;have h2:(mx a l)[i]? =(mx a<|l.take<|i+1)[i]? :=by
  have e:mx a l=mx a (l.take<|i+1)++mx (bm a<|l.take<|i+1) (l.drop<|i+1):=by
   rw[<-OY,jf]
  rw[e,ji (by rw[eF];simp;omega)]
 rw[h1,jh (by rw[eF];simp;omega),eF]at h2;rw[jd (by rw[eF];exact h)]at h2;have h3:i-(l.take i).length=0:=bQ;rw[h3]at h2;exact Option.some.inj h2
def WN.sp{w}{P}{T}{v}(h:dE w P T v):Wf T->size T<=900->∀a,(vars a T).length<=900->WN (sp a T):=by
 induction h with
 |var n=>
  intro _ _ a hv;simp only[vars]at hv;refine .var _ _ _ _ _<|aeX _ ?_;have:(qd a n).idxOf n<(qd a n).length:=List.idxOf_lt_length_iff.2 (by rw[qd];split<;>simp[*]);omega
 |aH c L sa sc vs hc aN hr ih=>
  intro hW hs a hv;obtain⟨Ih,hWL⟩:=hW;rw[vO]at hWL;simp only[size]at hs;simp only[vars]at hv;have key:∀i(h:i<L.length),WN<|(mx a L)[i]'(by rw[eF];exact h):=λi hi=>by
   rw[aeY L a i hi];have e1:=ku L i hi;have e2:=eQ L<|i+1;refine ih i hi (hWL _<|jj hi) ae _ ?_;rw[<-(rW L a i hi).2];exact jq (pu L a<|i+1) hv
  have hl:=oL L;obtain rfl|rfl|hu:=hc
  .have h2:(mx a L).length=2:=by rw[eF];exact Ih.2.1<|jc rfl
   have hL2:=Ih.2.1<|jc rfl;have⟨x,y,e⟩:=Xt h2;have hk:kd ot=17:=by rw[kd];rw[if_pos<|(oO ot).2 rfl]
   simp only[Go.Proofs.YtfnkchdeheeiiaaGreatDoor.sp,hk];have k0:=key 0 ae;have k1:=key 1 ae;simp only[e]at k0 k1⊢;exact .fn _ _ _ _ _ _ _ k0 k1
  .have h2:(mx a L).length=2:=by rw[eF];exact Ih.2.1<|ja rfl
   have hL2:=Ih.2.1<|ja rfl;have⟨x,y,e⟩:=Xt h2;have dw:¬lT=ot:=yV;have hk:kd lT=6:=by rw[kd];rw[if_neg<|λq=>dw<|(oO lT).1 q,if_pos<|(vS lT).2 rfl]
   simp only[Go.Proofs.YtfnkchdeheeiiaaGreatDoor.sp,hk];have k0:=key 0 ae;have k1:=key 1 ae;simp only[e]at k0 k1⊢;exact .pr _ _ _ _ _ _ _ k0 k1
  .have hk:kd c=2:=by
    exact OU
   simp only[Go.Proofs.YtfnkchdeheeiiaaGreatDoor.sp,hk];refine .up _ _ _ _ _ _ Ih.1 (by rw[eF];omega) (λi hi=>key i (by rw[eF]at hi;exact hi))
def dE.ahf(h:dE w P T v)L:wr dec L T 0≠[]:=by
 cases h with
 |var n=>simp[wr]|aH c l sa sc vs hc aN hr=>
  simp only[wr];rw[bz];split
  .rw[qe];simp
  .split
   .simp
   .rename_i h1 h2;obtain rfl|rfl|hu:=hc
    .exact absurd rfl h1
    .exact absurd rfl h2
    .obtain⟨x,r,e,_⟩:=hu;rw[qe];simp[e]
def aa6 p x y z:Cq 107 #[.pointer<|some p,Iv x,Iv y,Iv z] w λe w'=>(∃v,e=.returned v)/\Bq w w':=by
 go_enter func107,ntmps107
 go_wp2
 go_ret;exact⟨⟨_,rfl⟩,(((bw _).alloc ag _).alloc bQ _).alloc bQ _⟩
def Li p:Cq 74 #[.pointer<|some p] w (Q3 w):=by
 have H:=Ma.new (w:=w);have HB:=(Below.refl w.heap.size w).alloc (br _)<|.map #[] 0;have iE:= @run_makeMap Tryz.prog;go_enter func74,ntmps74;go_wp2_with(first|(refine aU _ rfl _ _ _ _ (Or.inl rfl) (KL.str Tryz.underlying9) Tryz.underlying111 _ _ rfl H _ _ rfl rfl trivial (λ_ _=>trivial) ?_;clear H;intro w' H' O';have H:=ai H';have HB:=ai<|One.below HB O' qbr;clear H' O')|(go_at_call 107;refine(aa6 _ _ _ _).mono ?_;rintro e w'⟨⟨v,rfl⟩,hb⟩;have H:=ai<|H.below hb;have HB:=ai<|HB.trans<|hb.mono HB.size;clear hb));go_ret;exact⟨_,rfl,ag,HB⟩
def Xu:Cq 50 #[] w λe w'=>e=.returned (Pv w.heap.size)/\(∃mv,PN w' w.heap.size w.heap.size (.slice none 0 0) [] ⟨#[]⟩ mv)/\Bq w w':=by
 have bR:Bq w (w.alloc<|Cv #[.pointer none,Lv none 0 0,Sv ⟨#[]⟩,.map none] 113):=bw _;have h0:(w.alloc<|Cv #[.pointer none,Lv none 0 0,Sv ⟨#[]⟩,.map none] 113).heap[w.heap.size]? =some (Cv #[.pointer none,Lv none 0 0,Sv ⟨#[]⟩,.map none] 113 (0,0)):=(MapKept.heap_alloc w _).1;have H0:=ai h0;go_enter func50,ntmps50;go_wp2_with(go_at_call 74;refine(Li _).mono ?_;rintro e w1⟨b,rfl,hle,hb⟩;have h1:w1.heap[w.heap.size]? =some (Cv #[.pointer none,Lv none 0 0,Sv ⟨#[]⟩,.map none] 113 (0,0)):=(hb.block _ ag).trans H0;have c3:w1.cell? ⟨w.heap.size,3,none⟩=some (.map none):= qBu;have f3:w1.frozen? ⟨w.heap.size,3,none⟩=false:=(by simp[World.frozen?,h1]);have H1:=ai h1;have dC:=ai<|bR.trans<|hb.mono bR.size;clear h1 hb);go_ret;have hz:=dC.size;exact⟨rfl,⟨Mv b,⟨_,(dB H1 3 _).trans ag,Or.inl rfl⟩,⟨rfl,Or.inl ⟨rfl,rfl⟩⟩,λ_=>rfl,by simp[World.setCell];exact hz⟩,dC.setCell (br _) _⟩
def Ii:Cq 48 #[] w λe w'=>e=.returned (.func (.func 72) #[] #[Pv<|w.heap.size+1])/\NB w' (w.heap.size+1) w.heap.size []/\Bq w w':=by
 have iE:= @run_makeMap Tryz.prog;go_enter func48,ntmps48
 go_wp2
 go_ret;refine⟨rfl,⟨?_,?_,ae⟩,(bw _).alloc ag _⟩
 .have:=Bx.new (w.alloc<|.map #[] 0) #[Mv w.heap.size] 171;simpa using this
 .exact(MS.new ag8 w).below (bw _)
def Di:Cq 34 #[] w λe w'=>∃cb nb mb,e=.returned (.func (.func 49) #[] #[Pv cb])/\Bx w' cb #[nbV nb]/\NB w' nb mb []/\w.heap.size<=mb/\cb≠mb/\Bq w w':=by
 go_enter func34,ntmps34;go_wp2_with(go_at_call 48;refine Ii.mono ?_;rintro e w1⟨rfl,hN,hb⟩;have HN:=ai hN;have HB:=ai hb;clear hN hb);go_ret;have hz:=HN.lt;have da:Bq w1 (w1.alloc<|Cv #[nbV<|w.heap.size+1] 100):=bw _;exact⟨w1.heap.size,w.heap.size+1,w.heap.size,rfl,Bx.new _ _ _,HN.af da,br _,ae,HB.trans<|da.mono HB.size⟩
def RQ nb mb a T w(e:Ending)w':=
 e=.returned (.string<|bs<|wr dec (vars a T) T 0)/\NB w' nb mb (vars a T)/\Fr (λb=>b=mb) w w'
def vU(Xv:∀nd,WN nd->RN nd){cb}{a}(hT:dE w P T v)(hP:∀b,P b->b≠mb)(hN:NB w nb mb a)(hC:Bx w cb #[nbV nb])(Jd:cb≠mb)(hW:Wf T)(hs:size T<=48)(hv:(vars a T).length<=96):
 Cq 49 #[v,Pv cb] w (RQ nb mb a T w):=by
 have bA:=hN.lt;have hcz:=hC.z;obtain⟨tv,xv,rfl⟩:=hT.iface;go_enter func49,ntmps49;go_wp2_with fail;refine Xu.mono ?_;rintro e w1⟨rfl,⟨mv,hPN⟩,da⟩;have C1:=hC.below da;obtain⟨c1,f1,z1⟩:=C1;have zw1:=hPN.lt;have HC:=Be T w1 nb mb a P _ (hT.af da) (hN.af da) hP hW hv (by simp[ah];omega);go_wp2_with fail;refine HC.mono ?_;rintro e w2⟨u,rfl,hU,N2,F2⟩;obtain⟨tu,xu,rfl⟩:=hU.bJ
 have P2:=hPN.same F2.size (λb hb q=>F2.block b hb (λe=>by
  obtain q|q:=q
  .omega
  .simp[Value.ownBlock]at q))
 have hwn:=WN.sp hT hW ae a ae;have hwl:=th (L:=vars a T) ae T hW 0;have hnq:NQ w2 w.heap.size (λb=>w1.heap.size<=b/\b<w2.heap.size/\Oq w2 b):=λb q=>⟨q.2.1,ae,q.2.2⟩;have hsp:sep ⟨#[]⟩=[]:=by rw[sep];rw[if_pos<|jc<|toList_mk []]
 have HA:=Xv _ hwn w2 w.heap.size w.heap.size _ [] ⟨#[]⟩ mv _ _ 0 P2 hU.by hnq ae (by rw[hsp,Xr];simp;omega)<|br _;rw[hsp,Xr]at HA;go_wp2_with fail;refine HA.mono ?_;rintro e w3⟨rfl,bv3,OS,N3,fi3,F3⟩;have dw:=hT.ahf<|vars a T;have HS:=W9 N3 (by simpa using dw);have⟨ad,VN,_⟩:=N3.bk;go_wp2_with fail;refine HS.mono ?_;rintro e w4⟨rfl,F4⟩
 go_wp2
 go_ret;have zU:∀k,k<w.heap.size->k≠mb->w4.heap[k]? =w.heap[k]? :=λk hk hm=>by
  have e1:=da.block k hk;have e2:=F2.block k ae hm;have e3:=F3.block k (by have:=F2.size;omega) ae<|jc hk
  have e4:=F4.block k (by have:=F2.size;have:=F3.size;omega) (λq=>by
   obtain q|q:=q
   .omega
   .have:=(fk N3.ow k q).1;omega)
  exact e4.trans<|e3.trans<|e2.trans e1
 have so:w4.heap[mb]? =w2.heap[mb]? :=by
  have e3:=F3.block mb (by have:=F2.size;omega) ae<|jc bA.2
  have e4:=F4.block mb (by have:=F2.size;have:=F3.size;omega) (λq=>by
   obtain q|q:=q
   .omega
   .have:=(fk N3.ow mb q).1;omega)
  exact e4.trans e3
 have hs4:=jq da.size<|jq F2.size<|jq F3.size F4.size;refine⟨ag,⟨?_,N2.mp.same so,N2.ne⟩,⟨?_,?_,?_,hs4,zU⟩⟩
 .exact N2.bk.same (jq F3.size F4.size) (by
   have e2:=F2.block nb ae N2.ne;have e1:=da.block nb bA.1
   rw[zU nb bA.1 N2.ne,<-e1,<-e2])
 .exact F4.os.trans (F3.os.trans<|F2.os.trans da.os)
 .exact F4.tape.trans (F3.tape.trans<|F2.tape.trans da.tape)
 .exact F4.output.trans (F3.output.trans<|F2.output.trans da.output)
def yn:∀(ns:List BA)(x y:List Nd),(aA ns<|x++y).1=(aA ns x).1++(aA (aA ns x).2 y).1
 |ns,[],y=>rfl|ns,t::x,y=>by simp[aA,yn (aI ns t).2 x y]
def aa7(h:qW nd):∀ns,Wf (aI ns nd).1:=by
 induction h with
 |var s n f t a=>intro ns;simp[aI,Wf]|two k s n x y f t a hk hx hy dA gi=>
  intro ns;obtain rfl|rfl:=hk
  .simp only[aI,eX,show ¬(17=16) by decide,if_false,if_true,aA,Wf];exact⟨⟨aK,λ_=>rfl,.inl rfl⟩,dA ns,gi _,trivial⟩
  .simp only[aI,eX,show ¬(6=16) by decide,show ¬(6=17) by decide,if_false,if_true,aA,Wf];exact⟨⟨aK,λ_=>rfl,.inr<|.inl rfl⟩,dA ns,gi _,trivial⟩
 |up s n L f t a hw hl hL ih=>
  intro ns;simp only[aI,eX,show ¬(2=16) by decide,show ¬(2=17) by decide,show ¬(2=6) by decide,if_false,Wf];refine⟨hw _,?_⟩;rw[vO];intro t ht;obtain⟨i,hi,rfl⟩:=List.getElem_of_mem ht;rw[gL]at hi;have⟨h1,h2⟩:=uv ns L i hi;have hlen:(aA ns<|L.take i).1.length=i:=by rw[gL];simp;omega
  have e:(aA ns L).1[i]? =some (aI (aA ns<|L.take i).2 L[i]).1:=by
   have e2:(aA ns L).1[i]? =(aA ns<|L.take<|i+1).1[i]? :=by
    have:=yn ns (L.take<|i+1)<|L.drop<|i+1;rw[jf]at this;rw[this,ji (by rw[gL];simp;omega)]
   rw[e2,h1,jh ae,hlen];simp
  rw[jd (by rw[gL];exact hi)]at e;rw[Option.some.inj e];exact ih i hi _
def Fr.sN{S}{n}{a b c}(h:Below n a b)(hn:n<=b.heap.size)(k:Fr S b c)(hS:∀x,S x->n<=x):Below n a c:=
 ⟨k.os.trans h.os,k.tape.trans h.tape,k.output.trans h.output,jq h.size k.size,λi hi=>(k.block i ae (λq=>by have:=hS i q;omega)).trans<|h.block i hi⟩
def Xw nd(h:WN nd):RN nd:=by
 induction h with
 |var s n f t a h=>exact rU (Xq s n f t a h)|fn s n x y f t a hx hy dA gi=>exact rU (aa0 s n x y f t a dA gi)|pr s n x y f t a hx hy dA gi=>exact rU (aa1 s n x y f t a dA gi)|up s n L f t a h hl hL ih=>exact rU<|aaZ s n L f t a h hl ih
end
section
open Go.MapKept Un
namespace Un
def sk.ind{K}{R}{rk}(hK:sk K R rk){J:Nat->Prop}(h0:∀n,K n=none->J n)(h1:∀n t,K n=some t->(∀m,aD m t->J m)->J n):∀(s r n:Nat),size (R n)<=s->rk n<=r->J n:=by
 intro s
 induction s using jv with
 |ind s ihs=>
  intro r
  induction r using jv with
  |ind r ihr=>
   intro n hs hr
   cases e:K n with
   |none=>exact h0 n e|some t=>
    refine h1 n t e λm hm=>?_;have q:=hK.shut n t e
    cases t with
    |var u=>
     simp only[aD]at hm;subst hm;have:=hK.U7 n u e;refine ihr (rk u) ae u ?_<|br _;rw[q]at hs;simpa[sub]using hs
    |aH c l=>
     have h3:=iS R m l (by simpa[aD]using hm);have h4:=congrArg size q;simp only[sub,size]at h4;exact ihs (size<|R m) ae (rk m) m (br _)<|br _
def sk.all{rk}(hK:sk K R rk){J:Nat->Prop}(h0:∀n,K n=none->J n)(h1:∀n t,K n=some t->(∀m,aD m t->J m)->J n)n:J n:=hK.ind h0 h1 _ _ n (br _)<|br _
end Un
section
variable {rk:Nat->Nat}
def Xx(hK:sk K R rk)(hI:zR V K)n m:n∈V->aD m (R n)->m∈V:=by
 refine hK.all (J:=λn=>n∈V->aD m (R n)->m∈V) (λn e hn ho=>?_) (λn t e ih hn ho=>?_) n
 .rw[hK.open_ n e]at ho;simp only[aD]at ho;subst ho;exact hn
 .rw[hK.shut n t e]at ho;have⟨x,h1,h2⟩:=(kX t).1 ho;exact ih x h1 ((hI n t e).2.v x h1) h2
def Bf(hK:sk K R rk)(hI:zR V K)n:Whole (R n):=by
 refine hK.all (J:=λn=>Whole<|R n) (λn e=>?_) (λn t e ih=>?_) n
 .rw[hK.open_ n e];trivial
 .rw[hK.shut n t e];exact bX t (hI n t e).2.w ih
def BH{l V:List Nat}(h:l.Nodup)(hs:∀x,x∈l->x∈V):l.length<=V.length:=by
 induction l generalizing V with
 |nil=>simp|cons a l ih=>
  have ha:=hs a ag;have hn:=List.nodup_cons.1 h;have:=ih (V:=V.erase a) hn.2 λx hx=>(List.mem_erase_of_ne<|λe=>hn.1 (by rw[<-e];exact hx)).2 (hs x<|by simp[hx]);rw[List.length_erase_of_mem ha]at this;have:0<V.length:=List.length_pos_of_mem ha;simp only[mV];omega
def Ij(hK:sk K R rk)(hI:zR V K)(hV:V.length<=1000):x_ K R where
 whole:=Bf hK hI
 small n t e:=(hI n t e).2.z
 len n:=by
  cases e:K n with
  |none=>rw[hK.open_ n e];simp[vars,qd]|some t=>
   have hn:=(hI n t e).1;exact jq (BH (dx (R n) List.nodup_nil) λx hx=>Xx hK hI n x hn<|by simpa using(bI (R n) [] x).1 hx) hV
def ClR(P:Nat->Prop)b K R L w gk wr:=
 ∃done D,IG oS wr (w.heap.size+1) b L done gk/\eU wr (λx=>(P x/\x<w.heap.size)\/w.heap.size+2<=x) w.heap.size D/\WQ K R D/\(∀n:Nat,(n:Int)∈done->D n≠none)/\Bq w wr
def KW w P b(κ:Nat->Ty):=∃D,eU w P b D/\∀n,(D n=none->κ n=.var n)/\(D n≠none->D n=some (bG<|κ n))
def Lj(P:Nat->Prop)R w(e:Ending)w':=∃wb,e=.returned (Mv wb)/\w.heap.size<=wb/\KW w' (λx=>P x\/w.heap.size<=x) wb R/\Bq w w'
def RS(h:eU w P b K)(hb:P b)(hK:sk K R rk)(hF:x_ K R):Cq 355 #[Mv b] w (Lj P R w):=by
 have HH:=ai h;have bl:=h.lt;have iE:= @run_makeMap Tryz.prog;obtain⟨L,m1,q1,q2,q3⟩:=h;have k1:Bq w (w.alloc<|.map #[] 0):=bw _;have⟨o,cnt,Y_,kT⟩:=(m1.af k1).range nW;rw[aV]at Y_ kT;have k2:Bq w ((w.alloc<|.map #[] 0).alloc o):=k1.alloc ag _;have HI:=ai kT;have K2:=ai k2;have S0:Hid (eU ((w.alloc<|.map #[] 0).alloc o) (λx=>(P x/\x<w.heap.size)\/w.heap.size+2<=x) w.heap.size<|λ_=>none):=ai<|(eU.new w _).af<|bw _;have Q:=And.intro q1<|And.intro q2 q3;go_enter func355,ntmps355
 go_wp2
 go_loopg[] cnt (λgk wr=>ClR P b K R L w gk wr)
 case atStart=>exact⟨[],λ_=>none,HI,uh S0,(λn t e=>by cases e),(λn hn=>by simp at hn),uh K2⟩
 case round=>
  obtain⟨done,D,HI,HS,HG,HD,HB⟩:=hrel;have hiz:=HI.lt;have zr:=HB.size;rcases HI.next (P:=qc) GQ with⟨ha,Bz⟩|⟨x,u,w2,aB,hxd,Mg,Bz,HI1,bA,u_,eG,hen⟩
  .go_wp2
   go_ret;refine⟨w.heap.size,rfl,br _,⟨D,HS.wide λx p=>by obtain p|p:=p;exact jc p.1;exact ja ae,λn=>⟨λe=>?_,λe=>?_⟩⟩,HB⟩
   .apply hK.open_ n
    cases hg:aY (n:Int) L with
    |none=>exact Q.1 n hg|some v=>exact absurd e<|HD n<|ha _ v hg
   .cases hd:D n with
    |none=>exact absurd hd e|some t=>rw[(HG n t hd).1]
  .obtain⟨n,rfl⟩:=Q.2.2 x u Mg;have F1:=u_;have kb:∀i,i<w.heap.size->w2.heap[i]? =w.heap[i]? :=λi hi=>(F1.block i ae ae).trans<|HB.block i hi;have ed:Bq w w2:=⟨F1.os.trans HB.os,F1.tape.trans HB.tape,F1.output.trans HB.output,ae,kb⟩;have aiP:CY b w.heap.size K R (λx=>(P x/\x<w.heap.size)\/(w.heap.size+2<=x/\x<w2.heap.size)) D w2:=by
    refine⟨?_,?_,ae,jc ⟨hb,bl⟩,?_,?_,HG⟩
    .rintro x(p|p)<;>omega
    .rintro(p|p)<;>omega
    .exact HH.move ed.size (kb b bl) (λx _ hx=>kb x hx) (λx p hx=>jc ⟨p,hx⟩)
    .exact(HS.fr F1 ae (λx p _=>by obtain p|p:=p<;>omega)).low.wide λx p=>by
      obtain q|q:=p.1
      .exact jc q
      .exact ja ⟨q,p.2⟩
   have HC:=G9 (b:=b) (wb:=w.heap.size) hK hF (size<|R n) (rk n) n (br _) (br _) w2 _ D aiP;have hKn:Hid (K n≠none):=by
    have⟨t,e,_⟩:=Q.2.1 n u Mg;rw[e];exact ai ag
   go_wp2_with fail;refine HC.mono ?_;rintro e w3⟨u3,D',rfl,ZS,hd3,G3,M3,hn3,F3⟩;obtain⟨tu,xu,rfl⟩:=ZS.iface;have z3:=F3.size;have N3:=hn3 hKn
   have S3:=ai (hd3.wide (Q:=λx=>(P x/\x<w.heap.size)\/w.heap.size+2<=x) λx p=>by
    obtain  (q|q)|q:=p.1
    .exact jc q
    .exact ja q.1
    .exact ja ae)
   have I3:=HI1.same (F3.block b ae ae)<|F3.block _ ae ae;have K3:=show Bq w w3 from⟨F3.os.trans ed.os,F3.tape.trans ed.tape,F3.output.trans ed.output,by have:=ed.size;omega,λi hi=>(F3.block i ae ae).trans<|ed.block i hi⟩
   go_wp2
   go_roundg aB
   case measure=>exact bA
   case rel=>
    refine⟨(n:Int)::done,D',I3,S3,G3,λm hm=>?_,K3⟩;obtain q|q:=List.mem_cons.1 hm
    .have:m=n:=ae;subst this;exact N3
    .exact M3 m (HD m q)
def Xy(P:Nat->Prop)x y w(e:Ending)w':=Bq w w'/\
 ((∃wb θ,e=.returned (.tuple #[Mv wb,.bool true])/\w.heap.size<=wb/\In.zS θ x y/\(∀n,Whole<|θ n)/\(∀n,(vars []<|θ n).length<=1000)/\KW w' (λi=>P i\/w.heap.size<=i) wb θ)\/(e=.returned (.tuple #[.map none,.bool false])/\∀σ,sub σ x≠sub σ y))
def Xz(hx:cR w P x v)(hy:cR w P y u)(hxs:size x<=48)(hys:size y<=48)(hxw:Whole x)(hyw:Whole y):Cq 344 #[v,u] w (Xy P x y w):=by
 have iE:= @run_makeMap qc;have k1:Bq w (w.alloc<|.map #[] 0):=bw _;have hVx:∀m,aD m x->m∈vars (vars [] x) y:=λm hm=>(bI y _ m).2<|jc<|(bI x [] m).2<|ja hm;have hVy:∀m,aD m y->m∈vars (vars [] x) y:=λm hm=>(bI y _ m).2<|ja hm;have hV1:∀m,m∈vars (vars [] x) y->aD m x\/aD m y:=λm hm=>by
  obtain q|q:=(bI y _ m).1 hm
  .obtain r|r:=(bI x [] m).1 q
   .simp at r
   .exact jc r
  .exact ja q
 have hVl:(vars (vars [] x) y).length<=1000:=by
  have h1:=cU (occs x) [];have h2:=cU (occs y)<|vars [] x;have h3:=cV x;have h4:=cV y;rw[<-cr]at h1 h2;simp at h1;omega
 have HC:=WL (P:=λi=>P i/\i<w.heap.size) (b:=w.heap.size) (V:=vars (vars [] x) y) ae _ _ (λ_=>none) Ty.var (λ_=>0) x y (br _) (br _) _ v u (eU.new w _) sk.start (λn t e=>by cases e) ⟨hVx,hxs,hxw⟩ ⟨hVy,hys,hyw⟩ (hx.low.af k1) (hy.low.af k1);obtain⟨ta,xa,rfl⟩:=hx.iface;obtain⟨tb,xb,rfl⟩:=hy.iface;have K1:=ai k1;go_enter func344,ntmps344;go_wp2_with fail;refine HC.mono ?_;rintro e w1⟨ok,rfl,F1,h1,h2⟩;have kb:Bq w w1:=by
  have k:=uh K1;exact⟨F1.os.trans k.os,F1.tape.trans k.tape,F1.output.trans k.output,jq k.size F1.size,λi hi=>(F1.block i (by have:=k.size;omega) ae).trans<|k.block i hi⟩
 cases ok with
 |false=>
  have H2:=h2 rfl;have KB:=ai kb
  go_wp2
  go_ret2;refine⟨KB,ja ⟨rfl,λσ=>?_⟩⟩;have:=H2 σ
  rwa[dq,dq]at this
 |true=>
  have⟨K',R',M5,s1,s2,s3,s4,s5⟩:=h1 rfl;have HC:=RS (P:=λi=>P i\/w.heap.size<=i) (s1.wide λi p=>jc p.1) (ja<|br _) s2<|Ij s2 s3 hVl;have KB:=ai kb;have H3:=qk s2<|qk s3 s4;go_wp2_with fail;refine HC.mono ?_;rintro e w2⟨wb,rfl,hwb,HK,K2⟩
  go_wp2
  go_ret2;obtain⟨s2,s3,s4⟩:=H3;have kb:=uh KB;refine⟨kb.trans<|K2.mono kb.size,jc ⟨wb,R',rfl,jq kb.size hwb,⟨s4.same,λσ e n=>?_,λn h1 h2=>?_,λn m h1 h2=>?_⟩,Bf s2 s3,(Ij s2 s3 hVl).len,?_⟩⟩
  .have:=s4.least σ (by rw[dq,dq];exact e) n;simpa[sub]using this
  .cases e:K' n with
   |none=>exact s2.open_ n e|some t=>obtain q|q:=hV1 n (s3 n t e).1;exact absurd q h1;exact absurd q h2
  .exact hV1 m (Xx s2 s3 n m (by obtain q|q:=h1;exact hVx n q;exact hVy n q) h2)
  .obtain⟨D,d1,d2⟩:=HK;exact⟨D,d1.wide λi p=>by obtain  (p|p)|p:=p;exact jc p;exact ja p;exact ja<|jq kb.size p,d2⟩
end
theorem KW.move(h:KW w P b κ)(hs:w.heap.size<=w'.heap.size)(hb:w'.heap[b]? =w.heap[b]?)(hp:∀x,P x->x<w.heap.size->w'.heap[x]? =w.heap[x]?)(hq:∀x,P x->x<w.heap.size->Q x):KW w' Q b κ:=by
 obtain⟨D,h1,h2⟩:=h;exact⟨D,h1.move hs hb hp hq,h2⟩
def KW.af(h:KW w P b κ)(hb:Bq w w'):KW w' P b κ:=by obtain⟨D,h1,h2⟩:=h;exact⟨D,h1.af hb,h2⟩
def KW.wide(h:KW w P b κ)(hq:∀x,P x->Q x):KW w Q b κ:=by obtain⟨D,h1,h2⟩:=h;exact⟨D,h1.wide hq,h2⟩
def KW.fr{S}(h:KW w P b κ)(hf:Fr S w w')(hb:¬S b)(hS:∀x,P x->x<w.heap.size->¬S x):KW w' P b κ:=by obtain⟨D,h1,h2⟩:=h;exact⟨D,h1.fr hf hb hS,h2⟩
def KW.lt(h:KW w P b κ):b<w.heap.size:=by obtain⟨D,h1,h2⟩:=h;exact h1.lt
def vV{D}(h:∀n,(D n=none->κ n=.var n)/\(D n≠none->D n=some (bG<|κ n)))n:BL D n=bG (κ n):=by
 rw[BL]
 cases e:D n with
 |none=>rw[(h n).1 e,GZ];rfl|some t=>grind
structure tM(κ:Nat->Ty):Prop where
 wh:∀n,Whole<|κ n
 len:∀n,(vars []<|κ n).length<=1000000
theorem tM.sz(h:tM κ)n:size (bG<|κ n)<=1000001:=by have:=eW (h.wh n) (h.len n) aK;omega
structure TW w P S x v:Prop where
 ex:∃x',cR w P x' v/\dF x' x/\size x'<=S
 wh:Whole x
theorem TW.move{S}{x}{v}(h:TW w P S x v)(hs:w.heap.size<=w'.heap.size)(hb:∀b,P b->b<w.heap.size->w'.heap[b]? =w.heap[b]?)(hq:∀b,P b->b<w.heap.size->Q b):TW w' Q S x v:=by
 obtain⟨⟨x',h1,h2,h3⟩,h4⟩:=h;exact⟨⟨x',h1.move hs hb hq,h2,h3⟩,h4⟩
def TW.af(h:TW w P S x v)(hb:Bq w w'):TW w' P S x v:=h.move hb.size (λb _ hz=>hb.block b hz)<|λ_ p _=>p
def TW.wide(h:TW w P S x v)(hq:∀x,P x->Q x):TW w Q S x v:=h.move (br _) (λ_ _ _=>rfl)<|λb p _=>hq b p
def TW.fr{F}(h:TW w P S x v)(hf:Fr F w w')(hS:∀b,P b->b<w.heap.size->¬F b):TW w' P S x v:=h.move hf.size (λb p z=>hf.block b z<|hS b p z)<|λ_ p _=>p
def TW.iface{S}{x}{v}(h:TW w P S x v):∃a y,v=.iface a y:=by obtain⟨⟨x',h1,_⟩,_⟩:=h;exact h1.iface
def TW.le{S'}(h:TW w P S x v)(hs:S<=S'):TW w P S' x v:=by obtain⟨⟨x',h1,h2,h3⟩,h4⟩:=h;exact⟨⟨x',h1,h2,jq h3 hs⟩,h4⟩
def TW.of(h:cR w P x v)(hw:Whole x)(hs:size x<=S):TW w P S x v:=⟨⟨x,h,dF.refl x,hs⟩,hw⟩
def sq(h:KW w P b κ)(hb:P b)(hf:tM κ)(hS:S<=900000)(hx:TW w Q S x v):Cq 314 #[Mv b,v] w (N9 (bG<|sub κ x) P w):=by
 obtain⟨D,h1,h2⟩:=h;obtain⟨⟨x',t1,t2,t3⟩,t4⟩:=hx;have e:bG (sub (BL D) x')=bG (sub κ x):=by
  refine qh (t2.sub λn _=>?_)<|bX x t4 λn _=>hf.wh n;rw[vV h2 n];exact qg _<|hf.wh n
 rw[<-e];refine Eh h1 hb t1 ae ?_;have q:=gZ (BL D) 1000001 x' (λn _=>by rw[vV h2 n];exact hf.sz n) aK;have:1000001*size x'<=1000001*900000:=jt _ ae;omega
def TW.TD(hx:TW w P S x v)(hf:tM κ)(hS:S<=900000):size (bG<|sub κ x)<=1000000000000:=by
 obtain⟨⟨x',t1,t2,t3⟩,t4⟩:=hx;have hw:=bX x t4 λn _=>hf.wh n;have e:=qh (t2.sub λn _=>qg _<|hf.wh n) hw;have q:=gZ (λn=>bG<|κ n) 1000001 x' (λn _=>hf.sz n) aK;have q2:1000001*size x'<=1000001*900000:=jt _ ae;have hl:(vars []<|sub κ x).length<=1000001*900000:=by
  have h1:=gD<|sub κ x;rw[<-e,gD]at h1;rw[<-h1,cr];have h2:=cU (occs<|sub (λn=>bG<|κ n) x') [];have h3:=cV<|sub (λn=>bG<|κ n) x';simp only[vf]at h2;omega
 have:=eW hw hl aK;omega
abbrev guW(f:Fl)(vl vr:Value):Value:=.iface 454<|.agg #[Nv f.kind,Nv f.al,Nv f.to,vl,vr]
structure pD w P(x:In.Ft)(vl vr:Value):Prop where
 qA:x.f.kind=7->vl=.nilIface/\vr=.nilIface
 apart:x.f.kind=6->dE w P x.l vl/\dE w P x.r vr
 k:x.f.kind=6\/x.f.kind=7
def aa8(P:Nat->Prop)κ u x y f t w(e:Ending)w':=Bq w w'/\∃o,In.p_ x y f t ⟨κ,u⟩ o/\match o with
 |.ok (_,s)=>∃b,e=.returned (Mv b)/\w.heap.size<=b/\KW w' (λi=>P i\/w.heap.size<=i) b s.k/\∀n,Whole (s.k n)|.error z=>∃vl vr,e=.panicked [{v:=guW z.f vl vr,recovered:=false}]/\pD w' (λi=>P i\/w.heap.size<=i) z vl vr
def lW f t:Cq 316 #[.agg #[Iv f,Iv t]] w λe w'=>e=.returned (.agg #[Iv 7,Iv f,Iv t,.nilIface,.nilIface])/\Bq w w':=by
 go_enter func316,ntmps316
 go_wp2
 exact bodyPost_ret (v:=Av #[Iv 7,Iv f,Iv t,Zv,Zv]) (by simp[results,Tryz.results316,go_sem]) rfl ⟨rfl,(bw _).alloc ag _⟩
def Dj f t ta tb xa xb:Cq 345 #[.agg #[Iv f,Iv t],.iface ta xa,.iface tb xb] w λe w'=>e=.returned (.agg #[Iv 6,Iv f,Iv t,.iface ta xa,.iface tb xb])/\Bq w w':=by
 go_enter func345,ntmps345
 go_wp2
 exact bodyPost_ret (v:=Av #[Iv 6,Iv f,Iv t,Fv ta xa,Fv tb xb]) (by simp[results,Tryz.results345,go_sem]) rfl ⟨rfl,(bw _).alloc ag _⟩
def BV t(hw:Whole t):(48<sz (bG t)↔48<size t)/\(size t<=48->bG t=t):=by
 refine⟨(qg t hw).acf hw,λh=>wH h hw⟩
def Eb(h:KW w P b κ)(hb:P b)(hf:tM κ)(hS:S<=900000)(hx:TW w P S x v)(hy:TW w P S y u)f t us:
 Cq 324 #[Mv b,v,u,.agg #[Nv f,Nv t]] w (aa8 P κ us x y f t w):=by
 have⟨k0,B0⟩:=mM w #[Nv f,Nv t] 131;have hxw:=bX x hx.wh λn _=>hf.wh n;have hyw:=bX y hy.wh λn _=>hf.wh n;have H1:=sq (h.af k0) hb hf hS<|hx.af k0;have HH:=ai h;have K0:=ai k0;obtain⟨ta,xa,rfl⟩:=hx.iface;obtain⟨tb,xb,rfl⟩:=hy.iface;clear h k0;go_enter func324,ntmps324;go_wp2_with fail;refine H1.mono ?_;rintro e w1⟨u1,rfl,ux,k1⟩;have ZR:=K0.trans<|k1.mono K0.size;have H2:=sq (HH.af ZR) hb hf hS<|hy.af ZR;have U1:=ux.wide (Q:=λi=>P i\/w.heap.size<=i) λi p=>by obtain p|p:=p;exact Or.inl p;exact Or.inr<|Nat.le_trans K0.size p
 have B1:=B0.below k1;obtain⟨wE,wF,rfl⟩:=ux.iface;clear ux k1 H1 B0;go_wp2_with fail;refine H2.mono ?_;rintro e w2⟨u2,rfl,uy,k2⟩;have T':=ZR.trans<|k2.mono ZR.size;have U1':=U1.af k2;have U2':=uy.wide (Q:=λi=>P i\/w.heap.size<=i) λi p=>by obtain p|p:=p;exact jc p;exact ja<|jq ZR.size p
 have B2:=B1.below k2;obtain⟨tb1,xb1,rfl⟩:=uy.iface;have S1:=oC _ w2 _ _ U1'<|hx.TD hf hS;have S2:=λ(W:World)(hk:Bq w2 W)=>oC _ W _ _ (U2'.af hk)<|hy.TD hf hS;obtain⟨n1,N1⟩:∃n,n=sz (bG<|sub κ x):=⟨_,rfl⟩;obtain⟨n2,N2⟩:∃n,n=sz (bG<|sub κ y):=⟨_,rfl⟩;rw[<-N1]at S1;rw[<-N2]at S2;clear uy k2 H2 B1 U1 ZR;go_wp2_with fail;refine S1.mono ?_;rintro e w3⟨rfl,K3⟩;have S2:=S2 w3 K3;have B3:=B2.below K3;clear S1 B2;go_wp2_with fail;refine S2.mono ?_;rintro e w4⟨rfl,k4⟩;have B4:=ai<|B3.below k4;have k34:=K3.trans<|k4.mono K3.size;have KK4:=T'.trans<|k34.mono T'.size;have U3:=U1'.af k34;have U4:=U2'.af k34;clear k4 S2 B3 k34 K3 U1' U2' T';have⟨c4,f4,z4⟩:=uh B4;have e1:=BV (sub κ x) hxw;have e2:=BV (sub κ y) hyw;rw[<-N1]at e1;rw[<-N2]at e2;have E1:=ai e1;have E2:=ai e2;clear e1 e2;have KX:=hf.wh;by_cases bA:n1<n2
 all_goals(
  by_cases Ua:48<n1\/48<n2
  .first|(have hm:(48:Int)<(n1:Int):=by omega)|(have hm:(48:Int)<(n2:Int):=by omega)
   have HT:=lW (w:=w4) (f:Int) (t:Int);go_wp2_with fail;refine HT.mono ?_;rintro e w5⟨rfl,k5⟩;have K5:=ai k5;clear k5 HT;go_wp2_with fail;have TF:=KK4.trans<|K5.mono KK4.size;refine⟨rfl,TF,.error<|In.qA f t,jc ⟨?_,rfl⟩,Zv,Zv,rfl,⟨λ_=>⟨rfl,rfl⟩,(λh=>JB),ja rfl⟩⟩;obtain q|q:=Ua
   .exact jc (E1.1.1 q)
   .exact ja (E2.1.1 q)
  .have hm1:¬(48:Int)<(n1:Int):=ae;have hm2:¬(48:Int)<(n2:Int):=ae;have s1:size (sub κ x)<=48:=by have:=E1.1;omega
   have s2:size (sub κ y)<=48:=by have:=E2.1;omega
   have V1:=U3;have V2:=U4;rw[(uh E1).2 s1]at V1;rw[(uh E2).2 s2]at V2;have HU:=Xz V1 V2 s1 s2 hxw hyw;go_wp2_with fail;refine HU.mono ?_;rintro e w5⟨k5,hp⟩;have B5:=ai<|B4.below k5;have⟨c5,f5,z5⟩:=uh B5;have K5:=ai k5;have KK5:=ai<|KK4.trans<|k5.mono KK4.size;have aa9:=qk s1 s2;have z45:=k5.size;have z04:=KK4.size;clear c4 f4 z4 HU s1 s2 k5;obtain⟨wb,θ,rfl,hwb,hM,hWh,hLn,hKW⟩|⟨rfl,HN⟩:=hp
   .have hko:KW w5 (λi=>P i\/w.heap.size<=i) b κ:=(HH.af KK5).wide λi p=>jc p;have hkn:=hKW.wide λi p=>by
     obtain p|p:=p
     .exact p
     .exact ja ae
    obtain⟨D1,d1,d2⟩:=hko;obtain⟨D2,e1,e2⟩:=hkn;have eG:∀n t,D1 n=some t->size t<=1000000000000/\size (sub (BL D2) t)<=1000000000000:=λn t ht=>by
     have h1:=(d2 n).2 (by rw[ht];simp);rw[ht]at h1;injection h1 with h1;subst h1;have h2:=hf.sz n;have h3:=gZ (BL D2) 1001 (bG<|κ n) (λm _=>by rw[vV e2 m];have:=eW (hWh m) (hLn m) aK;omega) aK;have h4:1001*size (bG<|κ n)<=1001*1000001:=jt _ h2;exact⟨ae,ae⟩
    have HT:=aaN d1 e1 (ja ae) eG;have HD:=qk d2 e2;have HMW:=qk hM hWh;clear d1 e1 d2 e2 eG hKW hLn hM hWh;go_wp2_with fail;refine HT.mono ?_;rintro e w6⟨b3,rfl,y8,S3,K6⟩;clear HT
    go_wp2
    go_ret;have TF:=KK5.trans<|K6.mono KK5.size;obtain⟨d2,e2⟩:=HD;obtain⟨hM,hWh⟩:=HMW;have hwt:∀n,Whole<|sub θ<|κ n:=λn=>bX _ (KX n) λm _=>hWh m;refine⟨TF,.ok ((),⟨λn=>sub θ<|κ n,us⟩),ja ⟨aa9.1,aa9.2,jc ⟨θ,hM,rfl⟩⟩,b3,rfl,ae,⟨xX D1 D2,S3.wide λi p=>?_,λn=>⟨λq=>?_,λq=>?_⟩⟩,hwt⟩
    .obtain p|p:=p
     .exact p
     .exact ja ae
    .rw[xX]at q
     cases hd:D1 n with
     |none=>
      rw[hd]at q;show sub θ (κ n)=_;rw[(d2 n).1 hd,sub,(e2 n).1 q]
     |some t=>rw[hd]at q;cases q
    .rw[xX]
     cases hd:D1 n with
     |none=>
      show D2 n=some (bG<|sub θ<|κ n);rw[(d2 n).1 hd,sub];refine(e2 n).2 λr=>q ?_;rw[xX];rw[hd];exact r
     |some t=>
      have h1:=(d2 n).2 (by rw[hd];simp);rw[hd]at h1;injection h1 with h1;subst h1;show some (bG<|sub (BL D2)<|bG<|κ n)=some (bG<|sub θ<|κ n);congr 1;refine qh ((qg _<|KX n).sub λm _=>?_)<|hwt n;rw[vV e2 m];exact qg _<|hWh m
   .have HA:=Dj (w:=w5) (f:Int) (t:Int) wE tb1 wF xb1;go_wp2_with fail;refine HA.mono ?_;rintro e w6⟨rfl,K6⟩;clear HA;go_wp2_with fail;have k46:=K5.trans<|K6.mono K5.size;have TF:=KK5.trans<|K6.mono KK5.size;refine⟨rfl,TF,.error ⟨⟨6,f,t⟩,sub κ x,sub κ y⟩,ja ⟨aa9.1,aa9.2,ja ⟨HN,rfl⟩⟩,Fv wE wF,Fv tb1 xb1,rfl,⟨(λh=>JB),λ_=>⟨?_,?_⟩,jc rfl⟩⟩
    .exact(V1.af k46).v hxw
    .exact(V2.af k46).v hyw)
abbrev TeN I D A z:=∀(x:Array Value)(w:World),(qf (.iface D<|.agg x) I A true).run qc w=.ok (.tuple #[.agg z,.bool false]) w
def vE.te{A}{z}(h:vE A z){I D}(hd:D≠A):TeN I D A z:=λx w=>h I D (.agg x) w hd
def Zw nd:=∀(w:World)(Q:Nat->Prop)(v:Value),PE w Q nd v->Cq 317 #[v] w λe w'=>e=.returned (.bool<|j7 nd)/\Bq w w'
def ImC x y:=∀(w:World)(Q:Nat->Prop)(vx vy:Value)(f t:Int),PE w Q x vx->PE w Q y vy->Cq 328 #[.agg #[Iv f,Iv t,vx,vy]] w λe w'=>e=.returned (.bool<|j8 x&&j7 y)/\Bq w w'
def ahg s n x y f t a(Hx:Zw x)(Hy:Zw y):Zw (.mk 6 s n [x,y] f t a):=by
 intro w Q v h;have ev:j7 (.mk 6 s n [x,y] f t a)=(j7 x&&j7 y):=by simp[j7,In.aeD]
 rw[ev]
 cases h with
 |lt c s n x z f t a y vx vz hc hs hy hx hz=>omega|pr s n x y f t a vx vy hx hy=>
 obtain⟨tx,ax,rfl⟩:=hx.iface;obtain⟨ty,ay,rfl⟩:=hy.iface;have⟨K0,B0⟩:=mM w #[Nv f,Nv t,Fv tx<|Av ax,Fv ty<|Av ay] 309;have H1:=Hx _ Q _<|hx.af K0;go_enter func317,ntmps317;go_wp2_with fail;refine H1.mono ?_;rintro e w1⟨rfl,k1⟩;have KK:=K0.trans<|k1.mono K0.size;have H2:=Hy _ Q _<|hy.af KK;have⟨c1,f1,z1⟩:=B0.below k1
 cases hb:j7 x with
 |true=>
  go_wp2_with fail;refine H2.mono ?_;rintro e w2⟨rfl,K2⟩
  go_wp2
  go_ret;exact⟨by rw[hb];rfl,KK.trans<|K2.mono KK.size⟩
 |false=>
  go_wp2
  go_ret;exact⟨by rw[hb];rfl,KK⟩
def OZ{p:Prop}(h:p:=by
 go_enter func317,ntmps317;go_wp2_with fail;refine H1.mono ?_;rintro e w1⟨rfl,K1⟩
 go_wp2
 go_ret
 exact⟨rfl,K0.trans<|K1.mono K0.size⟩):p:=h
def ahh s n x y f t a(Hx:Zw x):Zw (.mk 14 s n [x,y] f t a):=by
 intro w Q v h;have ev:j7 (.mk 14 s n [x,y] f t a)=j7 x:=by simp[j7,j9]
 rw[ev]
 cases h with
 |lt c s n x z f t a y vx vz hc hs hy hx hz=>omega|of s n x y f t a vx vy hx hy=>
 obtain⟨tx,ax,rfl⟩:=hx.iface;obtain⟨ty,ay,rfl⟩:=hy.bJ;have K0:Bq w (w.alloc<|Cv #[Nv f,Nv t,Fv tx<|Av ax,Fv ty<|Av ay] 311):=bw _;have H1:=Hx _ Q _<|hx.af K0;exact OZ
def aa_ s n x y f t a(Hm:ImC x y):Zw (.mk 8 s n [x,y] f t a):=by
 intro w Q v h;have ev:j7 (.mk 8 s n [x,y] f t a)=(j8 x&&j7 y):=by simp[j7,In.isC,In.aaR,j9]
 rw[ev]
 cases h with
 |lt c s n x z f t a y vx vz hc hs hy hx hz=>omega|call s n x y f t a vx vy hx hy=>
 obtain⟨tx,ax,rfl⟩:=hx.iface;obtain⟨ty,ay,rfl⟩:=hy.iface;have K0:Bq w (w.alloc<|Cv #[Nv f,Nv t,Fv tx<|Av ax,Fv ty<|Av ay] 319):=bw _;have H1:=Hm _ Q _ _ (f:Int) (t:Int) (hx.af K0)<|hy.af K0;exact OZ
def PE.kinds{x}(h:PE w Q x v):(∃ax:Array Value,v=.iface 390 (.agg ax)/\(∃(a0 a1:Int)(a2:BA),ax=#[Iv a0,Iv a1,.string a2])/\j8 x=true)\/(∃(s:BA)(n:Nat)(u z:Nd)(f t a:Nat)(vu vz:Value),x=.mk 8 s n [u,z] f t a/\v=.iface 319 (.agg #[Nv f,Nv t,vu,vz])/\PE w Q u vu/\PE w Q z vz)\/(j8 x=false/\∃(D:TypeId)(ax:Array Value),v=.iface D (.agg ax)/\TeN 140 D 390 #[Iv 0,Iv 0,.string ⟨#[]⟩]/\TeN 140 D 319 #[Iv 0,Iv 0,.nilIface,.nilIface]):=by
 cases h with
 |up s n f t a hs=>exact jc ⟨_,rfl,⟨_,_,_,rfl⟩,by simp[j8]⟩|call s n x y f t a vx vy hx hy=>grind|lt c s n x z f t a y vx vz hc hs hy hx hz=>exact ja (ja ⟨by obtain rfl|rfl:=hc<;>simp[j8],_,_,rfl,(Ve.te aK),(Nh.te aK)⟩)
 |_=>exact ja (ja ⟨by simp[j8],_,_,rfl,(Ve.te aK),(Nh.te aK)⟩)
def aba x y(Hy:Zw y)(IH:∀(s:BA)(n:Nat)(u z:Nd)(f t a:Nat),x=.mk 8 s n [u,z] f t a->ImC u z):ImC x y:=by
 intro w Q vx vy f t hx hy;have⟨K0,B0⟩:=mM w #[Iv f,Iv t,vx,vy] 319;have H1:=Hy _ Q _<|hy.af K0;have Jq:=hx.kinds;obtain⟨tx,ax,rfl⟩:=hx.iface;obtain⟨ty,ay,rfl⟩:=hy.iface;obtain⟨Z,hZ⟩:∃Z,Hid<|Z=(In.isM x&&In.Jw y):=⟨_,ai rfl⟩;rw[<-uh hZ];go_enter func328,ntmps328;go_wp2_with fail;refine H1.mono ?_;rintro e w1⟨rfl,k1⟩;have KK:=K0.trans<|k1.mono K0.size;have⟨c1,f1,z1⟩:=B0.below k1
 cases hb:j7 y with
 |false=>
  go_wp2
  go_ret;exact⟨by rw[uh hZ,hb,Bool.and_false];rfl,KK⟩
 |true=>
  rw[hb,Bool.and_true]at hZ;obtain⟨bx,e1,⟨a0,a1,a2,rfl⟩,e2⟩|⟨s,n,u,z,f',t',a,vu,vz,rfl,e1,hu,hz⟩|⟨e2,D,bx,e1,h1,h2⟩:=Jq
  .injection e1 with e1 e3;injection e3 with e3;subst e1 e3;rw[e2]at hZ
   go_wp2
   go_ret;exact⟨by rw[uh hZ];rfl,KK.alloc KK.size _⟩
  .injection e1 with e1 e3;injection e3 with e3;subst e1 e3;obtain⟨tu,au,rfl⟩:=hu.iface;obtain⟨tz,az,rfl⟩:=hz.iface;have k2:Bq w1 (w1.alloc<|Cv #[Nv f',Nv t',Fv tu<|Av au,Fv tz<|Av az] 319):=bw _;have H3:=IH s n u z f' t' a rfl _ Q _ _ (f':Int) (t':Int) ((hu.af KK).af k2) ((hz.af KK).af k2);have em:j8 (.mk 8 s n [u,z] f' t' a)=(j8 u&&j7 z):=by simp[j8,In.isC,In.aaR,j9]
   rw[em]at hZ;have K2:=KK.trans<|k2.mono KK.size;go_wp2_with fail;refine H3.mono ?_;rintro e w3⟨rfl,K3⟩
   go_wp2
   go_ret;exact⟨by rw[uh hZ];rfl,K2.trans<|K3.mono K2.size⟩
  .injection e1 with e1 e3;injection e3 with e3;subst e1 e3;rw[e2]at hZ
   go_wp2
   go_ret;exact⟨by rw[uh hZ];rfl,KK⟩
def O0{p:Prop}(h:p:=by
 go_enter func317,ntmps317
 go_wp2
 go_ret
 exact⟨by simp[j7],qi _ _⟩):p:=h
def Ik:∀(m:Nat),(∀nd:Nd,j6 nd<=m->Zw nd)/\∀x y:Nd,j6 x+j6 y<=m->ImC x y:=by
 intro m
 induction m using jv with
 |_ m ih=>
  have sp:∀nd:Nd,1<=j6 nd:=λnd=>by cases nd;simp;omega
  have IV:∀nd:Nd,j6 nd<m->Zw nd:=λnd h=>(ih (m-1) ae).1 nd ae;have IM:∀x y:Nd,j6 x+j6 y<m->ImC x y:=λx y h=>(ih (m-1) ae).2 x y ae;refine⟨λnd hm=>?_,λx y hm=>aba x y (IV y (by have:=sp x;omega)) λs n u z f t a e=>IM u z (by subst e;simp at hm;omega)⟩;intro w Q v h
  cases h with
  |pr s n x y f t a vx vy hx hy=>simp at hm;exact ahg s n x y f t a (IV x ae) (IV y ae) w Q _ (.pr s n x y f t a vx vy hx hy)|of s n x y f t a vx vy hx hy=>simp at hm;exact ahh s n x y f t a (IV x ae) w Q _ (.of s n x y f t a vx vy hx hy)|call s n x y f t a vx vy hx hy=>simp at hm;exact aa_ s n x y f t a (IM x y ae) w Q _ (.call s n x y f t a vx vy hx hy)|lt c s n x z f t a y vx vz hc=>
   obtain rfl|rfl:=hc;all_goals
    exact O0
  |_=>
   exact O0
def oB nd:Zw nd:=(Ik<|j6 nd).1 nd<|br _
def wPl_Low a0 a1 a2 N w:(method (N+1) 356 (.agg #[a0,a1,a2]) "Place").run Tryz.prog w=.ok (403,.agg #[a0,a1]) w:=qkr
def wPl_Up a0 a1 a2 N w:(method (N+1) 390 (.agg #[a0,a1,a2]) "Place").run Tryz.prog w=.ok (403,.agg #[a0,a1]) w:=qkr
def wPl_Number a0 a1 a2 N w:(method (N+1) 326 (.agg #[a0,a1,a2]) "Place").run Tryz.prog w=.ok (403,.agg #[a0,a1]) w:=qkr
def wPl_Bool a0 a1 a2 N w:(method (N+1) 321 (.agg #[a0,a1,a2]) "Place").run Tryz.prog w=.ok (403,.agg #[a0,a1]) w:=qkr
def wPl_Unit a0 a1 N w:(method (N+1) 324 (.agg #[a0,a1]) "Place").run Tryz.prog w=.ok (403,.agg #[a0,a1]) w:=qkr
def wPl_Pair a0 a1 a2 a3 N w:(method (N+1) 309 (.agg #[a0,a1,a2,a3]) "Place").run Tryz.prog w=.ok (403,.agg #[a0,a1]) w:=qkr
def wPl_Typed a0 a1 a2 a3 N w:(method (N+1) 311 (.agg #[a0,a1,a2,a3]) "Place").run Tryz.prog w=.ok (403,.agg #[a0,a1]) w:=qkr
def wPl_Fun a0 a1 a2 a3 a4 a5 N w:(method (N+1) 313 (.agg #[a0,a1,a2,a3,a4,a5]) "Place").run Tryz.prog w=.ok (403,.agg #[a0,a1]) w:=qkr
def wPl_Let a0 a1 a2 a3 a4 a5 a6 a7 N w:(method (N+1) 315 (.agg #[a0,a1,a2,a3,a4,a5,a6,a7]) "Place").run Tryz.prog w=.ok (403,.agg #[a0,a1]) w:=qkr
def wPl_If a0 a1 a2 a3 a4 N w:(method (N+1) 317 (.agg #[a0,a1,a2,a3,a4]) "Place").run Tryz.prog w=.ok (403,.agg #[a0,a1]) w:=qkr
def wPl_Match a0 a1 a2 a3 N w:(method (N+1) 201 (.agg #[a0,a1,a2,a3]) "Place").run Tryz.prog w=.ok (403,.agg #[a0,a1]) w:=qkr
def wPl_Binary a0 a1 a2 a3 a4 N w:(method (N+1) 297 (.agg #[a0,a1,a2,a3,a4]) "Place").run Tryz.prog w=.ok (403,.agg #[a0,a1]) w:=qkr
def wPl_Call a0 a1 a2 a3 N w:(method (N+1) 319 (.agg #[a0,a1,a2,a3]) "Place").run Tryz.prog w=.ok (403,.agg #[a0,a1]) w:=qkr
def wPl_Any a0 a1 N w:(method (N+1) 337 (.agg #[a0,a1]) "Place").run Tryz.prog w=.ok (403,.agg #[a0,a1]) w:=qkr
def wPl_PatternPair a0 a1 a2 a3 N w:(method (N+1) 328 (.agg #[a0,a1,a2,a3]) "Place").run Tryz.prog w=.ok (403,.agg #[a0,a1]) w:=qkr
def wPl_Made a0 a1 a2 a3 a4 a5 N w:(method (N+1) 307 (.agg #[a0,a1,a2,a3,a4,a5]) "Place").run Tryz.prog w=.ok (403,.agg #[a0,a1]) w:=qkr
abbrev PlF tx x(f t:Nat):=∀(N:Nat)(w:World),(method (N+1) tx x "Place").run Tryz.prog w=.ok (403,.agg #[.int .i64 (f:Int),.int .i64 (t:Int)]) w
def PE.place{x:Value}(h:PE w Q nd (.iface tx x)):PlF tx x (In.ij nd) (In.uQ nd):=by
 intro N w'
 cases h with
 |low=>exact wPl_Low _ _ _ _ _|up=>exact wPl_Up _ _ _ _ _|num=>exact wPl_Number _ _ _ _ _|word=>exact wPl_Bool _ _ _ _ _|unit=>exact wPl_Unit _ _ _ _|pr=>exact wPl_Pair _ _ _ _ _ _|of=>exact wPl_Typed _ _ _ _ _ _|op=>exact wPl_Binary _ _ _ _ _ _ _|call=>exact wPl_Call _ _ _ _ _ _|fn=>exact wPl_Fun _ _ _ _ _ _ _ _|lt=>exact wPl_Let _ _ _ _ _ _ _ _ _ _|ite=>exact wPl_If _ _ _ _ _ _ _|mt=>exact wPl_Match _ _ _ _ _ _
def PP.place{x:Value}(h:PP w Q nd (.iface tx x)):PlF tx x (In.ij nd) (In.uQ nd):=by
 intro N w'
 cases h with
 |any=>exact wPl_Any _ _ _ _|low=>exact wPl_Low _ _ _ _ _|num=>exact wPl_Number _ _ _ _ _|word=>exact wPl_Bool _ _ _ _ _|unit=>exact wPl_Unit _ _ _ _|pr=>exact wPl_PatternPair _ _ _ _ _ _|up=>exact wPl_Made _ _ _ _ _ _ _ _
def cW f t:Cq 403 #[.agg #[Iv f,Iv t]] w λe w'=>e=.returned (.agg #[Iv f,Iv t])/\Bq w w':=by
 go_enter func403,ntmps403
 go_wp2
 exact bodyPost_ret (v:=Av #[Iv f,Iv t]) (by simp[results,Tryz.results403,go_sem]) rfl ⟨rfl,(bw _).alloc ag _⟩
end
abbrev Jj:Array Value:=#[Iv 0,Iv 0,Iv 0,.nilIface,.nilIface]
def RT a b c d e w:(qf (.iface 454<|.agg #[a,b,c,d,e]) 20 454 true).run qc w=.ok (.tuple #[.agg #[a,b,c,d,e],.bool true]) w:=qkr
def Bx.Mu(h:Bx w b C)(hC:C.size=5)v0 v1 v2 v3 v4:Bx (((((w.setCell ⟨b,0,none⟩ v0).setCell ⟨b,1,none⟩ v1).setCell ⟨b,2,none⟩ v2).setCell ⟨b,3,none⟩ v3).setCell ⟨b,4,none⟩ v4) b #[v0,v1,v2,v3,v4]:=by
 obtain⟨a0,a1,a2,a3,a4,rfl⟩:∃a0 a1 a2 a3 a4,C=#[a0,a1,a2,a3,a4]:=by
  obtain⟨l⟩:=C
  match l,hC with
  |[a,b,c,d,e],_=>grind
 exact((((h.aO 0 v0 #[v0,a1,a2,a3,a4] rfl ag).aO 1 v1 #[v0,v1,a2,a3,a4] rfl ag).aO 2 v2 #[v0,v1,v2,a3,a4] rfl ag).aO 3 v3 #[v0,v1,v2,v3,a4] rfl ag).aO 4 v4 #[v0,v1,v2,v3,v4] rfl ag
def Am b(hB:Bx w b Jj)(f:Fl)vl vr(hv:(vl=.nilIface/\vr=.nilIface)\/∃a b c d,vl=.iface a b/\vr=.iface c d):
 CallsD qc 312 #[Pv b] (.panicking [{v:=.iface 454<|.agg #[Nv f.kind,Nv f.al,Nv f.to,vl,vr],recovered:=false}]) w λe u' w'=>
  e=.returned (.tuple #[])/\u'=.panicking [{v:=.iface 454<|.agg #[Nv f.kind,Nv f.al,Nv f.to,vl,vr],recovered:=true}]/\Bx w' b #[Nv f.kind,Nv f.al,Nv f.to,vl,vr]/\Fr (λi=>i=b) w w':=by
 obtain⟨G,hG⟩:∃G:Value,G=.iface 454 (.agg #[Nv f.kind,Nv f.al,Nv f.to,vl,vr]):=⟨_,rfl⟩;rw[<-hG];have hta:=RT;have B0:=ai hB;obtain⟨c,ff,z⟩:=hB;refine callsD_of_wpS Tryz.func312 rfl λde cs hu=>?_;apply wpS_seq;apply wpS_region;simp[wpOpsS,go_sem,recoverD,hu,Tryz.ntmps312,Exit.thenS];rw[show(#[Pv b]++((jy 16 undef).setIfInBounds 3 G).setIfInBounds 0 G)=#[Pv b,G,undef,undef,G,undef,undef,undef,undef,undef,undef,undef,undef,undef,undef,undef,undef]from rfl];obtain⟨CS,yM⟩:∃CS:List Frame,CS=({fn:=de.fn,tmps:=de.tmps,todo:=de.todo,defers:=de.defers,mode:=FrameMode.panicking [{v:=G,recovered:=true}],kind:=de.kind,roundOf:=de.roundOf}::cs):=⟨_,rfl⟩;rw[<-yM];refine wpS_of_wp ?_;subst hG;obtain⟨rfl,rfl⟩|⟨ta,xa,tb,xb,rfl,rfl⟩:=hv
 all_goals(
 go_wp2_with fail;refine⟨rfl,_,yM,.tuple #[],by simp[results,Tryz.results312,go_sem],rfl,rfl,?_,?_⟩
 .exact((B0.Mu rfl _ _ _ _ _).alloc _)
 .exact(((((Fr.refl (λi=>i=b) w).set (b:=b) (jc rfl) 0 _).set (jc rfl) 1 _).set (jc rfl) 2 _).set (jc rfl) 3 _).set (jc rfl) 4 _|>.trans (Fr.of<|bw _))
def aaa b:
 CallsD qc 312 #[Pv b] .returning w λe u' w'=>
  e=.returned (.tuple #[])/\u'=.returning/\w'=w:=by
 refine callsD_of_wpS Tryz.func312 rfl λde cs hu=>?_;apply wpS_seq;apply wpS_region;simp[wpOpsS,go_sem,recoverD,hu,Tryz.ntmps312,Exit.thenS];rw[show(#[Pv b]++((jy 16 undef).setIfInBounds 3 Zv).setIfInBounds 0 Zv)=#[Pv b,Zv,undef,undef,Zv,undef,undef,undef,undef,undef,undef,undef,undef,undef,undef,undef,undef]from rfl];have yM:de::cs={de with mode:=.returning}::cs:=(by cases de;simp at hu;subst hu;rfl);refine wpS_of_wp ?_
 go_wp2
 exact⟨rfl,_,yM,.tuple #[],by simp[results,Tryz.results312,go_sem],rfl,rfl,rfl⟩
def RU a b c d e w:(qf (.iface 516<|.agg #[a,b,c,d,e]) 20 516 true).run qc w=.ok (.tuple #[.agg #[a,b,c,d,e],.bool true]) w:=qkr
def Bg b(hB:Bx w b Jj)(f:Fl)vl vr(hv:(vl=.nilIface/\vr=.nilIface)\/∃a b c d,vl=.iface a b/\vr=.iface c d):
 CallsD qc 376 #[Pv b] (.panicking [{v:=.iface 516<|.agg #[Nv f.kind,Nv f.al,Nv f.to,vl,vr],recovered:=false}]) w λe u' w'=>
  e=.returned (.tuple #[])/\u'=.panicking [{v:=.iface 516<|.agg #[Nv f.kind,Nv f.al,Nv f.to,vl,vr],recovered:=true}]/\Bx w' b #[Nv f.kind,Nv f.al,Nv f.to,vl,vr]/\Fr (λi=>i=b) w w':=by
 obtain⟨G,hG⟩:∃G:Value,G=.iface 516 (.agg #[Nv f.kind,Nv f.al,Nv f.to,vl,vr]):=⟨_,rfl⟩;rw[<-hG];have hta:=RU;have B0:=ai hB;obtain⟨c,ff,z⟩:=hB;refine callsD_of_wpS Tryz.func376 rfl λde cs hu=>?_;apply wpS_seq;apply wpS_region;simp[wpOpsS,go_sem,recoverD,hu,Tryz.ntmps376,Exit.thenS];rw[show(#[Pv b]++((jy 16 undef).setIfInBounds 3 G).setIfInBounds 0 G)=#[Pv b,G,undef,undef,G,undef,undef,undef,undef,undef,undef,undef,undef,undef,undef,undef,undef]from rfl];obtain⟨CS,yM⟩:∃CS:List Frame,CS=({fn:=de.fn,tmps:=de.tmps,todo:=de.todo,defers:=de.defers,mode:=FrameMode.panicking [{v:=G,recovered:=true}],kind:=de.kind,roundOf:=de.roundOf}::cs):=⟨_,rfl⟩;rw[<-yM];refine wpS_of_wp ?_;subst hG;obtain⟨rfl,rfl⟩|⟨ta,xa,tb,xb,rfl,rfl⟩:=hv
 all_goals(
 go_wp2_with fail;refine⟨rfl,_,yM,.tuple #[],by simp[results,Tryz.results376,go_sem],rfl,rfl,?_,?_⟩
 .exact((B0.Mu rfl _ _ _ _ _).alloc _)
 .exact(((((Fr.refl (λi=>i=b) w).set (b:=b) (jc rfl) 0 _).set (jc rfl) 1 _).set (jc rfl) 2 _).set (jc rfl) 3 _).set (jc rfl) 4 _|>.trans (Fr.of<|bw _))
def abb b:
 CallsD qc 376 #[Pv b] .returning w λe u' w'=>
  e=.returned (.tuple #[])/\u'=.returning/\w'=w:=by
 refine callsD_of_wpS Tryz.func376 rfl λde cs hu=>?_;apply wpS_seq;apply wpS_region;simp[wpOpsS,go_sem,recoverD,hu,Tryz.ntmps376,Exit.thenS];rw[show(#[Pv b]++((jy 16 undef).setIfInBounds 3 Zv).setIfInBounds 0 Zv)=#[Pv b,Zv,undef,undef,Zv,undef,undef,undef,undef,undef,undef,undef,undef,undef,undef,undef,undef]from rfl];have yM:de::cs={de with mode:=.returning}::cs:=(by cases de;simp at hu;subst hu;rfl);refine wpS_of_wp ?_
 go_wp2
 exact⟨rfl,_,yM,.tuple #[],by simp[results,Tryz.results376,go_sem],rfl,rfl,rfl⟩
end Go.Proofs.YtfnkchdeheeiiaaGreatDoor

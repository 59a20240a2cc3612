import Derived.Laws.EntriesVeiled
import Derived.Test.YtopmodaakdnliaaGreatDoorCQa
import Derived.Test.YtopmodaakdnliaaGreatDoorCPl
import Derived.Test.YtopmodaakdnliaaGreatDoorCAa
set_option linter.all false
set_option maxRecDepth 100000
set_option maxHeartbeats 10000000
namespace Go.Proofs.YtopmodaakdnliaaGreatDoor
open _root_.List renaming getElem?_eq_getElem->ja,not_mem_nil->jc,getElem_mem->jd,mem_cons->jf,take_append_drop->jh,take_length->ji,cons_append->jj,map_append->jk,getElem?_append_right->jl,getElem?_append_left->jm,append_assoc->jo,nil_append->jq,append_nil->jt
open Go.ByteArray renaming toList_eq->ju
open Go.World renaming cell?_of_block->jv
open _root_.Nat renaming le_trans->jx,lt_of_lt_of_le->jy,zero_le->jz
open Or renaming inr->j3,inl->j5
open Go.Instr renaming typeAssert->j6
open Un renaming xU->j7,seen->j8
open Go.RowKit.Below renaming refl->j9
open Bx renaming new->qd,«at»->qe
open Go.Proofs.Tryz renaming prog->qf
open _root_.Array renaming replicate->qg,getD_eq_getD_getElem?->qh
open Go Go.RowKit Proofs.Tryz
variable {last s t:BA} {F:BA->Option Nat} {S:List Ms.Sk} {L:List Nd} {l:List UInt8} {B b cb mb n nb pb:Nat} {P Q:Nat->Prop} {a nd:Nd} {T:Un.Ty} {bv mv v:Value} {w w':World}
section
open Go.ChangeMaps
def MV'.af(h:MV' w v F)(k:Bq w w'):MV' w' v F:=by
 obtain h|⟨b,rfl,h⟩:=h
 .exact j5 h
 .exact j3 ⟨b,rfl,h.below k⟩
def PTC nd:=∀(w:World)(cb tb mb lb:Nat)(ty mk:BA->Option Nat)(lo:BA->Nat)(P:Nat->Prop)(v ov:Value)(F:BA->Option Nat),CK w cb tb mb lb ty mk lo->PT w P nd v->MV' w ov F->okT ty F nd=true->nn nd<=5000->
 Cq 177 #[cp cb,v,ov] w λe w'=>e=.returned (.tuple #[])/\Bq w w'
def KI{ty F:BA->Option Nat}:∀{L:List Nd},MX ty F L=true->∀x∈L,okT ty F x=true
 |y::l,h,x,hx=>by
  simp only[MX,Bool.and_eq_true]at h;obtain rfl|q:=List.mem_cons.1 hx
  .exact h.1
  .exact KI h.2 x q
section
variable {tb lb:Nat} {ty mk:BA->Option Nat} {lo:BA->Nat} {ov:Value}
def Cs{sa}{sc}{vs:Nat->Value}(IH:∀x∈L,PTC x)(h:CK w cb tb mb lb ty mk lo)(aE:L=[]\/∃g,sa=some ⟨g,0,none⟩/\P g/\g<w.heap.size/\∀i,i<L.length->w.cell? ⟨g,i,none⟩=some (vs i))(hr:∀i(h:i<L.length),PT w P L[i]<|vs i)(ho:MV' w ov F)(hO:MX ty F L=true)(hn:cV L<=5000):
 Cq 123 #[cp cb,.slice sa L.length sc,ov] w λe w'=>e=.returned (.tuple #[])/\Bq w w':=by
 have hL:=Gr L;go_enter func123,ntmps123
 go_wp2
 go_loopg[10] L.length (λgk c wr=>∃j:Nat,Hid (gk=L.length-j)/\j<=L.length/\c=Nv j/\Bq w wr)
 case atStart=>exact⟨0,ai rfl,jz _,rfl,j9 _ _⟩
 case round=>
  obtain⟨j,bE,hj,rfl,hb⟩:=hrel;by_cases aZ:j<L.length
  .have hd:(j:Int)<(L.length:Int):=ae;obtain⟨g,rfl,-,mn,hc⟩:=aE.resolve_left λe=>by subst e;simp at aZ
   have hcj:=(jv (a:=⟨g,j,none⟩)<|hb.block g mn).trans<|hc j aZ;have HC:=IH L[j] (jd aZ) _ cb tb mb lb ty mk lo P (vs j) ov F (h.af hb) ((hr j aZ).af hb) (ho.af hb) (KI hO _<|jd aZ) (by have:=xV<|jd aZ;omega);go_wp2_with fail;refine HC.mono ?_;rintro e w2⟨rfl,k2⟩;have K2:=hb.trans<|k2.mono hb.size
   go_wp2
   go_roundg(L.length-(j+1))
   case measure=>rw[uh bE];omega
   case rel=>exact⟨j+1,ai rfl,ae,d_,K2⟩
  .have hd:decide ((j:Int)<(L.length:Int))=false:=bi
   go_wp2
   go_end0;exact⟨rfl,hb⟩
def Yn:∀nd,PTC nd:=by
 refine Nd.ind ?_;intro k s n L fr t a IH w cb tb mb lb ty mk lo P v ov F h hx ho hO hN;have Ml:=ai IH;simp only[okT,Bool.and_eq_true]at hO;simp only[nn]at hN;clear IH
 cases hx with
 |var _ _ _ _ _ x y hq Em hy'=>
  have HC:=λW(k:Bq w W)=>afN (ho.af k)<|s.extract 1 s.size;have hb:=(j9 w.heap.size w).alloc (br _)<|Cv #[Iv x,Iv y,Sv<|s.extract 1 s.size] 257;have HF:(F<|s.extract 1 s.size).isSome=true:=by simpa using hO.1
  have⟨c1,f1,y1⟩:=Bx.new w #[Iv x,Iv y,Sv<|s.extract 1 s.size] 257;have HC:=ai<|HC _ hb;have HB:=ai hb;clear hb hO h ho Em hy';go_enter func177,ntmps177;go_wp2_with fail;refine HC.mono ?_;rintro e w1⟨rfl,rfl⟩;rw[HF]
  go_wp2
  go_end0;exact⟨rfl,HB⟩
 |fn _ _ p q _ _ _ x y va vb ha hb|pr _ _ p q _ _ _ x y va vb ha hb=>
  obtain⟨t1,x1,rfl⟩:=ha.iface;obtain⟨t2,x2,rfl⟩:=hb.iface;simp only[MX,Bool.and_eq_true,cV]at hO hN;have HC:=λW(k:Bq w W)=>Ml p ah W cb tb mb lb ty mk lo P _ ov F (h.af k) (ha.af k) (ho.af k) hO.2.1 ae;have HD:=λW(k:Bq w W)=>Ml q ah W cb tb mb lb ty mk lo P _ ov F (h.af k) (hb.af k) (ho.af k) hO.2.2.1 ae;have B1:=λT=>ai<|Bx.new w #[Iv x,Iv y,Fv t1<|Av x1,Fv t2<|Av x2] T;have HB:=λT=>ai<|(Below.refl w.heap.size w).alloc (br _)<|Cv #[Iv x,Iv y,Fv t1<|Av x1,Fv t2<|Av x2] T;have c1:=λT=>(B1 T).c;clear ha hb hO h ho Ml;go_enter func177,ntmps177;go_wp2_with fail;refine(HC _<|HB _).mono ?_;rintro e w2⟨rfl,k2⟩;have K2:=ai<|(uh<|HB _).trans<|k2.mono (HB _).size;have c2:=((B1 _).below k2).c;clear c1;go_wp2_with fail;refine(HD _ K2).mono ?_;rintro e w3⟨rfl,k3⟩;have K3:=ai<|(uh K2).trans<|k3.mono K2.size
  go_wp2
  go_end0;exact⟨rfl,K3⟩
 |up _ _ _ _ _ _ x y x' y' sa sc vs hu aE hr Em hy'=>
  have hty:ty s=some L.length:=by simpa using hO.1
  have HC:=λW(k:Bq w W)=>Cs (sa:=sa) (sc:=sc) (vs:=vs) (P:=P) (λx hx=>Ml x hx) (h.af k) (by
   obtain q|⟨g,e,q1,q2,q3⟩:=aE
   .exact j5 q
   .exact j3 ⟨g,e,q1,jy q2 k.size,λi hi=>(jv (a:=⟨g,i,none⟩)<|k.block g q2).trans<|q3 i hi⟩) (λi hi=>(hr i hi).af k) (ho.af k) hO.2 ae
  have HT:=λW(k:Bq w W)=>Th (v:=Mv tb) (Or.inr ⟨tb,rfl,(h.af k).t⟩) hty;have HB:=ai<|(Below.refl w.heap.size w).alloc (br _)<|Cv #[Iv x,Iv y,Iv x',Iv y',Sv s,Lv sa L.length sc] 299;have B1:=ai<|Bx.new w #[Iv x,Iv y,Iv x',Iv y',Sv s,Lv sa L.length sc] 299;have⟨c1,f1,y1⟩:=uh B1;have⟨c2,f2,y2⟩:=(h.af HB).bx;clear aE hr hO h ho Ml Em hy';go_enter func177,ntmps177
  go_wp2
  go_region_with(go_at_call 207;refine(HT _ HB.drew).mono ?_;rintro e w2⟨rfl,rfl⟩)
  all_goals(
   go_wp2_with fail;refine(HC _ HB.drew).mono ?_;rintro e w3⟨rfl,k3⟩;have K3:=ai<|HB.drew.trans<|k3.mono HB.drew.size
   go_wp2
   go_end0
   exact⟨rfl,K3⟩)
end
end
namespace Ms
def IM:List Nd->List Sk->List So->Prop
 |[],[],[]=>True|x::xs,s::ss,t::ts=>In.Pt x s t/\IM xs ss ts|_,_,_=>False
def Y4(h:IM L S []):L=[]/\S=[]:=by
 cases L<;>cases S<;>first|exact⟨rfl,rfl⟩|exact h.elim
def ag7{a c:So}(h:IM L S [a,c]):∃x y p q,L=[x,y]/\S=[p,q]/\In.Pt x p a/\In.Pt y q c:=by
 cases L with
 |nil=>cases S<;>exact h.elim|cons x L=>
  cases S with
  |nil=>exact h.elim|cons p S=>
   obtain⟨h1,h⟩:=h
   cases L with
   |nil=>cases S<;>exact h.elim|cons y L=>
    cases S with
    |nil=>exact h.elim|cons q S=>
     obtain⟨h2,h⟩:=h;obtain⟨rfl,rfl⟩:=Y4 h;exact⟨x,y,p,q,rfl,rfl,h1,h2⟩
def Vg(w:World)(P:Nat->Prop)(L:List Nd)(sa:Option Addr):=∃vs:Nat->Value,(L=[]\/∃g,sa=some ⟨g,0,none⟩/\P g/\g<w.heap.size/\∀i,i<L.length->w.cell? ⟨g,i,none⟩=some (vs i))/\∀i(h:i<L.length),PP w P L[i]<|vs i
def Vg.af{w w':World}{P:Nat->Prop}{L:List Nd}{sa:Option Addr}(h:Vg w P L sa)(k:Bq w w'):Vg w' P L sa:=by
 obtain⟨vs,h1,h2⟩:=h;refine⟨vs,h1.imp id λ⟨g,e,p,z,c⟩=>⟨g,e,p,jy z k.size,λi hi=>?_⟩,λi hi=>(h2 i hi).af k⟩;rw[jv (a:=⟨g,i,none⟩)<|k.block g z];exact c i hi
def ajQ(P:Nat->Prop)(s:Sk)(t:So)(w:World)(e:Ending)(w':World):=∃nd v,e=.returned v/\PP w' P nd v/\In.Pt nd s t/\Bq w w'
structure Wr(w:World)(t:So)(fw:FuncId)(cw:Array Value):Prop where
 cf:∀(args:Array Value)(w':World),(callFunc fw args).run qf w'=.ok (.enter fw args) w'
 sh:cw=#[]\/∃b,cw=#[Pv b]
 wr:∀n S,NH t n->∀w',Bq w w'->∀(P:Nat->Prop)L sa sc,IM L S (iR t n)->Vg w' P L sa->Cq fw (#[Nv n,.slice sa L.length sc]++cw) w' (ajQ P (.hd t n S) t w')
def Wr.af{t:So}{fw:FuncId}{cw:Array Value}(h:Wr w t fw cw)(k:Bq w w'):Wr w' t fw cw:=⟨h.cf,h.sh,λn S hn w2 k2=>h.wr n S hn w2<|k.trans<|k2.mono k.size⟩
def VaW(w:World)(kb:Nat):=∀t,∃fp pb fw cw,Kd w kb t fp pb fw cw/\Wr w t fw cw
def VaW.m{kb:Nat}(h:VaW w kb):VaM w kb:=λt=>by have⟨a,b,c,d,q,_⟩:=h t;exact⟨a,b,c,d,q⟩
def VaW.af{w w':World}{kb:Nat}(h:VaW w kb)(k:Bq w w'):VaW w' kb:=λt=>by have⟨a,b,c,d,q,r⟩:=h t;exact⟨a,b,c,d,q.af k,r.af k⟩
def ajR(w:World):Wr w .b 56 #[] where
 cf _ _:=qkr
 sh:=.inl rfl
 wr n S hn w' _ P L sa sc hL _:=by
  have hn:n<2:=hn 2 rfl;obtain⟨rfl,rfl⟩:=Y4<|show IM L S []from hL;refine(IP n<|Lv sa 0 sc).mono ?_;rintro e w2⟨rfl,rfl⟩;obtain rfl|rfl:n=0\/n=1:=ae
  .exact⟨.mk 4 ⟨#[102,97,108,115,101]⟩ 0 [] 0 0 0,_,rfl,(by have:=PP.word (w:=w2) (P:=P) ⟨#[102,97,108,115,101]⟩ 0 0 0 0<|.inr rfl;simpa[ju]using this),.Hv false 0 0 0 0,j9 _ _⟩
  .exact⟨.mk 4 ⟨#[116,114,117,101]⟩ 0 [] 0 0 0,_,rfl,(by have:=PP.word (w:=w2) (P:=P) ⟨#[116,114,117,101]⟩ 0 0 0 0<|.inl rfl;simpa[ju]using this),.Hv true 0 0 0 0,j9 _ _⟩
def amu(w:World):Wr w .i 58 #[] where
 cf _ _:=qkr
 sh:=.inl rfl
 wr n S hn w' _ P L sa sc hL _:=by
  obtain⟨rfl,rfl⟩:=Y4<|show IM L S []from hL;refine(B7 (n:Int)<|Lv sa 0 sc).mono ?_;rintro e w2⟨rfl,rfl⟩;exact⟨.mk 3 ⟨#[]⟩ n [] 0 0 0,_,rfl,PP.num ⟨#[]⟩ n 0 0 0,.num ⟨#[]⟩ n 0 0 0,j9 _ _⟩
def ajS(w:World):Wr w .p 59 #[] where
 cf _ _:=qkr
 sh:=.inl rfl
 wr n S hn w' _ P L sa sc hL hr:=by
  obtain rfl:n=0:=by have:=hn 1 rfl;omega
  obtain⟨x,y,p,q,rfl,rfl,h1,h2⟩:=ag7<|show IM L S [.l,.b]from hL
  .obtain⟨vs,aE,hp⟩:=hr;obtain⟨g,rfl,_,_,hc⟩:=aE.resolve_left ah;have p0:=hp 0 ah;have p1:=hp 1 ah;have⟨tx,ex,e0⟩:=p0.iface;have⟨ty,ey,e1⟩:=p1.iface;have c0:=hc 0 ah;have c1:=hc 1 ah;rw[e0]at c0 p0;rw[e1]at c1 p1;refine(IQ (vc:=sc) c0 c1).mono ?_;rintro e w2⟨rfl,k⟩;exact⟨.mk 6 ⟨#[]⟩ 0 [x,y] 0 0 0,_,rfl,PP.pr ⟨#[]⟩ 0 x y 0 0 0 _ _ (p0.af k)<|p1.af k,.pr ⟨#[]⟩ 0 0 0 0 h1 h2,k⟩
end Ms
section
open Go.ChangeMaps Un
mutual
def wT:Nd->Nat->List UInt8
 |.mk k s _ L _ _ _=>if k=16 then λ_=>s.toList else bz (w_ k s) (wTL L)
def wTL:List Nd->List (Nat->List UInt8)
 |[]=>[]|x::l=>wT x::wTL l
end
def sep(last:BA):List UInt8:=if last.toList=[]\/last.toList=[40]then[]else[32]
def tS(t:BA):Prop:=t.toList≠[]/\t.toList≠[40]
def eO(h:tS t):sep t=[32]:=by rw[sep];rw[if_neg (by intro q;exact q.elim h.1 h.2)]
def jF(h1:t.toList≠[41])(h2:t.toList≠[44])(h3:t.toList≠[59]):dh l last t=l++(sep last++t.toList):=by
 rw[dh,spB,sep];rw[show t.data.toList=t.toList from(ju t).symm];by_cases q1:last.toList=[]
 .simp[q1,h1,h2,h3]
 .grind
def oZ(h:t.toList=[41]\/t.toList=[44]):dh l last t=l++t.toList:=by
 rw[dh,spB];rw[show t.data.toList=t.toList from(ju t).symm];obtain h|h:=h<;>simp[h]
def NQ w pb(Q:Nat->Prop):=∀b,Q b->b<w.heap.size/\b≠pb/\Il w b
def NQ.fn{B pb}{w w'}{Q}(h:NQ w pb Q)(hf:FN B pb w w'):NQ w' pb Q:=λb q=>⟨jy (h b q).1 hf.size,(h b q).2.1,(h b q).2.2.fn (h b q).1 (h b q).2.1 hf⟩
inductive lC(w:World)(P:Nat->Prop):Nd->Value->Prop where
 |var(s:BA)(n f t a:Nat)(x y:Int)(hq:∃r,s.toList=39::r):lC w P (.mk 16 s n [] f t a) (.iface 257<|.agg #[Iv x,Iv y,.string<|s.extract 1 s.size])
 |fn(s:BA)(n:Nat)(a b:Nd)(f t at_:Nat)(x y:Int)(va vb:Value)(ha:lC w P a va)(hb:lC w P b vb):lC w P (.mk 17 s n [a,b] f t at_) (.iface 297<|.agg #[Iv x,Iv y,va,vb])
 |pr(s:BA)(n:Nat)(a b:Nd)(f t at_:Nat)(x y:Int)(va vb:Value)(ha:lC w P a va)(hb:lC w P b vb):lC w P (.mk 6 s n [a,b] f t at_) (.iface 301<|.agg #[Iv x,Iv y,va,vb])
 |up(s:BA)(n:Nat)(L:List Nd)(f t at_:Nat)(x y x' y':Int)(sa:Option Addr)(sc:Nat)(vs:Nat->Value)(hu:m0 s)(aE:L=[]\/∃g,sa=some ⟨g,0,none⟩/\P g/\g<w.heap.size/\∀i,i<L.length->w.cell? ⟨g,i,none⟩=some (vs i))(hr:∀i(h:i<L.length),lC w P L[i]<|vs i):
  lC w P (.mk 2 s n L f t at_) (.iface 299<|.agg #[Iv x,Iv y,Iv x',Iv y',.string s,.slice sa L.length sc])
theorem lC.move(h:lC w P nd v)(hs:w.heap.size<=w'.heap.size)(hb:∀b,P b->b<w.heap.size->w'.heap[b]? =w.heap[b]?)(hq:∀b,P b->b<w.heap.size->Q b):lC w' Q nd v:=by
 induction h with
 |var s n f t a x y hq=>exact .var s n f t a x y hq|fn s n a b f t at_ x y va vb _ _ Yp Yq=>exact .fn s n a b f t at_ x y va vb Yp Yq|pr s n a b f t at_ x y va vb _ _ Yp Yq=>exact .pr s n a b f t at_ x y va vb Yp Yq|up s n L f t at_ x y x' y' sa sc vs hu aE hr ih=>
  refine .up s n L f t at_ x y x' y' sa sc vs hu ?_ ih;obtain h0|⟨g,h1,hP,hz,hc⟩:=aE
  .exact j5 h0
  .refine j3 ⟨g,h1,hq g hP hz,jy hz hs,λi hi=>?_⟩;rw[jv (a:=⟨g,i,none⟩) (w:=w)<|hb g hP hz];exact hc i hi
def lC.af(h:lC w P nd v)(hb:Bq w w'):lC w' P nd v:=h.move hb.size (λb _ hz=>hb.block b hz)<|λ_ p _=>p
def lC.wide(h:lC w P nd v)(hq:∀b,P b->Q b):lC w Q nd v:=h.move (br _) (λ_ _ _=>rfl)<|λb p _=>hq b p
def lC.fr{S}(h:lC w P nd v)(hf:Fr S w w')(hS:∀b,P b->b<w.heap.size->¬S b):lC w' P nd v:=h.move hf.size (λb p z=>hf.block b z<|hS b p z)<|λ_ p _=>p
def lC.iface(h:lC w P a v):∃t x,v=.iface t (.agg x):=by
 cases h<;>exact⟨_,_,rfl⟩
def lC.cG(h:lC w P a v):∃t x,v=.iface t (.agg x):=h.iface
def lC.fnQ(h:lC w Q nd v)(hq:NQ w pb Q)(hf:FN B pb w w'):lC w' Q nd v:=h.move hf.size (λb p z=>hf.block b z (hq b p).2.1<|j3 (hq b p).2.2)<|λ_ p _=>p
def gR B pb mv txt w(e:Ending)w':=
 e=.returned (.tuple #[])/\∃Ee vD,PN w' B pb Ee txt vD mv/\tS vD/\FN B pb w w'
def AtC nd:=∀(w:World)(B pb:Nat)(bv:Value)(l:List UInt8)(last:BA)(mv:Value)(Q:Nat->Prop)(v:Value)(k:Nat),PN w B pb bv l last mv->lC w Q nd v->NQ w pb Q->k<=2->(l++(sep last++wT nd k)).length<=800000->B<=pb->
 Cq 52 #[Pv pb,v,Nv k] w (gR B pb mv (l++(sep last++wT nd k)) w)
def yB nd:=∀(w:World)(B pb:Nat)(bv:Value)(l:List UInt8)(last:BA)(mv:Value)(Q:Nat->Prop)(v:Value),PN w B pb bv l last mv->lC w Q nd v->NQ w pb Q->(l++(sep last++wT nd 0)).length<=800000->B<=pb->
 Cq 95 #[Pv pb,v] w (gR B pb mv (l++(sep last++wT nd 0)) w)
def rk:Nd->Nat
 |.mk k _ _ L _ _ _=>if k=17 then 0 else if k=2/\L≠[]then 1 else 2
def Jc{p:Prop}(h:p:=by
 go_enter func93,ntmps93
 go_wp2
 go_ret
 exact⟨by simp[rk],(j9 _ _)⟩):p:=h
def Yr(h:lC w Q nd v):Cq 93 #[v] w λe w'=>e=.returned (Nv<|rk nd)/\Bq w w':=by
 cases h with
 |var s n f t a x y hq=>
  exact Jc
 |fn s n a b f t at_ x y va vb ha hb=>
  obtain⟨ta,xa,rfl⟩:=ha.cG;obtain⟨tb,xb,rfl⟩:=hb.cG;go_enter func93,ntmps93
  go_wp2
  go_ret;exact⟨by simp[rk],bw _⟩
 |pr s n a b f t at_ x y va vb ha hb=>
  obtain⟨ta,xa,rfl⟩:=ha.cG;obtain⟨tb,xb,rfl⟩:=hb.cG;exact Jc
 |up s n L f t at_ x y x' y' sa sc vs hu aE hr=>
  by_cases hL:L=[]
  .have h3:decide ((0:Int)<(L.length:Int))=false:=by simp[hL]
   go_enter func93,ntmps93
   go_wp2
   go_ret;exact⟨by simp[rk,hL],bw _⟩
  .have h3:(0:Int)<(L.length:Int):=by have:=List.length_pos_iff.2 hL;omega
   go_enter func93,ntmps93
   go_wp2
   go_ret;exact⟨by simp[rk,hL],bw _⟩
def agM s n L c f t a k(hc:c=16\/c=17\/c=6\/(c=2/\m0 s))(hk:k<=2):wT (.mk c s n L f t a) k=j7 (decide (rk (.mk c s n L f t a)<k)) (wT (.mk c s n L f t a) 0):=by
 have hpf:∀x,j7 false x=x:=λx=>rfl;have hup:m0 s->s≠pH/\s≠o6:=λh=>⟨λe=>cz h 62 [] aA (by rw[e];exact toList_mk [62]),λe=>cz h 44 [] aA (by rw[e];exact toList_mk [44])⟩;obtain rfl|rfl|rfl|⟨rfl,hu⟩:=hc
 .have hr:decide (rk (.mk 16 s n L f t a)<k)=false:=by simp[rk];omega
  rw[hr,hpf];simp[wT]
 .have hr:decide (rk (.mk 17 s n L f t a)<k)=decide (0<k):=by simp[rk]
  rw[hr];simp only[wT,w_,if_true,show ¬(17=16) by decide,if_false,bz];rfl
 .have hr:decide (rk (.mk 6 s n L f t a)<k)=false:=by simp[rk];omega
  rw[hr,hpf];simp only[wT,w_,show ¬(6=16) by decide,show ¬(6=17) by decide,if_false,if_true,bz];have cJ:¬o6=pH:=Mn;rw[if_neg cJ,if_neg cJ]
 .have⟨h1,h2⟩:=hup hu;have hle:(wTL L).isEmpty=L.isEmpty:=by cases L<;>simp[wTL]
  simp only[wT,w_,show ¬(2=16) by decide,show ¬(2=17) by decide,show ¬(2=6) by decide,if_false,bz,if_neg h1,if_neg h2,hle];have hr:decide (rk (.mk 2 s n L f t a)<k)=(decide (1<k)&& !L.isEmpty):=by
   cases L with
   |nil=>simp[rk];omega|cons x l=>simp[rk]
  rw[hr];rfl
def KN':Nd->Prop
 |.mk c s _ _ _ _ _=>c=16\/c=17\/c=6\/(c=2/\m0 s)
def lC.kn(h:lC w Q nd v):KN' nd:=by
 cases h with
 |var=>exact j5 rfl|fn=>exact j3 (j5 rfl)|pr=>exact j3 (j3<|j5 rfl)|up=>exact j3<|j3<|j3 ⟨rfl,qas⟩
def o_{p:Prop}(h:p:=by
 intro e w1 BH;have UP:=BH;obtain⟨rfl,_⟩:=BH
 go_wp2
 go_end0
 exact UP):p:=h
def Ys(HB:yB nd)(h:PN w B pb bv l last mv)(hp:lC w Q nd v)(hq:NQ w pb Q)(hl:(l++(sep last++wT nd 0)).length<=800000)(hB:B<=pb)b1 b2(h1:Bx w b1 #[Pv pb])(h2:Bx w b2 #[v]):
 Cq 94 #[Pv b1,Pv b2] w (gR B pb mv (l++(sep last++wT nd 0)) w):=by
 obtain⟨tv,xv,rfl⟩:=hp.cG;obtain⟨c1,f1,z1⟩:=h1;obtain⟨c2,f2,z2⟩:=h2;have HC:=HB w B pb bv l last mv Q _ h hp hq hl hB;go_enter func94,ntmps94;go_wp2_with fail;refine HC.mono ?_;exact o_
def Im{W w1}(h:Bq W.drew w1):Bq W w1:=((j9 W.heap.size W).drew).trans h
abbrev dE:BA:=⟨#[40]⟩
abbrev dx:BA:=⟨#[41]⟩
def lD:sep dE=[]:=by rw[sep];rw[if_pos<|j3<|toList_mk [40]]
def FN.eP{w}(hf:FN B pb w w'){C}(h:Bx w b C)(hp:b≠pb)(hx:∀x,C[0]? =some x->∀c,x≠.int .u8 c):Bx w' b C:=h.fn hp (j3<|h.nby hx) hf
def Je{p:Prop}(h:p:=by
 have:=jF (l:=l) (last:=last) (t:=dE) qAm qAm qAm
 rw[this,show dE.toList=[40]from toList_mk [40]]):p:=h
def adr(HB:yB nd)k(hk:k<=2)(h:PN w B pb bv l last mv)(hp:lC w Q nd v)(hq:NQ w pb Q)(hl:(l++(sep last++wT nd k)).length<=800000)(hB:B<=pb)b1 b2(h1:Bx w b1 #[Pv pb])(h2:Bx w b2 #[v])(n1:b1≠pb)(n2:b2≠pb):
 Cq 92 #[Pv pb,.bool<|decide (rk nd<k),.func (.func 94) #[] #[Pv b1,Pv b2]] w (gR B pb mv (l++(sep last++wT nd k)) w):=by
 have hw:wT nd k=j7 (decide (rk nd<k)) (wT nd 0):=by
  obtain⟨c,s,n,L,f,t,a⟩:=nd;exact agM s n L c f t a k hp.kn hk
 rw[hw]at hl⊢;obtain⟨tv,xv,rfl⟩:=hp.cG
 cases hd:decide (rk nd<k)with
 |false=>
  rw[hd]at hl;have hl':=hl;have HC:=Ys HB h hp hq hl' hB b1 b2 h1 h2;go_enter func92,ntmps92;go_wp2_with fail;refine HC.mono ?_;exact o_
 |true=>
  rw[hd]at hl;have ame:j7 true (wT nd 0)=40::(wT nd 0++[41]):=rfl;rw[ame]at hl⊢;simp only[de,dr,eF]at hl;have Qu:=h.lt;have b8:Bq w (w.alloc<|Cv #[Sv dE] 9):=bw _;have HP:=pU (h.af b8) dE aA ae w.heap.size (qd w #[Sv dE] 9) ae;have Ef:dh l last dE=l++(sep last++[40]):=by
   exact Je
  rw[Ef]at HP;go_enter func92,ntmps92;go_wp2_with fail;refine HP.mono ?_;rintro e w1⟨rfl,UQ,N1,F1⟩;have FA:=(FN.of (B:=B) (pb:=pb) b8).trans F1;have X1:=FA.eP h1 n1 BI;have X2:=FA.eP h2 n2 BI;have HC:=Ys HB N1 (hp.fnQ hq FA) (hq.fn FA) (by simp only[dr,de,eF,lD];omega) hB b1 b2 X1 X2;have hs1:sep dE=[]:=by rw[sep];rw[if_pos<|Or.inr<|toList_mk [40]]
  rw[hs1]at HC;go_wp2_with fail;refine HC.mono ?_;rintro e w2⟨rfl,Bo,m5,N2,Qv,F2⟩;have ajB:=N2.lt;have mq:Bq w2 (w2.alloc<|Cv #[Sv dx] 9):=bw _;have HP2:=pU (N2.af mq) dx aA (by simp only[dr,de,eF,lD];omega) w2.heap.size (qd w2 #[Sv dx] 9) ae;rw[oZ<|j5<|toList_mk [41],show dx.toList=[41]from toList_mk [41]]at HP2;go_wp2_with fail;refine HP2.mono ?_;rintro e w3⟨rfl,XL,N3,F3⟩
  go_wp2
  go_end0;refine⟨rfl,XL,dx,?_,⟨by rw[show dx.toList=[41]from toList_mk [41]];decide,by rw[show dx.toList=[41]from toList_mk [41]];decide⟩,(FA.trans F2).trans<|(FN.of mq).trans F3⟩;have e9:l++(sep last++[40])++([]++wT nd 0)++[41]=l++(sep last++40::(wT nd 0++[41])):=ah;rw[<-e9];exact N3
def Qw{c}(h:m0 c):tS c:=⟨λe=>(by obtain⟨x,r,h1,_⟩:=h;rw[h1]at e;cases e),cz h 40 [] aA⟩
abbrev nF:BA:=⟨#[45,62]⟩
abbrev yD:BA:=⟨#[44]⟩
def Qx:∀L:List Nd,wTL L=L.map wT
 |[]=>rfl|x::l=>by simp[wTL,Qx l]
def Eg t:(sep t).length<=1:=by rw[sep];split<;>simp
def Yt B pb mv l(L:List Nd)w gk v wr:=
 ∃(j:Nat)(Ee:Value)(vD:BA),Hid (gk=L.length-j)/\j<=L.length/\v=Nv j/\PN wr B pb Ee (l++((L.take j).map wT).flatMap λp=>32::p 2) vD mv/\tS vD/\FN B pb w wr
def Jh{p:Prop}(h:p:=by
 rw[List.take_add_one,ja h]
 simp only[jk,List.flatMap_append,Option.toList_some,List.map_cons,List.map_nil,List.flatMap_cons,List.flatMap_nil,jt]):p:=h
def UR(L:List Nd)j(h:j<L.length):(((L.take<|j+1).map wT).flatMap λp=>32::p 2)=(((L.take j).map wT).flatMap λp=>32::p 2)++32::wT L[j] 2:=by
 exact Jh
def ads(L:List Nd)j:(((L.take j).map wT).flatMap λp=>32::p 2).length<=((L.map wT).flatMap λp=>32::p 2).length:=by
 have e:((L.map wT).flatMap λp=>32::p 2)=(((L.take j).map wT).flatMap λp=>32::p 2)++(((L.drop j).map wT).flatMap λp=>32::p 2):=by
  rw[<-List.flatMap_append,<-jk,jh]
 rw[e,dr];omega
def adt s(hu:m0 s)(Yu:s.size<=1000)x y L sa sc(vs:Nat->Value)(hL:L.length<=1001)(h:PN w B pb bv l last mv)(hq:NQ w pb Q)(hB:B<=pb)(aE:L=[]\/∃g,sa=some ⟨g,0,none⟩/\Q g/\g<w.heap.size/\∀i,i<L.length->w.cell? ⟨g,i,none⟩=some (vs i))(hr:∀i(h:i<L.length),lC w Q L[i]<|vs i)(IH:∀i(h:i<L.length),AtC L[i])(hl:(l++(sep last++(s.toList++(L.map wT).flatMap λp=>32::p 2))).length<=800000):
 Cq 130 #[Pv pb,.agg #[Iv x,Iv y,.string s],.slice sa L.length sc] w (gR B pb mv (l++(sep last++(s.toList++(L.map wT).flatMap λp=>32::p 2))) w):=by
 have Qu:=h.lt;have hsl:=Eg last;simp only[dr]at hl;have b8:Bq w ((w.alloc<|Cv #[Iv x,Iv y,Sv s] 71).alloc<|Cv #[Sv s] 9):=(bw _).alloc ah _;have BX:Bx ((w.alloc<|Cv #[Iv x,Iv y,Sv s] 71).alloc<|Cv #[Sv s] 9) (w.heap.size+1) #[Sv s]:=by have:=qd (w.alloc<|Cv #[Iv x,Iv y,Sv s] 71) #[Sv s] 9;simpa using this
 have HP:=pU (h.af b8) s ae ae (w.heap.size+1) BX ae;rw[jF (cz hu 41 [] aA) (cz hu 44 [] aA)<|cz hu 59 [] aA]at HP;have F0:=FN.of (B:=B) (pb:=pb) b8;have Yv:s.toList.length=s.size:=by rw[ju];simp
 go_enter func130,ntmps130;go_wp2_with fail;refine HP.mono ?_;rintro e w1⟨rfl,UQ,N1,F1⟩;have FA:=F0.trans F1
 go_wp2
 go_loopg[15] L.length (λgk v wr=>Yt B pb mv (l++(sep last++s.toList)) L w gk v wr)
 case atStart=>exact⟨0,UQ,s,ai ah,jz _,rfl,by simpa using N1,Qw hu,FA⟩
 case round=>
  obtain⟨j,Bo,m5,bE,hj,rfl,N2,Qv,F2⟩:=hrel;by_cases aI:j<L.length
  .have hd:(j:Int)<(L.length:Int):=ae;obtain⟨g,rfl,hg,mn,bX⟩:∃g,sa=some ⟨g,0,none⟩/\Q g/\g<w.heap.size/\∀i,i<L.length->w.cell? ⟨g,i,none⟩=some (vs i):=by
    obtain h0|h0:=aE
    .subst h0;simp at aI
    .exact h0
   have cg:=(jv (a:=⟨g,j,none⟩)<|F2.block g mn (hq g hg).2.1<|j3 (hq g hg).2.2).trans<|bX j aI;have PJ:=(hr j aI).fnQ hq F2;have⟨tv,xv,hv⟩:=PJ.cG;have ft:=UR L j aI;have fl:=ads L<|j+1;rw[ft]at fl;simp only[dr,de]at fl;have HC:=IH j aI wr B pb Bo _ m5 mv Q (vs j) 2 N2 PJ (hq.fn F2) (br _) (by rw[eO Qv];simp only[dr,de,eF];omega) hB;rw[hv]at cg HC;rw[eO Qv]at HC;go_wp2_with(go_at_call 52;refine HC.mono ?_;rintro e w3⟨rfl,XL,Ct,Yw,fi3,hF3⟩;have HN3:=ai Yw;have HF3:=ai<|F2.trans hF3;clear Yw hF3);go_roundg(L.length-(j+1))
   case measure=>rw[uh bE];omega
   case rel=>
    refine⟨j+1,XL,Ct,ai rfl,ae,d_,?_,fi3,HF3⟩;rw[ft];have e9:l++(sep last++s.toList)++((((L.take j).map wT).flatMap λp=>32::p 2)++32::wT L[j] 2)=l++(sep last++s.toList)++(((L.take j).map wT).flatMap λp=>32::p 2)++([32]++wT L[j] 2):=ah;rw[e9];exact HN3
  .have hd:decide ((j:Int)<(L.length:Int))=false:=bi;have ej:j=L.length:=ae;subst ej;rw[ji]at N2
   go_wp2
   go_end0;refine⟨rfl,Bo,m5,?_,Qv,F2⟩;have e9:l++(sep last++(s.toList++(L.map wT).flatMap λp=>32::p 2))=l++(sep last++s.toList)++(L.map wT).flatMap λp=>32::p 2:=ah;rw[e9];exact N2
def adO(h:UT s):(⟨#[39]⟩:BA)++s.extract 1 s.size=s:=by
 obtain⟨r,hr⟩:=h;apply toList_inj;rw[hr];have h2:=xZ hr;rw[tl]at h2;rw[ju]at h2⊢;rw[ByteArray.data_append];simp only[Array.toList_append,h2];rfl
def Y8(h:UT s):tS s:=by grind[UT,tS]
def aha s n f t a k:wT (.mk 16 s n [] f t a) k=s.toList:=by simp[wT]
def ajY s n x y f t a:wT (.mk 17 s n [x,y] f t a) 0=wT x 1++([32,45,62,32]++wT y 0):=by
 simp only[wT,w_,show ¬(17=16) by decide,if_false,if_true,bz,wTL];rfl
def ajZ s n x y f t a:wT (.mk 6 s n [x,y] f t a) 0=40::(wT x 0++([44,32]++(wT y 0++[41]))):=by
 have cJ:¬o6=pH:=Mn;simp only[wT,w_,show ¬(6=16) by decide,show ¬(6=17) by decide,if_false,if_true,bz,if_neg cJ,wTL];rfl
def aj0 s(hu:m0 s)n L f t a:wT (.mk 2 s n L f t a) 0=s.toList++(L.map wT).flatMap λp=>32::p 2:=by
 have h1:s≠pH:=λe=>cz hu 62 [] aA (by rw[e];exact toList_mk [62]);have h2:s≠o6:=λe=>cz hu 44 [] aA (by rw[e];exact toList_mk [44]);simp only[wT,w_,show ¬(2=16) by decide,show ¬(2=17) by decide,show ¬(2=6) by decide,if_false,bz,if_neg h1,if_neg h2,Qx];rfl
def kH{r}(h:t.toList=r)(h1:r≠[])(h2:r≠[40]):tS t:=by grind[tS]
def Y9 s n f t a(Yu:s.size<=1000):yB (.mk 16 s n [] f t a):=by
 intro w B pb bv l last mv Q v h hp hq hl hB
 cases hp with
 |var s n f t a x y hqu=>
 rw[aha]at hl⊢;simp only[dr]at hl;have Qu:=h.lt;have Yv:s.toList.length=s.size:=by rw[ju];simp
 have b8:Bq w ((w.alloc<|Cv #[Iv x,Iv y,Sv<|s.extract 1 s.size] 257).alloc<|Cv #[Sv s] 9):=(bw _).alloc ah _;have BX:Bx ((w.alloc<|Cv #[Iv x,Iv y,Sv<|s.extract 1 s.size] 257).alloc<|Cv #[Sv s] 9) (w.heap.size+1) #[Sv s]:=by have:=qd (w.alloc<|Cv #[Iv x,Iv y,Sv<|s.extract 1 s.size] 257) #[Sv s] 9;simpa using this
 have HP:=pU (h.af b8) s ae ae (w.heap.size+1) BX ae;obtain⟨r,Hr⟩:=hqu;rw[jF (by rw[Hr];simp) (by rw[Hr];simp) (by rw[Hr];simp)]at HP;have F0:=FN.of (B:=B) (pb:=pb) b8;have ahb:=adO ⟨r,Hr⟩;go_enter func95,ntmps95;go_wp2_with fail;refine HP.mono ?_;rintro e w1⟨rfl,UQ,N1,F1⟩
 go_wp2
 go_end0;exact⟨rfl,UQ,s,N1,Y8 ⟨r,Hr⟩,F0.trans F1⟩
def adP s n L f t a(Yu:s.size<=1000)(hL:L.length<=1001)(IH:∀i(h:i<L.length),AtC L[i]):yB (.mk 2 s n L f t a):=by
 intro w B pb bv l last mv Q v h hp hq hl hB
 cases hp with
 |up s n L f t at_ x y x' y' sa sc vs hu aE hr=>
 rw[aj0 s hu]at hl⊢;have Yv:s.toList.length=s.size:=by rw[ju];simp
 have b8:Bq w (w.alloc<|Cv #[Iv x,Iv y,Iv x',Iv y',Sv s,Lv sa L.length sc] 299):=bw _;have F0:=FN.of (B:=B) (pb:=pb) b8
 have HC:=ai (adt (Q:=Q) s hu Yu x' y' L sa sc vs hL (h.af b8) (hq.fn F0) hB
  (aE.imp id λq=>by
   obtain⟨g,q1,q2,q3,q4⟩:=q
   exact⟨g,q1,q2,bi,λi hi=>(jv (a:=⟨g,i,none⟩)<|b8.block g q3).trans<|q4 i hi⟩)
  (λi hi=>(hr i hi).af b8) IH hl)
 go_enter func95,ntmps95;go_wp2_with fail;refine HC.mono ?_;rintro e w1⟨rfl,UQ,afS,N1,fi1,F1⟩
 go_wp2
 go_end0;exact⟨rfl,UQ,afS,N1,fi1,F0.trans F1⟩
def adQ s n a b f t at_(Ha:AtC a)(Hb:AtC b):yB (.mk 17 s n [a,b] f t at_):=by
 intro w B pb bv l last mv Q v h hp hq hl hB
 cases hp with
 |fn s n a b f t at_ x y va vb ha hb=>
 rw[ajY]at hl⊢;obtain⟨ta,xa,rfl⟩:=ha.cG;obtain⟨tb,xb,rfl⟩:=hb.cG;have Qu:=h.lt;have hsl:=Eg last;simp only[dr,de,eF]at hl;have⟨b8,XB⟩:=Hu w #[Iv x,Iv y,Fv ta<|Av xa,Fv tb<|Av xb] 297;have F0:=FN.of (B:=B) (pb:=pb) b8;have HC:=Ha _ B pb bv l last mv Q _ 1 (h.af b8) (ha.af b8) (hq.fn F0) ae (by simp only[dr];omega) hB;go_enter func95,ntmps95;go_wp2_with fail;refine HC.mono ?_;rintro e w1⟨rfl,UQ,afS,N1,fi1,F1⟩;have X1:=F1.eP XB ae BI;obtain⟨c1,f1,z1⟩:=X1;have anW:=N1.lt;have cU:Bq w1 (w1.alloc<|Cv #[Sv nF] 9):=bw _;have HP:=pU (N1.af cU) nF aA (by simp only[dr];omega) w1.heap.size (Bx.new w1 #[Sv nF] 9) ae;rw[jF (by rw[show nF.toList=[45,62]from toList_mk [45,62]];decide) (by rw[show nF.toList=[45,62]from toList_mk [45,62]];decide) (by rw[show nF.toList=[45,62]from toList_mk [45,62]];decide),show nF.toList=[45,62]from toList_mk [45,62],eO fi1]at HP;go_wp2_with fail;refine HP.mono ?_;rintro e w2⟨rfl,Bo,N2,F2⟩;have F12:=(FN.of (B:=B) (pb:=pb) cU).trans F2;have FA:=(F0.trans F1).trans F12;have X2:=(F1.trans F12).eP XB ae BI;obtain⟨c2,f2,z2⟩:=X2;have HD:=Hb w2 B pb Bo _ nF mv Q _ 0 N2 (hb.fnQ hq FA) (hq.fn FA) ae (by rw[eO<|kH (toList_mk [45,62]) aA aA];simp only[dr,de,eF];omega) hB;rw[eO<|kH (toList_mk [45,62]) aA aA]at HD
 go_wp2_with fail;refine HD.mono ?_;rintro e w3⟨rfl,XL,Ct,N3,fi3,F3⟩
 go_wp2
 go_end0;refine⟨rfl,XL,Ct,?_,fi3,FA.trans F3⟩;have e9:l++(sep last++wT a 1)++([32]++[45,62])++([32]++wT b 0)=l++(sep last++(wT a 1++([32,45,62,32]++wT b 0))):=ah;rw[e9]at N3;simp only[jo,jj,jq]at N3⊢;exact N3
def adR s n a b f t at_(Ha:AtC a)(Hb:AtC b):yB (.mk 6 s n [a,b] f t at_):=by
 intro w B pb bv l last mv Q v h hp hq hl hB
 cases hp with
 |pr s n a b f t at_ x y va vb ha hb=>
 rw[ajZ]at hl⊢;obtain⟨ta,xa,rfl⟩:=ha.cG;obtain⟨tb,xb,rfl⟩:=hb.cG;have Qu:=h.lt;have hsl:=Eg last;simp only[dr,de,eF]at hl;have b8:Bq w ((w.alloc<|Cv #[Iv x,Iv y,Fv ta<|Av xa,Fv tb<|Av xb] 301).alloc<|Cv #[Sv dE] 9):=(bw _).alloc ah _;have F0:=FN.of (B:=B) (pb:=pb) b8;have XB:=(qd w #[Iv x,Iv y,Fv ta<|Av xa,Fv tb<|Av xb] 301).alloc<|Cv #[Sv dE] 9;have BX:Bx ((w.alloc<|Cv #[Iv x,Iv y,Fv ta<|Av xa,Fv tb<|Av xb] 301).alloc<|Cv #[Sv dE] 9) (w.heap.size+1) #[Sv dE]:=by have:=qd (w.alloc<|Cv #[Iv x,Iv y,Fv ta<|Av xa,Fv tb<|Av xb] 301) #[Sv dE] 9;simpa using this
 have HP:=pU (h.af b8) dE aA ae (w.heap.size+1) BX ae;rw[jF qAm qAm qAm,show dE.toList=[40]from toList_mk [40]]at HP;have nx:∀x0,(#[Iv x,Iv y,Fv ta<|Av xa,Fv tb<|Av xb])[0]? =some x0->∀c,x0≠.int .u8 c:=BI;go_enter func95,ntmps95;go_wp2_with fail;refine HP.mono ?_;rintro e w1⟨rfl,UQ,N1,F1⟩;have G1:=F0.trans F1;have⟨c1,f1,z1⟩:=F1.eP XB ae nx;have hs1:sep dE=[]:=by rw[sep];rw[if_pos<|Or.inr<|toList_mk [40]]
 have HC:=Ha w1 B pb UQ _ dE mv Q _ 0 N1 (ha.fnQ hq G1) (hq.fn G1) ae (by rw[hs1];simp only[dr,de,eF];omega) hB;rw[hs1]at HC;go_wp2_with fail;refine HC.mono ?_;rintro e w2⟨rfl,Bo,m5,N2,Qv,F2⟩;have G2:=G1.trans F2;have ajB:=N2.lt;have mq:Bq w2 (w2.alloc<|Cv #[Sv yD] 9):=bw _;have HP2:=pU (N2.af mq) yD aA (by simp only[dr,de,eF];omega) w2.heap.size (qd w2 #[Sv yD] 9) ae;rw[oZ<|j3<|toList_mk [44],show yD.toList=[44]from toList_mk [44]]at HP2;have⟨c2,f2,z2⟩:=(F1.trans F2).eP XB ae nx;go_wp2_with fail;refine HP2.mono ?_;rintro e w3⟨rfl,XL,N3,F3⟩;have F23:=(FN.of (B:=B) (pb:=pb) mq).trans F3;have G3:=G2.trans F23;have⟨c3,f3,z3⟩:=((F1.trans F2).trans F23).eP XB ae nx;have HD:=Hb w3 B pb XL _ yD mv Q _ 0 N3 (hb.fnQ hq G3) (hq.fn G3) ae (by rw[eO<|kH (toList_mk [44]) aA aA];simp only[dr,de,eF];omega) hB;rw[eO<|kH (toList_mk [44]) aA aA]at HD;go_wp2_with fail;refine HD.mono ?_;rintro e w4⟨rfl,bv4,anI,N4,fi4,F4⟩;have G4:=G3.trans F4;have anX:=N4.lt;have hb4:Bq w4 (w4.alloc<|Cv #[Sv dx] 9):=bw _;have HP4:=pU (N4.af hb4) dx aA (by simp only[dr,de,eF];omega) w4.heap.size (qd w4 #[Sv dx] 9) ae;rw[oZ<|j5<|toList_mk [41],show dx.toList=[41]from toList_mk [41]]at HP4;go_wp2_with fail;refine HP4.mono ?_
 rintro e w5⟨rfl,bv5,N5,F5⟩
 go_wp2
 go_end0;refine⟨rfl,bv5,dx,?_,kH (toList_mk [41]) aA aA,G4.trans<|(FN.of hb4).trans F5⟩;have e9:l++(sep last++[40])++([]++wT a 0)++[44]++([32]++wT b 0)++[41]=l++(sep last++40::(wT a 0++([44,32]++(wT b 0++[41])))):=ah;rw[e9]at N5;simp only[jo,jj,jq]at N5⊢;exact N5
def aj1(x:List UInt8):j7 false x=x:=rfl
def aj2(x:List UInt8):j7 true x=40::(x++[41]):=rfl
def fJ(l:List UInt8)(last:BA):List BA->List UInt8
 |[]=>l|t::ts=>fJ (dh l last t) t ts
def iJ(last:BA):List BA->BA
 |[]=>last|t::ts=>iJ t ts
def WY(l:List UInt8)(last:BA)(ts us:List BA):fJ l last (ts++us)=fJ (fJ l last ts) (iJ last ts) us:=by
 induction ts generalizing l last with
 |nil=>rfl|cons t ts ih=>simp only[jj,fJ,iJ,ih]
def PH(last:BA)(ts us:List BA):iJ last (ts++us)=iJ (iJ last ts) us:=by
 induction ts generalizing last with
 |nil=>rfl|cons t ts ih=>simp only[jj,iJ,ih]
def ab4(l:List UInt8)(last t:BA):(dh l last t).length<=l.length+1+t.size:=by
 rw[dh];split<;>simp<;>omega
def WZ(l:List UInt8)(last:BA)(ts:List BA)(h:∀t∈ts,t.size<=1000):(fJ l last ts).length<=l.length+ts.length*1001:=by
 induction ts generalizing l last with
 |nil=>simp[fJ]|cons t ts ih=>
  have h1:=ih (dh l last t) t<|λx hx=>h x<|List.mem_cons_of_mem _ hx;have h2:=ab4 l last t;have h3:=h t<|List.mem_cons_self ..;simp only[fJ,de]at*;omega
def ae9(B pb:Nat)(l:List UInt8)(last:BA)(ts:List BA)(mv:Value)(w:World)(gk:Nat)(v:Value)(wr:World):=
 ∃(j:Nat)(Ee:Value),Hid (gk=ts.length-j)/\j<=ts.length/\v=Nv j/\PN wr B pb Ee (fJ l last<|ts.take j) (iJ last<|ts.take j) mv/\FN B pb w wr
def qF(h:PN w B pb bv l last mv)(ts:List BA)(ht:∀t∈ts,t.size<=1000)(hn:ts.length<=10)(hl:l.length<=850000)(g:Nat)(hg:Bx w g (ts.map Value.string).toArray)(hgp:g≠pb)(hgn:g<B\/Il w g):
 Cq 129 #[Pv pb,.slice (some ⟨g,0,none⟩) ts.length ts.length] w λe w'=>e=.returned (.tuple #[])/\∃Ee,PN w' B pb Ee (fJ l last ts) (iJ last ts) mv/\FN B pb w w':=by
 have HN:=ai h;have HG:=ai hg;have Hgn:=ai hgn;clear h hg hgn;go_enter func129,ntmps129
 go_wp2
 go_loopg[8] ts.length (λgk v wr=>ae9 B pb l last ts mv w gk v wr)
 case atStart=>exact⟨0,bv,ai rfl,jz _,rfl,uh HN,FN.refl _ _ _⟩
 case round=>
  obtain⟨j,Ee,bE,hj,rfl,N,F⟩:=hrel;by_cases aI:j<ts.length
  .have hd:(j:Int)<(ts.length:Int):=ae;have abI:=ht _<|jd aI;have hG:=(uh HG).fn hgp (uh Hgn) F;have cg:wr.cell? ⟨g,j,none⟩=some (Sv ts[j]):=by rw[hG.c j];simp[aI]
   have hlen:=WZ l last (ts.take j)<|λt q=>ht t<|List.mem_of_mem_take q;simp only[List.length_take]at hlen;have htk:ts.take (j+1)=ts.take j++[ts[j]]:=by rw[List.take_add_one,ja aI];rfl
   have ab5:=ai (show fJ l last (ts.take<|j+1)=dh (fJ l last<|ts.take j) (iJ last<|ts.take j) ts[j] by rw[htk,WY];rfl);have aiH:=ai (show iJ last (ts.take<|j+1)=ts[j] by rw[htk,PH];rfl);have⟨c2,f2⟩:=N.cells;have HN:=ai N;have HF:=ai F;clear N F hG htk;generalize fJ l last (ts.take j)=lj at HN hlen ab5 c2;generalize iJ last (ts.take j)=Tt at HN ab5 c2;generalize hu:ts[j]=tj at cg abI ab5 aiH;clear hu;have hm9:min j ts.length<=10:=ae;by_cases Ii:spB Tt tj=true
   .go_wp2_with(first|(go_at_call 184;refine(tg Tt tj).mono ?_;rw[Ii];rintro e w'⟨rfl,rfl⟩)|(go_at_call 185;refine(wP (uh HN) 32 ae).mono ?_;rintro e w1⟨rfl,UQ,hN1,hF1⟩;have HN1:=ai hN1;have xW:=ai<|(uh HF).trans<|Fr.fn (uh HN) hF1;clear hN1 hF1)|(go_at_call 186;refine(ij (uh HN1) tj ae bi).mono ?_;rintro e w2⟨rfl,Bo,Ew,BV⟩;have UW:=ai Ew;have xX:=ai<|(uh xW).trans<|Fr.fn (uh HN1) BV;have⟨c3,f3⟩:=Ew.cells;clear Ew BV));go_roundg(ts.length-(j+1))
    case measure=>rw[uh bE];omega
    case rel=>exact⟨j+1,Bo,ai rfl,ae,d_,by rw[uh ab5,uh aiH];rw[dh];rw[if_pos Ii];exact(uh UW).th tj,(uh xX).trans<|FN.th _ _ _ _⟩
   .have aiI:spB Tt tj=false:=by simpa using Ii
    go_wp2_with(first|(go_at_call 184;refine(tg Tt tj).mono ?_;rw[aiI];rintro e w'⟨rfl,rfl⟩)|(go_at_call 186;refine(ij (uh HN) tj ae ae).mono ?_;rintro e w2⟨rfl,Bo,Ew,BV⟩;have UW:=ai Ew;have xX:=ai<|(uh HF).trans<|Fr.fn (uh HN) BV;have⟨c3,f3⟩:=Ew.cells;clear Ew BV));go_roundg(ts.length-(j+1))
    case measure=>rw[uh bE];omega
    case rel=>exact⟨j+1,Bo,ai rfl,ae,d_,by rw[uh ab5,uh aiH];rw[dh];rw[if_neg Ii,jt];exact(uh UW).th tj,(uh xX).trans<|FN.th _ _ _ _⟩
  .have hd:decide ((j:Int)<(ts.length:Int))=false:=bi;have ej:j=ts.length:=ae;subst ej;rw[ji]at N
   go_wp2
   go_end0;exact⟨rfl,Ee,N,F⟩
def isF(c:BA):Bool:=c.toList==[62]
def isP(c:BA):Bool:=c.toList==[44]
def kd c:=if isF c=true then 17 else if isP c=true then 6 else 2
mutual
def sp(a:List Nat):Ty->Nd
 |.var n=>.mk 16 (bs (39::vT ((j8 a n).idxOf n))) 0 [] 0 0 0|.aM c l=>.mk (kd c) c 0 (mz a l) 0 0 0
def mz(a:List Nat):List Ty->List Nd
 |[]=>[]|t::l=>sp a t::mz (vars a t) l
end
def o7 c:isF c=true↔c=pH:=by
 rw[isF];rw[beq_iff_eq];exact⟨λh=>toList_inj<|h.trans (toList_mk [62]).symm,λh=>by rw[h];exact toList_mk [62]⟩
def xY c:isP c=true↔c=o6:=by
 rw[isP];rw[beq_iff_eq];exact⟨λh=>toList_inj<|h.trans (toList_mk [44]).symm,λh=>by rw[h];exact toList_mk [44]⟩
def adu c:w_ (kd c) c=c:=by
 rw[w_,kd];by_cases h1:isF c=true
 .simp[h1];exact((o7 c).1 h1).symm
 .by_cases h2:isP c=true
  .simp[h1,h2];exact((xY c).1 h2).symm
  .simp[h1,h2]
def ajC c:kd c≠16:=by rw[kd];split;decide;split<;>decide
mutual
def Yx:∀(T:Ty)(a:List Nat),wT (sp a T)=wr dec (vars a T) T
 |.var n,a=>by
  funext k;simp only[sp,wT,if_true,wr,vars];rw[show(bs (39::vT ((j8 a n).idxOf n))).toList=39::vT ((j8 a n).idxOf n)from toList_mk _];rfl
 |.aM c l,a=>by
  simp only[sp,wT,if_neg<|ajC c,adu,wr,vars];rw[Yy l a]
def Yy:∀(l:List Ty)(a:List Nat),wTL (mz a l)=Io dec (bt a l) l
 |[],a=>rfl|t::l,a=>by
  simp only[mz,wTL,Io,bt];rw[Yx t a,Yy l<|vars a t,Ip<|o8 l<|vars a t]
end
def ed:∀(l:List Ty)(a:List Nat),(mz a l).length=l.length
 |[],a=>rfl|t::l,a=>by simp[mz,ed l]
def rF:∀(l:List Ty)(a:List Nat)(i:Nat)(h:i<l.length),mz a (l.take<|i+1)=mz a (l.take i)++[sp (bt a<|l.take i) l[i]]/\bt a (l.take<|i+1)=vars (bt a<|l.take i) l[i]
 |[],a,i,h=>xA|t::l,a,0,h=>by simp[mz,bt]|t::l,a,i+1,h=>by
  have:=rF l (vars a t) i xB;simp only[List.take_succ_cons,mz,bt,this,List.getElem_cons_succ];simp
def yE:∀(a b:List Ty)(x:List Nat),bt x (a++b)=bt (bt x a) b
 |[],b,x=>rfl|t::a,b,x=>by simp[bt,yE a b]
def pV l a i:(bt a<|l.take i).length<=(bt a l).length:=by
 have:bt a l=bt (bt a<|l.take i) (l.drop i):=by
  rw[<-yE,jh]
 rw[this];exact(o8 _ _).length_le
def lC.by{w}{P}{nd}{v}(h:lC w P nd v):lC w (λb=>P b/\b<w.heap.size/\Il w b) nd v:=by
 induction h with
 |var s n f t a x y hq=>exact .var s n f t a x y hq|fn s n a b f t at_ x y va vb _ _ Yp Yq=>exact .fn s n a b f t at_ x y va vb Yp Yq|pr s n a b f t at_ x y va vb _ _ Yp Yq=>exact .pr s n a b f t at_ x y va vb Yp Yq|up s n L f t at_ x y x' y' sa sc vs hu aE hr ih=>
  refine .up s n L f t at_ x y x' y' sa sc vs hu ?_ ih;obtain h0|⟨g,h1,hP,hz,hc⟩:=aE
  .exact j5 h0
  .by_cases hL:L=[]
   .exact j5 hL
   .have hl:=List.length_pos_iff.2 hL;refine j3 ⟨g,h1,⟨hP,hz,λq hq c e=>?_⟩,hz,hc⟩;have⟨t',x'',hv⟩:=(hr 0 hl).cG;rw[hc 0 hl,hv]at hq
    cases hq
    cases e
inductive WN:Nd->Prop where
 |var(s:BA)(n f t a:Nat)(h:s.size<=1000):WN (.mk 16 s n [] f t a)
 |fn(s:BA)(n:Nat)(x y:Nd)(f t a:Nat)(hx:WN x)(hy:WN y):WN (.mk 17 s n [x,y] f t a)
 |pr(s:BA)(n:Nat)(x y:Nd)(f t a:Nat)(hx:WN x)(hy:WN y):WN (.mk 6 s n [x,y] f t a)
 |up(s:BA)(n:Nat)(L:List Nd)(f t a:Nat)(h:s.size<=1000)(hl:L.length<=1001)(hL:∀i(h:i<L.length),WN L[i]):WN (.mk 2 s n L f t a)
def KJ{p:Prop}(h:p:=by
 subst ha hb;go_enter func96,ntmps96
 go_wp2
 go_region
 all_goals(
  go_wp2
  go_ret
  exact⟨rfl,(j9 _ _).drew⟩)):p:=h
def adv g sc va vb ta tb xa xb(ha:va=.iface ta xa)(hb:vb=.iface tb xb)(h0:w.cell? ⟨g,0,none⟩=some va)(h1:w.cell? ⟨g,1,none⟩=some vb):Cq 96 #[.string ⟨#[45,62]⟩,.slice (some ⟨g,0,none⟩) 2 sc] w λe w'=>e=.returned (.iface 297<|.agg #[Iv 0,Iv 0,va,vb])/\Bq w w':=by
 exact KJ
def adw g sc va vb ta tb xa xb(ha:va=.iface ta xa)(hb:vb=.iface tb xb)(h0:w.cell? ⟨g,0,none⟩=some va)(h1:w.cell? ⟨g,1,none⟩=some vb):Cq 96 #[.string ⟨#[44]⟩,.slice (some ⟨g,0,none⟩) 2 sc] w λe w'=>e=.returned (.iface 301<|.agg #[Iv 0,Iv 0,va,vb])/\Bq w w':=by
 exact KJ
def adx c(hu:m0 c)sa n sc:Cq 96 #[.string c,.slice sa n sc] w λe w'=>e=.returned (.iface 299<|.agg #[Iv 0,Iv 0,Iv 0,Iv 0,.string c,.slice sa n sc])/\Bq w w':=by
 have h1:(c.toList==[45,62])=false:=by rw[<-Bool.not_eq_true,beq_iff_eq];exact cz hu 45 [62] aA
 have h2:(c.toList==[44])=false:=by rw[<-Bool.not_eq_true,beq_iff_eq];exact cz hu 44 [] aA
 go_enter func96,ntmps96
 go_wp2
 go_ret;exact⟨rfl,j9 _ _⟩
def agN nb mb nd a' w(e:Ending)w':=
 ∃u,e=.returned u/\lC w' (λb=>w.heap.size<=b) nd u/\NB w' nb mb a'/\Fr (λb=>b=mb) w w'
def SpC T:=∀(w:World)(nb mb:Nat)(a:List Nat)(P:Nat->Prop)(v:Value),eN w P T v->NB w nb mb a->(∀b,P b->b≠mb)->Wf T->(vars a T).length<=96->ak [T]<=1000->
 Cq 53 #[v,nbV nb] w (agN nb mb (sp a T) (vars a T) w)
@[simp] theorem amf a w:(j6 (.iface 248<|Iv a) 98 248 true).run qf w=.ok (.tuple #[Iv a,.bool true]) w:=qkr
@[simp] theorem agO a b w:(j6 (.iface 260<|.agg #[a,b]) 98 248 true).run qf w=.ok (.tuple #[Iv 0,.bool false]) w:=qkr
def agP n:SpC (.var n):=by
 intro w nb mb a P v h hN hP hW hv hs
 cases h
 simp only[vars]at hv;have HC:=US hN n hv;go_enter func53,ntmps53;go_wp2_with fail;refine HC.mono ?_;rintro e w1⟨rfl,N1,F1⟩
 go_wp2
 go_ret;refine⟨_,rfl,?_,N1,F1⟩;have hq:UT (bs (39::vT ((j8 a n).idxOf n))):=⟨_,toList_mk _⟩;have ht:bs (vT<|(j8 a n).idxOf n)=(bs (39::vT ((j8 a n).idxOf n))).extract 1 (bs (39::vT ((j8 a n).idxOf n))).size:=by
  apply toList_inj;have:=xZ (s:=bs (39::vT ((j8 a n).idxOf n)))<|toList_mk _;rw[tl]at this;rw[this];exact toList_mk _
 rw[ht];exact .var _ _ _ _ _ _ _ hq
def ajD nb mb a(L:List Ty)w pb sb M gk v wr:=
 ∃(j:Nat)(C:Array Value),Hid (gk=L.length-j)/\j<=L.length/\v=Nv j/\NB wr nb mb (bt a<|L.take j)/\Fr (λb=>b=mb) w wr/\Bx wr pb C/\Bx wr sb M/\Hid (C.size=L.length)/\
  Hid (∀i(h:i<(mz a<|L.take j).length),∃u,C[i]? =some u/\lC wr (λb=>pb<b/\b<wr.heap.size) (mz a<|L.take j)[i] u)
def NB.lt{L}(h:NB w nb mb L):nb<w.heap.size/\mb<w.heap.size:=⟨h.bk.z,h.mp.lt⟩
def NB.set{L}(h:NB w nb mb L)(h1:b≠nb)(h2:b≠mb)j v:NB (w.setCell ⟨b,j,none⟩ v) nb mb L:=
 ⟨h.bk.bJ h1.symm j v,h.mp.tT h2.symm j v,h.ne⟩
def Lq{p:Prop}(h:p:=by
 unfold kd
 rw[if_neg<|λq=>cz hu 62 [] aA (by rw[(o7 c).1 q];exact toList_mk [62]),if_neg<|λq=>cz hu 44 [] aA (by rw[(xY c).1 q];exact toList_mk [44])]):p:=h
def Ls{p:Prop}(h:p:=by
 simp only[sp,hk];congr 1;apply List.ext_getElem
 .simp;omega
 .intro i h1 h2;have:i=0\/i=1:=by simp at h2;omega
  obtain rfl|rfl:=this<;>rfl):p:=h
def agQ c L(IH:∀i(h:i<L.length),SpC L[i]):SpC (.aM c L):=by
 intro w nb mb a P v h HN hP hW hv hs
 cases h with
 |aM c L sa sc vs hc aE hr=>
 obtain⟨i0,m6,ku,gS,gC⟩:=info_parts Iq;have kX:ak L<=1000:=by simp[ak,size]at hs;omega
 have UU:=tU L;have Hi:=lE (by_:=16) yF m6 ku rfl gS gC aA L.length ae;obtain⟨Hok,hWL⟩:=hW;rw[Eh]at hWL;simp only[vars]at hv;have h1:=agO;have h2:=agR;have aZ:=HN.lt;have b8:Bq w ((w.alloc<|.cells #[.string<|pn c,.slice sa L.length sc] 260).alloc<|.cells (Array.replicate L.length .nilIface) 165):=(bw _).alloc ah _;have XM:=ai<|(Bx.new w #[.string<|pn c,.slice sa L.length sc] 260).alloc<|.cells (Array.replicate L.length .nilIface) 165;obtain⟨cm,fm,zm⟩:=uh XM;go_enter func53,ntmps53
 go_wp2
 go_loopg[29] L.length (λgk v wr=>ajD nb mb a L w (w.heap.size+1) w.heap.size #[.string<|pn c,.slice sa L.length sc] gk v wr)
 case atStart=>
  have BP:Bx ((w.alloc<|.cells #[.string<|pn c,.slice sa L.length sc] 260).alloc<|.cells (qg L.length .nilIface) 165) (w.heap.size+1) (qg L.length .nilIface):=by have:=qd (w.alloc<|.cells #[.string<|pn c,.slice sa L.length sc] 260) (qg L.length .nilIface) 165;simpa using this
  refine⟨0,qg L.length .nilIface,ai ah,jz _,rfl,?_,Fr.of b8,BP,XM,ai ah,ai<|λi hi=>absurd hi<|by simp[mz]⟩;simpa[bt]using HN.af b8
 case round=>
  obtain⟨j,C,bE,hj,rfl,N1,F1,B1,BM,hC,hT⟩:=hrel;have zw:=F1.size;have n1:=N1.lt;have zpb:=B1.z;by_cases aI:j<L.length
  .have hd:(j:Int)<(L.length:Int):=ae;obtain⟨g,rfl,hg,mn,bX⟩:∃g,sa=some ⟨g,0,none⟩/\P g/\g<w.heap.size/\∀i,i<L.length->w.cell? ⟨g,i,none⟩=some (vs i):=by
    obtain h0|h0:=aE
    .subst h0;simp at aI
    .exact h0
   have cg:=(jv (a:=⟨g,j,none⟩)<|F1.block g mn<|hP g hg).trans<|bX j aI;have TJ:=(hr j aI).fr F1<|λb p _=>hP b p;obtain⟨tv,xv,hv'⟩:=TJ.iface;obtain⟨mt1,mt2⟩:=rF L a j aI;have hnj:(vars (bt a<|L.take j) L[j]).length<=96:=by rw[<-mt2];exact jx (pV L a<|j+1) hv
   have hsj:ak [L[j]]<=1000:=by
    have e1:=nH L j aI;have e2:=kZ L<|j+1;simp[ak];omega
   have HC:=IH j aI wr nb mb _ P (vs j) TJ N1 hP (hWL _<|jd aI) hnj hsj;rw[hv']at cg HC;go_wp2_with fail;refine HC.mono ?_;rintro e w1⟨u,rfl,HU,UW,HF⟩;obtain⟨tu,xu,rfl⟩:=HU.cG;have hpm:w.heap.size+1≠mb:=ae;have B2:=B1.fr HF hpm;have Bp:j<C.size:=qBh;have cj:=(B2.c j).trans<|Array.getElem?_eq_getElem Bp;have fj:=B2.f j;have B3:=B2.aP j (.iface tu<|.agg xu) (C.setIfInBounds j<|.iface tu<|.agg xu) rfl Bp;have BM2:=(BM.fr HF<|show ¬w.heap.size=mb by omega).bJ (show w.heap.size≠w.heap.size+1 by omega) j (.iface tu<|.agg xu);have xX:=F1.trans HF;have z2:=HF.size
   go_wp2
   go_roundg(L.length-(j+1))
   case measure=>rw[uh bE];omega
   case rel=>
    have M5:(mz a<|L.take j).length=j:=by rw[ed];simp;omega
    refine⟨j+1,C.setIfInBounds j<|.iface tu<|.agg xu,ai rfl,ae,d_,?_,?_,B3,BM2,ai (by simp;exact hC),ai<|λi hi=>?_⟩
    .rw[mt2];exact UW.set ae ae j _
    .exact xX.set (j3 ae) j _
    .have lF:∀b,w.heap.size+1<b->b<w1.heap.size->(w1.setCell ⟨w.heap.size+1,j,none⟩<|.iface tu<|.agg xu).heap[b]? =w1.heap[b]? :=λb hb _=>Below.heap_setCell _ _ _ _ (by show b≠w.heap.size+1;omega);have Yu:(w1.setCell ⟨w.heap.size+1,j,none⟩<|.iface tu<|.agg xu).heap.size=w1.heap.size:=yG;have tH:i<j+1:=by rw[mt1]at hi;simp[M5]at hi;omega
     by_cases e:i=j
     .subst e;refine⟨.iface tu<|.agg xu,by simp[Bp],?_⟩;have e1:(mz a<|L.take<|i+1)[i]'hi=sp (bt a<|L.take i) L[i]:=by
       have:(mz a<|L.take<|i+1)[i]? =some (sp (bt a<|L.take i) L[i]):=by rw[mt1,jl ae];simp[M5]
       rw[ja hi]at this;exact Option.some.inj this
      rw[e1];exact HU.by.move ae (λb p z=>lF b qAy z)<|λb p z=>⟨qAy,ae⟩
     .have BL:i<(mz a<|L.take j).length:=ae;obtain⟨u',x_,Ir⟩:=uh hT i BL;have e1:(mz a<|L.take<|j+1)[i]'hi=(mz a<|L.take j)[i]'BL:=by
       have:(mz a<|L.take<|j+1)[i]? =some ((mz a<|L.take j)[i]'BL):=by rw[mt1,jm BL,ja BL]
       rw[ja hi]at this;exact Option.some.inj this
      refine⟨u',by rw[Array.getElem?_setIfInBounds_ne ae];exact x_,?_⟩;rw[e1];have h3:=Ir.fr HF (λb p _ q=>by subst q;omega);exact h3.move ae (λb p z=>lF b p.1 z)<|λb p z=>⟨p.1,ae⟩
  .have hd:decide ((j:Int)<(L.length:Int))=false:=bi;have ej:j=L.length:=ae;subst ej;rw[ji]at N1 hT;obtain⟨cw,fw,zw'⟩:=BM;have hsl:=ed L a;have hCs:C.size=L.length:=uh hC;obtain rfl|rfl|hu:=hc
   .have h2L:=Hok.2.1<|j5 rfl;obtain⟨u0,hu0,hp0⟩:=uh hT 0 ae;obtain⟨u1,x_,BH⟩:=uh hT 1 ae;obtain⟨t0,x0,rfl⟩:=hp0.cG;obtain⟨t1,x1,rfl⟩:=BH.cG;have HC:=adv (w:=wr) (w.heap.size+1) L.length (.iface t0<|.agg x0) (.iface t1<|.agg x1) t0 t1 (.agg x0) (.agg x1) rfl rfl ((B1.c 0).trans hu0) ((B1.c 1).trans x_);rw[kE]at cw;rw[h2L]at HC;go_wp2_with fail;rw[h2L];refine HC.mono ?_;rintro e w9⟨rfl,M6⟩
    go_wp2
    go_ret;refine⟨_,rfl,?_,N1.af M6,F1.trans<|Fr.of M6⟩;have esp:sp a (.aM pH L)=.mk 17 pH 0 [(mz a L)[0]' ae,(mz a L)[1]' ae] 0 0 0:=by
     have hk:kd pH=17:=by unfold kd;rw[if_pos<|(o7 pH).2 rfl]
     exact Ls
    rw[esp];exact .fn _ _ _ _ _ _ _ _ _ _ _ ((hp0.af M6).wide λb p=>qAu)<|(BH.af M6).wide λb p=>qAu
   .have h2L:=Hok.2.1<|j3 rfl;obtain⟨u0,hu0,hp0⟩:=uh hT 0 ae;obtain⟨u1,x_,BH⟩:=uh hT 1 ae;obtain⟨t0,x0,rfl⟩:=hp0.cG;obtain⟨t1,x1,rfl⟩:=BH.cG;have HC:=adw (w:=wr) (w.heap.size+1) L.length (.iface t0<|.agg x0) (.iface t1<|.agg x1) t0 t1 (.agg x0) (.agg x1) rfl rfl ((B1.c 0).trans hu0) ((B1.c 1).trans x_);rw[kF]at cw;rw[h2L]at HC;go_wp2_with fail;rw[h2L];refine HC.mono ?_;rintro e w9⟨rfl,M6⟩
    go_wp2
    go_ret;refine⟨_,rfl,?_,N1.af M6,F1.trans<|Fr.of M6⟩;have esp:sp a (.aM o6 L)=.mk 6 o6 0 [(mz a L)[0]' ae,(mz a L)[1]' ae] 0 0 0:=by
     have cJ:¬o6=pH:=by intro e;have:=congrArg ByteArray.toList e;rw[show o6.toList=[44]from toList_mk [44],show pH.toList=[62]from toList_mk [62]]at this;simp at this
     have hk:kd o6=6:=by unfold kd;rw[if_neg<|λq=>cJ<|(o7 o6).1 q,if_pos<|(xY o6).2 rfl]
     exact Ls
    rw[esp];exact .pr _ _ _ _ _ _ _ _ _ _ _ ((hp0.af M6).wide λb p=>qAu)<|(BH.af M6).wide λb p=>qAu
   .have HC:=adx (w:=wr) c hu (some ⟨w.heap.size+1,0,none⟩) L.length L.length;rw[fG hu]at cw;go_wp2_with fail;refine HC.mono ?_;rintro e w9⟨rfl,M6⟩
    go_wp2
    go_ret;refine⟨_,rfl,?_,N1.af M6,F1.trans<|Fr.of M6⟩;have hk:kd c=2:=by
     exact Lq
    simp only[sp,hk];rw[<-hsl];refine .up c 0 (mz a L) 0 0 0 0 0 0 0 _ _ (λi=>C.getD i .nilIface) hu (j3 ⟨w.heap.size+1,rfl,by show w.heap.size<=w.heap.size+1;omega,jy B1.z M6.size,λi hi=>?_⟩) (λi hi=>?_)
    .obtain⟨u,hu',_⟩:=uh hT i hi;rw[jv (a:=⟨w.heap.size+1,i,none⟩)<|M6.block _ B1.z,B1.c i,hu'];simp[qh,hu']
    .obtain⟨u,hu',hty⟩:=uh hT i hi;have:C.getD i .nilIface=u:=by simp[qh,hu']
     rw[this];exact(hty.af M6).wide λb p=>qAu
def Cu:∀(T:Ty),SpC T
 |.var n=>agP n|.aM c L=>agQ c L λi h=>Cu L[i]
termination_by T=>SizeOf.sizeOf T
decreasing_by
 have h2:=List.sizeOf_lt_of_mem<|jd h;simp;omega
def agS i(h:i<=900):(bs (39::vT i)).size<=1000:=by
 rw[bS];have:=ya i;simp[vT];omega
def Yz{α:Type}{l:List α}(h:l.length=2):∃x y,l=[x,y]:=by
 match l,h with
 |[x,y],_=>exact⟨x,y,rfl⟩
def QB:∀(x y:List Ty)(a:List Nat),mz a (x++y)=mz a x++mz (bt a x) y
 |[],y,a=>rfl|t::x,y,a=>by simp[mz,bt,QB x y]
def agT l a i h:(mz a l)[i]'(by rw[ed];exact h)=sp (bt a<|l.take i) l[i]:=by
 have h1:=(rF l a i h).1;have h2:(mz a l)[i]? =(mz a<|l.take<|i+1)[i]? :=by
  have e:mz a l=mz a (l.take<|i+1)++mz (bt a<|l.take<|i+1) (l.drop<|i+1):=by
   rw[<-QB,jh]
  rw[e,jm (by rw[ed];simp;omega)]
 rw[h1,jl (by rw[ed];simp;omega),ed]at h2;rw[ja (by rw[ed];exact h)]at h2;have h3:i-(l.take i).length=0:=bi;rw[h3]at h2;exact Option.some.inj h2
def WN.sp{w}{P}{T}{v}(h:eN w P T v):Wf T->size T<=900->∀a,(vars a T).length<=900->WN (sp a T):=by
 induction h with
 |var n=>
  intro _ _ a hv;simp only[vars]at hv;refine .var _ _ _ _ _<|agS _ ?_;have:(j8 a n).idxOf n<(j8 a n).length:=List.idxOf_lt_length_iff.2 (by rw[j8];split<;>simp[*]);omega
 |aM c L sa sc vs hc aE hr ih=>
  intro hW hs a hv;obtain⟨UX,hWL⟩:=hW;rw[Eh]at hWL;simp only[size]at hs;simp only[vars]at hv;have key:∀i(h:i<L.length),WN<|(mz a L)[i]'(by rw[ed];exact h):=λi hi=>by
   rw[agT L a i hi];have e1:=nH L i hi;have e2:=kZ L<|i+1;refine ih i hi (hWL _<|jd hi) ae _ ?_;rw[<-(rF L a i hi).2];exact jx (pV L a<|i+1) hv
  have hl:=tU L;obtain rfl|rfl|hu:=hc
  .have h2:(mz a L).length=2:=by rw[ed];exact UX.2.1<|j5 rfl
   have hL2:=UX.2.1<|j5 rfl;have⟨x,y,e⟩:=Yz h2;have hk:kd pH=17:=by rw[kd];rw[if_pos<|(o7 pH).2 rfl]
   simp only[Go.Proofs.YtopmodaakdnliaaGreatDoor.sp,hk];have k0:=key 0 ae;have k1:=key 1 ae;simp only[e]at k0 k1⊢;exact .fn _ _ _ _ _ _ _ k0 k1
  .have h2:(mz a L).length=2:=by rw[ed];exact UX.2.1<|j3 rfl
   have hL2:=UX.2.1<|j3 rfl;have⟨x,y,e⟩:=Yz h2;have cJ:¬o6=pH:=Mn;have hk:kd o6=6:=by rw[kd];rw[if_neg<|λq=>cJ<|(o7 o6).1 q,if_pos<|(xY o6).2 rfl]
   simp only[Go.Proofs.YtopmodaakdnliaaGreatDoor.sp,hk];have k0:=key 0 ae;have k1:=key 1 ae;simp only[e]at k0 k1⊢;exact .pr _ _ _ _ _ _ _ k0 k1
  .have hk:kd c=2:=by
    exact Lq
   simp only[Go.Proofs.YtopmodaakdnliaaGreatDoor.sp,hk];refine .up _ _ _ _ _ _ (by have:=UX.1;omega) (by rw[ed];omega) (λi hi=>key i (by rw[ed]at hi;exact hi))
def eN.ajE(h:eN w P T v)L:wr dec L T 0≠[]:=by
 cases h with
 |var n=>simp[wr]|aM c l sa sc vs hc aE hr=>
  simp only[wr];rw[bz];split
  .rw[j7];simp
  .split
   .simp
   .rename_i h1 h2;obtain rfl|rfl|hu:=hc
    .exact absurd rfl h1
    .exact absurd rfl h2
    .obtain⟨x,r,e,_⟩:=hu;rw[j7];simp[e]
def ady p x y z:Cq 128 #[.pointer<|some p,Iv x,Iv y,Iv z] w λe w'=>(∃v,e=.returned v)/\Bq w w':=by
 go_enter func128,ntmps128
 go_wp2
 go_ret;exact⟨⟨_,rfl⟩,(((bw _).alloc ah _).alloc bi _).alloc bi _⟩
def M7 p:Cq 91 #[.pointer<|some p] w (UY w):=by
 have H:=Ma.new (w:=w);have HB:=(Below.refl w.heap.size w).alloc (br _)<|.map #[] 0;have g_:= @run_makeMap Tryz.prog;go_enter func91,ntmps91;go_wp2_with(first|(refine aY _ rfl _ _ _ _ (Or.inl rfl) (KL.str Tryz.underlying9) Tryz.underlying172 _ _ rfl H _ _ rfl rfl trivial (λ_ _=>trivial) ?_;clear H;intro w' H' O';have H:=ai H';have HB:=ai<|One.below HB O' qbr;clear H' O')|(go_at_call 128;refine(ady _ _ _ _).mono ?_;rintro e w'⟨⟨v,rfl⟩,hb⟩;have H:=ai<|H.below hb;have HB:=ai<|HB.trans<|hb.mono HB.size;clear hb));go_ret;exact⟨_,rfl,ah,HB⟩
def It:Cq 51 #[] w λe w'=>e=.returned (Pv w.heap.size)/\(∃mv,PN w' w.heap.size w.heap.size (.slice none 0 0) [] ⟨#[]⟩ mv)/\Bq w w':=by
 have b8:Bq w (w.alloc<|Cv #[.pointer none,Lv none 0 0,Sv ⟨#[]⟩,.map none] 174):=bw _;have h0:(w.alloc<|Cv #[.pointer none,Lv none 0 0,Sv ⟨#[]⟩,.map none] 174).heap[w.heap.size]? =some (Cv #[.pointer none,Lv none 0 0,Sv ⟨#[]⟩,.map none] 174 (0,0)):=(MapKept.heap_alloc w _).1;have H0:=ai h0;go_enter func51,ntmps51;go_wp2_with(go_at_call 91;refine(M7 _).mono ?_;rintro e w1⟨b,rfl,hle,hb⟩;have h1:w1.heap[w.heap.size]? =some (Cv #[.pointer none,Lv none 0 0,Sv ⟨#[]⟩,.map none] 174 (0,0)):=(hb.block _ ah).trans H0;have c3:w1.cell? ⟨w.heap.size,3,none⟩=some (.map none):= qBu;have f3:w1.frozen? ⟨w.heap.size,3,none⟩=false:=(by simp[World.frozen?,h1]);have H1:=ai h1;have eE:=ai<|b8.trans<|hb.mono b8.size;clear h1 hb);go_ret;have hz:=eE.size;exact⟨rfl,⟨Mv b,⟨_,(dz H1 3 _).trans ah,Or.inl rfl⟩,⟨rfl,Or.inl ⟨rfl,rfl⟩⟩,λ_=>rfl,by simp[World.setCell];exact hz⟩,eE.setCell (br _) _⟩
abbrev opW(a b c d:Nat):Value:=.func (.func 181) #[] #[Pv a,Pv b,Pv c,Pv d]
def opN(i j:Nat):Nat:=([[0,1,1],[1,1,2],[1,1,2],[2,2,3]].getD i []).getD j 0
def opB(pb i j:Nat):Value:=if j=0 then Pv pb else .int .i64 ((opN i (j-1):Nat):Int)
def PM(w:World)(pb:Nat)(mv:Value):=
 ∃(mb:Nat)(x:Nat->Nat->Nat),mv=Mv mb/\mb≠pb/\MS Value.string w mb [(ik,opW (x 0 0) (x 0 1) (x 0 2)<|x 0 3),(jI,opW (x 1 0) (x 1 1) (x 1 2)<|x 1 3),(fs,opW (x 2 0) (x 2 1) (x 2 2)<|x 2 3),(il,opW (x 3 0) (x 3 1) (x 3 2)<|x 3 3)]/\∀i j,i<4->j<4->x i j≠pb/\Bx w (x i j) #[opB pb i j]
def Y_{F b0 b1:Nat}{d:Bool}{txt:List UInt8}(I:World->Prop)(hI:∀w w',I w->FN B pb w w'->I w')(IR:∀args w,(callFunc F args).run qf w=.ok (.enter F args) w)(HC:∀w bv l last,PN w B pb bv l last mv->I w->(l++(sep last++txt)).length<=800000->Cq F #[Pv b0,Pv b1] w (gR B pb mv (l++(sep last++txt)) w))(h:PN w B pb bv l last mv)(hi:I w)(hl:(l++(sep last++j7 d txt)).length<=800000):
 Cq 92 #[Pv pb,.bool d,.func (.func F) #[] #[Pv b0,Pv b1]] w (gR B pb mv (l++(sep last++j7 d txt)) w):=by
 cases d with
 |false=>
  rw[aj1]at hl⊢;have HC1:=HC w bv l last h hi hl;clear HC;go_enter func92,ntmps92;go_wp2_with fail;refine HC1.mono ?_;exact o_
 |true=>
  rw[aj2]at hl⊢;simp only[de,dr,eF]at hl;have Qu:=h.lt;have b8:Bq w (w.alloc<|Cv #[Sv dE] 9):=bw _;have HP:=pU (h.af b8) dE aA ae w.heap.size (qd w #[Sv dE] 9) ae;have Ef:dh l last dE=l++(sep last++[40]):=by
   exact Je
  rw[Ef]at HP;go_enter func92,ntmps92;go_wp2_with fail;refine HP.mono ?_;rintro e w1⟨rfl,UQ,N1,F1⟩;have FA:=(FN.of (B:=B) (pb:=pb) b8).trans F1;have HC1:=HC w1 UQ _ dE N1 (hI _ _ hi FA) (by simp only[dr,de,eF,lD];omega);rw[lD]at HC1;clear HC;go_wp2_with fail;refine HC1.mono ?_;rintro e w2⟨rfl,Bo,m5,N2,Qv,F2⟩;have ajB:=N2.lt;have mq:Bq w2 (w2.alloc<|Cv #[Sv dx] 9):=bw _;have HP2:=pU (N2.af mq) dx aA (by simp only[dr,de,eF,lD];omega) w2.heap.size (Bx.new w2 #[Sv dx] 9) ae;rw[oZ<|Or.inl<|toList_mk [41],show dx.toList=[41]from toList_mk [41]]at HP2;go_wp2_with fail;refine HP2.mono ?_;rintro e w3⟨rfl,XL,N3,F3⟩
  go_wp2
  go_end0;refine⟨rfl,XL,dx,?_,⟨by rw[show dx.toList=[41]from toList_mk [41]];decide,by rw[show dx.toList=[41]from toList_mk [41]];decide⟩,(FA.trans F2).trans<|(FN.of mq).trans F3⟩;have e9:l++(sep last++[40])++([]++txt)++[41]=l++(sep last++40::(txt++[41])):=ah;rw[<-e9];exact N3
def nN{bs:List UInt8}(h:t.toList=bs)(h1:bs≠[41])(h2:bs≠[44])(h3:bs≠[59]):dh l last t=l++(sep last++bs):=by
 rw[jF (by rw[h];exact h1) (by rw[h];exact h2) (by rw[h];exact h3),h]
def IU{bs:List UInt8}(h:t.toList=bs)(h':bs=[41]\/bs=[44]\/bs=[59]):dh l last t=l++bs:=by
 rw[dh,spB];rw[show t.data.toList=t.toList from(ju t).symm,h];obtain rfl|rfl|rfl:=h'<;>simp
def Y'{bs:List UInt8}(h:t.toList=bs)(h1:bs≠[])(h2:bs≠[40]):sep t=[32]:=eO<|kH h h1 h2
def Ra:sep gG=[]:=lD
structure NT(w:World)(pb:Nat)(Q:Nat->Prop):Prop where
 q:NQ w pb Q
def NT.fn{B pb:Nat}{w w':World}{Q:Nat->Prop}(h:NT w pb Q)(hf:FN B pb w w'):NT w' pb Q:=⟨h.q.fn hf⟩
instance (w:World) (pb:Nat) (Q:Nat->Prop):Coe (NT w pb Q) (NQ w pb Q):=⟨λh=>h.q⟩
def PP.fnQ(h:PP w Q nd v)(hq:NT w pb Q)(hf:FN B pb w w'):PP w' Q nd v:=h.move hf.size (λb p z=>hf.block b z (hq.q b p).2.1<|j3 (hq.q b p).2.2)<|λ_ p _=>p
def aj4(h:m0 s):s.toList≠[41]/\s.toList≠[44]/\s.toList≠[59]:=⟨cz h 41 [] aA,cz h 44 [] aA,cz h 59 [] aA⟩
def prk:Nd->Nat
 |.mk k _ _ L _ _ _=>if k=2/\L≠[]then 0 else 1
def xG(nd:Nd)(k:Nat):List UInt8:=j7 (decide (prk nd<k))<|sh nd
def yV(nd:Nd):xG nd 0=sh nd:=by rw[xG];rw[show decide (prk nd<0)=false by simp];rfl
def Vh(nd:Nd):=∀(w:World)(B pb:Nat)(bv:Value)(l:List UInt8)(last:BA)(mv:Value)(Q:Nat->Prop)(v:Value)(k:Nat),PN w B pb bv l last mv->PP w Q nd v->NT w pb Q->k<=1->(l++(sep last++xG nd k)).length<=800000->B<=pb->
 Cq 68 #[Pv pb,v,Nv k] w (gR B pb mv (l++(sep last++xG nd k)) w)
def nO(nd:Nd):=∀(w:World)(B pb:Nat)(bv:Value)(l:List UInt8)(last:BA)(mv:Value)(Q:Nat->Prop)(v:Value),PN w B pb bv l last mv->PP w Q nd v->NT w pb Q->(l++(sep last++sh nd)).length<=800000->B<=pb->
 Cq 105 #[Pv pb,v] w (gR B pb mv (l++(sep last++sh nd)) w)
abbrev BN(I D A:TypeId)(z:Array Value):Prop:=∀(x:Array Value)(w:World),(j6 (.iface D<|.agg x) I A true).run qf w=.ok (.tuple #[.agg z,.bool false]) w
abbrev QC:Array Value:=#[Iv 0,Iv 0,.string ⟨#[]⟩]
abbrev yH:Array Value:=#[Iv 0,Iv 0,Iv 0]
abbrev YA:Array Value:=#[Iv 0,Iv 0,.bool false]
abbrev YB:Array Value:=#[Iv 0,Iv 0]
abbrev tV:Array Value:=#[Iv 0,Iv 0,Iv 0,Iv 0,.string ⟨#[]⟩,.slice none 0 0]
abbrev QE:Array Value:=#[Iv 0,Iv 0]
@[simp] theorem QF(a0 a1:Value)(w:World):(j6 (.iface 217<|.agg #[a0,a1]) 115 217 true).run qf w=.ok (.tuple #[(.agg #[a0,a1]),.bool true]) w:=qkr
@[simp] theorem M_:BN 115 217 185 tV:=λ_ _=>qkr
@[simp] theorem Na:BN 115 201 217 QE:=λ_ _=>qkr
@[simp] theorem Mo(a0 a1 a2:Value)(w:World):(j6 (.iface 201<|.agg #[a0,a1,a2]) 115 201 true).run qf w=.ok (.tuple #[(.agg #[a0,a1,a2]),.bool true]) w:=qkr
@[simp] theorem Nb:BN 115 201 305 QC:=λ_ _=>qkr
@[simp] theorem Mp:BN 115 201 185 tV:=λ_ _=>qkr
@[simp] theorem Hj:BN 115 201 206 yH:=λ_ _=>qkr
@[simp] theorem Nc:BN 115 305 185 tV:=λ_ _=>qkr
@[simp] theorem Ng:BN 115 185 217 QE:=λ_ _=>qkr
@[simp] theorem Mq:BN 115 185 201 YA:=λ_ _=>qkr
@[simp] theorem Nh:BN 115 185 305 QC:=λ_ _=>qkr
@[simp] theorem Mr(a0 a1 a2 a3 a4 a5:Value)(w:World):(j6 (.iface 185<|.agg #[a0,a1,a2,a3,a4,a5]) 115 185 true).run qf w=.ok (.tuple #[(.agg #[a0,a1,a2,a3,a4,a5]),.bool true]) w:=qkr
@[simp] theorem Hk:BN 115 185 206 yH:=λ_ _=>qkr
@[simp] theorem Mt:BN 115 185 204 YB:=λ_ _=>qkr
@[simp] theorem Iu:BN 115 206 217 QE:=λ_ _=>qkr
@[simp] theorem Iw:BN 115 206 305 QC:=λ_ _=>qkr
@[simp] theorem Hl:BN 115 206 185 tV:=λ_ _=>qkr
@[simp] theorem Cw(a0 a1 a2:Value)(w:World):(j6 (.iface 206<|.agg #[a0,a1,a2]) 115 206 true).run qf w=.ok (.tuple #[(.agg #[a0,a1,a2]),.bool true]) w:=qkr
@[simp] theorem Br:BN 115 208 217 QE:=λ_ _=>qkr
@[simp] theorem yI:BN 115 208 201 YA:=λ_ _=>qkr
@[simp] theorem Bs:BN 115 208 305 QC:=λ_ _=>qkr
@[simp] theorem yJ:BN 115 208 185 tV:=λ_ _=>qkr
@[simp] theorem xC:BN 115 208 206 yH:=λ_ _=>qkr
@[simp] theorem rB(a0 a1 a2 a3:Value)(w:World):(j6 (.iface 208<|.agg #[a0,a1,a2,a3]) 115 208 true).run qf w=.ok (.tuple #[(.agg #[a0,a1,a2,a3]),.bool true]) w:=qkr
@[simp] theorem yK:BN 115 208 204 YB:=λ_ _=>qkr
@[simp] theorem Mu:BN 115 204 185 tV:=λ_ _=>qkr
def dO(b:Bool):BA:=if b then fH else di
def BO(b:Bool):Cq 187 #[.bool b] w λe w'=>e=.returned (.string<|dO b)/\w=w':=by
 cases b
 .go_enter func187,ntmps187
  go_wp2
  go_ret;exact⟨rfl,rfl⟩
 .go_enter func187,ntmps187
  go_wp2
  go_ret;exact⟨rfl,rfl⟩
def Ei(b:Bool):Cq 133 #[.bool b] w λe w'=>e=.returned (.string<|dO b)/\w=w':=by
 have HC:=BO (w:=w) b;go_enter func133,ntmps133;go_wp2_with fail;refine HC.mono ?_;rintro e w1⟨rfl,rfl⟩
 go_wp2
 go_ret;exact⟨rfl,rfl⟩
def afT:Prop:=∀(w:World)(n:Nat),n<96->Cq 90 #[Nv n] w λe w'=>e=.returned (.string<|bs<|dec n)/\Bq w w'
def EA(x:List UInt8):(bs x).toList=x:=by rw[ju];rfl
def afU(n:Nat):48<=(dg n).toNat/\(dg n).toNat<=57:=by
 have h:n%10<10:=Nat.mod_lt _ aA;rw[dg];generalize n%10=d at h
 match d,h with
 |0,_|1,_|2,_|3,_|4,_|5,_|6,_|7,_|8,_|9,_=>decide
def ahc(n:Nat):dec n≠[41]/\dec n≠[44]/\dec n≠[59]/\dec n≠[]/\dec n≠[40]:=by
 have key:∀m,∀x∈dec m,48<=x.toNat/\x.toNat<=57:=by
  intro m
  induction m using Nat.strongRecOn with
  |ind m ih=>
   intro x hx;rw[dec]at hx;split at hx
   .rename_i h;obtain rfl:=List.mem_singleton.1 hx;exact afU m
   .rename_i h;obtain hx|hx:=List.mem_append.1 hx
    .exact ih (m/10) ae x hx
    .obtain rfl:=List.mem_singleton.1 hx;exact afU m
 have cJ:dec n≠[]:=by
  rw[dec];split<;>simp
 have one:∀c:UInt8,(c.toNat<48\/57<c.toNat)->dec n≠[c]:=λc hc e=>by
  have:=key n c (by rw[e];simp);omega
 exact⟨one 41 aA,one 44 aA,one 59 aA,cJ,one 40 aA⟩
def Rb:∀k n,n<10^(k+1)->(dec n).length<=k+1
 |0,n,h=>by rw[dec];rw[if_pos ae];simp|k+1,n,h=>by
  rw[dec];split
  .simp
  .have:=Rb k (n/10) (by rw[Nat.pow_succ]at h;omega);simp;omega
def aj5(h:s.toList=fH.toList\/s.toList=di.toList):(dO<|s.toList==[116,114,117,101]).toList=s.toList:=by
 obtain h|h:=h
 .rw[h,show fH.toList=[116,114,117,101]from toList_mk _];exact toList_mk _
 .rw[h,show di.toList=[102,97,108,115,101]from toList_mk _];exact toList_mk _
def Za(s:BA)(n f t a:Nat):sh (.mk 15 s n [] f t a)=[95]:=by simp[sh,CL]
def Zb(s:BA)(n f t a:Nat):sh (.mk 3 s n [] f t a)=dec n:=by simp[sh,CL]
def Rc(s:BA)(n f t a:Nat):sh (.mk 4 s n [] f t a)=s.toList:=by simp[sh,CL]
def afV(s:BA)(n:Nat)(x y:Nd)(f t a:Nat):sh (.mk 6 s n [x,y] f t a)=40::(sh x++([44,32]++(sh y++[41]))):=by simp[sh,CL,prL,gP]
def Rd(s:BA)(n:Nat)(L:List Nd)(f t a:Nat):sh (.mk 2 s n L f t a)=s.toList++cr (L.map λx=>(lv x,sh x)):=by simp[sh,CL,Re]
def Vi(s:BA)(n f t a:Nat):nO (.mk 15 s n [] f t a):=by
 intro w B pb bv l last mv Q v h hp hq hl hB
 cases hp with
 |any s n f t a=>
 have esh:=Za s n f t a;rw[esh]at hl⊢;simp only[dr,de,eF]at hl;have Mx:Bq w (w.alloc<|Cv #[Nv f,Nv t] 217):=(bw<|Cv #[Nv f,Nv t] 217);have zW:(w.alloc<|Cv #[Nv f,Nv t] 217).heap.size=w.heap.size+1:=ah;have FW:=FN.of (B:=B) (pb:=pb) Mx;have Qu:=h.lt;have N0:=ai<|h.af Mx;have F0:=ai<|FN.refl B pb<|w.alloc<|Cv #[Nv f,Nv t] 217;have BXb:=ai<|Bx.at w #[Nv f,Nv t] 217 (w.heap.size) ah;have HQ:=ai<|hq.fn FW;clear h hq;go_enter func105,ntmps105;have zp1:=(uh N0).lt;rw[zW]at zp1;have cU:Bq (w.alloc<|Cv #[Nv f,Nv t] 217) ((w.alloc<|Cv #[Nv f,Nv t] 217).alloc<|Cv #[Sv mF] 9):=bw _;have Rf:fJ l last [mF]=(l++(sep last++[95])):=by
  show(dh l last mF)=_;rw[nN (toList_mk [95]) aA aA aA]
 have vQ:=qF ((uh N0).af cU) [mF] (by intro t ht;simp only[jf,jc,or_false]at ht;obtain rfl:=ht<;>first|decide|assumption) ah (by first|omega|(simp only[dr,de,eF];omega)) (w.heap.size+1) (qe (w.alloc<|Cv #[Nv f,Nv t] 217) #[Sv mF] 9 (w.heap.size+1) ah) ae (j3<|(qe (w.alloc<|Cv #[Nv f,Nv t] 217) #[Sv mF] 9 (w.heap.size+1) ah).nby BI);rw[Rf]at vQ;go_wp2_with fail;refine vQ.mono ?_;rintro e w1⟨rfl,pJ,hN,hF⟩;have N2:Hid (PN w1 B pb pJ (l++(sep last++[95])) mF mv):=ai hN;have F3:=ai<|(uh F0).trans<|(FN.of cU).trans hF;have YC:=(uh F3).size;rw[zW]at YC;clear hN hF vQ cU Rf N0 F0
 go_wp2
 go_end0;refine⟨rfl,pJ,mF,?_,kH (toList_mk [95]) aA aA,FW.trans<|uh F3⟩;show PN w1 B pb pJ (l++(sep last++[95])) mF mv;rw[show l++(sep last++[95])=(l++(sep last++[95])) by simp];exact uh N2
def NI(s:BA)(n f t a:Nat)(Yu:s.size<=1000):nO (.mk 4 s n [] f t a):=by
 intro w B pb bv l last mv Q v h hp hq hl hB
 cases hp with
 |word s n f t a hs=>
 have esh:=Rc s n f t a;rw[esh]at hl⊢;simp only[dr,de,eF]at hl;have htl:=aj5 hs;generalize(s.toList==[116,114,117,101])=bb at htl⊢;have hws:(dO bb).size<=1000:=by rw[dO];split<;>decide
 have hwn:(dO bb).toList≠[41]/\(dO bb).toList≠[44]/\(dO bb).toList≠[59]/\tS (dO bb):=by
  rw[tS,dO]
  cases bb<;>simp[ju]
 obtain⟨n1,n2,n3,hfi⟩:=hwn;rw[<-htl]at hl⊢;clear htl;have Mx:Bq w (w.alloc<|Cv #[Nv f,Nv t,.bool bb] 201):=(bw<|Cv #[Nv f,Nv t,.bool bb] 201);have zW:(w.alloc<|Cv #[Nv f,Nv t,.bool bb] 201).heap.size=w.heap.size+1:=ah;have FW:=FN.of (B:=B) (pb:=pb) Mx;have Qu:=h.lt;have N0:=ai<|h.af Mx;have F0:=ai<|FN.refl B pb<|w.alloc<|Cv #[Nv f,Nv t,.bool bb] 201;have BXb:=ai<|Bx.at w #[Nv f,Nv t,.bool bb] 201 (w.heap.size) ah;have HQ:=ai<|hq.fn FW;clear h hq;go_enter func105,ntmps105;go_wp2_with fail;refine(Ei bb).mono ?_;rintro e w'⟨rfl,rfl⟩;have zp1:=(uh N0).lt;rw[zW]at zp1;have cU:Bq (w.alloc<|Cv #[Nv f,Nv t,.bool bb] 201) ((w.alloc<|Cv #[Nv f,Nv t,.bool bb] 201).alloc<|Cv #[Sv<|dO bb] 9):=bw _;have Rf:fJ l last [(dO bb)]=(l++(sep last++(dO bb).toList)):=by
  show(dh l last<|dO bb)=_;rw[nN rfl n1 n2 n3]
 have vQ:=qF ((uh N0).af cU) [(dO bb)] (by intro t ht;simp only[jf,jc,or_false]at ht;obtain rfl:=ht<;>first|decide|assumption) ah (by first|omega|(simp only[dr,de,eF];omega)) (w.heap.size+1) (qe (w.alloc<|Cv #[Nv f,Nv t,.bool bb] 201) #[Sv<|dO bb] 9 (w.heap.size+1) ah) ae (j3<|(qe (w.alloc<|Cv #[Nv f,Nv t,.bool bb] 201) #[Sv<|dO bb] 9 (w.heap.size+1) ah).nby BI);rw[Rf]at vQ;go_wp2_with fail;refine vQ.mono ?_;rintro e w1⟨rfl,pJ,hN,hF⟩;have N2:Hid (PN w1 B pb pJ (l++(sep last++(dO bb).toList)) (dO bb) mv):=ai hN;have F3:=ai<|(uh F0).trans<|(FN.of cU).trans hF;have YC:=(uh F3).size;rw[zW]at YC;clear hN hF vQ cU Rf N0 F0
 go_wp2
 go_end0;refine⟨rfl,pJ,(dO bb),?_,hfi,FW.trans<|uh F3⟩;show PN w1 B pb pJ (l++(sep last++(dO bb).toList)) (dO bb) mv;rw[show l++(sep last++(dO bb).toList)=(l++(sep last++(dO bb).toList)) by simp];exact uh N2
def Vk(s:BA)(n f t a:Nat)(HI:afT)(hn:n<96):nO (.mk 3 s n [] f t a):=by
 intro w B pb bv l last mv Q v h hp hq hl hB
 cases hp with
 |num s n f t a=>
 have esh:=Zb s n f t a;rw[esh]at hl⊢;simp only[dr,de,eF]at hl;have⟨n1,n2,n3,n4,n5⟩:=ahc n;have hfi:tS (bs<|dec n):=by rw[tS];rw[EA];exact⟨n4,n5⟩
 rw[<-EA (dec n)]at n1 n2 n3;have bO:(bs<|dec n).size<=1000:=by rw[bS];have:=Rb 8 n ae;omega
 have Mx:Bq w (w.alloc<|Cv #[Nv f,Nv t,Nv n] 206):=(bw<|Cv #[Nv f,Nv t,Nv n] 206);have zW:(w.alloc<|Cv #[Nv f,Nv t,Nv n] 206).heap.size=w.heap.size+1:=ah;have FW:=FN.of (B:=B) (pb:=pb) Mx;have Qu:=h.lt;have N0:=ai<|h.af Mx;have F0:=ai<|FN.refl B pb<|w.alloc<|Cv #[Nv f,Nv t,Nv n] 206;have BXb:=ai<|Bx.at w #[Nv f,Nv t,Nv n] 206 (w.heap.size) ah;have HQ:=ai<|hq.fn FW;clear h hq;go_enter func105,ntmps105;go_wp2_with fail;refine(HI _ n hn).mono ?_;rintro e wi⟨rfl,hbi⟩;have Ni:=ai<|(uh N0).af hbi;have Fi:=ai<|(uh F0).trans<|FN.of hbi;have zi:=hbi.size;rw[zW]at zi;clear N0 F0 hbi;have zp1:=(uh Ni).lt;have cU:Bq wi (wi.alloc<|Cv #[Sv<|bs<|dec n] 9):=bw _;have Rf:fJ l last [(bs<|dec n)]=(l++(sep last++(bs<|dec n).toList)):=by
  show(dh l last<|bs<|dec n)=_;rw[nN rfl n1 n2 n3]
 have vQ:=qF ((uh Ni).af cU) [(bs<|dec n)] (by intro t ht;simp only[jf,jc,or_false]at ht;obtain rfl:=ht<;>first|decide|assumption) ah (by first|omega|(simp only[dr,de,eF];omega)) (wi.heap.size) (qe wi #[Sv<|bs<|dec n] 9 (wi.heap.size) ah) ae (j3<|(qe wi #[Sv<|bs<|dec n] 9 (wi.heap.size) ah).nby BI);rw[Rf]at vQ;go_wp2_with fail;refine vQ.mono ?_;rintro e w1⟨rfl,pJ,hN,hF⟩;have N2:Hid (PN w1 B pb pJ (l++(sep last++(bs<|dec n).toList)) (bs<|dec n) mv):=ai hN;have F3:=ai<|(uh Fi).trans<|(FN.of cU).trans hF;have YC:=(uh F3).size;rw[zW]at YC;clear hN hF vQ cU Rf Ni Fi
 go_wp2
 go_end0;refine⟨rfl,pJ,(bs<|dec n),?_,hfi,FW.trans<|uh F3⟩;show PN w1 B pb pJ (l++(sep last++dec n)) (bs<|dec n) mv;rw[show l++(sep last++dec n)=(l++(sep last++(bs<|dec n).toList)) by rw[EA]];exact uh N2
def Zd(s:BA)(n:Nat)(x y:Nd)(f t a:Nat)(Hx:Vh x)(Hy:Vh y):nO (.mk 6 s n [x,y] f t a):=by
 intro w B pb bv l last mv Q v h hp hq hl hB
 cases hp with
 |pr s n x y f t a vx vy hx hy=>
 have hx0:=hx;have hy0:=hy;obtain⟨tx,xx,rfl⟩:=hx.iface;obtain⟨ty,xy,rfl⟩:=hy.iface;have esh:=afV s n x y f t a;rw[esh]at hl⊢;simp only[dr,de,eF]at hl;have Mx:Bq w (w.alloc<|Cv #[Nv f,Nv t,Fv tx<|Av xx,Fv ty<|Av xy] 208):=(bw<|Cv #[Nv f,Nv t,Fv tx<|Av xx,Fv ty<|Av xy] 208);have zW:(w.alloc<|Cv #[Nv f,Nv t,Fv tx<|Av xx,Fv ty<|Av xy] 208).heap.size=w.heap.size+1:=ah;have FW:=FN.of (B:=B) (pb:=pb) Mx;have Qu:=h.lt;have N0:=ai<|h.af Mx;have F0:=ai<|FN.refl B pb<|w.alloc<|Cv #[Nv f,Nv t,Fv tx<|Av xx,Fv ty<|Av xy] 208;have BXb:=ai<|Bx.at w #[Nv f,Nv t,Fv tx<|Av xx,Fv ty<|Av xy] 208 (w.heap.size) ah;have Vx:=ai<|hx0.af Mx;have Vy:=ai<|hy0.af Mx;have HQ:=ai<|hq.fn FW;clear h hq;go_enter func105,ntmps105;have zp1:=(uh N0).lt;rw[zW]at zp1;have cU:Bq (w.alloc<|Cv #[Nv f,Nv t,Fv tx<|Av xx,Fv ty<|Av xy] 208) ((w.alloc<|Cv #[Nv f,Nv t,Fv tx<|Av xx,Fv ty<|Av xy] 208).alloc<|Cv #[Sv gG] 9):=bw _;have Rf:fJ l last [gG]=(l++(sep last++[40])):=by
  show(dh l last gG)=_;rw[nN (toList_mk [40]) aA aA aA]
 have vQ:=qF ((uh N0).af cU) [gG] (by intro t ht;simp only[jf,jc,or_false]at ht;obtain rfl:=ht<;>first|decide|assumption) ah (by first|omega|(simp only[dr,de,eF];omega)) (w.heap.size+1) (qe (w.alloc<|Cv #[Nv f,Nv t,Fv tx<|Av xx,Fv ty<|Av xy] 208) #[Sv gG] 9 (w.heap.size+1) ah) ae (j3<|(qe (w.alloc<|Cv #[Nv f,Nv t,Fv tx<|Av xx,Fv ty<|Av xy] 208) #[Sv gG] 9 (w.heap.size+1) ah).nby BI);rw[Rf]at vQ;go_wp2_with fail;refine vQ.mono ?_;rintro e w1⟨rfl,pJ,hN,hF⟩;have N2:Hid (PN w1 B pb pJ (l++(sep last++[40])) gG mv):=ai hN;have F3:=ai<|(uh F0).trans<|(FN.of cU).trans hF;have YC:=(uh F3).size;rw[zW]at YC;clear hN hF vQ cU Rf N0 F0;have⟨c4,fc4,zc4⟩:=(uh F3).eP (uh BXb) ae BI;have HS5:=Hx w1 B pb _ _ gG mv Q _ 0 (uh N2) ((uh Vx).fnQ (uh HQ)<|uh F3) ((uh HQ).fn<|uh F3) ae (by rw[Ra];rw[yV];simp only[dr,de,eF];omega) hB;rw[Ra]at HS5;rw[yV]at HS5;go_wp2_with fail;clear c4 fc4 zc4;refine HS5.mono ?_;rintro e w2⟨rfl,anY,Ze,hN,anZ,hF⟩;have N6:=ai hN;have F7:=ai<|(uh F3).trans hF;have zw2:=(uh F7).size;rw[zW]at zw2;clear hN hF HS5 N2 F3;have zp8:=(uh N6).lt;have hb8:Bq w2 (w2.alloc<|Cv #[Sv fy] 9):=bw _;have eT8:fJ ((l++(sep last++[40]))++([]++sh x)) Ze [fy]=(((l++(sep last++[40]))++([]++sh x))++[44]):=by
  show(dh ((l++(sep last++[40]))++([]++sh x)) Ze fy)=_;rw[IU (toList_mk [44]) aA]
 have HP8:=qF ((uh N6).af hb8) [fy] (by intro t ht;simp only[jf,jc,or_false]at ht;obtain rfl:=ht<;>first|decide|assumption) ah (by first|omega|(simp only[dr,de,eF];omega)) (w2.heap.size) (qe w2 #[Sv fy] 9 (w2.heap.size) ah) ae (j3<|(qe w2 #[Sv fy] 9 (w2.heap.size) ah).nby BI);rw[eT8]at HP8;go_wp2_with fail;refine HP8.mono ?_;rintro e w3⟨rfl,amv,hN,hF⟩;have N9:Hid (PN w3 B pb amv (((l++(sep last++[40]))++([]++sh x))++[44]) fy mv):=ai hN;have F10:=ai<|(uh F7).trans<|(FN.of hb8).trans hF;have zw3:=(uh F10).size;rw[zW]at zw3;clear hN hF HP8 hb8 eT8 N6 F7;have⟨c11,amw,amx⟩:=(uh F10).eP (uh BXb) ae BI;have EB:=Hy w3 B pb _ _ fy mv Q _ 0 (uh N9) ((uh Vy).fnQ (uh HQ)<|uh F10) ((uh HQ).fn<|uh F10) ae (by rw[Y' (toList_mk [44]) aA aA];rw[yV];simp only[dr,de,eF];omega) hB;rw[Y' (toList_mk [44]) aA aA]at EB;rw[yV]at EB;go_wp2_with fail;clear c11 amw amx;refine EB.mono ?_;rintro e w4⟨rfl,an0,Zf,hN,an1,hF⟩;have N13:=ai hN;have F14:=ai<|(uh F10).trans hF;have zw4:=(uh F14).size;rw[zW]at zw4;clear hN hF EB N9 F10;have an2:=(uh N13).lt;have ahd:Bq w4 (w4.alloc<|Cv #[Sv dJ] 9):=bw _
 have aj6:fJ ((((l++(sep last++[40]))++([]++sh x))++[44])++([32]++sh y)) Zf [dJ]=(((((l++(sep last++[40]))++([]++sh x))++[44])++([32]++sh y))++[41]):=by
  show(dh ((((l++(sep last++[40]))++([]++sh x))++[44])++([32]++sh y)) Zf dJ)=_;rw[IU (toList_mk [41]) aA]
 have ahe:=qF ((uh N13).af ahd) [dJ] (by intro t ht;simp only[jf,jc,or_false]at ht;obtain rfl:=ht<;>first|decide|assumption) ah (by first|omega|(simp only[dr,de,eF];omega)) (w4.heap.size) (qe w4 #[Sv dJ] 9 (w4.heap.size) ah) ae (j3<|(qe w4 #[Sv dJ] 9 (w4.heap.size) ah).nby BI);rw[aj6]at ahe;go_wp2_with fail;refine ahe.mono ?_;rintro e w5⟨rfl,ahf,hN,hF⟩;have N16:Hid (PN w5 B pb ahf (((((l++(sep last++[40]))++([]++sh x))++[44])++([32]++sh y))++[41]) dJ mv):=ai hN;have F17:=ai<|(uh F14).trans<|(FN.of ahd).trans hF;have zw5:=(uh F17).size;rw[zW]at zw5;clear hN hF ahe ahd aj6 N13 F14
 go_wp2
 go_end0;refine⟨rfl,ahf,dJ,?_,kH (toList_mk [41]) aA aA,FW.trans<|uh F17⟩;show PN w5 B pb ahf (l++(sep last++40::(sh x++([44,32]++(sh y++[41]))))) dJ mv;rw[show l++(sep last++40::(sh x++([44,32]++(sh y++[41]))))=(((((l++(sep last++[40]))++([]++sh x))++[44])++([32]++sh y))++[41]) by simp];exact uh N16
def cA{p:Prop}(h:p:=by
 go_enter func103,ntmps103
 go_wp2
 go_ret
 exact⟨by simp[prk],b8 _ _⟩):p:=h
def LD{p:Prop}(h:p:=by
 go_enter func103,ntmps103
 go_wp2
 go_ret
 exact⟨by simp[prk,hL],b8 _ _⟩):p:=h
def B_(h:PP w Q nd v):Cq 103 #[v] w λe w'=>e=.returned (Nv<|prk nd)/\Bq w w':=by
 have b8:∀C t,Bq w<|w.alloc<|Cv C t:=λC t=>bw _
 cases h with
 |any s n f t a=>
  exact cA
 |low s n f t a hs=>
  exact cA
 |num s n f t a=>
  exact cA
 |word s n f t a hs=>
  exact cA
 |unit s n f t a=>
  exact cA
 |pr s n x y f t a vx vy hx hy=>
  exact cA
 |up s n L f t a y sa sc vs hu hy aE hr=>
  by_cases hL:L=[]
  .have h3:decide ((0:Int)<(L.length:Int))=false:=by simp[hL]
   exact LD
  .have h3:(0:Int)<(L.length:Int):=by have:=List.length_pos_iff.2 hL;omega
   exact LD
def adS(HB:nO nd)(h:PN w B pb bv l last mv)(hp:PP w Q nd v)(hq:NT w pb Q)(hl:(l++(sep last++sh nd)).length<=800000)(hB:B<=pb)(b1 b2:Nat)(h1:Bx w b1 #[Pv pb])(h2:Bx w b2 #[v]):
 Cq 104 #[Pv b1,Pv b2] w (gR B pb mv (l++(sep last++sh nd)) w):=by
 obtain⟨tv,xv,rfl⟩:=hp.iface;obtain⟨c1,f1,z1⟩:=h1;obtain⟨c2,f2,z2⟩:=h2;have HC:=HB w B pb bv l last mv Q _ h hp hq hl hB;go_enter func104,ntmps104;go_wp2_with fail;refine HC.mono ?_;exact o_
def Zg (HB:nO nd) (k:Nat) (h:PN w B pb bv l last mv) (hp:PP w Q nd v) (hq:NT w pb Q) (hl:(l++(sep last++xG nd k)).length<=800000) (hB:B<=pb) (b1 b2:Nat) (h1:Bx w b1 #[Pv pb]) (h2:Bx w b2 #[v]) (n1:b1≠pb) (n2:b2≠pb):
 Cq 92 #[Pv pb,.bool (decide (prk nd<k)),.func (.func 104) #[] #[Pv b1,Pv b2]] w (gR B pb mv (l++(sep last++xG nd k)) w):=by
 obtain ⟨tv,xv,rfl⟩:=hp.iface;exact Y_ (λW=>PP W Q nd (Fv tv (Av xv))/\NT W pb Q/\Bx W b1 #[Pv pb]/\Bx W b2 #[Fv tv (Av xv)])
  (λw w' i F=>⟨i.1.fnQ i.2.1 F,i.2.1.fn F,F.eP i.2.2.1 n1 BI,F.eP i.2.2.2 n2 BI⟩)
  (λ_ _=>qkr) (λw bv l last hN i hb=>adS HB hN i.1 i.2.1 hb hB b1 b2 i.2.2.1 i.2.2.2) h ⟨hp,hq,h1,h2⟩ hl
def dT(HB:nO nd):Vh nd:=by
 intro w B pb bv l last mv Q v k h hp hq hk hl hB;have⟨tv,xv,hv⟩:=hp.iface;have Qu:=h.lt;have n1:w.heap.size≠pb:=ae;have n2:w.heap.size+1≠pb:=ae;obtain⟨R,hR⟩:∃R,R=gR B pb mv (l++(sep last++xG nd k)) w:=⟨_,rfl⟩;obtain⟨r,hr⟩:∃r,r=prk nd:=⟨_,rfl⟩;have b8:Bq w ((w.alloc<|Cv #[Pv pb] 161).alloc<|Cv #[v] 115):=(bw _).alloc ah _;have X1:=((qd w #[Pv pb] 161).alloc<|Cv #[v] 115);have X2:Bx ((w.alloc<|Cv #[Pv pb] 161).alloc<|Cv #[v] 115) (w.heap.size+1) #[v]:=by have:=qd (w.alloc<|Cv #[Pv pb] 161) #[v] 115;simpa using this
 have HN:=h.af b8;have HP:=hp.af b8;have F0:=FN.of (B:=B) (pb:=pb) b8;have HQ:=hq.fn F0;subst hv;rw[<-hR];clear h hp hq b8;go_enter func68,ntmps68;go_wp2_with fail;generalize((w.alloc<|Cv #[Pv pb] 161).alloc<|Cv #[Fv tv<|Av xv] 115)=W0 at X1 X2 HN HP F0 HQ⊢;generalize w.heap.size=b1 at n1 n2 X1 X2⊢;have c1:=X1.c;have f1:=X1.f;have z1:=X1.z;have c2:=X2.c;have f2:=X2.f;have z2:=X2.z;have HRK:Hid (∀W,Bq W0 W->Cq 103 #[Fv tv<|Av xv] W λe w'=>e=Rv (Nv r)/\Bq W w'):=ai (λW hW=>by rw[hr];exact B_<|HP.af hW)
 have HG:Hid (∀W,Bq W0 W->Cq 92 #[Pv pb,.bool<|decide (r<k),.func (.func 104) #[] #[Pv b1,Pv<|b1+1]] W λe w'=>e=Rv (.tuple #[])/\R e w'/\w'.cell? ⟨b1,0,none⟩=some (Pv pb)/\w'.cell? ⟨b1+1,0,none⟩=some (Fv tv<|Av xv)):=ai (λW hW=>by
  have FW:=FN.of (B:=B) (pb:=pb) hW;rw[hr];refine(Zg HB k (HN.af hW) (HP.af hW) (HQ.fn FW) hl hB b1 (b1+1) (X1.below hW) (X2.below hW) n1 n2).mono ?_;rintro e w2⟨rfl,Bo,m5,Ew,Qv,BV⟩;have Y1:=BV.eP (X1.below hW) n1 BI;have Y2:=BV.eP (X2.below hW) n2 BI;refine⟨rfl,?_,Y1.c 0,Y2.c 0⟩;rw[hR]
  exact⟨rfl,Bo,m5,Ew,Qv,F0.trans<|FW.trans BV⟩)
 clear HB HN HP HQ F0 hR hr hl X1 X2 n1 n2 Qu hk hB;have k1:W0.cell? ⟨b1,0,none⟩=some (Pv pb):=c1 0;have k2:W0.cell? ⟨b1+1,0,none⟩=some (Fv tv<|Av xv):=c2 0;clear c1 c2 f1 f2;go_region_held3(λw'=>w'.cell? ⟨b1,0,none⟩=some (Pv pb)/\w'.cell? ⟨b1+1,0,none⟩=some (Fv tv<|Av xv)) (first|go_keep|(simp[*])) (first|(go_at_call 103;refine(uh HRK _ (j9 _ _).drew).mono ?_;rintro e w1⟨rfl,cU⟩;have eE:=ai<|Im cU;have k3:w1.cell? ⟨b1,0,none⟩=some (Pv pb):=(jv (a:=⟨b1,0,none⟩)<|(uh eE).block b1 z1).trans k1;have k4:w1.cell? ⟨b1+1,0,none⟩=some (Fv tv<|Av xv):=(jv (a:=⟨b1+1,0,none⟩)<|(uh eE).block (b1+1) z2).trans k2;clear cU)|(go_at_call 92;with_reducible refine(uh HG _<|uh eE).mono ?_;rintro e w2⟨rfl,hR2,k5,k6⟩;have IL:=ai hR2;clear hR2))
 all_goals(
  go_wp2
  go_end0
  exact uh IL)
def PP.at5(h:PP w Q nd v):xG nd 1=atP (lv nd,sh nd) 5:=by
 rw[xG,atP]
 cases h with
 |up s n L f t a y sa sc vs hu hy aE hr=>by_cases hL:L=[]<;>simp[prk,lv,hL]|_=>simp[prk,lv]
def IV(L:List Nd)(j:Nat)(h:j<L.length):cr ((L.take<|j+1).map λx=>(lv x,sh x))=cr ((L.take j).map λx=>(lv x,sh x))++32::atP (lv L[j],sh L[j]) 5:=by
 unfold cr;exact Jh
def Vl(L:List Nd)(j:Nat):(cr<|(L.take j).map λx=>(lv x,sh x)).length<=(cr<|L.map λx=>(lv x,sh x)).length:=by
 have e:cr (L.map λx=>(lv x,sh x))=cr ((L.take j).map λx=>(lv x,sh x))++cr ((L.drop j).map λx=>(lv x,sh x)):=by
  unfold cr;rw[<-List.flatMap_append,<-jk,jh]
 rw[e,dr];omega
def Zh(B pb:Nat)(mv:Value)(l:List UInt8)(L:List Nd)(w:World)(gk:Nat)(v:Value)(wr:World):=
 ∃(j:Nat)(Ee:Value)(vD:BA),Hid (gk=L.length-j)/\j<=L.length/\v=Nv j/\PN wr B pb Ee (l++cr ((L.take j).map λx=>(lv x,sh x))) vD mv/\tS vD/\FN B pb w wr
def yW(s:BA)(n:Nat)(L:List Nd)(f t a:Nat)(Yu:s.size<=1000)(hL:L.length<=1001)(IH:∀i(h:i<L.length),Vh L[i]):nO (.mk 2 s n L f t a):=by
 intro w B pb bv l last mv Q v h hp hq hl hB
 cases hp with
 |up s n L f t a y sa sc vs hu hy aE hr=>
 clear hy;rw[Rd]at hl⊢;simp only[dr]at hl;have⟨n1,n2,n3⟩:=aj4 hu;have hfi:=Qw hu;have HR:=ai hr;have HW:=ai aE;have Hq:=ai hq;clear hr aE;have Mx:Bq w (w.alloc<|Cv #[Nv f,Nv t,Nv a,Nv y,Sv s,Lv sa L.length sc] 185):=(bw<|Cv #[Nv f,Nv t,Nv a,Nv y,Sv s,Lv sa L.length sc] 185);have zW:(w.alloc<|Cv #[Nv f,Nv t,Nv a,Nv y,Sv s,Lv sa L.length sc] 185).heap.size=w.heap.size+1:=ah;have FW:=FN.of (B:=B) (pb:=pb) Mx;have Qu:=h.lt;have N0:=ai<|h.af Mx;have F0:=ai<|FN.refl B pb<|w.alloc<|Cv #[Nv f,Nv t,Nv a,Nv y,Sv s,Lv sa L.length sc] 185;have BXb:=ai<|Bx.at w #[Nv f,Nv t,Nv a,Nv y,Sv s,Lv sa L.length sc] 185 (w.heap.size) ah;have HQ:=ai<|hq.fn FW;clear h hq;go_enter func105,ntmps105;have zp1:=(uh N0).lt;rw[zW]at zp1;have cU:Bq (w.alloc<|Cv #[Nv f,Nv t,Nv a,Nv y,Sv s,Lv sa L.length sc] 185) ((w.alloc<|Cv #[Nv f,Nv t,Nv a,Nv y,Sv s,Lv sa L.length sc] 185).alloc<|Cv #[Sv s] 9):=bw _;have Rf:fJ l last [s]=(l++(sep last++s.toList)):=by
  show(dh l last s)=_;rw[nN rfl n1 n2 n3]
 have vQ:=qF ((uh N0).af cU) [s] (by intro t ht;simp only[jf,jc,or_false]at ht;obtain rfl:=ht<;>first|decide|assumption) ah (by first|omega|(simp only[dr,de,eF];omega)) (w.heap.size+1) (qe (w.alloc<|Cv #[Nv f,Nv t,Nv a,Nv y,Sv s,Lv sa L.length sc] 185) #[Sv s] 9 (w.heap.size+1) ah) ae (j3<|(qe (w.alloc<|Cv #[Nv f,Nv t,Nv a,Nv y,Sv s,Lv sa L.length sc] 185) #[Sv s] 9 (w.heap.size+1) ah).nby BI);rw[Rf]at vQ;go_wp2_with fail;refine vQ.mono ?_;rintro e w1⟨rfl,pJ,hN,hF⟩;have N2:Hid (PN w1 B pb pJ (l++(sep last++s.toList)) s mv):=ai hN;have F3:=ai<|(uh F0).trans<|(FN.of cU).trans hF;have YC:=(uh F3).size;rw[zW]at YC;clear hN hF vQ cU Rf N0 F0;have⟨c4,fc4,zc4⟩:=(uh F3).eP (uh BXb) ae BI
 go_wp2
 go_loopg[64] L.length (λgk v wr=>Zh B pb mv (l++(sep last++s.toList)) L w gk v wr)
 case atStart=>exact⟨0,pJ,s,ai rfl,jz _,rfl,by simpa[cr]using uh N2,hfi,FW.trans<|uh F3⟩
 case round=>
  clear N2 F3 c4 fc4 zc4;obtain⟨j,Bo,m5,bE,hj,rfl,N2,Qv,F2⟩:=hrel;by_cases aI:j<L.length
  .have hd:(j:Int)<(L.length:Int):=ae;obtain⟨g,rfl,hg,mn,bX⟩:∃g,sa=some ⟨g,0,none⟩/\Q g/\g<w.heap.size/\∀i,i<L.length->w.cell? ⟨g,i,none⟩=some (vs i):=by
    obtain h0|h0:=uh HW
    .subst h0;simp at aI
    .exact h0
   have cg:wr.cell? ⟨g,j,none⟩=some (vs j):=(jv (a:=⟨g,j,none⟩)<|F2.block g mn ((uh Hq).q g hg).2.1<|j3 ((uh Hq).q g hg).2.2).trans<|bX j aI;have PJ:=(uh HR j aI).fnQ (uh Hq) F2;have⟨tv,xv,hv⟩:=PJ.iface;have ft:=IV L j aI;have fl:=Vl L<|j+1;rw[ft]at fl;simp only[dr,de]at fl;have e5:=PJ.at5;rw[<-e5]at ft fl;have HC:=IH j aI wr B pb Bo _ m5 mv Q (vs j) 1 N2 PJ ((uh Hq).fn F2) (br _) (by rw[eO Qv];simp only[dr,de,eF];omega) hB;rw[hv]at cg HC;rw[eO Qv]at HC;go_wp2_with(go_at_call 68;refine HC.mono ?_;rintro e w3⟨rfl,XL,Ct,Yw,fi3,hF3⟩;have HN3:=ai Yw;have HF3:=ai<|F2.trans hF3;clear Yw hF3);go_roundg(L.length-(j+1))
   case measure=>rw[uh bE];omega
   case rel=>
    refine⟨j+1,XL,Ct,ai rfl,ae,d_,?_,fi3,uh HF3⟩;rw[ft];have e9:(l++(sep last++s.toList))++(cr ((L.take j).map λx=>(lv x,sh x))++32::xG L[j] 1)=(l++(sep last++s.toList))++cr ((L.take j).map λx=>(lv x,sh x))++([32]++xG L[j] 1):=ah;rw[e9];exact uh HN3
  .have hd:decide ((j:Int)<(L.length:Int))=false:=bi;have ej:j=L.length:=ae;subst ej;rw[ji]at N2
   go_wp2
   go_end0;refine⟨rfl,Bo,m5,?_,Qv,F2⟩;rw[show l++(sep last++(s.toList++cr (L.map λx=>(lv x,sh x))))=(l++(sep last++s.toList))++cr (L.map λx=>(lv x,sh x)) by simp];exact N2
namespace Ms
mutual
def Sk.sm:Sk->Prop
 |.any=>True|.hd t n ps=>(t=.i->n<=9)/\qG ps
def qG:List Sk->Prop
 |[]=>True|p::ps=>Sk.sm p/\qG ps
end
def mG:Sk->Bool
 |.hd .l 1 _=>true|.hd .s 1 _=>true|_=>false
def tx:Sk->List UInt8
 |.any=>[95]|.hd .i n _=>[UInt8.ofNat<|48+n]|.hd .b n _=>if n=1 then[116,114,117,101]else[102,97,108,115,101]|.hd .l 1 [a,b]=>[67]++32::j7 (mG a) (tx a)++32::j7 (mG b) (tx b)|.hd .l _ _=>[78]|.hd .s 1 [a,b]=>[81]++32::j7 (mG a) (tx a)++32::j7 (mG b) (tx b)|.hd .s _ _=>[80]|.hd .p _ [a,b]=>40::(tx a++([44,32]++(tx b++[41])))|.hd .p _ _=>[]
end Ms
def ahg:afT:=λw n h=>(NJ n h).mono (by rintro e w'⟨rfl,rfl⟩;exact⟨rfl,j9 _ _⟩)
def aj7(h:n<=9):dec n=[UInt8.ofNat<|48+n]:=by
 obtain rfl|rfl|rfl|rfl|rfl|rfl|rfl|rfl|rfl|rfl:n=0\/n=1\/n=2\/n=3\/n=4\/n=5\/n=6\/n=7\/n=8\/n=9:=ae;all_goals kernel_rfl
def LL{p:Prop}(h:p:=by
 intro hs;obtain⟨a1,b1,c1⟩:=h1 hs.2.1;obtain⟨a2,b2,c2⟩:=h2 hs.2.2.1
 exact⟨dT (yW _ n _ f t a aA ah λi h=>match i,h with|0,_=>a1|1,_=>a2),by rw[Rd];simp[Ms.tx,cr,atP,b1,b2,c1,c2,ju],rfl⟩):p:=h
def aj8{s:Ms.Sk}{t:Ms.So}(h:In.Pt nd s t):s.sm->Vh nd/\sh nd=Ms.tx s/\decide (lv nd<5)=Ms.mG s:=by
 induction h with
 |any s n f t a u=>exact λ_=>⟨dT<|Vi s n f t a,Za ..,rfl⟩|num s n f t a=>exact λh=>⟨dT<|Vk s n f t a ahg (by have:=h.1 rfl;omega),by rw[Zb];exact aj7<|h.1 rfl,rfl⟩|Hv c n f t a=>exact λ_=>⟨dT (NI _ n f t a (by cases c<;>decide)),by rw[Rc];cases c<;>simp[Ms.tx,ju],rfl⟩|nil n f t a=>exact λ_=>⟨dT<|yW _ n [] f t a aA ah λi h=>absurd h ah,by rw[Rd];simp[Ms.tx,cr,ju],rfl⟩|aM n f t a _ _ h1 h2=>
  exact LL
 |pr s n f t a _ _ h1 h2=>
  intro hs;have⟨a1,b1,c1⟩:=h1 hs.2.1;have⟨a2,b2,c2⟩:=h2 hs.2.2.1;exact⟨dT<|Zd s n _ _ f t a a1 a2,by rw[afV,b1,b2];rfl,rfl⟩
 |p n f t a=>exact λ_=>⟨dT<|yW _ n [] f t a aA ah λi h=>absurd h ah,by rw[Rd];simp[Ms.tx,cr,ju],rfl⟩|q n f t a _ _ h1 h2=>
  exact LL
def PP.byP(h:PP w P nd v):PP w (λb=>b<w.heap.size/\Il w b) nd v:=by
 induction h with
 |any s n f t a=>exact .any s n f t a|low s n f t a h=>exact .low s n f t a h|num s n f t a=>exact .num s n f t a|word s n f t a h=>exact .word s n f t a h|unit s n f t a=>exact .unit s n f t a|pr s n x y f t a vx vy _ _ tL Bu=>exact .pr s n x y f t a vx vy tL Bu|up s n L f t a y sa sc vs hu hy aE hr ih=>
  refine .up s n L f t a y sa sc vs hu hy ?_ ih;by_cases h0:L=[]
  .exact .inl h0
  .have⟨g,h1,hP,hz,hc⟩:=aE.resolve_left h0;refine .inr ⟨g,h1,⟨hz,λx hx c e=>?_⟩,hz,hc⟩;have:=hc 0<|List.length_pos_iff.2 h0;have⟨ti,xi,ei⟩:=(hr 0<|List.length_pos_iff.2 h0).iface;rw[hx,e]at this;injection this with this;rw[ei]at this
   cases this
def Vm(ha:Vh nd)(h:PP w P nd v)(cJ:sh nd≠[])(hl:(sh nd).length<=700000):Cq 37 #[v] w λe w'=>e=.returned (.string<|bs<|sh nd)/\Bq w w':=by
 have H:=ai h.byP;clear h;go_enter func37,ntmps37;go_wp2_with fail;refine It.mono ?_;rintro e w1⟨rfl,⟨mv,hN⟩,cU⟩;have vQ:=(uh H).af cU;have hQ:NT w1 w.heap.size (λb=>b<w.heap.size/\Il w b):=⟨λb q=>⟨Nat.lt_of_lt_of_le q.1 cU.size,Nat.ne_of_lt q.1,λx hx c=>q.2 x (by rw[<-World.cell?_of_block (a:=⟨b,0,none⟩) (cU.block b q.1)];exact hx) c⟩⟩;have e1:[]++(sep ⟨#[]⟩++xG nd 0)=sh nd:=by rw[yV];simp[sep]
 have HA:=ai (ha w1 w.heap.size w.heap.size _ _ _ mv _ v 0 hN vQ hQ ae (by rw[e1];omega)<|br _);rw[e1]at HA;have HB:=ai cU;clear hN vQ hQ e1 cU;go_wp2_with fail;refine(uh HA).mono ?_;rintro e w2⟨rfl,bv,last,hN,-,hF⟩;have HS:=ai<|Iy hN cJ;have BG:=λk q=>cN hN.ow k q;have⟨ad,XN,_⟩:=hN.bk;have HO:=ai BG;have HF:=ai hF;clear hN hF HA BG;go_wp2_with fail;refine(uh HS).mono ?_;rintro e w3⟨rfl,F3⟩;have hB:Bq w w3:=by
  have b1:=uh HB;have f2:=uh HF;refine⟨F3.os.trans<|f2.os.trans b1.os,F3.tape.trans<|f2.tape.trans b1.tape,F3.output.trans<|f2.output.trans b1.output,jx b1.size<|jx f2.size F3.size,λk hk=>?_⟩;have z1:=b1.size;have z2:=f2.size;exact(F3.block k ae (λq=>by obtain q|q:=q;omega;have:=(uh HO k q).1;omega)).trans ((f2.block k ae ae<|.inl hk).trans<|b1.block k hk)
 have HX:=ai hB;clear hB F3
 go_wp2
 go_ret;exact⟨rfl,uh HX⟩
def Ix:Cq 49 #[] w λe w'=>e=.returned (.func (.func 89) #[] #[Pv<|w.heap.size+1])/\NB w' (w.heap.size+1) w.heap.size []/\Bq w w':=by
 have g_:= @run_makeMap Tryz.prog;go_enter func49,ntmps49
 go_wp2
 go_ret;refine⟨rfl,⟨?_,?_,ae⟩,(bw _).alloc ah _⟩
 .have:=qd (w.alloc<|.map #[] 0) #[Mv w.heap.size] 250;simpa using this
 .exact(MS.new ajF w).below (bw _)
def adz:Cq 30 #[] w λe w'=>∃cb nb mb,e=.returned (.func (.func 50) #[] #[Pv cb])/\Bx w' cb #[nbV nb]/\NB w' nb mb []/\w.heap.size<=mb/\cb≠mb/\Bq w w':=by
 go_enter func30,ntmps30;go_wp2_with(go_at_call 49;refine Ix.mono ?_;rintro e w1⟨rfl,hN,hb⟩;have HN:=ai hN;have HB:=ai hb;clear hN hb);go_ret;have hz:=HN.lt;have cU:Bq w1 (w1.alloc<|Cv #[nbV<|w.heap.size+1] 159):=bw _;exact⟨w1.heap.size,w.heap.size+1,w.heap.size,rfl,Bx.new _ _ _,HN.af cU,br _,ae,HB.trans<|cU.mono HB.size⟩
def UZ nb mb a T w(e:Ending)w':=
 e=.returned (.string<|bs<|wr dec (vars a T) T 0)/\NB w' nb mb (vars a T)/\Fr (λb=>b=mb) w w'
def adA(HAt:∀nd,WN nd->AtC nd){a}(hT:eN w P T v)(hP:∀b,P b->b≠mb)(hN:NB w nb mb a)(hC:Bx w cb #[nbV nb])(U0:cb≠mb)(hW:Wf T)(hs:size T<=48)(hv:(vars a T).length<=96):
 Cq 50 #[v,Pv cb] w (UZ nb mb a T w):=by
 have aZ:=hN.lt;have hcz:=hC.z;obtain⟨tv,xv,rfl⟩:=hT.iface;go_enter func50,ntmps50;go_wp2_with fail;refine It.mono ?_;rintro e w1⟨rfl,⟨mv,hPN⟩,cU⟩;have C1:=hC.below cU;obtain⟨c1,f1,z1⟩:=C1;have YC:=hPN.lt;have HC:=Cu T w1 nb mb a P _ (hT.af cU) (hN.af cU) hP hW hv (by simp[ak];omega);go_wp2_with fail;refine HC.mono ?_;rintro e w2⟨u,rfl,hU,N2,F2⟩;obtain⟨tu,xu,rfl⟩:=hU.cG
 have P2:=hPN.same F2.size (λb hb q=>F2.block b hb (λe=>by
  obtain q|q:=q
  .omega
  .simp[Value.ownBlock]at q))
 have hwn:=WN.sp hT hW ae a ae;have hwl:=tW (L:=vars a T) ae T hW 0;have hnq:NQ w2 w.heap.size (λb=>w1.heap.size<=b/\b<w2.heap.size/\Il w2 b):=λb q=>⟨q.2.1,ae,q.2.2⟩;have Ii:sep ⟨#[]⟩=[]:=by rw[sep];rw[if_pos<|j5<|toList_mk []]
 have HA:=HAt _ hwn w2 w.heap.size w.heap.size _ [] ⟨#[]⟩ mv _ _ 0 P2 hU.by hnq ae (by rw[Ii,Yx];simp;omega)<|br _;rw[Ii,Yx]at HA;go_wp2_with fail;refine HA.mono ?_;rintro e w3⟨rfl,XL,Ct,N3,fi3,F3⟩;have cJ:=hT.ajE<|vars a T;have HS:=Iy N3 (by simpa using cJ);have⟨ad,XN,_⟩:=N3.bk;go_wp2_with fail;refine HS.mono ?_;rintro e w4⟨rfl,F4⟩
 go_wp2
 go_ret;have xD:∀k,k<w.heap.size->k≠mb->w4.heap[k]? =w.heap[k]? :=λk hk hm=>by
  have e1:=cU.block k hk;have e2:=F2.block k ae hm;have e3:=F3.block k (by have:=F2.size;omega) ae<|j5 hk
  have e4:=F4.block k (by have:=F2.size;have:=F3.size;omega) (λq=>by
   obtain q|q:=q
   .omega
   .have:=(cN N3.ow k q).1;omega)
  exact e4.trans<|e3.trans<|e2.trans e1
 have vE:w4.heap[mb]? =w2.heap[mb]? :=by
  have e3:=F3.block mb (by have:=F2.size;omega) ae<|j5 aZ.2
  have e4:=F4.block mb (by have:=F2.size;have:=F3.size;omega) (λq=>by
   obtain q|q:=q
   .omega
   .have:=(cN N3.ow mb q).1;omega)
  exact e4.trans e3
 have hs4:=jx cU.size<|jx F2.size<|jx F3.size F4.size;refine⟨ah,⟨?_,N2.mp.same vE,N2.ne⟩,⟨?_,?_,?_,hs4,xD⟩⟩
 .exact N2.bk.same (jx F3.size F4.size) (by
   have e2:=F2.block nb ae N2.ne;have e1:=cU.block nb aZ.1
   rw[xD nb aZ.1 N2.ne,<-e1,<-e2])
 .exact F4.os.trans (F3.os.trans<|F2.os.trans cU.os)
 .exact F4.tape.trans (F3.tape.trans<|F2.tape.trans cU.tape)
 .exact F4.output.trans (F3.output.trans<|F2.output.trans cU.output)
def Fr.Nj{S}{a b c}(h:Below n a b)(hn:n<=b.heap.size)(k:Fr S b c)(hS:∀x,S x->n<=x):Below n a c:=
 ⟨k.os.trans h.os,k.tape.trans h.tape,k.output.trans h.output,jx h.size k.size,λi hi=>(k.block i ae (λq=>by have:=hS i q;omega)).trans<|h.block i hi⟩
def rL(HB:yB nd):AtC nd:=by
 intro w B pb bv l last mv Q v k h hp hq hk hl hB;have⟨tv,xv,hv⟩:=hp.cG;have Qu:=h.lt;have n1:w.heap.size≠pb:=ae;have n2:w.heap.size+1≠pb:=ae;obtain⟨R,hR⟩:∃R,R=gR B pb mv (l++(sep last++wT nd k)) w:=⟨_,rfl⟩;obtain⟨r,hr⟩:∃r,r=rk nd:=⟨_,rfl⟩;have b8:Bq w ((w.alloc<|Cv #[Pv pb] 161).alloc<|Cv #[v] 165):=(bw _).alloc ah _;have X1:=((qd w #[Pv pb] 161).alloc<|Cv #[v] 165);have X2:Bx ((w.alloc<|Cv #[Pv pb] 161).alloc<|Cv #[v] 165) (w.heap.size+1) #[v]:=by have:=qd (w.alloc<|Cv #[Pv pb] 161) #[v] 165;simpa using this
 have HN:=h.af b8;have HP:=hp.af b8;have F0:=FN.of (B:=B) (pb:=pb) b8;have HQ:=hq.fn F0;subst hv;rw[<-hR];clear h hp hq b8;go_enter func52,ntmps52;go_wp2_with fail;generalize((w.alloc<|Cv #[Pv pb] 161).alloc<|Cv #[Fv tv<|Av xv] 165)=W0 at X1 X2 HN HP F0 HQ⊢;generalize w.heap.size=b1 at n1 n2 X1 X2⊢;have c1:=X1.c;have f1:=X1.f;have z1:=X1.z;have c2:=X2.c;have f2:=X2.f;have z2:=X2.z;have HRK:Hid (∀W,Bq W0 W->Cq 93 #[Fv tv<|Av xv] W λe w'=>e=Rv (Nv r)/\Bq W w'):=ai (λW hW=>by rw[hr];exact Yr<|HP.af hW)
 have HG:Hid (∀W,Bq W0 W->Cq 92 #[Pv pb,.bool<|decide (r<k),.func (.func 94) #[] #[Pv b1,Pv<|b1+1]] W λe w'=>e=Rv (.tuple #[])/\R e w'/\w'.cell? ⟨b1,0,none⟩=some (Pv pb)/\w'.cell? ⟨b1+1,0,none⟩=some (Fv tv<|Av xv)):=ai (λW hW=>by
  have FW:=FN.of (B:=B) (pb:=pb) hW;rw[hr];refine(adr HB k hk (HN.af hW) (HP.af hW) (HQ.fn FW) hl hB b1 (b1+1) (X1.below hW) (X2.below hW) n1 n2).mono ?_;rintro e w2⟨rfl,Bo,m5,Ew,Qv,BV⟩;have Y1:=BV.eP (X1.below hW) n1 BI;have Y2:=BV.eP (X2.below hW) n2 BI;refine⟨rfl,?_,Y1.c 0,Y2.c 0⟩;rw[hR]
  exact⟨rfl,Bo,m5,Ew,Qv,F0.trans<|FW.trans BV⟩)
 clear HB HN HP HQ F0 hR hr hl X1 X2 n1 n2 Qu hk hB;have k1:W0.cell? ⟨b1,0,none⟩=some (Pv pb):=c1 0;have k2:W0.cell? ⟨b1+1,0,none⟩=some (Fv tv<|Av xv):=c2 0;clear c1 c2 f1 f2;go_region_held3(λw'=>w'.cell? ⟨b1,0,none⟩=some (Pv pb)/\w'.cell? ⟨b1+1,0,none⟩=some (Fv tv<|Av xv)) (first|go_keep|(simp[*])) (first|(go_at_call 93;refine(uh HRK _ (j9 _ _).drew).mono ?_;rintro e w1⟨rfl,cU⟩;have eE:=ai<|Im cU;have k3:w1.cell? ⟨b1,0,none⟩=some (Pv pb):=(jv (a:=⟨b1,0,none⟩)<|(uh eE).block b1 z1).trans k1;have k4:w1.cell? ⟨b1+1,0,none⟩=some (Fv tv<|Av xv):=(jv (a:=⟨b1+1,0,none⟩)<|(uh eE).block (b1+1) z2).trans k2;clear cU)|(go_at_call 92;with_reducible refine(uh HG _<|uh eE).mono ?_;rintro e w2⟨rfl,hR2,k5,k6⟩;have IL:=ai hR2;clear hR2))
 all_goals(
  go_wp2
  go_end0
  exact uh IL)
def ahh nd(h:WN nd):AtC nd:=by
 induction h with
 |var s n f t a h=>exact rL (Y9 s n f t a h)|fn s n x y f t a hx hy tL Bu=>exact rL (adQ s n x y f t a tL Bu)|pr s n x y f t a hx hy tL Bu=>exact rL (adR s n x y f t a tL Bu)|up s n L f t a h hl hL ih=>exact rL<|adP s n L f t a h hl ih
end
end Go.Proofs.YtopmodaakdnliaaGreatDoor

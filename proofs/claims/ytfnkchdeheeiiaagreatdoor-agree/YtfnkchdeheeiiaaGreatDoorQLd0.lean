import Derived.Deep.Slices
import Derived.OpenShut
import Derived.ProofKit
import Derived.SevenTiedAt
import Derived.Test.YtfnkchdeheeiiaaGreatDoorCards
import Derived.WalkLawsBesides
import Derived.WalkSpells
set_option linter.all false
set_option maxRecDepth 100000
set_option maxHeartbeats 200000
namespace Go.Proofs.YtfnkchdeheeiiaaGreatDoor
open Go.Instr renaming findNow->ja,sameBits->jc,typeAssert->jd,sameNow->jf,mapUpdate->jh,findKey->ji,lookup->jj
open Go.Result renaming andThen->jk
open _root_.List renaming map_cons->jl,getElem?_eq_getElem->jm
open Go.Sem renaming run_bind->jo
open Go.MapKept renaming run_setObj_map->jp,run_getObj_map->jq
open Go
variable {P:Program} {κ:Type} {e k t:TypeId} {w w':World}
section
open Go.ChangeShapes Go.WideShapes Go.RowKit Go.Deep
section
variable {H:Type} {enc:TypeId×Value->H} {base:Nat} {spare:Nat->Bool} {held:Bool}
def MX{s t:ByteArray}(h:s.data.toList=t.data.toList):s=t:=by
 cases s;cases t
 simp at h;simp[h]
def zJ{n fuel}{cs}{p}(L:List ByteArray)(ht:P.underlying t=some (.array n e))(he:P.underlying e=some .string)(hc:P.cellsOf e=1)(h:DataW.trod enc P w base spare held fuel t cs=some (.agg<|L.map λs=>.lit<|.string s.data.toList,p)):∀j,j<n->cs[j]? =some (.string<|L.getD j ⟨#[]⟩):=by
 intro j hj;have⟨xs,m,_,hx,hl,hn,hel⟩:=DataW.trod_array ht h;simp only[Prod.mk.injEq,DataW.agg.injEq]at hx;have hg:=hel j hj;rw[hc,Nat.mul_one,jm<|by omega]at hg;have⟨s,h1,h2,_⟩:=DataW.trod_string he hg;have h3:(L.map λs=>(DataW.lit (.string s.data.toList):DataW H))[j]? =some (.lit<|.string s.data.toList):=by
  rw[hx.1,List.getElem?_map,jm<|by omega,h2];rfl
 rw[List.getElem?_map]at h3
 cases hL:L[j]? with
 |none=>rw[hL]at h3;simp at h3|some u=>
  rw[hL]at h3;simp at h3;have hu:=MX (by simpa using h3);have h4:cs[j]? =some (.string s):=by
   have:=congrArg (λl=>l[0]?) h1;simpa[List.getElem?_take,List.getElem?_drop]using this
  rw[h4,List.getD_eq_getElem?_getD,hL,hu];rfl
end
def YB:Tryz.prog.cellsOf 3=1:=by kernel_rfl
def strCells:Tryz.prog.cellsOf 9=1:=by kernel_rfl
end
section
open Go.RowKit Go.MapKept Go.ChangeMaps
def yc{κ:Type}[DecidableEq κ](x:κ):List (κ×Value)->Nat->Option (Nat×Value)
 |[],_=>none|p::l,i=>if p.1=x then some (i,p.2)else yc x l (i+1)
def aZ{κ:Type}[DecidableEq κ](x:κ):List (κ×Value)->Option Value
 |[]=>none|p::l=>if p.1=x then some p.2 else aZ x l
theorem P8[DecidableEq κ]x(l:List (κ×Value))(i:Nat):(yc x l i).map (·.2)=aZ x l:=by
 induction l generalizing i with
 |nil=>rfl|cons p l ih=>rw[yc,aZ];split<;>simp[ih]
def bF{κ:Type}[DecidableEq κ](x:κ)(v:Value):List (κ×Value)->List (κ×Value)
 |[]=>[(x,v)]|p::l=>if p.1=x then(x,v)::l else p::bF x v l
def oS[DecidableEq κ]x v(l:List (κ×Value))(h:aZ x l=none):bF x v l=l++[(x,v)]:=by
 induction l with
 |nil=>rfl|cons p l ih=>
  rw[aZ]at h;split at h
  .simp at h
  .rename_i hn;simp[bF,hn,ih h]
theorem aM[DecidableEq κ]x y v(l:List (κ×Value)):aZ y (bF x v l)=if x=y then some v else aZ y l:=by
 induction l with
 |nil=>simp[bF,aZ]|cons p l ih=>
  unfold bF;split
  .rename_i h;unfold aZ;by_cases e:x=y
   .simp[e]
   .rw[h];simp[e]
  .rename_i h;unfold aZ;rw[ih];by_cases e:p.1=y
   .grind
   .simp[e]
structure KL P k{κ:Type}[DecidableEq κ](enc:κ->Value)(ok:World->κ->Prop):Prop where
 chk:∀b x w,(Instr.checkKey b 10000 k<|enc x).run P w=.ok () w
 fin:∀x(L:List (κ×Value))(es:List MapEntry)w,ok w x->(∀p∈L,ok w p.1)->es.map (λe=>(e.key,e.val))=L.map (λp=>(enc p.1,p.2))->(ji k (enc x) es).run P w=.ok (yc x L 0) w
 bit:∀x,jc 10000 (enc x) (enc x)=true
def MS{κ:Type}(enc:κ->Value)(w:World)(b:Nat)(L:List (κ×Value)):=
 ∃es clock,w.heap[b]? =some (.map es clock)/\es.toList.map (λe=>(e.key,e.val))=L.map (λp=>(enc p.1,p.2))
section
variable [DecidableEq κ] {enc:κ->Value} {ok:World->κ->Prop} {b:Nat} {L:List (κ×Value)}
def MS.lt(h:MS enc w b L):b<w.heap.size:=by grind[MS]
def MS.same(h:MS enc w b L)(hb:w'.heap[b]? =w.heap[b]?):MS enc w' b L:=by grind[MS]
def MS.below(h:MS enc w b L)(hb:Below w.heap.size w w'):MS enc w' b L:=h.same<|hb.block b h.lt
def MS.new(enc:κ->Value)(w:World):MS enc (w.alloc<|.map #[] 0) w.heap.size []:=⟨#[],0,(MapKept.heap_alloc w _).1,rfl⟩
def MS.look(K:KL P k enc ok)(h:MS enc w b L)(ht:P.underlying t=some (.map k e)){z}(hz:(zeroValue e).run P w=.ok z w)x(hx:ok w x)(hL:∀p∈L,ok w p.1)c:
 (jj t (.map<|some b) (enc x) c).run P w=.ok (match aZ x L with|some v=>if c then .tuple #[v,.bool true]else v|none=>if c then .tuple #[z,.bool false]else z) w:=by
 obtain⟨es,clock,hb,m9⟩:=h;have hf:=K.fin x L es.toList w hx hL m9;rw[<-P8 x L 0];rw[jj];simp only[jo,run_underlying ht,jk,jq hb,K.chk,hf]
 cases yd:yc x L 0 with
 |none=>rw[yd]at hf;cases c<;>simp[hz,hf,jk]|some p=>rw[yd]at hf;cases c<;>simp[hf,jk]
def EH x v:∀(L:List (κ×Value))(es:List MapEntry)(i j:Nat)(u:Value),es.map (λe=>(e.key,e.val))=L.map (λp=>(enc p.1,p.2))->yc x L i=some (j,u)->i<=j/\∃e0,es[j-i]? =some e0/\e0.key=enc x/\(es.modify (j-i) λe=>{e with key:=enc x,val:=v}).map (λe=>(e.key,e.val))=(bF x v L).map (λp=>(enc p.1,p.2)):=by
 intro L
 induction L with
 |nil=>intro es i j u _ h;simp[yc]at h|cons p l ih=>
  intro es i j u m9 h
  cases es with
  |nil=>simp at m9|cons e0 es=>
   simp only[jl,List.cons.injEq,Prod.mk.injEq]at m9;obtain⟨⟨hk,hv⟩,m9⟩:=m9;rw[yc]at h;split at h
   .rename_i hp;simp only[Option.some.injEq,Prod.mk.injEq]at h;obtain⟨rfl,rfl⟩:=h;refine⟨Nat.le_refl _,e0,by simp,by rw[hk,hp],?_⟩;simp[bF,hp,m9]
   .rename_i hp;have⟨h1,e1,h2,h3,h4⟩:=ih es (i+1) j u m9 h;refine⟨by omega,e1,?_,h3,?_⟩
    .grind
    .rw[show j-i=(j-(i+1))+1 by omega];simp[bF,hp,h4,hk,hv]
def oU x:∀(L:List (κ×Value))(i:Nat),yc x L i=none->aZ x L=none:=by grind[yc,aZ,P8]
def MS.put(K:KL P k enc ok)(h:MS enc w b L)(ht:P.underlying t=some (.map k e))x v(hx:ok w x)(hL:∀p∈L,ok w p.1):
 ∃o,(jh t (.map<|some b) (enc x) v).run P w=.ok () (setBlock w b o)/\MS enc (setBlock w b o) b (bF x v L):=by
 obtain⟨es,clock,hb,m9⟩:=h;have hf:=K.fin x L es.toList w hx hL m9;rw[jh];simp only[jo,run_underlying ht,jk,jq hb,K.chk,hf]
 cases yd:yc x L 0 with
 |none=>
  refine⟨.map (es.push {key:=enc x,val:=v,born:=clock})<|clock+1,by rw[yd]at hf;simp[hf,jk];exact jp _ hb,_,_,(heap_setBlock_same hb _),?_⟩;rw[oS x v L<|oU x L 0 yd];simp[m9]
 |some p=>
  obtain⟨j,u⟩:=p;have⟨_,e0,h2,h3,h4⟩:=EH (enc:=enc) x v L es.toList 0 j u m9 yd;have Ek:es[j]? =some e0:=by simpa using h2
  refine⟨.map (es.modify j λe=>{e with key:=enc x,val:=v}) clock,?_,_,_,(heap_setBlock_same hb _),by simpa using h4⟩;rw[yd]at hf;simp[hf,jk,Ek,h3,Instr.keyThatStays,K.bit];exact jp _ hb
end
def KL.str(hk:P.underlying k=some .string):KL P k Value.string (λ_ _=>True) where
 chk b x w:=run_checkKey hk (by simp[IsKey]) b 9999
 bit x:=by simp only[jc];exact(bytes_beq x x).2 rfl
 fin x L es w _ _ m9:=by
  refine run_findKey hk ?_
  suffices H:∀(L:List (ByteArray×Value))(es:List MapEntry)(i:Nat),es.map (λe=>(e.key,e.val))=L.map (λp=>(Value.string p.1,p.2))->ja .string (.string x) es i=some (yc x L i)from H L es 0 m9
  intro L
  induction L with
  |nil=>intro es i h;simp at h;subst h;rfl|cons p l ih=>
   intro es i h
   cases es with
   |nil=>simp at h|cons e0 es=>
    simp only[jl,List.cons.injEq,Prod.mk.injEq]at h;obtain⟨⟨h1,h2⟩,h3⟩:=h;rw[ja,yc];simp only[h1,jf];by_cases e:p.1=x
    .have:(x==p.1)=true:=(bytes_beq _ _).2 e.symm;rw[if_pos e];simp only[this,h2]
    .have:(x==p.1)=false:=by rw[<-Bool.not_eq_true,bytes_beq];exact λq=>e q.symm
     simp only[e,this,if_false,ih es (i+1) h3]
def KL.num{q:IntKind}(hk:P.underlying k=some (.int q)):KL P k (λn:Int=>Value.int q n) (λ_ _=>True) where
 chk b x w:=run_checkKey hk (by simp[IsKey]) b 9999
 bit x:=by simp[jc]
 fin x L es w _ _ m9:=by
  refine run_findKey hk ?_
  suffices H:∀(L:List (Int×Value))(es:List MapEntry)(i:Nat),es.map (λe=>(e.key,e.val))=L.map (λp=>(Value.int q p.1,p.2))->ja (.int q) (.int q x) es i=some (yc x L i)from H L es 0 m9
  intro L
  induction L with
  |nil=>intro es i h;simp at h;subst h;rfl|cons p l ih=>
   intro es i h
   cases es with
   |nil=>simp at h|cons e0 es=>
    simp only[jl,List.cons.injEq,Prod.mk.injEq]at h;obtain⟨⟨h1,h2⟩,h3⟩:=h;rw[ja,yc];simp only[h1,jf];by_cases e:p.1=x
    .simp[e,h2]
    .grind
def KL.ptr{el:TypeId}{j:TypeInfo}(hk:P.underlying k=some (.pointer el))(hi:P.info? el=some j)(fW:j.size≠0):
 KL P k (λb:Nat=>Value.pointer<|some ⟨b,0,none⟩) (λw b=>∃c t,w.heap[b]? =some (.cells c t (0,0))) where
 chk b x w:=by
  rw[Instr.checkKey];simp only[jo,run_underlying hk,jk];rfl
 bit x:=by simp[jc]
 fin x L es w hx hL m9:=by
  have akY:∀(es:List MapEntry)(i:Nat),es≠[]->ja (.pointer el) (.pointer<|some ⟨x,0,none⟩) es i=none:=by
   intro es i h
   cases es with
   |nil=>exact absurd rfl h|cons e0 es=>simp[ja,jf]
  rw[ji];simp only[jo,run_underlying hk,jk]
  cases es with
  |nil=>
   cases L with
   |nil=>simp[ja,yc]|cons p l=>simp at m9
  |cons e0 es0=>
   rw[akY _ 0<|by simp];revert m9;generalize(e0::es0)=es;intro m9
   suffices H:∀(L:List (Nat×Value))(es:List MapEntry)(i:Nat),(∀p∈L,∃c t,w.heap[p.1]? =some (.cells c t (0,0)))->es.map (λe=>(e.key,e.val))=L.map (λp=>(Value.pointer<|some ⟨p.1,0,none⟩,p.2))->(Instr.findAsking k (.pointer<|some ⟨x,0,none⟩) es i).run P w=.ok (yc x L i) w from H L es 0 hL m9
   intro L
   induction L with
   |nil=>intro es i _ h;simp at h;subst h;rfl|cons p l ih=>
    intro es i hL h
    cases es with
    |nil=>simp at h|cons e0 es=>
     simp only[jl,List.cons.injEq,Prod.mk.injEq]at h;obtain⟨⟨h1,h2⟩,h3⟩:=h;rw[Instr.findAsking,yc];have heq:(Op.equal k (.pointer<|some ⟨x,0,none⟩) e0.key).run P w=.ok (decide (p.1=x)) w:=by
      rw[h1];rw[Op.equal,Op.maxDepth,Op.equalIn];simp only[jo,run_underlying hk,jk,sizeOf,typeInfo,hi];obtain⟨c1,t1,hc1⟩:=hx;have⟨c2,t2,hc2⟩:=hL p (by simp);by_cases e:p.1=x
      .simp[e,fW,run_sameAddr_same,hi]
      .simp[e,fW,hi,run_sameAddr_other w (a:=⟨x,0,none⟩) (b:=⟨p.1,0,none⟩) (by intro q;injection q with q;exact e q.symm) hc1 hc2]
     simp only[jo,heq,jk];by_cases e:p.1=x
     .simp[e,h2]
     .grind
end
abbrev zK A z:=∀(I D:TypeId)(x:Value)(w:World),D≠A->(jd (.iface D x) I A true).run Tryz.prog w=.ok (.tuple #[.agg z,.bool false]) w
abbrev Bp A:=∀(I:TypeId)(x:Array Value)(w:World),(jd (.iface A<|.agg x) I A true).run Tryz.prog w=.ok (.tuple #[.agg x,.bool true]) w
def fN{A}{z}(hz:∀w,(zeroValue A).run Tryz.prog w=.ok (.agg z) w)(hu:∀w,∃u,(underlying A).run Tryz.prog w=.ok u w/\∀m,u≠.interface m):zK A z:=λI D x w h=>by
 have⟨u,hu,hi⟩:=hu w;rw[jd];simp[go_sem,hu,hz,h]
@[simp] theorem akZ:zK 337 #[.int .i64 0,.int .i64 0]:=fN (λw=>by kernel_rfl) λw=>⟨_,rfl,λm q=>by cases q⟩
@[simp] theorem ak0:Bp 337:=λI x w=>by kernel_rfl
@[simp] theorem ai3:Bp 161:=λI x w=>by kernel_rfl
@[simp] theorem aiB:zK 297 #[.int .i64 0,.int .i64 0,.string ⟨#[]⟩,.nilIface,.nilIface]:=fN (λw=>by kernel_rfl) λw=>⟨_,rfl,λm q=>by cases q⟩
@[simp] theorem aiC:Bp 297:=λI x w=>by kernel_rfl
@[simp] theorem P_:zK 321 #[.int .i64 0,.int .i64 0,.bool false]:=fN (λw=>by kernel_rfl) λw=>⟨_,rfl,λm q=>by cases q⟩
@[simp] theorem akG:Bp 321:=λI x w=>by kernel_rfl
@[simp] theorem Qa:zK 319 #[.int .i64 0,.int .i64 0,.nilIface,.nilIface]:=fN (λw=>by kernel_rfl) λw=>⟨_,rfl,λm q=>by cases q⟩
@[simp] theorem akH:Bp 319:=λI x w=>by kernel_rfl
@[simp] theorem ak1:zK 313 #[.int .i64 0,.int .i64 0,.int .i64 0,.int .i64 0,.string ⟨#[]⟩,.nilIface]:=fN (λw=>by kernel_rfl) λw=>⟨_,rfl,λm q=>by cases q⟩
@[simp] theorem ak2:Bp 313:=λI x w=>by kernel_rfl
@[simp] theorem al8:zK 317 #[.int .i64 0,.int .i64 0,.nilIface,.nilIface,.nilIface]:=fN (λw=>by kernel_rfl) λw=>⟨_,rfl,λm q=>by cases q⟩
@[simp] theorem al9:Bp 317:=λI x w=>by kernel_rfl
@[simp] theorem ak3:zK 315 #[.int .i64 0,.int .i64 0,.bool false,.int .i64 0,.int .i64 0,.string ⟨#[]⟩,.nilIface,.nilIface]:=fN (λw=>by kernel_rfl) λw=>⟨_,rfl,λm q=>by cases q⟩
@[simp] theorem ak4:Bp 315:=λI x w=>by kernel_rfl
@[simp] theorem agv:Bp 144:=λI x w=>by kernel_rfl
@[simp] theorem YC:zK 356 #[.int .i64 0,.int .i64 0,.string ⟨#[]⟩]:=fN (λw=>by kernel_rfl) λw=>⟨_,rfl,λm q=>by cases q⟩
@[simp] theorem ak5:Bp 356:=λI x w=>by kernel_rfl
@[simp] theorem akI:zK 307 #[.int .i64 0,.int .i64 0,.int .i64 0,.int .i64 0,.string ⟨#[]⟩,.slice none 0 0]:=fN (λw=>by kernel_rfl) λw=>⟨_,rfl,λm q=>by cases q⟩
@[simp] theorem akJ:Bp 307:=λI x w=>by kernel_rfl
@[simp] theorem ai4:zK 201 #[.int .i64 0,.int .i64 0,.nilIface,.slice none 0 0]:=fN (λw=>by kernel_rfl) λw=>⟨_,rfl,λm q=>by cases q⟩
@[simp] theorem ai5:Bp 201:=λI x w=>by kernel_rfl
@[simp] theorem ai6:zK 166 #[.int .i64 0,.int .i64 0,.int .i64 0,.int .i64 0,.string ⟨#[]⟩,.slice none 0 0]:=fN (λw=>by kernel_rfl) λw=>⟨_,rfl,λm q=>by cases q⟩
@[simp] theorem ai7:Bp 166:=λI x w=>by kernel_rfl
@[simp] theorem uF:zK 326 #[.int .i64 0,.int .i64 0,.int .i64 0]:=fN (λw=>by kernel_rfl) λw=>⟨_,rfl,λm q=>by cases q⟩
@[simp] theorem aiD:Bp 326:=λI x w=>by kernel_rfl
@[simp] theorem akK:zK 309 #[.int .i64 0,.int .i64 0,.nilIface,.nilIface]:=fN (λw=>by kernel_rfl) λw=>⟨_,rfl,λm q=>by cases q⟩
@[simp] theorem akL:Bp 309:=λI x w=>by kernel_rfl
@[simp] theorem YD:zK 328 #[.int .i64 0,.int .i64 0,.nilIface,.nilIface]:=fN (λw=>by kernel_rfl) λw=>⟨_,rfl,λm q=>by cases q⟩
@[simp] theorem YE:Bp 328:=λI x w=>by kernel_rfl
@[simp] theorem ae0:zK 137 #[.int .i64 0,.int .i64 0,.int .i64 0,.int .i64 0,.string ⟨#[]⟩,.slice none 0 0,.slice none 0 0]:=fN (λw=>by kernel_rfl) λw=>⟨_,rfl,λm q=>by cases q⟩
@[simp] theorem ae1:Bp 137:=λI x w=>by kernel_rfl
@[simp] theorem ae2:zK 163 #[.int .i64 0,.int .i64 0,.nilIface,.nilIface]:=fN (λw=>by kernel_rfl) λw=>⟨_,rfl,λm q=>by cases q⟩
@[simp] theorem ae3:Bp 163:=λI x w=>by kernel_rfl
@[simp] theorem agw:zK 159 #[.int .i64 0,.int .i64 0,.string ⟨#[]⟩]:=fN (λw=>by kernel_rfl) λw=>⟨_,rfl,λm q=>by cases q⟩
@[simp] theorem agx:Bp 159:=λI x w=>by kernel_rfl
@[simp] theorem ai8:zK 311 #[.int .i64 0,.int .i64 0,.nilIface,.nilIface]:=fN (λw=>by kernel_rfl) λw=>⟨_,rfl,λm q=>by cases q⟩
@[simp] theorem ai9:Bp 311:=λI x w=>by kernel_rfl
@[simp] theorem Qb:zK 324 #[.int .i64 0,.int .i64 0]:=fN (λw=>by kernel_rfl) λw=>⟨_,rfl,λm q=>by cases q⟩
@[simp] theorem akM:Bp 324:=λI x w=>by kernel_rfl
@[simp] theorem YF:zK 390 #[.int .i64 0,.int .i64 0,.string ⟨#[]⟩]:=fN (λw=>by kernel_rfl) λw=>⟨_,rfl,λm q=>by cases q⟩
@[simp] theorem al_:Bp 390:=λI x w=>by kernel_rfl
def fB{a b}(h:a=true)(k:b=true):(a&&b)=true:=by rw[h,k];rfl
def EI:(laidOutB Tryz.prog)=true:=by kernel_rfl
def Qc:(mapsRowed Tryz.prog)=true:=by kernel_rfl
def cp6:((Tryz.prog.stops==[]))=true:=by kernel_rfl
def cp8:((Tryz.prog.stopKnobs==[]))=true:=by kernel_rfl
def ak6:(Tryz.prog.stopsHeard)=true:=by kernel_rfl
def ak7:(Tryz.prog.mayEnter)=true:=by kernel_rfl
def Uq:Rows.agreeRow.wfByText (OpenSpec.ofChange Rows.agreeSpec)=true:=by kernel_rfl
def MY:false=Rows.agreeRow.goesBy Tryz.pinned.checked.prog:=by kernel_rfl
end Go.Proofs.YtfnkchdeheeiiaaGreatDoor

import Derived.BigQuiet
import Derived.Deep.LoopGhost
import Derived.Deep.RegionWith
import Derived.Deep.Slices
import Derived.Lib.ConvBytes
import Derived.OpenShut
import Derived.ProofKit
import Derived.RegionDies
import Derived.SevenTiedAt
import Derived.Test.YtfnkchdeheeiiaaGreatDoorCards
import Derived.WalkLawsBesides
import Derived.WalkSpells
set_option linter.all false
set_option maxRecDepth 100000
set_option maxHeartbeats 200000
namespace Go.Proofs.YtfnkchdeheeiiaaGreatDoor
open Go.Instr renaming findNow->ja,sameBits->jc,typeAssert->jd,sameNow->jf,mapUpdate->jh,findKey->ji,lookup->jj
open Go.Result renaming andThen->jk
open Go.Proofs.Tryz renaming prog->jl
open _root_.List renaming map_cons->jm,getElem?_eq_getElem->jo
open Go.Sem renaming run_bind->jp
open Go.MapKept renaming run_setObj_map->jq,run_getObj_map->jt
open Go
variable {P:Program} {κ:Type} {e k t:TypeId} {w w':World}
section
open Go.ChangeShapes Go.WideShapes Go.RowKit Go.Deep
section
variable {H:Type} {enc:TypeId×Value->H} {base:Nat} {spare:Nat->Bool} {held:Bool}
def J8{s t:ByteArray}(h:s.data.toList=t.data.toList):s=t:=by
 cases s;cases t
 simp at h;simp[h]
def xE{n fuel}{cs}{p}(L:List ByteArray)(ht:P.underlying t=some (.array n e))(he:P.underlying e=some .string)(hc:P.cellsOf e=1)(h:DataW.trod enc P w base spare held fuel t cs=some (.agg<|L.map λs=>.lit<|.string s.data.toList,p)):∀j,j<n->cs[j]? =some (.string<|L.getD j ⟨#[]⟩):=by
 intro j hj;have⟨xs,m,_,hx,hl,hn,hel⟩:=DataW.trod_array ht h;simp only[Prod.mk.injEq,DataW.agg.injEq]at hx;have hg:=hel j hj;rw[hc,Nat.mul_one,jo<|by omega]at hg;have⟨s,h1,h2,_⟩:=DataW.trod_string he hg;have h3:(L.map λs=>(DataW.lit (.string s.data.toList):DataW H))[j]? =some (.lit<|.string s.data.toList):=by
  rw[hx.1,List.getElem?_map,jo<|by omega,h2];rfl
 rw[List.getElem?_map]at h3
 cases hL:L[j]? with
 |none=>rw[hL]at h3;simp at h3|some u=>
  rw[hL]at h3;simp at h3;have hu:=J8 (by simpa using h3);have h4:cs[j]? =some (.string s):=by
   have:=congrArg (λl=>l[0]?) h1;simpa[List.getElem?_take,List.getElem?_drop]using this
  rw[h4,List.getD_eq_getElem?_getD,hL,hu];rfl
end
def strCells:Tryz.prog.cellsOf 9=1:=by kernel_rfl
end
section
open Go.RowKit Go.MapKept Go.ChangeMaps
def vC{κ:Type}[DecidableEq κ](x:κ):List (κ×Value)->Nat->Option (Nat×Value)
 |[],_=>none|p::l,i=>if p.1=x then some (i,p.2)else vC x l (i+1)
def aY{κ:Type}[DecidableEq κ](x:κ):List (κ×Value)->Option Value
 |[]=>none|p::l=>if p.1=x then some p.2 else aY x l
theorem Nc[DecidableEq κ]x(l:List (κ×Value))(i:Nat):(vC x l i).map (·.2)=aY x l:=by
 induction l generalizing i with
 |nil=>rfl|cons p l ih=>rw[vC,aY];split<;>simp[ih]
def bD{κ:Type}[DecidableEq κ](x:κ)(v:Value):List (κ×Value)->List (κ×Value)
 |[]=>[(x,v)]|p::l=>if p.1=x then(x,v)::l else p::bD x v l
def nF[DecidableEq κ]x v(l:List (κ×Value))(h:aY x l=none):bD x v l=l++[(x,v)]:=by
 induction l with
 |nil=>rfl|cons p l ih=>
  rw[aY]at h;split at h
  .simp at h
  .rename_i hn;simp[bD,hn,ih h]
theorem aJ[DecidableEq κ]x y v(l:List (κ×Value)):aY y (bD x v l)=if x=y then some v else aY y l:=by
 induction l with
 |nil=>simp[bD,aY]|cons p l ih=>
  unfold bD;split
  .rename_i h;unfold aY;by_cases e:x=y
   .simp[e]
   .rw[h];simp[e]
  .rename_i h;unfold aY;rw[ih];by_cases e:p.1=y
   .grind
   .simp[e]
structure KL P k{κ:Type}[DecidableEq κ](enc:κ->Value)(ok:World->κ->Prop):Prop where
 chk:∀b x w,(Instr.checkKey b 10000 k<|enc x).run P w=.ok () w
 fin:∀x(L:List (κ×Value))(es:List MapEntry)w,ok w x->(∀p∈L,ok w p.1)->es.map (λe=>(e.key,e.val))=L.map (λp=>(enc p.1,p.2))->(ji k (enc x) es).run P w=.ok (vC x L 0) w
 bit:∀x,jc 10000 (enc x) (enc x)=true
def MS{κ:Type}(enc:κ->Value)(w:World)(b:Nat)(L:List (κ×Value)):=
 ∃es clock,w.heap[b]? =some (.map es clock)/\es.toList.map (λe=>(e.key,e.val))=L.map (λp=>(enc p.1,p.2))
section
variable [DecidableEq κ] {enc:κ->Value} {ok:World->κ->Prop} {b:Nat} {L:List (κ×Value)}
def MS.lt(h:MS enc w b L):b<w.heap.size:=by grind[MS]
def MS.same(h:MS enc w b L)(hb:w'.heap[b]? =w.heap[b]?):MS enc w' b L:=by grind[MS]
def MS.below(h:MS enc w b L)(hb:Below w.heap.size w w'):MS enc w' b L:=h.same<|hb.block b h.lt
def MS.new(enc:κ->Value)(w:World):MS enc (w.alloc<|.map #[] 0) w.heap.size []:=⟨#[],0,(MapKept.heap_alloc w _).1,rfl⟩
def MS.look(K:KL P k enc ok)(h:MS enc w b L)(ht:P.underlying t=some (.map k e)){z}(hz:(zeroValue e).run P w=.ok z w)x(hx:ok w x)(hL:∀p∈L,ok w p.1)c:
 (jj t (.map<|some b) (enc x) c).run P w=.ok (match aY x L with|some v=>if c then .tuple #[v,.bool true]else v|none=>if c then .tuple #[z,.bool false]else z) w:=by
 obtain⟨es,clock,hb,l9⟩:=h;have hf:=K.fin x L es.toList w hx hL l9;rw[<-Nc x L 0];rw[jj];simp only[jp,run_underlying ht,jk,jt hb,K.chk,hf]
 cases vD:vC x L 0 with
 |none=>rw[vD]at hf;cases c<;>simp[hz,hf,jk]|some p=>rw[vD]at hf;cases c<;>simp[hf,jk]
def Ct x v:∀(L:List (κ×Value))(es:List MapEntry)(i j:Nat)(u:Value),es.map (λe=>(e.key,e.val))=L.map (λp=>(enc p.1,p.2))->vC x L i=some (j,u)->i<=j/\∃e0,es[j-i]? =some e0/\e0.key=enc x/\(es.modify (j-i) λe=>{e with key:=enc x,val:=v}).map (λe=>(e.key,e.val))=(bD x v L).map (λp=>(enc p.1,p.2)):=by
 intro L
 induction L with
 |nil=>intro es i j u _ h;simp[vC]at h|cons p l ih=>
  intro es i j u l9 h
  cases es with
  |nil=>simp at l9|cons e0 es=>
   simp only[jm,List.cons.injEq,Prod.mk.injEq]at l9;obtain⟨⟨hk,hv⟩,l9⟩:=l9;rw[vC]at h;split at h
   .rename_i hp;simp only[Option.some.injEq,Prod.mk.injEq]at h;obtain⟨rfl,rfl⟩:=h;refine⟨Nat.le_refl _,e0,by simp,by rw[hk,hp],?_⟩;simp[bD,hp,l9]
   .rename_i hp;have⟨h1,e1,h2,h3,h4⟩:=ih es (i+1) j u l9 h;refine⟨by omega,e1,?_,h3,?_⟩
    .grind
    .rw[show j-i=(j-(i+1))+1 by omega];simp[bD,hp,h4,hk,hv]
def nH x:∀(L:List (κ×Value))(i:Nat),vC x L i=none->aY x L=none:=by grind[vC,aY,Nc]
def MS.put(K:KL P k enc ok)(h:MS enc w b L)(ht:P.underlying t=some (.map k e))x v(hx:ok w x)(hL:∀p∈L,ok w p.1):
 ∃o,(jh t (.map<|some b) (enc x) v).run P w=.ok () (setBlock w b o)/\MS enc (setBlock w b o) b (bD x v L):=by
 obtain⟨es,clock,hb,l9⟩:=h;have hf:=K.fin x L es.toList w hx hL l9;rw[jh];simp only[jp,run_underlying ht,jk,jt hb,K.chk,hf]
 cases vD:vC x L 0 with
 |none=>
  refine⟨.map (es.push {key:=enc x,val:=v,born:=clock})<|clock+1,by rw[vD]at hf;simp[hf,jk];exact jq _ hb,_,_,(heap_setBlock_same hb _),?_⟩;rw[nF x v L<|nH x L 0 vD];simp[l9]
 |some p=>
  obtain⟨j,u⟩:=p;have⟨_,e0,h2,h3,h4⟩:=Ct (enc:=enc) x v L es.toList 0 j u l9 vD;have Jl:es[j]? =some e0:=by simpa using h2
  refine⟨.map (es.modify j λe=>{e with key:=enc x,val:=v}) clock,?_,_,_,(heap_setBlock_same hb _),by simpa using h4⟩;rw[vD]at hf;simp[hf,jk,Jl,h3,Instr.keyThatStays,K.bit];exact jq _ hb
end
def KL.str(hk:P.underlying k=some .string):KL P k Value.string (λ_ _=>True) where
 chk b x w:=run_checkKey hk (by simp[IsKey]) b 9999
 bit x:=by simp only[jc];exact(bytes_beq x x).2 rfl
 fin x L es w _ _ l9:=by
  refine run_findKey hk ?_
  suffices H:∀(L:List (ByteArray×Value))(es:List MapEntry)(i:Nat),es.map (λe=>(e.key,e.val))=L.map (λp=>(Value.string p.1,p.2))->ja .string (.string x) es i=some (vC x L i)from H L es 0 l9
  intro L
  induction L with
  |nil=>intro es i h;simp at h;subst h;rfl|cons p l ih=>
   intro es i h
   cases es with
   |nil=>simp at h|cons e0 es=>
    simp only[jm,List.cons.injEq,Prod.mk.injEq]at h;obtain⟨⟨h1,h2⟩,h3⟩:=h;rw[ja,vC];simp only[h1,jf];by_cases e:p.1=x
    .have:(x==p.1)=true:=(bytes_beq _ _).2 e.symm;rw[if_pos e];simp only[this,h2]
    .have:(x==p.1)=false:=by rw[<-Bool.not_eq_true,bytes_beq];exact λq=>e q.symm
     simp only[e,this,if_false,ih es (i+1) h3]
def KL.num{q:IntKind}(hk:P.underlying k=some (.int q)):KL P k (λn:Int=>Value.int q n) (λ_ _=>True) where
 chk b x w:=run_checkKey hk (by simp[IsKey]) b 9999
 bit x:=by simp[jc]
 fin x L es w _ _ l9:=by
  refine run_findKey hk ?_
  suffices H:∀(L:List (Int×Value))(es:List MapEntry)(i:Nat),es.map (λe=>(e.key,e.val))=L.map (λp=>(Value.int q p.1,p.2))->ja (.int q) (.int q x) es i=some (vC x L i)from H L es 0 l9
  intro L
  induction L with
  |nil=>intro es i h;simp at h;subst h;rfl|cons p l ih=>
   intro es i h
   cases es with
   |nil=>simp at h|cons e0 es=>
    simp only[jm,List.cons.injEq,Prod.mk.injEq]at h;obtain⟨⟨h1,h2⟩,h3⟩:=h;rw[ja,vC];simp only[h1,jf];by_cases e:p.1=x
    .simp[e,h2]
    .grind
def KL.ptr{el:TypeId}{j:TypeInfo}(hk:P.underlying k=some (.pointer el))(hi:P.info? el=some j)(eG:j.size≠0):
 KL P k (λb:Nat=>Value.pointer<|some ⟨b,0,none⟩) (λw b=>∃c t,w.heap[b]? =some (.cells c t (0,0))) where
 chk b x w:=by
  rw[Instr.checkKey];simp only[jp,run_underlying hk,jk];rfl
 bit x:=by simp[jc]
 fin x L es w hx hL l9:=by
  have aiq:∀(es:List MapEntry)(i:Nat),es≠[]->ja (.pointer el) (.pointer<|some ⟨x,0,none⟩) es i=none:=by
   intro es i h
   cases es with
   |nil=>exact absurd rfl h|cons e0 es=>simp[ja,jf]
  rw[ji];simp only[jp,run_underlying hk,jk]
  cases es with
  |nil=>
   cases L with
   |nil=>simp[ja,vC]|cons p l=>simp at l9
  |cons e0 es0=>
   rw[aiq _ 0<|by simp];revert l9;generalize(e0::es0)=es;intro l9
   suffices H:∀(L:List (Nat×Value))(es:List MapEntry)(i:Nat),(∀p∈L,∃c t,w.heap[p.1]? =some (.cells c t (0,0)))->es.map (λe=>(e.key,e.val))=L.map (λp=>(Value.pointer<|some ⟨p.1,0,none⟩,p.2))->(Instr.findAsking k (.pointer<|some ⟨x,0,none⟩) es i).run P w=.ok (vC x L i) w from H L es 0 hL l9
   intro L
   induction L with
   |nil=>intro es i _ h;simp at h;subst h;rfl|cons p l ih=>
    intro es i hL h
    cases es with
    |nil=>simp at h|cons e0 es=>
     simp only[jm,List.cons.injEq,Prod.mk.injEq]at h;obtain⟨⟨h1,h2⟩,h3⟩:=h;rw[Instr.findAsking,vC];have heq:(Op.equal k (.pointer<|some ⟨x,0,none⟩) e0.key).run P w=.ok (decide (p.1=x)) w:=by
      rw[h1];rw[Op.equal,Op.maxDepth,Op.equalIn];simp only[jp,run_underlying hk,jk,sizeOf,typeInfo,hi];obtain⟨c1,t1,hc1⟩:=hx;have⟨c2,t2,Zd⟩:=hL p (by simp);by_cases e:p.1=x
      .simp[e,eG,run_sameAddr_same,hi]
      .simp[e,eG,hi,run_sameAddr_other w (a:=⟨x,0,none⟩) (b:=⟨p.1,0,none⟩) (by intro q;injection q with q;exact e q.symm) hc1 Zd]
     simp only[jp,heq,jk];by_cases e:p.1=x
     .simp[e,h2]
     .grind
end
abbrev vE A z:=∀(I D:TypeId)(x:Value)(w:World),D≠A->(jd (.iface D x) I A true).run jl w=.ok (.tuple #[.agg z,.bool false]) w
abbrev yQ A:=∀(I:TypeId)(x:Array Value)(w:World),(jd (.iface A<|.agg x) I A true).run jl w=.ok (.tuple #[.agg x,.bool true]) w
def eO{A}{z}(hz:∀w,(zeroValue A).run jl w=.ok (.agg z) w)(hu:∀w,∃u,(underlying A).run jl w=.ok u w/\∀m,u≠.interface m):vE A z:=λI D x w h=>by
 have⟨u,hu,hi⟩:=hu w;rw[jd];simp[go_sem,hu,hz,h]
@[simp] theorem air:vE 337 #[.int .i64 0,.int .i64 0]:=eO (λw=>by kernel_rfl) λw=>⟨_,rfl,λm q=>by cases q⟩
@[simp] theorem ais:yQ 337:=λI x w=>by kernel_rfl
@[simp] theorem agz:vE 161 #[.int .i64 0,.int .i64 0,.nilIface,.nilIface]:=eO (λw=>by kernel_rfl) λw=>⟨_,rfl,λm q=>by cases q⟩
@[simp] theorem agA:yQ 161:=λI x w=>by kernel_rfl
@[simp] theorem afW:vE 297 #[.int .i64 0,.int .i64 0,.string ⟨#[]⟩,.nilIface,.nilIface]:=eO (λw=>by kernel_rfl) λw=>⟨_,rfl,λm q=>by cases q⟩
@[simp] theorem afX:yQ 297:=λI x w=>by kernel_rfl
@[simp] theorem Ng:vE 321 #[.int .i64 0,.int .i64 0,.bool false]:=eO (λw=>by kernel_rfl) λw=>⟨_,rfl,λm q=>by cases q⟩
@[simp] theorem ah5:yQ 321:=λI x w=>by kernel_rfl
@[simp] theorem Nh:vE 319 #[.int .i64 0,.int .i64 0,.nilIface,.nilIface]:=eO (λw=>by kernel_rfl) λw=>⟨_,rfl,λm q=>by cases q⟩
@[simp] theorem ah6:yQ 319:=λI x w=>by kernel_rfl
@[simp] theorem ait:vE 313 #[.int .i64 0,.int .i64 0,.int .i64 0,.int .i64 0,.string ⟨#[]⟩,.nilIface]:=eO (λw=>by kernel_rfl) λw=>⟨_,rfl,λm q=>by cases q⟩
@[simp] theorem aiu:yQ 313:=λI x w=>by kernel_rfl
@[simp] theorem ajA:vE 317 #[.int .i64 0,.int .i64 0,.nilIface,.nilIface,.nilIface]:=eO (λw=>by kernel_rfl) λw=>⟨_,rfl,λm q=>by cases q⟩
@[simp] theorem ajB:yQ 317:=λI x w=>by kernel_rfl
@[simp] theorem aiv:vE 315 #[.int .i64 0,.int .i64 0,.bool false,.int .i64 0,.int .i64 0,.string ⟨#[]⟩,.nilIface,.nilIface]:=eO (λw=>by kernel_rfl) λw=>⟨_,rfl,λm q=>by cases q⟩
@[simp] theorem aiw:yQ 315:=λI x w=>by kernel_rfl
@[simp] theorem ad_:yQ 144:=λI x w=>by kernel_rfl
@[simp] theorem Vb:vE 356 #[.int .i64 0,.int .i64 0,.string ⟨#[]⟩]:=eO (λw=>by kernel_rfl) λw=>⟨_,rfl,λm q=>by cases q⟩
@[simp] theorem aix:yQ 356:=λI x w=>by kernel_rfl
@[simp] theorem ah7:vE 307 #[.int .i64 0,.int .i64 0,.int .i64 0,.int .i64 0,.string ⟨#[]⟩,.slice none 0 0]:=eO (λw=>by kernel_rfl) λw=>⟨_,rfl,λm q=>by cases q⟩
@[simp] theorem ah8:yQ 307:=λI x w=>by kernel_rfl
@[simp] theorem agB:vE 201 #[.int .i64 0,.int .i64 0,.nilIface,.slice none 0 0]:=eO (λw=>by kernel_rfl) λw=>⟨_,rfl,λm q=>by cases q⟩
@[simp] theorem agC:yQ 201:=λI x w=>by kernel_rfl
@[simp] theorem agD:vE 166 #[.int .i64 0,.int .i64 0,.int .i64 0,.int .i64 0,.string ⟨#[]⟩,.slice none 0 0]:=eO (λw=>by kernel_rfl) λw=>⟨_,rfl,λm q=>by cases q⟩
@[simp] theorem agE:yQ 166:=λI x w=>by kernel_rfl
@[simp] theorem sK:vE 326 #[.int .i64 0,.int .i64 0,.int .i64 0]:=eO (λw=>by kernel_rfl) λw=>⟨_,rfl,λm q=>by cases q⟩
@[simp] theorem afY:yQ 326:=λI x w=>by kernel_rfl
@[simp] theorem ah9:vE 309 #[.int .i64 0,.int .i64 0,.nilIface,.nilIface]:=eO (λw=>by kernel_rfl) λw=>⟨_,rfl,λm q=>by cases q⟩
@[simp] theorem ah_:yQ 309:=λI x w=>by kernel_rfl
@[simp] theorem Vc:vE 328 #[.int .i64 0,.int .i64 0,.nilIface,.nilIface]:=eO (λw=>by kernel_rfl) λw=>⟨_,rfl,λm q=>by cases q⟩
@[simp] theorem Vd:yQ 328:=λI x w=>by kernel_rfl
@[simp] theorem acg:vE 137 #[.int .i64 0,.int .i64 0,.int .i64 0,.int .i64 0,.string ⟨#[]⟩,.slice none 0 0,.slice none 0 0]:=eO (λw=>by kernel_rfl) λw=>⟨_,rfl,λm q=>by cases q⟩
@[simp] theorem ach:yQ 137:=λI x w=>by kernel_rfl
@[simp] theorem aci:vE 163 #[.int .i64 0,.int .i64 0,.nilIface,.nilIface]:=eO (λw=>by kernel_rfl) λw=>⟨_,rfl,λm q=>by cases q⟩
@[simp] theorem acj:yQ 163:=λI x w=>by kernel_rfl
@[simp] theorem aea:vE 159 #[.int .i64 0,.int .i64 0,.string ⟨#[]⟩]:=eO (λw=>by kernel_rfl) λw=>⟨_,rfl,λm q=>by cases q⟩
@[simp] theorem aeb:yQ 159:=λI x w=>by kernel_rfl
@[simp] theorem agF:vE 311 #[.int .i64 0,.int .i64 0,.nilIface,.nilIface]:=eO (λw=>by kernel_rfl) λw=>⟨_,rfl,λm q=>by cases q⟩
@[simp] theorem agG:yQ 311:=λI x w=>by kernel_rfl
@[simp] theorem Ni:vE 324 #[.int .i64 0,.int .i64 0]:=eO (λw=>by kernel_rfl) λw=>⟨_,rfl,λm q=>by cases q⟩
@[simp] theorem aia:yQ 324:=λI x w=>by kernel_rfl
@[simp] theorem Ve:vE 390 #[.int .i64 0,.int .i64 0,.string ⟨#[]⟩]:=eO (λw=>by kernel_rfl) λw=>⟨_,rfl,λm q=>by cases q⟩
@[simp] theorem ajC:yQ 390:=λI x w=>by kernel_rfl
def J9:(Rows.countedRow.wf<|OpenSpec.ofChange Rows.countedSpec)=true:=by kernel_rfl
def J_:(Tryz.f8.params.all (Tryz.prog.readableRec ·))=true:=by kernel_rfl
def J':(namedTie jl Rows.countedRow.named Rows.countedSpec.vars)=true:=by kernel_rfl
def Ka:((Rows.countedRow.stops==[]))=true:=by kernel_rfl
def Kc:((Rows.countedRow.knobs==[]))=true:=by kernel_rfl
def Kd:((Rows.countedRow.inPlace==Tryz.prog.inPlace 8))=true:=by kernel_rfl
def Fb:((Rows.countedRow.unfollowed==Tryz.prog.unfollowed 8))=true:=by kernel_rfl
def Fc:((Rows.countedRow.recurses==Tryz.prog.recurses 8))=true:=by kernel_rfl
def Fe:((Rows.countedRow.named==Tryz.prog.varsNamed 8))=true:=by kernel_rfl
def Ff:((Rows.countedRow.maps==(Tryz.f8.params.toList++Rows.countedSpec.plain.varTypes jl).any (Tryz.prog.mapsRec ·)))=true:=by kernel_rfl
def Fg:((Rows.countedRow.ifaces==(Tryz.f8.params.toList++Rows.countedSpec.plain.varTypes jl).any (Tryz.prog.ifacesRec ·)))=true:=by kernel_rfl
def Fh:((Rows.countedRow.mapsOut==Tryz.prog.mapsAmong Tryz.f8.resultTypes.toList))=true:=by kernel_rfl
def Fi:((Rows.countedRow.loops==(Tryz.f8.params.toList++Rows.countedSpec.plain.varTypes jl).any (Tryz.prog.loopsFrom ·)))=true:=by kernel_rfl
def Fk:((Rows.countedRow.wideKeys==(Tryz.f8.params.toList++Rows.countedSpec.plain.varTypes jl++Tryz.f8.resultTypes.toList).any (Tryz.prog.wideKeysFrom ·)))=true:=by kernel_rfl
def Fm:(Rows.countedSpec.vars.all (Tryz.prog.varReadable ·))=true:=by kernel_rfl
def Fo:(Tryz.f8.resultTypes.all<|λt=>Tryz.prog.readableRec t&&decide (t<Tryz.prog.types.size))=true:=by kernel_rfl
def Fp:((Rows.countedRow.ifacesOut==Tryz.f8.resultTypes.toList.any (Tryz.prog.ifacesRec ·)))=true:=by kernel_rfl
def Fq:((Rows.countedRow.loopsOut==Tryz.f8.resultTypes.toList.any (Tryz.prog.loopsFrom ·)))=true:=by kernel_rfl
def Fu:((Rows.countedRow.plainKeys==Tryz.prog.plainKeys))=true:=by kernel_rfl
def Fw:(Rows.countedRow.shortTexts.isNone)=true:=by kernel_rfl
def Fx:((Rows.countedRow.lifted==Tryz.prog.liftsFinal))=true:=by kernel_rfl
def Fy:((Tryz.prog.make==some Rows.countedRow.make))=true:=by kernel_rfl
def Fz:((Rows.countedRow.pinned==Rows.countedRow.pinnedBy))=true:=by kernel_rfl
def FC:((Rows.countedRow.veiled==(Tryz.f8.params.toList++Rows.countedSpec.plain.varTypes jl++Tryz.f8.resultTypes.toList).any (Tryz.prog.veiledRec ·)))=true:=by kernel_rfl
def FD:(Rows.countedRow.veiledFits jl Tryz.f8.params.toList<|Tryz.f8.params.toList++Rows.countedSpec.plain.varTypes jl++Tryz.f8.resultTypes.toList)=true:=by kernel_rfl
def QK:Tryz.pinned.checked.prog.mainIs=some (Rows.agreeCard.stood.harness.1,Rows.agreeCard.stood.harness.2.toList):=by kernel_rfl
def JT:true=Tryz.prog.looks []:=by kernel_rfl
def Ev:Rows.countedRow.wfByText (OpenSpec.ofChange Rows.countedSpec)=true:=by kernel_rfl
def Cd:false=Rows.countedRow.goesBy Tryz.pinned.checked.prog:=by kernel_rfl
end Go.Proofs.YtfnkchdeheeiiaaGreatDoor

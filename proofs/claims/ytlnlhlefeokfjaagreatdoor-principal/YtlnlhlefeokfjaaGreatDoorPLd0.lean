import Derived.BigQuiet
import Derived.Deep.LoopGhost
import Derived.Deep.RegionWith
import Derived.Deep.Slices
import Derived.Lib.ConvBytes
import Derived.OpenShut
import Derived.ProofKit
import Derived.RegionDies
import Derived.SevenTiedAt
import Derived.Test.YtlnlhlefeokfjaaGreatDoorCards
import Derived.WalkLawsBesides
import Derived.WalkSpells
set_option linter.all false
set_option maxRecDepth 100000
set_option maxHeartbeats 200000
namespace Go.Proofs.YtlnlhlefeokfjaaGreatDoor
open Go.Instr renaming findNow->ja,sameBits->jc,typeAssert->jd,sameNow->jf,mapUpdate->jh,findKey->ji,lookup->jj
open Go.Result renaming andThen->jk
open Go.Proofs.Tryz renaming prog->jl
open _root_.List renaming map_cons->jm,getElem?_eq_getElem->jo
open Go.Sem renaming run_bind->jp
open Go.MapKept renaming run_setObj_map->jq,run_getObj_map->jt
open Go
variable {P:Program} {κ:Type} {e k t:TypeId} {w w':World}
section
open Go.ChangeShapes Go.WideShapes Go.RowKit Go.Deep
section
variable {H:Type} {enc:TypeId×Value->H} {base:Nat} {spare:Nat->Bool} {held:Bool}
def Oj{s t:ByteArray}(h:s.data.toList=t.data.toList):s=t:=by
 cases s;cases t
 simp at h;simp[h]
def Ap{n fuel}{cs}{p}(L:List ByteArray)(ht:P.underlying t=some (.array n e))(he:P.underlying e=some .string)(hc:P.cellsOf e=1)(h:DataW.trod enc P w base spare held fuel t cs=some (.agg<|L.map λs=>.lit<|.string s.data.toList,p)):∀j,j<n->cs[j]? =some (.string<|L.getD j ⟨#[]⟩):=by
 intro j hj;have⟨xs,m,_,hx,hl,hn,hel⟩:=DataW.trod_array ht h;simp only[Prod.mk.injEq,DataW.agg.injEq]at hx;have hg:=hel j hj;rw[hc,Nat.mul_one,jo<|by omega]at hg;have⟨s,h1,h2,_⟩:=DataW.trod_string he hg;have h3:(L.map λs=>(DataW.lit (.string s.data.toList):DataW H))[j]? =some (.lit<|.string s.data.toList):=by
  rw[hx.1,List.getElem?_map,jo<|by omega,h2];rfl
 rw[List.getElem?_map]at h3
 cases hL:L[j]? with
 |none=>rw[hL]at h3;simp at h3|some u=>
  rw[hL]at h3;simp at h3;have hu:=Oj (by simpa using h3);have h4:cs[j]? =some (.string s):=by
   have:=congrArg (λl=>l[0]?) h1;simpa[List.getElem?_take,List.getElem?_drop]using this
  rw[h4,List.getD_eq_getElem?_getD,hL,hu];rfl
end
def Zc:Tryz.prog.cellsOf 3=1:=by kernel_rfl
def strCells:Tryz.prog.cellsOf 9=1:=by kernel_rfl
end
section
open Go.RowKit Go.MapKept Go.ChangeMaps
def yB{κ:Type}[DecidableEq κ](x:κ):List (κ×Value)->Nat->Option (Nat×Value)
 |[],_=>none|p::l,i=>if p.1=x then some (i,p.2)else yB x l (i+1)
def a_{κ:Type}[DecidableEq κ](x:κ):List (κ×Value)->Option Value
 |[]=>none|p::l=>if p.1=x then some p.2 else a_ x l
theorem Re[DecidableEq κ]x(l:List (κ×Value))(i:Nat):(yB x l i).map (·.2)=a_ x l:=by
 induction l generalizing i with
 |nil=>rfl|cons p l ih=>rw[yB,a_];split<;>simp[ih]
def bG{κ:Type}[DecidableEq κ](x:κ)(v:Value):List (κ×Value)->List (κ×Value)
 |[]=>[(x,v)]|p::l=>if p.1=x then(x,v)::l else p::bG x v l
def mx[DecidableEq κ]x v(l:List (κ×Value))(h:a_ x l=none):bG x v l=l++[(x,v)]:=by
 induction l with
 |nil=>rfl|cons p l ih=>
  rw[a_]at h;split at h
  .simp at h
  .rename_i hn;simp[bG,hn,ih h]
theorem aO[DecidableEq κ]x y v(l:List (κ×Value)):a_ y (bG x v l)=if x=y then some v else a_ y l:=by
 induction l with
 |nil=>simp[bG,a_]|cons p l ih=>
  unfold bG;split
  .rename_i h;unfold a_;by_cases e:x=y
   .simp[e]
   .rw[h];simp[e]
  .rename_i h;unfold a_;rw[ih];by_cases e:p.1=y
   .grind
   .simp[e]
structure KL P k{κ:Type}[DecidableEq κ](enc:κ->Value)(ok:World->κ->Prop):Prop where
 chk:∀b x w,(Instr.checkKey b 10000 k<|enc x).run P w=.ok () w
 fin:∀x(L:List (κ×Value))(es:List MapEntry)w,ok w x->(∀p∈L,ok w p.1)->es.map (λe=>(e.key,e.val))=L.map (λp=>(enc p.1,p.2))->(ji k (enc x) es).run P w=.ok (yB x L 0) w
 bit:∀x,jc 10000 (enc x) (enc x)=true
def MS{κ:Type}(enc:κ->Value)(w:World)(b:Nat)(L:List (κ×Value)):=
 ∃es clock,w.heap[b]? =some (.map es clock)/\es.toList.map (λe=>(e.key,e.val))=L.map (λp=>(enc p.1,p.2))
section
variable [DecidableEq κ] {enc:κ->Value} {ok:World->κ->Prop} {b:Nat} {L:List (κ×Value)}
def MS.lt(h:MS enc w b L):b<w.heap.size:=by grind[MS]
def MS.same(h:MS enc w b L)(hb:w'.heap[b]? =w.heap[b]?):MS enc w' b L:=by grind[MS]
def MS.below(h:MS enc w b L)(hb:Below w.heap.size w w'):MS enc w' b L:=h.same<|hb.block b h.lt
def MS.new(enc:κ->Value)(w:World):MS enc (w.alloc<|.map #[] 0) w.heap.size []:=⟨#[],0,(MapKept.heap_alloc w _).1,rfl⟩
def MS.look(K:KL P k enc ok)(h:MS enc w b L)(ht:P.underlying t=some (.map k e)){z}(hz:(zeroValue e).run P w=.ok z w)x(hx:ok w x)(hL:∀p∈L,ok w p.1)c:
 (jj t (.map<|some b) (enc x) c).run P w=.ok (match a_ x L with|some v=>if c then .tuple #[v,.bool true]else v|none=>if c then .tuple #[z,.bool false]else z) w:=by
 obtain⟨es,clock,hb,m7⟩:=h;have hf:=K.fin x L es.toList w hx hL m7;rw[<-Re x L 0];rw[jj];simp only[jp,run_underlying ht,jk,jt hb,K.chk,hf]
 cases yA:yB x L 0 with
 |none=>rw[yA]at hf;cases c<;>simp[hz,hf,jk]|some p=>rw[yA]at hf;cases c<;>simp[hf,jk]
def E9 x v:∀(L:List (κ×Value))(es:List MapEntry)(i j:Nat)(u:Value),es.map (λe=>(e.key,e.val))=L.map (λp=>(enc p.1,p.2))->yB x L i=some (j,u)->i<=j/\∃e0,es[j-i]? =some e0/\e0.key=enc x/\(es.modify (j-i) λe=>{e with key:=enc x,val:=v}).map (λe=>(e.key,e.val))=(bG x v L).map (λp=>(enc p.1,p.2)):=by
 intro L
 induction L with
 |nil=>intro es i j u _ h;simp[yB]at h|cons p l ih=>
  intro es i j u m7 h
  cases es with
  |nil=>simp at m7|cons e0 es=>
   simp only[jm,List.cons.injEq,Prod.mk.injEq]at m7;obtain⟨⟨hk,hv⟩,m7⟩:=m7;rw[yB]at h;split at h
   .rename_i hp;simp only[Option.some.injEq,Prod.mk.injEq]at h;obtain⟨rfl,rfl⟩:=h;refine⟨Nat.le_refl _,e0,by simp,by rw[hk,hp],?_⟩;simp[bG,hp,m7]
   .rename_i hp;have⟨h1,e1,h2,h3,h4⟩:=ih es (i+1) j u m7 h;refine⟨by omega,e1,?_,h3,?_⟩
    .grind
    .rw[show j-i=(j-(i+1))+1 by omega];simp[bG,hp,h4,hk,hv]
def oG x:∀(L:List (κ×Value))(i:Nat),yB x L i=none->a_ x L=none:=by grind[yB,a_,Re]
def MS.put(K:KL P k enc ok)(h:MS enc w b L)(ht:P.underlying t=some (.map k e))x v(hx:ok w x)(hL:∀p∈L,ok w p.1):
 ∃o,(jh t (.map<|some b) (enc x) v).run P w=.ok () (setBlock w b o)/\MS enc (setBlock w b o) b (bG x v L):=by
 obtain⟨es,clock,hb,m7⟩:=h;have hf:=K.fin x L es.toList w hx hL m7;rw[jh];simp only[jp,run_underlying ht,jk,jt hb,K.chk,hf]
 cases yA:yB x L 0 with
 |none=>
  refine⟨.map (es.push {key:=enc x,val:=v,born:=clock})<|clock+1,by rw[yA]at hf;simp[hf,jk];exact jq _ hb,_,_,(heap_setBlock_same hb _),?_⟩;rw[mx x v L<|oG x L 0 yA];simp[m7]
 |some p=>
  obtain⟨j,u⟩:=p;have⟨_,e0,h2,h3,h4⟩:=E9 (enc:=enc) x v L es.toList 0 j u m7 yA;have UC:es[j]? =some e0:=by simpa using h2
  refine⟨.map (es.modify j λe=>{e with key:=enc x,val:=v}) clock,?_,_,_,(heap_setBlock_same hb _),by simpa using h4⟩;rw[yA]at hf;simp[hf,jk,UC,h3,Instr.keyThatStays,K.bit];exact jq _ hb
end
def KL.str(hk:P.underlying k=some .string):KL P k Value.string (λ_ _=>True) where
 chk b x w:=run_checkKey hk (by simp[IsKey]) b 9999
 bit x:=by simp only[jc];exact(bytes_beq x x).2 rfl
 fin x L es w _ _ m7:=by
  refine run_findKey hk ?_
  suffices H:∀(L:List (ByteArray×Value))(es:List MapEntry)(i:Nat),es.map (λe=>(e.key,e.val))=L.map (λp=>(Value.string p.1,p.2))->ja .string (.string x) es i=some (yB x L i)from H L es 0 m7
  intro L
  induction L with
  |nil=>intro es i h;simp at h;subst h;rfl|cons p l ih=>
   intro es i h
   cases es with
   |nil=>simp at h|cons e0 es=>
    simp only[jm,List.cons.injEq,Prod.mk.injEq]at h;obtain⟨⟨h1,h2⟩,h3⟩:=h;rw[ja,yB];simp only[h1,jf];by_cases e:p.1=x
    .have:(x==p.1)=true:=(bytes_beq _ _).2 e.symm;rw[if_pos e];simp only[this,h2]
    .have:(x==p.1)=false:=by rw[<-Bool.not_eq_true,bytes_beq];exact λq=>e q.symm
     simp only[e,this,if_false,ih es (i+1) h3]
def KL.num{q:IntKind}(hk:P.underlying k=some (.int q)):KL P k (λn:Int=>Value.int q n) (λ_ _=>True) where
 chk b x w:=run_checkKey hk (by simp[IsKey]) b 9999
 bit x:=by simp[jc]
 fin x L es w _ _ m7:=by
  refine run_findKey hk ?_
  suffices H:∀(L:List (Int×Value))(es:List MapEntry)(i:Nat),es.map (λe=>(e.key,e.val))=L.map (λp=>(Value.int q p.1,p.2))->ja (.int q) (.int q x) es i=some (yB x L i)from H L es 0 m7
  intro L
  induction L with
  |nil=>intro es i h;simp at h;subst h;rfl|cons p l ih=>
   intro es i h
   cases es with
   |nil=>simp at h|cons e0 es=>
    simp only[jm,List.cons.injEq,Prod.mk.injEq]at h;obtain⟨⟨h1,h2⟩,h3⟩:=h;rw[ja,yB];simp only[h1,jf];by_cases e:p.1=x
    .simp[e,h2]
    .grind
def KL.ptr{el:TypeId}{j:TypeInfo}(hk:P.underlying k=some (.pointer el))(hi:P.info? el=some j)(fK:j.size≠0):
 KL P k (λb:Nat=>Value.pointer<|some ⟨b,0,none⟩) (λw b=>∃c t,w.heap[b]? =some (.cells c t (0,0))) where
 chk b x w:=by
  rw[Instr.checkKey];simp only[jp,run_underlying hk,jk];rfl
 bit x:=by simp[jc]
 fin x L es w hx hL m7:=by
  have alH:∀(es:List MapEntry)(i:Nat),es≠[]->ja (.pointer el) (.pointer<|some ⟨x,0,none⟩) es i=none:=by
   intro es i h
   cases es with
   |nil=>exact absurd rfl h|cons e0 es=>simp[ja,jf]
  rw[ji];simp only[jp,run_underlying hk,jk]
  cases es with
  |nil=>
   cases L with
   |nil=>simp[ja,yB]|cons p l=>simp at m7
  |cons e0 es0=>
   rw[alH _ 0<|by simp];revert m7;generalize(e0::es0)=es;intro m7
   suffices H:∀(L:List (Nat×Value))(es:List MapEntry)(i:Nat),(∀p∈L,∃c t,w.heap[p.1]? =some (.cells c t (0,0)))->es.map (λe=>(e.key,e.val))=L.map (λp=>(Value.pointer<|some ⟨p.1,0,none⟩,p.2))->(Instr.findAsking k (.pointer<|some ⟨x,0,none⟩) es i).run P w=.ok (yB x L i) w from H L es 0 hL m7
   intro L
   induction L with
   |nil=>intro es i _ h;simp at h;subst h;rfl|cons p l ih=>
    intro es i hL h
    cases es with
    |nil=>simp at h|cons e0 es=>
     simp only[jm,List.cons.injEq,Prod.mk.injEq]at h;obtain⟨⟨h1,h2⟩,h3⟩:=h;rw[Instr.findAsking,yB];have heq:(Op.equal k (.pointer<|some ⟨x,0,none⟩) e0.key).run P w=.ok (decide (p.1=x)) w:=by
      rw[h1];rw[Op.equal,Op.maxDepth,Op.equalIn];simp only[jp,run_underlying hk,jk,sizeOf,typeInfo,hi];obtain⟨c1,t1,hc1⟩:=hx;have⟨c2,t2,hc2⟩:=hL p (by simp);by_cases e:p.1=x
      .simp[e,fK,run_sameAddr_same,hi]
      .simp[e,fK,hi,run_sameAddr_other w (a:=⟨x,0,none⟩) (b:=⟨p.1,0,none⟩) (by intro q;injection q with q;exact e q.symm) hc1 hc2]
     simp only[jp,heq,jk];by_cases e:p.1=x
     .simp[e,h2]
     .grind
end
abbrev yx A z:=∀(I D:TypeId)(x:Value)(w:World),D≠A->(jd (.iface D x) I A true).run jl w=.ok (.tuple #[.agg z,.bool false]) w
abbrev BZ A:=∀(I:TypeId)(x:Array Value)(w:World),(jd (.iface A<|.agg x) I A true).run jl w=.ok (.tuple #[.agg x,.bool true]) w
def eY{A}{z}(hz:∀w,(zeroValue A).run jl w=.ok (.agg z) w)(hu:∀w,∃u,(underlying A).run jl w=.ok u w/\∀m,u≠.interface m):yx A z:=λI D x w h=>by
 have⟨u,hu,hi⟩:=hu w;rw[jd];simp[go_sem,hu,hz,h]
@[simp] theorem alI:yx 310 #[.int .i64 0,.int .i64 0]:=eY (λw=>by kernel_rfl) λw=>⟨_,rfl,λm q=>by cases q⟩
@[simp] theorem alJ:BZ 310:=λI x w=>by kernel_rfl
@[simp] theorem ajs:yx 145 #[.int .i64 0,.int .i64 0,.nilIface,.nilIface]:=eY (λw=>by kernel_rfl) λw=>⟨_,rfl,λm q=>by cases q⟩
@[simp] theorem ajt:BZ 145:=λI x w=>by kernel_rfl
@[simp] theorem aiS:yx 235 #[.int .i64 0,.int .i64 0,.string ⟨#[]⟩,.nilIface,.nilIface]:=eY (λw=>by kernel_rfl) λw=>⟨_,rfl,λm q=>by cases q⟩
@[simp] theorem aiT:BZ 235:=λI x w=>by kernel_rfl
@[simp] theorem Rf:yx 259 #[.int .i64 0,.int .i64 0,.bool false]:=eY (λw=>by kernel_rfl) λw=>⟨_,rfl,λm q=>by cases q⟩
@[simp] theorem ak8:BZ 259:=λI x w=>by kernel_rfl
@[simp] theorem Qj:yx 299 #[.int .i64 0,.int .i64 0,.nilIface,.nilIface]:=eY (λw=>by kernel_rfl) λw=>⟨_,rfl,λm q=>by cases q⟩
@[simp] theorem ak9:BZ 299:=λI x w=>by kernel_rfl
@[simp] theorem alK:yx 289 #[.int .i64 0,.int .i64 0,.int .i64 0,.int .i64 0,.string ⟨#[]⟩,.nilIface]:=eY (λw=>by kernel_rfl) λw=>⟨_,rfl,λm q=>by cases q⟩
@[simp] theorem alL:BZ 289:=λI x w=>by kernel_rfl
@[simp] theorem amJ:yx 293 #[.int .i64 0,.int .i64 0,.nilIface,.nilIface,.nilIface]:=eY (λw=>by kernel_rfl) λw=>⟨_,rfl,λm q=>by cases q⟩
@[simp] theorem amK:BZ 293:=λI x w=>by kernel_rfl
@[simp] theorem alM:yx 291 #[.int .i64 0,.int .i64 0,.bool false,.int .i64 0,.int .i64 0,.string ⟨#[]⟩,.nilIface,.nilIface]:=eY (λw=>by kernel_rfl) λw=>⟨_,rfl,λm q=>by cases q⟩
@[simp] theorem alN:BZ 291:=λI x w=>by kernel_rfl
@[simp] theorem agS:BZ 132:=λI x w=>by kernel_rfl
@[simp] theorem Zd:yx 253 #[.int .i64 0,.int .i64 0,.string ⟨#[]⟩]:=eY (λw=>by kernel_rfl) λw=>⟨_,rfl,λm q=>by cases q⟩
@[simp] theorem alO:BZ 253:=λI x w=>by kernel_rfl
@[simp] theorem ak_:yx 313 #[.int .i64 0,.int .i64 0,.int .i64 0,.int .i64 0,.string ⟨#[]⟩,.slice none 0 0]:=eY (λw=>by kernel_rfl) λw=>⟨_,rfl,λm q=>by cases q⟩
@[simp] theorem ala:BZ 313:=λI x w=>by kernel_rfl
@[simp] theorem aju:yx 296 #[.int .i64 0,.int .i64 0,.nilIface,.slice none 0 0]:=eY (λw=>by kernel_rfl) λw=>⟨_,rfl,λm q=>by cases q⟩
@[simp] theorem ajv:BZ 296:=λI x w=>by kernel_rfl
@[simp] theorem ajw:yx 150 #[.int .i64 0,.int .i64 0,.int .i64 0,.int .i64 0,.string ⟨#[]⟩,.slice none 0 0]:=eY (λw=>by kernel_rfl) λw=>⟨_,rfl,λm q=>by cases q⟩
@[simp] theorem ajx:BZ 150:=λI x w=>by kernel_rfl
@[simp] theorem DR:yx 256 #[.int .i64 0,.int .i64 0,.int .i64 0]:=eY (λw=>by kernel_rfl) λw=>⟨_,rfl,λm q=>by cases q⟩
@[simp] theorem aiU:BZ 256:=λI x w=>by kernel_rfl
@[simp] theorem alb:yx 284 #[.int .i64 0,.int .i64 0,.nilIface,.nilIface]:=eY (λw=>by kernel_rfl) λw=>⟨_,rfl,λm q=>by cases q⟩
@[simp] theorem alc:BZ 284:=λI x w=>by kernel_rfl
@[simp] theorem Ze:yx 315 #[.int .i64 0,.int .i64 0,.nilIface,.nilIface]:=eY (λw=>by kernel_rfl) λw=>⟨_,rfl,λm q=>by cases q⟩
@[simp] theorem Zf:BZ 315:=λI x w=>by kernel_rfl
@[simp] theorem afu:yx 125 #[.int .i64 0,.int .i64 0,.int .i64 0,.int .i64 0,.string ⟨#[]⟩,.slice none 0 0,.slice none 0 0]:=eY (λw=>by kernel_rfl) λw=>⟨_,rfl,λm q=>by cases q⟩
@[simp] theorem afv:BZ 125:=λI x w=>by kernel_rfl
@[simp] theorem afw:yx 147 #[.int .i64 0,.int .i64 0,.nilIface,.nilIface]:=eY (λw=>by kernel_rfl) λw=>⟨_,rfl,λm q=>by cases q⟩
@[simp] theorem afx:BZ 147:=λI x w=>by kernel_rfl
@[simp] theorem agT:yx 143 #[.int .i64 0,.int .i64 0,.string ⟨#[]⟩]:=eY (λw=>by kernel_rfl) λw=>⟨_,rfl,λm q=>by cases q⟩
@[simp] theorem agU:BZ 143:=λI x w=>by kernel_rfl
@[simp] theorem ajy:yx 287 #[.int .i64 0,.int .i64 0,.nilIface,.nilIface]:=eY (λw=>by kernel_rfl) λw=>⟨_,rfl,λm q=>by cases q⟩
@[simp] theorem ajz:BZ 287:=λI x w=>by kernel_rfl
@[simp] theorem Rg:yx 309 #[.int .i64 0,.int .i64 0]:=eY (λw=>by kernel_rfl) λw=>⟨_,rfl,λm q=>by cases q⟩
@[simp] theorem ald:BZ 309:=λI x w=>by kernel_rfl
@[simp] theorem afe:yx 282 #[.int .i64 0,.int .i64 0,.string ⟨#[]⟩]:=eY (λw=>by kernel_rfl) λw=>⟨_,rfl,λm q=>by cases q⟩
@[simp] theorem amL:BZ 282:=λI x w=>by kernel_rfl
def FU:(Rows.principalRow.wf<|OpenSpec.ofChange Rows.principalSpec)=true:=by kernel_rfl
def FV:(Tryz.f3.params.all (Tryz.prog.readableRec ·))=true:=by kernel_rfl
def FX:(namedTie jl Rows.principalRow.named Rows.principalSpec.vars)=true:=by kernel_rfl
def FY:((Rows.principalRow.stops==[]))=true:=by kernel_rfl
def FZ:((Rows.principalRow.knobs==[]))=true:=by kernel_rfl
def F_:((Rows.principalRow.inPlace==Tryz.prog.inPlace 3))=true:=by kernel_rfl
def Cm:((Rows.principalRow.unfollowed==Tryz.prog.unfollowed 3))=true:=by kernel_rfl
def Cn:((Rows.principalRow.recurses==Tryz.prog.recurses 3))=true:=by kernel_rfl
def Co:((Rows.principalRow.named==Tryz.prog.varsNamed 3))=true:=by kernel_rfl
def Cp:((Rows.principalRow.maps==(Tryz.f3.params.toList++Rows.principalSpec.plain.varTypes jl).any (Tryz.prog.mapsRec ·)))=true:=by kernel_rfl
def Cr:((Rows.principalRow.ifaces==(Tryz.f3.params.toList++Rows.principalSpec.plain.varTypes jl).any (Tryz.prog.ifacesRec ·)))=true:=by kernel_rfl
def Cs:((Rows.principalRow.mapsOut==Tryz.prog.mapsAmong Tryz.f3.resultTypes.toList))=true:=by kernel_rfl
def Ct:((Rows.principalRow.loops==(Tryz.f3.params.toList++Rows.principalSpec.plain.varTypes jl).any (Tryz.prog.loopsFrom ·)))=true:=by kernel_rfl
def Cu:((Rows.principalRow.wideKeys==(Tryz.f3.params.toList++Rows.principalSpec.plain.varTypes jl++Tryz.f3.resultTypes.toList).any (Tryz.prog.wideKeysFrom ·)))=true:=by kernel_rfl
def Cw:(Rows.principalSpec.vars.all (Tryz.prog.varReadable ·))=true:=by kernel_rfl
def Cx:(Tryz.f3.resultTypes.all<|λt=>Tryz.prog.readableRec t&&decide (t<Tryz.prog.types.size))=true:=by kernel_rfl
def Cy:((Rows.principalRow.ifacesOut==Tryz.f3.resultTypes.toList.any (Tryz.prog.ifacesRec ·)))=true:=by kernel_rfl
def Cz:((Rows.principalRow.loopsOut==Tryz.f3.resultTypes.toList.any (Tryz.prog.loopsFrom ·)))=true:=by kernel_rfl
def CA:((Rows.principalRow.plainKeys==Tryz.prog.plainKeys))=true:=by kernel_rfl
def CB:(Rows.principalRow.shortTexts.isNone)=true:=by kernel_rfl
def CC:((Rows.principalRow.lifted==Tryz.prog.liftsFinal))=true:=by kernel_rfl
def CF:((Tryz.prog.make==some Rows.principalRow.make))=true:=by kernel_rfl
def CG:((Rows.principalRow.pinned==Rows.principalRow.pinnedBy))=true:=by kernel_rfl
def CH:((Rows.principalRow.veiled==(Tryz.f3.params.toList++Rows.principalSpec.plain.varTypes jl++Tryz.f3.resultTypes.toList).any (Tryz.prog.veiledRec ·)))=true:=by kernel_rfl
def CI:(Rows.principalRow.veiledFits jl Tryz.f3.params.toList<|Tryz.f3.params.toList++Rows.principalSpec.plain.varTypes jl++Tryz.f3.resultTypes.toList)=true:=by kernel_rfl
def Vd:Tryz.pinned.checked.prog.mainIs=some (Rows.principalCard.stood.harness.1,Rows.principalCard.stood.harness.2.toList):=by kernel_rfl
def Ol:true=Tryz.prog.looks []:=by kernel_rfl
def CJ:Rows.principalRow.wfByText (OpenSpec.ofChange Rows.principalSpec)=true:=by kernel_rfl
def Aq:false=Rows.principalRow.goesBy Tryz.pinned.checked.prog:=by kernel_rfl
end Go.Proofs.YtlnlhlefeokfjaaGreatDoor

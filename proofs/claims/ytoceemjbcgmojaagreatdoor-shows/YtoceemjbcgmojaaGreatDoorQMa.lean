import Derived.LaidEql
import Derived.Maps.Own
import Derived.WalkKit
set_option linter.all false
set_option maxRecDepth 100000
set_option maxHeartbeats 200000
namespace Go.Proofs.YtoceemjbcgmojaaGreatDoor
section
open Go Go.RowKit Go.MapKept Go.ChangeMaps
def fnd{κ:Type}[DecidableEq κ](x:κ):List (κ×Value)->Nat->Option (Nat×Value)
 |[],_=>none|p::l,i=>if p.1=x then some (i,p.2)else fnd x l (i+1)
def got{κ:Type}[DecidableEq κ](x:κ):List (κ×Value)->Option Value
 |[]=>none|p::l=>if p.1=x then some p.2 else got x l
theorem fnd_got{κ:Type}[DecidableEq κ](x:κ)(l:List (κ×Value))(i:Nat):(fnd x l i).map (·.2)=got x l:=by
 induction l generalizing i with
 |nil=>rfl|cons p l ih=>unfold fnd got;split<;>simp[ih]
def putL{κ:Type}[DecidableEq κ](x:κ)(v:Value):List (κ×Value)->List (κ×Value)
 |[]=>[(x,v)]|p::l=>if p.1=x then(x,v)::l else p::putL x v l
theorem putL_new{κ:Type}[DecidableEq κ](x:κ)(v:Value)(l:List (κ×Value))(h:got x l=none):putL x v l=l++[(x,v)]:=by
 induction l with
 |nil=>rfl|cons p l ih=>
  unfold got at h
  split at h
  .simp at h
  .rename_i hn
   simp[putL,hn,ih h]
structure KL(P:Program)(k:TypeId){κ:Type}[DecidableEq κ](enc:κ->Value)(ok:World->κ->Prop):Prop where
 chk:∀b x w,(Instr.checkKey b 10000 k (enc x)).run P w=.ok () w
 fin:∀x(L:List (κ×Value))(es:List MapEntry)w,ok w x->(∀p∈L,ok w p.1)->es.map (fun e=>(e.key,e.val))=L.map (fun p=>(enc p.1,p.2))->(Instr.findKey k (enc x) es).run P w=.ok (fnd x L 0) w
 bit:∀x,Instr.sameBits 10000 (enc x) (enc x)=true
def MS{κ:Type}(enc:κ->Value)(w:World)(b:Nat)(L:List (κ×Value)):Prop:=
 ∃es clock,w.heap[b]? =some (.map es clock)/\es.toList.map (fun e=>(e.key,e.val))=L.map (fun p=>(enc p.1,p.2))
section
variable {κ:Type} [DecidableEq κ] {enc:κ->Value} {ok:World->κ->Prop} {P:Program} {k e t:TypeId} {w:World} {b:Nat} {L:List (κ×Value)}
theorem MS.lt(h:MS enc w b L):b<w.heap.size:=by
 obtain⟨es,c,hb,_⟩:=h
 exact(Array.getElem?_eq_some_iff.1 hb).1
theorem MS.same{w':World}(h:MS enc w b L)(hb:w'.heap[b]? =w.heap[b]?):MS enc w' b L:=by
 obtain⟨es,c,h1,h2⟩:=h
 exact⟨es,c,hb.trans h1,h2⟩
theorem MS.below{w':World}(h:MS enc w b L)(hb:Below w.heap.size w w'):MS enc w' b L:=h.same (hb.block b h.lt)
theorem MS.new(enc:κ->Value)(w:World):MS enc (w.alloc (.map #[] 0)) w.heap.size []:=⟨#[],0,(MapKept.heap_alloc w _).1,rfl⟩
theorem MS.look(K:KL P k enc ok)(h:MS enc w b L)(ht:P.underlying t=some (.map k e)){z:Value}(hz:(zeroValue e).run P w=.ok z w)(x:κ)(hx:ok w x)(hL:∀p∈L,ok w p.1)(c:Bool):
 (Instr.lookup t (.map (some b)) (enc x) c).run P w=.ok (match got x L with|some v=>if c then .tuple #[v,.bool true]else v|none=>if c then .tuple #[z,.bool false]else z) w:=by
 obtain⟨es,clock,hb,hes⟩:=h
 have hf:=K.fin x L es.toList w hx hL hes
 rw[<-fnd_got x L 0]
 unfold Instr.lookup
 simp only[Sem.run_bind,run_underlying ht,Result.andThen,MapKept.run_getObj_map hb,K.chk,hf]
 cases hfx:fnd x L 0 with
 |none=>rw[hfx]at hf;cases c<;>simp[hz,hf,Result.andThen]|some p=>rw[hfx]at hf;cases c<;>simp[hf,Result.andThen]
theorem fnd_at(x:κ)(v:Value):∀(L:List (κ×Value))(es:List MapEntry)(i j:Nat)(u:Value),es.map (fun e=>(e.key,e.val))=L.map (fun p=>(enc p.1,p.2))->fnd x L i=some (j,u)->i<=j/\∃e0,es[j-i]? =some e0/\e0.key=enc x/\(es.modify (j-i) fun e=>{e with key:=enc x,val:=v}).map (fun e=>(e.key,e.val))=(putL x v L).map (fun p=>(enc p.1,p.2)):=by
 intro L
 induction L with
 |nil=>intro es i j u _ h;simp[fnd]at h|cons p l ih=>
  intro es i j u hes h
  cases es with
  |nil=>simp at hes|cons e0 es=>
   simp only[List.map_cons,List.cons.injEq,Prod.mk.injEq]at hes
   obtain⟨⟨hk,hv⟩,hes⟩:=hes
   unfold fnd at h
   split at h
   .rename_i hp
    simp only[Option.some.injEq,Prod.mk.injEq]at h
    obtain⟨rfl,rfl⟩:=h
    refine⟨Nat.le_refl _,e0,by simp,by rw[hk,hp],?_⟩
    simp[putL,hp,hes]
   .rename_i hp
    obtain⟨h1,e1,h2,h3,h4⟩:=ih es (i+1) j u hes h
    refine⟨by omega,e1,?_,h3,?_⟩
    .rw[show j-i=(j-(i+1))+1 by omega];simpa using h2
    .rw[show j-i=(j-(i+1))+1 by omega]
     simp[putL,hp,h4,hk,hv]
theorem fnd_none(x:κ):∀(L:List (κ×Value))(i:Nat),fnd x L i=none->got x L=none:=by
 intro L i h
 rw[<-fnd_got x L i,h];rfl
theorem MS.put(K:KL P k enc ok)(h:MS enc w b L)(ht:P.underlying t=some (.map k e))(x:κ)(v:Value)(hx:ok w x)(hL:∀p∈L,ok w p.1):
 ∃o,(Instr.mapUpdate t (.map (some b)) (enc x) v).run P w=.ok () (setBlock w b o)/\MS enc (setBlock w b o) b (putL x v L):=by
 obtain⟨es,clock,hb,hes⟩:=h
 have hf:=K.fin x L es.toList w hx hL hes
 unfold Instr.mapUpdate
 simp only[Sem.run_bind,run_underlying ht,Result.andThen,MapKept.run_getObj_map hb,K.chk,hf]
 cases hfx:fnd x L 0 with
 |none=>
  refine⟨.map (es.push {key:=enc x,val:=v,born:=clock}) (clock+1),by rw[hfx]at hf;simp[hf,Result.andThen];exact MapKept.run_setObj_map _ hb,_,_,(heap_setBlock_same hb _),?_⟩
  rw[putL_new x v L (fnd_none x L 0 hfx)]
  simp[hes]
 |some p=>
  obtain⟨j,u⟩:=p
  obtain⟨_,e0,h2,h3,h4⟩:=fnd_at (enc:=enc) x v L es.toList 0 j u hes hfx
  have h2':es[j]? =some e0:=by simpa using h2
  refine⟨.map (es.modify j fun e=>{e with key:=enc x,val:=v}) clock,?_,_,_,(heap_setBlock_same hb _),by simpa using h4⟩
  rw[hfx]at hf
  simp[hf,Result.andThen,h2',h3,Instr.keyThatStays,K.bit]
  exact MapKept.run_setObj_map _ hb
end
theorem KL.str{P:Program}{k:TypeId}(hk:P.underlying k=some .string):KL P k Value.string (fun _ _=>True) where
 chk b x w:=run_checkKey hk (by simp[IsKey]) b 9999
 bit x:=by simp only[Instr.sameBits];exact(bytes_beq x x).2 rfl
 fin x L es w _ _ hes:=by
  refine run_findKey hk ?_
  suffices H:∀(L:List (ByteArray×Value))(es:List MapEntry)(i:Nat),es.map (fun e=>(e.key,e.val))=L.map (fun p=>(Value.string p.1,p.2))->Instr.findNow .string (.string x) es i=some (fnd x L i)from H L es 0 hes
  intro L
  induction L with
  |nil=>intro es i h;simp at h;subst h;rfl|cons p l ih=>
   intro es i h
   cases es with
   |nil=>simp at h|cons e0 es=>
    simp only[List.map_cons,List.cons.injEq,Prod.mk.injEq]at h
    obtain⟨⟨h1,h2⟩,h3⟩:=h
    unfold Instr.findNow fnd
    simp only[h1,Instr.sameNow]
    by_cases e:p.1=x
    .have:(x==p.1)=true:=(bytes_beq _ _).2 e.symm
     rw[if_pos e];simp only[this,h2]
    .have:(x==p.1)=false:=by rw[<-Bool.not_eq_true,bytes_beq];exact fun q=>e q.symm
     simp only[e,this,if_false,ih es (i+1) h3]
end
end Go.Proofs.YtoceemjbcgmojaaGreatDoor

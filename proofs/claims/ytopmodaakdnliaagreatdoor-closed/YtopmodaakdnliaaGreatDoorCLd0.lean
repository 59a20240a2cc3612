import Derived.BigQuiet
import Derived.Deep.CutRange
import Derived.Deep.RegionHeld3
import Derived.Deep.Slices
import Derived.Lib.ConvBytes
import Derived.OpenShut
import Derived.ProofKit
import Derived.RegionDies
import Derived.SevenTiedAt
import Derived.Test.YtopmodaakdnliaaGreatDoorCards
import Derived.Test.YtopmodaakdnliaaGreatDoorProg
import Derived.WalkLawsBesides
import Derived.WalkSpells
set_option linter.all false
set_option maxRecDepth 100000
set_option maxHeartbeats 2000000
namespace Go.Proofs.YtopmodaakdnliaaGreatDoor
open _root_.List renaming map_cons->ja,nil_append->jc,mem_cons->jd,getElem?_eq_getElem->jf,range->jh,cons_append->ji,map_append->jj
open Go.Instr renaming findNow->jk,sameBits->jl,typeAssert->jm,sameNow->jo,mapUpdate->jq,findKey->jt,lookup->ju
open Go.Proofs.Tryz renaming prog->jv
open Go.Result renaming andThen->jx
open Go.Sem renaming run_bind->jy
open Go.MapKept renaming run_setObj_map->jz,run_getObj_map->j3
open Go Proofs.Tryz
variable {Q:Ending->World->Prop} {m n vc:Nat} {va:Option Addr} {P:Program} {κ:Type} {e k t:TypeId} {F:Value} {w w':World}
section
open Go.ChangeShapes Go.WideShapes Go.RowKit Go.Deep
section
variable {H:Type} {enc:TypeId×Value->H} {base:Nat} {spare:Nat->Bool} {held:Bool}
def NY{s t:ByteArray}(h:s.data.toList=t.data.toList):s=t:=by
 cases s;cases t
 simp at h;simp[h]
def zQ{fuel}{cs}{p}(L:List ByteArray)(ht:P.underlying t=some (.array n e))(he:P.underlying e=some .string)(hc:P.cellsOf e=1)(h:DataW.trod enc P w base spare held fuel t cs=some (.agg<|L.map λs=>.lit<|.string s.data.toList,p)):∀j,j<n->cs[j]? =some (.string<|L.getD j ⟨#[]⟩):=by
 intro j hj;have⟨xs,m,_,hx,hl,hn,hel⟩:=DataW.trod_array ht h;simp only[Prod.mk.injEq,DataW.agg.injEq]at hx;have hg:=hel j hj;rw[hc,Nat.mul_one,jf<|by omega]at hg;have⟨s,h1,h2,_⟩:=DataW.trod_string he hg;have h3:(L.map λs=>(DataW.lit (.string s.data.toList):DataW H))[j]? =some (.lit<|.string s.data.toList):=by
  rw[hx.1,List.getElem?_map,jf<|by omega,h2];rfl
 rw[List.getElem?_map]at h3
 cases hL:L[j]? with
 |none=>rw[hL]at h3;simp at h3|some u=>
  rw[hL]at h3;simp at h3;have hu:=NY (by simpa using h3);have h4:cs[j]? =some (.string s):=by
   have:=congrArg (λl=>l[0]?) h1;simpa[List.getElem?_take,List.getElem?_drop]using this
  rw[h4,List.getD_eq_getElem?_getD,hL,hu];rfl
end
def ZS:Tryz.prog.cellsOf 3=1:=by kernel_rfl
def strCells:Tryz.prog.cellsOf 9=1:=by kernel_rfl
end
namespace Ms
inductive So where
 |i|b|l|p|s
 deriving DecidableEq
def iR:So->Nat->List So
 |.l,1=>[.b,.l]|.p,_=>[.l,.b]|.s,1=>[.i,.b]|_,_=>[]
def cnt:So->Option Nat
 |.i=>none|.b=>some 2|.l=>some 2|.p=>some 1|.s=>some 2
def NH(t:So)(n:Nat):=∀c,cnt t=some c->n<c
inductive Sk where
 |any
 |hd(t:So)(n:Nat)(ps:List Sk)
inductive Va where
 |mk(n:Nat)(ps:List Va)
mutual
def Sk.of:Sk->So->Prop
 |.any,_=>True|.hd t n ps,t'=>t=t'/\NH t n/\Sk.iE ps (iR t n)
def Sk.iE:List Sk->List So->Prop
 |[],[]=>True|p::ps,t::ts=>Sk.of p t/\Sk.iE ps ts|_,_=>False
end
mutual
def Va.of:Va->So->Prop
 |.mk n ps,t=>NH t n/\Va.iE ps (iR t n)
def Va.iE:List Va->List So->Prop
 |[],[]=>True|p::ps,t::ts=>Va.of p t/\Va.iE ps ts|_,_=>False
end
mutual
def fit:Sk->Va->Prop
 |.any,_=>True|.hd _ n ps,.mk n' vs=>n=n'/\fits ps vs
def fits:List Sk->List Va->Prop
 |[],[]=>True|p::ps,v::vs=>fit p v/\fits ps vs|_,_=>False
end
mutual
def bO:Sk->Nat
 |.any=>0|.hd _ _ ps=>1+aK ps
def aK:List Sk->Nat
 |[]=>0|p::ps=>bO p+aK ps
end
def eK(n:Nat):List Sk:=List.replicate n .any
def jO(t:So)(n:Nat):List Sk->Option (List Sk)
 |.hd t' n' ps::r=>if t=t'/\n=n' then some (ps++r)else none|.any::r=>some (eK (iR t n).length++r)|[]=>none
def si:List Sk->Option (List Sk)
 |.any::r=>some r|_=>none
def gH:List Sk->Option (So×Nat)
 |.hd t n _::_=>some (t,n)|_=>none
def met:List (List Sk)->List (So×Nat)->List (So×Nat)
 |[],m=>m
 |r::rs,m=>match gH r with
  |some h=>if h∈m then met rs m else met rs (m++[h])|none=>met rs m
def kK(m:List (So×Nat)):Bool:=match m with
 |[]=>false|(t,_)::_=>cnt t==some m.length
def yk(m:List (So×Nat))(t:So):Nat->Nat->Nat
 |0,n=>n|f+1,n=>if(t,n)∈m then yk m t f (n+1)else n
def uz:List (So×Nat)->Sk
 |[]=>.any|(t,n)::m=>.hd t (yk ((t,n)::m) t (m.length+1) 0)<|eK (iR t<|yk ((t,n)::m) t (m.length+1) 0).length
def iu(t:So)(n:Nat)(f:List Sk):List Sk:=.hd t n (f.take (iR t n).length)::f.drop (iR t n).length
def cR{α:Type}(g:Nat->Option α):Nat->Nat->Option α
 |0,_=>none
 |f+1,n=>match g n with
  |some x=>some x|none=>cR g f<|n+1
def lo:Nat->List (List Sk)->List Sk->Option (List Sk)
 |0,_,_=>none|_+1,rows,[]=>if rows=[]then some []else none|m+1,rows,.hd t n ps::r=>(lo m (rows.filterMap<|jO t n)<|ps++r).map (iu t n)|m+1,rows,.any::r=>
  if kK (met rows [])then match met rows []with
   |[]=>none|(t,_)::_=>cR (λn=>(lo m (rows.filterMap<|jO t n)<|eK (iR t n).length++r).map<|iu t n) (met rows []).length 0
  else(lo m (rows.filterMap si) r).map (uz (met rows [])::·)
def iw(rows:List (List Sk)):Nat:=(rows.map aK).sum
def bU:∀a b,aK (a++b)=aK a+aK b
 |[],b=>by simp[aK]|x::a,b=>by simp[aK,bU a b];omega
def oe(n:Nat):aK (eK n)=0:=by
 induction n with
 |zero=>rfl|succ n ih=>simp only[eK,List.replicate_succ,aK,bO]at ih⊢;omega
def mY:∀{a b:List Sk}{s t:List So},Sk.iE a s->Sk.iE b t->Sk.iE (a++b) (s++t)
 |[],_,[],_,_,h=>h|_::_,_,_::_,_,h,k=>⟨h.1,mY h.2 k⟩|[],_,_::_,_,h,_=>h.elim|_::_,_,[],_,h,_=>h.elim
def jZ:∀ts:List So,Sk.iE (eK ts.length) ts
 |[]=>trivial|_::ts=>⟨trivial,jZ ts⟩
def GH:∀{s t:List So}{f:List Sk},Sk.iE f (s++t)->Sk.iE (f.take s.length) s/\Sk.iE (f.drop s.length) t
 |[],_,_,h=>⟨trivial,h⟩|_::_,_,_::_,h=>⟨⟨h.1,(GH h.2).1⟩,(GH h.2).2⟩|_::_,_,[],h=>h.elim
def AP:∀{a b:List Va}{s t:List So},Va.iE a s->Va.iE b t->Va.iE (a++b) (s++t)
 |[],_,[],_,_,h=>h|_::_,_,_::_,_,h,k=>⟨h.1,AP h.2 k⟩|[],_,_::_,_,h,_=>h.elim|_::_,_,[],_,h,_=>h.elim
def mi:∀{p:List Sk}{q:List Sk}{a b:List Va}{s:List So},Sk.iE p s->Va.iE a s->(fits (p++q) (a++b)↔fits p a/\fits q b)
 |[],_,[],_,[],_,_=>by simp[fits]|_::_,_,_::_,_,_::_,h,k=>by simp only[ji,fits,mi h.2 k.2,and_assoc]|[],_,_::_,_,[],_,k=>k.elim|[],_,_,_,_::_,h,_=>h.elim|_::_,_,_,_,[],h,_=>h.elim|_::_,_,[],_,_::_,_,k=>k.elim
def uY:∀{ts:List So}{a:List Va},Va.iE a ts->fits (eK ts.length) a
 |[],[],_=>trivial|_::_,_::_,h=>⟨trivial,uY h.2⟩|[],_::_,h=>h.elim|_::_,[],h=>h.elim
def Tx{t:So}{ts:List So}{r:List Sk}(hr:Sk.iE r (t::ts)){a b:List Va}(ha:Va.iE a (iR t n)):fits r (.mk n a::b)↔∃r',jO t n r=some r'/\fits r' (a++b):=by
 match r,hr with
 |.any::r,hr=>
  have:=mi (q:=r) (b:=b) (jZ<|iR t n) ha;simp only[jO,Option.some.injEq,exists_eq_left',this,fits,fit,true_and];exact⟨λh=>⟨uY ha,h⟩,λh=>h.2⟩
 |.hd t' n' ps::r,hr=>
  obtain⟨⟨rfl,h2,h3⟩,_⟩:=hr;by_cases e:n=n'
  .subst e;simp only[jO,and_self,if_true,Option.some.injEq,exists_eq_left',mi h3 ha,fits,fit,true_and]
  .simp only[jO,e,and_false,if_false,fits,fit];exact⟨λh=>absurd h.1.1.symm e,λ⟨_,h,_⟩=>by cases h⟩
def PG{t:So}{ts:List So}{r r':List Sk}(hr:Sk.iE r (t::ts))(h:jO t n r=some r'):Sk.iE r' (iR t n++ts):=by
 match r,hr with
 |.any::r,hr=>cases h;exact mY (jZ _) hr.2|.hd t' n' ps::r,hr=>
  obtain⟨⟨rfl,h2,h3⟩,h4⟩:=hr;simp only[jO]at h;split at h
  .cases h;obtain⟨_,rfl⟩:=‹_/\_›;exact mY h3 h4
  .cases h
def Good(ts:List So)(rows:List (List Sk))(w:List Sk):Option (List Sk)->Prop
 |none=>∀vs,Va.iE vs ts->fits w vs->∃r∈rows,fits r vs|some f=>Sk.iE f ts/\∀vs,Va.iE vs ts->fits f vs->fits w vs/\∀r∈rows,¬fits r vs
def DW{t:So}(hn:NH t n){ts:List So}{rows:List (List Sk)}(hr:∀r∈rows,Sk.iE r (t::ts)){w w':List Sk}(hw:∀a b,Va.iE a (iR t n)->(fits w (.mk n a::b)↔fits w' (a++b))){o:Option (List Sk)}(h:Good (iR t n++ts) (rows.filterMap<|jO t n) w' o):
 match o.map (iu t n)with
 |none=>∀a b,Va.iE a (iR t n)->Va.iE b ts->fits w (.mk n a::b)->∃r∈rows,fits r (.mk n a::b)|some f=>Sk.iE f (t::ts)/\∀vs,Va.iE vs (t::ts)->fits f vs->fits w vs/\∀r∈rows,¬fits r vs:=by
 cases o with
 |none=>
  intro a b ha hb q;have⟨r',h1,h2⟩:=h (a++b) (AP ha hb)<|(hw a b ha).1 q;have⟨r,h3,h4⟩:=List.mem_filterMap.1 h1;exact⟨r,h3,(Tx (hr r h3) ha).2 ⟨r',h4,h2⟩⟩
 |some f=>
  obtain⟨h1,h2⟩:=h;have hc:=GH h1;refine⟨⟨⟨rfl,hn,hc.1⟩,hc.2⟩,λvs hv q=>?_⟩
  match vs,hv with
  |.mk n' a::b,hv=>
   obtain⟨⟨rfl,q1⟩,q2⟩:=q;have q3:fits f (a++b):=by
    have:=(mi (q:=f.drop (iR t n).length) (b:=b) hc.1 hv.1.2).2 ⟨q1,q2⟩
    rwa[List.take_append_drop]at this
   have⟨g1,g2⟩:=h2 _ (AP hv.1.2 hv.2) q3;refine⟨(hw a b hv.1.2).2 g1,λr hm q=>?_⟩;have⟨r',e1,e2⟩:=(Tx (hr r hm) hv.1.2).1 q;exact g2 r' (List.mem_filterMap.2 ⟨r,hm,e1⟩) e2
def mX:∀(a b:List Nat),a.Nodup->(∀x∈a,x∈b)->a.length<=b.length
 |[],_,_,_=>Nat.zero_le _|x::a,b,hn,h=>by
  have hx:=h x (by simp);have⟨h1,h2⟩:=List.nodup_cons.1 hn;have:=mX a (b.erase x) h2 λy q=>(List.mem_erase_of_ne (by rintro rfl;exact h1 q)).2 (h y<|by simp[q]);rw[List.length_erase_of_mem hx]at this;have:=List.length_pos_of_mem hx;simp only[List.length_cons];omega
structure Ck(t:So)(M:List (So×Nat)):Prop where
 k:∀h∈M,h.1=t/\NH t h.2
 n:(M.map (·.2)).Nodup
def Ck.mem{t:So}{M:List (So×Nat)}(h:Ck t M):n∈M.map (·.2)↔(t,n)∈M:=by
 simp only[List.mem_map];constructor
 .rintro⟨⟨t',n'⟩,q,rfl⟩;have:=(h.k _ q).1;simp only at this;subst this;exact q
 .exact λq=>⟨_,q,rfl⟩
def AL{t:So}{ts:List So}:∀(rows:List (List Sk)),(∀r∈rows,Sk.iE r (t::ts))->∀m,Ck t m->Ck t (met rows m)/\∀h,h∈met rows m↔h∈m\/∃r∈rows,gH r=some h
 |[],_,m,h=>⟨h,λx=>by simp[met]⟩|r::rs,hr,m,h=>by
  have ih:=AL rs λx q=>hr x (by simp[q]);have h0:=hr r (by simp);simp only[met]
  match r,h0 with
  |.any::r,_=>
   simp only[gH];refine⟨(ih m h).1,λx=>?_⟩;rw[(ih m h).2];simp[gH]
  |.hd t' n ps::r,h0=>
   obtain⟨⟨rfl,h2,_⟩,_⟩:=h0;simp only[gH];split
   .refine⟨(ih m h).1,λx=>?_⟩;rw[(ih m h).2];simp only[jd,exists_eq_or_imp,gH,Option.some.injEq];exact⟨λq=>q.elim .inl λq=>.inr<|.inr q,λq=>q.elim .inl λq=>q.elim (λe=>.inl<|e▸‹_›) .inr⟩
   .have h':Ck t' (m++[(t',n)]):=⟨λx q=>by
     obtain q|q:=List.mem_append.1 q
     .exact h.k x q
     .simp at q;subst q;exact⟨rfl,h2⟩,by
     rw[jj,List.nodup_append];refine⟨h.n,by simp,λa ha b hb e=>?_⟩;simp at hb;subst e;subst hb
     exact ‹¬_› (h.mem.1 ha)⟩
    refine⟨(ih _ h').1,λx=>?_⟩;rw[(ih _ h').2];simp only[jd,exists_eq_or_imp,gH,Option.some.injEq,List.mem_append,List.not_mem_nil,or_false];exact⟨λq=>q.elim (λq=>q.elim .inl λe=>.inr<|.inl e.symm) λq=>.inr<|.inr q,λq=>q.elim (λq=>.inl<|.inl q) λq=>q.elim (λe=>.inl<|.inr e.symm) .inr⟩
def AK{t:So}{M:List (So×Nat)}(h:Ck t M):∀f n,(∀x<n,(t,x)∈M)->M.length<=f+n->(t,yk M t f n)∉M/\∀x<yk M t f n,(t,x)∈M
 |0,n,hb,hf=>by
  refine⟨λq=>?_,hb⟩;have:=mX (jh<|n+1) (M.map (·.2)) List.nodup_range λx hx=>by
   rw[h.mem];simp only[yk]at q;by_cases e:x=n
   .rw[e];exact q
   .exact hb x (by simp at hx;omega)
  simp at this;omega
 |f+1,n,hb,hf=>by
  simp only[yk];split
  .exact AK h f (n+1) (λx hx=>by by_cases e:x=n;exact e▸‹_›;exact hb x<|by omega) (by omega)
  .exact⟨‹_›,hb⟩
def mJ{α:Type}{g:Nat->Option α}{x:α}:∀{f n},cR g f n=some x->∃k,g k=some x/\n<=k/\k<n+f
 |f+1,n,h=>by
  simp only[cR]at h;split at h
  .cases h;exact⟨n,‹_›,Nat.le_refl _,by omega⟩
  .have⟨k,h1,h2,h3⟩:=mJ h;exact⟨k,h1,by omega,by omega⟩
def tA{α:Type}{g:Nat->Option α}:∀{f n},cR g f n=none->∀k,n<=k->k<n+f->g k=none
 |0,n,_,k,h1,h2=>by omega|f+1,n,h,k,h1,h2=>by
  simp only[cR]at h;split at h
  .cases h
  .by_cases e:k=n
   .rw[e];assumption
   .exact tA h k (by omega) (by omega)
def ia(t:So)(n:Nat):(iR t n).length<=2:=by unfold iR;split<;>simp
def fe:∀{a:List Sk}{s:List So},Sk.iE a s->a.length=s.length
 |[],[],_=>rfl|_::_,_::_,h=>by simp[fe h.2]|[],_::_,h=>h.elim|_::_,[],h=>h.elim
def afb{t:So}{r:List Sk}:(∀r',jO t n r=some r'->aK r'+(if(gH r).isSome then 1 else 0)<=aK r)/\(jO t n r=none->(if(gH r).isSome then 1 else 0)<=aK r):=by
 match r with
 |[]=>simp[jO,gH]|.any::r=>simp[jO,gH,bU,oe,aK,bO]|.hd t' n' ps::r=>
  simp only[jO,gH,Option.isSome_some,if_true,aK,bO];split
  .refine⟨λr' e=>?_,λe=>by cases e⟩
   cases e
   rw[bU];omega
  .exact⟨λr' e=>(by cases e),λ_=>by omega⟩
def RX{p:Prop}(h:p:=by
 by_cases h1:(gH r).isSome=true<;>by_cases h2:∃r∈rs,(gH r).isSome=true<;>simp only[h1,h2,if_true,if_false,true_or,or_true,or_self,Bool.false_eq_true]at this ih⊢<;>omega):p:=h
def lR{t:So}{n:Nat}:∀rows:List (List Sk),iw (rows.filterMap<|jO t n)+(if∃r∈rows,(gH r).isSome then 1 else 0)<=iw rows
 |[]=>by simp[iw]|r::rs=>by
  have ih:=lR (t:=t) (n:=n) rs;have h:=afb (t:=t) (n:=n) (r:=r);simp only[iw,List.filterMap_cons,ja,List.sum_cons,jd,exists_eq_or_imp]at ih⊢
  cases e:jO t n r with
  |none=>
   have:=h.2 e;simp only;exact RX
  |some r'=>
   have:=h.1 r' e;simp only[ja,List.sum_cons];exact RX
def od:∀rows:List (List Sk),iw (rows.filterMap si)<=iw rows
 |[]=>by simp[iw]|r::rs=>by
  have ih:=od rs;simp only[iw,List.filterMap_cons,ja,List.sum_cons]at ih⊢
  match r with
  |[]=>simp only[si];omega|.any::r=>simp only[si,ja,List.sum_cons,aK,bO];omega|.hd _ _ _::r=>simp only[si];omega
def mK:∀(m:Nat)(ts:List So)(rows:List (List Sk))(w:List Sk),(∀r∈rows,Sk.iE r ts)->Sk.iE w ts->2*(iw rows+aK w)+w.length<m->Good ts rows w (lo m rows w)
 |0,_,_,_,_,_,h=>by omega|m+1,[],rows,[],hr,_,_=>by
  simp only[lo];split
  .subst ‹rows=[]›;exact⟨trivial,λvs _ h=>⟨h,by simp⟩⟩
  .obtain⟨r,rs,rfl⟩:=List.exists_cons_of_ne_nil ‹rows≠[]›;intro vs h1 h2;refine⟨r,by simp,?_⟩
   match r,hr r (by simp)with
   |[],_=>exact h2
 |m+1,t'::ts,rows,.hd t n ps::r,hr,hw,hz=>by
  obtain⟨⟨rfl,h1,h2⟩,h3⟩:=hw;have hp:=fe h2;have h4:=ia t n;have h5:=lR (t:=t) (n:=n) rows;simp only[aK,bO,List.length_cons]at hz;have ih:=mK m (iR t n++ts) (rows.filterMap<|jO t n) (ps++r) (λx hx=>by have⟨y,hy,e⟩:=List.mem_filterMap.1 hx;exact PG (hr y hy) e) (mY h2 h3) (by rw[bU,List.length_append];omega);have g:=DW (w:=.hd t n ps::r) h1 hr (λa b ha=>by simp only[fits,fit,true_and,mi h2 ha]) ih;simp only[lo];generalize(lo m (rows.filterMap<|jO t n)<|ps++r).map (iu t n)=o at g⊢
  cases o with
  |none=>
   intro vs hv q
   match vs,hv with
   |.mk n' a::b,hv=>
    obtain rfl:n=n':=q.1.1;exact g a b hv.1.2 hv.2 q
  |some f=>exact g
 |m+1,t::ts,rows,.any::r,hr,hw,hz=>by
  have h5:=od rows;have h6:=AL rows hr [] ⟨λ_ q=>(by cases q),by simp⟩;simp only[aK,bO,List.length_cons,Nat.zero_add]at hz;simp only[lo];generalize met rows []=M at h6⊢;obtain⟨hM,hI⟩:=h6;have hI:∀h,h∈M↔∃r∈rows,gH r=some h:=λh=>by simpa using hI h
  split
  .rename_i ha
   match M,ha,hM,hI with
   |(t',n0)::M,ha,hM,hI=>
    obtain rfl:t'=t:=(hM.k (t',n0)<|by simp).1;simp only[kK,beq_iff_eq]at ha;have hs:∃r∈rows,(gH r).isSome=true:=by
     have⟨r,q1,q2⟩:=(hI (t',n0)).1 (by simp);exact⟨r,q1,by rw[q2];rfl⟩
    have key:∀n,NH t' n->_:=λn hn=>by
     have h7:=lR (t:=t') (n:=n) rows;rw[if_pos hs]at h7;have h4:=ia t' n;have ih:=mK m (iR t' n++ts) (rows.filterMap<|jO t' n) (eK (iR t' n).length++r) (λx hx=>by have⟨y,hy,e⟩:=List.mem_filterMap.1 hx;exact PG (hr y hy) e) (mY (jZ _) hw.2) (by rw[bU,List.length_append,oe];simp only[eK,List.length_replicate];omega);exact DW (w:=.any::r) hn hr (λa b ha=>by simp only[fits,fit,true_and,mi (jZ _) ha];exact⟨λq=>⟨uY ha,q⟩,λq=>q.2⟩) ih
    show Good _ _ _<|cR (λn=>(lo m (rows.filterMap<|jO t' n)<|eK (iR t' n).length++r).map<|iu t' n) ((t',n0)::M).length 0;generalize ho:cR (λn=>(lo m (rows.filterMap<|jO t' n)<|eK (iR t' n).length++r).map<|iu t' n) ((t',n0)::M).length 0=o
    cases o with
    |none=>
     intro vs hv q
     match vs,hv with
     |.mk n a::b,hv=>
      have hn:=hv.1.1 _ ha;have e:=tA ho n (Nat.zero_le _) (by omega);have g:=key n hv.1.1;rw[e]at g;exact g a b hv.1.2 hv.2 q
    |some f=>
     have⟨n,e,_,hn⟩:=mJ ho;have g:=key n (λc q=>by rw[ha]at q;cases q;omega);rw[e]at g;exact g
  .rename_i ha
   have ih:=mK m ts (rows.filterMap si) r (λx hx=>by
    have⟨y,hy,e⟩:=List.mem_filterMap.1 hx
    match y,hr y hy,e with
    |.any::y,h,e=>cases e;exact h.2) hw.2 (by omega)
   generalize lo m (rows.filterMap si) r=o at ih⊢
   cases o with
   |none=>
    intro vs hv q
    match vs,hv with
    |v::b,hv=>
     have⟨x,hx,h2⟩:=ih b hv.2 q.2;have⟨y,hy,e⟩:=List.mem_filterMap.1 hx
     match y,e with
     |.any::y,e=>cases e;exact⟨_,hy,trivial,h2⟩
   |some f=>
    obtain⟨g1,g2⟩:=ih;have TA:∀v b y,Va.iE (v::b) (t::ts)->fits f b->Sk.any::y∈rows->¬fits (.any::y) (v::b):=λv b y hv q hy q2=>(g2 b hv.2 q).2 y (List.mem_filterMap.2 ⟨_,hy,rfl⟩) q2.2
    match M,ha,hM,hI with
    |[],ha,hM,hI=>
     refine⟨⟨trivial,g1⟩,λvs hv q=>?_⟩
     match vs,hv with
     |v::b,hv=>
      refine⟨⟨trivial,(g2 b hv.2 q.2).1⟩,λy hy q2=>?_⟩
      match y,hr y hy with
      |.any::y,_=>exact TA v b y hv q.2 hy q2|.hd t' n ps::y,_=>exact absurd ((hI (t',n)).2 ⟨_,hy,rfl⟩) (by simp)
    |(t',n0)::M,ha,hM,hI=>
     obtain rfl:t'=t:=(hM.k (t',n0)<|by simp).1;have⟨k1,k2⟩:=AK hM (M.length+1) 0 (λx hx=>by omega) (by simp);simp only[Option.map,uz];generalize yk ((t',n0)::M) t' (M.length+1) 0=n at k1 k2;refine⟨⟨⟨rfl,λc hc=>Decidable.byContradiction λq=>ha ?_,jZ _⟩,g1⟩,λvs hv q=>?_⟩
     .simp only[kK,beq_iff_eq,hc,Option.some.injEq];have l1:=mX (jh c) (((t',n0)::M).map (·.2)) List.nodup_range λx hx=>by rw[hM.mem];exact k2 x (by simp at hx;omega)
      have l2:=mX (((t',n0)::M).map (·.2)) (jh c) hM.n λx hx=>by
       rw[hM.mem]at hx;simpa using(hM.k _ hx).2 c hc
      simp only[List.length_range,List.length_map]at l1 l2;omega
     .match vs,hv with
      |.mk n' a::b,hv=>
       obtain rfl:n=n':=q.1.1;refine⟨⟨trivial,(g2 b hv.2 q.2).1⟩,λy hy q2=>?_⟩
       match y,hr y hy with
       |.any::y,_=>exact TA _ b y hv q.2 hy q2|.hd t'' n'' ps::y,h=>
        obtain rfl:t''=t':=h.1.1;obtain rfl:n''=n:=q2.1.1;exact k1<|(hI _).2 ⟨_,hy,rfl⟩
end Ms
namespace Ms
def afc:∀t,∃v,Va.of v t
 |.i=>⟨.mk 0 [],λ_ h=>(by cases h),trivial⟩|.b=>⟨.mk 0 [],λ_ h=>(by cases h;decide),trivial⟩|.l=>⟨.mk 0 [],λ_ h=>(by cases h;decide),trivial⟩|.s=>⟨.mk 0 [],λ_ h=>(by cases h;decide),trivial⟩|.p=>⟨.mk 0 [.mk 0 [],.mk 0 []],λ_ h=>(by cases h;decide),⟨λ_ h=>(by cases h;decide),trivial⟩,⟨λ_ h=>(by cases h;decide),trivial⟩,trivial⟩
mutual
def tB:∀(p:Sk)(t:So),Sk.of p t->∃v,Va.of v t/\fit p v
 |.any,t,_=>by have⟨v,h⟩:=afc t;exact⟨v,h,trivial⟩|.hd t n ps,_,⟨h1,h2,h3⟩=>by
  subst h1;have⟨vs,h4,h5⟩:=DX ps _ h3;exact⟨.mk n vs,⟨h2,h4⟩,rfl,h5⟩
def DX:∀(ps:List Sk)(ts:List So),Sk.iE ps ts->∃vs,Va.iE vs ts/\fits ps vs
 |[],[],_=>⟨[],trivial,trivial⟩|p::ps,t::ts,h=>by
  have⟨v,h1,h2⟩:=tB p t h.1;have⟨vs,h3,h4⟩:=DX ps ts h.2;exact⟨v::vs,⟨h1,h3⟩,h2,h4⟩
 |[],_::_,h=>h.elim|_::_,[],h=>h.elim
end
def td:∀(rows:List (List Sk))(x:List Sk)(m:List (So×Nat)),met (rows++[x]) m=met [x] (met rows m)
 |[],_,_=>rfl|r::rs,x,m=>by
  have e1:met ((r::rs)++[x]) m=match gH r with|some h=>if h∈m then met (rs++[x]) m else met (rs++[x]) (m++[h])|none=>met (rs++[x]) m:=rfl;have e2:met (r::rs) m=match gH r with|some h=>if h∈m then met rs m else met rs (m++[h])|none=>met rs m:=rfl;rw[e1,e2]
  cases gH r with
  |none=>exact td rs x m|some h=>
   simp only;split
   .exact td rs x m
   .exact td rs x _
def TB:∀(rows:List (List Sk))(m:List (So×Nat))(h:So×Nat),h∈m\/(∃x∈rows,gH x=some h)->h∈met rows m
 |[],m,h,q=>q.elim id λ⟨_,q,_⟩=>by cases q|r::rs,m,h,q=>by
  have ih:=TB rs;simp only[met]
  cases e:gH r with
  |none=>
   refine ih m h<|q.imp id λ⟨x,q1,q2⟩=>⟨x,(List.mem_cons.1 q1).resolve_left λe'=>?_,q2⟩;rw[e',e]at q2
   cases q2
  |some h'=>
   have:∀m',(∀y,y∈m->y∈m')->h'∈m'->h∈met rs m':=λm' s1 s2=>ih m' h (by
    obtain q|⟨x,q1,q2⟩:=q
    .exact .inl (s1 h q)
    .obtain rfl|q1:=List.mem_cons.1 q1
     .rw[e]at q2;cases q2;exact .inl s2
     .exact .inr ⟨x,q1,q2⟩)
   simp only;split
   .exact this m (λ_ q=>q) ‹_›
   .exact this _ (λ_ q=>List.mem_append_left _ q) (by simp)
def afd{rows:List (List Sk)}{x:List Sk}(h:x∈rows):met (rows++[x]) []=met rows []:=by
 rw[td];simp only[met]
 cases e:gH x with
 |none=>rfl|some k=>simp only;rw[if_pos<|TB rows [] k<|.inr ⟨x,h,e⟩]
def GI:∀(m:Nat)(rows:List (List Sk))(w x:List Sk),x∈rows->lo m (rows++[x]) w=lo m rows w
 |0,_,_,_,_=>rfl|m+1,rows,[],x,h=>by
  have:rows≠[]:=λe=>by rw[e]at h;cases h
  simp[lo,this]
 |m+1,rows,.hd t n ps::r,x,h=>by
  have ih:=GI m (rows.filterMap<|jO t n)<|ps++r;simp only[lo,List.filterMap_append,List.filterMap_cons,List.filterMap_nil]
  cases e:jO t n x with
  |none=>simp|some y=>simp only;rw[ih y<|List.mem_filterMap.2 ⟨x,h,e⟩]
 |m+1,rows,.any::r,x,h=>by
  simp only[lo,afd h];have e1:∀t n w,lo m ((rows++[x]).filterMap<|jO t n) w=lo m (rows.filterMap<|jO t n) w:=λt n w=>by
   simp only[List.filterMap_append,List.filterMap_cons,List.filterMap_nil]
   cases e:jO t n x with
   |none=>simp|some y=>simp only;exact GI m _ w y<|List.mem_filterMap.2 ⟨x,h,e⟩
  have e2:∀w,lo m ((rows++[x]).filterMap si) w=lo m (rows.filterMap si) w:=λw=>by
   simp only[List.filterMap_append,List.filterMap_cons,List.filterMap_nil]
   cases e:si x with
   |none=>simp|some y=>simp only;exact GI m _ w y<|List.mem_filterMap.2 ⟨x,h,e⟩
  simp only[e1,e2]
structure aod(m:Nat)(t:So)(A:List Sk):Prop where
 k:∀a∈A,Sk.of a t
 z:2*(aK A)+1<m
def nB(A:List Sk):List (List Sk):=A.map ([·])
def kL:∀A,iw (nB A)=aK A
 |[]=>rfl|a::A=>by have:=kL A;simp only[iw,nB,ja,List.sum_cons,aK]at this⊢;omega
def GO{t:So}{A:List Sk}{p:Sk}(h:∀a∈A,Sk.of a t)(hp:Sk.of p t)(hz:2*(aK A+bO p)+1<m):match lo m (nB A) [p]with
 |none=>∀v,Va.of v t->fit p v->∃a∈A,fit a v|some f=>∃s,f=[s]/\Sk.of s t/\∀v,Va.of v t->fit s v->fit p v/\∀a∈A,¬fit a v:=by
 have g:=mK m [t] (nB A) [p] (λr hr=>by obtain⟨a,ha,rfl⟩:=List.mem_map.1 hr;exact⟨h a ha,trivial⟩) ⟨hp,trivial⟩ (by rw[kL];simp only[aK,List.length_cons,List.length_nil];omega);generalize lo m (nB A) [p]=o at g⊢
 cases o with
 |none=>
  intro v hv q;have⟨r,h1,h2⟩:=g [v] ⟨hv,trivial⟩ ⟨q,trivial⟩;obtain⟨a,ha,rfl⟩:=List.mem_map.1 h1;exact⟨a,ha,h2.1⟩
 |some f=>
  obtain⟨g1,g2⟩:=g
  match f,g1 with
  |[s],g1=>
   refine⟨s,rfl,g1.1,λv hv q=>?_⟩;have⟨h1,h2⟩:=g2 [v] ⟨hv,trivial⟩ ⟨q,trivial⟩;exact⟨h1.1,λa ha q=>h2 [a] (List.mem_map.2 ⟨a,ha,rfl⟩) ⟨q,trivial⟩⟩
def uZ{t:So}{A:List Sk}{p:Sk}(h:∀a∈A,Sk.of a t)(hp:Sk.of p t)(hz:2*(aK A+bO p)+1<m):lo m (nB A) [p]=none↔∀v,Va.of v t->fit p v->∃a∈A,fit a v:=by
 have g:=GO h hp hz
 cases e:lo m (nB A) [p]with
 |none=>rw[e]at g;exact⟨λ_=>g,λ_=>rfl⟩|some f=>
  rw[e]at g;obtain⟨s,rfl,h1,h2⟩:=g;refine⟨λq=>(by cases q),λq=>?_⟩;have⟨v,h3,h4⟩:=tB s t h1;have⟨h5,h6⟩:=h2 v h3 h4;have⟨a,h7,h8⟩:=q v h3 h5;exact absurd h8<|h6 a h7
def bZ(m:Nat):List Sk->List Sk->Nat
 |_,[]=>0|B,p::r=>(if lo m (nB B) [p]=none then 1 else 0)+bZ m (B++[p]) r
def pC(m:Nat)(p:Sk):∀A B,bZ m B (A++[p])=bZ m B A+if lo m (nB<|B++A) [p]=none then 1 else 0
 |[],B=>by simp[bZ]|a::A,B=>by simp only[ji,bZ,pC m p A<|B++[a],List.append_assoc,jc,Nat.add_assoc]
def Cd(m:Nat)(A:List Sk):Option (List Sk):=lo m (nB A) [.any]
section
variable {t:So} {A:List Sk}
def acb(h:∀a∈A,Sk.of a t)(hz:2*aK A+1<m):Cd m (A++[.any])=none/\bZ m [] (A++[.any])=bZ m [] A+if Cd m A=none then 1 else 0:=by
 refine⟨(uZ (t:=t) (p:=.any) (λa ha=>?_) trivial (by rw[bU];simp only[aK,bO];omega)).2 λv _ _=>⟨.any,by simp,trivial⟩,by rw[pC];rfl⟩;obtain ha|ha:=List.mem_append.1 ha
 .exact h a ha
 .simp at ha;rw[ha];trivial
def acd{a:Sk}(ha:a∈A)(h:∀a∈A,Sk.of a t)(hz:2*(aK A+bO a)+1<m):Cd m (A++[a])=Cd m A/\bZ m [] (A++[a])=bZ m [] A+1:=by
 refine⟨by unfold Cd nB;rw[jj];exact GI m _ _ _<|List.mem_map.2 ⟨a,ha,rfl⟩,?_⟩;rw[pC,jc,if_pos<|(uZ h (h a ha) hz).2 λv _ q=>⟨a,ha,q⟩]
def ace{s:Sk}(h:∀a∈A,Sk.of a t)(hw:Cd m A=some [s])(hz:2*(aK A+bO s)+1<m):Sk.of s t/\bZ m [] (A++[s])=bZ m [] A/\Cd m (A++[s])≠Cd m A/\∀v,Va.of v t->fit s v->∀a∈A,¬fit a v:=by
 have g:=GO (p:=.any) h trivial (m:=m) (by simp only[bO];omega);rw[show lo m (nB A) [.any]=some [s]from hw]at g;obtain⟨_,e,h1,h2⟩:=g
 cases e
 have⟨v,h3,h4⟩:=tB s t h1;refine⟨h1,?_,λq=>?_,λv hv q=>(h2 v hv q).2⟩
 .have hn:lo m (nB A) [s]≠none:=λq=>by
   have⟨a,h5,h6⟩:=(uZ h h1 hz).1 q v h3 h4;exact(h2 v h3 h4).2 a h5 h6
  rw[pC,jc,if_neg hn,Nat.add_zero]
 .have g:=GO (p:=.any) (A:=A++[s]) (t:=t) (m:=m) (λa ha=>by
   obtain ha|ha:=List.mem_append.1 ha
   .exact h a ha
   .simp at ha;rw[ha];exact h1) trivial (by rw[bU];simp only[bO,aK];omega)
  rw[hw]at q;rw[show lo m (nB<|A++[s]) [.any]=some [s]from q]at g;obtain⟨_,e,_,h5⟩:=g
  cases e
  exact(h5 v h3 h4).2 s (by simp) h4
def W7{s:Sk}(hs:Sk.of s t)(hd:∀v,Va.of v t->fit s v->∀a∈A,¬fit a v)(h:∀a∈A,Sk.of a t)(hz:2*(aK A+bO s)+1<m):bZ m [] (s::A)=bZ m [] A:=by
 have key:∀(C B:List Sk),A=B++C->bZ m (s::B) C=bZ m B C:=λC=>by
  induction C with
  |nil=>intro B _;rfl|cons p C ih=>
   intro B e;have IA:aK B+(bO p+aK C)=aK A:=by rw[e,bU];rfl
   have hB:∀a∈B,Sk.of a t:=λa ha=>h a (by rw[e];simp[ha]);have hp:Sk.of p t:=h p (by rw[e];simp);have e1:(lo m (nB (s::B)) [p]=none)=(lo m (nB B) [p]=none):=by
    rw[uZ (t:=t) (λa ha=>(List.mem_cons.1 ha).elim (λq=>q▸hs)<|hB a) hp (by simp only[aK];omega),uZ hB hp<|by omega];refine propext ⟨λq v hv hf=>?_,λq v hv hf=>?_⟩
    .have⟨a,ha,h1⟩:=q v hv hf;obtain rfl|ha:=List.mem_cons.1 ha
     .exact absurd hf (hd v hv h1 p (by rw[e];simp))
     .exact⟨a,ha,h1⟩
    .have⟨a,ha,h1⟩:=q v hv hf;exact⟨a,by simp[ha],h1⟩
   simp only[bZ,e1];rw[<-ih (B++[p]) (by rw[e];simp)];rfl
 simp only[bZ];have hn:lo m (nB []) [s]≠none:=λq=>by
  have⟨v,h3,h4⟩:=tB s t hs;have⟨a,h5,_⟩:=(uZ (t:=t) (A:=[]) (λ_ q=>(by cases q)) hs (by simp only[aK];omega)).1 q v h3 h4
  cases h5
 rw[jc,key A [] rfl,if_neg hn,Nat.zero_add]
end
end Ms
section
open Go.RowKit Go.MapKept Go.ChangeMaps
def Df{κ:Type}[DecidableEq κ](x:κ):List (κ×Value)->Nat->Option (Nat×Value)
 |[],_=>none|p::l,i=>if p.1=x then some (i,p.2)else Df x l (i+1)
def bd{κ:Type}[DecidableEq κ](x:κ):List (κ×Value)->Option Value
 |[]=>none|p::l=>if p.1=x then some p.2 else bd x l
theorem RY[DecidableEq κ]x(l:List (κ×Value))(i:Nat):(Df x l i).map (·.2)=bd x l:=by
 induction l generalizing i with
 |nil=>rfl|cons p l ih=>rw[Df,bd];split<;>simp[ih]
def bn{κ:Type}[DecidableEq κ](x:κ)(v:Value):List (κ×Value)->List (κ×Value)
 |[]=>[(x,v)]|p::l=>if p.1=x then(x,v)::l else p::bn x v l
def n8[DecidableEq κ]x v(l:List (κ×Value))(h:bd x l=none):bn x v l=l++[(x,v)]:=by
 induction l with
 |nil=>rfl|cons p l ih=>
  rw[bd]at h;split at h
  .simp at h
  .rename_i hn;simp[bn,hn,ih h]
theorem aN[DecidableEq κ]x y v(l:List (κ×Value)):bd y (bn x v l)=if x=y then some v else bd y l:=by
 induction l with
 |nil=>simp[bn,bd]|cons p l ih=>
  unfold bn;split
  .rename_i h;unfold bd;by_cases e:x=y
   .simp[e]
   .rw[h];simp[e]
  .rename_i h;unfold bd;rw[ih];by_cases e:p.1=y
   .grind
   .simp[e]
structure KL P k{κ:Type}[DecidableEq κ](enc:κ->Value)(ok:World->κ->Prop):Prop where
 chk:∀b x w,(Instr.checkKey b 10000 k<|enc x).run P w=.ok () w
 fin:∀x(L:List (κ×Value))(es:List MapEntry)w,ok w x->(∀p∈L,ok w p.1)->es.map (λe=>(e.key,e.val))=L.map (λp=>(enc p.1,p.2))->(jt k (enc x) es).run P w=.ok (Df x L 0) w
 bit:∀x,jl 10000 (enc x) (enc x)=true
def MS{κ:Type}(enc:κ->Value)(w:World)(b:Nat)(L:List (κ×Value)):=
 ∃es clock,w.heap[b]? =some (.map es clock)/\es.toList.map (λe=>(e.key,e.val))=L.map (λp=>(enc p.1,p.2))
section
variable [DecidableEq κ] {enc:κ->Value} {ok:World->κ->Prop} {b:Nat} {L:List (κ×Value)}
def MS.lt(h:MS enc w b L):b<w.heap.size:=by grind[MS]
def MS.same(h:MS enc w b L)(hb:w'.heap[b]? =w.heap[b]?):MS enc w' b L:=by grind[MS]
def MS.below(h:MS enc w b L)(hb:Below w.heap.size w w'):MS enc w' b L:=h.same<|hb.block b h.lt
def MS.new(enc:κ->Value)(w:World):MS enc (w.alloc<|.map #[] 0) w.heap.size []:=⟨#[],0,(MapKept.heap_alloc w _).1,rfl⟩
def MS.look(K:KL P k enc ok)(h:MS enc w b L)(ht:P.underlying t=some (.map k e)){z}(hz:(zeroValue e).run P w=.ok z w)x(hx:ok w x)(hL:∀p∈L,ok w p.1)c:
 (ju t (.map<|some b) (enc x) c).run P w=.ok (match bd x L with|some v=>if c then .tuple #[v,.bool true]else v|none=>if c then .tuple #[z,.bool false]else z) w:=by
 obtain⟨es,clock,hb,rY⟩:=h;have hf:=K.fin x L es.toList w hx hL rY;rw[<-RY x L 0];rw[ju];simp only[jy,run_underlying ht,jx,j3 hb,K.chk,hf]
 cases Ju:Df x L 0 with
 |none=>rw[Ju]at hf;cases c<;>simp[hz,hf,jx]|some p=>rw[Ju]at hf;cases c<;>simp[hf,jx]
def N' x v:∀(L:List (κ×Value))(es:List MapEntry)(i j:Nat)(u:Value),es.map (λe=>(e.key,e.val))=L.map (λp=>(enc p.1,p.2))->Df x L i=some (j,u)->i<=j/\∃e0,es[j-i]? =some e0/\e0.key=enc x/\(es.modify (j-i) λe=>{e with key:=enc x,val:=v}).map (λe=>(e.key,e.val))=(bn x v L).map (λp=>(enc p.1,p.2)):=by
 intro L
 induction L with
 |nil=>intro es i j u _ h;simp[Df]at h|cons p l ih=>
  intro es i j u rY h
  cases es with
  |nil=>simp at rY|cons e0 es=>
   simp only[ja,List.cons.injEq,Prod.mk.injEq]at rY;obtain⟨⟨hk,hv⟩,rY⟩:=rY;rw[Df]at h;split at h
   .rename_i hp;simp only[Option.some.injEq,Prod.mk.injEq]at h;obtain⟨rfl,rfl⟩:=h;refine⟨Nat.le_refl _,e0,by simp,by rw[hk,hp],?_⟩;simp[bn,hp,rY]
   .rename_i hp;have⟨h1,e1,h2,h3,h4⟩:=ih es (i+1) j u rY h;refine⟨by omega,e1,?_,h3,?_⟩
    .grind
    .rw[show j-i=(j-(i+1))+1 by omega];simp[bn,hp,h4,hk,hv]
def zX x:∀(L:List (κ×Value))(i:Nat),Df x L i=none->bd x L=none:=by grind[Df,bd,RY]
def MS.put(K:KL P k enc ok)(h:MS enc w b L)(ht:P.underlying t=some (.map k e))x v(hx:ok w x)(hL:∀p∈L,ok w p.1):
 ∃o,(jq t (.map<|some b) (enc x) v).run P w=.ok () (setBlock w b o)/\MS enc (setBlock w b o) b (bn x v L):=by
 obtain⟨es,clock,hb,rY⟩:=h;have hf:=K.fin x L es.toList w hx hL rY;rw[jq];simp only[jy,run_underlying ht,jx,j3 hb,K.chk,hf]
 cases Ju:Df x L 0 with
 |none=>
  refine⟨.map (es.push {key:=enc x,val:=v,born:=clock})<|clock+1,by rw[Ju]at hf;simp[hf,jx];exact jz _ hb,_,_,(heap_setBlock_same hb _),?_⟩;rw[n8 x v L<|zX x L 0 Ju];simp[rY]
 |some p=>
  obtain⟨j,u⟩:=p;have⟨_,e0,h2,h3,h4⟩:=N' (enc:=enc) x v L es.toList 0 j u rY Ju;have ZC:es[j]? =some e0:=by simpa using h2
  refine⟨.map (es.modify j λe=>{e with key:=enc x,val:=v}) clock,?_,_,_,(heap_setBlock_same hb _),by simpa using h4⟩;rw[Ju]at hf;simp[hf,jx,ZC,h3,Instr.keyThatStays,K.bit];exact jz _ hb
end
def KL.str(hk:P.underlying k=some .string):KL P k Value.string (λ_ _=>True) where
 chk b x w:=run_checkKey hk (by simp[IsKey]) b 9999
 bit x:=by simp only[jl];exact(bytes_beq x x).2 rfl
 fin x L es w _ _ rY:=by
  refine run_findKey hk ?_
  suffices H:∀(L:List (ByteArray×Value))(es:List MapEntry)(i:Nat),es.map (λe=>(e.key,e.val))=L.map (λp=>(Value.string p.1,p.2))->jk .string (.string x) es i=some (Df x L i)from H L es 0 rY
  intro L
  induction L with
  |nil=>intro es i h;simp at h;subst h;rfl|cons p l ih=>
   intro es i h
   cases es with
   |nil=>simp at h|cons e0 es=>
    simp only[ja,List.cons.injEq,Prod.mk.injEq]at h;obtain⟨⟨h1,h2⟩,h3⟩:=h;rw[jk,Df];simp only[h1,jo];by_cases e:p.1=x
    .have:(x==p.1)=true:=(bytes_beq _ _).2 e.symm;rw[if_pos e];simp only[this,h2]
    .have:(x==p.1)=false:=by rw[<-Bool.not_eq_true,bytes_beq];exact λq=>e q.symm
     simp only[e,this,if_false,ih es (i+1) h3]
def KL.num{q:IntKind}(hk:P.underlying k=some (.int q)):KL P k (λn:Int=>Value.int q n) (λ_ _=>True) where
 chk b x w:=run_checkKey hk (by simp[IsKey]) b 9999
 bit x:=by simp[jl]
 fin x L es w _ _ rY:=by
  refine run_findKey hk ?_
  suffices H:∀(L:List (Int×Value))(es:List MapEntry)(i:Nat),es.map (λe=>(e.key,e.val))=L.map (λp=>(Value.int q p.1,p.2))->jk (.int q) (.int q x) es i=some (Df x L i)from H L es 0 rY
  intro L
  induction L with
  |nil=>intro es i h;simp at h;subst h;rfl|cons p l ih=>
   intro es i h
   cases es with
   |nil=>simp at h|cons e0 es=>
    simp only[ja,List.cons.injEq,Prod.mk.injEq]at h;obtain⟨⟨h1,h2⟩,h3⟩:=h;rw[jk,Df];simp only[h1,jo];by_cases e:p.1=x
    .simp[e,h2]
    .grind
def KL.ptr{el:TypeId}{j:TypeInfo}(hk:P.underlying k=some (.pointer el))(hi:P.info? el=some j)(kX:j.size≠0):
 KL P k (λb:Nat=>Value.pointer<|some ⟨b,0,none⟩) (λw b=>∃c t,w.heap[b]? =some (.cells c t (0,0))) where
 chk b x w:=by
  rw[Instr.checkKey];simp only[jy,run_underlying hk,jx];rfl
 bit x:=by simp[jl]
 fin x L es w hx hL rY:=by
  have amL:∀(es:List MapEntry)(i:Nat),es≠[]->jk (.pointer el) (.pointer<|some ⟨x,0,none⟩) es i=none:=by
   intro es i h
   cases es with
   |nil=>exact absurd rfl h|cons e0 es=>simp[jk,jo]
  rw[jt];simp only[jy,run_underlying hk,jx]
  cases es with
  |nil=>
   cases L with
   |nil=>simp[jk,Df]|cons p l=>simp at rY
  |cons e0 es0=>
   rw[amL _ 0<|by simp];revert rY;generalize(e0::es0)=es;intro rY
   suffices H:∀(L:List (Nat×Value))(es:List MapEntry)(i:Nat),(∀p∈L,∃c t,w.heap[p.1]? =some (.cells c t (0,0)))->es.map (λe=>(e.key,e.val))=L.map (λp=>(Value.pointer<|some ⟨p.1,0,none⟩,p.2))->(Instr.findAsking k (.pointer<|some ⟨x,0,none⟩) es i).run P w=.ok (Df x L i) w from H L es 0 hL rY
   intro L
   induction L with
   |nil=>intro es i _ h;simp at h;subst h;rfl|cons p l ih=>
    intro es i hL h
    cases es with
    |nil=>simp at h|cons e0 es=>
     simp only[ja,List.cons.injEq,Prod.mk.injEq]at h;obtain⟨⟨h1,h2⟩,h3⟩:=h;rw[Instr.findAsking,Df];have heq:(Op.equal k (.pointer<|some ⟨x,0,none⟩) e0.key).run P w=.ok (decide (p.1=x)) w:=by
      rw[h1];rw[Op.equal,Op.maxDepth,Op.equalIn];simp only[jy,run_underlying hk,jx,sizeOf,typeInfo,hi];obtain⟨c1,t1,hc1⟩:=hx;have⟨c2,t2,hc2⟩:=hL p (by simp);by_cases e:p.1=x
      .simp[e,kX,run_sameAddr_same,hi]
      .simp[e,kX,hi,run_sameAddr_other w (a:=⟨x,0,none⟩) (b:=⟨p.1,0,none⟩) (by intro q;injection q with q;exact e q.symm) hc1 hc2]
     simp only[jy,heq,jx];by_cases e:p.1=x
     .simp[e,h2]
     .grind
end
abbrev Bw A z:=∀(I D:TypeId)(x:Value)(w:World),D≠A->(jm (.iface D x) I A true).run jv w=.ok (.tuple #[.agg z,.bool false]) w
abbrev Oa A:=∀(I:TypeId)(x:Array Value)(w:World),(jm (.iface A<|.agg x) I A true).run jv w=.ok (.tuple #[.agg x,.bool true]) w
def eU{A}{z}(hz:∀w,(zeroValue A).run jv w=.ok (.agg z) w)(hu:∀w,∃u,(underlying A).run jv w=.ok u w/\∀m,u≠.interface m):Bw A z:=λI D x w h=>by
 have⟨u,hu,hi⟩:=hu w;rw[jm];simp[go_sem,hu,hz,h]
@[simp] theorem amM:Bw 217 #[.int .i64 0,.int .i64 0]:=eU (λw=>by kernel_rfl) λw=>⟨_,rfl,λm q=>by cases q⟩
@[simp] theorem amN:Oa 217:=λI x w=>by kernel_rfl
@[simp] theorem akB:Bw 297 #[.int .i64 0,.int .i64 0,.nilIface,.nilIface]:=eU (λw=>by kernel_rfl) λw=>⟨_,rfl,λm q=>by cases q⟩
@[simp] theorem akC:Oa 297:=λI x w=>by kernel_rfl
@[simp] theorem aju:Bw 197 #[.int .i64 0,.int .i64 0,.string ⟨#[]⟩,.nilIface,.nilIface]:=eU (λw=>by kernel_rfl) λw=>⟨_,rfl,λm q=>by cases q⟩
@[simp] theorem Rm:Bw 201 #[.int .i64 0,.int .i64 0,.bool false]:=eU (λw=>by kernel_rfl) λw=>⟨_,rfl,λm q=>by cases q⟩
@[simp] theorem al6:Oa 201:=λI x w=>by kernel_rfl
@[simp] theorem al7:Bw 199 #[.int .i64 0,.int .i64 0,.nilIface,.nilIface]:=eU (λw=>by kernel_rfl) λw=>⟨_,rfl,λm q=>by cases q⟩
@[simp] theorem amO:Bw 191 #[.int .i64 0,.int .i64 0,.int .i64 0,.int .i64 0,.string ⟨#[]⟩,.nilIface]:=eU (λw=>by kernel_rfl) λw=>⟨_,rfl,λm q=>by cases q⟩
@[simp] theorem amP:Oa 191:=λI x w=>by kernel_rfl
@[simp] theorem anJ:Bw 195 #[.int .i64 0,.int .i64 0,.nilIface,.nilIface,.nilIface]:=eU (λw=>by kernel_rfl) λw=>⟨_,rfl,λm q=>by cases q⟩
@[simp] theorem amQ:Bw 193 #[.int .i64 0,.int .i64 0,.bool false,.int .i64 0,.int .i64 0,.string ⟨#[]⟩,.nilIface,.nilIface]:=eU (λw=>by kernel_rfl) λw=>⟨_,rfl,λm q=>by cases q⟩
@[simp] theorem ahD:Oa 77:=λI x w=>by kernel_rfl
@[simp] theorem Zn:Bw 305 #[.int .i64 0,.int .i64 0,.string ⟨#[]⟩]:=eU (λw=>by kernel_rfl) λw=>⟨_,rfl,λm q=>by cases q⟩
@[simp] theorem amR:Oa 305:=λI x w=>by kernel_rfl
@[simp] theorem al8:Bw 185 #[.int .i64 0,.int .i64 0,.int .i64 0,.int .i64 0,.string ⟨#[]⟩,.slice none 0 0]:=eU (λw=>by kernel_rfl) λw=>⟨_,rfl,λm q=>by cases q⟩
@[simp] theorem al9:Oa 185:=λI x w=>by kernel_rfl
@[simp] theorem akD:Bw 82 #[.int .i64 0,.int .i64 0,.nilIface,.slice none 0 0]:=eU (λw=>by kernel_rfl) λw=>⟨_,rfl,λm q=>by cases q⟩
@[simp] theorem akE:Oa 82:=λI x w=>by kernel_rfl
@[simp] theorem akF:Bw 299 #[.int .i64 0,.int .i64 0,.int .i64 0,.int .i64 0,.string ⟨#[]⟩,.slice none 0 0]:=eU (λw=>by kernel_rfl) λw=>⟨_,rfl,λm q=>by cases q⟩
@[simp] theorem akG:Oa 299:=λI x w=>by kernel_rfl
@[simp] theorem CM:Bw 206 #[.int .i64 0,.int .i64 0,.int .i64 0]:=eU (λw=>by kernel_rfl) λw=>⟨_,rfl,λm q=>by cases q⟩
@[simp] theorem ajv:Oa 206:=λI x w=>by kernel_rfl
@[simp] theorem al_:Bw 187 #[.int .i64 0,.int .i64 0,.nilIface,.nilIface]:=eU (λw=>by kernel_rfl) λw=>⟨_,rfl,λm q=>by cases q⟩
@[simp] theorem Z9:Bw 208 #[.int .i64 0,.int .i64 0,.nilIface,.nilIface]:=eU (λw=>by kernel_rfl) λw=>⟨_,rfl,λm q=>by cases q⟩
@[simp] theorem Z_:Oa 208:=λI x w=>by kernel_rfl
@[simp] theorem af_:Bw 95 #[.int .i64 0,.int .i64 0,.int .i64 0,.int .i64 0,.string ⟨#[]⟩,.slice none 0 0,.slice none 0 0]:=eU (λw=>by kernel_rfl) λw=>⟨_,rfl,λm q=>by cases q⟩
@[simp] theorem aga:Oa 95:=λI x w=>by kernel_rfl
@[simp] theorem agb:Bw 301 #[.int .i64 0,.int .i64 0,.nilIface,.nilIface]:=eU (λw=>by kernel_rfl) λw=>⟨_,rfl,λm q=>by cases q⟩
@[simp] theorem agc:Oa 301:=λI x w=>by kernel_rfl
@[simp] theorem ahE:Bw 257 #[.int .i64 0,.int .i64 0,.string ⟨#[]⟩]:=eU (λw=>by kernel_rfl) λw=>⟨_,rfl,λm q=>by cases q⟩
@[simp] theorem ahF:Oa 257:=λI x w=>by kernel_rfl
@[simp] theorem akH:Bw 189 #[.int .i64 0,.int .i64 0,.nilIface,.nilIface]:=eU (λw=>by kernel_rfl) λw=>⟨_,rfl,λm q=>by cases q⟩
@[simp] theorem Ro:Bw 204 #[.int .i64 0,.int .i64 0]:=eU (λw=>by kernel_rfl) λw=>⟨_,rfl,λm q=>by cases q⟩
@[simp] theorem ama:Oa 204:=λI x w=>by kernel_rfl
@[simp] theorem anK:Bw 325 #[.int .i64 0,.int .i64 0,.string ⟨#[]⟩]:=eU (λw=>by kernel_rfl) λw=>⟨_,rfl,λm q=>by cases q⟩
section
open Go.RowKit
def aea(hn:n<256):Calls jv 78 #[.int .u64 (n:Int)] w λe w'=>∃k,e=.returned (.int .i64 k)/\w'=w:=by
 have h1:decide ((4294967296:Int)<=(n:Int))=false:=by simp;omega
 have h2:decide ((65536:Int)<=(n:Int))=false:=by simp;omega
 have h3:decide ((256:Int)<=(n:Int))=false:=by simp;omega
 go_enter func78,ntmps78;go_wp2_with fail;go_ret;exact⟨_,rfl,rfl⟩
def akI(hn:n<256):Calls jv 40 #[.int .u64 (n:Int)] w λe w'=>∃k,e=.returned (.int .i64 k)/\w'=w:=by
 go_enter func40,ntmps40;go_wp2_with fail;refine(aea hn).mono ?_;rintro e w1⟨k,rfl,rfl⟩;go_wp2_with fail;go_ret;exact⟨_,rfl,rfl⟩
def akJ{k:Int}(hn:n<=12)(h:Calls jv 69 #[.slice va n vc,.int .i64 0,.int .i64 (n:Int),F] w λe w'=>e=.returned (.tuple #[])/\Q (.returned<|.tuple #[]) w'):Calls jv 39 #[.slice va n vc,.int .i64 0,.int .i64 (n:Int),.int .i64 k,F] w λe w'=>e=.returned (.tuple #[])/\Q (.returned<|.tuple #[]) w':=by
 have h1:decide ((n:Int)<=12)=true:=by simp;omega
 go_enter func39,ntmps39;go_wp2_with fail;go_loopg[1,2] 0 (λgk c1 c2 wr=>c1=.int .i64 0/\c2=.int .i64 (n:Int)/\wr=w)
 case atStart=>exact⟨rfl,rfl,rfl⟩
 case round=>
  obtain⟨rfl,rfl,rfl⟩:=hrel;go_wp2_with fail;refine h.mono ?_;rintro e w1⟨rfl,q⟩;go_wp2_with fail;exact bodyPost_ret (v:=.tuple #[]) (by simp[results,Tryz.results39,go_sem]) rfl ⟨rfl,q⟩
def zY(hn:n<=12)(h:Calls jv 69 #[.slice va n vc,.int .i64 0,.int .i64 (n:Int),F] w λe w'=>e=.returned (.tuple #[])/\Q (.returned<|.tuple #[]) w'):Calls jv 21 #[.slice va n vc,F] w λe w'=>e=.returned (.tuple #[])/\Q (.returned<|.tuple #[]) w':=by
 have h1:(n:Int)<18446744073709551616:=by omega
 have h0:(0:Int)<=(n:Int):=by omega
 go_enter func21,ntmps21;go_wp2_with fail;refine(akI<|by omega).mono ?_;rintro e w1⟨k,rfl,rfl⟩;go_wp2_with fail;refine(akJ hn h).mono ?_;rintro e w1⟨rfl,q⟩;go_wp2_with fail;go_end0;exact⟨rfl,q⟩
end
def VR:(Rows.closedRow.wf<|OpenSpec.ofChange Rows.closedSpec)=true:=by kernel_rfl
def VS:(Tryz.f3.params.all (Tryz.prog.readableRec ·))=true:=by kernel_rfl
def VT:(namedTie jv Rows.closedRow.named Rows.closedSpec.vars)=true:=by kernel_rfl
def VU:((Rows.closedRow.stops==[]))=true:=by kernel_rfl
def VV:((Rows.closedRow.knobs==[]))=true:=by kernel_rfl
def VW:((Rows.closedRow.inPlace==Tryz.prog.inPlace 3))=true:=by kernel_rfl
def Ob:((Rows.closedRow.unfollowed==Tryz.prog.unfollowed 3))=true:=by kernel_rfl
def Oc:((Rows.closedRow.recurses==Tryz.prog.recurses 3))=true:=by kernel_rfl
def Od:((Rows.closedRow.named==Tryz.prog.varsNamed 3))=true:=by kernel_rfl
def Oe:((Rows.closedRow.maps==(Tryz.f3.params.toList++Rows.closedSpec.plain.varTypes jv).any (Tryz.prog.mapsRec ·)))=true:=by kernel_rfl
def Og:((Rows.closedRow.ifaces==(Tryz.f3.params.toList++Rows.closedSpec.plain.varTypes jv).any (Tryz.prog.ifacesRec ·)))=true:=by kernel_rfl
def Oh:((Rows.closedRow.mapsOut==Tryz.prog.mapsAmong Tryz.f3.resultTypes.toList))=true:=by kernel_rfl
def Oi:((Rows.closedRow.loops==(Tryz.f3.params.toList++Rows.closedSpec.plain.varTypes jv).any (Tryz.prog.loopsFrom ·)))=true:=by kernel_rfl
def Oj:((Rows.closedRow.wideKeys==(Tryz.f3.params.toList++Rows.closedSpec.plain.varTypes jv++Tryz.f3.resultTypes.toList).any (Tryz.prog.wideKeysFrom ·)))=true:=by kernel_rfl
def Ol:(Rows.closedSpec.vars.all (Tryz.prog.varReadable ·))=true:=by kernel_rfl
def Om:(Tryz.f3.resultTypes.all<|λt=>Tryz.prog.readableRec t&&decide (t<Tryz.prog.types.size))=true:=by kernel_rfl
def On:((Rows.closedRow.ifacesOut==Tryz.f3.resultTypes.toList.any (Tryz.prog.ifacesRec ·)))=true:=by kernel_rfl
def Oo:((Rows.closedRow.loopsOut==Tryz.f3.resultTypes.toList.any (Tryz.prog.loopsFrom ·)))=true:=by kernel_rfl
def Oq:((Rows.closedRow.plainKeys==Tryz.prog.plainKeys))=true:=by kernel_rfl
def Ot:(Rows.closedRow.shortTexts.isNone)=true:=by kernel_rfl
def Ou:((Rows.closedRow.lifted==Tryz.prog.liftsFinal))=true:=by kernel_rfl
def Ov:((Tryz.prog.make==some Rows.closedRow.make))=true:=by kernel_rfl
def Ow:((Rows.closedRow.pinned==Rows.closedRow.pinnedBy))=true:=by kernel_rfl
def Ox:((Rows.closedRow.veiled==(Tryz.f3.params.toList++Rows.closedSpec.plain.varTypes jv++Tryz.f3.resultTypes.toList).any (Tryz.prog.veiledRec ·)))=true:=by kernel_rfl
def Oy:(Rows.closedRow.veiledFits jv Tryz.f3.params.toList<|Tryz.f3.params.toList++Rows.closedSpec.plain.varTypes jv++Tryz.f3.resultTypes.toList)=true:=by kernel_rfl
def VX:Tryz.pinned.checked.prog.mainIs=some (Rows.closedCard.stood.harness.1,Rows.closedCard.stood.harness.2.toList):=by kernel_rfl
def Oz:true=Tryz.prog.looks []:=by kernel_rfl
def PV:Rows.closedRow.wfByText (OpenSpec.ofChange Rows.closedSpec)=true:=by kernel_rfl
def Li:false=Rows.closedRow.goesBy Tryz.pinned.checked.prog:=by kernel_rfl
end Go.Proofs.YtopmodaakdnliaaGreatDoor

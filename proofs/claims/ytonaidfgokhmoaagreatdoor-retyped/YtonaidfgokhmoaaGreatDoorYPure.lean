import Derived.BigQuiet
import Derived.Deep.LoopGhost
import Derived.Deep.RegionHeld3
import Derived.Lib.ConvBytes
import Derived.RegionDies
import Derived.SevenTiedAt
import Derived.Test.YtonaidfgokhmoaaGreatDoorCards
import Derived.Test.YtonaidfgokhmoaaGreatDoorProg
import Derived.WalkLawsBesides
import Derived.WalkSpells
set_option linter.all false
set_option maxRecDepth 100000
set_option maxHeartbeats 8000000
namespace Go.Proofs.YtonaidfgokhmoaaGreatDoor
open Go renaming Calls->aa,World->ca,Value->ea,Ending->fa
open _root_.Option renaming none->ga
open _root_.Bool renaming true->ha,false->ia
open Go.Proofs.Tryz renaming prog->ja
open _root_.ByteArray renaming size_extract->jc,extract_extract->jd,data_extract->jf,ext->jh
open _root_.Nat renaming le_refl->ji,lt_of_lt_of_le->jj,ble->jk,le_trans->jl,add_zero->jm
open Go.RowKit.Below renaming refl->jo,heap_setCell->jp
open _root_.List renaming getD_eq_getElem?_getD->jq,getElem?_eq_getElem->jt,any_eq_false->ju
open Bool renaming eq_iff_iff->jv,and_eq_true->jx
open Go.ByteArray renaming toList_eq->jy
open Go.Ending renaming returned->jz
open Or renaming inr->j3,inl->j5
open Go Proofs.Tryz
variable {C:Array ea} {s:ByteArray} {e:fa} {l:List UInt8} {b cap g i k rb v:Nat} {p:Nat->Bool} {α:Type} {a w w':ca}
namespace Pu
def at_(s:ByteArray)i:=if h:i<s.size then s[i].toNat else 256
def nE(h:i<s.size):at_ s i=s[i].toNat:=by simp[at_,h]
def Py(h:s.size<=i):at_ s i=256:=by simp[at_];omega
def gH c:=jk 97 c&&jk c 122
def AU c:=jk 65 c&&jk c 90
def d_ c:=jk 48 c&&jk c 57
def a_ c:=gH c||AU c||d_ c
def Ie(s:ByteArray)(p:Nat->Bool):Nat->Nat->Nat
 |0,i=>i|f+1,i=>if p (at_ s i)=ha then Ie s p f (i+1)else i
def aK s p i:=Ie s p (s.size-i) i
def fJ(h:i<s.size)(f:p (at_ s i)=ha):aK s p i=aK s p (i+1):=by
 unfold aK;obtain⟨k,d⟩:∃k,s.size-i=k+1:=⟨s.size-i-1,by omega⟩;rw[d,Ie,if_pos f,show s.size-(i+1)=k by omega]
def oM(h:i<s.size)(f:p (at_ s i)=ia):aK s p i=i:=by
 rw[aK];obtain⟨k,d⟩:∃k,s.size-i=k+1:=⟨s.size-i-1,by omega⟩;rw[d,Ie,if_neg<|by simp[f]]
def jI(h:s.size<=i):aK s p i=i:=by
 rw[aK];rw[show s.size-i=0 by omega];rfl
def Pz s p f i:i<=Ie s p f i/\Ie s p f i<=i+f:=by
 induction f generalizing i with
 |zero=>simp[Ie]
 |succ f ih=>unfold Ie;split
             .grind
             .omega
def fc s p i:i<=aK s p i:=(Pz _ _ _ _).1
def gp p(h:i<=s.size):aK s p i<=s.size:=by
 have:=(Pz s p (s.size-i) i).2;rw[aK];omega
def words:List ByteArray:=[⟨#[116,121,112,101]⟩,⟨#[108,101,116]⟩,⟨#[114,101,99]⟩,⟨#[105,110]⟩,⟨#[102,117,110]⟩,⟨#[105,102]⟩,⟨#[116,104,101,110]⟩,⟨#[101,108,115,101]⟩,⟨#[109,97,116,99,104]⟩,⟨#[119,105,116,104]⟩,⟨#[101,110,100]⟩,⟨#[116,114,117,101]⟩,⟨#[102,97,108,115,101]⟩]
def kC k:=words.getD k ⟨#[]⟩
def fe(s:ByteArray):Bool:=words.any λw=>w.toList==s.toList
def Xt(d:k<13)(h:((kC k).toList==s.toList)=ha):fe s=ha:=by
 rw[fe];rw[List.any_eq_true];refine⟨kC k,?_,h⟩;rw[kC];rw[jq,jt<|by simpa[words]using d];exact List.getElem_mem _
def Mu(h:∀j,j<13->((kC j).toList==s.toList)=ia):fe s=ia:=by
 rw[fe];rw[ju];intro x f;obtain⟨i,d,rfl⟩:=List.getElem_of_mem f;have:=h i (by simpa[words]using d);rw[kC]at this;rw[jq,jt d]at this;simpa using this
structure Tok where
 kind:Nat
 text:ByteArray
 ah:Nat
 to:Nat
def Ct c:=[40,41,44,59,58,61,124,43,45,42,60,95].any λd=>d==c
def gL(s:ByteArray)(i:Nat)(k d:Nat):Tok:=⟨k,s.extract i d,i,d⟩
def dw s i:=
 if gH (at_ s i)=ha then
  if fe (s.extract i<|aK s a_ i)=ha then gL s i 5 (aK s a_ i)else gL s i 1 (aK s a_ i)
 else if AU (at_ s i)=ha then gL s i 2 (aK s a_ i)
 else if at_ s i=39/\gH (at_ s<|i+1)=ha then
  if fe (s.extract (i+1)<|aK s a_<|i+1)=ha then gL s i 6 (aK s a_<|i+1)else gL s i 3 (aK s a_<|i+1)
 else if d_ (at_ s i)=ha then
  if aK s d_ (i+1)-i<=9 then gL s i 4 (aK s d_<|i+1)else gL s i 6 (aK s d_<|i+1)
 else if at_ s i=45/\at_ s (i+1)=62 then gL s i 5 (i+2)
 else if Ct (at_ s i)=ha then gL s i 5 (i+1)else gL s i 6 (i+1)
end Pu
section
open Go.RowKit
def Xu c:Pu.gH c=decide (97<=(c:Int)/\(c:Int)<=122):=by
 rw[jv];simp[Pu.gH];omega
def abz c:Pu.AU c=decide (65<=(c:Int)/\(c:Int)<=90):=by
 rw[jv];simp[Pu.AU];omega
def Xv c:Pu.d_ c=decide (48<=(c:Int)/\(c:Int)<=57):=by
 rw[jv];simp[Pu.d_];omega
def ai{p:Prop}(h:p):Hid p:=h
def uh{p:Prop}(h:Hid p):p:=h
def qkr{p:Prop}(h:p:=by kernel_rfl):p:=h
def ae{p:Prop}(h:p:=by omega):p:=h
def ag{p:Prop}(h:p:=by simp):p:=h
def aD{p:Prop}(h:p:=by decide):p:=h
def bQ{p:Prop}(h:p:=by simp;omega):p:=h
def DH{p:Prop}(h:p:=by rw[en];omega):p:=h
def VM{p:Prop}(h:p:=by rw[maxLen];omega):p:=h
def uY{p:Prop}(h:p:=by simpa using h):p:=h
def qas{p:Prop}(h:p:=by assumption):p:=h
def qbr{p:Prop}(h:p:=by exact br _):p:=h
def Bw{p:Prop}(h:p:=by simp only[nn,cr]at hk;omega):p:=h
def p8{p:Prop}(h:p:=by rw[uh en];omega):p:=h
def qAc{p:Prop}(h:p:=by rw[Ig hc];decide):p:=h
def Lq{p:Prop}(h:p:=by simp[nn,cr];omega):p:=h
def iP{p:Prop}(h:p:=by cases q):p:=h
def BL{p:Prop}(h:p:=by simp[World.setCell]):p:=h
def Vg{p:Prop}(h:p:=by rw[o.size];exact br _):p:=h
def iF{p:Prop}(h:p:=by go_num):p:=h
def qAi{p:Prop}(h:p:=by intro x hx c;simp at hx;subst hx;intro q;cases q):p:=h
def qAj{p:Prop}(h:p:=by rw[gq];exact Nat.le_trans HE5.2<|aiy hd):p:=h
def LY{p:Prop}(h:p:=by simp at hi;omega):p:=h
def vB{p:Prop}(h:p:=by simp at h):p:=h
def qAm{p:Prop}(h:p:=by rw[show aiZ.toList=[40]from toList_mk [40]];decide):p:=h
def qAn{p:Prop}(h:p:=by intro u hu;simp at hu;subst hu;rfl):p:=h
def qAo{p:Prop}(h:p:=by rw[gq];exact Nat.le_trans HE6.2<|aiy hd):p:=h
def qAp{p:Prop}(h:p:=by simp[ByteArray.toList_eq]):p:=h
def qAq{p:Prop}(h:p:=by simp[Pu.fe,Pu.words,ByteArray.toList_eq]):p:=h
def qAr{p:Prop}(h:p:=by obtain⟨L,h1,_⟩:=h;exact h1.lt):p:=h
def qAs{p:Prop}(h:p:=by obtain⟨L,h1,h2⟩:=h;exact⟨L,h1.same hb,h2⟩):p:=h
def Oy{p:Prop}(h:p:=by simp[Un.eE]):p:=h
def qAu{p:Prop}(h:p:=by show w.heap.size<=b;omega):p:=h
def qAv{p:Prop}(h:p:=by have:=HLO x;omega):p:=h
def qAw{p:Prop}(h:p:=by rw[q]at r;cases r):p:=h
def Wi{p:Prop}(h:p:=by rw[aL];omega):p:=h
def qAy{p:Prop}(h:p:=by have:wr.heap.size<=b:=p.1;omega):p:=h
def qAz{p:Prop}(h:p:=by simp[World.setCell];exact Z1):p:=h
def qBb{p:Prop}(h:p:=by simp[go_sem]):p:=h
def BS{p:Prop}(h:p:=by grind):p:=h
def qBe{p:Prop}(h:p:=by rw[ByteArray.toList_eq];decide):p:=h
def qBf{p:Prop}(h:p:=by simp[q]):p:=h
def qBg{p:Prop}(h:p:=by simp[ba]at h):p:=h
def qBh{p:Prop}(h:p:=by rw[uh hC];exact bY):p:=h
def qBi{p:Prop}(h:p:=by simp[nn,cr]):p:=h
def qBj{p:Prop}(h:p:=by simp only[nI];exact .ret ⟨ρ,h.refl⟩):p:=h
def qBk{p:Prop}(h:p:=by rw[gu hk];rfl):p:=h
def WW{p:Prop}(h:p:=by simpa using hi):p:=h
def qBm{p:Prop}(h:p:=by simp[Array.getD_eq_getD_getElem?,hu]):p:=h
def qBn{p:Prop}(h:p:=by rw[Ig hc.2];decide):p:=h
def qBo{p:Prop}(h:p:=by rw[ByteArray.size_extract];omega):p:=h
def Pj{p:Prop}(h:p:=by cases h):p:=h
def Vh{p:Prop}(h:p:=by simp[e]):p:=h
def qBr{p:Prop}(h:p:=by simp[Pu.fD]):p:=h
def qBs{p:Prop}(h:p:=by subst e;simp at bY):p:=h
def qBt{p:Prop}(h:p:=by have:=hr4 k e;omega):p:=h
def qBu{p:Prop}(h:p:=by simp[World.cell?,h1]):p:=h
def qBv{p:Prop}(h:p:=by have:w0.heap.size<=i:=p;omega):p:=h
def qBw{p:Prop}(h:p:=by have:=H.cn;omega):p:=h
def qBx{p:Prop}(h:p:=by simpa[aA]using hn):p:=h
def qne{p:Prop}(h:p:=by intro b p;try dsimp only at p⊢;omega):p:=h
@[simp] theorem nq2(t : TypeId)(w : ca) : (Instr.makeMap t ga).run ja w = .ok (.map<|some w.heap.size) (w.alloc<|.map #[] 0) := rfl
def kK{a b : Nat}(h : a < b) : (a : Int) < b := ae
def nN{a b : Nat}(h : ¬ a < b) : decide ((a : Int) < b) = ia := by simp; omega
@[simp] theorem nq0(x : Bool)(w : ca) : (Op.unary .not<|.bool x).run ja w = .ok (.bool<|!x) w := rfl
@[simp] theorem nq1(f : Fn)(a b : Array ea)(w : ca) : (Instr.makeFunc f a b).run ja w = .ok (.func f a b) w := rfl
@[simp] abbrev Nv(n : Nat) : ea := .int .i64 (n : Int)
@[simp] abbrev Iv(n : Int) : ea := .int .i64 n
@[simp] abbrev Pv(b : Nat) : ea := .pointer<|some ⟨b, 0, ga⟩
@[simp] abbrev Mv(b : Nat) : ea := .map<|some b
abbrev Bq(a b : ca) := Below a.heap.size a b
@[simp] abbrev Sv(s : ByteArray) : ea := .string s
@[simp] abbrev Fv(t : TypeId)(v : ea) : ea := .iface t v
@[simp] abbrev Lv(a : Option Addr)(l c : Nat) : ea := .slice a l c
@[simp] abbrev Av(c : Array ea) : ea := .agg c
@[simp] abbrev Zv : ea := .nilIface
@[simp] abbrev Cv(c : Array ea)(t : TypeId)(f : Nat × Nat := (0, 0)) : Obj := .cells c t f
@[simp] abbrev Rv(v : ea) : fa := .returned v
def bw(o:Obj):Below w.heap.size w (w.alloc o):=(jo _ _).alloc (ji _) o
def br(n:Nat):n<=n:=ji n
abbrev BA:=ByteArray
def g_{a b:List α}:(a++b).length=a.length+b.length:=List.length_append
def eG{a:α}{b:List α}:(a::b).length=b.length+1:=List.length_cons
def nM:([]:List α).length=0:=List.length_nil
def jB{a b}(h:a=b):jz (.bool a)=.returned (.bool b):=congrArg (λx=>jz<|.bool x) h
def Xw{k}{a b}(h:a=b):jz (.int k a)=.returned (.int k b):=congrArg (λx=>jz<|.int k x) h
def step_end{j}{b}(d:j<s.size)(f:Hid (Pu.aK s p i=Pu.aK s p j))(m:p (Pu.at_ s j)=b):
 Hid (Pu.aK s p i=if b=ha then Pu.aK s p (j+1)else j):=by
 cases b
 .show _=_;rw[f.out,Pu.oM d m];rfl
 .show _=_;rw[f.out,Pu.fJ d m];rfl
end
namespace Pu
def Ih(h:i<s.size)(d:p (at_ s i)=ha):i+1<=aK s p i:=by
 rw[fJ h d];exact fc _ _ _
def ads(h:at_ s i<256):i<s.size:=by
 by_cases e:i<s.size
 .exact e
 .rw[Py ae]at h;omega
def Ts s i:(dw s i).ah=i:=by
 rw[dw];repeat(first|rfl|split)
def su s i(h:i<s.size):i<(dw s i).to/\(dw s i).to<=s.size:=by
 rw[dw];by_cases d:gH (at_ s i)=ha
 .have a:=Ih (p:=a_) h (by simp[a_,d]);have b:=gp (s:=s) a_ (i:=i) ae;rw[if_pos d];split<;>exact⟨a,b⟩
 rw[if_neg d];by_cases f:AU (at_ s i)=ha
 .have a:=Ih (p:=a_) h (by simp[a_,f]);have b:=gp (s:=s) a_ (i:=i) ae;rw[if_pos f];exact⟨a,b⟩
 rw[if_neg f];by_cases j:at_ s i=39/\gH (at_ s<|i+1)=ha
 .have c:i+1<s.size:=ads (by have:=j.2;simp[gH]at this;omega);have a:=fc s a_<|i+1;have b:=gp (s:=s) a_ (i:=i+1) ae;rw[if_pos j];split<;>exact⟨a,b⟩
 rw[if_neg j];by_cases m:d_ (at_ s i)=ha
 .have a:=fc s d_<|i+1;have b:=gp (s:=s) d_ (i:=i+1) ae;rw[if_pos m];split<;>exact⟨a,b⟩
 rw[if_neg m];by_cases n:at_ s i=45/\at_ s (i+1)=62
 .have c:i+1<s.size:=ads ae;rw[if_pos n];exact⟨by show i<i+2;omega,by show i+2<=_;omega⟩
 rw[if_neg n];split<;>exact⟨by show i<i+1;omega,by show i+1<=_;omega⟩
def cN c:=c==32||c==10
def fD(s:ByteArray):Tok:=⟨7,⟨#[]⟩,s.size,s.size⟩
def oI(s:ByteArray):Nat->Nat->List Tok
 |0,_=>[fD s]|f+1,i=>if i<s.size then(if cN (at_ s i)=ha then oI s f (i+1)else dw s i::oI s f (dw s i).to)else[fD s]
def Mw s:∀f g i,s.size<=i+f->s.size<=i+g->oI s f i=oI s g i:=by
 intro f
 induction f with
 |zero=>
  intro g i d j
  cases g with
  |zero=>rfl|succ g=>unfold oI;rw[if_neg ae]
 |succ f ih=>
  intro g i d j
  cases g with
  |zero=>grind|succ g=>
   unfold oI;by_cases h:i<s.size
   .rw[if_pos h,if_pos h];have ht:=su s i h;rw[ih g (i+1) ae ae,ih g (dw s i).to ae ae]
   .grind
def bP s i:=oI s (s.size-i) i
def Ii(h:s.size<=i):bP s i=[fD s]:=by
 rw[bP];rw[show s.size-i=0 by omega];rfl
def ri(h:i<s.size)(f:cN (at_ s i)=ha):bP s i=bP s (i+1):=by
 unfold bP;obtain⟨k,d⟩:∃k,s.size-i=k+1:=⟨s.size-i-1,ae⟩;rw[d,oI,if_pos h,if_pos f,show s.size-(i+1)=k by omega]
def Ij(h:i<s.size)(f:cN (at_ s i)=ia):bP s i=dw s i::bP s (dw s i).to:=by
 unfold bP;obtain⟨k,d⟩:∃k,s.size-i=k+1:=⟨s.size-i-1,ae⟩;have ht:=su s i h;rw[d,oI,if_pos h,if_neg<|by simp[f],Mw s k (s.size-(dw s i).to) _ ae ae]
end Pu
section
open Go.RowKit
structure Fl where
 kind:Nat
 ah:Nat
 to:Nat
def lA:Fl:=⟨0,0,0⟩
def eA(t:Pu.Tok):Fl:=if t.kind=6 then⟨2,t.ah,t.to⟩else⟨3,t.ah,t.to⟩
structure Ke rb(w w':ca):Prop where
 os:w'.os=w.os
 tape:w'.tape=w.tape
 output:w'.output=w.output
 size:w.heap.size<=w'.heap.size
 block:∀k,k<w.heap.size->k≠rb->w'.heap[k]? =w.heap[k]?
def Ke.refl rb w:Ke rb w w:=⟨rfl,rfl,rfl,ji _,λ_ _ _=>rfl⟩
def Ke.of(h:Below w.heap.size w w'):Ke rb w w':=⟨h.os,h.tape,h.output,h.size,λk hk _=>h.block k hk⟩
def Ke.trans{rb}{a b c}(h:Ke rb a b)(k:Ke rb b c):Ke rb a c:=
 ⟨k.os.trans h.os,k.tape.trans h.tape,k.output.trans h.output,jl h.size k.size,λi hi hn=>(k.block i (jj hi h.size) hn).trans<|h.block i hi hn⟩
def Ke.alloc{rb:Nat}{a w:ca}(h:Ke rb a w)o:Ke rb a (w.alloc o):=h.trans<|Ke.of<|(jo _ _).alloc (ji _) o
def Ke.set(h:Ke rb a w)j u:Ke rb a (w.setCell ⟨rb,j,ga⟩ u):=
 h.trans ⟨rfl,rfl,rfl,BL,λk _ hn=>jp _ _ _ _ hn⟩
def tk(T:List Pu.Tok)k:=T.getD k ⟨7,⟨#[]⟩,0,0⟩
def Hb{T:List Pu.Tok}(h:k<T.length):T[k]'h=tk T k:=by
 rw[tk];rw[jq,jt h];rfl
def aT(t:Pu.Tok)(s:ByteArray):Bool:=t.kind==5&&t.text.toList==s.toList
abbrev St:=Except Fl Nat
abbrev M(α:Type):=Nat->Except Fl (α×Nat)
def nx{α:Type}(σ:St)(m:M α):St:=match σ with
 |.error e=>.error e
 |.ok k=>match m k with
  |.error e=>.error e|.ok (_,k')=>.ok k'
def lG{α:Type}(T:List Pu.Tok):M α:=λk=>.error<|eA<|tk T k
def bt(T:List Pu.Tok)(s:ByteArray):M Unit:=λk=>if aT (tk T k) s=ha then .ok ((),k+1)else .error (eA<|tk T k)
def dk(T:List Pu.Tok)(n:Nat):M Pu.Tok:=λk=>if(tk T k).kind==n then .ok (tk T k,k+1)else .error (eA<|tk T k)
def aF(T:List Pu.Tok)k:=if k=0 then 0 else(tk T<|k-1).to
structure Bx(w:ca)b(C:Array ea):Prop where
 c:∀o,w.cell? ⟨b,o,ga⟩=C[o]?
 f:∀o,w.frozen? ⟨b,o,ga⟩=ia
 z:b<w.heap.size
def Bx.new(w:ca)C t:Bx (w.alloc<|.cells C t) w.heap.size C:=⟨λo=>ag,λo=>ag,ag⟩
def rF(w:ca)(C:Array ea)(t:TypeId):Below w.heap.size w (w.alloc<|.cells C t)/\Bx (w.alloc<|.cells C t) w.heap.size C:=⟨bw _,Bx.new w C t⟩
def nbh(w:ca)(C:Array ea)(t:TypeId):Below w.heap.size w (w.alloc<|.cells C t)/\Hid (Bx (w.alloc<|.cells C t) w.heap.size C):=⟨bw _,Bx.new w C t⟩
def Bx.same(h:Bx w b C)(j:w.heap.size<=w'.heap.size)(d:w'.heap[b]? =w.heap[b]?):Bx w' b C:=
 ⟨λo=>by rw[World.cell?_of_block (a:=⟨b,o,ga⟩) (w:=w) d];exact h.c o,λo=>by rw[World.frozen?_of_block (a:=⟨b,o,ga⟩) (w:=w) d];exact h.f o,jj h.z j⟩
def Bx.below(h:Bx w b C)(d:Below w.heap.size w w'):Bx w' b C:=h.same d.size<|d.block b h.z
def Bx.ke(h:Bx w b C)(d:Ke rb w w')(f:b≠rb):Bx w' b C:=h.same d.size<|d.block b h.z f
def Bx.alloc{w:ca}{b:Nat}{C:Array ea}(h:Bx w b C)o:Bx (w.alloc o) b C:=h.below<|(jo _ _).alloc (ji _) o
def Ke.oB(h:Ke rb a w)(hb:a.heap.size<=b)j u:Ke rb a (w.setCell ⟨b,j,ga⟩ u):=
 ⟨h.os,h.tape,h.output,by simpa[World.setCell]using h.size,λk hk hn=>by rw[jp _ _ _ _ (by show k≠b;omega)];exact h.block k hk hn⟩
def cN c:=c==32||c==10
def Mx(c:Nat):(((c:Int)==32)||((c:Int)==10))=cN c:=by
 rw[jv];simp[cN];omega
def iD(c:Nat)w:aa ja 112 #[.int .u8 (c:Int)] w λe w'=>e=.returned (.bool<|Pu.gH c)/\w'=w:=by
 go_wp2
 all_goals(go_ret;exact⟨jB (by rw[Xu];symm;simp;try omega),rfl⟩)
def sF(c:Nat)w:aa ja 114 #[.int .u8 (c:Int)] w λe w'=>e=.returned (.bool<|Pu.AU c)/\w'=w:=by
 go_wp2
 all_goals(go_ret;exact⟨jB (by rw[abz];symm;simp;try omega),rfl⟩)
def mn(c:Nat)w:aa ja 117 #[.int .u8 (c:Int)] w λe w'=>e=.returned (.bool<|Pu.d_ c)/\w'=w:=by
 go_wp2
 all_goals(go_ret;exact⟨jB (by rw[Xv];symm;simp;try omega),rfl⟩)
def My(c:Nat)w:aa ja 111 #[.int .u8 (c:Int)] w λe w'=>e=.returned (.bool<|cN c)/\w'=w:=by
 go_wp2
 all_goals(go_ret;exact⟨jB (by rw[<-Mx];try simp[*]),rfl⟩)
def Tt(c:Nat)w:aa ja 116 #[.int .u8 (c:Int)] w λe w'=>e=.returned (.bool<|Pu.a_ c)/\w'=w:=by
 have f:Pu.a_ c=(Pu.gH c||Pu.AU c||Pu.d_ c):=rfl;have d:(Pu.gH c=ha\/(Pu.gH c=ia/\Pu.AU c=ha))\/(Pu.gH c=ia/\Pu.AU c=ia):=by
  cases Pu.gH c<;>cases Pu.AU c<;>simp
 obtain  (h1|⟨h1,h2⟩)|⟨h1,h2⟩:=d;all_goals
  simp only[*,Bool.or_true,Bool.true_or,Bool.false_or]at f;have f:=ai f;go_in;go_wp2_with(first|(go_at_call 112;refine(iD _ _).mono ?_;rintro e w'⟨rfl,rfl⟩)|(go_at_call 114;refine(sF _ _).mono ?_;rintro e w'⟨rfl,rfl⟩)|(go_at_call 117;refine(mn _ _).mono ?_;rintro e w'⟨rfl,rfl⟩));go_ret;exact⟨jB f.symm,rfl⟩
def kV{fn}(f:fn=111/\p=cN\/fn=116/\p=Pu.a_\/fn=117/\p=Pu.d_)(s:ByteArray)(i:Nat)(w:ca)(hs:s.size<=1000)(r:i<=s.size):
 aa ja 110 #[.string s,.int .i64 (i:Int),.func (.func fn) #[] #[]] w λe w'=>e=.returned (.int .i64<|Pu.aK s p i)/\w'=w:=by
 have H:∀(c:Nat)(w:ca),aa ja fn #[.int .u8 (c:Int)] w λe w'=>e=.returned (.bool<|p c)/\w'=w:=by obtain⟨rfl,rfl⟩|⟨rfl,rfl⟩|⟨rfl,rfl⟩:=f;exact My;exact Tt;exact mn
 obtain⟨rfl,f⟩|⟨rfl,f⟩|⟨rfl,f⟩:=f;all_goals
  clear f;go_wp2
  go_loop[7] (λv=>∃j:Nat,j<=s.size/\v=.int .i64 (j:Int)/\Hid (Pu.aK s p i=Pu.aK s p j)) (λv=>s.size-(intOf v).toNat)
  case atStart=>exact⟨i,r,rfl,rfl⟩
  case round=>
   obtain⟨j,hj,rfl,m⟩:=hrel;by_cases d:j<s.size
   .have o:=Pu.nE d
    cases hp:p (Pu.at_ s j)with
    |true=>
     have n:=step_end d m hp;rw[o]at hp;go_wp2_with((first|go_at_call 111|go_at_call 116|go_at_call 117);refine(H _ _).mono ?_;rintro e w'⟨rfl,rfl⟩);go_round
     case rel=>exact⟨j+1,ae,iF,by simpa using n⟩
     case measure=>simp[intOf];omega
    |false=>
     have n:=step_end d m hp;rw[o]at hp;go_wp2_with((first|go_at_call 111|go_at_call 116|go_at_call 117);refine(H _ _).mono ?_;rintro e w'⟨rfl,rfl⟩);go_ret;exact⟨Xw<|congrArg Nat.cast<|n.out.symm,rfl⟩
   .go_wp2
    go_ret;exact⟨Xw<|by rw[m.out,Pu.jI ae],rfl⟩
def aq(t:Pu.Tok):ByteArray:=
 if t.kind=1 then⟨#[108,111,119,32,110,97,109,101]⟩else if t.kind=2 then⟨#[117,112,32,110,97,109,101]⟩else if t.kind=3 then⟨#[97,32,118,97,114,105,97,98,108,101]⟩
 else if t.kind=4 then⟨#[97,32,110,117,109,98,101,114]⟩else if t.kind=7 then⟨#[116,104,101,32,101,110,100]⟩else t.text
def dM(t:Pu.Tok):ea:=.agg #[.int .i64 (t.ah:Int),.int .i64 (t.to:Int),.string<|aq t,.string t.text]
def adt(a:Nat->ByteArray):∀{j:Nat},j<13->∀w:ca,(Instr.index 272 (.agg #[.string<|a 0,.string<|a 1,.string<|a 2,.string<|a 3,.string<|a 4,.string<|a 5,.string<|a 6,.string<|a 7,.string<|a 8,.string<|a 9,.string<|a 10,.string<|a 11,.string<|a 12])<|.int .i64 (j:Int)).run ja w=.ok (.string<|a j) w
 |0,_,w=>qkr|1,_,w=>qkr|2,_,w=>qkr|3,_,w=>qkr|4,_,w=>qkr|5,_,w=>qkr|6,_,w=>qkr|7,_,w=>qkr|8,_,w=>qkr|9,_,w=>qkr|10,_,w=>qkr|11,_,w=>qkr|12,_,w=>qkr|_+13,h,_=>absurd h ae
def Cu{a b:List UInt8}:(a==b)=(b==a):=BS
def PA{p:Prop}(h:p:=by
 subst hC;refine⟨λo=>?_,λo=>by simp;exact h.f o,by simpa[World.setCell]using h.z⟩;by_cases e:o=j
 .subst e;rw[World.cell?_setCell_same _ _ _<|(h.c o).trans<|Array.getElem?_eq_getElem hj];simp[hj]
 .rw[World.cell?_setCell_other _ _ _ _ (by intro q;injection q with _ q;exact e q.symm),h.c o,Array.getElem?_setIfInBounds_ne ae]):p:=h
def Bx.aW(h:Bx w b C)j v C'(hC:C'=C.setIfInBounds j v)(hj:j<C.size):Bx (w.setCell ⟨b,j,ga⟩ v) b C':=by
 exact PA
def signs:List ByteArray:=[⟨#[45,62]⟩,⟨#[40]⟩,⟨#[41]⟩,⟨#[44]⟩,⟨#[59]⟩,⟨#[58]⟩,⟨#[61]⟩,⟨#[124]⟩,⟨#[43]⟩,⟨#[45]⟩,⟨#[42]⟩,⟨#[60]⟩,⟨#[95]⟩]
def dd k:=signs.getD k ⟨#[]⟩
def Ik{u}(h:Below w.heap.size w u)b o(d:b<w.heap.size):u.cell? ⟨b,o,ga⟩=w.cell? ⟨b,o,ga⟩:=World.cell?_of_block (a:=⟨b,o,ga⟩)<|h.block b d
def Cw(s:ByteArray)i j(k:ByteArray)(hij:i<=j)(hj:j<=s.size)(hs:s.size<=1000):
 aa ja 115 #[.string s,.int .i64 (i:Int),.int .i64 (j:Int),.string k] w λe w'=>e=.returned (.agg #[.int .i64 (i:Int),.int .i64 (j:Int),.string k,.string<|s.extract i j])/\Below w.heap.size w w':=by
 have h1:(i:Int)<=(j:Int):=ae;have h2:(j:Int)<=(s.size:Int):=ae;go_wp2
 exact bodyPost_ret (v:=.agg #[.int .i64 (i:Int),.int .i64 (j:Int),.string k,.string<|s.extract i j]) (by simp[results,Tryz.results115,go_sem]) rfl ⟨rfl,(jo _ _).alloc (ji _) _⟩
def mq i j:aa ja 152 #[.int .i64 i,.int .i64 j] w λe w'=>e=.returned (.agg #[.int .i64 2,.int .i64 i,.int .i64 j])/\Below w.heap.size w w':=by
 go_wp2
 exact bodyPost_ret (v:=.agg #[.int .i64 2,.int .i64 i,.int .i64 j]) (by simp[results,Tryz.results152,go_sem]) rfl ⟨rfl,(jo _ _).alloc (ji _) _⟩
structure Laid(w:ca):Prop where
 words:∀j,j<13->w.cell? ⟨1,j,ga⟩=some (.string<|Pu.kC j)
 signs:∀j,j<13->w.cell? ⟨0,j,ga⟩=some (.string<|dd j)
 hz:2<=w.heap.size
def Laid.af{w}(h:Laid w)(d:Below w.heap.size w w'):Laid w':=
 ⟨λj hj=>(Ik d 1 j (by have:=h.hz;omega)).trans<|h.words j hj,λj hj=>(Ik d 0 j (by have:=h.hz;omega)).trans<|h.signs j hj,jl h.hz d.size⟩
def PB{p:Prop}(h:p:=by
 go_round
 case rel=>exact⟨j+1,ae,iF,hn2⟩
 case measure=>simp[intOf];omega):p:=h
def sG(h:Laid w)(s:ByteArray):aa ja 151 #[.string s] w λe w'=>e=.returned (.bool<|Pu.fe s)/\w'=w:=by
 have g0:=h.words 0 ae;have g1:=h.words 1 ae;have g2:=h.words 2 ae;have g3:=h.words 3 ae;have g4:=h.words 4 ae;have g5:=h.words 5 ae;have g6:=h.words 6 ae;have g7:=h.words 7 ae;have g8:=h.words 8 ae;have g9:=h.words 9 ae;have g10:=h.words 10 ae;have g11:=h.words 11 ae;have g12:=h.words 12 ae;go_wp2
 go_loop[6] (λv=>∃j:Nat,j<=13/\v=.int .i64 (j:Int)/\Hid (∀i,i<j->(s.toList==(Pu.kC i).toList)=ia)) (λv=>13-(intOf v).toNat)
 case atStart=>exact⟨0,ae,rfl,λi h=>ae⟩
 case round=>
  obtain⟨j,hj,rfl,d⟩:=hrel;by_cases f:j<13
  .have hix:=adt Pu.kC f;have hd:(j:Int)<13:=ae
   cases he:(s.toList==(Pu.kC j).toList)with
   |true=>
    have m:Hid (Pu.fe s=ha):=Pu.Xt f (by rw[Cu];exact he)
    go_wp2
    go_ret;exact⟨jB m.symm,rfl⟩
   |false=>
    have hn2:Hid (∀i,i<j+1->(s.toList==(Pu.kC i).toList)=ia):=λi hi=>by
     by_cases e:i=j
     .subst e;exact he
     .exact d i ae
    go_wp2
    exact PB
  .have m:Hid (Pu.fe s=ia):=Pu.Mu (λi hi=>by rw[Cu];exact d i ae)
   go_wp2
   go_ret;exact⟨jB m.symm,rfl⟩
def nT(s:ByteArray):Nat->Nat
 |0=>0|k+1=>10*nT s k+(Pu.at_ s k+208)%256
def rj(s:ByteArray):Nat:=nT s<|min s.size 9
def abA(s:ByteArray):∀k,k<=9->nT s k<=255*111111111:=by
 have:∀k,9*nT s k+255<=255*10^k:=by
  intro k
  induction k with
  |zero=>simp[nT]|succ k ih=>simp only[nT,Nat.pow_succ];omega
 intro k d;have h:=this k;have h2:10^k<=10^9:=Nat.pow_le_pow_right ae d;omega
inductive Nd where
 |mk(kind:Nat)(s:ByteArray)(n:Nat)(L:List Nd)(ah to at_:Nat):Nd
theorem toList_mk l:(ByteArray.mk l.toArray).toList=l:=by simp_all
abbrev dJ:ByteArray:=⟨#[116,114,117,101]⟩
abbrev cx:ByteArray:=⟨#[102,97,108,115,101]⟩
abbrev pR:ByteArray:=⟨#[95]⟩
abbrev bT:ByteArray:=⟨#[40]⟩
def aQ t:=
 if t.kind=1 then 1 else if t.kind=2 then 2 else if t.kind=3 then 16 else if t.kind=4 then 3
 else if aT t dJ=ha\/aT t cx=ha then 4 else if aT t pR=ha then 15 else 0
def cO(t:Pu.Tok):Nat:=if t.kind=4 then rj t.text else 0
def Eh t l:aT t ⟨l.toArray⟩=(t.kind==5&&t.text.toList==l):=by simp_all[aT]
def Il t:aT t dJ=(t.kind==5&&t.text.toList==[116,114,117,101]):=Eh t _
def Cy t:aT t cx=(t.kind==5&&t.text.toList==[102,97,108,115,101]):=Eh t _
def PC t:aT t pR=(t.kind==5&&t.text.toList==[95]):=Eh t _
def aH t sort:=aT t bT||
 (if sort=1 then aQ t==16||aQ t==2 else if sort=2 then aQ t==15||aQ t==1||aQ t==2||aQ t==3||aQ t==4 else aQ t==1||aQ t==2||aQ t==3||aQ t==4)
abbrev cX:ByteArray:=⟨#[]⟩
abbrev bH:ByteArray:=⟨#[41]⟩
abbrev db:ByteArray:=⟨#[44]⟩
abbrev mY:ByteArray:=⟨#[58]⟩
abbrev cH:ByteArray:=⟨#[45,62]⟩
abbrev cD:ByteArray:=⟨#[42]⟩
abbrev cY:ByteArray:=⟨#[43]⟩
abbrev bM:ByteArray:=⟨#[45]⟩
abbrev b8:ByteArray:=⟨#[60]⟩
abbrev wT:ByteArray:=⟨#[102,117,110]⟩
abbrev jZ:ByteArray:=⟨#[108,101,116]⟩
abbrev pS:ByteArray:=⟨#[114,101,99]⟩
abbrev kIn:ByteArray:=⟨#[105,110]⟩
abbrev W7:ByteArray:=⟨#[105,102]⟩
abbrev yV:ByteArray:=⟨#[116,104,101,110]⟩
abbrev yW:ByteArray:=⟨#[101,108,115,101]⟩
abbrev gW:ByteArray:=⟨#[109,97,116,99,104]⟩
abbrev sH:ByteArray:=⟨#[119,105,116,104]⟩
abbrev wU:ByteArray:=⟨#[101,110,100]⟩
abbrev oN:ByteArray:=⟨#[124]⟩
abbrev dK:ByteArray:=⟨#[59]⟩
abbrev tN:ByteArray:=⟨#[61]⟩
abbrev jY:ByteArray:=⟨#[116,121,112,101]⟩
def bD(t:Pu.Tok):Nd:=.mk (aQ t) t.text (cO t) [] t.ah t.to t.ah
def Nd.add:Nd->Nd->Nat->Nd
 |.mk k s n L f _ a,y,to=>.mk k s n (L++[y]) f to a
def aI{α β:Type}(m:M α)(f:α->M β):M β:=λk=>match m k with
 |.error e=>.error e|.ok (a,k')=>f a k'
section
variable (T:List Pu.Tok)
def oC(mk:Nat->Nd):M Nd:=aI (bt T bH) λ_ k=>.ok (mk k,k)
def gN part F_ sort ah a:=λk=>
 if aT (tk T k) db=ha then aI part (λb=>oC T λk'=>.mk 6 cX 0 [a,b] ah (aF T k') ah) (k+1)
 else if sort=3/\aT (tk T k) mY=ha then aI F_ (λb=>oC T λk'=>.mk 14 cX 0 [a,b] ah (aF T k') ah) (k+1)
 else oC T (λ_=>a) k
def dD part F_ sort ah:=λk=>
 if sort≠1/\aT (tk T k) bH=ha then .ok (.mk 5 cX 0 [] ah (aF T<|k+1) ah,k+1)
 else aI part (gN T part F_ sort ah) k
def ap part F_ sort:=λk=>
 if aH (tk T k) sort=ha then
  (if aT (tk T k) bT=ha then dD T part F_ sort (tk T k).ah (k+1)else .ok (bD<|tk T k,k+1))
 else .error (eA<|tk T k)
def da(d:M Nd)(j:Nat):Nat->Nd->M Nd
 |0,x=>λk=>.ok (x,k)|f+1,x=>λk=>if aH (tk T k) j=ha then aI d (λy k'=>da d j f (x.add y<|aF T k') k') k else .ok (x,k)
def fN small sort:=λk=>if(tk T k).kind==2 then aI small (da T small sort T.length) k else small k
def lF F_ ah(a:Nd):=λk=>
 if aT (tk T k) cH=ha then aI F_ (λb k'=>.ok (.mk 17 cX 0 [a,b] ah (aF T k') ah,k')) (k+1)else .ok (a,k)
def c_:Nat->M Nd
 |0=>lG T|n+1=>λk=>aI (fN T (ap T (c_ n) (c_ n) 1) 1) (lF T (c_ n) (tk T k).ah) k
def dG:Nat->M Nd
 |0=>lG T|n+1=>fN T (ap T (dG n) (lG T) 2) 2
def gi(d:M Nd)(j:Nat):Nat->Nd->M Nd
 |0,x=>λk=>.ok (x,k)|f+1,x=>λk=>if aH (tk T k) 3=ha then aI d (λy k'=>gi d j f (.mk 8 cX 0 [x,y] j (aF T k') j) k') k else .ok (x,k)
def cd small:=λk=>aI small (gi T small (tk T k).ah T.length) k
def gO(d:M Nd)(j:Nat):Nat->Nd->M Nd
 |0,x=>λk=>.ok (x,k)|f+1,x=>λk=>if aT (tk T k) cD=ha then aI d (λy k'=>gO d j f (.mk 7 cD 0 [x,y] j (aF T k') j) k') (k+1)else .ok (x,k)
def dN call:=λk=>aI call (gO T call (tk T k).ah T.length) k
def nS(d:M Nd)(j:Nat):Nat->Nd->M Nd
 |0,x=>λk=>.ok (x,k)|f+1,x=>λk=>if aT (tk T k) cY=ha\/aT (tk T k) bM=ha then aI d (λy k'=>nS d j f (.mk 7 (tk T k).text 0 [x,y] j (aF T k') j) k') (k+1)else .ok (x,k)
def q_ prod:=λk=>aI prod (nS T prod (tk T k).ah T.length) k
def rf(d:M Nd):M Nd:=λk=>
 aI (bt T wT) (λ_=>aI (dk T 1) λt=>aI (bt T cH) λ_=>aI d λe k'=>.ok (.mk 9 t.text 0 [e] (tk T k).ah (aF T k') t.ah,k')) k
def cG(d:M Nd):M (Nat×Pu.Tok×Nd):=
 aI (bt T jZ) λ_ k=>
  if aT (tk T k) pS=ha then aI (dk T 1) (λt=>aI (bt T tN) λ_=>aI (rf T d) λe k'=>.ok ((11,t,e),k')) (k+1)
  else aI (dk T 1) (λt=>aI (bt T tN) λ_=>aI d λe k'=>.ok ((10,t,e),k')) k
def kX(d:M Nd):M Nd:=λk=>
 aI (bt T W7) (λ_=>aI d λa=>aI (bt T yV) λ_=>aI d λb=>aI (bt T yW) λ_=>aI d λc k'=>.ok (.mk 12 cX 0 [a,b,c] (tk T k).ah (aF T k') (tk T k).ah,k')) k
def kY(j d:M Nd):Nat->List Nd->M (List Nd)
 |0,l=>λk=>.ok (l,k)|f+1,l=>aI j λp=>aI (bt T cH) λ_=>aI d λe k=>
   if aT (tk T k) oN=ha then kY j d f (l++[p,e]) (k+1)else .ok (l++[p,e],k)
def oO(f d:M Nd):M Nd:=λk=>
 aI (bt T gW) (λ_=>aI d λx=>aI (bt T sH) λ_=>aI (kY T f d T.length [x]) λl=>aI (bt T wU) λ_ k'=>.ok (.mk 13 cX 0 l (tk T k).ah (aF T k') (tk T k).ah,k')) k
def nK(d:M Nd):M Nd:=λk=>
 aI (cG T d) (λb=>aI (bt T kIn) λ_=>aI d λf k'=>.ok (.mk b.1 b.2.1.text 0 [b.2.2,f] (tk T k).ah (aF T k') b.2.1.ah,k')) k
def nF(d:M Nd):M Nd:=λk=>
 aI d (λx k1=>if aT (tk T k1) b8=ha then aI d (λy k'=>.ok (.mk 7 b8 0 [x,y] (tk T k).ah (aF T k') (tk T k).ah,k')) (k1+1)else .ok (x,k1)) k
def bi:Nat->M Nd
 |0=>lG T|n+1=>λk=>
  if aT (tk T k) wT=ha then rf T (bi n) k
  else if aT (tk T k) W7=ha then kX T (bi n) k
  else if aT (tk T k) gW=ha then oO T (dG T n) (bi n) k
  else if aT (tk T k) jZ=ha then nK T (bi n) k
  else nF T (q_ T<|dN T<|cd T<|ap T (bi n) (c_ T n) 3) k
end
structure NV where
 k:Int
 s:ByteArray
 n:Int
 la:Option Addr
 ll:Nat
 lc:Nat
 f:Int
 t:Int
 a:Int
section
variable {T:List Pu.Tok} {σ:St}
def oP{t}(h:aT t s=ha):t.kind=5:=by simp[aT]at h;exact h.1
end
def Bx.at(w:ca)C t b(d:b=w.heap.size):Bx (w.alloc<|.cells C t) b C:=by subst d;exact Bx.new w C t
def Bx.qO(h:Bx w b C)j v C'(hC:C'=C.setIfInBounds j v)(hj:j<C.size):Bx (w.setCell ⟨b,j,ga⟩ v) b C':=by
 exact PA
def Bx.nQ{b2}(h:Bx w b C)(d:b≠b2)j v:Bx (w.setCell ⟨b2,j,ga⟩ v) b C:=
 h.same BL (jp _ _ _ _ d)
def Bx.SI(h:Bx w b C)(x:C.size=7)v0 v1 v2 v3 v4 v5 v6:Bx (((((((w.setCell ⟨b,0,ga⟩ v0).setCell ⟨b,1,ga⟩ v1).setCell ⟨b,2,ga⟩ v2).setCell ⟨b,3,ga⟩ v3).setCell ⟨b,4,ga⟩ v4).setCell ⟨b,5,ga⟩ v5).setCell ⟨b,6,ga⟩ v6) b #[v0,v1,v2,v3,v4,v5,v6]:=by
 obtain⟨u,t,r,o,n,m,j,rfl⟩:∃u t r o n m j,C=#[u,t,r,o,n,m,j]:=by
  obtain⟨l⟩:=C
  match l,x with
  |[a,b,c,d,e,f,g],_=>grind
 exact((((((h.qO 0 v0 #[v0,t,r,o,n,m,j] rfl ag).qO 1 v1 #[v0,v1,r,o,n,m,j] rfl ag).qO 2 v2 #[v0,v1,v2,o,n,m,j] rfl ag).qO 3 v3 #[v0,v1,v2,v3,n,m,j] rfl ag).qO 4 v4 #[v0,v1,v2,v3,v4,m,j] rfl ag).qO 5 v5 #[v0,v1,v2,v3,v4,v5,j] rfl ag).qO 6 v6 #[v0,v1,v2,v3,v4,v5,v6] rfl ag
def Bx.adu{b'}(h:Bx w b' C)(d:b'≠b)v0 v1 v2 v3 v4 v5 v6:Bx (((((((w.setCell ⟨b,0,ga⟩ v0).setCell ⟨b,1,ga⟩ v1).setCell ⟨b,2,ga⟩ v2).setCell ⟨b,3,ga⟩ v3).setCell ⟨b,4,ga⟩ v4).setCell ⟨b,5,ga⟩ v5).setCell ⟨b,6,ga⟩ v6) b' C:=
 ((((((h.nQ d 0 v0).nQ d 1 v1).nQ d 2 v2).nQ d 3 v3).nQ d 4 v4).nQ d 5 v5).nQ d 6 v6
def Ei{α:Type}(m:M α):=∀k a k',m k=.ok (a,k')->k<=k'
def ftV(k i j:Int):ea:=.agg #[.int .i64 k,.int .i64 i,.int .i64 j]
abbrev yQ:Array ea:=#[.int .i64 0,.int .i64 0,.string ⟨#[]⟩,.string ⟨#[]⟩]
def Bx.mS{w}(h:Bx w b C)(o:C.size=4)v0 v1 v2 v3:Bx ((((w.setCell ⟨b,0,ga⟩ v0).setCell ⟨b,1,ga⟩ v1).setCell ⟨b,2,ga⟩ v2).setCell ⟨b,3,ga⟩ v3) b #[v0,v1,v2,v3]:=by
 obtain⟨n,m,j,f,rfl⟩:∃n m j f,C=#[n,m,j,f]:=by
  obtain⟨l⟩:=C
  match l,o with
  |[a,b,c,d],_=>grind
 exact(((h.aW 0 v0 #[v0,m,j,f] rfl ag).aW 1 v1 #[v0,v1,j,f] rfl ag).aW 2 v2 #[v0,v1,v2,f] rfl ag).aW 3 v3 #[v0,v1,v2,v3] rfl ag
def _root_.Go.RowKit.Below.mS{B}{w}(h:Below B a w)(d:B<=b)v0 v1 v2 v3:Below B a ((((w.setCell ⟨b,0,ga⟩ v0).setCell ⟨b,1,ga⟩ v1).setCell ⟨b,2,ga⟩ v2).setCell ⟨b,3,ga⟩ v3):=
 (((h.setCell d v0).setCell d v1).setCell d v2).setCell d v3
def Im(h:Laid w)(s:ByteArray)i(hi:i<s.size)(o:s.size<=1000):
 aa ja 113 #[.string s,.int .i64 (i:Int)] w λe w'=>e=.returned (dM<|if Pu.fe (s.extract i<|Pu.aK s Pu.a_ i)=ha then Pu.gL s i 5 (Pu.aK s Pu.a_ i)else Pu.gL s i 1 (Pu.aK s Pu.a_ i))/\Below w.heap.size w w':=by
 have j:=Pu.gp (s:=s) Pu.a_ (i:=i) ae;have m:=Pu.fc s Pu.a_ i;have H:=h.af<|(jo w.heap.size w).alloc (ji _)<|.cells yQ 119;have u:=Bx.new w yQ 119;have x:=(jo w.heap.size w).alloc (ji _)<|.cells yQ 119;have h1:(i:Int)<=((Pu.aK s Pu.a_ i:Nat):Int):=ae;have h2:((Pu.aK s Pu.a_ i:Nat):Int)<=(s.size:Int):=ae
 cases hw:Pu.fe (s.extract i<|Pu.aK s Pu.a_ i)with
 |true=>
  go_in;go_wp2_with(first|(go_at_call 110;refine(kV (Or.inr<|Or.inl ⟨rfl,rfl⟩) s i _ o ae).mono ?_;rintro e w'⟨rfl,rfl⟩)|(go_at_call 151;refine(sG H _).mono ?_;rintro e w'⟨rfl,rfl⟩)|(go_at_call 115;refine(Cw s i _ _ m j o).mono ?_;rintro e y⟨rfl,d⟩;have n:=ai<|u.below d;have f:=ai<|x.trans<|d.mono ag;have⟨z,A,B⟩:=uh n;clear d));have r:=n.mS rfl (.int .i64 (i:Int)) (.int .i64 ((Pu.aK s Pu.a_ i:Nat):Int)) (.string<|s.extract i<|Pu.aK s Pu.a_ i) (.string<|s.extract i<|Pu.aK s Pu.a_ i);obtain⟨t,fF,zF⟩:=r;refine bodyPost_ret (v:=dM<|Pu.gL s i 5<|Pu.aK s Pu.a_ i) (by simp[results,Tryz.results113,go_sem,t,dM,Pu.gL,aq]) rfl ⟨ag,f.mS (Nat.le_refl _) _ _ _ _⟩
 |false=>
  go_in;go_wp2_with(first|(go_at_call 110;refine(kV (Or.inr<|Or.inl ⟨rfl,rfl⟩) s i _ o ae).mono ?_;rintro e w'⟨rfl,rfl⟩)|(go_at_call 151;refine(sG H _).mono ?_;rintro e w'⟨rfl,rfl⟩)|(go_at_call 115;refine(Cw s i _ _ m j o).mono ?_;rintro e y⟨rfl,d⟩;have n:=ai<|u.below d;have f:=ai<|x.trans<|d.mono ag;have⟨z,A,B⟩:=uh n;clear d));have r:=n.mS rfl (.int .i64 (i:Int)) (.int .i64 ((Pu.aK s Pu.a_ i:Nat):Int)) (.string ⟨#[108,111,119,32,110,97,109,101]⟩) (.string<|s.extract i<|Pu.aK s Pu.a_ i);obtain⟨t,fF,zF⟩:=r;refine bodyPost_ret (v:=dM<|Pu.gL s i 1<|Pu.aK s Pu.a_ i) (by simp[results,Tryz.results113,go_sem,t,dM,Pu.gL,aq]) rfl ⟨ag,f.mS (Nat.le_refl _) _ _ _ _⟩
def eQ t w(e:fa)w':=
 Below w.heap.size w w'/\((t.kind≠6/\e=.returned (dM t))\/(t.kind=6/\e=.panicked [{v:=.iface 114<|.agg #[.int .i64 2,.int .i64 (t.ah:Int),.int .i64 (t.to:Int)],recovered:=ia}]))
def Xx(s:ByteArray)i(hi:i<s.size)(n:s.size<=1000):
 aa ja 118 #[.string s,.int .i64 (i:Int)] w (eQ (if Pu.aK s Pu.d_ i-i<=9 then Pu.gL s i 4 (Pu.aK s Pu.d_ i)else Pu.gL s i 6 (Pu.aK s Pu.d_ i)) w):=by
 have j:=Pu.gp (s:=s) Pu.d_ (i:=i) ae;have m:=Pu.fc s Pu.d_ i;have u:=Bx.new w yQ 119;have o:=(jo w.heap.size w).alloc (ji _)<|.cells yQ 119;by_cases r:Pu.aK s Pu.d_ i-i<=9
 .have x:¬(9:Int)<((Pu.aK s Pu.d_ i:Nat):Int)-(i:Int):=ae;rw[if_pos r];go_in;go_wp2_with(first|(go_at_call 110;refine(kV (Or.inr<|Or.inr ⟨rfl,rfl⟩) s i _ n ae).mono ?_;rintro e w'⟨rfl,rfl⟩)|(go_at_call 115;refine(Cw s i _ _ m j n).mono ?_;rintro e y⟨rfl,f⟩;have t:=ai<|u.below f;have d:=ai<|o.trans<|f.mono ag;have⟨c1,f1,y1⟩:=uh t;clear f));have z:=t.mS rfl (.int .i64 (i:Int)) (.int .i64 ((Pu.aK s Pu.d_ i:Nat):Int)) (.string ⟨#[97,32,110,117,109,98,101,114]⟩) (.string<|s.extract i<|Pu.aK s Pu.d_ i);obtain⟨A,fF,zF⟩:=z;exact bodyPost_ret (v:=dM<|Pu.gL s i 4<|Pu.aK s Pu.d_ i) (by simp[results,Tryz.results118,go_sem,A,dM,Pu.gL,aq]) rfl ⟨d.mS (Nat.le_refl _) _ _ _ _,Or.inl ⟨by simp[Pu.gL],rfl⟩⟩
 .have x:(9:Int)<((Pu.aK s Pu.d_ i:Nat):Int)-(i:Int):=ae;rw[if_neg r];go_in;go_wp2_with(first|(go_at_call 110;refine(kV (Or.inr<|Or.inr ⟨rfl,rfl⟩) s i _ n ae).mono ?_;rintro e w'⟨rfl,rfl⟩)|(go_at_call 152;refine(mq _ _).mono ?_;rintro e y⟨rfl,f⟩;have d:=ai<|o.trans<|f.mono ag;clear f));exact⟨rfl,d,Or.inr ⟨rfl,rfl⟩⟩
def kD(s:ByteArray)i:=
 if Pu.gH (Pu.at_ s<|i+1)=ha then(if Pu.fe (s.extract (i+1)<|Pu.aK s Pu.a_<|i+1)=ha then Pu.gL s i 6 (Pu.aK s Pu.a_<|i+1)else Pu.gL s i 3 (Pu.aK s Pu.a_<|i+1))else Pu.gL s i 6 (i+1)
def agU(h:Laid w)(s:ByteArray)i(hi:i<s.size)(t:s.size<=1000):
 aa ja 119 #[.string s,.int .i64 (i:Int)] w (eQ (kD s i) w):=by
 have x:=Bx.new w yQ 119;have n:=(jo w.heap.size w).alloc (ji _)<|.cells yQ 119;have H:=h.af n;by_cases y:i+1<s.size
 .have z:(((i:Int)+1)==(s.size:Int))=ia:=bQ;have j:=Pu.nE y
  cases hlo:Pu.gH s[i+1].toNat with
  |false=>
   have m:kD s i=Pu.gL s i 6 (i+1):=by rw[kD];rw[j,hlo];simp
   rw[m];go_in;go_wp2_with(first|(go_at_call 112;refine(iD _ _).mono ?_;rintro e w'⟨rfl,rfl⟩)|(go_at_call 152;refine(mq _ _).mono ?_;rintro e o⟨rfl,f⟩;have d:=ai<|n.trans<|f.mono ag;clear f));exact⟨rfl,d,Or.inr ⟨rfl,rfl⟩⟩
  |true=>
   have r:=Pu.gp (s:=s) Pu.a_ (i:=i+1) ae;have hge:=Pu.fc s Pu.a_<|i+1;have h1:(i:Int)+1<=((Pu.aK s Pu.a_ (i+1):Nat):Int):=ae;have h2:((Pu.aK s Pu.a_ (i+1):Nat):Int)<=(s.size:Int):=ae
   cases hw:Pu.fe (s.extract (i+1)<|Pu.aK s Pu.a_<|i+1)with
   |true=>
    have m:kD s i=Pu.gL s i 6 (Pu.aK s Pu.a_<|i+1):=by rw[kD];rw[j,hlo,hw];simp
    rw[m];go_in;go_wp2_with(first|(go_at_call 112;refine(iD _ _).mono ?_;rintro e w'⟨rfl,rfl⟩)|(go_at_call 110;refine(kV (Or.inr<|Or.inl ⟨rfl,rfl⟩) s (i+1) _ t ae).mono ?_;rintro e w'⟨rfl,rfl⟩)|(go_at_call 151;refine(sG H _).mono ?_;rintro e w'⟨rfl,rfl⟩)|(go_at_call 152;refine(mq _ _).mono ?_;rintro e o⟨rfl,f⟩;have d:=ai<|n.trans<|f.mono ag;clear f));exact⟨rfl,d,Or.inr ⟨rfl,rfl⟩⟩
   |false=>
    have m:kD s i=Pu.gL s i 3 (Pu.aK s Pu.a_<|i+1):=by rw[kD];rw[j,hlo,hw];simp
    rw[m];go_in;go_wp2_with(first|(go_at_call 112;refine(iD _ _).mono ?_;rintro e w'⟨rfl,rfl⟩)|(go_at_call 110;refine(kV (Or.inr<|Or.inl ⟨rfl,rfl⟩) s (i+1) _ t ae).mono ?_;rintro e w'⟨rfl,rfl⟩)|(go_at_call 151;refine(sG H _).mono ?_;rintro e w'⟨rfl,rfl⟩)|(go_at_call 115;refine(Cw s i _ _ ae r t).mono ?_;rintro e o⟨rfl,f⟩;have u:=ai<|x.below f;have d:=ai<|n.trans<|f.mono ag;have⟨c1,f1,y1⟩:=uh u;clear f));have A:=u.mS rfl (.int .i64 (i:Int)) (.int .i64 ((Pu.aK s Pu.a_ (i+1):Nat):Int)) (.string ⟨#[97,32,118,97,114,105,97,98,108,101]⟩) (.string<|s.extract i<|Pu.aK s Pu.a_<|i+1);obtain⟨B,fF,zF⟩:=A;exact bodyPost_ret (v:=dM<|Pu.gL s i 3<|Pu.aK s Pu.a_<|i+1) (by simp[results,Tryz.results119,go_sem,B,dM,Pu.gL,aq]) rfl ⟨d.mS (Nat.le_refl _) _ _ _ _,Or.inl ⟨by simp[Pu.gL],rfl⟩⟩
 .have z:(((i:Int)+1)==(s.size:Int))=ha:=bQ;have m:kD s i=Pu.gL s i 6 (i+1):=by
   rw[kD];rw[Pu.Py ae];rfl
  rw[m];go_in;go_wp2_with(first|(go_at_call 152;refine(mq _ _).mono ?_;rintro e o⟨rfl,f⟩;have d:=ai<|n.trans<|f.mono ag;clear f));exact⟨rfl,d,Or.inr ⟨rfl,rfl⟩⟩
def preB(s p:ByteArray):Bool:=decide (p.size<=s.size)&&((s.extract 0 p.size).toList==p.toList)
def lJ(s:ByteArray)i k:=
 if k=0 then(Pu.at_ s i==45&&Pu.at_ s (i+1)==62)else Pu.at_ s i==((dd k)[0]!).toNat
def lH(s:ByteArray)i:=
 if Pu.at_ s i=45/\Pu.at_ s (i+1)=62 then Pu.gL s i 5 (i+2)
 else if Pu.Ct (Pu.at_ s i)=ha then Pu.gL s i 5 (i+1)else Pu.gL s i 6 (i+1)
def vW{a b:ByteArray}(h:(a.toList==b.toList)=ha):a=b:=by
 rw[beq_iff_eq,jy,jy]at h;exact jh<|Array.toList_inj.1 h
def aiz(h:i<s.size):s.extract i (i+1)=⟨#[s[i]]⟩:=by
 apply jh;apply Array.ext
 .simp;omega
 .intro j h1 d;have:j=0:=by simp at d;omega
  subst this;simp[jf];rfl
def aiA(h:i+1<s.size):s.extract i (i+2)=⟨#[s[i],s[i+1]]⟩:=by
 apply jh;apply Array.ext
 .simp;omega
 .intro j h1 d;have:j=0\/j=1:=by simp at d;omega
  obtain rfl|rfl:=this
  .simp[jf];rfl
  .simp[jf];rfl
def PH{p:Prop}(h:p:=by
 intro h;have:=congrArg (λb:ByteArray=>b.data)<|vW h;simp at this
 simp[this]):p:=h
def wV(d:i<s.size)c:preB (s.extract i s.size) ⟨#[c]⟩=(Pu.at_ s i==c.toNat):=by
 have f:(⟨#[c]⟩:ByteArray).size=1:=rfl;rw[preB];rw[f,jd,show min (i+1) s.size=i+1 by omega,jm,aiz d,Pu.nE d,jc];rw[decide_eq_true ae,Bool.true_and,jv];constructor
 .exact PH
 .intro h;rw[beq_iff_eq]at h;rw[UInt8.toNat_inj.1 h];simp
def aiB(m:i<s.size)c d:preB (s.extract i s.size) ⟨#[c,d]⟩=(Pu.at_ s i==c.toNat&&Pu.at_ s (i+1)==d.toNat):=by
 have j:(⟨#[c,d]⟩:ByteArray).size=2:=rfl;rw[preB];rw[j];by_cases f:i+1<s.size
 .rw[jd,show min (i+2) s.size=i+2 by omega,jm,aiA f,Pu.nE m,Pu.nE f,jc];rw[decide_eq_true ae,Bool.true_and,jv];constructor
  .exact PH
  .intro h;rw[jx,beq_iff_eq,beq_iff_eq]at h;rw[UInt8.toNat_inj.1 h.1,UInt8.toNat_inj.1 h.2];simp
 .rw[jc,decide_eq_false ae,Pu.Py (s:=s) (i:=i+1) ae];have:(256==d.toNat)=ia:=by have:=UInt8.toNat_lt d;simp;omega
  rw[this];simp
def PK(d:i<s.size):∀k,k<13->preB (s.extract i s.size) (dd k)=lJ s i k
 |0,_=>aiB d 45 62|1,_=>wV d _|2,_=>wV d _|3,_=>wV d _|4,_=>wV d _|5,_=>wV d _|6,_=>wV d _|7,_=>wV d _|8,_=>wV d _|9,_=>wV d _|10,_=>wV d _|11,_=>wV d _|12,_=>wV d _|k+13,h=>absurd h ae
def aeG:∀k,0<k->k<13->(∀j,j<k->lJ s i j=ia)->lJ s i k=ha->lH s i=Pu.gL s i 5 (i+1):=by
 intro k m hk d f;rw[lH];have n:=d 0 m;rw[if_neg (by intro q;simp[lJ,q.1,q.2]at n)];have:Pu.Ct (Pu.at_ s i)=ha:=by
  have hc:k=1\/k=2\/k=3\/k=4\/k=5\/k=6\/k=7\/k=8\/k=9\/k=10\/k=11\/k=12:=ae;rw[lJ]at f;rw[if_neg ae,beq_iff_eq]at f;rw[f];obtain rfl|rfl|rfl|rfl|rfl|rfl|rfl|rfl|rfl|rfl|rfl|rfl:=hc<;>decide
 rw[if_pos this]
def agV(h:lJ s i 0=ha):lH s i=Pu.gL s i 5 (i+2):=by grind[lJ,lH]
def aeH(h:∀j,j<13->lJ s i j=ia):lH s i=Pu.gL s i 6 (i+1):=by
 rw[lH];have f:=h 0 ae;rw[if_neg (by intro q;simp[lJ,q.1,q.2]at f)];have:Pu.Ct (Pu.at_ s i)=ia:=by
  rw[Pu.Ct];rw[ju];intro x d;simp only[List.mem_cons,List.not_mem_nil,or_false]at d;intro q;rw[beq_iff_eq]at q;have H:∀k,0<k->k<13->((dd k)[0]!).toNat=x->False:=λk h0 hk e=>by
   have:=h k hk;rw[lJ]at this;rw[if_neg ae,e,q]at this;simp at this
  obtain rfl|rfl|rfl|rfl|rfl|rfl|rfl|rfl|rfl|rfl|rfl|rfl:=d
  .exact H 1 ae ae rfl
  .exact H 2 ae ae rfl
  .exact H 3 ae ae rfl
  .exact H 4 ae ae rfl
  .exact H 5 ae ae rfl
  .exact H 6 ae ae rfl
  .exact H 7 ae ae rfl
  .exact H 8 ae ae rfl
  .exact H 9 ae ae rfl
  .exact H 10 ae ae rfl
  .exact H 11 ae ae rfl
  .exact H 12 ae ae rfl
 rw[this];rfl
def Xy(f:i<s.size)(j:k<13)(h:lJ s i k=ha):i+(dd k).size<=s.size/\s.extract i (i+(dd k).size)=dd k:=by
 rw[<-PK f k j]at h;rw[preB]at h;rw[jx,decide_eq_true_iff,jc]at h;have d:i+(dd k).size<=s.size:=ae;refine⟨d,?_⟩;have:=vW h.2
 rwa[jd,jm,Nat.min_eq_left d]at this
def Xz:∀{k:Nat},k<13->1<=(dd k).size/\(dd k).size<=2:=λ{k}h=>(by decide:∀k:Fin 13,1<=(dd k.1).size/\(dd k.1).size<=2) ⟨k,h⟩
def aeI:∀{k:Nat},0<k->k<13->(dd k).size=1:=λ{k}h0 h=>(by decide:∀k:Fin 13,0<k.1->(dd k.1).size=1) ⟨k,h⟩ h0
def abB(f:k<13)(h:∀j,j<k->lJ s i j=ia)(m:lJ s i k=ha):lH s i=Pu.gL s i 5 (i+(dd k).size):=by
 obtain rfl|d:=Nat.eq_zero_or_pos k
 .exact agV m
 .rw[aeI d f];exact aeG k d f h m
def PL{p:Prop}(h:p:=by
 go_wp2
 go_ret
 exact⟨jB<|by simp[preB,hz],rfl⟩):p:=h
def aeJ(s p:ByteArray)(hs:s.size<=1000)(hp:p.size<=2):aa ja 170 #[.string s,.string p] w λe w'=>e=.returned (.bool<|preB s p)/\w'=w:=by
 by_cases h:p.size<=s.size
 .have d:(p.size:Int)<=(s.size:Int):=ae;have hz:decide (p.size<=s.size)=ha:=by simp[h]
  exact PL
 .have d:¬(p.size:Int)<=(s.size:Int):=ae;have hz:decide (p.size<=s.size)=ia:=bQ;exact PL
def XB(s p:ByteArray)(d:s.size<=1000)(f:p.size<=2):aa ja 153 #[.string s,.string p] w λe w'=>e=.returned (.bool<|preB s p)/\w'=w:=by
 go_in;go_wp2_with(go_at_call 170;refine(aeJ s p d f).mono ?_;rintro e w'⟨rfl,rfl⟩);go_ret;exact⟨jB rfl,rfl⟩
def Cz(s:ByteArray)i k(d:i<s.size)(hs:s.size<=1000)(f:k<13)(j:(dd k).size<=2):aa ja 153 #[.string<|s.extract i s.size,.string<|dd k] w λe w'=>e=.returned (.bool<|lJ s i k)/\w'=w:=by
 rw[<-PK d k f];exact XB _ _ qBo j
def aeK(h:Laid w)(s:ByteArray)(i:Nat)(B:i<s.size)(D:s.size<=1000):
 aa ja 120 #[.string s,.int .i64 (i:Int)] w (eQ (lH s i) w):=by
 have F:=Bx.new w yQ 119;have y:=(Below.refl w.heap.size w).alloc (Nat.le_refl _)<|.cells yQ 119;have H:=h.af y;have hi1:(i:Int)<=(s.size:Int):=ae;have g0:=H.signs 0 ae;have g1:=H.signs 1 ae;have g2:=H.signs 2 ae;have g3:=H.signs 3 ae;have g4:=H.signs 4 ae;have g5:=H.signs 5 ae;have g6:=H.signs 6 ae;have g7:=H.signs 7 ae;have g8:=H.signs 8 ae;have g9:=H.signs 9 ae;have g10:=H.signs 10 ae;have g11:=H.signs 11 ae;have g12:=H.signs 12 ae;clear h H;go_wp2
 go_loop[8] (λv=>∃j:Nat,j<=13/\v=.int .i64 (j:Int)/\Hid (∀m,m<j->lJ s i m=ia)) (λv=>13-(intOf v).toNat)
 case atStart=>exact⟨0,ae,rfl,λi h=>ae⟩
 case round=>
  obtain⟨j,hj,rfl,f⟩:=hrel;by_cases d:j<13
  .have hix:=adt dd d;have hd:(j:Int)<13:=ae;have G:=Xz d;obtain⟨n,t⟩:∃n,n=(dd j).size:=⟨_,rfl⟩;rw[<-t]at G
   cases he:lJ s i j with
   |true=>
    have u:=ai<|abB d f he;have x:=Xy B d he;rw[<-t]at x u;have z:=x.1;have A:=ai x.2;have hn':((dd j).size:Int)=(n:Int):=by rw[t]
    have ho:(i:Int)+(n:Int)<=1000:=ae;clear x t;go_wp2_with(first|(go_at_call 153;refine(Cz s i j B D d ae).mono ?_;rintro e w'⟨rfl,rfl⟩)|(go_at_call 115;refine(Cw s i (i+n) _ ae z D).mono ?_;rintro e I⟨rfl,r⟩;have E:=ai<|F.below r;have o:=ai<|y.trans<|r.mono ag;have⟨c1,f1,y1⟩:=uh E;clear r));have J:=E.mS rfl (.int .i64 (i:Int)) (.int .i64<|(i:Int)+n) (.string<|dd j) (.string<|s.extract i<|i+n);obtain⟨K,fF,zF⟩:=J;rw[uh u];refine bodyPost_ret (v:=dM<|Pu.gL s i 5<|i+n) ?_ rfl ⟨o.mS (ji _) _ _ _ _,j5 ⟨by simp[Pu.gL],rfl⟩⟩;have L:aq (Pu.gL s i 5<|i+n)=dd j:=uh A;simp only[dM,L];simp[results,Tryz.results120,go_sem,K,Pu.gL]
   |false=>
    have hn2:Hid (∀m,m<j+1->lJ s i m=ia):=λm hm=>by
     by_cases e:m=j
     .subst e;exact he
     .exact f m ae
    go_wp2_with(go_at_call 153;refine(Cz s i j B D d ae).mono ?_;rintro e w'⟨rfl,rfl⟩);exact PB
  .have u:=ai<|aeH (s:=s) (i:=i)<|λm hm=>f m ae;go_wp2_with(go_at_call 152;refine(mq _ _).mono ?_;rintro e I⟨rfl,r⟩;have o:=ai<|y.trans<|r.mono ag;clear r);rw[uh u];exact⟨rfl,o,j3 ⟨rfl,rfl⟩⟩
def aG(s:ByteArray)i:=if Pu.aK s cN i<s.size then Pu.dw s (Pu.aK s cN i)else Pu.fD s
def Mz(s:ByteArray)p:∀n i,s.size-i=n->Pu.aK s p i<s.size->p (Pu.at_ s<|Pu.aK s p i)=ia:=by
 intro n
 induction n with
 |zero=>intro i h d;rw[Pu.jI ae]at d;omega|succ n ih=>
  intro i h d
  cases hp:p (Pu.at_ s i)with
  |true=>rw[Pu.fJ ae hp]at d⊢;exact ih (i+1) ae d|false=>rw[Pu.oM ae hp];exact hp
def Tu(s:ByteArray):∀n i,s.size-i=n->Pu.bP s i=Pu.bP s (Pu.aK s cN i):=by
 intro n
 induction n with
 |zero=>intro i h;rw[Pu.jI ae]|succ n ih=>
  intro i h
  cases hp:cN (Pu.at_ s i)with
  |true=>rw[Pu.fJ ae hp,Pu.ri ae hp];exact ih (i+1) ae|false=>rw[Pu.oM ae hp]
def l8(s:ByteArray)i(hi:i<=s.size):Pu.bP s i=if(aG s i).kind=7 then[Pu.fD s]else aG s i::Pu.bP s (aG s i).to:=by
 rw[Tu s _ i rfl];unfold aG;by_cases h:Pu.aK s cN i<s.size
 .rw[if_pos h,if_neg,Pu.Ij h<|Mz s cN _ i rfl h];unfold Pu.dw Pu.gL;repeat' split
  all_goals simp
 .rw[if_neg h,if_pos<|show(Pu.fD s).kind=7 from rfl,Pu.Ii ae]
def eQ.ok{t:Pu.Tok}(h:eQ t w e w')(m:t.kind≠6):e=.returned (.agg #[.int .i64 (t.ah:Int),.int .i64 (t.to:Int),.string<|aq t,.string t.text])/\Below w.heap.size w w':=by
 obtain⟨d,⟨_,f⟩|⟨j,_⟩⟩:=h
 .exact⟨f,d⟩
 .exact absurd j m
def eQ.bad{t:Pu.Tok}(h:eQ t w e w')(hk:t.kind=6):e=.panicked [{v:=.iface 114<|.agg #[.int .i64 2,.int .i64 (t.ah:Int),.int .i64 (t.to:Int)],recovered:=ia}]/\Below w.heap.size w w':=by grind[eQ]
def Tv(j:i<s.size)(f:Pu.d_ (Pu.at_ s i)=ha):Pu.dw s i=(if Pu.aK s Pu.d_ i-i<=9 then Pu.gL s i 4 (Pu.aK s Pu.d_ i)else Pu.gL s i 6 (Pu.aK s Pu.d_ i)):=by
 have d:=f;simp[Pu.d_]at d;rw[Pu.dw];rw[if_neg (by simp[Pu.gH];omega),if_neg (by simp[Pu.AU];omega),if_neg (by intro q;omega),if_pos f,Pu.fJ j f]
def Tw(f:Pu.at_ s i=39):Pu.dw s i=kD s i:=by
 rw[Pu.dw,kD];rw[f,if_neg aD,if_neg aD];by_cases d:Pu.gH (Pu.at_ s<|i+1)=ha
 .grind
 .rw[if_neg<|λq=>d q.2,if_neg d,if_neg aD,if_neg (by intro q;exact absurd q.1 aD),if_neg aD]
def Tx(d:Pu.gH (Pu.at_ s i)=ia)(f:Pu.AU (Pu.at_ s i)=ia)(j:Pu.d_ (Pu.at_ s i)=ia)(m:Pu.at_ s i≠39):Pu.dw s i=lH s i:=by
 rw[Pu.dw,lH];rw[if_neg<|by simp[d],if_neg<|by simp[f],if_neg<|λq=>m q.1,if_neg<|by simp[j]]
def XC(d:Pu.gH (Pu.at_ s i)=ia)(f:Pu.AU (Pu.at_ s i)=ha):Pu.dw s i=Pu.gL s i 2 (Pu.aK s Pu.a_ i):=by
 rw[Pu.dw];rw[if_neg<|by simp[d],if_pos f]
def Tz(d:Pu.gH (Pu.at_ s i)=ha):Pu.dw s i=(if Pu.fe (s.extract i<|Pu.aK s Pu.a_ i)=ha then Pu.gL s i 5 (Pu.aK s Pu.a_ i)else Pu.gL s i 1 (Pu.aK s Pu.a_ i)):=by
 rw[Pu.dw];rw[if_pos d]
def G'(h:Laid w)(s:ByteArray)i(S:i<=s.size)(u:s.size<=1000):
 aa ja 60 #[.string s,.int .i64 (i:Int)] w (eQ (aG s i) w):=by
 have J:=Bx.new w yQ 119;have G:=(jo w.heap.size w).alloc (ji _)<|.cells yQ 119;have H:=h.af G;clear h;have E:=λW=>kV (j5 ⟨rfl,rfl⟩) s i W u S;have K:=Pu.gp (s:=s) cN S;have L:=Pu.fc s cN i;rw[aG];generalize Pu.aK s cN i=j at E K L⊢;by_cases r:j<s.size
 .have U:((j:Int)==(s.size:Int))=ia:=bQ;rw[if_pos r];have d:=Pu.nE r;have I:∀(T:Pu.Tok)(x:Nat),(x=113/\Pu.gH s[j].toNat=ha\/Pu.gH s[j].toNat=ia/\Pu.AU s[j].toNat=ia/\(x=118/\Pu.d_ s[j].toNat=ha\/Pu.d_ s[j].toNat=ia/\(x=119/\((s[j].toNat:Int)==39)=ha\/x=120/\((s[j].toNat:Int)==39)=ia)))->(∀W,Laid W->aa ja x #[.string s,.int .i64 (j:Int)] W (eQ T W))->aa ja 60 #[.string s,.int .i64 (i:Int)] w (eQ T w):=by
   intro T x N C;clear d;by_cases D:T.kind=6
   .obtain⟨rfl,m⟩|⟨m,t,⟨rfl,o⟩|⟨o,⟨rfl,y⟩|⟨rfl,y⟩⟩⟩:=N;all_goals
     go_in;go_wp2_with(first|(go_at_call 110;with_reducible refine(E _).mono ?_;rintro e w'⟨rfl,rfl⟩)|(go_at_call 112;refine(iD _ _).mono ?_;rintro e w'⟨rfl,rfl⟩)|(go_at_call 114;refine(sF _ _).mono ?_;rintro e w'⟨rfl,rfl⟩)|(go_at_call 117;refine(mn _ _).mono ?_;rintro e w'⟨rfl,rfl⟩)|((first|go_at_call 113|go_at_call 118|go_at_call 119|go_at_call 120);refine(C _ H).mono ?_;intro e O F;obtain⟨rfl,n⟩:=F.bad D;have f:=ai<|G.trans<|n.mono ag;clear n));exact⟨rfl,f,Or.inr ⟨D,rfl⟩⟩
   .obtain⟨rfl,m⟩|⟨m,t,⟨rfl,o⟩|⟨o,⟨rfl,y⟩|⟨rfl,y⟩⟩⟩:=N;all_goals
     go_in;go_wp2_with(first|(go_at_call 110;with_reducible refine(E _).mono ?_;rintro e w'⟨rfl,rfl⟩)|(go_at_call 112;refine(iD _ _).mono ?_;rintro e w'⟨rfl,rfl⟩)|(go_at_call 114;refine(sF _ _).mono ?_;rintro e w'⟨rfl,rfl⟩)|(go_at_call 117;refine(mn _ _).mono ?_;rintro e w'⟨rfl,rfl⟩)|((first|go_at_call 113|go_at_call 118|go_at_call 119|go_at_call 120);refine(C _ H).mono ?_;intro e O F;obtain⟨rfl,n⟩:=F.ok D;have z:=ai<|J.below n;have f:=ai<|G.trans<|n.mono ag;have⟨P,Q,R⟩:=uh z;clear n));have A:=z.mS rfl (.int .i64 (T.ah:Int)) (.int .i64 (T.to:Int)) (.string<|aq T) (.string T.text);obtain⟨B,fF,zF⟩:=A;exact bodyPost_ret (v:=dM T) (by simp[results,Tryz.results60,go_sem,B,dM]) rfl ⟨f.mS (Nat.le_refl _) _ _ _ _,Or.inl ⟨D,rfl⟩⟩
  cases m:Pu.gH s[j].toNat
  case true=>exact I _ _ (j5 ⟨rfl,m⟩) λW hW=>by rw[Tz (by rw[d];exact m)];exact(Im hW s j r u).mono λe w' q=>⟨q.2,j5 ⟨by split<;>simp[Pu.gL],q.1⟩⟩
  case false=>
  have N:Pu.gH (Pu.at_ s j)=ia:=by rw[d];exact m
  cases t:Pu.AU s[j].toNat
  case true=>
   have D:=Pu.gp (s:=s) Pu.a_ (i:=j) ae;have F:=Pu.fc s Pu.a_ j;rw[XC N (by rw[d];exact t)];clear d N;go_in;go_wp2_with(first|(go_at_call 110;with_reducible refine(E _).mono ?_;rintro e w'⟨rfl,rfl⟩)|(go_at_call 110;with_reducible refine(kV (Or.inr<|Or.inl ⟨rfl,rfl⟩) s j _ u ae).mono ?_;rintro e w'⟨rfl,rfl⟩)|(go_at_call 110;with_reducible refine(E _).mono ?_;rintro e w'⟨rfl,rfl⟩)|(go_at_call 112;refine(iD _ _).mono ?_;rintro e w'⟨rfl,rfl⟩)|(go_at_call 114;refine(sF _ _).mono ?_;rintro e w'⟨rfl,rfl⟩)|(go_at_call 117;refine(mn _ _).mono ?_;rintro e w'⟨rfl,rfl⟩)|(go_at_call 115;refine(Cw s j _ _ F D u).mono ?_;rintro e O⟨rfl,n⟩;have z:=ai<|J.below n;have f:=ai<|G.trans<|n.mono ag;have⟨P,Q,R⟩:=uh z;clear n));have A:=z.mS rfl (.int .i64 (j:Int)) (.int .i64 ((Pu.aK s Pu.a_ j:Nat):Int)) (.string ⟨#[117,112,32,110,97,109,101]⟩) (.string<|s.extract j<|Pu.aK s Pu.a_ j);obtain⟨B,fF,zF⟩:=A;exact bodyPost_ret (v:=dM<|Pu.gL s j 2<|Pu.aK s Pu.a_ j) (by simp[results,Tryz.results60,go_sem,B,dM,Pu.gL,aq]) rfl ⟨f.mS (Nat.le_refl _) _ _ _ _,Or.inl ⟨by simp[Pu.gL],rfl⟩⟩
  case false=>
  have f:Pu.AU (Pu.at_ s j)=ia:=by rw[d];exact t
  cases o:Pu.d_ s[j].toNat
  case true=>exact I _ _ (j3 ⟨m,t,j5 ⟨rfl,o⟩⟩) λW hW=>by rw[Tv r (by rw[d];exact o)];exact Xx s j r u
  case false=>
  by_cases y:s[j].toNat=39
  .exact I _ _ (j3 ⟨m,t,j3 ⟨o,j5 ⟨rfl,bQ⟩⟩⟩) λW hW=>by rw[Tw (by rw[d];exact y)];exact agU hW s j r u
  .exact I _ _ (j3 ⟨m,t,j3 ⟨o,j3 ⟨rfl,bQ⟩⟩⟩) λW hW=>by rw[Tx N f (by rw[d];exact o) (by rw[d];exact y)];exact aeK hW s j r u
 .have U:((j:Int)==(s.size:Int))=ha:=bQ;have d:j=s.size:=ae;rw[if_neg r];obtain⟨P,Q,R⟩:=J;go_in;go_wp2_with(first|(go_at_call 110;with_reducible refine(E _).mono ?_;rintro e w'⟨rfl,rfl⟩)|(go_at_call 112;refine(iD _ _).mono ?_;rintro e w'⟨rfl,rfl⟩)|(go_at_call 114;refine(sF _ _).mono ?_;rintro e w'⟨rfl,rfl⟩)|(go_at_call 117;refine(mn _ _).mono ?_;rintro e w'⟨rfl,rfl⟩));have A:=Bx.new w #[.int .i64 (j:Int),.int .i64 (j:Int),.string ⟨#[116,104,101,32,101,110,100]⟩,.string ⟨#[]⟩] 119;obtain⟨B,fF,zF⟩:=A;subst d;exact bodyPost_ret (v:=dM<|Pu.fD s) (by simp[results,Tryz.results60,go_sem,B,dM,Pu.fD,aq]) rfl ⟨(Below.refl w.heap.size w).alloc (Nat.le_refl _) _,Or.inl ⟨qBr,rfl⟩⟩
section
variable {W w3:ca} {row:Option Nat} (hg:W.grownBy w3 row)
include hg
def Bx.grown(h:Bx W b C)(d:∀j,row=some j->j≠b):Bx w3 b C:=h.same hg.size<|hg.block b h.z<|λe=>d b e.symm rfl
def Ke.grown(h:Ke rb a W)(d:∀j,row=some j->a.heap.size<=j):Ke rb a w3:=
 ⟨hg.os.trans h.os,hg.tape.trans h.tape,hg.output.trans h.output,jl h.size hg.size,λk hk hn=>(hg.block k (jj hk h.size) (λe=>by have:=d k e.symm;omega)).trans<|h.block k hk hn⟩
end
def rS{base}{e}{size}{v}{n}{xs}(h:w.ownsRow base e size v n xs)(hn:0<n):∃q c,v=.slice (some ⟨q,0,ga⟩) n c:=by
 obtain⟨_,d⟩:=h;obtain⟨_,h0⟩|⟨q,c,_,f,_⟩:=d
 .omega
 .exact⟨q,c,f⟩
def kZ{a b:ByteArray}(h:a.toList=b.toList):a=b:=by
 rw[jy,jy]at h;exact jh<|Array.toList_inj.1 h
abbrev Ky:=Nat×List UInt8
def aP(t:Pu.Tok):Ky:=(t.kind,t.text.toList)
abbrev eZ:Ky:=(5,[40])
abbrev fH:Ky:=(5,[41])
abbrev Ej:Ky:=(5,[44])
abbrev uz:Ky:=(5,[45,62])
mutual
def er:Nd->Nd
 |.mk k s _ L _ _ _=>.mk k s 0 (vX L) 0 0 0
def vX:List Nd->List Nd
 |[]=>[]|x::l=>er x::vX l
end
def PO:∀l m,vX (l++m)=vX l++vX m
 |[],m=>rfl|x::l,m=>by simp[vX,PO l m]
def aeL(s:ByteArray):Nd:=.mk 16 s 0 [] 0 0 0
def TA(s:ByteArray)(l:List Nd):Nd:=.mk 2 s 0 l 0 0 0
def XD(x y:Nd):Nd:=.mk 6 cX 0 [x,y] 0 0 0
def sFn(x y:Nd):Nd:=.mk 17 cX 0 [x,y] 0 0 0
inductive Gr:Nat->List Ky->Nd->Prop where
 |var(s:ByteArray):Gr 0 [(3,s.toList)] (aeL s)
 |up0(s:ByteArray):Gr 0 [(2,s.toList)] (TA s [])
 |par{p:List Ky}{t:Nd}:Gr 2 p t->Gr 0 (eZ::(p++[fH])) t
 |pair{p q:List Ky}{t u:Nd}:Gr 2 p t->Gr 2 q u->Gr 0 (eZ::(p++(Ej::(q++[fH])))) (XD t u)
 |up(s:ByteArray):Gr 3 [(2,s.toList)] (TA s [])
 |arg{p q:List Ky}{s:ByteArray}{l:List Nd}{u:Nd}:Gr 3 p (TA s l)->Gr 0 q u->Gr 3 (p++q) (TA s<|l++[u])
 |pD{p:List Ky}{t:Nd}:Gr 3 p t->Gr 1 p t
 |small{p:List Ky}{t:Nd}:Gr 0 p t->(∀x r,p=x::r->x.1≠2)->Gr 1 p t
 |head{p:List Ky}{t:Nd}:Gr 1 p t->Gr 2 p t
 |XE{p q:List Ky}{t u:Nd}:Gr 1 p t->Gr 2 q u->Gr 2 (p++(uz::q)) (sFn t u)
def Gr.ne{p}{t:Nd}(h:Gr v p t):1<=p.length:=by
 induction h<;>simp_all<;>omega
def Gr.up1{p}{t:Nd}(h:Gr 0 p t):Gr 1 p t:=by
 cases h with
 |var s=>exact .small (.var s) (λx r e=>by cases e;simp)|up0 s=>exact .pD (.up s)|par h=>exact .small (.par h) (λx r e=>by cases e;simp)|pair h k=>exact .small (.pair h k) (λx r e=>by cases e;simp)
def dX(T:List Pu.Tok)(k:Nat)(p:List Ky):=∀i(h:i<p.length),aP (tk T<|k+i)=p[i]
def dX.left{T:List Pu.Tok}{p q}(h:dX T k (p++q)):dX T k p:=λi hi=>by
 have:=h i bQ
 rwa[List.getElem_append_left hi]at this
def dX.right{T:List Pu.Tok}{p q}(h:dX T k (p++q)):dX T (k+p.length) q:=λi hi=>by
 have:=h (p.length+i) bQ;rw[List.getElem_append_right ae]at this;simpa[Nat.add_assoc]using this
def dX.hd{T:List Pu.Tok}{x}{q}(h:dX T k (x::q)):aP (tk T k)=x:=h 0 ag
def dX.tl{T:List Pu.Tok}{x}{q}(h:dX T k (x::q)):dX T (k+1) q:=λi hi=>by
 have:=h (i+1) bQ;simpa[Nat.add_assoc,Nat.add_comm 1 i]using this
def eR{t}:aT t ⟨l.toArray⟩=(aP t==(5,l)):=by
 rw[Eh];rw[aP];rfl
def dP t:aH t 1=(aP t==eZ||(aP t).1==3||(aP t).1==2):=by
 rw[aH];rw[if_pos rfl,eR];have:(aQ t==16||aQ t==2)=((aP t).1==3||(aP t).1==2):=by
  rw[aQ,aP];simp only;repeat' split
  all_goals simp_all
 rw[this,Bool.or_assoc]
def PQ(T:List Pu.Tok)(k:Nat):Prop:=aH (tk T k) 1=ia
def adv(T:List Pu.Tok)(k:Nat):Prop:=aH (tk T k) 1=ia/\aT (tk T k) cH=ia
def Reads(v:Nat)(p:List Ky)(t:Nd):Prop:=match v with
 |0=>∀T k n,dX T k p->p.length<=n+1->p.length<=T.length+1->∃nd,er nd=t/\ap T (c_ T n) (c_ T n) 1 k=.ok (nd,k+p.length)|3=>∀T k n f,dX T k p->p.length<=n+1->p.length<=T.length+1->p.length<=f+1->∃nd f',er nd=t/\f+1<=f'+p.length/\aI (ap T (c_ T n) (c_ T n) 1) (da T (ap T (c_ T n) (c_ T n) 1) 1 f) k=da T (ap T (c_ T n) (c_ T n) 1) 1 f' nd (k+p.length)|1=>∀T k n,dX T k p->p.length<=n+1->p.length<=T.length+1->PQ T (k+p.length)->∃nd,er nd=t/\fN T (ap T (c_ T n) (c_ T n) 1) 1 k=.ok (nd,k+p.length)|_=>∀T k n,dX T k p->p.length<=n->p.length<=T.length+1->adv T (k+p.length)->∃nd,er nd=t/\c_ T n k=.ok (nd,k+p.length)
def vY{T:List Pu.Tok}{small}{f}{x}(h:aH (tk T k) 1=ia):da T small 1 f x k=.ok (x,k):=by
 cases f with
 |zero=>rfl|succ f=>simp[da,h]
def aeM x y to(s:ByteArray)l(h:er x=TA s l):er (x.add y to)=TA s (l++[er y]):=by
 obtain⟨k,s',n,L,f,t,a⟩:=x;simp only[er,TA,Nd.mk.injEq]at h;obtain⟨rfl,rfl,_,rfl,_⟩:=h;simp[Nd.add,er,PO,vX,TA]
def Gr.MC{p}{t:Nd}(h:Gr v p t):∃x r,p=x::r/\(x==eZ||x.1==3||x.1==2)=ha:=by
 induction h with
 |var s=>grind|up0 s=>grind|par _ _=>grind|pair _ _ _ _=>grind|up s=>grind|arg _ _ i _=>grind|pD _ i=>exact i|small _ _ i=>exact i|head _ i=>exact i|XE _ _ i _=>grind
def Gr.first{p}{t:Nd}(h:Gr 3 p t):∃(s:List UInt8)(r:List Ky),p=(2,s)::r:=by
 generalize hv:3=v at h
 induction h with
 |up s=>exact⟨_,_,rfl⟩|arg _ _ i _=>grind|_=>cases hv
def oQ{T:List Pu.Tok}mk(h:aP (tk T k)=fH):oC T mk k=.ok (mk<|k+1,k+1):=by
 rw[oC,aI,bt];rw[eR,h];simp
def jK{T:List Pu.Tok}(h:aP (tk T k)=(5,l))(d:l≠[40])(f:l≠[45,62]):adv T k:=by
 constructor
 .rw[dP,h];simp[d]
 .rw[eR,h];simp[f]
def PR{p:Prop}(h:p:=by
 have e1:(tk T k).kind=2:=congrArg Prod.fst h0;have e2:=kZ<|congrArg Prod.snd h0
 simp[bD,aQ,e1,e2,er,vX,TA]):p:=h
def Gr.reads{p}{t:Nd}(h:Gr v p t):Reads v p t:=by
 induction h with
 |var s=>
  intro T k n d _ _;have h0:=d.hd;refine⟨bD<|tk T k,?_,?_⟩
  .have e1:(tk T k).kind=3:=congrArg Prod.fst h0;have e2:=kZ<|congrArg Prod.snd h0;simp[bD,aQ,e1,e2,er,vX,aeL]
  .rw[ap];rw[dP,eR,h0];simp
 |up0 s=>
  intro T k n d _ _;have h0:=d.hd;refine⟨bD<|tk T k,?_,?_⟩
  .exact PR
  .rw[ap];rw[dP,eR,h0];simp
 | @par p t _ ih=>
   intro T k n d o j;have h0:=d.hd;have D:=d.tl.left;have hc:=d.tl.right.hd;simp at o j;have⟨y,e,z⟩:=ih T (k+1) n D ae ae<|jK hc ag ag;refine⟨y,e,?_⟩;have E:aT (tk T<|k+1+p.length) db=ia:=by rw[eR,hc];rfl
   rw[ap];rw[dP,eR,h0];simp only[dD,gN,aI,z,E,oQ _ hc];simp[Nat.add_assoc,Nat.add_comm 1]
 | @pair p q t u _ _ ih ih2=>
   intro T k n d o j;have h0:=d.hd;have D:=d.tl.left;have F:=d.tl.right.hd;have G:=d.tl.right.tl.left;have hc:=d.tl.right.tl.right.hd;simp at o j;have⟨y,e,z⟩:=ih T (k+1) n D ae ae<|jK F ag ag;have⟨A,e2,B⟩:=ih2 T (k+1+p.length+1) n G ae ae<|jK hc ag ag;have E:aT (tk T<|k+1+p.length) db=ha:=by rw[eR,F];rfl
   refine⟨.mk 6 cX 0 [y,A] (tk T k).ah (aF T<|k+1+p.length+1+q.length+1) (tk T k).ah,by simp[er,vX,e,e2,XD],?_⟩;rw[ap];rw[dP,eR,h0];simp only[dD,gN,aI,z,E,B,oQ _ hc];simp;omega
 |up s=>
  intro T k n f d _ _ _;have h0:=d.hd;refine⟨bD<|tk T k,f,?_,ag,?_⟩
  .exact PR
  .rw[aI,ap];rw[dP,eR,h0];simp
 | @arg p q s l u h1 h2 ih ih2=>
   intro T k n f d o j L;simp at o j L;have n2:=h2.ne;have⟨y,I,e,hff,z⟩:=ih T k n f d.left ae ae ae;have⟨A,e2,B⟩:=ih2 T (k+p.length) n d.right ae ae;obtain⟨g,rfl⟩:∃g,I=g+1:=⟨I-1,ae⟩;have⟨x,r,F,J⟩:=h2.MC;have D:=d.right;rw[F]at D;have K:aH (tk T<|k+p.length) 1=ha:=by rw[dP,D.hd];exact J
   refine⟨y.add A<|aF T<|k+p.length+q.length,g,?_,bQ,?_⟩
   .rw[aeM _ _ _ s l e,e2]
   .rw[z];simp only[da,K,if_true,aI,B];simp[Nat.add_assoc]
 | @pD p t h1 ih=>
   intro T k n d o j D;have⟨y,I,e,_,z⟩:=ih T k n T.length d o j j;have⟨x,r,F,J⟩:=h1.MC;refine⟨y,e,?_⟩;have h2:(tk T k).kind=2:=by
    have⟨s,r',K⟩:=h1.first;rw[K]at d;exact congrArg Prod.fst d.hd
   rw[fN];rw[h2];simp only[beq_self_eq_true,if_true];rw[z];exact vY D
 | @small p t h1 hne ih=>
   intro T k n d o j D;have⟨y,e,z⟩:=ih T k n d o j;have⟨x,r,F,J⟩:=h1.MC;refine⟨y,e,?_⟩;have h2:((tk T k).kind==2)=ia:=by
    rw[F]at d;have I:(tk T k).kind=x.1:=congrArg Prod.fst d.hd;rw[I];simpa using hne x r F
   rw[fN];rw[h2];exact z
 | @head p t h1 ih=>
   intro T k n d o j D;have I:=h1.ne;obtain⟨m,rfl⟩:∃m,n=m+1:=⟨n-1,ae⟩;have⟨y,e,z⟩:=ih T k m d o j D.1;refine⟨y,e,?_⟩;simp only[c_,aI,z,lF,D.2];simp
 | @XE p q t u h1 h2 ih ih2=>
   intro T k n d o j D;have I:=h1.ne;simp at o j D;obtain⟨m,rfl⟩:∃m,n=m+1:=⟨n-1,ae⟩;have F:=d.right.hd;have G:=d.right.tl;have J:PQ T (k+p.length):=by rw[PQ];rw[dP,F];rfl
   have E:aT (tk T<|k+p.length) cH=ha:=by rw[eR,F];rfl
   have⟨y,e,z⟩:=ih T k m d.left ae ae J;have⟨A,e2,B⟩:=ih2 T (k+p.length+1) m G ae ae (by simpa[Nat.add_assoc,Nat.add_comm 1]using D);refine⟨.mk 17 cX 0 [y,A] (tk T k).ah (aF T<|k+p.length+1+q.length) (tk T k).ah,by simp[er,vX,e,e2,sFn],?_⟩;simp only[c_,aI,z,lF,E,if_true,B];simp;omega
end
def MD:(Rows.retypedRow.wf<|OpenSpec.ofChange Rows.retypedSpec)=ha:=qkr
def ME:(Tryz.f3.params.all (Tryz.prog.readableRec ·))=ha:=qkr
def MH:(namedTie ja Rows.retypedRow.named Rows.retypedSpec.vars)=ha:=qkr
def MI:((Rows.retypedRow.stops==[]))=ha:=qkr
def MJ:((Rows.retypedRow.knobs==[]))=ha:=qkr
def ML:((Rows.retypedRow.inPlace==Tryz.prog.inPlace 3))=ha:=qkr
def Io:((Rows.retypedRow.unfollowed==Tryz.prog.unfollowed 3))=ha:=qkr
def Ip:((Rows.retypedRow.recurses==Tryz.prog.recurses 3))=ha:=qkr
def Iq:((Rows.retypedRow.named==Tryz.prog.varsNamed 3))=ha:=qkr
def Ir:((Rows.retypedRow.maps==(Tryz.f3.params.toList++Rows.retypedSpec.plain.varTypes ja).any (Tryz.prog.mapsRec ·)))=ha:=qkr
def It:((Rows.retypedRow.ifaces==(Tryz.f3.params.toList++Rows.retypedSpec.plain.varTypes ja).any (Tryz.prog.ifacesRec ·)))=ha:=qkr
def Iu:((Rows.retypedRow.mapsOut==Tryz.prog.mapsAmong Tryz.f3.resultTypes.toList))=ha:=qkr
def Iw:((Rows.retypedRow.loops==(Tryz.f3.params.toList++Rows.retypedSpec.plain.varTypes ja).any (Tryz.prog.loopsFrom ·)))=ha:=qkr
def Ix:((Rows.retypedRow.wideKeys==(Tryz.f3.params.toList++Rows.retypedSpec.plain.varTypes ja++Tryz.f3.resultTypes.toList).any (Tryz.prog.wideKeysFrom ·)))=ha:=qkr
def Iy:(Rows.retypedSpec.vars.all (Tryz.prog.varReadable ·))=ha:=qkr
def Iz:(Tryz.f3.resultTypes.all<|λt=>Tryz.prog.readableRec t&&decide (t<Tryz.prog.types.size))=ha:=qkr
def IA:((Rows.retypedRow.ifacesOut==Tryz.f3.resultTypes.toList.any (Tryz.prog.ifacesRec ·)))=ha:=qkr
def IB:((Rows.retypedRow.loopsOut==Tryz.f3.resultTypes.toList.any (Tryz.prog.loopsFrom ·)))=ha:=qkr
def IC:((Rows.retypedRow.plainKeys==Tryz.prog.plainKeys))=ha:=qkr
def ID:(Rows.retypedRow.shortTexts.isNone)=ha:=qkr
def IE:((Rows.retypedRow.lifted==Tryz.prog.liftsFinal))=ha:=qkr
def IF:((Tryz.prog.make==some Rows.retypedRow.make))=ha:=qkr
def II:((Rows.retypedRow.pinned==Rows.retypedRow.pinnedBy))=ha:=qkr
def IJ:((Rows.retypedRow.veiled==(Tryz.f3.params.toList++Rows.retypedSpec.plain.varTypes ja++Tryz.f3.resultTypes.toList).any (Tryz.prog.veiledRec ·)))=ha:=qkr
def IK:(Rows.retypedRow.veiledFits ja Tryz.f3.params.toList<|Tryz.f3.params.toList++Rows.retypedSpec.plain.varTypes ja++Tryz.f3.resultTypes.toList)=ha:=qkr
def IL:Rows.retypedRow.wfByText (OpenSpec.ofChange Rows.retypedSpec)=ha:=qkr
def Ek:ia=Rows.retypedRow.goesBy Tryz.pinned.checked.prog:=qkr
end Go.Proofs.YtonaidfgokhmoaaGreatDoor

import Derived.BigQuiet
import Derived.Deep.LoopGhost
import Derived.Deep.RegionHeld3
import Derived.Lib.ConvBytes
import Derived.RegionDies
import Derived.SevenTiedAt
import Derived.Test.YtfnkchdeheeiiaaGreatDoorCards
import Derived.WalkLawsBesides
import Derived.WalkSpells
set_option linter.all false
set_option maxRecDepth 100000
set_option maxHeartbeats 8000000
namespace Go.Proofs.YtfnkchdeheeiiaaGreatDoor
open _root_.Nat renaming le_refl->ja,lt_of_lt_of_le->jc,ble->jd,le_trans->jf,add_zero->jh
open _root_.ByteArray renaming size_extract->ji,extract_extract->jj,data_extract->jk,ext->jl
open Go.Proofs.Tryz renaming prog->jm
open Go.RowKit.Below renaming refl->jo,heap_setCell->jp
open _root_.List renaming getD_eq_getElem?_getD->jq,getElem?_eq_getElem->jt,any_eq_false->ju
open Bool renaming eq_iff_iff->jv,and_eq_true->jx
open Go.World renaming cell?_of_block->jy,setCell->jz
open Go.Ending renaming returned->j5
open Or renaming inr->j6,inl->j7
open Go Proofs.Tryz
variable {C:Array Value} {s:ByteArray} {e:Ending} {b cap g i k rb:Nat} {p:Nat->Bool} {α:Type} {a w w':World}
namespace Pu
def at_(s:ByteArray)i:=if h:i<s.size then s[i].toNat else 256
def o_(h:i<s.size):at_ s i=s[i].toNat:=by simp[at_,h]
def QE(h:s.size<=i):at_ s i=256:=by simp[at_];omega
def gI c:=jd 97 c&&jd c 122
def Ei c:=jd 65 c&&jd c 90
def dV c:=jd 48 c&&jd c 57
def a_ c:=gI c||Ei c||dV c
def Jx(s:ByteArray)(p:Nat->Bool):Nat->Nat->Nat
 |0,i=>i|f+1,i=>if p (at_ s i)=true then Jx s p f (i+1)else i
def aG s p i:=Jx s p (s.size-i) i
def fP(h:i<s.size)(hp:p (at_ s i)=true):aG s p i=aG s p (i+1):=by
 unfold aG;obtain⟨k,hk⟩:∃k,s.size-i=k+1:=⟨s.size-i-1,by omega⟩;rw[hk,Jx,if_pos hp,show s.size-(i+1)=k by omega]
def th(h:i<s.size)(hp:p (at_ s i)=false):aG s p i=i:=by
 rw[aG];obtain⟨k,hk⟩:∃k,s.size-i=k+1:=⟨s.size-i-1,by omega⟩;rw[hk,Jx,if_neg<|by simp[hp]]
def mz(h:s.size<=i):aG s p i=i:=by
 rw[aG];rw[show s.size-i=0 by omega];rfl
def QF s p f i:i<=Jx s p f i/\Jx s p f i<=i+f:=by
 induction f generalizing i with
 |zero=>simp[Jx]
 |succ f ih=>unfold Jx;split
             .grind
             .omega
def eX s p i:i<=aG s p i:=(QF _ _ _ _).1
def gu p(h:i<=s.size):aG s p i<=s.size:=by
 have:=(QF s p (s.size-i) i).2;rw[aG];omega
def words:List ByteArray:=[⟨#[116,121,112,101]⟩,⟨#[108,101,116]⟩,⟨#[114,101,99]⟩,⟨#[105,110]⟩,⟨#[102,117,110]⟩,⟨#[105,102]⟩,⟨#[116,104,101,110]⟩,⟨#[101,108,115,101]⟩,⟨#[109,97,116,99,104]⟩,⟨#[119,105,116,104]⟩,⟨#[101,110,100]⟩,⟨#[116,114,117,101]⟩,⟨#[102,97,108,115,101]⟩]
def kR k:=words.getD k ⟨#[]⟩
def gP(s:ByteArray):Bool:=words.any λw=>w.toList==s.toList
def ZE(hk:k<13)(h:((kR k).toList==s.toList)=true):gP s=true:=by
 rw[gP];rw[List.any_eq_true];refine⟨kR k,?_,h⟩;rw[kR];rw[jq,jt<|by simpa[words]using hk];exact List.getElem_mem _
def Nz(h:∀j,j<13->((kR j).toList==s.toList)=false):gP s=false:=by
 rw[gP];rw[ju];intro x hx;obtain⟨i,hi,rfl⟩:=List.getElem_of_mem hx;have:=h i (by simpa[words]using hi);rw[kR]at this;rw[jq,jt hi]at this;simpa using this
structure Tok where
 kind:Nat
 text:ByteArray
 ak:Nat
 to:Nat
def Jy c:=[40,41,44,59,58,61,124,43,45,42,60,95].any λd=>d==c
def gS(s:ByteArray)(i:Nat)(k to:Nat):Tok:=⟨k,s.extract i to,i,to⟩
def dr s i:=
 if gI (at_ s i)=true then
  if gP (s.extract i<|aG s a_ i)=true then gS s i 5 (aG s a_ i)else gS s i 1 (aG s a_ i)
 else if Ei (at_ s i)=true then gS s i 2 (aG s a_ i)
 else if at_ s i=39/\gI (at_ s<|i+1)=true then
  if gP (s.extract (i+1)<|aG s a_<|i+1)=true then gS s i 6 (aG s a_<|i+1)else gS s i 3 (aG s a_<|i+1)
 else if dV (at_ s i)=true then
  if aG s dV (i+1)-i<=9 then gS s i 4 (aG s dV<|i+1)else gS s i 6 (aG s dV<|i+1)
 else if at_ s i=45/\at_ s (i+1)=62 then gS s i 5 (i+2)
 else if Jy (at_ s i)=true then gS s i 5 (i+1)else gS s i 6 (i+1)
end Pu
section
open Go.RowKit
def ZF c:Pu.gI c=decide (97<=(c:Int)/\(c:Int)<=122):=by
 rw[jv];simp[Pu.gI];omega
def ads c:Pu.Ei c=decide (65<=(c:Int)/\(c:Int)<=90):=by
 rw[jv];simp[Pu.Ei];omega
def ZG c:Pu.dV c=decide (48<=(c:Int)/\(c:Int)<=57):=by
 rw[jv];simp[Pu.dV];omega
def ai{p:Prop}(h:p):Hid p:=h
def uh{p:Prop}(h:Hid p):p:=h
def qkr{p:Prop}(h:p:=by kernel_rfl):p:=h
def ae{p:Prop}(h:p:=by omega):p:=h
def ag{p:Prop}(h:p:=by simp):p:=h
def aH{p:Prop}(h:p:=by decide):p:=h
def bP{p:Prop}(h:p:=by simp;omega):p:=h
def Ec{p:Prop}(h:p:=by rw[en];omega):p:=h
def Yf{p:Prop}(h:p:=by rw[maxLen];omega):p:=h
def G_{p:Prop}(h:p:=by simpa using h):p:=h
def qas{p:Prop}(h:p:=by assumption):p:=h
def qbr{p:Prop}(h:p:=by exact br _):p:=h
def Cz{p:Prop}(h:p:=by simp only[nn,ck]at hk;omega):p:=h
def qV{p:Prop}(h:p:=by rw[uh en];omega):p:=h
def Bo{p:Prop}(h:p:=by rw[qU hc];decide):p:=h
def yL{p:Prop}(h:p:=by simp[nn,ck];omega):p:=h
def mO{p:Prop}(h:p:=by cases q):p:=h
def C9{p:Prop}(h:p:=by simp[World.setCell]):p:=h
def LS{p:Prop}(h:p:=by rw[o.size];exact br _):p:=h
def jT{p:Prop}(h:p:=by go_num):p:=h
def qAi{p:Prop}(h:p:=by intro x hx c;simp at hx;subst hx;intro q;cases q):p:=h
def qAj{p:Prop}(h:p:=by rw[jN];exact Nat.le_trans L7.2<|ai2 hd):p:=h
def Hv{p:Prop}(h:p:=by simp at hi;omega):p:=h
def vR{p:Prop}(h:p:=by simp at h):p:=h
def qAm{p:Prop}(h:p:=by rw[show gU.toList=[40]from toList_mk [40]];decide):p:=h
def qAn{p:Prop}(h:p:=by intro u hu;simp at hu;subst hu;rfl):p:=h
def qAo{p:Prop}(h:p:=by rw[jN];exact Nat.le_trans TQ.2<|ai2 hd):p:=h
def qAp{p:Prop}(h:p:=by simp[ByteArray.toList_eq]):p:=h
def qAq{p:Prop}(h:p:=by simp[Pu.gP,Pu.words,ByteArray.toList_eq]):p:=h
def qAr{p:Prop}(h:p:=by obtain⟨L,h1,_⟩:=h;exact h1.lt):p:=h
def qAs{p:Prop}(h:p:=by obtain⟨L,h1,h2⟩:=h;exact⟨L,h1.same hb,h2⟩):p:=h
def QG{p:Prop}(h:p:=by simp[Un.eh]):p:=h
def qAu{p:Prop}(h:p:=by show w.heap.size<=b;omega):p:=h
def qAv{p:Prop}(h:p:=by have:=Nc x;omega):p:=h
def qAw{p:Prop}(h:p:=by rw[q]at r;cases r):p:=h
def ZH{p:Prop}(h:p:=by rw[aL];omega):p:=h
def qAy{p:Prop}(h:p:=by have:wr.heap.size<=b:=p.1;omega):p:=h
def qAz{p:Prop}(h:p:=by simp[World.setCell];exact Z1):p:=h
def qBb{p:Prop}(h:p:=by simp[go_sem]):p:=h
def xC{p:Prop}(h:p:=by grind):p:=h
def qBe{p:Prop}(h:p:=by rw[ByteArray.toList_eq];decide):p:=h
def Mf{p:Prop}(h:p:=by simp[q]):p:=h
def qBg{p:Prop}(h:p:=by simp[aZ]at h):p:=h
def qBh{p:Prop}(h:p:=by rw[uh hC];exact bq):p:=h
def qBi{p:Prop}(h:p:=by simp[nn,ck]):p:=h
def qBj{p:Prop}(h:p:=by simp only[iK];exact .ret ⟨ρ,h.refl⟩):p:=h
def qBk{p:Prop}(h:p:=by rw[gq hk];rfl):p:=h
def qBl{p:Prop}(h:p:=by simpa using hi):p:=h
def qBm{p:Prop}(h:p:=by simp[Array.getD_eq_getD_getElem?,hu]):p:=h
def qBn{p:Prop}(h:p:=by rw[qU hc.2];decide):p:=h
def qBo{p:Prop}(h:p:=by rw[ByteArray.size_extract];omega):p:=h
def Mo{p:Prop}(h:p:=by cases h):p:=h
def Us{p:Prop}(h:p:=by simp[e]):p:=h
def qBr{p:Prop}(h:p:=by simp[Pu.fD]):p:=h
def qBs{p:Prop}(h:p:=by subst e;simp at bq):p:=h
def qBt{p:Prop}(h:p:=by have:=hr4 k e;omega):p:=h
def qBu{p:Prop}(h:p:=by simp[World.cell?,h1]):p:=h
def qBv{p:Prop}(h:p:=by have:w0.heap.size<=i:=p;omega):p:=h
def qBw{p:Prop}(h:p:=by have:=H.cn;omega):p:=h
def qBx{p:Prop}(h:p:=by simpa[aA]using hn):p:=h
def qne{p:Prop}(h:p:=by intro b p;try dsimp only at p⊢;omega):p:=h
@[simp] theorem nq0(x : Bool)(w : World) : (Op.unary .not<|.bool x).run jm w = .ok (.bool<|!x) w := rfl
@[simp] theorem nq1(f : Fn)(a b : Array Value)(w : World) : (Instr.makeFunc f a b).run jm w = .ok (.func f a b) w := rfl
@[simp] abbrev Nv(n : Nat) : Value := .int .i64 (n : Int)
@[simp] abbrev Iv(n : Int) : Value := .int .i64 n
@[simp] abbrev Pv(b : Nat) : Value := .pointer<|some ⟨b, 0, none⟩
@[simp] abbrev Mv(b : Nat) : Value := .map<|some b
abbrev Bq(a b : World) := Below a.heap.size a b
abbrev Cq := Calls jm
@[simp] abbrev Sv(s : ByteArray) : Value := .string s
@[simp] abbrev Fv(t : TypeId)(v : Value) : Value := .iface t v
@[simp] abbrev Lv(a : Option Addr)(l c : Nat) : Value := .slice a l c
@[simp] abbrev Av(c : Array Value) : Value := .agg c
@[simp] abbrev Zv : Value := .nilIface
@[simp] abbrev Cv(c : Array Value)(t : TypeId)(f : Nat × Nat := (0, 0)) : Obj := .cells c t f
@[simp] abbrev Rv(v : Value) : Ending := .returned v
def bw(o:Obj):Below w.heap.size w (w.alloc o):=(jo _ _).alloc (ja _) o
def br(n:Nat):n<=n:=ja n
abbrev BA:=ByteArray
def ug{a b:List α}:(a++b).length=a.length+b.length:=List.length_append
def ot{a:α}{b:List α}:(a::b).length=b.length+1:=List.length_cons
def uq:([]:List α).length=0:=List.length_nil
def jO{a b}(h:a=b):j5 (.bool a)=.returned (.bool b):=congrArg (λx=>j5<|.bool x) h
def ZI{k}{a b}(h:a=b):j5 (.int k a)=.returned (.int k b):=congrArg (λx=>j5<|.int k x) h
def step_end{j}{b}(bz:j<s.size)(he:Hid (Pu.aG s p i=Pu.aG s p j))(hb:p (Pu.at_ s j)=b):
 Hid (Pu.aG s p i=if b=true then Pu.aG s p (j+1)else j):=by
 cases b
 .show _=_;rw[he.out,Pu.th bz hb];rfl
 .show _=_;rw[he.out,Pu.fP bz hb];rfl
end
namespace Pu
def Jz(h:i<s.size)(hp:p (at_ s i)=true):i+1<=aG s p i:=by
 rw[fP h hp];exact eX _ _ _
def afd(h:at_ s i<256):i<s.size:=by
 by_cases e:i<s.size
 .exact e
 .rw[QE ae]at h;omega
def UU s i:(dr s i).ak=i:=by
 rw[dr];repeat(first|rfl|split)
def o8 s i(h:i<s.size):i<(dr s i).to/\(dr s i).to<=s.size:=by
 rw[dr];by_cases h1:gI (at_ s i)=true
 .have a:=Jz (p:=a_) h (by simp[a_,h1]);have b:=gu (s:=s) a_ (i:=i) ae;rw[if_pos h1];split<;>exact⟨a,b⟩
 rw[if_neg h1];by_cases h2:Ei (at_ s i)=true
 .have a:=Jz (p:=a_) h (by simp[a_,h2]);have b:=gu (s:=s) a_ (i:=i) ae;rw[if_pos h2];exact⟨a,b⟩
 rw[if_neg h2];by_cases h3:at_ s i=39/\gI (at_ s<|i+1)=true
 .have c:i+1<s.size:=afd (by have:=h3.2;simp[gI]at this;omega);have a:=eX s a_<|i+1;have b:=gu (s:=s) a_ (i:=i+1) ae;rw[if_pos h3];split<;>exact⟨a,b⟩
 rw[if_neg h3];by_cases h4:dV (at_ s i)=true
 .have a:=eX s dV<|i+1;have b:=gu (s:=s) dV (i:=i+1) ae;rw[if_pos h4];split<;>exact⟨a,b⟩
 rw[if_neg h4];by_cases h5:at_ s i=45/\at_ s (i+1)=62
 .have c:i+1<s.size:=afd ae;rw[if_pos h5];exact⟨by show i<i+2;omega,by show i+2<=_;omega⟩
 rw[if_neg h5];split<;>exact⟨by show i<i+1;omega,by show i+1<=_;omega⟩
def dJ c:=c==32||c==10
def fD(s:ByteArray):Tok:=⟨7,⟨#[]⟩,s.size,s.size⟩
def pu(s:ByteArray):Nat->Nat->List Tok
 |0,_=>[fD s]|f+1,i=>if i<s.size then(if dJ (at_ s i)=true then pu s f (i+1)else dr s i::pu s f (dr s i).to)else[fD s]
def NA s:∀f g i,s.size<=i+f->s.size<=i+g->pu s f i=pu s g i:=by
 intro f
 induction f with
 |zero=>
  intro g i h1 h2
  cases g with
  |zero=>rfl|succ g=>unfold pu;rw[if_neg ae]
 |succ f ih=>
  intro g i h1 h2
  cases g with
  |zero=>grind|succ g=>
   unfold pu;by_cases h:i<s.size
   .rw[if_pos h,if_pos h];have ht:=o8 s i h;rw[ih g (i+1) ae ae,ih g (dr s i).to ae ae]
   .grind
def bG s i:=pu s (s.size-i) i
def ZK(h:s.size<=i):bG s i=[fD s]:=by
 rw[bG];rw[show s.size-i=0 by omega];rfl
def ND(h:i<s.size)(hb:dJ (at_ s i)=true):bG s i=bG s (i+1):=by
 unfold bG;obtain⟨k,hk⟩:∃k,s.size-i=k+1:=⟨s.size-i-1,ae⟩;rw[hk,pu,if_pos h,if_pos hb,show s.size-(i+1)=k by omega]
def ZL(h:i<s.size)(hb:dJ (at_ s i)=false):bG s i=dr s i::bG s (dr s i).to:=by
 unfold bG;obtain⟨k,hk⟩:∃k,s.size-i=k+1:=⟨s.size-i-1,ae⟩;have ht:=o8 s i h;rw[hk,pu,if_pos h,if_neg<|by simp[hb],NA s k (s.size-(dr s i).to) _ ae ae]
end Pu
section
open Go.RowKit
structure Fl where
 kind:Nat
 ak:Nat
 to:Nat
def sF:Fl:=⟨0,0,0⟩
def dM(t:Pu.Tok):Fl:=if t.kind=6 then⟨2,t.ak,t.to⟩else⟨3,t.ak,t.to⟩
structure Ke rb(w w':World):Prop where
 os:w'.os=w.os
 tape:w'.tape=w.tape
 output:w'.output=w.output
 size:w.heap.size<=w'.heap.size
 block:∀k,k<w.heap.size->k≠rb->w'.heap[k]? =w.heap[k]?
def Ke.refl rb w:Ke rb w w:=⟨rfl,rfl,rfl,ja _,λ_ _ _=>rfl⟩
def Ke.of(h:Below w.heap.size w w'):Ke rb w w':=⟨h.os,h.tape,h.output,h.size,λk hk _=>h.block k hk⟩
def Ke.trans{rb}{a b c}(h:Ke rb a b)(k:Ke rb b c):Ke rb a c:=
 ⟨k.os.trans h.os,k.tape.trans h.tape,k.output.trans h.output,jf h.size k.size,λi hi hn=>(k.block i (jc hi h.size) hn).trans<|h.block i hi hn⟩
def Ke.alloc{rb:Nat}{a w:World}(h:Ke rb a w)o:Ke rb a (w.alloc o):=h.trans<|Ke.of<|(jo _ _).alloc (ja _) o
def Ke.set(h:Ke rb a w)j u:Ke rb a (w.setCell ⟨rb,j,none⟩ u):=
 h.trans ⟨rfl,rfl,rfl,C9,λk _ hn=>jp _ _ _ _ hn⟩
def Ke.cell{rb}{w w'}(h:Ke rb w w'){b o}(hb:b<w.heap.size)(hn:b≠rb):w'.cell? ⟨b,o,none⟩=w.cell? ⟨b,o,none⟩:=jy (a:=⟨b,o,none⟩)<|h.block b hb hn
def tk(T:List Pu.Tok)k:=T.getD k ⟨7,⟨#[]⟩,0,0⟩
def De{T:List Pu.Tok}(h:k<T.length):T[k]'h=tk T k:=by
 rw[tk];rw[jq,jt h];rfl
def bh(t:Pu.Tok)(s:ByteArray):Bool:=t.kind==5&&t.text.toList==s.toList
abbrev St:=Except Fl Nat
abbrev M(α:Type):=Nat->Except Fl (α×Nat)
def nx{α:Type}(σ:St)(m:M α):St:=match σ with
 |.error e=>.error e
 |.ok k=>match m k with
  |.error e=>.error e|.ok (_,k')=>.ok k'
def m_{α:Type}(T:List Pu.Tok):M α:=λk=>.error<|dM<|tk T k
def bu(T:List Pu.Tok)(s:ByteArray):M Unit:=λk=>if bh (tk T k) s=true then .ok ((),k+1)else .error (dM<|tk T k)
def db(T:List Pu.Tok)(n:Nat):M Pu.Tok:=λk=>if(tk T k).kind==n then .ok (tk T k,k+1)else .error (dM<|tk T k)
def aS(T:List Pu.Tok)k:=if k=0 then 0 else(tk T<|k-1).to
structure Bx(w:World)b(C:Array Value):Prop where
 c:∀o,w.cell? ⟨b,o,none⟩=C[o]?
 f:∀o,w.frozen? ⟨b,o,none⟩=false
 z:b<w.heap.size
def Bx.new(w:World)C t:Bx (w.alloc<|.cells C t) w.heap.size C:=⟨λo=>ag,λo=>ag,ag⟩
def sd(w:World)(C:Array Value)(t:TypeId):Below w.heap.size w (w.alloc<|.cells C t)/\Bx (w.alloc<|.cells C t) w.heap.size C:=⟨bw _,Bx.new w C t⟩
def ul(w:World)(C:Array Value)(t:TypeId):Below w.heap.size w (w.alloc<|.cells C t)/\Hid (Bx (w.alloc<|.cells C t) w.heap.size C):=⟨bw _,Bx.new w C t⟩
def Bx.same(h:Bx w b C)(hs:w.heap.size<=w'.heap.size)(hb:w'.heap[b]? =w.heap[b]?):Bx w' b C:=
 ⟨λo=>by rw[jy (a:=⟨b,o,none⟩) (w:=w) hb];exact h.c o,λo=>by rw[World.frozen?_of_block (a:=⟨b,o,none⟩) (w:=w) hb];exact h.f o,jc h.z hs⟩
def Bx.below(h:Bx w b C)(hb:Below w.heap.size w w'):Bx w' b C:=h.same hb.size<|hb.block b h.z
def Bx.ke(h:Bx w b C)(hb:Ke rb w w')(hn:b≠rb):Bx w' b C:=h.same hb.size<|hb.block b h.z hn
def Bx.alloc{w:World}{b:Nat}{C:Array Value}(h:Bx w b C)o:Bx (w.alloc o) b C:=h.below<|(jo _ _).alloc (ja _) o
def Ke.o9(h:Ke rb a w)(hb:a.heap.size<=b)j u:Ke rb a (w.setCell ⟨b,j,none⟩ u):=
 ⟨h.os,h.tape,h.output,by simpa[jz]using h.size,λk hk hn=>by rw[jp _ _ _ _ (by show k≠b;omega)];exact h.block k hk hn⟩
def dJ c:=c==32||c==10
def NE(c:Nat):(((c:Int)==32)||((c:Int)==10))=dJ c:=by
 rw[jv];simp[dJ];omega
def iL(c:Nat)w:Calls jm 209 #[.int .u8 (c:Int)] w λe w'=>e=.returned (.bool<|Pu.gI c)/\w'=w:=by
 go_enter func209,ntmps209
 go_wp2
 all_goals(go_ret;exact⟨jO (by rw[ZF];symm;simp;try omega),rfl⟩)
def tD(c:Nat)w:Calls jm 211 #[.int .u8 (c:Int)] w λe w'=>e=.returned (.bool<|Pu.Ei c)/\w'=w:=by
 go_enter func211,ntmps211
 go_wp2
 all_goals(go_ret;exact⟨jO (by rw[ads];symm;simp;try omega),rfl⟩)
def mA(c:Nat)w:Calls jm 214 #[.int .u8 (c:Int)] w λe w'=>e=.returned (.bool<|Pu.dV c)/\w'=w:=by
 go_enter func214,ntmps214
 go_wp2
 all_goals(go_ret;exact⟨jO (by rw[ZG];symm;simp;try omega),rfl⟩)
def NF(c:Nat)w:Calls jm 208 #[.int .u8 (c:Int)] w λe w'=>e=.returned (.bool<|dJ c)/\w'=w:=by
 go_enter func208,ntmps208
 go_wp2
 all_goals(go_ret;exact⟨jO (by rw[<-NE];try simp[*]),rfl⟩)
def UW(c:Nat)w:Calls jm 213 #[.int .u8 (c:Int)] w λe w'=>e=.returned (.bool<|Pu.a_ c)/\w'=w:=by
 have hn:Pu.a_ c=(Pu.gI c||Pu.Ei c||Pu.dV c):=rfl;have ajm:(Pu.gI c=true\/(Pu.gI c=false/\Pu.Ei c=true))\/(Pu.gI c=false/\Pu.Ei c=false):=by
  cases Pu.gI c<;>cases Pu.Ei c<;>simp
 obtain  (h1|⟨h1,h2⟩)|⟨h1,h2⟩:=ajm;all_goals
  simp only[*,Bool.or_true,Bool.true_or,Bool.false_or]at hn;have hn:=ai hn;go_enter func213,ntmps213;go_wp2_with(first|(go_at_call 209;refine(iL _ _).mono ?_;rintro e w'⟨rfl,rfl⟩)|(go_at_call 211;refine(tD _ _).mono ?_;rintro e w'⟨rfl,rfl⟩)|(go_at_call 214;refine(mA _ _).mono ?_;rintro e w'⟨rfl,rfl⟩));go_ret;exact⟨jO hn.symm,rfl⟩
def lB{fn}(hq:fn=208/\p=dJ\/fn=213/\p=Pu.a_\/fn=214/\p=Pu.dV)(s:ByteArray)(i:Nat)(w:World)(hs:s.size<=1000)(hi:i<=s.size):
 Calls jm 207 #[.string s,.int .i64 (i:Int),.func (.func fn) #[] #[]] w λe w'=>e=.returned (.int .i64<|Pu.aG s p i)/\w'=w:=by
 have H:∀(c:Nat)(w:World),Calls jm fn #[.int .u8 (c:Int)] w λe w'=>e=.returned (.bool<|p c)/\w'=w:=by obtain⟨rfl,rfl⟩|⟨rfl,rfl⟩|⟨rfl,rfl⟩:=hq;exact NF;exact UW;exact mA
 obtain⟨rfl,hq⟩|⟨rfl,hq⟩|⟨rfl,hq⟩:=hq;all_goals
  clear hq;go_enter func207,ntmps207
  go_wp2
  go_loop[7] (λv=>∃j:Nat,j<=s.size/\v=.int .i64 (j:Int)/\Hid (Pu.aG s p i=Pu.aG s p j)) (λv=>s.size-(intOf v).toNat)
  case atStart=>exact⟨i,hi,rfl,rfl⟩
  case round=>
   obtain⟨j,hj,rfl,he⟩:=hrel;by_cases bz:j<s.size
   .have hn:=Pu.o_ bz
    cases hp:p (Pu.at_ s j)with
    |true=>
     have hm:=step_end bz he hp;rw[hn]at hp;go_wp2_with((first|go_at_call 208|go_at_call 213|go_at_call 214);refine(H _ _).mono ?_;rintro e w'⟨rfl,rfl⟩);go_round
     case rel=>exact⟨j+1,ae,jT,by simpa using hm⟩
     case measure=>simp[intOf];omega
    |false=>
     have hm:=step_end bz he hp;rw[hn]at hp;go_wp2_with((first|go_at_call 208|go_at_call 213|go_at_call 214);refine(H _ _).mono ?_;rintro e w'⟨rfl,rfl⟩);go_ret;exact⟨ZI<|congrArg Nat.cast<|hm.out.symm,rfl⟩
   .go_wp2
    go_ret;exact⟨ZI<|by rw[he.out,Pu.mz ae],rfl⟩
def aw(t:Pu.Tok):ByteArray:=
 if t.kind=1 then⟨#[108,111,119,32,110,97,109,101]⟩else if t.kind=2 then⟨#[117,112,32,110,97,109,101]⟩else if t.kind=3 then⟨#[97,32,118,97,114,105,97,98,108,101]⟩
 else if t.kind=4 then⟨#[97,32,110,117,109,98,101,114]⟩else if t.kind=7 then⟨#[116,104,101,32,101,110,100]⟩else t.text
def dF(t:Pu.Tok):Value:=.agg #[.int .i64 (t.ak:Int),.int .i64 (t.to:Int),.string<|aw t,.string t.text]
def afe(a:Nat->ByteArray):∀{j:Nat},j<13->∀w:World,(Instr.index 403 (.agg #[.string<|a 0,.string<|a 1,.string<|a 2,.string<|a 3,.string<|a 4,.string<|a 5,.string<|a 6,.string<|a 7,.string<|a 8,.string<|a 9,.string<|a 10,.string<|a 11,.string<|a 12])<|.int .i64 (j:Int)).run jm w=.ok (.string<|a j) w
 |0,_,w=>qkr|1,_,w=>qkr|2,_,w=>qkr|3,_,w=>qkr|4,_,w=>qkr|5,_,w=>qkr|6,_,w=>qkr|7,_,w=>qkr|8,_,w=>qkr|9,_,w=>qkr|10,_,w=>qkr|11,_,w=>qkr|12,_,w=>qkr|_+13,h,_=>absurd h ae
def Dk{a b:List UInt8}:(a==b)=(b==a):=xC
def QH{p:Prop}(h:p:=by
 subst hC;refine⟨λo=>?_,λo=>by simp;exact h.f o,by simpa[jz]using h.z⟩;by_cases e:o=j
 .subst e;rw[World.cell?_setCell_same _ _ _<|(h.c o).trans<|Array.getElem?_eq_getElem hj];simp[hj]
 .rw[World.cell?_setCell_other _ _ _ _ (by intro q;injection q with _ q;exact e q.symm),h.c o,Array.getElem?_setIfInBounds_ne ae]):p:=h
def Bx.aP(h:Bx w b C)j v C'(hC:C'=C.setIfInBounds j v)(hj:j<C.size):Bx (w.setCell ⟨b,j,none⟩ v) b C':=by
 exact QH
def signs:List ByteArray:=[⟨#[45,62]⟩,⟨#[40]⟩,⟨#[41]⟩,⟨#[44]⟩,⟨#[59]⟩,⟨#[58]⟩,⟨#[61]⟩,⟨#[124]⟩,⟨#[43]⟩,⟨#[45]⟩,⟨#[42]⟩,⟨#[60]⟩,⟨#[95]⟩]
def cX k:=signs.getD k ⟨#[]⟩
def JA{u}(h:Below w.heap.size w u)b o(hb:b<w.heap.size):u.cell? ⟨b,o,none⟩=w.cell? ⟨b,o,none⟩:=jy (a:=⟨b,o,none⟩)<|h.block b hb
def Dl(s:ByteArray)i j(k:ByteArray)(hij:i<=j)(hj:j<=s.size)(hs:s.size<=1000):
 Calls jm 212 #[.string s,.int .i64 (i:Int),.int .i64 (j:Int),.string k] w λe w'=>e=.returned (.agg #[.int .i64 (i:Int),.int .i64 (j:Int),.string k,.string<|s.extract i j])/\Below w.heap.size w w':=by
 have h1:(i:Int)<=(j:Int):=ae;have h2:(j:Int)<=(s.size:Int):=ae;go_enter func212,ntmps212
 go_wp2
 exact bodyPost_ret (v:=.agg #[.int .i64 (i:Int),.int .i64 (j:Int),.string k,.string<|s.extract i j]) (by simp[results,Tryz.results212,go_sem]) rfl ⟨rfl,(jo _ _).alloc (ja _) _⟩
def mC i j:Calls jm 258 #[.int .i64 i,.int .i64 j] w λe w'=>e=.returned (.agg #[.int .i64 2,.int .i64 i,.int .i64 j])/\Below w.heap.size w w':=by
 go_enter func258,ntmps258
 go_wp2
 exact bodyPost_ret (v:=.agg #[.int .i64 2,.int .i64 i,.int .i64 j]) (by simp[results,Tryz.results258,go_sem]) rfl ⟨rfl,(jo _ _).alloc (ja _) _⟩
structure Laid(w:World):Prop where
 words:∀j,j<13->w.cell? ⟨2,j,none⟩=some (.string<|Pu.kR j)
 signs:∀j,j<13->w.cell? ⟨0,j,none⟩=some (.string<|cX j)
 hz:3<=w.heap.size
def Laid.af{w}(h:Laid w)(hb:Below w.heap.size w w'):Laid w':=
 ⟨λj hj=>(JA hb 2 j (by have:=h.hz;omega)).trans<|h.words j hj,λj hj=>(JA hb 0 j (by have:=h.hz;omega)).trans<|h.signs j hj,jf h.hz hb.size⟩
def QI{p:Prop}(h:p:=by
 go_round
 case rel=>exact⟨j+1,ae,jT,hn2⟩
 case measure=>simp[intOf];omega):p:=h
def tE(h:Laid w)(s:ByteArray):Calls jm 257 #[.string s] w λe w'=>e=.returned (.bool<|Pu.gP s)/\w'=w:=by
 have g0:=h.words 0 ae;have g1:=h.words 1 ae;have g2:=h.words 2 ae;have g3:=h.words 3 ae;have g4:=h.words 4 ae;have g5:=h.words 5 ae;have g6:=h.words 6 ae;have g7:=h.words 7 ae;have g8:=h.words 8 ae;have g9:=h.words 9 ae;have g10:=h.words 10 ae;have g11:=h.words 11 ae;have g12:=h.words 12 ae;go_enter func257,ntmps257
 go_wp2
 go_loop[6] (λv=>∃j:Nat,j<=13/\v=.int .i64 (j:Int)/\Hid (∀i,i<j->(s.toList==(Pu.kR i).toList)=false)) (λv=>13-(intOf v).toNat)
 case atStart=>exact⟨0,ae,rfl,λi h=>ae⟩
 case round=>
  obtain⟨j,hj,rfl,nM⟩:=hrel;by_cases bz:j<13
  .have hix:=afe Pu.kR bz;have hd:(j:Int)<13:=ae
   cases he:(s.toList==(Pu.kR j).toList)with
   |true=>
    have hb:Hid (Pu.gP s=true):=Pu.ZE bz (by rw[Dk];exact he)
    go_wp2
    go_ret;exact⟨jO hb.symm,rfl⟩
   |false=>
    have hn2:Hid (∀i,i<j+1->(s.toList==(Pu.kR i).toList)=false):=λi hi=>by
     by_cases e:i=j
     .subst e;exact he
     .exact nM i ae
    go_wp2
    exact QI
  .have hb:Hid (Pu.gP s=false):=Pu.Nz (λi hi=>by rw[Dk];exact nM i ae)
   go_wp2
   go_ret;exact⟨jO hb.symm,rfl⟩
def xH(s:ByteArray):Nat->Nat
 |0=>0|k+1=>10*xH s k+(Pu.at_ s k+208)%256
def yQ(s:ByteArray):Nat:=xH s<|min s.size 9
def adj(s:ByteArray):∀k,k<=9->xH s k<=255*111111111:=by
 have:∀k,9*xH s k+255<=255*10^k:=by
  intro k
  induction k with
  |zero=>simp[xH]|succ k ih=>simp only[xH,Nat.pow_succ];omega
 intro k hk;have h:=this k;have h2:10^k<=10^9:=Nat.pow_le_pow_right ae hk;omega
inductive Nd where
 |mk(kind:Nat)(s:ByteArray)(n:Nat)(L:List Nd)(ak to at_:Nat):Nd
theorem toList_mk l:(ByteArray.mk l.toArray).toList=l:=by simp_all
abbrev gd:ByteArray:=⟨#[116,114,117,101]⟩
abbrev dH:ByteArray:=⟨#[102,97,108,115,101]⟩
abbrev yU:ByteArray:=⟨#[95]⟩
abbrev yR:ByteArray:=⟨#[40]⟩
def bH t:=
 if t.kind=1 then 1 else if t.kind=2 then 2 else if t.kind=3 then 16 else if t.kind=4 then 3
 else if bh t gd=true\/bh t dH=true then 4 else if bh t yU=true then 15 else 0
def eG(t:Pu.Tok):Nat:=if t.kind=4 then yQ t.text else 0
def NG t l:bh t ⟨l.toArray⟩=(t.kind==5&&t.text.toList==l):=by simp_all[bh]
def Jp t:bh t gd=(t.kind==5&&t.text.toList==[116,114,117,101]):=NG t _
def Di t:bh t dH=(t.kind==5&&t.text.toList==[102,97,108,115,101]):=NG t _
def Qz t:bh t yU=(t.kind==5&&t.text.toList==[95]):=NG t _
def aO t sort:=bh t yR||
 (if sort=1 then bH t==16||bH t==2 else if sort=2 then bH t==15||bH t==1||bH t==2||bH t==3||bH t==4 else bH t==1||bH t==2||bH t==3||bH t==4)
abbrev ls:ByteArray:=⟨#[]⟩
abbrev kx:ByteArray:=⟨#[41]⟩
abbrev rP:ByteArray:=⟨#[44]⟩
abbrev Fm:ByteArray:=⟨#[58]⟩
abbrev kG:ByteArray:=⟨#[45,62]⟩
abbrev gM:ByteArray:=⟨#[42]⟩
abbrev kq:ByteArray:=⟨#[43]⟩
abbrev fe:ByteArray:=⟨#[45]⟩
abbrev eQ:ByteArray:=⟨#[60]⟩
abbrev En:ByteArray:=⟨#[102,117,110]⟩
abbrev rB:ByteArray:=⟨#[108,101,116]⟩
abbrev YP:ByteArray:=⟨#[114,101,99]⟩
abbrev kIn:ByteArray:=⟨#[105,110]⟩
abbrev kIf:ByteArray:=⟨#[105,102]⟩
abbrev Pr:ByteArray:=⟨#[116,104,101,110]⟩
abbrev Ps:ByteArray:=⟨#[101,108,115,101]⟩
abbrev oN:ByteArray:=⟨#[109,97,116,99,104]⟩
abbrev Pt:ByteArray:=⟨#[119,105,116,104]⟩
abbrev acY:ByteArray:=⟨#[101,110,100]⟩
abbrev YY:ByteArray:=⟨#[124]⟩
abbrev mD:ByteArray:=⟨#[59]⟩
abbrev BI:ByteArray:=⟨#[61]⟩
abbrev my:ByteArray:=⟨#[116,121,112,101]⟩
def cE(t:Pu.Tok):Nd:=.mk (bH t) t.text (eG t) [] t.ak t.to t.ak
def Nd.add:Nd->Nd->Nat->Nd
 |.mk k s n L f _ a,y,to=>.mk k s n (L++[y]) f to a
def aq{α β:Type}(m:M α)(f:α->M β):M β:=λk=>match m k with
 |.error e=>.error e|.ok (a,k')=>f a k'
section
variable (T:List Pu.Tok)
def rA(mk:Nat->Nd):M Nd:=aq (bu T kx) λ_ k=>.ok (mk k,k)
def kB part uA sort ak a:=λk=>
 if bh (tk T k) rP=true then aq part (λb=>rA T λk'=>.mk 6 ls 0 [a,b] ak (aS T k') ak) (k+1)
 else if sort=3/\bh (tk T k) Fm=true then aq uA (λb=>rA T λk'=>.mk 14 ls 0 [a,b] ak (aS T k') ak) (k+1)
 else rA T (λ_=>a) k
def g_ part uA sort ak:=λk=>
 if sort≠1/\bh (tk T k) kx=true then .ok (.mk 5 ls 0 [] ak (aS T<|k+1) ak,k+1)
 else aq part (kB T part uA sort ak) k
def aJ part uA sort:=λk=>
 if aO (tk T k) sort=true then
  (if bh (tk T k) yR=true then g_ T part uA sort (tk T k).ak (k+1)else .ok (cE<|tk T k,k+1))
 else .error (dM<|tk T k)
def cQ(small:M Nd)(sort:Nat):Nat->Nd->M Nd
 |0,x=>λk=>.ok (x,k)|f+1,x=>λk=>if aO (tk T k) sort=true then aq small (λy k'=>cQ small sort f (x.add y<|aS T k') k') k else .ok (x,k)
def gh small sort:=λk=>if(tk T k).kind==2 then aq small (cQ T small sort T.length) k else small k
def lI uA ak(a:Nd):=λk=>
 if bh (tk T k) kG=true then aq uA (λb k'=>.ok (.mk 17 ls 0 [a,b] ak (aS T k') ak,k')) (k+1)else .ok (a,k)
def fy:Nat->M Nd
 |0=>m_ T|n+1=>λk=>aq (gh T (aJ T (fy n) (fy n) 1) 1) (lI T (fy n) (tk T k).ak) k
def du:Nat->M Nd
 |0=>m_ T|n+1=>gh T (aJ T (du n) (m_ T) 2) 2
def gi(small:M Nd)(ak:Nat):Nat->Nd->M Nd
 |0,x=>λk=>.ok (x,k)|f+1,x=>λk=>if aO (tk T k) 3=true then aq small (λy k'=>gi small ak f (.mk 8 ls 0 [x,y] ak (aS T k') ak) k') k else .ok (x,k)
def dn small:=λk=>aq small (gi T small (tk T k).ak T.length) k
def gQ(call:M Nd)(ak:Nat):Nat->Nd->M Nd
 |0,x=>λk=>.ok (x,k)|f+1,x=>λk=>if bh (tk T k) gM=true then aq call (λy k'=>gQ call ak f (.mk 7 gM 0 [x,y] ak (aS T k') ak) k') (k+1)else .ok (x,k)
def eU call:=λk=>aq call (gQ T call (tk T k).ak T.length) k
def n8(prod:M Nd)(ak:Nat):Nat->Nd->M Nd
 |0,x=>λk=>.ok (x,k)|f+1,x=>λk=>if bh (tk T k) kq=true\/bh (tk T k) fe=true then aq prod (λy k'=>n8 prod ak f (.mk 7 (tk T k).text 0 [x,y] ak (aS T k') ak) k') (k+1)else .ok (x,k)
def sJ prod:=λk=>aq prod (n8 T prod (tk T k).ak T.length) k
def oM(expr:M Nd):M Nd:=λk=>
 aq (bu T En) (λ_=>aq (db T 1) λt=>aq (bu T kG) λ_=>aq expr λe k'=>.ok (.mk 9 t.text 0 [e] (tk T k).ak (aS T k') t.ak,k')) k
def bM(expr:M Nd):M (Nat×Pu.Tok×Nd):=
 aq (bu T rB) λ_ k=>
  if bh (tk T k) YP=true then aq (db T 1) (λt=>aq (bu T BI) λ_=>aq (oM T expr) λe k'=>.ok ((11,t,e),k')) (k+1)
  else aq (db T 1) (λt=>aq (bu T BI) λ_=>aq expr λe k'=>.ok ((10,t,e),k')) k
def il(expr:M Nd):M Nd:=λk=>
 aq (bu T kIf) (λ_=>aq expr λa=>aq (bu T Pr) λ_=>aq expr λb=>aq (bu T Ps) λ_=>aq expr λc k'=>.ok (.mk 12 ls 0 [a,b,c] (tk T k).ak (aS T k') (tk T k).ak,k')) k
def kH(wv expr:M Nd):Nat->List Nd->M (List Nd)
 |0,l=>λk=>.ok (l,k)|f+1,l=>aq wv λp=>aq (bu T kG) λ_=>aq expr λe k=>
   if bh (tk T k) YY=true then kH wv expr f (l++[p,e]) (k+1)else .ok (l++[p,e],k)
def lJ(wv expr:M Nd):M Nd:=λk=>
 aq (bu T oN) (λ_=>aq expr λx=>aq (bu T Pt) λ_=>aq (kH T wv expr T.length [x]) λl=>aq (bu T acY) λ_ k'=>.ok (.mk 13 ls 0 l (tk T k).ak (aS T k') (tk T k).ak,k')) k
def li(expr:M Nd):M Nd:=λk=>
 aq (bM T expr) (λb=>aq (bu T kIn) λ_=>aq expr λf k'=>.ok (.mk b.1 b.2.1.text 0 [b.2.2,f] (tk T k).ak (aS T k') b.2.1.ak,k')) k
def mi(sum:M Nd):M Nd:=λk=>
 aq sum (λx k1=>if bh (tk T k1) eQ=true then aq sum (λy k'=>.ok (.mk 7 eQ 0 [x,y] (tk T k).ak (aS T k') (tk T k).ak,k')) (k1+1)else .ok (x,k1)) k
def bO:Nat->M Nd
 |0=>m_ T|n+1=>λk=>
  if bh (tk T k) En=true then oM T (bO n) k
  else if bh (tk T k) kIf=true then il T (bO n) k
  else if bh (tk T k) oN=true then lJ T (du T n) (bO n) k
  else if bh (tk T k) rB=true then li T (bO n) k
  else mi T (sJ T<|eU T<|dn T<|aJ T (bO n) (fy T n) 3) k
end
structure NV where
 k:Int
 s:ByteArray
 n:Int
 la:Option Addr
 ll:Nat
 lc:Nat
 f:Int
 t:Int
 a:Int
section
variable {T:List Pu.Tok} {σ:St}
def pi{t}(h:bh t s=true):t.kind=5:=by simp[bh]at h;exact h.1
end
def Bx.at(w:World)C t b(hb:b=w.heap.size):Bx (w.alloc<|.cells C t) b C:=by subst hb;exact Bx.new w C t
def Bx.rK(h:Bx w b C)j v C'(hC:C'=C.setIfInBounds j v)(hj:j<C.size):Bx (w.setCell ⟨b,j,none⟩ v) b C':=by
 exact QH
def Bx.oe{b2}(h:Bx w b C)(hn:b≠b2)j v:Bx (w.setCell ⟨b2,j,none⟩ v) b C:=
 h.same C9 (jp _ _ _ _ hn)
def Bx.UX(h:Bx w b C)(hC:C.size=7)v0 v1 v2 v3 v4 v5 v6:Bx (((((((w.setCell ⟨b,0,none⟩ v0).setCell ⟨b,1,none⟩ v1).setCell ⟨b,2,none⟩ v2).setCell ⟨b,3,none⟩ v3).setCell ⟨b,4,none⟩ v4).setCell ⟨b,5,none⟩ v5).setCell ⟨b,6,none⟩ v6) b #[v0,v1,v2,v3,v4,v5,v6]:=by
 obtain⟨a0,a1,a2,a3,a4,a5,a6,rfl⟩:∃a0 a1 a2 a3 a4 a5 a6,C=#[a0,a1,a2,a3,a4,a5,a6]:=by
  obtain⟨l⟩:=C
  match l,hC with
  |[a,b,c,d,e,f,g],_=>grind
 exact((((((h.rK 0 v0 #[v0,a1,a2,a3,a4,a5,a6] rfl ag).rK 1 v1 #[v0,v1,a2,a3,a4,a5,a6] rfl ag).rK 2 v2 #[v0,v1,v2,a3,a4,a5,a6] rfl ag).rK 3 v3 #[v0,v1,v2,v3,a4,a5,a6] rfl ag).rK 4 v4 #[v0,v1,v2,v3,v4,a5,a6] rfl ag).rK 5 v5 #[v0,v1,v2,v3,v4,v5,a6] rfl ag).rK 6 v6 #[v0,v1,v2,v3,v4,v5,v6] rfl ag
def Bx.aff{b'}(h:Bx w b' C)(hn:b'≠b)v0 v1 v2 v3 v4 v5 v6:Bx (((((((w.setCell ⟨b,0,none⟩ v0).setCell ⟨b,1,none⟩ v1).setCell ⟨b,2,none⟩ v2).setCell ⟨b,3,none⟩ v3).setCell ⟨b,4,none⟩ v4).setCell ⟨b,5,none⟩ v5).setCell ⟨b,6,none⟩ v6) b' C:=
 ((((((h.oe hn 0 v0).oe hn 1 v1).oe hn 2 v2).oe hn 3 v3).oe hn 4 v4).oe hn 5 v5).oe hn 6 v6
def Fq{α:Type}(m:M α):=∀k a k',m k=.ok (a,k')->k<=k'
def ftV(k i j:Int):Value:=.agg #[.int .i64 k,.int .i64 i,.int .i64 j]
abbrev zY:Array Value:=#[.int .i64 0,.int .i64 0,.string ⟨#[]⟩,.string ⟨#[]⟩]
def Bx.ni{w}(h:Bx w b C)(hC:C.size=4)v0 v1 v2 v3:Bx ((((w.setCell ⟨b,0,none⟩ v0).setCell ⟨b,1,none⟩ v1).setCell ⟨b,2,none⟩ v2).setCell ⟨b,3,none⟩ v3) b #[v0,v1,v2,v3]:=by
 obtain⟨a0,a1,a2,a3,rfl⟩:∃a0 a1 a2 a3,C=#[a0,a1,a2,a3]:=by
  obtain⟨l⟩:=C
  match l,hC with
  |[a,b,c,d],_=>grind
 exact(((h.aP 0 v0 #[v0,a1,a2,a3] rfl ag).aP 1 v1 #[v0,v1,a2,a3] rfl ag).aP 2 v2 #[v0,v1,v2,a3] rfl ag).aP 3 v3 #[v0,v1,v2,v3] rfl ag
def _root_.Go.RowKit.Below.ni{B}{w}(h:Below B a w)(hb:B<=b)v0 v1 v2 v3:Below B a ((((w.setCell ⟨b,0,none⟩ v0).setCell ⟨b,1,none⟩ v1).setCell ⟨b,2,none⟩ v2).setCell ⟨b,3,none⟩ v3):=
 (((h.setCell hb v0).setCell hb v1).setCell hb v2).setCell hb v3
def JB(h:Laid w)(s:ByteArray)i(hi:i<s.size)(hs:s.size<=1000):
 Calls jm 210 #[.string s,.int .i64 (i:Int)] w λe w'=>e=.returned (dF<|if Pu.gP (s.extract i<|Pu.aG s Pu.a_ i)=true then Pu.gS s i 5 (Pu.aG s Pu.a_ i)else Pu.gS s i 1 (Pu.aG s Pu.a_ i))/\Below w.heap.size w w':=by
 have hle:=Pu.gu (s:=s) Pu.a_ (i:=i) ae;have Ij:=Pu.eX s Pu.a_ i;have H:=h.af<|(jo w.heap.size w).alloc (ja _)<|.cells zY 229;have B0:=Bx.new w zY 229;have HB:=(jo w.heap.size w).alloc (ja _)<|.cells zY 229;have h1:(i:Int)<=((Pu.aG s Pu.a_ i:Nat):Int):=ae;have h2:((Pu.aG s Pu.a_ i:Nat):Int)<=(s.size:Int):=ae
 cases hw:Pu.gP (s.extract i<|Pu.aG s Pu.a_ i)with
 |true=>
  go_enter func210,ntmps210;go_wp2_with(first|(go_at_call 207;refine(lB (Or.inr<|Or.inl ⟨rfl,rfl⟩) s i _ hs ae).mono ?_;rintro e w'⟨rfl,rfl⟩)|(go_at_call 257;refine(tE H _).mono ?_;rintro e w'⟨rfl,rfl⟩)|(go_at_call 212;refine(Dl s i _ _ Ij hle hs).mono ?_;rintro e w1⟨rfl,hb⟩;have B1:=ai<|B0.below hb;have eN:=ai<|HB.trans<|hb.mono ag;have⟨c1,f1,y1⟩:=uh B1;clear hb));have BF:=B1.ni rfl (.int .i64 (i:Int)) (.int .i64 ((Pu.aG s Pu.a_ i:Nat):Int)) (.string<|s.extract i<|Pu.aG s Pu.a_ i) (.string<|s.extract i<|Pu.aG s Pu.a_ i);obtain⟨cF,fF,zF⟩:=BF;refine bodyPost_ret (v:=dF<|Pu.gS s i 5<|Pu.aG s Pu.a_ i) (by simp[results,Tryz.results210,go_sem,cF,dF,Pu.gS,aw]) rfl ⟨ag,eN.ni (Nat.le_refl _) _ _ _ _⟩
 |false=>
  go_enter func210,ntmps210;go_wp2_with(first|(go_at_call 207;refine(lB (Or.inr<|Or.inl ⟨rfl,rfl⟩) s i _ hs ae).mono ?_;rintro e w'⟨rfl,rfl⟩)|(go_at_call 257;refine(tE H _).mono ?_;rintro e w'⟨rfl,rfl⟩)|(go_at_call 212;refine(Dl s i _ _ Ij hle hs).mono ?_;rintro e w1⟨rfl,hb⟩;have B1:=ai<|B0.below hb;have eN:=ai<|HB.trans<|hb.mono ag;have⟨c1,f1,y1⟩:=uh B1;clear hb));have BF:=B1.ni rfl (.int .i64 (i:Int)) (.int .i64 ((Pu.aG s Pu.a_ i:Nat):Int)) (.string ⟨#[108,111,119,32,110,97,109,101]⟩) (.string<|s.extract i<|Pu.aG s Pu.a_ i);obtain⟨cF,fF,zF⟩:=BF;refine bodyPost_ret (v:=dF<|Pu.gS s i 1<|Pu.aG s Pu.a_ i) (by simp[results,Tryz.results210,go_sem,cF,dF,Pu.gS,aw]) rfl ⟨ag,eN.ni (Nat.le_refl _) _ _ _ _⟩
def eI t w(e:Ending)w':=
 Below w.heap.size w w'/\((t.kind≠6/\e=.returned (dF t))\/(t.kind=6/\e=.panicked [{v:=.iface 224<|.agg #[.int .i64 2,.int .i64 (t.ak:Int),.int .i64 (t.to:Int)],recovered:=false}]))
def ZM(s:ByteArray)i(hi:i<s.size)(hs:s.size<=1000):
 Calls jm 215 #[.string s,.int .i64 (i:Int)] w (eI (if Pu.aG s Pu.dV i-i<=9 then Pu.gS s i 4 (Pu.aG s Pu.dV i)else Pu.gS s i 6 (Pu.aG s Pu.dV i)) w):=by
 have hle:=Pu.gu (s:=s) Pu.dV (i:=i) ae;have Ij:=Pu.eX s Pu.dV i;have B0:=Bx.new w zY 229;have HB:=(jo w.heap.size w).alloc (ja _)<|.cells zY 229;by_cases hd:Pu.aG s Pu.dV i-i<=9
 .have h1:¬(9:Int)<((Pu.aG s Pu.dV i:Nat):Int)-(i:Int):=ae;rw[if_pos hd];go_enter func215,ntmps215;go_wp2_with(first|(go_at_call 207;refine(lB (Or.inr<|Or.inr ⟨rfl,rfl⟩) s i _ hs ae).mono ?_;rintro e w'⟨rfl,rfl⟩)|(go_at_call 212;refine(Dl s i _ _ Ij hle hs).mono ?_;rintro e w1⟨rfl,hb⟩;have B1:=ai<|B0.below hb;have eN:=ai<|HB.trans<|hb.mono ag;have⟨c1,f1,y1⟩:=uh B1;clear hb));have BF:=B1.ni rfl (.int .i64 (i:Int)) (.int .i64 ((Pu.aG s Pu.dV i:Nat):Int)) (.string ⟨#[97,32,110,117,109,98,101,114]⟩) (.string<|s.extract i<|Pu.aG s Pu.dV i);obtain⟨cF,fF,zF⟩:=BF;exact bodyPost_ret (v:=dF<|Pu.gS s i 4<|Pu.aG s Pu.dV i) (by simp[results,Tryz.results215,go_sem,cF,dF,Pu.gS,aw]) rfl ⟨eN.ni (Nat.le_refl _) _ _ _ _,Or.inl ⟨by simp[Pu.gS],rfl⟩⟩
 .have h1:(9:Int)<((Pu.aG s Pu.dV i:Nat):Int)-(i:Int):=ae;rw[if_neg hd];go_enter func215,ntmps215;go_wp2_with(first|(go_at_call 207;refine(lB (Or.inr<|Or.inr ⟨rfl,rfl⟩) s i _ hs ae).mono ?_;rintro e w'⟨rfl,rfl⟩)|(go_at_call 258;refine(mC _ _).mono ?_;rintro e w1⟨rfl,hb⟩;have eN:=ai<|HB.trans<|hb.mono ag;clear hb));exact⟨rfl,eN,Or.inr ⟨rfl,rfl⟩⟩
def kS(s:ByteArray)i:=
 if Pu.gI (Pu.at_ s<|i+1)=true then(if Pu.gP (s.extract (i+1)<|Pu.aG s Pu.a_<|i+1)=true then Pu.gS s i 6 (Pu.aG s Pu.a_<|i+1)else Pu.gS s i 3 (Pu.aG s Pu.a_<|i+1))else Pu.gS s i 6 (i+1)
def ajn(h:Laid w)(s:ByteArray)i(hi:i<s.size)(hs:s.size<=1000):
 Calls jm 216 #[.string s,.int .i64 (i:Int)] w (eI (kS s i) w):=by
 have B0:=Bx.new w zY 229;have HB:=(jo w.heap.size w).alloc (ja _)<|.cells zY 229;have H:=h.af HB;by_cases hn:i+1<s.size
 .have he:(((i:Int)+1)==(s.size:Int))=false:=bP;have Me:=Pu.o_ hn
  cases nN:Pu.gI s[i+1].toNat with
  |false=>
   have ht:kS s i=Pu.gS s i 6 (i+1):=by rw[kS];rw[Me,nN];simp
   rw[ht];go_enter func216,ntmps216;go_wp2_with(first|(go_at_call 209;refine(iL _ _).mono ?_;rintro e w'⟨rfl,rfl⟩)|(go_at_call 258;refine(mC _ _).mono ?_;rintro e w1⟨rfl,hb⟩;have eN:=ai<|HB.trans<|hb.mono ag;clear hb));exact⟨rfl,eN,Or.inr ⟨rfl,rfl⟩⟩
  |true=>
   have hle:=Pu.gu (s:=s) Pu.a_ (i:=i+1) ae;have Ij:=Pu.eX s Pu.a_<|i+1;have h1:(i:Int)+1<=((Pu.aG s Pu.a_ (i+1):Nat):Int):=ae;have h2:((Pu.aG s Pu.a_ (i+1):Nat):Int)<=(s.size:Int):=ae
   cases hw:Pu.gP (s.extract (i+1)<|Pu.aG s Pu.a_<|i+1)with
   |true=>
    have ht:kS s i=Pu.gS s i 6 (Pu.aG s Pu.a_<|i+1):=by rw[kS];rw[Me,nN,hw];simp
    rw[ht];go_enter func216,ntmps216;go_wp2_with(first|(go_at_call 209;refine(iL _ _).mono ?_;rintro e w'⟨rfl,rfl⟩)|(go_at_call 207;refine(lB (Or.inr<|Or.inl ⟨rfl,rfl⟩) s (i+1) _ hs ae).mono ?_;rintro e w'⟨rfl,rfl⟩)|(go_at_call 257;refine(tE H _).mono ?_;rintro e w'⟨rfl,rfl⟩)|(go_at_call 258;refine(mC _ _).mono ?_;rintro e w1⟨rfl,hb⟩;have eN:=ai<|HB.trans<|hb.mono ag;clear hb));exact⟨rfl,eN,Or.inr ⟨rfl,rfl⟩⟩
   |false=>
    have ht:kS s i=Pu.gS s i 3 (Pu.aG s Pu.a_<|i+1):=by rw[kS];rw[Me,nN,hw];simp
    rw[ht];go_enter func216,ntmps216;go_wp2_with(first|(go_at_call 209;refine(iL _ _).mono ?_;rintro e w'⟨rfl,rfl⟩)|(go_at_call 207;refine(lB (Or.inr<|Or.inl ⟨rfl,rfl⟩) s (i+1) _ hs ae).mono ?_;rintro e w'⟨rfl,rfl⟩)|(go_at_call 257;refine(tE H _).mono ?_;rintro e w'⟨rfl,rfl⟩)|(go_at_call 212;refine(Dl s i _ _ ae hle hs).mono ?_;rintro e w1⟨rfl,hb⟩;have B1:=ai<|B0.below hb;have eN:=ai<|HB.trans<|hb.mono ag;have⟨c1,f1,y1⟩:=uh B1;clear hb));have BF:=B1.ni rfl (.int .i64 (i:Int)) (.int .i64 ((Pu.aG s Pu.a_ (i+1):Nat):Int)) (.string ⟨#[97,32,118,97,114,105,97,98,108,101]⟩) (.string<|s.extract i<|Pu.aG s Pu.a_<|i+1);obtain⟨cF,fF,zF⟩:=BF;exact bodyPost_ret (v:=dF<|Pu.gS s i 3<|Pu.aG s Pu.a_<|i+1) (by simp[results,Tryz.results216,go_sem,cF,dF,Pu.gS,aw]) rfl ⟨eN.ni (Nat.le_refl _) _ _ _ _,Or.inl ⟨by simp[Pu.gS],rfl⟩⟩
 .have he:(((i:Int)+1)==(s.size:Int))=true:=bP;have ht:kS s i=Pu.gS s i 6 (i+1):=by
   rw[kS];rw[Pu.QE ae];rfl
  rw[ht];go_enter func216,ntmps216;go_wp2_with(first|(go_at_call 258;refine(mC _ _).mono ?_;rintro e w1⟨rfl,hb⟩;have eN:=ai<|HB.trans<|hb.mono ag;clear hb));exact⟨rfl,eN,Or.inr ⟨rfl,rfl⟩⟩
def preB(s p:ByteArray):Bool:=decide (p.size<=s.size)&&((s.extract 0 p.size).toList==p.toList)
def lY(s:ByteArray)i k:=
 if k=0 then(Pu.at_ s i==45&&Pu.at_ s (i+1)==62)else Pu.at_ s i==((cX k)[0]!).toNat
def lP(s:ByteArray)i:=
 if Pu.at_ s i=45/\Pu.at_ s (i+1)=62 then Pu.gS s i 5 (i+2)
 else if Pu.Jy (Pu.at_ s i)=true then Pu.gS s i 5 (i+1)else Pu.gS s i 6 (i+1)
def wG{a b:ByteArray}(h:(a.toList==b.toList)=true):a=b:=by
 rw[beq_iff_eq,ByteArray.toList_eq,ByteArray.toList_eq]at h;exact jl<|Array.toList_inj.1 h
def ald(h:i<s.size):s.extract i (i+1)=⟨#[s[i]]⟩:=by
 apply jl;apply Array.ext
 .simp;omega
 .intro j h1 h2;have:j=0:=by simp at h2;omega
  subst this;simp[jk];rfl
def ale(h:i+1<s.size):s.extract i (i+2)=⟨#[s[i],s[i+1]]⟩:=by
 apply jl;apply Array.ext
 .simp;omega
 .intro j h1 h2;have:j=0\/j=1:=by simp at h2;omega
  obtain rfl|rfl:=this
  .simp[jk];rfl
  .simp[jk];rfl
def QJ{p:Prop}(h:p:=by
 intro h;have:=congrArg (λb:ByteArray=>b.data)<|wG h;simp at this
 simp[this]):p:=h
def xI(hi:i<s.size)c:preB (s.extract i s.size) ⟨#[c]⟩=(Pu.at_ s i==c.toNat):=by
 have hz:(⟨#[c]⟩:ByteArray).size=1:=rfl;rw[preB];rw[hz,jj,show min (i+1) s.size=i+1 by omega,jh,ald hi,Pu.o_ hi,ji];rw[decide_eq_true ae,Bool.true_and,jv];constructor
 .exact QJ
 .intro h;rw[beq_iff_eq]at h;rw[UInt8.toNat_inj.1 h];simp
def alf(hi:i<s.size)c d:preB (s.extract i s.size) ⟨#[c,d]⟩=(Pu.at_ s i==c.toNat&&Pu.at_ s (i+1)==d.toNat):=by
 have hz:(⟨#[c,d]⟩:ByteArray).size=2:=rfl;rw[preB];rw[hz];by_cases hn:i+1<s.size
 .rw[jj,show min (i+2) s.size=i+2 by omega,jh,ale hn,Pu.o_ hi,Pu.o_ hn,ji];rw[decide_eq_true ae,Bool.true_and,jv];constructor
  .exact QJ
  .intro h;rw[jx,beq_iff_eq,beq_iff_eq]at h;rw[UInt8.toNat_inj.1 h.1,UInt8.toNat_inj.1 h.2];simp
 .rw[ji,decide_eq_false ae,Pu.QE (s:=s) (i:=i+1) ae];have:(256==d.toNat)=false:=by have:=UInt8.toNat_lt d;simp;omega
  rw[this];simp
def QK(hi:i<s.size):∀k,k<13->preB (s.extract i s.size) (cX k)=lY s i k
 |0,_=>alf hi 45 62|1,_=>xI hi _|2,_=>xI hi _|3,_=>xI hi _|4,_=>xI hi _|5,_=>xI hi _|6,_=>xI hi _|7,_=>xI hi _|8,_=>xI hi _|9,_=>xI hi _|10,_=>xI hi _|11,_=>xI hi _|12,_=>xI hi _|k+13,h=>absurd h ae
def agX:∀k,0<k->k<13->(∀j,j<k->lY s i j=false)->lY s i k=true->lP s i=Pu.gS s i 5 (i+1):=by
 intro k h0 hk nM hh;rw[lP];have n0:=nM 0 h0;rw[if_neg (by intro q;simp[lY,q.1,q.2]at n0)];have:Pu.Jy (Pu.at_ s i)=true:=by
  have hc:k=1\/k=2\/k=3\/k=4\/k=5\/k=6\/k=7\/k=8\/k=9\/k=10\/k=11\/k=12:=ae;rw[lY]at hh;rw[if_neg ae,beq_iff_eq]at hh;rw[hh];obtain rfl|rfl|rfl|rfl|rfl|rfl|rfl|rfl|rfl|rfl|rfl|rfl:=hc<;>decide
 rw[if_pos this]
def ajo(h:lY s i 0=true):lP s i=Pu.gS s i 5 (i+2):=by grind[lY,lP]
def agY(h:∀j,j<13->lY s i j=false):lP s i=Pu.gS s i 6 (i+1):=by
 rw[lP];have n0:=h 0 ae;rw[if_neg (by intro q;simp[lY,q.1,q.2]at n0)];have:Pu.Jy (Pu.at_ s i)=false:=by
  rw[Pu.Jy];rw[ju];intro x hx;simp only[List.mem_cons,List.not_mem_nil,or_false]at hx;intro q;rw[beq_iff_eq]at q;have H:∀k,0<k->k<13->((cX k)[0]!).toNat=x->False:=λk h0 hk e=>by
   have:=h k hk;rw[lY]at this;rw[if_neg ae,e,q]at this;simp at this
  obtain rfl|rfl|rfl|rfl|rfl|rfl|rfl|rfl|rfl|rfl|rfl|rfl:=hx
  .exact H 1 ae ae rfl
  .exact H 2 ae ae rfl
  .exact H 3 ae ae rfl
  .exact H 4 ae ae rfl
  .exact H 5 ae ae rfl
  .exact H 6 ae ae rfl
  .exact H 7 ae ae rfl
  .exact H 8 ae ae rfl
  .exact H 9 ae ae rfl
  .exact H 10 ae ae rfl
  .exact H 11 ae ae rfl
  .exact H 12 ae ae rfl
 rw[this];rfl
def ZN(hi:i<s.size)(hk:k<13)(h:lY s i k=true):i+(cX k).size<=s.size/\s.extract i (i+(cX k).size)=cX k:=by
 rw[<-QK hi k hk]at h;rw[preB]at h;rw[jx,decide_eq_true_iff,ji]at h;have hz:i+(cX k).size<=s.size:=ae;refine⟨hz,?_⟩;have:=wG h.2
 rwa[jj,jh,Nat.min_eq_left hz]at this
def ZO:∀{k:Nat},k<13->1<=(cX k).size/\(cX k).size<=2:=λ{k}h=>(by decide:∀k:Fin 13,1<=(cX k.1).size/\(cX k.1).size<=2) ⟨k,h⟩
def agZ:∀{k:Nat},0<k->k<13->(cX k).size=1:=λ{k}h0 h=>(by decide:∀k:Fin 13,0<k.1->(cX k.1).size=1) ⟨k,h⟩ h0
def adt(hk:k<13)(h:∀j,j<k->lY s i j=false)(hh:lY s i k=true):lP s i=Pu.gS s i 5 (i+(cX k).size):=by
 obtain rfl|h0:=Nat.eq_zero_or_pos k
 .exact ajo hh
 .rw[agZ h0 hk];exact agX k h0 hk h hh
def QL{p:Prop}(h:p:=by
 go_enter func278,ntmps278
 go_wp2
 go_ret
 exact⟨jO<|by simp[preB,hz],rfl⟩):p:=h
def ag0(s p:ByteArray)(hs:s.size<=1000)(hp:p.size<=2):Calls jm 278 #[.string s,.string p] w λe w'=>e=.returned (.bool<|preB s p)/\w'=w:=by
 by_cases h:p.size<=s.size
 .have h1:(p.size:Int)<=(s.size:Int):=ae;have hz:decide (p.size<=s.size)=true:=by simp[h]
  exact QL
 .have h1:¬(p.size:Int)<=(s.size:Int):=ae;have hz:decide (p.size<=s.size)=false:=bP;exact QL
def ZP(s p:ByteArray)(hs:s.size<=1000)(hp:p.size<=2):Calls jm 259 #[.string s,.string p] w λe w'=>e=.returned (.bool<|preB s p)/\w'=w:=by
 go_enter func259,ntmps259;go_wp2_with(go_at_call 278;refine(ag0 s p hs hp).mono ?_;rintro e w'⟨rfl,rfl⟩);go_ret;exact⟨jO rfl,rfl⟩
def Dm(s:ByteArray)i k(hi:i<s.size)(hs:s.size<=1000)(hk:k<13)(hz:(cX k).size<=2):Calls jm 259 #[.string<|s.extract i s.size,.string<|cX k] w λe w'=>e=.returned (.bool<|lY s i k)/\w'=w:=by
 rw[<-QK hi k hk];exact ZP _ _ qBo hz
def ag1(h:Laid w)(s:ByteArray)(i:Nat)(hi:i<s.size)(hs:s.size<=1000):
 Calls jm 217 #[.string s,.int .i64 (i:Int)] w (eI (lP s i) w):=by
 have B0:=Bx.new w zY 229;have HB:=(Below.refl w.heap.size w).alloc (Nat.le_refl _)<|.cells zY 229;have H:=h.af HB;have hi1:(i:Int)<=(s.size:Int):=ae;have g0:=H.signs 0 ae;have g1:=H.signs 1 ae;have g2:=H.signs 2 ae;have g3:=H.signs 3 ae;have g4:=H.signs 4 ae;have g5:=H.signs 5 ae;have g6:=H.signs 6 ae;have g7:=H.signs 7 ae;have g8:=H.signs 8 ae;have g9:=H.signs 9 ae;have g10:=H.signs 10 ae;have g11:=H.signs 11 ae;have g12:=H.signs 12 ae;clear h H;go_enter func217,ntmps217
 go_wp2
 go_loop[8] (λv=>∃j:Nat,j<=13/\v=.int .i64 (j:Int)/\Hid (∀m,m<j->lY s i m=false)) (λv=>13-(intOf v).toNat)
 case atStart=>exact⟨0,ae,rfl,λi h=>ae⟩
 case round=>
  obtain⟨j,hj,rfl,nM⟩:=hrel;by_cases bz:j<13
  .have hix:=afe cX bz;have hd:(j:Int)<13:=ae;have hz:=ZO bz;obtain⟨n,hn⟩:∃n,n=(cX j).size:=⟨_,rfl⟩;rw[<-hn]at hz
   cases he:lY s i j with
   |true=>
    have ht:=ai<|adt bz nM he;have hx:=ZN hi bz he;rw[<-hn]at hx ht;have hle:=hx.1;have hxe:=ai hx.2;have IA:((cX j).size:Int)=(n:Int):=by rw[hn]
    have ho:(i:Int)+(n:Int)<=1000:=ae;clear hx hn;go_wp2_with(first|(go_at_call 259;refine(Dm s i j hi hs bz ae).mono ?_;rintro e w'⟨rfl,rfl⟩)|(go_at_call 212;refine(Dl s i (i+n) _ ae hle hs).mono ?_;rintro e w1⟨rfl,hb⟩;have B1:=ai<|B0.below hb;have eN:=ai<|HB.trans<|hb.mono ag;have⟨c1,f1,y1⟩:=uh B1;clear hb));have BF:=B1.ni rfl (.int .i64 (i:Int)) (.int .i64<|(i:Int)+n) (.string<|cX j) (.string<|s.extract i<|i+n);obtain⟨cF,fF,zF⟩:=BF;rw[uh ht];refine bodyPost_ret (v:=dF<|Pu.gS s i 5<|i+n) ?_ rfl ⟨eN.ni (ja _) _ _ _ _,j7 ⟨by simp[Pu.gS],rfl⟩⟩;have hk:aw (Pu.gS s i 5<|i+n)=cX j:=uh hxe;simp only[dF,hk];simp[results,Tryz.results217,go_sem,cF,Pu.gS]
   |false=>
    have hn2:Hid (∀m,m<j+1->lY s i m=false):=λm hm=>by
     by_cases e:m=j
     .subst e;exact he
     .exact nM m ae
    go_wp2_with(go_at_call 259;refine(Dm s i j hi hs bz ae).mono ?_;rintro e w'⟨rfl,rfl⟩);exact QI
  .have ht:=ai<|agY (s:=s) (i:=i)<|λm hm=>nM m ae;go_wp2_with(go_at_call 258;refine(mC _ _).mono ?_;rintro e w1⟨rfl,hb⟩;have eN:=ai<|HB.trans<|hb.mono ag;clear hb);rw[uh ht];exact⟨rfl,eN,j6 ⟨rfl,rfl⟩⟩
def aD(s:ByteArray)i:=if Pu.aG s dJ i<s.size then Pu.dr s (Pu.aG s dJ i)else Pu.fD s
def NH(s:ByteArray)p:∀n i,s.size-i=n->Pu.aG s p i<s.size->p (Pu.at_ s<|Pu.aG s p i)=false:=by
 intro n
 induction n with
 |zero=>intro i h hl;rw[Pu.mz ae]at hl;omega|succ n ih=>
  intro i h hl
  cases hp:p (Pu.at_ s i)with
  |true=>rw[Pu.fP ae hp]at hl⊢;exact ih (i+1) ae hl|false=>rw[Pu.th ae hp];exact hp
def UY(s:ByteArray):∀n i,s.size-i=n->Pu.bG s i=Pu.bG s (Pu.aG s dJ i):=by
 intro n
 induction n with
 |zero=>intro i h;rw[Pu.mz ae]|succ n ih=>
  intro i h
  cases hp:dJ (Pu.at_ s i)with
  |true=>rw[Pu.fP ae hp,Pu.ND ae hp];exact ih (i+1) ae|false=>rw[Pu.th ae hp]
def mw(s:ByteArray)i(hi:i<=s.size):Pu.bG s i=if(aD s i).kind=7 then[Pu.fD s]else aD s i::Pu.bG s (aD s i).to:=by
 rw[UY s _ i rfl];unfold aD;by_cases h:Pu.aG s dJ i<s.size
 .rw[if_pos h,if_neg,Pu.ZL h<|NH s dJ _ i rfl h];unfold Pu.dr Pu.gS;repeat' split
  all_goals simp
 .rw[if_neg h,if_pos<|show(Pu.fD s).kind=7 from rfl,Pu.ZK ae]
def eI.ok{t:Pu.Tok}(h:eI t w e w')(hk:t.kind≠6):e=.returned (.agg #[.int .i64 (t.ak:Int),.int .i64 (t.to:Int),.string<|aw t,.string t.text])/\Below w.heap.size w w':=by
 obtain⟨hb,⟨_,he⟩|⟨hn,_⟩⟩:=h
 .exact⟨he,hb⟩
 .exact absurd hn hk
def eI.bad{t:Pu.Tok}(h:eI t w e w')(hk:t.kind=6):e=.panicked [{v:=.iface 224<|.agg #[.int .i64 2,.int .i64 (t.ak:Int),.int .i64 (t.to:Int)],recovered:=false}]/\Below w.heap.size w w':=by grind[eI]
def UZ(hi:i<s.size)(hd:Pu.dV (Pu.at_ s i)=true):Pu.dr s i=(if Pu.aG s Pu.dV i-i<=9 then Pu.gS s i 4 (Pu.aG s Pu.dV i)else Pu.gS s i 6 (Pu.aG s Pu.dV i)):=by
 have UF:=hd;simp[Pu.dV]at UF;rw[Pu.dr];rw[if_neg (by simp[Pu.gI];omega),if_neg (by simp[Pu.Ei];omega),if_neg (by intro q;omega),if_pos hd,Pu.fP hi hd]
def U0(hd:Pu.at_ s i=39):Pu.dr s i=kS s i:=by
 rw[Pu.dr,kS];rw[hd,if_neg aH,if_neg aH];by_cases hl:Pu.gI (Pu.at_ s<|i+1)=true
 .grind
 .rw[if_neg<|λq=>hl q.2,if_neg hl,if_neg aH,if_neg (by intro q;exact absurd q.1 aH),if_neg aH]
def U6(h1:Pu.gI (Pu.at_ s i)=false)(h2:Pu.Ei (Pu.at_ s i)=false)(h3:Pu.dV (Pu.at_ s i)=false)(h4:Pu.at_ s i≠39):Pu.dr s i=lP s i:=by
 rw[Pu.dr,lP];rw[if_neg<|by simp[h1],if_neg<|by simp[h2],if_neg<|λq=>h4 q.1,if_neg<|by simp[h3]]
def ZQ(h1:Pu.gI (Pu.at_ s i)=false)(h2:Pu.Ei (Pu.at_ s i)=true):Pu.dr s i=Pu.gS s i 2 (Pu.aG s Pu.a_ i):=by
 rw[Pu.dr];rw[if_neg<|by simp[h1],if_pos h2]
def U7(h1:Pu.gI (Pu.at_ s i)=true):Pu.dr s i=(if Pu.gP (s.extract i<|Pu.aG s Pu.a_ i)=true then Pu.gS s i 5 (Pu.aG s Pu.a_ i)else Pu.gS s i 1 (Pu.aG s Pu.a_ i)):=by
 rw[Pu.dr];rw[if_pos h1]
def Jf(h:Laid w)(s:ByteArray)i(hi:i<=s.size)(hs:s.size<=1000):
 Calls jm 134 #[.string s,.int .i64 (i:Int)] w (eI (aD s i) w):=by
 have B0:=Bx.new w zY 229;have HB:=(jo w.heap.size w).alloc (ja _)<|.cells zY 229;have H:=h.af HB;clear h;have E:=λW=>lB (j7 ⟨rfl,rfl⟩) s i W hs hi;have hle:=Pu.gu (s:=s) dJ hi;have Ij:=Pu.eX s dJ i;rw[aD];generalize Pu.aG s dJ i=j at E hle Ij⊢;by_cases hj:j<s.size
 .have he:((j:Int)==(s.size:Int))=false:=bP;rw[if_pos hj];have Me:=Pu.o_ hj;have go:∀(T:Pu.Tok)(fn:Nat),(fn=210/\Pu.gI s[j].toNat=true\/Pu.gI s[j].toNat=false/\Pu.Ei s[j].toNat=false/\(fn=215/\Pu.dV s[j].toNat=true\/Pu.dV s[j].toNat=false/\(fn=216/\((s[j].toNat:Int)==39)=true\/fn=217/\((s[j].toNat:Int)==39)=false)))->(∀W,Laid W->Calls jm fn #[.string s,.int .i64 (j:Int)] W (eI T W))->Calls jm 134 #[.string s,.int .i64 (i:Int)] w (eI T w):=by
   intro T fn hq C;clear Me;by_cases hk:T.kind=6
   .obtain⟨rfl,h1⟩|⟨h1,h2,⟨rfl,h3⟩|⟨h3,⟨rfl,h4⟩|⟨rfl,h4⟩⟩⟩:=hq;all_goals
     go_enter func134,ntmps134;go_wp2_with(first|(go_at_call 207;with_reducible refine(E _).mono ?_;rintro e w'⟨rfl,rfl⟩)|(go_at_call 209;refine(iL _ _).mono ?_;rintro e w'⟨rfl,rfl⟩)|(go_at_call 211;refine(tD _ _).mono ?_;rintro e w'⟨rfl,rfl⟩)|(go_at_call 214;refine(mA _ _).mono ?_;rintro e w'⟨rfl,rfl⟩)|((first|go_at_call 210|go_at_call 215|go_at_call 216|go_at_call 217);refine(C _ H).mono ?_;intro e w1 hp;obtain⟨rfl,hb⟩:=hp.bad hk;have eN:=ai<|HB.trans<|hb.mono ag;clear hb));exact⟨rfl,eN,Or.inr ⟨hk,rfl⟩⟩
   .obtain⟨rfl,h1⟩|⟨h1,h2,⟨rfl,h3⟩|⟨h3,⟨rfl,h4⟩|⟨rfl,h4⟩⟩⟩:=hq;all_goals
     go_enter func134,ntmps134;go_wp2_with(first|(go_at_call 207;with_reducible refine(E _).mono ?_;rintro e w'⟨rfl,rfl⟩)|(go_at_call 209;refine(iL _ _).mono ?_;rintro e w'⟨rfl,rfl⟩)|(go_at_call 211;refine(tD _ _).mono ?_;rintro e w'⟨rfl,rfl⟩)|(go_at_call 214;refine(mA _ _).mono ?_;rintro e w'⟨rfl,rfl⟩)|((first|go_at_call 210|go_at_call 215|go_at_call 216|go_at_call 217);refine(C _ H).mono ?_;intro e w1 hp;obtain⟨rfl,hb⟩:=hp.ok hk;have B1:=ai<|B0.below hb;have eN:=ai<|HB.trans<|hb.mono ag;have⟨c1,f1,y1⟩:=uh B1;clear hb));have BF:=B1.ni rfl (.int .i64 (T.ak:Int)) (.int .i64 (T.to:Int)) (.string<|aw T) (.string T.text);obtain⟨cF,fF,zF⟩:=BF;exact bodyPost_ret (v:=dF T) (by simp[results,Tryz.results134,go_sem,cF,dF]) rfl ⟨eN.ni (Nat.le_refl _) _ _ _ _,Or.inl ⟨hk,rfl⟩⟩
  cases h1:Pu.gI s[j].toNat
  case true=>exact go _ _ (j7 ⟨rfl,h1⟩) λW hW=>by rw[U7 (by rw[Me];exact h1)];exact(JB hW s j hj hs).mono λe w' q=>⟨q.2,j7 ⟨by split<;>simp[Pu.gS],q.1⟩⟩
  case false=>
  have a1:Pu.gI (Pu.at_ s j)=false:=by rw[Me];exact h1
  cases h2:Pu.Ei s[j].toNat
  case true=>
   have ajp:=Pu.gu (s:=s) Pu.a_ (i:=j) ae;have ajq:=Pu.eX s Pu.a_ j;rw[ZQ a1 (by rw[Me];exact h2)];clear Me a1;go_enter func134,ntmps134;go_wp2_with(first|(go_at_call 207;with_reducible refine(E _).mono ?_;rintro e w'⟨rfl,rfl⟩)|(go_at_call 207;with_reducible refine(lB (Or.inr<|Or.inl ⟨rfl,rfl⟩) s j _ hs ae).mono ?_;rintro e w'⟨rfl,rfl⟩)|(go_at_call 207;with_reducible refine(E _).mono ?_;rintro e w'⟨rfl,rfl⟩)|(go_at_call 209;refine(iL _ _).mono ?_;rintro e w'⟨rfl,rfl⟩)|(go_at_call 211;refine(tD _ _).mono ?_;rintro e w'⟨rfl,rfl⟩)|(go_at_call 214;refine(mA _ _).mono ?_;rintro e w'⟨rfl,rfl⟩)|(go_at_call 212;refine(Dl s j _ _ ajq ajp hs).mono ?_;rintro e w1⟨rfl,hb⟩;have B1:=ai<|B0.below hb;have eN:=ai<|HB.trans<|hb.mono ag;have⟨c1,f1,y1⟩:=uh B1;clear hb));have BF:=B1.ni rfl (.int .i64 (j:Int)) (.int .i64 ((Pu.aG s Pu.a_ j:Nat):Int)) (.string ⟨#[117,112,32,110,97,109,101]⟩) (.string<|s.extract j<|Pu.aG s Pu.a_ j);obtain⟨cF,fF,zF⟩:=BF;exact bodyPost_ret (v:=dF<|Pu.gS s j 2<|Pu.aG s Pu.a_ j) (by simp[results,Tryz.results134,go_sem,cF,dF,Pu.gS,aw]) rfl ⟨eN.ni (Nat.le_refl _) _ _ _ _,Or.inl ⟨by simp[Pu.gS],rfl⟩⟩
  case false=>
  have a2:Pu.Ei (Pu.at_ s j)=false:=by rw[Me];exact h2
  cases h3:Pu.dV s[j].toNat
  case true=>exact go _ _ (j6 ⟨h1,h2,j7 ⟨rfl,h3⟩⟩) λW hW=>by rw[UZ hj (by rw[Me];exact h3)];exact ZM s j hj hs
  case false=>
  by_cases h4:s[j].toNat=39
  .exact go _ _ (j6 ⟨h1,h2,j6 ⟨h3,j7 ⟨rfl,bP⟩⟩⟩) λW hW=>by rw[U0 (by rw[Me];exact h4)];exact ajn hW s j hj hs
  .exact go _ _ (j6 ⟨h1,h2,j6 ⟨h3,j6 ⟨rfl,bP⟩⟩⟩) λW hW=>by rw[U6 a1 a2 (by rw[Me];exact h3) (by rw[Me];exact h4)];exact ag1 hW s j hj hs
 .have he:((j:Int)==(s.size:Int))=true:=bP;have hjs:j=s.size:=ae;rw[if_neg hj];obtain⟨c1,f1,y1⟩:=B0;go_enter func134,ntmps134;go_wp2_with(first|(go_at_call 207;with_reducible refine(E _).mono ?_;rintro e w'⟨rfl,rfl⟩)|(go_at_call 209;refine(iL _ _).mono ?_;rintro e w'⟨rfl,rfl⟩)|(go_at_call 211;refine(tD _ _).mono ?_;rintro e w'⟨rfl,rfl⟩)|(go_at_call 214;refine(mA _ _).mono ?_;rintro e w'⟨rfl,rfl⟩));have BF:=Bx.new w #[.int .i64 (j:Int),.int .i64 (j:Int),.string ⟨#[116,104,101,32,101,110,100]⟩,.string ⟨#[]⟩] 229;obtain⟨cF,fF,zF⟩:=BF;subst hjs;exact bodyPost_ret (v:=dF<|Pu.fD s) (by simp[results,Tryz.results134,go_sem,cF,dF,Pu.fD,aw]) rfl ⟨(Below.refl w.heap.size w).alloc (Nat.le_refl _) _,Or.inl ⟨qBr,rfl⟩⟩
section
variable {W w3:World} {row:Option Nat} (hg:W.grownBy w3 row)
include hg
def Bx.grown(h:Bx W b C)(hr:∀j,row=some j->j≠b):Bx w3 b C:=h.same hg.size<|hg.block b h.z<|λe=>hr b e.symm rfl
def Ke.grown(h:Ke rb a W)(hr:∀j,row=some j->a.heap.size<=j):Ke rb a w3:=
 ⟨hg.os.trans h.os,hg.tape.trans h.tape,hg.output.trans h.output,jf h.size hg.size,λk hk hn=>(hg.block k (jc hk h.size) (λe=>by have:=hr k e.symm;omega)).trans<|h.block k hk hn⟩
end
def tB{base}{e}{size}{v}{n}{xs}(h:w.ownsRow base e size v n xs)(hn:0<n):∃q c,v=.slice (some ⟨q,0,none⟩) n c:=by
 obtain⟨_,h2⟩:=h;obtain⟨_,h0⟩|⟨q,c,_,hv,_⟩:=h2
 .omega
 .exact⟨q,c,hv⟩
mutual
def er:Nd->Nd
 |.mk k s _ L _ _ _=>.mk k s 0 (erL L) 0 0 0
def erL:List Nd->List Nd
 |[]=>[]|x::l=>er x::erL l
end
end
def U8:Tryz.pinned.checked.prog.mainIs=some (Rows.agreeCard.stood.harness.1,Rows.agreeCard.stood.harness.2.toList):=qkr
def NI:true=Tryz.prog.looks []:=qkr
end Go.Proofs.YtfnkchdeheeiiaaGreatDoor

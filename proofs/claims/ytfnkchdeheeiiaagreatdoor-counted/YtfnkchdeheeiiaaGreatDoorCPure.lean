import Derived.BigQuiet
import Derived.Deep.LoopGhost
import Derived.Deep.RegionHeld3
import Derived.Test.YtfnkchdeheeiiaaGreatDoorProg
import Derived.WalkLawsBesides
import Derived.WalkSpells
set_option linter.all false
set_option maxRecDepth 100000
set_option maxHeartbeats 8000000
namespace Go.Proofs.YtfnkchdeheeiiaaGreatDoor
open _root_.ByteArray renaming size_extract->ja,extract_extract->jc,data_extract->jd,ext->jf
open _root_.Nat renaming le_refl->jh,lt_of_lt_of_le->ji,ble->jj,le_trans->jk,add_zero->jl
open Go.Proofs.Tryz renaming prog->jm
open _root_.List renaming getD_eq_getElem?_getD->jo,getElem?_eq_getElem->jp,any_eq_false->jq
open Go.RowKit.Below renaming refl->jt,heap_setCell->ju
open Bool renaming eq_iff_iff->jv,and_eq_true->jx
open Go.World renaming cell?_of_block->jy,setCell->jz
open Go.Ending renaming returned->j3
open Or renaming inr->j5,inl->j6
open Go Go.RowKit Proofs.Tryz
variable {C:Array Value} {s:ByteArray} {e:Ending} {b cap g i k rb:Nat} {p:Nat->Bool} {α:Type} {a w w':World}
namespace Pu
def at_(s:ByteArray)i:=if h:i<s.size then s[i].toNat else 256
def ni(h:i<s.size):at_ s i=s[i].toNat:=by simp[at_,h]
def Mz(h:s.size<=i):at_ s i=256:=by simp[at_];omega
def gI c:=jj 97 c&&jj c 122
def zE c:=jj 65 c&&jj c 90
def dH c:=jj 48 c&&jj c 57
def aZ c:=gI c||zE c||dH c
def Gv(s:ByteArray)(p:Nat->Bool):Nat->Nat->Nat
 |0,i=>i|f+1,i=>if p (at_ s i)=true then Gv s p f (i+1)else i
def aE s p i:=Gv s p (s.size-i) i
def fh(h:i<s.size)(hp:p (at_ s i)=true):aE s p i=aE s p (i+1):=by
 unfold aE;obtain⟨k,hk⟩:∃k,s.size-i=k+1:=⟨s.size-i-1,by omega⟩;rw[hk,Gv,if_pos hp,show s.size-(i+1)=k by omega]
def rB(h:i<s.size)(hp:p (at_ s i)=false):aE s p i=i:=by
 rw[aE];obtain⟨k,hk⟩:∃k,s.size-i=k+1:=⟨s.size-i-1,by omega⟩;rw[hk,Gv,if_neg<|by simp[hp]]
def lp(h:s.size<=i):aE s p i=i:=by
 rw[aE];rw[show s.size-i=0 by omega];rfl
def Ny s p f i:i<=Gv s p f i/\Gv s p f i<=i+f:=by
 induction f generalizing i with
 |zero=>simp[Gv]
 |succ f ih=>unfold Gv;split
             .grind
             .omega
def eM s p i:i<=aE s p i:=(Ny _ _ _ _).1
def fS p(h:i<=s.size):aE s p i<=s.size:=by
 have:=(Ny s p (s.size-i) i).2;rw[aE];omega
def words:List ByteArray:=[⟨#[116,121,112,101]⟩,⟨#[108,101,116]⟩,⟨#[114,101,99]⟩,⟨#[105,110]⟩,⟨#[102,117,110]⟩,⟨#[105,102]⟩,⟨#[116,104,101,110]⟩,⟨#[101,108,115,101]⟩,⟨#[109,97,116,99,104]⟩,⟨#[119,105,116,104]⟩,⟨#[101,110,100]⟩,⟨#[116,114,117,101]⟩,⟨#[102,97,108,115,101]⟩]
def jK k:=words.getD k ⟨#[]⟩
def fI(s:ByteArray):Bool:=words.any λw=>w.toList==s.toList
def VZ(hk:k<13)(h:((jK k).toList==s.toList)=true):fI s=true:=by
 rw[fI];rw[List.any_eq_true];refine⟨jK k,?_,h⟩;rw[jK];rw[jo,jp<|by simpa[words]using hk];exact List.getElem_mem _
def Kz(h:∀j,j<13->((jK j).toList==s.toList)=false):fI s=false:=by
 rw[fI];rw[jq];intro x hx;obtain⟨i,hi,rfl⟩:=List.getElem_of_mem hx;have:=h i (by simpa[words]using hi);rw[jK]at this;rw[jo,jp hi]at this;simpa using this
structure Tok where
 kind:Nat
 text:ByteArray
 al:Nat
 to:Nat
def Gw c:=[40,41,44,59,58,61,124,43,45,42,60,95].any λd=>d==c
def gu(s:ByteArray)(i:Nat)(k to:Nat):Tok:=⟨k,s.extract i to,i,to⟩
def cN s i:=
 if gI (at_ s i)=true then
  if fI (s.extract i<|aE s aZ i)=true then gu s i 5 (aE s aZ i)else gu s i 1 (aE s aZ i)
 else if zE (at_ s i)=true then gu s i 2 (aE s aZ i)
 else if at_ s i=39/\gI (at_ s<|i+1)=true then
  if fI (s.extract (i+1)<|aE s aZ<|i+1)=true then gu s i 6 (aE s aZ<|i+1)else gu s i 3 (aE s aZ<|i+1)
 else if dH (at_ s i)=true then
  if aE s dH (i+1)-i<=9 then gu s i 4 (aE s dH<|i+1)else gu s i 6 (aE s dH<|i+1)
 else if at_ s i=45/\at_ s (i+1)=62 then gu s i 5 (i+2)
 else if Gw (at_ s i)=true then gu s i 5 (i+1)else gu s i 6 (i+1)
end Pu
def V0 c:Pu.gI c=decide (97<=(c:Int)/\(c:Int)<=122):=by
 rw[jv];simp[Pu.gI];omega
def aaB c:Pu.zE c=decide (65<=(c:Int)/\(c:Int)<=90):=by
 rw[jv];simp[Pu.zE];omega
def V5 c:Pu.dH c=decide (48<=(c:Int)/\(c:Int)<=57):=by
 rw[jv];simp[Pu.dH];omega
def ai{p:Prop}(h:p):Hid p:=h
def uh{p:Prop}(h:Hid p):p:=h
def qkr{p:Prop}(h:p:=by kernel_rfl):p:=h
def ae{p:Prop}(h:p:=by omega):p:=h
def ag{p:Prop}(h:p:=by simp):p:=h
def aK{p:Prop}(h:p:=by decide):p:=h
def bQ{p:Prop}(h:p:=by simp;omega):p:=h
def BU{p:Prop}(h:p:=by rw[en];omega):p:=h
def qmo{p:Prop}(h:p:=by rw[maxLen];omega):p:=h
def DQ{p:Prop}(h:p:=by simpa using h):p:=h
def qas{p:Prop}(h:p:=by assumption):p:=h
def qbr{p:Prop}(h:p:=by exact br _):p:=h
def Al{p:Prop}(h:p:=by simp only[nn,bY]at hk;omega):p:=h
def o_{p:Prop}(h:p:=by rw[uh en];omega):p:=h
def qAc{p:Prop}(h:p:=by rw[Ez hc];decide):p:=h
def Jg{p:Prop}(h:p:=by simp[nn,bY];omega):p:=h
def mD{p:Prop}(h:p:=by cases q):p:=h
def xH{p:Prop}(h:p:=by simp[World.setCell]):p:=h
def Jc{p:Prop}(h:p:=by rw[o.size];exact br _):p:=h
def iF{p:Prop}(h:p:=by go_num):p:=h
def qAi{p:Prop}(h:p:=by intro x hx c;simp at hx;subst hx;intro q;cases q):p:=h
def qAj{p:Prop}(h:p:=by rw[jZ];exact Nat.le_trans HE5.2<|aiA hd):p:=h
def D9{p:Prop}(h:p:=by simp at hi;omega):p:=h
def tP{p:Prop}(h:p:=by simp at h):p:=h
def qAm{p:Prop}(h:p:=by rw[show gA.toList=[40]from toList_mk [40]];decide):p:=h
def qAn{p:Prop}(h:p:=by intro u hu;simp at hu;subst hu;rfl):p:=h
def qAo{p:Prop}(h:p:=by rw[jZ];exact Nat.le_trans HE6.2<|aiA hd):p:=h
def Zo{p:Prop}(h:p:=by simp[ByteArray.toList_eq]):p:=h
def qAq{p:Prop}(h:p:=by simp[Pu.fI,Pu.words,ByteArray.toList_eq]):p:=h
def qAr{p:Prop}(h:p:=by obtain⟨L,h1,_⟩:=h;exact h1.lt):p:=h
def qAs{p:Prop}(h:p:=by obtain⟨L,h1,h2⟩:=h;exact⟨L,h1.same hb,h2⟩):p:=h
def Nz{p:Prop}(h:p:=by simp[Un.dQ]):p:=h
def qAu{p:Prop}(h:p:=by show w.heap.size<=b;omega):p:=h
def qAv{p:Prop}(h:p:=by have:=Kh x;omega):p:=h
def qAw{p:Prop}(h:p:=by rw[q]at r;cases r):p:=h
def Up{p:Prop}(h:p:=by rw[aL];omega):p:=h
def qAy{p:Prop}(h:p:=by have:wr.heap.size<=b:=p.1;omega):p:=h
def qAz{p:Prop}(h:p:=by simp[World.setCell];exact Z1):p:=h
def Mw{p:Prop}(h:p:=by simp[go_sem]):p:=h
def yV{p:Prop}(h:p:=by grind):p:=h
def qBe{p:Prop}(h:p:=by rw[ByteArray.toList_eq];decide):p:=h
def qBf{p:Prop}(h:p:=by simp[q]):p:=h
def ZC{p:Prop}(h:p:=by simp[aY]at h):p:=h
def qBh{p:Prop}(h:p:=by rw[uh hC];exact bh):p:=h
def Za{p:Prop}(h:p:=by simp[nn,bY]):p:=h
def qBj{p:Prop}(h:p:=by simp only[rJ];exact .ret ⟨ρ,h.refl⟩):p:=h
def qBk{p:Prop}(h:p:=by rw[fQ hk];rfl):p:=h
def qBl{p:Prop}(h:p:=by simpa using hi):p:=h
def qBm{p:Prop}(h:p:=by simp[Array.getD_eq_getD_getElem?,hu]):p:=h
def qBn{p:Prop}(h:p:=by rw[Ez hc.2];decide):p:=h
def qBo{p:Prop}(h:p:=by rw[ByteArray.size_extract];omega):p:=h
def JB{p:Prop}(h:p:=by cases h):p:=h
def QX{p:Prop}(h:p:=by simp[e]):p:=h
def qBr{p:Prop}(h:p:=by simp[Pu.dT]):p:=h
def qBs{p:Prop}(h:p:=by subst e;simp at bh):p:=h
def qBt{p:Prop}(h:p:=by have:=hr4 k e;omega):p:=h
def qBu{p:Prop}(h:p:=by simp[World.cell?,h1]):p:=h
def qBv{p:Prop}(h:p:=by have:w0.heap.size<=i:=p;omega):p:=h
def qBw{p:Prop}(h:p:=by have:=H.cn;omega):p:=h
def qBx{p:Prop}(h:p:=by simpa[aD]using hn):p:=h
def qne{p:Prop}(h:p:=by intro b p;try dsimp only at p⊢;omega):p:=h
@[simp] theorem nq0(x : Bool)(w : World) : (Op.unary .not<|.bool x).run jm w = .ok (.bool<|!x) w := rfl
@[simp] theorem nq1(f : Fn)(a b : Array Value)(w : World) : (Instr.makeFunc f a b).run jm w = .ok (.func f a b) w := rfl
@[simp] abbrev Nv(n : Nat) : Value := .int .i64 (n : Int)
@[simp] abbrev Iv(n : Int) : Value := .int .i64 n
@[simp] abbrev Pv(b : Nat) : Value := .pointer<|some ⟨b, 0, none⟩
@[simp] abbrev Mv(b : Nat) : Value := .map<|some b
abbrev Bq(a b : World) := Below a.heap.size a b
abbrev Cq := Calls jm
@[simp] abbrev Sv(s : ByteArray) : Value := .string s
@[simp] abbrev Fv(t : TypeId)(v : Value) : Value := .iface t v
@[simp] abbrev Lv(a : Option Addr)(l c : Nat) : Value := .slice a l c
@[simp] abbrev Av(c : Array Value) : Value := .agg c
@[simp] abbrev Zv : Value := .nilIface
@[simp] abbrev Cv(c : Array Value)(t : TypeId)(f : Nat × Nat := (0, 0)) : Obj := .cells c t f
@[simp] abbrev Rv(v : Value) : Ending := .returned v
def bw(o:Obj):Below w.heap.size w (w.alloc o):=(jt _ _).alloc (jh _) o
def br(n:Nat):n<=n:=jh n
abbrev BA:=ByteArray
def vg{a b:List α}:(a++b).length=a.length+b.length:=List.length_append
def mV{a:α}{b:List α}:(a::b).length=b.length+1:=List.length_cons
def vf:([]:List α).length=0:=List.length_nil
def iP{a b}(h:a=b):j3 (.bool a)=.returned (.bool b):=congrArg (λx=>j3<|.bool x) h
def V7{k}{a b}(h:a=b):j3 (.int k a)=.returned (.int k b):=congrArg (λx=>j3<|.int k x) h
def step_end{j}{b}(bA:j<s.size)(he:Hid (Pu.aE s p i=Pu.aE s p j))(hb:p (Pu.at_ s j)=b):
 Hid (Pu.aE s p i=if b=true then Pu.aE s p (j+1)else j):=by
 cases b
 .show _=_;rw[he.out,Pu.rB bA hb];rfl
 .show _=_;rw[he.out,Pu.fh bA hb];rfl
namespace Pu
def Gx(h:i<s.size)(hp:p (at_ s i)=true):i+1<=aE s p i:=by
 rw[fh h hp];exact eM _ _ _
def acv(h:at_ s i<256):i<s.size:=by
 by_cases e:i<s.size
 .exact e
 .rw[Mz ae]at h;omega
def Aq s i:(cN s i).al=i:=by
 rw[cN];repeat(first|rfl|split)
def k9 s i(h:i<s.size):i<(cN s i).to/\(cN s i).to<=s.size:=by
 rw[cN];by_cases h1:gI (at_ s i)=true
 .have a:=Gx (p:=aZ) h (by simp[aZ,h1]);have b:=fS (s:=s) aZ (i:=i) ae;rw[if_pos h1];split<;>exact⟨a,b⟩
 rw[if_neg h1];by_cases h2:zE (at_ s i)=true
 .have a:=Gx (p:=aZ) h (by simp[aZ,h2]);have b:=fS (s:=s) aZ (i:=i) ae;rw[if_pos h2];exact⟨a,b⟩
 rw[if_neg h2];by_cases h3:at_ s i=39/\gI (at_ s<|i+1)=true
 .have c:i+1<s.size:=acv (by have:=h3.2;simp[gI]at this;omega);have a:=eM s aZ<|i+1;have b:=fS (s:=s) aZ (i:=i+1) ae;rw[if_pos h3];split<;>exact⟨a,b⟩
 rw[if_neg h3];by_cases h4:dH (at_ s i)=true
 .have a:=eM s dH<|i+1;have b:=fS (s:=s) dH (i:=i+1) ae;rw[if_pos h4];split<;>exact⟨a,b⟩
 rw[if_neg h4];by_cases h5:at_ s i=45/\at_ s (i+1)=62
 .have c:i+1<s.size:=acv ae;rw[if_pos h5];exact⟨by show i<i+2;omega,by show i+2<=_;omega⟩
 rw[if_neg h5];split<;>exact⟨by show i<i+1;omega,by show i+1<=_;omega⟩
def dI c:=c==32||c==10
def dT(s:ByteArray):Tok:=⟨7,⟨#[]⟩,s.size,s.size⟩
def mE(s:ByteArray):Nat->Nat->List Tok
 |0,_=>[dT s]|f+1,i=>if i<s.size then(if dI (at_ s i)=true then mE s f (i+1)else cN s i::mE s f (cN s i).to)else[dT s]
def KG s:∀f g i,s.size<=i+f->s.size<=i+g->mE s f i=mE s g i:=by
 intro f
 induction f with
 |zero=>
  intro g i h1 h2
  cases g with
  |zero=>rfl|succ g=>unfold mE;rw[if_neg ae]
 |succ f ih=>
  intro g i h1 h2
  cases g with
  |zero=>grind|succ g=>
   unfold mE;by_cases h:i<s.size
   .rw[if_pos h,if_pos h];have ht:=k9 s i h;rw[ih g (i+1) ae ae,ih g (cN s i).to ae ae]
   .grind
def bC s i:=mE s (s.size-i) i
def V8(h:s.size<=i):bC s i=[dT s]:=by
 rw[bC];rw[show s.size-i=0 by omega];rfl
def KH(h:i<s.size)(hb:dI (at_ s i)=true):bC s i=bC s (i+1):=by
 unfold bC;obtain⟨k,hk⟩:∃k,s.size-i=k+1:=⟨s.size-i-1,ae⟩;rw[hk,mE,if_pos h,if_pos hb,show s.size-(i+1)=k by omega]
def V9(h:i<s.size)(hb:dI (at_ s i)=false):bC s i=cN s i::bC s (cN s i).to:=by
 unfold bC;obtain⟨k,hk⟩:∃k,s.size-i=k+1:=⟨s.size-i-1,ae⟩;have ht:=k9 s i h;rw[hk,mE,if_pos h,if_neg<|by simp[hb],KG s k (s.size-(cN s i).to) _ ae ae]
end Pu
structure Fl where
 kind:Nat
 al:Nat
 to:Nat
def gF:Fl:=⟨0,0,0⟩
def db(t:Pu.Tok):Fl:=if t.kind=6 then⟨2,t.al,t.to⟩else⟨3,t.al,t.to⟩
structure Ke rb(w w':World):Prop where
 os:w'.os=w.os
 tape:w'.tape=w.tape
 output:w'.output=w.output
 size:w.heap.size<=w'.heap.size
 block:∀k,k<w.heap.size->k≠rb->w'.heap[k]? =w.heap[k]?
def Ke.refl rb w:Ke rb w w:=⟨rfl,rfl,rfl,jh _,λ_ _ _=>rfl⟩
def Ke.of(h:Below w.heap.size w w'):Ke rb w w':=⟨h.os,h.tape,h.output,h.size,λk hk _=>h.block k hk⟩
def Ke.trans{rb}{a b c}(h:Ke rb a b)(k:Ke rb b c):Ke rb a c:=
 ⟨k.os.trans h.os,k.tape.trans h.tape,k.output.trans h.output,jk h.size k.size,λi hi hn=>(k.block i (ji hi h.size) hn).trans<|h.block i hi hn⟩
def Ke.set(h:Ke rb a w)j u:Ke rb a (w.setCell ⟨rb,j,none⟩ u):=
 h.trans ⟨rfl,rfl,rfl,xH,λk _ hn=>ju _ _ _ _ hn⟩
def Ke.cell{rb}{w w'}(h:Ke rb w w'){b o}(hb:b<w.heap.size)(hn:b≠rb):w'.cell? ⟨b,o,none⟩=w.cell? ⟨b,o,none⟩:=jy (a:=⟨b,o,none⟩)<|h.block b hb hn
def tk(T:List Pu.Tok)k:=T.getD k ⟨7,⟨#[]⟩,0,0⟩
def Ga{T:List Pu.Tok}(h:k<T.length):T[k]'h=tk T k:=by
 rw[tk];rw[jo,jp h];rfl
def a_(t:Pu.Tok)(s:ByteArray):Bool:=t.kind==5&&t.text.toList==s.toList
abbrev St:=Except Fl Nat
abbrev M(α:Type):=Nat->Except Fl (α×Nat)
def nx{α:Type}(σ:St)(m:M α):St:=match σ with
 |.error e=>.error e
 |.ok k=>match m k with
  |.error e=>.error e|.ok (_,k')=>.ok k'
def mr{α:Type}(T:List Pu.Tok):M α:=λk=>.error<|db<|tk T k
def bt(T:List Pu.Tok)(s:ByteArray):M Unit:=λk=>if a_ (tk T k) s=true then .ok ((),k+1)else .error (db<|tk T k)
def di(T:List Pu.Tok)(n:Nat):M Pu.Tok:=λk=>if(tk T k).kind==n then .ok (tk T k,k+1)else .error (db<|tk T k)
def aF(T:List Pu.Tok)k:=if k=0 then 0 else(tk T<|k-1).to
structure Bx(w:World)b(C:Array Value):Prop where
 c:∀o,w.cell? ⟨b,o,none⟩=C[o]?
 f:∀o,w.frozen? ⟨b,o,none⟩=false
 z:b<w.heap.size
def Bx.new(w:World)C t:Bx (w.alloc<|.cells C t) w.heap.size C:=⟨λo=>ag,λo=>ag,ag⟩
def mM(w:World)(C:Array Value)(t:TypeId):Below w.heap.size w (w.alloc<|.cells C t)/\Bx (w.alloc<|.cells C t) w.heap.size C:=⟨bw _,Bx.new w C t⟩
def sf(w:World)(C:Array Value)(t:TypeId):Below w.heap.size w (w.alloc<|.cells C t)/\Hid (Bx (w.alloc<|.cells C t) w.heap.size C):=⟨bw _,Bx.new w C t⟩
def Bx.same(h:Bx w b C)(hs:w.heap.size<=w'.heap.size)(hb:w'.heap[b]? =w.heap[b]?):Bx w' b C:=
 ⟨λo=>by rw[jy (a:=⟨b,o,none⟩) (w:=w) hb];exact h.c o,λo=>by rw[World.frozen?_of_block (a:=⟨b,o,none⟩) (w:=w) hb];exact h.f o,ji h.z hs⟩
def Bx.below(h:Bx w b C)(hb:Below w.heap.size w w'):Bx w' b C:=h.same hb.size<|hb.block b h.z
def Bx.ke(h:Bx w b C)(hb:Ke rb w w')(hn:b≠rb):Bx w' b C:=h.same hb.size<|hb.block b h.z hn
def Bx.alloc{w:World}{b:Nat}{C:Array Value}(h:Bx w b C)o:Bx (w.alloc o) b C:=h.below<|(jt _ _).alloc (jh _) o
def Ke.nL(h:Ke rb a w)(hb:a.heap.size<=b)j u:Ke rb a (w.setCell ⟨b,j,none⟩ u):=
 ⟨h.os,h.tape,h.output,by simpa[jz]using h.size,λk hk hn=>by rw[ju _ _ _ _ (by show k≠b;omega)];exact h.block k hk hn⟩
def dI c:=c==32||c==10
def KI(c:Nat):(((c:Int)==32)||((c:Int)==10))=dI c:=by
 rw[jv];simp[dI];omega
def h_(c:Nat)w:Calls jm 209 #[.int .u8 (c:Int)] w λe w'=>e=.returned (.bool<|Pu.gI c)/\w'=w:=by
 go_enter func209,ntmps209
 go_wp2
 all_goals(go_ret;exact⟨iP (by rw[V0];symm;simp;try omega),rfl⟩)
def rK(c:Nat)w:Calls jm 211 #[.int .u8 (c:Int)] w λe w'=>e=.returned (.bool<|Pu.zE c)/\w'=w:=by
 go_enter func211,ntmps211
 go_wp2
 all_goals(go_ret;exact⟨iP (by rw[aaB];symm;simp;try omega),rfl⟩)
def lq(c:Nat)w:Calls jm 214 #[.int .u8 (c:Int)] w λe w'=>e=.returned (.bool<|Pu.dH c)/\w'=w:=by
 go_enter func214,ntmps214
 go_wp2
 all_goals(go_ret;exact⟨iP (by rw[V5];symm;simp;try omega),rfl⟩)
def KJ(c:Nat)w:Calls jm 208 #[.int .u8 (c:Int)] w λe w'=>e=.returned (.bool<|dI c)/\w'=w:=by
 go_enter func208,ntmps208
 go_wp2
 all_goals(go_ret;exact⟨iP (by rw[<-KI];try simp[*]),rfl⟩)
def Ra(c:Nat)w:Calls jm 213 #[.int .u8 (c:Int)] w λe w'=>e=.returned (.bool<|Pu.aZ c)/\w'=w:=by
 have hn:Pu.aZ c=(Pu.gI c||Pu.zE c||Pu.dH c):=rfl;have agM:(Pu.gI c=true\/(Pu.gI c=false/\Pu.zE c=true))\/(Pu.gI c=false/\Pu.zE c=false):=by
  cases Pu.gI c<;>cases Pu.zE c<;>simp
 obtain  (h1|⟨h1,h2⟩)|⟨h1,h2⟩:=agM;all_goals
  simp only[*,Bool.or_true,Bool.true_or,Bool.false_or]at hn;have hn:=ai hn;go_enter func213,ntmps213;go_wp2_with(first|(go_at_call 209;refine(h_ _ _).mono ?_;rintro e w'⟨rfl,rfl⟩)|(go_at_call 211;refine(rK _ _).mono ?_;rintro e w'⟨rfl,rfl⟩)|(go_at_call 214;refine(lq _ _).mono ?_;rintro e w'⟨rfl,rfl⟩));go_ret;exact⟨iP hn.symm,rfl⟩
def kq{fn}(hq:fn=208/\p=dI\/fn=213/\p=Pu.aZ\/fn=214/\p=Pu.dH)(s:ByteArray)(i:Nat)(w:World)(hs:s.size<=1000)(hi:i<=s.size):
 Calls jm 207 #[.string s,.int .i64 (i:Int),.func (.func fn) #[] #[]] w λe w'=>e=.returned (.int .i64<|Pu.aE s p i)/\w'=w:=by
 have H:∀(c:Nat)(w:World),Calls jm fn #[.int .u8 (c:Int)] w λe w'=>e=.returned (.bool<|p c)/\w'=w:=by obtain⟨rfl,rfl⟩|⟨rfl,rfl⟩|⟨rfl,rfl⟩:=hq;exact KJ;exact Ra;exact lq
 obtain⟨rfl,hq⟩|⟨rfl,hq⟩|⟨rfl,hq⟩:=hq;all_goals
  clear hq;go_enter func207,ntmps207
  go_wp2
  go_loop[7] (λv=>∃j:Nat,j<=s.size/\v=.int .i64 (j:Int)/\Hid (Pu.aE s p i=Pu.aE s p j)) (λv=>s.size-(intOf v).toNat)
  case atStart=>exact⟨i,hi,rfl,rfl⟩
  case round=>
   obtain⟨j,hj,rfl,he⟩:=hrel;by_cases bA:j<s.size
   .have hn:=Pu.ni bA
    cases hp:p (Pu.at_ s j)with
    |true=>
     have hm:=step_end bA he hp;rw[hn]at hp;go_wp2_with((first|go_at_call 208|go_at_call 213|go_at_call 214);refine(H _ _).mono ?_;rintro e w'⟨rfl,rfl⟩);go_round
     case rel=>exact⟨j+1,ae,iF,by simpa using hm⟩
     case measure=>simp[intOf];omega
    |false=>
     have hm:=step_end bA he hp;rw[hn]at hp;go_wp2_with((first|go_at_call 208|go_at_call 213|go_at_call 214);refine(H _ _).mono ?_;rintro e w'⟨rfl,rfl⟩);go_ret;exact⟨V7<|congrArg Nat.cast<|hm.out.symm,rfl⟩
   .go_wp2
    go_ret;exact⟨V7<|by rw[he.out,Pu.lp ae],rfl⟩
def aq(t:Pu.Tok):ByteArray:=
 if t.kind=1 then⟨#[108,111,119,32,110,97,109,101]⟩else if t.kind=2 then⟨#[117,112,32,110,97,109,101]⟩else if t.kind=3 then⟨#[97,32,118,97,114,105,97,98,108,101]⟩
 else if t.kind=4 then⟨#[97,32,110,117,109,98,101,114]⟩else if t.kind=7 then⟨#[116,104,101,32,101,110,100]⟩else t.text
def dv(t:Pu.Tok):Value:=.agg #[.int .i64 (t.al:Int),.int .i64 (t.to:Int),.string<|aq t,.string t.text]
def acw(a:Nat->ByteArray):∀{j:Nat},j<13->∀w:World,(Instr.index 403 (.agg #[.string<|a 0,.string<|a 1,.string<|a 2,.string<|a 3,.string<|a 4,.string<|a 5,.string<|a 6,.string<|a 7,.string<|a 8,.string<|a 9,.string<|a 10,.string<|a 11,.string<|a 12])<|.int .i64 (j:Int)).run jm w=.ok (.string<|a j) w
 |0,_,w=>qkr|1,_,w=>qkr|2,_,w=>qkr|3,_,w=>qkr|4,_,w=>qkr|5,_,w=>qkr|6,_,w=>qkr|7,_,w=>qkr|8,_,w=>qkr|9,_,w=>qkr|10,_,w=>qkr|11,_,w=>qkr|12,_,w=>qkr|_+13,h,_=>absurd h ae
def AM{a b:List UInt8}:(a==b)=(b==a):=yV
def NA{p:Prop}(h:p:=by
 subst hC;refine⟨λo=>?_,λo=>by simp;exact h.f o,by simpa[jz]using h.z⟩;by_cases e:o=j
 .subst e;rw[World.cell?_setCell_same _ _ _<|(h.c o).trans<|Array.getElem?_eq_getElem hj];simp[hj]
 .rw[World.cell?_setCell_other _ _ _ _ (by intro q;injection q with _ q;exact e q.symm),h.c o,Array.getElem?_setIfInBounds_ne ae]):p:=h
def Bx.aO(h:Bx w b C)j v C'(hC:C'=C.setIfInBounds j v)(hj:j<C.size):Bx (w.setCell ⟨b,j,none⟩ v) b C':=by
 exact NA
def signs:List ByteArray:=[⟨#[45,62]⟩,⟨#[40]⟩,⟨#[41]⟩,⟨#[44]⟩,⟨#[59]⟩,⟨#[58]⟩,⟨#[61]⟩,⟨#[124]⟩,⟨#[43]⟩,⟨#[45]⟩,⟨#[42]⟩,⟨#[60]⟩,⟨#[95]⟩]
def cK k:=signs.getD k ⟨#[]⟩
def Gy{u}(h:Below w.heap.size w u)b o(hb:b<w.heap.size):u.cell? ⟨b,o,none⟩=w.cell? ⟨b,o,none⟩:=jy (a:=⟨b,o,none⟩)<|h.block b hb
def AO(s:ByteArray)i j(k:ByteArray)(Y':i<=j)(hj:j<=s.size)(hs:s.size<=1000):
 Calls jm 212 #[.string s,.int .i64 (i:Int),.int .i64 (j:Int),.string k] w λe w'=>e=.returned (.agg #[.int .i64 (i:Int),.int .i64 (j:Int),.string k,.string<|s.extract i j])/\Below w.heap.size w w':=by
 have h1:(i:Int)<=(j:Int):=ae;have h2:(j:Int)<=(s.size:Int):=ae;go_enter func212,ntmps212
 go_wp2
 exact bodyPost_ret (v:=.agg #[.int .i64 (i:Int),.int .i64 (j:Int),.string k,.string<|s.extract i j]) (by simp[results,Tryz.results212,go_sem]) rfl ⟨rfl,(jt _ _).alloc (jh _) _⟩
def lz i j:Calls jm 258 #[.int .i64 i,.int .i64 j] w λe w'=>e=.returned (.agg #[.int .i64 2,.int .i64 i,.int .i64 j])/\Below w.heap.size w w':=by
 go_enter func258,ntmps258
 go_wp2
 exact bodyPost_ret (v:=.agg #[.int .i64 2,.int .i64 i,.int .i64 j]) (by simp[results,Tryz.results258,go_sem]) rfl ⟨rfl,(jt _ _).alloc (jh _) _⟩
structure Laid(w:World):Prop where
 words:∀j,j<13->w.cell? ⟨2,j,none⟩=some (.string<|Pu.jK j)
 signs:∀j,j<13->w.cell? ⟨0,j,none⟩=some (.string<|cK j)
 hz:3<=w.heap.size
def Laid.af{w}(h:Laid w)(hb:Below w.heap.size w w'):Laid w':=
 ⟨λj hj=>(Gy hb 2 j (by have:=h.hz;omega)).trans<|h.words j hj,λj hj=>(Gy hb 0 j (by have:=h.hz;omega)).trans<|h.signs j hj,jk h.hz hb.size⟩
def ND{p:Prop}(h:p:=by
 go_round
 case rel=>exact⟨j+1,ae,iF,hn2⟩
 case measure=>simp[intOf];omega):p:=h
def rL(h:Laid w)(s:ByteArray):Calls jm 257 #[.string s] w λe w'=>e=.returned (.bool<|Pu.fI s)/\w'=w:=by
 have g0:=h.words 0 ae;have g1:=h.words 1 ae;have g2:=h.words 2 ae;have g3:=h.words 3 ae;have g4:=h.words 4 ae;have g5:=h.words 5 ae;have g6:=h.words 6 ae;have g7:=h.words 7 ae;have g8:=h.words 8 ae;have g9:=h.words 9 ae;have g10:=h.words 10 ae;have g11:=h.words 11 ae;have g12:=h.words 12 ae;go_enter func257,ntmps257
 go_wp2
 go_loop[6] (λv=>∃j:Nat,j<=13/\v=.int .i64 (j:Int)/\Hid (∀i,i<j->(s.toList==(Pu.jK i).toList)=false)) (λv=>13-(intOf v).toNat)
 case atStart=>exact⟨0,ae,rfl,λi h=>ae⟩
 case round=>
  obtain⟨j,hj,rfl,mS⟩:=hrel;by_cases bA:j<13
  .have hix:=acw Pu.jK bA;have hd:(j:Int)<13:=ae
   cases he:(s.toList==(Pu.jK j).toList)with
   |true=>
    have hb:Hid (Pu.fI s=true):=Pu.VZ bA (by rw[AM];exact he)
    go_wp2
    go_ret;exact⟨iP hb.symm,rfl⟩
   |false=>
    have hn2:Hid (∀i,i<j+1->(s.toList==(Pu.jK i).toList)=false):=λi hi=>by
     by_cases e:i=j
     .subst e;exact he
     .exact mS i ae
    go_wp2
    exact ND
  .have hb:Hid (Pu.fI s=false):=Pu.Kz (λi hi=>by rw[AM];exact mS i ae)
   go_wp2
   go_ret;exact⟨iP hb.symm,rfl⟩
def uT(s:ByteArray):Nat->Nat
 |0=>0|k+1=>10*uT s k+(Pu.at_ s k+208)%256
def wQ(s:ByteArray):Nat:=uT s<|min s.size 9
def aat(s:ByteArray):∀k,k<=9->uT s k<=255*111111111:=by
 have:∀k,9*uT s k+255<=255*10^k:=by
  intro k
  induction k with
  |zero=>simp[uT]|succ k ih=>simp only[uT,Nat.pow_succ];omega
 intro k hk;have h:=this k;have h2:10^k<=10^9:=Nat.pow_le_pow_right ae hk;omega
inductive Nd where
 |mk(kind:Nat)(s:ByteArray)(n:Nat)(L:List Nd)(al to at_:Nat):Nd
theorem toList_mk l:(ByteArray.mk l.toArray).toList=l:=by simp_all
abbrev fJ:ByteArray:=⟨#[116,114,117,101]⟩
abbrev dz:ByteArray:=⟨#[102,97,108,115,101]⟩
abbrev wU:ByteArray:=⟨#[95]⟩
abbrev o9:ByteArray:=⟨#[40]⟩
def bE t:=
 if t.kind=1 then 1 else if t.kind=2 then 2 else if t.kind=3 then 16 else if t.kind=4 then 3
 else if a_ t fJ=true\/a_ t dz=true then 4 else if a_ t wU=true then 15 else 0
def eC(t:Pu.Tok):Nat:=if t.kind=4 then wQ t.text else 0
def KN t l:a_ t ⟨l.toArray⟩=(t.kind==5&&t.text.toList==l):=by simp_all[a_]
def Gl t:a_ t fJ=(t.kind==5&&t.text.toList==[116,114,117,101]):=KN t _
def AH t:a_ t dz=(t.kind==5&&t.text.toList==[102,97,108,115,101]):=KN t _
def Nr t:a_ t wU=(t.kind==5&&t.text.toList==[95]):=KN t _
def aG t sort:=a_ t o9||
 (if sort=1 then bE t==16||bE t==2 else if sort=2 then bE t==15||bE t==1||bE t==2||bE t==3||bE t==4 else bE t==1||bE t==2||bE t==3||bE t==4)
abbrev iq:ByteArray:=⟨#[]⟩
abbrev kG:ByteArray:=⟨#[41]⟩
abbrev pQ:ByteArray:=⟨#[44]⟩
abbrev CG:ByteArray:=⟨#[58]⟩
abbrev pE:ByteArray:=⟨#[45,62]⟩
abbrev fG:ByteArray:=⟨#[42]⟩
abbrev gU:ByteArray:=⟨#[43]⟩
abbrev dP:ByteArray:=⟨#[45]⟩
abbrev du:ByteArray:=⟨#[60]⟩
abbrev JW:ByteArray:=⟨#[102,117,110]⟩
abbrev sG:ByteArray:=⟨#[108,101,116]⟩
abbrev V_:ByteArray:=⟨#[114,101,99]⟩
abbrev kIn:ByteArray:=⟨#[105,110]⟩
abbrev kIf:ByteArray:=⟨#[105,102]⟩
abbrev aca:ByteArray:=⟨#[116,104,101,110]⟩
abbrev acb:ByteArray:=⟨#[101,108,115,101]⟩
abbrev sI:ByteArray:=⟨#[109,97,116,99,104]⟩
abbrev acd:ByteArray:=⟨#[119,105,116,104]⟩
abbrev agx:ByteArray:=⟨#[101,110,100]⟩
abbrev Wd:ByteArray:=⟨#[124]⟩
abbrev xR:ByteArray:=⟨#[59]⟩
abbrev MO:ByteArray:=⟨#[61]⟩
abbrev ph:ByteArray:=⟨#[116,121,112,101]⟩
def cu(t:Pu.Tok):Nd:=.mk (bE t) t.text (eC t) [] t.al t.to t.al
def Nd.add:Nd->Nd->Nat->Nd
 |.mk k s n L f _ a,y,to=>.mk k s n (L++[y]) f to a
def aM{α β:Type}(m:M α)(f:α->M β):M β:=λk=>match m k with
 |.error e=>.error e|.ok (a,k')=>f a k'
section
variable (T:List Pu.Tok)
def sE(mk:Nat->Nd):M Nd:=aM (bt T kG) λ_ k=>.ok (mk k,k)
def k_ part DO sort al a:=λk=>
 if a_ (tk T k) pQ=true then aM part (λb=>sE T λk'=>.mk 6 iq 0 [a,b] al (aF T k') al) (k+1)
 else if sort=3/\a_ (tk T k) CG=true then aM DO (λb=>sE T λk'=>.mk 14 iq 0 [a,b] al (aF T k') al) (k+1)
 else sE T (λ_=>a) k
def jA part DO sort al:=λk=>
 if sort≠1/\a_ (tk T k) kG=true then .ok (.mk 5 iq 0 [] al (aF T<|k+1) al,k+1)
 else aM part (k_ T part DO sort al) k
def aP part DO sort:=λk=>
 if aG (tk T k) sort=true then
  (if a_ (tk T k) o9=true then jA T part DO sort (tk T k).al (k+1)else .ok (cu<|tk T k,k+1))
 else .error (db<|tk T k)
def eN(small:M Nd)(sort:Nat):Nat->Nd->M Nd
 |0,x=>λk=>.ok (x,k)|f+1,x=>λk=>if aG (tk T k) sort=true then aM small (λy k'=>eN small sort f (x.add y<|aF T k') k') k else .ok (x,k)
def jB small sort:=λk=>if(tk T k).kind==2 then aM small (eN T small sort T.length) k else small k
def nk DO al(a:Nd):=λk=>
 if a_ (tk T k) pE=true then aM DO (λb k'=>.ok (.mk 17 iq 0 [a,b] al (aF T k') al,k')) (k+1)else .ok (a,k)
def eH:Nat->M Nd
 |0=>mr T|n+1=>λk=>aM (jB T (aP T (eH n) (eH n) 1) 1) (nk T (eH n) (tk T k).al) k
def eh:Nat->M Nd
 |0=>mr T|n+1=>jB T (aP T (eh n) (mr T) 2) 2
def jC(small:M Nd)(al:Nat):Nat->Nd->M Nd
 |0,x=>λk=>.ok (x,k)|f+1,x=>λk=>if aG (tk T k) 3=true then aM small (λy k'=>jC small al f (.mk 8 iq 0 [x,y] al (aF T k') al) k') k else .ok (x,k)
def dr small:=λk=>aM small (jC T small (tk T k).al T.length) k
def kg(call:M Nd)(al:Nat):Nat->Nd->M Nd
 |0,x=>λk=>.ok (x,k)|f+1,x=>λk=>if a_ (tk T k) fG=true then aM call (λy k'=>kg call al f (.mk 7 fG 0 [x,y] al (aF T k') al) k') (k+1)else .ok (x,k)
def fK call:=λk=>aM call (kg T call (tk T k).al T.length) k
def qU(prod:M Nd)(al:Nat):Nat->Nd->M Nd
 |0,x=>λk=>.ok (x,k)|f+1,x=>λk=>if a_ (tk T k) gU=true\/a_ (tk T k) dP=true then aM prod (λy k'=>qU prod al f (.mk 7 (tk T k).text 0 [x,y] al (aF T k') al) k') (k+1)else .ok (x,k)
def uV prod:=λk=>aM prod (qU T prod (tk T k).al T.length) k
def sF(expr:M Nd):M Nd:=λk=>
 aM (bt T JW) (λ_=>aM (di T 1) λt=>aM (bt T pE) λ_=>aM expr λe k'=>.ok (.mk 9 t.text 0 [e] (tk T k).al (aF T k') t.al,k')) k
def cH(expr:M Nd):M (Nat×Pu.Tok×Nd):=
 aM (bt T sG) λ_ k=>
  if a_ (tk T k) V_=true then aM (di T 1) (λt=>aM (bt T MO) λ_=>aM (sF T expr) λe k'=>.ok ((11,t,e),k')) (k+1)
  else aM (di T 1) (λt=>aM (bt T MO) λ_=>aM expr λe k'=>.ok ((10,t,e),k')) k
def oG(expr:M Nd):M Nd:=λk=>
 aM (bt T kIf) (λ_=>aM expr λa=>aM (bt T aca) λ_=>aM expr λb=>aM (bt T acb) λ_=>aM expr λc k'=>.ok (.mk 12 iq 0 [a,b,c] (tk T k).al (aF T k') (tk T k).al,k')) k
def np(uk expr:M Nd):Nat->List Nd->M (List Nd)
 |0,l=>λk=>.ok (l,k)|f+1,l=>aM uk λp=>aM (bt T pE) λ_=>aM expr λe k=>
   if a_ (tk T k) Wd=true then np uk expr f (l++[p,e]) (k+1)else .ok (l++[p,e],k)
def sH(uk expr:M Nd):M Nd:=λk=>
 aM (bt T sI) (λ_=>aM expr λx=>aM (bt T acd) λ_=>aM (np T uk expr T.length [x]) λl=>aM (bt T agx) λ_ k'=>.ok (.mk 13 iq 0 l (tk T k).al (aF T k') (tk T k).al,k')) k
def sv(expr:M Nd):M Nd:=λk=>
 aM (cH T expr) (λb=>aM (bt T kIn) λ_=>aM expr λf k'=>.ok (.mk b.1 b.2.1.text 0 [b.2.2,f] (tk T k).al (aF T k') b.2.1.al,k')) k
def qV(sum:M Nd):M Nd:=λk=>
 aM sum (λx k1=>if a_ (tk T k1) du=true then aM sum (λy k'=>.ok (.mk 7 du 0 [x,y] (tk T k).al (aF T k') (tk T k).al,k')) (k1+1)else .ok (x,k1)) k
def bP:Nat->M Nd
 |0=>mr T|n+1=>λk=>
  if a_ (tk T k) JW=true then sF T (bP n) k
  else if a_ (tk T k) kIf=true then oG T (bP n) k
  else if a_ (tk T k) sI=true then sH T (eh T n) (bP n) k
  else if a_ (tk T k) sG=true then sv T (bP n) k
  else qV T (uV T<|fK T<|dr T<|aP T (bP n) (eH T n) 3) k
end
structure NV where
 k:Int
 s:ByteArray
 n:Int
 la:Option Addr
 ll:Nat
 lc:Nat
 f:Int
 t:Int
 a:Int
abbrev xJ:Array Value:=#[.int .i64 0,.int .i64 0,.string ⟨#[]⟩,.string ⟨#[]⟩]
def Bx.me{w}(h:Bx w b C)(hC:C.size=4)v0 v1 v2 v3:Bx ((((w.setCell ⟨b,0,none⟩ v0).setCell ⟨b,1,none⟩ v1).setCell ⟨b,2,none⟩ v2).setCell ⟨b,3,none⟩ v3) b #[v0,v1,v2,v3]:=by
 obtain⟨a0,a1,a2,a3,rfl⟩:∃a0 a1 a2 a3,C=#[a0,a1,a2,a3]:=by
  obtain⟨l⟩:=C
  match l,hC with
  |[a,b,c,d],_=>grind
 exact(((h.aO 0 v0 #[v0,a1,a2,a3] rfl ag).aO 1 v1 #[v0,v1,a2,a3] rfl ag).aO 2 v2 #[v0,v1,v2,a3] rfl ag).aO 3 v3 #[v0,v1,v2,v3] rfl ag
def _root_.Go.RowKit.Below.me{B}{w}(h:Below B a w)(hb:B<=b)v0 v1 v2 v3:Below B a ((((w.setCell ⟨b,0,none⟩ v0).setCell ⟨b,1,none⟩ v1).setCell ⟨b,2,none⟩ v2).setCell ⟨b,3,none⟩ v3):=
 (((h.setCell hb v0).setCell hb v1).setCell hb v2).setCell hb v3
def Gz(h:Laid w)(s:ByteArray)i(hi:i<s.size)(hs:s.size<=1000):
 Calls jm 210 #[.string s,.int .i64 (i:Int)] w λe w'=>e=.returned (dv<|if Pu.fI (s.extract i<|Pu.aE s Pu.aZ i)=true then Pu.gu s i 5 (Pu.aE s Pu.aZ i)else Pu.gu s i 1 (Pu.aE s Pu.aZ i))/\Below w.heap.size w w':=by
 have hle:=Pu.fS (s:=s) Pu.aZ (i:=i) ae;have Ej:=Pu.eM s Pu.aZ i;have H:=h.af<|(jt w.heap.size w).alloc (jh _)<|.cells xJ 229;have B0:=Bx.new w xJ 229;have HB:=(jt w.heap.size w).alloc (jh _)<|.cells xJ 229;have h1:(i:Int)<=((Pu.aE s Pu.aZ i:Nat):Int):=ae;have h2:((Pu.aE s Pu.aZ i:Nat):Int)<=(s.size:Int):=ae
 cases hw:Pu.fI (s.extract i<|Pu.aE s Pu.aZ i)with
 |true=>
  go_enter func210,ntmps210;go_wp2_with(first|(go_at_call 207;refine(kq (Or.inr<|Or.inl ⟨rfl,rfl⟩) s i _ hs ae).mono ?_;rintro e w'⟨rfl,rfl⟩)|(go_at_call 257;refine(rL H _).mono ?_;rintro e w'⟨rfl,rfl⟩)|(go_at_call 212;refine(AO s i _ _ Ej hle hs).mono ?_;rintro e w1⟨rfl,hb⟩;have B1:=ai<|B0.below hb;have dC:=ai<|HB.trans<|hb.mono ag;have⟨c1,f1,y1⟩:=uh B1;clear hb));have BF:=B1.me rfl (.int .i64 (i:Int)) (.int .i64 ((Pu.aE s Pu.aZ i:Nat):Int)) (.string<|s.extract i<|Pu.aE s Pu.aZ i) (.string<|s.extract i<|Pu.aE s Pu.aZ i);obtain⟨cF,fF,zF⟩:=BF;refine bodyPost_ret (v:=dv<|Pu.gu s i 5<|Pu.aE s Pu.aZ i) (by simp[results,Tryz.results210,go_sem,cF,dv,Pu.gu,aq]) rfl ⟨ag,dC.me (Nat.le_refl _) _ _ _ _⟩
 |false=>
  go_enter func210,ntmps210;go_wp2_with(first|(go_at_call 207;refine(kq (Or.inr<|Or.inl ⟨rfl,rfl⟩) s i _ hs ae).mono ?_;rintro e w'⟨rfl,rfl⟩)|(go_at_call 257;refine(rL H _).mono ?_;rintro e w'⟨rfl,rfl⟩)|(go_at_call 212;refine(AO s i _ _ Ej hle hs).mono ?_;rintro e w1⟨rfl,hb⟩;have B1:=ai<|B0.below hb;have dC:=ai<|HB.trans<|hb.mono ag;have⟨c1,f1,y1⟩:=uh B1;clear hb));have BF:=B1.me rfl (.int .i64 (i:Int)) (.int .i64 ((Pu.aE s Pu.aZ i:Nat):Int)) (.string ⟨#[108,111,119,32,110,97,109,101]⟩) (.string<|s.extract i<|Pu.aE s Pu.aZ i);obtain⟨cF,fF,zF⟩:=BF;refine bodyPost_ret (v:=dv<|Pu.gu s i 1<|Pu.aE s Pu.aZ i) (by simp[results,Tryz.results210,go_sem,cF,dv,Pu.gu,aq]) rfl ⟨ag,dC.me (Nat.le_refl _) _ _ _ _⟩
def eD t w(e:Ending)w':=
 Below w.heap.size w w'/\((t.kind≠6/\e=.returned (dv t))\/(t.kind=6/\e=.panicked [{v:=.iface 224<|.agg #[.int .i64 2,.int .i64 (t.al:Int),.int .i64 (t.to:Int)],recovered:=false}]))
def We(s:ByteArray)i(hi:i<s.size)(hs:s.size<=1000):
 Calls jm 215 #[.string s,.int .i64 (i:Int)] w (eD (if Pu.aE s Pu.dH i-i<=9 then Pu.gu s i 4 (Pu.aE s Pu.dH i)else Pu.gu s i 6 (Pu.aE s Pu.dH i)) w):=by
 have hle:=Pu.fS (s:=s) Pu.dH (i:=i) ae;have Ej:=Pu.eM s Pu.dH i;have B0:=Bx.new w xJ 229;have HB:=(jt w.heap.size w).alloc (jh _)<|.cells xJ 229;by_cases hd:Pu.aE s Pu.dH i-i<=9
 .have h1:¬(9:Int)<((Pu.aE s Pu.dH i:Nat):Int)-(i:Int):=ae;rw[if_pos hd];go_enter func215,ntmps215;go_wp2_with(first|(go_at_call 207;refine(kq (Or.inr<|Or.inr ⟨rfl,rfl⟩) s i _ hs ae).mono ?_;rintro e w'⟨rfl,rfl⟩)|(go_at_call 212;refine(AO s i _ _ Ej hle hs).mono ?_;rintro e w1⟨rfl,hb⟩;have B1:=ai<|B0.below hb;have dC:=ai<|HB.trans<|hb.mono ag;have⟨c1,f1,y1⟩:=uh B1;clear hb));have BF:=B1.me rfl (.int .i64 (i:Int)) (.int .i64 ((Pu.aE s Pu.dH i:Nat):Int)) (.string ⟨#[97,32,110,117,109,98,101,114]⟩) (.string<|s.extract i<|Pu.aE s Pu.dH i);obtain⟨cF,fF,zF⟩:=BF;exact bodyPost_ret (v:=dv<|Pu.gu s i 4<|Pu.aE s Pu.dH i) (by simp[results,Tryz.results215,go_sem,cF,dv,Pu.gu,aq]) rfl ⟨dC.me (Nat.le_refl _) _ _ _ _,Or.inl ⟨by simp[Pu.gu],rfl⟩⟩
 .have h1:(9:Int)<((Pu.aE s Pu.dH i:Nat):Int)-(i:Int):=ae;rw[if_neg hd];go_enter func215,ntmps215;go_wp2_with(first|(go_at_call 207;refine(kq (Or.inr<|Or.inr ⟨rfl,rfl⟩) s i _ hs ae).mono ?_;rintro e w'⟨rfl,rfl⟩)|(go_at_call 258;refine(lz _ _).mono ?_;rintro e w1⟨rfl,hb⟩;have dC:=ai<|HB.trans<|hb.mono ag;clear hb));exact⟨rfl,dC,Or.inr ⟨rfl,rfl⟩⟩
def jL(s:ByteArray)i:=
 if Pu.gI (Pu.at_ s<|i+1)=true then(if Pu.fI (s.extract (i+1)<|Pu.aE s Pu.aZ<|i+1)=true then Pu.gu s i 6 (Pu.aE s Pu.aZ<|i+1)else Pu.gu s i 3 (Pu.aE s Pu.aZ<|i+1))else Pu.gu s i 6 (i+1)
def agN(h:Laid w)(s:ByteArray)i(hi:i<s.size)(hs:s.size<=1000):
 Calls jm 216 #[.string s,.int .i64 (i:Int)] w (eD (jL s i) w):=by
 have B0:=Bx.new w xJ 229;have HB:=(jt w.heap.size w).alloc (jh _)<|.cells xJ 229;have H:=h.af HB;by_cases hn:i+1<s.size
 .have he:(((i:Int)+1)==(s.size:Int))=false:=bQ;have Jr:=Pu.ni hn
  cases pC:Pu.gI s[i+1].toNat with
  |false=>
   have ht:jL s i=Pu.gu s i 6 (i+1):=by rw[jL];rw[Jr,pC];simp
   rw[ht];go_enter func216,ntmps216;go_wp2_with(first|(go_at_call 209;refine(h_ _ _).mono ?_;rintro e w'⟨rfl,rfl⟩)|(go_at_call 258;refine(lz _ _).mono ?_;rintro e w1⟨rfl,hb⟩;have dC:=ai<|HB.trans<|hb.mono ag;clear hb));exact⟨rfl,dC,Or.inr ⟨rfl,rfl⟩⟩
  |true=>
   have hle:=Pu.fS (s:=s) Pu.aZ (i:=i+1) ae;have Ej:=Pu.eM s Pu.aZ<|i+1;have h1:(i:Int)+1<=((Pu.aE s Pu.aZ (i+1):Nat):Int):=ae;have h2:((Pu.aE s Pu.aZ (i+1):Nat):Int)<=(s.size:Int):=ae
   cases hw:Pu.fI (s.extract (i+1)<|Pu.aE s Pu.aZ<|i+1)with
   |true=>
    have ht:jL s i=Pu.gu s i 6 (Pu.aE s Pu.aZ<|i+1):=by rw[jL];rw[Jr,pC,hw];simp
    rw[ht];go_enter func216,ntmps216;go_wp2_with(first|(go_at_call 209;refine(h_ _ _).mono ?_;rintro e w'⟨rfl,rfl⟩)|(go_at_call 207;refine(kq (Or.inr<|Or.inl ⟨rfl,rfl⟩) s (i+1) _ hs ae).mono ?_;rintro e w'⟨rfl,rfl⟩)|(go_at_call 257;refine(rL H _).mono ?_;rintro e w'⟨rfl,rfl⟩)|(go_at_call 258;refine(lz _ _).mono ?_;rintro e w1⟨rfl,hb⟩;have dC:=ai<|HB.trans<|hb.mono ag;clear hb));exact⟨rfl,dC,Or.inr ⟨rfl,rfl⟩⟩
   |false=>
    have ht:jL s i=Pu.gu s i 3 (Pu.aE s Pu.aZ<|i+1):=by rw[jL];rw[Jr,pC,hw];simp
    rw[ht];go_enter func216,ntmps216;go_wp2_with(first|(go_at_call 209;refine(h_ _ _).mono ?_;rintro e w'⟨rfl,rfl⟩)|(go_at_call 207;refine(kq (Or.inr<|Or.inl ⟨rfl,rfl⟩) s (i+1) _ hs ae).mono ?_;rintro e w'⟨rfl,rfl⟩)|(go_at_call 257;refine(rL H _).mono ?_;rintro e w'⟨rfl,rfl⟩)|(go_at_call 212;refine(AO s i _ _ ae hle hs).mono ?_;rintro e w1⟨rfl,hb⟩;have B1:=ai<|B0.below hb;have dC:=ai<|HB.trans<|hb.mono ag;have⟨c1,f1,y1⟩:=uh B1;clear hb));have BF:=B1.me rfl (.int .i64 (i:Int)) (.int .i64 ((Pu.aE s Pu.aZ (i+1):Nat):Int)) (.string ⟨#[97,32,118,97,114,105,97,98,108,101]⟩) (.string<|s.extract i<|Pu.aE s Pu.aZ<|i+1);obtain⟨cF,fF,zF⟩:=BF;exact bodyPost_ret (v:=dv<|Pu.gu s i 3<|Pu.aE s Pu.aZ<|i+1) (by simp[results,Tryz.results216,go_sem,cF,dv,Pu.gu,aq]) rfl ⟨dC.me (Nat.le_refl _) _ _ _ _,Or.inl ⟨by simp[Pu.gu],rfl⟩⟩
 .have he:(((i:Int)+1)==(s.size:Int))=true:=bQ;have ht:jL s i=Pu.gu s i 6 (i+1):=by
   rw[jL];rw[Pu.Mz ae];rfl
  rw[ht];go_enter func216,ntmps216;go_wp2_with(first|(go_at_call 258;refine(lz _ _).mono ?_;rintro e w1⟨rfl,hb⟩;have dC:=ai<|HB.trans<|hb.mono ag;clear hb));exact⟨rfl,dC,Or.inr ⟨rfl,rfl⟩⟩
def preB(s p:ByteArray):Bool:=decide (p.size<=s.size)&&((s.extract 0 p.size).toList==p.toList)
def kT(s:ByteArray)i k:=
 if k=0 then(Pu.at_ s i==45&&Pu.at_ s (i+1)==62)else Pu.at_ s i==((cK k)[0]!).toNat
def kK(s:ByteArray)i:=
 if Pu.at_ s i=45/\Pu.at_ s (i+1)=62 then Pu.gu s i 5 (i+2)
 else if Pu.Gw (Pu.at_ s i)=true then Pu.gu s i 5 (i+1)else Pu.gu s i 6 (i+1)
def ur{a b:ByteArray}(h:(a.toList==b.toList)=true):a=b:=by
 rw[beq_iff_eq,ByteArray.toList_eq,ByteArray.toList_eq]at h;exact jf<|Array.toList_inj.1 h
def aiB(h:i<s.size):s.extract i (i+1)=⟨#[s[i]]⟩:=by
 apply jf;apply Array.ext
 .simp;omega
 .intro j h1 h2;have:j=0:=by simp at h2;omega
  subst this;simp[jd];rfl
def aiC(h:i+1<s.size):s.extract i (i+2)=⟨#[s[i],s[i+1]]⟩:=by
 apply jf;apply Array.ext
 .simp;omega
 .intro j h1 h2;have:j=0\/j=1:=by simp at h2;omega
  obtain rfl|rfl:=this
  .simp[jd];rfl
  .simp[jd];rfl
def NE{p:Prop}(h:p:=by
 intro h;have:=congrArg (λb:ByteArray=>b.data)<|ur h;simp at this
 simp[this]):p:=h
def uW(hi:i<s.size)c:preB (s.extract i s.size) ⟨#[c]⟩=(Pu.at_ s i==c.toNat):=by
 have hz:(⟨#[c]⟩:ByteArray).size=1:=rfl;rw[preB];rw[hz,jc,show min (i+1) s.size=i+1 by omega,jl,aiB hi,Pu.ni hi,ja];rw[decide_eq_true ae,Bool.true_and,jv];constructor
 .exact NE
 .intro h;rw[beq_iff_eq]at h;rw[UInt8.toNat_inj.1 h];simp
def aiD(hi:i<s.size)c d:preB (s.extract i s.size) ⟨#[c,d]⟩=(Pu.at_ s i==c.toNat&&Pu.at_ s (i+1)==d.toNat):=by
 have hz:(⟨#[c,d]⟩:ByteArray).size=2:=rfl;rw[preB];rw[hz];by_cases hn:i+1<s.size
 .rw[jc,show min (i+2) s.size=i+2 by omega,jl,aiC hn,Pu.ni hi,Pu.ni hn,ja];rw[decide_eq_true ae,Bool.true_and,jv];constructor
  .exact NE
  .intro h;rw[jx,beq_iff_eq,beq_iff_eq]at h;rw[UInt8.toNat_inj.1 h.1,UInt8.toNat_inj.1 h.2];simp
 .rw[ja,decide_eq_false ae,Pu.Mz (s:=s) (i:=i+1) ae];have:(256==d.toNat)=false:=by have:=UInt8.toNat_lt d;simp;omega
  rw[this];simp
def NF(hi:i<s.size):∀k,k<13->preB (s.extract i s.size) (cK k)=kT s i k
 |0,_=>aiD hi 45 62|1,_=>uW hi _|2,_=>uW hi _|3,_=>uW hi _|4,_=>uW hi _|5,_=>uW hi _|6,_=>uW hi _|7,_=>uW hi _|8,_=>uW hi _|9,_=>uW hi _|10,_=>uW hi _|11,_=>uW hi _|12,_=>uW hi _|k+13,h=>absurd h ae
def aeo:∀k,0<k->k<13->(∀j,j<k->kT s i j=false)->kT s i k=true->kK s i=Pu.gu s i 5 (i+1):=by
 intro k h0 hk mS hh;rw[kK];have n0:=mS 0 h0;rw[if_neg (by intro q;simp[kT,q.1,q.2]at n0)];have:Pu.Gw (Pu.at_ s i)=true:=by
  have hc:k=1\/k=2\/k=3\/k=4\/k=5\/k=6\/k=7\/k=8\/k=9\/k=10\/k=11\/k=12:=ae;rw[kT]at hh;rw[if_neg ae,beq_iff_eq]at hh;rw[hh];obtain rfl|rfl|rfl|rfl|rfl|rfl|rfl|rfl|rfl|rfl|rfl|rfl:=hc<;>decide
 rw[if_pos this]
def agO(h:kT s i 0=true):kK s i=Pu.gu s i 5 (i+2):=by grind[kT,kK]
def aep(h:∀j,j<13->kT s i j=false):kK s i=Pu.gu s i 6 (i+1):=by
 rw[kK];have n0:=h 0 ae;rw[if_neg (by intro q;simp[kT,q.1,q.2]at n0)];have:Pu.Gw (Pu.at_ s i)=false:=by
  rw[Pu.Gw];rw[jq];intro x hx;simp only[List.mem_cons,List.not_mem_nil,or_false]at hx;intro q;rw[beq_iff_eq]at q;have H:∀k,0<k->k<13->((cK k)[0]!).toNat=x->False:=λk h0 hk e=>by
   have:=h k hk;rw[kT]at this;rw[if_neg ae,e,q]at this;simp at this
  obtain rfl|rfl|rfl|rfl|rfl|rfl|rfl|rfl|rfl|rfl|rfl|rfl:=hx
  .exact H 1 ae ae rfl
  .exact H 2 ae ae rfl
  .exact H 3 ae ae rfl
  .exact H 4 ae ae rfl
  .exact H 5 ae ae rfl
  .exact H 6 ae ae rfl
  .exact H 7 ae ae rfl
  .exact H 8 ae ae rfl
  .exact H 9 ae ae rfl
  .exact H 10 ae ae rfl
  .exact H 11 ae ae rfl
  .exact H 12 ae ae rfl
 rw[this];rfl
def Wg(hi:i<s.size)(hk:k<13)(h:kT s i k=true):i+(cK k).size<=s.size/\s.extract i (i+(cK k).size)=cK k:=by
 rw[<-NF hi k hk]at h;rw[preB]at h;rw[jx,decide_eq_true_iff,ja]at h;have hz:i+(cK k).size<=s.size:=ae;refine⟨hz,?_⟩;have:=ur h.2
 rwa[jc,jl,Nat.min_eq_left hz]at this
def Wh:∀{k:Nat},k<13->1<=(cK k).size/\(cK k).size<=2:=λ{k}h=>(by decide:∀k:Fin 13,1<=(cK k.1).size/\(cK k.1).size<=2) ⟨k,h⟩
def aeq:∀{k:Nat},0<k->k<13->(cK k).size=1:=λ{k}h0 h=>(by decide:∀k:Fin 13,0<k.1->(cK k.1).size=1) ⟨k,h⟩ h0
def aaC(hk:k<13)(h:∀j,j<k->kT s i j=false)(hh:kT s i k=true):kK s i=Pu.gu s i 5 (i+(cK k).size):=by
 obtain rfl|h0:=Nat.eq_zero_or_pos k
 .exact agO hh
 .rw[aeq h0 hk];exact aeo k h0 hk h hh
def NG{p:Prop}(h:p:=by
 go_enter func278,ntmps278
 go_wp2
 go_ret
 exact⟨iP<|by simp[preB,hz],rfl⟩):p:=h
def aer(s p:ByteArray)(hs:s.size<=1000)(hp:p.size<=2):Calls jm 278 #[.string s,.string p] w λe w'=>e=.returned (.bool<|preB s p)/\w'=w:=by
 by_cases h:p.size<=s.size
 .have h1:(p.size:Int)<=(s.size:Int):=ae;have hz:decide (p.size<=s.size)=true:=by simp[h]
  exact NG
 .have h1:¬(p.size:Int)<=(s.size:Int):=ae;have hz:decide (p.size<=s.size)=false:=bQ;exact NG
def Wi(s p:ByteArray)(hs:s.size<=1000)(hp:p.size<=2):Calls jm 259 #[.string s,.string p] w λe w'=>e=.returned (.bool<|preB s p)/\w'=w:=by
 go_enter func259,ntmps259;go_wp2_with(go_at_call 278;refine(aer s p hs hp).mono ?_;rintro e w'⟨rfl,rfl⟩);go_ret;exact⟨iP rfl,rfl⟩
def AP(s:ByteArray)i k(hi:i<s.size)(hs:s.size<=1000)(hk:k<13)(hz:(cK k).size<=2):Calls jm 259 #[.string<|s.extract i s.size,.string<|cK k] w λe w'=>e=.returned (.bool<|kT s i k)/\w'=w:=by
 rw[<-NF hi k hk];exact Wi _ _ qBo hz
def aes(h:Laid w)(s:ByteArray)(i:Nat)(hi:i<s.size)(hs:s.size<=1000):
 Calls jm 217 #[.string s,.int .i64 (i:Int)] w (eD (kK s i) w):=by
 have B0:=Bx.new w xJ 229;have HB:=(Below.refl w.heap.size w).alloc (Nat.le_refl _)<|.cells xJ 229;have H:=h.af HB;have hi1:(i:Int)<=(s.size:Int):=ae;have g0:=H.signs 0 ae;have g1:=H.signs 1 ae;have g2:=H.signs 2 ae;have g3:=H.signs 3 ae;have g4:=H.signs 4 ae;have g5:=H.signs 5 ae;have g6:=H.signs 6 ae;have g7:=H.signs 7 ae;have g8:=H.signs 8 ae;have g9:=H.signs 9 ae;have g10:=H.signs 10 ae;have g11:=H.signs 11 ae;have g12:=H.signs 12 ae;clear h H;go_enter func217,ntmps217
 go_wp2
 go_loop[8] (λv=>∃j:Nat,j<=13/\v=.int .i64 (j:Int)/\Hid (∀m,m<j->kT s i m=false)) (λv=>13-(intOf v).toNat)
 case atStart=>exact⟨0,ae,rfl,λi h=>ae⟩
 case round=>
  obtain⟨j,hj,rfl,mS⟩:=hrel;by_cases bA:j<13
  .have hix:=acw cK bA;have hd:(j:Int)<13:=ae;have hz:=Wh bA;obtain⟨n,hn⟩:∃n,n=(cK j).size:=⟨_,rfl⟩;rw[<-hn]at hz
   cases he:kT s i j with
   |true=>
    have ht:=ai<|aaC bA mS he;have hx:=Wg hi bA he;rw[<-hn]at hx ht;have hle:=hx.1;have hxe:=ai hx.2;have QT:((cK j).size:Int)=(n:Int):=by rw[hn]
    have ho:(i:Int)+(n:Int)<=1000:=ae;clear hx hn;go_wp2_with(first|(go_at_call 259;refine(AP s i j hi hs bA ae).mono ?_;rintro e w'⟨rfl,rfl⟩)|(go_at_call 212;refine(AO s i (i+n) _ ae hle hs).mono ?_;rintro e w1⟨rfl,hb⟩;have B1:=ai<|B0.below hb;have dC:=ai<|HB.trans<|hb.mono ag;have⟨c1,f1,y1⟩:=uh B1;clear hb));have BF:=B1.me rfl (.int .i64 (i:Int)) (.int .i64<|(i:Int)+n) (.string<|cK j) (.string<|s.extract i<|i+n);obtain⟨cF,fF,zF⟩:=BF;rw[uh ht];refine bodyPost_ret (v:=dv<|Pu.gu s i 5<|i+n) ?_ rfl ⟨dC.me (jh _) _ _ _ _,j6 ⟨by simp[Pu.gu],rfl⟩⟩;have hk:aq (Pu.gu s i 5<|i+n)=cK j:=uh hxe;simp only[dv,hk];simp[results,Tryz.results217,go_sem,cF,Pu.gu]
   |false=>
    have hn2:Hid (∀m,m<j+1->kT s i m=false):=λm hm=>by
     by_cases e:m=j
     .subst e;exact he
     .exact mS m ae
    go_wp2_with(go_at_call 259;refine(AP s i j hi hs bA ae).mono ?_;rintro e w'⟨rfl,rfl⟩);exact ND
  .have ht:=ai<|aep (s:=s) (i:=i)<|λm hm=>mS m ae;go_wp2_with(go_at_call 258;refine(lz _ _).mono ?_;rintro e w1⟨rfl,hb⟩;have dC:=ai<|HB.trans<|hb.mono ag;clear hb);rw[uh ht];exact⟨rfl,dC,j5 ⟨rfl,rfl⟩⟩
def aC(s:ByteArray)i:=if Pu.aE s dI i<s.size then Pu.cN s (Pu.aE s dI i)else Pu.dT s
def KO(s:ByteArray)p:∀n i,s.size-i=n->Pu.aE s p i<s.size->p (Pu.at_ s<|Pu.aE s p i)=false:=by
 intro n
 induction n with
 |zero=>intro i h hl;rw[Pu.lp ae]at hl;omega|succ n ih=>
  intro i h hl
  cases hp:p (Pu.at_ s i)with
  |true=>rw[Pu.fh ae hp]at hl⊢;exact ih (i+1) ae hl|false=>rw[Pu.rB ae hp];exact hp
def Rb(s:ByteArray):∀n i,s.size-i=n->Pu.bC s i=Pu.bC s (Pu.aE s dI i):=by
 intro n
 induction n with
 |zero=>intro i h;rw[Pu.lp ae]|succ n ih=>
  intro i h
  cases hp:dI (Pu.at_ s i)with
  |true=>rw[Pu.fh ae hp,Pu.KH ae hp];exact ih (i+1) ae|false=>rw[Pu.rB ae hp]
def iU(s:ByteArray)i(hi:i<=s.size):Pu.bC s i=if(aC s i).kind=7 then[Pu.dT s]else aC s i::Pu.bC s (aC s i).to:=by
 rw[Rb s _ i rfl];unfold aC;by_cases h:Pu.aE s dI i<s.size
 .rw[if_pos h,if_neg,Pu.V9 h<|KO s dI _ i rfl h];unfold Pu.cN Pu.gu;repeat' split
  all_goals simp
 .rw[if_neg h,if_pos<|show(Pu.dT s).kind=7 from rfl,Pu.V8 ae]
def eD.ok{t:Pu.Tok}(h:eD t w e w')(hk:t.kind≠6):e=.returned (.agg #[.int .i64 (t.al:Int),.int .i64 (t.to:Int),.string<|aq t,.string t.text])/\Below w.heap.size w w':=by
 obtain⟨hb,⟨_,he⟩|⟨hn,_⟩⟩:=h
 .exact⟨he,hb⟩
 .exact absurd hn hk
def eD.bad{t:Pu.Tok}(h:eD t w e w')(hk:t.kind=6):e=.panicked [{v:=.iface 224<|.agg #[.int .i64 2,.int .i64 (t.al:Int),.int .i64 (t.to:Int)],recovered:=false}]/\Below w.heap.size w w':=by grind[eD]
def Rc(hi:i<s.size)(hd:Pu.dH (Pu.at_ s i)=true):Pu.cN s i=(if Pu.aE s Pu.dH i-i<=9 then Pu.gu s i 4 (Pu.aE s Pu.dH i)else Pu.gu s i 6 (Pu.aE s Pu.dH i)):=by
 have hd':=hd;simp[Pu.dH]at hd';rw[Pu.cN];rw[if_neg (by simp[Pu.gI];omega),if_neg (by simp[Pu.zE];omega),if_neg (by intro q;omega),if_pos hd,Pu.fh hi hd]
def Rd(hd:Pu.at_ s i=39):Pu.cN s i=jL s i:=by
 rw[Pu.cN,jL];rw[hd,if_neg aK,if_neg aK];by_cases hl:Pu.gI (Pu.at_ s<|i+1)=true
 .grind
 .rw[if_neg<|λq=>hl q.2,if_neg hl,if_neg aK,if_neg (by intro q;exact absurd q.1 aK),if_neg aK]
def Re(h1:Pu.gI (Pu.at_ s i)=false)(h2:Pu.zE (Pu.at_ s i)=false)(h3:Pu.dH (Pu.at_ s i)=false)(h4:Pu.at_ s i≠39):Pu.cN s i=kK s i:=by
 rw[Pu.cN,kK];rw[if_neg<|by simp[h1],if_neg<|by simp[h2],if_neg<|λq=>h4 q.1,if_neg<|by simp[h3]]
def Wj(h1:Pu.gI (Pu.at_ s i)=false)(h2:Pu.zE (Pu.at_ s i)=true):Pu.cN s i=Pu.gu s i 2 (Pu.aE s Pu.aZ i):=by
 rw[Pu.cN];rw[if_neg<|by simp[h1],if_pos h2]
def Rf(h1:Pu.gI (Pu.at_ s i)=true):Pu.cN s i=(if Pu.fI (s.extract i<|Pu.aE s Pu.aZ i)=true then Pu.gu s i 5 (Pu.aE s Pu.aZ i)else Pu.gu s i 1 (Pu.aE s Pu.aZ i)):=by
 rw[Pu.cN];rw[if_pos h1]
def F_(h:Laid w)(s:ByteArray)i(hi:i<=s.size)(hs:s.size<=1000):
 Calls jm 134 #[.string s,.int .i64 (i:Int)] w (eD (aC s i) w):=by
 have B0:=Bx.new w xJ 229;have HB:=(jt w.heap.size w).alloc (jh _)<|.cells xJ 229;have H:=h.af HB;clear h;have E:=λW=>kq (j6 ⟨rfl,rfl⟩) s i W hs hi;have hle:=Pu.fS (s:=s) dI hi;have Ej:=Pu.eM s dI i;rw[aC];generalize Pu.aE s dI i=j at E hle Ej⊢;by_cases hj:j<s.size
 .have he:((j:Int)==(s.size:Int))=false:=bQ;rw[if_pos hj];have Jr:=Pu.ni hj;have go:∀(T:Pu.Tok)(fn:Nat),(fn=210/\Pu.gI s[j].toNat=true\/Pu.gI s[j].toNat=false/\Pu.zE s[j].toNat=false/\(fn=215/\Pu.dH s[j].toNat=true\/Pu.dH s[j].toNat=false/\(fn=216/\((s[j].toNat:Int)==39)=true\/fn=217/\((s[j].toNat:Int)==39)=false)))->(∀W,Laid W->Calls jm fn #[.string s,.int .i64 (j:Int)] W (eD T W))->Calls jm 134 #[.string s,.int .i64 (i:Int)] w (eD T w):=by
   intro T fn hq C;clear Jr;by_cases hk:T.kind=6
   .obtain⟨rfl,h1⟩|⟨h1,h2,⟨rfl,h3⟩|⟨h3,⟨rfl,h4⟩|⟨rfl,h4⟩⟩⟩:=hq;all_goals
     go_enter func134,ntmps134;go_wp2_with(first|(go_at_call 207;with_reducible refine(E _).mono ?_;rintro e w'⟨rfl,rfl⟩)|(go_at_call 209;refine(h_ _ _).mono ?_;rintro e w'⟨rfl,rfl⟩)|(go_at_call 211;refine(rK _ _).mono ?_;rintro e w'⟨rfl,rfl⟩)|(go_at_call 214;refine(lq _ _).mono ?_;rintro e w'⟨rfl,rfl⟩)|((first|go_at_call 210|go_at_call 215|go_at_call 216|go_at_call 217);refine(C _ H).mono ?_;intro e w1 hp;obtain⟨rfl,hb⟩:=hp.bad hk;have dC:=ai<|HB.trans<|hb.mono ag;clear hb));exact⟨rfl,dC,Or.inr ⟨hk,rfl⟩⟩
   .obtain⟨rfl,h1⟩|⟨h1,h2,⟨rfl,h3⟩|⟨h3,⟨rfl,h4⟩|⟨rfl,h4⟩⟩⟩:=hq;all_goals
     go_enter func134,ntmps134;go_wp2_with(first|(go_at_call 207;with_reducible refine(E _).mono ?_;rintro e w'⟨rfl,rfl⟩)|(go_at_call 209;refine(h_ _ _).mono ?_;rintro e w'⟨rfl,rfl⟩)|(go_at_call 211;refine(rK _ _).mono ?_;rintro e w'⟨rfl,rfl⟩)|(go_at_call 214;refine(lq _ _).mono ?_;rintro e w'⟨rfl,rfl⟩)|((first|go_at_call 210|go_at_call 215|go_at_call 216|go_at_call 217);refine(C _ H).mono ?_;intro e w1 hp;obtain⟨rfl,hb⟩:=hp.ok hk;have B1:=ai<|B0.below hb;have dC:=ai<|HB.trans<|hb.mono ag;have⟨c1,f1,y1⟩:=uh B1;clear hb));have BF:=B1.me rfl (.int .i64 (T.al:Int)) (.int .i64 (T.to:Int)) (.string<|aq T) (.string T.text);obtain⟨cF,fF,zF⟩:=BF;exact bodyPost_ret (v:=dv T) (by simp[results,Tryz.results134,go_sem,cF,dv]) rfl ⟨dC.me (Nat.le_refl _) _ _ _ _,Or.inl ⟨hk,rfl⟩⟩
  cases h1:Pu.gI s[j].toNat
  case true=>exact go _ _ (j6 ⟨rfl,h1⟩) λW hW=>by rw[Rf (by rw[Jr];exact h1)];exact(Gz hW s j hj hs).mono λe w' q=>⟨q.2,j6 ⟨by split<;>simp[Pu.gu],q.1⟩⟩
  case false=>
  have a1:Pu.gI (Pu.at_ s j)=false:=by rw[Jr];exact h1
  cases h2:Pu.zE s[j].toNat
  case true=>
   have agP:=Pu.fS (s:=s) Pu.aZ (i:=j) ae;have agQ:=Pu.eM s Pu.aZ j;rw[Wj a1 (by rw[Jr];exact h2)];clear Jr a1;go_enter func134,ntmps134;go_wp2_with(first|(go_at_call 207;with_reducible refine(E _).mono ?_;rintro e w'⟨rfl,rfl⟩)|(go_at_call 207;with_reducible refine(kq (Or.inr<|Or.inl ⟨rfl,rfl⟩) s j _ hs ae).mono ?_;rintro e w'⟨rfl,rfl⟩)|(go_at_call 207;with_reducible refine(E _).mono ?_;rintro e w'⟨rfl,rfl⟩)|(go_at_call 209;refine(h_ _ _).mono ?_;rintro e w'⟨rfl,rfl⟩)|(go_at_call 211;refine(rK _ _).mono ?_;rintro e w'⟨rfl,rfl⟩)|(go_at_call 214;refine(lq _ _).mono ?_;rintro e w'⟨rfl,rfl⟩)|(go_at_call 212;refine(AO s j _ _ agQ agP hs).mono ?_;rintro e w1⟨rfl,hb⟩;have B1:=ai<|B0.below hb;have dC:=ai<|HB.trans<|hb.mono ag;have⟨c1,f1,y1⟩:=uh B1;clear hb));have BF:=B1.me rfl (.int .i64 (j:Int)) (.int .i64 ((Pu.aE s Pu.aZ j:Nat):Int)) (.string ⟨#[117,112,32,110,97,109,101]⟩) (.string<|s.extract j<|Pu.aE s Pu.aZ j);obtain⟨cF,fF,zF⟩:=BF;exact bodyPost_ret (v:=dv<|Pu.gu s j 2<|Pu.aE s Pu.aZ j) (by simp[results,Tryz.results134,go_sem,cF,dv,Pu.gu,aq]) rfl ⟨dC.me (Nat.le_refl _) _ _ _ _,Or.inl ⟨by simp[Pu.gu],rfl⟩⟩
  case false=>
  have a2:Pu.zE (Pu.at_ s j)=false:=by rw[Jr];exact h2
  cases h3:Pu.dH s[j].toNat
  case true=>exact go _ _ (j5 ⟨h1,h2,j6 ⟨rfl,h3⟩⟩) λW hW=>by rw[Rc hj (by rw[Jr];exact h3)];exact We s j hj hs
  case false=>
  by_cases h4:s[j].toNat=39
  .exact go _ _ (j5 ⟨h1,h2,j5 ⟨h3,j6 ⟨rfl,bQ⟩⟩⟩) λW hW=>by rw[Rd (by rw[Jr];exact h4)];exact agN hW s j hj hs
  .exact go _ _ (j5 ⟨h1,h2,j5 ⟨h3,j5 ⟨rfl,bQ⟩⟩⟩) λW hW=>by rw[Re a1 a2 (by rw[Jr];exact h3) (by rw[Jr];exact h4)];exact aes hW s j hj hs
 .have he:((j:Int)==(s.size:Int))=true:=bQ;have hjs:j=s.size:=ae;rw[if_neg hj];obtain⟨c1,f1,y1⟩:=B0;go_enter func134,ntmps134;go_wp2_with(first|(go_at_call 207;with_reducible refine(E _).mono ?_;rintro e w'⟨rfl,rfl⟩)|(go_at_call 209;refine(h_ _ _).mono ?_;rintro e w'⟨rfl,rfl⟩)|(go_at_call 211;refine(rK _ _).mono ?_;rintro e w'⟨rfl,rfl⟩)|(go_at_call 214;refine(lq _ _).mono ?_;rintro e w'⟨rfl,rfl⟩));have BF:=Bx.new w #[.int .i64 (j:Int),.int .i64 (j:Int),.string ⟨#[116,104,101,32,101,110,100]⟩,.string ⟨#[]⟩] 229;obtain⟨cF,fF,zF⟩:=BF;subst hjs;exact bodyPost_ret (v:=dv<|Pu.dT s) (by simp[results,Tryz.results134,go_sem,cF,dv,Pu.dT,aq]) rfl ⟨(Below.refl w.heap.size w).alloc (Nat.le_refl _) _,Or.inl ⟨qBr,rfl⟩⟩
section
variable {T:List Pu.Tok} {σ:St}
def nQ{t}(h:a_ t s=true):t.kind=5:=by simp[a_]at h;exact h.1
end
def Bx.at(w:World)C t b(hb:b=w.heap.size):Bx (w.alloc<|.cells C t) b C:=by subst hb;exact Bx.new w C t
def Bx.rj(h:Bx w b C)j v C'(hC:C'=C.setIfInBounds j v)(hj:j<C.size):Bx (w.setCell ⟨b,j,none⟩ v) b C':=by
 exact NA
def Bx.mQ{b2}(h:Bx w b C)(hn:b≠b2)j v:Bx (w.setCell ⟨b2,j,none⟩ v) b C:=
 h.same xH (ju _ _ _ _ hn)
def Bx.Rg(h:Bx w b C)(hC:C.size=7)v0 v1 v2 v3 v4 v5 v6:Bx (((((((w.setCell ⟨b,0,none⟩ v0).setCell ⟨b,1,none⟩ v1).setCell ⟨b,2,none⟩ v2).setCell ⟨b,3,none⟩ v3).setCell ⟨b,4,none⟩ v4).setCell ⟨b,5,none⟩ v5).setCell ⟨b,6,none⟩ v6) b #[v0,v1,v2,v3,v4,v5,v6]:=by
 obtain⟨a0,a1,a2,a3,a4,a5,a6,rfl⟩:∃a0 a1 a2 a3 a4 a5 a6,C=#[a0,a1,a2,a3,a4,a5,a6]:=by
  obtain⟨l⟩:=C
  match l,hC with
  |[a,b,c,d,e,f,g],_=>grind
 exact((((((h.rj 0 v0 #[v0,a1,a2,a3,a4,a5,a6] rfl ag).rj 1 v1 #[v0,v1,a2,a3,a4,a5,a6] rfl ag).rj 2 v2 #[v0,v1,v2,a3,a4,a5,a6] rfl ag).rj 3 v3 #[v0,v1,v2,v3,a4,a5,a6] rfl ag).rj 4 v4 #[v0,v1,v2,v3,v4,a5,a6] rfl ag).rj 5 v5 #[v0,v1,v2,v3,v4,v5,a6] rfl ag).rj 6 v6 #[v0,v1,v2,v3,v4,v5,v6] rfl ag
def Bx.acx{b'}(h:Bx w b' C)(hn:b'≠b)v0 v1 v2 v3 v4 v5 v6:Bx (((((((w.setCell ⟨b,0,none⟩ v0).setCell ⟨b,1,none⟩ v1).setCell ⟨b,2,none⟩ v2).setCell ⟨b,3,none⟩ v3).setCell ⟨b,4,none⟩ v4).setCell ⟨b,5,none⟩ v5).setCell ⟨b,6,none⟩ v6) b' C:=
 ((((((h.mQ hn 0 v0).mQ hn 1 v1).mQ hn 2 v2).mQ hn 3 v3).mQ hn 4 v4).mQ hn 5 v5).mQ hn 6 v6
def CQ{α:Type}(m:M α):=∀k a k',m k=.ok (a,k')->k<=k'
section
variable {W w3:World} {row:Option Nat} (hg:W.grownBy w3 row)
include hg
def Bx.grown(h:Bx W b C)(hr:∀j,row=some j->j≠b):Bx w3 b C:=h.same hg.size<|hg.block b h.z<|λe=>hr b e.symm rfl
def Ke.grown(h:Ke rb a W)(hr:∀j,row=some j->a.heap.size<=j):Ke rb a w3:=
 ⟨hg.os.trans h.os,hg.tape.trans h.tape,hg.output.trans h.output,jk h.size hg.size,λk hk hn=>(hg.block k (ji hk h.size) (λe=>by have:=hr k e.symm;omega)).trans<|h.block k hk hn⟩
end
def rH{base}{e}{size}{v}{n}{xs}(h:w.ownsRow base e size v n xs)(hn:0<n):∃q c,v=.slice (some ⟨q,0,none⟩) n c:=by
 obtain⟨_,h2⟩:=h;obtain⟨_,h0⟩|⟨q,c,_,hv,_⟩:=h2
 .omega
 .exact⟨q,c,hv⟩
mutual
def er:Nd->Nd
 |.mk k s _ L _ _ _=>.mk k s 0 (erL L) 0 0 0
def erL:List Nd->List Nd
 |[]=>[]|x::l=>er x::erL l
end
end Go.Proofs.YtfnkchdeheeiiaaGreatDoor

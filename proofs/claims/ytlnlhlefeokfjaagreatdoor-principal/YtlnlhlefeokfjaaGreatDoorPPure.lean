import Derived.BigQuiet
import Derived.Deep.LoopGhost
import Derived.Deep.RegionHeld3
import Derived.Test.YtlnlhlefeokfjaaGreatDoorProg
import Derived.WalkLawsBesides
import Derived.WalkSpells
set_option linter.all false
set_option maxRecDepth 100000
set_option maxHeartbeats 8000000
namespace Go.Proofs.YtlnlhlefeokfjaaGreatDoor
open _root_.ByteArray renaming size_extract->ja,extract_extract->jc,data_extract->jd,ext->jf
open _root_.Nat renaming le_refl->jh,lt_of_lt_of_le->ji,ble->jj,le_trans->jk,add_zero->jl
open Go.Proofs.Tryz renaming prog->jm
open Go.RowKit.Below renaming refl->jo,heap_setCell->jp
open _root_.List renaming getD_eq_getElem?_getD->jq,getElem?_eq_getElem->jt,any_eq_false->ju
open Bool renaming eq_iff_iff->jv,and_eq_true->jx
open Go.ByteArray renaming toList_eq->jy
open Go.Ending renaming returned->jz
open Or renaming inr->j3,inl->j5
open Go Go.RowKit Proofs.Tryz
variable {C:Array Value} {s:ByteArray} {e:Ending} {l:List UInt8} {b cap g i k rb v:Nat} {p:Nat->Bool} {α:Type} {a w w':World}
namespace Pu
def at_(s:ByteArray)i:=if h:i<s.size then s[i].toNat else 256
def n9(h:i<s.size):at_ s i=s[i].toNat:=by simp[at_,h]
def RH(h:s.size<=i):at_ s i=256:=by simp[at_];omega
def gN c:=jj 97 c&&jj c 122
def Ax c:=jj 65 c&&jj c 90
def dQ c:=jj 48 c&&jj c 57
def aY c:=gN c||Ax c||dQ c
def Kt(s:ByteArray)(p:Nat->Bool):Nat->Nat->Nat
 |0,i=>i|f+1,i=>if p (at_ s i)=true then Kt s p f (i+1)else i
def aM s p i:=Kt s p (s.size-i) i
def fY(h:i<s.size)(hp:p (at_ s i)=true):aM s p i=aM s p (i+1):=by
 unfold aM;obtain⟨k,hk⟩:∃k,s.size-i=k+1:=⟨s.size-i-1,by omega⟩;rw[hk,Kt,if_pos hp,show s.size-(i+1)=k by omega]
def pC(h:i<s.size)(hp:p (at_ s i)=false):aM s p i=i:=by
 rw[aM];obtain⟨k,hk⟩:∃k,s.size-i=k+1:=⟨s.size-i-1,by omega⟩;rw[hk,Kt,if_neg<|by simp[hp]]
def mK(h:s.size<=i):aM s p i=i:=by
 rw[aM];rw[show s.size-i=0 by omega];rfl
def RI s p f i:i<=Kt s p f i/\Kt s p f i<=i+f:=by
 induction f generalizing i with
 |zero=>simp[Kt]
 |succ f ih=>unfold Kt;split
             .grind
             .omega
def gD s p i:i<=aM s p i:=(RI _ _ _ _).1
def gH p(h:i<=s.size):aM s p i<=s.size:=by
 have:=(RI s p (s.size-i) i).2;rw[aM];omega
def words:List ByteArray:=[⟨#[116,121,112,101]⟩,⟨#[108,101,116]⟩,⟨#[114,101,99]⟩,⟨#[105,110]⟩,⟨#[102,117,110]⟩,⟨#[105,102]⟩,⟨#[116,104,101,110]⟩,⟨#[101,108,115,101]⟩,⟨#[109,97,116,99,104]⟩,⟨#[119,105,116,104]⟩,⟨#[101,110,100]⟩,⟨#[116,114,117,101]⟩,⟨#[102,97,108,115,101]⟩]
def kS k:=words.getD k ⟨#[]⟩
def fX(s:ByteArray):Bool:=words.any λw=>w.toList==s.toList
def aap(hk:k<13)(h:((kS k).toList==s.toList)=true):fX s=true:=by
 rw[fX];rw[List.any_eq_true];refine⟨kS k,?_,h⟩;rw[kS];rw[jq,jt<|by simpa[words]using hk];exact List.getElem_mem _
def ON(h:∀j,j<13->((kS j).toList==s.toList)=false):fX s=false:=by
 rw[fX];rw[ju];intro x hx;obtain⟨i,hi,rfl⟩:=List.getElem_of_mem hx;have:=h i (by simpa[words]using hi);rw[kS]at this;rw[jq,jt hi]at this;simpa using this
structure Tok where
 kind:Nat
 text:ByteArray
 aF:Nat
 to:Nat
def xW c:=[40,41,44,59,58,61,124,43,45,42,60,95].any λd=>d==c
def ig(s:ByteArray)(i:Nat)(k to:Nat):Tok:=⟨k,s.extract i to,i,to⟩
def dB s i:=
 if gN (at_ s i)=true then
  if fX (s.extract i<|aM s aY i)=true then ig s i 5 (aM s aY i)else ig s i 1 (aM s aY i)
 else if Ax (at_ s i)=true then ig s i 2 (aM s aY i)
 else if at_ s i=39/\gN (at_ s<|i+1)=true then
  if fX (s.extract (i+1)<|aM s aY<|i+1)=true then ig s i 6 (aM s aY<|i+1)else ig s i 3 (aM s aY<|i+1)
 else if dQ (at_ s i)=true then
  if aM s dQ (i+1)-i<=9 then ig s i 4 (aM s dQ<|i+1)else ig s i 6 (aM s dQ<|i+1)
 else if at_ s i=45/\at_ s (i+1)=62 then ig s i 5 (i+2)
 else if xW (at_ s i)=true then ig s i 5 (i+1)else ig s i 6 (i+1)
end Pu
def aaq c:Pu.gN c=decide (97<=(c:Int)/\(c:Int)<=122):=by
 rw[jv];simp[Pu.gN];omega
def adO c:Pu.Ax c=decide (65<=(c:Int)/\(c:Int)<=90):=by
 rw[jv];simp[Pu.Ax];omega
def aar c:Pu.dQ c=decide (48<=(c:Int)/\(c:Int)<=57):=by
 rw[jv];simp[Pu.dQ];omega
def ai{p:Prop}(h:p):Hid p:=h
def uh{p:Prop}(h:Hid p):p:=h
def qkr{p:Prop}(h:p:=by kernel_rfl):p:=h
def ae{p:Prop}(h:p:=by omega):p:=h
def ag{p:Prop}(h:p:=by simp):p:=h
def aw{p:Prop}(h:p:=by decide):p:=h
def bD{p:Prop}(h:p:=by simp;omega):p:=h
def NT{p:Prop}(h:p:=by rw[en];omega):p:=h
def Yu{p:Prop}(h:p:=by rw[maxLen];omega):p:=h
def Fe{p:Prop}(h:p:=by simpa using h):p:=h
def qas{p:Prop}(h:p:=by assumption):p:=h
def qbr{p:Prop}(h:p:=by exact br _):p:=h
def IA{p:Prop}(h:p:=by simp only[nn,bV]at hk;omega):p:=h
def uX{p:Prop}(h:p:=by rw[uh en];omega):p:=h
def qAc{p:Prop}(h:p:=by rw[ajQ hc];decide):p:=h
def QG{p:Prop}(h:p:=by simp[nn,bV];omega):p:=h
def mE{p:Prop}(h:p:=by cases q):p:=h
def zJ{p:Prop}(h:p:=by simp[World.setCell]):p:=h
def UE{p:Prop}(h:p:=by rw[o.size];exact br _):p:=h
def i_{p:Prop}(h:p:=by go_num):p:=h
def qAi{p:Prop}(h:p:=by intro x hx c;simp at hx;subst hx;intro q;cases q):p:=h
def qAj{p:Prop}(h:p:=by rw[cq];exact Nat.le_trans M_.2<|ajg hd):p:=h
def MZ{p:Prop}(h:p:=by simp at hi;omega):p:=h
def yl{p:Prop}(h:p:=by simp at h):p:=h
def qAm{p:Prop}(h:p:=by rw[show gQ.toList=[40]from toList_mk [40]];decide):p:=h
def qAn{p:Prop}(h:p:=by intro u hu;simp at hu;subst hu;rfl):p:=h
def qAo{p:Prop}(h:p:=by rw[cq];exact Nat.le_trans UT.2<|ajg hd):p:=h
def qAp{p:Prop}(h:p:=by simp[ByteArray.toList_eq]):p:=h
def qAq{p:Prop}(h:p:=by simp[Pu.fX,Pu.words,ByteArray.toList_eq]):p:=h
def qAr{p:Prop}(h:p:=by obtain⟨L,h1,_⟩:=h;exact h1.lt):p:=h
def qAs{p:Prop}(h:p:=by obtain⟨L,h1,h2⟩:=h;exact⟨L,h1.same hb,h2⟩):p:=h
def Ob{p:Prop}(h:p:=by simp[Un.d_]):p:=h
def qAu{p:Prop}(h:p:=by show w.heap.size<=b;omega):p:=h
def qAv{p:Prop}(h:p:=by have:=Eb x;omega):p:=h
def qAw{p:Prop}(h:p:=by rw[q]at r;cases r):p:=h
def qAx{p:Prop}(h:p:=by rw[aL];omega):p:=h
def qAy{p:Prop}(h:p:=by have:wr.heap.size<=b:=p.1;omega):p:=h
def qAz{p:Prop}(h:p:=by simp[World.setCell];exact Z1):p:=h
def Zi{p:Prop}(h:p:=by simp[go_sem]):p:=h
def Cc{p:Prop}(h:p:=by grind):p:=h
def qBe{p:Prop}(h:p:=by rw[ByteArray.toList_eq];decide):p:=h
def qBf{p:Prop}(h:p:=by simp[q]):p:=h
def qBg{p:Prop}(h:p:=by simp[a_]at h):p:=h
def qBh{p:Prop}(h:p:=by rw[uh hC];exact bh):p:=h
def qBi{p:Prop}(h:p:=by simp[nn,bV]):p:=h
def qBj{p:Prop}(h:p:=by simp only[n_];exact .ret ⟨ρ,h.refl⟩):p:=h
def qBk{p:Prop}(h:p:=by rw[gG hk];rfl):p:=h
def qBl{p:Prop}(h:p:=by simpa using hi):p:=h
def qBm{p:Prop}(h:p:=by simp[Array.getD_eq_getD_getElem?,hu]):p:=h
def qBn{p:Prop}(h:p:=by rw[ajQ hc.2];decide):p:=h
def qBo{p:Prop}(h:p:=by rw[ByteArray.size_extract];omega):p:=h
def MO{p:Prop}(h:p:=by cases h):p:=h
def qBq{p:Prop}(h:p:=by simp[e]):p:=h
def qBr{p:Prop}(h:p:=by simp[Pu.gB]):p:=h
def qBs{p:Prop}(h:p:=by subst e;simp at bh):p:=h
def qBt{p:Prop}(h:p:=by have:=hr4 k e;omega):p:=h
def qBu{p:Prop}(h:p:=by simp[World.cell?,h1]):p:=h
def qBv{p:Prop}(h:p:=by have:w0.heap.size<=i:=p;omega):p:=h
def qBw{p:Prop}(h:p:=by have:=H.cn;omega):p:=h
def qBx{p:Prop}(h:p:=by simpa[aB]using hn):p:=h
def qne{p:Prop}(h:p:=by intro b p;try dsimp only at p⊢;omega):p:=h
@[simp] theorem nq0(x : Bool)(w : World) : (Op.unary .not<|.bool x).run jm w = .ok (.bool<|!x) w := rfl
@[simp] theorem nq1(f : Fn)(a b : Array Value)(w : World) : (Instr.makeFunc f a b).run jm w = .ok (.func f a b) w := rfl
@[simp] abbrev Nv(n : Nat) : Value := .int .i64 (n : Int)
@[simp] abbrev Iv(n : Int) : Value := .int .i64 n
@[simp] abbrev Pv(b : Nat) : Value := .pointer<|some ⟨b, 0, none⟩
@[simp] abbrev Mv(b : Nat) : Value := .map<|some b
abbrev Bq(a b : World) := Below a.heap.size a b
abbrev Cq := Calls jm
@[simp] abbrev Sv(s : ByteArray) : Value := .string s
@[simp] abbrev Fv(t : TypeId)(v : Value) : Value := .iface t v
@[simp] abbrev Lv(a : Option Addr)(l c : Nat) : Value := .slice a l c
@[simp] abbrev Av(c : Array Value) : Value := .agg c
@[simp] abbrev Zv : Value := .nilIface
@[simp] abbrev Cv(c : Array Value)(t : TypeId)(f : Nat × Nat := (0, 0)) : Obj := .cells c t f
@[simp] abbrev Rv(v : Value) : Ending := .returned v
def bw(o:Obj):Below w.heap.size w (w.alloc o):=(jo _ _).alloc (jh _) o
def br(n:Nat):n<=n:=jh n
abbrev BA:=ByteArray
def lz{a b:List α}:(a++b).length=a.length+b.length:=List.length_append
def kh{a:α}{b:List α}:(a::b).length=b.length+1:=List.length_cons
def qP:([]:List α).length=0:=List.length_nil
def jR{a b}(h:a=b):jz (.bool a)=.returned (.bool b):=congrArg (λx=>jz<|.bool x) h
def aas{k}{a b}(h:a=b):jz (.int k a)=.returned (.int k b):=congrArg (λx=>jz<|.int k x) h
def step_end{j}{b}(bA:j<s.size)(he:Hid (Pu.aM s p i=Pu.aM s p j))(hb:p (Pu.at_ s j)=b):
 Hid (Pu.aM s p i=if b=true then Pu.aM s p (j+1)else j):=by
 cases b
 .show _=_;rw[he.out,Pu.pC bA hb];rfl
 .show _=_;rw[he.out,Pu.fY bA hb];rfl
namespace Pu
def Ku(h:i<s.size)(hp:p (at_ s i)=true):i+1<=aM s p i:=by
 rw[fY h hp];exact gD _ _ _
def afP(h:at_ s i<256):i<s.size:=by
 by_cases e:i<s.size
 .exact e
 .rw[RH ae]at h;omega
def ue s i(h:i<s.size):i<(dB s i).to/\(dB s i).to<=s.size:=by
 rw[dB];by_cases h1:gN (at_ s i)=true
 .have a:=Ku (p:=aY) h (by simp[aY,h1]);have b:=gH (s:=s) aY (i:=i) ae;rw[if_pos h1];split<;>exact⟨a,b⟩
 rw[if_neg h1];by_cases h2:Ax (at_ s i)=true
 .have a:=Ku (p:=aY) h (by simp[aY,h2]);have b:=gH (s:=s) aY (i:=i) ae;rw[if_pos h2];exact⟨a,b⟩
 rw[if_neg h2];by_cases h3:at_ s i=39/\gN (at_ s<|i+1)=true
 .have c:i+1<s.size:=afP (by have:=h3.2;simp[gN]at this;omega);have a:=gD s aY<|i+1;have b:=gH (s:=s) aY (i:=i+1) ae;rw[if_pos h3];split<;>exact⟨a,b⟩
 rw[if_neg h3];by_cases h4:dQ (at_ s i)=true
 .have a:=gD s dQ<|i+1;have b:=gH (s:=s) dQ (i:=i+1) ae;rw[if_pos h4];split<;>exact⟨a,b⟩
 rw[if_neg h4];by_cases h5:at_ s i=45/\at_ s (i+1)=62
 .have c:i+1<s.size:=afP ae;rw[if_pos h5];exact⟨by show i<i+2;omega,by show i+2<=_;omega⟩
 rw[if_neg h5];split<;>exact⟨by show i<i+1;omega,by show i+1<=_;omega⟩
def cP c:=c==32||c==10
def gB(s:ByteArray):Tok:=⟨7,⟨#[]⟩,s.size,s.size⟩
def rF(s:ByteArray):Nat->Nat->List Tok
 |0,_=>[gB s]|f+1,i=>if i<s.size then(if cP (at_ s i)=true then rF s f (i+1)else dB s i::rF s f (dB s i).to)else[gB s]
def OO s:∀f g i,s.size<=i+f->s.size<=i+g->rF s f i=rF s g i:=by
 intro f
 induction f with
 |zero=>
  intro g i h1 h2
  cases g with
  |zero=>rfl|succ g=>unfold rF;rw[if_neg ae]
 |succ f ih=>
  intro g i h1 h2
  cases g with
  |zero=>grind|succ g=>
   unfold rF;by_cases h:i<s.size
   .rw[if_pos h,if_pos h];have ht:=ue s i h;rw[ih g (i+1) ae ae,ih g (dB s i).to ae ae]
   .grind
def bF s i:=rF s (s.size-i) i
def Aw(h:s.size<=i):bF s i=[gB s]:=by
 rw[bF];rw[show s.size-i=0 by omega];rfl
def AM(h:i<s.size)(hb:cP (at_ s i)=true):bF s i=bF s (i+1):=by
 unfold bF;obtain⟨k,hk⟩:∃k,s.size-i=k+1:=⟨s.size-i-1,ae⟩;rw[hk,rF,if_pos h,if_pos hb,show s.size-(i+1)=k by omega]
def Kv(h:i<s.size)(hb:cP (at_ s i)=false):bF s i=dB s i::bF s (dB s i).to:=by
 unfold bF;obtain⟨k,hk⟩:∃k,s.size-i=k+1:=⟨s.size-i-1,ae⟩;have ht:=ue s i h;rw[hk,rF,if_pos h,if_neg<|by simp[hb],OO s k (s.size-(dB s i).to) _ ae ae]
end Pu
structure Fl where
 kind:Nat
 aF:Nat
 to:Nat
def dw:Fl:=⟨0,0,0⟩
def eK(t:Pu.Tok):Fl:=if t.kind=6 then⟨2,t.aF,t.to⟩else⟨3,t.aF,t.to⟩
structure Ke rb(w w':World):Prop where
 os:w'.os=w.os
 tape:w'.tape=w.tape
 output:w'.output=w.output
 size:w.heap.size<=w'.heap.size
 block:∀k,k<w.heap.size->k≠rb->w'.heap[k]? =w.heap[k]?
def Ke.refl rb w:Ke rb w w:=⟨rfl,rfl,rfl,jh _,λ_ _ _=>rfl⟩
def Ke.of(h:Below w.heap.size w w'):Ke rb w w':=⟨h.os,h.tape,h.output,h.size,λk hk _=>h.block k hk⟩
def Ke.trans{rb}{a b c}(h:Ke rb a b)(k:Ke rb b c):Ke rb a c:=
 ⟨k.os.trans h.os,k.tape.trans h.tape,k.output.trans h.output,jk h.size k.size,λi hi hn=>(k.block i (ji hi h.size) hn).trans<|h.block i hi hn⟩
def Ke.alloc{rb:Nat}{a w:World}(h:Ke rb a w)o:Ke rb a (w.alloc o):=h.trans<|Ke.of<|(jo _ _).alloc (jh _) o
def Ke.set(h:Ke rb a w)j u:Ke rb a (w.setCell ⟨rb,j,none⟩ u):=
 h.trans ⟨rfl,rfl,rfl,zJ,λk _ hn=>jp _ _ _ _ hn⟩
def tk(T:List Pu.Tok)k:=T.getD k ⟨7,⟨#[]⟩,0,0⟩
def afJ{T:List Pu.Tok}(h:k<T.length):T[k]'h=tk T k:=by
 rw[tk];rw[jq,jt h];rfl
def aX(t:Pu.Tok)(s:ByteArray):Bool:=t.kind==5&&t.text.toList==s.toList
abbrev St:=Except Fl Nat
abbrev M(α:Type):=Nat->Except Fl (α×Nat)
def nx{α:Type}(σ:St)(m:M α):St:=match σ with
 |.error e=>.error e
 |.ok k=>match m k with
  |.error e=>.error e|.ok (_,k')=>.ok k'
def lZ{α:Type}(T:List Pu.Tok):M α:=λk=>.error<|eK<|tk T k
def bz(T:List Pu.Tok)(s:ByteArray):M Unit:=λk=>if aX (tk T k) s=true then .ok ((),k+1)else .error (eK<|tk T k)
def dl(T:List Pu.Tok)(n:Nat):M Pu.Tok:=λk=>if(tk T k).kind==n then .ok (tk T k,k+1)else .error (eK<|tk T k)
def aR(T:List Pu.Tok)k:=if k=0 then 0 else(tk T<|k-1).to
structure Bx(w:World)b(C:Array Value):Prop where
 c:∀o,w.cell? ⟨b,o,none⟩=C[o]?
 f:∀o,w.frozen? ⟨b,o,none⟩=false
 z:b<w.heap.size
def Bx.new(w:World)C t:Bx (w.alloc<|.cells C t) w.heap.size C:=⟨λo=>ag,λo=>ag,ag⟩
def oF(w:World)(C:Array Value)(t:TypeId):Below w.heap.size w (w.alloc<|.cells C t)/\Bx (w.alloc<|.cells C t) w.heap.size C:=⟨bw _,Bx.new w C t⟩
def nbh(w:World)(C:Array Value)(t:TypeId):Below w.heap.size w (w.alloc<|.cells C t)/\Hid (Bx (w.alloc<|.cells C t) w.heap.size C):=⟨bw _,Bx.new w C t⟩
def Bx.same(h:Bx w b C)(hs:w.heap.size<=w'.heap.size)(hb:w'.heap[b]? =w.heap[b]?):Bx w' b C:=
 ⟨λo=>by rw[World.cell?_of_block (a:=⟨b,o,none⟩) (w:=w) hb];exact h.c o,λo=>by rw[World.frozen?_of_block (a:=⟨b,o,none⟩) (w:=w) hb];exact h.f o,ji h.z hs⟩
def Bx.below(h:Bx w b C)(hb:Below w.heap.size w w'):Bx w' b C:=h.same hb.size<|hb.block b h.z
def Bx.ke(h:Bx w b C)(hb:Ke rb w w')(hn:b≠rb):Bx w' b C:=h.same hb.size<|hb.block b h.z hn
def Bx.alloc{w:World}{b:Nat}{C:Array Value}(h:Bx w b C)o:Bx (w.alloc o) b C:=h.below<|(jo _ _).alloc (jh _) o
def Ke.py(h:Ke rb a w)(hb:a.heap.size<=b)j u:Ke rb a (w.setCell ⟨b,j,none⟩ u):=
 ⟨h.os,h.tape,h.output,by simpa[World.setCell]using h.size,λk hk hn=>by rw[jp _ _ _ _ (by show k≠b;omega)];exact h.block k hk hn⟩
def cP c:=c==32||c==10
def OP(c:Nat):(((c:Int)==32)||((c:Int)==10))=cP c:=by
 rw[jv];simp[cP];omega
def iO(c:Nat)w:Calls jm 146 #[.int .u8 (c:Int)] w λe w'=>e=.returned (.bool<|Pu.gN c)/\w'=w:=by
 go_enter func146,ntmps146
 go_wp2
 all_goals(go_ret;exact⟨jR (by rw[aaq];symm;simp;try omega),rfl⟩)
def uA(c:Nat)w:Calls jm 148 #[.int .u8 (c:Int)] w λe w'=>e=.returned (.bool<|Pu.Ax c)/\w'=w:=by
 go_enter func148,ntmps148
 go_wp2
 all_goals(go_ret;exact⟨jR (by rw[adO];symm;simp;try omega),rfl⟩)
def mM(c:Nat)w:Calls jm 151 #[.int .u8 (c:Int)] w λe w'=>e=.returned (.bool<|Pu.dQ c)/\w'=w:=by
 go_enter func151,ntmps151
 go_wp2
 all_goals(go_ret;exact⟨jR (by rw[aar];symm;simp;try omega),rfl⟩)
def OQ(c:Nat)w:Calls jm 145 #[.int .u8 (c:Int)] w λe w'=>e=.returned (.bool<|cP c)/\w'=w:=by
 go_enter func145,ntmps145
 go_wp2
 all_goals(go_ret;exact⟨jR (by rw[<-OP];try simp[*]),rfl⟩)
def Vv(c:Nat)w:Calls jm 150 #[.int .u8 (c:Int)] w λe w'=>e=.returned (.bool<|Pu.aY c)/\w'=w:=by
 have hn:Pu.aY c=(Pu.gN c||Pu.Ax c||Pu.dQ c):=rfl;have ajR:(Pu.gN c=true\/(Pu.gN c=false/\Pu.Ax c=true))\/(Pu.gN c=false/\Pu.Ax c=false):=by
  cases Pu.gN c<;>cases Pu.Ax c<;>simp
 obtain  (h1|⟨h1,h2⟩)|⟨h1,h2⟩:=ajR;all_goals
  simp only[*,Bool.or_true,Bool.true_or,Bool.false_or]at hn;have hn:=ai hn;go_enter func150,ntmps150;go_wp2_with(first|(go_at_call 146;refine(iO _ _).mono ?_;rintro e w'⟨rfl,rfl⟩)|(go_at_call 148;refine(uA _ _).mono ?_;rintro e w'⟨rfl,rfl⟩)|(go_at_call 151;refine(mM _ _).mono ?_;rintro e w'⟨rfl,rfl⟩));go_ret;exact⟨jR hn.symm,rfl⟩
def lJ{fn}(hq:fn=145/\p=cP\/fn=150/\p=Pu.aY\/fn=151/\p=Pu.dQ)(s:ByteArray)(i:Nat)(w:World)(hs:s.size<=1000)(hi:i<=s.size):
 Calls jm 144 #[.string s,.int .i64 (i:Int),.func (.func fn) #[] #[]] w λe w'=>e=.returned (.int .i64<|Pu.aM s p i)/\w'=w:=by
 have H:∀(c:Nat)(w:World),Calls jm fn #[.int .u8 (c:Int)] w λe w'=>e=.returned (.bool<|p c)/\w'=w:=by obtain⟨rfl,rfl⟩|⟨rfl,rfl⟩|⟨rfl,rfl⟩:=hq;exact OQ;exact Vv;exact mM
 obtain⟨rfl,hq⟩|⟨rfl,hq⟩|⟨rfl,hq⟩:=hq;all_goals
  clear hq;go_enter func144,ntmps144
  go_wp2
  go_loop[7] (λv=>∃j:Nat,j<=s.size/\v=.int .i64 (j:Int)/\Hid (Pu.aM s p i=Pu.aM s p j)) (λv=>s.size-(intOf v).toNat)
  case atStart=>exact⟨i,hi,rfl,rfl⟩
  case round=>
   obtain⟨j,hj,rfl,he⟩:=hrel;by_cases bA:j<s.size
   .have hn:=Pu.n9 bA
    cases hp:p (Pu.at_ s j)with
    |true=>
     have hm:=step_end bA he hp;rw[hn]at hp;go_wp2_with((first|go_at_call 145|go_at_call 150|go_at_call 151);refine(H _ _).mono ?_;rintro e w'⟨rfl,rfl⟩);go_round
     case rel=>exact⟨j+1,ae,i_,by simpa using hm⟩
     case measure=>simp[intOf];omega
    |false=>
     have hm:=step_end bA he hp;rw[hn]at hp;go_wp2_with((first|go_at_call 145|go_at_call 150|go_at_call 151);refine(H _ _).mono ?_;rintro e w'⟨rfl,rfl⟩);go_ret;exact⟨aas<|congrArg Nat.cast<|hm.out.symm,rfl⟩
   .go_wp2
    go_ret;exact⟨aas<|by rw[he.out,Pu.mK ae],rfl⟩
def aA(t:Pu.Tok):ByteArray:=
 if t.kind=1 then⟨#[108,111,119,32,110,97,109,101]⟩else if t.kind=2 then⟨#[117,112,32,110,97,109,101]⟩else if t.kind=3 then⟨#[97,32,118,97,114,105,97,98,108,101]⟩
 else if t.kind=4 then⟨#[97,32,110,117,109,98,101,114]⟩else if t.kind=7 then⟨#[116,104,101,32,101,110,100]⟩else t.text
def dC(t:Pu.Tok):Value:=.agg #[.int .i64 (t.aF:Int),.int .i64 (t.to:Int),.string<|aA t,.string t.text]
def afQ(a:Nat->ByteArray):∀{j:Nat},j<13->∀w:World,(Instr.index 320 (.agg #[.string<|a 0,.string<|a 1,.string<|a 2,.string<|a 3,.string<|a 4,.string<|a 5,.string<|a 6,.string<|a 7,.string<|a 8,.string<|a 9,.string<|a 10,.string<|a 11,.string<|a 12])<|.int .i64 (j:Int)).run jm w=.ok (.string<|a j) w
 |0,_,w=>qkr|1,_,w=>qkr|2,_,w=>qkr|3,_,w=>qkr|4,_,w=>qkr|5,_,w=>qkr|6,_,w=>qkr|7,_,w=>qkr|8,_,w=>qkr|9,_,w=>qkr|10,_,w=>qkr|11,_,w=>qkr|12,_,w=>qkr|_+13,h,_=>absurd h ae
def Ec{a b:List UInt8}:(a==b)=(b==a):=Cc
def RJ{p:Prop}(h:p:=by
 subst hC;refine⟨λo=>?_,λo=>by simp;exact h.f o,by simpa[World.setCell]using h.z⟩;by_cases e:o=j
 .subst e;rw[World.cell?_setCell_same _ _ _<|(h.c o).trans<|Array.getElem?_eq_getElem hj];simp[hj]
 .rw[World.cell?_setCell_other _ _ _ _ (by intro q;injection q with _ q;exact e q.symm),h.c o,Array.getElem?_setIfInBounds_ne ae]):p:=h
def Bx.aT(h:Bx w b C)j v C'(hC:C'=C.setIfInBounds j v)(hj:j<C.size):Bx (w.setCell ⟨b,j,none⟩ v) b C':=by
 exact RJ
def signs:List ByteArray:=[⟨#[45,62]⟩,⟨#[40]⟩,⟨#[41]⟩,⟨#[44]⟩,⟨#[59]⟩,⟨#[58]⟩,⟨#[61]⟩,⟨#[124]⟩,⟨#[43]⟩,⟨#[45]⟩,⟨#[42]⟩,⟨#[60]⟩,⟨#[95]⟩]
def cQ k:=signs.getD k ⟨#[]⟩
def Kw{u}(h:Below w.heap.size w u)b o(hb:b<w.heap.size):u.cell? ⟨b,o,none⟩=w.cell? ⟨b,o,none⟩:=World.cell?_of_block (a:=⟨b,o,none⟩)<|h.block b hb
def Ed(s:ByteArray)i j(k:ByteArray)(hij:i<=j)(hj:j<=s.size)(hs:s.size<=1000):
 Calls jm 149 #[.string s,.int .i64 (i:Int),.int .i64 (j:Int),.string k] w λe w'=>e=.returned (.agg #[.int .i64 (i:Int),.int .i64 (j:Int),.string k,.string<|s.extract i j])/\Below w.heap.size w w':=by
 have h1:(i:Int)<=(j:Int):=ae;have h2:(j:Int)<=(s.size:Int):=ae;go_enter func149,ntmps149
 go_wp2
 exact bodyPost_ret (v:=.agg #[.int .i64 (i:Int),.int .i64 (j:Int),.string k,.string<|s.extract i j]) (by simp[results,Tryz.results149,go_sem]) rfl ⟨rfl,(jo _ _).alloc (jh _) _⟩
def mN i j:Calls jm 181 #[.int .i64 i,.int .i64 j] w λe w'=>e=.returned (.agg #[.int .i64 2,.int .i64 i,.int .i64 j])/\Below w.heap.size w w':=by
 go_enter func181,ntmps181
 go_wp2
 exact bodyPost_ret (v:=.agg #[.int .i64 2,.int .i64 i,.int .i64 j]) (by simp[results,Tryz.results181,go_sem]) rfl ⟨rfl,(jo _ _).alloc (jh _) _⟩
structure Laid(w:World):Prop where
 words:∀j,j<13->w.cell? ⟨2,j,none⟩=some (.string<|Pu.kS j)
 signs:∀j,j<13->w.cell? ⟨0,j,none⟩=some (.string<|cQ j)
 hz:3<=w.heap.size
def Laid.af{w}(h:Laid w)(hb:Below w.heap.size w w'):Laid w':=
 ⟨λj hj=>(Kw hb 2 j (by have:=h.hz;omega)).trans<|h.words j hj,λj hj=>(Kw hb 0 j (by have:=h.hz;omega)).trans<|h.signs j hj,jk h.hz hb.size⟩
def RK{p:Prop}(h:p:=by
 go_round
 case rel=>exact⟨j+1,ae,i_,IC⟩
 case measure=>simp[intOf];omega):p:=h
def uB(h:Laid w)(s:ByteArray):Calls jm 180 #[.string s] w λe w'=>e=.returned (.bool<|Pu.fX s)/\w'=w:=by
 have g0:=h.words 0 ae;have g1:=h.words 1 ae;have g2:=h.words 2 ae;have g3:=h.words 3 ae;have g4:=h.words 4 ae;have g5:=h.words 5 ae;have g6:=h.words 6 ae;have g7:=h.words 7 ae;have g8:=h.words 8 ae;have g9:=h.words 9 ae;have g10:=h.words 10 ae;have g11:=h.words 11 ae;have g12:=h.words 12 ae;go_enter func180,ntmps180
 go_wp2
 go_loop[6] (λv=>∃j:Nat,j<=13/\v=.int .i64 (j:Int)/\Hid (∀i,i<j->(s.toList==(Pu.kS i).toList)=false)) (λv=>13-(intOf v).toNat)
 case atStart=>exact⟨0,ae,rfl,λi h=>ae⟩
 case round=>
  obtain⟨j,hj,rfl,mX⟩:=hrel;by_cases bA:j<13
  .have hix:=afQ Pu.kS bA;have hd:(j:Int)<13:=ae
   cases he:(s.toList==(Pu.kS j).toList)with
   |true=>
    have hb:Hid (Pu.fX s=true):=Pu.aap bA (by rw[Ec];exact he)
    go_wp2
    go_ret;exact⟨jR hb.symm,rfl⟩
   |false=>
    have IC:Hid (∀i,i<j+1->(s.toList==(Pu.kS i).toList)=false):=λi hi=>by
     by_cases e:i=j
     .subst e;exact he
     .exact mX i ae
    go_wp2
    exact RK
  .have hb:Hid (Pu.fX s=false):=Pu.ON (λi hi=>by rw[Ec];exact mX i ae)
   go_wp2
   go_ret;exact⟨jR hb.symm,rfl⟩
def Gw(s:ByteArray):Nat->Nat
 |0=>0|k+1=>10*Gw s k+(Pu.at_ s k+208)%256
def Kj(s:ByteArray):Nat:=Gw s<|min s.size 9
def adG(s:ByteArray):∀k,k<=9->Gw s k<=255*111111111:=by
 have:∀k,9*Gw s k+255<=255*10^k:=by
  intro k
  induction k with
  |zero=>simp[Gw]|succ k ih=>simp only[Gw,Nat.pow_succ];omega
 intro k hk;have h:=this k;have h2:10^k<=10^9:=Nat.pow_le_pow_right ae hk;omega
inductive Nd where
 |mk(kind:Nat)(s:ByteArray)(n:Nat)(L:List Nd)(aF to at_:Nat):Nd
def toList_mk l:(ByteArray.mk l.toArray).toList=l:=by simp_all
abbrev iN:ByteArray:=⟨#[116,114,117,101]⟩
abbrev eF:ByteArray:=⟨#[102,97,108,115,101]⟩
abbrev CW:ByteArray:=⟨#[95]⟩
abbrev ug:ByteArray:=⟨#[40]⟩
def bW t:=
 if t.kind=1 then 1 else if t.kind=2 then 2 else if t.kind=3 then 16 else if t.kind=4 then 3
 else if aX t iN=true\/aX t eF=true then 4 else if aX t CW=true then 15 else 0
def nK(t:Pu.Tok):Nat:=if t.kind=4 then Kj t.text else 0
def GG t l:aX t ⟨l.toArray⟩=(t.kind==5&&t.text.toList==l):=by simp_all[aX]
def Kk t:aX t iN=(t.kind==5&&t.text.toList==[116,114,117,101]):=GG t _
def D9 t:aX t eF=(t.kind==5&&t.text.toList==[102,97,108,115,101]):=GG t _
def Rz t:aX t CW=(t.kind==5&&t.text.toList==[95]):=GG t _
def aK t sort:=aX t ug||
 (if sort=1 then bW t==16||bW t==2 else if sort=2 then bW t==15||bW t==1||bW t==2||bW t==3||bW t==4 else bW t==1||bW t==2||bW t==3||bW t==4)
abbrev jY:ByteArray:=⟨#[]⟩
abbrev nO:ByteArray:=⟨#[41]⟩
abbrev nQ:ByteArray:=⟨#[44]⟩
abbrev Gy:ByteArray:=⟨#[58]⟩
abbrev sr:ByteArray:=⟨#[45,62]⟩
abbrev jB:ByteArray:=⟨#[42]⟩
abbrev lB:ByteArray:=⟨#[43]⟩
abbrev gp:ByteArray:=⟨#[45]⟩
abbrev iC:ByteArray:=⟨#[60]⟩
abbrev OD:ByteArray:=⟨#[102,117,110]⟩
abbrev vR:ByteArray:=⟨#[108,101,116]⟩
abbrev aat:ByteArray:=⟨#[114,101,99]⟩
abbrev kIn:ByteArray:=⟨#[105,110]⟩
abbrev kIf:ByteArray:=⟨#[105,102]⟩
abbrev ajS:ByteArray:=⟨#[116,104,101,110]⟩
abbrev ajT:ByteArray:=⟨#[101,108,115,101]⟩
abbrev vS:ByteArray:=⟨#[109,97,116,99,104]⟩
abbrev ajU:ByteArray:=⟨#[119,105,116,104]⟩
abbrev alY:ByteArray:=⟨#[101,110,100]⟩
abbrev Vw:ByteArray:=⟨#[124]⟩
abbrev Kx:ByteArray:=⟨#[59]⟩
abbrev kEq:ByteArray:=⟨#[61]⟩
abbrev po:ByteArray:=⟨#[116,121,112,101]⟩
def cN(t:Pu.Tok):Nd:=.mk (bW t) t.text (nK t) [] t.aF t.to t.aF
def Nd.add:Nd->Nd->Nat->Nd
 |.mk k s n L f _ a,y,to=>.mk k s n (L++[y]) f to a
def aV{α β:Type}(m:M α)(f:α->M β):M β:=λk=>match m k with
 |.error e=>.error e|.ok (a,k')=>f a k'
section
variable (T:List Pu.Tok)
def sd(mk:Nat->Nd):M Nd:=aV (bz T nO) λ_ k=>.ok (mk k,k)
def iK part typ sort aF a:=λk=>
 if aX (tk T k) nQ=true then aV part (λb=>sd T λk'=>.mk 6 jY 0 [a,b] aF (aR T k') aF) (k+1)
 else if sort=3/\aX (tk T k) Gy=true then aV typ (λb=>sd T λk'=>.mk 14 jY 0 [a,b] aF (aR T k') aF) (k+1)
 else sd T (λ_=>a) k
def eQ part typ sort aF:=λk=>
 if sort≠1/\aX (tk T k) nO=true then .ok (.mk 5 jY 0 [] aF (aR T<|k+1) aF,k+1)
 else aV part (iK T part typ sort aF) k
def aH part typ sort:=λk=>
 if aK (tk T k) sort=true then
  (if aX (tk T k) ug=true then eQ T part typ sort (tk T k).aF (k+1)else .ok (cN<|tk T k,k+1))
 else .error (eK<|tk T k)
def dn(small:M Nd)(sort:Nat):Nat->Nd->M Nd
 |0,x=>λk=>.ok (x,k)|f+1,x=>λk=>if aK (tk T k) sort=true then aV small (λy k'=>dn small sort f (x.add y<|aR T k') k') k else .ok (x,k)
def iM small sort:=λk=>if(tk T k).kind==2 then aV small (dn T small sort T.length) k else small k
def nI typ aF(a:Nd):=λk=>
 if aX (tk T k) sr=true then aV typ (λb k'=>.ok (.mk 17 jY 0 [a,b] aF (aR T k') aF,k')) (k+1)else .ok (a,k)
def da:Nat->M Nd
 |0=>lZ T|n+1=>λk=>aV (iM T (aH T (da n) (da n) 1) 1) (nI T (da n) (tk T k).aF) k
def dv:Nat->M Nd
 |0=>lZ T|n+1=>iM T (aH T (dv n) (lZ T) 2) 2
def jF(small:M Nd)(aF:Nat):Nat->Nd->M Nd
 |0,x=>λk=>.ok (x,k)|f+1,x=>λk=>if aK (tk T k) 3=true then aV small (λy k'=>jF small aF f (.mk 8 jY 0 [x,y] aF (aR T k') aF) k') k else .ok (x,k)
def db small:=λk=>aV small (jF T small (tk T k).aF T.length) k
def mL(call:M Nd)(aF:Nat):Nat->Nd->M Nd
 |0,x=>λk=>.ok (x,k)|f+1,x=>λk=>if aX (tk T k) jB=true then aV call (λy k'=>mL call aF f (.mk 7 jB 0 [x,y] aF (aR T k') aF) k') (k+1)else .ok (x,k)
def fe call:=λk=>aV call (mL T call (tk T k).aF T.length) k
def vW(prod:M Nd)(aF:Nat):Nat->Nd->M Nd
 |0,x=>λk=>.ok (x,k)|f+1,x=>λk=>if aX (tk T k) lB=true\/aX (tk T k) gp=true then aV prod (λy k'=>vW prod aF f (.mk 7 (tk T k).text 0 [x,y] aF (aR T k') aF) k') (k+1)else .ok (x,k)
def ur prod:=λk=>aV prod (vW T prod (tk T k).aF T.length) k
def vX(expr:M Nd):M Nd:=λk=>
 aV (bz T OD) (λ_=>aV (dl T 1) λt=>aV (bz T sr) λ_=>aV expr λe k'=>.ok (.mk 9 t.text 0 [e] (tk T k).aF (aR T k') t.aF,k')) k
def ch(expr:M Nd):M (Nat×Pu.Tok×Nd):=
 aV (bz T vR) λ_ k=>
  if aX (tk T k) aat=true then aV (dl T 1) (λt=>aV (bz T kEq) λ_=>aV (vX T expr) λe k'=>.ok ((11,t,e),k')) (k+1)
  else aV (dl T 1) (λt=>aV (bz T kEq) λ_=>aV expr λe k'=>.ok ((10,t,e),k')) k
def qL(expr:M Nd):M Nd:=λk=>
 aV (bz T kIf) (λ_=>aV expr λa=>aV (bz T ajS) λ_=>aV expr λb=>aV (bz T ajT) λ_=>aV expr λc k'=>.ok (.mk 12 jY 0 [a,b,c] (tk T k).aF (aR T k') (tk T k).aF,k')) k
def oa(uw expr:M Nd):Nat->List Nd->M (List Nd)
 |0,l=>λk=>.ok (l,k)|f+1,l=>aV uw λp=>aV (bz T sr) λ_=>aV expr λe k=>
   if aX (tk T k) Vw=true then oa uw expr f (l++[p,e]) (k+1)else .ok (l++[p,e],k)
def v8(uw expr:M Nd):M Nd:=λk=>
 aV (bz T vS) (λ_=>aV expr λx=>aV (bz T ajU) λ_=>aV (oa T uw expr T.length [x]) λl=>aV (bz T alY) λ_ k'=>.ok (.mk 13 jY 0 l (tk T k).aF (aR T k') (tk T k).aF,k')) k
def qR(expr:M Nd):M Nd:=λk=>
 aV (ch T expr) (λb=>aV (bz T kIn) λ_=>aV expr λf k'=>.ok (.mk b.1 b.2.1.text 0 [b.2.2,f] (tk T k).aF (aR T k') b.2.1.aF,k')) k
def uv(sum:M Nd):M Nd:=λk=>
 aV sum (λx k1=>if aX (tk T k1) iC=true then aV sum (λy k'=>.ok (.mk 7 iC 0 [x,y] (tk T k).aF (aR T k') (tk T k).aF,k')) (k1+1)else .ok (x,k1)) k
def bt:Nat->M Nd
 |0=>lZ T|n+1=>λk=>
  if aX (tk T k) OD=true then vX T (bt n) k
  else if aX (tk T k) kIf=true then qL T (bt n) k
  else if aX (tk T k) vS=true then v8 T (dv T n) (bt n) k
  else if aX (tk T k) vR=true then qR T (bt n) k
  else uv T (ur T<|fe T<|db T<|aH T (bt n) (da T n) 3) k
end
def Ke.below{b c:World}(h:Ke rb a b)(k:Below b.heap.size b c):Ke rb a c:=h.trans<|Ke.of k
section
variable {T:List Pu.Tok} {σ:St}
def pE{t}(h:aX t s=true):t.kind=5:=by simp[aX]at h;exact h.1
end
def Bx.at(w:World)C t b(hb:b=w.heap.size):Bx (w.alloc<|.cells C t) b C:=by subst hb;exact Bx.new w C t
def Bx.vF(h:Bx w b C)j v C'(hC:C'=C.setIfInBounds j v)(hj:j<C.size):Bx (w.setCell ⟨b,j,none⟩ v) b C':=by
 exact RJ
def Bx.qX{b2}(h:Bx w b C)(hn:b≠b2)j v:Bx (w.setCell ⟨b2,j,none⟩ v) b C:=
 h.same zJ (jp _ _ _ _ hn)
def Bx.aau(h:Bx w b C)(hC:C.size=7)v0 v1 v2 v3 v4 v5 v6:Bx (((((((w.setCell ⟨b,0,none⟩ v0).setCell ⟨b,1,none⟩ v1).setCell ⟨b,2,none⟩ v2).setCell ⟨b,3,none⟩ v3).setCell ⟨b,4,none⟩ v4).setCell ⟨b,5,none⟩ v5).setCell ⟨b,6,none⟩ v6) b #[v0,v1,v2,v3,v4,v5,v6]:=by
 obtain⟨a0,a1,a2,a3,a4,a5,a6,rfl⟩:∃a0 a1 a2 a3 a4 a5 a6,C=#[a0,a1,a2,a3,a4,a5,a6]:=by
  obtain⟨l⟩:=C
  match l,hC with
  |[a,b,c,d,e,f,g],_=>grind
 exact((((((h.vF 0 v0 #[v0,a1,a2,a3,a4,a5,a6] rfl ag).vF 1 v1 #[v0,v1,a2,a3,a4,a5,a6] rfl ag).vF 2 v2 #[v0,v1,v2,a3,a4,a5,a6] rfl ag).vF 3 v3 #[v0,v1,v2,v3,a4,a5,a6] rfl ag).vF 4 v4 #[v0,v1,v2,v3,v4,a5,a6] rfl ag).vF 5 v5 #[v0,v1,v2,v3,v4,v5,a6] rfl ag).vF 6 v6 #[v0,v1,v2,v3,v4,v5,v6] rfl ag
def Bx.ajV{b'}(h:Bx w b' C)(hn:b'≠b)v0 v1 v2 v3 v4 v5 v6:Bx (((((((w.setCell ⟨b,0,none⟩ v0).setCell ⟨b,1,none⟩ v1).setCell ⟨b,2,none⟩ v2).setCell ⟨b,3,none⟩ v3).setCell ⟨b,4,none⟩ v4).setCell ⟨b,5,none⟩ v5).setCell ⟨b,6,none⟩ v6) b' C:=
 ((((((h.qX hn 0 v0).qX hn 1 v1).qX hn 2 v2).qX hn 3 v3).qX hn 4 v4).qX hn 5 v5).qX hn 6 v6
def GH{α:Type}(m:M α):=∀k a k',m k=.ok (a,k')->k<=k'
def ftV(k i j:Int):Value:=.agg #[.int .i64 k,.int .i64 i,.int .i64 j]
abbrev AB:Array Value:=#[.int .i64 0,.int .i64 0,.string ⟨#[]⟩,.string ⟨#[]⟩]
def Bx.nE{w}(h:Bx w b C)(hC:C.size=4)v0 v1 v2 v3:Bx ((((w.setCell ⟨b,0,none⟩ v0).setCell ⟨b,1,none⟩ v1).setCell ⟨b,2,none⟩ v2).setCell ⟨b,3,none⟩ v3) b #[v0,v1,v2,v3]:=by
 obtain⟨a0,a1,a2,a3,rfl⟩:∃a0 a1 a2 a3,C=#[a0,a1,a2,a3]:=by
  obtain⟨l⟩:=C
  match l,hC with
  |[a,b,c,d],_=>grind
 exact(((h.aT 0 v0 #[v0,a1,a2,a3] rfl ag).aT 1 v1 #[v0,v1,a2,a3] rfl ag).aT 2 v2 #[v0,v1,v2,a3] rfl ag).aT 3 v3 #[v0,v1,v2,v3] rfl ag
def _root_.Go.RowKit.Below.nE{B}{w}(h:Below B a w)(hb:B<=b)v0 v1 v2 v3:Below B a ((((w.setCell ⟨b,0,none⟩ v0).setCell ⟨b,1,none⟩ v1).setCell ⟨b,2,none⟩ v2).setCell ⟨b,3,none⟩ v3):=
 (((h.setCell hb v0).setCell hb v1).setCell hb v2).setCell hb v3
def Kz(h:Laid w)(s:ByteArray)i(hi:i<s.size)(hs:s.size<=1000):
 Calls jm 147 #[.string s,.int .i64 (i:Int)] w λe w'=>e=.returned (dC<|if Pu.fX (s.extract i<|Pu.aM s Pu.aY i)=true then Pu.ig s i 5 (Pu.aM s Pu.aY i)else Pu.ig s i 1 (Pu.aM s Pu.aY i))/\Below w.heap.size w w':=by
 have hle:=Pu.gH (s:=s) Pu.aY (i:=i) ae;have Jl:=Pu.gD s Pu.aY i;have H:=h.af<|(jo w.heap.size w).alloc (jh _)<|.cells AB 203;have B0:=Bx.new w AB 203;have HB:=(jo w.heap.size w).alloc (jh _)<|.cells AB 203;have h1:(i:Int)<=((Pu.aM s Pu.aY i:Nat):Int):=ae;have h2:((Pu.aM s Pu.aY i:Nat):Int)<=(s.size:Int):=ae
 cases hw:Pu.fX (s.extract i<|Pu.aM s Pu.aY i)with
 |true=>
  go_enter func147,ntmps147;go_wp2_with(first|(go_at_call 144;refine(lJ (Or.inr<|Or.inl ⟨rfl,rfl⟩) s i _ hs ae).mono ?_;rintro e w'⟨rfl,rfl⟩)|(go_at_call 180;refine(uB H _).mono ?_;rintro e w'⟨rfl,rfl⟩)|(go_at_call 149;refine(Ed s i _ _ Jl hle hs).mono ?_;rintro e w1⟨rfl,hb⟩;have B1:=ai<|B0.below hb;have dA:=ai<|HB.trans<|hb.mono ag;have⟨c1,f1,y1⟩:=uh B1;clear hb));have BF:=B1.nE rfl (.int .i64 (i:Int)) (.int .i64 ((Pu.aM s Pu.aY i:Nat):Int)) (.string<|s.extract i<|Pu.aM s Pu.aY i) (.string<|s.extract i<|Pu.aM s Pu.aY i);obtain⟨cF,fF,zF⟩:=BF;refine bodyPost_ret (v:=dC<|Pu.ig s i 5<|Pu.aM s Pu.aY i) (by simp[results,Tryz.results147,go_sem,cF,dC,Pu.ig,aA]) rfl ⟨ag,dA.nE (Nat.le_refl _) _ _ _ _⟩
 |false=>
  go_enter func147,ntmps147;go_wp2_with(first|(go_at_call 144;refine(lJ (Or.inr<|Or.inl ⟨rfl,rfl⟩) s i _ hs ae).mono ?_;rintro e w'⟨rfl,rfl⟩)|(go_at_call 180;refine(uB H _).mono ?_;rintro e w'⟨rfl,rfl⟩)|(go_at_call 149;refine(Ed s i _ _ Jl hle hs).mono ?_;rintro e w1⟨rfl,hb⟩;have B1:=ai<|B0.below hb;have dA:=ai<|HB.trans<|hb.mono ag;have⟨c1,f1,y1⟩:=uh B1;clear hb));have BF:=B1.nE rfl (.int .i64 (i:Int)) (.int .i64 ((Pu.aM s Pu.aY i:Nat):Int)) (.string ⟨#[108,111,119,32,110,97,109,101]⟩) (.string<|s.extract i<|Pu.aM s Pu.aY i);obtain⟨cF,fF,zF⟩:=BF;refine bodyPost_ret (v:=dC<|Pu.ig s i 1<|Pu.aM s Pu.aY i) (by simp[results,Tryz.results147,go_sem,cF,dC,Pu.ig,aA]) rfl ⟨ag,dA.nE (Nat.le_refl _) _ _ _ _⟩
def eM t w(e:Ending)w':=
 Below w.heap.size w w'/\((t.kind≠6/\e=.returned (dC t))\/(t.kind=6/\e=.panicked [{v:=.iface 198<|.agg #[.int .i64 2,.int .i64 (t.aF:Int),.int .i64 (t.to:Int)],recovered:=false}]))
def aav(s:ByteArray)i(hi:i<s.size)(hs:s.size<=1000):
 Calls jm 152 #[.string s,.int .i64 (i:Int)] w (eM (if Pu.aM s Pu.dQ i-i<=9 then Pu.ig s i 4 (Pu.aM s Pu.dQ i)else Pu.ig s i 6 (Pu.aM s Pu.dQ i)) w):=by
 have hle:=Pu.gH (s:=s) Pu.dQ (i:=i) ae;have Jl:=Pu.gD s Pu.dQ i;have B0:=Bx.new w AB 203;have HB:=(jo w.heap.size w).alloc (jh _)<|.cells AB 203;by_cases hd:Pu.aM s Pu.dQ i-i<=9
 .have h1:¬(9:Int)<((Pu.aM s Pu.dQ i:Nat):Int)-(i:Int):=ae;rw[if_pos hd];go_enter func152,ntmps152;go_wp2_with(first|(go_at_call 144;refine(lJ (Or.inr<|Or.inr ⟨rfl,rfl⟩) s i _ hs ae).mono ?_;rintro e w'⟨rfl,rfl⟩)|(go_at_call 149;refine(Ed s i _ _ Jl hle hs).mono ?_;rintro e w1⟨rfl,hb⟩;have B1:=ai<|B0.below hb;have dA:=ai<|HB.trans<|hb.mono ag;have⟨c1,f1,y1⟩:=uh B1;clear hb));have BF:=B1.nE rfl (.int .i64 (i:Int)) (.int .i64 ((Pu.aM s Pu.dQ i:Nat):Int)) (.string ⟨#[97,32,110,117,109,98,101,114]⟩) (.string<|s.extract i<|Pu.aM s Pu.dQ i);obtain⟨cF,fF,zF⟩:=BF;exact bodyPost_ret (v:=dC<|Pu.ig s i 4<|Pu.aM s Pu.dQ i) (by simp[results,Tryz.results152,go_sem,cF,dC,Pu.ig,aA]) rfl ⟨dA.nE (Nat.le_refl _) _ _ _ _,Or.inl ⟨by simp[Pu.ig],rfl⟩⟩
 .have h1:(9:Int)<((Pu.aM s Pu.dQ i:Nat):Int)-(i:Int):=ae;rw[if_neg hd];go_enter func152,ntmps152;go_wp2_with(first|(go_at_call 144;refine(lJ (Or.inr<|Or.inr ⟨rfl,rfl⟩) s i _ hs ae).mono ?_;rintro e w'⟨rfl,rfl⟩)|(go_at_call 181;refine(mN _ _).mono ?_;rintro e w1⟨rfl,hb⟩;have dA:=ai<|HB.trans<|hb.mono ag;clear hb));exact⟨rfl,dA,Or.inr ⟨rfl,rfl⟩⟩
def kT(s:ByteArray)i:=
 if Pu.gN (Pu.at_ s<|i+1)=true then(if Pu.fX (s.extract (i+1)<|Pu.aM s Pu.aY<|i+1)=true then Pu.ig s i 6 (Pu.aM s Pu.aY<|i+1)else Pu.ig s i 3 (Pu.aM s Pu.aY<|i+1))else Pu.ig s i 6 (i+1)
def ajW(h:Laid w)(s:ByteArray)i(hi:i<s.size)(hs:s.size<=1000):
 Calls jm 153 #[.string s,.int .i64 (i:Int)] w (eM (kT s i) w):=by
 have B0:=Bx.new w AB 203;have HB:=(jo w.heap.size w).alloc (jh _)<|.cells AB 203;have H:=h.af HB;by_cases hn:i+1<s.size
 .have he:(((i:Int)+1)==(s.size:Int))=false:=bD;have Nj:=Pu.n9 hn
  cases sH:Pu.gN s[i+1].toNat with
  |false=>
   have ht:kT s i=Pu.ig s i 6 (i+1):=by rw[kT];rw[Nj,sH];simp
   rw[ht];go_enter func153,ntmps153;go_wp2_with(first|(go_at_call 146;refine(iO _ _).mono ?_;rintro e w'⟨rfl,rfl⟩)|(go_at_call 181;refine(mN _ _).mono ?_;rintro e w1⟨rfl,hb⟩;have dA:=ai<|HB.trans<|hb.mono ag;clear hb));exact⟨rfl,dA,Or.inr ⟨rfl,rfl⟩⟩
  |true=>
   have hle:=Pu.gH (s:=s) Pu.aY (i:=i+1) ae;have Jl:=Pu.gD s Pu.aY<|i+1;have h1:(i:Int)+1<=((Pu.aM s Pu.aY (i+1):Nat):Int):=ae;have h2:((Pu.aM s Pu.aY (i+1):Nat):Int)<=(s.size:Int):=ae
   cases hw:Pu.fX (s.extract (i+1)<|Pu.aM s Pu.aY<|i+1)with
   |true=>
    have ht:kT s i=Pu.ig s i 6 (Pu.aM s Pu.aY<|i+1):=by rw[kT];rw[Nj,sH,hw];simp
    rw[ht];go_enter func153,ntmps153;go_wp2_with(first|(go_at_call 146;refine(iO _ _).mono ?_;rintro e w'⟨rfl,rfl⟩)|(go_at_call 144;refine(lJ (Or.inr<|Or.inl ⟨rfl,rfl⟩) s (i+1) _ hs ae).mono ?_;rintro e w'⟨rfl,rfl⟩)|(go_at_call 180;refine(uB H _).mono ?_;rintro e w'⟨rfl,rfl⟩)|(go_at_call 181;refine(mN _ _).mono ?_;rintro e w1⟨rfl,hb⟩;have dA:=ai<|HB.trans<|hb.mono ag;clear hb));exact⟨rfl,dA,Or.inr ⟨rfl,rfl⟩⟩
   |false=>
    have ht:kT s i=Pu.ig s i 3 (Pu.aM s Pu.aY<|i+1):=by rw[kT];rw[Nj,sH,hw];simp
    rw[ht];go_enter func153,ntmps153;go_wp2_with(first|(go_at_call 146;refine(iO _ _).mono ?_;rintro e w'⟨rfl,rfl⟩)|(go_at_call 144;refine(lJ (Or.inr<|Or.inl ⟨rfl,rfl⟩) s (i+1) _ hs ae).mono ?_;rintro e w'⟨rfl,rfl⟩)|(go_at_call 180;refine(uB H _).mono ?_;rintro e w'⟨rfl,rfl⟩)|(go_at_call 149;refine(Ed s i _ _ ae hle hs).mono ?_;rintro e w1⟨rfl,hb⟩;have B1:=ai<|B0.below hb;have dA:=ai<|HB.trans<|hb.mono ag;have⟨c1,f1,y1⟩:=uh B1;clear hb));have BF:=B1.nE rfl (.int .i64 (i:Int)) (.int .i64 ((Pu.aM s Pu.aY (i+1):Nat):Int)) (.string ⟨#[97,32,118,97,114,105,97,98,108,101]⟩) (.string<|s.extract i<|Pu.aM s Pu.aY<|i+1);obtain⟨cF,fF,zF⟩:=BF;exact bodyPost_ret (v:=dC<|Pu.ig s i 3<|Pu.aM s Pu.aY<|i+1) (by simp[results,Tryz.results153,go_sem,cF,dC,Pu.ig,aA]) rfl ⟨dA.nE (Nat.le_refl _) _ _ _ _,Or.inl ⟨by simp[Pu.ig],rfl⟩⟩
 .have he:(((i:Int)+1)==(s.size:Int))=true:=bD;have ht:kT s i=Pu.ig s i 6 (i+1):=by
   rw[kT];rw[Pu.RH ae];rfl
  rw[ht];go_enter func153,ntmps153;go_wp2_with(first|(go_at_call 181;refine(mN _ _).mono ?_;rintro e w1⟨rfl,hb⟩;have dA:=ai<|HB.trans<|hb.mono ag;clear hb));exact⟨rfl,dA,Or.inr ⟨rfl,rfl⟩⟩
def preB(s p:ByteArray):Bool:=decide (p.size<=s.size)&&((s.extract 0 p.size).toList==p.toList)
def mw(s:ByteArray)i k:=
 if k=0 then(Pu.at_ s i==45&&Pu.at_ s (i+1)==62)else Pu.at_ s i==((cQ k)[0]!).toNat
def l7(s:ByteArray)i:=
 if Pu.at_ s i=45/\Pu.at_ s (i+1)=62 then Pu.ig s i 5 (i+2)
 else if Pu.xW (Pu.at_ s i)=true then Pu.ig s i 5 (i+1)else Pu.ig s i 6 (i+1)
def pJ{a b:ByteArray}(h:(a.toList==b.toList)=true):a=b:=by
 rw[beq_iff_eq,jy,jy]at h;exact jf<|Array.toList_inj.1 h
def alZ(h:i<s.size):s.extract i (i+1)=⟨#[s[i]]⟩:=by
 apply jf;apply Array.ext
 .simp;omega
 .intro j h1 h2;have:j=0:=by simp at h2;omega
  subst this;simp[jd];rfl
def al0(h:i+1<s.size):s.extract i (i+2)=⟨#[s[i],s[i+1]]⟩:=by
 apply jf;apply Array.ext
 .simp;omega
 .intro j h1 h2;have:j=0\/j=1:=by simp at h2;omega
  obtain rfl|rfl:=this
  .simp[jd];rfl
  .simp[jd];rfl
def RL{p:Prop}(h:p:=by
 intro h;have:=congrArg (λb:ByteArray=>b.data)<|pJ h;simp at this
 simp[this]):p:=h
def yo(hi:i<s.size)c:preB (s.extract i s.size) ⟨#[c]⟩=(Pu.at_ s i==c.toNat):=by
 have hz:(⟨#[c]⟩:ByteArray).size=1:=rfl;rw[preB];rw[hz,jc,show min (i+1) s.size=i+1 by omega,jl,alZ hi,Pu.n9 hi,ja];rw[decide_eq_true ae,Bool.true_and,jv];constructor
 .exact RL
 .intro h;rw[beq_iff_eq]at h;rw[UInt8.toNat_inj.1 h];simp
def al1(hi:i<s.size)c d:preB (s.extract i s.size) ⟨#[c,d]⟩=(Pu.at_ s i==c.toNat&&Pu.at_ s (i+1)==d.toNat):=by
 have hz:(⟨#[c,d]⟩:ByteArray).size=2:=rfl;rw[preB];rw[hz];by_cases hn:i+1<s.size
 .rw[jc,show min (i+2) s.size=i+2 by omega,jl,al0 hn,Pu.n9 hi,Pu.n9 hn,ja];rw[decide_eq_true ae,Bool.true_and,jv];constructor
  .exact RL
  .intro h;rw[jx,beq_iff_eq,beq_iff_eq]at h;rw[UInt8.toNat_inj.1 h.1,UInt8.toNat_inj.1 h.2];simp
 .rw[ja,decide_eq_false ae,Pu.RH (s:=s) (i:=i+1) ae];have:(256==d.toNat)=false:=by have:=UInt8.toNat_lt d;simp;omega
  rw[this];simp
def RM(hi:i<s.size):∀k,k<13->preB (s.extract i s.size) (cQ k)=mw s i k
 |0,_=>al1 hi 45 62|1,_=>yo hi _|2,_=>yo hi _|3,_=>yo hi _|4,_=>yo hi _|5,_=>yo hi _|6,_=>yo hi _|7,_=>yo hi _|8,_=>yo hi _|9,_=>yo hi _|10,_=>yo hi _|11,_=>yo hi _|12,_=>yo hi _|k+13,h=>absurd h ae
def ahl:∀k,0<k->k<13->(∀j,j<k->mw s i j=false)->mw s i k=true->l7 s i=Pu.ig s i 5 (i+1):=by
 intro k h0 hk mX hh;rw[l7];have n0:=mX 0 h0;rw[if_neg (by intro q;simp[mw,q.1,q.2]at n0)];have:Pu.xW (Pu.at_ s i)=true:=by
  have hc:k=1\/k=2\/k=3\/k=4\/k=5\/k=6\/k=7\/k=8\/k=9\/k=10\/k=11\/k=12:=ae;rw[mw]at hh;rw[if_neg ae,beq_iff_eq]at hh;rw[hh];obtain rfl|rfl|rfl|rfl|rfl|rfl|rfl|rfl|rfl|rfl|rfl|rfl:=hc<;>decide
 rw[if_pos this]
def ajX(h:mw s i 0=true):l7 s i=Pu.ig s i 5 (i+2):=by grind[mw,l7]
def ahm(h:∀j,j<13->mw s i j=false):l7 s i=Pu.ig s i 6 (i+1):=by
 rw[l7];have n0:=h 0 ae;rw[if_neg (by intro q;simp[mw,q.1,q.2]at n0)];have:Pu.xW (Pu.at_ s i)=false:=by
  rw[Pu.xW];rw[ju];intro x hx;simp only[List.mem_cons,List.not_mem_nil,or_false]at hx;intro q;rw[beq_iff_eq]at q;have H:∀k,0<k->k<13->((cQ k)[0]!).toNat=x->False:=λk h0 hk e=>by
   have:=h k hk;rw[mw]at this;rw[if_neg ae,e,q]at this;simp at this
  obtain rfl|rfl|rfl|rfl|rfl|rfl|rfl|rfl|rfl|rfl|rfl|rfl:=hx
  .exact H 1 ae ae rfl
  .exact H 2 ae ae rfl
  .exact H 3 ae ae rfl
  .exact H 4 ae ae rfl
  .exact H 5 ae ae rfl
  .exact H 6 ae ae rfl
  .exact H 7 ae ae rfl
  .exact H 8 ae ae rfl
  .exact H 9 ae ae rfl
  .exact H 10 ae ae rfl
  .exact H 11 ae ae rfl
  .exact H 12 ae ae rfl
 rw[this];rfl
def aaw(hi:i<s.size)(hk:k<13)(h:mw s i k=true):i+(cQ k).size<=s.size/\s.extract i (i+(cQ k).size)=cQ k:=by
 rw[<-RM hi k hk]at h;rw[preB]at h;rw[jx,decide_eq_true_iff,ja]at h;have hz:i+(cQ k).size<=s.size:=ae;refine⟨hz,?_⟩;have:=pJ h.2
 rwa[jc,jl,Nat.min_eq_left hz]at this
def aax:∀{k:Nat},k<13->1<=(cQ k).size/\(cQ k).size<=2:=λ{k}h=>(by decide:∀k:Fin 13,1<=(cQ k.1).size/\(cQ k.1).size<=2) ⟨k,h⟩
def ahn:∀{k:Nat},0<k->k<13->(cQ k).size=1:=λ{k}h0 h=>(by decide:∀k:Fin 13,0<k.1->(cQ k.1).size=1) ⟨k,h⟩ h0
def adP(hk:k<13)(h:∀j,j<k->mw s i j=false)(hh:mw s i k=true):l7 s i=Pu.ig s i 5 (i+(cQ k).size):=by
 obtain rfl|h0:=Nat.eq_zero_or_pos k
 .exact ajX hh
 .rw[ahn h0 hk];exact ahl k h0 hk h hh
def RN{p:Prop}(h:p:=by
 go_enter func199,ntmps199
 go_wp2
 go_ret
 exact⟨jR<|by simp[preB,hz],rfl⟩):p:=h
def aho(s p:ByteArray)(hs:s.size<=1000)(hp:p.size<=2):Calls jm 199 #[.string s,.string p] w λe w'=>e=.returned (.bool<|preB s p)/\w'=w:=by
 by_cases h:p.size<=s.size
 .have h1:(p.size:Int)<=(s.size:Int):=ae;have hz:decide (p.size<=s.size)=true:=by simp[h]
  exact RN
 .have h1:¬(p.size:Int)<=(s.size:Int):=ae;have hz:decide (p.size<=s.size)=false:=bD;exact RN
def aay(s p:ByteArray)(hs:s.size<=1000)(hp:p.size<=2):Calls jm 182 #[.string s,.string p] w λe w'=>e=.returned (.bool<|preB s p)/\w'=w:=by
 go_enter func182,ntmps182;go_wp2_with(go_at_call 199;refine(aho s p hs hp).mono ?_;rintro e w'⟨rfl,rfl⟩);go_ret;exact⟨jR rfl,rfl⟩
def Ee(s:ByteArray)i k(hi:i<s.size)(hs:s.size<=1000)(hk:k<13)(hz:(cQ k).size<=2):Calls jm 182 #[.string<|s.extract i s.size,.string<|cQ k] w λe w'=>e=.returned (.bool<|mw s i k)/\w'=w:=by
 rw[<-RM hi k hk];exact aay _ _ qBo hz
def ahp(h:Laid w)(s:ByteArray)(i:Nat)(hi:i<s.size)(hs:s.size<=1000):
 Calls jm 154 #[.string s,.int .i64 (i:Int)] w (eM (l7 s i) w):=by
 have B0:=Bx.new w AB 203;have HB:=(Below.refl w.heap.size w).alloc (Nat.le_refl _)<|.cells AB 203;have H:=h.af HB;have hi1:(i:Int)<=(s.size:Int):=ae;have g0:=H.signs 0 ae;have g1:=H.signs 1 ae;have g2:=H.signs 2 ae;have g3:=H.signs 3 ae;have g4:=H.signs 4 ae;have g5:=H.signs 5 ae;have g6:=H.signs 6 ae;have g7:=H.signs 7 ae;have g8:=H.signs 8 ae;have g9:=H.signs 9 ae;have g10:=H.signs 10 ae;have g11:=H.signs 11 ae;have g12:=H.signs 12 ae;clear h H;go_enter func154,ntmps154
 go_wp2
 go_loop[8] (λv=>∃j:Nat,j<=13/\v=.int .i64 (j:Int)/\Hid (∀m,m<j->mw s i m=false)) (λv=>13-(intOf v).toNat)
 case atStart=>exact⟨0,ae,rfl,λi h=>ae⟩
 case round=>
  obtain⟨j,hj,rfl,mX⟩:=hrel;by_cases bA:j<13
  .have hix:=afQ cQ bA;have hd:(j:Int)<13:=ae;have hz:=aax bA;obtain⟨n,hn⟩:∃n,n=(cQ j).size:=⟨_,rfl⟩;rw[<-hn]at hz
   cases he:mw s i j with
   |true=>
    have ht:=ai<|adP bA mX he;have hx:=aaw hi bA he;rw[<-hn]at hx ht;have hle:=hx.1;have hxe:=ai hx.2;have Fw:((cQ j).size:Int)=(n:Int):=by rw[hn]
    have ho:(i:Int)+(n:Int)<=1000:=ae;clear hx hn;go_wp2_with(first|(go_at_call 182;refine(Ee s i j hi hs bA ae).mono ?_;rintro e w'⟨rfl,rfl⟩)|(go_at_call 149;refine(Ed s i (i+n) _ ae hle hs).mono ?_;rintro e w1⟨rfl,hb⟩;have B1:=ai<|B0.below hb;have dA:=ai<|HB.trans<|hb.mono ag;have⟨c1,f1,y1⟩:=uh B1;clear hb));have BF:=B1.nE rfl (.int .i64 (i:Int)) (.int .i64<|(i:Int)+n) (.string<|cQ j) (.string<|s.extract i<|i+n);obtain⟨cF,fF,zF⟩:=BF;rw[uh ht];refine bodyPost_ret (v:=dC<|Pu.ig s i 5<|i+n) ?_ rfl ⟨dA.nE (jh _) _ _ _ _,j5 ⟨by simp[Pu.ig],rfl⟩⟩;have hk:aA (Pu.ig s i 5<|i+n)=cQ j:=uh hxe;simp only[dC,hk];simp[results,Tryz.results154,go_sem,cF,Pu.ig]
   |false=>
    have IC:Hid (∀m,m<j+1->mw s i m=false):=λm hm=>by
     by_cases e:m=j
     .subst e;exact he
     .exact mX m ae
    go_wp2_with(go_at_call 182;refine(Ee s i j hi hs bA ae).mono ?_;rintro e w'⟨rfl,rfl⟩);exact RK
  .have ht:=ai<|ahm (s:=s) (i:=i)<|λm hm=>mX m ae;go_wp2_with(go_at_call 181;refine(mN _ _).mono ?_;rintro e w1⟨rfl,hb⟩;have dA:=ai<|HB.trans<|hb.mono ag;clear hb);rw[uh ht];exact⟨rfl,dA,j3 ⟨rfl,rfl⟩⟩
def aD(s:ByteArray)i:=if Pu.aM s cP i<s.size then Pu.dB s (Pu.aM s cP i)else Pu.gB s
def OS(s:ByteArray)p:∀n i,s.size-i=n->Pu.aM s p i<s.size->p (Pu.at_ s<|Pu.aM s p i)=false:=by
 intro n
 induction n with
 |zero=>intro i h hl;rw[Pu.mK ae]at hl;omega|succ n ih=>
  intro i h hl
  cases hp:p (Pu.at_ s i)with
  |true=>rw[Pu.fY ae hp]at hl⊢;exact ih (i+1) ae hl|false=>rw[Pu.pC ae hp];exact hp
def Vx(s:ByteArray):∀n i,s.size-i=n->Pu.bF s i=Pu.bF s (Pu.aM s cP i):=by
 intro n
 induction n with
 |zero=>intro i h;rw[Pu.mK ae]|succ n ih=>
  intro i h
  cases hp:cP (Pu.at_ s i)with
  |true=>rw[Pu.fY ae hp,Pu.AM ae hp];exact ih (i+1) ae|false=>rw[Pu.pC ae hp]
def jZ(s:ByteArray)i(hi:i<=s.size):Pu.bF s i=if(aD s i).kind=7 then[Pu.gB s]else aD s i::Pu.bF s (aD s i).to:=by
 rw[Vx s _ i rfl];unfold aD;by_cases h:Pu.aM s cP i<s.size
 .rw[if_pos h,if_neg,Pu.Kv h<|OS s cP _ i rfl h];unfold Pu.dB Pu.ig;repeat' split
  all_goals simp
 .rw[if_neg h,if_pos<|show(Pu.gB s).kind=7 from rfl,Pu.Aw ae]
def eM.ok{t:Pu.Tok}(h:eM t w e w')(hk:t.kind≠6):e=.returned (.agg #[.int .i64 (t.aF:Int),.int .i64 (t.to:Int),.string<|aA t,.string t.text])/\Below w.heap.size w w':=by
 obtain⟨hb,⟨_,he⟩|⟨hn,_⟩⟩:=h
 .exact⟨he,hb⟩
 .exact absurd hn hk
def eM.bad{t:Pu.Tok}(h:eM t w e w')(hk:t.kind=6):e=.panicked [{v:=.iface 198<|.agg #[.int .i64 2,.int .i64 (t.aF:Int),.int .i64 (t.to:Int)],recovered:=false}]/\Below w.heap.size w w':=by grind[eM]
def Vy(hi:i<s.size)(hd:Pu.dQ (Pu.at_ s i)=true):Pu.dB s i=(if Pu.aM s Pu.dQ i-i<=9 then Pu.ig s i 4 (Pu.aM s Pu.dQ i)else Pu.ig s i 6 (Pu.aM s Pu.dQ i)):=by
 have Vz:=hd;simp[Pu.dQ]at Vz;rw[Pu.dB];rw[if_neg (by simp[Pu.gN];omega),if_neg (by simp[Pu.Ax];omega),if_neg (by intro q;omega),if_pos hd,Pu.fY hi hd]
def VA(hd:Pu.at_ s i=39):Pu.dB s i=kT s i:=by
 rw[Pu.dB,kT];rw[hd,if_neg aw,if_neg aw];by_cases hl:Pu.gN (Pu.at_ s<|i+1)=true
 .grind
 .rw[if_neg<|λq=>hl q.2,if_neg hl,if_neg aw,if_neg (by intro q;exact absurd q.1 aw),if_neg aw]
def VB(h1:Pu.gN (Pu.at_ s i)=false)(h2:Pu.Ax (Pu.at_ s i)=false)(h3:Pu.dQ (Pu.at_ s i)=false)(h4:Pu.at_ s i≠39):Pu.dB s i=l7 s i:=by
 rw[Pu.dB,l7];rw[if_neg<|by simp[h1],if_neg<|by simp[h2],if_neg<|λq=>h4 q.1,if_neg<|by simp[h3]]
def aaz(h1:Pu.gN (Pu.at_ s i)=false)(h2:Pu.Ax (Pu.at_ s i)=true):Pu.dB s i=Pu.ig s i 2 (Pu.aM s Pu.aY i):=by
 rw[Pu.dB];rw[if_neg<|by simp[h1],if_pos h2]
def VC(h1:Pu.gN (Pu.at_ s i)=true):Pu.dB s i=(if Pu.fX (s.extract i<|Pu.aM s Pu.aY i)=true then Pu.ig s i 5 (Pu.aM s Pu.aY i)else Pu.ig s i 1 (Pu.aM s Pu.aY i)):=by
 rw[Pu.dB];rw[if_pos h1]
def J'(h:Laid w)(s:ByteArray)i(hi:i<=s.size)(hs:s.size<=1000):
 Calls jm 97 #[.string s,.int .i64 (i:Int)] w (eM (aD s i) w):=by
 have B0:=Bx.new w AB 203;have HB:=(jo w.heap.size w).alloc (jh _)<|.cells AB 203;have H:=h.af HB;clear h;have E:=λW=>lJ (j5 ⟨rfl,rfl⟩) s i W hs hi;have hle:=Pu.gH (s:=s) cP hi;have Jl:=Pu.gD s cP i;rw[aD];generalize Pu.aM s cP i=j at E hle Jl⊢;by_cases hj:j<s.size
 .have he:((j:Int)==(s.size:Int))=false:=bD;rw[if_pos hj];have Nj:=Pu.n9 hj;have go:∀(T:Pu.Tok)(fn:Nat),(fn=147/\Pu.gN s[j].toNat=true\/Pu.gN s[j].toNat=false/\Pu.Ax s[j].toNat=false/\(fn=152/\Pu.dQ s[j].toNat=true\/Pu.dQ s[j].toNat=false/\(fn=153/\((s[j].toNat:Int)==39)=true\/fn=154/\((s[j].toNat:Int)==39)=false)))->(∀W,Laid W->Calls jm fn #[.string s,.int .i64 (j:Int)] W (eM T W))->Calls jm 97 #[.string s,.int .i64 (i:Int)] w (eM T w):=by
   intro T fn hq C;clear Nj;by_cases hk:T.kind=6
   .obtain⟨rfl,h1⟩|⟨h1,h2,⟨rfl,h3⟩|⟨h3,⟨rfl,h4⟩|⟨rfl,h4⟩⟩⟩:=hq;all_goals
     go_enter func97,ntmps97;go_wp2_with(first|(go_at_call 144;with_reducible refine(E _).mono ?_;rintro e w'⟨rfl,rfl⟩)|(go_at_call 146;refine(iO _ _).mono ?_;rintro e w'⟨rfl,rfl⟩)|(go_at_call 148;refine(uA _ _).mono ?_;rintro e w'⟨rfl,rfl⟩)|(go_at_call 151;refine(mM _ _).mono ?_;rintro e w'⟨rfl,rfl⟩)|((first|go_at_call 147|go_at_call 152|go_at_call 153|go_at_call 154);refine(C _ H).mono ?_;intro e w1 hp;obtain⟨rfl,hb⟩:=hp.bad hk;have dA:=ai<|HB.trans<|hb.mono ag;clear hb));exact⟨rfl,dA,Or.inr ⟨hk,rfl⟩⟩
   .obtain⟨rfl,h1⟩|⟨h1,h2,⟨rfl,h3⟩|⟨h3,⟨rfl,h4⟩|⟨rfl,h4⟩⟩⟩:=hq;all_goals
     go_enter func97,ntmps97;go_wp2_with(first|(go_at_call 144;with_reducible refine(E _).mono ?_;rintro e w'⟨rfl,rfl⟩)|(go_at_call 146;refine(iO _ _).mono ?_;rintro e w'⟨rfl,rfl⟩)|(go_at_call 148;refine(uA _ _).mono ?_;rintro e w'⟨rfl,rfl⟩)|(go_at_call 151;refine(mM _ _).mono ?_;rintro e w'⟨rfl,rfl⟩)|((first|go_at_call 147|go_at_call 152|go_at_call 153|go_at_call 154);refine(C _ H).mono ?_;intro e w1 hp;obtain⟨rfl,hb⟩:=hp.ok hk;have B1:=ai<|B0.below hb;have dA:=ai<|HB.trans<|hb.mono ag;have⟨c1,f1,y1⟩:=uh B1;clear hb));have BF:=B1.nE rfl (.int .i64 (T.aF:Int)) (.int .i64 (T.to:Int)) (.string<|aA T) (.string T.text);obtain⟨cF,fF,zF⟩:=BF;exact bodyPost_ret (v:=dC T) (by simp[results,Tryz.results97,go_sem,cF,dC]) rfl ⟨dA.nE (Nat.le_refl _) _ _ _ _,Or.inl ⟨hk,rfl⟩⟩
  cases h1:Pu.gN s[j].toNat
  case true=>exact go _ _ (j5 ⟨rfl,h1⟩) λW hW=>by rw[VC (by rw[Nj];exact h1)];exact(Kz hW s j hj hs).mono λe w' q=>⟨q.2,j5 ⟨by split<;>simp[Pu.ig],q.1⟩⟩
  case false=>
  have a1:Pu.gN (Pu.at_ s j)=false:=by rw[Nj];exact h1
  cases h2:Pu.Ax s[j].toNat
  case true=>
   have ajY:=Pu.gH (s:=s) Pu.aY (i:=j) ae;have ajk:=Pu.gD s Pu.aY j;rw[aaz a1 (by rw[Nj];exact h2)];clear Nj a1;go_enter func97,ntmps97;go_wp2_with(first|(go_at_call 144;with_reducible refine(E _).mono ?_;rintro e w'⟨rfl,rfl⟩)|(go_at_call 144;with_reducible refine(lJ (Or.inr<|Or.inl ⟨rfl,rfl⟩) s j _ hs ae).mono ?_;rintro e w'⟨rfl,rfl⟩)|(go_at_call 144;with_reducible refine(E _).mono ?_;rintro e w'⟨rfl,rfl⟩)|(go_at_call 146;refine(iO _ _).mono ?_;rintro e w'⟨rfl,rfl⟩)|(go_at_call 148;refine(uA _ _).mono ?_;rintro e w'⟨rfl,rfl⟩)|(go_at_call 151;refine(mM _ _).mono ?_;rintro e w'⟨rfl,rfl⟩)|(go_at_call 149;refine(Ed s j _ _ ajk ajY hs).mono ?_;rintro e w1⟨rfl,hb⟩;have B1:=ai<|B0.below hb;have dA:=ai<|HB.trans<|hb.mono ag;have⟨c1,f1,y1⟩:=uh B1;clear hb));have BF:=B1.nE rfl (.int .i64 (j:Int)) (.int .i64 ((Pu.aM s Pu.aY j:Nat):Int)) (.string ⟨#[117,112,32,110,97,109,101]⟩) (.string<|s.extract j<|Pu.aM s Pu.aY j);obtain⟨cF,fF,zF⟩:=BF;exact bodyPost_ret (v:=dC<|Pu.ig s j 2<|Pu.aM s Pu.aY j) (by simp[results,Tryz.results97,go_sem,cF,dC,Pu.ig,aA]) rfl ⟨dA.nE (Nat.le_refl _) _ _ _ _,Or.inl ⟨by simp[Pu.ig],rfl⟩⟩
  case false=>
  have a2:Pu.Ax (Pu.at_ s j)=false:=by rw[Nj];exact h2
  cases h3:Pu.dQ s[j].toNat
  case true=>exact go _ _ (j3 ⟨h1,h2,j5 ⟨rfl,h3⟩⟩) λW hW=>by rw[Vy hj (by rw[Nj];exact h3)];exact aav s j hj hs
  case false=>
  by_cases h4:s[j].toNat=39
  .exact go _ _ (j3 ⟨h1,h2,j3 ⟨h3,j5 ⟨rfl,bD⟩⟩⟩) λW hW=>by rw[VA (by rw[Nj];exact h4)];exact ajW hW s j hj hs
  .exact go _ _ (j3 ⟨h1,h2,j3 ⟨h3,j3 ⟨rfl,bD⟩⟩⟩) λW hW=>by rw[VB a1 a2 (by rw[Nj];exact h3) (by rw[Nj];exact h4)];exact ahp hW s j hj hs
 .have he:((j:Int)==(s.size:Int))=true:=bD;have hjs:j=s.size:=ae;rw[if_neg hj];obtain⟨c1,f1,y1⟩:=B0;go_enter func97,ntmps97;go_wp2_with(first|(go_at_call 144;with_reducible refine(E _).mono ?_;rintro e w'⟨rfl,rfl⟩)|(go_at_call 146;refine(iO _ _).mono ?_;rintro e w'⟨rfl,rfl⟩)|(go_at_call 148;refine(uA _ _).mono ?_;rintro e w'⟨rfl,rfl⟩)|(go_at_call 151;refine(mM _ _).mono ?_;rintro e w'⟨rfl,rfl⟩));have BF:=Bx.new w #[.int .i64 (j:Int),.int .i64 (j:Int),.string ⟨#[116,104,101,32,101,110,100]⟩,.string ⟨#[]⟩] 203;obtain⟨cF,fF,zF⟩:=BF;subst hjs;exact bodyPost_ret (v:=dC<|Pu.gB s) (by simp[results,Tryz.results97,go_sem,cF,dC,Pu.gB,aA]) rfl ⟨(Below.refl w.heap.size w).alloc (Nat.le_refl _) _,Or.inl ⟨qBr,rfl⟩⟩
section
variable {W w3:World} {row:Option Nat} (hg:W.grownBy w3 row)
include hg
def Bx.grown(h:Bx W b C)(hr:∀j,row=some j->j≠b):Bx w3 b C:=h.same hg.size<|hg.block b h.z<|λe=>hr b e.symm rfl
def Ke.grown(h:Ke rb a W)(hr:∀j,row=some j->a.heap.size<=j):Ke rb a w3:=
 ⟨hg.os.trans h.os,hg.tape.trans h.tape,hg.output.trans h.output,jk h.size hg.size,λk hk hn=>(hg.block k (ji hk h.size) (λe=>by have:=hr k e.symm;omega)).trans<|h.block k hk hn⟩
end
def tI{base}{e}{size}{v}{n}{xs}(h:w.ownsRow base e size v n xs)(hn:0<n):∃q c,v=.slice (some ⟨q,0,none⟩) n c:=by
 obtain⟨_,h2⟩:=h;obtain⟨_,h0⟩|⟨q,c,_,hv,_⟩:=h2
 .omega
 .exact⟨q,c,hv⟩
def lK{a b:ByteArray}(h:a.toList=b.toList):a=b:=by
 rw[jy,jy]at h;exact jf<|Array.toList_inj.1 h
abbrev Ky:=Nat×List UInt8
def eJ(t:Pu.Tok):Ky:=(t.kind,t.text.toList)
abbrev jE:Ky:=(5,[40])
abbrev eA:Ky:=(5,[41])
abbrev GI:Ky:=(5,[44])
abbrev v9:Ky:=(5,[45,62])
mutual
def er:Nd->Nd
 |.mk k s _ L _ _ _=>.mk k s 0 (vH L) 0 0 0
def vH:List Nd->List Nd
 |[]=>[]|x::l=>er x::vH l
end
def RP:∀l m,vH (l++m)=vH l++vH m
 |[],m=>rfl|x::l,m=>by simp[vH,RP l m]
def aaA(s:ByteArray):Nd:=.mk 16 s 0 [] 0 0 0
def xK(s:ByteArray)(l:List Nd):Nd:=.mk 2 s 0 l 0 0 0
def Ay(x y:Nd):Nd:=.mk 6 jY 0 [x,y] 0 0 0
def sFn(x y:Nd):Nd:=.mk 17 jY 0 [x,y] 0 0 0
inductive Gr:Nat->List Ky->Nd->Prop where
 |var(s:ByteArray):Gr 0 [(3,s.toList)] (aaA s)
 |up0(s:ByteArray):Gr 0 [(2,s.toList)] (xK s [])
 |rL{p:List Ky}{t:Nd}:Gr 2 p t->Gr 0 (jE::(p++[eA])) t
 |pair{p q:List Ky}{t u:Nd}:Gr 2 p t->Gr 2 q u->Gr 0 (jE::(p++(GI::(q++[eA])))) (Ay t u)
 |up(s:ByteArray):Gr 3 [(2,s.toList)] (xK s [])
 |arg{p q:List Ky}{s:ByteArray}{l:List Nd}{u:Nd}:Gr 3 p (xK s l)->Gr 0 q u->Gr 3 (p++q) (xK s<|l++[u])
 |ol{p:List Ky}{t:Nd}:Gr 3 p t->Gr 1 p t
 |small{p:List Ky}{t:Nd}:Gr 0 p t->(∀x r,p=x::r->x.1≠2)->Gr 1 p t
 |head{p:List Ky}{t:Nd}:Gr 1 p t->Gr 2 p t
 |aaB{p q:List Ky}{t u:Nd}:Gr 1 p t->Gr 2 q u->Gr 2 (p++(v9::q)) (sFn t u)
def Gr.ne{p}{t:Nd}(h:Gr v p t):1<=p.length:=by
 induction h<;>simp_all<;>omega
def Gr.up1{p}{t:Nd}(h:Gr 0 p t):Gr 1 p t:=by
 cases h with
 |var s=>exact .small (.var s) (λx r e=>by cases e;simp)|up0 s=>exact .ol (.up s)|rL h=>exact .small (.rL h) (λx r e=>by cases e;simp)|pair h k=>exact .small (.pair h k) (λx r e=>by cases e;simp)
def gy(T:List Pu.Tok)(k:Nat)(p:List Ky):=∀i(h:i<p.length),eJ (tk T<|k+i)=p[i]
def gy.left{T:List Pu.Tok}{p q}(h:gy T k (p++q)):gy T k p:=λi hi=>by
 have:=h i bD
 rwa[List.getElem_append_left hi]at this
def gy.right{T:List Pu.Tok}{p q}(h:gy T k (p++q)):gy T (k+p.length) q:=λi hi=>by
 have:=h (p.length+i) bD;rw[List.getElem_append_right ae]at this;simpa[Nat.add_assoc]using this
def gy.hd{T:List Pu.Tok}{x}{q}(h:gy T k (x::q)):eJ (tk T k)=x:=h 0 ag
def gy.tl{T:List Pu.Tok}{x}{q}(h:gy T k (x::q)):gy T (k+1) q:=λi hi=>by
 have:=h (i+1) bD;simpa[Nat.add_assoc,Nat.add_comm 1 i]using this
def eO{t}:aX t ⟨l.toArray⟩=(eJ t==(5,l)):=by
 rw[GG];rw[eJ];rfl
def dH t:aK t 1=(eJ t==jE||(eJ t).1==3||(eJ t).1==2):=by
 rw[aK];rw[if_pos rfl,eO];have:(bW t==16||bW t==2)=((eJ t).1==3||(eJ t).1==2):=by
  rw[bW,eJ];simp only;repeat' split
  all_goals simp_all
 rw[this,Bool.or_assoc]
def aaC(T:List Pu.Tok)(k:Nat):Prop:=aK (tk T k) 1=false
def aaD(T:List Pu.Tok)(k:Nat):Prop:=aK (tk T k) 1=false/\aX (tk T k) sr=false
def Reads(v:Nat)(p:List Ky)(t:Nd):Prop:=match v with
 |0=>∀T k n,gy T k p->p.length<=n+1->p.length<=T.length+1->∃nd,er nd=t/\aH T (da T n) (da T n) 1 k=.ok (nd,k+p.length)|3=>∀T k n f,gy T k p->p.length<=n+1->p.length<=T.length+1->p.length<=f+1->∃nd f',er nd=t/\f+1<=f'+p.length/\aV (aH T (da T n) (da T n) 1) (dn T (aH T (da T n) (da T n) 1) 1 f) k=dn T (aH T (da T n) (da T n) 1) 1 f' nd (k+p.length)|1=>∀T k n,gy T k p->p.length<=n+1->p.length<=T.length+1->aaC T (k+p.length)->∃nd,er nd=t/\iM T (aH T (da T n) (da T n) 1) 1 k=.ok (nd,k+p.length)|_=>∀T k n,gy T k p->p.length<=n->p.length<=T.length+1->aaD T (k+p.length)->∃nd,er nd=t/\da T n k=.ok (nd,k+p.length)
def KG{T:List Pu.Tok}{small}{f}{x}(h:aK (tk T k) 1=false):dn T small 1 f x k=.ok (x,k):=by
 cases f with
 |zero=>rfl|succ f=>simp[dn,h]
def ahq x y to(s:ByteArray)l(h:er x=xK s l):er (x.add y to)=xK s (l++[er y]):=by
 obtain⟨k,s',n,L,f,t,a⟩:=x;simp only[er,xK,Nd.mk.injEq]at h;obtain⟨rfl,rfl,_,rfl,_⟩:=h;simp[Nd.add,er,RP,vH,xK]
def Gr.OT{p}{t:Nd}(h:Gr v p t):∃x r,p=x::r/\(x==jE||x.1==3||x.1==2)=true:=by
 induction h with
 |var s=>grind|up0 s=>grind|rL _ _=>grind|pair _ _ _ _=>grind|up s=>grind|arg _ _ i _=>grind|ol _ i=>exact i|small _ _ i=>exact i|head _ i=>exact i|aaB _ _ i _=>grind
def Gr.first{p}{t:Nd}(h:Gr 3 p t):∃(s:List UInt8)(r:List Ky),p=(2,s)::r:=by
 generalize hv:3=v at h
 induction h with
 |up s=>exact⟨_,_,rfl⟩|arg _ _ i _=>grind|_=>cases hv
def pu{T:List Pu.Tok}mk(h:eJ (tk T k)=eA):sd T mk k=.ok (mk<|k+1,k+1):=by
 rw[sd,aV,bz];rw[eO,h];simp
def qG{T:List Pu.Tok}(h:eJ (tk T k)=(5,l))(h1:l≠[40])(h2:l≠[45,62]):aaD T k:=by
 constructor
 .rw[dH,h];simp[h1]
 .rw[eO,h];simp[h2]
def RQ{p:Prop}(h:p:=by
 have e1:(tk T k).kind=2:=congrArg Prod.fst h0;have e2:=lK<|congrArg Prod.snd h0
 simp[cN,bW,e1,e2,er,vH,xK]):p:=h
def Gr.reads{p}{t:Nd}(h:Gr v p t):Reads v p t:=by
 induction h with
 |var s=>
  intro T k n hs _ _;have h0:=hs.hd;refine⟨cN<|tk T k,?_,?_⟩
  .have e1:(tk T k).kind=3:=congrArg Prod.fst h0;have e2:=lK<|congrArg Prod.snd h0;simp[cN,bW,e1,e2,er,vH,aaA]
  .rw[aH];rw[dH,eO,h0];simp
 |up0 s=>
  intro T k n hs _ _;have h0:=hs.hd;refine⟨cN<|tk T k,?_,?_⟩
  .exact RQ
  .rw[aH];rw[dH,eO,h0];simp
 | @rL p t _ ih=>
   intro T k n hs hn hT;have h0:=hs.hd;have hp:=hs.tl.left;have hc:=hs.tl.right.hd;simp at hn hT;have⟨nd,e,hr⟩:=ih T (k+1) n hp ae ae<|qG hc ag ag;refine⟨nd,e,?_⟩;have c1:aX (tk T<|k+1+p.length) nQ=false:=by rw[eO,hc];rfl
   rw[aH];rw[dH,eO,h0];simp only[eQ,iK,aV,hr,c1,pu _ hc];simp[Nat.add_assoc,Nat.add_comm 1]
 | @pair p q t u _ _ ih ih2=>
   intro T k n hs hn hT;have h0:=hs.hd;have hp:=hs.tl.left;have hm:=hs.tl.right.hd;have hq:=hs.tl.right.tl.left;have hc:=hs.tl.right.tl.right.hd;simp at hn hT;have⟨nd,e,hr⟩:=ih T (k+1) n hp ae ae<|qG hm ag ag;have⟨yQ,e2,rh⟩:=ih2 T (k+1+p.length+1) n hq ae ae<|qG hc ag ag;have c1:aX (tk T<|k+1+p.length) nQ=true:=by rw[eO,hm];rfl
   refine⟨.mk 6 jY 0 [nd,yQ] (tk T k).aF (aR T<|k+1+p.length+1+q.length+1) (tk T k).aF,by simp[er,vH,e,e2,Ay],?_⟩;rw[aH];rw[dH,eO,h0];simp only[eQ,iK,aV,hr,c1,rh,pu _ hc];simp;omega
 |up s=>
  intro T k n f hs _ _ _;have h0:=hs.hd;refine⟨cN<|tk T k,f,?_,ag,?_⟩
  .exact RQ
  .rw[aV,aH];rw[dH,eO,h0];simp
 | @arg p q s l u h1 h2 ih ih2=>
   intro T k n f hs hn hT hf;simp at hn hT hf;have n2:=h2.ne;have⟨nd,f',e,hff,hr⟩:=ih T k n f hs.left ae ae ae;have⟨yQ,e2,rh⟩:=ih2 T (k+p.length) n hs.right ae ae;obtain⟨g,rfl⟩:∃g,f'=g+1:=⟨f'-1,ae⟩;have⟨x,r,hx,hb⟩:=h2.OT;have rY:=hs.right;rw[hx]at rY;have IB:aK (tk T<|k+p.length) 1=true:=by rw[dH,rY.hd];exact hb
   refine⟨nd.add yQ<|aR T<|k+p.length+q.length,g,?_,bD,?_⟩
   .rw[ahq _ _ _ s l e,e2]
   .rw[hr];simp only[dn,IB,if_true,aV,rh];simp[Nat.add_assoc]
 | @ol p t h1 ih=>
   intro T k n hs hn hT hE;have⟨nd,f',e,_,hr⟩:=ih T k n T.length hs hn hT hT;have⟨x,r,hx,hb⟩:=h1.OT;refine⟨nd,e,?_⟩;have h2:(tk T k).kind=2:=by
    have⟨s,r',e3⟩:=h1.first;rw[e3]at hs;exact congrArg Prod.fst hs.hd
   rw[iM];rw[h2];simp only[beq_self_eq_true,if_true];rw[hr];exact KG hE
 | @small p t h1 cR ih=>
   intro T k n hs hn hT hE;have⟨nd,e,hr⟩:=ih T k n hs hn hT;have⟨x,r,hx,hb⟩:=h1.OT;refine⟨nd,e,?_⟩;have h2:((tk T k).kind==2)=false:=by
    rw[hx]at hs;have h3:(tk T k).kind=x.1:=congrArg Prod.fst hs.hd;rw[h3];simpa using cR x r hx
   rw[iM];rw[h2];exact hr
 | @head p t h1 ih=>
   intro T k n hs hn hT hE;have n1:=h1.ne;obtain⟨m,rfl⟩:∃m,n=m+1:=⟨n-1,ae⟩;have⟨nd,e,hr⟩:=ih T k m hs hn hT hE.1;refine⟨nd,e,?_⟩;simp only[da,aV,hr,nI,hE.2];simp
 | @aaB p q t u h1 h2 ih ih2=>
   intro T k n hs hn hT hE;have n1:=h1.ne;simp at hn hT hE;obtain⟨m,rfl⟩:∃m,n=m+1:=⟨n-1,ae⟩;have ha:=hs.right.hd;have hq:=hs.right.tl;have c0:aaC T (k+p.length):=by rw[aaC];rw[dH,ha];rfl
   have c1:aX (tk T<|k+p.length) sr=true:=by rw[eO,ha];rfl
   have⟨nd,e,hr⟩:=ih T k m hs.left ae ae c0;have⟨yQ,e2,rh⟩:=ih2 T (k+p.length+1) m hq ae ae (by simpa[Nat.add_assoc,Nat.add_comm 1]using hE);refine⟨.mk 17 jY 0 [nd,yQ] (tk T k).aF (aR T<|k+p.length+1+q.length) (tk T k).aF,by simp[er,vH,e,e2,sFn],?_⟩;simp only[da,aV,hr,nI,c1,if_true,rh];simp;omega
end Go.Proofs.YtlnlhlefeokfjaaGreatDoor

import Derived.BigQuiet
import Derived.Deep.LoopGhost
import Derived.Deep.RegionHeld3
import Derived.Lib.ConvBytes
import Derived.RegionDies
import Derived.SevenTiedAt
import Derived.Test.YtnldmeakhapdhaaGreatDoorCards
import Derived.WalkLawsBesides
import Derived.WalkSpells
set_option linter.all false
set_option maxRecDepth 100000
set_option maxHeartbeats 8000000
namespace Go.Proofs.YtnldmeakhapdhaaGreatDoor
open Go.Proofs.Tryz renaming prog->ja
open _root_.ByteArray renaming size_extract->jc,extract_extract->jd,data_extract->jf,ext->jh
open _root_.Nat renaming le_refl->ji,lt_of_lt_of_le->jj,ble->jk,le_trans->jl,add_zero->jm
open Go.RowKit.Below renaming refl->jo,heap_setCell->jp
open _root_.List renaming getD_eq_getElem?_getD->jq,getElem?_eq_getElem->jt,any_eq_false->ju
open Bool renaming eq_iff_iff->jv,and_eq_true->jx
open Go.ByteArray renaming toList_eq->jy
open Go.World renaming cell?_of_block->jz,setCell->j5
open Go.Ending renaming returned->j6
open Or renaming inr->j7,inl->j8
open Go Proofs.Tryz
variable {C:Array Value} {s:ByteArray} {e:Ending} {b cap g i k rb:Nat} {p:Nat->Bool} {α:Type} {a w w':World}
namespace Pu
def at_(s:ByteArray)i:=if h:i<s.size then s[i].toNat else 256
def mF(h:i<s.size):at_ s i=s[i].toNat:=by simp[at_,h]
def Q0(h:s.size<=i):at_ s i=256:=by simp[at_];omega
def gn c:=jk 97 c&&jk c 122
def BT c:=jk 65 c&&jk c 90
def dB c:=jk 48 c&&jk c 57
def aX c:=gn c||BT c||dB c
def JT(s:ByteArray)(p:Nat->Bool):Nat->Nat->Nat
 |0,i=>i|f+1,i=>if p (at_ s i)=true then JT s p f (i+1)else i
def aJ s p i:=JT s p (s.size-i) i
def eQ(h:i<s.size)(hp:p (at_ s i)=true):aJ s p i=aJ s p (i+1):=by
 unfold aJ;obtain⟨k,hk⟩:∃k,s.size-i=k+1:=⟨s.size-i-1,by omega⟩;rw[hk,JT,if_pos hp,show s.size-(i+1)=k by omega]
def o6(h:i<s.size)(hp:p (at_ s i)=false):aJ s p i=i:=by
 rw[aJ];obtain⟨k,hk⟩:∃k,s.size-i=k+1:=⟨s.size-i-1,by omega⟩;rw[hk,JT,if_neg<|by simp[hp]]
def mI(h:s.size<=i):aJ s p i=i:=by
 rw[aJ];rw[show s.size-i=0 by omega];rfl
def Q4 s p f i:i<=JT s p f i/\JT s p f i<=i+f:=by
 induction f generalizing i with
 |zero=>simp[JT]
 |succ f ih=>unfold JT;split
             .grind
             .omega
def fy s p i:i<=aJ s p i:=(Q4 _ _ _ _).1
def gD p(h:i<=s.size):aJ s p i<=s.size:=by
 have:=(Q4 s p (s.size-i) i).2;rw[aJ];omega
def words:List ByteArray:=[⟨#[116,121,112,101]⟩,⟨#[108,101,116]⟩,⟨#[114,101,99]⟩,⟨#[105,110]⟩,⟨#[102,117,110]⟩,⟨#[105,102]⟩,⟨#[116,104,101,110]⟩,⟨#[101,108,115,101]⟩,⟨#[109,97,116,99,104]⟩,⟨#[119,105,116,104]⟩,⟨#[101,110,100]⟩,⟨#[116,114,117,101]⟩,⟨#[102,97,108,115,101]⟩]
def kN k:=words.getD k ⟨#[]⟩
def fk(s:ByteArray):Bool:=words.any λw=>w.toList==s.toList
def ZN(hk:k<13)(h:((kN k).toList==s.toList)=true):fk s=true:=by
 rw[fk];rw[List.any_eq_true];refine⟨kN k,?_,h⟩;rw[kN];rw[jq,jt<|by simpa[words]using hk];exact List.getElem_mem _
def On(h:∀j,j<13->((kN j).toList==s.toList)=false):fk s=false:=by
 rw[fk];rw[ju];intro x hx;obtain⟨i,hi,rfl⟩:=List.getElem_of_mem hx;have:=h i (by simpa[words]using hi);rw[kN]at this;rw[jq,jt hi]at this;simpa using this
structure Tok where
 kind:Nat
 text:ByteArray
 al:Nat
 to:Nat
def GH c:=[40,41,44,59,58,61,124,43,45,42,60,95].any λd=>d==c
def gV(s:ByteArray)(i:Nat)(k to:Nat):Tok:=⟨k,s.extract i to,i,to⟩
def cX s i:=
 if gn (at_ s i)=true then
  if fk (s.extract i<|aJ s aX i)=true then gV s i 5 (aJ s aX i)else gV s i 1 (aJ s aX i)
 else if BT (at_ s i)=true then gV s i 2 (aJ s aX i)
 else if at_ s i=39/\gn (at_ s<|i+1)=true then
  if fk (s.extract (i+1)<|aJ s aX<|i+1)=true then gV s i 6 (aJ s aX<|i+1)else gV s i 3 (aJ s aX<|i+1)
 else if dB (at_ s i)=true then
  if aJ s dB (i+1)-i<=9 then gV s i 4 (aJ s dB<|i+1)else gV s i 6 (aJ s dB<|i+1)
 else if at_ s i=45/\at_ s (i+1)=62 then gV s i 5 (i+2)
 else if GH (at_ s i)=true then gV s i 5 (i+1)else gV s i 6 (i+1)
end Pu
section
open Go.RowKit
def ZO c:Pu.gn c=decide (97<=(c:Int)/\(c:Int)<=122):=by
 rw[jv];simp[Pu.gn];omega
def adn c:Pu.BT c=decide (65<=(c:Int)/\(c:Int)<=90):=by
 rw[jv];simp[Pu.BT];omega
def ZP c:Pu.dB c=decide (48<=(c:Int)/\(c:Int)<=57):=by
 rw[jv];simp[Pu.dB];omega
def ai{p:Prop}(h:p):Hid p:=h
def uh{p:Prop}(h:Hid p):p:=h
def qkr{p:Prop}(h:p:=by kernel_rfl):p:=h
def ae{p:Prop}(h:p:=by omega):p:=h
def ag{p:Prop}(h:p:=by simp):p:=h
def aB{p:Prop}(h:p:=by decide):p:=h
def bF{p:Prop}(h:p:=by simp;omega):p:=h
def El{p:Prop}(h:p:=by rw[en];omega):p:=h
def ZA{p:Prop}(h:p:=by rw[maxLen];omega):p:=h
def Hn{p:Prop}(h:p:=by simpa using h):p:=h
def qas{p:Prop}(h:p:=by assumption):p:=h
def qbr{p:Prop}(h:p:=by exact br _):p:=h
def CH{p:Prop}(h:p:=by simp only[nn,cD]at hk;omega):p:=h
def qS{p:Prop}(h:p:=by rw[uh en];omega):p:=h
def qAc{p:Prop}(h:p:=by rw[IU hc];decide):p:=h
def Mu{p:Prop}(h:p:=by simp[nn,cD];omega):p:=h
def lq{p:Prop}(h:p:=by cases q):p:=h
def Dd{p:Prop}(h:p:=by simp[World.setCell]):p:=h
def Mn{p:Prop}(h:p:=by rw[o.size];exact br _):p:=h
def jP{p:Prop}(h:p:=by go_num):p:=h
def qAi{p:Prop}(h:p:=by intro x hx c;simp at hx;subst hx;intro q;cases q):p:=h
def qAj{p:Prop}(h:p:=by rw[dY];exact Nat.le_trans MO.2<|ajf hd):p:=h
def Ie{p:Prop}(h:p:=by simp at hi;omega):p:=h
def vQ{p:Prop}(h:p:=by simp at h):p:=h
def qAm{p:Prop}(h:p:=by rw[show gX.toList=[40]from toList_mk [40]];decide):p:=h
def qAn{p:Prop}(h:p:=by intro u hu;simp at hu;subst hu;rfl):p:=h
def qAo{p:Prop}(h:p:=by rw[dY];exact Nat.le_trans UX.2<|ajf hd):p:=h
def qAp{p:Prop}(h:p:=by simp[ByteArray.toList_eq]):p:=h
def qAq{p:Prop}(h:p:=by simp[Pu.fk,Pu.words,ByteArray.toList_eq]):p:=h
def qAr{p:Prop}(h:p:=by obtain⟨L,h1,_⟩:=h;exact h1.lt):p:=h
def qAs{p:Prop}(h:p:=by obtain⟨L,h1,h2⟩:=h;exact⟨L,h1.same hb,h2⟩):p:=h
def Q5{p:Prop}(h:p:=by simp[Un.eu]):p:=h
def qAu{p:Prop}(h:p:=by show w.heap.size<=b;omega):p:=h
def qAv{p:Prop}(h:p:=by have:=N7 x;omega):p:=h
def qAw{p:Prop}(h:p:=by rw[q]at r;cases r):p:=h
def ZQ{p:Prop}(h:p:=by rw[aL];omega):p:=h
def qAy{p:Prop}(h:p:=by have:wr.heap.size<=b:=p.1;omega):p:=h
def qAz{p:Prop}(h:p:=by simp[World.setCell];exact Z1):p:=h
def qBb{p:Prop}(h:p:=by simp[go_sem]):p:=h
def xY{p:Prop}(h:p:=by grind):p:=h
def qBe{p:Prop}(h:p:=by rw[ByteArray.toList_eq];decide):p:=h
def qBf{p:Prop}(h:p:=by simp[q]):p:=h
def qBg{p:Prop}(h:p:=by simp[a_]at h):p:=h
def qBh{p:Prop}(h:p:=by rw[uh hC];exact bm):p:=h
def qBi{p:Prop}(h:p:=by simp[nn,cD]):p:=h
def qBj{p:Prop}(h:p:=by simp only[nZ];exact .ret ⟨ρ,h.refl⟩):p:=h
def qBk{p:Prop}(h:p:=by rw[gC hk];rfl):p:=h
def qBl{p:Prop}(h:p:=by simpa using hi):p:=h
def qBm{p:Prop}(h:p:=by simp[Array.getD_eq_getD_getElem?,hu]):p:=h
def qBn{p:Prop}(h:p:=by rw[IU hc.2];decide):p:=h
def qBo{p:Prop}(h:p:=by rw[ByteArray.size_extract];omega):p:=h
def Mp{p:Prop}(h:p:=by cases h):p:=h
def UH{p:Prop}(h:p:=by simp[e]):p:=h
def qBr{p:Prop}(h:p:=by simp[Pu.eY]):p:=h
def qBs{p:Prop}(h:p:=by subst e;simp at bm):p:=h
def qBt{p:Prop}(h:p:=by have:=hr4 k e;omega):p:=h
def qBu{p:Prop}(h:p:=by simp[World.cell?,h1]):p:=h
def qBv{p:Prop}(h:p:=by have:w0.heap.size<=i:=p;omega):p:=h
def qBw{p:Prop}(h:p:=by have:=H.cn;omega):p:=h
def qBx{p:Prop}(h:p:=by simpa[aw]using hn):p:=h
def qne{p:Prop}(h:p:=by intro b p;try dsimp only at p⊢;omega):p:=h
@[simp] theorem nq0(x : Bool)(w : World) : (Op.unary .not<|.bool x).run ja w = .ok (.bool<|!x) w := rfl
@[simp] theorem nq1(f : Fn)(a b : Array Value)(w : World) : (Instr.makeFunc f a b).run ja w = .ok (.func f a b) w := rfl
@[simp] abbrev Nv(n : Nat) : Value := .int .i64 (n : Int)
@[simp] abbrev Iv(n : Int) : Value := .int .i64 n
@[simp] abbrev Pv(b : Nat) : Value := .pointer<|some ⟨b, 0, none⟩
@[simp] abbrev Mv(b : Nat) : Value := .map<|some b
abbrev Bq(a b : World) := Below a.heap.size a b
abbrev Cq := Calls ja
@[simp] abbrev Sv(s : ByteArray) : Value := .string s
@[simp] abbrev Fv(t : TypeId)(v : Value) : Value := .iface t v
@[simp] abbrev Lv(a : Option Addr)(l c : Nat) : Value := .slice a l c
@[simp] abbrev Av(c : Array Value) : Value := .agg c
@[simp] abbrev Zv : Value := .nilIface
@[simp] abbrev Cv(c : Array Value)(t : TypeId)(f : Nat × Nat := (0, 0)) : Obj := .cells c t f
@[simp] abbrev Rv(v : Value) : Ending := .returned v
def bw(o:Obj):Below w.heap.size w (w.alloc o):=(jo _ _).alloc (ji _) o
def br(n:Nat):n<=n:=ji n
abbrev BA:=ByteArray
def lM{a b:List α}:(a++b).length=a.length+b.length:=List.length_append
def yE{a:α}{b:List α}:(a::b).length=b.length+1:=List.length_cons
def qO:([]:List α).length=0:=List.length_nil
def jL{a b}(h:a=b):j6 (.bool a)=.returned (.bool b):=congrArg (λx=>j6<|.bool x) h
def ZR{k}{a b}(h:a=b):j6 (.int k a)=.returned (.int k b):=congrArg (λx=>j6<|.int k x) h
def step_end{j}{b}(bA:j<s.size)(he:Hid (Pu.aJ s p i=Pu.aJ s p j))(hb:p (Pu.at_ s j)=b):
 Hid (Pu.aJ s p i=if b=true then Pu.aJ s p (j+1)else j):=by
 cases b
 .show _=_;rw[he.out,Pu.o6 bA hb];rfl
 .show _=_;rw[he.out,Pu.eQ bA hb];rfl
end
namespace Pu
def JU(h:i<s.size)(hp:p (at_ s i)=true):i+1<=aJ s p i:=by
 rw[eQ h hp];exact fy _ _ _
def afi(h:at_ s i<256):i<s.size:=by
 by_cases e:i<s.size
 .exact e
 .rw[Q0 ae]at h;omega
def Dk s i:(cX s i).al=i:=by
 rw[cX];repeat(first|rfl|split)
def mD s i(h:i<s.size):i<(cX s i).to/\(cX s i).to<=s.size:=by
 rw[cX];by_cases h1:gn (at_ s i)=true
 .have a:=JU (p:=aX) h (by simp[aX,h1]);have b:=gD (s:=s) aX (i:=i) ae;rw[if_pos h1];split<;>exact⟨a,b⟩
 rw[if_neg h1];by_cases h2:BT (at_ s i)=true
 .have a:=JU (p:=aX) h (by simp[aX,h2]);have b:=gD (s:=s) aX (i:=i) ae;rw[if_pos h2];exact⟨a,b⟩
 rw[if_neg h2];by_cases h3:at_ s i=39/\gn (at_ s<|i+1)=true
 .have c:i+1<s.size:=afi (by have:=h3.2;simp[gn]at this;omega);have a:=fy s aX<|i+1;have b:=gD (s:=s) aX (i:=i+1) ae;rw[if_pos h3];split<;>exact⟨a,b⟩
 rw[if_neg h3];by_cases h4:dB (at_ s i)=true
 .have a:=fy s dB<|i+1;have b:=gD (s:=s) dB (i:=i+1) ae;rw[if_pos h4];split<;>exact⟨a,b⟩
 rw[if_neg h4];by_cases h5:at_ s i=45/\at_ s (i+1)=62
 .have c:i+1<s.size:=afi ae;rw[if_pos h5];exact⟨by show i<i+2;omega,by show i+2<=_;omega⟩
 rw[if_neg h5];split<;>exact⟨by show i<i+1;omega,by show i+1<=_;omega⟩
def cL c:=c==32||c==10
def eY(s:ByteArray):Tok:=⟨7,⟨#[]⟩,s.size,s.size⟩
def n8(s:ByteArray):Nat->Nat->List Tok
 |0,_=>[eY s]|f+1,i=>if i<s.size then(if cL (at_ s i)=true then n8 s f (i+1)else cX s i::n8 s f (cX s i).to)else[eY s]
def Oo s:∀f g i,s.size<=i+f->s.size<=i+g->n8 s f i=n8 s g i:=by
 intro f
 induction f with
 |zero=>
  intro g i h1 h2
  cases g with
  |zero=>rfl|succ g=>unfold n8;rw[if_neg ae]
 |succ f ih=>
  intro g i h1 h2
  cases g with
  |zero=>grind|succ g=>
   unfold n8;by_cases h:i<s.size
   .rw[if_pos h,if_pos h];have ht:=mD s i h;rw[ih g (i+1) ae ae,ih g (cX s i).to ae ae]
   .grind
def bH s i:=n8 s (s.size-i) i
def JV(h:s.size<=i):bH s i=[eY s]:=by
 rw[bH];rw[show s.size-i=0 by omega];rfl
def Ai(h:i<s.size)(hb:cL (at_ s i)=true):bH s i=bH s (i+1):=by
 unfold bH;obtain⟨k,hk⟩:∃k,s.size-i=k+1:=⟨s.size-i-1,ae⟩;rw[hk,n8,if_pos h,if_pos hb,show s.size-(i+1)=k by omega]
def JW(h:i<s.size)(hb:cL (at_ s i)=false):bH s i=cX s i::bH s (cX s i).to:=by
 unfold bH;obtain⟨k,hk⟩:∃k,s.size-i=k+1:=⟨s.size-i-1,ae⟩;have ht:=mD s i h;rw[hk,n8,if_pos h,if_neg<|by simp[hb],Oo s k (s.size-(cX s i).to) _ ae ae]
end Pu
section
open Go.RowKit
structure Fl where
 kind:Nat
 al:Nat
 to:Nat
def oj:Fl:=⟨0,0,0⟩
def d_(t:Pu.Tok):Fl:=if t.kind=6 then⟨2,t.al,t.to⟩else⟨3,t.al,t.to⟩
structure Ke rb(w w':World):Prop where
 os:w'.os=w.os
 tape:w'.tape=w.tape
 output:w'.output=w.output
 size:w.heap.size<=w'.heap.size
 block:∀k,k<w.heap.size->k≠rb->w'.heap[k]? =w.heap[k]?
def Ke.refl rb w:Ke rb w w:=⟨rfl,rfl,rfl,ji _,λ_ _ _=>rfl⟩
def Ke.of(h:Below w.heap.size w w'):Ke rb w w':=⟨h.os,h.tape,h.output,h.size,λk hk _=>h.block k hk⟩
def Ke.trans{rb}{a b c}(h:Ke rb a b)(k:Ke rb b c):Ke rb a c:=
 ⟨k.os.trans h.os,k.tape.trans h.tape,k.output.trans h.output,jl h.size k.size,λi hi hn=>(k.block i (jj hi h.size) hn).trans<|h.block i hi hn⟩
def Ke.alloc{rb:Nat}{a w:World}(h:Ke rb a w)o:Ke rb a (w.alloc o):=h.trans<|Ke.of<|(jo _ _).alloc (ji _) o
def Ke.set(h:Ke rb a w)j u:Ke rb a (w.setCell ⟨rb,j,none⟩ u):=
 h.trans ⟨rfl,rfl,rfl,Dd,λk _ hn=>jp _ _ _ _ hn⟩
def Ke.cell{rb}{w w'}(h:Ke rb w w'){b o}(hb:b<w.heap.size)(hn:b≠rb):w'.cell? ⟨b,o,none⟩=w.cell? ⟨b,o,none⟩:=jz (a:=⟨b,o,none⟩)<|h.block b hb hn
def tk(T:List Pu.Tok)k:=T.getD k ⟨7,⟨#[]⟩,0,0⟩
def Jt{T:List Pu.Tok}(h:k<T.length):T[k]'h=tk T k:=by
 rw[tk];rw[jq,jt h];rfl
def aU(t:Pu.Tok)(s:ByteArray):Bool:=t.kind==5&&t.text.toList==s.toList
abbrev St:=Except Fl Nat
abbrev M(α:Type):=Nat->Except Fl (α×Nat)
def nx{α:Type}(σ:St)(m:M α):St:=match σ with
 |.error e=>.error e
 |.ok k=>match m k with
  |.error e=>.error e|.ok (_,k')=>.ok k'
def lO{α:Type}(T:List Pu.Tok):M α:=λk=>.error<|d_<|tk T k
def bz(T:List Pu.Tok)(s:ByteArray):M Unit:=λk=>if aU (tk T k) s=true then .ok ((),k+1)else .error (d_<|tk T k)
def cY(T:List Pu.Tok)(n:Nat):M Pu.Tok:=λk=>if(tk T k).kind==n then .ok (tk T k,k+1)else .error (d_<|tk T k)
def aG(T:List Pu.Tok)k:=if k=0 then 0 else(tk T<|k-1).to
structure Bx(w:World)b(C:Array Value):Prop where
 c:∀o,w.cell? ⟨b,o,none⟩=C[o]?
 f:∀o,w.frozen? ⟨b,o,none⟩=false
 z:b<w.heap.size
def Bx.new(w:World)C t:Bx (w.alloc<|.cells C t) w.heap.size C:=⟨λo=>ag,λo=>ag,ag⟩
def rq(w:World)(C:Array Value)(t:TypeId):Below w.heap.size w (w.alloc<|.cells C t)/\Bx (w.alloc<|.cells C t) w.heap.size C:=⟨bw _,Bx.new w C t⟩
def uo(w:World)(C:Array Value)(t:TypeId):Below w.heap.size w (w.alloc<|.cells C t)/\Hid (Bx (w.alloc<|.cells C t) w.heap.size C):=⟨bw _,Bx.new w C t⟩
def Bx.same(h:Bx w b C)(hs:w.heap.size<=w'.heap.size)(hb:w'.heap[b]? =w.heap[b]?):Bx w' b C:=
 ⟨λo=>by rw[jz (a:=⟨b,o,none⟩) (w:=w) hb];exact h.c o,λo=>by rw[World.frozen?_of_block (a:=⟨b,o,none⟩) (w:=w) hb];exact h.f o,jj h.z hs⟩
def Bx.below(h:Bx w b C)(hb:Below w.heap.size w w'):Bx w' b C:=h.same hb.size<|hb.block b h.z
def Bx.ke(h:Bx w b C)(hb:Ke rb w w')(hn:b≠rb):Bx w' b C:=h.same hb.size<|hb.block b h.z hn
def Bx.alloc{w:World}{b:Nat}{C:Array Value}(h:Bx w b C)o:Bx (w.alloc o) b C:=h.below<|(jo _ _).alloc (ji _) o
def Ke.oX(h:Ke rb a w)(hb:a.heap.size<=b)j u:Ke rb a (w.setCell ⟨b,j,none⟩ u):=
 ⟨h.os,h.tape,h.output,by simpa[j5]using h.size,λk hk hn=>by rw[jp _ _ _ _ (by show k≠b;omega)];exact h.block k hk hn⟩
def cL c:=c==32||c==10
def Oq(c:Nat):(((c:Int)==32)||((c:Int)==10))=cL c:=by
 rw[jv];simp[cL];omega
def iF(c:Nat)w:Calls ja 108 #[.int .u8 (c:Int)] w λe w'=>e=.returned (.bool<|Pu.gn c)/\w'=w:=by
 go_enter func108,ntmps108
 go_wp2
 all_goals(go_ret;exact⟨jL (by rw[ZO];symm;simp;try omega),rfl⟩)
def tH(c:Nat)w:Calls ja 110 #[.int .u8 (c:Int)] w λe w'=>e=.returned (.bool<|Pu.BT c)/\w'=w:=by
 go_enter func110,ntmps110
 go_wp2
 all_goals(go_ret;exact⟨jL (by rw[adn];symm;simp;try omega),rfl⟩)
def mJ(c:Nat)w:Calls ja 113 #[.int .u8 (c:Int)] w λe w'=>e=.returned (.bool<|Pu.dB c)/\w'=w:=by
 go_enter func113,ntmps113
 go_wp2
 all_goals(go_ret;exact⟨jL (by rw[ZP];symm;simp;try omega),rfl⟩)
def Ot(c:Nat)w:Calls ja 107 #[.int .u8 (c:Int)] w λe w'=>e=.returned (.bool<|cL c)/\w'=w:=by
 go_enter func107,ntmps107
 go_wp2
 all_goals(go_ret;exact⟨jL (by rw[<-Oq];try simp[*]),rfl⟩)
def UY(c:Nat)w:Calls ja 112 #[.int .u8 (c:Int)] w λe w'=>e=.returned (.bool<|Pu.aX c)/\w'=w:=by
 have hn:Pu.aX c=(Pu.gn c||Pu.BT c||Pu.dB c):=rfl;have ajg:(Pu.gn c=true\/(Pu.gn c=false/\Pu.BT c=true))\/(Pu.gn c=false/\Pu.BT c=false):=by
  cases Pu.gn c<;>cases Pu.BT c<;>simp
 obtain  (h1|⟨h1,h2⟩)|⟨h1,h2⟩:=ajg;all_goals
  simp only[*,Bool.or_true,Bool.true_or,Bool.false_or]at hn;have hn:=ai hn;go_enter func112,ntmps112;go_wp2_with(first|(go_at_call 108;refine(iF _ _).mono ?_;rintro e w'⟨rfl,rfl⟩)|(go_at_call 110;refine(tH _ _).mono ?_;rintro e w'⟨rfl,rfl⟩)|(go_at_call 113;refine(mJ _ _).mono ?_;rintro e w'⟨rfl,rfl⟩));go_ret;exact⟨jL hn.symm,rfl⟩
def lE{fn}(hq:fn=107/\p=cL\/fn=112/\p=Pu.aX\/fn=113/\p=Pu.dB)(s:ByteArray)(i:Nat)(w:World)(hs:s.size<=1000)(hi:i<=s.size):
 Calls ja 106 #[.string s,.int .i64 (i:Int),.func (.func fn) #[] #[]] w λe w'=>e=.returned (.int .i64<|Pu.aJ s p i)/\w'=w:=by
 have H:∀(c:Nat)(w:World),Calls ja fn #[.int .u8 (c:Int)] w λe w'=>e=.returned (.bool<|p c)/\w'=w:=by obtain⟨rfl,rfl⟩|⟨rfl,rfl⟩|⟨rfl,rfl⟩:=hq;exact Ot;exact UY;exact mJ
 obtain⟨rfl,hq⟩|⟨rfl,hq⟩|⟨rfl,hq⟩:=hq;all_goals
  clear hq;go_enter func106,ntmps106
  go_wp2
  go_loop[7] (λv=>∃j:Nat,j<=s.size/\v=.int .i64 (j:Int)/\Hid (Pu.aJ s p i=Pu.aJ s p j)) (λv=>s.size-(intOf v).toNat)
  case atStart=>exact⟨i,hi,rfl,rfl⟩
  case round=>
   obtain⟨j,hj,rfl,he⟩:=hrel;by_cases bA:j<s.size
   .have hn:=Pu.mF bA
    cases hp:p (Pu.at_ s j)with
    |true=>
     have hm:=step_end bA he hp;rw[hn]at hp;go_wp2_with((first|go_at_call 107|go_at_call 112|go_at_call 113);refine(H _ _).mono ?_;rintro e w'⟨rfl,rfl⟩);go_round
     case rel=>exact⟨j+1,ae,jP,by simpa using hm⟩
     case measure=>simp[intOf];omega
    |false=>
     have hm:=step_end bA he hp;rw[hn]at hp;go_wp2_with((first|go_at_call 107|go_at_call 112|go_at_call 113);refine(H _ _).mono ?_;rintro e w'⟨rfl,rfl⟩);go_ret;exact⟨ZR<|congrArg Nat.cast<|hm.out.symm,rfl⟩
   .go_wp2
    go_ret;exact⟨ZR<|by rw[he.out,Pu.mI ae],rfl⟩
def aq(t:Pu.Tok):ByteArray:=
 if t.kind=1 then⟨#[108,111,119,32,110,97,109,101]⟩else if t.kind=2 then⟨#[117,112,32,110,97,109,101]⟩else if t.kind=3 then⟨#[97,32,118,97,114,105,97,98,108,101]⟩
 else if t.kind=4 then⟨#[97,32,110,117,109,98,101,114]⟩else if t.kind=7 then⟨#[116,104,101,32,101,110,100]⟩else t.text
def dC(t:Pu.Tok):Value:=.agg #[.int .i64 (t.al:Int),.int .i64 (t.to:Int),.string<|aq t,.string t.text]
def afj(a:Nat->ByteArray):∀{j:Nat},j<13->∀w:World,(Instr.index 270 (.agg #[.string<|a 0,.string<|a 1,.string<|a 2,.string<|a 3,.string<|a 4,.string<|a 5,.string<|a 6,.string<|a 7,.string<|a 8,.string<|a 9,.string<|a 10,.string<|a 11,.string<|a 12])<|.int .i64 (j:Int)).run ja w=.ok (.string<|a j) w
 |0,_,w=>qkr|1,_,w=>qkr|2,_,w=>qkr|3,_,w=>qkr|4,_,w=>qkr|5,_,w=>qkr|6,_,w=>qkr|7,_,w=>qkr|8,_,w=>qkr|9,_,w=>qkr|10,_,w=>qkr|11,_,w=>qkr|12,_,w=>qkr|_+13,h,_=>absurd h ae
def Dl{a b:List UInt8}:(a==b)=(b==a):=xY
def Q6{p:Prop}(h:p:=by
 subst hC;refine⟨λo=>?_,λo=>by simp;exact h.f o,by simpa[j5]using h.z⟩;by_cases e:o=j
 .subst e;rw[World.cell?_setCell_same _ _ _<|(h.c o).trans<|Array.getElem?_eq_getElem hj];simp[hj]
 .rw[World.cell?_setCell_other _ _ _ _ (by intro q;injection q with _ q;exact e q.symm),h.c o,Array.getElem?_setIfInBounds_ne ae]):p:=h
def Bx.aR(h:Bx w b C)j v C'(hC:C'=C.setIfInBounds j v)(hj:j<C.size):Bx (w.setCell ⟨b,j,none⟩ v) b C':=by
 exact Q6
def signs:List ByteArray:=[⟨#[45,62]⟩,⟨#[40]⟩,⟨#[41]⟩,⟨#[44]⟩,⟨#[59]⟩,⟨#[58]⟩,⟨#[61]⟩,⟨#[124]⟩,⟨#[43]⟩,⟨#[45]⟩,⟨#[42]⟩,⟨#[60]⟩,⟨#[95]⟩]
def cS k:=signs.getD k ⟨#[]⟩
def JX{u}(h:Below w.heap.size w u)b o(hb:b<w.heap.size):u.cell? ⟨b,o,none⟩=w.cell? ⟨b,o,none⟩:=jz (a:=⟨b,o,none⟩)<|h.block b hb
def Dm(s:ByteArray)i j(k:ByteArray)(hij:i<=j)(hj:j<=s.size)(hs:s.size<=1000):
 Calls ja 111 #[.string s,.int .i64 (i:Int),.int .i64 (j:Int),.string k] w λe w'=>e=.returned (.agg #[.int .i64 (i:Int),.int .i64 (j:Int),.string k,.string<|s.extract i j])/\Below w.heap.size w w':=by
 have h1:(i:Int)<=(j:Int):=ae;have h2:(j:Int)<=(s.size:Int):=ae;go_enter func111,ntmps111
 go_wp2
 exact bodyPost_ret (v:=.agg #[.int .i64 (i:Int),.int .i64 (j:Int),.string k,.string<|s.extract i j]) (by simp[results,Tryz.results111,go_sem]) rfl ⟨rfl,(jo _ _).alloc (ji _) _⟩
def mK i j:Calls ja 146 #[.int .i64 i,.int .i64 j] w λe w'=>e=.returned (.agg #[.int .i64 2,.int .i64 i,.int .i64 j])/\Below w.heap.size w w':=by
 go_enter func146,ntmps146
 go_wp2
 exact bodyPost_ret (v:=.agg #[.int .i64 2,.int .i64 i,.int .i64 j]) (by simp[results,Tryz.results146,go_sem]) rfl ⟨rfl,(jo _ _).alloc (ji _) _⟩
structure Laid(w:World):Prop where
 words:∀j,j<13->w.cell? ⟨1,j,none⟩=some (.string<|Pu.kN j)
 signs:∀j,j<13->w.cell? ⟨0,j,none⟩=some (.string<|cS j)
 hz:2<=w.heap.size
def Laid.af{w}(h:Laid w)(hb:Below w.heap.size w w'):Laid w':=
 ⟨λj hj=>(JX hb 1 j (by have:=h.hz;omega)).trans<|h.words j hj,λj hj=>(JX hb 0 j (by have:=h.hz;omega)).trans<|h.signs j hj,jl h.hz hb.size⟩
def Q7{p:Prop}(h:p:=by
 go_round
 case rel=>exact⟨j+1,ae,jP,W6⟩
 case measure=>simp[intOf];omega):p:=h
def tI(h:Laid w)(s:ByteArray):Calls ja 145 #[.string s] w λe w'=>e=.returned (.bool<|Pu.fk s)/\w'=w:=by
 have g0:=h.words 0 ae;have g1:=h.words 1 ae;have g2:=h.words 2 ae;have g3:=h.words 3 ae;have g4:=h.words 4 ae;have g5:=h.words 5 ae;have g6:=h.words 6 ae;have g7:=h.words 7 ae;have g8:=h.words 8 ae;have g9:=h.words 9 ae;have g10:=h.words 10 ae;have g11:=h.words 11 ae;have g12:=h.words 12 ae;go_enter func145,ntmps145
 go_wp2
 go_loop[6] (λv=>∃j:Nat,j<=13/\v=.int .i64 (j:Int)/\Hid (∀i,i<j->(s.toList==(Pu.kN i).toList)=false)) (λv=>13-(intOf v).toNat)
 case atStart=>exact⟨0,ae,rfl,λi h=>ae⟩
 case round=>
  obtain⟨j,hj,rfl,nU⟩:=hrel;by_cases bA:j<13
  .have hix:=afj Pu.kN bA;have hd:(j:Int)<13:=ae
   cases he:(s.toList==(Pu.kN j).toList)with
   |true=>
    have hb:Hid (Pu.fk s=true):=Pu.ZN bA (by rw[Dl];exact he)
    go_wp2
    go_ret;exact⟨jL hb.symm,rfl⟩
   |false=>
    have W6:Hid (∀i,i<j+1->(s.toList==(Pu.kN i).toList)=false):=λi hi=>by
     by_cases e:i=j
     .subst e;exact he
     .exact nU i ae
    go_wp2
    exact Q7
  .have hb:Hid (Pu.fk s=false):=Pu.On (λi hi=>by rw[Dl];exact nU i ae)
   go_wp2
   go_ret;exact⟨jL hb.symm,rfl⟩
def xK(s:ByteArray):Nat->Nat
 |0=>0|k+1=>10*xK s k+(Pu.at_ s k+208)%256
def Ab(s:ByteArray):Nat:=xK s<|min s.size 9
def ade(s:ByteArray):∀k,k<=9->xK s k<=255*111111111:=by
 have:∀k,9*xK s k+255<=255*10^k:=by
  intro k
  induction k with
  |zero=>simp[xK]|succ k ih=>simp only[xK,Nat.pow_succ];omega
 intro k hk;have h:=this k;have h2:10^k<=10^9:=Nat.pow_le_pow_right ae hk;omega
inductive Nd where
 |mk(kind:Nat)(s:ByteArray)(n:Nat)(L:List Nd)(al to at_:Nat):Nd
theorem toList_mk l:(ByteArray.mk l.toArray).toList=l:=by simp_all
abbrev gB:ByteArray:=⟨#[116,114,117,101]⟩
abbrev dJ:ByteArray:=⟨#[102,97,108,115,101]⟩
abbrev Aa:ByteArray:=⟨#[95]⟩
abbrev ls:ByteArray:=⟨#[40]⟩
def bI t:=
 if t.kind=1 then 1 else if t.kind=2 then 2 else if t.kind=3 then 16 else if t.kind=4 then 3
 else if aU t gB=true\/aU t dJ=true then 4 else if aU t Aa=true then 15 else 0
def eO(t:Pu.Tok):Nat:=if t.kind=4 then Ab t.text else 0
def Fk t l:aU t ⟨l.toArray⟩=(t.kind==5&&t.text.toList==l):=by simp_all[aU]
def JF t:aU t gB=(t.kind==5&&t.text.toList==[116,114,117,101]):=Fk t _
def Dh t:aU t dJ=(t.kind==5&&t.text.toList==[102,97,108,115,101]):=Fk t _
def QW t:aU t Aa=(t.kind==5&&t.text.toList==[95]):=Fk t _
def aF t sort:=aU t ls||
 (if sort=1 then bI t==16||bI t==2 else if sort=2 then bI t==15||bI t==1||bI t==2||bI t==3||bI t==4 else bI t==1||bI t==2||bI t==3||bI t==4)
abbrev eW:ByteArray:=⟨#[]⟩
abbrev lS:ByteArray:=⟨#[41]⟩
abbrev rS:ByteArray:=⟨#[44]⟩
abbrev Fc:ByteArray:=⟨#[58]⟩
abbrev rG:ByteArray:=⟨#[45,62]⟩
abbrev fc:ByteArray:=⟨#[42]⟩
abbrev gh:ByteArray:=⟨#[43]⟩
abbrev dE:ByteArray:=⟨#[45]⟩
abbrev dL:ByteArray:=⟨#[60]⟩
abbrev IQ:ByteArray:=⟨#[102,117,110]⟩
abbrev sR:ByteArray:=⟨#[108,101,116]⟩
abbrev ZS:ByteArray:=⟨#[114,101,99]⟩
abbrev kIn:ByteArray:=⟨#[105,110]⟩
abbrev kIf:ByteArray:=⟨#[105,102]⟩
abbrev ae3:ByteArray:=⟨#[116,104,101,110]⟩
abbrev ae4:ByteArray:=⟨#[101,108,115,101]⟩
abbrev rD:ByteArray:=⟨#[109,97,116,99,104]⟩
abbrev ae5:ByteArray:=⟨#[119,105,116,104]⟩
abbrev aiX:ByteArray:=⟨#[101,110,100]⟩
abbrev UA:ByteArray:=⟨#[124]⟩
abbrev Aj:ByteArray:=⟨#[59]⟩
abbrev QE:ByteArray:=⟨#[61]⟩
abbrev nY:ByteArray:=⟨#[116,121,112,101]⟩
def b_(t:Pu.Tok):Nd:=.mk (bI t) t.text (eO t) [] t.al t.to t.al
def Nd.add:Nd->Nd->Nat->Nd
 |.mk k s n L f _ a,y,to=>.mk k s n (L++[y]) f to a
def aK{α β:Type}(m:M α)(f:α->M β):M β:=λk=>match m k with
 |.error e=>.error e|.ok (a,k')=>f a k'
section
variable (T:List Pu.Tok)
def oY(mk:Nat->Nd):M Nd:=aK (bz T lS) λ_ k=>.ok (mk k,k)
def kx part Hh sort al a:=λk=>
 if aU (tk T k) rS=true then aK part (λb=>oY T λk'=>.mk 6 eW 0 [a,b] al (aG T k') al) (k+1)
 else if sort=3/\aU (tk T k) Fc=true then aK Hh (λb=>oY T λk'=>.mk 14 eW 0 [a,b] al (aG T k') al) (k+1)
 else oY T (λ_=>a) k
def gq part Hh sort al:=λk=>
 if sort≠1/\aU (tk T k) lS=true then .ok (.mk 5 eW 0 [] al (aG T<|k+1) al,k+1)
 else aK part (kx T part Hh sort al) k
def aH part Hh sort:=λk=>
 if aF (tk T k) sort=true then
  (if aU (tk T k) ls=true then gq T part Hh sort (tk T k).al (k+1)else .ok (b_<|tk T k,k+1))
 else .error (d_<|tk T k)
def dM(small:M Nd)(sort:Nat):Nat->Nd->M Nd
 |0,x=>λk=>.ok (x,k)|f+1,x=>λk=>if aF (tk T k) sort=true then aK small (λy k'=>dM small sort f (x.add y<|aG T k') k') k else .ok (x,k)
def iY small sort:=λk=>if(tk T k).kind==2 then aK small (dM T small sort T.length) k else small k
def oK Hh al(a:Nd):=λk=>
 if aU (tk T k) rG=true then aK Hh (λb k'=>.ok (.mk 17 eW 0 [a,b] al (aG T k') al,k')) (k+1)else .ok (a,k)
def gP:Nat->M Nd
 |0=>lO T|n+1=>λk=>aK (iY T (aH T (gP n) (gP n) 1) 1) (oK T (gP n) (tk T k).al) k
def dv:Nat->M Nd
 |0=>lO T|n+1=>iY T (aH T (dv n) (lO T) 2) 2
def gp(small:M Nd)(al:Nat):Nat->Nd->M Nd
 |0,x=>λk=>.ok (x,k)|f+1,x=>λk=>if aF (tk T k) 3=true then aK small (λy k'=>gp small al f (.mk 8 eW 0 [x,y] al (aG T k') al) k') k else .ok (x,k)
def cO small:=λk=>aK small (gp T small (tk T k).al T.length) k
def iX(call:M Nd)(al:Nat):Nat->Nd->M Nd
 |0,x=>λk=>.ok (x,k)|f+1,x=>λk=>if aU (tk T k) fc=true then aK call (λy k'=>iX call al f (.mk 7 fc 0 [x,y] al (aG T k') al) k') (k+1)else .ok (x,k)
def eE call:=λk=>aK call (iX T call (tk T k).al T.length) k
def qD(prod:M Nd)(al:Nat):Nat->Nd->M Nd
 |0,x=>λk=>.ok (x,k)|f+1,x=>λk=>if aU (tk T k) gh=true\/aU (tk T k) dE=true then aK prod (λy k'=>qD prod al f (.mk 7 (tk T k).text 0 [x,y] al (aG T k') al) k') (k+1)else .ok (x,k)
def rE prod:=λk=>aK prod (qD T prod (tk T k).al T.length) k
def rF(expr:M Nd):M Nd:=λk=>
 aK (bz T IQ) (λ_=>aK (cY T 1) λt=>aK (bz T rG) λ_=>aK expr λe k'=>.ok (.mk 9 t.text 0 [e] (tk T k).al (aG T k') t.al,k')) k
def bX(expr:M Nd):M (Nat×Pu.Tok×Nd):=
 aK (bz T sR) λ_ k=>
  if aU (tk T k) ZS=true then aK (cY T 1) (λt=>aK (bz T QE) λ_=>aK (rF T expr) λe k'=>.ok ((11,t,e),k')) (k+1)
  else aK (cY T 1) (λt=>aK (bz T QE) λ_=>aK expr λe k'=>.ok ((10,t,e),k')) k
def lz(expr:M Nd):M Nd:=λk=>
 aK (bz T kIf) (λ_=>aK expr λa=>aK (bz T ae3) λ_=>aK expr λb=>aK (bz T ae4) λ_=>aK expr λc k'=>.ok (.mk 12 eW 0 [a,b,c] (tk T k).al (aG T k') (tk T k).al,k')) k
def lA(sS expr:M Nd):Nat->List Nd->M (List Nd)
 |0,l=>λk=>.ok (l,k)|f+1,l=>aK sS λp=>aK (bz T rG) λ_=>aK expr λe k=>
   if aU (tk T k) UA=true then lA sS expr f (l++[p,e]) (k+1)else .ok (l++[p,e],k)
def oI(sS expr:M Nd):M Nd:=λk=>
 aK (bz T rD) (λ_=>aK expr λx=>aK (bz T ae5) λ_=>aK (lA T sS expr T.length [x]) λl=>aK (bz T aiX) λ_ k'=>.ok (.mk 13 eW 0 l (tk T k).al (aG T k') (tk T k).al,k')) k
def oe(expr:M Nd):M Nd:=λk=>
 aK (bX T expr) (λb=>aK (bz T kIn) λ_=>aK expr λf k'=>.ok (.mk b.1 b.2.1.text 0 [b.2.2,f] (tk T k).al (aG T k') b.2.1.al,k')) k
def oH(sum:M Nd):M Nd:=λk=>
 aK sum (λx k1=>if aU (tk T k1) dL=true then aK sum (λy k'=>.ok (.mk 7 dL 0 [x,y] (tk T k).al (aG T k') (tk T k).al,k')) (k1+1)else .ok (x,k1)) k
def bq:Nat->M Nd
 |0=>lO T|n+1=>λk=>
  if aU (tk T k) IQ=true then rF T (bq n) k
  else if aU (tk T k) kIf=true then lz T (bq n) k
  else if aU (tk T k) rD=true then oI T (dv T n) (bq n) k
  else if aU (tk T k) sR=true then oe T (bq n) k
  else oH T (rE T<|eE T<|cO T<|aH T (bq n) (gP T n) 3) k
end
structure NV where
 k:Int
 s:ByteArray
 n:Int
 la:Option Addr
 ll:Nat
 lc:Nat
 f:Int
 t:Int
 a:Int
section
variable {T:List Pu.Tok} {σ:St}
def o8{t}(h:aU t s=true):t.kind=5:=by simp[aU]at h;exact h.1
end
def Bx.at(w:World)C t b(hb:b=w.heap.size):Bx (w.alloc<|.cells C t) b C:=by subst hb;exact Bx.new w C t
def Bx.rK(h:Bx w b C)j v C'(hC:C'=C.setIfInBounds j v)(hj:j<C.size):Bx (w.setCell ⟨b,j,none⟩ v) b C':=by
 exact Q6
def Bx.ol{b2}(h:Bx w b C)(hn:b≠b2)j v:Bx (w.setCell ⟨b2,j,none⟩ v) b C:=
 h.same Dd (jp _ _ _ _ hn)
def Bx.Ou(h:Bx w b C)(hC:C.size=7)v0 v1 v2 v3 v4 v5 v6:Bx (((((((w.setCell ⟨b,0,none⟩ v0).setCell ⟨b,1,none⟩ v1).setCell ⟨b,2,none⟩ v2).setCell ⟨b,3,none⟩ v3).setCell ⟨b,4,none⟩ v4).setCell ⟨b,5,none⟩ v5).setCell ⟨b,6,none⟩ v6) b #[v0,v1,v2,v3,v4,v5,v6]:=by
 obtain⟨a0,a1,a2,a3,a4,a5,a6,rfl⟩:∃a0 a1 a2 a3 a4 a5 a6,C=#[a0,a1,a2,a3,a4,a5,a6]:=by
  obtain⟨l⟩:=C
  match l,hC with
  |[a,b,c,d,e,f,g],_=>grind
 exact((((((h.rK 0 v0 #[v0,a1,a2,a3,a4,a5,a6] rfl ag).rK 1 v1 #[v0,v1,a2,a3,a4,a5,a6] rfl ag).rK 2 v2 #[v0,v1,v2,a3,a4,a5,a6] rfl ag).rK 3 v3 #[v0,v1,v2,v3,a4,a5,a6] rfl ag).rK 4 v4 #[v0,v1,v2,v3,v4,a5,a6] rfl ag).rK 5 v5 #[v0,v1,v2,v3,v4,v5,a6] rfl ag).rK 6 v6 #[v0,v1,v2,v3,v4,v5,v6] rfl ag
def Bx.ZT{b'}(h:Bx w b' C)(hn:b'≠b)v0 v1 v2 v3 v4 v5 v6:Bx (((((((w.setCell ⟨b,0,none⟩ v0).setCell ⟨b,1,none⟩ v1).setCell ⟨b,2,none⟩ v2).setCell ⟨b,3,none⟩ v3).setCell ⟨b,4,none⟩ v4).setCell ⟨b,5,none⟩ v5).setCell ⟨b,6,none⟩ v6) b' C:=
 ((((((h.ol hn 0 v0).ol hn 1 v1).ol hn 2 v2).ol hn 3 v3).ol hn 4 v4).ol hn 5 v5).ol hn 6 v6
def Fm{α:Type}(m:M α):=∀k a k',m k=.ok (a,k')->k<=k'
def ftV(k i j:Int):Value:=.agg #[.int .i64 k,.int .i64 i,.int .i64 j]
abbrev zZ:Array Value:=#[.int .i64 0,.int .i64 0,.string ⟨#[]⟩,.string ⟨#[]⟩]
def Bx.nD{w}(h:Bx w b C)(hC:C.size=4)v0 v1 v2 v3:Bx ((((w.setCell ⟨b,0,none⟩ v0).setCell ⟨b,1,none⟩ v1).setCell ⟨b,2,none⟩ v2).setCell ⟨b,3,none⟩ v3) b #[v0,v1,v2,v3]:=by
 obtain⟨a0,a1,a2,a3,rfl⟩:∃a0 a1 a2 a3,C=#[a0,a1,a2,a3]:=by
  obtain⟨l⟩:=C
  match l,hC with
  |[a,b,c,d],_=>grind
 exact(((h.aR 0 v0 #[v0,a1,a2,a3] rfl ag).aR 1 v1 #[v0,v1,a2,a3] rfl ag).aR 2 v2 #[v0,v1,v2,a3] rfl ag).aR 3 v3 #[v0,v1,v2,v3] rfl ag
def _root_.Go.RowKit.Below.nD{B}{w}(h:Below B a w)(hb:B<=b)v0 v1 v2 v3:Below B a ((((w.setCell ⟨b,0,none⟩ v0).setCell ⟨b,1,none⟩ v1).setCell ⟨b,2,none⟩ v2).setCell ⟨b,3,none⟩ v3):=
 (((h.setCell hb v0).setCell hb v1).setCell hb v2).setCell hb v3
def JY(h:Laid w)(s:ByteArray)i(hi:i<s.size)(hs:s.size<=1000):
 Calls ja 109 #[.string s,.int .i64 (i:Int)] w λe w'=>e=.returned (dC<|if Pu.fk (s.extract i<|Pu.aJ s Pu.aX i)=true then Pu.gV s i 5 (Pu.aJ s Pu.aX i)else Pu.gV s i 1 (Pu.aJ s Pu.aX i))/\Below w.heap.size w w':=by
 have hle:=Pu.gD (s:=s) Pu.aX (i:=i) ae;have It:=Pu.fy s Pu.aX i;have H:=h.af<|(jo w.heap.size w).alloc (ji _)<|.cells zZ 141;have B0:=Bx.new w zZ 141;have HB:=(jo w.heap.size w).alloc (ji _)<|.cells zZ 141;have h1:(i:Int)<=((Pu.aJ s Pu.aX i:Nat):Int):=ae;have h2:((Pu.aJ s Pu.aX i:Nat):Int)<=(s.size:Int):=ae
 cases hw:Pu.fk (s.extract i<|Pu.aJ s Pu.aX i)with
 |true=>
  go_enter func109,ntmps109;go_wp2_with(first|(go_at_call 106;refine(lE (Or.inr<|Or.inl ⟨rfl,rfl⟩) s i _ hs ae).mono ?_;rintro e w'⟨rfl,rfl⟩)|(go_at_call 145;refine(tI H _).mono ?_;rintro e w'⟨rfl,rfl⟩)|(go_at_call 111;refine(Dm s i _ _ It hle hs).mono ?_;rintro e w1⟨rfl,hb⟩;have B1:=ai<|B0.below hb;have eH:=ai<|HB.trans<|hb.mono ag;have⟨c1,f1,y1⟩:=uh B1;clear hb));have BF:=B1.nD rfl (.int .i64 (i:Int)) (.int .i64 ((Pu.aJ s Pu.aX i:Nat):Int)) (.string<|s.extract i<|Pu.aJ s Pu.aX i) (.string<|s.extract i<|Pu.aJ s Pu.aX i);obtain⟨cF,fF,zF⟩:=BF;refine bodyPost_ret (v:=dC<|Pu.gV s i 5<|Pu.aJ s Pu.aX i) (by simp[results,Tryz.results109,go_sem,cF,dC,Pu.gV,aq]) rfl ⟨ag,eH.nD (Nat.le_refl _) _ _ _ _⟩
 |false=>
  go_enter func109,ntmps109;go_wp2_with(first|(go_at_call 106;refine(lE (Or.inr<|Or.inl ⟨rfl,rfl⟩) s i _ hs ae).mono ?_;rintro e w'⟨rfl,rfl⟩)|(go_at_call 145;refine(tI H _).mono ?_;rintro e w'⟨rfl,rfl⟩)|(go_at_call 111;refine(Dm s i _ _ It hle hs).mono ?_;rintro e w1⟨rfl,hb⟩;have B1:=ai<|B0.below hb;have eH:=ai<|HB.trans<|hb.mono ag;have⟨c1,f1,y1⟩:=uh B1;clear hb));have BF:=B1.nD rfl (.int .i64 (i:Int)) (.int .i64 ((Pu.aJ s Pu.aX i:Nat):Int)) (.string ⟨#[108,111,119,32,110,97,109,101]⟩) (.string<|s.extract i<|Pu.aJ s Pu.aX i);obtain⟨cF,fF,zF⟩:=BF;refine bodyPost_ret (v:=dC<|Pu.gV s i 1<|Pu.aJ s Pu.aX i) (by simp[results,Tryz.results109,go_sem,cF,dC,Pu.gV,aq]) rfl ⟨ag,eH.nD (Nat.le_refl _) _ _ _ _⟩
def eP t w(e:Ending)w':=
 Below w.heap.size w w'/\((t.kind≠6/\e=.returned (dC t))\/(t.kind=6/\e=.panicked [{v:=.iface 136<|.agg #[.int .i64 2,.int .i64 (t.al:Int),.int .i64 (t.to:Int)],recovered:=false}]))
def ZU(s:ByteArray)i(hi:i<s.size)(hs:s.size<=1000):
 Calls ja 114 #[.string s,.int .i64 (i:Int)] w (eP (if Pu.aJ s Pu.dB i-i<=9 then Pu.gV s i 4 (Pu.aJ s Pu.dB i)else Pu.gV s i 6 (Pu.aJ s Pu.dB i)) w):=by
 have hle:=Pu.gD (s:=s) Pu.dB (i:=i) ae;have It:=Pu.fy s Pu.dB i;have B0:=Bx.new w zZ 141;have HB:=(jo w.heap.size w).alloc (ji _)<|.cells zZ 141;by_cases hd:Pu.aJ s Pu.dB i-i<=9
 .have h1:¬(9:Int)<((Pu.aJ s Pu.dB i:Nat):Int)-(i:Int):=ae;rw[if_pos hd];go_enter func114,ntmps114;go_wp2_with(first|(go_at_call 106;refine(lE (Or.inr<|Or.inr ⟨rfl,rfl⟩) s i _ hs ae).mono ?_;rintro e w'⟨rfl,rfl⟩)|(go_at_call 111;refine(Dm s i _ _ It hle hs).mono ?_;rintro e w1⟨rfl,hb⟩;have B1:=ai<|B0.below hb;have eH:=ai<|HB.trans<|hb.mono ag;have⟨c1,f1,y1⟩:=uh B1;clear hb));have BF:=B1.nD rfl (.int .i64 (i:Int)) (.int .i64 ((Pu.aJ s Pu.dB i:Nat):Int)) (.string ⟨#[97,32,110,117,109,98,101,114]⟩) (.string<|s.extract i<|Pu.aJ s Pu.dB i);obtain⟨cF,fF,zF⟩:=BF;exact bodyPost_ret (v:=dC<|Pu.gV s i 4<|Pu.aJ s Pu.dB i) (by simp[results,Tryz.results114,go_sem,cF,dC,Pu.gV,aq]) rfl ⟨eH.nD (Nat.le_refl _) _ _ _ _,Or.inl ⟨by simp[Pu.gV],rfl⟩⟩
 .have h1:(9:Int)<((Pu.aJ s Pu.dB i:Nat):Int)-(i:Int):=ae;rw[if_neg hd];go_enter func114,ntmps114;go_wp2_with(first|(go_at_call 106;refine(lE (Or.inr<|Or.inr ⟨rfl,rfl⟩) s i _ hs ae).mono ?_;rintro e w'⟨rfl,rfl⟩)|(go_at_call 146;refine(mK _ _).mono ?_;rintro e w1⟨rfl,hb⟩;have eH:=ai<|HB.trans<|hb.mono ag;clear hb));exact⟨rfl,eH,Or.inr ⟨rfl,rfl⟩⟩
def kO(s:ByteArray)i:=
 if Pu.gn (Pu.at_ s<|i+1)=true then(if Pu.fk (s.extract (i+1)<|Pu.aJ s Pu.aX<|i+1)=true then Pu.gV s i 6 (Pu.aJ s Pu.aX<|i+1)else Pu.gV s i 3 (Pu.aJ s Pu.aX<|i+1))else Pu.gV s i 6 (i+1)
def ajh(h:Laid w)(s:ByteArray)i(hi:i<s.size)(hs:s.size<=1000):
 Calls ja 115 #[.string s,.int .i64 (i:Int)] w (eP (kO s i) w):=by
 have B0:=Bx.new w zZ 141;have HB:=(jo w.heap.size w).alloc (ji _)<|.cells zZ 141;have H:=h.af HB;by_cases hn:i+1<s.size
 .have he:(((i:Int)+1)==(s.size:Int))=false:=bF;have MN:=Pu.mF hn
  cases rl:Pu.gn s[i+1].toNat with
  |false=>
   have ht:kO s i=Pu.gV s i 6 (i+1):=by rw[kO];rw[MN,rl];simp
   rw[ht];go_enter func115,ntmps115;go_wp2_with(first|(go_at_call 108;refine(iF _ _).mono ?_;rintro e w'⟨rfl,rfl⟩)|(go_at_call 146;refine(mK _ _).mono ?_;rintro e w1⟨rfl,hb⟩;have eH:=ai<|HB.trans<|hb.mono ag;clear hb));exact⟨rfl,eH,Or.inr ⟨rfl,rfl⟩⟩
  |true=>
   have hle:=Pu.gD (s:=s) Pu.aX (i:=i+1) ae;have It:=Pu.fy s Pu.aX<|i+1;have h1:(i:Int)+1<=((Pu.aJ s Pu.aX (i+1):Nat):Int):=ae;have h2:((Pu.aJ s Pu.aX (i+1):Nat):Int)<=(s.size:Int):=ae
   cases hw:Pu.fk (s.extract (i+1)<|Pu.aJ s Pu.aX<|i+1)with
   |true=>
    have ht:kO s i=Pu.gV s i 6 (Pu.aJ s Pu.aX<|i+1):=by rw[kO];rw[MN,rl,hw];simp
    rw[ht];go_enter func115,ntmps115;go_wp2_with(first|(go_at_call 108;refine(iF _ _).mono ?_;rintro e w'⟨rfl,rfl⟩)|(go_at_call 106;refine(lE (Or.inr<|Or.inl ⟨rfl,rfl⟩) s (i+1) _ hs ae).mono ?_;rintro e w'⟨rfl,rfl⟩)|(go_at_call 145;refine(tI H _).mono ?_;rintro e w'⟨rfl,rfl⟩)|(go_at_call 146;refine(mK _ _).mono ?_;rintro e w1⟨rfl,hb⟩;have eH:=ai<|HB.trans<|hb.mono ag;clear hb));exact⟨rfl,eH,Or.inr ⟨rfl,rfl⟩⟩
   |false=>
    have ht:kO s i=Pu.gV s i 3 (Pu.aJ s Pu.aX<|i+1):=by rw[kO];rw[MN,rl,hw];simp
    rw[ht];go_enter func115,ntmps115;go_wp2_with(first|(go_at_call 108;refine(iF _ _).mono ?_;rintro e w'⟨rfl,rfl⟩)|(go_at_call 106;refine(lE (Or.inr<|Or.inl ⟨rfl,rfl⟩) s (i+1) _ hs ae).mono ?_;rintro e w'⟨rfl,rfl⟩)|(go_at_call 145;refine(tI H _).mono ?_;rintro e w'⟨rfl,rfl⟩)|(go_at_call 111;refine(Dm s i _ _ ae hle hs).mono ?_;rintro e w1⟨rfl,hb⟩;have B1:=ai<|B0.below hb;have eH:=ai<|HB.trans<|hb.mono ag;have⟨c1,f1,y1⟩:=uh B1;clear hb));have BF:=B1.nD rfl (.int .i64 (i:Int)) (.int .i64 ((Pu.aJ s Pu.aX (i+1):Nat):Int)) (.string ⟨#[97,32,118,97,114,105,97,98,108,101]⟩) (.string<|s.extract i<|Pu.aJ s Pu.aX<|i+1);obtain⟨cF,fF,zF⟩:=BF;exact bodyPost_ret (v:=dC<|Pu.gV s i 3<|Pu.aJ s Pu.aX<|i+1) (by simp[results,Tryz.results115,go_sem,cF,dC,Pu.gV,aq]) rfl ⟨eH.nD (Nat.le_refl _) _ _ _ _,Or.inl ⟨by simp[Pu.gV],rfl⟩⟩
 .have he:(((i:Int)+1)==(s.size:Int))=true:=bF;have ht:kO s i=Pu.gV s i 6 (i+1):=by
   rw[kO];rw[Pu.Q0 ae];rfl
  rw[ht];go_enter func115,ntmps115;go_wp2_with(first|(go_at_call 146;refine(mK _ _).mono ?_;rintro e w1⟨rfl,hb⟩;have eH:=ai<|HB.trans<|hb.mono ag;clear hb));exact⟨rfl,eH,Or.inr ⟨rfl,rfl⟩⟩
def preB(s p:ByteArray):Bool:=decide (p.size<=s.size)&&((s.extract 0 p.size).toList==p.toList)
def mi(s:ByteArray)i k:=
 if k=0 then(Pu.at_ s i==45&&Pu.at_ s (i+1)==62)else Pu.at_ s i==((cS k)[0]!).toNat
def lT(s:ByteArray)i:=
 if Pu.at_ s i=45/\Pu.at_ s (i+1)=62 then Pu.gV s i 5 (i+2)
 else if Pu.GH (Pu.at_ s i)=true then Pu.gV s i 5 (i+1)else Pu.gV s i 6 (i+1)
def wI{a b:ByteArray}(h:(a.toList==b.toList)=true):a=b:=by
 rw[beq_iff_eq,jy,jy]at h;exact jh<|Array.toList_inj.1 h
def alo(h:i<s.size):s.extract i (i+1)=⟨#[s[i]]⟩:=by
 apply jh;apply Array.ext
 .simp;omega
 .intro j h1 h2;have:j=0:=by simp at h2;omega
  subst this;simp[jf];rfl
def alp(h:i+1<s.size):s.extract i (i+2)=⟨#[s[i],s[i+1]]⟩:=by
 apply jh;apply Array.ext
 .simp;omega
 .intro j h1 h2;have:j=0\/j=1:=by simp at h2;omega
  obtain rfl|rfl:=this
  .simp[jf];rfl
  .simp[jf];rfl
def Q8{p:Prop}(h:p:=by
 intro h;have:=congrArg (λb:ByteArray=>b.data)<|wI h;simp at this
 simp[this]):p:=h
def xL(hi:i<s.size)c:preB (s.extract i s.size) ⟨#[c]⟩=(Pu.at_ s i==c.toNat):=by
 have hz:(⟨#[c]⟩:ByteArray).size=1:=rfl;rw[preB];rw[hz,jd,show min (i+1) s.size=i+1 by omega,jm,alo hi,Pu.mF hi,jc];rw[decide_eq_true ae,Bool.true_and,jv];constructor
 .exact Q8
 .intro h;rw[beq_iff_eq]at h;rw[UInt8.toNat_inj.1 h];simp
def alq(hi:i<s.size)c d:preB (s.extract i s.size) ⟨#[c,d]⟩=(Pu.at_ s i==c.toNat&&Pu.at_ s (i+1)==d.toNat):=by
 have hz:(⟨#[c,d]⟩:ByteArray).size=2:=rfl;rw[preB];rw[hz];by_cases hn:i+1<s.size
 .rw[jd,show min (i+2) s.size=i+2 by omega,jm,alp hn,Pu.mF hi,Pu.mF hn,jc];rw[decide_eq_true ae,Bool.true_and,jv];constructor
  .exact Q8
  .intro h;rw[jx,beq_iff_eq,beq_iff_eq]at h;rw[UInt8.toNat_inj.1 h.1,UInt8.toNat_inj.1 h.2];simp
 .rw[jc,decide_eq_false ae,Pu.Q0 (s:=s) (i:=i+1) ae];have:(256==d.toNat)=false:=by have:=UInt8.toNat_lt d;simp;omega
  rw[this];simp
def Q9(hi:i<s.size):∀k,k<13->preB (s.extract i s.size) (cS k)=mi s i k
 |0,_=>alq hi 45 62|1,_=>xL hi _|2,_=>xL hi _|3,_=>xL hi _|4,_=>xL hi _|5,_=>xL hi _|6,_=>xL hi _|7,_=>xL hi _|8,_=>xL hi _|9,_=>xL hi _|10,_=>xL hi _|11,_=>xL hi _|12,_=>xL hi _|k+13,h=>absurd h ae
def agN:∀k,0<k->k<13->(∀j,j<k->mi s i j=false)->mi s i k=true->lT s i=Pu.gV s i 5 (i+1):=by
 intro k h0 hk nU hh;rw[lT];have n0:=nU 0 h0;rw[if_neg (by intro q;simp[mi,q.1,q.2]at n0)];have:Pu.GH (Pu.at_ s i)=true:=by
  have hc:k=1\/k=2\/k=3\/k=4\/k=5\/k=6\/k=7\/k=8\/k=9\/k=10\/k=11\/k=12:=ae;rw[mi]at hh;rw[if_neg ae,beq_iff_eq]at hh;rw[hh];obtain rfl|rfl|rfl|rfl|rfl|rfl|rfl|rfl|rfl|rfl|rfl|rfl:=hc<;>decide
 rw[if_pos this]
def aji(h:mi s i 0=true):lT s i=Pu.gV s i 5 (i+2):=by grind[mi,lT]
def agO(h:∀j,j<13->mi s i j=false):lT s i=Pu.gV s i 6 (i+1):=by
 rw[lT];have n0:=h 0 ae;rw[if_neg (by intro q;simp[mi,q.1,q.2]at n0)];have:Pu.GH (Pu.at_ s i)=false:=by
  rw[Pu.GH];rw[ju];intro x hx;simp only[List.mem_cons,List.not_mem_nil,or_false]at hx;intro q;rw[beq_iff_eq]at q;have H:∀k,0<k->k<13->((cS k)[0]!).toNat=x->False:=λk h0 hk e=>by
   have:=h k hk;rw[mi]at this;rw[if_neg ae,e,q]at this;simp at this
  obtain rfl|rfl|rfl|rfl|rfl|rfl|rfl|rfl|rfl|rfl|rfl|rfl:=hx
  .exact H 1 ae ae rfl
  .exact H 2 ae ae rfl
  .exact H 3 ae ae rfl
  .exact H 4 ae ae rfl
  .exact H 5 ae ae rfl
  .exact H 6 ae ae rfl
  .exact H 7 ae ae rfl
  .exact H 8 ae ae rfl
  .exact H 9 ae ae rfl
  .exact H 10 ae ae rfl
  .exact H 11 ae ae rfl
  .exact H 12 ae ae rfl
 rw[this];rfl
def ZV(hi:i<s.size)(hk:k<13)(h:mi s i k=true):i+(cS k).size<=s.size/\s.extract i (i+(cS k).size)=cS k:=by
 rw[<-Q9 hi k hk]at h;rw[preB]at h;rw[jx,decide_eq_true_iff,jc]at h;have hz:i+(cS k).size<=s.size:=ae;refine⟨hz,?_⟩;have:=wI h.2
 rwa[jd,jm,Nat.min_eq_left hz]at this
def ZW:∀{k:Nat},k<13->1<=(cS k).size/\(cS k).size<=2:=λ{k}h=>(by decide:∀k:Fin 13,1<=(cS k.1).size/\(cS k.1).size<=2) ⟨k,h⟩
def agP:∀{k:Nat},0<k->k<13->(cS k).size=1:=λ{k}h0 h=>(by decide:∀k:Fin 13,0<k.1->(cS k.1).size=1) ⟨k,h⟩ h0
def ado(hk:k<13)(h:∀j,j<k->mi s i j=false)(hh:mi s i k=true):lT s i=Pu.gV s i 5 (i+(cS k).size):=by
 obtain rfl|h0:=Nat.eq_zero_or_pos k
 .exact aji hh
 .rw[agP h0 hk];exact agN k h0 hk h hh
def Q_{p:Prop}(h:p:=by
 go_enter func165,ntmps165
 go_wp2
 go_ret
 exact⟨jL<|by simp[preB,hz],rfl⟩):p:=h
def agQ(s p:ByteArray)(hs:s.size<=1000)(hp:p.size<=2):Calls ja 165 #[.string s,.string p] w λe w'=>e=.returned (.bool<|preB s p)/\w'=w:=by
 by_cases h:p.size<=s.size
 .have h1:(p.size:Int)<=(s.size:Int):=ae;have hz:decide (p.size<=s.size)=true:=by simp[h]
  exact Q_
 .have h1:¬(p.size:Int)<=(s.size:Int):=ae;have hz:decide (p.size<=s.size)=false:=bF;exact Q_
def ZX(s p:ByteArray)(hs:s.size<=1000)(hp:p.size<=2):Calls ja 147 #[.string s,.string p] w λe w'=>e=.returned (.bool<|preB s p)/\w'=w:=by
 go_enter func147,ntmps147;go_wp2_with(go_at_call 165;refine(agQ s p hs hp).mono ?_;rintro e w'⟨rfl,rfl⟩);go_ret;exact⟨jL rfl,rfl⟩
def Dn(s:ByteArray)i k(hi:i<s.size)(hs:s.size<=1000)(hk:k<13)(hz:(cS k).size<=2):Calls ja 147 #[.string<|s.extract i s.size,.string<|cS k] w λe w'=>e=.returned (.bool<|mi s i k)/\w'=w:=by
 rw[<-Q9 hi k hk];exact ZX _ _ qBo hz
def agR(h:Laid w)(s:ByteArray)(i:Nat)(hi:i<s.size)(hs:s.size<=1000):
 Calls ja 116 #[.string s,.int .i64 (i:Int)] w (eP (lT s i) w):=by
 have B0:=Bx.new w zZ 141;have HB:=(Below.refl w.heap.size w).alloc (Nat.le_refl _)<|.cells zZ 141;have H:=h.af HB;have hi1:(i:Int)<=(s.size:Int):=ae;have g0:=H.signs 0 ae;have g1:=H.signs 1 ae;have g2:=H.signs 2 ae;have g3:=H.signs 3 ae;have g4:=H.signs 4 ae;have g5:=H.signs 5 ae;have g6:=H.signs 6 ae;have g7:=H.signs 7 ae;have g8:=H.signs 8 ae;have g9:=H.signs 9 ae;have g10:=H.signs 10 ae;have g11:=H.signs 11 ae;have g12:=H.signs 12 ae;clear h H;go_enter func116,ntmps116
 go_wp2
 go_loop[8] (λv=>∃j:Nat,j<=13/\v=.int .i64 (j:Int)/\Hid (∀m,m<j->mi s i m=false)) (λv=>13-(intOf v).toNat)
 case atStart=>exact⟨0,ae,rfl,λi h=>ae⟩
 case round=>
  obtain⟨j,hj,rfl,nU⟩:=hrel;by_cases bA:j<13
  .have hix:=afj cS bA;have hd:(j:Int)<13:=ae;have hz:=ZW bA;obtain⟨n,hn⟩:∃n,n=(cS j).size:=⟨_,rfl⟩;rw[<-hn]at hz
   cases he:mi s i j with
   |true=>
    have ht:=ai<|ado bA nU he;have hx:=ZV hi bA he;rw[<-hn]at hx ht;have hle:=hx.1;have hxe:=ai hx.2;have CU:((cS j).size:Int)=(n:Int):=by rw[hn]
    have ho:(i:Int)+(n:Int)<=1000:=ae;clear hx hn;go_wp2_with(first|(go_at_call 147;refine(Dn s i j hi hs bA ae).mono ?_;rintro e w'⟨rfl,rfl⟩)|(go_at_call 111;refine(Dm s i (i+n) _ ae hle hs).mono ?_;rintro e w1⟨rfl,hb⟩;have B1:=ai<|B0.below hb;have eH:=ai<|HB.trans<|hb.mono ag;have⟨c1,f1,y1⟩:=uh B1;clear hb));have BF:=B1.nD rfl (.int .i64 (i:Int)) (.int .i64<|(i:Int)+n) (.string<|cS j) (.string<|s.extract i<|i+n);obtain⟨cF,fF,zF⟩:=BF;rw[uh ht];refine bodyPost_ret (v:=dC<|Pu.gV s i 5<|i+n) ?_ rfl ⟨eH.nD (ji _) _ _ _ _,j8 ⟨by simp[Pu.gV],rfl⟩⟩;have hk:aq (Pu.gV s i 5<|i+n)=cS j:=uh hxe;simp only[dC,hk];simp[results,Tryz.results116,go_sem,cF,Pu.gV]
   |false=>
    have W6:Hid (∀m,m<j+1->mi s i m=false):=λm hm=>by
     by_cases e:m=j
     .subst e;exact he
     .exact nU m ae
    go_wp2_with(go_at_call 147;refine(Dn s i j hi hs bA ae).mono ?_;rintro e w'⟨rfl,rfl⟩);exact Q7
  .have ht:=ai<|agO (s:=s) (i:=i)<|λm hm=>nU m ae;go_wp2_with(go_at_call 146;refine(mK _ _).mono ?_;rintro e w1⟨rfl,hb⟩;have eH:=ai<|HB.trans<|hb.mono ag;clear hb);rw[uh ht];exact⟨rfl,eH,j7 ⟨rfl,rfl⟩⟩
def aE(s:ByteArray)i:=if Pu.aJ s cL i<s.size then Pu.cX s (Pu.aJ s cL i)else Pu.eY s
def Ov(s:ByteArray)p:∀n i,s.size-i=n->Pu.aJ s p i<s.size->p (Pu.at_ s<|Pu.aJ s p i)=false:=by
 intro n
 induction n with
 |zero=>intro i h hl;rw[Pu.mI ae]at hl;omega|succ n ih=>
  intro i h hl
  cases hp:p (Pu.at_ s i)with
  |true=>rw[Pu.eQ ae hp]at hl⊢;exact ih (i+1) ae hl|false=>rw[Pu.o6 ae hp];exact hp
def UZ(s:ByteArray):∀n i,s.size-i=n->Pu.bH s i=Pu.bH s (Pu.aJ s cL i):=by
 intro n
 induction n with
 |zero=>intro i h;rw[Pu.mI ae]|succ n ih=>
  intro i h
  cases hp:cL (Pu.at_ s i)with
  |true=>rw[Pu.eQ ae hp,Pu.Ai ae hp];exact ih (i+1) ae|false=>rw[Pu.o6 ae hp]
def mG(s:ByteArray)i(hi:i<=s.size):Pu.bH s i=if(aE s i).kind=7 then[Pu.eY s]else aE s i::Pu.bH s (aE s i).to:=by
 rw[UZ s _ i rfl];unfold aE;by_cases h:Pu.aJ s cL i<s.size
 .rw[if_pos h,if_neg,Pu.JW h<|Ov s cL _ i rfl h];unfold Pu.cX Pu.gV;repeat' split
  all_goals simp
 .rw[if_neg h,if_pos<|show(Pu.eY s).kind=7 from rfl,Pu.JV ae]
def eP.ok{t:Pu.Tok}(h:eP t w e w')(hk:t.kind≠6):e=.returned (.agg #[.int .i64 (t.al:Int),.int .i64 (t.to:Int),.string<|aq t,.string t.text])/\Below w.heap.size w w':=by
 obtain⟨hb,⟨_,he⟩|⟨hn,_⟩⟩:=h
 .exact⟨he,hb⟩
 .exact absurd hn hk
def eP.bad{t:Pu.Tok}(h:eP t w e w')(hk:t.kind=6):e=.panicked [{v:=.iface 136<|.agg #[.int .i64 2,.int .i64 (t.al:Int),.int .i64 (t.to:Int)],recovered:=false}]/\Below w.heap.size w w':=by grind[eP]
def U0(hi:i<s.size)(hd:Pu.dB (Pu.at_ s i)=true):Pu.cX s i=(if Pu.aJ s Pu.dB i-i<=9 then Pu.gV s i 4 (Pu.aJ s Pu.dB i)else Pu.gV s i 6 (Pu.aJ s Pu.dB i)):=by
 have UI:=hd;simp[Pu.dB]at UI;rw[Pu.cX];rw[if_neg (by simp[Pu.gn];omega),if_neg (by simp[Pu.BT];omega),if_neg (by intro q;omega),if_pos hd,Pu.eQ hi hd]
def U6(hd:Pu.at_ s i=39):Pu.cX s i=kO s i:=by
 rw[Pu.cX,kO];rw[hd,if_neg aB,if_neg aB];by_cases hl:Pu.gn (Pu.at_ s<|i+1)=true
 .grind
 .rw[if_neg<|λq=>hl q.2,if_neg hl,if_neg aB,if_neg (by intro q;exact absurd q.1 aB),if_neg aB]
def U7(h1:Pu.gn (Pu.at_ s i)=false)(h2:Pu.BT (Pu.at_ s i)=false)(h3:Pu.dB (Pu.at_ s i)=false)(h4:Pu.at_ s i≠39):Pu.cX s i=lT s i:=by
 rw[Pu.cX,lT];rw[if_neg<|by simp[h1],if_neg<|by simp[h2],if_neg<|λq=>h4 q.1,if_neg<|by simp[h3]]
def ZY(h1:Pu.gn (Pu.at_ s i)=false)(h2:Pu.BT (Pu.at_ s i)=true):Pu.cX s i=Pu.gV s i 2 (Pu.aJ s Pu.aX i):=by
 rw[Pu.cX];rw[if_neg<|by simp[h1],if_pos h2]
def U8(h1:Pu.gn (Pu.at_ s i)=true):Pu.cX s i=(if Pu.fk (s.extract i<|Pu.aJ s Pu.aX i)=true then Pu.gV s i 5 (Pu.aJ s Pu.aX i)else Pu.gV s i 1 (Pu.aJ s Pu.aX i)):=by
 rw[Pu.cX];rw[if_pos h1]
def Js(h:Laid w)(s:ByteArray)i(hi:i<=s.size)(hs:s.size<=1000):
 Calls ja 65 #[.string s,.int .i64 (i:Int)] w (eP (aE s i) w):=by
 have B0:=Bx.new w zZ 141;have HB:=(jo w.heap.size w).alloc (ji _)<|.cells zZ 141;have H:=h.af HB;clear h;have E:=λW=>lE (j8 ⟨rfl,rfl⟩) s i W hs hi;have hle:=Pu.gD (s:=s) cL hi;have It:=Pu.fy s cL i;rw[aE];generalize Pu.aJ s cL i=j at E hle It⊢;by_cases hj:j<s.size
 .have he:((j:Int)==(s.size:Int))=false:=bF;rw[if_pos hj];have MN:=Pu.mF hj;have go:∀(T:Pu.Tok)(fn:Nat),(fn=109/\Pu.gn s[j].toNat=true\/Pu.gn s[j].toNat=false/\Pu.BT s[j].toNat=false/\(fn=114/\Pu.dB s[j].toNat=true\/Pu.dB s[j].toNat=false/\(fn=115/\((s[j].toNat:Int)==39)=true\/fn=116/\((s[j].toNat:Int)==39)=false)))->(∀W,Laid W->Calls ja fn #[.string s,.int .i64 (j:Int)] W (eP T W))->Calls ja 65 #[.string s,.int .i64 (i:Int)] w (eP T w):=by
   intro T fn hq C;clear MN;by_cases hk:T.kind=6
   .obtain⟨rfl,h1⟩|⟨h1,h2,⟨rfl,h3⟩|⟨h3,⟨rfl,h4⟩|⟨rfl,h4⟩⟩⟩:=hq;all_goals
     go_enter func65,ntmps65;go_wp2_with(first|(go_at_call 106;with_reducible refine(E _).mono ?_;rintro e w'⟨rfl,rfl⟩)|(go_at_call 108;refine(iF _ _).mono ?_;rintro e w'⟨rfl,rfl⟩)|(go_at_call 110;refine(tH _ _).mono ?_;rintro e w'⟨rfl,rfl⟩)|(go_at_call 113;refine(mJ _ _).mono ?_;rintro e w'⟨rfl,rfl⟩)|((first|go_at_call 109|go_at_call 114|go_at_call 115|go_at_call 116);refine(C _ H).mono ?_;intro e w1 hp;obtain⟨rfl,hb⟩:=hp.bad hk;have eH:=ai<|HB.trans<|hb.mono ag;clear hb));exact⟨rfl,eH,Or.inr ⟨hk,rfl⟩⟩
   .obtain⟨rfl,h1⟩|⟨h1,h2,⟨rfl,h3⟩|⟨h3,⟨rfl,h4⟩|⟨rfl,h4⟩⟩⟩:=hq;all_goals
     go_enter func65,ntmps65;go_wp2_with(first|(go_at_call 106;with_reducible refine(E _).mono ?_;rintro e w'⟨rfl,rfl⟩)|(go_at_call 108;refine(iF _ _).mono ?_;rintro e w'⟨rfl,rfl⟩)|(go_at_call 110;refine(tH _ _).mono ?_;rintro e w'⟨rfl,rfl⟩)|(go_at_call 113;refine(mJ _ _).mono ?_;rintro e w'⟨rfl,rfl⟩)|((first|go_at_call 109|go_at_call 114|go_at_call 115|go_at_call 116);refine(C _ H).mono ?_;intro e w1 hp;obtain⟨rfl,hb⟩:=hp.ok hk;have B1:=ai<|B0.below hb;have eH:=ai<|HB.trans<|hb.mono ag;have⟨c1,f1,y1⟩:=uh B1;clear hb));have BF:=B1.nD rfl (.int .i64 (T.al:Int)) (.int .i64 (T.to:Int)) (.string<|aq T) (.string T.text);obtain⟨cF,fF,zF⟩:=BF;exact bodyPost_ret (v:=dC T) (by simp[results,Tryz.results65,go_sem,cF,dC]) rfl ⟨eH.nD (Nat.le_refl _) _ _ _ _,Or.inl ⟨hk,rfl⟩⟩
  cases h1:Pu.gn s[j].toNat
  case true=>exact go _ _ (j8 ⟨rfl,h1⟩) λW hW=>by rw[U8 (by rw[MN];exact h1)];exact(JY hW s j hj hs).mono λe w' q=>⟨q.2,j8 ⟨by split<;>simp[Pu.gV],q.1⟩⟩
  case false=>
  have a1:Pu.gn (Pu.at_ s j)=false:=by rw[MN];exact h1
  cases h2:Pu.BT s[j].toNat
  case true=>
   have ajj:=Pu.gD (s:=s) Pu.aX (i:=j) ae;have ajk:=Pu.fy s Pu.aX j;rw[ZY a1 (by rw[MN];exact h2)];clear MN a1;go_enter func65,ntmps65;go_wp2_with(first|(go_at_call 106;with_reducible refine(E _).mono ?_;rintro e w'⟨rfl,rfl⟩)|(go_at_call 106;with_reducible refine(lE (Or.inr<|Or.inl ⟨rfl,rfl⟩) s j _ hs ae).mono ?_;rintro e w'⟨rfl,rfl⟩)|(go_at_call 106;with_reducible refine(E _).mono ?_;rintro e w'⟨rfl,rfl⟩)|(go_at_call 108;refine(iF _ _).mono ?_;rintro e w'⟨rfl,rfl⟩)|(go_at_call 110;refine(tH _ _).mono ?_;rintro e w'⟨rfl,rfl⟩)|(go_at_call 113;refine(mJ _ _).mono ?_;rintro e w'⟨rfl,rfl⟩)|(go_at_call 111;refine(Dm s j _ _ ajk ajj hs).mono ?_;rintro e w1⟨rfl,hb⟩;have B1:=ai<|B0.below hb;have eH:=ai<|HB.trans<|hb.mono ag;have⟨c1,f1,y1⟩:=uh B1;clear hb));have BF:=B1.nD rfl (.int .i64 (j:Int)) (.int .i64 ((Pu.aJ s Pu.aX j:Nat):Int)) (.string ⟨#[117,112,32,110,97,109,101]⟩) (.string<|s.extract j<|Pu.aJ s Pu.aX j);obtain⟨cF,fF,zF⟩:=BF;exact bodyPost_ret (v:=dC<|Pu.gV s j 2<|Pu.aJ s Pu.aX j) (by simp[results,Tryz.results65,go_sem,cF,dC,Pu.gV,aq]) rfl ⟨eH.nD (Nat.le_refl _) _ _ _ _,Or.inl ⟨by simp[Pu.gV],rfl⟩⟩
  case false=>
  have a2:Pu.BT (Pu.at_ s j)=false:=by rw[MN];exact h2
  cases h3:Pu.dB s[j].toNat
  case true=>exact go _ _ (j7 ⟨h1,h2,j8 ⟨rfl,h3⟩⟩) λW hW=>by rw[U0 hj (by rw[MN];exact h3)];exact ZU s j hj hs
  case false=>
  by_cases h4:s[j].toNat=39
  .exact go _ _ (j7 ⟨h1,h2,j7 ⟨h3,j8 ⟨rfl,bF⟩⟩⟩) λW hW=>by rw[U6 (by rw[MN];exact h4)];exact ajh hW s j hj hs
  .exact go _ _ (j7 ⟨h1,h2,j7 ⟨h3,j7 ⟨rfl,bF⟩⟩⟩) λW hW=>by rw[U7 a1 a2 (by rw[MN];exact h3) (by rw[MN];exact h4)];exact agR hW s j hj hs
 .have he:((j:Int)==(s.size:Int))=true:=bF;have hjs:j=s.size:=ae;rw[if_neg hj];obtain⟨c1,f1,y1⟩:=B0;go_enter func65,ntmps65;go_wp2_with(first|(go_at_call 106;with_reducible refine(E _).mono ?_;rintro e w'⟨rfl,rfl⟩)|(go_at_call 108;refine(iF _ _).mono ?_;rintro e w'⟨rfl,rfl⟩)|(go_at_call 110;refine(tH _ _).mono ?_;rintro e w'⟨rfl,rfl⟩)|(go_at_call 113;refine(mJ _ _).mono ?_;rintro e w'⟨rfl,rfl⟩));have BF:=Bx.new w #[.int .i64 (j:Int),.int .i64 (j:Int),.string ⟨#[116,104,101,32,101,110,100]⟩,.string ⟨#[]⟩] 141;obtain⟨cF,fF,zF⟩:=BF;subst hjs;exact bodyPost_ret (v:=dC<|Pu.eY s) (by simp[results,Tryz.results65,go_sem,cF,dC,Pu.eY,aq]) rfl ⟨(Below.refl w.heap.size w).alloc (Nat.le_refl _) _,Or.inl ⟨qBr,rfl⟩⟩
section
variable {W w3:World} {row:Option Nat} (hg:W.grownBy w3 row)
include hg
def Bx.grown(h:Bx W b C)(hr:∀j,row=some j->j≠b):Bx w3 b C:=h.same hg.size<|hg.block b h.z<|λe=>hr b e.symm rfl
def Ke.grown(h:Ke rb a W)(hr:∀j,row=some j->a.heap.size<=j):Ke rb a w3:=
 ⟨hg.os.trans h.os,hg.tape.trans h.tape,hg.output.trans h.output,jl h.size hg.size,λk hk hn=>(hg.block k (jj hk h.size) (λe=>by have:=hr k e.symm;omega)).trans<|h.block k hk hn⟩
end
def tF{base}{e}{size}{v}{n}{xs}(h:w.ownsRow base e size v n xs)(hn:0<n):∃q c,v=.slice (some ⟨q,0,none⟩) n c:=by
 obtain⟨_,h2⟩:=h;obtain⟨_,h0⟩|⟨q,c,_,hv,_⟩:=h2
 .omega
 .exact⟨q,c,hv⟩
def GI{a b:ByteArray}(h:a.toList=b.toList):a=b:=by
 rw[jy,jy]at h;exact jh<|Array.toList_inj.1 h
abbrev Ky:=Nat×List UInt8
def iL(t:Pu.Tok):Ky:=(t.kind,t.text.toList)
abbrev qR:Ky:=(5,[40])
abbrev hH:Ky:=(5,[41])
abbrev Nw:Ky:=(5,[44])
abbrev zJ:Ky:=(5,[45,62])
mutual
def er:Nd->Nd
 |.mk k s _ L _ _ _=>.mk k s 0 (erL L) 0 0 0
def erL:List Nd->List Nd
 |[]=>[]|x::l=>er x::erL l
end
def jD(T:List Pu.Tok)(k:Nat)(p:List Ky):=∀i(h:i<p.length),iL (tk T<|k+i)=p[i]
def jD.left{T:List Pu.Tok}{p q}(h:jD T k (p++q)):jD T k p:=λi hi=>by
 have:=h i bF
 rwa[List.getElem_append_left hi]at this
def jD.right{T:List Pu.Tok}{p q}(h:jD T k (p++q)):jD T (k+p.length) q:=λi hi=>by
 have:=h (p.length+i) bF;rw[List.getElem_append_right ae]at this;simpa[Nat.add_assoc]using this
def jD.hd{T:List Pu.Tok}{x}{q}(h:jD T k (x::q)):iL (tk T k)=x:=h 0 ag
def jD.tl{T:List Pu.Tok}{x}{q}(h:jD T k (x::q)):jD T (k+1) q:=λi hi=>by
 have:=h (i+1) bF;simpa[Nat.add_assoc,Nat.add_comm 1 i]using this
def Qr{t}{l:List UInt8}:aU t ⟨l.toArray⟩=(iL t==(5,l)):=by
 rw[Fk];rw[iL];rfl
def IR{T:List Pu.Tok}mk(h:iL (tk T k)=hH):oY T mk k=.ok (mk<|k+1,k+1):=by
 rw[oY,aK,bz];rw[Qr,h];simp
end
def NK:(Rows.renamedRow.wf<|OpenSpec.ofChange Rows.renamedSpec)=true:=qkr
def NN:(Tryz.f3.params.all (Tryz.prog.readableRec ·))=true:=qkr
def NO:(namedTie ja Rows.renamedRow.named Rows.renamedSpec.vars)=true:=qkr
def NP:((Rows.renamedRow.stops==[]))=true:=qkr
def NR:((Rows.renamedRow.knobs==[]))=true:=qkr
def NS:((Rows.renamedRow.inPlace==Tryz.prog.inPlace 3))=true:=qkr
def IY:((Rows.renamedRow.unfollowed==Tryz.prog.unfollowed 3))=true:=qkr
def IZ:((Rows.renamedRow.recurses==Tryz.prog.recurses 3))=true:=qkr
def I0:((Rows.renamedRow.named==Tryz.prog.varsNamed 3))=true:=qkr
def I1:((Rows.renamedRow.maps==(Tryz.f3.params.toList++Rows.renamedSpec.plain.varTypes ja).any (Tryz.prog.mapsRec ·)))=true:=qkr
def I4:((Rows.renamedRow.ifaces==(Tryz.f3.params.toList++Rows.renamedSpec.plain.varTypes ja).any (Tryz.prog.ifacesRec ·)))=true:=qkr
def I6:((Rows.renamedRow.mapsOut==Tryz.prog.mapsAmong Tryz.f3.resultTypes.toList))=true:=qkr
def I7:((Rows.renamedRow.loops==(Tryz.f3.params.toList++Rows.renamedSpec.plain.varTypes ja).any (Tryz.prog.loopsFrom ·)))=true:=qkr
def I8:((Rows.renamedRow.wideKeys==(Tryz.f3.params.toList++Rows.renamedSpec.plain.varTypes ja++Tryz.f3.resultTypes.toList).any (Tryz.prog.wideKeysFrom ·)))=true:=qkr
def I9:(Rows.renamedSpec.vars.all (Tryz.prog.varReadable ·))=true:=qkr
def I_:(Tryz.f3.resultTypes.all<|λt=>Tryz.prog.readableRec t&&decide (t<Tryz.prog.types.size))=true:=qkr
def I':((Rows.renamedRow.ifacesOut==Tryz.f3.resultTypes.toList.any (Tryz.prog.ifacesRec ·)))=true:=qkr
def Ja:((Rows.renamedRow.loopsOut==Tryz.f3.resultTypes.toList.any (Tryz.prog.loopsFrom ·)))=true:=qkr
def Jb:((Rows.renamedRow.plainKeys==Tryz.prog.plainKeys))=true:=qkr
def Jc:(Rows.renamedRow.shortTexts.isNone)=true:=qkr
def Jd:((Rows.renamedRow.lifted==Tryz.prog.liftsFinal))=true:=qkr
def Je:((Tryz.prog.make==some Rows.renamedRow.make))=true:=qkr
def Jf:((Rows.renamedRow.pinned==Rows.renamedRow.pinnedBy))=true:=qkr
def Jg:((Rows.renamedRow.veiled==(Tryz.f3.params.toList++Rows.renamedSpec.plain.varTypes ja++Tryz.f3.resultTypes.toList).any (Tryz.prog.veiledRec ·)))=true:=qkr
def Jh:(Rows.renamedRow.veiledFits ja Tryz.f3.params.toList<|Tryz.f3.params.toList++Rows.renamedSpec.plain.varTypes ja++Tryz.f3.resultTypes.toList)=true:=qkr
def Ji:Rows.renamedRow.wfByText (OpenSpec.ofChange Rows.renamedSpec)=true:=qkr
def ER:false=Rows.renamedRow.goesBy Tryz.pinned.checked.prog:=qkr
end Go.Proofs.YtnldmeakhapdhaaGreatDoor

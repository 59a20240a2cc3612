import Derived.BigQuiet
import Derived.Deep.LoopGhost
import Derived.Deep.RegionHeld3
import Derived.Test.YtopmodaakdnliaaGreatDoorProg
import Derived.WalkLawsBesides
import Derived.WalkSpells
set_option linter.all false
set_option maxRecDepth 100000
set_option maxHeartbeats 8000000
namespace Go.Proofs.YtopmodaakdnliaaGreatDoor
open _root_.ByteArray renaming size_extract->ja,extract_extract->jc,data_extract->jd,ext->jf
open _root_.Nat renaming le_refl->jh,lt_of_lt_of_le->ji,ble->jj,le_trans->jk,add_zero->jl
open Go.Proofs.Tryz renaming prog->jm
open Go.RowKit.Below renaming refl->jo,heap_setCell->jq
open _root_.List renaming getD_eq_getElem?_getD->jt,getElem?_eq_getElem->ju,any_eq_false->jv
open Bool renaming eq_iff_iff->jx,and_eq_true->jy
open Go.ByteArray renaming toList_eq->jz
open Go.Ending renaming returned->j3
open Or renaming inr->j5,inl->j6
open Go Go.RowKit Proofs.Tryz
variable {C:Array Value} {s:ByteArray} {e:Ending} {b cap g i k rb:Nat} {p:Nat->Bool} {α:Type} {a w w':World}
namespace Pu
def at_(s:ByteArray)i:=if h:i<s.size then s[i].toNat else 256
def m9(h:i<s.size):at_ s i=s[i].toNat:=by simp[at_,h]
def ab7(h:s.size<=i):at_ s i=256:=by simp[at_];omega
def gI c:=jj 97 c&&jj c 122
def Bv c:=jj 65 c&&jj c 90
def dB c:=jj 48 c&&jj c 57
def aV c:=gI c||Bv c||dB c
def Le(s:ByteArray)(p:Nat->Bool):Nat->Nat->Nat
 |0,i=>i|f+1,i=>if p (at_ s i)=true then Le s p f (i+1)else i
def aH s p i:=Le s p (s.size-i) i
def fO(h:i<s.size)(hp:p (at_ s i)=true):aH s p i=aH s p (i+1):=by
 unfold aH;obtain⟨k,hk⟩:∃k,s.size-i=k+1:=⟨s.size-i-1,by omega⟩;rw[hk,Le,if_pos hp,show s.size-(i+1)=k by omega]
def ox(h:i<s.size)(hp:p (at_ s i)=false):aH s p i=i:=by
 rw[aH];obtain⟨k,hk⟩:∃k,s.size-i=k+1:=⟨s.size-i-1,by omega⟩;rw[hk,Le,if_neg<|by simp[hp]]
def jD(h:s.size<=i):aH s p i=i:=by
 rw[aH];rw[show s.size-i=0 by omega];rfl
def Tu s p f i:i<=Le s p f i/\Le s p f i<=i+f:=by
 induction f generalizing i with
 |zero=>simp[Le]
 |succ f ih=>unfold Le;split
             .grind
             .omega
def gd s p i:i<=aH s p i:=(Tu _ _ _ _).1
def gq p(h:i<=s.size):aH s p i<=s.size:=by
 have:=(Tu s p (s.size-i) i).2;rw[aH];omega
def words:List ByteArray:=[⟨#[116,121,112,101]⟩,⟨#[108,101,116]⟩,⟨#[114,101,99]⟩,⟨#[105,110]⟩,⟨#[102,117,110]⟩,⟨#[105,102]⟩,⟨#[116,104,101,110]⟩,⟨#[101,108,115,101]⟩,⟨#[109,97,116,99,104]⟩,⟨#[119,105,116,104]⟩,⟨#[101,110,100]⟩,⟨#[116,114,117,101]⟩,⟨#[102,97,108,115,101]⟩]
def j_ k:=words.getD k ⟨#[]⟩
def fN(s:ByteArray):Bool:=words.any λw=>w.toList==s.toList
def ab8(hk:k<13)(h:((j_ k).toList==s.toList)=true):fN s=true:=by
 rw[fN];rw[List.any_eq_true];refine⟨j_ k,?_,h⟩;rw[j_];rw[jt,ju<|by simpa[words]using hk];exact List.getElem_mem _
def PL(h:∀j,j<13->((j_ j).toList==s.toList)=false):fN s=false:=by
 rw[fN];rw[jv];intro x hx;obtain⟨i,hi,rfl⟩:=List.getElem_of_mem hx;have:=h i (by simpa[words]using hi);rw[j_]at this;rw[jt,ju hi]at this;simpa using this
structure Tok where
 kind:Nat
 text:ByteArray
 aD:Nat
 t9:Nat
def wK c:=[40,41,44,59,58,61,124,43,45,42,60,95].any λd=>d==c
def gN(s:ByteArray)(i:Nat)(k t9:Nat):Tok:=⟨k,s.extract i t9,i,t9⟩
def cT s i:=
 if gI (at_ s i)=true then
  if fN (s.extract i<|aH s aV i)=true then gN s i 5 (aH s aV i)else gN s i 1 (aH s aV i)
 else if Bv (at_ s i)=true then gN s i 2 (aH s aV i)
 else if at_ s i=39/\gI (at_ s<|i+1)=true then
  if fN (s.extract (i+1)<|aH s aV<|i+1)=true then gN s i 6 (aH s aV<|i+1)else gN s i 3 (aH s aV<|i+1)
 else if dB (at_ s i)=true then
  if aH s dB (i+1)-i<=9 then gN s i 4 (aH s dB<|i+1)else gN s i 6 (aH s dB<|i+1)
 else if at_ s i=45/\at_ s (i+1)=62 then gN s i 5 (i+2)
 else if wK (at_ s i)=true then gN s i 5 (i+1)else gN s i 6 (i+1)
end Pu
def ab9 c:Pu.gI c=decide (97<=(c:Int)/\(c:Int)<=122):=by
 rw[jx];simp[Pu.gI];omega
def afa c:Pu.Bv c=decide (65<=(c:Int)/\(c:Int)<=90):=by
 rw[jx];simp[Pu.Bv];omega
def ab_ c:Pu.dB c=decide (48<=(c:Int)/\(c:Int)<=57):=by
 rw[jx];simp[Pu.dB];omega
def ai{p:Prop}(h:p):Hid p:=h
def uh{p:Prop}(h:Hid p):p:=h
def qkr{p:Prop}(h:p:=by kernel_rfl):p:=h
def ae{p:Prop}(h:p:=by omega):p:=h
def ah{p:Prop}(h:p:=by simp):p:=h
def aA{p:Prop}(h:p:=by decide):p:=h
def bi{p:Prop}(h:p:=by simp;omega):p:=h
def qeo{p:Prop}(h:p:=by rw[en];omega):p:=h
def NR{p:Prop}(h:p:=by rw[maxLen];omega):p:=h
def xB{p:Prop}(h:p:=by simpa using h):p:=h
def qas{p:Prop}(h:p:=by assumption):p:=h
def qbr{p:Prop}(h:p:=by exact br _):p:=h
def qAa{p:Prop}(h:p:=by simp only[nn,cV]at hk;omega):p:=h
def qAb{p:Prop}(h:p:=by rw[uh en];omega):p:=h
def qAc{p:Prop}(h:p:=by rw[als hc];decide):p:=h
def qAd{p:Prop}(h:p:=by simp[nn,cV];omega):p:=h
def eh{p:Prop}(h:p:=by cases q):p:=h
def yG{p:Prop}(h:p:=by simp[World.setCell]):p:=h
def qAg{p:Prop}(h:p:=by rw[o.size];exact br _):p:=h
def d_{p:Prop}(h:p:=by go_num):p:=h
def BI{p:Prop}(h:p:=by intro x hx c;simp at hx;subst hx;intro q;cases q):p:=h
def qAj{p:Prop}(h:p:=by rw[bS];exact Nat.le_trans HE5.2<|ank hd):p:=h
def qAk{p:Prop}(h:p:=by simp at hi;omega):p:=h
def xA{p:Prop}(h:p:=by simp at h):p:=h
def qAm{p:Prop}(h:p:=by rw[show dE.toList=[40]from toList_mk [40]];decide):p:=h
def qAn{p:Prop}(h:p:=by intro u hu;simp at hu;subst hu;rfl):p:=h
def qAo{p:Prop}(h:p:=by rw[bS];exact Nat.le_trans HE6.2<|ank hd):p:=h
def qAp{p:Prop}(h:p:=by simp[ByteArray.toList_eq]):p:=h
def qAq{p:Prop}(h:p:=by simp[Pu.fN,Pu.words,ByteArray.toList_eq]):p:=h
def qAr{p:Prop}(h:p:=by obtain⟨L,h1,_⟩:=h;exact h1.lt):p:=h
def qAs{p:Prop}(h:p:=by obtain⟨L,h1,h2⟩:=h;exact⟨L,h1.same hb,h2⟩):p:=h
def QK{p:Prop}(h:p:=by simp[Un.dZ]):p:=h
def qAu{p:Prop}(h:p:=by show w.heap.size<=b;omega):p:=h
def qAv{p:Prop}(h:p:=by have:=rA x;omega):p:=h
def qAw{p:Prop}(h:p:=by rw[q]at r;cases r):p:=h
def qAx{p:Prop}(h:p:=by rw[aL];omega):p:=h
def qAy{p:Prop}(h:p:=by have:wr.heap.size<=b:=p.1;omega):p:=h
def qAz{p:Prop}(h:p:=by simp[World.setCell];exact Z1):p:=h
def qBb{p:Prop}(h:p:=by simp[go_sem]):p:=h
def Mn{p:Prop}(h:p:=by grind):p:=h
def qBe{p:Prop}(h:p:=by rw[ByteArray.toList_eq];decide):p:=h
def qBf{p:Prop}(h:p:=by simp[q]):p:=h
def qBg{p:Prop}(h:p:=by simp[bd]at h):p:=h
def qBh{p:Prop}(h:p:=by rw[uh hC];exact aI):p:=h
def qBi{p:Prop}(h:p:=by simp[nn,cV]):p:=h
def qBj{p:Prop}(h:p:=by simp only[m_];exact .ret ⟨ρ,h.refl⟩):p:=h
def qBk{p:Prop}(h:p:=by rw[gn hk];rfl):p:=h
def yT{p:Prop}(h:p:=by simpa using hi):p:=h
def qBm{p:Prop}(h:p:=by simp[Array.getD_eq_getD_getElem?,hu]):p:=h
def qBn{p:Prop}(h:p:=by rw[als hc.2];decide):p:=h
def qBo{p:Prop}(h:p:=by rw[ByteArray.size_extract];omega):p:=h
def Dq{p:Prop}(h:p:=by cases h):p:=h
def qBq{p:Prop}(h:p:=by simp[e]):p:=h
def qBr{p:Prop}(h:p:=by simp[Pu.fB]):p:=h
def qBs{p:Prop}(h:p:=by subst e;simp at aI):p:=h
def qBt{p:Prop}(h:p:=by have:=hr4 k e;omega):p:=h
def qBu{p:Prop}(h:p:=by simp[World.cell?,h1]):p:=h
def qBv{p:Prop}(h:p:=by have:w0.heap.size<=i:=p;omega):p:=h
def qBw{p:Prop}(h:p:=by have:=H.cn;omega):p:=h
def qBx{p:Prop}(h:p:=by simpa[aG]using hn):p:=h
def qne{p:Prop}(h:p:=by intro b p;try dsimp only at p⊢;omega):p:=h
@[simp] theorem nq0(x : Bool)(w : World) : (Op.unary .not<|.bool x).run jm w = .ok (.bool<|!x) w := rfl
@[simp] theorem nq1(f : Fn)(a b : Array Value)(w : World) : (Instr.makeFunc f a b).run jm w = .ok (.func f a b) w := rfl
@[simp] abbrev Nv(n : Nat) : Value := .int .i64 (n : Int)
@[simp] abbrev Iv(n : Int) : Value := .int .i64 n
@[simp] abbrev Pv(b : Nat) : Value := .pointer<|some ⟨b, 0, none⟩
@[simp] abbrev Mv(b : Nat) : Value := .map<|some b
abbrev Bq(a b : World) := Below a.heap.size a b
abbrev Cq := Calls jm
@[simp] abbrev Sv(s : ByteArray) : Value := .string s
@[simp] abbrev Fv(t : TypeId)(v : Value) : Value := .iface t v
@[simp] abbrev Lv(a : Option Addr)(l c : Nat) : Value := .slice a l c
@[simp] abbrev Av(c : Array Value) : Value := .agg c
@[simp] abbrev Zv : Value := .nilIface
@[simp] abbrev Cv(c : Array Value)(t : TypeId)(f : Nat × Nat := (0, 0)) : Obj := .cells c t f
@[simp] abbrev Rv(v : Value) : Ending := .returned v
def bw(o:Obj):Below w.heap.size w (w.alloc o):=(jo _ _).alloc (jh _) o
def br(n:Nat):n<=n:=jh n
abbrev BA:=ByteArray
def dr{a b:List α}:(a++b).length=a.length+b.length:=List.length_append
def de{a:α}{b:List α}:(a::b).length=b.length+1:=List.length_cons
def eF:([]:List α).length=0:=List.length_nil
def jA{a b}(h:a=b):j3 (.bool a)=.returned (.bool b):=congrArg (λx=>j3<|.bool x) h
def aca{k}{a b}(h:a=b):j3 (.int k a)=.returned (.int k b):=congrArg (λx=>j3<|.int k x) h
def step_end{j}{b}(aZ:j<s.size)(he:Hid (Pu.aH s p i=Pu.aH s p j))(hb:p (Pu.at_ s j)=b):
 Hid (Pu.aH s p i=if b=true then Pu.aH s p (j+1)else j):=by
 cases b
 .show _=_;rw[he.out,Pu.ox aZ hb];rfl
 .show _=_;rw[he.out,Pu.fO aZ hb];rfl
namespace Pu
def Lf(h:i<s.size)(hp:p (at_ s i)=true):i+1<=aH s p i:=by
 rw[fO h hp];exact gd _ _ _
def agu(h:at_ s i<256):i<s.size:=by
 by_cases e:i<s.size
 .exact e
 .rw[ab7 ae]at h;omega
def Dn s i:(cT s i).aD=i:=by
 rw[cT];repeat(first|rfl|split)
def lQ s i(h:i<s.size):i<(cT s i).t9/\(cT s i).t9<=s.size:=by
 rw[cT];by_cases h1:gI (at_ s i)=true
 .have a:=Lf (p:=aV) h (by simp[aV,h1]);have b:=gq (s:=s) aV (i:=i) ae;rw[if_pos h1];split<;>exact⟨a,b⟩
 rw[if_neg h1];by_cases h2:Bv (at_ s i)=true
 .have a:=Lf (p:=aV) h (by simp[aV,h2]);have b:=gq (s:=s) aV (i:=i) ae;rw[if_pos h2];exact⟨a,b⟩
 rw[if_neg h2];by_cases h3:at_ s i=39/\gI (at_ s<|i+1)=true
 .have c:i+1<s.size:=agu (by have:=h3.2;simp[gI]at this;omega);have a:=gd s aV<|i+1;have b:=gq (s:=s) aV (i:=i+1) ae;rw[if_pos h3];split<;>exact⟨a,b⟩
 rw[if_neg h3];by_cases h4:dB (at_ s i)=true
 .have a:=gd s dB<|i+1;have b:=gq (s:=s) dB (i:=i+1) ae;rw[if_pos h4];split<;>exact⟨a,b⟩
 rw[if_neg h4];by_cases h5:at_ s i=45/\at_ s (i+1)=62
 .have c:i+1<s.size:=agu ae;rw[if_pos h5];exact⟨by show i<i+2;omega,by show i+2<=_;omega⟩
 rw[if_neg h5];split<;>exact⟨by show i<i+1;omega,by show i+1<=_;omega⟩
def cB c:=c==32||c==10
def fB(s:ByteArray):Tok:=⟨7,⟨#[]⟩,s.size,s.size⟩
def oN(s:ByteArray):Nat->Nat->List Tok
 |0,_=>[fB s]|f+1,i=>if i<s.size then(if cB (at_ s i)=true then oN s f (i+1)else cT s i::oN s f (cT s i).t9)else[fB s]
def PO s:∀f g i,s.size<=i+f->s.size<=i+g->oN s f i=oN s g i:=by
 intro f
 induction f with
 |zero=>
  intro g i h1 h2
  cases g with
  |zero=>rfl|succ g=>unfold oN;rw[if_neg ae]
 |succ f ih=>
  intro g i h1 h2
  cases g with
  |zero=>grind|succ g=>
   unfold oN;by_cases h:i<s.size
   .rw[if_pos h,if_pos h];have ht:=lQ s i h;rw[ih g (i+1) ae ae,ih g (cT s i).t9 ae ae]
   .grind
def bG s i:=oN s (s.size-i) i
def JD(h:s.size<=i):bG s i=[fB s]:=by
 rw[bG];rw[show s.size-i=0 by omega];rfl
def AO(h:i<s.size)(hb:cB (at_ s i)=true):bG s i=bG s (i+1):=by
 unfold bG;obtain⟨k,hk⟩:∃k,s.size-i=k+1:=⟨s.size-i-1,ae⟩;rw[hk,oN,if_pos h,if_pos hb,show s.size-(i+1)=k by omega]
def Ad(h:i<s.size)(hb:cB (at_ s i)=false):bG s i=cT s i::bG s (cT s i).t9:=by
 unfold bG;obtain⟨k,hk⟩:∃k,s.size-i=k+1:=⟨s.size-i-1,ae⟩;have ht:=lQ s i h;rw[hk,oN,if_pos h,if_neg<|by simp[hb],PO s k (s.size-(cT s i).t9) _ ae ae]
end Pu
structure Fl where
 kind:Nat
 aD:Nat
 t9:Nat
def Vo:Fl:=⟨0,0,0⟩
def fD(t:Pu.Tok):Fl:=if t.kind=6 then⟨2,t.aD,t.t9⟩else⟨3,t.aD,t.t9⟩
structure RS(w:World)(rb g cap:Nat)(T:List Pu.Tok)(k:Nat)(f:Fl):Prop where
 c0:w.cell? ⟨rb,0,none⟩=some (.slice (some ⟨g,0,none⟩) T.length cap)
 c1:w.cell? ⟨rb,1,none⟩=some (.int .i64 (k:Int))
 c2:w.cell? ⟨rb,2,none⟩=some (.int .i64 (f.kind:Int))
 c3:w.cell? ⟨rb,3,none⟩=some (.int .i64 (f.aD:Int))
 c4:w.cell? ⟨rb,4,none⟩=some (.int .i64 (f.t9:Int))
 fz:∀j,w.frozen? ⟨rb,j,none⟩=false
 tk:∀i(h:i<T.length),w.cell? ⟨g,i*4,none⟩=some (.int .i64 (T[i].kind:Int))/\w.cell? ⟨g,i*4+1,none⟩=some (.string T[i].text)/\w.cell? ⟨g,i*4+2,none⟩=some (.int .i64 (T[i].aD:Int))/\w.cell? ⟨g,i*4+3,none⟩=some (.int .i64 (T[i].t9:Int))
 hr:rb<w.heap.size
 hg:g<w.heap.size
 ne:g≠rb
 hk:k<T.length
 hT:T.length<=1001
 en:∀i(h:i<T.length),T[i].kind≠7->i+1<T.length
structure Ke rb(w w':World):Prop where
 os:w'.os=w.os
 tape:w'.tape=w.tape
 output:w'.output=w.output
 size:w.heap.size<=w'.heap.size
 block:∀k,k<w.heap.size->k≠rb->w'.heap[k]? =w.heap[k]?
def Ke.refl rb w:Ke rb w w:=⟨rfl,rfl,rfl,jh _,λ_ _ _=>rfl⟩
def Ke.of(h:Below w.heap.size w w'):Ke rb w w':=⟨h.os,h.tape,h.output,h.size,λk hk _=>h.block k hk⟩
def Ke.trans{rb}{a b c}(h:Ke rb a b)(k:Ke rb b c):Ke rb a c:=
 ⟨k.os.trans h.os,k.tape.trans h.tape,k.output.trans h.output,jk h.size k.size,λi hi hn=>(k.block i (ji hi h.size) hn).trans<|h.block i hi hn⟩
def Ke.alloc{rb:Nat}{a w:World}(h:Ke rb a w)o:Ke rb a (w.alloc o):=h.trans<|Ke.of<|(jo _ _).alloc (jh _) o
def Ke.set(h:Ke rb a w)j u:Ke rb a (w.setCell ⟨rb,j,none⟩ u):=
 h.trans ⟨rfl,rfl,rfl,yG,λk _ hn=>jq _ _ _ _ hn⟩
def tk(T:List Pu.Tok)k:=T.getD k ⟨7,⟨#[]⟩,0,0⟩
def SI{T:List Pu.Tok}(h:k<T.length):T[k]'h=tk T k:=by
 rw[tk];rw[jt,ju h];rfl
def aU(t:Pu.Tok)(s:ByteArray):Bool:=t.kind==5&&t.text.toList==s.toList
abbrev St:=Except Fl Nat
abbrev M(α:Type):=Nat->Except Fl (α×Nat)
def nx{α:Type}(σ:St)(m:M α):St:=match σ with
 |.error e=>.error e
 |.ok k=>match m k with
  |.error e=>.error e|.ok (_,k')=>.ok k'
def jW{α:Type}(T:List Pu.Tok):M α:=λk=>.error<|fD<|tk T k
def bm(T:List Pu.Tok)(s:ByteArray):M Unit:=λk=>if aU (tk T k) s=true then .ok ((),k+1)else .error (fD<|tk T k)
def dd(T:List Pu.Tok)(n:Nat):M Pu.Tok:=λk=>if(tk T k).kind==n then .ok (tk T k,k+1)else .error (fD<|tk T k)
def aR(T:List Pu.Tok)k:=if k=0 then 0 else(tk T<|k-1).t9
structure Bx(w:World)b(C:Array Value):Prop where
 c:∀o,w.cell? ⟨b,o,none⟩=C[o]?
 f:∀o,w.frozen? ⟨b,o,none⟩=false
 z:b<w.heap.size
def Bx.new(w:World)C t:Bx (w.alloc<|.cells C t) w.heap.size C:=⟨λo=>ah,λo=>ah,ah⟩
def Hu(w:World)(C:Array Value)(t:TypeId):Below w.heap.size w (w.alloc<|.cells C t)/\Bx (w.alloc<|.cells C t) w.heap.size C:=⟨bw _,Bx.new w C t⟩
def nbh(w:World)(C:Array Value)(t:TypeId):Below w.heap.size w (w.alloc<|.cells C t)/\Hid (Bx (w.alloc<|.cells C t) w.heap.size C):=⟨bw _,Bx.new w C t⟩
def Bx.same(h:Bx w b C)(hs:w.heap.size<=w'.heap.size)(hb:w'.heap[b]? =w.heap[b]?):Bx w' b C:=
 ⟨λo=>by rw[World.cell?_of_block (a:=⟨b,o,none⟩) (w:=w) hb];exact h.c o,λo=>by rw[World.frozen?_of_block (a:=⟨b,o,none⟩) (w:=w) hb];exact h.f o,ji h.z hs⟩
def Bx.below(h:Bx w b C)(hb:Below w.heap.size w w'):Bx w' b C:=h.same hb.size<|hb.block b h.z
def Bx.ke(h:Bx w b C)(hb:Ke rb w w')(hn:b≠rb):Bx w' b C:=h.same hb.size<|hb.block b h.z hn
def Bx.alloc{w:World}{b:Nat}{C:Array Value}(h:Bx w b C)o:Bx (w.alloc o) b C:=h.below<|(jo _ _).alloc (jh _) o
def Ke.oo(h:Ke rb a w)(hb:a.heap.size<=b)j u:Ke rb a (w.setCell ⟨b,j,none⟩ u):=
 ⟨h.os,h.tape,h.output,by simpa[World.setCell]using h.size,λk hk hn=>by rw[jq _ _ _ _ (by show k≠b;omega)];exact h.block k hk hn⟩
def cB c:=c==32||c==10
def PQ(c:Nat):(((c:Int)==32)||((c:Int)==10))=cB c:=by
 rw[jx];simp[cB];omega
def iC(c:Nat)w:Calls jm 166 #[.int .u8 (c:Int)] w λe w'=>e=.returned (.bool<|Pu.gI c)/\w'=w:=by
 go_enter func166,ntmps166
 go_wp2
 all_goals(go_ret;exact⟨jA (by rw[ab9];symm;simp;try omega),rfl⟩)
def tq(c:Nat)w:Calls jm 168 #[.int .u8 (c:Int)] w λe w'=>e=.returned (.bool<|Pu.Bv c)/\w'=w:=by
 go_enter func168,ntmps168
 go_wp2
 all_goals(go_ret;exact⟨jA (by rw[afa];symm;simp;try omega),rfl⟩)
def mg(c:Nat)w:Calls jm 171 #[.int .u8 (c:Int)] w λe w'=>e=.returned (.bool<|Pu.dB c)/\w'=w:=by
 go_enter func171,ntmps171
 go_wp2
 all_goals(go_ret;exact⟨jA (by rw[ab_];symm;simp;try omega),rfl⟩)
def PR(c:Nat)w:Calls jm 165 #[.int .u8 (c:Int)] w λe w'=>e=.returned (.bool<|cB c)/\w'=w:=by
 go_enter func165,ntmps165
 go_wp2
 all_goals(go_ret;exact⟨jA (by rw[<-PQ];try simp[*]),rfl⟩)
def W6(c:Nat)w:Calls jm 170 #[.int .u8 (c:Int)] w λe w'=>e=.returned (.bool<|Pu.aV c)/\w'=w:=by
 have hn:Pu.aV c=(Pu.gI c||Pu.Bv c||Pu.dB c):=rfl;have alt:(Pu.gI c=true\/(Pu.gI c=false/\Pu.Bv c=true))\/(Pu.gI c=false/\Pu.Bv c=false):=by
  cases Pu.gI c<;>cases Pu.Bv c<;>simp
 obtain  (h1|⟨h1,h2⟩)|⟨h1,h2⟩:=alt;all_goals
  simp only[*,Bool.or_true,Bool.true_or,Bool.false_or]at hn;have hn:=ai hn;go_enter func170,ntmps170;go_wp2_with(first|(go_at_call 166;refine(iC _ _).mono ?_;rintro e w'⟨rfl,rfl⟩)|(go_at_call 168;refine(tq _ _).mono ?_;rintro e w'⟨rfl,rfl⟩)|(go_at_call 171;refine(mg _ _).mono ?_;rintro e w'⟨rfl,rfl⟩));go_ret;exact⟨jA hn.symm,rfl⟩
def kT{fn}(hq:fn=165/\p=cB\/fn=170/\p=Pu.aV\/fn=171/\p=Pu.dB)(s:ByteArray)(i:Nat)(w:World)(hs:s.size<=1000)(hi:i<=s.size):
 Calls jm 164 #[.string s,.int .i64 (i:Int),.func (.func fn) #[] #[]] w λe w'=>e=.returned (.int .i64<|Pu.aH s p i)/\w'=w:=by
 have H:∀(c:Nat)(w:World),Calls jm fn #[.int .u8 (c:Int)] w λe w'=>e=.returned (.bool<|p c)/\w'=w:=by obtain⟨rfl,rfl⟩|⟨rfl,rfl⟩|⟨rfl,rfl⟩:=hq;exact PR;exact W6;exact mg
 obtain⟨rfl,hq⟩|⟨rfl,hq⟩|⟨rfl,hq⟩:=hq;all_goals
  clear hq;go_enter func164,ntmps164
  go_wp2
  go_loop[7] (λv=>∃j:Nat,j<=s.size/\v=.int .i64 (j:Int)/\Hid (Pu.aH s p i=Pu.aH s p j)) (λv=>s.size-(intOf v).toNat)
  case atStart=>exact⟨i,hi,rfl,rfl⟩
  case round=>
   obtain⟨j,hj,rfl,he⟩:=hrel;by_cases aZ:j<s.size
   .have hn:=Pu.m9 aZ
    cases hp:p (Pu.at_ s j)with
    |true=>
     have hm:=step_end aZ he hp;rw[hn]at hp;go_wp2_with((first|go_at_call 165|go_at_call 170|go_at_call 171);refine(H _ _).mono ?_;rintro e w'⟨rfl,rfl⟩);go_round
     case rel=>exact⟨j+1,ae,d_,by simpa using hm⟩
     case measure=>simp[intOf];omega
    |false=>
     have hm:=step_end aZ he hp;rw[hn]at hp;go_wp2_with((first|go_at_call 165|go_at_call 170|go_at_call 171);refine(H _ _).mono ?_;rintro e w'⟨rfl,rfl⟩);go_ret;exact⟨aca<|congrArg Nat.cast<|hm.out.symm,rfl⟩
   .go_wp2
    go_ret;exact⟨aca<|by rw[he.out,Pu.jD ae],rfl⟩
def aq(t:Pu.Tok):ByteArray:=
 if t.kind=1 then⟨#[108,111,119,32,110,97,109,101]⟩else if t.kind=2 then⟨#[117,112,32,110,97,109,101]⟩else if t.kind=3 then⟨#[97,32,118,97,114,105,97,98,108,101]⟩
 else if t.kind=4 then⟨#[97,32,110,117,109,98,101,114]⟩else if t.kind=7 then⟨#[116,104,101,32,101,110,100]⟩else t.text
def dv(t:Pu.Tok):Value:=.agg #[.int .i64 (t.aD:Int),.int .i64 (t.t9:Int),.string<|aq t,.string t.text]
def agv(a:Nat->ByteArray):∀{j:Nat},j<13->∀w:World,(Instr.index 349 (.agg #[.string<|a 0,.string<|a 1,.string<|a 2,.string<|a 3,.string<|a 4,.string<|a 5,.string<|a 6,.string<|a 7,.string<|a 8,.string<|a 9,.string<|a 10,.string<|a 11,.string<|a 12])<|.int .i64 (j:Int)).run jm w=.ok (.string<|a j) w
 |0,_,w=>qkr|1,_,w=>qkr|2,_,w=>qkr|3,_,w=>qkr|4,_,w=>qkr|5,_,w=>qkr|6,_,w=>qkr|7,_,w=>qkr|8,_,w=>qkr|9,_,w=>qkr|10,_,w=>qkr|11,_,w=>qkr|12,_,w=>qkr|_+13,h,_=>absurd h ae
def DU{a b:List UInt8}:(a==b)=(b==a):=Mn
def Tv{p:Prop}(h:p:=by
 subst hC;refine⟨λo=>?_,λo=>by simp;exact h.f o,by simpa[World.setCell]using h.z⟩;by_cases e:o=j
 .subst e;rw[World.cell?_setCell_same _ _ _<|(h.c o).trans<|Array.getElem?_eq_getElem hj];simp[hj]
 .rw[World.cell?_setCell_other _ _ _ _ (by intro q;injection q with _ q;exact e q.symm),h.c o,Array.getElem?_setIfInBounds_ne ae]):p:=h
def Bx.aP(h:Bx w b C)j v C'(hC:C'=C.setIfInBounds j v)(hj:j<C.size):Bx (w.setCell ⟨b,j,none⟩ v) b C':=by
 exact Tv
def signs:List ByteArray:=[⟨#[45,62]⟩,⟨#[40]⟩,⟨#[41]⟩,⟨#[44]⟩,⟨#[59]⟩,⟨#[58]⟩,⟨#[61]⟩,⟨#[124]⟩,⟨#[43]⟩,⟨#[45]⟩,⟨#[42]⟩,⟨#[60]⟩,⟨#[95]⟩]
def cP k:=signs.getD k ⟨#[]⟩
def Lg{u}(h:Below w.heap.size w u)b o(hb:b<w.heap.size):u.cell? ⟨b,o,none⟩=w.cell? ⟨b,o,none⟩:=World.cell?_of_block (a:=⟨b,o,none⟩)<|h.block b hb
def DV(s:ByteArray)i j(k:ByteArray)(hij:i<=j)(hj:j<=s.size)(hs:s.size<=1000):
 Calls jm 169 #[.string s,.int .i64 (i:Int),.int .i64 (j:Int),.string k] w λe w'=>e=.returned (.agg #[.int .i64 (i:Int),.int .i64 (j:Int),.string k,.string<|s.extract i j])/\Below w.heap.size w w':=by
 have h1:(i:Int)<=(j:Int):=ae;have h2:(j:Int)<=(s.size:Int):=ae;go_enter func169,ntmps169
 go_wp2
 exact bodyPost_ret (v:=.agg #[.int .i64 (i:Int),.int .i64 (j:Int),.string k,.string<|s.extract i j]) (by simp[results,Tryz.results169,go_sem]) rfl ⟨rfl,(jo _ _).alloc (jh _) _⟩
def mh i j:Calls jm 205 #[.int .i64 i,.int .i64 j] w λe w'=>e=.returned (.agg #[.int .i64 2,.int .i64 i,.int .i64 j])/\Below w.heap.size w w':=by
 go_enter func205,ntmps205
 go_wp2
 exact bodyPost_ret (v:=.agg #[.int .i64 2,.int .i64 i,.int .i64 j]) (by simp[results,Tryz.results205,go_sem]) rfl ⟨rfl,(jo _ _).alloc (jh _) _⟩
structure Laid(w:World):Prop where
 words:∀j,j<13->w.cell? ⟨1,j,none⟩=some (.string<|Pu.j_ j)
 signs:∀j,j<13->w.cell? ⟨0,j,none⟩=some (.string<|cP j)
 hz:2<=w.heap.size
def Laid.af{w}(h:Laid w)(hb:Below w.heap.size w w'):Laid w':=
 ⟨λj hj=>(Lg hb 1 j (by have:=h.hz;omega)).trans<|h.words j hj,λj hj=>(Lg hb 0 j (by have:=h.hz;omega)).trans<|h.signs j hj,jk h.hz hb.size⟩
def TF{p:Prop}(h:p:=by
 go_round
 case rel=>exact⟨j+1,ae,d_,Mm⟩
 case measure=>simp[intOf];omega):p:=h
def tw(h:Laid w)(s:ByteArray):Calls jm 204 #[.string s] w λe w'=>e=.returned (.bool<|Pu.fN s)/\w'=w:=by
 have g0:=h.words 0 ae;have g1:=h.words 1 ae;have g2:=h.words 2 ae;have g3:=h.words 3 ae;have g4:=h.words 4 ae;have g5:=h.words 5 ae;have g6:=h.words 6 ae;have g7:=h.words 7 ae;have g8:=h.words 8 ae;have g9:=h.words 9 ae;have g10:=h.words 10 ae;have g11:=h.words 11 ae;have g12:=h.words 12 ae;go_enter func204,ntmps204
 go_wp2
 go_loop[6] (λv=>∃j:Nat,j<=13/\v=.int .i64 (j:Int)/\Hid (∀i,i<j->(s.toList==(Pu.j_ i).toList)=false)) (λv=>13-(intOf v).toNat)
 case atStart=>exact⟨0,ae,rfl,λi h=>ae⟩
 case round=>
  obtain⟨j,hj,rfl,qB⟩:=hrel;by_cases aZ:j<13
  .have hix:=agv Pu.j_ aZ;have hd:(j:Int)<13:=ae
   cases he:(s.toList==(Pu.j_ j).toList)with
   |true=>
    have hb:Hid (Pu.fN s=true):=Pu.ab8 aZ (by rw[DU];exact he)
    go_wp2
    go_ret;exact⟨jA hb.symm,rfl⟩
   |false=>
    have Mm:Hid (∀i,i<j+1->(s.toList==(Pu.j_ i).toList)=false):=λi hi=>by
     by_cases e:i=j
     .subst e;exact he
     .exact qB i ae
    go_wp2
    exact TF
  .have hb:Hid (Pu.fN s=false):=Pu.PL (λi hi=>by rw[DU];exact qB i ae)
   go_wp2
   go_ret;exact⟨jA hb.symm,rfl⟩
def F_(s:ByteArray):Nat->Nat
 |0=>0|k+1=>10*F_ s k+(Pu.at_ s k+208)%256
def xM(s:ByteArray):Nat:=F_ s<|min s.size 9
def aeA(s:ByteArray):∀k,k<=9->F_ s k<=255*111111111:=by
 have:∀k,9*F_ s k+255<=255*10^k:=by
  intro k
  induction k with
  |zero=>simp[F_]|succ k ih=>simp only[F_,Nat.pow_succ];omega
 intro k hk;have h:=this k;have h2:10^k<=10^9:=Nat.pow_le_pow_right ae hk;omega
inductive Nd where
 |mk(kind:Nat)(s:ByteArray)(n:Nat)(L:List Nd)(aD t9 at_:Nat):Nd
def toList_mk l:(ByteArray.mk l.toArray).toList=l:=by simp_all
abbrev fH:ByteArray:=⟨#[116,114,117,101]⟩
abbrev di:ByteArray:=⟨#[102,97,108,115,101]⟩
abbrev mF:ByteArray:=⟨#[95]⟩
abbrev sH:ByteArray:=⟨#[40]⟩
def bY t:=
 if t.kind=1 then 1 else if t.kind=2 then 2 else if t.kind=3 then 16 else if t.kind=4 then 3
 else if aU t fH=true\/aU t di=true then 4 else if aU t mF=true then 15 else 0
def mO(t:Pu.Tok):Nat:=if t.kind=4 then xM t.text else 0
def GF t l:aU t ⟨l.toArray⟩=(t.kind==5&&t.text.toList==l):=by simp_all[aU]
def Kj t:aU t fH=(t.kind==5&&t.text.toList==[116,114,117,101]):=GF t _
def Dy t:aU t di=(t.kind==5&&t.text.toList==[102,97,108,115,101]):=GF t _
def SU t:aU t mF=(t.kind==5&&t.text.toList==[95]):=GF t _
def aF t sort:=aU t sH||
 (if sort=1 then bY t==16||bY t==2 else if sort=2 then bY t==15||bY t==1||bY t==2||bY t==3||bY t==4 else bY t==1||bY t==2||bY t==3||bY t==4)
abbrev ph:ByteArray:=⟨#[]⟩
abbrev dJ:ByteArray:=⟨#[41]⟩
abbrev fy:ByteArray:=⟨#[44]⟩
abbrev Gb:ByteArray:=⟨#[58]⟩
abbrev Ap:ByteArray:=⟨#[45,62]⟩
abbrev il:ByteArray:=⟨#[42]⟩
abbrev jI:ByteArray:=⟨#[43]⟩
abbrev fs:ByteArray:=⟨#[45]⟩
abbrev ik:ByteArray:=⟨#[60]⟩
abbrev OY:ByteArray:=⟨#[102,117,110]⟩
abbrev r9:ByteArray:=⟨#[108,101,116]⟩
abbrev abl:ByteArray:=⟨#[114,101,99]⟩
abbrev kIn:ByteArray:=⟨#[105,110]⟩
abbrev kIf:ByteArray:=⟨#[105,102]⟩
abbrev alu:ByteArray:=⟨#[116,104,101,110]⟩
abbrev alv:ByteArray:=⟨#[101,108,115,101]⟩
abbrev uJ:ByteArray:=⟨#[109,97,116,99,104]⟩
abbrev alw:ByteArray:=⟨#[119,105,116,104]⟩
abbrev anl:ByteArray:=⟨#[101,110,100]⟩
abbrev VY:ByteArray:=⟨#[124]⟩
abbrev Dm:ByteArray:=⟨#[59]⟩
abbrev kEq:ByteArray:=⟨#[61]⟩
abbrev lO:ByteArray:=⟨#[116,121,112,101]⟩
def dG(t:Pu.Tok):Nd:=.mk (bY t) t.text (mO t) [] t.aD t.t9 t.aD
def Nd.add:Nd->Nd->Nat->Nd
 |.mk k s n L f _ a,y,t9=>.mk k s n (L++[y]) f t9 a
def aX{α β:Type}(m:M α)(f:α->M β):M β:=λk=>match m k with
 |.error e=>.error e|.ok (a,k')=>f a k'
section
variable (T:List Pu.Tok)
def qS(mk:Nat->Nd):M Nd:=aX (bm T dJ) λ_ k=>.ok (mk k,k)
def jU part typ sort aD a:=λk=>
 if aU (tk T k) fy=true then aX part (λb=>qS T λk'=>.mk 6 ph 0 [a,b] aD (aR T k') aD) (k+1)
 else if sort=3/\aU (tk T k) Gb=true then aX typ (λb=>qS T λk'=>.mk 14 ph 0 [a,b] aD (aR T k') aD) (k+1)
 else qS T (λ_=>a) k
def fE part typ sort aD:=λk=>
 if sort≠1/\aU (tk T k) dJ=true then .ok (.mk 5 ph 0 [] aD (aR T<|k+1) aD,k+1)
 else aX part (jU T part typ sort aD) k
def aJ part typ sort:=λk=>
 if aF (tk T k) sort=true then
  (if aU (tk T k) sH=true then fE T part typ sort (tk T k).aD (k+1)else .ok (dG<|tk T k,k+1))
 else .error (fD<|tk T k)
def dw(small:M Nd)(sort:Nat):Nat->Nd->M Nd
 |0,x=>λk=>.ok (x,k)|f+1,x=>λk=>if aF (tk T k) sort=true then aX small (λy k'=>dw small sort f (x.add y<|aR T k') k') k else .ok (x,k)
def iM small sort:=λk=>if(tk T k).kind==2 then aX small (dw T small sort T.length) k else small k
def qT typ aD(a:Nd):=λk=>
 if aU (tk T k) Ap=true then aX typ (λb k'=>.ok (.mk 17 ph 0 [a,b] aD (aR T k') aD,k')) (k+1)else .ok (a,k)
def iz:Nat->M Nd
 |0=>jW T|n+1=>λk=>aX (iM T (aJ T (iz n) (iz n) 1) 1) (qT T (iz n) (tk T k).aD) k
def b_:Nat->M Nd
 |0=>jW T|n+1=>iM T (aJ T (b_ n) (jW T) 2) 2
def iN(small:M Nd)(aD:Nat):Nat->Nd->M Nd
 |0,x=>λk=>.ok (x,k)|f+1,x=>λk=>if aF (tk T k) 3=true then aX small (λy k'=>iN small aD f (.mk 8 ph 0 [x,y] aD (aR T k') aD) k') k else .ok (x,k)
def cY small:=λk=>aX small (iN T small (tk T k).aD T.length) k
def lX(call:M Nd)(aD:Nat):Nat->Nd->M Nd
 |0,x=>λk=>.ok (x,k)|f+1,x=>λk=>if aU (tk T k) il=true then aX call (λy k'=>lX call aD f (.mk 7 il 0 [x,y] aD (aR T k') aD) k') (k+1)else .ok (x,k)
def eY call:=λk=>aX call (lX T call (tk T k).aD T.length) k
def uM(prod:M Nd)(aD:Nat):Nat->Nd->M Nd
 |0,x=>λk=>.ok (x,k)|f+1,x=>λk=>if aU (tk T k) jI=true\/aU (tk T k) fs=true then aX prod (λy k'=>uM prod aD f (.mk 7 (tk T k).text 0 [x,y] aD (aR T k') aD) k') (k+1)else .ok (x,k)
def sP prod:=λk=>aX prod (uM T prod (tk T k).aD T.length) k
def uv(expr:M Nd):M Nd:=λk=>
 aX (bm T OY) (λ_=>aX (dd T 1) λt=>aX (bm T Ap) λ_=>aX expr λe k'=>.ok (.mk 9 t.text 0 [e] (tk T k).aD (aR T k') t.aD,k')) k
def boundM(expr:M Nd):M (Nat×Pu.Tok×Nd):=
 aX (bm T r9) λ_ k=>
  if aU (tk T k) abl=true then aX (dd T 1) (λt=>aX (bm T kEq) λ_=>aX (uv T expr) λe k'=>.ok ((11,t,e),k')) (k+1)
  else aX (dd T 1) (λt=>aX (bm T kEq) λ_=>aX expr λe k'=>.ok ((10,t,e),k')) k
def yu(expr:M Nd):M Nd:=λk=>
 aX (bm T kIf) (λ_=>aX expr λa=>aX (bm T alu) λ_=>aX expr λb=>aX (bm T alv) λ_=>aX expr λc k'=>.ok (.mk 12 ph 0 [a,b,c] (tk T k).aD (aR T k') (tk T k).aD,k')) k
def m8(t_ expr:M Nd):Nat->List Nd->M (List Nd)
 |0,l=>λk=>.ok (l,k)|f+1,l=>aX t_ λp=>aX (bm T Ap) λ_=>aX expr λe k=>
   if aU (tk T k) VY=true then m8 t_ expr f (l++[p,e]) (k+1)else .ok (l++[p,e],k)
def uq(t_ expr:M Nd):M Nd:=λk=>
 aX (bm T uJ) (λ_=>aX expr λx=>aX (bm T alw) λ_=>aX (m8 T t_ expr T.length [x]) λl=>aX (bm T anl) λ_ k'=>.ok (.mk 13 ph 0 l (tk T k).aD (aR T k') (tk T k).aD,k')) k
def aeL(expr:M Nd):M Nd:=λk=>
 aX (boundM T expr) (λb=>aX (bm T kIn) λ_=>aX expr λf k'=>.ok (.mk b.1 b.2.1.text 0 [b.2.2,f] (tk T k).aD (aR T k') b.2.1.aD,k')) k
def sQ(sum:M Nd):M Nd:=λk=>
 aX sum (λx k1=>if aU (tk T k1) ik=true then aX sum (λy k'=>.ok (.mk 7 ik 0 [x,y] (tk T k).aD (aR T k') (tk T k).aD,k')) (k1+1)else .ok (x,k1)) k
def bu:Nat->M Nd
 |0=>jW T|n+1=>λk=>
  if aU (tk T k) OY=true then uv T (bu n) k
  else if aU (tk T k) kIf=true then yu T (bu n) k
  else if aU (tk T k) uJ=true then uq T (b_ T n) (bu n) k
  else if aU (tk T k) r9=true then aeL T (bu n) k
  else sQ T (sP T<|eY T<|cY T<|aJ T (bu n) (iz T n) 3) k
end
def Bx.drew{w:World}{b:Nat}{C:Array Value}(h:Bx w b C):Bx w.drew b C:=h.below (jo _ _).drew
def Ke.below{b c:World}(h:Ke rb a b)(k:Below b.heap.size b c):Ke rb a c:=h.trans<|Ke.of k
section
variable {T:List Pu.Tok} {σ:St}
def oE{t}(h:aU t s=true):t.kind=5:=by simp[aU]at h;exact h.1
end
def Bx.at(w:World)C t b(hb:b=w.heap.size):Bx (w.alloc<|.cells C t) b C:=by subst hb;exact Bx.new w C t
def Bx.mE(h:Bx w b C)j v C'(hC:C'=C.setIfInBounds j v)(hj:j<C.size):Bx (w.setCell ⟨b,j,none⟩ v) b C':=by
 exact Tv
def Bx.gE{b2}(h:Bx w b C)(hn:b≠b2)j v:Bx (w.setCell ⟨b2,j,none⟩ v) b C:=
 h.same yG (jq _ _ _ _ hn)
def Bx.aiJ(h:Bx w b C)(hC:C.size=7)v0 v1 v2 v3 v4 v5 v6:Bx (((((((w.setCell ⟨b,0,none⟩ v0).setCell ⟨b,1,none⟩ v1).setCell ⟨b,2,none⟩ v2).setCell ⟨b,3,none⟩ v3).setCell ⟨b,4,none⟩ v4).setCell ⟨b,5,none⟩ v5).setCell ⟨b,6,none⟩ v6) b #[v0,v1,v2,v3,v4,v5,v6]:=by
 obtain⟨a0,a1,a2,a3,a4,a5,a6,rfl⟩:∃a0 a1 a2 a3 a4 a5 a6,C=#[a0,a1,a2,a3,a4,a5,a6]:=by
  obtain⟨l⟩:=C
  match l,hC with
  |[a,b,c,d,e,f,g],_=>grind
 exact((((((h.mE 0 v0 #[v0,a1,a2,a3,a4,a5,a6] rfl ah).mE 1 v1 #[v0,v1,a2,a3,a4,a5,a6] rfl ah).mE 2 v2 #[v0,v1,v2,a3,a4,a5,a6] rfl ah).mE 3 v3 #[v0,v1,v2,v3,a4,a5,a6] rfl ah).mE 4 v4 #[v0,v1,v2,v3,v4,a5,a6] rfl ah).mE 5 v5 #[v0,v1,v2,v3,v4,v5,a6] rfl ah).mE 6 v6 #[v0,v1,v2,v3,v4,v5,v6] rfl ah
def Bx.alx{b'}(h:Bx w b' C)(hn:b'≠b)v0 v1 v2 v3 v4 v5 v6:Bx (((((((w.setCell ⟨b,0,none⟩ v0).setCell ⟨b,1,none⟩ v1).setCell ⟨b,2,none⟩ v2).setCell ⟨b,3,none⟩ v3).setCell ⟨b,4,none⟩ v4).setCell ⟨b,5,none⟩ v5).setCell ⟨b,6,none⟩ v6) b' C:=
 ((((((h.gE hn 0 v0).gE hn 1 v1).gE hn 2 v2).gE hn 3 v3).gE hn 4 v4).gE hn 5 v5).gE hn 6 v6
def Gp{α:Type}(m:M α):=∀k a k',m k=.ok (a,k')->k<=k'
section
variable {W w3:World} {row:Option Nat} (hg:W.grownBy w3 row)
include hg
def Bx.grown(h:Bx W b C)(hr:∀j,row=some j->j≠b):Bx w3 b C:=h.same hg.size<|hg.block b h.z<|λe=>hr b e.symm rfl
def Ke.grown(h:Ke rb a W)(hr:∀j,row=some j->a.heap.size<=j):Ke rb a w3:=
 ⟨hg.os.trans h.os,hg.tape.trans h.tape,hg.output.trans h.output,jk h.size hg.size,λk hk hn=>(hg.block k (ji hk h.size) (λe=>by have:=hr k e.symm;omega)).trans<|h.block k hk hn⟩
end
def rR{base}{e}{size}{v}{n}{xs}(h:w.ownsRow base e size v n xs)(hn:0<n):∃q c,v=.slice (some ⟨q,0,none⟩) n c:=by
 obtain⟨_,h2⟩:=h;obtain⟨_,h0⟩|⟨q,c,_,hv,_⟩:=h2
 .omega
 .exact⟨q,c,hv⟩
abbrev Ak:Array Value:=#[.int .i64 0,.int .i64 0,.string ⟨#[]⟩,.string ⟨#[]⟩]
def Bx.iU{w}(h:Bx w b C)(hC:C.size=4)v0 v1 v2 v3:Bx ((((w.setCell ⟨b,0,none⟩ v0).setCell ⟨b,1,none⟩ v1).setCell ⟨b,2,none⟩ v2).setCell ⟨b,3,none⟩ v3) b #[v0,v1,v2,v3]:=by
 obtain⟨a0,a1,a2,a3,rfl⟩:∃a0 a1 a2 a3,C=#[a0,a1,a2,a3]:=by
  obtain⟨l⟩:=C
  match l,hC with
  |[a,b,c,d],_=>grind
 exact(((h.aP 0 v0 #[v0,a1,a2,a3] rfl ah).aP 1 v1 #[v0,v1,a2,a3] rfl ah).aP 2 v2 #[v0,v1,v2,a3] rfl ah).aP 3 v3 #[v0,v1,v2,v3] rfl ah
def _root_.Go.RowKit.Below.iU{B}{w}(h:Below B a w)(hb:B<=b)v0 v1 v2 v3:Below B a ((((w.setCell ⟨b,0,none⟩ v0).setCell ⟨b,1,none⟩ v1).setCell ⟨b,2,none⟩ v2).setCell ⟨b,3,none⟩ v3):=
 (((h.setCell hb v0).setCell hb v1).setCell hb v2).setCell hb v3
def Lh(h:Laid w)(s:ByteArray)i(hi:i<s.size)(hs:s.size<=1000):
 Calls jm 167 #[.string s,.int .i64 (i:Int)] w λe w'=>e=.returned (dv<|if Pu.fN (s.extract i<|Pu.aH s Pu.aV i)=true then Pu.gN s i 5 (Pu.aH s Pu.aV i)else Pu.gN s i 1 (Pu.aH s Pu.aV i))/\Below w.heap.size w w':=by
 have hle:=Pu.gq (s:=s) Pu.aV (i:=i) ae;have Cz:=Pu.gd s Pu.aV i;have H:=h.af<|(jo w.heap.size w).alloc (jh _)<|.cells Ak 237;have B0:=Bx.new w Ak 237;have HB:=(jo w.heap.size w).alloc (jh _)<|.cells Ak 237;have h1:(i:Int)<=((Pu.aH s Pu.aV i:Nat):Int):=ae;have h2:((Pu.aH s Pu.aV i:Nat):Int)<=(s.size:Int):=ae
 cases hw:Pu.fN (s.extract i<|Pu.aH s Pu.aV i)with
 |true=>
  go_enter func167,ntmps167;go_wp2_with(first|(go_at_call 164;refine(kT (Or.inr<|Or.inl ⟨rfl,rfl⟩) s i _ hs ae).mono ?_;rintro e w'⟨rfl,rfl⟩)|(go_at_call 204;refine(tw H _).mono ?_;rintro e w'⟨rfl,rfl⟩)|(go_at_call 169;refine(DV s i _ _ Cz hle hs).mono ?_;rintro e w1⟨rfl,hb⟩;have B1:=ai<|B0.below hb;have eE:=ai<|HB.trans<|hb.mono ah;have⟨c1,f1,y1⟩:=uh B1;clear hb));have BF:=B1.iU rfl (.int .i64 (i:Int)) (.int .i64 ((Pu.aH s Pu.aV i:Nat):Int)) (.string<|s.extract i<|Pu.aH s Pu.aV i) (.string<|s.extract i<|Pu.aH s Pu.aV i);obtain⟨cF,fF,zF⟩:=BF;refine bodyPost_ret (v:=dv<|Pu.gN s i 5<|Pu.aH s Pu.aV i) (by simp[results,Tryz.results167,go_sem,cF,dv,Pu.gN,aq]) rfl ⟨ah,eE.iU (Nat.le_refl _) _ _ _ _⟩
 |false=>
  go_enter func167,ntmps167;go_wp2_with(first|(go_at_call 164;refine(kT (Or.inr<|Or.inl ⟨rfl,rfl⟩) s i _ hs ae).mono ?_;rintro e w'⟨rfl,rfl⟩)|(go_at_call 204;refine(tw H _).mono ?_;rintro e w'⟨rfl,rfl⟩)|(go_at_call 169;refine(DV s i _ _ Cz hle hs).mono ?_;rintro e w1⟨rfl,hb⟩;have B1:=ai<|B0.below hb;have eE:=ai<|HB.trans<|hb.mono ah;have⟨c1,f1,y1⟩:=uh B1;clear hb));have BF:=B1.iU rfl (.int .i64 (i:Int)) (.int .i64 ((Pu.aH s Pu.aV i:Nat):Int)) (.string ⟨#[108,111,119,32,110,97,109,101]⟩) (.string<|s.extract i<|Pu.aH s Pu.aV i);obtain⟨cF,fF,zF⟩:=BF;refine bodyPost_ret (v:=dv<|Pu.gN s i 1<|Pu.aH s Pu.aV i) (by simp[results,Tryz.results167,go_sem,cF,dv,Pu.gN,aq]) rfl ⟨ah,eE.iU (Nat.le_refl _) _ _ _ _⟩
def eA t w(e:Ending)w':=
 Below w.heap.size w w'/\((t.kind≠6/\e=.returned (dv t))\/(t.kind=6/\e=.panicked [{v:=.iface 232<|.agg #[.int .i64 2,.int .i64 (t.aD:Int),.int .i64 (t.t9:Int)],recovered:=false}]))
def acf(s:ByteArray)i(hi:i<s.size)(hs:s.size<=1000):
 Calls jm 172 #[.string s,.int .i64 (i:Int)] w (eA (if Pu.aH s Pu.dB i-i<=9 then Pu.gN s i 4 (Pu.aH s Pu.dB i)else Pu.gN s i 6 (Pu.aH s Pu.dB i)) w):=by
 have hle:=Pu.gq (s:=s) Pu.dB (i:=i) ae;have Cz:=Pu.gd s Pu.dB i;have B0:=Bx.new w Ak 237;have HB:=(jo w.heap.size w).alloc (jh _)<|.cells Ak 237;by_cases hd:Pu.aH s Pu.dB i-i<=9
 .have h1:¬(9:Int)<((Pu.aH s Pu.dB i:Nat):Int)-(i:Int):=ae;rw[if_pos hd];go_enter func172,ntmps172;go_wp2_with(first|(go_at_call 164;refine(kT (Or.inr<|Or.inr ⟨rfl,rfl⟩) s i _ hs ae).mono ?_;rintro e w'⟨rfl,rfl⟩)|(go_at_call 169;refine(DV s i _ _ Cz hle hs).mono ?_;rintro e w1⟨rfl,hb⟩;have B1:=ai<|B0.below hb;have eE:=ai<|HB.trans<|hb.mono ah;have⟨c1,f1,y1⟩:=uh B1;clear hb));have BF:=B1.iU rfl (.int .i64 (i:Int)) (.int .i64 ((Pu.aH s Pu.dB i:Nat):Int)) (.string ⟨#[97,32,110,117,109,98,101,114]⟩) (.string<|s.extract i<|Pu.aH s Pu.dB i);obtain⟨cF,fF,zF⟩:=BF;exact bodyPost_ret (v:=dv<|Pu.gN s i 4<|Pu.aH s Pu.dB i) (by simp[results,Tryz.results172,go_sem,cF,dv,Pu.gN,aq]) rfl ⟨eE.iU (Nat.le_refl _) _ _ _ _,Or.inl ⟨by simp[Pu.gN],rfl⟩⟩
 .have h1:(9:Int)<((Pu.aH s Pu.dB i:Nat):Int)-(i:Int):=ae;rw[if_neg hd];go_enter func172,ntmps172;go_wp2_with(first|(go_at_call 164;refine(kT (Or.inr<|Or.inr ⟨rfl,rfl⟩) s i _ hs ae).mono ?_;rintro e w'⟨rfl,rfl⟩)|(go_at_call 205;refine(mh _ _).mono ?_;rintro e w1⟨rfl,hb⟩;have eE:=ai<|HB.trans<|hb.mono ah;clear hb));exact⟨rfl,eE,Or.inr ⟨rfl,rfl⟩⟩
def ki(s:ByteArray)i:=
 if Pu.gI (Pu.at_ s<|i+1)=true then(if Pu.fN (s.extract (i+1)<|Pu.aH s Pu.aV<|i+1)=true then Pu.gN s i 6 (Pu.aH s Pu.aV<|i+1)else Pu.gN s i 3 (Pu.aH s Pu.aV<|i+1))else Pu.gN s i 6 (i+1)
def aly(h:Laid w)(s:ByteArray)i(hi:i<s.size)(hs:s.size<=1000):
 Calls jm 173 #[.string s,.int .i64 (i:Int)] w (eA (ki s i) w):=by
 have B0:=Bx.new w Ak 237;have HB:=(jo w.heap.size w).alloc (jh _)<|.cells Ak 237;have H:=h.af HB;by_cases hn:i+1<s.size
 .have he:(((i:Int)+1)==(s.size:Int))=false:=bi;have CJ:=Pu.m9 hn
  cases gJ:Pu.gI s[i+1].toNat with
  |false=>
   have ht:ki s i=Pu.gN s i 6 (i+1):=by rw[ki];rw[CJ,gJ];simp
   rw[ht];go_enter func173,ntmps173;go_wp2_with(first|(go_at_call 166;refine(iC _ _).mono ?_;rintro e w'⟨rfl,rfl⟩)|(go_at_call 205;refine(mh _ _).mono ?_;rintro e w1⟨rfl,hb⟩;have eE:=ai<|HB.trans<|hb.mono ah;clear hb));exact⟨rfl,eE,Or.inr ⟨rfl,rfl⟩⟩
  |true=>
   have hle:=Pu.gq (s:=s) Pu.aV (i:=i+1) ae;have Cz:=Pu.gd s Pu.aV<|i+1;have h1:(i:Int)+1<=((Pu.aH s Pu.aV (i+1):Nat):Int):=ae;have h2:((Pu.aH s Pu.aV (i+1):Nat):Int)<=(s.size:Int):=ae
   cases hw:Pu.fN (s.extract (i+1)<|Pu.aH s Pu.aV<|i+1)with
   |true=>
    have ht:ki s i=Pu.gN s i 6 (Pu.aH s Pu.aV<|i+1):=by rw[ki];rw[CJ,gJ,hw];simp
    rw[ht];go_enter func173,ntmps173;go_wp2_with(first|(go_at_call 166;refine(iC _ _).mono ?_;rintro e w'⟨rfl,rfl⟩)|(go_at_call 164;refine(kT (Or.inr<|Or.inl ⟨rfl,rfl⟩) s (i+1) _ hs ae).mono ?_;rintro e w'⟨rfl,rfl⟩)|(go_at_call 204;refine(tw H _).mono ?_;rintro e w'⟨rfl,rfl⟩)|(go_at_call 205;refine(mh _ _).mono ?_;rintro e w1⟨rfl,hb⟩;have eE:=ai<|HB.trans<|hb.mono ah;clear hb));exact⟨rfl,eE,Or.inr ⟨rfl,rfl⟩⟩
   |false=>
    have ht:ki s i=Pu.gN s i 3 (Pu.aH s Pu.aV<|i+1):=by rw[ki];rw[CJ,gJ,hw];simp
    rw[ht];go_enter func173,ntmps173;go_wp2_with(first|(go_at_call 166;refine(iC _ _).mono ?_;rintro e w'⟨rfl,rfl⟩)|(go_at_call 164;refine(kT (Or.inr<|Or.inl ⟨rfl,rfl⟩) s (i+1) _ hs ae).mono ?_;rintro e w'⟨rfl,rfl⟩)|(go_at_call 204;refine(tw H _).mono ?_;rintro e w'⟨rfl,rfl⟩)|(go_at_call 169;refine(DV s i _ _ ae hle hs).mono ?_;rintro e w1⟨rfl,hb⟩;have B1:=ai<|B0.below hb;have eE:=ai<|HB.trans<|hb.mono ah;have⟨c1,f1,y1⟩:=uh B1;clear hb));have BF:=B1.iU rfl (.int .i64 (i:Int)) (.int .i64 ((Pu.aH s Pu.aV (i+1):Nat):Int)) (.string ⟨#[97,32,118,97,114,105,97,98,108,101]⟩) (.string<|s.extract i<|Pu.aH s Pu.aV<|i+1);obtain⟨cF,fF,zF⟩:=BF;exact bodyPost_ret (v:=dv<|Pu.gN s i 3<|Pu.aH s Pu.aV<|i+1) (by simp[results,Tryz.results173,go_sem,cF,dv,Pu.gN,aq]) rfl ⟨eE.iU (Nat.le_refl _) _ _ _ _,Or.inl ⟨by simp[Pu.gN],rfl⟩⟩
 .have he:(((i:Int)+1)==(s.size:Int))=true:=bi;have ht:ki s i=Pu.gN s i 6 (i+1):=by
   rw[ki];rw[Pu.ab7 ae];rfl
  rw[ht];go_enter func173,ntmps173;go_wp2_with(first|(go_at_call 205;refine(mh _ _).mono ?_;rintro e w1⟨rfl,hb⟩;have eE:=ai<|HB.trans<|hb.mono ah;clear hb));exact⟨rfl,eE,Or.inr ⟨rfl,rfl⟩⟩
def preB(s p:ByteArray):Bool:=decide (p.size<=s.size)&&((s.extract 0 p.size).toList==p.toList)
def ni(s:ByteArray)i k:=
 if k=0 then(Pu.at_ s i==45&&Pu.at_ s (i+1)==62)else Pu.at_ s i==((cP k)[0]!).toNat
def lh(s:ByteArray)i:=
 if Pu.at_ s i=45/\Pu.at_ s (i+1)=62 then Pu.gN s i 5 (i+2)
 else if Pu.wK (Pu.at_ s i)=true then Pu.gN s i 5 (i+1)else Pu.gN s i 6 (i+1)
def iD{a b:ByteArray}(h:(a.toList==b.toList)=true):a=b:=by
 rw[beq_iff_eq,jz,jz]at h;exact jf<|Array.toList_inj.1 h
def anm(h:i<s.size):s.extract i (i+1)=⟨#[s[i]]⟩:=by
 apply jf;apply Array.ext
 .simp;omega
 .intro j h1 h2;have:j=0:=by simp at h2;omega
  subst this;simp[jd];rfl
def ann(h:i+1<s.size):s.extract i (i+2)=⟨#[s[i],s[i+1]]⟩:=by
 apply jf;apply Array.ext
 .simp;omega
 .intro j h1 h2;have:j=0\/j=1:=by simp at h2;omega
  obtain rfl|rfl:=this
  .simp[jd];rfl
  .simp[jd];rfl
def Tz{p:Prop}(h:p:=by
 intro h;have:=congrArg (λb:ByteArray=>b.data)<|iD h;simp at this
 simp[this]):p:=h
def xQ(hi:i<s.size)c:preB (s.extract i s.size) ⟨#[c]⟩=(Pu.at_ s i==c.toNat):=by
 have hz:(⟨#[c]⟩:ByteArray).size=1:=rfl;rw[preB];rw[hz,jc,show min (i+1) s.size=i+1 by omega,jl,anm hi,Pu.m9 hi,ja];rw[decide_eq_true ae,Bool.true_and,jx];constructor
 .exact Tz
 .intro h;rw[beq_iff_eq]at h;rw[UInt8.toNat_inj.1 h];simp
def ano(hi:i<s.size)c d:preB (s.extract i s.size) ⟨#[c,d]⟩=(Pu.at_ s i==c.toNat&&Pu.at_ s (i+1)==d.toNat):=by
 have hz:(⟨#[c,d]⟩:ByteArray).size=2:=rfl;rw[preB];rw[hz];by_cases hn:i+1<s.size
 .rw[jc,show min (i+2) s.size=i+2 by omega,jl,ann hn,Pu.m9 hi,Pu.m9 hn,ja];rw[decide_eq_true ae,Bool.true_and,jx];constructor
  .exact Tz
  .intro h;rw[jy,beq_iff_eq,beq_iff_eq]at h;rw[UInt8.toNat_inj.1 h.1,UInt8.toNat_inj.1 h.2];simp
 .rw[ja,decide_eq_false ae,Pu.ab7 (s:=s) (i:=i+1) ae];have:(256==d.toNat)=false:=by have:=UInt8.toNat_lt d;simp;omega
  rw[this];simp
def TE(hi:i<s.size):∀k,k<13->preB (s.extract i s.size) (cP k)=ni s i k
 |0,_=>ano hi 45 62|1,_=>xQ hi _|2,_=>xQ hi _|3,_=>xQ hi _|4,_=>xQ hi _|5,_=>xQ hi _|6,_=>xQ hi _|7,_=>xQ hi _|8,_=>xQ hi _|9,_=>xQ hi _|10,_=>xQ hi _|11,_=>xQ hi _|12,_=>xQ hi _|k+13,h=>absurd h ae
def aiK:∀k,0<k->k<13->(∀j,j<k->ni s i j=false)->ni s i k=true->lh s i=Pu.gN s i 5 (i+1):=by
 intro k h0 hk qB hh;rw[lh];have n0:=qB 0 h0;rw[if_neg (by intro q;simp[ni,q.1,q.2]at n0)];have:Pu.wK (Pu.at_ s i)=true:=by
  have hc:k=1\/k=2\/k=3\/k=4\/k=5\/k=6\/k=7\/k=8\/k=9\/k=10\/k=11\/k=12:=ae;rw[ni]at hh;rw[if_neg ae,beq_iff_eq]at hh;rw[hh];obtain rfl|rfl|rfl|rfl|rfl|rfl|rfl|rfl|rfl|rfl|rfl|rfl:=hc<;>decide
 rw[if_pos this]
def alz(h:ni s i 0=true):lh s i=Pu.gN s i 5 (i+2):=by grind[ni,lh]
def aiL(h:∀j,j<13->ni s i j=false):lh s i=Pu.gN s i 6 (i+1):=by
 rw[lh];have n0:=h 0 ae;rw[if_neg (by intro q;simp[ni,q.1,q.2]at n0)];have:Pu.wK (Pu.at_ s i)=false:=by
  rw[Pu.wK];rw[jv];intro x hx;simp only[List.mem_cons,List.not_mem_nil,or_false]at hx;intro q;rw[beq_iff_eq]at q;have H:∀k,0<k->k<13->((cP k)[0]!).toNat=x->False:=λk h0 hk e=>by
   have:=h k hk;rw[ni]at this;rw[if_neg ae,e,q]at this;simp at this
  obtain rfl|rfl|rfl|rfl|rfl|rfl|rfl|rfl|rfl|rfl|rfl|rfl:=hx
  .exact H 1 ae ae rfl
  .exact H 2 ae ae rfl
  .exact H 3 ae ae rfl
  .exact H 4 ae ae rfl
  .exact H 5 ae ae rfl
  .exact H 6 ae ae rfl
  .exact H 7 ae ae rfl
  .exact H 8 ae ae rfl
  .exact H 9 ae ae rfl
  .exact H 10 ae ae rfl
  .exact H 11 ae ae rfl
  .exact H 12 ae ae rfl
 rw[this];rfl
def acg(hi:i<s.size)(hk:k<13)(h:ni s i k=true):i+(cP k).size<=s.size/\s.extract i (i+(cP k).size)=cP k:=by
 rw[<-TE hi k hk]at h;rw[preB]at h;rw[jy,decide_eq_true_iff,ja]at h;have hz:i+(cP k).size<=s.size:=ae;refine⟨hz,?_⟩;have:=iD h.2
 rwa[jc,jl,Nat.min_eq_left hz]at this
def ach:∀{k:Nat},k<13->1<=(cP k).size/\(cP k).size<=2:=λ{k}h=>(by decide:∀k:Fin 13,1<=(cP k.1).size/\(cP k.1).size<=2) ⟨k,h⟩
def aiM:∀{k:Nat},0<k->k<13->(cP k).size=1:=λ{k}h0 h=>(by decide:∀k:Fin 13,0<k.1->(cP k.1).size=1) ⟨k,h⟩ h0
def afe(hk:k<13)(h:∀j,j<k->ni s i j=false)(hh:ni s i k=true):lh s i=Pu.gN s i 5 (i+(cP k).size):=by
 obtain rfl|h0:=Nat.eq_zero_or_pos k
 .exact alz hh
 .rw[aiM h0 hk];exact aiK k h0 hk h hh
def TD{p:Prop}(h:p:=by
 go_enter func224,ntmps224
 go_wp2
 go_ret
 exact⟨jA<|by simp[preB,hz],rfl⟩):p:=h
def aiN(s p:ByteArray)(hs:s.size<=1000)(hp:p.size<=2):Calls jm 224 #[.string s,.string p] w λe w'=>e=.returned (.bool<|preB s p)/\w'=w:=by
 by_cases h:p.size<=s.size
 .have h1:(p.size:Int)<=(s.size:Int):=ae;have hz:decide (p.size<=s.size)=true:=by simp[h]
  exact TD
 .have h1:¬(p.size:Int)<=(s.size:Int):=ae;have hz:decide (p.size<=s.size)=false:=bi;exact TD
def aci(s p:ByteArray)(hs:s.size<=1000)(hp:p.size<=2):Calls jm 206 #[.string s,.string p] w λe w'=>e=.returned (.bool<|preB s p)/\w'=w:=by
 go_enter func206,ntmps206;go_wp2_with(go_at_call 224;refine(aiN s p hs hp).mono ?_;rintro e w'⟨rfl,rfl⟩);go_ret;exact⟨jA rfl,rfl⟩
def DY(s:ByteArray)i k(hi:i<s.size)(hs:s.size<=1000)(hk:k<13)(hz:(cP k).size<=2):Calls jm 206 #[.string<|s.extract i s.size,.string<|cP k] w λe w'=>e=.returned (.bool<|ni s i k)/\w'=w:=by
 rw[<-TE hi k hk];exact aci _ _ qBo hz
def aiO(h:Laid w)(s:ByteArray)(i:Nat)(hi:i<s.size)(hs:s.size<=1000):
 Calls jm 174 #[.string s,.int .i64 (i:Int)] w (eA (lh s i) w):=by
 have B0:=Bx.new w Ak 237;have HB:=(Below.refl w.heap.size w).alloc (Nat.le_refl _)<|.cells Ak 237;have H:=h.af HB;have hi1:(i:Int)<=(s.size:Int):=ae;have g0:=H.signs 0 ae;have g1:=H.signs 1 ae;have g2:=H.signs 2 ae;have g3:=H.signs 3 ae;have g4:=H.signs 4 ae;have g5:=H.signs 5 ae;have g6:=H.signs 6 ae;have g7:=H.signs 7 ae;have g8:=H.signs 8 ae;have g9:=H.signs 9 ae;have g10:=H.signs 10 ae;have g11:=H.signs 11 ae;have g12:=H.signs 12 ae;clear h H;go_enter func174,ntmps174
 go_wp2
 go_loop[8] (λv=>∃j:Nat,j<=13/\v=.int .i64 (j:Int)/\Hid (∀m,m<j->ni s i m=false)) (λv=>13-(intOf v).toNat)
 case atStart=>exact⟨0,ae,rfl,λi h=>ae⟩
 case round=>
  obtain⟨j,hj,rfl,qB⟩:=hrel;by_cases aZ:j<13
  .have hix:=agv cP aZ;have hd:(j:Int)<13:=ae;have hz:=ach aZ;obtain⟨n,hn⟩:∃n,n=(cP j).size:=⟨_,rfl⟩;rw[<-hn]at hz
   cases he:ni s i j with
   |true=>
    have ht:=ai<|afe aZ qB he;have hx:=acg hi aZ he;rw[<-hn]at hx ht;have hle:=hx.1;have hxe:=ai hx.2;have H8:((cP j).size:Int)=(n:Int):=by rw[hn]
    have ho:(i:Int)+(n:Int)<=1000:=ae;clear hx hn;go_wp2_with(first|(go_at_call 206;refine(DY s i j hi hs aZ ae).mono ?_;rintro e w'⟨rfl,rfl⟩)|(go_at_call 169;refine(DV s i (i+n) _ ae hle hs).mono ?_;rintro e w1⟨rfl,hb⟩;have B1:=ai<|B0.below hb;have eE:=ai<|HB.trans<|hb.mono ah;have⟨c1,f1,y1⟩:=uh B1;clear hb));have BF:=B1.iU rfl (.int .i64 (i:Int)) (.int .i64<|(i:Int)+n) (.string<|cP j) (.string<|s.extract i<|i+n);obtain⟨cF,fF,zF⟩:=BF;rw[uh ht];refine bodyPost_ret (v:=dv<|Pu.gN s i 5<|i+n) ?_ rfl ⟨eE.iU (jh _) _ _ _ _,j6 ⟨by simp[Pu.gN],rfl⟩⟩;have hk:aq (Pu.gN s i 5<|i+n)=cP j:=uh hxe;simp only[dv,hk];simp[results,Tryz.results174,go_sem,cF,Pu.gN]
   |false=>
    have Mm:Hid (∀m,m<j+1->ni s i m=false):=λm hm=>by
     by_cases e:m=j
     .subst e;exact he
     .exact qB m ae
    go_wp2_with(go_at_call 206;refine(DY s i j hi hs aZ ae).mono ?_;rintro e w'⟨rfl,rfl⟩);exact TF
  .have ht:=ai<|aiL (s:=s) (i:=i)<|λm hm=>qB m ae;go_wp2_with(go_at_call 205;refine(mh _ _).mono ?_;rintro e w1⟨rfl,hb⟩;have eE:=ai<|HB.trans<|hb.mono ah;clear hb);rw[uh ht];exact⟨rfl,eE,j5 ⟨rfl,rfl⟩⟩
def aB(s:ByteArray)i:=if Pu.aH s cB i<s.size then Pu.cT s (Pu.aH s cB i)else Pu.fB s
def PS(s:ByteArray)p:∀n i,s.size-i=n->Pu.aH s p i<s.size->p (Pu.at_ s<|Pu.aH s p i)=false:=by
 intro n
 induction n with
 |zero=>intro i h hl;rw[Pu.jD ae]at hl;omega|succ n ih=>
  intro i h hl
  cases hp:p (Pu.at_ s i)with
  |true=>rw[Pu.fO ae hp]at hl⊢;exact ih (i+1) ae hl|false=>rw[Pu.ox ae hp];exact hp
def W8(s:ByteArray):∀n i,s.size-i=n->Pu.bG s i=Pu.bG s (Pu.aH s cB i):=by
 intro n
 induction n with
 |zero=>intro i h;rw[Pu.jD ae]|succ n ih=>
  intro i h
  cases hp:cB (Pu.at_ s i)with
  |true=>rw[Pu.fO ae hp,Pu.AO ae hp];exact ih (i+1) ae|false=>rw[Pu.ox ae hp]
def lV(s:ByteArray)i(hi:i<=s.size):Pu.bG s i=if(aB s i).kind=7 then[Pu.fB s]else aB s i::Pu.bG s (aB s i).t9:=by
 rw[W8 s _ i rfl];unfold aB;by_cases h:Pu.aH s cB i<s.size
 .rw[if_pos h,if_neg,Pu.Ad h<|PS s cB _ i rfl h];unfold Pu.cT Pu.gN;repeat' split
  all_goals simp
 .rw[if_neg h,if_pos<|show(Pu.fB s).kind=7 from rfl,Pu.JD ae]
def eA.ok{t:Pu.Tok}(h:eA t w e w')(hk:t.kind≠6):e=.returned (.agg #[.int .i64 (t.aD:Int),.int .i64 (t.t9:Int),.string<|aq t,.string t.text])/\Below w.heap.size w w':=by
 obtain⟨hb,⟨_,he⟩|⟨hn,_⟩⟩:=h
 .exact⟨he,hb⟩
 .exact absurd hn hk
def eA.bad{t:Pu.Tok}(h:eA t w e w')(hk:t.kind=6):e=.panicked [{v:=.iface 232<|.agg #[.int .i64 2,.int .i64 (t.aD:Int),.int .i64 (t.t9:Int)],recovered:=false}]/\Below w.heap.size w w':=by grind[eA]
def W9(hi:i<s.size)(hd:Pu.dB (Pu.at_ s i)=true):Pu.cT s i=(if Pu.aH s Pu.dB i-i<=9 then Pu.gN s i 4 (Pu.aH s Pu.dB i)else Pu.gN s i 6 (Pu.aH s Pu.dB i)):=by
 have hd':=hd;simp[Pu.dB]at hd';rw[Pu.cT];rw[if_neg (by simp[Pu.gI];omega),if_neg (by simp[Pu.Bv];omega),if_neg (by intro q;omega),if_pos hd,Pu.fO hi hd]
def W_(hd:Pu.at_ s i=39):Pu.cT s i=ki s i:=by
 rw[Pu.cT,ki];rw[hd,if_neg aA,if_neg aA];by_cases hl:Pu.gI (Pu.at_ s<|i+1)=true
 .grind
 .rw[if_neg<|λq=>hl q.2,if_neg hl,if_neg aA,if_neg (by intro q;exact absurd q.1 aA),if_neg aA]
def Xa(h1:Pu.gI (Pu.at_ s i)=false)(h2:Pu.Bv (Pu.at_ s i)=false)(h3:Pu.dB (Pu.at_ s i)=false)(h4:Pu.at_ s i≠39):Pu.cT s i=lh s i:=by
 rw[Pu.cT,lh];rw[if_neg<|by simp[h1],if_neg<|by simp[h2],if_neg<|λq=>h4 q.1,if_neg<|by simp[h3]]
def acj(h1:Pu.gI (Pu.at_ s i)=false)(h2:Pu.Bv (Pu.at_ s i)=true):Pu.cT s i=Pu.gN s i 2 (Pu.aH s Pu.aV i):=by
 rw[Pu.cT];rw[if_neg<|by simp[h1],if_pos h2]
def Xb(h1:Pu.gI (Pu.at_ s i)=true):Pu.cT s i=(if Pu.fN (s.extract i<|Pu.aH s Pu.aV i)=true then Pu.gN s i 5 (Pu.aH s Pu.aV i)else Pu.gN s i 1 (Pu.aH s Pu.aV i)):=by
 rw[Pu.cT];rw[if_pos h1]
def J8(h:Laid w)(s:ByteArray)i(hi:i<=s.size)(hs:s.size<=1000):
 Calls jm 119 #[.string s,.int .i64 (i:Int)] w (eA (aB s i) w):=by
 have B0:=Bx.new w Ak 237;have HB:=(jo w.heap.size w).alloc (jh _)<|.cells Ak 237;have H:=h.af HB;clear h;have E:=λW=>kT (j6 ⟨rfl,rfl⟩) s i W hs hi;have hle:=Pu.gq (s:=s) cB hi;have Cz:=Pu.gd s cB i;rw[aB];generalize Pu.aH s cB i=j at E hle Cz⊢;by_cases hj:j<s.size
 .have he:((j:Int)==(s.size:Int))=false:=bi;rw[if_pos hj];have CJ:=Pu.m9 hj;have go:∀(T:Pu.Tok)(fn:Nat),(fn=167/\Pu.gI s[j].toNat=true\/Pu.gI s[j].toNat=false/\Pu.Bv s[j].toNat=false/\(fn=172/\Pu.dB s[j].toNat=true\/Pu.dB s[j].toNat=false/\(fn=173/\((s[j].toNat:Int)==39)=true\/fn=174/\((s[j].toNat:Int)==39)=false)))->(∀W,Laid W->Calls jm fn #[.string s,.int .i64 (j:Int)] W (eA T W))->Calls jm 119 #[.string s,.int .i64 (i:Int)] w (eA T w):=by
   intro T fn hq C;clear CJ;by_cases hk:T.kind=6
   .obtain⟨rfl,h1⟩|⟨h1,h2,⟨rfl,h3⟩|⟨h3,⟨rfl,h4⟩|⟨rfl,h4⟩⟩⟩:=hq;all_goals
     go_enter func119,ntmps119;go_wp2_with(first|(go_at_call 164;with_reducible refine(E _).mono ?_;rintro e w'⟨rfl,rfl⟩)|(go_at_call 166;refine(iC _ _).mono ?_;rintro e w'⟨rfl,rfl⟩)|(go_at_call 168;refine(tq _ _).mono ?_;rintro e w'⟨rfl,rfl⟩)|(go_at_call 171;refine(mg _ _).mono ?_;rintro e w'⟨rfl,rfl⟩)|((first|go_at_call 167|go_at_call 172|go_at_call 173|go_at_call 174);refine(C _ H).mono ?_;intro e w1 hp;obtain⟨rfl,hb⟩:=hp.bad hk;have eE:=ai<|HB.trans<|hb.mono ah;clear hb));exact⟨rfl,eE,Or.inr ⟨hk,rfl⟩⟩
   .obtain⟨rfl,h1⟩|⟨h1,h2,⟨rfl,h3⟩|⟨h3,⟨rfl,h4⟩|⟨rfl,h4⟩⟩⟩:=hq;all_goals
     go_enter func119,ntmps119;go_wp2_with(first|(go_at_call 164;with_reducible refine(E _).mono ?_;rintro e w'⟨rfl,rfl⟩)|(go_at_call 166;refine(iC _ _).mono ?_;rintro e w'⟨rfl,rfl⟩)|(go_at_call 168;refine(tq _ _).mono ?_;rintro e w'⟨rfl,rfl⟩)|(go_at_call 171;refine(mg _ _).mono ?_;rintro e w'⟨rfl,rfl⟩)|((first|go_at_call 167|go_at_call 172|go_at_call 173|go_at_call 174);refine(C _ H).mono ?_;intro e w1 hp;obtain⟨rfl,hb⟩:=hp.ok hk;have B1:=ai<|B0.below hb;have eE:=ai<|HB.trans<|hb.mono ah;have⟨c1,f1,y1⟩:=uh B1;clear hb));have BF:=B1.iU rfl (.int .i64 (T.aD:Int)) (.int .i64 (T.t9:Int)) (.string<|aq T) (.string T.text);obtain⟨cF,fF,zF⟩:=BF;exact bodyPost_ret (v:=dv T) (by simp[results,Tryz.results119,go_sem,cF,dv]) rfl ⟨eE.iU (Nat.le_refl _) _ _ _ _,Or.inl ⟨hk,rfl⟩⟩
  cases h1:Pu.gI s[j].toNat
  case true=>exact go _ _ (j6 ⟨rfl,h1⟩) λW hW=>by rw[Xb (by rw[CJ];exact h1)];exact(Lh hW s j hj hs).mono λe w' q=>⟨q.2,j6 ⟨by split<;>simp[Pu.gN],q.1⟩⟩
  case false=>
  have a1:Pu.gI (Pu.at_ s j)=false:=by rw[CJ];exact h1
  cases h2:Pu.Bv s[j].toNat
  case true=>
   have alA:=Pu.gq (s:=s) Pu.aV (i:=j) ae;have akl:=Pu.gd s Pu.aV j;rw[acj a1 (by rw[CJ];exact h2)];clear CJ a1;go_enter func119,ntmps119;go_wp2_with(first|(go_at_call 164;with_reducible refine(E _).mono ?_;rintro e w'⟨rfl,rfl⟩)|(go_at_call 164;with_reducible refine(kT (Or.inr<|Or.inl ⟨rfl,rfl⟩) s j _ hs ae).mono ?_;rintro e w'⟨rfl,rfl⟩)|(go_at_call 164;with_reducible refine(E _).mono ?_;rintro e w'⟨rfl,rfl⟩)|(go_at_call 166;refine(iC _ _).mono ?_;rintro e w'⟨rfl,rfl⟩)|(go_at_call 168;refine(tq _ _).mono ?_;rintro e w'⟨rfl,rfl⟩)|(go_at_call 171;refine(mg _ _).mono ?_;rintro e w'⟨rfl,rfl⟩)|(go_at_call 169;refine(DV s j _ _ akl alA hs).mono ?_;rintro e w1⟨rfl,hb⟩;have B1:=ai<|B0.below hb;have eE:=ai<|HB.trans<|hb.mono ah;have⟨c1,f1,y1⟩:=uh B1;clear hb));have BF:=B1.iU rfl (.int .i64 (j:Int)) (.int .i64 ((Pu.aH s Pu.aV j:Nat):Int)) (.string ⟨#[117,112,32,110,97,109,101]⟩) (.string<|s.extract j<|Pu.aH s Pu.aV j);obtain⟨cF,fF,zF⟩:=BF;exact bodyPost_ret (v:=dv<|Pu.gN s j 2<|Pu.aH s Pu.aV j) (by simp[results,Tryz.results119,go_sem,cF,dv,Pu.gN,aq]) rfl ⟨eE.iU (Nat.le_refl _) _ _ _ _,Or.inl ⟨by simp[Pu.gN],rfl⟩⟩
  case false=>
  have a2:Pu.Bv (Pu.at_ s j)=false:=by rw[CJ];exact h2
  cases h3:Pu.dB s[j].toNat
  case true=>exact go _ _ (j5 ⟨h1,h2,j6 ⟨rfl,h3⟩⟩) λW hW=>by rw[W9 hj (by rw[CJ];exact h3)];exact acf s j hj hs
  case false=>
  by_cases h4:s[j].toNat=39
  .exact go _ _ (j5 ⟨h1,h2,j5 ⟨h3,j6 ⟨rfl,bi⟩⟩⟩) λW hW=>by rw[W_ (by rw[CJ];exact h4)];exact aly hW s j hj hs
  .exact go _ _ (j5 ⟨h1,h2,j5 ⟨h3,j5 ⟨rfl,bi⟩⟩⟩) λW hW=>by rw[Xa a1 a2 (by rw[CJ];exact h3) (by rw[CJ];exact h4)];exact aiO hW s j hj hs
 .have he:((j:Int)==(s.size:Int))=true:=bi;have hjs:j=s.size:=ae;rw[if_neg hj];obtain⟨c1,f1,y1⟩:=B0;go_enter func119,ntmps119;go_wp2_with(first|(go_at_call 164;with_reducible refine(E _).mono ?_;rintro e w'⟨rfl,rfl⟩)|(go_at_call 166;refine(iC _ _).mono ?_;rintro e w'⟨rfl,rfl⟩)|(go_at_call 168;refine(tq _ _).mono ?_;rintro e w'⟨rfl,rfl⟩)|(go_at_call 171;refine(mg _ _).mono ?_;rintro e w'⟨rfl,rfl⟩));have BF:=Bx.new w #[.int .i64 (j:Int),.int .i64 (j:Int),.string ⟨#[116,104,101,32,101,110,100]⟩,.string ⟨#[]⟩] 237;obtain⟨cF,fF,zF⟩:=BF;subst hjs;exact bodyPost_ret (v:=dv<|Pu.fB s) (by simp[results,Tryz.results119,go_sem,cF,dv,Pu.fB,aq]) rfl ⟨(Below.refl w.heap.size w).alloc (Nat.le_refl _) _,Or.inl ⟨qBr,rfl⟩⟩
def wL{a b:ByteArray}(h:a.toList=b.toList):a=b:=by
 rw[jz,jz]at h;exact jf<|Array.toList_inj.1 h
abbrev Ky:=Nat×List UInt8
def fC(t:Pu.Tok):Ky:=(t.kind,t.text.toList)
abbrev Jy:Ky:=(5,[40])
abbrev jM:Ky:=(5,[41])
abbrev Pw:Ky:=(5,[44])
abbrev qO:Ky:=(5,[45,62])
mutual
def er:Nd->Nd
 |.mk k s _ L _ _ _=>.mk k s 0 (erL L) 0 0 0
def erL:List Nd->List Nd
 |[]=>[]|x::l=>er x::erL l
end
def jN(T:List Pu.Tok)(k:Nat)(p:List Ky):=∀i(h:i<p.length),fC (tk T<|k+i)=p[i]
def jN.left{T:List Pu.Tok}{p q}(h:jN T k (p++q)):jN T k p:=λi hi=>by
 have:=h i bi
 rwa[List.getElem_append_left hi]at this
def jN.right{T:List Pu.Tok}{p q}(h:jN T k (p++q)):jN T (k+p.length) q:=λi hi=>by
 have:=h (p.length+i) bi;rw[List.getElem_append_right ae]at this;simpa[Nat.add_assoc]using this
def jN.hd{T:List Pu.Tok}{x}{q}(h:jN T k (x::q)):fC (tk T k)=x:=h 0 ah
def jN.tl{T:List Pu.Tok}{x}{q}(h:jN T k (x::q)):jN T (k+1) q:=λi hi=>by
 have:=h (i+1) bi;simpa[Nat.add_assoc,Nat.add_comm 1 i]using this
def Tk{t}{l:List UInt8}:aU t ⟨l.toArray⟩=(fC t==(5,l)):=by
 rw[GF];rw[fC];rfl
def KO{T:List Pu.Tok}mk(h:fC (tk T k)=jM):qS T mk k=.ok (mk<|k+1,k+1):=by
 rw[qS,aX,bm];rw[Tk,h];simp
end Go.Proofs.YtopmodaakdnliaaGreatDoor

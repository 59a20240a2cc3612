import Derived.BigQuiet
import Derived.Deep.LoopGhost
import Derived.Deep.RegionHeld3
import Derived.Deep.Slices
import Derived.OpenShut
import Derived.ProofKit
import Derived.Test.YtfnkchdeheeiiaaGreatDoorRows
import Derived.WalkLawsBesides
import Derived.WalkSpells
set_option linter.all false
set_option maxRecDepth 100000
set_option maxHeartbeats 8000000
namespace Go.Proofs.YtfnkchdeheeiiaaGreatDoor
open _root_.ByteArray renaming size_extract->ja,extract_extract->jc,data_extract->jd,ext->jf
open _root_.Nat renaming le_refl->jh,lt_of_lt_of_le->ji,ble->jj,le_trans->jk,add_zero->jl
open Go.Proofs.Tryz renaming prog->jm
open _root_.List renaming getElem?_eq_getElem->jo,getD_eq_getElem?_getD->jp,any_eq_false->jq
open Go.RowKit.Below renaming refl->jt,heap_setCell->ju
open Bool renaming eq_iff_iff->jv,and_eq_true->jx
open Go.ByteArray renaming toList_eq->jy
open Go.World renaming cell?_of_block->jz,setCell->j3
open Go.Ending renaming returned->j5
open Or renaming inr->j6,inl->j7
open Go Proofs.Tryz
variable {C:Array Value} {s:ByteArray} {l:List UInt8} {b base cap g i k n rb v:Nat} {p:Nat->Bool} {α:Type} {e:TypeId} {a w w':World}
section
open Go.ChangeShapes Go.WideShapes Go.RowKit Go.Deep
section
variable {H:Type} {enc:TypeId×Value->H} {P:Program} {spare:Nat->Bool} {held:Bool}
def ME{t:ByteArray}(h:s.data.toList=t.data.toList):s=t:=by
 cases s;cases t
 simp at h;simp[h]
def zH{t}{fuel}{cs}{p}(L:List ByteArray)(ht:P.underlying t=some (.array n e))(he:P.underlying e=some .string)(hc:P.cellsOf e=1)(h:DataW.trod enc P w base spare held fuel t cs=some (.agg<|L.map λs=>.lit<|.string s.data.toList,p)):∀j,j<n->cs[j]? =some (.string<|L.getD j ⟨#[]⟩):=by
 intro j hj;have⟨xs,m,_,hx,hl,hn,hel⟩:=DataW.trod_array ht h;simp only[Prod.mk.injEq,DataW.agg.injEq]at hx;have hg:=hel j hj;rw[hc,Nat.mul_one,jo<|by omega]at hg;have⟨s,h1,h2,_⟩:=DataW.trod_string he hg;have h3:(L.map λs=>(DataW.lit (.string s.data.toList):DataW H))[j]? =some (.lit<|.string s.data.toList):=by
  rw[hx.1,List.getElem?_map,jo<|by omega,h2];rfl
 rw[List.getElem?_map]at h3
 cases hL:L[j]? with
 |none=>rw[hL]at h3;simp at h3|some u=>
  rw[hL]at h3;simp at h3;have hu:=ME (by simpa using h3);have h4:cs[j]? =some (.string s):=by
   have:=congrArg (λl=>l[0]?) h1;simpa[List.getElem?_take,List.getElem?_drop]using this
  rw[h4,jp,hL,hu];rfl
end
def X8:Tryz.prog.cellsOf 3=1:=by kernel_rfl
def strCells:Tryz.prog.cellsOf 9=1:=by kernel_rfl
end
namespace Pu
def at_(s:ByteArray)i:=if h:i<s.size then s[i].toNat else 256
def lW(h:i<s.size):at_ s i=s[i].toNat:=by simp[at_,h]
def Iu(h:s.size<=i):at_ s i=256:=by simp[at_];omega
def fk c:=jj 97 c&&jj c 122
def Bl c:=jj 65 c&&jj c 90
def dI c:=jj 48 c&&jj c 57
def aV c:=fk c||Bl c||dI c
def Iw(s:ByteArray)(p:Nat->Bool):Nat->Nat->Nat
 |0,i=>i|f+1,i=>if p (at_ s i)=true then Iw s p f (i+1)else i
def aG s p i:=Iw s p (s.size-i) i
def eD(h:i<s.size)(hp:p (at_ s i)=true):aG s p i=aG s p (i+1):=by
 unfold aG;obtain⟨k,hk⟩:∃k,s.size-i=k+1:=⟨s.size-i-1,by omega⟩;rw[hk,Iw,if_pos hp,show s.size-(i+1)=k by omega]
def ol(h:i<s.size)(hp:p (at_ s i)=false):aG s p i=i:=by
 rw[aG];obtain⟨k,hk⟩:∃k,s.size-i=k+1:=⟨s.size-i-1,by omega⟩;rw[hk,Iw,if_neg<|by simp[hp]]
def jD(h:s.size<=i):aG s p i=i:=by
 rw[aG];rw[show s.size-i=0 by omega];rfl
def Qd s p f i:i<=Iw s p f i/\Iw s p f i<=i+f:=by
 induction f generalizing i with
 |zero=>simp[Iw]
 |succ f ih=>unfold Iw;split
             .grind
             .omega
def eO s p i:i<=aG s p i:=(Qd _ _ _ _).1
def gh p(h:i<=s.size):aG s p i<=s.size:=by
 have:=(Qd s p (s.size-i) i).2;rw[aG];omega
def words:List ByteArray:=[⟨#[116,121,112,101]⟩,⟨#[108,101,116]⟩,⟨#[114,101,99]⟩,⟨#[105,110]⟩,⟨#[102,117,110]⟩,⟨#[105,102]⟩,⟨#[116,104,101,110]⟩,⟨#[101,108,115,101]⟩,⟨#[109,97,116,99,104]⟩,⟨#[119,105,116,104]⟩,⟨#[101,110,100]⟩,⟨#[116,114,117,101]⟩,⟨#[102,97,108,115,101]⟩]
def jP k:=words.getD k ⟨#[]⟩
def eP(s:ByteArray):Bool:=words.any λw=>w.toList==s.toList
def X9(hk:k<13)(h:((jP k).toList==s.toList)=true):eP s=true:=by
 rw[eP];rw[List.any_eq_true];refine⟨jP k,?_,h⟩;rw[jP];rw[jp,jo<|by simpa[words]using hk];exact List.getElem_mem _
def MH(h:∀j,j<13->((jP j).toList==s.toList)=false):eP s=false:=by
 rw[eP];rw[jq];intro x hx;obtain⟨i,hi,rfl⟩:=List.getElem_of_mem hx;have:=h i (by simpa[words]using hi);rw[jP]at this;rw[jp,jo hi]at this;simpa using this
structure Tok where
 kind:Nat
 text:ByteArray
 al:Nat
 to:Nat
def Cx c:=[40,41,44,59,58,61,124,43,45,42,60,95].any λd=>d==c
def gG(s:ByteArray)(i:Nat)(k to:Nat):Tok:=⟨k,s.extract i to,i,to⟩
def cI s i:=
 if fk (at_ s i)=true then
  if eP (s.extract i<|aG s aV i)=true then gG s i 5 (aG s aV i)else gG s i 1 (aG s aV i)
 else if Bl (at_ s i)=true then gG s i 2 (aG s aV i)
 else if at_ s i=39/\fk (at_ s<|i+1)=true then
  if eP (s.extract (i+1)<|aG s aV<|i+1)=true then gG s i 6 (aG s aV<|i+1)else gG s i 3 (aG s aV<|i+1)
 else if dI (at_ s i)=true then
  if aG s dI (i+1)-i<=9 then gG s i 4 (aG s dI<|i+1)else gG s i 6 (aG s dI<|i+1)
 else if at_ s i=45/\at_ s (i+1)=62 then gG s i 5 (i+2)
 else if Cx (at_ s i)=true then gG s i 5 (i+1)else gG s i 6 (i+1)
end Pu
section
open Go.RowKit
def X_ c:Pu.fk c=decide (97<=(c:Int)/\(c:Int)<=122):=by
 rw[jv];simp[Pu.fk];omega
def acA c:Pu.Bl c=decide (65<=(c:Int)/\(c:Int)<=90):=by
 rw[jv];simp[Pu.Bl];omega
def X' c:Pu.dI c=decide (48<=(c:Int)/\(c:Int)<=57):=by
 rw[jv];simp[Pu.dI];omega
def ai{p:Prop}(h:p):Hid p:=h
def uh{p:Prop}(h:Hid p):p:=h
def qkr{p:Prop}(h:p:=by kernel_rfl):p:=h
def ae{p:Prop}(h:p:=by omega):p:=h
def ag{p:Prop}(h:p:=by simp):p:=h
def aK{p:Prop}(h:p:=by decide):p:=h
def bB{p:Prop}(h:p:=by simp;omega):p:=h
def D8{p:Prop}(h:p:=by rw[en];omega):p:=h
def Wu{p:Prop}(h:p:=by rw[maxLen];omega):p:=h
def Bm{p:Prop}(h:p:=by simpa using h):p:=h
def qas{p:Prop}(h:p:=by assumption):p:=h
def qbr{p:Prop}(h:p:=by exact br _):p:=h
def Cy{p:Prop}(h:p:=by simp only[nn,b8]at hk;omega):p:=h
def qA{p:Prop}(h:p:=by rw[uh en];omega):p:=h
def qAc{p:Prop}(h:p:=by rw[Ix hc];decide):p:=h
def LG{p:Prop}(h:p:=by simp[nn,b8];omega):p:=h
def lI{p:Prop}(h:p:=by cases q):p:=h
def yw{p:Prop}(h:p:=by simp[World.setCell]):p:=h
def LB{p:Prop}(h:p:=by rw[o.size];exact br _):p:=h
def iK{p:Prop}(h:p:=by go_num):p:=h
def qAi{p:Prop}(h:p:=by intro x hx c;simp at hx;subst hx;intro q;cases q):p:=h
def qAj{p:Prop}(h:p:=by rw[dM];exact Nat.le_trans LH.2<|ai2 hd):p:=h
def Gd{p:Prop}(h:p:=by simp at hi;omega):p:=h
def tW{p:Prop}(h:p:=by simp at h):p:=h
def qAm{p:Prop}(h:p:=by rw[show gM.toList=[40]from toList_mk [40]];decide):p:=h
def qAn{p:Prop}(h:p:=by intro u hu;simp at hu;subst hu;rfl):p:=h
def qAo{p:Prop}(h:p:=by rw[dM];exact Nat.le_trans T0.2<|ai2 hd):p:=h
def qAp{p:Prop}(h:p:=by simp[ByteArray.toList_eq]):p:=h
def qAq{p:Prop}(h:p:=by simp[Pu.eP,Pu.words,ByteArray.toList_eq]):p:=h
def qAr{p:Prop}(h:p:=by obtain⟨L,h1,_⟩:=h;exact h1.lt):p:=h
def qAs{p:Prop}(h:p:=by obtain⟨L,h1,h2⟩:=h;exact⟨L,h1.same hb,h2⟩):p:=h
def MI{p:Prop}(h:p:=by simp[Un.dR]):p:=h
def qAu{p:Prop}(h:p:=by show w.heap.size<=b;omega):p:=h
def qAv{p:Prop}(h:p:=by have:=MJ x;omega):p:=h
def qAw{p:Prop}(h:p:=by rw[q]at r;cases r):p:=h
def Xq{p:Prop}(h:p:=by rw[aL];omega):p:=h
def qAy{p:Prop}(h:p:=by have:wr.heap.size<=b:=p.1;omega):p:=h
def qAz{p:Prop}(h:p:=by simp[World.setCell];exact Z1):p:=h
def PS{p:Prop}(h:p:=by simp[go_sem]):p:=h
def yG{p:Prop}(h:p:=by grind):p:=h
def qBe{p:Prop}(h:p:=by rw[ByteArray.toList_eq];decide):p:=h
def ML{p:Prop}(h:p:=by simp[q]):p:=h
def qBg{p:Prop}(h:p:=by simp[aX]at h):p:=h
def qBh{p:Prop}(h:p:=by rw[uh hC];exact aY):p:=h
def qBi{p:Prop}(h:p:=by simp[nn,b8]):p:=h
def qBj{p:Prop}(h:p:=by simp only[kS];exact .ret ⟨ρ,h.refl⟩):p:=h
def qBk{p:Prop}(h:p:=by rw[gi hk];rfl):p:=h
def qBl{p:Prop}(h:p:=by simpa using hi):p:=h
def qBm{p:Prop}(h:p:=by simp[Array.getD_eq_getD_getElem?,hu]):p:=h
def qBn{p:Prop}(h:p:=by rw[Ix hc.2];decide):p:=h
def qBo{p:Prop}(h:p:=by rw[ByteArray.size_extract];omega):p:=h
def Mn{p:Prop}(h:p:=by cases h):p:=h
def Mm{p:Prop}(h:p:=by simp[e]):p:=h
def qBr{p:Prop}(h:p:=by simp[Pu.dL]):p:=h
def qBs{p:Prop}(h:p:=by subst e;simp at aY):p:=h
def qBt{p:Prop}(h:p:=by have:=hr4 k e;omega):p:=h
def qBu{p:Prop}(h:p:=by simp[World.cell?,h1]):p:=h
def qBv{p:Prop}(h:p:=by have:w0.heap.size<=i:=p;omega):p:=h
def qBw{p:Prop}(h:p:=by have:=H.cn;omega):p:=h
def qBx{p:Prop}(h:p:=by simpa[aD]using hn):p:=h
def qne{p:Prop}(h:p:=by intro b p;try dsimp only at p⊢;omega):p:=h
@[simp] theorem nq0(x : Bool)(w : World) : (Op.unary .not<|.bool x).run jm w = .ok (.bool<|!x) w := rfl
@[simp] theorem nq1(f : Fn)(a b : Array Value)(w : World) : (Instr.makeFunc f a b).run jm w = .ok (.func f a b) w := rfl
@[simp] abbrev Nv(n : Nat) : Value := .int .i64 (n : Int)
@[simp] abbrev Iv(n : Int) : Value := .int .i64 n
@[simp] abbrev Pv(b : Nat) : Value := .pointer<|some ⟨b, 0, none⟩
@[simp] abbrev Mv(b : Nat) : Value := .map<|some b
abbrev Bq(a b : World) := Below a.heap.size a b
abbrev Cq := Calls jm
@[simp] abbrev Sv(s : ByteArray) : Value := .string s
@[simp] abbrev Fv(t : TypeId)(v : Value) : Value := .iface t v
@[simp] abbrev Lv(a : Option Addr)(l c : Nat) : Value := .slice a l c
@[simp] abbrev Av(c : Array Value) : Value := .agg c
@[simp] abbrev Zv : Value := .nilIface
@[simp] abbrev Cv(c : Array Value)(t : TypeId)(f : Nat × Nat := (0, 0)) : Obj := .cells c t f
@[simp] abbrev Rv(v : Value) : Ending := .returned v
def bw(o:Obj):Below w.heap.size w (w.alloc o):=(jt _ _).alloc (jh _) o
def br(n:Nat):n<=n:=jh n
abbrev BA:=ByteArray
def tQ{a b:List α}:(a++b).length=a.length+b.length:=List.length_append
def pk{a:α}{b:List α}:(a::b).length=b.length+1:=List.length_cons
def ua:([]:List α).length=0:=List.length_nil
def iT{a b}(h:a=b):j5 (.bool a)=.returned (.bool b):=congrArg (λx=>j5<|.bool x) h
def Ya{k}{a b}(h:a=b):j5 (.int k a)=.returned (.int k b):=congrArg (λx=>j5<|.int k x) h
def step_end{j}{b}(bq:j<s.size)(he:Hid (Pu.aG s p i=Pu.aG s p j))(hb:p (Pu.at_ s j)=b):
 Hid (Pu.aG s p i=if b=true then Pu.aG s p (j+1)else j):=by
 cases b
 .show _=_;rw[he.out,Pu.ol bq hb];rfl
 .show _=_;rw[he.out,Pu.eD bq hb];rfl
end
namespace Pu
def Iy(h:i<s.size)(hp:p (at_ s i)=true):i+1<=aG s p i:=by
 rw[eD h hp];exact eO _ _ _
def aeK(h:at_ s i<256):i<s.size:=by
 by_cases e:i<s.size
 .exact e
 .rw[Iu ae]at h;omega
def Cz s i:(cI s i).al=i:=by
 rw[cI];repeat(first|rfl|split)
def lX s i(h:i<s.size):i<(cI s i).to/\(cI s i).to<=s.size:=by
 rw[cI];by_cases h1:fk (at_ s i)=true
 .have a:=Iy (p:=aV) h (by simp[aV,h1]);have b:=gh (s:=s) aV (i:=i) ae;rw[if_pos h1];split<;>exact⟨a,b⟩
 rw[if_neg h1];by_cases h2:Bl (at_ s i)=true
 .have a:=Iy (p:=aV) h (by simp[aV,h2]);have b:=gh (s:=s) aV (i:=i) ae;rw[if_pos h2];exact⟨a,b⟩
 rw[if_neg h2];by_cases h3:at_ s i=39/\fk (at_ s<|i+1)=true
 .have c:i+1<s.size:=aeK (by have:=h3.2;simp[fk]at this;omega);have a:=eO s aV<|i+1;have b:=gh (s:=s) aV (i:=i+1) ae;rw[if_pos h3];split<;>exact⟨a,b⟩
 rw[if_neg h3];by_cases h4:dI (at_ s i)=true
 .have a:=eO s dI<|i+1;have b:=gh (s:=s) dI (i:=i+1) ae;rw[if_pos h4];split<;>exact⟨a,b⟩
 rw[if_neg h4];by_cases h5:at_ s i=45/\at_ s (i+1)=62
 .have c:i+1<s.size:=aeK ae;rw[if_pos h5];exact⟨by show i<i+2;omega,by show i+2<=_;omega⟩
 rw[if_neg h5];split<;>exact⟨by show i<i+1;omega,by show i+1<=_;omega⟩
def dr c:=c==32||c==10
def dL(s:ByteArray):Tok:=⟨7,⟨#[]⟩,s.size,s.size⟩
def nC(s:ByteArray):Nat->Nat->List Tok
 |0,_=>[dL s]|f+1,i=>if i<s.size then(if dr (at_ s i)=true then nC s f (i+1)else cI s i::nC s f (cI s i).to)else[dL s]
def MN s:∀f g i,s.size<=i+f->s.size<=i+g->nC s f i=nC s g i:=by
 intro f
 induction f with
 |zero=>
  intro g i h1 h2
  cases g with
  |zero=>rfl|succ g=>unfold nC;rw[if_neg ae]
 |succ f ih=>
  intro g i h1 h2
  cases g with
  |zero=>grind|succ g=>
   unfold nC;by_cases h:i<s.size
   .rw[if_pos h,if_pos h];have ht:=lX s i h;rw[ih g (i+1) ae ae,ih g (cI s i).to ae ae]
   .grind
def bH s i:=nC s (s.size-i) i
def Iz(h:s.size<=i):bH s i=[dL s]:=by
 rw[bH];rw[show s.size-i=0 by omega];rfl
def zI(h:i<s.size)(hb:dr (at_ s i)=true):bH s i=bH s (i+1):=by
 unfold bH;obtain⟨k,hk⟩:∃k,s.size-i=k+1:=⟨s.size-i-1,ae⟩;rw[hk,nC,if_pos h,if_pos hb,show s.size-(i+1)=k by omega]
def IA(h:i<s.size)(hb:dr (at_ s i)=false):bH s i=cI s i::bH s (cI s i).to:=by
 unfold bH;obtain⟨k,hk⟩:∃k,s.size-i=k+1:=⟨s.size-i-1,ae⟩;have ht:=lX s i h;rw[hk,nC,if_pos h,if_neg<|by simp[hb],MN s k (s.size-(cI s i).to) _ ae ae]
end Pu
section
open Go.RowKit
structure Fl where
 kind:Nat
 al:Nat
 to:Nat
def dx:Fl:=⟨0,0,0⟩
def dc(t:Pu.Tok):Fl:=if t.kind=6 then⟨2,t.al,t.to⟩else⟨3,t.al,t.to⟩
structure Ke rb(w w':World):Prop where
 os:w'.os=w.os
 tape:w'.tape=w.tape
 output:w'.output=w.output
 size:w.heap.size<=w'.heap.size
 block:∀k,k<w.heap.size->k≠rb->w'.heap[k]? =w.heap[k]?
def Ke.refl rb w:Ke rb w w:=⟨rfl,rfl,rfl,jh _,λ_ _ _=>rfl⟩
def Ke.of(h:Below w.heap.size w w'):Ke rb w w':=⟨h.os,h.tape,h.output,h.size,λk hk _=>h.block k hk⟩
def Ke.trans{rb}{a b c}(h:Ke rb a b)(k:Ke rb b c):Ke rb a c:=
 ⟨k.os.trans h.os,k.tape.trans h.tape,k.output.trans h.output,jk h.size k.size,λi hi hn=>(k.block i (ji hi h.size) hn).trans<|h.block i hi hn⟩
def Ke.alloc{rb:Nat}{a w:World}(h:Ke rb a w)o:Ke rb a (w.alloc o):=h.trans<|Ke.of<|(jt _ _).alloc (jh _) o
def Ke.set(h:Ke rb a w)j u:Ke rb a (w.setCell ⟨rb,j,none⟩ u):=
 h.trans ⟨rfl,rfl,rfl,yw,λk _ hn=>ju _ _ _ _ hn⟩
def Ke.cell{rb}{w w'}(h:Ke rb w w'){b o}(hb:b<w.heap.size)(hn:b≠rb):w'.cell? ⟨b,o,none⟩=w.cell? ⟨b,o,none⟩:=jz (a:=⟨b,o,none⟩)<|h.block b hb hn
def tk(T:List Pu.Tok)k:=T.getD k ⟨7,⟨#[]⟩,0,0⟩
def IB{T:List Pu.Tok}(h:k<T.length):T[k]'h=tk T k:=by
 rw[tk];rw[jp,jo h];rfl
def a_(t:Pu.Tok)(s:ByteArray):Bool:=t.kind==5&&t.text.toList==s.toList
abbrev St:=Except Fl Nat
abbrev M(α:Type):=Nat->Except Fl (α×Nat)
def nx{α:Type}(σ:St)(m:M α):St:=match σ with
 |.error e=>.error e
 |.ok k=>match m k with
  |.error e=>.error e|.ok (_,k')=>.ok k'
def mQ{α:Type}(T:List Pu.Tok):M α:=λk=>.error<|dc<|tk T k
def bt(T:List Pu.Tok)(s:ByteArray):M Unit:=λk=>if a_ (tk T k) s=true then .ok ((),k+1)else .error (dc<|tk T k)
def di(T:List Pu.Tok)(n:Nat):M Pu.Tok:=λk=>if(tk T k).kind==n then .ok (tk T k,k+1)else .error (dc<|tk T k)
def aE(T:List Pu.Tok)k:=if k=0 then 0 else(tk T<|k-1).to
structure Bx(w:World)b(C:Array Value):Prop where
 c:∀o,w.cell? ⟨b,o,none⟩=C[o]?
 f:∀o,w.frozen? ⟨b,o,none⟩=false
 z:b<w.heap.size
def Bx.new(w:World)C t:Bx (w.alloc<|.cells C t) w.heap.size C:=⟨λo=>ag,λo=>ag,ag⟩
def nK(w:World)(C:Array Value)(t:TypeId):Below w.heap.size w (w.alloc<|.cells C t)/\Bx (w.alloc<|.cells C t) w.heap.size C:=⟨bw _,Bx.new w C t⟩
def sf(w:World)(C:Array Value)(t:TypeId):Below w.heap.size w (w.alloc<|.cells C t)/\Hid (Bx (w.alloc<|.cells C t) w.heap.size C):=⟨bw _,Bx.new w C t⟩
def Bx.same(h:Bx w b C)(hs:w.heap.size<=w'.heap.size)(hb:w'.heap[b]? =w.heap[b]?):Bx w' b C:=
 ⟨λo=>by rw[jz (a:=⟨b,o,none⟩) (w:=w) hb];exact h.c o,λo=>by rw[World.frozen?_of_block (a:=⟨b,o,none⟩) (w:=w) hb];exact h.f o,ji h.z hs⟩
def Bx.below(h:Bx w b C)(hb:Below w.heap.size w w'):Bx w' b C:=h.same hb.size<|hb.block b h.z
def Bx.ke(h:Bx w b C)(hb:Ke rb w w')(hn:b≠rb):Bx w' b C:=h.same hb.size<|hb.block b h.z hn
def Bx.alloc{w:World}{b:Nat}{C:Array Value}(h:Bx w b C)o:Bx (w.alloc o) b C:=h.below<|(jt _ _).alloc (jh _) o
def Ke.om(h:Ke rb a w)(hb:a.heap.size<=b)j u:Ke rb a (w.setCell ⟨b,j,none⟩ u):=
 ⟨h.os,h.tape,h.output,by simpa[j3]using h.size,λk hk hn=>by rw[ju _ _ _ _ (by show k≠b;omega)];exact h.block k hk hn⟩
def dr c:=c==32||c==10
def MO(c:Nat):(((c:Int)==32)||((c:Int)==10))=dr c:=by
 rw[jv];simp[dr];omega
def ir(c:Nat)w:Calls jm 209 #[.int .u8 (c:Int)] w λe w'=>e=.returned (.bool<|Pu.fk c)/\w'=w:=by
 go_enter func209,ntmps209
 go_wp2
 all_goals(go_ret;exact⟨iT (by rw[X_];symm;simp;try omega),rfl⟩)
def su(c:Nat)w:Calls jm 211 #[.int .u8 (c:Int)] w λe w'=>e=.returned (.bool<|Pu.Bl c)/\w'=w:=by
 go_enter func211,ntmps211
 go_wp2
 all_goals(go_ret;exact⟨iT (by rw[acA];symm;simp;try omega),rfl⟩)
def lY(c:Nat)w:Calls jm 214 #[.int .u8 (c:Int)] w λe w'=>e=.returned (.bool<|Pu.dI c)/\w'=w:=by
 go_enter func214,ntmps214
 go_wp2
 all_goals(go_ret;exact⟨iT (by rw[X'];symm;simp;try omega),rfl⟩)
def MP(c:Nat)w:Calls jm 208 #[.int .u8 (c:Int)] w λe w'=>e=.returned (.bool<|dr c)/\w'=w:=by
 go_enter func208,ntmps208
 go_wp2
 all_goals(go_ret;exact⟨iT (by rw[<-MO];try simp[*]),rfl⟩)
def T7(c:Nat)w:Calls jm 213 #[.int .u8 (c:Int)] w λe w'=>e=.returned (.bool<|Pu.aV c)/\w'=w:=by
 have hn:Pu.aV c=(Pu.fk c||Pu.Bl c||Pu.dI c):=rfl;have ai3:(Pu.fk c=true\/(Pu.fk c=false/\Pu.Bl c=true))\/(Pu.fk c=false/\Pu.Bl c=false):=by
  cases Pu.fk c<;>cases Pu.Bl c<;>simp
 obtain  (h1|⟨h1,h2⟩)|⟨h1,h2⟩:=ai3;all_goals
  simp only[*,Bool.or_true,Bool.true_or,Bool.false_or]at hn;have hn:=ai hn;go_enter func213,ntmps213;go_wp2_with(first|(go_at_call 209;refine(ir _ _).mono ?_;rintro e w'⟨rfl,rfl⟩)|(go_at_call 211;refine(su _ _).mono ?_;rintro e w'⟨rfl,rfl⟩)|(go_at_call 214;refine(lY _ _).mono ?_;rintro e w'⟨rfl,rfl⟩));go_ret;exact⟨iT hn.symm,rfl⟩
def kT{fn}(hq:fn=208/\p=dr\/fn=213/\p=Pu.aV\/fn=214/\p=Pu.dI)(s:ByteArray)(i:Nat)(w:World)(hs:s.size<=1000)(hi:i<=s.size):
 Calls jm 207 #[.string s,.int .i64 (i:Int),.func (.func fn) #[] #[]] w λe w'=>e=.returned (.int .i64<|Pu.aG s p i)/\w'=w:=by
 have H:∀(c:Nat)(w:World),Calls jm fn #[.int .u8 (c:Int)] w λe w'=>e=.returned (.bool<|p c)/\w'=w:=by obtain⟨rfl,rfl⟩|⟨rfl,rfl⟩|⟨rfl,rfl⟩:=hq;exact MP;exact T7;exact lY
 obtain⟨rfl,hq⟩|⟨rfl,hq⟩|⟨rfl,hq⟩:=hq;all_goals
  clear hq;go_enter func207,ntmps207
  go_wp2
  go_loop[7] (λv=>∃j:Nat,j<=s.size/\v=.int .i64 (j:Int)/\Hid (Pu.aG s p i=Pu.aG s p j)) (λv=>s.size-(intOf v).toNat)
  case atStart=>exact⟨i,hi,rfl,rfl⟩
  case round=>
   obtain⟨j,hj,rfl,he⟩:=hrel;by_cases bq:j<s.size
   .have hn:=Pu.lW bq
    cases hp:p (Pu.at_ s j)with
    |true=>
     have hm:=step_end bq he hp;rw[hn]at hp;go_wp2_with((first|go_at_call 208|go_at_call 213|go_at_call 214);refine(H _ _).mono ?_;rintro e w'⟨rfl,rfl⟩);go_round
     case rel=>exact⟨j+1,ae,iK,by simpa using hm⟩
     case measure=>simp[intOf];omega
    |false=>
     have hm:=step_end bq he hp;rw[hn]at hp;go_wp2_with((first|go_at_call 208|go_at_call 213|go_at_call 214);refine(H _ _).mono ?_;rintro e w'⟨rfl,rfl⟩);go_ret;exact⟨Ya<|congrArg Nat.cast<|hm.out.symm,rfl⟩
   .go_wp2
    go_ret;exact⟨Ya<|by rw[he.out,Pu.jD ae],rfl⟩
def aq(t:Pu.Tok):ByteArray:=
 if t.kind=1 then⟨#[108,111,119,32,110,97,109,101]⟩else if t.kind=2 then⟨#[117,112,32,110,97,109,101]⟩else if t.kind=3 then⟨#[97,32,118,97,114,105,97,98,108,101]⟩
 else if t.kind=4 then⟨#[97,32,110,117,109,98,101,114]⟩else if t.kind=7 then⟨#[116,104,101,32,101,110,100]⟩else t.text
def dz(t:Pu.Tok):Value:=.agg #[.int .i64 (t.al:Int),.int .i64 (t.to:Int),.string<|aq t,.string t.text]
def aeL(a:Nat->ByteArray):∀{j:Nat},j<13->∀w:World,(Instr.index 403 (.agg #[.string<|a 0,.string<|a 1,.string<|a 2,.string<|a 3,.string<|a 4,.string<|a 5,.string<|a 6,.string<|a 7,.string<|a 8,.string<|a 9,.string<|a 10,.string<|a 11,.string<|a 12])<|.int .i64 (j:Int)).run jm w=.ok (.string<|a j) w
 |0,_,w=>qkr|1,_,w=>qkr|2,_,w=>qkr|3,_,w=>qkr|4,_,w=>qkr|5,_,w=>qkr|6,_,w=>qkr|7,_,w=>qkr|8,_,w=>qkr|9,_,w=>qkr|10,_,w=>qkr|11,_,w=>qkr|12,_,w=>qkr|_+13,h,_=>absurd h ae
def CA{a b:List UInt8}:(a==b)=(b==a):=yG
def Qe{p:Prop}(h:p:=by
 subst hC;refine⟨λo=>?_,λo=>by simp;exact h.f o,by simpa[j3]using h.z⟩;by_cases e:o=j
 .subst e;rw[World.cell?_setCell_same _ _ _<|(h.c o).trans<|Array.getElem?_eq_getElem hj];simp[hj]
 .rw[World.cell?_setCell_other _ _ _ _ (by intro q;injection q with _ q;exact e q.symm),h.c o,Array.getElem?_setIfInBounds_ne ae]):p:=h
def Bx.aP(h:Bx w b C)j v C'(hC:C'=C.setIfInBounds j v)(hj:j<C.size):Bx (w.setCell ⟨b,j,none⟩ v) b C':=by
 exact Qe
def signs:List ByteArray:=[⟨#[45,62]⟩,⟨#[40]⟩,⟨#[41]⟩,⟨#[44]⟩,⟨#[59]⟩,⟨#[58]⟩,⟨#[61]⟩,⟨#[124]⟩,⟨#[43]⟩,⟨#[45]⟩,⟨#[42]⟩,⟨#[60]⟩,⟨#[95]⟩]
def cJ k:=signs.getD k ⟨#[]⟩
def IC{u}(h:Below w.heap.size w u)b o(hb:b<w.heap.size):u.cell? ⟨b,o,none⟩=w.cell? ⟨b,o,none⟩:=jz (a:=⟨b,o,none⟩)<|h.block b hb
def CB(s:ByteArray)i j(k:ByteArray)(hij:i<=j)(hj:j<=s.size)(hs:s.size<=1000):
 Calls jm 212 #[.string s,.int .i64 (i:Int),.int .i64 (j:Int),.string k] w λe w'=>e=.returned (.agg #[.int .i64 (i:Int),.int .i64 (j:Int),.string k,.string<|s.extract i j])/\Below w.heap.size w w':=by
 have h1:(i:Int)<=(j:Int):=ae;have h2:(j:Int)<=(s.size:Int):=ae;go_enter func212,ntmps212
 go_wp2
 exact bodyPost_ret (v:=.agg #[.int .i64 (i:Int),.int .i64 (j:Int),.string k,.string<|s.extract i j]) (by simp[results,Tryz.results212,go_sem]) rfl ⟨rfl,(jt _ _).alloc (jh _) _⟩
def lZ i j:Calls jm 258 #[.int .i64 i,.int .i64 j] w λe w'=>e=.returned (.agg #[.int .i64 2,.int .i64 i,.int .i64 j])/\Below w.heap.size w w':=by
 go_enter func258,ntmps258
 go_wp2
 exact bodyPost_ret (v:=.agg #[.int .i64 2,.int .i64 i,.int .i64 j]) (by simp[results,Tryz.results258,go_sem]) rfl ⟨rfl,(jt _ _).alloc (jh _) _⟩
structure Laid(w:World):Prop where
 words:∀j,j<13->w.cell? ⟨2,j,none⟩=some (.string<|Pu.jP j)
 signs:∀j,j<13->w.cell? ⟨0,j,none⟩=some (.string<|cJ j)
 hz:3<=w.heap.size
def Laid.af{w}(h:Laid w)(hb:Below w.heap.size w w'):Laid w':=
 ⟨λj hj=>(IC hb 2 j (by have:=h.hz;omega)).trans<|h.words j hj,λj hj=>(IC hb 0 j (by have:=h.hz;omega)).trans<|h.signs j hj,jk h.hz hb.size⟩
def Qf{p:Prop}(h:p:=by
 go_round
 case rel=>exact⟨j+1,ae,iK,hn2⟩
 case measure=>simp[intOf];omega):p:=h
def sv(h:Laid w)(s:ByteArray):Calls jm 257 #[.string s] w λe w'=>e=.returned (.bool<|Pu.eP s)/\w'=w:=by
 have g0:=h.words 0 ae;have g1:=h.words 1 ae;have g2:=h.words 2 ae;have g3:=h.words 3 ae;have g4:=h.words 4 ae;have g5:=h.words 5 ae;have g6:=h.words 6 ae;have g7:=h.words 7 ae;have g8:=h.words 8 ae;have g9:=h.words 9 ae;have g10:=h.words 10 ae;have g11:=h.words 11 ae;have g12:=h.words 12 ae;go_enter func257,ntmps257
 go_wp2
 go_loop[6] (λv=>∃j:Nat,j<=13/\v=.int .i64 (j:Int)/\Hid (∀i,i<j->(s.toList==(Pu.jP i).toList)=false)) (λv=>13-(intOf v).toNat)
 case atStart=>exact⟨0,ae,rfl,λi h=>ae⟩
 case round=>
  obtain⟨j,hj,rfl,mE⟩:=hrel;by_cases bq:j<13
  .have hix:=aeL Pu.jP bq;have hd:(j:Int)<13:=ae
   cases he:(s.toList==(Pu.jP j).toList)with
   |true=>
    have hb:Hid (Pu.eP s=true):=Pu.X9 bq (by rw[CA];exact he)
    go_wp2
    go_ret;exact⟨iT hb.symm,rfl⟩
   |false=>
    have hn2:Hid (∀i,i<j+1->(s.toList==(Pu.jP i).toList)=false):=λi hi=>by
     by_cases e:i=j
     .subst e;exact he
     .exact mE i ae
    go_wp2
    exact Qf
  .have hb:Hid (Pu.eP s=false):=Pu.MH (λi hi=>by rw[CA];exact mE i ae)
   go_wp2
   go_ret;exact⟨iT hb.symm,rfl⟩
def wV(s:ByteArray):Nat->Nat
 |0=>0|k+1=>10*wV s k+(Pu.at_ s k+208)%256
def zJ(s:ByteArray):Nat:=wV s<|min s.size 9
def acB(s:ByteArray):∀k,k<=9->wV s k<=255*111111111:=by
 have:∀k,9*wV s k+255<=255*10^k:=by
  intro k
  induction k with
  |zero=>simp[wV]|succ k ih=>simp only[wV,Nat.pow_succ];omega
 intro k hk;have h:=this k;have h2:10^k<=10^9:=Nat.pow_le_pow_right ae hk;omega
inductive Nd where
 |mk(kind:Nat)(s:ByteArray)(n:Nat)(L:List Nd)(al to at_:Nat):Nd
theorem toList_mk l:(ByteArray.mk l.toArray).toList=l:=by simp_all
abbrev gp:ByteArray:=⟨#[116,114,117,101]⟩
abbrev dE:ByteArray:=⟨#[102,97,108,115,101]⟩
abbrev zK:ByteArray:=⟨#[95]⟩
abbrev qB:ByteArray:=⟨#[40]⟩
def bu t:=
 if t.kind=1 then 1 else if t.kind=2 then 2 else if t.kind=3 then 16 else if t.kind=4 then 3
 else if a_ t gp=true\/a_ t dE=true then 4 else if a_ t zK=true then 15 else 0
def eE(t:Pu.Tok):Nat:=if t.kind=4 then zJ t.text else 0
def D9 t l:a_ t ⟨l.toArray⟩=(t.kind==5&&t.text.toList==l):=by simp_all[a_]
def ID t:a_ t gp=(t.kind==5&&t.text.toList==[116,114,117,101]):=D9 t _
def CC t:a_ t dE=(t.kind==5&&t.text.toList==[102,97,108,115,101]):=D9 t _
def Qg t:a_ t zK=(t.kind==5&&t.text.toList==[95]):=D9 t _
def aF t sort:=a_ t qB||
 (if sort=1 then bu t==16||bu t==2 else if sort=2 then bu t==15||bu t==1||bu t==2||bu t==3||bu t==4 else bu t==1||bu t==2||bu t==3||bu t==4)
abbrev fX:ByteArray:=⟨#[]⟩
abbrev lz:ByteArray:=⟨#[41]⟩
abbrev mR:ByteArray:=⟨#[44]⟩
abbrev D_:ByteArray:=⟨#[58]⟩
abbrev mS:ByteArray:=⟨#[45,62]⟩
abbrev gq:ByteArray:=⟨#[42]⟩
abbrev iu:ByteArray:=⟨#[43]⟩
abbrev dW:ByteArray:=⟨#[45]⟩
abbrev dX:ByteArray:=⟨#[60]⟩
abbrev MU:ByteArray:=⟨#[102,117,110]⟩
abbrev ul:ByteArray:=⟨#[108,101,116]⟩
abbrev Yb:ByteArray:=⟨#[114,101,99]⟩
abbrev kIn:ByteArray:=⟨#[105,110]⟩
abbrev kIf:ByteArray:=⟨#[105,102]⟩
abbrev aeM:ByteArray:=⟨#[116,104,101,110]⟩
abbrev aeN:ByteArray:=⟨#[101,108,115,101]⟩
abbrev uo:ByteArray:=⟨#[109,97,116,99,104]⟩
abbrev aeO:ByteArray:=⟨#[119,105,116,104]⟩
abbrev ai4:ByteArray:=⟨#[101,110,100]⟩
abbrev Yc:ByteArray:=⟨#[124]⟩
abbrev zL:ByteArray:=⟨#[59]⟩
abbrev Qh:ByteArray:=⟨#[61]⟩
abbrev qC:ByteArray:=⟨#[116,121,112,101]⟩
def bS(t:Pu.Tok):Nd:=.mk (bu t) t.text (eE t) [] t.al t.to t.al
def Nd.add:Nd->Nd->Nat->Nd
 |.mk k s n L f _ a,y,to=>.mk k s n (L++[y]) f to a
def aN{α β:Type}(m:M α)(f:α->M β):M β:=λk=>match m k with
 |.error e=>.error e|.ok (a,k')=>f a k'
section
variable (T:List Pu.Tok)
def oo(mk:Nat->Nd):M Nd:=aN (bt T lz) λ_ k=>.ok (mk k,k)
def jQ part Gf sort al a:=λk=>
 if a_ (tk T k) mR=true then aN part (λb=>oo T λk'=>.mk 6 fX 0 [a,b] al (aE T k') al) (k+1)
 else if sort=3/\a_ (tk T k) D_=true then aN Gf (λb=>oo T λk'=>.mk 14 fX 0 [a,b] al (aE T k') al) (k+1)
 else oo T (λ_=>a) k
def gX part Gf sort al:=λk=>
 if sort≠1/\a_ (tk T k) lz=true then .ok (.mk 5 fX 0 [] al (aE T<|k+1) al,k+1)
 else aN part (jQ T part Gf sort al) k
def aI part Gf sort:=λk=>
 if aF (tk T k) sort=true then
  (if a_ (tk T k) qB=true then gX T part Gf sort (tk T k).al (k+1)else .ok (bS<|tk T k,k+1))
 else .error (dc<|tk T k)
def dA(small:M Nd)(sort:Nat):Nat->Nd->M Nd
 |0,x=>λk=>.ok (x,k)|f+1,x=>λk=>if aF (tk T k) sort=true then aN small (λy k'=>dA small sort f (x.add y<|aE T k') k') k else .ok (x,k)
def gN small sort:=λk=>if(tk T k).kind==2 then aN small (dA T small sort T.length) k else small k
def lA Gf al(a:Nd):=λk=>
 if a_ (tk T k) mS=true then aN Gf (λb k'=>.ok (.mk 17 fX 0 [a,b] al (aE T k') al,k')) (k+1)else .ok (a,k)
def cP:Nat->M Nd
 |0=>mQ T|n+1=>λk=>aN (gN T (aI T (cP n) (cP n) 1) 1) (lA T (cP n) (tk T k).al) k
def dY:Nat->M Nd
 |0=>mQ T|n+1=>gN T (aI T (dY n) (mQ T) 2) 2
def jR(small:M Nd)(al:Nat):Nat->Nd->M Nd
 |0,x=>λk=>.ok (x,k)|f+1,x=>λk=>if aF (tk T k) 3=true then aN small (λy k'=>jR small al f (.mk 8 fX 0 [x,y] al (aE T k') al) k') k else .ok (x,k)
def dt small:=λk=>aN small (jR T small (tk T k).al T.length) k
def kU(call:M Nd)(al:Nat):Nat->Nd->M Nd
 |0,x=>λk=>.ok (x,k)|f+1,x=>λk=>if a_ (tk T k) gq=true then aN call (λy k'=>kU call al f (.mk 7 gq 0 [x,y] al (aE T k') al) k') (k+1)else .ok (x,k)
def gu call:=λk=>aN call (kU T call (tk T k).al T.length) k
def sw(prod:M Nd)(al:Nat):Nat->Nd->M Nd
 |0,x=>λk=>.ok (x,k)|f+1,x=>λk=>if a_ (tk T k) iu=true\/a_ (tk T k) dW=true then aN prod (λy k'=>sw prod al f (.mk 7 (tk T k).text 0 [x,y] al (aE T k') al) k') (k+1)else .ok (x,k)
def wW prod:=λk=>aN prod (sw T prod (tk T k).al T.length) k
def uq(expr:M Nd):M Nd:=λk=>
 aN (bt T MU) (λ_=>aN (di T 1) λt=>aN (bt T mS) λ_=>aN expr λe k'=>.ok (.mk 9 t.text 0 [e] (tk T k).al (aE T k') t.al,k')) k
def cy(expr:M Nd):M (Nat×Pu.Tok×Nd):=
 aN (bt T ul) λ_ k=>
  if a_ (tk T k) Yb=true then aN (di T 1) (λt=>aN (bt T Qh) λ_=>aN (uq T expr) λe k'=>.ok ((11,t,e),k')) (k+1)
  else aN (di T 1) (λt=>aN (bt T Qh) λ_=>aN expr λe k'=>.ok ((10,t,e),k')) k
def pA(expr:M Nd):M Nd:=λk=>
 aN (bt T kIf) (λ_=>aN expr λa=>aN (bt T aeM) λ_=>aN expr λb=>aN (bt T aeN) λ_=>aN expr λc k'=>.ok (.mk 12 fX 0 [a,b,c] (tk T k).al (aE T k') (tk T k).al,k')) k
def oq(ur expr:M Nd):Nat->List Nd->M (List Nd)
 |0,l=>λk=>.ok (l,k)|f+1,l=>aN ur λp=>aN (bt T mS) λ_=>aN expr λe k=>
   if a_ (tk T k) Yc=true then oq ur expr f (l++[p,e]) (k+1)else .ok (l++[p,e],k)
def uv(ur expr:M Nd):M Nd:=λk=>
 aN (bt T uo) (λ_=>aN expr λx=>aN (bt T aeO) λ_=>aN (oq T ur expr T.length [x]) λl=>aN (bt T ai4) λ_ k'=>.ok (.mk 13 fX 0 l (tk T k).al (aE T k') (tk T k).al,k')) k
def qS(expr:M Nd):M Nd:=λk=>
 aN (cy T expr) (λb=>aN (bt T kIn) λ_=>aN expr λf k'=>.ok (.mk b.1 b.2.1.text 0 [b.2.2,f] (tk T k).al (aE T k') b.2.1.al,k')) k
def sC(sum:M Nd):M Nd:=λk=>
 aN sum (λx k1=>if a_ (tk T k1) dX=true then aN sum (λy k'=>.ok (.mk 7 dX 0 [x,y] (tk T k).al (aE T k') (tk T k).al,k')) (k1+1)else .ok (x,k1)) k
def bR:Nat->M Nd
 |0=>mQ T|n+1=>λk=>
  if a_ (tk T k) MU=true then uq T (bR n) k
  else if a_ (tk T k) kIf=true then pA T (bR n) k
  else if a_ (tk T k) uo=true then uv T (dY T n) (bR n) k
  else if a_ (tk T k) ul=true then qS T (bR n) k
  else sC T (wW T<|gu T<|dt T<|aI T (bR n) (cP T n) 3) k
end
structure NV where
 k:Int
 s:ByteArray
 n:Int
 la:Option Addr
 ll:Nat
 lc:Nat
 f:Int
 t:Int
 a:Int
section
variable {T:List Pu.Tok} {σ:St}
def ot{t}(h:a_ t s=true):t.kind=5:=by simp[a_]at h;exact h.1
end
def Bx.at(w:World)C t b(hb:b=w.heap.size):Bx (w.alloc<|.cells C t) b C:=by subst hb;exact Bx.new w C t
def Bx.qT(h:Bx w b C)j v C'(hC:C'=C.setIfInBounds j v)(hj:j<C.size):Bx (w.setCell ⟨b,j,none⟩ v) b C':=by
 exact Qe
def Bx.nO{b2}(h:Bx w b C)(hn:b≠b2)j v:Bx (w.setCell ⟨b2,j,none⟩ v) b C:=
 h.same yw (ju _ _ _ _ hn)
def Bx.T8(h:Bx w b C)(hC:C.size=7)v0 v1 v2 v3 v4 v5 v6:Bx (((((((w.setCell ⟨b,0,none⟩ v0).setCell ⟨b,1,none⟩ v1).setCell ⟨b,2,none⟩ v2).setCell ⟨b,3,none⟩ v3).setCell ⟨b,4,none⟩ v4).setCell ⟨b,5,none⟩ v5).setCell ⟨b,6,none⟩ v6) b #[v0,v1,v2,v3,v4,v5,v6]:=by
 obtain⟨a0,a1,a2,a3,a4,a5,a6,rfl⟩:∃a0 a1 a2 a3 a4 a5 a6,C=#[a0,a1,a2,a3,a4,a5,a6]:=by
  obtain⟨l⟩:=C
  match l,hC with
  |[a,b,c,d,e,f,g],_=>grind
 exact((((((h.qT 0 v0 #[v0,a1,a2,a3,a4,a5,a6] rfl ag).qT 1 v1 #[v0,v1,a2,a3,a4,a5,a6] rfl ag).qT 2 v2 #[v0,v1,v2,a3,a4,a5,a6] rfl ag).qT 3 v3 #[v0,v1,v2,v3,a4,a5,a6] rfl ag).qT 4 v4 #[v0,v1,v2,v3,v4,a5,a6] rfl ag).qT 5 v5 #[v0,v1,v2,v3,v4,v5,a6] rfl ag).qT 6 v6 #[v0,v1,v2,v3,v4,v5,v6] rfl ag
def Bx.aeP{b'}(h:Bx w b' C)(hn:b'≠b)v0 v1 v2 v3 v4 v5 v6:Bx (((((((w.setCell ⟨b,0,none⟩ v0).setCell ⟨b,1,none⟩ v1).setCell ⟨b,2,none⟩ v2).setCell ⟨b,3,none⟩ v3).setCell ⟨b,4,none⟩ v4).setCell ⟨b,5,none⟩ v5).setCell ⟨b,6,none⟩ v6) b' C:=
 ((((((h.nO hn 0 v0).nO hn 1 v1).nO hn 2 v2).nO hn 3 v3).nO hn 4 v4).nO hn 5 v5).nO hn 6 v6
def Ea{α:Type}(m:M α):=∀k a k',m k=.ok (a,k')->k<=k'
def ftV(k i j:Int):Value:=.agg #[.int .i64 k,.int .i64 i,.int .i64 j]
abbrev zM:Array Value:=#[.int .i64 0,.int .i64 0,.string ⟨#[]⟩,.string ⟨#[]⟩]
def Bx.mT{w}(h:Bx w b C)(hC:C.size=4)v0 v1 v2 v3:Bx ((((w.setCell ⟨b,0,none⟩ v0).setCell ⟨b,1,none⟩ v1).setCell ⟨b,2,none⟩ v2).setCell ⟨b,3,none⟩ v3) b #[v0,v1,v2,v3]:=by
 obtain⟨a0,a1,a2,a3,rfl⟩:∃a0 a1 a2 a3,C=#[a0,a1,a2,a3]:=by
  obtain⟨l⟩:=C
  match l,hC with
  |[a,b,c,d],_=>grind
 exact(((h.aP 0 v0 #[v0,a1,a2,a3] rfl ag).aP 1 v1 #[v0,v1,a2,a3] rfl ag).aP 2 v2 #[v0,v1,v2,a3] rfl ag).aP 3 v3 #[v0,v1,v2,v3] rfl ag
def _root_.Go.RowKit.Below.mT{B}{w}(h:Below B a w)(hb:B<=b)v0 v1 v2 v3:Below B a ((((w.setCell ⟨b,0,none⟩ v0).setCell ⟨b,1,none⟩ v1).setCell ⟨b,2,none⟩ v2).setCell ⟨b,3,none⟩ v3):=
 (((h.setCell hb v0).setCell hb v1).setCell hb v2).setCell hb v3
def IE(h:Laid w)(s:ByteArray)i(hi:i<s.size)(hs:s.size<=1000):
 Calls jm 210 #[.string s,.int .i64 (i:Int)] w λe w'=>e=.returned (dz<|if Pu.eP (s.extract i<|Pu.aG s Pu.aV i)=true then Pu.gG s i 5 (Pu.aG s Pu.aV i)else Pu.gG s i 1 (Pu.aG s Pu.aV i))/\Below w.heap.size w w':=by
 have hle:=Pu.gh (s:=s) Pu.aV (i:=i) ae;have IF:=Pu.eO s Pu.aV i;have H:=h.af<|(jt w.heap.size w).alloc (jh _)<|.cells zM 229;have B0:=Bx.new w zM 229;have HB:=(jt w.heap.size w).alloc (jh _)<|.cells zM 229;have h1:(i:Int)<=((Pu.aG s Pu.aV i:Nat):Int):=ae;have h2:((Pu.aG s Pu.aV i:Nat):Int)<=(s.size:Int):=ae
 cases hw:Pu.eP (s.extract i<|Pu.aG s Pu.aV i)with
 |true=>
  go_enter func210,ntmps210;go_wp2_with(first|(go_at_call 207;refine(kT (Or.inr<|Or.inl ⟨rfl,rfl⟩) s i _ hs ae).mono ?_;rintro e w'⟨rfl,rfl⟩)|(go_at_call 257;refine(sv H _).mono ?_;rintro e w'⟨rfl,rfl⟩)|(go_at_call 212;refine(CB s i _ _ IF hle hs).mono ?_;rintro e w1⟨rfl,hb⟩;have B1:=ai<|B0.below hb;have dq:=ai<|HB.trans<|hb.mono ag;have⟨c1,f1,y1⟩:=uh B1;clear hb));have BF:=B1.mT rfl (.int .i64 (i:Int)) (.int .i64 ((Pu.aG s Pu.aV i:Nat):Int)) (.string<|s.extract i<|Pu.aG s Pu.aV i) (.string<|s.extract i<|Pu.aG s Pu.aV i);obtain⟨cF,fF,zF⟩:=BF;refine bodyPost_ret (v:=dz<|Pu.gG s i 5<|Pu.aG s Pu.aV i) (by simp[results,Tryz.results210,go_sem,cF,dz,Pu.gG,aq]) rfl ⟨ag,dq.mT (Nat.le_refl _) _ _ _ _⟩
 |false=>
  go_enter func210,ntmps210;go_wp2_with(first|(go_at_call 207;refine(kT (Or.inr<|Or.inl ⟨rfl,rfl⟩) s i _ hs ae).mono ?_;rintro e w'⟨rfl,rfl⟩)|(go_at_call 257;refine(sv H _).mono ?_;rintro e w'⟨rfl,rfl⟩)|(go_at_call 212;refine(CB s i _ _ IF hle hs).mono ?_;rintro e w1⟨rfl,hb⟩;have B1:=ai<|B0.below hb;have dq:=ai<|HB.trans<|hb.mono ag;have⟨c1,f1,y1⟩:=uh B1;clear hb));have BF:=B1.mT rfl (.int .i64 (i:Int)) (.int .i64 ((Pu.aG s Pu.aV i:Nat):Int)) (.string ⟨#[108,111,119,32,110,97,109,101]⟩) (.string<|s.extract i<|Pu.aG s Pu.aV i);obtain⟨cF,fF,zF⟩:=BF;refine bodyPost_ret (v:=dz<|Pu.gG s i 1<|Pu.aG s Pu.aV i) (by simp[results,Tryz.results210,go_sem,cF,dz,Pu.gG,aq]) rfl ⟨ag,dq.mT (Nat.le_refl _) _ _ _ _⟩
def eF t w(e:Ending)w':=
 Below w.heap.size w w'/\((t.kind≠6/\e=.returned (dz t))\/(t.kind=6/\e=.panicked [{v:=.iface 224<|.agg #[.int .i64 2,.int .i64 (t.al:Int),.int .i64 (t.to:Int)],recovered:=false}]))
def Yd(s:ByteArray)i(hi:i<s.size)(hs:s.size<=1000):
 Calls jm 215 #[.string s,.int .i64 (i:Int)] w (eF (if Pu.aG s Pu.dI i-i<=9 then Pu.gG s i 4 (Pu.aG s Pu.dI i)else Pu.gG s i 6 (Pu.aG s Pu.dI i)) w):=by
 have hle:=Pu.gh (s:=s) Pu.dI (i:=i) ae;have IF:=Pu.eO s Pu.dI i;have B0:=Bx.new w zM 229;have HB:=(jt w.heap.size w).alloc (jh _)<|.cells zM 229;by_cases hd:Pu.aG s Pu.dI i-i<=9
 .have h1:¬(9:Int)<((Pu.aG s Pu.dI i:Nat):Int)-(i:Int):=ae;rw[if_pos hd];go_enter func215,ntmps215;go_wp2_with(first|(go_at_call 207;refine(kT (Or.inr<|Or.inr ⟨rfl,rfl⟩) s i _ hs ae).mono ?_;rintro e w'⟨rfl,rfl⟩)|(go_at_call 212;refine(CB s i _ _ IF hle hs).mono ?_;rintro e w1⟨rfl,hb⟩;have B1:=ai<|B0.below hb;have dq:=ai<|HB.trans<|hb.mono ag;have⟨c1,f1,y1⟩:=uh B1;clear hb));have BF:=B1.mT rfl (.int .i64 (i:Int)) (.int .i64 ((Pu.aG s Pu.dI i:Nat):Int)) (.string ⟨#[97,32,110,117,109,98,101,114]⟩) (.string<|s.extract i<|Pu.aG s Pu.dI i);obtain⟨cF,fF,zF⟩:=BF;exact bodyPost_ret (v:=dz<|Pu.gG s i 4<|Pu.aG s Pu.dI i) (by simp[results,Tryz.results215,go_sem,cF,dz,Pu.gG,aq]) rfl ⟨dq.mT (Nat.le_refl _) _ _ _ _,Or.inl ⟨by simp[Pu.gG],rfl⟩⟩
 .have h1:(9:Int)<((Pu.aG s Pu.dI i:Nat):Int)-(i:Int):=ae;rw[if_neg hd];go_enter func215,ntmps215;go_wp2_with(first|(go_at_call 207;refine(kT (Or.inr<|Or.inr ⟨rfl,rfl⟩) s i _ hs ae).mono ?_;rintro e w'⟨rfl,rfl⟩)|(go_at_call 258;refine(lZ _ _).mono ?_;rintro e w1⟨rfl,hb⟩;have dq:=ai<|HB.trans<|hb.mono ag;clear hb));exact⟨rfl,dq,Or.inr ⟨rfl,rfl⟩⟩
def jT(s:ByteArray)i:=
 if Pu.fk (Pu.at_ s<|i+1)=true then(if Pu.eP (s.extract (i+1)<|Pu.aG s Pu.aV<|i+1)=true then Pu.gG s i 6 (Pu.aG s Pu.aV<|i+1)else Pu.gG s i 3 (Pu.aG s Pu.aV<|i+1))else Pu.gG s i 6 (i+1)
def ai5(h:Laid w)(s:ByteArray)i(hi:i<s.size)(hs:s.size<=1000):
 Calls jm 216 #[.string s,.int .i64 (i:Int)] w (eF (jT s i) w):=by
 have B0:=Bx.new w zM 229;have HB:=(jt w.heap.size w).alloc (jh _)<|.cells zM 229;have H:=h.af HB;by_cases hn:i+1<s.size
 .have he:(((i:Int)+1)==(s.size:Int))=false:=bB;have LI:=Pu.lW hn
  cases qQ:Pu.fk s[i+1].toNat with
  |false=>
   have ht:jT s i=Pu.gG s i 6 (i+1):=by rw[jT];rw[LI,qQ];simp
   rw[ht];go_enter func216,ntmps216;go_wp2_with(first|(go_at_call 209;refine(ir _ _).mono ?_;rintro e w'⟨rfl,rfl⟩)|(go_at_call 258;refine(lZ _ _).mono ?_;rintro e w1⟨rfl,hb⟩;have dq:=ai<|HB.trans<|hb.mono ag;clear hb));exact⟨rfl,dq,Or.inr ⟨rfl,rfl⟩⟩
  |true=>
   have hle:=Pu.gh (s:=s) Pu.aV (i:=i+1) ae;have IF:=Pu.eO s Pu.aV<|i+1;have h1:(i:Int)+1<=((Pu.aG s Pu.aV (i+1):Nat):Int):=ae;have h2:((Pu.aG s Pu.aV (i+1):Nat):Int)<=(s.size:Int):=ae
   cases hw:Pu.eP (s.extract (i+1)<|Pu.aG s Pu.aV<|i+1)with
   |true=>
    have ht:jT s i=Pu.gG s i 6 (Pu.aG s Pu.aV<|i+1):=by rw[jT];rw[LI,qQ,hw];simp
    rw[ht];go_enter func216,ntmps216;go_wp2_with(first|(go_at_call 209;refine(ir _ _).mono ?_;rintro e w'⟨rfl,rfl⟩)|(go_at_call 207;refine(kT (Or.inr<|Or.inl ⟨rfl,rfl⟩) s (i+1) _ hs ae).mono ?_;rintro e w'⟨rfl,rfl⟩)|(go_at_call 257;refine(sv H _).mono ?_;rintro e w'⟨rfl,rfl⟩)|(go_at_call 258;refine(lZ _ _).mono ?_;rintro e w1⟨rfl,hb⟩;have dq:=ai<|HB.trans<|hb.mono ag;clear hb));exact⟨rfl,dq,Or.inr ⟨rfl,rfl⟩⟩
   |false=>
    have ht:jT s i=Pu.gG s i 3 (Pu.aG s Pu.aV<|i+1):=by rw[jT];rw[LI,qQ,hw];simp
    rw[ht];go_enter func216,ntmps216;go_wp2_with(first|(go_at_call 209;refine(ir _ _).mono ?_;rintro e w'⟨rfl,rfl⟩)|(go_at_call 207;refine(kT (Or.inr<|Or.inl ⟨rfl,rfl⟩) s (i+1) _ hs ae).mono ?_;rintro e w'⟨rfl,rfl⟩)|(go_at_call 257;refine(sv H _).mono ?_;rintro e w'⟨rfl,rfl⟩)|(go_at_call 212;refine(CB s i _ _ ae hle hs).mono ?_;rintro e w1⟨rfl,hb⟩;have B1:=ai<|B0.below hb;have dq:=ai<|HB.trans<|hb.mono ag;have⟨c1,f1,y1⟩:=uh B1;clear hb));have BF:=B1.mT rfl (.int .i64 (i:Int)) (.int .i64 ((Pu.aG s Pu.aV (i+1):Nat):Int)) (.string ⟨#[97,32,118,97,114,105,97,98,108,101]⟩) (.string<|s.extract i<|Pu.aG s Pu.aV<|i+1);obtain⟨cF,fF,zF⟩:=BF;exact bodyPost_ret (v:=dz<|Pu.gG s i 3<|Pu.aG s Pu.aV<|i+1) (by simp[results,Tryz.results216,go_sem,cF,dz,Pu.gG,aq]) rfl ⟨dq.mT (Nat.le_refl _) _ _ _ _,Or.inl ⟨by simp[Pu.gG],rfl⟩⟩
 .have he:(((i:Int)+1)==(s.size:Int))=true:=bB;have ht:jT s i=Pu.gG s i 6 (i+1):=by
   rw[jT];rw[Pu.Iu ae];rfl
  rw[ht];go_enter func216,ntmps216;go_wp2_with(first|(go_at_call 258;refine(lZ _ _).mono ?_;rintro e w1⟨rfl,hb⟩;have dq:=ai<|HB.trans<|hb.mono ag;clear hb));exact⟨rfl,dq,Or.inr ⟨rfl,rfl⟩⟩
def preB(s p:ByteArray):Bool:=decide (p.size<=s.size)&&((s.extract 0 p.size).toList==p.toList)
def lR(s:ByteArray)i k:=
 if k=0 then(Pu.at_ s i==45&&Pu.at_ s (i+1)==62)else Pu.at_ s i==((cJ k)[0]!).toNat
def lB(s:ByteArray)i:=
 if Pu.at_ s i=45/\Pu.at_ s (i+1)=62 then Pu.gG s i 5 (i+2)
 else if Pu.Cx (Pu.at_ s i)=true then Pu.gG s i 5 (i+1)else Pu.gG s i 6 (i+1)
def vS{a b:ByteArray}(h:(a.toList==b.toList)=true):a=b:=by
 rw[beq_iff_eq,jy,jy]at h;exact jf<|Array.toList_inj.1 h
def ak5(h:i<s.size):s.extract i (i+1)=⟨#[s[i]]⟩:=by
 apply jf;apply Array.ext
 .simp;omega
 .intro j h1 h2;have:j=0:=by simp at h2;omega
  subst this;simp[jd];rfl
def ak6(h:i+1<s.size):s.extract i (i+2)=⟨#[s[i],s[i+1]]⟩:=by
 apply jf;apply Array.ext
 .simp;omega
 .intro j h1 h2;have:j=0\/j=1:=by simp at h2;omega
  obtain rfl|rfl:=this
  .simp[jd];rfl
  .simp[jd];rfl
def Qi{p:Prop}(h:p:=by
 intro h;have:=congrArg (λb:ByteArray=>b.data)<|vS h;simp at this
 simp[this]):p:=h
def wX(hi:i<s.size)c:preB (s.extract i s.size) ⟨#[c]⟩=(Pu.at_ s i==c.toNat):=by
 have hz:(⟨#[c]⟩:ByteArray).size=1:=rfl;rw[preB];rw[hz,jc,show min (i+1) s.size=i+1 by omega,jl,ak5 hi,Pu.lW hi,ja];rw[decide_eq_true ae,Bool.true_and,jv];constructor
 .exact Qi
 .intro h;rw[beq_iff_eq]at h;rw[UInt8.toNat_inj.1 h];simp
def ak7(hi:i<s.size)c d:preB (s.extract i s.size) ⟨#[c,d]⟩=(Pu.at_ s i==c.toNat&&Pu.at_ s (i+1)==d.toNat):=by
 have hz:(⟨#[c,d]⟩:ByteArray).size=2:=rfl;rw[preB];rw[hz];by_cases hn:i+1<s.size
 .rw[jc,show min (i+2) s.size=i+2 by omega,jl,ak6 hn,Pu.lW hi,Pu.lW hn,ja];rw[decide_eq_true ae,Bool.true_and,jv];constructor
  .exact Qi
  .intro h;rw[jx,beq_iff_eq,beq_iff_eq]at h;rw[UInt8.toNat_inj.1 h.1,UInt8.toNat_inj.1 h.2];simp
 .rw[ja,decide_eq_false ae,Pu.Iu (s:=s) (i:=i+1) ae];have:(256==d.toNat)=false:=by have:=UInt8.toNat_lt d;simp;omega
  rw[this];simp
def Qj(hi:i<s.size):∀k,k<13->preB (s.extract i s.size) (cJ k)=lR s i k
 |0,_=>ak7 hi 45 62|1,_=>wX hi _|2,_=>wX hi _|3,_=>wX hi _|4,_=>wX hi _|5,_=>wX hi _|6,_=>wX hi _|7,_=>wX hi _|8,_=>wX hi _|9,_=>wX hi _|10,_=>wX hi _|11,_=>wX hi _|12,_=>wX hi _|k+13,h=>absurd h ae
def af6:∀k,0<k->k<13->(∀j,j<k->lR s i j=false)->lR s i k=true->lB s i=Pu.gG s i 5 (i+1):=by
 intro k h0 hk mE hh;rw[lB];have n0:=mE 0 h0;rw[if_neg (by intro q;simp[lR,q.1,q.2]at n0)];have:Pu.Cx (Pu.at_ s i)=true:=by
  have hc:k=1\/k=2\/k=3\/k=4\/k=5\/k=6\/k=7\/k=8\/k=9\/k=10\/k=11\/k=12:=ae;rw[lR]at hh;rw[if_neg ae,beq_iff_eq]at hh;rw[hh];obtain rfl|rfl|rfl|rfl|rfl|rfl|rfl|rfl|rfl|rfl|rfl|rfl:=hc<;>decide
 rw[if_pos this]
def ai6(h:lR s i 0=true):lB s i=Pu.gG s i 5 (i+2):=by grind[lR,lB]
def af7(h:∀j,j<13->lR s i j=false):lB s i=Pu.gG s i 6 (i+1):=by
 rw[lB];have n0:=h 0 ae;rw[if_neg (by intro q;simp[lR,q.1,q.2]at n0)];have:Pu.Cx (Pu.at_ s i)=false:=by
  rw[Pu.Cx];rw[jq];intro x hx;simp only[List.mem_cons,List.not_mem_nil,or_false]at hx;intro q;rw[beq_iff_eq]at q;have H:∀k,0<k->k<13->((cJ k)[0]!).toNat=x->False:=λk h0 hk e=>by
   have:=h k hk;rw[lR]at this;rw[if_neg ae,e,q]at this;simp at this
  obtain rfl|rfl|rfl|rfl|rfl|rfl|rfl|rfl|rfl|rfl|rfl|rfl:=hx
  .exact H 1 ae ae rfl
  .exact H 2 ae ae rfl
  .exact H 3 ae ae rfl
  .exact H 4 ae ae rfl
  .exact H 5 ae ae rfl
  .exact H 6 ae ae rfl
  .exact H 7 ae ae rfl
  .exact H 8 ae ae rfl
  .exact H 9 ae ae rfl
  .exact H 10 ae ae rfl
  .exact H 11 ae ae rfl
  .exact H 12 ae ae rfl
 rw[this];rfl
def Ye(hi:i<s.size)(hk:k<13)(h:lR s i k=true):i+(cJ k).size<=s.size/\s.extract i (i+(cJ k).size)=cJ k:=by
 rw[<-Qj hi k hk]at h;rw[preB]at h;rw[jx,decide_eq_true_iff,ja]at h;have hz:i+(cJ k).size<=s.size:=ae;refine⟨hz,?_⟩;have:=vS h.2
 rwa[jc,jl,Nat.min_eq_left hz]at this
def Yf:∀{k:Nat},k<13->1<=(cJ k).size/\(cJ k).size<=2:=λ{k}h=>(by decide:∀k:Fin 13,1<=(cJ k.1).size/\(cJ k.1).size<=2) ⟨k,h⟩
def af8:∀{k:Nat},0<k->k<13->(cJ k).size=1:=λ{k}h0 h=>(by decide:∀k:Fin 13,0<k.1->(cJ k.1).size=1) ⟨k,h⟩ h0
def acC(hk:k<13)(h:∀j,j<k->lR s i j=false)(hh:lR s i k=true):lB s i=Pu.gG s i 5 (i+(cJ k).size):=by
 obtain rfl|h0:=Nat.eq_zero_or_pos k
 .exact ai6 hh
 .rw[af8 h0 hk];exact af6 k h0 hk h hh
def Qk{p:Prop}(h:p:=by
 go_enter func278,ntmps278
 go_wp2
 go_ret
 exact⟨iT<|by simp[preB,hz],rfl⟩):p:=h
def af9(s p:ByteArray)(hs:s.size<=1000)(hp:p.size<=2):Calls jm 278 #[.string s,.string p] w λe w'=>e=.returned (.bool<|preB s p)/\w'=w:=by
 by_cases h:p.size<=s.size
 .have h1:(p.size:Int)<=(s.size:Int):=ae;have hz:decide (p.size<=s.size)=true:=by simp[h]
  exact Qk
 .have h1:¬(p.size:Int)<=(s.size:Int):=ae;have hz:decide (p.size<=s.size)=false:=bB;exact Qk
def Yg(s p:ByteArray)(hs:s.size<=1000)(hp:p.size<=2):Calls jm 259 #[.string s,.string p] w λe w'=>e=.returned (.bool<|preB s p)/\w'=w:=by
 go_enter func259,ntmps259;go_wp2_with(go_at_call 278;refine(af9 s p hs hp).mono ?_;rintro e w'⟨rfl,rfl⟩);go_ret;exact⟨iT rfl,rfl⟩
def CF(s:ByteArray)i k(hi:i<s.size)(hs:s.size<=1000)(hk:k<13)(hz:(cJ k).size<=2):Calls jm 259 #[.string<|s.extract i s.size,.string<|cJ k] w λe w'=>e=.returned (.bool<|lR s i k)/\w'=w:=by
 rw[<-Qj hi k hk];exact Yg _ _ qBo hz
def af_(h:Laid w)(s:ByteArray)(i:Nat)(hi:i<s.size)(hs:s.size<=1000):
 Calls jm 217 #[.string s,.int .i64 (i:Int)] w (eF (lB s i) w):=by
 have B0:=Bx.new w zM 229;have HB:=(Below.refl w.heap.size w).alloc (Nat.le_refl _)<|.cells zM 229;have H:=h.af HB;have hi1:(i:Int)<=(s.size:Int):=ae;have g0:=H.signs 0 ae;have g1:=H.signs 1 ae;have g2:=H.signs 2 ae;have g3:=H.signs 3 ae;have g4:=H.signs 4 ae;have g5:=H.signs 5 ae;have g6:=H.signs 6 ae;have g7:=H.signs 7 ae;have g8:=H.signs 8 ae;have g9:=H.signs 9 ae;have g10:=H.signs 10 ae;have g11:=H.signs 11 ae;have g12:=H.signs 12 ae;clear h H;go_enter func217,ntmps217
 go_wp2
 go_loop[8] (λv=>∃j:Nat,j<=13/\v=.int .i64 (j:Int)/\Hid (∀m,m<j->lR s i m=false)) (λv=>13-(intOf v).toNat)
 case atStart=>exact⟨0,ae,rfl,λi h=>ae⟩
 case round=>
  obtain⟨j,hj,rfl,mE⟩:=hrel;by_cases bq:j<13
  .have hix:=aeL cJ bq;have hd:(j:Int)<13:=ae;have hz:=Yf bq;obtain⟨n,hn⟩:∃n,n=(cJ j).size:=⟨_,rfl⟩;rw[<-hn]at hz
   cases he:lR s i j with
   |true=>
    have ht:=ai<|acC bq mE he;have hx:=Ye hi bq he;rw[<-hn]at hx ht;have hle:=hx.1;have hxe:=ai hx.2;have Mf:((cJ j).size:Int)=(n:Int):=by rw[hn]
    have ho:(i:Int)+(n:Int)<=1000:=ae;clear hx hn;go_wp2_with(first|(go_at_call 259;refine(CF s i j hi hs bq ae).mono ?_;rintro e w'⟨rfl,rfl⟩)|(go_at_call 212;refine(CB s i (i+n) _ ae hle hs).mono ?_;rintro e w1⟨rfl,hb⟩;have B1:=ai<|B0.below hb;have dq:=ai<|HB.trans<|hb.mono ag;have⟨c1,f1,y1⟩:=uh B1;clear hb));have BF:=B1.mT rfl (.int .i64 (i:Int)) (.int .i64<|(i:Int)+n) (.string<|cJ j) (.string<|s.extract i<|i+n);obtain⟨cF,fF,zF⟩:=BF;rw[uh ht];refine bodyPost_ret (v:=dz<|Pu.gG s i 5<|i+n) ?_ rfl ⟨dq.mT (jh _) _ _ _ _,j7 ⟨by simp[Pu.gG],rfl⟩⟩;have hk:aq (Pu.gG s i 5<|i+n)=cJ j:=uh hxe;simp only[dz,hk];simp[results,Tryz.results217,go_sem,cF,Pu.gG]
   |false=>
    have hn2:Hid (∀m,m<j+1->lR s i m=false):=λm hm=>by
     by_cases e:m=j
     .subst e;exact he
     .exact mE m ae
    go_wp2_with(go_at_call 259;refine(CF s i j hi hs bq ae).mono ?_;rintro e w'⟨rfl,rfl⟩);exact Qf
  .have ht:=ai<|af7 (s:=s) (i:=i)<|λm hm=>mE m ae;go_wp2_with(go_at_call 258;refine(lZ _ _).mono ?_;rintro e w1⟨rfl,hb⟩;have dq:=ai<|HB.trans<|hb.mono ag;clear hb);rw[uh ht];exact⟨rfl,dq,j6 ⟨rfl,rfl⟩⟩
def aC(s:ByteArray)i:=if Pu.aG s dr i<s.size then Pu.cI s (Pu.aG s dr i)else Pu.dL s
def MW(s:ByteArray)p:∀n i,s.size-i=n->Pu.aG s p i<s.size->p (Pu.at_ s<|Pu.aG s p i)=false:=by
 intro n
 induction n with
 |zero=>intro i h hl;rw[Pu.jD ae]at hl;omega|succ n ih=>
  intro i h hl
  cases hp:p (Pu.at_ s i)with
  |true=>rw[Pu.eD ae hp]at hl⊢;exact ih (i+1) ae hl|false=>rw[Pu.ol ae hp];exact hp
def T9(s:ByteArray):∀n i,s.size-i=n->Pu.bH s i=Pu.bH s (Pu.aG s dr i):=by
 intro n
 induction n with
 |zero=>intro i h;rw[Pu.jD ae]|succ n ih=>
  intro i h
  cases hp:dr (Pu.at_ s i)with
  |true=>rw[Pu.eD ae hp,Pu.zI ae hp];exact ih (i+1) ae|false=>rw[Pu.ol ae hp]
def jE(s:ByteArray)i(hi:i<=s.size):Pu.bH s i=if(aC s i).kind=7 then[Pu.dL s]else aC s i::Pu.bH s (aC s i).to:=by
 rw[T9 s _ i rfl];unfold aC;by_cases h:Pu.aG s dr i<s.size
 .rw[if_pos h,if_neg,Pu.IA h<|MW s dr _ i rfl h];unfold Pu.cI Pu.gG;repeat' split
  all_goals simp
 .rw[if_neg h,if_pos<|show(Pu.dL s).kind=7 from rfl,Pu.Iz ae]
def eF.ok{t:Pu.Tok}{e:Ending}(h:eF t w e w')(hk:t.kind≠6):e=.returned (.agg #[.int .i64 (t.al:Int),.int .i64 (t.to:Int),.string<|aq t,.string t.text])/\Below w.heap.size w w':=by
 obtain⟨hb,⟨_,he⟩|⟨hn,_⟩⟩:=h
 .exact⟨he,hb⟩
 .exact absurd hn hk
def eF.bad{t:Pu.Tok}{e:Ending}(h:eF t w e w')(hk:t.kind=6):e=.panicked [{v:=.iface 224<|.agg #[.int .i64 2,.int .i64 (t.al:Int),.int .i64 (t.to:Int)],recovered:=false}]/\Below w.heap.size w w':=by grind[eF]
def T_(hi:i<s.size)(hd:Pu.dI (Pu.at_ s i)=true):Pu.cI s i=(if Pu.aG s Pu.dI i-i<=9 then Pu.gG s i 4 (Pu.aG s Pu.dI i)else Pu.gG s i 6 (Pu.aG s Pu.dI i)):=by
 have hd':=hd;simp[Pu.dI]at hd';rw[Pu.cI];rw[if_neg (by simp[Pu.fk];omega),if_neg (by simp[Pu.Bl];omega),if_neg (by intro q;omega),if_pos hd,Pu.eD hi hd]
def T'(hd:Pu.at_ s i=39):Pu.cI s i=jT s i:=by
 rw[Pu.cI,jT];rw[hd,if_neg aK,if_neg aK];by_cases hl:Pu.fk (Pu.at_ s<|i+1)=true
 .grind
 .rw[if_neg<|λq=>hl q.2,if_neg hl,if_neg aK,if_neg (by intro q;exact absurd q.1 aK),if_neg aK]
def Ua(h1:Pu.fk (Pu.at_ s i)=false)(h2:Pu.Bl (Pu.at_ s i)=false)(h3:Pu.dI (Pu.at_ s i)=false)(h4:Pu.at_ s i≠39):Pu.cI s i=lB s i:=by
 rw[Pu.cI,lB];rw[if_neg<|by simp[h1],if_neg<|by simp[h2],if_neg<|λq=>h4 q.1,if_neg<|by simp[h3]]
def Yh(h1:Pu.fk (Pu.at_ s i)=false)(h2:Pu.Bl (Pu.at_ s i)=true):Pu.cI s i=Pu.gG s i 2 (Pu.aG s Pu.aV i):=by
 rw[Pu.cI];rw[if_neg<|by simp[h1],if_pos h2]
def Ub(h1:Pu.fk (Pu.at_ s i)=true):Pu.cI s i=(if Pu.eP (s.extract i<|Pu.aG s Pu.aV i)=true then Pu.gG s i 5 (Pu.aG s Pu.aV i)else Pu.gG s i 1 (Pu.aG s Pu.aV i)):=by
 rw[Pu.cI];rw[if_pos h1]
def II(h:Laid w)(s:ByteArray)i(hi:i<=s.size)(hs:s.size<=1000):
 Calls jm 134 #[.string s,.int .i64 (i:Int)] w (eF (aC s i) w):=by
 have B0:=Bx.new w zM 229;have HB:=(jt w.heap.size w).alloc (jh _)<|.cells zM 229;have H:=h.af HB;clear h;have E:=λW=>kT (j7 ⟨rfl,rfl⟩) s i W hs hi;have hle:=Pu.gh (s:=s) dr hi;have IF:=Pu.eO s dr i;rw[aC];generalize Pu.aG s dr i=j at E hle IF⊢;by_cases hj:j<s.size
 .have he:((j:Int)==(s.size:Int))=false:=bB;rw[if_pos hj];have LI:=Pu.lW hj;have go:∀(T:Pu.Tok)(fn:Nat),(fn=210/\Pu.fk s[j].toNat=true\/Pu.fk s[j].toNat=false/\Pu.Bl s[j].toNat=false/\(fn=215/\Pu.dI s[j].toNat=true\/Pu.dI s[j].toNat=false/\(fn=216/\((s[j].toNat:Int)==39)=true\/fn=217/\((s[j].toNat:Int)==39)=false)))->(∀W,Laid W->Calls jm fn #[.string s,.int .i64 (j:Int)] W (eF T W))->Calls jm 134 #[.string s,.int .i64 (i:Int)] w (eF T w):=by
   intro T fn hq C;clear LI;by_cases hk:T.kind=6
   .obtain⟨rfl,h1⟩|⟨h1,h2,⟨rfl,h3⟩|⟨h3,⟨rfl,h4⟩|⟨rfl,h4⟩⟩⟩:=hq;all_goals
     go_enter func134,ntmps134;go_wp2_with(first|(go_at_call 207;with_reducible refine(E _).mono ?_;rintro e w'⟨rfl,rfl⟩)|(go_at_call 209;refine(ir _ _).mono ?_;rintro e w'⟨rfl,rfl⟩)|(go_at_call 211;refine(su _ _).mono ?_;rintro e w'⟨rfl,rfl⟩)|(go_at_call 214;refine(lY _ _).mono ?_;rintro e w'⟨rfl,rfl⟩)|((first|go_at_call 210|go_at_call 215|go_at_call 216|go_at_call 217);refine(C _ H).mono ?_;intro e w1 hp;obtain⟨rfl,hb⟩:=hp.bad hk;have dq:=ai<|HB.trans<|hb.mono ag;clear hb));exact⟨rfl,dq,Or.inr ⟨hk,rfl⟩⟩
   .obtain⟨rfl,h1⟩|⟨h1,h2,⟨rfl,h3⟩|⟨h3,⟨rfl,h4⟩|⟨rfl,h4⟩⟩⟩:=hq;all_goals
     go_enter func134,ntmps134;go_wp2_with(first|(go_at_call 207;with_reducible refine(E _).mono ?_;rintro e w'⟨rfl,rfl⟩)|(go_at_call 209;refine(ir _ _).mono ?_;rintro e w'⟨rfl,rfl⟩)|(go_at_call 211;refine(su _ _).mono ?_;rintro e w'⟨rfl,rfl⟩)|(go_at_call 214;refine(lY _ _).mono ?_;rintro e w'⟨rfl,rfl⟩)|((first|go_at_call 210|go_at_call 215|go_at_call 216|go_at_call 217);refine(C _ H).mono ?_;intro e w1 hp;obtain⟨rfl,hb⟩:=hp.ok hk;have B1:=ai<|B0.below hb;have dq:=ai<|HB.trans<|hb.mono ag;have⟨c1,f1,y1⟩:=uh B1;clear hb));have BF:=B1.mT rfl (.int .i64 (T.al:Int)) (.int .i64 (T.to:Int)) (.string<|aq T) (.string T.text);obtain⟨cF,fF,zF⟩:=BF;exact bodyPost_ret (v:=dz T) (by simp[results,Tryz.results134,go_sem,cF,dz]) rfl ⟨dq.mT (Nat.le_refl _) _ _ _ _,Or.inl ⟨hk,rfl⟩⟩
  cases h1:Pu.fk s[j].toNat
  case true=>exact go _ _ (j7 ⟨rfl,h1⟩) λW hW=>by rw[Ub (by rw[LI];exact h1)];exact(IE hW s j hj hs).mono λe w' q=>⟨q.2,j7 ⟨by split<;>simp[Pu.gG],q.1⟩⟩
  case false=>
  have a1:Pu.fk (Pu.at_ s j)=false:=by rw[LI];exact h1
  cases h2:Pu.Bl s[j].toNat
  case true=>
   have aiF:=Pu.gh (s:=s) Pu.aV (i:=j) ae;have ai7:=Pu.eO s Pu.aV j;rw[Yh a1 (by rw[LI];exact h2)];clear LI a1;go_enter func134,ntmps134;go_wp2_with(first|(go_at_call 207;with_reducible refine(E _).mono ?_;rintro e w'⟨rfl,rfl⟩)|(go_at_call 207;with_reducible refine(kT (Or.inr<|Or.inl ⟨rfl,rfl⟩) s j _ hs ae).mono ?_;rintro e w'⟨rfl,rfl⟩)|(go_at_call 207;with_reducible refine(E _).mono ?_;rintro e w'⟨rfl,rfl⟩)|(go_at_call 209;refine(ir _ _).mono ?_;rintro e w'⟨rfl,rfl⟩)|(go_at_call 211;refine(su _ _).mono ?_;rintro e w'⟨rfl,rfl⟩)|(go_at_call 214;refine(lY _ _).mono ?_;rintro e w'⟨rfl,rfl⟩)|(go_at_call 212;refine(CB s j _ _ ai7 aiF hs).mono ?_;rintro e w1⟨rfl,hb⟩;have B1:=ai<|B0.below hb;have dq:=ai<|HB.trans<|hb.mono ag;have⟨c1,f1,y1⟩:=uh B1;clear hb));have BF:=B1.mT rfl (.int .i64 (j:Int)) (.int .i64 ((Pu.aG s Pu.aV j:Nat):Int)) (.string ⟨#[117,112,32,110,97,109,101]⟩) (.string<|s.extract j<|Pu.aG s Pu.aV j);obtain⟨cF,fF,zF⟩:=BF;exact bodyPost_ret (v:=dz<|Pu.gG s j 2<|Pu.aG s Pu.aV j) (by simp[results,Tryz.results134,go_sem,cF,dz,Pu.gG,aq]) rfl ⟨dq.mT (Nat.le_refl _) _ _ _ _,Or.inl ⟨by simp[Pu.gG],rfl⟩⟩
  case false=>
  have a2:Pu.Bl (Pu.at_ s j)=false:=by rw[LI];exact h2
  cases h3:Pu.dI s[j].toNat
  case true=>exact go _ _ (j6 ⟨h1,h2,j7 ⟨rfl,h3⟩⟩) λW hW=>by rw[T_ hj (by rw[LI];exact h3)];exact Yd s j hj hs
  case false=>
  by_cases h4:s[j].toNat=39
  .exact go _ _ (j6 ⟨h1,h2,j6 ⟨h3,j7 ⟨rfl,bB⟩⟩⟩) λW hW=>by rw[T' (by rw[LI];exact h4)];exact ai5 hW s j hj hs
  .exact go _ _ (j6 ⟨h1,h2,j6 ⟨h3,j6 ⟨rfl,bB⟩⟩⟩) λW hW=>by rw[Ua a1 a2 (by rw[LI];exact h3) (by rw[LI];exact h4)];exact af_ hW s j hj hs
 .have he:((j:Int)==(s.size:Int))=true:=bB;have hjs:j=s.size:=ae;rw[if_neg hj];obtain⟨c1,f1,y1⟩:=B0;go_enter func134,ntmps134;go_wp2_with(first|(go_at_call 207;with_reducible refine(E _).mono ?_;rintro e w'⟨rfl,rfl⟩)|(go_at_call 209;refine(ir _ _).mono ?_;rintro e w'⟨rfl,rfl⟩)|(go_at_call 211;refine(su _ _).mono ?_;rintro e w'⟨rfl,rfl⟩)|(go_at_call 214;refine(lY _ _).mono ?_;rintro e w'⟨rfl,rfl⟩));have BF:=Bx.new w #[.int .i64 (j:Int),.int .i64 (j:Int),.string ⟨#[116,104,101,32,101,110,100]⟩,.string ⟨#[]⟩] 229;obtain⟨cF,fF,zF⟩:=BF;subst hjs;exact bodyPost_ret (v:=dz<|Pu.dL s) (by simp[results,Tryz.results134,go_sem,cF,dz,Pu.dL,aq]) rfl ⟨(Below.refl w.heap.size w).alloc (Nat.le_refl _) _,Or.inl ⟨qBr,rfl⟩⟩
section
variable {W w3:World} {row:Option Nat} (hg:W.grownBy w3 row)
include hg
def Bx.grown(h:Bx W b C)(hr:∀j,row=some j->j≠b):Bx w3 b C:=h.same hg.size<|hg.block b h.z<|λe=>hr b e.symm rfl
def Ke.grown(h:Ke rb a W)(hr:∀j,row=some j->a.heap.size<=j):Ke rb a w3:=
 ⟨hg.os.trans h.os,hg.tape.trans h.tape,hg.output.trans h.output,jk h.size hg.size,λk hk hn=>(hg.block k (ji hk h.size) (λe=>by have:=hr k e.symm;omega)).trans<|h.block k hk hn⟩
end
def sD{size}{v}{xs}(h:w.ownsRow base e size v n xs)(hn:0<n):∃q c,v=.slice (some ⟨q,0,none⟩) n c:=by
 obtain⟨_,h2⟩:=h;obtain⟨_,h0⟩|⟨q,c,_,hv,_⟩:=h2
 .omega
 .exact⟨q,c,hv⟩
def ox{a b:ByteArray}(h:a.toList=b.toList):a=b:=by
 rw[jy,jy]at h;exact jf<|Array.toList_inj.1 h
abbrev Ky:=Nat×List UInt8
def oA(t:Pu.Tok):Ky:=(t.kind,t.text.toList)
abbrev IJ:Ky:=(5,[40])
abbrev Eb:Ky:=(5,[41])
abbrev aga:Ky:=(5,[44])
abbrev agb:Ky:=(5,[45,62])
mutual
def er:Nd->Nd
 |.mk k s _ L _ _ _=>.mk k s 0 (Uc L) 0 0 0
def Uc:List Nd->List Nd
 |[]=>[]|x::l=>er x::Uc l
end
def Ql:∀l m,Uc (l++m)=Uc l++Uc m
 |[],m=>rfl|x::l,m=>by simp[Uc,Ql l m]
def acD(s:ByteArray):Nd:=.mk 16 s 0 [] 0 0 0
def LJ(s:ByteArray)(l:List Nd):Nd:=.mk 2 s 0 l 0 0 0
def Yi(x y:Nd):Nd:=.mk 6 fX 0 [x,y] 0 0 0
def sFn(x y:Nd):Nd:=.mk 17 fX 0 [x,y] 0 0 0
inductive Gr:Nat->List Ky->Nd->Prop where
 |var(s:ByteArray):Gr 0 [(3,s.toList)] (acD s)
 |up0(s:ByteArray):Gr 0 [(2,s.toList)] (LJ s [])
 |par{p:List Ky}{t:Nd}:Gr 2 p t->Gr 0 (IJ::(p++[Eb])) t
 |pair{p q:List Ky}{t u:Nd}:Gr 2 p t->Gr 2 q u->Gr 0 (IJ::(p++(aga::(q++[Eb])))) (Yi t u)
 |up(s:ByteArray):Gr 3 [(2,s.toList)] (LJ s [])
 |arg{p q:List Ky}{s:ByteArray}{l:List Nd}{u:Nd}:Gr 3 p (LJ s l)->Gr 0 q u->Gr 3 (p++q) (LJ s<|l++[u])
 |rM{p:List Ky}{t:Nd}:Gr 3 p t->Gr 1 p t
 |small{p:List Ky}{t:Nd}:Gr 0 p t->(∀x r,p=x::r->x.1≠2)->Gr 1 p t
 |head{p:List Ky}{t:Nd}:Gr 1 p t->Gr 2 p t
 |Yj{p q:List Ky}{t u:Nd}:Gr 1 p t->Gr 2 q u->Gr 2 (p++(agb::q)) (sFn t u)
def Gr.ne{p}{t:Nd}(h:Gr v p t):1<=p.length:=by
 induction h<;>simp_all<;>omega
def Gr.up1{p}{t:Nd}(h:Gr 0 p t):Gr 1 p t:=by
 cases h with
 |var s=>exact .small (.var s) (λx r e=>by cases e;simp)|up0 s=>exact .rM (.up s)|par h=>exact .small (.par h) (λx r e=>by cases e;simp)|pair h k=>exact .small (.pair h k) (λx r e=>by cases e;simp)
def pU(T:List Pu.Tok)(k:Nat)(p:List Ky):=∀i(h:i<p.length),oA (tk T<|k+i)=p[i]
def pU.left{T:List Pu.Tok}{p q}(h:pU T k (p++q)):pU T k p:=λi hi=>by
 have:=h i bB
 rwa[List.getElem_append_left hi]at this
def pU.right{T:List Pu.Tok}{p q}(h:pU T k (p++q)):pU T (k+p.length) q:=λi hi=>by
 have:=h (p.length+i) bB;rw[List.getElem_append_right ae]at this;simpa[Nat.add_assoc]using this
def pU.hd{T:List Pu.Tok}{x}{q}(h:pU T k (x::q)):oA (tk T k)=x:=h 0 ag
def pU.tl{T:List Pu.Tok}{x}{q}(h:pU T k (x::q)):pU T (k+1) q:=λi hi=>by
 have:=h (i+1) bB;simpa[Nat.add_assoc,Nat.add_comm 1 i]using this
def eX{t}:a_ t ⟨l.toArray⟩=(oA t==(5,l)):=by
 rw[D9];rw[oA];rfl
def dF t:aF t 1=(oA t==IJ||(oA t).1==3||(oA t).1==2):=by
 rw[aF];rw[if_pos rfl,eX];have:(bu t==16||bu t==2)=((oA t).1==3||(oA t).1==2):=by
  rw[bu,oA];simp only;repeat' split
  all_goals simp_all
 rw[this,Bool.or_assoc]
def Yk(T:List Pu.Tok)(k:Nat):Prop:=aF (tk T k) 1=false
def Yl(T:List Pu.Tok)(k:Nat):Prop:=aF (tk T k) 1=false/\a_ (tk T k) mS=false
def Reads(v:Nat)(p:List Ky)(t:Nd):Prop:=match v with
 |0=>∀T k n,pU T k p->p.length<=n+1->p.length<=T.length+1->∃nd,er nd=t/\aI T (cP T n) (cP T n) 1 k=.ok (nd,k+p.length)|3=>∀T k n f,pU T k p->p.length<=n+1->p.length<=T.length+1->p.length<=f+1->∃nd f',er nd=t/\f+1<=f'+p.length/\aN (aI T (cP T n) (cP T n) 1) (dA T (aI T (cP T n) (cP T n) 1) 1 f) k=dA T (aI T (cP T n) (cP T n) 1) 1 f' nd (k+p.length)|1=>∀T k n,pU T k p->p.length<=n+1->p.length<=T.length+1->Yk T (k+p.length)->∃nd,er nd=t/\gN T (aI T (cP T n) (cP T n) 1) 1 k=.ok (nd,k+p.length)|_=>∀T k n,pU T k p->p.length<=n->p.length<=T.length+1->Yl T (k+p.length)->∃nd,er nd=t/\cP T n k=.ok (nd,k+p.length)
def IK{T:List Pu.Tok}{small}{f}{x}(h:aF (tk T k) 1=false):dA T small 1 f x k=.ok (x,k):=by
 cases f with
 |zero=>rfl|succ f=>simp[dA,h]
def agc x y to(s:ByteArray)l(h:er x=LJ s l):er (x.add y to)=LJ s (l++[er y]):=by
 obtain⟨k,s',n,L,f,t,a⟩:=x;simp only[er,LJ,Nd.mk.injEq]at h;obtain⟨rfl,rfl,_,rfl,_⟩:=h;simp[Nd.add,er,Ql,Uc,LJ]
def Gr.MX{p}{t:Nd}(h:Gr v p t):∃x r,p=x::r/\(x==IJ||x.1==3||x.1==2)=true:=by
 induction h with
 |var s=>grind|up0 s=>grind|par _ _=>grind|pair _ _ _ _=>grind|up s=>grind|arg _ _ i _=>grind|rM _ i=>exact i|small _ _ i=>exact i|head _ i=>exact i|Yj _ _ i _=>grind
def Gr.first{p}{t:Nd}(h:Gr 3 p t):∃(s:List UInt8)(r:List Ky),p=(2,s)::r:=by
 generalize hv:3=v at h
 induction h with
 |up s=>exact⟨_,_,rfl⟩|arg _ _ i _=>grind|_=>cases hv
def IL{T:List Pu.Tok}mk(h:oA (tk T k)=Eb):oo T mk k=.ok (mk<|k+1,k+1):=by
 rw[oo,aN,bt];rw[eX,h];simp
def uw{T:List Pu.Tok}(h:oA (tk T k)=(5,l))(h1:l≠[40])(h2:l≠[45,62]):Yl T k:=by
 constructor
 .rw[dF,h];simp[h1]
 .rw[eX,h];simp[h2]
def Qm{p:Prop}(h:p:=by
 have e1:(tk T k).kind=2:=congrArg Prod.fst h0;have e2:=ox<|congrArg Prod.snd h0
 simp[bS,bu,e1,e2,er,Uc,LJ]):p:=h
def Gr.reads{p}{t:Nd}(h:Gr v p t):Reads v p t:=by
 induction h with
 |var s=>
  intro T k n hs _ _;have h0:=hs.hd;refine⟨bS<|tk T k,?_,?_⟩
  .have e1:(tk T k).kind=3:=congrArg Prod.fst h0;have e2:=ox<|congrArg Prod.snd h0;simp[bS,bu,e1,e2,er,Uc,acD]
  .rw[aI];rw[dF,eX,h0];simp
 |up0 s=>
  intro T k n hs _ _;have h0:=hs.hd;refine⟨bS<|tk T k,?_,?_⟩
  .exact Qm
  .rw[aI];rw[dF,eX,h0];simp
 | @par p t _ ih=>
   intro T k n hs hn hT;have h0:=hs.hd;have hp:=hs.tl.left;have hc:=hs.tl.right.hd;simp at hn hT;have⟨nd,e,hr⟩:=ih T (k+1) n hp ae ae<|uw hc ag ag;refine⟨nd,e,?_⟩;have c1:a_ (tk T<|k+1+p.length) mR=false:=by rw[eX,hc];rfl
   rw[aI];rw[dF,eX,h0];simp only[gX,jQ,aN,hr,c1,IL _ hc];simp[Nat.add_assoc,Nat.add_comm 1]
 | @pair p q t u _ _ ih ih2=>
   intro T k n hs hn hT;have h0:=hs.hd;have hp:=hs.tl.left;have hm:=hs.tl.right.hd;have hq:=hs.tl.right.tl.left;have hc:=hs.tl.right.tl.right.hd;simp at hn hT;have⟨nd,e,hr⟩:=ih T (k+1) n hp ae ae<|uw hm ag ag;have⟨nd2,e2,yK⟩:=ih2 T (k+1+p.length+1) n hq ae ae<|uw hc ag ag;have c1:a_ (tk T<|k+1+p.length) mR=true:=by rw[eX,hm];rfl
   refine⟨.mk 6 fX 0 [nd,nd2] (tk T k).al (aE T<|k+1+p.length+1+q.length+1) (tk T k).al,by simp[er,Uc,e,e2,Yi],?_⟩;rw[aI];rw[dF,eX,h0];simp only[gX,jQ,aN,hr,c1,yK,IL _ hc];simp;omega
 |up s=>
  intro T k n f hs _ _ _;have h0:=hs.hd;refine⟨bS<|tk T k,f,?_,ag,?_⟩
  .exact Qm
  .rw[aN,aI];rw[dF,eX,h0];simp
 | @arg p q s l u h1 h2 ih ih2=>
   intro T k n f hs hn hT hf;simp at hn hT hf;have n2:=h2.ne;have⟨nd,f',e,hff,hr⟩:=ih T k n f hs.left ae ae ae;have⟨nd2,e2,yK⟩:=ih2 T (k+p.length) n hs.right ae ae;obtain⟨g,rfl⟩:∃g,f'=g+1:=⟨f'-1,ae⟩;have⟨x,r,hx,hb⟩:=h2.MX;have sd:=hs.right;rw[hx]at sd;have Ym:aF (tk T<|k+p.length) 1=true:=by rw[dF,sd.hd];exact hb
   refine⟨nd.add nd2<|aE T<|k+p.length+q.length,g,?_,bB,?_⟩
   .rw[agc _ _ _ s l e,e2]
   .rw[hr];simp only[dA,Ym,if_true,aN,yK];simp[Nat.add_assoc]
 | @rM p t h1 ih=>
   intro T k n hs hn hT hE;have⟨nd,f',e,_,hr⟩:=ih T k n T.length hs hn hT hT;have⟨x,r,hx,hb⟩:=h1.MX;refine⟨nd,e,?_⟩;have h2:(tk T k).kind=2:=by
    have⟨s,r',e3⟩:=h1.first;rw[e3]at hs;exact congrArg Prod.fst hs.hd
   rw[gN];rw[h2];simp only[beq_self_eq_true,if_true];rw[hr];exact IK hE
 | @small p t h1 cO ih=>
   intro T k n hs hn hT hE;have⟨nd,e,hr⟩:=ih T k n hs hn hT;have⟨x,r,hx,hb⟩:=h1.MX;refine⟨nd,e,?_⟩;have h2:((tk T k).kind==2)=false:=by
    rw[hx]at hs;have h3:(tk T k).kind=x.1:=congrArg Prod.fst hs.hd;rw[h3];simpa using cO x r hx
   rw[gN];rw[h2];exact hr
 | @head p t h1 ih=>
   intro T k n hs hn hT hE;have n1:=h1.ne;obtain⟨m,rfl⟩:∃m,n=m+1:=⟨n-1,ae⟩;have⟨nd,e,hr⟩:=ih T k m hs hn hT hE.1;refine⟨nd,e,?_⟩;simp only[cP,aN,hr,lA,hE.2];simp
 | @Yj p q t u h1 h2 ih ih2=>
   intro T k n hs hn hT hE;have n1:=h1.ne;simp at hn hT hE;obtain⟨m,rfl⟩:∃m,n=m+1:=⟨n-1,ae⟩;have ha:=hs.right.hd;have hq:=hs.right.tl;have c0:Yk T (k+p.length):=by rw[Yk];rw[dF,ha];rfl
   have c1:a_ (tk T<|k+p.length) mS=true:=by rw[eX,ha];rfl
   have⟨nd,e,hr⟩:=ih T k m hs.left ae ae c0;have⟨nd2,e2,yK⟩:=ih2 T (k+p.length+1) m hq ae ae (by simpa[Nat.add_assoc,Nat.add_comm 1]using hE);refine⟨.mk 17 fX 0 [nd,nd2] (tk T k).al (aE T<|k+p.length+1+q.length) (tk T k).al,by simp[er,Uc,e,e2,sFn],?_⟩;simp only[cP,aN,hr,lA,c1,if_true,yK];simp;omega
end
def fq{a b}(h:a=true)(k:b=true):(a&&b)=true:=by rw[h,k];rfl
def Ec:(laidOutB jm)=true:=qkr
def Qn:(mapsRowed jm)=true:=qkr
def cp6:((Tryz.prog.stops==[]))=true:=qkr
def cp8:((Tryz.prog.stopKnobs==[]))=true:=qkr
def ak8:(Tryz.prog.stopsHeard)=true:=qkr
def ak9:(Tryz.prog.mayEnter)=true:=qkr
end Go.Proofs.YtfnkchdeheeiiaaGreatDoor

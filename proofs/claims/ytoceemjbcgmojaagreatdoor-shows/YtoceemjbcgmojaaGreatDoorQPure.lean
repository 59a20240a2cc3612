set_option linter.all false
set_option maxRecDepth 100000
set_option maxHeartbeats 200000
namespace Go.Proofs.YtoceemjbcgmojaaGreatDoor
namespace Pu
def at_(s:ByteArray)(i:Nat):Nat:=if h:i<s.size then s[i].toNat else 256
theorem at_lt{s:ByteArray}{i:Nat}(h:i<s.size):at_ s i=s[i].toNat:=by simp[at_,h]
theorem at_ge{s:ByteArray}{i:Nat}(h:s.size<=i):at_ s i=256:=by simp[at_];omega
def lowB(c:Nat):Bool:=Nat.ble 97 c&&Nat.ble c 122
def upB(c:Nat):Bool:=Nat.ble 65 c&&Nat.ble c 90
def digB(c:Nat):Bool:=Nat.ble 48 c&&Nat.ble c 57
def nameB(c:Nat):Bool:=lowB c||upB c||digB c
def endF(s:ByteArray)(p:Nat->Bool):Nat->Nat->Nat
 |0,i=>i|f+1,i=>if p (at_ s i)=true then endF s p f (i+1)else i
def endTo(s:ByteArray)(p:Nat->Bool)(i:Nat):Nat:=endF s p (s.size-i) i
theorem endTo_yes{s:ByteArray}{p:Nat->Bool}{i:Nat}(h:i<s.size)(hp:p (at_ s i)=true):endTo s p i=endTo s p (i+1):=by
 unfold endTo
 obtain⟨k,hk⟩:∃k,s.size-i=k+1:=⟨s.size-i-1,by omega⟩
 rw[hk,endF,if_pos hp,show s.size-(i+1)=k by omega]
theorem endTo_no{s:ByteArray}{p:Nat->Bool}{i:Nat}(h:i<s.size)(hp:p (at_ s i)=false):endTo s p i=i:=by
 unfold endTo
 obtain⟨k,hk⟩:∃k,s.size-i=k+1:=⟨s.size-i-1,by omega⟩
 rw[hk,endF,if_neg (by simp[hp])]
theorem endTo_end{s:ByteArray}{p:Nat->Bool}{i:Nat}(h:s.size<=i):endTo s p i=i:=by
 unfold endTo;rw[show s.size-i=0 by omega];rfl
theorem endF_ge(s:ByteArray)(p:Nat->Bool)(f i:Nat):i<=endF s p f i/\endF s p f i<=i+f:=by
 induction f generalizing i with
 |zero=>simp[endF]
 |succ f ih=>unfold endF;split
             .have:=ih (i+1);omega
             .omega
theorem endTo_ge(s:ByteArray)(p:Nat->Bool)(i:Nat):i<=endTo s p i:=(endF_ge _ _ _ _).1
theorem endTo_le{s:ByteArray}(p:Nat->Bool){i:Nat}(h:i<=s.size):endTo s p i<=s.size:=by
 have:=(endF_ge s p (s.size-i) i).2;unfold endTo;omega
def words:List ByteArray:=[⟨#[116,121,112,101]⟩,⟨#[108,101,116]⟩,⟨#[114,101,99]⟩,⟨#[105,110]⟩,⟨#[102,117,110]⟩,⟨#[105,102]⟩,⟨#[116,104,101,110]⟩,⟨#[101,108,115,101]⟩,⟨#[109,97,116,99,104]⟩,⟨#[119,105,116,104]⟩,⟨#[101,110,100]⟩,⟨#[116,114,117,101]⟩,⟨#[102,97,108,115,101]⟩]
def wordAt(k:Nat):ByteArray:=words.getD k ⟨#[]⟩
def wordB(s:ByteArray):Bool:=words.any fun w=>w.toList==s.toList
theorem wordB_at{s:ByteArray}{k:Nat}(hk:k<13)(h:((wordAt k).toList==s.toList)=true):wordB s=true:=by
 unfold wordB
 rw[List.any_eq_true]
 refine⟨wordAt k,?_,h⟩
 unfold wordAt
 rw[List.getD_eq_getElem?_getD,List.getElem?_eq_getElem (by simpa[words]using hk)]
 exact List.getElem_mem _
theorem wordB_none{s:ByteArray}(h:∀j,j<13->((wordAt j).toList==s.toList)=false):wordB s=false:=by
 unfold wordB
 rw[List.any_eq_false]
 intro x hx
 obtain⟨i,hi,rfl⟩:=List.getElem_of_mem hx
 have:=h i (by simpa[words]using hi)
 unfold wordAt at this
 rw[List.getD_eq_getElem?_getD,List.getElem?_eq_getElem hi]at this
 simpa using this
structure Tok where
 kind:Nat
 text:ByteArray
 frm:Nat
 to:Nat
def signB(c:Nat):Bool:=[40,41,44,59,58,61,124,43,45,42,60,95].any fun d=>d==c
def mkT(s:ByteArray)(i:Nat)(k to:Nat):Tok:=⟨k,s.extract i to,i,to⟩
def tokAt(s:ByteArray)(i:Nat):Tok:=
 if lowB (at_ s i)=true then
  if wordB (s.extract i (endTo s nameB i))=true then mkT s i 5 (endTo s nameB i)else mkT s i 1 (endTo s nameB i)
 else if upB (at_ s i)=true then mkT s i 2 (endTo s nameB i)
 else if at_ s i=39/\lowB (at_ s (i+1))=true then
  if wordB (s.extract (i+1) (endTo s nameB (i+1)))=true then mkT s i 6 (endTo s nameB (i+1))else mkT s i 3 (endTo s nameB (i+1))
 else if digB (at_ s i)=true then
  if endTo s digB (i+1)-i<=9 then mkT s i 4 (endTo s digB (i+1))else mkT s i 6 (endTo s digB (i+1))
 else if at_ s i=45/\at_ s (i+1)=62 then mkT s i 5 (i+2)
 else if signB (at_ s i)=true then mkT s i 5 (i+1)else mkT s i 6 (i+1)
end Pu
namespace Pu
theorem endTo_gt{s:ByteArray}{p:Nat->Bool}{i:Nat}(h:i<s.size)(hp:p (at_ s i)=true):i+1<=endTo s p i:=by
 rw[endTo_yes h hp];exact endTo_ge _ _ _
theorem at_ne{s:ByteArray}{i:Nat}(h:at_ s i<256):i<s.size:=by
 by_cases e:i<s.size
 .exact e
 .rw[at_ge (by omega)]at h;omega
theorem tokAt_frm(s:ByteArray)(i:Nat):(tokAt s i).frm=i:=by
 unfold tokAt
 repeat(first|rfl|split)
theorem tokAt_to(s:ByteArray)(i:Nat)(h:i<s.size):i<(tokAt s i).to/\(tokAt s i).to<=s.size:=by
 unfold tokAt
 by_cases h1:lowB (at_ s i)=true
 .have a:=endTo_gt (p:=nameB) h (by simp[nameB,h1]);have b:=endTo_le (s:=s) nameB (i:=i) (by omega)
  rw[if_pos h1];split<;>exact⟨a,b⟩
 rw[if_neg h1]
 by_cases h2:upB (at_ s i)=true
 .have a:=endTo_gt (p:=nameB) h (by simp[nameB,h2]);have b:=endTo_le (s:=s) nameB (i:=i) (by omega)
  rw[if_pos h2];exact⟨a,b⟩
 rw[if_neg h2]
 by_cases h3:at_ s i=39/\lowB (at_ s (i+1))=true
 .have c:i+1<s.size:=at_ne (by have:=h3.2;simp[lowB]at this;omega)
  have a:=endTo_ge s nameB (i+1);have b:=endTo_le (s:=s) nameB (i:=i+1) (by omega)
  rw[if_pos h3];split<;>exact⟨a,b⟩
 rw[if_neg h3]
 by_cases h4:digB (at_ s i)=true
 .have a:=endTo_ge s digB (i+1);have b:=endTo_le (s:=s) digB (i:=i+1) (by omega)
  rw[if_pos h4];split<;>exact⟨a,b⟩
 rw[if_neg h4]
 by_cases h5:at_ s i=45/\at_ s (i+1)=62
 .have c:i+1<s.size:=at_ne (by omega)
  rw[if_pos h5];exact⟨by show i<i+2;omega,by show i+2<=_;omega⟩
 rw[if_neg h5]
 split<;>exact⟨by show i<i+1;omega,by show i+1<=_;omega⟩
def blankB(c:Nat):Bool:=c==32||c==10
def endTok(s:ByteArray):Tok:=⟨7,⟨#[]⟩,s.size,s.size⟩
def toksF(s:ByteArray):Nat->Nat->List Tok
 |0,_=>[endTok s]|f+1,i=>if i<s.size then(if blankB (at_ s i)=true then toksF s f (i+1)else tokAt s i::toksF s f (tokAt s i).to)else[endTok s]
theorem toksF_more(s:ByteArray):∀f g i,s.size<=i+f->s.size<=i+g->toksF s f i=toksF s g i:=by
 intro f
 induction f with
 |zero=>
  intro g i h1 h2
  cases g with
  |zero=>rfl|succ g=>unfold toksF;rw[if_neg (by omega)]
 |succ f ih=>
  intro g i h1 h2
  cases g with
  |zero=>unfold toksF;rw[if_neg (by omega)]|succ g=>
   unfold toksF
   by_cases h:i<s.size
   .rw[if_pos h,if_pos h]
    have ht:=tokAt_to s i h
    rw[ih g (i+1) (by omega) (by omega),ih g (tokAt s i).to (by omega) (by omega)]
   .rw[if_neg h,if_neg h]
def toks(s:ByteArray)(i:Nat):List Tok:=toksF s (s.size-i) i
theorem toks_end{s:ByteArray}{i:Nat}(h:s.size<=i):toks s i=[endTok s]:=by
 unfold toks;rw[show s.size-i=0 by omega];rfl
theorem toks_blank{s:ByteArray}{i:Nat}(h:i<s.size)(hb:blankB (at_ s i)=true):toks s i=toks s (i+1):=by
 unfold toks
 obtain⟨k,hk⟩:∃k,s.size-i=k+1:=⟨s.size-i-1,by omega⟩
 rw[hk,toksF,if_pos h,if_pos hb,show s.size-(i+1)=k by omega]
theorem toks_tok{s:ByteArray}{i:Nat}(h:i<s.size)(hb:blankB (at_ s i)=false):toks s i=tokAt s i::toks s (tokAt s i).to:=by
 unfold toks
 obtain⟨k,hk⟩:∃k,s.size-i=k+1:=⟨s.size-i-1,by omega⟩
 have ht:=tokAt_to s i h
 rw[hk,toksF,if_pos h,if_neg (by simp[hb]),toksF_more s k (s.size-(tokAt s i).to) _ (by omega) (by omega)]
end Pu
section
namespace Un
inductive Ty where
 |var(n:Nat):Ty
 |con(c:ByteArray)(l:List Ty):Ty
mutual
def sub(σ:Nat->Ty):Ty->Ty
 |.var n=>σ n|.con c l=>.con c (subL σ l)
def subL(σ:Nat->Ty):List Ty->List Ty
 |[]=>[]|t::l=>sub σ t::subL σ l
end
mutual
def size:Ty->Nat
 |.var _=>1|.con _ l=>1+sizeL l
def sizeL:List Ty->Nat
 |[]=>0|t::l=>size t+sizeL l
end
def seen(l:List Nat)(v:Nat):List Nat:=if v∈l then l else l++[v]
mutual
def vars(a:List Nat):Ty->List Nat
 |.var n=>seen a n|.con _ l=>varsL a l
def varsL(a:List Nat):List Ty->List Nat
 |[]=>a|t::l=>varsL (vars a t) l
end
end Un
end
section
namespace Un
abbrev nFn:ByteArray:=⟨#[62]⟩
abbrev nPr:ByteArray:=⟨#[44]⟩
def par(p:Bool)(s:List UInt8):List UInt8:=if p=true then 40::(s++[41])else s
def nth(ps:List (Nat->List UInt8))(i:Nat):Nat->List UInt8:=ps.getD i fun _=>[]
def joined(c:ByteArray)(ps:List (Nat->List UInt8))(tight:Nat):List UInt8:=
 if c=nFn then par (decide (0<tight)) (nth ps 0 1++([32,45,62,32]++nth ps 1 0))
 else if c=nPr then 40::(nth ps 0 0++([44,32]++(nth ps 1 0++[41])))
 else par (decide (1<tight)&& !ps.isEmpty) (c.toList++ps.flatMap fun p=>32::p 2)
section
variable (dec:Nat->List UInt8)
mutual
def wr(L:List Nat):Ty->Nat->List UInt8
 |.var n=>fun _=>39::118::dec (L.idxOf n)|.con c l=>joined c (wrA L l)
def wrA(L:List Nat):List Ty->List (Nat->List UInt8)
 |[]=>[]|t::l=>wr L t::wrA L l
end
def written(t:Ty):List UInt8:=wr dec (vars [] t) t 0
end
end Un
end
section
namespace Un
end Un
end
end Go.Proofs.YtoceemjbcgmojaaGreatDoor

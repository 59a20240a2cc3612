import Derived.Test.YtoceemjbcgmojaaGreatDoorQRa
set_option linter.all false
set_option maxRecDepth 100000
set_option maxHeartbeats 4000000
namespace Go.Proofs.YtoceemjbcgmojaaGreatDoor
section
open Go Go.RowKit Un
theorem qdc:Tryz.prog.underlying 132=some (.slice 5):=by kernel_rfl
theorem qdy:Tryz.prog.underlying 5=some (.int .u8):=by kernel_rfl
theorem qcs:Tryz.prog.underlying 9=some .string:=by kernel_rfl
def dg(n:Nat):UInt8:=UInt8.ofNat (48+n%10)
def dec(n:Nat):List UInt8:=if n<10 then[dg n]else dec (n/10)++[dg n]
termination_by n
decreasing_by omega
def bs(l:List UInt8):BA:=⟨l.toArray⟩
theorem qa5(l:List UInt8):(bs l).size=l.length:=by simp[bs,ByteArray.size]
theorem qay(a b:List UInt8):bs a++bs b=bs (a++b):=by
 apply ByteArray.ext
 simp[bs]
theorem qbq(s:BA):bs s.toList=s:=by
 rw[ByteArray.toList_eq]
 rfl
theorem dec_len(n:Nat):(dec n).length<=n+1:=by
 induction n using Nat.strongRecOn with
 |_ n ih=>
  rw[dec]
  split
  .simp
  .have:=ih (n/10) (by omega)
   simp;omega
theorem decimal_C:∀(n:Nat)(w:World),n<=1000000000->Calls Tryz.prog 75 #[.int .i64 (n:Int)] w fun e w'=>e=.returned (.string (bs (dec n)))/\Below w.heap.size w w':=by
 intro n
 induction n using Nat.strongRecOn with
 |_ n ih=>
  intro w hn
  have IH:=ai ih
  clear ih
  have hcv:(convert 132 9 (.slice (some ⟨w.heap.size,0,none⟩) 1 1)).run Tryz.prog (w.alloc (.cells #[.int .u8 (48+(n:Int)%10)] 5))=.ok (.string (bs [dg n])) (w.alloc (.cells #[.int .u8 (48+(n:Int)%10)] 5)):=by
   refine run_convert_bytes_back _ _ _ _ ⟨w.heap.size,0,none⟩ 1 [dg n] qdc qdy qcs (fun j hj=>?_)
   have:j=0:=by simpa using hj
   subst this
   have e:((dg n).toNat:Int)=48+(n:Int)%10:=by
    rw[dg,UInt8.toNat_ofNat',Nat.mod_eq_of_lt (by omega)]
    omega
   simp only[List.getElem_cons_zero,e]
   simp[Addr.add]
  by_cases h:n<10
  .have h':(n:Int)<10:=by omega
   have hd:Hid (dec n=[dg n]):=by show _=_;rw[dec,if_pos h]
   clear h
   go_enter Tryz.func75,Tryz.ntmps75
   go_wp2_with fail
   go_ret
   exact⟨by rw[uh hd];rfl,bw _⟩
  .have h':¬(n:Int)<10:=by omega
   have hd:Hid (dec n=dec (n/10)++[dg n]):=by show _=_;rw[dec,if_neg h]
   have hlt:n/10<n:=by omega
   clear h
   go_enter Tryz.func75,Tryz.ntmps75
   go_wp2_with fail
   rw[show((n:Int)/10)=((n/10:Nat):Int) by omega]
   refine(uh IH (n/10) hlt _ (by omega)).mono ?_
   rintro e w1⟨rfl,hb⟩
   have HB:=ai (((Below.refl w.heap.size w).alloc (br _) (.cells #[.int .u8 (48+(n:Int)%10)] 5)).trans (hb.mono (by simp)))
   have hlen:¬9223372036854775807<(bs (dec (n/10))).size+(bs [dg n]).size:=by
    have:=dec_len (n/10)
    rw[qa5,qa5];simp;omega
   clear hb
   go_wp2_with fail
   go_ret
   exact⟨by rw[uh hd,<-qay];rfl,uh HB⟩
end
section
open Go Go.RowKit Un
structure P10(w:World):Prop where
 c:∀j,j<10->w.cell? ⟨2,j,none⟩=some (.int .u64 ((10^j:Nat):Int))
 z:2<w.heap.size
theorem P10.block{w w':World}(h:P10 w)(hz:w.heap.size<=w'.heap.size)(hb:w'.heap[2]? =w.heap[2]?):P10 w':=⟨fun j hj=>(World.cell?_of_block (a:=⟨2,j,none⟩) hb).trans (h.c j hj),Nat.lt_of_lt_of_le h.z hz⟩
theorem P10.bel{w w':World}(h:P10 w)(hb:Below w.heap.size w w'):P10 w':=h.block hb.size (hb.block 2 h.z)
end
section
open Go Go.RowKit Un
def armN:List (Nd×Nd)->List Nd
 |[]=>[]|p::l=>p.1::p.2::armN l
def lv:Nd->Nat
 |.mk k s _ L _ _ _=>if k=1\/k=3\/k=4\/k=5\/k=6\/k=14\/k=15\/k=16 then 5 else if k=2 then(if L=[]then 5 else 4)else if k=8 then 4 else if k=17 then 1 else if k=7 then(if s.toList=[42]then 3 else if s.toList=[60]then 1 else 2)else 0
def atP(p:Nat×List UInt8)(least:Nat):List UInt8:=Un.par (decide (p.1<least)) p.2
def qa4(P:List (Nat×List UInt8)):List UInt8:=P.flatMap fun p=>32::atP p 5
def qc6:Bool->List (Nat×List UInt8)->List UInt8
 |b,p::e::r=>(if b then[]else[32,124,32])++(p.2++([32,45,62,32]++(e.2++qc6 false r)))|_,_=>[]
def gP(P:List (Nat×List UInt8))(i:Nat):Nat×List UInt8:=P.getD i (0,[])
def qcb(k:Nat)(s:BA)(n l:Nat)(P:List (Nat×List UInt8)):List UInt8:=
 if k=1\/k=4\/k=16 then s.toList
 else if k=15 then[95]
 else if k=3 then dec n
 else if k=5 then[40,41]
 else if k=2 then s.toList++qa4 P
 else if k=6 then 40::((gP P 0).2++([44,32]++((gP P 1).2++[41])))
 else if k=14 then 40::((gP P 0).2++([32,58,32]++((gP P 1).2++[41])))
 else if k=17 then atP (gP P 0) 2++([32,45,62,32]++(gP P 1).2)
 else if k=8 then atP (gP P 0) 4++(32::atP (gP P 1) 5)
 else if k=7 then atP (gP P 0) (if l=1 then 2 else l)++(32::(s.toList++(32::atP (gP P 1) (l+1))))
 else if k=9 then[102,117,110,32]++(s.toList++([32,45,62,32]++(gP P 0).2))
 else if k=12 then[105,102,32]++((gP P 0).2++([32,116,104,101,110,32]++((gP P 1).2++([32,101,108,115,101,32]++(gP P 2).2))))
 else if k=13 then[109,97,116,99,104,32]++((gP P 0).2++([32,119,105,116,104,32]++(qc6 true (P.drop 1)++[32,101,110,100])))
 else[108,101,116,32]++((if k=11 then[114,101,99,32]else[])++(s.toList++([32,61,32]++((gP P 0).2++([32,105,110,32]++(gP P 1).2)))))
mutual
def sh:Nd->List UInt8
 |.mk k s n L f t a=>qcb k s n (lv (.mk k s n L f t a)) (prL L)
def prL:List Nd->List (Nat×List UInt8)
 |[]=>[]|x::l=>(lv x,sh x)::prL l
end
theorem prL_map:∀L:List Nd,prL L=L.map fun x=>(lv x,sh x)
 |[]=>rfl|x::l=>by simp[prL,prL_map l]
end
section
open Go Go.RowKit Un
inductive Dc where
 |ty(name:Pu.Tok)(vars:List Pu.Tok)(makers:List Nd)
 |lt(rec_:Bool)(name:Pu.Tok)(body:Nd)
def qbi(T:List Pu.Tok)(sm:M Nd):M Nd:=bnd (qa7 T 2) fun t k=>qbv T sm 1 T.length (.mk 2 t.text 0 [] t.frm (qan T k) t.frm) k
def qe0(T:List Pu.Tok)(mk:M Nd)(go:List Nd->M (List Nd))(l:List Nd):M (List Nd):=fun k=>if isT (tk T k) kBar=true then go l (k+1)else .ok (l,k)
def qbj(T:List Pu.Tok)(mk:M Nd):Nat->List Nd->M (List Nd)
 |0,l=>fun k=>.ok (l,k)|f+1,l=>bnd mk fun x=>qe0 T mk (qbj T mk f) (l++[x])
def qdm(T:List Pu.Tok):Nat->List Pu.Tok->M (List Pu.Tok)
 |0,l=>fun k=>.ok (l,k)|f+1,l=>fun k=>if(tk T k).kind=3 then qdm T f (l++[tk T k]) (k+1)else .ok (l,k)
def typeM(T:List Pu.Tok)(mk:M Nd):M Dc:=bnd (qag T qce) fun _=>bnd (qa7 T 2) fun t=>bnd (qdm T T.length []) fun vs=>bnd (qag T kEq) fun _=>bnd (qbj T mk T.length []) fun ms=>bnd (qag T qeb) fun _ k=>.ok (.ty t vs ms,k)
def letDM(T:List Pu.Tok)(e:M Nd):M Dc:=bnd (qbg T e) fun b=>bnd (qag T qeb) fun _ k=>.ok (.lt (b.1==11) b.2.1 b.2.2,k)
def qdz(T:List Pu.Tok)(n:Nat):M Dc:=fun k=>if isT (tk T k) qce=true then typeM T (qbi T (qam T (typM T n) (typM T n) 1)) k else letDM T (qaq T n) k
def qbr(T:List Pu.Tok)(d:M Dc):Nat->List Dc->M (List Dc)
 |0,l=>fun k=>.ok (l,k)|f+1,l=>fun k=>if isT (tk T k) qce=true\/isT (tk T k) kLet=true then bnd d (fun x=>qbr T d f (l++[x])) k else .ok (l,k)
def endP(T:List Pu.Tok)(l:List Dc):M (List Dc):=fun k=>if(tk T k).kind=7 then .ok (l,k)else .error (flOf (tk T k))
def qcq(s:BA):Except Fl (List Dc):=
 if 400<s.size then .error ⟨1,0,0⟩else
 match bnd (qbr (Pu.toks s 0) (qdz (Pu.toks s 0) (Pu.toks s 0).length) (Pu.toks s 0).length []) (endP (Pu.toks s 0)) 0 with
 |.error f=>.error f|.ok (l,_)=>.ok l
def letS(r:Bool)(s x:List UInt8):List UInt8:=[108,101,116,32]++((if r then[114,101,99,32]else[])++(s++([32,61,32]++x)))
def vsW(vs:List Pu.Tok):List UInt8:=vs.flatMap fun v=>[32]++v.text.toList
theorem vsW_take(vs:List Pu.Tok)(j:Nat)(h:j<vs.length):vsW (vs.take (j+1))=vsW (vs.take j)++([32]++vs[j].text.toList):=by
 unfold vsW
 rw[List.take_add_one,List.getElem?_eq_getElem h,List.flatMap_append]
 simp
theorem vsW_le(vs:List Pu.Tok)(j:Nat):(vsW (vs.take j)).length<=(vsW vs).length:=by
 have:vsW vs=vsW (vs.take j)++vsW (vs.drop j):=by unfold vsW;rw[<-List.flatMap_append,List.take_append_drop]
 rw[this,lqa];omega
def mksW:Bool->List Nd->List UInt8
 |_,[]=>[]|b,m::r=>([32]++(if b then[61]else[124]))++(([32]++sh m)++mksW false r)
theorem mksW_take:∀(b:Bool)(A:List Nd)(j:Nat)(h:j<A.length),mksW b (A.take (j+1))=mksW b (A.take j)++(([32]++(if(b&&j==0)then[61]else[124]))++([32]++sh A[j]))
 |b,[],j,h=>by simp at h|b,p::r,0,h=>by simp[mksW]|b,p::r,j+1,h=>by
  have ih:=mksW_take false r j (by simpa using h)
  simp only[List.take_succ_cons,mksW,ih,List.getElem_cons_succ]
  simp
theorem mksW_le(b:Bool):∀(A:List Nd)(j:Nat),(mksW b (A.take j)).length<=(mksW b A).length:=by
 intro A
 induction A generalizing b with
 |nil=>intro j;simp[mksW]|cons p r ih=>
  intro j
  cases j with
  |zero=>simp[mksW]|succ j=>have:=ih false j;simp only[List.take_succ_cons,mksW,lqa]at this⊢;omega
def dcS:Dc->List UInt8
 |.ty t vs ms=>[116,121,112,101]++(([32]++t.text.toList)++(vsW vs++mksW true ms))|.lt r t b=>letS r t.text.toList (sh b)
def dcE(d:Dc):List UInt8:=dcS d++[59,10]
def prS(l:List Dc):List UInt8:=l.flatMap dcE
end
section
open Go Go.RowKit Un
def len8:BA:=⟨#[0,1,2,2,3,3,3,3,4,4,4,4,4,4,4,4,5,5,5,5,5,5,5,5,5,5,5,5,5,5,5,5,6,6,6,6,6,6,6,6,6,6,6,6,6,6,6,6,6,6,6,6,6,6,6,6,6,6,6,6,6,6,6,6,7,7,7,7,7,7,7,7,7,7,7,7,7,7,7,7,7,7,7,7,7,7,7,7,7,7,7,7,7,7,7,7,7,7,7,7,7,7,7,7,7,7,7,7,7,7,7,7,7,7,7,7,7,7,7,7,7,7,7,7,7,7,7,7,8,8,8,8,8,8,8,8,8,8,8,8,8,8,8,8,8,8,8,8,8,8,8,8,8,8,8,8,8,8,8,8,8,8,8,8,8,8,8,8,8,8,8,8,8,8,8,8,8,8,8,8,8,8,8,8,8,8,8,8,8,8,8,8,8,8,8,8,8,8,8,8,8,8,8,8,8,8,8,8,8,8,8,8,8,8,8,8,8,8,8,8,8,8,8,8,8,8,8,8,8,8,8,8,8,8,8,8,8,8,8,8,8,8,8,8,8,8,8,8,8,8,8,8,8,8,8,8]⟩
def len8N(i:Nat):Nat:=(len8.data.getD i 0).toNat
theorem len8_all:(List.range 256).all (fun i=>i==0||(decide (1<=len8N i)&&decide (2^(len8N i-1)<=i)&&decide (i<2^len8N i)&&decide (len8N i<=8)))=true:=by kernel_rfl
theorem len8_at(i:Nat)(h:i<len8.size)(h0:0<i)(h1:i<256):1<=len8[i].toNat/\2^(len8[i].toNat-1)<=i/\i<2^len8[i].toNat/\len8[i].toNat<=8:=by
 have e:len8[i].toNat=len8N i:=by
  unfold len8N
  have h':i<len8.data.size:=h
  rw[Array.getD_eq_getD_getElem?,Array.getElem?_eq_getElem h']
  rfl
 rw[e]
 have:=List.all_eq_true.1 len8_all i (List.mem_range.2 h1)
 simp only[Bool.or_eq_true,Bool.and_eq_true,decide_eq_true_eq,beq_iff_eq]at this
 rcases this with q|⟨⟨⟨a,b⟩,c⟩,d⟩
 .omega
 .exact⟨a,b,c,d⟩
theorem len_lift(n s t:Nat)(h1:2^(t-1)<=n/2^s)(h2:n/2^s<2^t)(ht:1<=t):2^(s+t-1)<=n/\n<2^(s+t):=by
 have hs:0<2^s:=Nat.two_pow_pos s
 rw[Nat.le_div_iff_mul_le hs]at h1
 rw[Nat.div_lt_iff_lt_mul hs]at h2
 rw[show s+t-1=(t-1)+s by omega,Nat.pow_add,Nat.add_comm s t,Nat.pow_add]
 exact⟨h1,h2⟩
theorem dec_dl:∀(d n:Nat),(d=0\/10^d<=n)->n<10^(d+1)->(dec n).length=d+1
 |0,n,_,h=>by unfold dec;rw[if_pos (by simpa using h)];rfl|d+1,n,h,h'=>by
  have h1:10^(d+1)<=n:=by rcases h with h|h<;>first|omega|exact h
  have hp:0<10^d:=Nat.pow_pos (by decide)
  rw[Nat.pow_succ]at h1 h'
  have h2:¬n<10:=by omega
  unfold dec
  rw[if_neg h2]
  have:=dec_dl d (n/10) (Or.inr (by omega)) (by omega)
  simp[this]
theorem log_all:∀k,k<31->1<=k->10^(k*78913/262144-1)<=2^(k-1)/\2^k<=10^(k*78913/262144+1)/\k*78913/262144<=9:=by decide
theorem digits_of{n k:Nat}(h0:0<n)(hk:1<=k)(hk2:k<=30)(h1:2^(k-1)<=n)(h2:n<2^k):(dec n).length=k*78913/262144+(if decide (10^(k*78913/262144)<=n)=true then 1 else 0):=by
 obtain⟨a,b,c⟩:=log_all k (by omega) hk
 generalize k*78913/262144=e at a b c⊢
 by_cases h:10^e<=n
 .rw[if_pos (by simpa using h)]
  exact dec_dl e n (Or.inr h) (by omega)
 .rw[if_neg (by simpa using h)]
  cases e with
  |zero=>simp at h;omega|succ d=>
   have:=dec_dl d n (Or.inr (by simp at a;omega)) (by omega)
   simpa using this
section
variable {w:World}
theorem bool2_C(b:Bool):Calls Tryz.prog 376 #[.bool b] w fun e w'=>e=.returned (.int .i64 (if b=true then 1 else 0))/\w'=w:=by
 cases b
 .go_enter Tryz.func376,Tryz.ntmps376
  go_wp2_with fail
  go_ret
  exact⟨rfl,rfl⟩
 .go_enter Tryz.func376,Tryz.ntmps376
  go_wp2_with fail
  go_ret
  exact⟨rfl,rfl⟩
theorem log10_C(k:Nat)(h:k<=40):Calls Tryz.prog 375 #[.int .i64 (k:Int)] w fun e w'=>e=.returned (.int .i64 ((k*78913/262144:Nat):Int))/\w'=w:=by
 go_enter Tryz.func375,Tryz.ntmps375
 go_wp2_with fail
 go_ret
 refine⟨?_,rfl⟩
 show Ending.returned (.int .i64 ((k:Int)*78913/262144))=_
 rw[show(k:Int)*78913/262144=((k*78913/262144:Nat):Int) by omega]
def LenP(n:Nat)(w:World)(e:Ending)(w':World):Prop:=∃k:Nat,e=.returned (.int .i64 (k:Int))/\1<=k/\2^(k-1)<=n/\n<2^k/\w'=w
theorem Len64_a(n:Nat)(h0:16777216<=n)(h:n<1000000000):Calls Tryz.prog 246 #[.int .u64 (n:Int)] w (LenP n w):=by
 have d0:decide ((4294967296:Int)<=(n:Int))=false:=by simp;omega
 have d1:decide ((65536:Int)<=(n:Int))=true:=by simp;omega
 have d2:decide ((256:Int)<=(n:Int)/65536)=true:=by simp;omega
 go_enter Tryz.func246,Tryz.ntmps246
 go_wp2_with fail
 go_ret
 have hm:n/65536/256<256:=by omega
 obtain⟨a,b,c,d⟩:=len8_at (n/65536/256) (show n/65536/256<256 by omega) (by omega) hm
 have l:=len_lift n 24 len8[n/65536/256].toNat (by simpa[Nat.div_div_eq_div_mul]using b) (by simpa[Nat.div_div_eq_div_mul]using c) a
 refine⟨24+len8[n/65536/256].toNat,?_,by omega,l.1,l.2,rfl⟩
 show Ending.returned (.int .i64 _)=_
 congr 2
 show wrap64 (24+wrap64 ((len8[n/65536/256].toNat:Nat):Int))=_
 generalize len8[n/65536/256].toNat=t at d⊢
 rw[IntWalk.wrap64_in ((t:Nat):Int) (by omega),IntWalk.wrap64_in _ (by omega)]
 omega
theorem Len64_b(n:Nat)(h0:65536<=n)(h:n<16777216):Calls Tryz.prog 246 #[.int .u64 (n:Int)] w (LenP n w):=by
 have d0:decide ((4294967296:Int)<=(n:Int))=false:=by simp;omega
 have d1:decide ((65536:Int)<=(n:Int))=true:=by simp;omega
 have d2:decide ((256:Int)<=(n:Int)/65536)=false:=by simp;omega
 go_enter Tryz.func246,Tryz.ntmps246
 go_wp2_with fail
 go_ret
 have hm:n/65536<256:=by omega
 obtain⟨a,b,c,d⟩:=len8_at (n/65536) (show n/65536<256 by omega) (by omega) hm
 have l:=len_lift n 16 len8[n/65536].toNat (by simpa[Nat.div_div_eq_div_mul]using b) (by simpa[Nat.div_div_eq_div_mul]using c) a
 refine⟨16+len8[n/65536].toNat,?_,by omega,l.1,l.2,rfl⟩
 show Ending.returned (.int .i64 _)=_
 congr 2
 show wrap64 (16+wrap64 ((len8[n/65536].toNat:Nat):Int))=_
 generalize len8[n/65536].toNat=t at d⊢
 rw[IntWalk.wrap64_in ((t:Nat):Int) (by omega),IntWalk.wrap64_in _ (by omega)]
 omega
theorem Len64_c(n:Nat)(h0:256<=n)(h:n<65536):Calls Tryz.prog 246 #[.int .u64 (n:Int)] w (LenP n w):=by
 have d0:decide ((4294967296:Int)<=(n:Int))=false:=by simp;omega
 have d1:decide ((65536:Int)<=(n:Int))=false:=by simp;omega
 have d2:decide ((256:Int)<=(n:Int))=true:=by simp;omega
 go_enter Tryz.func246,Tryz.ntmps246
 go_wp2_with fail
 go_ret
 have hm:n/256<256:=by omega
 obtain⟨a,b,c,d⟩:=len8_at (n/256) (show n/256<256 by omega) (by omega) hm
 have l:=len_lift n 8 len8[n/256].toNat (by simpa[Nat.div_div_eq_div_mul]using b) (by simpa[Nat.div_div_eq_div_mul]using c) a
 refine⟨8+len8[n/256].toNat,?_,by omega,l.1,l.2,rfl⟩
 show Ending.returned (.int .i64 _)=_
 congr 2
 show wrap64 (8+wrap64 ((len8[n/256].toNat:Nat):Int))=_
 generalize len8[n/256].toNat=t at d⊢
 rw[IntWalk.wrap64_in ((t:Nat):Int) (by omega),IntWalk.wrap64_in _ (by omega)]
 omega
theorem Len64_d(n:Nat)(h0:1<=n)(h:n<256):Calls Tryz.prog 246 #[.int .u64 (n:Int)] w (LenP n w):=by
 have d0:decide ((4294967296:Int)<=(n:Int))=false:=by simp;omega
 have d1:decide ((65536:Int)<=(n:Int))=false:=by simp;omega
 have d2:decide ((256:Int)<=(n:Int))=false:=by simp;omega
 go_enter Tryz.func246,Tryz.ntmps246
 go_wp2_with fail
 go_ret
 have hm:n<256:=by omega
 obtain⟨a,b,c,d⟩:=len8_at (n) (show n<256 by omega) (by omega) hm
 have l:=len_lift n 0 len8[n].toNat (by simpa[Nat.div_div_eq_div_mul]using b) (by simpa[Nat.div_div_eq_div_mul]using c) a
 refine⟨0+len8[n].toNat,?_,by omega,l.1,l.2,rfl⟩
 show Ending.returned (.int .i64 _)=_
 congr 2
 show wrap64 (wrap64 ((len8[n].toNat:Nat):Int))=_
 generalize len8[n].toNat=t at d⊢
 rw[IntWalk.wrap64_in ((t:Nat):Int) (by omega),IntWalk.wrap64_in _ (by omega)]
 omega
theorem Len64_C(n:Nat)(h0:1<=n)(h:n<1000000000):Calls Tryz.prog 246 #[.int .u64 (n:Int)] w (LenP n w):=by
 by_cases h1:n<256
 .exact Len64_d n h0 h1
 .by_cases h2:n<65536
  .exact Len64_c n (by omega) h2
  .by_cases h3:n<16777216
   .exact Len64_b n (by omega) h3
   .exact Len64_a n (by omega) h
theorem qda(n:Nat)(h0:1<=n)(h:n<1000000000)(hp:P10 w):Calls Tryz.prog 357 #[.int .u64 (n:Int)] w fun e w'=>e=.returned (.int .i64 ((dec n).length:Int))/\w'=w:=by
 have HL:=ai (Len64_C (w:=w) n h0 h)
 go_enter Tryz.func357,Tryz.ntmps357
 go_wp2_with fail
 refine(uh HL).mono ?_
 rintro e w'⟨k,rfl,k1,k2,k3,rfl⟩
 have hk:k<=30:=by
  rcases Nat.lt_or_ge 30 k with q|q
  .have:=Nat.pow_le_pow_right (n:=2) (by decide) (show 30<=k-1 by omega)
   omega
  .exact q
 have hd:=ai (digits_of (n:=n) (by omega) k1 hk k2 k3)
 have he:=(log_all k (by omega) k1).2.2
 have HC:=ai (log10_C (w:=w') k (by omega))
 clear HL k2 k3
 generalize k*78913/262144=e at hd he HC
 have hc:=hp.c e (by omega)
 have hz:=hp.z
 have e0:(0:Int)<=(e:Int):=by omega
 have e1:(e:Int)<20:=by omega
 generalize 10^e=T at hc hd
 clear hp
 by_cases hT:T<=n
 .have hT':(T:Int)<=(n:Int):=by omega
  have hd:Hid ((dec n).length=e+1):=ai (by rw[uh hd,if_pos (by simpa using hT)])
  go_wp2_with fail
  refine(uh HC).mono ?_
  rintro e' w2⟨rfl,rfl⟩
  clear HC
  go_wp2_with fail
  refine(bool2_C true).mono ?_
  rintro e' w3⟨rfl,rfl⟩
  go_wp2_with fail
  go_ret
  refine⟨?_,rfl⟩
  rw[uh hd]
  rfl
 .have hT':(n:Int)<(T:Int):=by omega
  have hd:Hid ((dec n).length=e):=ai (by rw[uh hd,if_neg (by simpa using hT)];rfl)
  go_wp2_with fail
  refine(uh HC).mono ?_
  rintro e' w2⟨rfl,rfl⟩
  clear HC
  go_wp2_with fail
  refine(bool2_C false).mono ?_
  rintro e' w3⟨rfl,rfl⟩
  go_wp2_with fail
  go_ret
  refine⟨?_,rfl⟩
  rw[uh hd]
  rfl
end
end
section
open Go Go.RowKit Un
abbrev ndA(x:NV):Array Value:=#[.int .i64 x.k,.string x.s,.int .i64 x.n,.slice x.la x.ll x.lc,.int .i64 x.f,.int .i64 x.t,.int .i64 x.a]
theorem NR.pts{w:World}{Q:Nat->Prop}{k:Nat}{s:BA}{n:Nat}{L:List Nd}{f t a:Nat}{x:NV}(h:NR w Q (.mk k s n L f t a) x):
 ∃la cap,x=⟨k,s,n,la,L.length,cap,f,t,a⟩/\∀i(hi:i<L.length),∃g y,la=some ⟨g,0,none⟩/\(g<w.heap.size/\Q g)/\at7 w g i y/\NR w Q (L[i]) y:=by
 cases h with
 |leaf=>exact⟨none,0,rfl,fun i hi=>by simp at hi⟩|row k s n L f t a g cap xs h0 hP hz hc hr=>exact⟨some ⟨g,0,none⟩,cap,rfl,fun i hi=>⟨g,xs i,rfl,⟨hz,hP⟩,hc i hi,hr i hi⟩⟩
theorem qdq{w:World}{g i:Nat}{y:NV}(h:at7 w g i y):w.cell? ⟨g,i*7,none⟩=some (.int .i64 y.k)/\w.cell? ⟨g,i*7+1,none⟩=some (.string y.s)/\w.cell? ⟨g,i*7+2,none⟩=some (.int .i64 y.n)/\w.cell? ⟨g,i*7+3,none⟩=some (.slice y.la y.ll y.lc)/\w.cell? ⟨g,i*7+4,none⟩=some (.int .i64 y.f)/\w.cell? ⟨g,i*7+5,none⟩=some (.int .i64 y.t)/\w.cell? ⟨g,i*7+6,none⟩=some (.int .i64 y.a):=
 ⟨h 0 (by omega),h 1 (by omega),h 2 (by omega),h 3 (by omega),h 4 (by omega),h 5 (by omega),h 6 (by omega)⟩
theorem qdp{w w':World}{g i:Nat}{y:NV}(h:at7 w g i y)(hb:Below w.heap.size w w')(hg:g<w.heap.size):at7 w' g i y:=fun j hj=>(World.cell?_of_block (a:=⟨g,i*7+j,none⟩) (hb.block g hg)).trans (h j hj)
def ShD(nd:Nd):Prop:=∀(w:World)(P:Nat->Prop)(x:NV),NR w P nd x->(sh nd).length<=800000->Calls Tryz.prog 61 #[x.v] w fun e w'=>e=.returned (.string (bs (sh nd)))/\Below w.heap.size w w'
def AtD(nd:Nd):Prop:=∀(w:World)(P:Nat->Prop)(x:NV)(k:Nat),k<=5->NR w P nd x->(sh nd).length<=800000->Calls Tryz.prog 122 #[x.v,.int .i64 (k:Int)] w fun e w'=>e=.returned (.string (bs (atP (lv nd,sh nd) k)))/\Below w.heap.size w w'
theorem qdu(s:BA):s.size=s.toList.length:=by
 have:=qa5 s.toList
 rwa[qbq]at this
theorem level_1{w:World}(s:BA)(n:Nat)(la:Option Addr)(ll lc f t a:Nat):Calls Tryz.prog 210 #[NV.v ⟨1,s,n,la,ll,lc,f,t,a⟩] w fun e w'=>e=.returned (.int .i64 5)/\Below w.heap.size w w':=by
 unfold NV.v
 go_enter Tryz.func210,Tryz.ntmps210
 go_wp2_with fail
 go_ret
 exact⟨rfl,bw _⟩
theorem level_3{w:World}(s:BA)(n:Nat)(la:Option Addr)(ll lc f t a:Nat):Calls Tryz.prog 210 #[NV.v ⟨3,s,n,la,ll,lc,f,t,a⟩] w fun e w'=>e=.returned (.int .i64 5)/\Below w.heap.size w w':=by
 unfold NV.v
 go_enter Tryz.func210,Tryz.ntmps210
 go_wp2_with fail
 go_ret
 exact⟨rfl,bw _⟩
theorem level_4{w:World}(s:BA)(n:Nat)(la:Option Addr)(ll lc f t a:Nat):Calls Tryz.prog 210 #[NV.v ⟨4,s,n,la,ll,lc,f,t,a⟩] w fun e w'=>e=.returned (.int .i64 5)/\Below w.heap.size w w':=by
 unfold NV.v
 go_enter Tryz.func210,Tryz.ntmps210
 go_wp2_with fail
 go_ret
 exact⟨rfl,bw _⟩
theorem level_5{w:World}(s:BA)(n:Nat)(la:Option Addr)(ll lc f t a:Nat):Calls Tryz.prog 210 #[NV.v ⟨5,s,n,la,ll,lc,f,t,a⟩] w fun e w'=>e=.returned (.int .i64 5)/\Below w.heap.size w w':=by
 unfold NV.v
 go_enter Tryz.func210,Tryz.ntmps210
 go_wp2_with fail
 go_ret
 exact⟨rfl,bw _⟩
theorem level_6{w:World}(s:BA)(n:Nat)(la:Option Addr)(ll lc f t a:Nat):Calls Tryz.prog 210 #[NV.v ⟨6,s,n,la,ll,lc,f,t,a⟩] w fun e w'=>e=.returned (.int .i64 5)/\Below w.heap.size w w':=by
 unfold NV.v
 go_enter Tryz.func210,Tryz.ntmps210
 go_wp2_with fail
 go_ret
 exact⟨rfl,bw _⟩
theorem level_14{w:World}(s:BA)(n:Nat)(la:Option Addr)(ll lc f t a:Nat):Calls Tryz.prog 210 #[NV.v ⟨14,s,n,la,ll,lc,f,t,a⟩] w fun e w'=>e=.returned (.int .i64 5)/\Below w.heap.size w w':=by
 unfold NV.v
 go_enter Tryz.func210,Tryz.ntmps210
 go_wp2_with fail
 go_ret
 exact⟨rfl,bw _⟩
theorem level_15{w:World}(s:BA)(n:Nat)(la:Option Addr)(ll lc f t a:Nat):Calls Tryz.prog 210 #[NV.v ⟨15,s,n,la,ll,lc,f,t,a⟩] w fun e w'=>e=.returned (.int .i64 5)/\Below w.heap.size w w':=by
 unfold NV.v
 go_enter Tryz.func210,Tryz.ntmps210
 go_wp2_with fail
 go_ret
 exact⟨rfl,bw _⟩
theorem level_16{w:World}(s:BA)(n:Nat)(la:Option Addr)(ll lc f t a:Nat):Calls Tryz.prog 210 #[NV.v ⟨16,s,n,la,ll,lc,f,t,a⟩] w fun e w'=>e=.returned (.int .i64 5)/\Below w.heap.size w w':=by
 unfold NV.v
 go_enter Tryz.func210,Tryz.ntmps210
 go_wp2_with fail
 go_ret
 exact⟨rfl,bw _⟩
theorem level_2a{w:World}(s:BA)(n:Nat)(la:Option Addr)(ll lc f t a:Nat)(h:ll=0):Calls Tryz.prog 210 #[NV.v ⟨2,s,n,la,ll,lc,f,t,a⟩] w fun e w'=>e=.returned (.int .i64 5)/\Below w.heap.size w w':=by
 unfold NV.v
 subst h
 go_enter Tryz.func210,Tryz.ntmps210
 go_wp2_with fail
 go_ret
 exact⟨rfl,bw _⟩
theorem level_2b{w:World}(s:BA)(n:Nat)(la:Option Addr)(ll lc f t a:Nat)(h:ll≠0):Calls Tryz.prog 210 #[NV.v ⟨2,s,n,la,ll,lc,f,t,a⟩] w fun e w'=>e=.returned (.int .i64 4)/\Below w.heap.size w w':=by
 unfold NV.v
 have h0:((ll:Int)==0)=false:=by simp;omega
 go_enter Tryz.func210,Tryz.ntmps210
 go_wp2_with fail
 go_ret
 exact⟨rfl,bw _⟩
theorem level_8{w:World}(s:BA)(n:Nat)(la:Option Addr)(ll lc f t a:Nat):Calls Tryz.prog 210 #[NV.v ⟨8,s,n,la,ll,lc,f,t,a⟩] w fun e w'=>e=.returned (.int .i64 4)/\Below w.heap.size w w':=by
 unfold NV.v
 go_enter Tryz.func210,Tryz.ntmps210
 go_wp2_with fail
 go_ret
 exact⟨rfl,bw _⟩
theorem level_17{w:World}(s:BA)(n:Nat)(la:Option Addr)(ll lc f t a:Nat):Calls Tryz.prog 210 #[NV.v ⟨17,s,n,la,ll,lc,f,t,a⟩] w fun e w'=>e=.returned (.int .i64 1)/\Below w.heap.size w w':=by
 unfold NV.v
 go_enter Tryz.func210,Tryz.ntmps210
 go_wp2_with fail
 go_ret
 exact⟨rfl,bw _⟩
theorem level_9{w:World}(s:BA)(n:Nat)(la:Option Addr)(ll lc f t a:Nat):Calls Tryz.prog 210 #[NV.v ⟨9,s,n,la,ll,lc,f,t,a⟩] w fun e w'=>e=.returned (.int .i64 0)/\Below w.heap.size w w':=by
 unfold NV.v
 go_enter Tryz.func210,Tryz.ntmps210
 go_wp2_with fail
 go_ret
 exact⟨rfl,bw _⟩
theorem level_10{w:World}(s:BA)(n:Nat)(la:Option Addr)(ll lc f t a:Nat):Calls Tryz.prog 210 #[NV.v ⟨10,s,n,la,ll,lc,f,t,a⟩] w fun e w'=>e=.returned (.int .i64 0)/\Below w.heap.size w w':=by
 unfold NV.v
 go_enter Tryz.func210,Tryz.ntmps210
 go_wp2_with fail
 go_ret
 exact⟨rfl,bw _⟩
theorem level_11{w:World}(s:BA)(n:Nat)(la:Option Addr)(ll lc f t a:Nat):Calls Tryz.prog 210 #[NV.v ⟨11,s,n,la,ll,lc,f,t,a⟩] w fun e w'=>e=.returned (.int .i64 0)/\Below w.heap.size w w':=by
 unfold NV.v
 go_enter Tryz.func210,Tryz.ntmps210
 go_wp2_with fail
 go_ret
 exact⟨rfl,bw _⟩
theorem level_12{w:World}(s:BA)(n:Nat)(la:Option Addr)(ll lc f t a:Nat):Calls Tryz.prog 210 #[NV.v ⟨12,s,n,la,ll,lc,f,t,a⟩] w fun e w'=>e=.returned (.int .i64 0)/\Below w.heap.size w w':=by
 unfold NV.v
 go_enter Tryz.func210,Tryz.ntmps210
 go_wp2_with fail
 go_ret
 exact⟨rfl,bw _⟩
theorem level_13{w:World}(s:BA)(n:Nat)(la:Option Addr)(ll lc f t a:Nat):Calls Tryz.prog 210 #[NV.v ⟨13,s,n,la,ll,lc,f,t,a⟩] w fun e w'=>e=.returned (.int .i64 0)/\Below w.heap.size w w':=by
 unfold NV.v
 go_enter Tryz.func210,Tryz.ntmps210
 go_wp2_with fail
 go_ret
 exact⟨rfl,bw _⟩
theorem level_7a{w:World}(s:BA)(n:Nat)(la:Option Addr)(ll lc f t a:Nat)(h:s.toList=[42]):Calls Tryz.prog 210 #[NV.v ⟨7,s,n,la,ll,lc,f,t,a⟩] w fun e w'=>e=.returned (.int .i64 3)/\Below w.heap.size w w':=by
 unfold NV.v
 have h0:(s.toList==[42])=true:=by rw[h];rfl
 go_enter Tryz.func210,Tryz.ntmps210
 go_wp2_with fail
 go_ret
 exact⟨rfl,bw _⟩
theorem level_7b{w:World}(s:BA)(n:Nat)(la:Option Addr)(ll lc f t a:Nat)(h:s.toList=[60]):Calls Tryz.prog 210 #[NV.v ⟨7,s,n,la,ll,lc,f,t,a⟩] w fun e w'=>e=.returned (.int .i64 1)/\Below w.heap.size w w':=by
 unfold NV.v
 have h0:(s.toList==[42])=false:=by rw[h];rfl
 have h1:(s.toList==[60])=true:=by rw[h];rfl
 go_enter Tryz.func210,Tryz.ntmps210
 go_wp2_with fail
 go_ret
 exact⟨rfl,bw _⟩
theorem level_7c{w:World}(s:BA)(n:Nat)(la:Option Addr)(ll lc f t a:Nat)(h:s.toList≠[42])(h2:s.toList≠[60]):Calls Tryz.prog 210 #[NV.v ⟨7,s,n,la,ll,lc,f,t,a⟩] w fun e w'=>e=.returned (.int .i64 2)/\Below w.heap.size w w':=by
 unfold NV.v
 have h0:(s.toList==[42])=false:=by rw[<-Bool.not_eq_true,beq_iff_eq];exact h
 have h1:(s.toList==[60])=false:=by rw[<-Bool.not_eq_true,beq_iff_eq];exact h2
 go_enter Tryz.func210,Tryz.ntmps210
 go_wp2_with fail
 go_ret
 exact⟨rfl,bw _⟩
theorem level_D{w:World}{P:Nat->Prop}{k:Nat}{s:BA}{n:Nat}{L:List Nd}{f t a:Nat}{x:NV}(hk:1<=k)(hk2:k<=17)(h:NR w P (.mk k s n L f t a) x):Calls Tryz.prog 210 #[x.v] w fun e w'=>e=.returned (.int .i64 (lv (.mk k s n L f t a):Int))/\Below w.heap.size w w':=by
 obtain⟨la,lc,rfl,-⟩:=h.pts
 have hc:k=1\/k=2\/k=3\/k=4\/k=5\/k=6\/k=7\/k=8\/k=9\/k=10\/k=11\/k=12\/k=13\/k=14\/k=15\/k=16\/k=17:=by omega
 rcases hc with rfl|rfl|rfl|rfl|rfl|rfl|rfl|rfl|rfl|rfl|rfl|rfl|rfl|rfl|rfl|rfl|rfl
 .have:=level_1 (w:=w) s n la L.length lc f t a
  simpa[lv]using this
 .by_cases e:L=[]
  .have:=level_2a (w:=w) s n la L.length lc f t a (by rw[e];rfl)
   simpa[lv,e]using this
  .have:=level_2b (w:=w) s n la L.length lc f t a (by intro q;exact e (List.eq_nil_of_length_eq_zero q))
   simpa[lv,e]using this
 .have:=level_3 (w:=w) s n la L.length lc f t a
  simpa[lv]using this
 .have:=level_4 (w:=w) s n la L.length lc f t a
  simpa[lv]using this
 .have:=level_5 (w:=w) s n la L.length lc f t a
  simpa[lv]using this
 .have:=level_6 (w:=w) s n la L.length lc f t a
  simpa[lv]using this
 .by_cases e:s.toList=[42]
  .have:=level_7a (w:=w) s n la L.length lc f t a e
   simpa[lv,e]using this
  .by_cases e2:s.toList=[60]
   .have:=level_7b (w:=w) s n la L.length lc f t a e2
    simpa[lv,e2]using this
   .have:=level_7c (w:=w) s n la L.length lc f t a e e2
    simpa[lv,e,e2]using this
 .have:=level_8 (w:=w) s n la L.length lc f t a
  simpa[lv]using this
 .have:=level_9 (w:=w) s n la L.length lc f t a
  simpa[lv]using this
 .have:=level_10 (w:=w) s n la L.length lc f t a
  simpa[lv]using this
 .have:=level_11 (w:=w) s n la L.length lc f t a
  simpa[lv]using this
 .have:=level_12 (w:=w) s n la L.length lc f t a
  simpa[lv]using this
 .have:=level_13 (w:=w) s n la L.length lc f t a
  simpa[lv]using this
 .have:=level_14 (w:=w) s n la L.length lc f t a
  simpa[lv]using this
 .have:=level_15 (w:=w) s n la L.length lc f t a
  simpa[lv]using this
 .have:=level_16 (w:=w) s n la L.length lc f t a
  simpa[lv]using this
 .have:=level_17 (w:=w) s n la L.length lc f t a
  simpa[lv]using this
theorem at_D{k:Nat}{s:BA}{n:Nat}{L:List Nd}{f t a:Nat}(hk:1<=k)(hk2:k<=17)(H:ShD (.mk k s n L f t a)):AtD (.mk k s n L f t a):=by
 intro w P x p hp hx hl
 obtain⟨la,lc,rfl,-⟩:=hx.pts
 have hb0:Below w.heap.size w (w.alloc (.cells (ndA ⟨k,s,n,la,L.length,lc,f,t,a⟩) 62)):=bw _
 have HL:=ai (level_D hk hk2 (hx.bel hb0))
 have HX:=ai (hx.bel hb0)
 have BN:=ai (Bx.new w (ndA ⟨k,s,n,la,L.length,lc,f,t,a⟩) 62)
 generalize hnd:Nd.mk k s n L f t a=nd at H HL HX hl⊢
 have hz:(bs (sh nd)).size<=800000:=by rw[qa5];exact hl
 have HH:=ai H
 clear H hx
 unfold NV.v
 go_enter Tryz.func122,Tryz.ntmps122
 go_wp2_with fail
 refine(uh HL).mono ?_
 rintro e w1⟨rfl,hb1⟩
 have HB1:=hb0.trans (hb1.mono hb0.size)
 obtain⟨c1,f1,z1⟩:=(uh BN).below hb1
 have HS:=ai (uh HH w1 P _ ((uh HX).bel hb1) hl)
 clear HL HX BN HH
 go_wp2_with fail
 refine(uh HS).mono ?_
 rintro e w2⟨rfl,hb2⟩
 have HB2:=HB1.trans (hb2.mono HB1.size)
 clear HS c1 f1 z1
 by_cases hlt:lv nd<p
 .have hd:(lv nd:Int)<(p:Int):=by omega
  go_wp2_with fail
  go_ret
  refine⟨?_,HB2⟩
  unfold atP Un.par
  rw[show decide ((lv nd,sh nd).1<p)=true by simpa using hlt]
  show _=Ending.returned (.string (bs (40::(sh nd++[41]))))
  rw[show(40:UInt8)::(sh nd++[41])=[40]++sh nd++[41] by simp]
  simp only[<-qay]
  rfl
 .have hd:decide ((lv nd:Int)<(p:Int))=false:=by simp;omega
  go_wp2_with fail
  go_ret
  refine⟨?_,HB2⟩
  unfold atP Un.par
  rw[show decide ((lv nd,sh nd).1<p)=false by simpa using hlt]
  rfl
end
section
open Go Go.RowKit Un
theorem atP_le(nd:Nd)(k:Nat):(sh nd).length<=(atP (lv nd,sh nd) k).length:=by unfold atP Un.par;split<;>simp<;>omega
theorem sh_1(s:BA)(n f t a:Nat):ShD (.mk 1 s n [] f t a):=by
 intro w P x hx hl
 obtain⟨la,lc,rfl,hp⟩:=hx.pts
 have hsz:s.size=s.toList.length:=qdu s
 have esh:sh (.mk 1 s n [] f t a)=s.toList:=by simp[sh,qcb,prL,gP]
 rw[esh]at hl⊢
 have hb0:Below w.heap.size w (w.alloc (.cells (ndA ⟨1,s,n,la,0,lc,f,t,a⟩) 62)):=bw _
 have BN:=ai (Bx.new w (ndA ⟨1,s,n,la,0,lc,f,t,a⟩) 62)
 obtain⟨Z,HZ⟩:∃Z,Hid (Z=bs (s.toList)):=⟨_,ai rfl⟩
 rw[<-uh HZ]
 unfold NV.v
 go_enter Tryz.func61,Tryz.ntmps61
 go_wp2_with fail
 go_ret
 exact⟨by rw[uh HZ];first|rfl|(rw[qbq];rfl),hb0⟩
theorem sh_4(s:BA)(n f t a:Nat):ShD (.mk 4 s n [] f t a):=by
 intro w P x hx hl
 obtain⟨la,lc,rfl,hp⟩:=hx.pts
 have hsz:s.size=s.toList.length:=qdu s
 have esh:sh (.mk 4 s n [] f t a)=s.toList:=by simp[sh,qcb,prL,gP]
 rw[esh]at hl⊢
 have hb0:Below w.heap.size w (w.alloc (.cells (ndA ⟨4,s,n,la,0,lc,f,t,a⟩) 62)):=bw _
 have BN:=ai (Bx.new w (ndA ⟨4,s,n,la,0,lc,f,t,a⟩) 62)
 obtain⟨Z,HZ⟩:∃Z,Hid (Z=bs (s.toList)):=⟨_,ai rfl⟩
 rw[<-uh HZ]
 unfold NV.v
 go_enter Tryz.func61,Tryz.ntmps61
 go_wp2_with fail
 go_ret
 exact⟨by rw[uh HZ];first|rfl|(rw[qbq];rfl),hb0⟩
theorem sh_16(s:BA)(n f t a:Nat):ShD (.mk 16 s n [] f t a):=by
 intro w P x hx hl
 obtain⟨la,lc,rfl,hp⟩:=hx.pts
 have hsz:s.size=s.toList.length:=qdu s
 have esh:sh (.mk 16 s n [] f t a)=s.toList:=by simp[sh,qcb,prL,gP]
 rw[esh]at hl⊢
 have hb0:Below w.heap.size w (w.alloc (.cells (ndA ⟨16,s,n,la,0,lc,f,t,a⟩) 62)):=bw _
 have BN:=ai (Bx.new w (ndA ⟨16,s,n,la,0,lc,f,t,a⟩) 62)
 obtain⟨Z,HZ⟩:∃Z,Hid (Z=bs (s.toList)):=⟨_,ai rfl⟩
 rw[<-uh HZ]
 unfold NV.v
 go_enter Tryz.func61,Tryz.ntmps61
 go_wp2_with fail
 go_ret
 exact⟨by rw[uh HZ];first|rfl|(rw[qbq];rfl),hb0⟩
theorem sh_15(s:BA)(n f t a:Nat):ShD (.mk 15 s n [] f t a):=by
 intro w P x hx hl
 obtain⟨la,lc,rfl,hp⟩:=hx.pts
 have esh:sh (.mk 15 s n [] f t a)=[95]:=by simp[sh,qcb,prL,gP]
 rw[esh]at hl⊢
 have hb0:Below w.heap.size w (w.alloc (.cells (ndA ⟨15,s,n,la,0,lc,f,t,a⟩) 62)):=bw _
 have BN:=ai (Bx.new w (ndA ⟨15,s,n,la,0,lc,f,t,a⟩) 62)
 obtain⟨Z,HZ⟩:∃Z,Hid (Z=bs ([95])):=⟨_,ai rfl⟩
 rw[<-uh HZ]
 unfold NV.v
 go_enter Tryz.func61,Tryz.ntmps61
 go_wp2_with fail
 go_ret
 exact⟨by rw[uh HZ];first|rfl|(rw[qbq];rfl),hb0⟩
theorem sh_5(s:BA)(n f t a:Nat):ShD (.mk 5 s n [] f t a):=by
 intro w P x hx hl
 obtain⟨la,lc,rfl,hp⟩:=hx.pts
 have esh:sh (.mk 5 s n [] f t a)=[40,41]:=by simp[sh,qcb,prL,gP]
 rw[esh]at hl⊢
 have hb0:Below w.heap.size w (w.alloc (.cells (ndA ⟨5,s,n,la,0,lc,f,t,a⟩) 62)):=bw _
 have BN:=ai (Bx.new w (ndA ⟨5,s,n,la,0,lc,f,t,a⟩) 62)
 obtain⟨Z,HZ⟩:∃Z,Hid (Z=bs ([40,41])):=⟨_,ai rfl⟩
 rw[<-uh HZ]
 unfold NV.v
 go_enter Tryz.func61,Tryz.ntmps61
 go_wp2_with fail
 go_ret
 exact⟨by rw[uh HZ];first|rfl|(rw[qbq];rfl),hb0⟩
theorem sh_6(s:BA)(n f t a:Nat){u v:Nd}(Hu:ShD u)(Hv:ShD v):ShD (.mk 6 s n [u,v] f t a):=by
 intro w P x hx hl
 obtain⟨la,lc,rfl,hp⟩:=hx.pts
 obtain⟨g,y0,rfl,⟨hg,-⟩,r0,n0⟩:=hp 0 (by simp)
 obtain⟨g1,y1,e1,-,r1,n1⟩:=hp 1 (by simp)
 cases e1
 have esh:sh (.mk 6 s n [u,v] f t a)=[40]++sh u++[44,32]++sh v++[41]:=by simp[sh,qcb,prL,gP]
 rw[esh]at hl⊢
 simp only[lqa,lqc,lqn]at hl
 have z0:(bs (sh u)).size<=800000:=by rw[qa5];omega
 have z1:(bs (sh v)).size<=800000:=by rw[qa5];omega
 have hb0:Below w.heap.size w (w.alloc (.cells (ndA ⟨6,s,n,some ⟨g,0,none⟩,2,lc,f,t,a⟩) 62)):=bw _
 have BN:=ai (Bx.new w (ndA ⟨6,s,n,some ⟨g,0,none⟩,2,lc,f,t,a⟩) 62)
 obtain⟨Z,HZ⟩:∃Z,Hid (Z=bs ([40]++sh u++[44,32]++sh v++[41])):=⟨_,ai rfl⟩
 rw[<-uh HZ]
 have N0:=ai n0
 have R0:=ai r0
 have N1:=ai n1
 have R1:=ai r1
 clear hx hp n0 r0 n1 r1
 unfold NV.v
 obtain⟨q00,q01,q02,q03,q04,q05,q06⟩:=qdq (qdp (uh R0) hb0 hg)
 simp only[Nat.zero_mul,Nat.zero_add,Nat.one_mul,Nat.reduceMul,Nat.reduceAdd]at q00 q01 q02 q03 q04 q05 q06
 go_enter Tryz.func61,Tryz.ntmps61
 go_wp2_with fail
 refine(Hu _ P y0 ((uh N0).bel hb0) (by omega)).mono ?_
 rintro e w1⟨rfl,hb1⟩
 have HB1:=hb0.trans (hb1.mono hb0.size)
 have BN1:=ai ((uh BN).below hb1)
 clear BN hb1 q00 q01 q02 q03 q04 q05 q06
 obtain⟨q10,q11,q12,q13,q14,q15,q16⟩:=qdq (qdp (uh R1) HB1 hg)
 simp only[Nat.zero_mul,Nat.zero_add,Nat.one_mul,Nat.reduceMul,Nat.reduceAdd]at q10 q11 q12 q13 q14 q15 q16
 obtain⟨cb1,fb1,zb1⟩:=uh BN1
 go_wp2_with fail
 refine(Hv _ P y1 ((uh N1).bel HB1) (by omega)).mono ?_
 rintro e w2⟨rfl,hb2⟩
 have HB2:=HB1.trans (hb2.mono HB1.size)
 have BN2:=ai ((uh BN1).below hb2)
 clear BN1 hb2 q10 q11 q12 q13 q14 q15 q16 cb1 fb1 zb1
 obtain⟨cb2,fb2,zb2⟩:=uh BN2
 go_wp2_with fail
 go_ret
 refine⟨?_,HB2⟩
 rw[uh HZ]
 simp only[<-qay]
 rfl
theorem sh_14(s:BA)(n f t a:Nat){u v:Nd}(Hu:ShD u)(Hv:ShD v):ShD (.mk 14 s n [u,v] f t a):=by
 intro w P x hx hl
 obtain⟨la,lc,rfl,hp⟩:=hx.pts
 obtain⟨g,y0,rfl,⟨hg,-⟩,r0,n0⟩:=hp 0 (by simp)
 obtain⟨g1,y1,e1,-,r1,n1⟩:=hp 1 (by simp)
 cases e1
 have esh:sh (.mk 14 s n [u,v] f t a)=[40]++sh u++[32,58,32]++sh v++[41]:=by simp[sh,qcb,prL,gP]
 rw[esh]at hl⊢
 simp only[lqa,lqc,lqn]at hl
 have z0:(bs (sh u)).size<=800000:=by rw[qa5];omega
 have z1:(bs (sh v)).size<=800000:=by rw[qa5];omega
 have hb0:Below w.heap.size w (w.alloc (.cells (ndA ⟨14,s,n,some ⟨g,0,none⟩,2,lc,f,t,a⟩) 62)):=bw _
 have BN:=ai (Bx.new w (ndA ⟨14,s,n,some ⟨g,0,none⟩,2,lc,f,t,a⟩) 62)
 obtain⟨Z,HZ⟩:∃Z,Hid (Z=bs ([40]++sh u++[32,58,32]++sh v++[41])):=⟨_,ai rfl⟩
 rw[<-uh HZ]
 have N0:=ai n0
 have R0:=ai r0
 have N1:=ai n1
 have R1:=ai r1
 clear hx hp n0 r0 n1 r1
 unfold NV.v
 obtain⟨q00,q01,q02,q03,q04,q05,q06⟩:=qdq (qdp (uh R0) hb0 hg)
 simp only[Nat.zero_mul,Nat.zero_add,Nat.one_mul,Nat.reduceMul,Nat.reduceAdd]at q00 q01 q02 q03 q04 q05 q06
 go_enter Tryz.func61,Tryz.ntmps61
 go_wp2_with fail
 refine(Hu _ P y0 ((uh N0).bel hb0) (by omega)).mono ?_
 rintro e w1⟨rfl,hb1⟩
 have HB1:=hb0.trans (hb1.mono hb0.size)
 have BN1:=ai ((uh BN).below hb1)
 clear BN hb1 q00 q01 q02 q03 q04 q05 q06
 obtain⟨q10,q11,q12,q13,q14,q15,q16⟩:=qdq (qdp (uh R1) HB1 hg)
 simp only[Nat.zero_mul,Nat.zero_add,Nat.one_mul,Nat.reduceMul,Nat.reduceAdd]at q10 q11 q12 q13 q14 q15 q16
 obtain⟨cb1,fb1,zb1⟩:=uh BN1
 go_wp2_with fail
 refine(Hv _ P y1 ((uh N1).bel HB1) (by omega)).mono ?_
 rintro e w2⟨rfl,hb2⟩
 have HB2:=HB1.trans (hb2.mono HB1.size)
 have BN2:=ai ((uh BN1).below hb2)
 clear BN1 hb2 q10 q11 q12 q13 q14 q15 q16 cb1 fb1 zb1
 obtain⟨cb2,fb2,zb2⟩:=uh BN2
 go_wp2_with fail
 go_ret
 refine⟨?_,HB2⟩
 rw[uh HZ]
 simp only[<-qay]
 rfl
theorem sh_17(s:BA)(n f t a:Nat){u v:Nd}(Hu:AtD u)(Hv:ShD v):ShD (.mk 17 s n [u,v] f t a):=by
 intro w P x hx hl
 obtain⟨la,lc,rfl,hp⟩:=hx.pts
 obtain⟨g,y0,rfl,⟨hg,-⟩,r0,n0⟩:=hp 0 (by simp)
 obtain⟨g1,y1,e1,-,r1,n1⟩:=hp 1 (by simp)
 cases e1
 have esh:sh (.mk 17 s n [u,v] f t a)=atP (lv u,sh u) 2++[32,45,62,32]++sh v:=by simp[sh,qcb,prL,gP]
 rw[esh]at hl⊢
 simp only[lqa,lqc,lqn]at hl
 have z0:(bs (atP (lv u,sh u) 2)).size<=800000:=by rw[qa5];omega
 have m0:(sh u).length<=800000:=Nat.le_trans (atP_le u 2) (by omega)
 have z1:(bs (sh v)).size<=800000:=by rw[qa5];omega
 have hb0:Below w.heap.size w (w.alloc (.cells (ndA ⟨17,s,n,some ⟨g,0,none⟩,2,lc,f,t,a⟩) 62)):=bw _
 have BN:=ai (Bx.new w (ndA ⟨17,s,n,some ⟨g,0,none⟩,2,lc,f,t,a⟩) 62)
 obtain⟨Z,HZ⟩:∃Z,Hid (Z=bs (atP (lv u,sh u) 2++[32,45,62,32]++sh v)):=⟨_,ai rfl⟩
 rw[<-uh HZ]
 have N0:=ai n0
 have R0:=ai r0
 have N1:=ai n1
 have R1:=ai r1
 clear hx hp n0 r0 n1 r1
 unfold NV.v
 obtain⟨q00,q01,q02,q03,q04,q05,q06⟩:=qdq (qdp (uh R0) hb0 hg)
 simp only[Nat.zero_mul,Nat.zero_add,Nat.one_mul,Nat.reduceMul,Nat.reduceAdd]at q00 q01 q02 q03 q04 q05 q06
 go_enter Tryz.func61,Tryz.ntmps61
 go_wp2_with fail
 refine(Hu _ P y0 2 (by omega) ((uh N0).bel hb0) m0).mono ?_
 rintro e w1⟨rfl,hb1⟩
 have HB1:=hb0.trans (hb1.mono hb0.size)
 have BN1:=ai ((uh BN).below hb1)
 clear BN hb1 q00 q01 q02 q03 q04 q05 q06
 obtain⟨q10,q11,q12,q13,q14,q15,q16⟩:=qdq (qdp (uh R1) HB1 hg)
 simp only[Nat.zero_mul,Nat.zero_add,Nat.one_mul,Nat.reduceMul,Nat.reduceAdd]at q10 q11 q12 q13 q14 q15 q16
 obtain⟨cb1,fb1,zb1⟩:=uh BN1
 go_wp2_with fail
 refine(Hv _ P y1 ((uh N1).bel HB1) (by omega)).mono ?_
 rintro e w2⟨rfl,hb2⟩
 have HB2:=HB1.trans (hb2.mono HB1.size)
 have BN2:=ai ((uh BN1).below hb2)
 clear BN1 hb2 q10 q11 q12 q13 q14 q15 q16 cb1 fb1 zb1
 obtain⟨cb2,fb2,zb2⟩:=uh BN2
 go_wp2_with fail
 go_ret
 refine⟨?_,HB2⟩
 rw[uh HZ]
 simp only[<-qay]
 rfl
theorem sh_8(s:BA)(n f t a:Nat){u v:Nd}(Hu:AtD u)(Hv:AtD v):ShD (.mk 8 s n [u,v] f t a):=by
 intro w P x hx hl
 obtain⟨la,lc,rfl,hp⟩:=hx.pts
 obtain⟨g,y0,rfl,⟨hg,-⟩,r0,n0⟩:=hp 0 (by simp)
 obtain⟨g1,y1,e1,-,r1,n1⟩:=hp 1 (by simp)
 cases e1
 have esh:sh (.mk 8 s n [u,v] f t a)=atP (lv u,sh u) 4++[32]++atP (lv v,sh v) 5:=by simp[sh,qcb,prL,gP]
 rw[esh]at hl⊢
 simp only[lqa,lqc,lqn]at hl
 have z0:(bs (atP (lv u,sh u) 4)).size<=800000:=by rw[qa5];omega
 have m0:(sh u).length<=800000:=Nat.le_trans (atP_le u 4) (by omega)
 have z1:(bs (atP (lv v,sh v) 5)).size<=800000:=by rw[qa5];omega
 have m1:(sh v).length<=800000:=Nat.le_trans (atP_le v 5) (by omega)
 have hb0:Below w.heap.size w (w.alloc (.cells (ndA ⟨8,s,n,some ⟨g,0,none⟩,2,lc,f,t,a⟩) 62)):=bw _
 have BN:=ai (Bx.new w (ndA ⟨8,s,n,some ⟨g,0,none⟩,2,lc,f,t,a⟩) 62)
 obtain⟨Z,HZ⟩:∃Z,Hid (Z=bs (atP (lv u,sh u) 4++[32]++atP (lv v,sh v) 5)):=⟨_,ai rfl⟩
 rw[<-uh HZ]
 have N0:=ai n0
 have R0:=ai r0
 have N1:=ai n1
 have R1:=ai r1
 clear hx hp n0 r0 n1 r1
 unfold NV.v
 obtain⟨q00,q01,q02,q03,q04,q05,q06⟩:=qdq (qdp (uh R0) hb0 hg)
 simp only[Nat.zero_mul,Nat.zero_add,Nat.one_mul,Nat.reduceMul,Nat.reduceAdd]at q00 q01 q02 q03 q04 q05 q06
 go_enter Tryz.func61,Tryz.ntmps61
 go_wp2_with fail
 refine(Hu _ P y0 4 (by omega) ((uh N0).bel hb0) m0).mono ?_
 rintro e w1⟨rfl,hb1⟩
 have HB1:=hb0.trans (hb1.mono hb0.size)
 have BN1:=ai ((uh BN).below hb1)
 clear BN hb1 q00 q01 q02 q03 q04 q05 q06
 obtain⟨q10,q11,q12,q13,q14,q15,q16⟩:=qdq (qdp (uh R1) HB1 hg)
 simp only[Nat.zero_mul,Nat.zero_add,Nat.one_mul,Nat.reduceMul,Nat.reduceAdd]at q10 q11 q12 q13 q14 q15 q16
 obtain⟨cb1,fb1,zb1⟩:=uh BN1
 go_wp2_with fail
 refine(Hv _ P y1 5 (by omega) ((uh N1).bel HB1) m1).mono ?_
 rintro e w2⟨rfl,hb2⟩
 have HB2:=HB1.trans (hb2.mono HB1.size)
 have BN2:=ai ((uh BN1).below hb2)
 clear BN1 hb2 q10 q11 q12 q13 q14 q15 q16 cb1 fb1 zb1
 obtain⟨cb2,fb2,zb2⟩:=uh BN2
 go_wp2_with fail
 go_ret
 refine⟨?_,HB2⟩
 rw[uh HZ]
 simp only[<-qay]
 rfl
theorem sh_9(s:BA)(n f t a:Nat){u:Nd}(Hu:ShD u):ShD (.mk 9 s n [u] f t a):=by
 intro w P x hx hl
 obtain⟨la,lc,rfl,hp⟩:=hx.pts
 have hsz:s.size=s.toList.length:=qdu s
 obtain⟨g,y0,rfl,⟨hg,-⟩,r0,n0⟩:=hp 0 (by simp)
 have esh:sh (.mk 9 s n [u] f t a)=[102,117,110,32]++s.toList++[32,45,62,32]++sh u:=by simp[sh,qcb,prL,gP]
 rw[esh]at hl⊢
 simp only[lqa,lqc,lqn]at hl
 have z0:(bs (sh u)).size<=800000:=by rw[qa5];omega
 have hb0:Below w.heap.size w (w.alloc (.cells (ndA ⟨9,s,n,some ⟨g,0,none⟩,1,lc,f,t,a⟩) 62)):=bw _
 have BN:=ai (Bx.new w (ndA ⟨9,s,n,some ⟨g,0,none⟩,1,lc,f,t,a⟩) 62)
 obtain⟨Z,HZ⟩:∃Z,Hid (Z=bs ([102,117,110,32]++s.toList++[32,45,62,32]++sh u)):=⟨_,ai rfl⟩
 rw[<-uh HZ]
 have N0:=ai n0
 have R0:=ai r0
 clear hx hp n0 r0
 unfold NV.v
 obtain⟨q00,q01,q02,q03,q04,q05,q06⟩:=qdq (qdp (uh R0) hb0 hg)
 simp only[Nat.zero_mul,Nat.zero_add,Nat.one_mul,Nat.reduceMul,Nat.reduceAdd]at q00 q01 q02 q03 q04 q05 q06
 go_enter Tryz.func61,Tryz.ntmps61
 go_wp2_with fail
 refine(Hu _ P y0 ((uh N0).bel hb0) (by omega)).mono ?_
 rintro e w1⟨rfl,hb1⟩
 have HB1:=hb0.trans (hb1.mono hb0.size)
 have BN1:=ai ((uh BN).below hb1)
 clear BN hb1 q00 q01 q02 q03 q04 q05 q06
 obtain⟨cb1,fb1,zb1⟩:=uh BN1
 go_wp2_with fail
 go_ret
 refine⟨?_,HB1⟩
 rw[uh HZ,<-qay,<-qay,<-qay,qbq]
 rfl
theorem sh_12(s:BA)(n f t a:Nat){u v z:Nd}(Hu:ShD u)(Hv:ShD v)(Hz:ShD z):ShD (.mk 12 s n [u,v,z] f t a):=by
 intro w P x hx hl
 obtain⟨la,lc,rfl,hp⟩:=hx.pts
 obtain⟨g,y0,rfl,⟨hg,-⟩,r0,n0⟩:=hp 0 (by simp)
 obtain⟨g1,y1,e1,-,r1,n1⟩:=hp 1 (by simp)
 cases e1
 obtain⟨g2,y2,e2,-,r2,n2⟩:=hp 2 (by simp)
 cases e2
 have esh:sh (.mk 12 s n [u,v,z] f t a)=[105,102,32]++sh u++[32,116,104,101,110,32]++sh v++[32,101,108,115,101,32]++sh z:=by simp[sh,qcb,prL,gP]
 rw[esh]at hl⊢
 simp only[lqa,lqc,lqn]at hl
 have z0:(bs (sh u)).size<=800000:=by rw[qa5];omega
 have z1:(bs (sh v)).size<=800000:=by rw[qa5];omega
 have z2:(bs (sh z)).size<=800000:=by rw[qa5];omega
 have hb0:Below w.heap.size w (w.alloc (.cells (ndA ⟨12,s,n,some ⟨g,0,none⟩,3,lc,f,t,a⟩) 62)):=bw _
 have BN:=ai (Bx.new w (ndA ⟨12,s,n,some ⟨g,0,none⟩,3,lc,f,t,a⟩) 62)
 obtain⟨Z,HZ⟩:∃Z,Hid (Z=bs ([105,102,32]++sh u++[32,116,104,101,110,32]++sh v++[32,101,108,115,101,32]++sh z)):=⟨_,ai rfl⟩
 rw[<-uh HZ]
 have N0:=ai n0
 have R0:=ai r0
 have N1:=ai n1
 have R1:=ai r1
 have N2:=ai n2
 have R2:=ai r2
 clear hx hp n0 r0 n1 r1 n2 r2
 unfold NV.v
 obtain⟨q00,q01,q02,q03,q04,q05,q06⟩:=qdq (qdp (uh R0) hb0 hg)
 simp only[Nat.zero_mul,Nat.zero_add,Nat.one_mul,Nat.reduceMul,Nat.reduceAdd]at q00 q01 q02 q03 q04 q05 q06
 go_enter Tryz.func61,Tryz.ntmps61
 go_wp2_with fail
 refine(Hu _ P y0 ((uh N0).bel hb0) (by omega)).mono ?_
 rintro e w1⟨rfl,hb1⟩
 have HB1:=hb0.trans (hb1.mono hb0.size)
 have BN1:=ai ((uh BN).below hb1)
 clear BN hb1 q00 q01 q02 q03 q04 q05 q06
 obtain⟨q10,q11,q12,q13,q14,q15,q16⟩:=qdq (qdp (uh R1) HB1 hg)
 simp only[Nat.zero_mul,Nat.zero_add,Nat.one_mul,Nat.reduceMul,Nat.reduceAdd]at q10 q11 q12 q13 q14 q15 q16
 obtain⟨cb1,fb1,zb1⟩:=uh BN1
 go_wp2_with fail
 refine(Hv _ P y1 ((uh N1).bel HB1) (by omega)).mono ?_
 rintro e w2⟨rfl,hb2⟩
 have HB2:=HB1.trans (hb2.mono HB1.size)
 have BN2:=ai ((uh BN1).below hb2)
 clear BN1 hb2 q10 q11 q12 q13 q14 q15 q16 cb1 fb1 zb1
 obtain⟨q20,q21,q22,q23,q24,q25,q26⟩:=qdq (qdp (uh R2) HB2 hg)
 simp only[Nat.zero_mul,Nat.zero_add,Nat.one_mul,Nat.reduceMul,Nat.reduceAdd]at q20 q21 q22 q23 q24 q25 q26
 obtain⟨cb2,fb2,zb2⟩:=uh BN2
 go_wp2_with fail
 refine(Hz _ P y2 ((uh N2).bel HB2) (by omega)).mono ?_
 rintro e w3⟨rfl,hb3⟩
 have HB3:=HB2.trans (hb3.mono HB2.size)
 have BN3:=ai ((uh BN2).below hb3)
 clear BN2 hb3 q20 q21 q22 q23 q24 q25 q26 cb2 fb2 zb2
 obtain⟨cb3,fb3,zb3⟩:=uh BN3
 go_wp2_with fail
 go_ret
 refine⟨?_,HB3⟩
 rw[uh HZ]
 simp only[<-qay]
 rfl
theorem sh_10(s:BA)(n f t a:Nat){u v:Nd}(Hu:ShD u)(Hv:ShD v):ShD (.mk 10 s n [u,v] f t a):=by
 intro w P x hx hl
 obtain⟨la,lc,rfl,hp⟩:=hx.pts
 have hsz:s.size=s.toList.length:=qdu s
 obtain⟨g,y0,rfl,⟨hg,-⟩,r0,n0⟩:=hp 0 (by simp)
 obtain⟨g1,y1,e1,-,r1,n1⟩:=hp 1 (by simp)
 cases e1
 have esh:sh (.mk 10 s n [u,v] f t a)=[108,101,116,32]++s.toList++[32,61,32]++sh u++[32,105,110,32]++sh v:=by simp[sh,qcb,prL,gP]
 rw[esh]at hl⊢
 simp only[lqa,lqc,lqn]at hl
 have z0:(bs (sh u)).size<=800000:=by rw[qa5];omega
 have z1:(bs (sh v)).size<=800000:=by rw[qa5];omega
 have hb0:Below w.heap.size w (w.alloc (.cells (ndA ⟨10,s,n,some ⟨g,0,none⟩,2,lc,f,t,a⟩) 62)):=bw _
 have BN:=ai (Bx.new w (ndA ⟨10,s,n,some ⟨g,0,none⟩,2,lc,f,t,a⟩) 62)
 obtain⟨Z,HZ⟩:∃Z,Hid (Z=bs ([108,101,116,32]++s.toList++[32,61,32]++sh u++[32,105,110,32]++sh v)):=⟨_,ai rfl⟩
 rw[<-uh HZ]
 have N0:=ai n0
 have R0:=ai r0
 have N1:=ai n1
 have R1:=ai r1
 clear hx hp n0 r0 n1 r1
 unfold NV.v
 obtain⟨q00,q01,q02,q03,q04,q05,q06⟩:=qdq (qdp (uh R0) hb0 hg)
 simp only[Nat.zero_mul,Nat.zero_add,Nat.one_mul,Nat.reduceMul,Nat.reduceAdd]at q00 q01 q02 q03 q04 q05 q06
 go_enter Tryz.func61,Tryz.ntmps61
 go_wp2_with fail
 refine(Hu _ P y0 ((uh N0).bel hb0) (by omega)).mono ?_
 rintro e w1⟨rfl,hb1⟩
 have HB1:=hb0.trans (hb1.mono hb0.size)
 have BN1:=ai ((uh BN).below hb1)
 clear BN hb1 q00 q01 q02 q03 q04 q05 q06
 obtain⟨q10,q11,q12,q13,q14,q15,q16⟩:=qdq (qdp (uh R1) HB1 hg)
 simp only[Nat.zero_mul,Nat.zero_add,Nat.one_mul,Nat.reduceMul,Nat.reduceAdd]at q10 q11 q12 q13 q14 q15 q16
 obtain⟨cb1,fb1,zb1⟩:=uh BN1
 go_wp2_with fail
 refine(Hv _ P y1 ((uh N1).bel HB1) (by omega)).mono ?_
 rintro e w2⟨rfl,hb2⟩
 have HB2:=HB1.trans (hb2.mono HB1.size)
 have BN2:=ai ((uh BN1).below hb2)
 clear BN1 hb2 q10 q11 q12 q13 q14 q15 q16 cb1 fb1 zb1
 obtain⟨cb2,fb2,zb2⟩:=uh BN2
 go_wp2_with fail
 go_ret
 refine⟨?_,HB2⟩
 rw[uh HZ,<-qay,<-qay,<-qay,<-qay,<-qay,qbq]
 rfl
theorem sh_11(s:BA)(n f t a:Nat){u v:Nd}(Hu:ShD u)(Hv:ShD v):ShD (.mk 11 s n [u,v] f t a):=by
 intro w P x hx hl
 obtain⟨la,lc,rfl,hp⟩:=hx.pts
 have hsz:s.size=s.toList.length:=qdu s
 obtain⟨g,y0,rfl,⟨hg,-⟩,r0,n0⟩:=hp 0 (by simp)
 obtain⟨g1,y1,e1,-,r1,n1⟩:=hp 1 (by simp)
 cases e1
 have esh:sh (.mk 11 s n [u,v] f t a)=[108,101,116,32,114,101,99,32]++s.toList++[32,61,32]++sh u++[32,105,110,32]++sh v:=by simp[sh,qcb,prL,gP]
 rw[esh]at hl⊢
 simp only[lqa,lqc,lqn]at hl
 have z0:(bs (sh u)).size<=800000:=by rw[qa5];omega
 have z1:(bs (sh v)).size<=800000:=by rw[qa5];omega
 have hb0:Below w.heap.size w (w.alloc (.cells (ndA ⟨11,s,n,some ⟨g,0,none⟩,2,lc,f,t,a⟩) 62)):=bw _
 have BN:=ai (Bx.new w (ndA ⟨11,s,n,some ⟨g,0,none⟩,2,lc,f,t,a⟩) 62)
 obtain⟨Z,HZ⟩:∃Z,Hid (Z=bs ([108,101,116,32,114,101,99,32]++s.toList++[32,61,32]++sh u++[32,105,110,32]++sh v)):=⟨_,ai rfl⟩
 rw[<-uh HZ]
 have N0:=ai n0
 have R0:=ai r0
 have N1:=ai n1
 have R1:=ai r1
 clear hx hp n0 r0 n1 r1
 unfold NV.v
 obtain⟨q00,q01,q02,q03,q04,q05,q06⟩:=qdq (qdp (uh R0) hb0 hg)
 simp only[Nat.zero_mul,Nat.zero_add,Nat.one_mul,Nat.reduceMul,Nat.reduceAdd]at q00 q01 q02 q03 q04 q05 q06
 go_enter Tryz.func61,Tryz.ntmps61
 go_wp2_with fail
 refine(Hu _ P y0 ((uh N0).bel hb0) (by omega)).mono ?_
 rintro e w1⟨rfl,hb1⟩
 have HB1:=hb0.trans (hb1.mono hb0.size)
 have BN1:=ai ((uh BN).below hb1)
 clear BN hb1 q00 q01 q02 q03 q04 q05 q06
 obtain⟨q10,q11,q12,q13,q14,q15,q16⟩:=qdq (qdp (uh R1) HB1 hg)
 simp only[Nat.zero_mul,Nat.zero_add,Nat.one_mul,Nat.reduceMul,Nat.reduceAdd]at q10 q11 q12 q13 q14 q15 q16
 obtain⟨cb1,fb1,zb1⟩:=uh BN1
 go_wp2_with fail
 refine(Hv _ P y1 ((uh N1).bel HB1) (by omega)).mono ?_
 rintro e w2⟨rfl,hb2⟩
 have HB2:=HB1.trans (hb2.mono HB1.size)
 have BN2:=ai ((uh BN1).below hb2)
 clear BN1 hb2 q10 q11 q12 q13 q14 q15 q16 cb1 fb1 zb1
 obtain⟨cb2,fb2,zb2⟩:=uh BN2
 go_wp2_with fail
 go_ret
 refine⟨?_,HB2⟩
 rw[uh HZ,<-qay,<-qay,<-qay,<-qay,<-qay,qbq]
 rfl
end
section
open Go Go.RowKit Un
theorem sh_3(s:BA)(n f t a:Nat)(hn:n<=1000000000):ShD (.mk 3 s n [] f t a):=by
 intro w P x hx hl
 obtain⟨la,lc,rfl,-⟩:=hx.pts
 have esh:sh (.mk 3 s n [] f t a)=dec n:=by simp[sh,qcb]
 rw[esh]
 have hb0:Below w.heap.size w (w.alloc (.cells (ndA ⟨3,s,n,la,0,lc,f,t,a⟩) 62)):=bw _
 have HD:=ai (decimal_C n (w.alloc (.cells (ndA ⟨3,s,n,la,0,lc,f,t,a⟩) 62)) hn)
 clear hx
 unfold NV.v
 go_enter Tryz.func61,Tryz.ntmps61
 go_wp2_with fail
 refine(uh HD).mono ?_
 rintro e w1⟨rfl,hb1⟩
 clear HD
 go_wp2_with fail
 go_ret
 exact⟨rfl,hb0.trans (hb1.mono hb0.size)⟩
def PartsR(w:World)(P:Nat->Prop)(la:Option Addr)(L:List Nd):Prop:=∀i(hi:i<L.length),∃g y,la=some ⟨g,0,none⟩/\(g<w.heap.size/\P g)/\at7 w g i y/\NR w P (L[i]) y
theorem PartsR.bel{w w':World}{P:Nat->Prop}{la:Option Addr}{L:List Nd}(h:PartsR w P la L)(hb:Below w.heap.size w w'):PartsR w' P la L:=fun i hi=>by
 obtain⟨g,y,h1,h2,h3,h4⟩:=h i hi
 exact⟨g,y,h1,⟨Nat.lt_of_lt_of_le h2.1 hb.size,h2.2⟩,qdp h3 hb h2.1,h4.bel hb⟩
theorem behindP_take(L:List Nd)(j:Nat)(h:j<L.length):qa4 (prL (L.take (j+1)))=qa4 (prL (L.take j))++[32]++atP (lv L[j],sh L[j]) 5:=by
 unfold qa4
 rw[prL_map,prL_map,List.take_succ_eq_append_getElem h,List.map_append,List.flatMap_append]
 simp
theorem behindP_le(L:List Nd)(j:Nat):(qa4 (prL (L.take j))).length<=(qa4 (prL L)).length:=by
 have:qa4 (prL L)=qa4 (prL (L.take j))++qa4 (prL (L.drop j)):=by
  unfold qa4
  rw[prL_map,prL_map,prL_map,<-List.flatMap_append,<-List.map_append,List.take_append_drop]
 rw[this]
 simp
theorem behindP_cnt:∀L:List Nd,L.length<=(qa4 (prL L)).length
 |[]=>Nat.zero_le _|x::l=>by have:=behindP_cnt l;unfold qa4 at this⊢;simp only[prL,List.flatMap_cons,lqa,lqc];omega
def BehR(w:World)(L:List Nd)(gk:Nat)(sv c:Value)(wr:World):Prop:=∃j:Nat,Hid (gk=L.length-j)/\j<=L.length/\sv=.string (bs (qa4 (prL (L.take j))))/\c=.int .i64 (j:Int)/\Below w.heap.size w wr
theorem behind_D{w:World}{P:Nat->Prop}{la:Option Addr}{L:List Nd}{lc:Nat}(hp:PartsR w P la L)(H:∀x∈L,AtD x)(hl:(qa4 (prL L)).length<=800000):Calls Tryz.prog 121 #[.slice la L.length lc] w fun e w'=>e=.returned (.string (bs (qa4 (prL L))))/\Below w.heap.size w w':=by
 have HP:=ai hp
 have HH:=ai H
 have hcn:=behindP_cnt L
 clear hp H
 go_enter Tryz.func121,Tryz.ntmps121
 go_wp2_with fail
 go_loopg[3,4] L.length (fun gk sv c wr=>BehR w L gk sv c wr)
 case atStart=>exact⟨0,ai rfl,Nat.zero_le _,by simp[prL,qa4,bs],rfl,Below.refl _ _⟩
 case round=>
  obtain⟨j,hgk,hj,rfl,rfl,hB⟩:=hrel
  have HB:=ai hB
  clear hB
  by_cases hlt:j<L.length
  .have hd:(j:Int)<(L.length:Int):=by omega
   obtain⟨g,y,rfl,⟨hg,-⟩,h7,hn⟩:=uh HP j hlt
   obtain⟨q0,q1,q2,q3,q4,q5,q6⟩:=qdq (qdp h7 (uh HB) hg)
   have hN:=ai (hn.bel (uh HB))
   have ht:=behindP_take L j hlt
   have hle:=behindP_le L (j+1)
   rw[ht]at hle
   simp only[lqa,lqc,lqn]at hle
   have zs:(sh L[j]).length<=800000:=Nat.le_trans (atP_le L[j] 5) (by omega)
   have z1:(bs (qa4 (prL (L.take j)))).size<=800000:=by rw[qa5];omega
   have z2:(bs (atP (lv L[j],sh L[j]) 5)).size<=800000:=by rw[qa5];omega
   have HA:=ai (uh HH L[j] (List.getElem_mem hlt) wr P y 5 (by omega) (uh hN) zs)
   clear h7 hn hle
   go_wp2_with fail
   refine(uh HA).mono ?_
   rintro e w1⟨rfl,hb1⟩
   have HB1:=(uh HB).trans (hb1.mono (uh HB).size)
   clear HA q0 q1 q2 q3 q4 q5 q6 hN
   go_wp2_with fail
   go_roundg(L.length-(j+1))
   case measure=>rw[uh hgk];omega
   case rel=>exact⟨j+1,ai rfl,by omega,by rw[ht];simp only[<-qay];rfl,by go_num,HB1⟩
  .have hd:decide ((j:Int)<(L.length:Int))=false:=by simp;omega
   have ej:j=L.length:=by omega
   subst ej
   go_wp2_with fail
   go_ret
   rw[List.take_length]
   exact⟨rfl,uh HB⟩
theorem sh_2(s:BA)(n f t a:Nat){L:List Nd}(H:∀x∈L,AtD x):ShD (.mk 2 s n L f t a):=by
 intro w P x hx hl
 obtain⟨la,lc,rfl,hp⟩:=hx.pts
 have hsz:s.size=s.toList.length:=qdu s
 have esh:sh (.mk 2 s n L f t a)=s.toList++qa4 (prL L):=by simp[sh,qcb]
 rw[esh]at hl⊢
 simp only[lqa]at hl
 have z0:(bs (qa4 (prL L))).size<=800000:=by rw[qa5];omega
 have hb0:Below w.heap.size w (w.alloc (.cells (ndA ⟨2,s,n,la,L.length,lc,f,t,a⟩) 62)):=bw _
 have BN:=ai (Bx.new w (ndA ⟨2,s,n,la,L.length,lc,f,t,a⟩) 62)
 have HD:=ai (behind_D (lc:=lc) (PartsR.bel (show PartsR w P la L from hp) hb0) H (by omega))
 clear hx hp H
 obtain⟨Z,HZ⟩:∃Z,Hid (Z=bs (s.toList++qa4 (prL L))):=⟨_,ai rfl⟩
 rw[<-uh HZ]
 unfold NV.v
 go_enter Tryz.func61,Tryz.ntmps61
 go_wp2_with fail
 refine(uh HD).mono ?_
 rintro e w1⟨rfl,hb1⟩
 obtain⟨cb,fb,zb⟩:=(uh BN).below hb1
 clear HD BN
 go_wp2_with fail
 go_ret
 refine⟨?_,hb0.trans (hb1.mono hb0.size)⟩
 rw[uh HZ,<-qay,qbq]
 rfl
theorem operation_a(s:BA)(n f t a:Nat){u v:Nd}(Hu:AtD u)(Hv:AtD v)(h:s.toList=[42]):∀(w:World)(P:Nat->Prop)(x:NV),NR w P (.mk 7 s n [u,v] f t a) x->(sh (.mk 7 s n [u,v] f t a)).length<=800000->Calls Tryz.prog 123 #[x.v] w fun e w'=>e=.returned (.string (bs (sh (.mk 7 s n [u,v] f t a))))/\Below w.heap.size w w':=by
 intro w P x hx hl
 obtain⟨la,lc,rfl,hp⟩:=hx.pts
 have hsz:s.size=s.toList.length:=qdu s
 have hlv:lv (.mk 7 s n [u,v] f t a)=3:=by simp[lv,h]
 have hb0:Below w.heap.size w (w.alloc (.cells (ndA ⟨7,s,n,la,2,lc,f,t,a⟩) 62)):=bw _
 have HL:=ai (level_D (by omega) (by omega) (hx.bel hb0))
 rw[hlv]at HL
 obtain⟨g,y0,rfl,⟨hg,-⟩,r0,n0⟩:=hp 0 (by simp)
 obtain⟨g1,y1,e1,-,r1,n1⟩:=hp 1 (by simp)
 cases e1
 have esh:sh (.mk 7 s n [u,v] f t a)=atP (lv u,sh u) 3++[32]++s.toList++[32]++atP (lv v,sh v) 4:=by simp only[sh,hlv];simp[qcb,prL,gP]
 rw[esh]at hl⊢
 simp only[lqa,lqc,lqn]at hl
 have z0:(bs (atP (lv u,sh u) 3)).size<=800000:=by rw[qa5];omega
 have z1:(bs (atP (lv v,sh v) 4)).size<=800000:=by rw[qa5];omega
 have m0:(sh u).length<=800000:=Nat.le_trans (atP_le u 3) (by omega)
 have m1:(sh v).length<=800000:=Nat.le_trans (atP_le v 4) (by omega)
 have BN:=ai (Bx.new w (ndA ⟨7,s,n,some ⟨g,0,none⟩,2,lc,f,t,a⟩) 62)
 obtain⟨Z,HZ⟩:∃Z,Hid (Z=bs (atP (lv u,sh u) 3++[32]++s.toList++[32]++atP (lv v,sh v) 4)):=⟨_,ai rfl⟩
 rw[<-uh HZ]
 have N0:=ai n0
 have N1:=ai n1
 have R0:=ai r0
 have R1:=ai r1
 clear hx hp n0 n1 r0 r1
 unfold NV.v
 go_enter Tryz.func123,Tryz.ntmps123
 go_wp2_with fail
 refine(uh HL).mono ?_
 rintro e w0⟨rfl,hb⟩
 have HB0:=hb0.trans (hb.mono hb0.size)
 have BN0:=ai ((uh BN).below hb)
 obtain⟨cb,fb,zb⟩:=uh BN0
 clear HL BN hb
 obtain⟨q00,q01,q02,q03,q04,q05,q06⟩:=qdq (qdp (uh R0) HB0 hg)
 simp only[Nat.zero_mul,Nat.zero_add,Nat.one_mul,Nat.reduceMul,Nat.reduceAdd]at q00 q01 q02 q03 q04 q05 q06
 go_wp2_with fail
 refine(Hu _ P y0 3 (by omega) ((uh N0).bel HB0) m0).mono ?_
 rintro e w1⟨rfl,hb⟩
 have HB1:=HB0.trans (hb.mono HB0.size)
 have BN1:=ai ((uh BN0).below hb)
 clear q00 q01 q02 q03 q04 q05 q06 cb fb zb hb BN0
 obtain⟨cb,fb,zb⟩:=uh BN1
 obtain⟨q10,q11,q12,q13,q14,q15,q16⟩:=qdq (qdp (uh R1) HB1 hg)
 simp only[Nat.zero_mul,Nat.zero_add,Nat.one_mul,Nat.reduceMul,Nat.reduceAdd]at q10 q11 q12 q13 q14 q15 q16
 go_wp2_with fail
 refine(Hv _ P y1 4 (by omega) ((uh N1).bel HB1) m1).mono ?_
 rintro e w2⟨rfl,hb⟩
 have HB2:=HB1.trans (hb.mono HB1.size)
 have BN2:=ai ((uh BN1).below hb)
 clear q10 q11 q12 q13 q14 q15 q16 cb fb zb hb BN1
 obtain⟨cb,fb,zb⟩:=uh BN2
 go_wp2_with fail
 go_ret
 refine⟨?_,HB2⟩
 rw[uh HZ,<-qay,<-qay,<-qay,<-qay,qbq]
 rfl
theorem operation_b(s:BA)(n f t a:Nat){u v:Nd}(Hu:AtD u)(Hv:AtD v)(h:s.toList=[60]):∀(w:World)(P:Nat->Prop)(x:NV),NR w P (.mk 7 s n [u,v] f t a) x->(sh (.mk 7 s n [u,v] f t a)).length<=800000->Calls Tryz.prog 123 #[x.v] w fun e w'=>e=.returned (.string (bs (sh (.mk 7 s n [u,v] f t a))))/\Below w.heap.size w w':=by
 intro w P x hx hl
 obtain⟨la,lc,rfl,hp⟩:=hx.pts
 have hsz:s.size=s.toList.length:=qdu s
 have hlv:lv (.mk 7 s n [u,v] f t a)=1:=by simp[lv,h]
 have hb0:Below w.heap.size w (w.alloc (.cells (ndA ⟨7,s,n,la,2,lc,f,t,a⟩) 62)):=bw _
 have HL:=ai (level_D (by omega) (by omega) (hx.bel hb0))
 rw[hlv]at HL
 obtain⟨g,y0,rfl,⟨hg,-⟩,r0,n0⟩:=hp 0 (by simp)
 obtain⟨g1,y1,e1,-,r1,n1⟩:=hp 1 (by simp)
 cases e1
 have esh:sh (.mk 7 s n [u,v] f t a)=atP (lv u,sh u) 2++[32]++s.toList++[32]++atP (lv v,sh v) 2:=by simp only[sh,hlv];simp[qcb,prL,gP]
 rw[esh]at hl⊢
 simp only[lqa,lqc,lqn]at hl
 have z0:(bs (atP (lv u,sh u) 2)).size<=800000:=by rw[qa5];omega
 have z1:(bs (atP (lv v,sh v) 2)).size<=800000:=by rw[qa5];omega
 have m0:(sh u).length<=800000:=Nat.le_trans (atP_le u 2) (by omega)
 have m1:(sh v).length<=800000:=Nat.le_trans (atP_le v 2) (by omega)
 have BN:=ai (Bx.new w (ndA ⟨7,s,n,some ⟨g,0,none⟩,2,lc,f,t,a⟩) 62)
 obtain⟨Z,HZ⟩:∃Z,Hid (Z=bs (atP (lv u,sh u) 2++[32]++s.toList++[32]++atP (lv v,sh v) 2)):=⟨_,ai rfl⟩
 rw[<-uh HZ]
 have N0:=ai n0
 have N1:=ai n1
 have R0:=ai r0
 have R1:=ai r1
 clear hx hp n0 n1 r0 r1
 unfold NV.v
 go_enter Tryz.func123,Tryz.ntmps123
 go_wp2_with fail
 refine(uh HL).mono ?_
 rintro e w0⟨rfl,hb⟩
 have HB0:=hb0.trans (hb.mono hb0.size)
 have BN0:=ai ((uh BN).below hb)
 obtain⟨cb,fb,zb⟩:=uh BN0
 clear HL BN hb
 obtain⟨q00,q01,q02,q03,q04,q05,q06⟩:=qdq (qdp (uh R0) HB0 hg)
 simp only[Nat.zero_mul,Nat.zero_add,Nat.one_mul,Nat.reduceMul,Nat.reduceAdd]at q00 q01 q02 q03 q04 q05 q06
 go_wp2_with fail
 refine(Hu _ P y0 2 (by omega) ((uh N0).bel HB0) m0).mono ?_
 rintro e w1⟨rfl,hb⟩
 have HB1:=HB0.trans (hb.mono HB0.size)
 have BN1:=ai ((uh BN0).below hb)
 clear q00 q01 q02 q03 q04 q05 q06 cb fb zb hb BN0
 obtain⟨cb,fb,zb⟩:=uh BN1
 obtain⟨q10,q11,q12,q13,q14,q15,q16⟩:=qdq (qdp (uh R1) HB1 hg)
 simp only[Nat.zero_mul,Nat.zero_add,Nat.one_mul,Nat.reduceMul,Nat.reduceAdd]at q10 q11 q12 q13 q14 q15 q16
 go_wp2_with fail
 refine(Hv _ P y1 2 (by omega) ((uh N1).bel HB1) m1).mono ?_
 rintro e w2⟨rfl,hb⟩
 have HB2:=HB1.trans (hb.mono HB1.size)
 have BN2:=ai ((uh BN1).below hb)
 clear q10 q11 q12 q13 q14 q15 q16 cb fb zb hb BN1
 obtain⟨cb,fb,zb⟩:=uh BN2
 go_wp2_with fail
 go_ret
 refine⟨?_,HB2⟩
 rw[uh HZ,<-qay,<-qay,<-qay,<-qay,qbq]
 rfl
theorem operation_c(s:BA)(n f t a:Nat){u v:Nd}(Hu:AtD u)(Hv:AtD v)(h:s.toList≠[42])(h2:s.toList≠[60]):∀(w:World)(P:Nat->Prop)(x:NV),NR w P (.mk 7 s n [u,v] f t a) x->(sh (.mk 7 s n [u,v] f t a)).length<=800000->Calls Tryz.prog 123 #[x.v] w fun e w'=>e=.returned (.string (bs (sh (.mk 7 s n [u,v] f t a))))/\Below w.heap.size w w':=by
 intro w P x hx hl
 obtain⟨la,lc,rfl,hp⟩:=hx.pts
 have hsz:s.size=s.toList.length:=qdu s
 have hlv:lv (.mk 7 s n [u,v] f t a)=2:=by simp[lv,h,h2]
 have hb0:Below w.heap.size w (w.alloc (.cells (ndA ⟨7,s,n,la,2,lc,f,t,a⟩) 62)):=bw _
 have HL:=ai (level_D (by omega) (by omega) (hx.bel hb0))
 rw[hlv]at HL
 obtain⟨g,y0,rfl,⟨hg,-⟩,r0,n0⟩:=hp 0 (by simp)
 obtain⟨g1,y1,e1,-,r1,n1⟩:=hp 1 (by simp)
 cases e1
 have esh:sh (.mk 7 s n [u,v] f t a)=atP (lv u,sh u) 2++[32]++s.toList++[32]++atP (lv v,sh v) 3:=by simp only[sh,hlv];simp[qcb,prL,gP]
 rw[esh]at hl⊢
 simp only[lqa,lqc,lqn]at hl
 have z0:(bs (atP (lv u,sh u) 2)).size<=800000:=by rw[qa5];omega
 have z1:(bs (atP (lv v,sh v) 3)).size<=800000:=by rw[qa5];omega
 have m0:(sh u).length<=800000:=Nat.le_trans (atP_le u 2) (by omega)
 have m1:(sh v).length<=800000:=Nat.le_trans (atP_le v 3) (by omega)
 have BN:=ai (Bx.new w (ndA ⟨7,s,n,some ⟨g,0,none⟩,2,lc,f,t,a⟩) 62)
 obtain⟨Z,HZ⟩:∃Z,Hid (Z=bs (atP (lv u,sh u) 2++[32]++s.toList++[32]++atP (lv v,sh v) 3)):=⟨_,ai rfl⟩
 rw[<-uh HZ]
 have N0:=ai n0
 have N1:=ai n1
 have R0:=ai r0
 have R1:=ai r1
 clear hx hp n0 n1 r0 r1
 unfold NV.v
 go_enter Tryz.func123,Tryz.ntmps123
 go_wp2_with fail
 refine(uh HL).mono ?_
 rintro e w0⟨rfl,hb⟩
 have HB0:=hb0.trans (hb.mono hb0.size)
 have BN0:=ai ((uh BN).below hb)
 obtain⟨cb,fb,zb⟩:=uh BN0
 clear HL BN hb
 obtain⟨q00,q01,q02,q03,q04,q05,q06⟩:=qdq (qdp (uh R0) HB0 hg)
 simp only[Nat.zero_mul,Nat.zero_add,Nat.one_mul,Nat.reduceMul,Nat.reduceAdd]at q00 q01 q02 q03 q04 q05 q06
 go_wp2_with fail
 refine(Hu _ P y0 2 (by omega) ((uh N0).bel HB0) m0).mono ?_
 rintro e w1⟨rfl,hb⟩
 have HB1:=HB0.trans (hb.mono HB0.size)
 have BN1:=ai ((uh BN0).below hb)
 clear q00 q01 q02 q03 q04 q05 q06 cb fb zb hb BN0
 obtain⟨cb,fb,zb⟩:=uh BN1
 obtain⟨q10,q11,q12,q13,q14,q15,q16⟩:=qdq (qdp (uh R1) HB1 hg)
 simp only[Nat.zero_mul,Nat.zero_add,Nat.one_mul,Nat.reduceMul,Nat.reduceAdd]at q10 q11 q12 q13 q14 q15 q16
 go_wp2_with fail
 refine(Hv _ P y1 3 (by omega) ((uh N1).bel HB1) m1).mono ?_
 rintro e w2⟨rfl,hb⟩
 have HB2:=HB1.trans (hb.mono HB1.size)
 have BN2:=ai ((uh BN1).below hb)
 clear q10 q11 q12 q13 q14 q15 q16 cb fb zb hb BN1
 obtain⟨cb,fb,zb⟩:=uh BN2
 go_wp2_with fail
 go_ret
 refine⟨?_,HB2⟩
 rw[uh HZ,<-qay,<-qay,<-qay,<-qay,qbq]
 rfl
theorem sh_7(s:BA)(n f t a:Nat){u v:Nd}(Hu:AtD u)(Hv:AtD v):ShD (.mk 7 s n [u,v] f t a):=by
 intro w P x hx hl
 have HO:∀(w:World)(P:Nat->Prop)(x:NV),NR w P (.mk 7 s n [u,v] f t a) x->(sh (.mk 7 s n [u,v] f t a)).length<=800000->Calls Tryz.prog 123 #[x.v] w fun e w'=>e=.returned (.string (bs (sh (.mk 7 s n [u,v] f t a))))/\Below w.heap.size w w':=by
  by_cases h:s.toList=[42]
  .exact operation_a s n f t a Hu Hv h
  .by_cases h2:s.toList=[60]
   .exact operation_b s n f t a Hu Hv h2
   .exact operation_c s n f t a Hu Hv h h2
 obtain⟨la,lc,rfl,-⟩:=hx.pts
 have hb0:Below w.heap.size w (w.alloc (.cells (ndA ⟨7,s,n,la,2,lc,f,t,a⟩) 62)):=bw _
 have HD:=ai (HO _ P _ (hx.bel hb0) hl)
 generalize sh (.mk 7 s n [u,v] f t a)=z at HD⊢
 clear hx HO hl
 unfold NV.v at HD⊢
 go_enter Tryz.func61,Tryz.ntmps61
 go_wp2_with fail
 refine(uh HD).mono ?_
 rintro e w1⟨rfl,hb1⟩
 clear HD
 go_wp2_with fail
 go_ret
 exact⟨rfl,hb0.trans (hb1.mono hb0.size)⟩
end
section
open Go Go.RowKit Un
theorem armsP_take:∀(b:Bool)(A:List (Nd×Nd))(j:Nat)(h:j<A.length),qc6 b (prL (armN (A.take (j+1))))=qc6 b (prL (armN (A.take j)))++(if(b&&j==0)=true then[]else[32,124,32])++sh A[j].1++[32,45,62,32]++sh A[j].2
 |b,[],j,h=>by simp at h|b,p::r,0,h=>by cases b<;>simp[armN,prL,qc6]|b,p::r,j+1,h=>by
  have ih:=armsP_take false r j (by simpa using h)
  simp only[List.take_succ_cons,armN,prL,qc6,ih,List.getElem_cons_succ]
  simp
theorem armsP_pre:∀(b:Bool)(A:List (Nd×Nd))(j:Nat),(qc6 b (prL (armN (A.take j)))).length<=(qc6 b (prL (armN A))).length
 |b,[],j=>by simp|b,p::r,0=>by simp[armN,prL,qc6]|b,p::r,j+1=>by
  have ih:=armsP_pre false r j
  simp only[List.take_succ_cons,armN,prL,qc6,lqa]
  omega
theorem armsP_cnt:∀(A:List (Nd×Nd))(b:Bool),A.length<=(qc6 b (prL (armN A))).length
 |[],b=>Nat.zero_le _|p::r,b=>by have:=armsP_cnt r false;simp only[armN,prL,qc6,lqa,lqc];omega
theorem armN_lenD:∀A:List (Nd×Nd),(armN A).length=2*A.length
 |[]=>rfl|p::r=>by have:=armN_lenD r;simp[armN,this];omega
theorem armN_get:∀(A:List (Nd×Nd))(j:Nat)(h:j<A.length),(armN A)[2*j]? =some A[j].1/\(armN A)[2*j+1]? =some A[j].2
 |[],j,h=>by simp at h|p::r,0,h=>by simp[armN]|p::r,j+1,h=>by
  have:=armN_get r j (by simpa using h)
  have e1:2*(j+1)=2*j+2:=by omega
  simp only[armN,e1,List.getElem_cons_succ]
  exact⟨by simpa using this.1,by simpa using this.2⟩
def ArmsRD(w:World)(A:List (Nd×Nd))(gk:Nat)(sv c:Value)(wr:World):Prop:=∃j:Nat,Hid (gk=A.length-j)/\j<=A.length/\sv=.string (bs (qc6 true (prL (armN (A.take j)))))/\(∃i:Nat,i=1+2*j/\c=.int .i64 (i:Int))/\Below w.heap.size w wr
theorem arms_D{w:World}{P:Nat->Prop}{la:Option Addr}{x:Nd}{A:List (Nd×Nd)}{lc:Nat}(hp:PartsR w P la (x::armN A))(H:∀p∈A,ShD p.1/\ShD p.2)(hl:(qc6 true (prL (armN A))).length<=800000)(hA:A.length<=1000000):Calls Tryz.prog 124 #[.slice la (x::armN A).length lc] w fun e w'=>e=.returned (.string (bs (qc6 true (prL (armN A)))))/\Below w.heap.size w w':=by
 have hlen:(x::armN A).length=1+2*A.length:=by simp[armN_lenD];omega
 have HP:Hid (∀j(h:j<A.length),∃g y z,la=some ⟨g,0,none⟩/\g<w.heap.size/\at7 w g (1+2*j) y/\NR w P A[j].1 y/\at7 w g (2+2*j) z/\NR w P A[j].2 z):=ai (fun j h=>by
  obtain⟨g,y,h1,h2,h3,h4⟩:=hp (1+2*j) (by rw[hlen];omega)
  obtain⟨g',z,k1,k2,k3,k4⟩:=hp (2+2*j) (by rw[hlen];omega)
  rw[h1]at k1
  cases k1
  have e1:(x::armN A)[1+2*j]'(by rw[hlen];omega)=A[j].1:=by
   have:=(armN_get A j h).1
   have e:(x::armN A)[1+2*j]? =some A[j].1:=by rw[show 1+2*j=2*j+1 by omega];simpa using this
   rw[List.getElem?_eq_getElem (by rw[hlen];omega)]at e
   exact Option.some.inj e
  have e2:(x::armN A)[2+2*j]'(by rw[hlen];omega)=A[j].2:=by
   have:=(armN_get A j h).2
   have e:(x::armN A)[2+2*j]? =some A[j].2:=by rw[show 2+2*j=(2*j+1)+1 by omega];simpa using this
   rw[List.getElem?_eq_getElem (by rw[hlen];omega)]at e
   exact Option.some.inj e
  rw[e1]at h4
  rw[e2]at k4
  exact⟨g,y,z,h1,h2.1,h3,h4,k3,k4⟩)
 have HH:=ai H
 rw[hlen]
 clear hp H hlen
 obtain⟨N,HN0⟩:∃N,Hid (N=1+2*A.length):=⟨_,ai rfl⟩
 rw[<-uh HN0]
 go_enter Tryz.func124,Tryz.ntmps124
 go_wp2_with fail
 go_loopg[3,4] A.length (fun gk sv c wr=>ArmsRD w A gk sv c wr)
 case atStart=>exact⟨0,ai rfl,Nat.zero_le _,by simp[armN,prL,qc6,bs],⟨1,rfl,rfl⟩,Below.refl _ _⟩
 case round=>
  obtain⟨j,hgk,hj,rfl,⟨i,hi,rfl⟩,hB⟩:=hrel
  have HI:=ai hi
  clear hi
  have HB:=ai hB
  clear hB
  by_cases hlt:j<A.length
  .have hd:(i:Int)+1<(N:Int):=by have:=uh HI;have:=uh HN0;omega
   have hd2:(i:Int)<(N:Int):=by have:=uh HI;have:=uh HN0;omega
   have hd3:(N:Int)<=2000001:=by have:=uh HN0;omega
   obtain⟨g,y,z,rfl,hg,h7,hn,k7,kn⟩:=uh HP j hlt
   rw[<-uh HI]at h7
   rw[show 2+2*j=i+1 by have:=uh HI;omega]at k7
   obtain⟨q0,q1,q2,q3,q4,q5,q6⟩:=qdq (qdp h7 (uh HB) hg)
   have hN:=ai (hn.bel (uh HB))
   have hK:=ai kn
   have R7:=ai k7
   have ht:=ai (armsP_take true A j hlt)
   have hle:=armsP_pre true A (j+1)
   rw[uh ht]at hle
   simp only[lqa,lqc,lqn]at hle
   have z1:(bs (qc6 true (prL (armN (A.take j))))).size<=800000:=by rw[qa5];omega
   have z2:(bs (sh A[j].1)).size<=800000:=by rw[qa5];omega
   have z3:(bs (sh A[j].2)).size<=800000:=by rw[qa5];omega
   obtain⟨hh1,hh2⟩:=uh HH A[j] (List.getElem_mem hlt)
   have HA:=ai (hh1 wr P y (uh hN) (by omega))
   have HC:=ai hh2
   have zz:(sh A[j].2).length<=800000:=by omega
   clear h7 hn kn k7 hle hh1 hh2
   go_wp2_with fail
   refine(uh HA).mono ?_
   rintro e w1⟨rfl,hb1⟩
   have HB1:=(uh HB).trans (hb1.mono (uh HB).size)
   clear q0 q1 q2 q3 q4 q5 q6 HA hN
   obtain⟨q0,q1,q2,q3,q4,q5,q6⟩:=qdq (qdp (uh R7) HB1 hg)
   have HD:=ai (uh HC w1 P z ((uh hK).bel HB1) zz)
   clear HC hK R7
   go_wp2_with fail
   refine(uh HD).mono ?_
   rintro e w2⟨rfl,hb2⟩
   have HB2:=HB1.trans (hb2.mono HB1.size)
   clear q0 q1 q2 q3 q4 q5 q6 HD
   by_cases hj0:j=0
   .have hi1:decide ((1:Int)<(i:Int))=false:=by have:=uh HI;simp;omega
    have HJ0:=ai hj0
    clear hj0
    go_wp2_with fail
    go_roundg(A.length-(j+1))
    case measure=>rw[uh hgk];omega
    case rel=>
     refine⟨j+1,ai rfl,by omega,?_,⟨i+2,by have:=uh HI;omega,by go_num⟩,HB2⟩
     rw[uh ht,if_pos (by simp[uh HJ0]),List.append_nil,<-qay,<-qay,<-qay]
     rfl
   .have hi1:(1:Int)<(i:Int):=by have:=uh HI;omega
    have HJ0:=ai hj0
    clear hj0
    go_wp2_with fail
    go_roundg(A.length-(j+1))
    case measure=>rw[uh hgk];omega
    case rel=>
     refine⟨j+1,ai rfl,by omega,?_,⟨i+2,by have:=uh HI;omega,by go_num⟩,HB2⟩
     rw[uh ht,if_neg (by simp[uh HJ0]),<-qay,<-qay,<-qay,<-qay]
     rfl
  .have hd:decide ((i:Int)+1<(N:Int))=false:=by have:=uh HI;have:=uh HN0;simp;omega
   have hd3:(N:Int)<=2000001:=by have:=uh HN0;omega
   have hd4:(i:Int)<=2000001:=by have:=uh HI;omega
   have ej:j=A.length:=by omega
   subst ej
   go_wp2_with fail
   go_ret
   rw[List.take_length]
   exact⟨rfl,uh HB⟩
theorem sh_13(s:BA)(n f t a:Nat){x:Nd}{A:List (Nd×Nd)}(Hx:ShD x)(H:∀p∈A,ShD p.1/\ShD p.2):ShD (.mk 13 s n (x::armN A) f t a):=by
 intro w P y hx hl
 obtain⟨la,lc,rfl,hp⟩:=hx.pts
 obtain⟨g,y0,rfl,⟨hg,-⟩,r0,n0⟩:=hp 0 (by simp)
 have n0:NR w P x y0:=n0
 have esh:sh (.mk 13 s n (x::armN A) f t a)=[109,97,116,99,104,32]++sh x++[32,119,105,116,104,32]++qc6 true (prL (armN A))++[32,101,110,100]:=by simp[sh,qcb,prL,gP]
 rw[esh]at hl⊢
 simp only[lqa,lqc,lqn]at hl
 have z0:(bs (sh x)).size<=800000:=by rw[qa5];omega
 have z1:(bs (qc6 true (prL (armN A)))).size<=800000:=by rw[qa5];omega
 obtain⟨N,hN0⟩:∃N,Hid (N=(x::armN A).length):=⟨_,ai rfl⟩
 have hcn:=armsP_cnt A true
 have hb0:Below w.heap.size w (w.alloc (.cells (ndA ⟨13,s,n,some ⟨g,0,none⟩,N,lc,f,t,a⟩) 62)):=bw _
 have BN:=ai (Bx.new w (ndA ⟨13,s,n,some ⟨g,0,none⟩,N,lc,f,t,a⟩) 62)
 have HP:=ai (show PartsR w P (some ⟨g,0,none⟩) (x::armN A)from hp)
 obtain⟨Z,HZ⟩:∃Z,Hid (Z=bs ([109,97,116,99,104,32]++sh x++[32,119,105,116,104,32]++qc6 true (prL (armN A))++[32,101,110,100])):=⟨_,ai rfl⟩
 rw[<-uh HZ,<-uh hN0]
 have hN1:(0:Int)<(N:Int):=by have:=uh hN0;simp at this;omega
 have N0:=ai n0
 have HH:=ai H
 clear hx hp H
 obtain⟨q00,q01,q02,q03,q04,q05,q06⟩:=qdq (qdp r0 hb0 hg)
 simp only[Nat.zero_mul,Nat.zero_add,Nat.one_mul,Nat.reduceMul,Nat.reduceAdd]at q00 q01 q02 q03 q04 q05 q06
 clear r0 n0
 unfold NV.v
 go_enter Tryz.func61,Tryz.ntmps61
 go_wp2_with fail
 refine(Hx _ P y0 ((uh N0).bel hb0) (by omega)).mono ?_
 rintro e w1⟨rfl,hb1⟩
 have HB1:=hb0.trans (hb1.mono hb0.size)
 have BN1:=ai ((uh BN).below hb1)
 have HA:=ai (arms_D (lc:=lc) ((uh HP).bel HB1) (uh HH) (by omega) (by omega))
 rw[<-uh hN0]at HA
 clear q00 q01 q02 q03 q04 q05 q06 BN hb1 HP
 obtain⟨cb,fb,zb⟩:=uh BN1
 go_wp2_with fail
 refine(uh HA).mono ?_
 rintro e w2⟨rfl,hb2⟩
 have HB2:=HB1.trans (hb2.mono HB1.size)
 clear cb fb zb HA
 obtain⟨cb,fb,zb⟩:=(uh BN1).below hb2
 go_wp2_with fail
 go_ret
 refine⟨?_,HB2⟩
 rw[uh HZ,<-qay,<-qay,<-qay,<-qay]
 rfl
end
section
open Go Go.RowKit Un
structure DV where
 ty:Bool
 rc:Bool
 nm:Pu.Tok
 vp:Option Addr
 vl:Nat
 vc:Nat
 mp:Option Addr
 ml:Nat
 mc:Nat
 bd:NV
abbrev DV.a(x:DV):Array Value:=#[.bool x.ty,.bool x.rc,.int .i64 (x.nm.kind:Int),.string x.nm.text,.int .i64 (x.nm.frm:Int),.int .i64 (x.nm.to:Int),.slice x.vp x.vl x.vc,.slice x.mp x.ml x.mc,.int .i64 x.bd.k,.string x.bd.s,.int .i64 x.bd.n,.slice x.bd.la x.bd.ll x.bd.lc,.int .i64 x.bd.f,.int .i64 x.bd.t,.int .i64 x.bd.a]
def DV.v(x:DV):Value:=.agg x.a
def TokR(w:World)(P:Nat->Prop)(vp:Option Addr)(vs:List Pu.Tok):Prop:=∀i(hi:i<vs.length),∃g,vp=some ⟨g,0,none⟩/\(g<w.heap.size/\P g)/\w.cell? ⟨g,i*4+1,none⟩=some (.string vs[i].text)
theorem TokR.bel{w w':World}{P:Nat->Prop}{vp:Option Addr}{vs:List Pu.Tok}(h:TokR w P vp vs)(hb:Below w.heap.size w w'):TokR w' P vp vs:=fun i hi=>by
 obtain⟨g,h1,h2,h3⟩:=h i hi
 exact⟨g,h1,⟨Nat.lt_of_lt_of_le h2.1 hb.size,h2.2⟩,(World.cell?_of_block (a:=⟨g,i*4+1,none⟩) (hb.block g h2.1)).trans h3⟩
def DR(w:World)(P:Nat->Prop)(x:DV):Dc->Prop
 |.ty t vs ms=>x.ty=true/\x.nm=t/\x.vl=vs.length/\x.ml=ms.length/\TokR w P x.vp vs/\PartsR w P x.mp ms|.lt r t b=>x.ty=false/\x.rc=r/\x.nm=t/\NR w P b x.bd
theorem DR.bel{w w':World}{P:Nat->Prop}{x:DV}{d:Dc}(h:DR w P x d)(hb:Below w.heap.size w w'):DR w' P x d:=by
 cases d with
 |ty t vs ms=>obtain⟨a,b,c,d,e,f⟩:=h;exact⟨a,b,c,d,e.bel hb,f.bel hb⟩
 |lt r t b=>obtain⟨a,b',c,d⟩:=h;exact⟨a,b',c,d.bel hb⟩
section
variable {w:World}
theorem declaration_lt{P:Nat->Prop}{x:DV}{r:Bool}{t:Pu.Tok}{b:Nd}(h:DR w P x (.lt r t b))(H:ShD b)(hl:(dcS (.lt r t b)).length<=800000):Calls Tryz.prog 27 #[x.v] w fun e w'=>e=.returned (.string (bs (dcS (.lt r t b))))/\Below w.heap.size w w':=by
 obtain⟨ty,rc,nm,vp,vl,vc,mp,ml,mc,bd⟩:=x
 obtain⟨h1,h2,h3,h4⟩:=h
 simp only at h1 h2 h3 h4
 subst h1 h2 h3
 have hsz:=qdu nm.text
 have hb0:Below w.heap.size w (w.alloc (.cells (DV.a ⟨false,rc,nm,vp,vl,vc,mp,ml,mc,bd⟩) 64)):=bw _
 have BN:=ai (Bx.new w (DV.a ⟨false,rc,nm,vp,vl,vc,mp,ml,mc,bd⟩) 64)
 obtain⟨Z,HZ⟩:∃Z,Hid (Z=bs (dcS (.lt rc nm b))):=⟨_,ai rfl⟩
 rw[<-uh HZ]
 have hl2:(sh b).length+nm.text.toList.length+11<=800011:=by
  simp only[dcS,letS,lqa,lqc,lqn]at hl
  cases rc<;>simp at hl<;>omega
 have z0:(bs (sh b)).size<=800000:=by rw[qa5];omega
 have HS:=ai (H _ P bd (h4.bel hb0) (by omega))
 clear h4 hl
 unfold DV.v
 unfold NV.v at HS
 cases rc with
 |false=>
  go_enter Tryz.func27,Tryz.ntmps27
  go_wp2_with fail
  refine(uh HS).mono ?_
  rintro e w1⟨rfl,hb1⟩
  obtain⟨cb,fb,zb⟩:=(uh BN).below hb1
  clear HS BN
  go_wp2_with fail
  go_ret
  refine⟨?_,hb0.trans (hb1.mono hb0.size)⟩
  rw[uh HZ,show dcS (.lt false nm b)=[108,101,116,32]++nm.text.toList++[32,61,32]++sh b by simp[dcS,letS],<-qay,<-qay,<-qay,qbq]
  rfl
 |true=>
  go_enter Tryz.func27,Tryz.ntmps27
  go_wp2_with fail
  refine(uh HS).mono ?_
  rintro e w1⟨rfl,hb1⟩
  obtain⟨cb,fb,zb⟩:=(uh BN).below hb1
  clear HS BN
  go_wp2_with fail
  go_ret
  refine⟨?_,hb0.trans (hb1.mono hb0.size)⟩
  rw[uh HZ,show dcS (.lt true nm b)=[108,101,116,32,114,101,99,32]++nm.text.toList++[32,61,32]++sh b by simp[dcS,letS],<-qay,<-qay,<-qay,qbq]
  rfl
theorem vsW_cnt:∀vs:List Pu.Tok,vs.length<=(vsW vs).length
 |[]=>Nat.zero_le _|v::l=>by have:=vsW_cnt l;unfold vsW at this⊢;simp only[List.flatMap_cons,lqa,lqc];omega
theorem mksW_cnt:∀(ms:List Nd)(b:Bool),ms.length<=(mksW b ms).length
 |[],_=>Nat.zero_le _|m::l,b=>by have:=mksW_cnt l false;simp only[mksW,lqa,lqc];omega
def VsR(w:World)(pre:List UInt8)(vs:List Pu.Tok)(gk:Nat)(sv c:Value)(wr:World):Prop:=∃j:Nat,Hid (gk=vs.length-j)/\j<=vs.length/\sv=.string (bs (pre++vsW (vs.take j)))/\c=.int .i64 (j:Int)/\wr=w
def MkR(w:World)(pre:List UInt8)(ms:List Nd)(gk:Nat)(sv c:Value)(wr:World):Prop:=∃j:Nat,Hid (gk=ms.length-j)/\j<=ms.length/\sv=.string (bs (pre++mksW true (ms.take j)))/\c=.int .i64 (j:Int)/\Below w.heap.size w wr
theorem declaration_ty{P:Nat->Prop}{x:DV}{t:Pu.Tok}{vs:List Pu.Tok}{ms:List Nd}(h:DR w P x (.ty t vs ms))(H:∀m∈ms,ShD m)(hl:(dcS (.ty t vs ms)).length<=800000):Calls Tryz.prog 27 #[x.v] w fun e w'=>e=.returned (.string (bs (dcS (.ty t vs ms))))/\Below w.heap.size w w':=by
 obtain⟨ty,rc,nm,vp,vl,vc,mp,ml,mc,bd⟩:=x
 obtain⟨h1,h2,h3,h4,hV,hM⟩:=h
 simp only at h1 h2 h3 h4 hV hM
 subst h1 h2 h3 h4
 have hsz:=qdu nm.text
 obtain⟨pre,HPre⟩:∃pre,Hid (pre=[116,121,112,101,32]++nm.text.toList):=⟨_,ai rfl⟩
 have hdc:Hid (dcS (.ty nm vs ms)=(pre++vsW vs)++mksW true ms):=ai (by rw[uh HPre];simp[dcS])
 rw[uh hdc]at hl
 simp only[lqa]at hl
 have hpl:pre.length=nm.text.toList.length+5:=by rw[uh HPre];simp
 have cv:=vsW_cnt vs
 have cm:=mksW_cnt ms true
 obtain⟨W0,HW0⟩:∃W,Hid (W=w.alloc (.cells (DV.a ⟨true,rc,nm,vp,vs.length,vc,mp,ms.length,mc,bd⟩) 64)):=⟨_,ai rfl⟩
 have hb0:Below w.heap.size w W0:=by rw[uh HW0];exact bw _
 have BN:Hid (Bx W0 w.heap.size (DV.a ⟨true,rc,nm,vp,vs.length,vc,mp,ms.length,mc,bd⟩)):=ai (by rw[uh HW0];exact Bx.new w _ _)
 have HV:=ai (hV.bel hb0)
 have HM:=ai (hM.bel hb0)
 have HH:=ai H
 clear hV hM H
 obtain⟨Z,HZ⟩:∃Z,Hid (Z=bs (dcS (.ty nm vs ms))):=⟨_,ai rfl⟩
 rw[<-uh HZ]
 unfold DV.v
 go_enter Tryz.func27,Tryz.ntmps27
 go_wp2_with fail
 rw[show(⟨#[116,121,112,101,32]⟩:BA)++nm.text=bs pre by rw[uh HPre,<-qay,qbq];rfl,<-uh HW0]
 go_loopg[4,5] vs.length (fun gk sv c wr=>VsR W0 pre vs gk sv c wr)
 case atStart=>exact⟨0,ai rfl,Nat.zero_le _,by simp[vsW],rfl,rfl⟩
 case round=>
  obtain⟨j,hgk,hj,rfl,rfl,rfl⟩:=hrel
  obtain⟨cb,fb,zb⟩:=uh BN
  by_cases hlt:j<vs.length
  .have hd:(j:Int)<(vs.length:Int):=by omega
   obtain⟨g,rfl,⟨hg,-⟩,hc⟩:=uh HV j hlt
   have ht:=ai (vsW_take vs j hlt)
   have hle:=vsW_le vs (j+1)
   rw[uh ht]at hle
   simp only[lqa,lqc,lqn]at hle
   have hs2:=qdu vs[j].text
   have z1:(bs (pre++vsW (vs.take j))).size<=800000:=by rw[qa5,lqa];omega
   go_wp2_with fail
   go_roundg(vs.length-(j+1))
   case measure=>rw[uh hgk];omega
   case rel=>
    refine⟨j+1,ai rfl,by omega,?_,by go_num,rfl⟩
    rw[uh ht,show pre++(vsW (vs.take j)++([32]++vs[j].text.toList))=(pre++vsW (vs.take j))++[32]++vs[j].text.toList by simp,<-qay,<-qay,qbq]
    rfl
  .have hd:decide ((j:Int)<(vs.length:Int))=false:=by simp;omega
   have ej:j=vs.length:=by omega
   subst ej
   rw[List.take_length]
   obtain⟨pre2,HP2⟩:∃q,Hid (q=pre++vsW vs):=⟨_,ai rfl⟩
   have hpl2:pre2.length=pre.length+(vsW vs).length:=by rw[uh HP2];simp
   rw[<-uh HP2]
   go_wp2_with fail
   go_loopg[4,6] ms.length (fun gk sv c wr'=>MkR wr pre2 ms gk sv c wr')
   case atStart=>exact⟨0,ai rfl,Nat.zero_le _,by simp[mksW],rfl,Below.refl _ _⟩
   case round=>
    clear cb fb zb
    obtain⟨j,hgk2,hj2,rfl,rfl,hB⟩:=hrel
    have BN2:=ai ((uh BN).below hB)
    have HM2:=ai ((uh HM).bel hB)
    have HB2:=ai (hb0.trans (hB.mono hb0.size))
    have HBr:=ai hB
    clear hB
    obtain⟨cb,fb,zb⟩:=uh BN2
    by_cases hlt2:j<ms.length
    .have hd2:(j:Int)<(ms.length:Int):=by omega
     obtain⟨g,y,rfl,⟨hg,-⟩,h7,hn⟩:=uh HM2 j hlt2
     obtain⟨q0,q1,q2,q3,q4,q5,q6⟩:=qdq h7
     have ht:=ai (mksW_take true ms j hlt2)
     have hle:=mksW_le true ms (j+1)
     rw[uh ht]at hle
     simp only[lqa,lqc,lqn]at hle
     have z1:(bs (pre2++mksW true (ms.take j))).size<=800000:=by rw[qa5,lqa];omega
     have z2:(bs (sh ms[j])).size<=800000:=by rw[qa5];omega
     have HS:=ai (uh HH ms[j] (List.getElem_mem hlt2) wr P y hn (by omega))
     clear h7 hn hle
     go_wp2_with fail
     refine(uh HS).mono ?_
     rintro e w1⟨rfl,hb1⟩
     have HB3:=ai ((uh HBr).trans (hb1.mono (uh HBr).size))
     clear HS q0 q1 q2 q3 q4 q5 q6 cb fb zb
     by_cases hj0:j=0
     .have hi0:((j:Int)==0)=true:=by simp[hj0]
      have HJ0:=ai hj0
      clear hj0
      go_wp2_with fail
      go_roundg(ms.length-(j+1))
      case measure=>rw[uh hgk2];omega
      case rel=>
       refine⟨j+1,ai rfl,by omega,?_,by go_num,uh HB3⟩
       rw[uh ht,show(if(true&&j==0)=true then([61]:List UInt8)else[124])=[61] by simp[uh HJ0],show pre2++(mksW true (ms.take j)++(([32]++[61])++([32]++sh ms[j])))=(pre2++mksW true (ms.take j))++[32,61,32]++sh ms[j] by simp,<-qay,<-qay]
       rfl
     .have hi0:((j:Int)==0)=false:=by simp;omega
      have HJ0:=ai hj0
      clear hj0
      go_wp2_with fail
      go_roundg(ms.length-(j+1))
      case measure=>rw[uh hgk2];omega
      case rel=>
       refine⟨j+1,ai rfl,by omega,?_,by go_num,uh HB3⟩
       rw[uh ht,show(if(true&&j==0)=true then([61]:List UInt8)else[124])=[124] by simp[uh HJ0],show pre2++(mksW true (ms.take j)++(([32]++[124])++([32]++sh ms[j])))=(pre2++mksW true (ms.take j))++[32,124,32]++sh ms[j] by simp,<-qay,<-qay]
       rfl
    .have hd2:decide ((j:Int)<(ms.length:Int))=false:=by simp;omega
     have ej:j=ms.length:=by omega
     subst ej
     go_wp2_with fail
     go_ret
     rw[List.take_length]
     exact⟨by rw[uh HZ,uh hdc,<-uh HP2];rfl,uh HB2⟩
end
end
end Go.Proofs.YtoceemjbcgmojaaGreatDoor

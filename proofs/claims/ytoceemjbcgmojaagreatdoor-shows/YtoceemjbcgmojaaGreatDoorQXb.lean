import Derived.Test.YtoceemjbcgmojaaGreatDoorQTo
import Derived.Test.YtoceemjbcgmojaaGreatDoorQPk
set_option linter.all false
set_option maxRecDepth 100000
set_option maxHeartbeats 2000000
namespace Go.Proofs.YtoceemjbcgmojaaGreatDoor
section
open Go Go.RowKit Go.ChangeMaps
def LowN(s:BA):Prop:=∃x r,s.toList=x::r/\Pu.lowB x.toNat=true
def DigN(s:BA):Prop:=0<s.size/\s.size<=9/\∀i,i<s.size->Pu.digB (Pu.at_ s i)=true
structure TokIn(t:Pu.Tok):Prop where
 sp:t.to=t.frm+t.text.size
 v1:t.kind=1->LowN t.text
 v4:t.kind=4->DigN t.text
theorem endTo_all{s:BA}{p:Nat->Bool}:∀(d i j:Nat),j-i=d->i<=j->j<Pu.endTo s p i->p (Pu.at_ s j)=true:=by
 have hp6:∀i,i<Pu.endTo s p i->i<s.size/\p (Pu.at_ s i)=true:=fun i h=>by
  by_cases hi:i<s.size
  .cases q:p (Pu.at_ s i)with
   |true=>exact⟨hi,rfl⟩|false=>rw[Pu.endTo_no hi q]at h;omega
  .rw[Pu.endTo_end (by omega)]at h;omega
 intro d
 induction d with
 |zero=>intro i j h1 h2 h3;have:i=j:=by omega
        subst this;exact(hp6 i h3).2
 |succ d ih=>
  intro i j h1 h2 h3
  have hlt:i<Pu.endTo s p i:=by omega
  obtain⟨g1,g2⟩:=hp6 i hlt
  rw[Pu.endTo_yes g1 g2]at h3
  exact ih (i+1) j (by omega) (by omega) h3
theorem at_ext(s:BA)(i e j:Nat)(he:e<=s.size)(hj:i+j<e):Pu.at_ (s.extract i e) j=Pu.at_ s (i+j):=by
 have h1:j<(s.extract i e).size:=by rw[ByteArray.size_extract];omega
 rw[Pu.at_lt h1,Pu.at_lt (by omega)]
 rw[ByteArray.getElem_extract]
theorem tokAt_in(s:BA)(i:Nat)(hi:i<s.size):TokIn (Pu.tokAt s i):=by
 have ht:=Pu.tokAt_to s i hi
 revert ht
 unfold Pu.tokAt
 have ex:∀k b:Nat,i<b->b<=s.size->(Pu.mkT s i k b).to=(Pu.mkT s i k b).frm+(Pu.mkT s i k b).text.size:=fun k b h1 h2=>by
  show b=i+(s.extract i b).size
  rw[ByteArray.size_extract]
  omega
 repeat' split
 all_goals intro ht
 all_goals refine⟨ex _ _ ht.1 ht.2,?_,?_⟩
 all_goals intro q
 all_goals try(exfalso;simp[Pu.mkT]at q;done)
 .rename_i h1 _
  exact⟨_,_,qev hi ht.1,by rw[<-Pu.at_lt hi];exact h1⟩
 .rename_i h4 h5
  have hto:Pu.endTo s Pu.digB (i+1)<=s.size:=ht.2
  have hlt:i<Pu.endTo s Pu.digB (i+1):=ht.1
  have hsz:(s.extract i (Pu.endTo s Pu.digB (i+1))).size=Pu.endTo s Pu.digB (i+1)-i:=by rw[ByteArray.size_extract];omega
  refine⟨by show 0<(s.extract i _).size;omega,by show(s.extract i _).size<=9;omega,fun j hj=>?_⟩
  have hj':j<(s.extract i (Pu.endTo s Pu.digB (i+1))).size:=hj
  show Pu.digB (Pu.at_ (s.extract i _) j)=true
  rw[at_ext s i _ j hto (by omega)]
  cases j with
  |zero=>exact h4|succ j=>exact endTo_all j (i+1) (i+(j+1)) (by omega) (by omega) (by omega)
theorem tk_in(s:BA)(k:Nat)(hk:k<(Pu.toks s 0).length):TokIn (tk (Pu.toks s 0) k):=by
 rw[tk_next s k hk]
 unfold qar
 split
 .rename_i h;exact tokAt_in s _ h
 .exact⟨by simp[Pu.endTok];rfl,by simp[Pu.endTok],by simp[Pu.endTok]⟩
inductive PP(w:World)(P:Nat->Prop):Nd->Value->Prop where
 |any(s:BA)(n f t a:Nat):PP w P (.mk 15 s n [] f t a) (.iface 442 (.agg #[.int .i64 (f:Int),.int .i64 (t:Int)]))
 |low(s:BA)(n f t a:Nat)(hs:LowN s):PP w P (.mk 1 s n [] f t a) (.iface 466 (.agg #[.int .i64 (f:Int),.int .i64 (t:Int),.string s]))
 |num(s:BA)(n f t a:Nat):PP w P (.mk 3 s n [] f t a) (.iface 431 (.agg #[.int .i64 (f:Int),.int .i64 (t:Int),.int .i64 (n:Int)]))
 |word(s:BA)(n f t a:Nat)(hs:s.toList=kTrue.toList\/s.toList=kFalse.toList):PP w P (.mk 4 s n [] f t a) (.iface 426 (.agg #[.int .i64 (f:Int),.int .i64 (t:Int),.bool (s.toList==[116,114,117,101])]))
 |unit(s:BA)(n f t a:Nat):PP w P (.mk 5 s n [] f t a) (.iface 429 (.agg #[.int .i64 (f:Int),.int .i64 (t:Int)]))
 |pr(s:BA)(n:Nat)(x y:Nd)(f t a:Nat)(vx vy:Value)(hx:PP w P x vx)(hy:PP w P y vy):PP w P (.mk 6 s n [x,y] f t a) (.iface 433 (.agg #[.int .i64 (f:Int),.int .i64 (t:Int),vx,vy]))
 |up(s:BA)(n:Nat)(L:List Nd)(f t a y:Nat)(sa:Option Addr)(sc:Nat)(vs:Nat->Value)(hu:UpN s)(hy:y=a+s.size)(hrow:L=[]\/∃g,sa=some ⟨g,0,none⟩/\P g/\g<w.heap.size/\∀i,i<L.length->w.cell? ⟨g,i,none⟩=some (vs i))(hr:∀i(h:i<L.length),PP w P L[i] (vs i)):
  PP w P (.mk 2 s n L f t a) (.iface 410 (.agg #[.int .i64 (f:Int),.int .i64 (t:Int),.int .i64 (a:Int),.int .i64 (y:Int),.string s,.slice sa L.length sc]))
inductive PE(w:World)(P:Nat->Prop):Nd->Value->Prop where
 |low(s:BA)(n f t a:Nat)(hs:LowN s):PE w P (.mk 1 s n [] f t a) (.iface 466 (.agg #[.int .i64 (f:Int),.int .i64 (t:Int),.string s]))
 |up(s:BA)(n f t a:Nat)(hs:UpN s):PE w P (.mk 2 s n [] f t a) (.iface 513 (.agg #[.int .i64 (f:Int),.int .i64 (t:Int),.string s]))
 |num(s:BA)(n f t a:Nat):PE w P (.mk 3 s n [] f t a) (.iface 431 (.agg #[.int .i64 (f:Int),.int .i64 (t:Int),.int .i64 (n:Int)]))
 |word(s:BA)(n f t a:Nat)(hs:s.toList=kTrue.toList\/s.toList=kFalse.toList):PE w P (.mk 4 s n [] f t a) (.iface 426 (.agg #[.int .i64 (f:Int),.int .i64 (t:Int),.bool (s.toList==[116,114,117,101])]))
 |unit(s:BA)(n f t a:Nat):PE w P (.mk 5 s n [] f t a) (.iface 429 (.agg #[.int .i64 (f:Int),.int .i64 (t:Int)]))
 |pr(s:BA)(n:Nat)(x y:Nd)(f t a:Nat)(vx vy:Value)(hx:PE w P x vx)(hy:PE w P y vy):PE w P (.mk 6 s n [x,y] f t a) (.iface 412 (.agg #[.int .i64 (f:Int),.int .i64 (t:Int),vx,vy]))
 |of(s:BA)(n:Nat)(x y:Nd)(f t a:Nat)(vx vy:Value)(hx:PE w P x vx)(hy:PT w P y vy):PE w P (.mk 14 s n [x,y] f t a) (.iface 414 (.agg #[.int .i64 (f:Int),.int .i64 (t:Int),vx,vy]))
 |op(s:BA)(n:Nat)(x y:Nd)(f t a:Nat)(vx vy:Value)(hs:s=kPlus\/s=kMinus\/s=kStar\/s=kLess)(hx:PE w P x vx)(hy:PE w P y vy):PE w P (.mk 7 s n [x,y] f t a) (.iface 422 (.agg #[.int .i64 (f:Int),.int .i64 (t:Int),.string s,vx,vy]))
 |call(s:BA)(n:Nat)(x y:Nd)(f t a:Nat)(vx vy:Value)(hx:PE w P x vx)(hy:PE w P y vy):PE w P (.mk 8 s n [x,y] f t a) (.iface 424 (.agg #[.int .i64 (f:Int),.int .i64 (t:Int),vx,vy]))
 |fn(s:BA)(n:Nat)(x:Nd)(f t a y:Nat)(vx:Value)(hs:LowN s)(hy:y=a+s.size)(hx:PE w P x vx):PE w P (.mk 9 s n [x] f t a) (.iface 416 (.agg #[.int .i64 (f:Int),.int .i64 (t:Int),.int .i64 (a:Int),.int .i64 (y:Int),.string s,vx]))
 |lt(c:Nat)(s:BA)(n:Nat)(x z:Nd)(f t a y:Nat)(vx vz:Value)(hc:c=10\/c=11)(hs:LowN s)(hy:y=a+s.size)(hx:PE w P x vx)(hz:PE w P z vz):PE w P (.mk c s n [x,z] f t a) (.iface 418 (.agg #[.int .i64 (f:Int),.int .i64 (t:Int),.bool (c==11),.int .i64 (a:Int),.int .i64 (y:Int),.string s,vx,vz]))
 |ite(s:BA)(n:Nat)(x y z:Nd)(f t a:Nat)(vx vy vz:Value)(hx:PE w P x vx)(hy:PE w P y vy)(hz:PE w P z vz):PE w P (.mk 12 s n [x,y,z] f t a) (.iface 420 (.agg #[.int .i64 (f:Int),.int .i64 (t:Int),vx,vy,vz]))
 |mt(s:BA)(n:Nat)(x:Nd)(A:List (Nd×Nd))(f t a:Nat)(vx:Value)(g sc:Nat)(vp ve:Nat->Value)(h0:A≠[])(hg:P g)(hz:g<w.heap.size)(hc:∀i,i<A.length->(∃u v,w.cell? ⟨g,i*4,none⟩=some (.int .i64 u)/\w.cell? ⟨g,i*4+1,none⟩=some (.int .i64 v))/\w.cell? ⟨g,i*4+2,none⟩=some (vp i)/\w.cell? ⟨g,i*4+3,none⟩=some (ve i))(hx:PE w P x vx)(hp:∀i(h:i<A.length),PP w P A[i].1 (vp i))(he:∀i(h:i<A.length),PE w P A[i].2 (ve i)):
  PE w P (.mk 13 s n (x::armN A) f t a) (.iface 225 (.agg #[.int .i64 (f:Int),.int .i64 (t:Int),vx,.slice (some ⟨g,0,none⟩) A.length sc]))
section
variable {w w':World} {P Q:Nat->Prop} {nd:Nd} {v:Value}
theorem PP.move(h:PP w P nd v)(hs:w.heap.size<=w'.heap.size)(hb:∀b,P b->b<w.heap.size->w'.heap[b]? =w.heap[b]?)(hq:∀b,P b->b<w.heap.size->Q b):PP w' Q nd v:=by
 induction h with
 |any s n f t a=>exact .any s n f t a|low s n f t a h=>exact .low s n f t a h|num s n f t a=>exact .num s n f t a|word s n f t a h=>exact .word s n f t a h|unit s n f t a=>exact .unit s n f t a|pr s n x y f t a vx vy _ _ ihx ihy=>exact .pr s n x y f t a vx vy ihx ihy|up s n L f t a y sa sc vs hu hy hrow hr ih=>
  refine .up s n L f t a y sa sc vs hu hy ?_ ih
  rcases hrow with h0|⟨g,h1,hP,hz,hc⟩
  .exact Or.inl h0
  .refine Or.inr ⟨g,h1,hq g hP hz,Nat.lt_of_lt_of_le hz hs,fun i hi=>?_⟩
   rw[World.cell?_of_block (a:=⟨g,i,none⟩) (w:=w) (hb g hP hz)]
   exact hc i hi
theorem PP.bel(h:PP w P nd v)(hb:Below w.heap.size w w'):PP w' P nd v:=h.move hb.size (fun b _ hz=>hb.block b hz) (fun _ p _=>p)
theorem PP.ke{rb:Nat}(h:PP w P nd v)(hb:Ke rb w w')(hn:∀b,P b->b≠rb):PP w' P nd v:=h.move hb.size (fun b p hz=>hb.block b hz (hn b p)) (fun _ p _=>p)
theorem PP.wide(h:PP w P nd v)(hq:∀b,P b->Q b):PP w Q nd v:=h.move (br _) (fun _ _ _=>rfl) (fun b p _=>hq b p)
theorem PP.iface(h:PP w P nd v):∃t x,v=.iface t (.agg x):=by cases h<;>exact⟨_,_,rfl⟩
theorem PE.move(h:PE w P nd v)(hs:w.heap.size<=w'.heap.size)(hb:∀b,P b->b<w.heap.size->w'.heap[b]? =w.heap[b]?)(hq:∀b,P b->b<w.heap.size->Q b):PE w' Q nd v:=by
 induction h with
 |low s n f t a h=>exact .low s n f t a h|up s n f t a h=>exact .up s n f t a h|num s n f t a=>exact .num s n f t a|word s n f t a h=>exact .word s n f t a h|unit s n f t a=>exact .unit s n f t a|pr s n x y f t a vx vy _ _ ihx ihy=>exact .pr s n x y f t a vx vy ihx ihy|of s n x y f t a vx vy _ hy ihx=>exact .of s n x y f t a vx vy ihx (hy.move hs hb hq)|op s n x y f t a vx vy ho _ _ ihx ihy=>exact .op s n x y f t a vx vy ho ihx ihy|call s n x y f t a vx vy _ _ ihx ihy=>exact .call s n x y f t a vx vy ihx ihy|fn s n x f t a y vx h1 h2 _ ih=>exact .fn s n x f t a y vx h1 h2 ih|lt c s n x z f t a y vx vz h1 h2 h3 _ _ ihx ihz=>exact .lt c s n x z f t a y vx vz h1 h2 h3 ihx ihz|ite s n x y z f t a vx vy vz _ _ _ ihx ihy ihz=>exact .ite s n x y z f t a vx vy vz ihx ihy ihz|mt s n x A f t a vx g sc vp ve h0 hg hz hc _ hp _ ihx ihe=>
  have c:∀j,w'.cell? ⟨g,j,none⟩=w.cell? ⟨g,j,none⟩:=fun j=>World.cell?_of_block (a:=⟨g,j,none⟩) (hb g hg hz)
  refine .mt s n x A f t a vx g sc vp ve h0 (hq g hg hz) (Nat.lt_of_lt_of_le hz hs) (fun i hi=>?_) ihx (fun i hi=>(hp i hi).move hs hb hq) ihe
  rw[c,c,c,c]
  exact hc i hi
theorem PE.bel(h:PE w P nd v)(hb:Below w.heap.size w w'):PE w' P nd v:=h.move hb.size (fun b _ hz=>hb.block b hz) (fun _ p _=>p)
theorem PE.ke{rb:Nat}(h:PE w P nd v)(hb:Ke rb w w')(hn:∀b,P b->b≠rb):PE w' P nd v:=h.move hb.size (fun b p hz=>hb.block b hz (hn b p)) (fun _ p _=>p)
theorem PE.wide(h:PE w P nd v)(hq:∀b,P b->Q b):PE w Q nd v:=h.move (br _) (fun _ _ _=>rfl) (fun b p _=>hq b p)
theorem PE.iface(h:PE w P nd v):∃t x,v=.iface t (.agg x):=by cases h<;>exact⟨_,_,rfl⟩
end
def qfr(s:BA)(n:Nat):Prop:=∀(w:World)(N rb sb:Nat)(m:MV)(k:Nat),SX w N rb sb m s k->(Pu.toks s 0).length<=k+n->
 Calls Tryz.prog 340 #[rp rb] w (RuleX PE N rb sb m s (qaq (Pu.toks s 0) n k) w)
def PatC(s:BA)(n:Nat):Prop:=∀(w:World)(N rb sb:Nat)(m:MV)(k:Nat),SX w N rb sb m s k->(Pu.toks s 0).length<=k+n->
 Calls Tryz.prog 344 #[rp rb] w (RuleX PP N rb sb m s (patM (Pu.toks s 0) n k) w)
theorem arrow_X{s:BA}(hs:s.size<=1000)(hT:(Pu.toks s 0).length<=1001){n:Nat}{w:World}{N rb sb:Nat}{m:MV}{k:Nat}(h:SX w N rb sb m s k)(hn:(Pu.toks s 0).length<=k+n):
 Calls Tryz.prog 126 #[rp rb] w (RuleX PT N rb sb m s (typM (Pu.toks s 0) n k) w):=
 (arrow_C hs hT n w rb sb m k h.rd h.lt h.ok hn).mono fun _ _ q=>q.x h
end
section
open Go Go.RowKit Go.ChangeMaps
section
variable {w:World}
theorem operator_X(rb:Nat)(f:Nat):Calls Tryz.prog 281 #[rp rb,mth f rb] w fun e w'=>∃x y,e=.returned (opR x y)/\w.heap.size<=x/\w.heap.size<=y/\Bx w' x #[rp rb]/\Bx w' y #[mth f rb]/\Below w.heap.size w w':=by
 have hmf:∀(fn:Fn)(first cap:Array Value)(w:World),(Instr.makeFunc fn first cap).run Tryz.prog w=.ok (.func fn first cap) w:=fun _ _ _ _=>rfl
 go_enter Tryz.func281,Tryz.ntmps281
 go_wp2_with fail
 go_ret
 refine⟨w.heap.size,w.heap.size+1,rfl,br _,Nat.le_succ _,(Bx.new w #[rp rb] _).alloc _,?_,(bw _).alloc (by simp) _⟩
 have:=Bx.new (w.alloc (.cells #[rp rb] 125)) #[mth f rb] 465
 simpa using this
theorem declRules_X(rb:Nat):Calls Tryz.prog 181 #[rp rb] w fun e w'=>∃b,e=.returned (.map (some b))/\w.heap.size<=b/\MS Value.string w' b (declL rb)/\Below w.heap.size w w':=by
 have H:=ai (Ma.new (w:=w))
 have HB:=ai ((Below.refl w.heap.size w).alloc (br _) (.map #[] 0))
 have hmf:∀(fn:Fn)(first cap:Array Value)(w:World),(Instr.makeFunc fn first cap).run Tryz.prog w=.ok (.func fn first cap) w:=fun _ _ _ _=>rfl
 have hmm:= @run_makeMap Tryz.prog
 go_enter Tryz.func181,Tryz.ntmps181
 go_wp2_with((refine qbx _ rfl _ _ _ _ (Or.inl rfl) (KL.str Tryz.underlying234) Tryz.underlying239 _ _ rfl (uh H) _ _ rfl rfl trivial (fun _ _=>trivial) ?_;clear H;intro w' H' O';have H:=ai H';have HB:=ai (One.below (uh HB) O' (by exact br _));clear H' O'))
 go_ret
 exact⟨_,rfl,br _,uh H,uh HB⟩
theorem wordedRules_X(rb:Nat):Calls Tryz.prog 182 #[rp rb] w fun e w'=>∃b,e=.returned (.map (some b))/\w.heap.size<=b/\MS Value.string w' b (wordL rb)/\Below w.heap.size w w':=by
 have H:=ai (Ma.new (w:=w))
 have HB:=ai ((Below.refl w.heap.size w).alloc (br _) (.map #[] 0))
 have hmf:∀(fn:Fn)(first cap:Array Value)(w:World),(Instr.makeFunc fn first cap).run Tryz.prog w=.ok (.func fn first cap) w:=fun _ _ _ _=>rfl
 have hmm:= @run_makeMap Tryz.prog
 go_enter Tryz.func182,Tryz.ntmps182
 go_wp2_with((refine qbx _ rfl _ _ _ _ (Or.inl rfl) (KL.str Tryz.underlying234) Tryz.underlying240 _ _ rfl (uh H) _ _ rfl rfl trivial (fun _ _=>trivial) ?_;clear H;intro w' H' O';have H:=ai H';have HB:=ai (One.below (uh HB) O' (by exact br _));clear H' O'))
 go_ret
 exact⟨_,rfl,br _,uh H,uh HB⟩
theorem atomRules_X(rb:Nat):Calls Tryz.prog 183 #[rp rb] w fun e w'=>∃b x,e=.returned (.map (some b))/\w.heap.size<=b/\w.heap.size<=x/\Bx w' x #[rp rb]/\MS Value.string w' b (atomL rb x)/\Below w.heap.size w w':=by
 have H:Hid (MS Value.string ((w.alloc (.cells #[rp rb] 125)).alloc (.map #[] 0)) (w.heap.size+1) []):=ai (by have:=Ma.new (w:=w.alloc (.cells #[rp rb] 125));simpa using this)
 have HB:=ai (((Below.refl w.heap.size w).alloc (br _) (.cells #[rp rb] 125)).alloc (by simp) (.map #[] 0))
 have B0:=ai ((Bx.new w #[rp rb] 125).alloc (.map #[] 0))
 obtain⟨c0,f0,z0⟩:=uh B0
 have hmf:∀(fn:Fn)(first cap:Array Value)(w:World),(Instr.makeFunc fn first cap).run Tryz.prog w=.ok (.func fn first cap) w:=fun _ _ _ _=>rfl
 have hmm:= @run_makeMap Tryz.prog
 go_enter Tryz.func183,Tryz.ntmps183
 go_wp2_with((refine qbx _ rfl _ _ _ _ (Or.inl rfl) (KL.str Tryz.underlying234) Tryz.underlying240 _ _ rfl (uh H) _ _ rfl rfl trivial (fun _ _=>trivial) ?_;clear H;intro w' H' O';have H:=ai H';have HB:=ai (One.below (uh HB) O' (by simp));have B0:=ai ((uh B0).one O' (by simp));obtain⟨c0,f0,z0⟩:=uh B0;clear H' O'))
 go_ret
 exact⟨_,_,rfl,by simp,br _,uh B0,uh H,uh HB⟩
theorem plainRules_X(rb:Nat):Calls Tryz.prog 184 #[rp rb] w fun e w'=>∃b x,e=.returned (.map (some b))/\w.heap.size<=b/\w.heap.size<=x/\Bx w' x #[rp rb]/\MS Value.string w' b (plainL rb x)/\Below w.heap.size w w':=by
 have H:Hid (MS Value.string ((w.alloc (.cells #[rp rb] 125)).alloc (.map #[] 0)) (w.heap.size+1) []):=ai (by have:=Ma.new (w:=w.alloc (.cells #[rp rb] 125));simpa using this)
 have HB:=ai (((Below.refl w.heap.size w).alloc (br _) (.cells #[rp rb] 125)).alloc (by simp) (.map #[] 0))
 have B0:=ai ((Bx.new w #[rp rb] 125).alloc (.map #[] 0))
 obtain⟨c0,f0,z0⟩:=uh B0
 have hmf:∀(fn:Fn)(first cap:Array Value)(w:World),(Instr.makeFunc fn first cap).run Tryz.prog w=.ok (.func fn first cap) w:=fun _ _ _ _=>rfl
 have hmm:= @run_makeMap Tryz.prog
 go_enter Tryz.func184,Tryz.ntmps184
 go_wp2_with((refine qbx _ rfl _ _ _ _ (Or.inl rfl) (KL.str Tryz.underlying234) Tryz.underlying241 _ _ rfl (uh H) _ _ rfl rfl trivial (fun _ _=>trivial) ?_;clear H;intro w' H' O';have H:=ai H';have HB:=ai (One.below (uh HB) O' (by simp));have B0:=ai ((uh B0).one O' (by simp));obtain⟨c0,f0,z0⟩:=uh B0;clear H' O'))
 go_ret
 exact⟨_,_,rfl,by simp,br _,uh B0,uh H,uh HB⟩
theorem qfd(rb:Nat):Calls Tryz.prog 186 #[rp rb] w fun e w'=>∃b x0 y0,e=.returned (.map (some b))/\w.heap.size<=b/\Bx w' x0 #[rp rb]/\Bx w' y0 #[mth 282 rb]/\w.heap.size<=x0/\w.heap.size<=y0/\MS Value.string w' b [(kLess,opR x0 y0)]/\Below w.heap.size w w':=by
 have H:=ai (Ma.new (w:=w))
 have HB:=ai ((Below.refl w.heap.size w).alloc (br _) (.map #[] 0))
 have hmf:∀(fn:Fn)(first cap:Array Value)(w:World),(Instr.makeFunc fn first cap).run Tryz.prog w=.ok (.func fn first cap) w:=fun _ _ _ _=>rfl
 have hmm:= @run_makeMap Tryz.prog
 go_enter Tryz.func186,Tryz.ntmps186
 go_wp2_with fail
 refine(operator_X rb 282).mono ?_
 intro e w1 hp
 obtain⟨x0,y0,rfl,hlx,hly,hx,hy,hb⟩:=hp
 have lx0:=Nat.lt_of_lt_of_le (uh H).lt hlx
 have ly0:=Nat.lt_of_lt_of_le (uh H).lt hly
 have X0:=ai hx
 have Y0:=ai hy
 have H:=ai ((uh H).below hb)
 have HB:=ai ((uh HB).trans (hb.mono (uh HB).size))
 clear hb hx hy hlx hly
 go_wp2_with(refine qbx _ rfl _ _ _ _ (Or.inl rfl) (KL.str Tryz.underlying234) Tryz.underlying243 _ _ rfl (uh H) _ _ rfl rfl trivial (fun _ _=>trivial) ?_;clear H;intro w' H' O';have H:=ai H';have HB:=ai (One.below (uh HB) O' (by exact br _));have X0:=ai ((uh X0).one O' (Nat.ne_of_gt lx0));have Y0:=ai ((uh Y0).one O' (Nat.ne_of_gt ly0));clear H' O')
 go_ret
 exact⟨_,_,_,rfl,br _,uh X0,uh Y0,Nat.le_of_lt lx0,Nat.le_of_lt ly0,uh H,uh HB⟩
theorem sumRules_X(rb:Nat):Calls Tryz.prog 187 #[rp rb] w fun e w'=>∃b x0 y0 x1 y1,e=.returned (.map (some b))/\w.heap.size<=b/\Bx w' x0 #[rp rb]/\Bx w' y0 #[mth 283 rb]/\w.heap.size<=x0/\w.heap.size<=y0/\Bx w' x1 #[rp rb]/\Bx w' y1 #[mth 283 rb]/\w.heap.size<=x1/\w.heap.size<=y1/\MS Value.string w' b [(kPlus,opR x0 y0),(kMinus,opR x1 y1)]/\Below w.heap.size w w':=by
 have H:=ai (Ma.new (w:=w))
 have HB:=ai ((Below.refl w.heap.size w).alloc (br _) (.map #[] 0))
 have hmf:∀(fn:Fn)(first cap:Array Value)(w:World),(Instr.makeFunc fn first cap).run Tryz.prog w=.ok (.func fn first cap) w:=fun _ _ _ _=>rfl
 have hmm:= @run_makeMap Tryz.prog
 go_enter Tryz.func187,Tryz.ntmps187
 go_wp2_with fail
 refine(operator_X rb 283).mono ?_
 intro e w1 hp
 obtain⟨x0,y0,rfl,hlx,hly,hx,hy,hb⟩:=hp
 have lx0:=Nat.lt_of_lt_of_le (uh H).lt hlx
 have ly0:=Nat.lt_of_lt_of_le (uh H).lt hly
 have X0:=ai hx
 have Y0:=ai hy
 have H:=ai ((uh H).below hb)
 have HB:=ai ((uh HB).trans (hb.mono (uh HB).size))
 clear hb hx hy hlx hly
 go_wp2_with(refine qbx _ rfl _ _ _ _ (Or.inl rfl) (KL.str Tryz.underlying234) Tryz.underlying243 _ _ rfl (uh H) _ _ rfl rfl trivial (fun _ _=>trivial) ?_;clear H;intro w' H' O';have H:=ai H';have HB:=ai (One.below (uh HB) O' (by exact br _));have X0:=ai ((uh X0).one O' (Nat.ne_of_gt lx0));have Y0:=ai ((uh Y0).one O' (Nat.ne_of_gt ly0));clear H' O')
 refine(operator_X rb 283).mono ?_
 intro e w2 hp
 obtain⟨x1,y1,rfl,hlx,hly,hx,hy,hb⟩:=hp
 have lx1:=Nat.lt_of_lt_of_le (uh H).lt hlx
 have ly1:=Nat.lt_of_lt_of_le (uh H).lt hly
 have X0:=ai ((uh X0).below hb)
 have Y0:=ai ((uh Y0).below hb)
 have X1:=ai hx
 have Y1:=ai hy
 have H:=ai ((uh H).below hb)
 have HB:=ai ((uh HB).trans (hb.mono (uh HB).size))
 clear hb hx hy hlx hly
 go_wp2_with(refine qbx _ rfl _ _ _ _ (Or.inl rfl) (KL.str Tryz.underlying234) Tryz.underlying243 _ _ rfl (uh H) _ _ rfl rfl trivial (fun _ _=>trivial) ?_;clear H;intro w' H' O';have H:=ai H';have HB:=ai (One.below (uh HB) O' (by exact br _));have X0:=ai ((uh X0).one O' (Nat.ne_of_gt lx0));have Y0:=ai ((uh Y0).one O' (Nat.ne_of_gt ly0));have X1:=ai ((uh X1).one O' (Nat.ne_of_gt lx1));have Y1:=ai ((uh Y1).one O' (Nat.ne_of_gt ly1));clear H' O')
 go_ret
 exact⟨_,_,_,_,_,rfl,br _,uh X0,uh Y0,Nat.le_of_lt lx0,Nat.le_of_lt ly0,uh X1,uh Y1,Nat.le_of_lt lx1,Nat.le_of_lt ly1,uh H,uh HB⟩
theorem productRules_X(rb:Nat):Calls Tryz.prog 188 #[rp rb] w fun e w'=>∃b x0 y0,e=.returned (.map (some b))/\w.heap.size<=b/\Bx w' x0 #[rp rb]/\Bx w' y0 #[mth 284 rb]/\w.heap.size<=x0/\w.heap.size<=y0/\MS Value.string w' b [(kStar,opR x0 y0)]/\Below w.heap.size w w':=by
 have H:=ai (Ma.new (w:=w))
 have HB:=ai ((Below.refl w.heap.size w).alloc (br _) (.map #[] 0))
 have hmf:∀(fn:Fn)(first cap:Array Value)(w:World),(Instr.makeFunc fn first cap).run Tryz.prog w=.ok (.func fn first cap) w:=fun _ _ _ _=>rfl
 have hmm:= @run_makeMap Tryz.prog
 go_enter Tryz.func188,Tryz.ntmps188
 go_wp2_with fail
 refine(operator_X rb 284).mono ?_
 intro e w1 hp
 obtain⟨x0,y0,rfl,hlx,hly,hx,hy,hb⟩:=hp
 have lx0:=Nat.lt_of_lt_of_le (uh H).lt hlx
 have ly0:=Nat.lt_of_lt_of_le (uh H).lt hly
 have X0:=ai hx
 have Y0:=ai hy
 have H:=ai ((uh H).below hb)
 have HB:=ai ((uh HB).trans (hb.mono (uh HB).size))
 clear hb hx hy hlx hly
 go_wp2_with(refine qbx _ rfl _ _ _ _ (Or.inl rfl) (KL.str Tryz.underlying234) Tryz.underlying243 _ _ rfl (uh H) _ _ rfl rfl trivial (fun _ _=>trivial) ?_;clear H;intro w' H' O';have H:=ai H';have HB:=ai (One.below (uh HB) O' (by exact br _));have X0:=ai ((uh X0).one O' (Nat.ne_of_gt lx0));have Y0:=ai ((uh Y0).one O' (Nat.ne_of_gt ly0));clear H' O')
 go_ret
 exact⟨_,_,_,rfl,br _,uh X0,uh Y0,Nat.le_of_lt lx0,Nat.le_of_lt ly0,uh H,uh HB⟩
end
end
section
open Go Go.RowKit Go.ChangeMaps
def Hold(w:World)(rb:Nat)(ms:List (Nat×List (BA×Value)))(bs:List (Nat×Array Value)):Prop:=
 (∀p∈ms,p.1≠rb/\MS Value.string w p.1 p.2)/\∀q∈bs,q.1≠rb/\Bx w q.1 q.2
section
variable {w w':World} {rb:Nat} {ms:List (Nat×List (BA×Value))} {bs:List (Nat×Array Value)}
theorem Hold.ke(h:Hold w rb ms bs)(hk:Ke rb w w'):Hold w' rb ms bs:=
 ⟨fun p q=>⟨(h.1 p q).1,(h.1 p q).2.same (hk.block _ (h.1 p q).2.lt (h.1 p q).1)⟩,fun p q=>⟨(h.2 p q).1,(h.2 p q).2.ke hk (h.2 p q).1⟩⟩
theorem Hold.m(h:Hold w rb ms bs){b:Nat}{L:List (BA×Value)}(hn:rb<b)(hm:MS Value.string w b L):Hold w rb ((b,L)::ms) bs:=
 ⟨fun p q=>by rcases List.mem_cons.1 q with rfl|q;exact⟨Nat.ne_of_gt hn,hm⟩;exact h.1 p q,h.2⟩
theorem Hold.b(h:Hold w rb ms bs){b:Nat}{C:Array Value}(hn:rb<b)(hm:Bx w b C):Hold w rb ms ((b,C)::bs):=
 ⟨h.1,fun p q=>by rcases List.mem_cons.1 q with rfl|q;exact⟨Nat.ne_of_gt hn,hm⟩;exact h.2 p q⟩
theorem Hold.map(h:Hold w rb ms bs){b:Nat}{L:List (BA×Value)}(hm:(b,L)∈ms):MapAt w w.heap.size rb (.map (some b)) L:=⟨b,rfl,(h.1 _ hm).2.lt,(h.1 _ hm).1,(h.1 _ hm).2⟩
theorem Hold.box(h:Hold w rb ms bs){b:Nat}{C:Array Value}(hm:(b,C)∈bs):BoxAt w w.heap.size rb b C:=⟨(h.2 _ hm).2.z,(h.2 _ hm).1,(h.2 _ hm).2⟩
end
def NewX(s:BA)(w:World)(e:Ending)(w':World):Prop:=
 Below w.heap.size w w'/\(((qar s 0).kind≠6/\e=.returned (rp w.heap.size)/\∃N sb m,Bx w' w.heap.size (rdC s (qar s 0) 0 m sb)/\Env w' N w.heap.size sb m)\/((qar s 0).kind=6/\e=qd3 (flOf (qar s 0))))
section
variable {w:World}
theorem smallRules_X(rb:Nat):Calls Tryz.prog 185 #[rp rb] w fun e w'=>∃b,e=.returned (.map (some b))/\w.heap.size<=b/\MS Value.string w' b (smL rb)/\Below w.heap.size w w':=smallRules_C' _
theorem newReader_X(h:Laid w)(s:BA)(hs:s.size<=1000):Calls Tryz.prog 107 #[.string s] w (NewX s w):=by
 have B:=ai (Bx.new w (zRd s) 245)
 have HB:=ai ((Below.refl w.heap.size w).alloc (br _) (.cells (zRd s) 245))
 have HL:=ai h
 clear h
 have HH:Hid (Hold (w.alloc (.cells (zRd s) 245)) w.heap.size [] []):=ai ⟨fun p q=>absurd q (by simp),fun p q=>absurd q (by simp)⟩
 obtain⟨c,f,z⟩:=uh B
 have E:∀W,Laid W->Calls Tryz.prog 189 #[.string s,.int .i64 0] W (TokPost (qar s 0) W):=fun W hW=>behind_C hW s 0 (Nat.zero_le _) hs
 have hne:∀W:World,Below w.heap.size w W->Laid W:=fun W h=>(uh HL).bel h
 have hz:=(uh HL).hz
 unfold NewX
 generalize qar s 0=T at E⊢
 by_cases hk:T.kind=6
 .go_enter Tryz.func107,Tryz.ntmps107
  go_wp2_with fail
  have zb0:=(uh B).z
  refine(declRules_X w.heap.size).mono ?_
  intro e w1 hp
  obtain⟨b0,rfl,le0,hM,hb⟩:=hp
  have HH:=ai (((uh HH).ke (Ke.of hb)).m (Nat.lt_of_lt_of_le zb0 le0) hM)
  have HB:=ai ((uh HB).trans (hb.mono (uh HB).size))
  have B:=ai ((uh B).below hb)
  clear hb hM c f z zb0 le0
  obtain⟨c,f,z⟩:=uh B
  go_wp2_with fail
  have B:=ai ((uh B).setS' 6 (.map (some b0)) (#[.string s,.int .i64 0,.int .i64 0,.string ⟨#[]⟩,.string ⟨#[]⟩,.int .i64 0,.map (some b0),.map none,.map none,.map none,.map none,.map none,.map none,.map none]) rfl (by simp))
  have HB:=ai ((uh HB).setCell (p:=⟨w.heap.size,6,none⟩) (br _) (.map (some b0)))
  have HH:=ai ((uh HH).ke (Ke.set1 _ _ 6 (.map (some b0))))
  have zb1:=(uh B).z
  refine(wordedRules_X w.heap.size).mono ?_
  intro e w1 hp
  obtain⟨b1,rfl,le1,hM,hb⟩:=hp
  have HH:=ai (((uh HH).ke (Ke.of hb)).m (Nat.lt_of_lt_of_le zb1 le1) hM)
  have HB:=ai ((uh HB).trans (hb.mono (uh HB).size))
  have B:=ai ((uh B).below hb)
  clear hb hM c f z zb1 le1
  obtain⟨c,f,z⟩:=uh B
  go_wp2_with fail
  have B:=ai ((uh B).setS' 7 (.map (some b1)) (#[.string s,.int .i64 0,.int .i64 0,.string ⟨#[]⟩,.string ⟨#[]⟩,.int .i64 0,.map (some b0),.map (some b1),.map none,.map none,.map none,.map none,.map none,.map none]) rfl (by simp))
  have HB:=ai ((uh HB).setCell (p:=⟨w.heap.size,7,none⟩) (br _) (.map (some b1)))
  have HH:=ai ((uh HH).ke (Ke.set1 _ _ 7 (.map (some b1))))
  have zb2:=(uh B).z
  refine(atomRules_X w.heap.size).mono ?_
  intro e w1 hp
  obtain⟨b2,x2,rfl,le2,lx2,hx,hM,hb⟩:=hp
  have HH:=ai ((((uh HH).ke (Ke.of hb)).m (Nat.lt_of_lt_of_le zb2 le2) hM).b (Nat.lt_of_lt_of_le zb2 lx2) hx)
  have HB:=ai ((uh HB).trans (hb.mono (uh HB).size))
  have B:=ai ((uh B).below hb)
  clear hb hM c f z zb2 le2 hx lx2
  obtain⟨c,f,z⟩:=uh B
  go_wp2_with fail
  have B:=ai ((uh B).setS' 8 (.map (some b2)) (#[.string s,.int .i64 0,.int .i64 0,.string ⟨#[]⟩,.string ⟨#[]⟩,.int .i64 0,.map (some b0),.map (some b1),.map (some b2),.map none,.map none,.map none,.map none,.map none]) rfl (by simp))
  have HB:=ai ((uh HB).setCell (p:=⟨w.heap.size,8,none⟩) (br _) (.map (some b2)))
  have HH:=ai ((uh HH).ke (Ke.set1 _ _ 8 (.map (some b2))))
  have zb3:=(uh B).z
  refine(plainRules_X w.heap.size).mono ?_
  intro e w1 hp
  obtain⟨b3,x3,rfl,le3,lx3,hx,hM,hb⟩:=hp
  have HH:=ai ((((uh HH).ke (Ke.of hb)).m (Nat.lt_of_lt_of_le zb3 le3) hM).b (Nat.lt_of_lt_of_le zb3 lx3) hx)
  have HB:=ai ((uh HB).trans (hb.mono (uh HB).size))
  have B:=ai ((uh B).below hb)
  clear hb hM c f z zb3 le3 hx lx3
  obtain⟨c,f,z⟩:=uh B
  go_wp2_with fail
  have B:=ai ((uh B).setS' 9 (.map (some b3)) (#[.string s,.int .i64 0,.int .i64 0,.string ⟨#[]⟩,.string ⟨#[]⟩,.int .i64 0,.map (some b0),.map (some b1),.map (some b2),.map (some b3),.map none,.map none,.map none,.map none]) rfl (by simp))
  have HB:=ai ((uh HB).setCell (p:=⟨w.heap.size,9,none⟩) (br _) (.map (some b3)))
  have HH:=ai ((uh HH).ke (Ke.set1 _ _ 9 (.map (some b3))))
  have zb4:=(uh B).z
  refine(smallRules_X w.heap.size).mono ?_
  intro e w1 hp
  obtain⟨b4,rfl,le4,hM,hb⟩:=hp
  have HH:=ai (((uh HH).ke (Ke.of hb)).m (Nat.lt_of_lt_of_le zb4 le4) hM)
  have HB:=ai ((uh HB).trans (hb.mono (uh HB).size))
  have B:=ai ((uh B).below hb)
  clear hb hM c f z zb4 le4
  obtain⟨c,f,z⟩:=uh B
  go_wp2_with fail
  have B:=ai ((uh B).setS' 10 (.map (some b4)) (#[.string s,.int .i64 0,.int .i64 0,.string ⟨#[]⟩,.string ⟨#[]⟩,.int .i64 0,.map (some b0),.map (some b1),.map (some b2),.map (some b3),.map (some b4),.map none,.map none,.map none]) rfl (by simp))
  have HB:=ai ((uh HB).setCell (p:=⟨w.heap.size,10,none⟩) (br _) (.map (some b4)))
  have HH:=ai ((uh HH).ke (Ke.set1 _ _ 10 (.map (some b4))))
  have zb5:=(uh B).z
  refine(qfd w.heap.size).mono ?_
  intro e w1 hp
  obtain⟨b5,x5,y5,rfl,le5,hx,hy,lx,ly,hM,hb⟩:=hp
  have HH:=ai (((((uh HH).ke (Ke.of hb)).m (Nat.lt_of_lt_of_le zb5 le5) hM).b (Nat.lt_of_lt_of_le zb5 lx) hx).b (Nat.lt_of_lt_of_le zb5 ly) hy)
  have HB:=ai ((uh HB).trans (hb.mono (uh HB).size))
  have B:=ai ((uh B).below hb)
  clear hb hM c f z zb5 le5 hx hy lx ly
  obtain⟨c,f,z⟩:=uh B
  go_wp2_with fail
  have B:=ai ((uh B).setS' 11 (.map (some b5)) (#[.string s,.int .i64 0,.int .i64 0,.string ⟨#[]⟩,.string ⟨#[]⟩,.int .i64 0,.map (some b0),.map (some b1),.map (some b2),.map (some b3),.map (some b4),.map (some b5),.map none,.map none]) rfl (by simp))
  have HB:=ai ((uh HB).setCell (p:=⟨w.heap.size,11,none⟩) (br _) (.map (some b5)))
  have HH:=ai ((uh HH).ke (Ke.set1 _ _ 11 (.map (some b5))))
  have zb6:=(uh B).z
  refine(sumRules_X w.heap.size).mono ?_
  intro e w1 hp
  obtain⟨b6,x6,y6,u6,v6,rfl,le6,hx,hy,lx,ly,hu,hv,lu,lv,hM,hb⟩:=hp
  have HH:=ai (((((((uh HH).ke (Ke.of hb)).m (Nat.lt_of_lt_of_le zb6 le6) hM).b (Nat.lt_of_lt_of_le zb6 lx) hx).b (Nat.lt_of_lt_of_le zb6 ly) hy).b (Nat.lt_of_lt_of_le zb6 lu) hu).b (Nat.lt_of_lt_of_le zb6 lv) hv)
  have HB:=ai ((uh HB).trans (hb.mono (uh HB).size))
  have B:=ai ((uh B).below hb)
  clear hb hM c f z zb6 le6 hx hy lx ly hu hv lu lv
  obtain⟨c,f,z⟩:=uh B
  go_wp2_with fail
  have B:=ai ((uh B).setS' 12 (.map (some b6)) (#[.string s,.int .i64 0,.int .i64 0,.string ⟨#[]⟩,.string ⟨#[]⟩,.int .i64 0,.map (some b0),.map (some b1),.map (some b2),.map (some b3),.map (some b4),.map (some b5),.map (some b6),.map none]) rfl (by simp))
  have HB:=ai ((uh HB).setCell (p:=⟨w.heap.size,12,none⟩) (br _) (.map (some b6)))
  have HH:=ai ((uh HH).ke (Ke.set1 _ _ 12 (.map (some b6))))
  have zb7:=(uh B).z
  refine(productRules_X w.heap.size).mono ?_
  intro e w1 hp
  obtain⟨b7,x7,y7,rfl,le7,hx,hy,lx,ly,hM,hb⟩:=hp
  have HH:=ai (((((uh HH).ke (Ke.of hb)).m (Nat.lt_of_lt_of_le zb7 le7) hM).b (Nat.lt_of_lt_of_le zb7 lx) hx).b (Nat.lt_of_lt_of_le zb7 ly) hy)
  have HB:=ai ((uh HB).trans (hb.mono (uh HB).size))
  have B:=ai ((uh B).below hb)
  clear hb hM c f z zb7 le7 hx hy lx ly
  obtain⟨c,f,z⟩:=uh B
  go_wp2_with fail
  have B:=ai ((uh B).setS' 13 (.map (some b7)) (#[.string s,.int .i64 0,.int .i64 0,.string ⟨#[]⟩,.string ⟨#[]⟩,.int .i64 0,.map (some b0),.map (some b1),.map (some b2),.map (some b3),.map (some b4),.map (some b5),.map (some b6),.map (some b7)]) rfl (by simp))
  have HB:=ai ((uh HB).setCell (p:=⟨w.heap.size,13,none⟩) (br _) (.map (some b7)))
  have HH:=ai ((uh HH).ke (Ke.set1 _ _ 13 (.map (some b7))))
  refine(E _ (hne _ (uh HB))).mono ?_
  intro e w9 hp
  obtain⟨rfl,hb⟩:=hp.bad hk
  have HB:=ai ((uh HB).trans (hb.mono (uh HB).size))
  clear hb
  exact⟨rfl,uh HB,Or.inr ⟨hk,by rw[guBad T hk];rfl⟩⟩
 .go_enter Tryz.func107,Tryz.ntmps107
  go_wp2_with fail
  have zb0:=(uh B).z
  refine(declRules_X w.heap.size).mono ?_
  intro e w1 hp
  obtain⟨b0,rfl,le0,hM,hb⟩:=hp
  have HH:=ai (((uh HH).ke (Ke.of hb)).m (Nat.lt_of_lt_of_le zb0 le0) hM)
  have HB:=ai ((uh HB).trans (hb.mono (uh HB).size))
  have B:=ai ((uh B).below hb)
  clear hb hM c f z zb0 le0
  obtain⟨c,f,z⟩:=uh B
  go_wp2_with fail
  have B:=ai ((uh B).setS' 6 (.map (some b0)) (#[.string s,.int .i64 0,.int .i64 0,.string ⟨#[]⟩,.string ⟨#[]⟩,.int .i64 0,.map (some b0),.map none,.map none,.map none,.map none,.map none,.map none,.map none]) rfl (by simp))
  have HB:=ai ((uh HB).setCell (p:=⟨w.heap.size,6,none⟩) (br _) (.map (some b0)))
  have HH:=ai ((uh HH).ke (Ke.set1 _ _ 6 (.map (some b0))))
  have zb1:=(uh B).z
  refine(wordedRules_X w.heap.size).mono ?_
  intro e w1 hp
  obtain⟨b1,rfl,le1,hM,hb⟩:=hp
  have HH:=ai (((uh HH).ke (Ke.of hb)).m (Nat.lt_of_lt_of_le zb1 le1) hM)
  have HB:=ai ((uh HB).trans (hb.mono (uh HB).size))
  have B:=ai ((uh B).below hb)
  clear hb hM c f z zb1 le1
  obtain⟨c,f,z⟩:=uh B
  go_wp2_with fail
  have B:=ai ((uh B).setS' 7 (.map (some b1)) (#[.string s,.int .i64 0,.int .i64 0,.string ⟨#[]⟩,.string ⟨#[]⟩,.int .i64 0,.map (some b0),.map (some b1),.map none,.map none,.map none,.map none,.map none,.map none]) rfl (by simp))
  have HB:=ai ((uh HB).setCell (p:=⟨w.heap.size,7,none⟩) (br _) (.map (some b1)))
  have HH:=ai ((uh HH).ke (Ke.set1 _ _ 7 (.map (some b1))))
  have zb2:=(uh B).z
  refine(atomRules_X w.heap.size).mono ?_
  intro e w1 hp
  obtain⟨b2,x2,rfl,le2,lx2,hx,hM,hb⟩:=hp
  have HH:=ai ((((uh HH).ke (Ke.of hb)).m (Nat.lt_of_lt_of_le zb2 le2) hM).b (Nat.lt_of_lt_of_le zb2 lx2) hx)
  have HB:=ai ((uh HB).trans (hb.mono (uh HB).size))
  have B:=ai ((uh B).below hb)
  clear hb hM c f z zb2 le2 hx lx2
  obtain⟨c,f,z⟩:=uh B
  go_wp2_with fail
  have B:=ai ((uh B).setS' 8 (.map (some b2)) (#[.string s,.int .i64 0,.int .i64 0,.string ⟨#[]⟩,.string ⟨#[]⟩,.int .i64 0,.map (some b0),.map (some b1),.map (some b2),.map none,.map none,.map none,.map none,.map none]) rfl (by simp))
  have HB:=ai ((uh HB).setCell (p:=⟨w.heap.size,8,none⟩) (br _) (.map (some b2)))
  have HH:=ai ((uh HH).ke (Ke.set1 _ _ 8 (.map (some b2))))
  have zb3:=(uh B).z
  refine(plainRules_X w.heap.size).mono ?_
  intro e w1 hp
  obtain⟨b3,x3,rfl,le3,lx3,hx,hM,hb⟩:=hp
  have HH:=ai ((((uh HH).ke (Ke.of hb)).m (Nat.lt_of_lt_of_le zb3 le3) hM).b (Nat.lt_of_lt_of_le zb3 lx3) hx)
  have HB:=ai ((uh HB).trans (hb.mono (uh HB).size))
  have B:=ai ((uh B).below hb)
  clear hb hM c f z zb3 le3 hx lx3
  obtain⟨c,f,z⟩:=uh B
  go_wp2_with fail
  have B:=ai ((uh B).setS' 9 (.map (some b3)) (#[.string s,.int .i64 0,.int .i64 0,.string ⟨#[]⟩,.string ⟨#[]⟩,.int .i64 0,.map (some b0),.map (some b1),.map (some b2),.map (some b3),.map none,.map none,.map none,.map none]) rfl (by simp))
  have HB:=ai ((uh HB).setCell (p:=⟨w.heap.size,9,none⟩) (br _) (.map (some b3)))
  have HH:=ai ((uh HH).ke (Ke.set1 _ _ 9 (.map (some b3))))
  have zb4:=(uh B).z
  refine(smallRules_X w.heap.size).mono ?_
  intro e w1 hp
  obtain⟨b4,rfl,le4,hM,hb⟩:=hp
  have HH:=ai (((uh HH).ke (Ke.of hb)).m (Nat.lt_of_lt_of_le zb4 le4) hM)
  have HB:=ai ((uh HB).trans (hb.mono (uh HB).size))
  have B:=ai ((uh B).below hb)
  clear hb hM c f z zb4 le4
  obtain⟨c,f,z⟩:=uh B
  go_wp2_with fail
  have B:=ai ((uh B).setS' 10 (.map (some b4)) (#[.string s,.int .i64 0,.int .i64 0,.string ⟨#[]⟩,.string ⟨#[]⟩,.int .i64 0,.map (some b0),.map (some b1),.map (some b2),.map (some b3),.map (some b4),.map none,.map none,.map none]) rfl (by simp))
  have HB:=ai ((uh HB).setCell (p:=⟨w.heap.size,10,none⟩) (br _) (.map (some b4)))
  have HH:=ai ((uh HH).ke (Ke.set1 _ _ 10 (.map (some b4))))
  have zb5:=(uh B).z
  refine(qfd w.heap.size).mono ?_
  intro e w1 hp
  obtain⟨b5,x5,y5,rfl,le5,hx,hy,lx,ly,hM,hb⟩:=hp
  have HH:=ai (((((uh HH).ke (Ke.of hb)).m (Nat.lt_of_lt_of_le zb5 le5) hM).b (Nat.lt_of_lt_of_le zb5 lx) hx).b (Nat.lt_of_lt_of_le zb5 ly) hy)
  have HB:=ai ((uh HB).trans (hb.mono (uh HB).size))
  have B:=ai ((uh B).below hb)
  clear hb hM c f z zb5 le5 hx hy lx ly
  obtain⟨c,f,z⟩:=uh B
  go_wp2_with fail
  have B:=ai ((uh B).setS' 11 (.map (some b5)) (#[.string s,.int .i64 0,.int .i64 0,.string ⟨#[]⟩,.string ⟨#[]⟩,.int .i64 0,.map (some b0),.map (some b1),.map (some b2),.map (some b3),.map (some b4),.map (some b5),.map none,.map none]) rfl (by simp))
  have HB:=ai ((uh HB).setCell (p:=⟨w.heap.size,11,none⟩) (br _) (.map (some b5)))
  have HH:=ai ((uh HH).ke (Ke.set1 _ _ 11 (.map (some b5))))
  have zb6:=(uh B).z
  refine(sumRules_X w.heap.size).mono ?_
  intro e w1 hp
  obtain⟨b6,x6,y6,u6,v6,rfl,le6,hx,hy,lx,ly,hu,hv,lu,lv,hM,hb⟩:=hp
  have HH:=ai (((((((uh HH).ke (Ke.of hb)).m (Nat.lt_of_lt_of_le zb6 le6) hM).b (Nat.lt_of_lt_of_le zb6 lx) hx).b (Nat.lt_of_lt_of_le zb6 ly) hy).b (Nat.lt_of_lt_of_le zb6 lu) hu).b (Nat.lt_of_lt_of_le zb6 lv) hv)
  have HB:=ai ((uh HB).trans (hb.mono (uh HB).size))
  have B:=ai ((uh B).below hb)
  clear hb hM c f z zb6 le6 hx hy lx ly hu hv lu lv
  obtain⟨c,f,z⟩:=uh B
  go_wp2_with fail
  have B:=ai ((uh B).setS' 12 (.map (some b6)) (#[.string s,.int .i64 0,.int .i64 0,.string ⟨#[]⟩,.string ⟨#[]⟩,.int .i64 0,.map (some b0),.map (some b1),.map (some b2),.map (some b3),.map (some b4),.map (some b5),.map (some b6),.map none]) rfl (by simp))
  have HB:=ai ((uh HB).setCell (p:=⟨w.heap.size,12,none⟩) (br _) (.map (some b6)))
  have HH:=ai ((uh HH).ke (Ke.set1 _ _ 12 (.map (some b6))))
  have zb7:=(uh B).z
  refine(productRules_X w.heap.size).mono ?_
  intro e w1 hp
  obtain⟨b7,x7,y7,rfl,le7,hx,hy,lx,ly,hM,hb⟩:=hp
  have HH:=ai (((((uh HH).ke (Ke.of hb)).m (Nat.lt_of_lt_of_le zb7 le7) hM).b (Nat.lt_of_lt_of_le zb7 lx) hx).b (Nat.lt_of_lt_of_le zb7 ly) hy)
  have HB:=ai ((uh HB).trans (hb.mono (uh HB).size))
  have B:=ai ((uh B).below hb)
  clear hb hM c f z zb7 le7 hx hy lx ly
  obtain⟨c,f,z⟩:=uh B
  go_wp2_with fail
  have B:=ai ((uh B).setS' 13 (.map (some b7)) (#[.string s,.int .i64 0,.int .i64 0,.string ⟨#[]⟩,.string ⟨#[]⟩,.int .i64 0,.map (some b0),.map (some b1),.map (some b2),.map (some b3),.map (some b4),.map (some b5),.map (some b6),.map (some b7)]) rfl (by simp))
  have HB:=ai ((uh HB).setCell (p:=⟨w.heap.size,13,none⟩) (br _) (.map (some b7)))
  have HH:=ai ((uh HH).ke (Ke.set1 _ _ 13 (.map (some b7))))
  refine(E _ (hne _ (uh HB))).mono ?_
  intro e w9 hp
  obtain⟨rfl,hb⟩:=hp.ok hk
  have HB:=ai ((uh HB).trans (hb.mono (uh HB).size))
  have B:=ai ((uh B).below hb)
  have HH:=ai ((uh HH).ke (Ke.of hb))
  clear hb c f z
  obtain⟨c,f,z⟩:=uh B
  go_wp2_with fail
  go_ret
  have HB2:=((((uh HB).setCell (p:=⟨w.heap.size,1,none⟩) (br _) (.int .i64 (T.frm:Int))).setCell (p:=⟨w.heap.size,2,none⟩) (br _) (.int .i64 (T.to:Int))).setCell (p:=⟨w.heap.size,3,none⟩) (br _) (.string (qaj T))).setCell (p:=⟨w.heap.size,4,none⟩) (br _) (.string T.text)
  have HH2:=(((((uh HH).ke (Ke.set1 _ _ 1 (.int .i64 (T.frm:Int)))).ke (Ke.set1 _ _ 2 (.int .i64 (T.to:Int)))).ke (Ke.set1 _ _ 3 (.string (qaj T)))).ke (Ke.set1 _ _ 4 (.string T.text)))
  have B2:=(uh B).set4at (.int .i64 (T.frm:Int)) (.int .i64 (T.to:Int)) (.string (qaj T)) (.string T.text)
  generalize(((w9.setCell ⟨w.heap.size,1,none⟩ (.int .i64 (T.frm:Int))).setCell ⟨w.heap.size,2,none⟩ (.int .i64 (T.to:Int))).setCell ⟨w.heap.size,3,none⟩ (.string (qaj T))).setCell ⟨w.heap.size,4,none⟩ (.string T.text)=W at HB2 HH2 B2⊢
  have sm4:=HH2.map (b:=b4) (L:=smL w.heap.size) (List.Mem.tail _ (List.Mem.tail _ (List.Mem.tail _ (List.Mem.head _))))
  obtain⟨_,q1,q2,q3,q4⟩:=sm4
  cases q1
  refine⟨HB2,Or.inl ⟨hk,rfl,W.heap.size,b4,⟨.map (some b0),.map (some b1),.map (some b2),.map (some b3),.map (some b5),.map (some b6),.map (some b7)⟩,B2,q4,hne _ HB2,hz,B2.z,q2,q3,br _,?_⟩⟩
  exact⟨HH2.map (List.Mem.tail _ (List.Mem.tail _ (List.Mem.tail _ (List.Mem.tail _ (List.Mem.tail _ (List.Mem.tail _ (List.Mem.tail _ (List.Mem.head _)))))))),HH2.map (List.Mem.tail _ (List.Mem.tail _ (List.Mem.tail _ (List.Mem.tail _ (List.Mem.tail _ (List.Mem.tail _ (List.Mem.head _))))))),⟨x2,HH2.box (List.Mem.tail _ (List.Mem.tail _ (List.Mem.tail _ (List.Mem.tail _ (List.Mem.tail _ (List.Mem.tail _ (List.Mem.tail _ (List.Mem.tail _ (List.Mem.tail _ (List.Mem.head _)))))))))),HH2.map (List.Mem.tail _ (List.Mem.tail _ (List.Mem.tail _ (List.Mem.tail _ (List.Mem.tail _ (List.Mem.head _))))))⟩,⟨x3,HH2.box (List.Mem.tail _ (List.Mem.tail _ (List.Mem.tail _ (List.Mem.tail _ (List.Mem.tail _ (List.Mem.tail _ (List.Mem.tail _ (List.Mem.tail _ (List.Mem.head _))))))))),HH2.map (List.Mem.tail _ (List.Mem.tail _ (List.Mem.tail _ (List.Mem.tail _ (List.Mem.head _)))))⟩,⟨x5,y5,HH2.box (List.Mem.tail _ (List.Mem.tail _ (List.Mem.tail _ (List.Mem.tail _ (List.Mem.tail _ (List.Mem.tail _ (List.Mem.tail _ (List.Mem.head _)))))))),HH2.box (List.Mem.tail _ (List.Mem.tail _ (List.Mem.tail _ (List.Mem.tail _ (List.Mem.tail _ (List.Mem.tail _ (List.Mem.head _))))))),HH2.map (List.Mem.tail _ (List.Mem.tail _ (List.Mem.head _)))⟩,⟨x6,y6,u6,v6,HH2.box (List.Mem.tail _ (List.Mem.tail _ (List.Mem.tail _ (List.Mem.tail _ (List.Mem.tail _ (List.Mem.head _)))))),HH2.box (List.Mem.tail _ (List.Mem.tail _ (List.Mem.tail _ (List.Mem.tail _ (List.Mem.head _))))),HH2.box (List.Mem.tail _ (List.Mem.tail _ (List.Mem.tail _ (List.Mem.head _)))),HH2.box (List.Mem.tail _ (List.Mem.tail _ (List.Mem.head _))),HH2.map (List.Mem.tail _ (List.Mem.head _))⟩,⟨x7,y7,HH2.box (List.Mem.tail _ (List.Mem.head _)),HH2.box (List.Mem.head _),HH2.map (List.Mem.head _)⟩⟩
end
end
end Go.Proofs.YtoceemjbcgmojaaGreatDoor

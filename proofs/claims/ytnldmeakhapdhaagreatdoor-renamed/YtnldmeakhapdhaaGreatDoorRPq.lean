import Derived.Test.YtnldmeakhapdhaaGreatDoorRCc
import Derived.Test.YtnldmeakhapdhaaGreatDoorRPl
set_option linter.all false
set_option maxRecDepth 100000
set_option maxHeartbeats 8000000
namespace Go.Proofs.YtnldmeakhapdhaaGreatDoor
open In renaming andM->ja,Env->jc,St->jd,inf->jf,dv->jh,MM->ji,cZ->jj,cA->jk,Mks->jl,via->jm,ur->jo,arr->jp,cz->jq,iJ->jt,Rn->ju,xD->jv,bC->jx,kZ->jy,sw->jz,over->j5,jZ->j6,rh->j7,Ft->j8,di->j9,Cr->qe,lY->qf,qM->qg,Kp->qh,mono->qi,mh->qk,du->ql,Cs->qm,tPr->qn,Eh->qp,Ml->qr,i_->qs,qN->qt
open _root_.List renaming take_succ_eq_append_getElem->qu,drop_eq_getElem_cons->qv,getElem_mem->qw,map_cons->qx,drop_length->qy,cons_append->qz,take_of_length_le->q9,getElem_cons_succ->xc,nil_append->xd,mem_map_of_mem->xf,nodup_cons->xg,mem_append->xh,mem_cons->xi,mem_singleton->xj,nodup_nil->xk,drop_zero->xm
open Or renaming inr->xn,inl->xo
open Go.Proofs.Tryz renaming prog->xq,underlying9->xt
open _root_.Nat renaming le_trans->xw,lt_of_lt_of_le->xy,zero_le->zd
open Go.World renaming cell?_of_block->zh
open Go.Instr renaming lookup->zo,mapUpdate->zu,next->zv
open Go.RowKit.Below renaming refl->zx
open Go.Value renaming string->zy,int->z9
open Go.Result renaming andThen->vd
open _root_.Array renaming replicate->vf,getElem?_setIfInBounds->vg,toList_modify->vh
open Go.MapKept renaming run_setObj_map->vo,heap_alloc->vw
open Go Go.RowKit Proofs.Tryz
variable {C:Array Value} {cn st:BA} {lo:BA->Nat} {F ty:BA->Option Nat} {dom Xr:BA->Prop} {e:Ending} {o:Except j8 ((Un.Ty×jc)×jd)} {f':Fl} {g g1 Γ:jc} {mk:jl} {R ρ:ju} {d:qr} {s s0 s1:jd} {tys:List (BA×Nat)} {A:List (Nd×Nd)} {nl ns:List BA} {cs l:List Nat} {L:List Nd} {vs:List Pu.Tok} {B D D1 DD S S1 S2 a b cb aD ah f fb gb gv j k kb iV lb mb n r sc t tb wb:Nat} {P Q Λ:Nat->Prop} {nd x:Nd} {sa:Option Addr} {α:Type} {ta:TypeId} {T U X m y:Un.Ty} {cv tv u v vl vr vx xa:Value} {W w w' w0 w1:World}
section
open Go.ChangeMaps
def Vk{s}{p}(h:(aE s p).kind=7):aE s p=Pu.eY s:=by
 rw[aE]at h⊢;split at h
 .exfalso;revert h;rw[Pu.cX];repeat' split
  all_goals simp[Pu.gV]
 .rename_i hn;rw[if_neg hn]
def aay{s}(hk:k<(Pu.bH s 0).length)(h:(tk (Pu.bH s 0) k).kind=7):(aE s (tk (Pu.bH s 0) k).to).kind≠6:=by
 rw[lB s k hk]at h⊢;rw[Vk h];show(aE s s.size).kind≠6;rw[aE];rw[if_neg (by rw[Pu.mI<|br _];omega)];simp[Pu.eY]
abbrev Ds:BA:=⟨#[116,104,101,32,101,110,100]⟩
def Ke.low{rb B}{a b c}(k:Ke rb b c)(h:Below B a b)(hB:B<=b.heap.size)(hr:B<=rb):Below B a c:=
 ⟨k.os.trans h.os,k.tape.trans h.tape,k.output.trans h.output,xw h.size k.size,λi hi=>(k.block i (xy hi hB) ae).trans<|h.block i hi⟩
def uU(s:BA):∀f i,(Pu.n8 s f i).length<=f+1
 |0,i=>by simp[Pu.n8]|f+1,i=>by
  rw[Pu.n8];split
  .split
   .have:=uU s f<|i+1;omega
   .have:=uU s f (Pu.cX s i).to;simp;omega
  .simp
theorem aaz s i:(Pu.bH s i).length<=s.size-i+1:=uU s _ _
end
section
open Un
structure MK where
 nm:BA
 x:NV
 d:Int
 a:Int
def tyL:List (BA×Nat)->BA->Option Nat
 |[],_=>none|p::l,s=>if p.1=s then some p.2 else tyL l s
section
variable {lv mv:Value} {mks:List MK} {f:Fl}
def jX l s w gk c(wr:World):=∃j:Nat,Hid (gk=l.length-j)/\j<=l.length/\c=Nv j/\Hid (tyL l s=tyL (l.drop j) s)/\wr=w
end
mutual
def Nd.ind{P:Nd->Prop}(H:∀k s n L f t a,(∀x∈L,P x)->P (.mk k s n L f t a)):∀nd,P nd
 |.mk k s n L f t a=>H k s n L f t a<|Nd.ajB H L
def Nd.ajB{P:Nd->Prop}(H:∀k s n L f t a,(∀x∈L,P x)->P (.mk k s n L f t a)):∀L:List Nd,∀x∈L,P x
 |[]=>λx hx=>absurd hx ag|y::l=>λx hx=>by
  obtain h|h:=List.mem_cons.1 hx
  .rw[h];exact Nd.ind H y
  .exact Nd.ajB H l x h
end
def KO(ty:BA->Option Nat)(own:List BA):∀(L M:List Nd)(z:Fl),iP ty own (L++M) z=iP ty own M (iP ty own L z)
 |[],_,_=>by rw[xd];unfold iP;rfl|x::l,M,z=>by
  rw[qz];show iP ty own (l++M) (v_ ty own x z)=iP ty own M (iP ty own l<|v_ ty own x z);exact KO ty own l M _
def Vv ty own(L:List Nd)z j(h:j<L.length):iP ty own (L.take<|j+1) z=v_ ty own L[j] (iP ty own (L.take j) z):=by
 rw[qu h,KO];rfl
def Sm nd:=Ge 0 nd/\nn nd<=1000
def ME.mem{lo:Nat}:∀{L:List Nd},ME lo L->∀x∈L,Ge lo x
 |[],_,x,hx=>by simp at hx|y::l,g,x,hx=>by
  obtain rfl|h:=List.mem_cons.1 hx
  .exact g.1
  .exact ME.mem g.2 x h
def yx:∀{L:List Nd}{x:Nd},x∈L->nn x<=cD L
 |y::l,x,hx=>by
  simp only[cD];obtain rfl|h:=List.mem_cons.1 hx
  .omega
  .have:=yx h;omega
def Sm.part{s:BA}(h:Sm (.mk k s n L f t a)):∀x∈L,Sm x:=λx hx=>by
 obtain⟨h1,h2⟩:=h;refine⟨ME.mem h1.2.2 x hx,?_⟩;simp only[nn]at h2;have:=yx hx;omega
def Sm.len{s:BA}(h:Sm (.mk k s n L f t a)):L.length<=1000/\f<=400/\a<=400/\s.size<=400:=by
 obtain⟨h1,h2⟩:=h;simp only[nn]at h2;have:=pS L;exact⟨ae,h1.2.1⟩
def KP(mk:BA->Option Nat):∀(L M:List Nd)(q:List BA×Fl),dV mk (L++M) q=dV mk M (dV mk L q)
 |[],_,_=>by rw[xd];unfold dV;rfl|x::l,M,q=>by
  rw[qz];show dV mk (l++M) (oo mk x q)=dV mk M (dV mk l<|oo mk x q);exact KP mk l M _
def Vw mk(L:List Nd)q j(h:j<L.length):dV mk (L.take<|j+1) q=oo mk L[j] (dV mk (L.take j) q):=by
 rw[qu h,KP];rfl
section
variable {s:BA} {mk:BA->Option Nat} {l:List BA} {z:Fl}
def ajC{u:Nd}:dA ty mk (.mk 9 s n [u] f t a) l z=dA ty mk u (l++[s]) z:=by
 conv=>lhs;rw[dA]
 rfl
def ag7{u v:Nd}:dA ty mk (.mk 10 s n [u,v] f t a) l z=dA ty mk v (l++[s]) (dA ty mk u l z):=by
 conv=>lhs;rw[dA]
 rfl
def ag8{u v:Nd}:dA ty mk (.mk 11 s n [u,v] f t a) l z=dA ty mk v (l++[s]) (dA ty mk u (l++[s]) z):=by
 conv=>lhs;rw[dA]
 rfl
def ag9{u v:Nd}:dA ty mk (.mk 14 s n [u,v] f t a) l z=v_ ty [] v (dA ty mk u l z):=by
 conv=>lhs;rw[dA]
 rfl
def ag_{u:Nd}:dA ty mk (.mk 13 s n (u::L) f t a) l z=oJ ty mk L l (dA ty mk u l z):=by
 conv=>lhs;rw[dA]
 rfl
def aaG(hk:k≠1/\k≠2/\k≠9/\k≠10/\k≠11/\k≠13/\k≠14):dA ty mk (.mk k s n L f t a) l z=hY ty mk L l z:=by
 conv=>lhs;rw[dA]
 simp[hk]
end
def KR(ty mk:BA->Option Nat)(l:List BA):∀(L M:List Nd)(z:Fl),hY ty mk (L++M) l z=hY ty mk M l (hY ty mk L l z)
 |[],_,_=>by rw[xd];conv=>rhs;arg 5;rw[hY]|x::r,M,z=>by
  rw[qz];have h1:∀N z,hY ty mk (x::N) l z=hY ty mk N l (dA ty mk x l z):=λN z=>by conv=>lhs;rw[hY]
  rw[h1,h1];exact KR ty mk l r M _
def Vx ty mk l(L:List Nd)z j(h:j<L.length):hY ty mk (L.take<|j+1) l z=dA ty mk L[j] l (hY ty mk (L.take j) l z):=by
 rw[qu h,KR]
 conv=>lhs;rw[hY]
 conv=>lhs;rw[hY]
def DB:∀A:List (Nd×Nd),(aP A).length=2*A.length
 |[]=>rfl|p::r=>by have:=DB r;simp[aP,this];omega
def RM:∀(A:List (Nd×Nd))(j:Nat)(h:j<A.length),nn A[j].1+nn A[j].2<=cD (aP A)
 |p::r,0,h=>by simp[aP,cD]<;>omega|p::r,j+1,h=>by
  have:=RM r j Hn;simp only[aP,cD,xc];omega
def Ga:∀(A:List (Nd×Nd))(j:Nat)(h:j<A.length),A[j].1∈aP A/\A[j].2∈aP A
 |p::r,0,h=>by simp[aP]|p::r,j+1,h=>by
  have:=Ga r j Hn;simp only[aP,xc,xi];exact⟨xn<|xn this.1,xn<|xn this.2⟩
def RN ty mk l z(p:Nd×Nd):=dA ty mk p.2 (l++(oo mk p.1 ([],z)).1) (oo mk p.1 ([],z)).2
def OM ty mk l(A:List (Nd×Nd))z:=A.foldl (RN ty mk l) z
def RP(ty mk:BA->Option Nat)(l:List BA):∀(A:List (Nd×Nd))(z:Fl),oJ ty mk (aP A) l z=OM ty mk l A z
 |[],z=>by
  show oJ ty mk [] l z=z
  conv=>lhs;rw[oJ]
 |p::r,z=>by
  have h1:oJ ty mk (aP (p::r)) l z=oJ ty mk (aP r) l (RN ty mk l z p):=by
   show oJ ty mk (p.1::p.2::aP r) l z=_
   conv=>lhs;rw[oJ]
   conv=>lhs;rw[UC]
   rfl
  rw[h1,RP ty mk l r];rfl
def Vy ty mk l(A:List (Nd×Nd))z j(h:j<A.length):OM ty mk l (A.take<|j+1) z=RN ty mk l (OM ty mk l (A.take j) z) A[j]:=by
 rw[OM];rw[qu h,List.foldl_append];rfl
def SB wb(tv cv mv:Value)b:=b=wb\/tv.ownBlock=some b\/cv.ownBlock=some b\/mv.ownBlock=some b
def RQ:∀(a b:List Pu.Tok)(p:List BA)(z:Fl),ET p (a++b) z=ET (p++a.map (·.text)) b (ET p a z)
 |[],b,p,z=>by simp[ET]|v::r,b,p,z=>by
  simp only[qz,ET,qx];rw[RQ r b,List.append_assoc];rfl
def Y7(vs:List Pu.Tok)z i(h:i<vs.length):ET [] (vs.take<|i+1) z=ba (fQ vs[i].text ((vs.map (·.text)).take i)) 4 vs[i].al vs[i].to (ET [] (vs.take i) z):=by
 rw[qu h,RQ];simp only[ET,xd,List.map_take]
end
section
open Go.ChangeMaps
def FM w b(F:BA->Option Nat):=∃L,MS zy w b L/\∀x,a_ x L=(F x).map λ(n:Nat)=>Nv n
section
variable {c:Nat}
def FM.lt(h:FM w b F):b<w.heap.size:=qAr
def FM.same(h:FM w b F)(hb:w'.heap[b]? =w.heap[b]?):FM w' b F:=qAs
def FM.below(h:FM w b F)(hb:Bq w w'):FM w' b F:=h.same<|hb.block b h.lt
def FM.ke(h:FM w b F)(hk:Ke c w w')(hn:b≠c):FM w' b F:=h.same<|hk.block b h.lt hn
def Qd w:(zeroValue 3).run xq w=.ok (Iv 0) w:=qkr
def lkV(c:Bool):Option Nat->Value
 |some n=>if c then .tuple #[Nv n,.bool true]else Nv n|none=>if c then .tuple #[Iv 0,.bool false]else Iv 0
def FM.look(h:FM w b F)x c:(zo 103 (Mv b) (.string x) c).run xq w=.ok (lkV c<|F x) w:=by
 obtain⟨L,h1,h2⟩:=h;rw[h1.look (KL.str xt) Tryz.underlying103 (Qd w) x trivial (λ_ _=>trivial) c,h2 x]
 cases F x<;>rfl
def FM.put{L:List (BA×Value)}(h:∀x,a_ x L=(F x).map λ(n:Nat)=>Nv n)s n:∀x,a_ x (bG s (Nv n) L)=(eM F s n x).map λ(n:Nat)=>Nv n:=by grind[a_,bG,eM,aN]
def VN w x c:(zo 103 (.map none) (.string x) c).run xq w=.ok (lkV c none) w:=by
 rw[zo];simp only[Sem.run_bind,run_underlying Tryz.underlying103,vd];have hf:(Instr.findKey 9 (Sv x) []).run xq w=.ok none w:=(KL.str xt).fin x [] [] w trivial ag rfl
 cases c<;>simp[Qd,vd,(KL.str xt).chk,lkV,hf]
def Hk w v F:=(v=.map none/\F=λ_=>none)\/∃b,v=Mv b/\FM w b F
def Hk.look{v}(h:Hk w v F)x c:(zo 103 v (.string x) c).run xq w=.ok (lkV c<|F x) w:=by
 obtain⟨rfl,rfl⟩|⟨b,rfl,h⟩:=h
 .exact VN w x c
 .exact h.look x c
def am3{p:Prop}(h:p:=by
 rw[hF]at hl;simp only[lkV,if_true]at hl;go_enter func117,ntmps117
 go_wp2
 go_ret
 exact⟨rfl,rfl⟩):p:=h
def SG(h:Hk w v F)s:Cq 117 #[v,.string s] w λe w'=>e=.returned (.bool (F s).isSome)/\w'=w:=by
 have hl:=h.look s true
 cases hF:F s with
 |none=>
  exact am3
 |some n=>
  exact am3
def SH(h:Hk w v F)s n:Cq 148 #[v,.string s,Nv n] w λe w'=>e=.returned (.bool<|F s==some n)/\w'=w:=by
 have hl:=h.look s true
 cases hF:F s with
 |none=>
  rw[hF]at hl;simp only[lkV,if_true]at hl;go_enter func148,ntmps148
  go_wp2
  go_ret;exact⟨rfl,rfl⟩
 |some m=>
  rw[hF]at hl;simp only[lkV,if_true]at hl
  have HE:=ai (show(some m==some n)=((m:Int)==(n:Int)) by
   by_cases e:m=n
   .simp[e]
   .have h1:((m:Int)==(n:Int))=false:=bF
    rw[h1];simp[e])
  rw[uh HE];go_enter func148,ntmps148
  go_wp2
  go_ret;exact⟨rfl,rfl⟩
end
def LM w b(lo:BA->Nat):=∃L,MS zy w b L/\∀x,a_ x L=some (Nv<|lo x)\/(a_ x L=none/\lo x=0)
structure CK w cb tb mb lb ty mk lo(f:Fl):Prop where
 bx:Bx w cb #[Mv tb,Mv mb,Mv lb,Nv f.kind,Nv f.al,Nv f.to]
 t:FM w tb ty
 m:FM w mb mk
 l:LM w lb lo
 ct:cb≠tb
 cm:cb≠mb
 cl:cb≠lb
 tm:tb≠mb
 tl:tb≠lb
 ml:mb≠lb
section
variable {mk:BA->Option Nat} {f:Fl}
def LM.lt{b}(h:LM w b lo):b<w.heap.size:=qAr
def LM.same{b}(h:LM w b lo)(hb:w'.heap[b]? =w.heap[b]?):LM w' b lo:=qAs
def LM.look{b}(h:LM w b lo)x:(zo 103 (Mv b) (.string x) false).run xq w=.ok (Nv<|lo x) w:=by
 obtain⟨L,h1,h2⟩:=h;rw[h1.look (KL.str xt) Tryz.underlying103 (Qd w) x trivial (λ_ _=>trivial) false];obtain q|⟨q,q2⟩:=h2 x
 .rw[q];rfl
 .rw[q,q2];rfl
def LM.put{L:List (BA×Value)}(h:∀x,a_ x L=some (Nv<|lo x)\/(a_ x L=none/\lo x=0))s n:∀x,a_ x (bG s (Nv n) L)=some (.int .i64 ((if x=s then n else lo x:Nat):Int))\/(a_ x (bG s (Nv n) L)=none/\(if x=s then n else lo x)=0):=by grind[a_,bG,aN]
def CK.z(h:CK w cb tb mb lb ty mk lo f):cb<w.heap.size:=h.bx.z
def CK.ke(h:CK w cb tb mb lb ty mk lo f)(k:Ke cb w w')(b:Bx w' cb #[Mv tb,Mv mb,Mv lb,Nv f'.kind,Nv f'.al,Nv f'.to]):CK w' cb tb mb lb ty mk lo f':=
 ⟨b,h.t.ke k<|λe=>h.ct e.symm,h.m.ke k<|λe=>h.cm e.symm,h.l.same<|k.block lb h.l.lt<|λe=>h.cl e.symm,h.ct,h.cm,h.cl,h.tm,h.tl,h.ml⟩
def CK.af(h:CK w cb tb mb lb ty mk lo f)(k:Bq w w'):CK w' cb tb mb lb ty mk lo f:=h.ke (Ke.of k)<|h.bx.below k
def CK.drewN(h:CK w cb tb mb lb ty mk lo f)n:CK (w.drewN n) cb tb mb lb ty mk lo f:=h.af<|(zx _ _).drewN n
abbrev cp b:=Pv b
def am4{p:Prop}(h:p:=by
 go_enter func118,ntmps118
 go_wp2
 go_quiet(fail)
 go_wp2
 go_end0
 exact⟨rfl,(uh<|HY _).1,(uh<|HY _).2⟩):p:=h
def rZ(h:CK w cb tb mb lb ty mk lo f)(k a b:Nat):Calls xq 118 #[cp cb,.int .i64 (k:Int),.agg #[.int .i64 (a:Int),.int .i64 (b:Int)]] w λe w'=>e=.returned (.tuple #[])/\Ke cb w w'/\CK w' cb tb mb lb ty mk lo (tell k a b f):=by
 have hz:=h.z;have⟨cE,HB⟩:=rq w #[.int .i64 (a:Int),.int .i64 (b:Int)] 72;have H:=h.af cE;have HK:=Ke.of (rb:=cb) cE;have yes:∀q,(f.kind=0\/a<f.al)->Hid (Ke cb w ((((((w.alloc<|Cv #[.int .i64 (a:Int),.int .i64 (b:Int)] 72).drewN q).setCell ⟨cb,3,none⟩<|.int .i64 (k:Int)).setCell ⟨cb,4,none⟩<|.int .i64 (a:Int)).setCell ⟨cb,5,none⟩<|.int .i64 (b:Int)))/\CK (((((w.alloc<|Cv #[.int .i64 (a:Int),.int .i64 (b:Int)] 72).drewN q).setCell ⟨cb,3,none⟩<|.int .i64 (k:Int)).setCell ⟨cb,4,none⟩<|.int .i64 (a:Int)).setCell ⟨cb,5,none⟩<|.int .i64 (b:Int)) cb tb mb lb ty mk lo (tell k a b f)):=λq hq=>by
  have H':=H.drewN q;have K':Ke cb ((w.alloc<|Cv #[.int .i64 (a:Int),.int .i64 (b:Int)] 72).drewN q) (((((w.alloc<|Cv #[.int .i64 (a:Int),.int .i64 (b:Int)] 72).drewN q).setCell ⟨cb,3,none⟩<|.int .i64 (k:Int)).setCell ⟨cb,4,none⟩<|.int .i64 (a:Int)).setCell ⟨cb,5,none⟩<|.int .i64 (b:Int)):=(((Ke.refl cb _).set 3 _).set 4 _).set 5 _;refine ai ⟨(HK.trans<|Ke.of<|(zx _ _).drewN q).trans K',?_⟩;rw[tell];rw[if_pos hq];exact H'.ke K'<|((H'.bx.aR 3 (.int .i64 (k:Int)) #[.map<|some tb,.map<|some mb,.map<|some lb,.int .i64 (k:Int),.int .i64 (f.al:Int),.int .i64 (f.to:Int)] rfl ag).aR 4 (.int .i64 (a:Int)) #[.map<|some tb,.map<|some mb,.map<|some lb,.int .i64 (k:Int),.int .i64 (a:Int),.int .i64 (f.to:Int)] rfl ag).aR 5 (.int .i64 (b:Int)) _ rfl ag
 have⟨c,ff,z⟩:=H.bx;obtain⟨c1,f1,z1⟩:=HB;by_cases h0:f.kind=0
 .have h0':((f.kind:Int)==0)=true:=by simp[h0]
  have HY:=λq=>yes q<|xo h0;exact am4
 .have h0':((f.kind:Int)==0)=false:=bF;by_cases h1:a<f.al
  .have h1':(a:Int)<(f.al:Int):=ae;have HY:=λq=>yes q<|xn h1;exact am4
  .have h1':decide ((a:Int)<(f.al:Int))=false:=bF;have e:tell k a b f=f:=by rw[tell];rw[if_neg ae]
   rw[e];go_enter func118,ntmps118
   go_wp2
   go_quiet(fail)
   go_wp2
   go_end0;exact⟨rfl,HK.trans<|Ke.of<|(zx _ _).drewN _,H.drewN _⟩
end
def NU own(F:BA->Option Nat):=∀s:BA,(∃r,s.toList=39::r)->(F<|s.extract 1 s.size).isSome=fQ s own
def Hk.ke{w w'}{v}{F}{cb}(h:Hk w v F)(k:Ke cb w w')(hn:∀b,v=Mv b->b≠cb):Hk w' v F:=by
 obtain h|⟨b,rfl,h⟩:=h
 .exact xo h
 .exact xn ⟨b,rfl,h.ke k<|hn b rfl⟩
def Hk.af(h:Hk w v F)(k:Bq w w'):Hk w' v F:=by
 obtain h|⟨b,rfl,h⟩:=h
 .exact xo h
 .exact xn ⟨b,rfl,h.below k⟩
structure CT cb tb mb lb ty mk lo ov F w0 f wr:Prop where
 d:CK wr cb tb mb lb ty mk lo f
 k:Ke cb w0 wr
 o:Hk wr ov F
 n:∀b,ov=Mv b->b≠cb
section
variable {mk:BA->Option Nat} {ov:Value} {wr:World} {f:Fl} {own:List BA}
def CT.af(h:CT cb tb mb lb ty mk lo ov F w0 f wr)(hb:Bq wr w'):CT cb tb mb lb ty mk lo ov F w0 f w':=⟨h.d.af hb,h.k.fK hb,h.o.af hb,h.n⟩
def CT.ke(h:CT cb tb mb lb ty mk lo ov F w0 f wr)(hk:Ke cb wr w')(d:CK w' cb tb mb lb ty mk lo f'):CT cb tb mb lb ty mk lo ov F w0 f' w':=⟨d,h.k.trans hk,h.o.ke hk h.n,h.n⟩
def PT.keB(h:PT w (·<B) nd v)(k:Ke cb w w')(hB:B<=cb):PT w' (·<B) nd v:=h.ke k λb(p:b<B)=>ae
def PTC nd:=∀(w:World)(cb tb mb lb B:Nat)(ty mk:BA->Option Nat)(lo:BA->Nat)(f:Fl)(v ov:Value)(F:BA->Option Nat)(own:List BA),CK w cb tb mb lb ty mk lo f->B<=cb->PT w (·<B) nd v->Hk w ov F->(∀b,ov=Mv b->b≠cb)->NU own F->Sm nd->
 Cq 119 #[cp cb,v,ov] w λe w'=>e=.returned (.tuple #[])/\Ke cb w w'/\CK w' cb tb mb lb ty mk lo (v_ ty own nd f)
def TSR cb tb mb lb ty mk lo ov F w0 f own(L:List Nd)gk c wr:=∃j:Nat,Hid (gk=L.length-j)/\j<=L.length/\c=Nv j/\CT cb tb mb lb ty mk lo ov F w0 (iP ty own (L.take j) f) wr
def Qm{p:Prop}(h:p:=by
 go_wp2
 go_end0
 exact⟨rfl,XR.k,XR.d⟩):p:=h
def Da{vs:Nat->Value}(IH:∀x∈L,PTC x)(h:CK w cb tb mb lb ty mk lo f)(hB:B<=cb)(aO:L=[]\/∃g,sa=some ⟨g,0,none⟩/\g<B/\g<w.heap.size/\∀i,i<L.length->w.cell? ⟨g,i,none⟩=some (vs i))(hr:∀i(h:i<L.length),PT w (·<B) L[i]<|vs i)(ho:Hk w ov F)(hn:∀b,ov=Mv b->b≠cb)(hO:NU own F)(hS:∀x∈L,Sm x)(hL:L.length<=1000):
 Cq 69 #[cp cb,.slice sa L.length sc,ov] w λe w'=>e=.returned (.tuple #[])/\Ke cb w w'/\CK w' cb tb mb lb ty mk lo (iP ty own L f):=by
 have X0:CT cb tb mb lb ty mk lo ov F w f w:=⟨h,Ke.refl _ _,ho,hn⟩;obtain⟨Z,HZ⟩:∃Z,Hid<|Z=iP ty own L f:=⟨_,ai rfl⟩;rw[<-uh HZ];go_enter func69,ntmps69
 go_wp2
 go_loopg[10] L.length (λgk c wr=>TSR cb tb mb lb ty mk lo ov F w f own L gk c wr)
 case atStart=>exact⟨0,ai rfl,zd _,rfl,X0⟩
 case round=>
  obtain⟨j,dl,hj,rfl,hX⟩:=hrel;have XR:=ai hX;by_cases bA:j<L.length
  .have hd:(j:Int)<(L.length:Int):=ae;obtain⟨g,rfl,Y6,k9,hc⟩:∃g,sa=some ⟨g,0,none⟩/\g<B/\g<w.heap.size/\∀i,i<L.length->w.cell? ⟨g,i,none⟩=some (vs i):=by
    obtain e|e:=aO
    .exact absurd bA UH
    .exact e
   have hcj:=(XR.k.cell k9 ae).trans<|hc j bA;have HC:=IH L[j] (qw bA) _ cb tb mb lb B ty mk lo _ (vs j) ov F own XR.d hB ((hr j bA).keB XR.k hB) XR.o XR.n hO<|hS _<|qw bA;rw[<-Vv _ _ _ _ _ bA]at HC;go_wp2_with fail;refine HC.mono ?_;rintro e w2⟨rfl,k2,d2⟩;have X2:=XR.ke k2 d2
   go_wp2
   go_roundg(L.length-(j+1))
   case measure=>rw[uh dl];omega
   case rel=>exact⟨j+1,ai rfl,ae,jP,X2⟩
  .have hd:decide ((j:Int)<(L.length:Int))=false:=bF;have he:L.take j=L:=q9 ae;rw[he,<-uh HZ]at XR;exact Qm
def aht{ty}{own}{s:BA}{fr:Nat}{z:Fl}:v_ ty own (.mk 16 s n [] fr t a) z=ba (!fQ s own) 4 fr (fr+s.size) z:=by
 rw[v_];rfl
def ajQ{ty}{own}{s:BA}{fr:Nat}{z:Fl}:v_ ty own (.mk 2 s n L fr t a) z=iP ty own L (ba (ty s !=some L.length) 4 a (a+s.size) z):=by
 conv=>lhs;rw[v_]
 rfl
def SK{ty}{own}{s:BA}{fr:Nat}{y}{z:Fl}(hk:k=6\/k=17):v_ ty own (.mk k s n [x,y] fr t a) z=v_ ty own y (v_ ty own x z):=by
 obtain rfl|rfl:=hk
 .conv=>lhs;rw[v_]
  rfl
 .conv=>lhs;rw[v_]
  rfl
def am5{p:Prop}(h:p:=by
 have HC:=ai<|MU p ag _ cb tb mb lb B ty mk lo f _ ov F own X1.d hB HA X1.o X1.n HO<|HS p ag;obtain⟨c1,f1,y1⟩:=uh B1;clear cE HX ha hb;go_enter func119,ntmps119;go_wp2_with fail;refine HC.mono ?_;rintro e w2⟨rfl,k2,d2⟩;have X2:=ai<|X1.ke k2 d2;have B2:=ai<|B1.xI k2 ae;have eG:=ai<|HB.keB k2 hB;obtain⟨c2,f2,y2⟩:=uh B2;have s_:=ai<|MU q ag _ cb tb mb lb B ty mk lo _ _ ov F own X2.d hB eG X2.o X2.n HO<|HS q ag;clear k2 d2 HC c1 f1 y1;go_wp2_with fail;refine s_.mono ?_;rintro e w3⟨rfl,k3,d3⟩;have X3:=ai<|X2.ke k3 d3;clear k3 d3 s_
 go_wp2
 go_end0
 exact⟨rfl,X3.k,X3.d⟩):p:=h
def am6{p:Prop}(h:p:=by
 all_goals(
  go_wp2_with fail
  go_meet
  case rel=>exact⟨rfl,X1.af (zx _ _).drew,B1.gw⟩)):p:=h
def Jl:∀nd,PTC nd:=by
 refine Nd.ind ?_;intro k s n L fr t a IH w cb tb mb lb B ty mk lo f v ov F own h hB hx ho hn hO hs;have MU:=ai IH;have HS:=ai hs.part;have⟨hL,hf4,ha4,hs4⟩:=hs.len;have HO:=ai hO;have X0:Hid (CT cb tb mb lb ty mk lo ov F w f w):=ai ⟨h,Ke.refl _ _,ho,hn⟩;have HX:=ai hx;have hcz:=h.z;clear h IH hs ho hn hO
 cases hx with
 |var _ _ _ _ _ x y hq Gt hy'=>
  subst Gt hy';have⟨cE,B1⟩:=uo w #[Nv fr,.int .i64 ((fr+s.size:Nat):Int),Sv<|s.extract 1 s.size] 162;have X1:=ai<|X0.af cE;have HC:=ai<|SG X1.o<|s.extract 1 s.size;have HE:=ai<|HO s hq;rw[aht];have⟨c1,f1,y1⟩:=uh B1;clear cE HX;go_enter func119,ntmps119;go_wp2_with fail;refine HC.mono ?_;rintro e w1⟨rfl,rfl⟩;rw[uh HE]
  cases rj:fQ s own with
  |true=>
   go_wp2
   go_end0;exact⟨rfl,X1.k,by rw[rj];exact X1.d⟩
  |false=>
   have s_:=ai<|rZ X1.d 4 fr<|fr+s.size;go_wp2_with fail;refine s_.mono ?_;rintro e w2⟨rfl,k2,d2⟩;have X2:=ai<|X1.ke k2 d2;clear k2 d2 s_ HC
   go_wp2
   go_end0;exact⟨rfl,X2.k,by rw[rj];exact X2.d⟩
 |fn _ _ p q _ _ _ x y va vb ha hb=>
  obtain⟨t1,x1,rfl⟩:=ha.iface;obtain⟨t2,x2,rfl⟩:=hb.iface;have⟨cE,B1⟩:=uo w #[Iv x,Iv y,Fv t1<|Av x1,Fv t2<|Av x2] 192;have X1:=ai<|X0.af cE;have HA:=ai<|ha.af cE;have HB:=ai<|hb.af cE;rw[SK<|xn rfl];exact am5
 |pr _ _ p q _ _ _ x y va vb ha hb=>
  obtain⟨t1,x1,rfl⟩:=ha.iface;obtain⟨t2,x2,rfl⟩:=hb.iface;have⟨cE,B1⟩:=uo w #[Iv x,Iv y,Fv t1<|Av x1,Fv t2<|Av x2] 196;have X1:=ai<|X0.af cE;have HA:=ai<|ha.af cE;have HB:=ai<|hb.af cE;rw[SK<|xo rfl];exact am5
 |up _ _ _ _ _ _ x y x' y' sa sc vs hu aO hr Gt hy'=>
  subst Gt;have HY:=ai hy';clear hy';have⟨cE,B1⟩:=uo w #[Iv x,Iv y,Nv a,Iv y',Sv s,Lv sa L.length sc] 194;have X1:=ai<|X0.af cE;have HR:=ai hr;have HW:Hid (L=[]\/∃g,sa=some ⟨g,0,none⟩/\g<B/\g<w.heap.size/\∀i,i<L.length->w.cell? ⟨g,i,none⟩=some (vs i)):=ai aO;rw[ajQ];obtain⟨Z,HZ⟩:∃Z,Hid<|Z=iP ty own L (ba (ty s !=some L.length) 4 a (a+s.size) f):=⟨_,ai rfl⟩;rw[<-uh HZ];have⟨c1,f1,y1⟩:=uh B1;have⟨c2,f2,y2⟩:=X1.d.bx;clear cE HX aO hr;go_enter func119,ntmps119;go_wp2_with fail;go_cut[37]from 26 (λv wc=>v=.bool (ty s !=some L.length)/\CT cb tb mb lb ty mk lo ov F w f wc/\Bx wc w.heap.size #[Iv x,Iv y,Nv a,Iv y',Sv s,Lv sa L.length sc])
  case first=>
   go_region_with(go_at_call 148;refine(SH (v:=Mv tb) (xn ⟨tb,rfl,(X1.af (zx _ _).drew).d.t⟩) s L.length).mono ?_;rintro e w2⟨rfl,rfl⟩);all_goals exact am6
  case rest=>
   obtain⟨rfl,hX,hB2⟩:=hcut;have X2:=ai hX;have B2:=ai hB2;clear hX hB2 X1 B1 c1 f1 y1 c2 f2 y2;have⟨c1,f1,y1⟩:=uh B2
   go_upto_if 37 with(fail)
   go_cut[]from 14 (λwc=>CT cb tb mb lb ty mk lo ov F w (ba (ty s !=some L.length) 4 a (a+s.size) f) wc/\Bx wc w.heap.size #[Iv x,Iv y,Nv a,Iv y',Sv s,Lv sa L.length sc])
   case first=>
    cases hb:(ty s !=some L.length)with
    |true=>
     have HC:=ai<|rZ X2.d 4 a<|a+s.size;rw[<-uh HY]at HC;go_wp2_with fail;refine HC.mono ?_;rintro e w2⟨rfl,k2,d2⟩;have X3:=ai<|X2.ke k2 d2;have B3:=ai<|B2.xI k2 ae;clear k2 d2 HC;go_wp2_with fail
     go_meet
     case rel=>rw[hb];exact⟨X3,B3⟩
    |false=>
     go_wp2_with fail
     go_meet
     case rel=>rw[hb];exact⟨X2,B2⟩
   case rest=>
    obtain⟨hX,PY⟩:=hcut;have X3:=ai hX;have B3:=ai PY;clear hX PY X2 B2 c1 f1 y1;have⟨c1,f1,y1⟩:=uh B3
    have HC:=ai (Da (sa:=sa) (sc:=sc) (vs:=vs) (own:=own) (λx hx=>MU x hx) X3.d hB (by
     obtain q|⟨g,e,q1,q2,q3⟩:=uh HW
     .exact xo q
     .exact xn ⟨g,e,q1,xy q2 X3.k.size,λi hi=>(X3.k.cell q2 ae).trans<|q3 i hi⟩) (λi hi=>(HR i hi).keB X3.k hB) X3.o X3.n HO HS hL)
    rw[<-uh HZ]at HC;go_wp2_with fail;refine HC.mono ?_;rintro e w2⟨rfl,k2,d2⟩;have X4:=ai<|X3.ke k2 d2
    go_wp2
    go_end0;exact⟨rfl,X4.k,X4.d⟩
end
end
section
open Go.ChangeMaps Go.MapKept
def MB(w:World)(b:Nat)(L:List (BA×Value)):=∃es clock,w.heap[b]? =some (.map es clock)/\es.toList.map (λe=>(e.key,e.val))=L.map (λp=>(zy p.1,p.2))/\(es.toList.map (·.born)).Nodup/\∀e∈es.toList,e.born<clock
section
variable {L:List (BA×Value)}
def MB.ms(h:MB w b L):MS zy w b L:=by obtain⟨es,c,h1,h2,_⟩:=h;exact⟨es,c,h1,h2⟩
def MB.lt(h:MB w b L):b<w.heap.size:=h.ms.lt
def MB.same(h:MB w b L)(hb:w'.heap[b]? =w.heap[b]?):MB w' b L:=by obtain⟨es,c,h1,h2⟩:=h;exact⟨es,c,hb.trans h1,h2⟩
def MB.new(w:World):MB (w.alloc<|.map #[] 0) w.heap.size []:=⟨#[],0,(vw w _).1,rfl,ag,ag⟩
def wR(l:List MapEntry)j f(hf:∀e,(f e).born=e.born):(l.modify j f).map (·.born)=l.map (·.born):=by
 induction l generalizing j with
 |nil=>cases j<;>simp|cons e r ih=>grind
def MB.put(h:MB w b L)x v:∃o,(zu 103 (Mv b) (.string x) v).run xq w=.ok () (setBlock w b o)/\MB (setBlock w b o) b (bG x v L):=by
 obtain⟨es,clock,hb,np,hn,hk⟩:=h;have K:=KL.str (P:=xq) xt;have hf:=K.fin x L es.toList w trivial (λ_ _=>trivial) np;rw[zu];simp only[Sem.run_bind,run_underlying Tryz.underlying103,vd,MapKept.run_getObj_map hb,K.chk,hf]
 cases ym:yl x L 0 with
 |none=>
  refine⟨.map (es.push {key:=Sv x,val:=v,born:=clock})<|clock+1,by rw[ym]at hf;simp[hf,vd];exact vo _ hb,_,_,(heap_setBlock_same hb _),?_,?_,?_⟩
  .rw[oN x v L<|oO x L 0 ym];simp[np]
  .simp only[Array.toList_push,List.map_append,qx,List.map_nil];rw[List.nodup_append];refine⟨hn,ag,?_⟩;intro a ha c hc;obtain⟨e,he,rfl⟩:=List.mem_map.1 ha;simp only[xj]at hc;have:=hk e he;omega
  .grind
 |some p=>
  obtain⟨j,u⟩:=p;have⟨_,e0,h2,h3,h4⟩:=EP (enc:=Sv) x v L es.toList 0 j u np ym;have Mz:es[j]? =some e0:=by simpa using h2
  refine⟨.map (es.modify j λe=>{e with key:=Sv x,val:=v}) clock,?_,_,_,(heap_setBlock_same hb _),by simpa using h4,?_,?_⟩
  .rw[ym]at hf;simp[hf,vd,Mz,h3,Instr.keyThatStays,K.bit];exact vo _ hb
  .rw[vh,wR es.toList j (λe=>{e with key:=Sv x,val:=v}) (λ_=>rfl)];exact hn
  .intro e he;have:e.born∈(es.modify j λe=>{e with key:=Sv x,val:=v}).toList.map (·.born):=xf he;rw[vh,wR es.toList j (λe=>{e with key:=Sv x,val:=v}) (λ_=>rfl)]at this;have⟨e',h1,h2⟩:=List.mem_map.1 this;rw[<-h2];exact hk e' h1
def py{ops}{rest}{o}{a}{Q}(hg:o.guard=none)m x v(EB:o.op=Op.insert 103 m x v\/o.op=Op.mapUpdate 103 m x v)(hm:a.eval m=Mv b)(hM:MB w b L)key val(hx:a.eval x=.string key)(hv:a.eval v=val)(hK:∀w',MB w' b (bG key val L)->One b w w'->wpList xq ops Q rest (a.put o.dst undef) w'):
 wpList xq ops Q (o::rest) a w:=by
 refine wpList_plain hg λK' hK'=>?_;have⟨ob,lR,r1⟩:=hM.put key val;rw[Oper.wp];obtain EB|EB:=EB<;>
 .simp[execOp,EB,hm,hx,hv,lR,vd];exact hK' _ _<|hK _ r1<|One.set w b ob
end
def GM w b p:=∃L,MB w b L/\(L.map (·.1)).Nodup/\∀x,a_ x L=if fQ x p then some (Iv 1)else none
def OZ{L:List (BA×Value)}{s:BA}(h:(L.map (·.1)).Nodup):((bG s v L).map (·.1)).Nodup:=by
 have hm:∀(L:List (BA×Value))x,x∈(bG s v L).map (·.1)->x=s\/x∈L.map (·.1):=by
  intro L x
  induction L with
  |nil=>simp[bG]|cons p r ih=>
   rw[bG];split
   .grind
   .grind
 induction L with
 |nil=>simp[bG]|cons p r ih=>
  simp only[qx,xg]at h;rw[bG];split
  .rename_i e;simp only[qx,xg];exact⟨e▸h.1,h.2⟩
  .rename_i e;simp only[qx,xg];refine⟨λq=>?_,ih h.2⟩;obtain q|q:=hm r _ q
   .exact e q
   .exact h.1 q
section
variable {p:List BA}
def GM.lt(h:GM w b p):b<w.heap.size:=qAr
def GM.same(h:GM w b p)(hb:w'.heap[b]? =w.heap[b]?):GM w' b p:=qAs
def GM.mv(h:GM w b p):Hk w (Mv b) (λx=>if fQ x p then some 1 else none):=by
 obtain⟨L,h1,_,h2⟩:=h;refine xn ⟨b,rfl,L,h1.ms,λx=>?_⟩;rw[h2 x];show _=Option.map _ (if fQ x p=true then some 1 else none)
 cases fQ x p<;>rfl
theorem GM.bG{L:List (BA×Value)}(h2:(L.map (·.1)).Nodup)(h:∀x,a_ x L=if fQ x p then some (Iv 1)else none){s:BA}(hM:MB w' b (Go.Proofs.YtnldmeakhapdhaaGreatDoor.bG s (Iv 1) L)):GM w' b (p++[s]):=by
 refine⟨_,hM,OZ h2,λx=>?_⟩;rw[aN,h x];have e:fQ x (p++[s])=(fQ x p||decide (s=x)):=by unfold fQ;rw[List.any_append];simp only[List.any_cons,List.any_nil,Bool.or_false]
 rw[e];by_cases q:s=x
 .simp[q]
 .simp[q]
def GM.new(w:World):GM (w.alloc<|.map #[] 0) w.heap.size []:=⟨[],MB.new w,ag,λx=>by simp[a_,fQ]⟩
end
end
section
open Go.ChangeMaps
structure CP cb tb mb lb gb ty mk lo w0(q:List BA×Fl)wr:Prop where
 d:CK wr cb tb mb lb ty mk lo q.2
 k:Fr (λb=>b=cb\/b=gb) w0 wr
 g:GM wr gb q.1
 n:gb≠cb/\gb≠tb/\gb≠mb/\gb≠lb
section
variable {mk:BA->Option Nat} {wr:World} {p:List BA} {f:Fl} {q q':List BA×Fl}
def CP.af(h:CP cb tb mb lb gb ty mk lo w0 q wr)(hb:Bq wr w'):CP cb tb mb lb gb ty mk lo w0 q w':=⟨h.d.af hb,h.k.trans<|Fr.of hb,h.g.same<|hb.block gb h.g.lt,h.n⟩
def CP.ke(h:CP cb tb mb lb gb ty mk lo w0 (p,f) wr)(hk:Ke cb wr w')(d:CK w' cb tb mb lb ty mk lo f'):CP cb tb mb lb gb ty mk lo w0 (p,f') w':=⟨d,h.k.trans ⟨hk.os,hk.tape,hk.output,hk.size,λb hb hn=>hk.block b hb<|λe=>hn<|xo e⟩,h.g.same<|hk.block gb h.g.lt h.n.1,h.n⟩
def CP.fr(h:CP cb tb mb lb gb ty mk lo w0 q wr)(k:Fr (λb=>b=cb\/b=gb) wr w')(d:CK w' cb tb mb lb ty mk lo q'.2)(g:GM w' gb q'.1):CP cb tb mb lb gb ty mk lo w0 q' w':=⟨d,h.k.trans k,g,h.n⟩
def CK.one(h:CK w cb tb mb lb ty mk lo f)(o:One gb w w')(n:gb≠cb/\gb≠tb/\gb≠mb/\gb≠lb):CK w' cb tb mb lb ty mk lo f:=
 ⟨h.bx.one o n.1.symm,h.t.same<|o.block tb n.2.1.symm,h.m.same<|o.block mb n.2.2.1.symm,h.l.same<|o.block lb n.2.2.2.symm,h.ct,h.cm,h.cl,h.tm,h.tl,h.ml⟩
def CP.one(h:CP cb tb mb lb gb ty mk lo w0 (p,f) wr)(o:One gb wr w'){p'}(g:GM w' gb p'):CP cb tb mb lb gb ty mk lo w0 (p',f) w':=
 ⟨h.d.one o h.n,h.k.trans ⟨o.os,o.tape,o.output,Mn,λb _ hn=>o.block b<|λe=>hn<|xn e⟩,g,h.n⟩
def PP.QO{S}(h:PP w (·<B) nd v)(k:Fr S w w')(hB:∀b,b<B->¬S b):PP w' (·<B) nd v:=h.move k.size (λb p z=>k.block b z<|hB b p)<|λ_ p _=>p
def PPC nd:=∀(w:World)(cb tb mb lb gb B:Nat)(ty mk:BA->Option Nat)(lo:BA->Nat)(f:Fl)(v:Value)(p:List BA),CK w cb tb mb lb ty mk lo f->B<=cb->B<=gb->PP w (·<B) nd v->GM w gb p->(gb≠cb/\gb≠tb/\gb≠mb/\gb≠lb)->Sm nd->
 Cq 149 #[cp cb,v,Mv gb] w λe w'=>e=.returned (.tuple #[])/\Fr (λb=>b=cb\/b=gb) w w'/\CK w' cb tb mb lb ty mk lo (oo mk nd (p,f)).2/\GM w' gb (oo mk nd (p,f)).1
def ajR{s:BA}{fr}:oo mk (.mk 1 s n L fr t a) (p,f)=(p++[s],ba (fQ s p) 5 fr t f):=by rw[oo];rfl
def ajS{s:BA}{fr}:oo mk (.mk 2 s n L fr t a) (p,f)=dV mk L (p,ba (mk s !=some L.length) 5 a (a+s.size) f):=by
 conv=>lhs;rw[oo]
 rfl
def afu{s:BA}{fr}(hk:k≠1/\k≠2):oo mk (.mk k s n L fr t a) (p,f)=dV mk L (p,f):=by grind[oo,dV,ba]
def PPR cb tb mb lb gb ty mk lo w0 q(L:List Nd)xb C gk c wr:=∃j:Nat,Hid (gk=L.length-j)/\j<=L.length/\c=Nv j/\CP cb tb mb lb gb ty mk lo w0 (dV mk (L.take j) q) wr/\Bx wr xb C
def J6{p:Prop}(h:p:=by
 rw[afu aB,show dV mk [] (p,f)=(p,f) by unfold dV;rfl];go_enter func149,ntmps149
 go_wp2
 go_end0
 exact⟨rfl,X0.k,X0.d,X0.g⟩):p:=h
def VO:∀nd,PPC nd:=by
 refine Nd.ind ?_;intro k s n L fr t a MU w cb tb mb lb gb B ty mk lo f v p h hB hBg HA hg hn hs;have HS:=ai hs.part;have⟨hL,hf4,ha4,hs4⟩:=hs.len;have X0:Hid (CP cb tb mb lb gb ty mk lo w (p,f) w):=ai ⟨h,Fr.refl _ _,hg,hn⟩;have hcz:=h.z;have k9:=hg.lt;have zT:∀b,b<B->¬(b=cb\/b=gb):=λb hb q=>ae;have hnS:¬(w.heap.size=cb\/w.heap.size=gb):=λq=>ae;clear h hs hg hn
 cases HA with
 |any _ _ _ _ _=>
  exact J6
 |num _ _ _ _ _=>
  exact J6
 |word _ _ _ _ _ _=>
  exact J6
 |unit _ _ _ _ _=>
  exact J6
 |low _ _ _ _ _ hl=>
  have⟨cE,B1⟩:=uo w #[Nv fr,Nv t,Sv s] 198;have X1:=ai<|X0.af cE;have HC:=SG X1.g.mv s;rw[ajR];have⟨c1,f1,y1⟩:=uh B1;clear cE;go_enter func149,ntmps149;go_wp2_with fail;refine HC.mono ?_;rintro e w1⟨rfl,rfl⟩
  cases rj:fQ s p with
  |true=>
   have s_:=rZ X1.d 5 fr t;simp only[if_true,Option.isSome_some];go_wp2_with fail;refine s_.mono ?_;rintro e w2⟨rfl,k2,d2⟩;have X2:=X1.ke k2 d2;have B2:=ai<|B1.xI k2<|λe=>hnS<|xo e;have⟨L2,Db,ON,hG2⟩:=X2.g;have MW:=And.intro ON hG2;clear k2 d2 s_ HC c1 f1 y1 ON hG2;have⟨c1,f1,y1⟩:=uh B2;go_wp2_with(refine py rfl _ _ _ (xn rfl) rfl Db s (Iv 1) rfl rfl ?_;intro w3 H' O';have X3:=ai<|X2.one O'<|GM.bG MW.1 MW.2 H';clear H' O');go_end0;exact⟨rfl,X3.k,by rw[rj];exact X3.d,X3.g⟩
  |false=>
   simp only[Bool.false_eq_true,if_false,Option.isSome_none];have⟨L2,Db,ON,hG2⟩:=X1.g;have MW:=And.intro ON hG2;clear ON hG2 HC;go_wp2_with(refine py rfl _ _ _ (xn rfl) rfl Db s (Iv 1) rfl rfl ?_;intro w3 H' O';have X3:=ai<|X1.one O'<|GM.bG MW.1 MW.2 H';clear H' O');go_end0;exact⟨rfl,X3.k,X3.d,X3.g⟩
 |pr _ _ x y _ _ _ vx vy HA hy=>
  obtain⟨u1,x1,rfl⟩:=HA.iface;obtain⟨u2,x2,rfl⟩:=hy.iface;have⟨cE,B1⟩:=uo w #[Nv fr,Nv t,Fv u1<|Av x1,Fv u2<|Av x2] 265;have X1:=ai<|X0.af cE;have HB:=ai hy;rw[afu aB,show dV mk [x,y] (p,f)=oo mk y (oo mk x (p,f)) by unfold dV;unfold dV;unfold dV;rfl];have HC:=MU x ag _ cb tb mb lb gb B ty mk lo f _ p X1.d hB hBg (HA.QO X1.k zT) X1.g X1.n<|HS x ag;have⟨c1,f1,y1⟩:=uh B1;clear cE hy;generalize oo mk x (p,f)=q1 at HC⊢;obtain⟨p1,z1⟩:=q1;go_enter func149,ntmps149;go_wp2_with fail;refine HC.mono ?_;rintro e w2⟨rfl,k2,d2,g2⟩;have X2:=X1.fr (q':=(p1,z1)) k2 d2 g2;have B2:=ai<|B1.fr k2 hnS;have⟨c2,f2,y2⟩:=uh B2;have s_:=MU y ag _ cb tb mb lb gb B ty mk lo z1 _ p1 X2.d hB hBg (HB.QO X2.k zT) X2.g X2.n<|HS y ag;clear k2 d2 g2 HC c1 f1 y1;go_wp2_with fail;refine s_.mono ?_;rintro e w3⟨rfl,k3,d3,g3⟩;have X3:=ai<|X2.fr (q':=oo mk y (p1,z1)) k3 d3 g3;clear k3 d3 g3 s_
  go_wp2
  go_end0;exact⟨rfl,X3.k,X3.d,X3.g⟩
 |up _ _ _ _ _ _ y sa sc vs hu hy aO hr=>
  have HY:=ai hy;have⟨cE,B1⟩:=uo w #[Nv fr,Nv t,Nv a,Nv y,Sv s,Lv sa L.length sc] 263;have X1:=ai<|X0.af cE;have HW:Hid (L=[]\/∃g,sa=some ⟨g,0,none⟩/\g<B/\g<w.heap.size/\∀i,i<L.length->w.cell? ⟨g,i,none⟩=some (vs i)):=ai aO;rw[ajS];obtain⟨Z,HZ⟩:∃Z,Hid<|Z=dV mk L (p,ba (mk s !=some L.length) 5 a (a+s.size) f):=⟨_,ai rfl⟩;rw[<-uh HZ];have⟨c1,f1,y1⟩:=uh B1;have⟨c2,f2,y2⟩:=X1.d.bx;clear cE aO hy;go_enter func149,ntmps149;go_wp2_with fail;go_cut[40]from 29 (λv wc=>v=.bool (mk s !=some L.length)/\CP cb tb mb lb gb ty mk lo w (p,f) wc/\Bx wc w.heap.size #[Nv fr,Nv t,Nv a,Nv y,Sv s,Lv sa L.length sc])
  case first=>
   go_region_with(go_at_call 148;refine(SH (v:=Mv mb) (xn ⟨mb,rfl,(X1.af (zx _ _).drew).d.m⟩) s L.length).mono ?_;rintro e w2⟨rfl,rfl⟩);all_goals exact am6
  case rest=>
   obtain⟨rfl,hX,hB2⟩:=hcut;have X2:=ai hX;have B2:=ai hB2;clear hX hB2 X1 B1 c1 f1 y1 c2 f2 y2;have⟨c1,f1,y1⟩:=uh B2
   go_upto_if 40 with(fail)
   go_cut[]from 15 (λwc=>CP cb tb mb lb gb ty mk lo w (p,ba (mk s !=some L.length) 5 a (a+s.size) f) wc/\Bx wc w.heap.size #[Nv fr,Nv t,Nv a,Nv y,Sv s,Lv sa L.length sc])
   case first=>
    cases hb:(mk s !=some L.length)with
    |true=>
     have HC:=rZ X2.d 5 a<|a+s.size;rw[<-uh HY]at HC;have HTT:=show ba true 5 a (a+s.size) f=tell 5 a y f by rw[uh HY];rfl
     go_wp2_with fail;refine HC.mono ?_;rintro e w2⟨rfl,k2,d2⟩;have X3:=ai<|X2.ke k2 d2;have B3:=ai<|B2.xI k2<|λe=>hnS<|xo e;clear k2 d2 HC;go_wp2_with fail
     go_meet
     case rel=>rw[hb,HTT];exact⟨X3,B3⟩
    |false=>
     go_wp2_with fail
     go_meet
     case rel=>rw[hb];exact⟨X2,B2⟩
   case rest=>
    obtain⟨hX,PY⟩:=hcut;have X3:=ai hX;have B3:=ai PY;clear hX PY X2 B2 c1 f1 y1;generalize ba (mk s !=some L.length) 5 a (a+s.size) f=z2 at X3 HZ;have⟨c1,f1,y1⟩:=uh B3;go_wp2_with fail;clear c1 f1 y1;go_loopg[49] L.length (λgk c wr=>PPR cb tb mb lb gb ty mk lo w (p,z2) L w.heap.size #[Nv fr,Nv t,Nv a,Nv y,Sv s,Lv sa L.length sc] gk c wr)
    case atStart=>exact⟨0,ai rfl,zd _,rfl,X3,B3⟩
    case round=>
     clear X3 B3;obtain⟨j,dl,hj,rfl,hX,hB4⟩:=hrel;have XR:=ai hX;have BR:=ai hB4;clear hX hB4;have⟨c1,f1,y1⟩:=uh BR;by_cases bA:j<L.length
     .have hd:(j:Int)<(L.length:Int):=ae;obtain⟨g,rfl,Y6,ahu,hc⟩:∃g,sa=some ⟨g,0,none⟩/\g<B/\g<w.heap.size/\∀i,i<L.length->w.cell? ⟨g,i,none⟩=some (vs i):=by
       obtain e|e:=uh HW
       .exact absurd bA UH
       .exact e
      have hcj:=(zh (a:=⟨g,j,none⟩)<|XR.k.block g ahu<|zT g Y6).trans<|hc j bA;have HT:=Vw mk L (p,z2) j bA;generalize dV mk (L.take j) (p,z2)=qj at XR HT;obtain⟨pj,zj⟩:=qj;have HC:=MU L[j] (qw bA) _ cb tb mb lb gb B ty mk lo zj (vs j) pj XR.d hB hBg ((hr j bA).QO XR.k zT) XR.g XR.n<|HS _<|qw bA;rw[<-HT]at HC;clear hc;go_wp2_with fail;refine HC.mono ?_;rintro e w2⟨rfl,k2,d2,g2⟩;have X4:=XR.fr (q':=dV mk (L.take<|j+1) (p,z2)) k2 d2 g2;have B4:=ai<|BR.fr k2 hnS
      go_wp2
      go_roundg(L.length-(j+1))
      case measure=>rw[uh dl];omega
      case rel=>exact⟨j+1,ai rfl,ae,jP,X4,B4⟩
     .have hd:decide ((j:Int)<(L.length:Int))=false:=bF;have he:L.take j=L:=q9 ae;rw[he,<-uh HZ]at XR
      go_wp2
      go_end0;exact⟨rfl,XR.k,XR.d,XR.g⟩
end
end
section
open Go.ChangeMaps Go.MapKept
def IT(w:World)(r gb:Nat)(p done:List BA)cnt:=∃(es:Array MapEntry)(clock since:Nat)(seen:Array Nat)(c0:Nat)(L:List (BA×Value)),w.heap[gb]? =some (.map es clock)/\es.toList.map (λe=>(e.key,e.val))=L.map (λp=>(zy p.1,p.2))/\(es.toList.map (·.born)).Nodup/\(∀e∈es.toList,e.born<since)/\since<=c0/\since<=clock/\w.heap[r]? =some (.mapIter (some gb) since seen c0)/\(L.map (·.1)).Nodup/\(∀x,a_ x L=if fQ x p then some (Iv 1)else none)/\(leftOf es seen).size=cnt/\∀e∈es.toList,∀x,e.key=.string x->(seen.contains e.born=true↔x∈done)
def Gu{x:BA}:∀{L:List (BA×Value)},(a_ x L).isSome=true↔x∈L.map (·.1)
 |[]=>by simp[a_]|p::l=>by
  rw[a_];split
  .rename_i e;simp[e]
  .rename_i e;rw[Gu (L:=l)];simp only[qx,xi];exact⟨xn,λq=>q.elim (λq=>absurd q.symm e) id⟩
def ad0{es:List MapEntry}{L:List (BA×Value)}(h:es.map (λe=>(e.key,e.val))=L.map (λp=>(zy p.1,p.2))):es.map (·.key)=(L.map (·.1)).map zy:=by
 have:=congrArg (List.map Prod.fst) h;simpa[List.map_map,Function.comp_def]using this
def IT.same{p done:List BA}{cnt}(h:IT w r gb p done cnt)(h1:w'.heap[gb]? =w.heap[gb]?)(h2:w'.heap[r]? =w.heap[r]?):IT w' r gb p done cnt:=by
 obtain⟨es,clock,since,seen,c0,L,a1,a2,a3,a4,a5,a6,a7,a8⟩:=h;exact⟨es,clock,since,seen,c0,L,h1.trans a1,a2,a3,a4,a5,a6,h2.trans a7,a8⟩
def IT.lt{w:World}{r gb:Nat}{p done:List BA}{cnt}(h:IT w r gb p done cnt):gb<w.heap.size/\r<w.heap.size/\gb≠r:=by
 obtain⟨es,clock,since,seen,c0,L,a1,a2,a3,a4,a5,a6,a7,a8⟩:=h;refine⟨(Array.getElem?_eq_some_iff.1 a1).1,(Array.getElem?_eq_some_iff.1 a7).1,λe=>?_⟩;rw[e,a7]at a1
 cases a1
def GM.range{p:List BA}(h:GM w gb p):∃o cnt,(Instr.range 103<|Mv gb).run xq w=.ok (Pv w.heap.size) (w.alloc o)/\IT (w.alloc o) w.heap.size gb p [] cnt:=by
 obtain⟨L,⟨es,clock,a1,a2,a3,a4⟩,a5,a6⟩:=h;have bA:=(Array.getElem?_eq_some_iff.1 a1).1;refine⟨_,_,run_range_map w 103 _ _ gb es clock Tryz.underlying103 a1,es,clock,clock,#[],clock,L,((vw w _).2 _ bA).trans a1,a2,a3,a4,br _,br _,heap_alloc_new w _,a5,a6,rfl,λe he x hx=>ag⟩
def IT.next{p done:List BA}{cnt}(h:IT w r gb p done cnt):((∀x,fQ x p=true->x∈done)/\(∀x,x∈done->fQ x p=true->True)/\(zv (Pv r) false 0).run xq w=.ok (.tuple #[.bool false]) w)\/
 ∃x v w1 aD,x∉done/\fQ x p=true/\(zv (Pv r) false 0).run xq w=.ok (.tuple #[.bool true,.string x,v]) w1/\IT w1 r gb p (x::done) aD/\aD<cnt/\Fr (λb=>b=r) w w1/\w1.heap.size=w.heap.size/\(Instr.entry<|Pv r).run xq w1=.ok (.tuple #[.string x,v]) w1:=by
 have⟨hg1,hr1,cV⟩:=h.lt;obtain⟨es,clock,since,seen,c0,L,a1,a2,a3,a4,a5,a6,a7,a8,a9,a10,a11⟩:=h;have aaj:=ad0 a2;rcases run_next_at (P:=xq) w 0 r gb since c0 seen es clock a7 a1 a4 a5 with⟨h0,lR⟩|⟨e,he,w1,yd,lR⟩
 .left;refine⟨λx hx=>?_,λ_ _ _=>trivial,lR⟩;have rj:=Gu.1 (by rw[a9 x,hx];rfl);have:Sv x∈es.toList.map (·.key):=xY;have⟨e,he,hk⟩:=List.mem_map.1 this;exact(a11 e he x hk).1 (all_seen es seen h0 e he)
 .right;have⟨W8,he2⟩:=mem_left he;obtain⟨x,hx⟩:∃x,e.key=Sv x:=by
   have:e.key∈es.toList.map (·.key):=xf W8;rw[aaj]at this;have⟨x,_,q⟩:=List.mem_map.1 this;exact⟨x,q.symm⟩
  have hxL:x∈L.map (·.1):=by
   have:e.key∈es.toList.map (·.key):=xf W8;rw[aaj,hx]at this;have⟨y,hy,q⟩:=List.mem_map.1 this
   cases q;exact hy
  have Bw:x∉done:=λq=>by
   have:=(a11 e W8 x hx).2 q;rw[he2]at this;cases this
  have hp:fQ x p=true:=by
   have:=Gu.2 hxL;rw[a9 x]at this
   cases hq:fQ x p with
   |true=>rfl|false=>grind
  have OC:w1.heap=w.heap:=by obtain rfl|rfl:=yd<;>rfl
  have b1:∀k,k≠r->(setBlock w1 r<|.mapIter (some gb) since (seen.push e.born) clock).heap[k]? =w.heap[k]? :=λk hk=>by
   have:(setBlock w1 r<|.mapIter (some gb) since (seen.push e.born) clock).heap[k]? =w1.heap[k]? :=by simp[setBlock,vg,Ne.symm hk]
   rw[this,OC]
  have b2:(setBlock w1 r<|.mapIter (some gb) since (seen.push e.born) clock).heap[r]? =some (.mapIter (some gb) since (seen.push e.born) clock):=by
   have yf:r<w1.heap.size:=by rw[OC];exact hr1
   simp[setBlock,vg,yf]
  have gL:(setBlock w1 r<|.mapIter (some gb) since (seen.push e.born) clock).heap.size=w.heap.size:=by simp[setBlock,OC]
  have hnk:(es.toList.map (·.key)).Nodup:=xY;refine⟨x,e.val,_,_,Bw,hp,by rw[lR,hx],⟨es,clock,since,seen.push e.born,clock,L,(b1 gb cV).trans a1,a2,a3,a4,a6,a6,b2,a8,a9,rfl,λe' he' y hy=>?_⟩,by rw[<-a10];exact left_shrinks es seen e he,⟨by obtain rfl|rfl:=yd<;>rfl,by obtain rfl|rfl:=yd<;>rfl,by obtain rfl|rfl:=yd<;>rfl,by rw[gL];exact br _,λk _ hk=>b1 k hk⟩,gL,?_⟩
  .rw[contains_push];simp only[Bool.or_eq_true,beq_iff_eq,xi];constructor
   .rintro(q|q)
    .grind
    .have:e'=e:=born_inj a3 he' W8 q;rw[this,hx]at hy
     cases hy;exact xo rfl
   .rintro(q|q)
    .right;have:e'=e:=by
      have hk:e'.key=e.key:=by rw[hy,hx,q]
      exact entry_eq_of_key (by rw[List.Nodup,List.pairwise_map]at hnk;exact hnk) he' W8 hk
     rw[this]
    .grind
  .have:=run_entry_at (P:=xq) (setBlock w1 r<|.mapIter (some gb) since (seen.push e.born) clock) r gb since seen es clock e b2 ((b1 gb cV).trans a1) W8 a3;rw[hx]at this;exact this
def MH(lo:BA->Nat)(l:List BA):=∀x,lo x≠0↔x∈l
structure CE cb tb mb lb ty mk lo w0 f wr:Prop where
 d:CK wr cb tb mb lb ty mk lo f
 k:Fr (λb=>b=cb\/b=lb) w0 wr
section
variable {mk:BA->Option Nat} {Y8:BA->Nat} {wr:World} {p l:List BA} {f:Fl}
def CE.af(h:CE cb tb mb lb ty mk lo w0 f wr)(hb:Bq wr w'):CE cb tb mb lb ty mk lo w0 f w':=⟨h.d.af hb,h.k.trans<|Fr.of hb⟩
def CE.ke(h:CE cb tb mb lb ty mk lo w0 f wr)(hk:Ke cb wr w')(d:CK w' cb tb mb lb ty mk lo f'):CE cb tb mb lb ty mk lo w0 f' w':=⟨d,h.k.trans ⟨hk.os,hk.tape,hk.output,hk.size,λb hb hn=>hk.block b hb<|λe=>hn<|xo e⟩⟩
def CE.fr(h:CE cb tb mb lb ty mk lo w0 f wr)(k:Fr (λb=>b=cb\/b=lb) wr w')(d:CK w' cb tb mb lb ty mk Y8 f'):CE cb tb mb lb ty mk Y8 w0 f' w':=⟨d,h.k.trans k⟩
def CE.put(h:CE cb tb mb lb ty mk lo w0 f wr){L}(o:One lb wr w')(hM:MS zy w' lb L)(hL:∀x,a_ x L=some (Nv<|Y8 x)\/(a_ x L=none/\Y8 x=0)):CE cb tb mb lb ty mk Y8 w0 f w':=
 ⟨⟨h.d.bx.one o h.d.cl,h.d.t.same<|o.block tb h.d.tl,h.d.m.same<|o.block mb h.d.ml,⟨L,hM,hL⟩,h.d.ct,h.d.cm,h.d.cl,h.d.tm,h.d.tl,h.d.ml⟩,h.k.trans ⟨o.os,o.tape,o.output,Mn,λb _ hn=>o.block b<|λe=>hn<|xn e⟩⟩
def CK.frN(h:CK w cb tb mb lb ty mk lo f)(k:Fr (λb=>b=r) w w')(n:r≠cb/\r≠tb/\r≠mb/\r≠lb):CK w' cb tb mb lb ty mk lo f:=
 ⟨h.bx.fr k n.1.symm,h.t.same<|k.block tb h.t.lt n.2.1.symm,h.m.same<|k.block mb h.m.lt n.2.2.1.symm,h.l.same<|k.block lb h.l.lt n.2.2.2.symm,h.ct,h.cm,h.cl,h.tm,h.tl,h.ml⟩
def CE.frN(h:CE cb tb mb lb ty mk lo w0 f wr){r}(k:Fr (λb=>b=r) wr w')(n:r≠cb/\r≠tb/\r≠mb/\r≠lb)(hr:w0.heap.size<=r):CE cb tb mb lb ty mk lo w0 f w':=
 ⟨h.d.frN k n,h.k.trans' k<|λb q=>xn (by have q:b=r:=q;omega)⟩
def CK.lts(h:CK w cb tb mb lb ty mk lo f):cb<w.heap.size/\tb<w.heap.size/\mb<w.heap.size/\lb<w.heap.size:=⟨h.z,h.t.lt,h.m.lt,h.l.lt⟩
def PE.QO{S:Nat->Prop}(h:PE w (·<B) nd v)(k:Fr S w w')(hB:∀b,b<B->¬S b):PE w' (·<B) nd v:=h.move k.size (λb p z=>k.block b z<|hB b p)<|λ_ p _=>p
def PT.QO{S:Nat->Prop}(h:PT w (·<B) nd v)(k:Fr S w w')(hB:∀b,b<B->¬S b):PT w' (·<B) nd v:=h.move k.size (λb p z=>k.block b z<|hB b p)<|λ_ p _=>p
def PXC nd:=∀(w:World)(cb tb mb lb B:Nat)(ty mk:BA->Option Nat)(lo:BA->Nat)(f:Fl)(v:Value)(l:List BA),CK w cb tb mb lb ty mk lo f->B<=cb->B<=lb->PE w (·<B) nd v->MH lo l->(∀x,lo x+nn nd<=5000)->Sm nd->
 Cq 72 #[cp cb,v] w λe w'=>e=.returned (.tuple #[])/\Fr (λb=>b=cb\/b=lb) w w'/\CK w' cb tb mb lb ty mk lo (dA ty mk nd l f)
def loU(lo:BA->Nat)done:=λx=>lo x+if fQ x done then 1 else 0
def loD(lo:BA->Nat)done:=λx=>lo x-if fQ x done then 1 else 0
def abd{x:BA}{done:List BA}(h:x∉done):(λy=>if y=x then loU lo done x+1 else loU lo done y)=loU lo (x::done):=by grind[loU,fQ]
def abe{x:BA}{done:List BA}(h:x∉done):(λy=>if y=x then loD lo done x-1 else loD lo done y)=loD lo (x::done):=by grind[loD,fQ]
def Lp{p done:List BA}(h1:∀x,fQ x p=true->x∈done)(h2:∀x∈done,fQ x p=true)x:fQ x done=fQ x p:=by grind[fQ]
def MH.C9(h:MH lo l)p:MH (λx=>lo x+if fQ x p then 1 else 0) (l++p):=by grind[MH,fQ]
def UPR cb tb mb lb ty mk lo w0 f r gb p gk wr:=∃done,IT wr r gb p done gk/\(∀x∈done,fQ x p=true)/\CE cb tb mb lb ty mk (loU lo done) w0 f wr
def DNR cb tb mb lb ty mk lo w0 f r gb p gk wr:=∃done,IT wr r gb p done gk/\(∀x∈done,fQ x p=true)/\CE cb tb mb lb ty mk (loD lo done) w0 f wr
def am7{p:Prop}(h:p:=by
 have I5:=HI1.same (O3.block gb hn.2.2.2)<|O3.block _ hrn.2.2.2;go_roundg aD
 case measure=>exact H8
 case rel=>exact⟨x::done,I5,by intro y hy;obtain rfl|q:=List.mem_cons.1 hy;exact HXP;exact HD y q,X5⟩):p:=h
def tW(HE:PXC nd)(h:CK w cb tb mb lb ty mk lo f)(hB:B<=cb)(BZ:B<=lb)(hx:PE w (·<B) nd v)(hg:GM w gb p)(hn:gb≠cb/\gb≠tb/\gb≠mb/\gb≠lb)(hl:MH lo l)(rl:∀x,lo x+1+nn nd<=5000)(hs:Sm nd):
 Calls xq 70 #[cp cb,.map<|some gb,v] w λe w'=>e=.returned (.tuple #[])/\Fr (λb=>b=cb\/b=lb) w w'/\CK w' cb tb mb lb ty mk lo (dA ty mk nd (l++p) f):=by
 have⟨o,cnt,hrg,mi⟩:=hg.range;have cE:Below w.heap.size w (w.alloc o):=bw _;have X0:CE cb tb mb lb ty mk lo w f (w.alloc o):=⟨h.af cE,Fr.of cE⟩;have⟨z1,z2,z3,z4⟩:=h.lts;have HI:=ai mi;have k9:=hg.lt;have zT:∀b,b<B->¬(b=cb\/b=lb):=λb hb q=>ae;have Xg:=ai hl;obtain⟨t1,x1,rfl⟩:=hx.iface;obtain⟨f2,HZ⟩:∃Z,Hid<|Z=dA ty mk nd (l++p) f:=⟨_,ai rfl⟩;rw[<-uh HZ];go_enter func70,ntmps70
 go_wp2
 go_loopg[] cnt (λgk wr=>UPR cb tb mb lb ty mk lo w f w.heap.size gb p gk wr)
 case atStart=>exact⟨[],HI,ag,by have:=X0;exact this⟩
 case round=>
  obtain⟨done,mi,hdn,hX⟩:=hrel;have XR:=ai hX;have HI:=ai mi;have HD:=ai hdn;have hsw:=hX.k.size;have Xs:=mi.lt;obtain⟨ha,-,Ea⟩|⟨x,u,w1,aD,hxd,PX,Ea,Hw,bA,xZ,gL,hen⟩:=HI.next
  .have eL:loU lo done=λx=>lo x+if fQ x p then 1 else 0:=by funext y;rw[loU];rw[Lp ha HD y]
   rw[eL]at XR;obtain⟨lo2,abg⟩:∃lo2,Hid<|lo2=λx=>lo x+if fQ x p then 1 else 0:=⟨_,ai rfl⟩;rw[<-uh abg]at XR;have HC:=HE wr cb tb mb lb B ty mk lo2 f _ (l++p) XR.d hB BZ (hx.QO XR.k zT) (by rw[uh abg];exact Xg.C9 p) (λx=>by rw[uh abg];have:=rl x;show lo x+(if fQ x p=true then 1 else 0)+nn nd<=5000;split<;>omega) hs;rw[<-uh HZ]at HC;have GR:=hg.same (XR.k.block gb k9 (λq=>by obtain q|q:=q;exact hn.1 q;exact hn.2.2.2 q));go_wp2_with fail;refine HC.mono ?_;rintro e w2⟨rfl,k2,d2⟩;have X2:=ai<|XR.fr k2 d2;have G2:=GR.same (k2.block gb Xs.1 (λq=>by obtain q|q:=q;exact hn.1 q;exact hn.2.2.2 q));have⟨o2,cJ,amI,HI2⟩:=G2.range;have X3:Hid (CE cb tb mb lb ty mk lo2 w f2<|w2.alloc o2):=ai<|X2.af<|bw _;have z2w:=X2.k.size
   go_wp2
   go_loopg[] cJ (λgk wr=>DNR cb tb mb lb ty mk lo2 w f2 w2.heap.size gb p gk wr)
   case atStart=>exact⟨[],HI2,ag,by have:=uh X3;exact this⟩
   case round=>
    obtain⟨done,HI,HD,XR⟩:=hrel;have hsw:=XR.k.size;have Xs:=HI.lt;obtain⟨ha,-,Ea⟩|⟨x,u,w1,aD,HXD,HXP,Ea,HI1,bA,HFR,gL,hen⟩:=HI.next
    .have eL:loD lo2 done=lo:=by
      funext y;rw[loD];rw[Lp ha HD y,uh abg];show lo y+(if fQ y p=true then 1 else 0)-(if fQ y p=true then 1 else 0)=lo y;omega
     rw[eL]at XR;exact Qm
    .have hrn:w2.heap.size≠cb/\w2.heap.size≠tb/\w2.heap.size≠mb/\w2.heap.size≠lb:=⟨ae,ae,ae,ae⟩;have X4:=XR.frN HFR hrn ae;obtain⟨N,hN⟩:∃N,Hid<|N=loD lo2 done x:=⟨_,ai rfl⟩;have hl:=X4.d.l.look x;rw[<-uh hN]at hl;have⟨L,HM,HL⟩:=X4.d.l;have hN5:1<=N/\N<=6000:=by
      have h1:=rl x;have h2:=Gm.2 HXD;have h3:N=lo x+1:=by rw[uh hN,uh abg];rw[loD];rw[h2];simp[HXP]
      omega
     have hN6:(1:Int)<=(N:Int):=ae;have hN7:(N:Int)<=6000:=ae;have⟨c1,f1,y1⟩:=X4.d.bx;have H8:=bA;go_wp2_with(refine aV _ rfl _ _ _ _ (xn rfl) (KL.str xt) Tryz.underlying103 _ _ rfl HM x (.int .i64<|(N:Int)-1) rfl rfl trivial (λ_ _=>trivial) ?_;intro w3 H' O';have M3:=ai H';have O3:=ai O';clear H' O');have hv:(z9 .i64<|(N:Int)-1)=.int .i64 ((N-1:Nat):Int):=by rw[Int.natCast_sub hN5.1];rfl
     rw[hv]at M3;have X5:=X4.put O3 M3<|LM.put HL x<|N-1;rw[uh hN,abe HXD]at X5;exact am7
  .have hrn:w.heap.size≠cb/\w.heap.size≠tb/\w.heap.size≠mb/\w.heap.size≠lb:=⟨ae,ae,ae,ae⟩;have X4:=XR.frN xZ hrn<|br _;obtain⟨N,hN⟩:∃N,Hid<|N=loU lo done x:=⟨_,ai rfl⟩;have hl:=X4.d.l.look x;rw[<-uh hN]at hl;have⟨L,HM,HL⟩:=X4.d.l;have hN7:(N:Int)<=6000:=by
    have h1:=rl x;have h2:N=lo x+(if fQ x done then 1 else 0):=uh hN;have h3:(if fQ x done=true then 1 else 0)<=1:=by split<;>omega
    omega
   have⟨c1,f1,y1⟩:=X4.d.bx;have HI1:=ai Hw;have HXD:=ai hxd;have HXP:=ai PX;have H8:=bA;go_wp2_with(refine aV _ rfl _ _ _ _ (xn rfl) (KL.str xt) Tryz.underlying103 _ _ rfl HM x (.int .i64<|(N:Int)+1) rfl rfl trivial (λ_ _=>trivial) ?_;intro w3 H' O';have M3:=ai H';have O3:=ai O';clear H' O');have hv:(z9 .i64<|(N:Int)+1)=.int .i64 ((N+1:Nat):Int):=rfl;rw[hv]at M3;have X5:=X4.put O3 M3<|LM.put HL x<|N+1;rw[uh hN,abd HXD]at X5;exact am7
end
section
variable {mk:BA->Option Nat} {wr:World} {p l:List BA} {f:Fl}
def CE.frG(h:CE cb tb mb lb ty mk lo w0 f wr)(k:Fr (λb=>b=cb\/b=gb) wr w')(hg:w0.heap.size<=gb)(d:CK w' cb tb mb lb ty mk lo f'):CE cb tb mb lb ty mk lo w0 f' w':=
 ⟨d,h.k.trans' k (λb q=>by
  obtain q|q:=q
  .omega
  .exact xn ae)⟩
def AMR cb tb mb lb ty mk lo w0 f l(A:List (Nd×Nd))gk c wr:=∃j:Nat,Hid (gk=A.length-j)/\j<=A.length/\c=Nv j/\CE cb tb mb lb ty mk lo w0 (OM ty mk l (A.take j) f) wr
def ahv{g}{vp ve:Nat->Value}(HA:∀q∈A,PXC q.2)(h:CK w cb tb mb lb ty mk lo f)(hB:B<=cb)(BZ:B<=lb)(Y6:g<B)(hg:g<w.heap.size)(hc:∀i,i<A.length->(∃u v,w.cell? ⟨g,i*4,none⟩=some (Iv u)/\w.cell? ⟨g,i*4+1,none⟩=some (Iv v))/\w.cell? ⟨g,i*4+2,none⟩=some (vp i)/\w.cell? ⟨g,i*4+3,none⟩=some (ve i))(hp:∀i(h:i<A.length),PP w (·<B) A[i].1<|vp i)(he:∀i(h:i<A.length),PE w (·<B) A[i].2<|ve i)(hl:MH lo l)(rl:∀x,lo x+1+cD (aP A)<=5000)(hS:∀x∈aP A,Sm x)(hL:A.length<=1000):
 Cq 121 #[cp cb,.slice (some ⟨g,0,none⟩) A.length sc] w λe w'=>e=.returned (.tuple #[])/\Fr (λb=>b=cb\/b=lb) w w'/\CK w' cb tb mb lb ty mk lo (oJ ty mk (aP A) l f):=by
 have jA:= @run_makeMap Tryz.prog;have HE:=ai he;have zT:∀b,b<B->¬(b=cb\/b=lb):=λb hb q=>ae;have⟨z1,z2,z3,z4⟩:=h.lts;have X0:CE cb tb mb lb ty mk lo w f w:=⟨h,Fr.refl _ _⟩;rw[RP];clear h he;obtain⟨Z,HZ⟩:∃Z,Hid<|Z=OM ty mk l A f:=⟨_,ai rfl⟩;rw[<-uh HZ];go_enter func121,ntmps121
 go_wp2
 go_loopg[9] A.length (λgk c wr=>AMR cb tb mb lb ty mk lo w f l A gk c wr)
 case atStart=>exact⟨0,ai rfl,zd _,rfl,X0⟩
 case round=>
  clear X0;obtain⟨j,dl,hj,rfl,hX⟩:=hrel;have XR:=ai hX;have hsw:=hX.k.size;clear hX;by_cases bA:j<A.length
  .have hd:(j:Int)<(A.length:Int):=ae;have mw:∀o,wr.cell? ⟨g,o,none⟩=w.cell? ⟨g,o,none⟩:=λo=>zh (a:=⟨g,o,none⟩)<|XR.k.block g hg<|zT g Y6;have⟨⟨u,v,d0,d1⟩,d2,d3⟩:=hc j bA;rw[<-mw]at d0 d1 d2 d3;have⟨t1,x1,e1⟩:=(hp j bA).iface;have⟨t2,x2,e2⟩:=(HE j bA).iface;have P1:=hp j bA;have E1:=HE j bA;rw[e1]at d2 P1;rw[e2]at d3 E1;have HT:=Vy ty mk l A f j bA;have hnn:=RM A j bA;have HIN:=Ga A j bA;generalize OM ty mk l (A.take j) f=zj at XR HT;rw[RN]at HT;have cE:Bq wr ((wr.alloc<|Cv #[Iv u,Iv v,Fv t1<|Av x1,Fv t2<|Av x2] 255).alloc<|.map #[] 0):=(bw _).alloc ag _;have X1:=XR.af cE;have B1:=ai<|(Bx.new wr #[Iv u,Iv v,Fv t1<|Av x1,Fv t2<|Av x2] 255).alloc<|.map #[] 0;have G1:GM ((wr.alloc<|Cv #[Iv u,Iv v,Fv t1<|Av x1,Fv t2<|Av x2] 255).alloc<|.map #[] 0) (wr.heap.size+1) []:=(by have:=GM.new<|wr.alloc<|Cv #[Iv u,Iv v,Fv t1<|Av x1,Fv t2<|Av x2] 255;simpa using this);have HC:=ai<|VO A[j].1 _ cb tb mb lb (wr.heap.size+1) B ty mk lo zj _ [] X1.d hB ae (P1.QO X1.k zT) G1 ⟨ae,ae,ae,ae⟩<|hS _ HIN.1;have HA2:=HA A[j]<|qw bA;generalize oo mk A[j].1 ([],zj)=pz at HC HT;obtain⟨p,zp⟩:=pz;simp only at HC HT;have⟨c1,f1,y1⟩:=uh B1;clear cE mw e1 e2;go_wp2_with fail;refine HC.mono ?_;rintro e w3⟨rfl,k3,d3',G3⟩;have X3:=X1.frG k3 ae d3'
   have B3:=ai<|B1.fr k3<|λq=>ae;have s_:=tW (l:=l) HA2 X3.d hB BZ (E1.QO X3.k zT) G3 ⟨ae,ae,ae,ae⟩ hl (λx=>by have:=rl x;omega)<|hS _ HIN.2;rw[<-HT]at s_;clear k3 d3' HC c1 f1 y1 d0 d1 d2 d3;have⟨c1,f1,y1⟩:=uh B3;go_wp2_with fail;refine s_.mono ?_;rintro e w4⟨rfl,k4,d4⟩;have X4:=X3.fr k4 d4
   go_wp2
   go_roundg(A.length-(j+1))
   case measure=>rw[uh dl];omega
   case rel=>exact⟨j+1,ai rfl,ae,jP,X4⟩
  .have hd:decide ((j:Int)<(A.length:Int))=false:=bF;have he:A.take j=A:=q9 ae;rw[he,<-uh HZ]at XR;exact Qm
end
end
section
open Go.ChangeMaps Un
def tJ.up{kb fb cb mb:Nat}{ns:List BA}{T}{ns'}{w w0:World}{e}{w'}(h:tJ kb fb cb mb ns T ns' w0 e w')(hb:Bq w w0):tJ kb fb cb mb ns T ns' w e w':=by
 obtain⟨u,h1,h2,h3,h4⟩:=h;exact⟨u,h1,h2.wide λb p=>xw hb.size p,h3,(Fr.of hb).trans h4⟩
def Oz s n f t a:OfC (.mk 16 s n [] f t a):=by
 intro w kb fb cb mb ns Q v h hp hQ hn;have e:bt ns (.mk 16 s n [] f t a)=(.var<|ix s (qJ s ns)+1,qJ s ns):=by simp[bt]
 rw[e]at hn⊢;have CU:ns.length<=2000:=by have:=J9 s ns;simp at hn;omega
 cases hp with
 |var s n f t a x y hq hx hy=>
 clear hx hy;have cr:Bq w (w.alloc<|Cv #[Iv x,Iv y,Sv<|s.extract 1 s.size] 162):=bw _;have HC:=J4 (h.af cr) s hq CU;go_enter func234,ntmps234;go_wp2_with fail;refine HC.mono ?_;rintro e w1⟨rfl,N1,F1⟩
 go_wp2
 go_ret;exact⟨_,rfl,.var _,N1,(Fr.of cr).trans F1⟩
def Kf{p:Prop}(h:p:=by
 go_enter func234,ntmps234;go_wp2_with fail;refine HC.mono ?_;intro e w1 hp;have hp2:=hp.up cr;obtain⟨u,rfl,_⟩:=hp
 go_wp2
 go_ret
 exact hp2):p:=h
def aaa{T}(hk:k=17/\T=192/\cn=pN\/k=6/\T=196/\cn=m9)s n x y f t a(hx:OfC x)(hy:OfC y):OfC (.mk k s n [x,y] f t a):=by
 intro w kb fb cb mb ns Q v h hp hQ hn;have e:bt ns (.mk k s n [x,y] f t a)=(.aM cn (aI ns [x,y]).1,(aI ns [x,y]).2):=by obtain⟨rfl,rfl,rfl⟩|⟨rfl,rfl,rfl⟩:=hk<;>simp[bt,iO]
 rw[e]at hn⊢;obtain⟨x1,y1,va,vb,ha,hb,rfl⟩:∃x1 y1 va vb,PT w Q x va/\PT w Q y vb/\v=Fv T (Av #[Iv x1,Iv y1,va,vb]):=by obtain⟨rfl,rfl,rfl⟩|⟨rfl,rfl,rfl⟩:=hk<;>(cases hp;exact⟨_,_,_,_,qas,qas,rfl⟩)
 obtain⟨ta,xa,rfl⟩:=ha.bQ;obtain⟨tb,xb,rfl⟩:=hb.bQ;have bA:=h.lt;have cr:Bq w ((w.alloc<|Cv #[Iv x1,Iv y1,Fv ta<|Av xa,Fv tb<|Av xb] T).alloc<|Cv #[Fv ta<|Av xa,Fv tb<|Av xb] 125):=(bw _).alloc ag _;have BR:=(Bx.new (w.alloc<|Cv #[Iv x1,Iv y1,Fv ta<|Av xa,Fv tb<|Av xb] T) #[Fv ta<|Av xa,Fv tb<|Av xb] 125);have gL:(w.alloc<|Cv #[Iv x1,Iv y1,Fv ta<|Av xa,Fv tb<|Av xb] T).heap.size=w.heap.size+1:=ag;rw[gL]at BR
 have HC:=ai (J8 (Q:=λb=>Q b\/b=w.heap.size+1) cn (by obtain⟨-,-,rfl⟩|⟨-,-,rfl⟩:=hk;exact xo rfl;exact xn<|xo rfl) [x,y] (some ⟨w.heap.size+1,0,none⟩) 2 (λi=>if i=0 then Fv ta (Av xa)else Fv tb (Av xb)) ag (h.af cr) (λb q=>by obtain q|q:=q;exact hQ b q;omega)
  (xn ⟨w.heap.size+1,rfl,xn rfl,ag,λi hi=>by
   have rV:i=0\/i=1:=Ie;rw[BR.c i]
   obtain rfl|rfl:=rV<;>rfl⟩)
  (λi hi=>by
   have rV:i=0\/i=1:=Ie;obtain rfl|rfl:=rV
   .exact(ha.af cr).wide λb p=>xo p
   .exact(hb.af cr).wide λb p=>xo p)
  (λi hi=>by
   have rV:i=0\/i=1:=Ie;obtain rfl|rfl:=rV
   .exact hx
   .exact hy) hn)
 obtain⟨rfl,rfl,rfl⟩|⟨rfl,rfl,rfl⟩:=hk;all_goals
  first|rw[kP]at HC|rw[kQ]at HC
  exact Kf
def ajl s n L f t a(hl:L.length<=1001)(hL:∀i(h:i<L.length),OfC L[i]):OfC (.mk 2 s n L f t a):=by
 intro w kb fb cb mb ns Q v h hp hQ hn;have e:bt ns (.mk 2 s n L f t a)=(.aM s (aI ns L).1,(aI ns L).2):=by simp[bt,iO]
 rw[e]at hn⊢
 cases hp with
 |up s n L f t at_ x y x' y' sa sc vs hu aO hr hx hy=>
 clear hx hy;have cr:Bq w (w.alloc<|Cv #[Iv x,Iv y,Iv x',Iv y',Sv s,Lv sa L.length sc] 194):=bw _
 have HC:=ai (J8 (Q:=Q) s (xn<|xn hu) L sa sc vs hl (h.af cr) hQ
  (aO.imp id λq=>by
   obtain⟨g,q1,q2,q3,q4⟩:=q
   exact⟨g,q1,q2,bF,λi hi=>(zh (a:=⟨g,i,none⟩)<|cr.block g q3).trans<|q4 i hi⟩)
  (λi hi=>(hr i hi).af cr) hL hn)
 rw[fh hu]at HC;clear aO hr;exact Kf
def ajm nd(h:zO nd):OfC nd:=by
 induction h with
 |var s n f t a=>exact Oz s n f t a|two k s n x y f t a hk hx hy dQ il=>
  obtain rfl|rfl:=hk
  .exact aaa (xo ⟨rfl,rfl,rfl⟩) s n x y f t a dQ il
  .exact aaa (xn ⟨rfl,rfl,rfl⟩) s n x y f t a dQ il
 |up s n L f t a hw hl hL ih=>exact ajl s n L f t a hl ih
def Er:Cq 32 #[] w λe w'=>e=.returned (.func (.func 46) #[] #[Pv w.heap.size])/\w'=w.alloc (.cells #[Iv 0] 3):=by
 go_enter func32,ntmps32
 go_wp2
 go_ret;exact⟨rfl,rfl⟩
def adr cb(hB:Bx w cb #[Iv 0]):Cq 233 #[.func (.func 46) #[] #[Pv cb]] w λe w'=>∃kb fb mb,e=.returned (nmV kb fb)/\NM w' kb fb cb mb []/\Bq w w'/\w.heap.size<=mb:=by
 have jA:= @run_makeMap Tryz.prog;have z:=hB.z;have HB:=ai hB;go_enter func233,ntmps233
 go_wp2
 go_ret;have cr:=(((zx w.heap.size w).alloc (br _)<|Cv #[.func (.func 46) #[] #[Pv cb]] 106).alloc ag<|.map #[] 0).alloc bF<|Cv #[Mv<|w.heap.size+1] 386;refine⟨w.heap.size+1+1,w.heap.size,w.heap.size+1,rfl,⟨?_,?_,?_,?_,ag,ag,ae⟩,cr,ae⟩
 .have:=Bx.new ((w.alloc<|Cv #[.func (.func 46) #[] #[Pv cb]] 106).alloc<|.map #[] 0) #[Mv<|w.heap.size+1] 386;simpa using this
 .exact((Bx.new w _ _).alloc _).alloc _
 .exact((HB.alloc _).alloc _).alloc _
 .have:=(MS.new Sv<|w.alloc<|Cv #[.func (.func 46) #[] #[Pv cb]] 106).below<|bw<|Cv #[Mv<|w.heap.size+1] 386;simpa[Z8]using this
end
section
open Go.ChangeMaps Go.MapKept Un
structure WC where
 (eb cb rb mb nb fZ:Nat)
 mks:jl
 nl:List BA
abbrev afY(c:WC):Array Value:=#[.func (.func 46) #[] #[Pv c.cb],Mv c.rb,Mv c.mb,Mv c.nb]
def uw w b:=∃L,MG zy w b L/\a_ gh L=some (.func (.func 47) #[] #[])/\a_ dE L=some (.func (.func 47) #[] #[])/\a_ fc L=some (.func (.func 47) #[] #[])/\a_ dL L=some (.func (.func 48) #[] #[])
def XC w P(sa:Option Addr)l:=l=[]\/∃(g:Nat)(vs:Nat->Value),sa=some ⟨g,0,none⟩/\P g/\g<w.heap.size/\∀i(h:i<l.length),w.cell? ⟨g,i,none⟩=some (vs i)/\dW w P l[i] (vs i)
def WY w P tk m(v:Value):=∃sa sc ta xa,v=.agg #[.slice sa tk.length sc,.iface ta xa]/\XC w P sa tk/\dW w P m (.iface ta xa)
def m5 w P b(mk:jl):=∃L,MG zy w b L/\(∀x,a_ x L=none->mk x=none)/\∀x v,a_ x L=some v->∃tk m,mk x=some (tk,m)/\WY w P tk m v
abbrev dw(c:WC)i:=i≠c.cb
structure WE w c cnt:Prop where
 bx:Bx w c.eb (afY c)
 ct:Bx w c.cb #[Nv cnt]
 rs:uw w c.rb
 ms:m5 w (λi=>i≠c.cb/\i<c.fZ) c.mb c.mks
 d:c.eb≠c.cb/\c.rb≠c.cb/\c.mb≠c.cb
 l:c.eb<c.fZ/\c.cb<c.fZ/\c.rb<c.fZ/\c.mb<c.fZ/\c.fZ<=w.heap.size
section
variable {c:WC} {cnt:Nat}
theorem XC.move{sa}{l}(h:XC w P sa l)(hs:w.heap.size<=w'.heap.size)(hb:∀b,P b->b<w.heap.size->w'.heap[b]? =w.heap[b]?)(hq:∀b,P b->b<w.heap.size->Q b):XC w' Q sa l:=by
 obtain h|⟨g,vs,h1,h2,h3,h4⟩:=h
 .exact xo h
 .exact xn ⟨g,vs,h1,hq g h2 h3,xy h3 hs,λi hi=>⟨(zh (a:=⟨g,i,none⟩)<|hb g h2 h3).trans (h4 i hi).1,(h4 i hi).2.move hs hb hq⟩⟩
theorem m5.move{b}{mk}(h:m5 w P b mk)(hs:w.heap.size<=w'.heap.size)(cr:w'.heap[b]? =w.heap[b]?)(hb:∀b,P b->b<w.heap.size->w'.heap[b]? =w.heap[b]?)(hq:∀b,P b->b<w.heap.size->Q b):m5 w' Q b mk:=by
 obtain⟨L,h1,h2,h3⟩:=h;refine⟨L,h1.same cr,h2,λx v hx=>?_⟩;obtain⟨tk,m,e,sa,sc,ta,xa,rfl,q1,q2⟩:=h3 x v hx;exact⟨tk,m,e,sa,sc,ta,xa,rfl,q1.move hs hb hq,q2.move hs hb hq⟩
def m5.lt{b}{mk}(h:m5 w P b mk):b<w.heap.size:=qAr
def uw.same{b}(h:uw w b)(hb:w'.heap[b]? =w.heap[b]?):uw w' b:=qAs
def uw.lt{b}(h:uw w b):b<w.heap.size:=qAr
def WE.fr(h:WE w c cnt)(hf:Fr (λi=>i=c.cb\/c.fZ<=i) w w'){aD}(hc:Bx w' c.cb #[Nv aD]):WE w' c aD:=by
 have⟨l1,l2,l3,l4,l5⟩:=h.l;have⟨d1,d2,d3⟩:=h.d;exact⟨h.bx.fr hf ae,hc,h.rs.same<|hf.block _ h.rs.lt ae,h.ms.move hf.size (hf.block _ h.ms.lt ae) (λb p z=>hf.block b z ae)<|λ_ p _=>p,h.d,⟨l1,l2,l3,l4,xw l5 hf.size⟩⟩
def Fr.fZ{S T}(h:Fr S w w')(hs:∀i,S i->T i):Fr T w w':=⟨h.os,h.tape,h.output,h.size,λk hk hn=>h.block k hk λq=>hn<|hs k q⟩
def WE.frc(h:WE w c cnt)(hf:Fr (λi=>i=c.cb) w w')(hc:Bx w' c.cb #[Nv aD]):WE w' c aD:=h.fr (hf.fZ λ_ q=>xo q) hc
def WE.one{b}(h:WE w c cnt)(o:One b w w')(hb:c.fZ<=b):WE w' c cnt:=h.fr ⟨o.os,o.tape,o.output,Mn,λi _ hi=>o.block i λe=>hi<|xn<|e▸hb⟩ (h.ct.one o (by have:=h.l;omega))
def WE.af(h:WE w c cnt)(hb:Bq w w'):WE w' c cnt:=h.frc (Fr.of hb)<|h.ct.below hb
def WE.dt(h:WE w c cnt):c.cb<w.heap.size:=h.ct.z
end
def us cnt n:=1<=n/\n<=cnt
section
variable {c:WC} {cnt:Nat}
def oA n(hn:n<=1000000)(h:Bx w cb #[Nv n]):Cq 46 #[Pv cb] w λe w'=>e=.returned (Iv<|(n:Int)+1)/\w'=w.setCell ⟨cb,0,none⟩ (Iv<|(n:Int)+1):=by
 obtain⟨c,f,z⟩:=h;go_enter func46,ntmps46
 go_wp2
 go_ret;exact⟨rfl,rfl⟩
def WE.fresh(h:WE w c cnt):WE (w.setCell ⟨c.cb,0,none⟩<|Iv<|(cnt:Int)+1) c (cnt+1)/\Fr (λi=>i=c.cb) w (w.setCell ⟨c.cb,0,none⟩<|Iv<|(cnt:Int)+1):=by
 have F:Fr (λi=>i=c.cb) w (w.setCell ⟨c.cb,0,none⟩<|Iv<|(cnt:Int)+1):=(Fr.refl (λi=>i=c.cb) w).set (b:=c.cb) (xo rfl) 0 _;have:=h.ct.aR 0 (Iv<|(cnt:Int)+1) #[Iv<|(cnt:Int)+1] rfl ag;exact⟨h.frc F<|by simpa using this,F⟩
def qP cnt(l:List Nat)v:=if v∈l then some (cnt+1+l.idxOf v)else none
def anD(cnt:Nat)(l:List Nat)(j:Nat)(v:Nat):Option Ty:=if v∈l.take j then some (.var<|cnt+1+l.idxOf v)else none
def Ig{v v'}(hv:v∈l)(Na:v'∈l)(e:l.idxOf v=l.idxOf v'):v=v':=by
 have h1:=List.getElem_idxOf<|List.idxOf_lt_length_iff.2 hv;have h2:=List.getElem_idxOf<|List.idxOf_lt_length_iff.2 Na;simp only[e]at h1;exact h1.symm.trans h2
def Cy(cnt:Nat)(l:List Nat)(hn:l.Nodup){u:Nat->Prop}(hu:∀n,u n->us cnt n):qm l qe (qP cnt l) u (λn=>u n\/(cnt<n/\n<=cnt+l.length)) where
 fe v n h:=Mp
 out v h:=by simp[qP,h,qe]
 all v h:=by simp[qP,h]
 new v n _ h q:=by
  have:=hu n q;rw[qP]at h;split at h
  .injection h with h;rw[us]at this;omega
  .cases h
 one v v' n _ h1 h2:=by
  rw[qP]at h1 h2;split at h1<;>split at h2
  .injection h1 with h1;injection h2 with h2;rename_i a b;exact Ig a b ae
  .cases h2
  .cases h1
  .cases h1
 use n:=by
  constructor
  .rintro(h|h)
   .exact xo h
   .right;have hi:n-cnt-1<l.length:=ae;refine⟨l[n-cnt-1],rfl,?_⟩;rw[qP];rw[if_pos<|qw hi,hn.idxOf_getElem (n-cnt-1) hi];congr 1;omega
  .rintro(h|⟨v,_,h⟩)
   .exact xo h
   .rw[qP]at h;split at h
    .rename_i hv;injection h with h;have:=List.idxOf_lt_length_iff.2 hv;exact xn ae
    .cases h
def aiF c cnt l w gk v wr:=
 ∃j:Nat,Hid (gk=l.length-j)/\j<=l.length/\v=Nv j/\WE wr c (cnt+j)/\fG wr (λi=>i≠c.cb/\i≠w.heap.size) w.heap.size (anD cnt l j)/\Fr (λi=>i=c.cb) w wr/\Hid (w.heap.size<wr.heap.size)
def Ih c cnt l w(e:Ending)w':=
 ∃b,e=.returned (Mv b)/\w.heap.size<=b/\WE w' c (cnt+l.length)/\fG w' (dw c) b (λv=>(qP cnt l v).map Ty.var)/\Fr (λi=>i=c.cb) w w'
def XD(h:WE w c cnt)(hv:ri w (dw c) sa l)(hn:l.Nodup)(hz:cnt+l.length<=1000000):Cq 253 #[Pv c.eb,.slice sa l.length sc] w (Ih c cnt l w):=by
 have jA:= @run_makeMap Tryz.prog;have k1:Bq w (w.alloc<|.map #[] 0):=bw _;have zc:=h.dt;have W1:=h.af k1;have ak5:=ai h.l.2.2.2.2;have S1:=fG.new w<|λi=>i≠c.cb/\i≠w.heap.size;have K1:=ai k1;go_enter func253,ntmps253
 go_wp2
 go_loopg[11] l.length (λgk v wr=>aiF c cnt l w gk v wr)
 case atStart=>
  refine⟨0,ai ag,zd _,rfl,W1,?_,Fr.of K1,ai ag⟩;have e:anD cnt l 0=λ_=>none:=by funext v;simp[anD]
  rw[e];exact S1
 case round=>
  obtain⟨j,dl,hj,rfl,HW,HS,HF,hzz⟩:=hrel;by_cases bm:j<l.length
  .have hd:(j:Int)<(l.length:Int):=ae;obtain⟨g,rfl,hg,k9,bY⟩:=hv.resolve_left<|λe=>qBs;have cg:=(zh (a:=⟨g,j,none⟩)<|HF.block g k9 hg).trans<|bY j bm;obtain⟨m,hm⟩:∃m,Hid<|m=cnt+j:=⟨_,ai rfl⟩;rw[<-uh hm]at HW;have HC:=oA m (by have:=uh hm;omega) HW.ct;have⟨HW2,F2⟩:=HW.fresh;have S3:=HS.fr F2 (λe=>ae)<|λi p _=>p.1;have⟨c1,f1,z1⟩:=HW.bx;have Bu:=HF.trans F2;have nz:=HW.d.1;have ZZ:w.heap.size<(wr.setCell ⟨c.cb,0,none⟩<|Iv<|(m:Int)+1).heap.size:=(by have:=uh hzz;simp[World.setCell];exact this);have T3:db (wr.setCell ⟨c.cb,0,none⟩<|Iv<|(m:Int)+1) (λi=>i≠c.cb/\i≠w.heap.size) (.var<|m+1) (Fv 152<|Iv<|(m:Int)+1):=(by have:=db.var (w:=wr.setCell ⟨c.cb,0,none⟩<|Iv<|(m:Int)+1) (P:=λi=>i≠c.cb/\i≠w.heap.size)<|m+1;simpa using this);generalize hx:l[j]=xx at*;go_wp2_with fail;refine HC.mono ?_;rintro e w3⟨rfl,rfl⟩;go_wp2_with(refine li iy rfl _ _ _ (xn rfl) rfl S3 (λq=>q.2 rfl) T3 xx rfl rfl ?_;intro w4 H' O';have S4:=ai H';have O4:=ai O';clear H' O');go_roundg(l.length-(j+1))
   case measure=>rw[uh dl];omega
   case rel=>
    have o:=uh O4;have em:=uh hm;have fo:Fr (λi=>i=w.heap.size) (wr.setCell ⟨c.cb,0,none⟩<|Iv<|(m:Int)+1) w4:=⟨o.os,o.tape,o.output,Mn,λi _ hi=>o.block i hi⟩;refine⟨j+1,ai rfl,ae,jP,?_,?_,?_,ai (by rw[o.size];exact ZZ)⟩
    .have hw:=HW2;have e:cnt+(j+1)=m+1:=ae;rw[e];exact hw.one o ak5
    .have e:anD cnt l (j+1)=eu (anD cnt l j) xx (some<|.var<|m+1):=by
      funext v;rw[anD,eu];have afZ:v∈l.take (j+1)↔v∈l.take j\/v=xx:=by rw[qu bm,hx,xh,xj]
      by_cases q:v=xx
      .subst q;have:l.idxOf v=j:=by rw[<-hx];exact hn.idxOf_getElem j bm
       rw[if_pos<|afZ.2<|xn rfl,if_pos rfl,this,em];congr 2;omega
      .rw[if_neg q];by_cases r:v∈l.take j
       .rw[if_pos<|afZ.2<|xo r];exact(if_pos r).symm
       .rw[if_neg<|λh=>(afZ.1 h).elim r q];exact(if_neg r).symm
     rw[e];exact S4
    .have f:=Bu;exact⟨o.os.trans f.os,o.tape.trans f.tape,o.output.trans f.output,by rw[o.size];exact f.size,λi hi hni=>(o.block i ae).trans<|f.block i hi hni⟩
  .have hd:decide ((j:Int)<(l.length:Int))=false:=bF;have ej:j=l.length:=ae;subst ej
   go_wp2
   go_ret;refine⟨w.heap.size,rfl,br _,HW,?_,HF⟩;have e:anD cnt l l.length=λv=>(qP cnt l v).map Ty.var:=by
    funext v;rw[anD,qP];rw[List.take_length];by_cases q:v∈l
    .rw[if_pos q,if_pos q];rfl
    .rw[if_neg q,if_neg q];rfl
   rw[<-e];exact HS.wide λi p=>p.1
structure WK w c cnt(s:jd)kb:Prop where
 k:KW w (dw c) kb s.k
 n:kb≠c.cb
 u:∀n,s.u n->us cnt n
 ok:In.Ok s
 wh:∀n,Whole<|s.k n
def Nb{cnt}(hn:l.Nodup)(h:∀n,n∈l->us cnt n):l.length<=cnt:=by
 have:=Ed (V:=(List.range cnt).map (·+1)) hn λx hx=>by
  have q:=h x hx;rw[us]at q;exact List.mem_map.2 ⟨x-1,List.mem_range.2 ae,ae⟩
 simpa using this
def WK.Ee(h:WK w c cnt s kb)(hc:cnt<=1000000)(h1:1<=cnt\/True):vM s.k where
 wh:=h.wh
 len n:=by
  by_cases q:s.u n
  .refine xw (Nb (dF _ xk) λm hm=>?_) hc;exact h.u m (h.ok.use n m q<|by simpa using(bP (s.k n) [] m).1 hm)
  .rw[h.ok.out n q];simp[vars,Un.seen]
structure WG w c s Λ(Γ:jc)gb:Prop where
 e:bS w (dw c) gb Γ
 n:gb≠c.cb
 i:jx Λ s Γ
 nd:∀y d,Γ y=some d->d.any.Nodup
 dm:∀x,Γ x≠none->x∈c.nl
def yw w:(zeroValue 354).run xq w=.ok (.agg #[.nilIface,.slice none 0 0]) w:=qkr
def XE c(d:qr)f t(s:jd)cnt w(e:Ending)w':=Fr (λi=>i=c.cb) w w'/\
 ((48<size (sub s.k d.of)/\WE w' c cnt/\e=.panicked [{v:=guW ⟨7,f,t⟩ .nilIface .nilIface,recovered:=false}])\/
  (size (sub s.k d.of)<=48/\WE w' c (cnt+d.any.length)/\∃ta xa,e=.returned (.iface ta xa)/\db w' (dw c) (sub (jm<|qP cnt d.any)<|sub s.k d.of) (.iface ta xa)))
def PZ cnt l:Ef (λv=>(qP cnt l v).map Ty.var)=jm (qP cnt l):=by
 funext v;show((qP cnt l v).map Ty.var).getD (.var v)=_;rw[jm]
 cases qP cnt l v<;>rfl
mutual
def iz(ρ:ju):∀t,size (sub (jm ρ) t)=size t
 |.var n=>by simp only[sub,jm];split<;>simp[size]|.aM c l=>by simp only[sub,size,Cz ρ l]
def Cz(ρ:ju):∀l,ak (aT (jm ρ) l)=ak l
 |[]=>rfl|t::l=>by simp only[aT,ak,iz ρ t,Cz ρ l]
end
def pL(ρ:ju)t(h:Whole t):Whole (sub (jm ρ) t):=ck t h λn _=>by rw[jm];split<;>trivial
end
abbrev CA(f:Fl)(vl vr:Value):Ending:=.panicked [{v:=guW f vl vr,recovered:=false}]
def af0(c:WC)(S:Nat)(s:jd)(cnt:Nat)(w':World)(aD:Nat)(e:Ending)(o:Except j8 (Ty×jd)):Prop:=match o with
 |.ok (T,s')=>(∀n,s'.u n->s.u n\/(cnt<n/\n<=aD))/\(∀n,Whole<|s'.k n)/\∃ta xa kb,e=.returned (.tuple #[.iface ta xa,Mv kb])/\kb≠c.cb/\KW w' (dw c) kb s'.k/\TW w' (dw c) S T (.iface ta xa)|.error z=>∃vl vr,e=CA z.f vl vr/\ru w' (dw c) z vl vr
def aZ c S D(p:ji Ty)(s:jd)cnt w e w':=Fr (λi=>i=c.cb) w w'/\∃aD o,cnt<=aD/\aD<=cnt+D/\WE w' c aD/\p s o/\af0 c S s cnt w' aD e o
structure Fit(c:WC)cnt n:Prop where
 a:cnt+1000*n<=850000
 b:n<=805
 l:c.nl.length<=1000000
def Fit.le{c:WC}{cnt n'}(h:Fit c cnt n)(h1:aD+1000*n'<=cnt+1000*n)(h2:n'<=n):Fit c aD n':=⟨by have:=h.a;omega,by have:=h.b;omega,h.l⟩
section
variable {c:WC} {cnt:Nat}
def WG.fr{s'}(h:WG w c s Λ Γ gb)(hf:Fr (λi=>i=c.cb) w w')(hr:In.Mq Λ s s'):WG w' c s' Λ Γ gb:=⟨h.e.fr hf h.n<|λ_ p _=>p,h.n,h.i.run hr,h.nd,h.dm⟩
def WG.af(h:WG w c s Λ Γ gb)(hb:Bq w w'):WG w' c s Λ Γ gb:=⟨h.e.af hb,h.n,h.i,h.nd,h.dm⟩
def WK.af(h:WK w c cnt s kb)(hb:Bq w w'):WK w' c cnt s kb:=⟨h.k.af hb,h.n,h.u,h.ok,h.wh⟩
structure Eg(w w1:World)c ah(s s1:jd)(Λ:Nat->Prop)iV:Prop where
 k:WK w1 c ah s1 iV
 n:∀n,¬s1.u n->Λ n
 p:qh Λ s s1
def XG(hk:WK w c cnt s kb)(hn:∀n,¬s.u n->Λ n)(hg:WG w c s Λ Γ gb)(hp:jf mk x Γ s (.ok (T,s1)))(hu:∀n,s1.u n->s.u n\/(cnt<n/\n<=ah))(qQ:cnt<=ah)(hw:∀n,Whole<|s1.k n)(h4:iV≠c.cb)(h5:KW w1 (dw c) iV s1.k):Eg w w1 c ah s s1 Λ iV/\jk Λ s1 T:=by
 have⟨g1,g2⟩:=In.mn mk x Γ s Λ hk.ok hn hg.i T s1 hp;exact⟨⟨⟨h5,h4,λn q=>by obtain r|r:=hu n q;have:=hk.u n r;unfold us at*;omega;rw[us];omega,g1.ok,hw⟩,g1.new,g1⟩,g2⟩
def m7 c cnt(s:jd)Λ x y f t w e w':=Bq w w'/\∃o,jo x y f t s o/\match o with
 |.ok (_,s')=>qh Λ s s'/\∃b,e=.returned (Mv b)/\WK w' c cnt s' b|.error z=>∃vl vr,e=CA z.f vl vr/\ru w' (dw c) z vl vr
def RE{p:Prop}(h:p:=by
 obtain⟨_,q'⟩|⟨_,_,⟨θ,_,q'⟩|⟨_,q'⟩⟩:=ho
 .cases q'
 .grind
 .cases q'):p:=h
def aiG(h:WE w c cnt)(hk:WK w c cnt s kb)(hn:∀n,¬s.u n->Λ n)(hc:cnt<=1000000)(hS:S<=900000){x:Ty}(hx:TW w (dw c) S x v)(hy:TW w (dw c) S y u)(tx:jk Λ s x)(ty:jk Λ s y)f t:
 Cq 224 #[Mv kb,v,u,.agg #[Nv f,Nv t]] w (m7 c cnt s Λ x y f t w):=by
 have zc:=h.dt;refine(Ii hk.k hk.n (hk.Ee hc<|xn trivial) hS hx hy f t s.u).mono ?_;rintro e w1⟨k1,o,ho,hm⟩;refine⟨k1,o,ho,?_⟩
 cases o with
 |ok q=>
  obtain⟨b,rfl,hb,hK,hW⟩:=hm;have⟨g1,_⟩:=In.fH (s:=s) hk.ok hn tx ty f t q.1 q.2 ho;have hu:q.2.u=s.u:=by
   exact RE
  exact⟨g1,b,rfl,⟨hK.wide λi p=>by obtain p|p:=p;exact p;show i≠c.cb;omega,ae,λn q=>hk.u n<|hu▸q,g1.ok,hW⟩⟩
 |error z=>
  obtain⟨vl,vr,rfl,hF⟩:=hm;refine⟨vl,vr,rfl,hF.qN,λq=>?_,hF.k⟩;have wd:∀i,(dw c i\/w.heap.size<=i)->dw c i:=λi p=>by obtain p|p:=p;exact p;show i≠c.cb;omega
  exact⟨(hF.apart q).1.wide wd,(hF.apart q).2.wide wd⟩
def af1(s:jd)x y:=size (sub s.k x)<=48/\size (sub s.k y)<=48/\∃σ,sub σ (sub s.k x)=sub σ (sub s.k y)
def BN c cnt(s:jd)Λ x y f t w(e:Ending)w':=∃b,e=.returned (Mv b)/\Bq w w'/\∃s',jo x y f t s (.ok ((),s'))/\qh Λ s s'/\WK w' c cnt s' b/\s'.u=s.u
def XH c(s:jd)x y f t w e w':=∃fl vl vr,e=CA fl vl vr/\Bq w w'/\∃z,z.f=fl/\jo x y f t s (.error z)/\ru w' (dw c) z vl vr
def m7.ok{x y}{f t}{e}(h:m7 c cnt s Λ x y f t w e w')(hc:af1 s x y):BN c cnt s Λ x y f t w e w':=by
 obtain⟨k1,o,ho,hm⟩:=h;obtain⟨a1,a2,σ,a3⟩:=hc
 cases o with
 |ok q=>
  obtain⟨g,b,rfl,hk⟩:=hm;refine⟨b,rfl,k1,q.2,ho,g,hk,?_⟩;exact RE
 |error z=>
  exfalso;obtain⟨r,_⟩|⟨_,_,⟨θ,_,q'⟩|⟨r,_⟩⟩:=ho
  .omega
  .cases q'
  .exact r σ a3
def m7.no{x:Ty}(h:m7 c cnt s Λ x y f t w e w')(hc:¬af1 s x y):XH c s x y f t w e w':=by
 obtain⟨k1,o,ho,hm⟩:=h
 cases o with
 |ok q=>
  exfalso;obtain⟨_,q'⟩|⟨a1,a2,⟨θ,vO,q'⟩|⟨_,q'⟩⟩:=ho
  .cases q'
  .exact hc ⟨a1,a2,θ,vO.one⟩
  .cases q'
 |error z=>
  obtain⟨vl,vr,rfl,hF⟩:=hm;exact⟨z.f,vl,vr,rfl,k1,z,rfl,ho,hF⟩
end
mutual
def pM:Nd->List BA
 |.mk k s _ L _ _ _=>if k=1 then[s]else m8 L
def m8:List Nd->List BA
 |[]=>[]|x::l=>pM x++m8 l
end
inductive si(mk:jl)(nl:List BA):Nd->Prop where
 |leaf(k:Nat)(s:BA)(n f t a:Nat)(h:k=15\/k=3\/k=4\/k=5):si mk nl (.mk k s n [] f t a)
 |low(s:BA)(n f t a:Nat)(h:s∈nl):si mk nl (.mk 1 s n [] f t a)
 |pr(s:BA)(n:Nat)(x y:Nd)(f t a:Nat)(hx:si mk nl x)(hy:si mk nl y):si mk nl (.mk 6 s n [x,y] f t a)
 |up(s:BA)(n:Nat)(L:List Nd)(f t a:Nat)(tk:List Ty)(m:Ty)(h:mk s=some (tk,m))(hl:L.length=tk.length)(hr:∀i(h:i<L.length),si mk nl L[i]):si mk nl (.mk 2 s n L f t a)
inductive ScE(mk:jl)(nl:List BA):(BA->Prop)->Nd->Prop where
 |low(dom:BA->Prop)(s:BA)(n f t a:Nat)(h:dom s):ScE mk nl dom (.mk 1 s n [] f t a)
 |up(dom:BA->Prop)(s:BA)(n f t a:Nat)(tk:List Ty)(m:Ty)(h:mk s=some (tk,m)):ScE mk nl dom (.mk 2 s n [] f t a)
 |leaf(dom:BA->Prop)(k:Nat)(s:BA)(n f t a:Nat)(h:k=3\/k=4\/k=5):ScE mk nl dom (.mk k s n [] f t a)
 |two(dom:BA->Prop)(k:Nat)(s:BA)(n:Nat)(x y:Nd)(f t a:Nat)(h:k=6\/k=7\/k=8)(hx:ScE mk nl dom x)(hy:ScE mk nl dom y):ScE mk nl dom (.mk k s n [x,y] f t a)
 |of(dom:BA->Prop)(s:BA)(n:Nat)(x y:Nd)(f t a:Nat)(hx:ScE mk nl dom x)(hv:vars [] (bt []<|es y).1=[])(hz:size (bt []<|es y).1<=1000)(hw:Whole (bt []<|es y).1):ScE mk nl dom (.mk 14 s n [x,y] f t a)
 |fn(dom:BA->Prop)(s:BA)(n:Nat)(x:Nd)(f t a:Nat)(hs:s∈nl)(hx:ScE mk nl (λv=>dom v\/v=s) x):ScE mk nl dom (.mk 9 s n [x] f t a)
 |lt(dom:BA->Prop)(c:Nat)(s:BA)(n:Nat)(x z:Nd)(f t a:Nat)(hs:s∈nl)(hc:c=10\/c=11)(hx:ScE mk nl (λv=>dom v\/(c=11/\v=s)) x)(hz:ScE mk nl (λv=>dom v\/v=s) z):ScE mk nl dom (.mk c s n [x,z] f t a)
 |ite(dom:BA->Prop)(s:BA)(n:Nat)(x y z:Nd)(f t a:Nat)(hx:ScE mk nl dom x)(hy:ScE mk nl dom y)(hz:ScE mk nl dom z):ScE mk nl dom (.mk 12 s n [x,y,z] f t a)
 |mt(dom:BA->Prop)(s:BA)(n:Nat)(x:Nd)(A:List (Nd×Nd))(f t a:Nat)(hx:ScE mk nl dom x)(hp:∀i(h:i<A.length),si mk nl A[i].1)(he:∀i(h:i<A.length),ScE mk nl (λv=>dom v\/v∈pM A[i].1) A[i].2):ScE mk nl dom (.mk 13 s n (x::aP A) f t a)
structure MkFine(mk:jl):Prop where
 sz:∀x tk m,mk x=some (tk,m)->size (jp tk m)<=1000
 wh:∀x tk m,mk x=some (tk,m)->Whole (jp tk m)
 vs:∀x tk m,mk x=some (tk,m)->∀n,aw n (jp tk m)->aw n m
structure CB nd c w cnt(s:jd)kb(Λ:Nat->Prop)(Γ:jc)gb Q dom v:Prop where
 we:WE w c cnt
 wk:WK w c cnt s kb
 hn:∀n,¬s.u n->Λ n
 wg:WG w c s Λ Γ gb
 pe:PE w Q nd v
 hq:∀b,Q b->b≠c.cb
 sc:ScE c.mks c.nl dom nd
 hd:∀x,dom x->Γ x≠none
 ft:Fit c cnt (nn nd)
 mf:MkFine c.mks
def Bv nd:=∀(c:WC)(w:World)(cnt:Nat)(s:jd)(kb:Nat)(Λ:Nat->Prop)(Γ:jc)(gb:Nat)(Q:Nat->Prop)(dom:BA->Prop)(v:Value),CB nd c w cnt s kb Λ Γ gb Q dom v->
 Cq 223 #[Pv c.eb,Mv kb,Mv gb,v] w (aZ c (1100*nn nd) (1000*nn nd) (jf c.mks nd Γ) s cnt w)
section
variable {c:WC} {cnt:Nat}
def CB.part(h:CB nd c w cnt s kb Λ Γ gb Q dom v)(hb:Bq w w1)(hp:PE w Q x u)(hs:ScE c.mks c.nl dom x)(hx:nn x<=nn nd):CB x c w1 cnt s kb Λ Γ gb Q dom u:=
 ⟨h.we.af hb,h.wk.af hb,h.hn,h.wg.af hb,hp.af hb,h.hq,hs,h.hd,h.ft.le ae hx,h.mf⟩
end
section
variable {c:WC} {cnt:Nat}
def Ij(mk:jl)s n x y f t a(Γ:jc):jf mk (.mk 8 s n [x,y] f t a) Γ=ja (jf mk x Γ) λa=>ja (jf mk y Γ) λb=>ja j6 λv=>ja (jo a (qf b<|.var v) f t) λ_=>jj<|.var v:=by simp[jf,jy,j7,j9]
def yR(h:WK w c cnt s kb)(hn:∀n,¬s.u n->Λ n)(hf:Fr (λi=>i=c.cb) w w1):j6 s (.ok (cnt+1,⟨s.k,λn=>s.u n\/n=cnt+1⟩))/\Eg w w1 c (cnt+1) s ⟨s.k,λn=>s.u n\/n=cnt+1⟩ Λ kb/\jk Λ ⟨s.k,λn=>s.u n\/n=cnt+1⟩ (.var<|cnt+1):=by
 have hm:j6 s (.ok (cnt+1,⟨s.k,λn=>s.u n\/n=cnt+1⟩)):=⟨cnt+1,λq=>by have:=h.u _ q;rw[us]at this;omega,rfl⟩;have⟨g1,g2,_⟩:=In.ig h.ok hn _ _ hm;exact⟨hm,⟨⟨h.k.fr hf h.n<|λ_ p _=>p,h.n,λn q=>by obtain q|q:=q;have:=h.u n q;unfold us at*;omega;rw[us];omega,g1.ok,h.wh⟩,g1.new,g1⟩,g2⟩
def aeV:CN pN:=xo rfl
def XI:pN≠sk:=by grind[sk]
def XK:m9≠sk:=by grind[sk]
def TW.fn{S1 S2}{a b}{va vb}(ha:TW w (dw c) S1 a va)(hb:TW w (dw c) S2 b vb)(hc:c.cb<w.heap.size):TW (w.alloc<|.cells #[va,vb] 87) (dw c) (1+S1+S2) (qf a b) (.iface 165<|.agg #[.string<|pn pN,.slice (some ⟨w.heap.size,0,none⟩) 2 2]):=by
 obtain⟨⟨x1,y1,e1,z1⟩,wx⟩:=ha;obtain⟨⟨x2,y2,e2,z2⟩,wy⟩:=hb;exact⟨⟨.aM pN [x1,x2],m_.ty aeV y1 y2 (by show w.heap.size≠c.cb;omega),dR.af2 pN XI e1 e2,by simp only[size,ak];omega⟩,⟨XI,wx,wy,trivial⟩⟩
def acE{s}{a b}(ha:jk Λ s a)(hb:jk Λ s b):jk Λ s (qf a b):=by
 refine⟨λn q=>?_,λn q=>?_⟩
 .simp only[aw,bW,or_false]at q;exact q.elim (ha.use n)<|hb.use n
 .simp only[sub,aT,aw,bW,or_false]at q;exact q.elim (ha.loc n)<|hb.loc n
def m7.or{x}(h:m7 c cnt s Λ x y f t w e w'):XH c s x y f t w e w'\/BN c cnt s Λ x y f t w e w':=by
 by_cases hc:af1 s x y
 .exact xn (h.ok hc)
 .exact xo (h.no hc)
end
section
variable {c:WC} {cnt:Nat}
def Nc(mk:jl)s n x f t a(Γ:jc):jf mk (.mk 9 s n [x] f t a) Γ=ja j6 λv=>ja (jf mk x<|jq Γ s<|qi<|.var v) λa=>jj<|qf (.var v) a:=by simp[jf,jy,j7,j9]
def pO w c n S(h:1<=S):TW w (dw c) S (.var<|n+1) (.iface 152<|Iv<|(n:Int)+1):=TW.of (x:=.var<|n+1) (by have:=db.var (w:=w) (P:=dw c)<|n+1;simpa using this) trivial (by simpa[size]using h)
def Ik(h:TW w (dw c) S T (.iface ta xa))(hS:S<=900000):n_ w (dw c) (qi T) (.agg #[.iface ta xa,.slice none 0 0]):=⟨ta,xa,none,0,rfl,h.le hS,xo rfl⟩
def WG.set{w':World}{XL:Nat}{d:qr}{x:BA}(h:WG w c s Λ Γ gb)(he:bS w' (dw c) XL (jq Γ x d))(hn:XL≠c.cb)(hi:In.nV Λ s d)(hd:d.any.Nodup)(hx:x∈c.nl):WG w' c s Λ (jq Γ x d) XL where
 e:=he
 n:=hn
 i:=h.i.set x hi
 nd y d' q:=by
  rw[jq]at q;split at q
  .grind
  .exact h.nd y d' q
 dm y q:=by
  rw[jq]at q;split at q
  .rename_i e;rw[e];exact hx
  .exact h.dm y q
def Ei{x}(h:∀y,dom y->Γ y≠none):∀y,(dom y\/y=x)->jq Γ x d y≠none:=λy q=>by
 rw[jq];split
 .simp
 .grind
end
structure acF(c:WC)S D(m:ji Ty)(s:jd)cnt w(ah:Nat)(T:Ty)(s1:jd)(ta:TypeId)(xa:Value)(iV:Nat)(w':World):Prop where
 F:Fr (λi=>i=c.cb) w w'
 c1:cnt<=ah
 c2:ah<=cnt+D
 we:WE w' c ah
 m:m s (.ok (T,s1))
 u:∀n,s1.u n->s.u n\/(cnt<n/\n<=ah)
 wh:∀n,Whole<|s1.k n
 n:iV≠c.cb
 k:KW w' (dw c) iV s1.k
 t:TW w' (dw c) S T (.iface ta xa)
structure af3{α:Type}(c:WC)D(m:ji α)(s:jd)cnt w(ah:Nat)(z:j8)(vl vr:Value)(w':World):Prop where
 F:Fr (λi=>i=c.cb) w w'
 c1:cnt<=ah
 c2:ah<=cnt+D
 we:WE w' c ah
 m:m s (.error z)
 f:ru w' (dw c) z vl vr
section
variable {c:WC} {cnt:Nat} {m:ji α} {g:α->ji Ty} {a:α}
def am8{p:Prop}(h:p:=by
 split
 .obtain⟨q1,q2⟩:=h5;refine⟨λn q=>?_,q2⟩;obtain r|r:=q1 n q
  .grind
  .omega
 .exact h5):p:=h
def aZ.and(h:aZ c S D1 (g a) s1 ah w1 e w')(hm:m s (.ok (a,s1)))(hf:Fr (λi=>i=c.cb) w w1)(hc:cnt<=ah)(hu:∀n,s1.u n->s.u n\/(cnt<n/\n<=ah))(hD:ah+D1<=cnt+D):aZ c S D (ja m g) s cnt w e w':=by
 obtain⟨F,aD,o,h1,h2,h3,h4,h5⟩:=h;refine⟨hf.trans F,aD,o,ae,ae,h3,xn ⟨a,s1,hm,h4⟩,?_⟩;unfold af0 at*;exact am8
def Sz{p:Prop}(h:p:=by
 obtain⟨vl,vr,rfl,hF⟩:=h5
 exact xo ⟨aD,z,vl,vr,rfl,F,h1,h2,h3,h4,hF⟩):p:=h
def aZ.split{m}(h:aZ c S D m s cnt w e w'):(∃ah z vl vr,e=CA z.f vl vr/\af3 c D m s cnt w ah z vl vr w')\/(∃ah T s1 ta xa iV,e=.returned (.tuple #[.iface ta xa,Mv iV])/\acF c S D m s cnt w ah T s1 ta xa iV w'):=by
 obtain⟨F,aD,o,h1,h2,h3,h4,h5⟩:=h;obtain z|⟨T,s1⟩:=o
 .exact Sz
 .obtain⟨q1,q2,ta,xa,kb,rfl,q3,q4,q5⟩:=h5;exact xn ⟨aD,T,s1,ta,xa,kb,rfl,F,h1,h2,h3,h4,q1,q2,q3,q4,q5⟩
def af3.post{z}(h:af3 c D1 m s cnt w0 ah z vl vr w')(hf:Fr (λi=>i=c.cb) w w0)(hD:D1<=D):aZ c S D (ja m g) s cnt w (CA z.f vl vr) w':=⟨hf.trans h.F,ah,.error z,h.c1,by have:=h.c2;omega,h.we,xo ⟨z,h.m,rfl⟩,vl,vr,rfl,h.f⟩
def P7(hw:WE w c cnt)(hk:WK w c cnt s kb)(ht:TW w (dw c) S T (.iface ta xa))(hb:Fr (λi=>i=c.cb) w0 w):aZ c S D (jj T) s cnt w0 (.returned<|.tuple #[.iface ta xa,Mv kb]) w:=⟨hb,cnt,.ok (T,s),br _,ae,hw,rfl,λn q=>xo q,hk.wh,ta,xa,kb,rfl,hk.n,hk.k,ht⟩
def XH.post{x:Ty}(h:XH c s x y f t w0 e w')(hw:WE w0 c cnt)(hf:Fr (λi=>i=c.cb) w w0){g}:∃fl vl vr,e=CA fl vl vr/\aZ c S D (ja (jo x y f t) g) s cnt w e w':=by
 obtain⟨fl,vl,vr,rfl,k6,z,rfl,he,hF⟩:=h;exact⟨z.f,vl,vr,rfl,hf.trans<|Fr.of k6,cnt,.error z,br _,ae,hw.af k6,xo ⟨z,he,rfl⟩,vl,vr,rfl,hF⟩
def BN.up{x y:Ty}{f t:Nat}(h:BN c cnt s Λ x y f t w0 e w')(hb:Bq w w0):BN c cnt s Λ x y f t w e w':=by
 obtain⟨b,h1,h2,h3⟩:=h;exact⟨b,h1,hb.trans<|h2.mono hb.size,h3⟩
def Eg.and{w2}{cJ kb2}{s2}(h:Eg w w1 c ah s s1 Λ iV)(k:Eg w1 w2 c cJ s1 s2 Λ kb2):Eg w w2 c cJ s s2 Λ kb2:=⟨k.k,k.n,h.p.trans k.p⟩
def acF.step{mk}{x}{T}{ta}{xa}(q:acF c S D (jf mk x Γ) s cnt w0 ah T s1 ta xa iV w1)(hk:WK w c cnt s kb)(hn:∀n,¬s.u n->Λ n)(hg:WG w c s Λ Γ gb):Eg w w1 c ah s s1 Λ iV/\jk Λ s1 T:=XG hk hn hg q.m q.u q.c1 q.wh q.n q.k
def Cl c S D(p:ji Ty)(s:jd)cnt w D1(p1:ji Ty)(s1:jd)ah w1:=∀e w',aZ c S D1 p1 s1 ah w1 e w'->aZ c S D p s cnt w e w'
def Cl.refl c S D(p:ji Ty)(s:jd)cnt w:Cl c S D p s cnt w D p s cnt w:=λ_ _ h=>h
def Cl.and{p}{w2}{cJ}{s2}(h:Cl c S D p s cnt w D1 (ja m g) s1 ah w1)(hm:m s1 (.ok (a,s2)))(hf:Fr (λi=>i=c.cb) w1 w2)(hc:ah<=cJ)(hu:∀n,s2.u n->s1.u n\/(ah<n/\n<=cJ)){D2}(hD:cJ+D2<=ah+D1):Cl c S D p s cnt w D2 (g a) s2 cJ w2:=λe w' hh=>h e w'<|hh.and hm hf hc hu hD
def vP{k}(hu:od k)w c S(h:1<=S):TW w (dw c) S (.aM k []) (.iface 165<|.agg #[.string k,.slice none 0 0]):=by
 have q:=db.aM (w:=w) (P:=dw c) k [] none 0 (λ_=>Zv) (xo<|xn<|xn hu) (xo rfl)<|λi h=>vQ;rw[fh hu]at q;exact TW.of q ⟨λe=>by obtain⟨a,r,h1,h2⟩:=hu;rw[e,show sk.toList=[116,111,111,32,108,97,114,103,101]from toList_mk _]at h1;injection h1 with h1 _;subst h1;revert h2;decide,trivial⟩ (by simpa[size,ak]using h)
def ux k:jk Λ s (.aM k []):=⟨λn q=>by simp[aw,bW]at q,λn q=>by simp[sub,aT,aw,bW]at q⟩
end
section
variable {c:WC} {cnt:Nat}
def P8(mk:jl)s n x y z f t a(Γ:jc):jf mk (.mk 12 s n [x,y,z] f t a) Γ=ja (jf mk x Γ) λa=>ja (jo a In.oB (jt x)<|jv x) λ_=>ja (jf mk y Γ) λb=>ja (jf mk z Γ) λc=>ja (jo b c (jt z)<|jv z) λ_=>jj b:=by simp[jf,jy,j7,j9,In.j_]
end
section
variable {c:WC} {cnt:Nat} {p:ji Ty}
def aZ.below(h:aZ c S D p s cnt w0 e w')(hb:Bq w w0):aZ c S D p s cnt w e w':=⟨(Fr.of hb).trans h.1,h.2⟩
def Dsp w c cnt(s:jd)kb gb S D(p:ji Ty)fn T xs:=
 (∀W:World,Bq w W->Cq fn #[Pv c.eb,Mv kb,Mv gb,.agg xs] W (aZ c S D p s cnt W))->
  Cq 223 #[Pv c.eb,Mv kb,Mv gb,.iface T<|.agg xs] w (aZ c S D p s cnt w)
def Im:
 (∀{tx ty ax ay},Dsp w c cnt s kb gb S D p 238 221 #[Nv f,Nv t,.iface tx ax,.iface ty ay])/\
 (∀{tx ty ax ay},Dsp w c cnt s kb gb S D p 239 224 #[Nv f,Nv t,.iface tx ax,.iface ty ay])/\
 (∀{tx ty ax ay},Dsp w c cnt s kb gb S D p 245 238 #[Nv f,Nv t,.iface tx ax,.iface ty ay])/\
 (∀{a y:Nat}{st tx ax},Dsp w c cnt s kb gb S D p 240 226 #[Nv f,Nv t,Nv a,Nv y,.string st,.iface tx ax])/\
 (∀{a y:Nat}{rc st tx tz ax az},Dsp w c cnt s kb gb S D p 241 228 #[Nv f,Nv t,.bool rc,Nv a,Nv y,.string st,.iface tx ax,.iface tz az])/\
 (∀{tx ty tz ax ay az},Dsp w c cnt s kb gb S D p 242 230 #[Nv f,Nv t,.iface tx ax,.iface ty ay,.iface tz az])/\
 (∀{n sc sa tx ax},Dsp w c cnt s kb gb S D p 243 233 #[Nv f,Nv t,.iface tx ax,.slice sa n sc])/\
 (∀{st tx ty ax ay},Dsp w c cnt s kb gb S D p 244 236 #[Nv f,Nv t,.string st,.iface tx ax,.iface ty ay]):=by
 refine⟨?_,?_,?_,?_,?_,?_,?_,?_⟩;all_goals
  intros;intro H;go_enter func223,ntmps223;go_wp2_with fail;refine(H _<|bw _).mono ?_;intro e w1 hp;have HP:=ai<|hp.below<|bw _;obtain⟨ah,zz,vl,vr,rfl,q⟩|⟨ah,T1,s1,yT,yU,iV,rfl,q⟩:=hp.split
  .go_wp2
   exact⟨rfl,HP⟩
  .go_wp2
   go_ret2;exact HP
def XP(hw:WE w c cnt)(hk:WK w c cnt s kb)(hS:1<=S):
 (∀n:Nat,Cq 223 #[Pv c.eb,Mv kb,Mv gb,.iface 201<|.agg #[Nv f,Nv t,Nv n]] w<|aZ c S D (jj<|.aM ry []) s cnt w)/\
 (∀n:Bool,Cq 223 #[Pv c.eb,Mv kb,Mv gb,.iface 204<|.agg #[Nv f,Nv t,.bool n]] w<|aZ c S D (jj<|.aM ys []) s cnt w)/\
 Cq 223 #[Pv c.eb,Mv kb,Mv gb,.iface 259<|.agg #[Nv f,Nv t]] w (aZ c S D (jj<|.aM iW []) s cnt w):=by
 have HW:=ai hw;have HK:=ai hk;clear hw hk;refine⟨λn=>?_,λn=>?_,?_⟩;all_goals
  go_enter func223,ntmps223;go_wp2_with fail;first|refine sA.mono ?_|refine oC.mono ?_|refine yV.mono ?_
  rintro e w1⟨rfl,rfl⟩
  go_wp2
  go_ret2;have k0:=(zx w.heap.size w).alloc<|br _;first|exact P7 (HW.af<|k0 _) (HK.af<|k0 _) (vP ng _ c _ hS) (Fr.of<|k0 _)|exact P7 (HW.af<|k0 _) (HK.af<|k0 _) (vP lj _ c _ hS) (Fr.of<|k0 _)|exact P7 (HW.af<|k0 _) (HK.af<|k0 _) (vP sB _ c _ hS)<|Fr.of<|k0 _
end
abbrev qC(c:WC)gv i:=i≠c.cb/\i≠gv
structure CC w c gv cnt(s:jd)kb:Prop where
 k:KW w (qC c gv) kb s.k
 n:qC c gv kb
 u:∀n,s.u n->us cnt n
 ok:In.Ok s
 wh:∀n,Whole<|s.k n
section
variable {c:WC} {cnt:Nat}
def CC.wk(h:CC w c gv cnt s kb):WK w c cnt s kb:=⟨h.k.wide λ_ p=>p.1,h.n.1,h.u,h.ok,h.wh⟩
def CC.of(h:WK w c cnt s kb)(hg:w.heap.size<=gv):CC w c gv cnt s kb:=⟨h.k.move (br _) rfl (λ_ _ _=>rfl) (λi p z=>⟨p,ae⟩),⟨h.n,by have:=h.k.lt;omega⟩,h.u,h.ok,h.wh⟩
def CC.fr(h:CC w c gv cnt s kb)(hf:Fr (λi=>i=c.cb\/i=gv) w w'):CC w' c gv cnt s kb:=⟨h.k.fr hf (λq=>q.elim h.n.1 h.n.2)<|λi p _ q=>q.elim p.1 p.2,h.n,h.u,h.ok,h.wh⟩
def CC.af(h:CC w c gv cnt s kb)(hb:Bq w w'):CC w' c gv cnt s kb:=h.fr<|Fr.of hb
def aiH c gv cnt(s:jd)Λ x y f t w(e:Ending)w':=∃b,e=.returned (Mv b)/\Bq w w'/\∃s',jo x y f t s (.ok ((),s'))/\qh Λ s s'/\CC w' c gv cnt s' b/\s'.u=s.u
def aiI(h:WE w c cnt)(hg:gv<w.heap.size)(hk:CC w c gv cnt s kb)(hn:∀n,¬s.u n->Λ n)(hc:cnt<=1000000)(hS:S<=900000){x}(hx:TW w (qC c gv) S x v)(hy:TW w (qC c gv) S y u)(tx:jk Λ s x)(ty:jk Λ s y)f t:
 Cq 224 #[Mv kb,v,u,.agg #[Nv f,Nv t]] w (λe w'=>XH c s x y f t w e w'\/aiH c gv cnt s Λ x y f t w e w'):=by
 have zc:=h.dt;refine(Ii hk.k hk.n (hk.wk.Ee hc<|xn trivial) hS hx hy f t s.u).mono ?_;rintro e w1⟨k1,o,ho,hm⟩
 cases o with
 |ok q=>
  obtain⟨b,rfl,hb,hK,hW⟩:=hm;have⟨g1,_⟩:=In.fH (s:=s) hk.ok hn tx ty f t q.1 q.2 ho;have hu:q.2.u=s.u:=by
   exact RE
  exact xn ⟨b,rfl,k1,q.2,ho,g1,⟨hK.wide λi p=>by obtain p|p:=p;exact p;exact⟨ae,ae⟩,⟨ae,ae⟩,λn q=>hk.u n<|hu▸q,g1.ok,hW⟩,hu⟩
 |error z=>
  obtain⟨vl,vr,rfl,hF⟩:=hm;refine xo ⟨z.f,vl,vr,rfl,k1,z,rfl,ho,hF.qN,λq=>?_,hF.k⟩;have wd:∀i,(qC c gv i\/w.heap.size<=i)->dw c i:=λi p=>by obtain p|p:=p;exact p.1;show i≠c.cb;omega
  exact⟨(hF.apart q).1.wide wd,(hF.apart q).2.wide wd⟩
end
def aiJ(c:WC)(gv S:Nat)(s:jd)(cnt:Nat)(w':World)(aD:Nat)(e:Ending)(o:Except j8 ((Ty×jc)×jd)):Prop:=match o with
 |.ok ((T,g'),s')=>(∀n,s'.u n->s.u n\/(cnt<n/\n<=aD))/\(∀n,Whole<|s'.k n)/\∃ta xa kb,e=.returned (.tuple #[.iface ta xa,Mv kb])/\qC c gv kb/\KW w' (qC c gv) kb s'.k/\TW w' (qC c gv) S T (.iface ta xa)/\bS w' (qC c gv) gv g'|.error z=>∃vl vr,e=CA z.f vl vr/\ru w' (dw c) z vl vr
def ew c gv S D(p:ji (Ty×jc))(s:jd)cnt w e w':=Fr (λi=>i=c.cb\/i=gv) w w'/\∃aD o,cnt<=aD/\aD<=cnt+D/\WE w' c aD/\p s o/\aiJ c gv S s cnt w' aD e o
structure PaA nd c w cnt(s:jd)kb(Λ:Nat->Prop)g gv Q v:Prop where
 we:WE w c cnt
 wk:CC w c gv cnt s kb
 hn:∀n,¬s.u n->Λ n
 e:bS w (qC c gv) gv g
 i:jx Λ s g
 l:c.fZ<=gv
 pp:PP w Q nd v
 hq:∀b,Q b->b≠c.cb/\b≠gv
 sc:si c.mks c.nl nd
 ft:Fit c cnt (nn nd)
 mf:MkFine c.mks
def XQ nd:=∀(c:WC)(w:World)(cnt:Nat)(s:jd)(kb:Nat)(Λ:Nat->Prop)(g:jc)(gv:Nat)(Q:Nat->Prop)(v:Value),PaA nd c w cnt s kb Λ g gv Q v->
 Cq 257 #[Pv c.eb,Mv kb,Mv gv,v] w (ew c gv (1100*nn nd) (1000*nn nd) (jh c.mks nd g) s cnt w)
section
variable {c:WC} {cnt:Nat}
def aeW(hw:WE w c cnt)(hk:CC w c gv cnt s kb)(ht:TW w (qC c gv) S T (.iface ta xa))(he:bS w (qC c gv) gv g)(hb:Fr (λi=>i=c.cb\/i=gv) w0 w):ew c gv S D (jj (T,g)) s cnt w0 (.returned<|.tuple #[.iface ta xa,Mv kb]) w:=⟨hb,cnt,.ok ((T,g),s),br _,ae,hw,rfl,λn q=>xo q,hk.wh,ta,xa,kb,rfl,hk.n,hk.k,ht,he⟩
def aiK{k}(hu:od k)w c gv S(h:1<=S):TW w (qC c gv) S (.aM k []) (.iface 165<|.agg #[.string k,.slice none 0 0]):=TW.of (Io w _ hu) ⟨λe=>by obtain⟨a,r,h1,h2⟩:=hu;rw[e,show sk.toList=[116,111,111,32,108,97,114,103,101]from toList_mk _]at h1;injection h1 with h1 _;subst h1;revert h2;decide,trivial⟩ (by simpa[size,ak]using h)
def Ej w c gv n S(h:1<=S):TW w (qC c gv) S (.var<|n+1) (.iface 152<|Iv<|(n:Int)+1):=TW.of (x:=.var<|n+1) (by have:=db.var (w:=w) (P:=qC c gv)<|n+1;simpa using this) trivial (by simpa[size]using h)
end
def Ek(hq:k=3/\cn=ry\/k=4/\cn=ys\/k=5/\cn=iW)st n f t a:XQ (.mk k st n [] f t a):=by
 intro c w cnt s kb Λ g gv Q v h;have hu:od cn:=by obtain⟨-,rfl⟩|⟨-,rfl⟩|⟨-,rfl⟩:=hq;exact ng;exact lj;exact sB
 have en:nn (.mk k st n [] f t a)=1:=qBi;have ep:jh c.mks (.mk k st n [] f t a) g=jj (.aM cn [],g):=by obtain⟨rfl,rfl⟩|⟨rfl,rfl⟩|⟨rfl,rfl⟩:=hq<;>simp[jh,jz]
 rw[en,ep];have hp:=h.pp;obtain⟨T,xs,rfl,hv⟩:∃T xs,v=Fv T (Av xs)/\(T=201/\cn=ry/\(∃n:Nat,xs=#[Nv f,Nv t,Nv n])\/T=204/\cn=ys/\(∃n:Bool,xs=#[Nv f,Nv t,.bool n])\/T=259/\cn=iW/\xs=#[Nv f,Nv t]):=by
  obtain⟨rfl,rfl⟩|⟨rfl,rfl⟩|⟨rfl,rfl⟩:=hq
  .cases hp;exact⟨_,_,rfl,xo ⟨rfl,rfl,_,rfl⟩⟩
  .cases hp;exact⟨_,_,rfl,xn<|xo ⟨rfl,rfl,_,rfl⟩⟩
  .cases hp;exact⟨_,_,rfl,xn<|xn ⟨rfl,rfl,rfl⟩⟩
 have k0:=(zx w.heap.size w).alloc (br _)<|Cv xs T;have HW:=h.we.af k0;have HK:=h.wk.af k0;have HE:=h.e.af k0;have K0:=ai k0;clear hq hp ep;obtain⟨rfl,rfl,n,rfl⟩|⟨rfl,rfl,n,rfl⟩|⟨rfl,rfl,rfl⟩:=hv;all_goals
  go_enter func257,ntmps257;go_wp2_with fail;first|refine sA.mono ?_|refine oC.mono ?_|refine yV.mono ?_
  rintro e w1⟨rfl,rfl⟩
  go_wp2
  go_ret2;exact aeW HW HK (aiK hu _ c gv _ ae) HE<|Fr.of K0
def af5 st n f t a:XQ (.mk 15 st n [] f t a):=by
 intro c w cnt s kb Λ g gv Q v h;have en:nn (.mk 15 st n [] f t a)=1:=qBi;have ep:jh c.mks (.mk 15 st n [] f t a) g=ja j6 λv=>jj (.var v,g):=by simp[jh,jz]
 rw[en,ep];obtain⟨-,rfl⟩:∃_:Unit,v=Fv 260 (Av #[Nv f,Nv t]):=by cases h.pp;exact⟨(),rfl⟩
 have k0:Bq w (w.alloc<|Cv #[Nv f,Nv t] 260):=bw _;have zc:=h.we.dt;have WZ:=h.ft.a;rw[en]at WZ;have W0:=ai<|h.we.af k0;have⟨e1,e2,e3⟩:=h.we.bx;have HF:=oA cnt ae (h.we.af k0).ct;have HA:=ai h;have K0:=ai k0;have lg:=h.e.lt;have ll:=h.l;have lc:=h.we.l;clear h k0;go_enter func257,ntmps257;go_wp2_with fail;refine HF.mono ?_;rintro e w3⟨rfl,XS⟩;have⟨uy,F3⟩:=W0.fresh;rw[<-XS]at uy F3;clear XS HF e1 e2 e3;have h:=uh HA;have Mt:=(Fr.of (S:=λi=>i=c.cb) K0).trans F3;have⟨BO,pQ,ty3⟩:=yR h.wk.wk h.hn Mt;have FG:=Mt.fZ (T:=λi=>i=c.cb\/i=gv) λ_ q=>Or.inl q;have HW3:=ai uy;have FF:=ai FG;have HNW:=ai BO;have af6:=ai Mt;clear h F3 Mt FG BO pQ ty3 uy
 go_wp2
 go_ret2;have h:=uh HA;have k3:=h.wk.fr FF;exact⟨FF,cnt+1,.ok ((.var<|cnt+1,g),⟨s.k,λn=>s.u n\/n=cnt+1⟩),ae,ae,HW3,xn ⟨cnt+1,_,HNW,rfl⟩,λn q=>q.imp id λq=>ae,h.wk.wh,_,_,kb,rfl,k3.n,k3.k,Ej _ c gv cnt _ ae,h.e.move FF.size (af6.block _ h.e.lt ae) (λb p z=>FF.block b z<|λq=>q.elim p.1 p.2)<|λ_ p _=>p⟩
def af7 st n f t a:XQ (.mk 1 st n [] f t a):=by
 intro c w cnt s kb Λ g gv Q v h;have en:nn (.mk 1 st n [] f t a)=1:=qBi;have ep:jh c.mks (.mk 1 st n [] f t a) g=ja j6 λv=>jj (.var v,jq g st<|qi<|.var v):=by simp[jh,jz]
 have gL:=yw;rw[en,ep];obtain⟨-,rfl⟩:∃_:Unit,v=Fv 198 (Av #[Nv f,Nv t,Sv st]):=by cases h.pp;exact⟨(),rfl⟩
 have⟨k0,B0⟩:=rq w #[Nv f,Nv t,Sv st] 198;have zc:=h.we.dt;have WZ:=h.ft.a;rw[en]at WZ;have W0:=h.we.af k0;have⟨e1,e2,e3⟩:=h.we.bx;have HF:=oA cnt ae (h.we.af k0).ct;have HA:=ai h;have K0:=ai k0;have lg:=h.e.lt;have ll:=h.l;have lc:=h.we.l;clear h k0;go_enter func257,ntmps257;go_wp2_with fail;refine HF.mono ?_;rintro e w3⟨rfl,XS⟩;have⟨HW3,F3⟩:=W0.fresh;rw[<-XS]at HW3 F3;clear XS HF e1 e2 e3;have h:=uh HA;have Mt:=(Fr.of (S:=λi=>i=c.cb) K0).trans F3;have⟨HNW,pQ,ty3⟩:=yR h.wk.wk h.hn Mt;have FF:=Mt.fZ (T:=λi=>i=c.cb\/i=gv) λ_ q=>Or.inl q;have E3:=h.e.move (Q:=qC c gv) Mt.size (Mt.block _ h.e.lt ae) (λb p z=>Mt.block b z p.1)<|λ_ p _=>p;have C3:n_ w3 (qC c gv) (In.mono<|.var<|cnt+1) (Av #[Fv 152<|Iv<|(cnt:Int)+1,Lv none 0 0]):=⟨_,_,none,0,rfl,Ej w3 c gv cnt _ ae,Or.inl rfl⟩;have⟨b1,b2,b3⟩:=B0.fr F3 ae;clear h F3 Mt pQ ty3 B0;go_wp2_with(refine oq rfl _ _ _ (Or.inr rfl) rfl E3 (λq=>q.2 rfl) C3 st rfl rfl ?_;intro w4 H' O';have S4:=ai H';have O4:=ai O';clear H' O');go_ret2;have h:=uh HA;have o:=uh O4;have F4:Fr (λi=>i=c.cb\/i=gv) w3 w4:=⟨o.os,o.tape,o.output,Mn,λi _ hi=>o.block i λe=>hi<|Or.inr e⟩;have k3:=h.wk.fr<|FF.trans F4
 exact⟨FF.trans F4,cnt+1,.ok ((.var<|cnt+1,jq g st<|qi<|.var<|cnt+1),⟨s.k,λn=>s.u n\/n=cnt+1⟩),ae,ae,HW3.one o ae,xn ⟨cnt+1,_,HNW,rfl⟩,λn q=>q.imp id λq=>ae,h.wk.wh,_,_,kb,rfl,k3.n,k3.k,Ej _ c gv cnt _ ae,S4⟩
structure acH(c:WC)gv S D(m:ji (Ty×jc))(s:jd)cnt w(ah:Nat)(T:Ty)(g1:jc)(s1:jd)(ta:TypeId)(xa:Value)(iV:Nat)(w':World):Prop where
 F:Fr (λi=>i=c.cb\/i=gv) w w'
 c1:cnt<=ah
 c2:ah<=cnt+D
 we:WE w' c ah
 m:m s (.ok ((T,g1),s1))
 u:∀n,s1.u n->s.u n\/(cnt<n/\n<=ah)
 wh:∀n,Whole<|s1.k n
 n:qC c gv iV
 k:KW w' (qC c gv) iV s1.k
 t:TW w' (qC c gv) S T (.iface ta xa)
 e:bS w' (qC c gv) gv g1
structure acI{α:Type}(c:WC)gv D(m:ji α)(s:jd)cnt w(ah:Nat)(z:j8)(vl vr:Value)(w':World):Prop where
 F:Fr (λi=>i=c.cb\/i=gv) w w'
 c1:cnt<=ah
 c2:ah<=cnt+D
 we:WE w' c ah
 m:m s (.error z)
 f:ru w' (dw c) z vl vr
section
variable {c:WC} {cnt:Nat} {m:ji α} {gg:α->ji (Ty×jc)} {a:α}
def ew.split{m}(h:ew c gv S D m s cnt w e w'):(∃ah z vl vr,e=CA z.f vl vr/\acI c gv D m s cnt w ah z vl vr w')\/(∃ah T g1 s1 ta xa iV,e=.returned (.tuple #[.iface ta xa,Mv iV])/\acH c gv S D m s cnt w ah T g1 s1 ta xa iV w'):=by
 obtain⟨F,aD,o,h1,h2,h3,h4,h5⟩:=h;obtain z|⟨⟨T,g1⟩,s1⟩:=o
 .exact Sz
 .obtain⟨q1,q2,ta,xa,kb,rfl,q3,q4,q5,q6⟩:=h5;exact xn ⟨aD,T,g1,s1,ta,xa,kb,rfl,F,h1,h2,h3,h4,q1,q2,q3,q4,q5,q6⟩
def acI.post{z}(h:acI c gv D1 m s cnt w0 ah z vl vr w')(hf:Fr (λi=>i=c.cb\/i=gv) w w0)(hD:D1<=D):ew c gv S D (ja m gg) s cnt w (CA z.f vl vr) w':=⟨hf.trans h.F,ah,.error z,h.c1,by have:=h.c2;omega,h.we,xo ⟨z,h.m,rfl⟩,vl,vr,rfl,h.f⟩
def ew.and(h:ew c gv S D1 (gg a) s1 ah w1 e w')(hm:m s (.ok (a,s1)))(hf:Fr (λi=>i=c.cb\/i=gv) w w1)(hc:cnt<=ah)(hu:∀n,s1.u n->s.u n\/(cnt<n/\n<=ah))(hD:ah+D1<=cnt+D):ew c gv S D (ja m gg) s cnt w e w':=by
 obtain⟨F,aD,o,h1,h2,h3,h4,h5⟩:=h;refine⟨hf.trans F,aD,o,ae,ae,h3,xn ⟨a,s1,hm,h4⟩,?_⟩;unfold aiJ at*;exact am8
def PCl c gv S D(p:ji (Ty×jc))(s:jd)cnt w D1(p1:ji (Ty×jc))(s1:jd)ah w1:=∀e w',ew c gv S D1 p1 s1 ah w1 e w'->ew c gv S D p s cnt w e w'
def PCl.refl c gv S D(p:ji (Ty×jc))(s:jd)cnt w:PCl c gv S D p s cnt w D p s cnt w:=λ_ _ h=>h
def PCl.and{p}{w2}{cJ}{s2}(h:PCl c gv S D p s cnt w D1 (ja m gg) s1 ah w1)(hm:m s1 (.ok (a,s2)))(hf:Fr (λi=>i=c.cb\/i=gv) w1 w2)(hc:ah<=cJ)(hu:∀n,s2.u n->s1.u n\/(ah<n/\n<=cJ)){D2}(hD:cJ+D2<=ah+D1):PCl c gv S D p s cnt w D2 (gg a) s2 cJ w2:=λe w' hh=>h e w'<|hh.and hm hf hc hu hD
end
section
variable {c:WC} {cnt:Nat}
def PaA.part(h:PaA nd c w cnt s kb Λ g gv Q v)(hb:Bq w w1)(hp:PP w Q x u)(hs:si c.mks c.nl x)(hx:nn x<=nn nd):PaA x c w1 cnt s kb Λ g gv Q u:=
 ⟨h.we.af hb,h.wk.af hb,h.hn,h.e.af hb,h.i,h.l,hp.af hb,h.hq,hs,h.ft.le ae hx,h.mf⟩
structure aiL w1 c gv ah(s s1:jd)(Λ:Nat->Prop)iV(g1:jc)T:Prop where
 k:CC w1 c gv ah s1 iV
 n:∀n,¬s1.u n->Λ n
 p:qh Λ s s1
 i:jx Λ s1 g1
 t:jk Λ s1 T
def acH.step{mk}{w0}{T}{ta}{xa}(q:acH c gv S D (jh mk x g) s cnt w0 ah T g1 s1 ta xa iV w1)(hk:CC w c gv cnt s kb)(hn:∀n,¬s.u n->Λ n)(hi:jx Λ s g):aiL w1 c gv ah s s1 Λ iV g1 T:=by
 have⟨g1',g2,g3⟩:=In.uz mk x g s Λ hk.ok hn hi _ s1 q.m;exact⟨⟨q.k,q.n,λn p=>by obtain r|r:=q.u n p;have:=hk.u n r;have:=q.c1;unfold us at*;omega;rw[us];omega,g1'.ok,q.wh⟩,g1'.new,g1',g3,g2⟩
end
section
variable {c:WC} {cnt:Nat}
def PaA.next(h:PaA nd c w cnt s kb Λ g gv Q v)(hf:Fr (λi=>i=c.cb\/i=gv) w w1)(hw:WE w1 c ah)(st:aiL w1 c gv ah s0 s1 Λ iV g1 T)(he:bS w1 (qC c gv) gv g1)(hp:PP w Q x u)(hs:si c.mks c.nl x)(hz:ah+1000*nn x<=cnt+1000*nn nd)(hx:nn x<=nn nd):PaA x c w1 ah s1 iV Λ g1 gv Q u:=
 ⟨hw,st.k,st.n,he,st.i,h.l,hp.move hf.size (λb p z=>hf.block b z λq=>q.elim (h.hq b p).1 (h.hq b p).2)<|λ_ p _=>p,h.hq,hs,h.ft.le hz hx,h.mf⟩
def XT(mk:jl)s n x y f t a(g:jc):jh mk (.mk 6 s n [x,y] f t a) g=ja (jh mk x g) λa=>ja (jh mk y a.2) λb=>jj (qn a.1 b.1,b.2):=by simp[jh,jz,qk,j9]
end
def aiM st n f t a{y}(Hx:XQ x)(Hy:XQ y):XQ (.mk 6 st n [x,y] f t a):=by
 intro c w cnt s kb Λ g gv Q v h;have en:nn (.mk 6 st n [x,y] f t a)=1+nn x+nn y:=Mu;rw[XT];obtain⟨sx,sy⟩:si c.mks c.nl x/\si c.mks c.nl y:=by
  cases h.sc with
  |pr _ _ _ _ _ _ _ hx hy=>exact⟨hx,hy⟩
 obtain⟨vx,vy,rfl,hx,HY⟩:∃vx vy,v=Fv 265 (Av #[Nv f,Nv t,vx,vy])/\PP w Q x vx/\PP w Q y vy:=by cases h.pp with|pr _ _ _ _ _ _ _ vx vy hx hy=>exact⟨vx,vy,rfl,hx,hy⟩
 have⟨k0,B0⟩:=rq w #[Nv f,Nv t,vx,vy] 265;have H1:=Hx c _ cnt s kb Λ g gv Q vx<|h.part k0 hx sx El;have zc:=h.we.dt;have lg:=h.e.lt;have HA:=ai h;have C0:=PCl.refl c gv (1100*(1+nn x+nn y)) (1000*(1+nn x+nn y)) (In.andM (In.dv c.mks x g) λa=>In.andM (In.dv c.mks y a.2) λb=>In.cZ (In.tPr a.1 b.1,b.2)) s cnt w;rw[en];have K0:=ai k0;obtain⟨tx,ax,rfl⟩:=hx.iface;obtain⟨ty,ay,rfl⟩:=HY.iface;go_enter func257,ntmps257;go_wp2_with fail;refine H1.mono ?_;intro e w1 hp;obtain⟨ah,zz,vl,vr,rfl,q⟩|⟨ah,T1,g1,s1,yT,yU,iV,rfl,q⟩:=hp.split
 .have HP:=q.post (S:=1100*(1+nn x+nn y)) (D:=1000*(1+nn x+nn y)) (gg:=λa=>ja (jh c.mks y a.2) λb=>jj (qn a.1 b.1,b.2)) (Fr.of K0) ae
  go_wp2
  exact⟨rfl,HP⟩
 have h:=uh HA;have F01:=(Fr.of (S:=λi=>i=c.cb\/i=gv) K0).trans q.F;have c1:=q.c1;have c2:=q.c2;have ST1:=q.step h.wk h.hn h.i;have C1:=C0.and q.m F01 q.c1 q.u (D2:=1000*(1+nn y)) ae;have H2:=Hy c w1 ah s1 iV Λ g1 gv Q _<|h.next F01 q.we ST1 q.e HY sy El El;have B1:=B0.fr q.F ae;obtain⟨b1,b2,b3⟩:=B1;have Uo:=ai q.t;go_wp2_with fail;refine H2.mono ?_;intro e w2 hp;obtain⟨cJ,zz,vl,vr,rfl,q⟩|⟨cJ,T2,g2,s2,ta2,xa2,kb2,rfl,q⟩:=hp.split
 .have HP:=q.post (S:=1100*(1+nn x+nn y)) (D:=1000*(1+nn y)) (gg:=λb=>jj (qn T1 b.1,b.2)) (Fr.refl _ _) ae
  go_wp2
  exact⟨rfl,C1 _ _ HP⟩
 have c3:=q.c1;have c4:=q.c2;have C2:=C1.and q.m q.F q.c1 q.u (D2:=1000) ae;have gM:=q.step ST1.k ST1.n ST1.i;have T12:=Uo.move q.F.size (λb p z=>q.F.block b z λr=>r.elim p.1 p.2)<|λ_ p _=>p;have T2':=ai q.t;have K2':=ai gM.k;have E2:=ai q.e;have W2':=ai q.we;have z2:=q.we.dt;have lg2:=q.e.lt;have HP:=P_ (w:=w2) yT ta2 yU xa2;go_wp2_with fail;refine HP.mono ?_;rintro e w3⟨rfl,rfl⟩
 go_wp2
 go_ret2;have k3:Bq w2 (w2.alloc<|Cv #[Fv yT yU,Fv ta2 xa2] 87):=bw _;obtain⟨⟨x1,y1,e1,z1⟩,wx⟩:=T12;have⟨⟨x2,y2,e2,z2'⟩,wy⟩:=uh T2';refine C2 _ _ (aeW (W2'.af k3) (K2'.af k3) ⟨⟨.aM m9 [x1,x2],m_.ty (xn<|xo rfl) y1 y2 ⟨ae,ae⟩,dR.af2 m9 (by rw[m9,sk];intro e;simp at e) e1 e2,?_⟩,?_⟩ (E2.af k3) (Fr.of k3))
 .simp only[size,ak];omega
 .exact⟨by rw[m9,sk];intro e;simp at e,wx,wy,trivial⟩
section
variable {c:WC} {cnt:Nat}
def af8(h:WE w c cnt)(hk:WK w c cnt s kb)(hd:n_ w (dw c) d v)(Bw:d.any.Nodup)(hct:cnt<=1000000)(hz:size (sub s.k d.of)<=48->cnt+d.any.length<=1000000)f t:
 Cq 235 #[Pv c.eb,Mv kb,v,.agg #[Nv f,Nv t]] w (XE c d f t s cnt w):=by
 have hf:=hk.Ee ae<|xn trivial;obtain⟨ta,xa,sa,sc,rfl,t1,T2⟩:=hd;have Hg:Whole (sub s.k d.of):=ck _ t1.wh λn _=>hf.wh n;have k0:Bq w ((w.alloc<|Cv #[Fv ta xa,Lv sa d.any.length sc] 354).alloc<|Cv #[Nv f,Nv t] 72):=(bw _).alloc ag _;have B1:=(Bx.new w #[Fv ta xa,Lv sa d.any.length sc] 354).below<|bw<|Cv #[Nv f,Nv t] 72;have B2:Hid (Bx ((w.alloc<|Cv #[Fv ta xa,Lv sa d.any.length sc] 354).alloc<|Cv #[Nv f,Nv t] 72) (w.heap.size+1) #[Nv f,Nv t]):=by
  have:=Bx.new (w.alloc<|Cv #[Fv ta xa,Lv sa d.any.length sc] 354) #[Nv f,Nv t] 72;rw[aY]at this;exact ai this
 have HO:=uv (hk.k.af k0) hk.n hf (br _)<|t1.af k0;have hcz:=t1.Xw hf<|br _;have zc:=h.dt;have K0:=ai k0;clear hk t1 k0;go_enter func235,ntmps235;go_wp2_with fail;refine HO.mono ?_;rintro e w1⟨u,rfl,hu,k1⟩;have HS:=pR _ w1 _ _ hu hcz;obtain⟨n1,Mw⟩:∃n,n=sz (bL<|sub s.k d.of):=⟨_,rfl⟩;rw[<-Mw]at HS;have E1:=Em (sub s.k d.of) Hg;rw[<-Mw]at E1;obtain⟨tu,xu,rfl⟩:=hu.iface;have z0:=K0.size;simp only[aY]at z0;have KK1:=K0.trans<|k1.mono K0.size;have U1:=hu.wide (Q:=dw c) λi p=>by obtain p|p:=p;exact p;simp only[aY]at p;show i≠c.cb;omega
 have B3:=B1.below k1;have B4:=B2.below k1;clear hu k1 HO Mw B1 B2;go_wp2_with fail;refine HS.mono ?_;rintro e w2⟨rfl,k2⟩;have XU:=KK1.trans<|k2.mono KK1.size;have⟨c3,f3,z3⟩:=B3.below k2;have⟨c4,f4,z4⟩:=B4.below k2;have U2:=U1.af k2;clear k2 HS U1 B3 B4;by_cases XV:48<n1
 .have hm:(48:Int)<(n1:Int):=ae;have HT:=nh (w:=w2) (f:Int) (t:Int);go_wp2_with fail;refine HT.mono ?_;rintro e w3⟨rfl,K3⟩;clear HT;go_wp2_with fail;have Xx:=XU.trans<|K3.mono XU.size;exact⟨rfl,Fr.of Xx,xo ⟨E1.1.1 XV,h.af Xx,rfl⟩⟩
 .have hm:¬(48:Int)<(n1:Int):=ae;have hs:size (sub s.k d.of)<=48:=by have:=E1.1;omega
  have HA:=XD (sc:=sc) (h.af XU) (T2.move XU.size (λi _ hi=>XU.block i hi)<|λ_ p _=>p) Bw<|hz hs;have Mr:=E1.2 hs;rw[Mr]at U2;go_wp2_with fail;refine HA.mono ?_;rintro e w3⟨b,rfl,hb,W3,hs3,F3⟩;have ev:=PZ cnt d.any;have hu3:=U2.fr F3<|λi p _=>p;have Ip:=Iq hs3 (show dw c b by have:=XU.size;show b≠c.cb;omega) hu3 ae (by rw[ev,iz];omega);rw[ev]at Ip;have hcut:bL (sub (jm<|qP cnt d.any)<|sub s.k d.of)=sub (jm<|qP cnt d.any) (sub s.k d.of):=yW (by rw[iz];exact hs)<|pL _ _ Hg;rw[hcut]at Ip;have HF3:=(Fr.of XU).trans F3;clear hs3 F3 HA ev hu3 hcut Mr;go_wp2_with fail;refine Ip.mono ?_;rintro e w4⟨u4,rfl,U4,k4⟩;obtain⟨tu4,xu4,rfl⟩:=U4.iface;have K4:=ai k4;clear k4 Ip
  go_wp2
  go_ret;have k4:=uh K4;have f3:=HF3;refine⟨f3.trans<|Fr.of k4,xn ⟨hs,W3.af k4,tu4,xu4,rfl,U4.wide λi p=>?_⟩⟩;obtain p|p:=p
  .exact p
  .show i≠c.cb;have:=f3.size;omega
end
section
variable {c:WC} {cnt:Nat}
def bS.look{P}{b}(h:bS w P b Γ){x}{d}(hx:Γ x=some d):∃v,n_ w P d v/\(zo 112 (Mv b) (.string x) false).run xq w=.ok v w:=by
 obtain⟨L,h1,h2,h3⟩:=h;have hl:=h1.ms.look PW eh (yw w) x trivial (λ_ _=>trivial) false
 cases hg:a_ x L with
 |none=>grind|some v=>
  rw[hg]at hl;have⟨d',e,hs⟩:=h3 x v hg;rw[hx]at e;injection e with e;subst e;exact⟨v,hs,by simpa using hl⟩
def XW(h:In.nV Λ s d)(hn:d.any.Nodup):d.any.length<=size (sub s.k d.of):=by
 have h1:=Ed (V:=vars []<|sub s.k d.of) hn λv hv=>(bP (sub s.k d.of) [] v).2 (xn<|(mq d.of).2 ⟨v,h.sub v hv,by rw[(h.fix v hv).1];simp[aw]⟩);rw[cC]at h1;have h2:=dc (occs<|sub s.k d.of) [];have h3:=dd<|sub s.k d.of;simp only[qO]at h2;omega
def acJ(mk:jl)x n f t a{Γ}(h:Γ x=some d):jf mk (.mk 1 x n [] f t a) Γ=λs o=>(48<size (sub s.k d.of)/\o=.error (qt f t))\/(size (sub s.k d.of)<=48/\∃ρ s',In.sC d.any qe s (.ok (ρ,s'))/\o=.ok (sub (jm ρ)<|sub s.k d.of,s')):=by
 simp[jf,jy,In.rA,h]
def XX{x}(h:CB (.mk 1 x n [] f t a) c w cnt s kb Λ Γ gb Q dom (.iface 198<|.agg #[Nv f,Nv t,.string x])):
 Cq 223 #[Pv c.eb,Mv kb,Mv gb,.iface 198<|.agg #[Nv f,Nv t,.string x]] w (aZ c (1100*nn (.mk 1 x n [] f t a)) (1000*nn (.mk 1 x n [] f t a)) (jf c.mks (.mk 1 x n [] f t a) Γ) s cnt w):=by
 have en:nn (.mk 1 x n [] f t a)=1:=qBi;have hx:dom x:=by
  cases h.sc with
  |low _ _ _ _ _ _ hx=>exact hx|leaf _ _ _ _ _ _ _ hk=>omega
 obtain⟨d,hd⟩:∃d,Γ x=some d:=by
  cases hg:Γ x with
  |none=>exact absurd hg (h.hd x hx)|some d=>exact⟨d,rfl⟩
 rw[en,acJ c.mks x n f t a hd];have WZ:=h.ft.a;rw[en]at WZ;have Bw:=h.wg.nd x d hd;have gL:=XW (h.wg.i x d hd) Bw;have k0:Bq w (w.alloc<|Cv #[Nv f,Nv t,Sv x] 198):=bw _;have⟨v,hv,ya⟩:=(h.wg.af k0).e.look hd;have H1:=af8 (h.we.af k0) (h.wk.af k0) hv Bw ae (λq=>ae) f t;obtain⟨ta,xa,sa,sc,rfl,M6,Ui⟩:=hv;have HA:=ai h;have K0:=ai k0;have HWD:=ai M6.wh;go_enter func223,ntmps223;go_wp2_with fail;refine H1.mono ?_;rintro e w1⟨F1,hp⟩;obtain⟨hb,HW,rfl⟩|⟨hs,HW,tb,xb,rfl,HT⟩:=hp
 .have FF:=ai F1
  go_wp2
  exact⟨rfl,(Fr.of K0).trans FF,cnt,.error<|qt f t,br _,ae,HW,xo ⟨hb,rfl⟩,Zv,Zv,rfl,λ_=>⟨rfl,rfl⟩,λq=>by simp[qt]at q,xn rfl⟩
 .have FF:=(Fr.of (S:=λi=>i=c.cb) K0).trans F1
  go_wp2
  go_ret2;have h:=uh HA;refine⟨FF,cnt+d.any.length,.ok (sub (jm<|qP cnt d.any)<|sub s.k d.of,⟨s.k,λn=>s.u n\/(cnt<n/\n<=cnt+d.any.length)⟩),ae,ae,HW,xn ⟨hs,_,_,⟨_,_,Cy cnt d.any Bw h.wk.u,rfl⟩,rfl⟩,λn q=>q,h.wk.wh,tb,xb,kb,rfl,h.wk.n,h.wk.k.fr FF h.wk.n<|λ_ p _=>p,TW.of HT ?_ ?_⟩
  .exact pL _ _ (ck _ HWD λn _=>h.wk.wh n)
  .rw[iz];omega
end
section
variable {c:WC} {cnt:Nat}
def Ir{base}(h:gN w 152 base v (ot l)):∃sa sc,v=.slice sa l.length sc/\ri w (λi=>base<=i) sa l:=by
 by_cases hl:l=[]
 .subst hl;have⟨va,vc,e⟩:=dO h (n:=0) (by simp[ot]);exact⟨va,vc,e,xo rfl⟩
 .have Xz:0<(ot l).length:=by rw[fC];exact Nat.pos_of_ne_zero<|λe=>hl<|List.eq_nil_of_length_eq_zero e
  obtain⟨g,cp,m,rfl,hg,k9,hm⟩:=iw h Xz;have hm:=uh hm;rw[fC]at hm;subst hm;refine⟨some ⟨g,0,none⟩,cp,rfl,xn ⟨g,rfl,hg,k9,λi hi=>?_⟩⟩;have:=mj h i (by rw[fC];exact hi);rw[this];simp[ot]
def SF{p:Prop}(h:p:=by
 rw[cC];have h2:=dc (occs m) [];have h3:=dd m;simp only[qO]at h2
 omega):p:=h
def CF(h:WE w c cnt)(hm:db w P m v)(hz:size m<=1000)(hc:cnt<=900000):Cq 236 #[Pv c.eb,v] w (Ih c cnt (vars [] m) w):=by
 have HV:=fN hm ae;have hl:(vars [] m).length<=1000:=by
  exact SF
 obtain⟨ta,xa,rfl⟩:=hm.iface;have zc:=h.dt;go_enter func236,ntmps236;go_wp2_with fail;refine HV.mono ?_;rintro e w1⟨V,rfl,ho,K1⟩;obtain⟨sa,sc,rfl,hr⟩:=Ir ho;have HA:=XD (sc:=sc) (h.af K1) (hr.move (br _) (λ_ _ _=>rfl) (Q:=dw c) λi p _=>by show i≠c.cb;omega) (dF m List.nodup_nil) ae;go_wp2_with fail;refine HA.mono ?_;rintro e w2⟨b,rfl,HB,W2,S2,Uf⟩
 go_wp2
 go_ret;exact⟨b,rfl,xw K1.size HB,W2,S2,(Fr.of K1).trans Uf⟩
def aiN P(tk:List Ty)m w gk(v3 v4:Value)wr:=
 ∃j:Nat,Hid (gk=j)/\j<=tk.length/\v4=Iv ((j:Int)-1)/\(∃ta xa,v3=.iface ta xa/\db wr P (jp (tk.drop j) m) (.iface ta xa))/\Bq w wr
def vR{tk}(h:WY w P tk m v)(hl:tk.length<=1000):Cq 237 #[v] w (λe w'=>∃u,e=.returned u/\db w' (λi=>P i\/w.heap.size<=i) (jp tk m) u/\Bq w w'):=by
 obtain⟨sa,sc,ta,xa,rfl,HR,hm⟩:=h;have⟨k0,B0⟩:=rq w #[Lv sa tk.length sc,Fv ta xa] 357;have HM:=hm.w.af k0;have K0:=ai k0;go_enter func237,ntmps237
 go_wp2
 go_loopg[3,4] tk.length (λgk v3 v4 wr=>aiN (λi=>P i\/w.heap.size<=i) tk m w gk v3 v4 wr/\Bx wr w.heap.size #[Lv sa tk.length sc,Fv ta xa])
 case atStart=>
  refine⟨⟨tk.length,ai rfl,br _,jP,⟨ta,xa,rfl,?_⟩,uh K0⟩,B0⟩;rw[qy];exact HM.wide λi p=>xo p
 case round=>
  obtain⟨⟨j,dl,hj,rfl,⟨tt,xx,rfl,HT⟩,HK⟩,hB⟩:=hrel;obtain⟨b1,b2,b3⟩:=hB;have BB:=show Bx wr w.heap.size #[Lv sa tk.length sc,Fv ta xa]from⟨b1,b2,b3⟩;by_cases hj0:j=0
  .subst hj0;have hd:decide ((0:Int)<=((0:Nat):Int)-1)=false:=aB
   go_wp2
   go_ret;exact⟨_,rfl,by simpa using HT,HK⟩
  .obtain⟨i,rfl⟩:∃i,j=i+1:=⟨j-1,ae⟩;have ei:(((i+1:Nat):Int)-1)=(i:Int):=ae;rw[ei];have Ni:i<tk.length:=ae;obtain⟨g,vs,rfl,hg,k9,bY⟩:=HR.resolve_left (λe=>by subst e;simp at Ni);have⟨cg,tg⟩:=bY i Ni;have cg':=(zh (a:=⟨g,i,none⟩)<|HK.block g k9).trans cg;have TG:=tg.w.af HK;have⟨tb,xb,evs⟩:=tg.w.iface;rw[evs]at cg' TG;have It:(0:Int)<=(i:Int):=ae;have bA:(i:Int)<(tk.length:Int):=ae;go_wp2_with fail;refine(vS (w:=wr) _ _ _ _).mono ?_;rintro e w7⟨rfl,rfl⟩;go_wp2_with fail;have k7:Bq wr (wr.alloc<|Cv #[Fv tb xb,Fv tt xx] 87):=bw _;go_roundg i
   case measure=>rw[uh dl];omega
   case rel=>
    refine⟨⟨i,ai rfl,ae,jP,⟨_,_,rfl,?_⟩,HK.trans<|k7.mono HK.size⟩,BB.below k7⟩;rw[qv Ni];exact m_.ty aeV (TG.wide λi p=>xo p) HT<|xn HK.size
end
section
variable {c:WC} {cnt:Nat}
def acK tk m n(h:aw n m):aw n (jp tk m):=by
 induction tk with
 |nil=>exact h|cons t tk ih=>
  show aw n<|qf t<|jp tk m;simp only[aw,bW,or_false];exact xn ih
def sD tk m:size m+tk.length<=size (jp tk m):=by
 induction tk with
 |nil=>exact br _|cons t tk ih=>
  show _<=size (qf t<|jp tk m);simp only[size,ak,yE];omega
def Iu{l'}{dS}{u u'}(h:qm l ρ dS u u')(hl:∀v,v∈l↔v∈l'):qm l' ρ dS u u':=⟨h.fe,λv q=>h.out v λr=>q<|(hl v).1 r,λv q=>h.all v<|(hl v).2 q,h.new,h.one,h.use⟩
def acL:Tryz.prog.underlying 110=some (.map 9 357):=qkr
def af9 w:(zeroValue 357).run xq w=.ok (.agg #[.slice none 0 0,.nilIface]) w:=qkr
def m5.look{P}{b}{mk}(h:m5 w P b mk){x}{tk}{m}(hx:mk x=some (tk,m)):∃v,WY w P tk m v/\∀w':World,w'.heap[b]? =w.heap[b]? ->(zo 110 (Mv b) (.string x) false).run xq w'=.ok v w':=by
 obtain⟨L,h1,h2,h3⟩:=h
 cases hg:a_ x L with
 |none=>grind|some v=>
  have⟨tk',m',e,hs⟩:=h3 x v hg;rw[hx]at e;injection e with e;injection e with e1 e2;subst e1 e2;refine⟨v,hs,λw' hb=>?_⟩;have hl:=(h1.same hb).ms.look PW acL (af9 w') x trivial (λ_ _=>trivial) false;rw[hg]at hl;simpa using hl
theorem WY.move{P Q}{w'}{tk}{m}{v}(h:WY w P tk m v)(hs:w.heap.size<=w'.heap.size)(hb:∀b,P b->b<w.heap.size->w'.heap[b]? =w.heap[b]?)(hq:∀b,P b->b<w.heap.size->Q b):WY w' Q tk m v:=by
 obtain⟨sa,sc,ta,xa,rfl,q1,q2⟩:=h;exact⟨sa,sc,ta,xa,rfl,q1.move hs hb hq,q2.move hs hb hq⟩
def XY(mk:jl)x n f t a(Γ:jc){tk}(h:mk x=some (tk,m)):jf mk (.mk 2 x n [] f t a) Γ=ja (qg (jp tk m) qe) λq=>jj q.1:=by
 simp[jf,jy,In.upM,h]
def aiO a n k tb b w:(Instr.field 357 (.agg #[.slice a n k,.iface tb b]) 1).run xq w=.ok (.iface tb b) w:=qkr
structure RnA(c:WC)cnt(l:List Nat)w w' b:Prop where
 z:c.cb<b
 we:WE w' c (cnt+l.length)
 sb:fG w' (dw c) b (λv=>(qP cnt l v).map Ty.var)
 F:Fr (λi=>i=c.cb) w w'
end
open Classical in
noncomputable def gS (R:ju) (D:Nat->Prop):ju:=λv=>if D v then R v else none
def yX(R:ju):gS R (λ_=>False)=qe:=by funext v;simp[gS,qe]
def fO{D:Nat->Prop}{v:Nat}(h:D v):gS R D v=R v:=by simp[gS,h]
def uA{D:Nat->Prop}{v:Nat}(h:¬D v):gS R D v=none:=by simp[gS,h]
def yB{D:Nat->Prop}{v:Nat}(h:gS R D v=some n):D v/\R v=some n:=by grind[gS]
def comes(R:ju)(D:Nat->Prop)t(u:Nat->Prop)n:=u n\/∃v,¬D v/\aw v t/\R v=some n
def Up{D:Nat->Prop}{u:Nat->Prop}{t:Ty}(ht:∀v,aw v t->R v≠none)(hi:∀v v' n,R v=some n->R v'=some n->v=v')(hu:∀v n,¬D v->R v=some n->¬u n):
 qm (vars [] t) (gS R D) (gS R<|λv=>D v\/aw v t) u (comes R D t u) where
 fe v n h:=by have⟨h1,h2⟩:=yB h;rw[fO<|xo h1];exact h2
 out v h:=by
  have h:¬aw v t:=λq=>h<|In.aC.2 q;by_cases q:D v
  .rw[fO<|xo q,fO q]
  .rw[uA<|λr=>r.elim q h,uA q]
 all v h:=by
  have h:=In.aC.1 h;rw[fO<|xn h];exact ht v h
 new v n h1 h2:=by
  have⟨h3,h4⟩:=yB h2;by_cases q:D v
  .rw[fO q]at h1;rw[h1]at h4;cases h4
  .exact hu v n q h4
 one v v' n _ h2 h3:=hi v v' n (yB h2).2 (yB h3).2
 use n:=by
  rw[comes];refine⟨λq=>q.imp id ?_,λq=>q.imp id ?_⟩
  .rintro⟨v,h1,h2,h3⟩;exact⟨v,uA h1,by rw[fO<|xn h2];exact h3⟩
  .rintro⟨v,h1,h2⟩;have⟨h3,h4⟩:=yB h2;by_cases q:D v
   .rw[fO q]at h1;rw[h1]at h4;cases h4
   .grind
def CG{D:Nat->Prop}{t:Ty}(ht:∀v,aw v t->R v≠none)(hi:∀v v' n,R v=some n->R v'=some n->v=v')(hu:∀v n,¬D v->R v=some n->¬s.u n):
 qg t (gS R D) s (.ok ((sub (jm R) t,gS R<|λv=>D v\/aw v t),⟨s.k,comes R D t s.u⟩)):=by
 refine xn ⟨gS R<|λv=>D v\/aw v t,_,⟨_,_,Up ht hi hu,rfl⟩,?_⟩;have e:sub (jm<|gS R<|λv=>D v\/aw v t) t=sub (jm R) t:=sub_congr t λn hn=>by unfold jm;rw[fO (D:=λv=>D v\/aw v t)<|xn hn]
 show Except.ok _=Except.ok _;rw[e]
def eA{β γ:Type}{m}{g:α->ji β}{h:β->ji γ}{o:Except j8 (γ×jd)}(q:ja m (λa=>ja (g a) h) s o):ja (ja m g) h s o:=by
 obtain⟨x,q1,rfl⟩|⟨a,s1,q1,⟨x,q2,rfl⟩|⟨b,s2,q2,q3⟩⟩:=q
 .exact xo ⟨x,xo ⟨x,q1,rfl⟩,rfl⟩
 .exact xo ⟨x,xn ⟨a,s1,q1,q2⟩,rfl⟩
 .exact xn ⟨b,s2,xn ⟨a,s1,q1,q2⟩,q3⟩
def XZ m(q:jc×ju):=ja (qg m q.2) λi=>jj (i.1,q.1)
def gT(mk:jl)(tk:List Ty)m(L:List Nd)j g(ρ:ju):=ja (qp (tk.drop j) (L.drop j) (qk mk<|L.drop j) g ρ)<|XZ m
def yY{tk}(h:mk st=some (tk,m))n L f t a g:jh mk (.mk 2 st n L f t a) g=gT mk tk m L 0 g qe:=by
 simp[jh,jz,h,gT];rfl
def am9{p:Prop}(h:p:=by
 obtain⟨x,q1,rfl⟩|⟨b,s2,q2,h⟩:=h
 .exact xo ⟨x,q1,rfl⟩
 exact xn ⟨b,s2,q2,eA h⟩):p:=h
def uB{tk:List Ty}(hl:L.length=tk.length)(hj:j<L.length)(h:ja (jh mk L[j] g) (λq=>ja (qg (tk[j]' ae) ρ) λi=>ja (jo q.1 i.1 (jt L[j])<|jv L[j]) λ_=>gT mk tk m L (j+1) q.2 i.2) s o):gT mk tk m L j g ρ s o:=by
 unfold gT at*;rw[qv hj,qv<|show j<tk.length by omega];show ja (ja (jh mk L[j] g) λq=>ja (qg (tk[j]' ae) ρ) λi=>ja (jo q.1 i.1 (jt L[j])<|jv L[j]) λ_=>qp (tk.drop<|j+1) (L.drop<|j+1) (qk mk<|L.drop<|j+1) q.2 i.2) (XZ m) s o;refine eA ?_;obtain⟨x,q1,rfl⟩|⟨a,s1,q1,h⟩:=h
 .exact xo ⟨x,q1,rfl⟩
 refine xn ⟨a,s1,q1,eA ?_⟩;exact am9
def Iw{tk}(hl:L.length=tk.length)(h:XZ m (g,ρ) s o):gT mk tk m L L.length g ρ s o:=by
 rw[gT];rw[qy,hl,qy];exact xn ⟨(g,ρ),s,rfl,h⟩
structure MdR(c:WC)cnt(tk:List Ty)m(R:ju):Prop where
 e:R=qP cnt (vars [] m)
 a:∀i(h:i<tk.length)v,aw v tk[i]->aw v m
def MdR.one{c:WC}{cnt}{tk}{m:Ty}{R:ju}(h:MdR c cnt tk m R):∀v v' n,R v=some n->R v'=some n->v=v':=λv v' n h1 h2=>by
 rw[h.e]at h1 h2;rw[qP]at h1 h2;split at h1<;>split at h2
 .rename_i q1 q2;injection h1 with h1;injection h2 with h2;exact Ig q1 q2 ae
 .cases h2
 .cases h1
 .cases h1
def MdR.num{c:WC}{cnt}{tk}(h:MdR c cnt tk m R){v:Nat}(q:R v=some n):cnt<n/\n<=cnt+(vars [] m).length:=by
 rw[h.e]at q;rw[qP]at q;split at q
 .rename_i q1;have:=List.idxOf_lt_length_iff.2 q1;injection q with q;omega
 .cases q
def MdR.has{c:WC}{cnt}{tk}(h:MdR c cnt tk m R){v:Nat}(q:aw v m):R v≠none:=by
 rw[h.e];rw[qP];rw[if_pos<|In.aC.2 q];simp
structure MdS(c:WC)gv cnt(s:jd)w(R:ju)(p:ji (Ty×jc))(Λ:Nat->Prop)tk m L j wr cj(sj:jd)kj g D:Prop where
 F:Fr (λi=>i=c.cb\/i=gv) w wr
 we:WE wr c cj
 wk:CC wr c gv cj sj kj
 n:∀n,¬sj.u n->Λ n
 e:bS wr (qC c gv) gv g
 i:jx Λ sj g
 r:In.iA Λ sj (gS R D)
 fr:∀v n,¬D v->R v=some n->¬sj.u n
 u:∀n,sj.u n->s.u n\/(cnt<n/\n<=cj)
 c1:cnt+(vars [] m).length<=cj
 c2:cj+1000*cD (L.drop j)<=cnt+1000*(1+cD L)
 p:∀o,gT c.mks tk m L j g (gS R D) sj o->p s o
structure MdT(c:WC)gv cnt(s:jd)w(R:ju)(p:ji (Ty×jc))(Λ:Nat->Prop)tk m L j wr cj(sj:jd)kj g D T U f t:Prop where
 F:Fr (λi=>i=c.cb\/i=gv) w wr
 we:WE wr c cj
 wk:CC wr c gv cj sj kj
 n:∀n,¬sj.u n->Λ n
 e:bS wr (qC c gv) gv g
 i:jx Λ sj g
 r:In.iA Λ sj (gS R D)
 fr:∀v n,¬D v->R v=some n->¬sj.u n
 u:∀n,sj.u n->s.u n\/(cnt<n/\n<=cj)
 c1:cnt+(vars [] m).length<=cj
 c2:cj+1000*cD (L.drop<|j+1)<=cnt+1000*(1+cD L)
 ti:jk Λ sj T
 ui:jk Λ sj U
 p:∀o,ja (jo T U f t) (λ_=>gT c.mks tk m L (j+1) g<|gS R D) sj o->p s o
section
variable {wr:World} {c:WC} {cnt cj c1:Nat} {sj:jd} {kj k1:Nat} {D:Nat->Prop} {p:ji (Ty×jc)} {tk:List Ty}
def MdS.arg{DD:Nat}(hR:MdR c cnt tk m R)(hl:L.length=tk.length)(hj:j<L.length)(jQ:∀n,s.u n->us cnt n)(h:MdS c gv cnt s w R p Λ tk m L j wr cj sj kj g D)(q:acH c gv S (1000*nn L[j]) (jh c.mks L[j] g) sj cj wr c1 T g1 s1 ta xa k1 w1):∃s2,MdT c gv cnt s w R p Λ tk m L j w1 c1 s2 k1 g1 (λv=>D v\/aw v (tk[j]' ae)) T (sub (jm R)<|tk[j]' ae) (jt L[j])<|jv L[j]:=by
 have st:=q.step h.wk h.n h.i;have xZ:∀v n,¬D v->R v=some n->¬s1.u n:=λv n a b z=>by
  have hb:=hR.num b;obtain r|r:=q.u n z
  .exact h.fr v n a b r
  .have:=h.c1;omega
 have rj:=CG (R:=R) (s:=s1) (t:=tk[j]' ae) (λv o=>hR.has<|hR.a j ae v o) hR.one xZ;have⟨g1',g2,g3⟩:=In.sE st.k.ok st.n (h.r.run st.p.run) (tk[j]' ae) _ _ rj;have hd:cD (L.drop j)=nn L[j]+cD (L.drop<|j+1):=by rw[qv hj];rfl
 have c2:=h.c2;have qc1:=q.c1;have qc2:=q.c2;have hc1:=h.c1;have ak6:∀v n,R v=some n->cnt<n/\n<=c1:=λv n r=>by have:=hR.num r;omega
 refine⟨⟨s1.k,comes R D (tk[j]' ae) s1.u⟩,h.F.trans q.F,q.we,⟨st.k.k,st.k.n,λn z=>?_,g1'.ok,st.k.wh⟩,g1'.new,q.e,st.i.run g1'.run,g3,λv n a b z=>?_,λn z=>?_,ae,ae,st.t.run g1'.run,g2,λo ho=>h.p o<|uB hl hj<|xn ⟨(T,g1),s1,q.m,xn ⟨_,_,rj,ho⟩⟩⟩
 .obtain z|⟨v,_,_,z⟩:=z
  .exact st.k.u n z
  .have:=ak6 v n z;rw[us];omega
 .obtain z|⟨v',z1,z2,z3⟩:=z
  .grind
  .exact a (xn<|hR.one v' v n z3 b▸z2)
 .obtain z|⟨v,_,_,z⟩:=z
  .obtain r|r:=q.u n z
   .exact(h.u n r).imp id λr=>ae
   .omega
  .grind
def MdT.next(h:MdT c gv cnt s w R p Λ tk m L j wr cj sj kj g D T U f t)(hb:Bq wr w1){s'}(he:jo T U f t sj (.ok ((),s')))(hk:qh Λ sj s')(hw:CC w1 c gv cj s' b)(hu:s'.u=sj.u):MdS c gv cnt s w R p Λ tk m L (j+1) w1 cj s' b g D:=
 ⟨h.F.trans<|Fr.of hb,h.we.af hb,hw,hk.new,h.e.af hb,h.i.run hk.run,h.r.run hk.run,λv n a b z=>h.fr v n a b<|hu▸z,λn z=>h.u n<|hu▸z,h.c1,h.c2,λo ho=>h.p o<|xn ⟨(),s',he,ho⟩⟩
def MdT.no(h:MdT c gv cnt s w R p Λ tk m L j wr cj sj kj g D T U f t)(hb:Bq wr w1)(hD:1000*(1+cD L)<=DD){z:j8}(he:jo T U f t sj (.error z))(hf:ru w1 (dw c) z vl vr):ew c gv S DD p s cnt w (CA z.f vl vr) w1:=
 ⟨h.F.trans<|Fr.of hb,cj,.error z,by have:=h.c1;omega,by have:=h.c2;omega,h.we.af hb,h.p _<|xo ⟨z,he,rfl⟩,vl,vr,rfl,hf⟩
def MdS.no(hl:L.length=tk.length)(hj:j<L.length)(h:MdS c gv cnt s w R p Λ tk m L j wr cj sj kj g D)(hD:1000*(1+cD L)<=DD){z:j8}(q:acI c gv (1000*nn L[j]) (jh c.mks L[j] g) sj cj wr c1 z vl vr w1):ew c gv S DD p s cnt w (CA z.f vl vr) w1:=
 ⟨h.F.trans q.F,c1,.error z,by have:=h.c1;have:=q.c1;omega,by
  have hd:cD (L.drop j)=nn L[j]+cD (L.drop<|j+1):=by rw[qv hj];rfl
  have:=h.c2;have:=q.c2;omega,q.we,h.p _<|uB hl hj<|xo ⟨z,q.m,rfl⟩,vl,vr,rfl,q.f⟩
def MdS.done(hR:MdR c cnt tk m R)(hl:L.length=tk.length)(h:MdS c gv cnt s w R p Λ tk m L L.length wr cj sj kj g D)(hb:Bq wr w1)(hD:1000*(1+cD L)<=DD)(ht:TW w1 (qC c gv) S (sub (jm R) m) (.iface ta xa)):ew c gv S DD p s cnt w (.returned<|.tuple #[.iface ta xa,Mv kj]) w1:=by
 have rj:=CG (R:=R) (s:=sj) (t:=m) (λv o=>hR.has o) hR.one h.fr;refine⟨h.F.trans<|Fr.of hb,cj,.ok ((sub (jm R) m,g),⟨sj.k,comes R D m sj.u⟩),by have:=h.c1;omega,by have:=h.c2;omega,h.we.af hb,h.p _<|Iw hl<|xn ⟨_,_,rj,rfl⟩,λn z=>?_,h.wk.wh,ta,xa,kj,rfl,h.wk.n,h.wk.k.af hb,ht,h.e.af hb⟩;obtain z|⟨v,_,_,z⟩:=z
 .exact h.u n z
 .have:=hR.num z;exact xn ⟨this.1,by have:=h.c1;omega⟩
def fG.bare{R:ju}(h:fG w P b (λv=>(R v).map Ty.var)):fG w Q b (λv=>(R v).map Ty.var):=by
 obtain⟨L,h1,h2,h3,h4⟩:=h;refine⟨L,h1,h2,λn u hu=>?_,h4⟩;have⟨t,e,ht⟩:=h3 n u hu;refine⟨t,e,?_⟩
 cases hr:R n with
 |none=>simp[hr]at e|some k=>
  simp only[hr,Option.map_some,Option.some.injEq]at e;subst e
  cases ht
  exact .var k
end
def sf(l:List BA)(g g':jc):=(∀y,g' y≠none↔g y≠none\/y∈l)/\∀y d,g' y=some d->g y=some d\/d.any=[]
def sf.refl(g:jc):sf [] g g:=⟨λy=>ag,λy d h=>xo h⟩
def sf.and{l l'}{g2}(h:sf l g g1)(k:sf l' g1 g2):sf (l++l') g g2:=⟨λy=>by rw[k.1,h.1,xh,or_assoc],λy d q=>(k.2 y d q).elim (λq=>h.2 y d q) xn⟩
def sf.set(g:jc)s t:sf [s] g (jq g s<|qi t):=by
 refine⟨λy=>?_,λy d h=>?_⟩
 .rw[jq];by_cases q:y=s
  .simp[q]
  .simp[q]
 .rw[jq]at h;split at h
  .grind
  .exact xo h
def mU{m:ji α}:ql m s λ_ _=>True:=λ_ _ _=>trivial
def LO(mk:jl):∀(tk:List Ty)(L:List Nd),L.length=tk.length->(∀i(h:i<L.length),∀g s,ql (jh mk L[i] g) s λq _=>sf (pM L[i]) g q.2)->∀g ρ s,ql (qp tk L (qk mk L) g ρ) s λq _=>sf (m8 L) g q.1
 |[],[],_,_,g,ρ,s=>.ret (sf.refl g)|[],_::_,h,_,_,_,_=>vQ|_::_,[],h,_,_,_,_=>vQ|u::tk,x::L,hl,H,g,ρ,s=>by
  refine(H 0 ag g s).and λq s1 h1=>mU.and λi s2 _=>mU.and λ_ s3 _=>?_;exact(LO mk tk L (by simpa using hl) (λi hi=>H (i+1) bF) q.2 i.2 s3).imp λa s' h=>h1.and h
def QF{p:Prop}(h:p:=by
 simp[jh,jz]
 exact .ret<|sf.refl g):p:=h
def GP(h:si mk nl nd):∀g s,ql (jh mk nd g) s λq _=>sf (pM nd) g q.2:=by
 induction h with
 |leaf k st n f t a hk=>
  intro g s;have e:pM (.mk k st n [] f t a)=[]:=by
   have:¬k=1:=ae;simp[pM,m8,this]
  rw[e];obtain rfl|rfl|rfl|rfl:=hk
  .simp only[jh,jz,if_true];exact mU.and λv s' _=>.ret<|sf.refl g
  .exact QF
  .exact QF
  .exact QF
 |low st n f t a hs=>
  intro g s;simp[jh,jz,pM];exact mU.and λv s' _=>.ret<|sf.set g st _
 |pr st n x y f t a hx hy dQ il=>
  intro g s;rw[XT];have e:pM (.mk 6 st n [x,y] f t a)=pM x++pM y:=by simp[pM,m8]
  rw[e];exact(dQ g s).and λq s1 h1=>(il q.2 s1).and λr s2 h2=>.ret<|h1.and h2
 |up st n L f t a tk m hm hl hr ih=>
  intro g s;rw[yY hm];have e:pM (.mk 2 st n L f t a)=m8 L:=by simp[pM]
  rw[e];rw[gT];rw[xm,xm];exact(LO mk tk L hl ih g qe s).and λq s1 h1=>mU.and λi s2 _=>.ret h1
def LQ{nl:List BA}:∀(L:List Nd),(∀i(h:i<L.length),∀y,y∈pM L[i]->y∈nl)->∀y,y∈m8 L->y∈nl
 |[],_,y,h=>by simp[m8]at h|x::l,H,y,h=>by
  simp only[m8,xh]at h;obtain h|h:=h
  .exact H 0 ag y h
  .exact LQ l (λi hi=>H (i+1) bF) y h
def aet(h:si mk nl nd):∀y,y∈pM nd->y∈nl:=by
 induction h with
 |leaf k st n f t a hk=>intro y q;have:¬k=1:=ae
                        simp[pM,m8,this]at q
 |low st n f t a hs=>intro y q;simp[pM]at q;subst q;exact hs|pr st n x y f t a hx hy dQ il=>
  intro z q;simp[pM,m8]at q;exact q.elim (dQ z)<|il z
 |up st n L f t a tk m hm hl hr ih=>
  intro y q;have e:pM (.mk 2 st n L f t a)=m8 L:=by simp[pM]
  rw[e]at q;exact LQ L ih y q
noncomputable def mV (mk:jl) (Γ:jc) (T r:Ty) (A:List (Nd×Nd)) (j:Nat):ji Ty:=ja (In.nZ mk Γ T r (aP<|A.drop j)<|j7 mk<|aP<|A.drop j) λ_=>jj r
def Px(mk:jl)s n x A f t a(Γ:jc):jf mk (.mk 13 s n (x::aP A) f t a) Γ=ja (jf mk x Γ) λa=>ja j6 λv=>mV mk Γ a (.var v) A 0:=by
 simp[jf,jy,j7,j9,mV]
noncomputable def abV (mk:jl) (Γ:jc) (T r:Ty) (A:List (Nd×Nd)) (j:Nat) (h:j<A.length):ji Ty:=ja (jh mk A[j].1 λ_=>none) λq=>ja (jo T q.1 (jt A[j].1)<|jv A[j].1) λ_=>ja (jf mk A[j].2<|j5 q.2 Γ) λu=>ja (jo r u (jt A[j].2)<|jv A[j].2) λ_=>mV mk Γ T r A<|j+1
def DY{r}hj{o}(h:abV mk Γ T r A j hj s o):mV mk Γ T r A j s o:=by
 unfold abV mV at*;rw[qv hj];show ja (ja (jh mk A[j].1 λ_=>none) λq=>ja (jo T q.1 (jt A[j].1)<|jv A[j].1) λ_=>ja (jf mk A[j].2<|j5 q.2 Γ) λu=>ja (jo r u (jt A[j].2)<|jv A[j].2) λ_=>In.nZ mk Γ T r (aP<|A.drop<|j+1)<|j7 mk<|aP<|A.drop<|j+1) (λ_=>jj r) s o;refine eA ?_;obtain⟨x,q1,rfl⟩|⟨a,s1,q1,h⟩:=h
 .exact xo ⟨x,q1,rfl⟩
 refine xn ⟨a,s1,q1,eA ?_⟩;obtain⟨x,q1,rfl⟩|⟨b,s2,q2,h⟩:=h
 .exact xo ⟨x,q1,rfl⟩
 refine xn ⟨b,s2,q2,eA ?_⟩;exact am9
def LS(mk:jl)(Γ:jc)T r A(s:jd)(o:Except j8 (Ty×jd))(h:jj r s o):mV mk Γ T r A A.length s o:=by
 rw[mV];rw[qy];exact xn ⟨(),s,rfl,h⟩
section
variable {c:WC} {cnt:Nat} {p p1 p2:ji Ty}
def Cl.imp(h:Cl c S D p s cnt w D1 p1 s1 ah w1)(k:∀o,p2 s1 o->p1 s1 o):Cl c S D p s cnt w D1 p2 s1 ah w1:=λe w' q=>h e w' (by obtain⟨a1,c',o,a2,a3,a4,a5,a6⟩:=q;exact⟨a1,c',o,a2,a3,a4,k o a5,a6⟩)
def abW(hb:Bq w w0)(hg:w.heap.size<=gv)(hf:Fr (λi=>i=c.cb\/i=gv) w0 w'):Fr (λi=>i=c.cb) w w':=⟨hf.os.trans hb.os,hf.tape.trans hb.tape,hf.output.trans hb.output,xw hb.size hf.size,λk hk hn=>(hf.block k (xy hk hb.size)<|λq=>q.elim hn ae).trans<|hb.block k hk⟩
theorem WG.over{mk:jl}{nd:Nd}{T:Ty}{XL:Nat}(h:WG w c s Λ Γ gb)(hs:si mk c.nl nd){s0:jd}(hm:jh mk nd (λ_=>none) s0 (.ok ((T,g1),s1)))(hi:jx Λ s g1)(he:bS w' (dw c) XL (j5 g1 Γ))(hn:XL≠c.cb):WG w' c s Λ (j5 g1 Γ) XL where
 e:=he
 n:=hn
 i:=hi.over h.i
 nd y d q:=by
  have⟨_,h2⟩:=GP hs _ _ _ _ hm;rw[j5]at q;split at q
  .rename_i c' hc;injection q with q;subst q;obtain r|r:=h2 y c' hc
   .cases r
   .grind
  .exact h.nd y d q
 dm y q:=by
  have⟨h1,_⟩:=GP hs _ _ _ _ hm;rw[j5]at q;split at q
  .rename_i c' hc;rcases(h1 y).1 (by show g1 y≠none;rw[hc];simp)with r|r
   .exact absurd rfl r
   .exact aet hs y r
  .exact h.dm y q
def LU(hs:si mk nl nd)(hm:jh mk nd (λ_=>none) s0 (.ok ((T,g1),s1)))(hd:∀x,dom x->Γ x≠none):∀x,dom x\/x∈pM nd->j5 g1 Γ x≠none:=λx q=>by
 have⟨h1,_⟩:=GP hs _ _ _ _ hm;rw[j5];split
 .simp
 .rename_i hc;obtain q|q:=q
  .exact hd x q
  .grind
end
structure gO n0(M:ji Ty)c w0 cnt0(s0:jd)Λ(Γ:jc)gb(Q:Nat->Prop)(dom:BA->Prop)D(p:ji Ty)(P:World->jd->Prop)(s:jd)cnt kb w:Prop where
 wg:WG w0 c s0 Λ Γ gb
 hq:∀b,Q b->b≠c.cb
 hd:∀x,dom x->Γ x≠none
 ft:Fit c cnt0 n0
 mf:MkFine c.mks
 f:Fr (λi=>i=c.cb) w0 w
 we:WE w c cnt
 st:Eg w0 w c cnt s0 s Λ kb
 cl:Cl c (1100*n0) (1000*n0) M s0 cnt0 w0 D p s cnt w
 lv:∀w' s',Fr (λi=>i=c.cb) w w'->qh Λ s s'->P w' s'
 cn:cnt+D<=cnt0+1000*n0
section
variable {n0:Nat} {M:ji Ty} {c:WC} {cnt0 cnt D2 kb0:Nat} {q:ji Ty} {P P':World->jd->Prop} {post:Ending->World->Prop}
def gO.start(h:CB nd c w0 cnt0 s0 kb0 Λ Γ gb Q dom v)(e:jf c.mks nd Γ=q):gO (nn nd) (jf c.mks nd Γ) c w0 cnt0 s0 Λ Γ gb Q dom (1000*nn nd) q (λ_ _=>True) s0 cnt0 kb0 w0:=⟨h.wg,h.hq,h.hd,h.ft,h.mf,Fr.refl _ _,h.we,⟨h.wk,h.hn,In.Kp.refl h.wk.ok h.hn⟩,λ_ _ h=>e▸h,λ_ _ _ _=>trivial,br _⟩
def gO.p(H:gO n0 M c w0 cnt0 s0 Λ Γ gb Q dom D q P s cnt kb w):P w s:=H.lv _ _ (Fr.refl _ _)<|In.Kp.refl H.st.k.ok H.st.n
def gO.af(H:gO n0 M c w0 cnt0 s0 Λ Γ gb Q dom D q P s cnt kb w)(k:Bq w w'):gO n0 M c w0 cnt0 s0 Λ Γ gb Q dom D q P s cnt kb w':=
 ⟨H.wg,H.hq,H.hd,H.ft,H.mf,H.f.trans<|Fr.of k,H.we.af k,⟨H.st.k.af k,H.st.n,H.st.p⟩,λe w2 h=>H.cl e w2 ⟨(Fr.of k).trans h.1,h.2⟩,λw2 s2 a b=>H.lv w2 s2 ((Fr.of k).trans a) b,H.cn⟩
def gO.drew(H:gO n0 M c w0 cnt0 s0 Λ Γ gb Q dom D q P s cnt kb w):gO n0 M c w0 cnt0 s0 Λ Γ gb Q dom D q P s cnt kb w.drew:=H.af (zx _ _).drew
def gO.add(H:gO n0 M c w0 cnt0 s0 Λ Γ gb Q dom D q P s cnt kb w)(h:∀w' s',Fr (λi=>i=c.cb) w w'->qh Λ s s'->P' w' s'):gO n0 M c w0 cnt0 s0 Λ Γ gb Q dom D q (λw s=>P w s/\P' w s) s cnt kb w:=⟨H.wg,H.hq,H.hd,H.ft,H.mf,H.f,H.we,H.st,H.cl,λw s a b=>⟨H.lv w s a b,h w s a b⟩,H.cn⟩
def gO.box{t}(H:gO n0 M c w0 cnt0 s0 Λ Γ gb Q dom D q P s cnt kb w):gO n0 M c w0 cnt0 s0 Λ Γ gb Q dom D q (λw' s=>P w' s/\Bx w' w.heap.size C) s cnt kb (w.alloc<|.cells C t):=
 (H.af<|bw _).add λw' _ a _=>(Bx.new w C t).fr a (by have:=H.we.dt;omega)
def gO.asks(H:gO n0 M c w0 cnt0 s0 Λ Γ gb Q dom D q P s cnt kb w)(K:Bq w W)(he:bS W (dw c) b (jq Γ st d))(hz:w.heap.size<=b)(hi:In.nV Λ s d)(ha:d.any.Nodup)(jQ:st∈c.nl)(hx:PE w0 Q x vx)(sx:ScE c.mks c.nl Xr x)(hd:∀y,Xr y->dom y\/y=st)(hD:1000*nn x<=D)(hn:nn x<=n0):CB x c W cnt s kb Λ (jq Γ st d) b Q Xr vx:=
 ⟨H.we.af K,H.st.k.af K,H.st.n,(H.wg.fr H.f H.st.p.run).set he (by have:=H.we.dt;omega) hi ha jQ,(hx.move H.f.size (λb p z=>H.f.block b z<|H.hq b p)<|λ_ p _=>p).af K,H.hq,sx,λy q=>Ei H.hd y<|hd y q,H.ft.le qBw hn,H.mf⟩
def gO.exG{g:Ty->ji Ty}{dG}{XL}(H:gO n0 M c w0 cnt0 s0 Λ Γ gb Q dom D (ja (jf c.mks x dG) g) P s cnt kb w)(K:Bq w W)(Hx:Bv x)(a:CB x c W cnt s kb Λ dG XL Q Xr vx)(ok:∀T ta xa s' aD Nj w',gO n0 M c w0 cnt0 s0 Λ Γ gb Q dom D2 (g T) (λw s=>P w s/\TW w (dw c) (1100*nn x) T (.iface ta xa)/\jk Λ s T) s' aD Nj w'->post (.returned<|.tuple #[.iface ta xa,Mv Nj]) w')(hD:D2+1000*nn x<=D:=by omega)(bad:∀f l r w',aZ c (1100*n0) (1000*n0) M s0 cnt0 w0 (CA f l r) w'->post (CA f l r) w':=by exact λ_ _ _ _ h=>⟨rfl,h⟩):
 Cq 223 #[Pv c.eb,Mv kb,Mv XL,vx] W post:=by
 refine(Hx c W cnt s kb Λ dG XL Q Xr vx a).mono λe w' hp=>?_;obtain⟨ah,z,vl,vr,rfl,q⟩|⟨ah,T,s1,ta,xa,iV,rfl,q⟩:=hp.split
 .exact bad _ _ _ _ (H.cl _ _<|q.post (Fr.of K) ae)
 .have⟨st,ty⟩:=q.step a.wk a.hn a.wg;have:=q.c1;have:=q.c2;have:=H.cn;have F:=(Fr.of (S:=λi=>i=c.cb) K).trans q.F;exact ok T ta xa s1 ah iV w' ⟨H.wg,H.hq,H.hd,H.ft,H.mf,H.f.trans F,q.we,H.st.and ⟨st.k,st.n,st.p⟩,H.cl.and q.m F q.c1 q.u ae,λw2 s2 a b=>⟨H.lv w2 s2 (F.trans a)<|st.p.trans b,q.t.fr a<|λ_ p _=>p,ty.run b.run⟩,ae⟩
def gO.ex{g:Ty->ji Ty}(H:gO n0 M c w0 cnt0 s0 Λ Γ gb Q dom D (ja (jf c.mks x Γ) g) P s cnt kb w)(Hx:Bv x)(hx:PE w0 Q x vx)(sx:ScE c.mks c.nl dom x)(ok:∀T ta xa s' aD Nj w',gO n0 M c w0 cnt0 s0 Λ Γ gb Q dom D2 (g T) (λw s=>P w s/\TW w (dw c) (1100*nn x) T (.iface ta xa)/\jk Λ s T) s' aD Nj w'->post (.returned<|.tuple #[.iface ta xa,Mv Nj]) w')(hD:D2+1000*nn x<=D:=by omega)(hn:nn x<=n0:=by rw[en];omega)(bad:∀f l r w',aZ c (1100*n0) (1000*n0) M s0 cnt0 w0 (CA f l r) w'->post (CA f l r) w':=by exact λ_ _ _ _ h=>⟨rfl,h⟩):
 Cq 223 #[Pv c.eb,Mv kb,Mv gb,vx] w post:=
 H.exG (zx _ _) Hx ⟨H.we,H.st.k,H.st.n,H.wg.fr H.f H.st.p.run,hx.move H.f.size (λb p z=>H.f.block b z<|H.hq b p)<|λ_ p _=>p,H.hq,sx,H.hd,H.ft.le qBw hn,H.mf⟩ ok hD bad
section
variable {Y:Ty} {g:Unit->ji Ty} {v1 v2:Value}
def gO.eqc(H:gO n0 M c w0 cnt0 s0 Λ Γ gb Q dom D (ja (jo X Y f t) g) P s cnt kb w)(K:Bq w W)(hx:TW W (dw c) S X v1)(hy:TW W (dw c) S Y v2)(tx:jk Λ s X)(ty:jk Λ s Y)(hS:S<=900000:=by omega):
 Cq 224 #[Mv kb,v1,v2,.agg #[Nv f,Nv t]] W λe w'=>(∃fl l r,e=CA fl l r/\aZ c (1100*n0) (1000*n0) M s0 cnt0 w0 e w')\/BN c cnt s Λ X Y f t w e w':=by
 have:=H.cn;have:=H.ft.a;refine(aiG (H.we.af K) (H.st.k.af K) H.st.n ae hS hx hy tx ty f t).mono λe w' q=>?_;obtain q|q:=q.or
 .obtain⟨fl,l,r,h1,h2⟩:=q.post (H.we.af K)<|Fr.of K;exact .inl ⟨fl,l,r,h1,H.cl _ _ h2⟩
 .exact .inr (q.up K)
def gO.eqd(H:gO n0 M c w0 cnt0 s0 Λ Γ gb Q dom D (ja (jo X Y f t) g) P s cnt kb w)(q:BN c cnt s Λ X Y f t w (.returned u) w'):∃Nj s',u=Mv Nj/\gO n0 M c w0 cnt0 s0 Λ Γ gb Q dom D (g ()) P s' cnt Nj w':=by
 obtain⟨b,e,k,s',he,kp,wk,hu⟩:=q;injection e with e;exact⟨b,s',e,H.wg,H.hq,H.hd,H.ft,H.mf,H.f.trans<|Fr.of k,H.we.af k,⟨wk,kp.new,H.st.p.trans kp⟩,H.cl.and he (Fr.of k) (br _) (λn q=>xo<|hu▸q)<|br _,λw2 s2 a b=>H.lv w2 s2 ((Fr.of k).trans a)<|kp.trans b,H.cn⟩
def gO.eq(H:gO n0 M c w0 cnt0 s0 Λ Γ gb Q dom D (ja (jo X Y f t) g) P s cnt kb w)(hx:TW w (dw c) S X v1)(hy:TW w (dw c) S Y v2)(tx:jk Λ s X)(ty:jk Λ s Y)(ok:∀Nj s' w',gO n0 M c w0 cnt0 s0 Λ Γ gb Q dom D (g ()) P s' cnt Nj w'->post (.returned<|Mv Nj) w')(hS:S<=900000:=by omega)(bad:∀f l r w',aZ c (1100*n0) (1000*n0) M s0 cnt0 w0 (CA f l r) w'->post (CA f l r) w':=by exact λ_ _ _ _ h=>⟨rfl,h⟩):Cq 224 #[Mv kb,v1,v2,.agg #[Nv f,Nv t]] w post:=
 (H.eqc (zx _ _) hx hy tx ty hS).mono λe w' q=>by
  obtain⟨fl,l,r,rfl,q⟩|q:=q
  .exact bad _ _ _ _ q
  .have h:=q;obtain⟨b,rfl,-⟩:=q;have⟨Nj,s',e,H⟩:=H.eqd h
   cases e
   exact ok _ _ _ H
end
def gO.new{g}(H:gO n0 M c w0 cnt0 s0 Λ Γ gb Q dom D (ja j6 g) P s cnt kb w)(ok:∀s' w',gO n0 M c w0 cnt0 s0 Λ Γ gb Q dom D2 (g<|cnt+1) (λw s=>P w s/\jk Λ s (.var<|cnt+1)) s' (cnt+1) kb w'->post (.returned<|Iv<|(cnt:Int)+1) w')(hD:D2+1<=D:=by omega):Cq 46 #[Pv c.cb] w post:=by
 have cn:=H.cn;have:=H.ft.a;have⟨W,F⟩:=H.we.fresh;have⟨m,st,ty⟩:=yR H.st.k H.st.n F;refine(oA cnt ae H.we.ct).mono ?_;rintro e w'⟨rfl,rfl⟩;exact ok _ _ ⟨H.wg,H.hq,H.hd,H.ft,H.mf,H.f.trans F,W,H.st.and st,H.cl.and m F ae (λn q=>q.imp id λq=>ae) ae,λw2 s2 a b=>⟨H.lv w2 s2 (F.trans a)<|st.p.trans b,ty.run b.run⟩,ae⟩
def X6 w c n:TW w (dw c) 1 (.var n) (.iface 152<|Nv n):=TW.of (x:=.var n) (db.var n) trivial (by simp[size])
def TW.pr{a b:Ty}{va vb}(ha:TW w (dw c) S1 a va)(hb:TW w (dw c) S2 b vb)(hc:c.cb<w.heap.size):TW (w.alloc<|.cells #[va,vb] 87) (dw c) (1+S1+S2) (qn a b) (.iface 165<|.agg #[.string<|pn m9,.slice (some ⟨w.heap.size,0,none⟩) 2 2]):=by
 obtain⟨⟨x1,y1,e1,z1⟩,wx⟩:=ha;obtain⟨⟨x2,y2,e2,z2⟩,wy⟩:=hb;exact⟨⟨.aM m9 [x1,x2],m_.ty (xn<|xo rfl) y1 y2 (by show w.heap.size≠c.cb;omega),dR.af2 m9 XK e1 e2,by simp only[size,ak];omega⟩,⟨XK,wx,wy,trivial⟩⟩
def aiP{a b:Ty}{tb}{xb}(ha:TW w (dw c) S1 a (.iface ta xa))(hb:TW w (dw c) S2 b (.iface tb xb))(hc:c.cb<w.heap.size):Cq 254 #[.iface ta xa,.iface tb xb] w λe w'=>∃g,e=.returned (.iface 165<|.agg #[.string<|pn pN,.slice (some ⟨g,0,none⟩) 2 2])/\Bq w w'/\TW w' (dw c) (1+S1+S2) (qf a b) (.iface 165<|.agg #[.string<|pn pN,.slice (some ⟨g,0,none⟩) 2 2]):=
 (vS _ _ _ _).mono λe w' h=>by
  obtain⟨rfl,rfl⟩:=h;exact⟨_,rfl,bw _,TW.fn ha hb hc⟩
def gO.ret(H:gO n0 M c w0 cnt0 s0 Λ Γ gb Q dom D (jj X) P s cnt kb w)(ht:TW w (dw c) S X (.iface ta xa))(hS:S<=1100*n0:=by rw[en];omega):aZ c (1100*n0) (1000*n0) M s0 cnt0 w0 (.returned<|.tuple #[.iface ta xa,Mv kb]) w:=H.cl _ _<|P7 H.we H.st.k (ht.le hS)<|Fr.refl _ _
end
section
variable {c:WC} {cnt:Nat} {y z:Nd} {vy vz:Value}
def Nk(mk:jl)s n x y f t a(Γ:jc):jf mk (.mk 6 s n [x,y] f t a) Γ=ja (jf mk x Γ) λa=>ja (jf mk y Γ) λb=>jj<|qn a b:=by simp[jf,jy,j7,j9]
def ScE.af_(h:ScE c.mks c.nl dom (.mk k st n [x,y] f t a))(hk:k=6\/k=7\/k=8):ScE c.mks c.nl dom x/\ScE c.mks c.nl dom y:=by
 obtain rfl|rfl|rfl:=hk<;>cases h with
 |two _ _ _ _ _ _ _ _ _ _ hx hy=>exact⟨hx,hy⟩|lt _ _ _ _ _ _ _ _ _ _ hc=>omega
def opT s:=if s=dL then In.oB else qs
def Nl(mk:jl)s n x y f t a(Γ:jc):jf mk (.mk 7 s n [x,y] f t a) Γ=ja (jf mk x Γ) λa=>ja (jo a qs (jt x)<|jv x) λ_=>ja (jf mk y Γ) λb=>ja (jo b qs (jt y)<|jv y) λ_=>jj<|opT s:=by simp[jf,jy,j7,j9,In.j_,opT]
def Ix:Tryz.prog.underlying 108=some (.map 9 153):=qkr
def acM w:(zeroValue 153).run xq w=.ok .nilFunc w:=qkr
def uw.look{b}(h:uw w b){k}(hk:k=gh\/k=dE\/k=fc\/k=dL):(k=dL/\(zo 108 (Mv b) (.string k) false).run xq w=.ok (.func (.func 48) #[] #[]) w)\/(k≠dL/\(zo 108 (Mv b) (.string k) false).run xq w=.ok (.func (.func 47) #[] #[]) w):=by
 obtain⟨L,h1,g1,g2,g3,g4⟩:=h;have hl:=λk=>h1.ms.look PW Ix (acM w) k trivial (λ_ _=>trivial) false;obtain rfl|rfl|rfl|rfl:=hk
 .grind
 .grind
 .grind
 .grind
def uw.drew(h:uw w b):uw w.drew b:=h.same rfl
end
end
section
open Go.ChangeMaps Un
mutual
def m0:Nd->Ty
 |.mk k s _ L _ _ _=>.aM (iO k s)<|W9 L
def W9:List Nd->List Ty
 |[]=>[]|x::l=>m0 x::W9 l
end
def yv:∀L,(W9 L).length=L.length
 |[]=>rfl|_::l=>by simp[W9,yv l]
def Rw:∀(L:List Nd)(i:Nat)(h:i<L.length),(W9 L)[i]'(by rw[yv];exact h)=m0 L[i]
 |x::l,0,_=>rfl|x::l,i+1,h=>by simp only[W9,xc];exact Rw l i Hn
inductive N0:Nd->Prop where
 |two(k:Nat)(s:BA)(n:Nat)(x y:Nd)(f t a:Nat)(hk:k=17\/k=6)(hx:N0 x)(hy:N0 y):N0 (.mk k s n [x,y] f t a)
 |up(s:BA)(n:Nat)(L:List Nd)(f t a:Nat)(hl:L.length<=1001)(hL:∀i(h:i<L.length),N0 L[i]):N0 (.mk 2 s n L f t a)
def Fz:∀(L:List Nd),(∀i(h:i<L.length),∀ns,(∀n,¬aw n (bt ns<|es L[i]).1)->size (bt ns<|es L[i]).1<=1000->N0 L[i]/\bt ns (es L[i])=(m0 L[i],ns))->∀ns,(∀n,¬bW n (aI ns<|dI L).1)->ak (aI ns<|dI L).1<=1000->
 (∀i(h:i<L.length),N0 L[i])/\aI ns (dI L)=(W9 L,ns)/\L.length<=1000
 |[],_,ns,_,_=>⟨λi h=>absurd h ag,rfl,ag⟩|x::l,H,ns,ho,hz=>by
  simp only[dI,aI,bW,ak,not_or]at ho hz;have⟨h1,h2⟩:=H 0 ag ns (λn=>(ho n).1)<|xw (Nat.le_add_right _ _) hz;have h2:bt ns (es x)=(m0 x,ns):=h2;rw[h2]at ho hz;have hz:size (m0 x)+ak (aI ns<|dI l).1<=1000:=hz;have⟨h3,h4,h5⟩:=Fz l (λi hi=>H (i+1) bF) ns (λn=>(ho n).2) ae;have h6:1<=size (m0 x):=by cases x with|mk k s n L f t a=>simp only[m0,size];omega
  have h7:∀(l:List Ty),l.length<=ak l:=by
   intro l
   induction l with
   |nil=>simp
   |cons t l ih=>simp only[yE,ak];have:1<=size t:=by cases t<;>simp[size]
                 omega
  have h8:=h7<|W9 l;rw[h4]at hz;rw[yv]at h8;refine⟨λi hi=>?_,?_,?_⟩
  .cases i with
   |zero=>exact h1|succ i=>exact h3 i qBl
  .simp[dI,aI,h2,h4,W9]
  .simp only at hz;simp only[yE];omega
def afo(h:PT w Q nd v):∀ns,(∀n,¬aw n (bt ns<|es nd).1)->size (bt ns<|es nd).1<=1000->N0 nd/\bt ns (es nd)=(m0 nd,ns):=by
 induction h with
 |var s n f t a x y hq hx hy=>
  intro ns ho _;exfalso;simp only[es,bt,if_true]at ho;exact ho _ rfl
 |fn s n a b f t at_ x y va vb ha hb N_ N'=>
  intro ns ho hz;have e0:∀k,k=17\/k=6->bt ns (es<|.mk k s n [a,b] f t at_)=(.aM (iO k s) (aI ns<|dI [a,b]).1,(aI ns<|dI [a,b]).2):=λk hk=>by obtain rfl|rfl:=hk<;>simp[es,bt]
  rw[e0 _<|xo rfl]at ho hz⊢;simp only[size,aw]at ho hz
  have⟨h3,h4,h5⟩:=Fz [a,b] (λi hi=>by
   have rV:i=0\/i=1:=Ie;obtain rfl|rfl:=rV
   .exact N_
   .exact N') ns ho ae
  refine⟨.two 17 s n a b f t at_ (xo rfl) (h3 0 ag)<|h3 1 ag,?_⟩;rw[h4];simp[m0]
 |pr s n a b f t at_ x y va vb ha hb N_ N'=>
  intro ns ho hz;have e0:∀k,k=17\/k=6->bt ns (es<|.mk k s n [a,b] f t at_)=(.aM (iO k s) (aI ns<|dI [a,b]).1,(aI ns<|dI [a,b]).2):=λk hk=>by obtain rfl|rfl:=hk<;>simp[es,bt]
  rw[e0 _<|xn rfl]at ho hz⊢;simp only[size,aw]at ho hz
  have⟨h3,h4,h5⟩:=Fz [a,b] (λi hi=>by
   have rV:i=0\/i=1:=Ie;obtain rfl|rfl:=rV
   .exact N_
   .exact N') ns ho ae
  refine⟨.two 6 s n a b f t at_ (xn rfl) (h3 0 ag)<|h3 1 ag,?_⟩;rw[h4];simp[m0]
 |up s n L f t at_ x y x' y' sa sc vs hu aO hr hx hy ih=>
  intro ns ho hz;have e0:bt ns (es<|.mk 2 s n L f t at_)=(.aM (iO 2 s) (aI ns<|dI L).1,(aI ns<|dI L).2):=by simp[es,bt]
  rw[e0]at ho hz⊢;simp only[size,aw]at ho hz;have⟨h3,h4,h5⟩:=Fz L ih ns ho ae;refine⟨.up s n L f t at_ ae h3,?_⟩;rw[h4];simp[m0]
def aaw T w(e:Ending)w':=∃u,e=.returned u/\dW w' (λb=>w.heap.size<=b) T u/\Fr (λ_=>False) w w'
def aaw.up{T}{w w0 w':World}{e}(h:aaw T w0 e w')(hb:Bq w w0):aaw T w e w':=by
 obtain⟨u,h1,h2,h4⟩:=h;exact⟨u,h1,h2.wide λb p=>xw hb.size p,(Fr.of hb).trans h4⟩
def FC nd:=∀(w:World)(Q:Nat->Prop)(v:Value),PT w Q nd v->Cq 234 #[v,.nilFunc] w (aaw (m0 nd) w)
def aax(L:List Nd)w gk v wr:=
 ∃(j:Nat)(C:Array Value),Hid (gk=L.length-j)/\j<=L.length/\v=Nv j/\Fr (λ_=>False) w wr/\Bx wr w.heap.size C/\Hid (C.size=L.length)/\
  Hid (∀i(h:i<L.length),i<j->∃u,C[i]? =some u/\dW wr (λb=>w.heap.size<b/\b<wr.heap.size) (m0 L[i]) u)
def Dr c(EW:CN c)L sa sc(vs:Nat->Value)(hL:L.length<=1001)(aO:L=[]\/∃g,sa=some ⟨g,0,none⟩/\Q g/\g<w.heap.size/\∀i,i<L.length->w.cell? ⟨g,i,none⟩=some (vs i))(hr:∀i(h:i<L.length),PT w Q L[i]<|vs i)(IH:∀i(h:i<L.length),FC L[i]):
 Cq 252 #[.string<|pn c,.nilFunc,.slice sa L.length sc] w (aaw (.aM c<|W9 L) w):=by
 obtain⟨i0,yq,oR,nu,iZ⟩:=info_parts gE;have W7:=jV (by_:=16) eK yq oR rfl nu iZ aB L.length hL;go_enter func252,ntmps252
 go_wp2
 go_loopg[15] L.length (λgk v wr=>aax L w gk v wr)
 case atStart=>
  exact⟨0,vf L.length .nilIface,ai ag,zd _,rfl,Fr.of<|bw _,Bx.new w _ _,ai ag,ai<|λi _ hi=>absurd hi ae⟩
 case round=>
  obtain⟨j,C,dl,hj,rfl,F1,B1,hC,hT⟩:=hrel;have zw:=F1.size;by_cases bm:j<L.length
  .have hd:(j:Int)<(L.length:Int):=ae;obtain⟨g,rfl,hg,k9,bY⟩:∃g,sa=some ⟨g,0,none⟩/\Q g/\g<w.heap.size/\∀i,i<L.length->w.cell? ⟨g,i,none⟩=some (vs i):=by
    obtain h0|h0:=aO
    .subst h0;simp at bm
    .exact h0
   have cg:wr.cell? ⟨g,j,none⟩=some (vs j):=by
    rw[zh (a:=⟨g,j,none⟩) (w:=w)<|F1.block g k9 id];exact bY j bm
   have PJ:=(hr j bm).fr F1<|λb p _ q=>q;obtain⟨tv,xv,hv⟩:=PJ.bQ;have HC:=IH j bm wr Q (vs j) PJ;rw[hv]at cg HC;go_wp2_with fail;refine HC.mono ?_;rintro e w1⟨u,rfl,HU,HF⟩;obtain⟨tu,xu,rfl⟩:=HU.iface;have B2:=B1.fr HF id;have wJ:j<C.size:=qBh;have cj:=(B2.c j).trans<|Array.getElem?_eq_getElem wJ;have fj:=B2.f j;have B3:=B2.aR j (.iface tu xu) (C.setIfInBounds j<|.iface tu xu) rfl wJ;have Bu:=F1.trans HF;have z2:=HF.size;have zb:=B1.z
   go_wp2
   go_roundg(L.length-(j+1))
   case measure=>rw[uh dl];omega
   case rel=>
    refine⟨j+1,C.setIfInBounds j<|.iface tu xu,ai rfl,ae,jP,Bu.set (xn<|br _) j _,B3,ai (by simp;exact hC),ai<|λi hi hij=>?_⟩;have jQ:∀b,w.heap.size<b->b<w1.heap.size->(w1.setCell ⟨w.heap.size,j,none⟩<|.iface tu xu).heap[b]? =w1.heap[b]? :=λb hb _=>Below.heap_setCell _ _ _ _ (by show b≠w.heap.size;omega);have hss:(w1.setCell ⟨w.heap.size,j,none⟩<|.iface tu xu).heap.size=w1.heap.size:=Dd;by_cases e:i=j
    .subst e;refine⟨.iface tu xu,by simp[wJ],?_⟩;exact HU.low.move ae (λb p z=>jQ b qAy z)<|λb p z=>⟨qAy,ae⟩
    .obtain⟨u',wK,wL⟩:=uh hT i hi ae;refine⟨u',by rw[Array.getElem?_setIfInBounds_ne ae];exact wK,?_⟩;have h3:=wL.fr HF<|λb p _ q=>q;exact h3.move ae (λb p z=>jQ b p.1 z)<|λb p z=>⟨p.1,ae⟩
  .have hd:decide ((j:Int)<(L.length:Int))=false:=bF;have ej:j=L.length:=ae;subst ej
   go_wp2
   go_ret;refine⟨_,rfl,?_,F1⟩;have Y5:=yv L;rw[<-Y5];refine .aM c _ _ _ (λi=>C.getD i .nilIface) EW (xn ⟨w.heap.size,rfl,br _,B1.z,λi hi=>?_⟩)<|λi hi=>?_
   .obtain⟨u,hu,_⟩:=uh hT i ae ae;rw[B1.c i,hu];simp[Array.getD_eq_getD_getElem?,hu]
   .obtain⟨u,hu,Um⟩:=uh hT i ae ae;have:C.getD i .nilIface=u:=qBm;rw[this,Rw L i ae];exact Um.wide λb p=>qAu
def Rx{T}(hk:k=17/\T=192/\cn=pN\/k=6/\T=196/\cn=m9)s n x y f t a(hx:FC x)(hy:FC y):FC (.mk k s n [x,y] f t a):=by
 intro w Q v hp;have e:m0 (.mk k s n [x,y] f t a)=.aM cn (W9 [x,y]):=by obtain⟨rfl,rfl,rfl⟩|⟨rfl,rfl,rfl⟩:=hk<;>simp[m0,iO]
 rw[e];obtain⟨x1,y1,va,vb,ha,hb,rfl⟩:∃x1 y1 va vb,PT w Q x va/\PT w Q y vb/\v=Fv T (Av #[Iv x1,Iv y1,va,vb]):=by obtain⟨rfl,rfl,rfl⟩|⟨rfl,rfl,rfl⟩:=hk<;>(cases hp;exact⟨_,_,_,_,qas,qas,rfl⟩)
 obtain⟨ta,xa,rfl⟩:=ha.bQ;obtain⟨tb,xb,rfl⟩:=hb.bQ;have cr:Bq w ((w.alloc<|Cv #[Iv x1,Iv y1,Fv ta<|Av xa,Fv tb<|Av xb] T).alloc<|Cv #[Fv ta<|Av xa,Fv tb<|Av xb] 125):=(bw _).alloc ag _;have BR:=(Bx.new (w.alloc<|Cv #[Iv x1,Iv y1,Fv ta<|Av xa,Fv tb<|Av xb] T) #[Fv ta<|Av xa,Fv tb<|Av xb] 125);have gL:(w.alloc<|Cv #[Iv x1,Iv y1,Fv ta<|Av xa,Fv tb<|Av xb] T).heap.size=w.heap.size+1:=ag;rw[gL]at BR
 have HC:=ai (Dr (w:=((w.alloc<|Cv #[Iv x1,Iv y1,Fv ta<|Av xa,Fv tb<|Av xb] T).alloc<|Cv #[Fv ta<|Av xa,Fv tb<|Av xb] 125)) (Q:=λb=>Q b\/b=w.heap.size+1) cn (by obtain⟨-,-,rfl⟩|⟨-,-,rfl⟩:=hk;exact xo rfl;exact xn<|xo rfl) [x,y] (some ⟨w.heap.size+1,0,none⟩) 2 (λi=>if i=0 then Fv ta (Av xa)else Fv tb (Av xb)) ag
  (xn ⟨w.heap.size+1,rfl,xn rfl,ag,λi hi=>by
   have rV:i=0\/i=1:=Ie;rw[BR.c i]
   obtain rfl|rfl:=rV<;>rfl⟩)
  (λi hi=>by
   have rV:i=0\/i=1:=Ie;obtain rfl|rfl:=rV
   .exact(ha.af cr).wide λb p=>xo p
   .exact(hb.af cr).wide λb p=>xo p)
  (λi hi=>by
   have rV:i=0\/i=1:=Ie;obtain rfl|rfl:=rV
   .exact hx
   .exact hy))
 obtain⟨rfl,rfl,rfl⟩|⟨rfl,rfl,rfl⟩:=hk;all_goals
  first|rw[kP]at HC|rw[kQ]at HC
  exact Kf
def ag1 s n L f t a(hl:L.length<=1001)(hL:∀i(h:i<L.length),FC L[i]):FC (.mk 2 s n L f t a):=by
 intro w Q v hp;have e:m0 (.mk 2 s n L f t a)=.aM s (W9 L):=by simp[m0,iO]
 rw[e]
 cases hp with
 |up s n L f t at_ x y x' y' sa sc vs hu aO hr hx hy=>
 clear hx hy;have cr:Bq w (w.alloc<|Cv #[Iv x,Iv y,Iv x',Iv y',Sv s,Lv sa L.length sc] 194):=bw _
 have HC:=ai (Dr (Q:=Q) s (xn<|xn hu) L sa sc vs hl
  (aO.imp id λq=>by
   obtain⟨g,q1,q2,q3,q4⟩:=q
   exact⟨g,q1,q2,bF,λi hi=>(zh (a:=⟨g,i,none⟩)<|cr.block g q3).trans<|q4 i hi⟩)
  (λi hi=>(hr i hi).af cr) hL)
 rw[fh hu]at HC;clear aO hr;exact Kf
def afp nd(h:N0 nd):FC nd:=by
 induction h with
 |two k s n x y f t a hk hx hy dQ il=>
  obtain rfl|rfl:=hk
  .exact Rx (xo ⟨rfl,rfl,rfl⟩) s n x y f t a dQ il
  .exact Rx (xn ⟨rfl,rfl,rfl⟩) s n x y f t a dQ il
 |up s n L f t a hl hL ih=>exact ag1 s n L f t a hl ih
end
section
open Go.ChangeMaps Go.MapKept Un
section
variable {c:WC} {cnt:Nat}
def acN{x}(h:CB (.mk 2 x n [] f t a) c w cnt s kb Λ Γ gb Q dom (.iface 219<|.agg #[Nv f,Nv t,.string x])):
 Cq 223 #[Pv c.eb,Mv kb,Mv gb,.iface 219<|.agg #[Nv f,Nv t,.string x]] w (aZ c (1100*nn (.mk 2 x n [] f t a)) (1000*nn (.mk 2 x n [] f t a)) (jf c.mks (.mk 2 x n [] f t a) Γ) s cnt w):=by
 have en:nn (.mk 2 x n [] f t a)=1:=qBi;obtain⟨tk,m,hx⟩:∃tk m,c.mks x=some (tk,m):=by
  cases h.sc with
  |up _ _ _ _ _ _ tk m hx=>exact⟨tk,m,hx⟩|leaf _ _ _ _ _ _ _ hk=>omega
 rw[en,XY c.mks x n f t a Γ hx];have WZ:=h.ft.a;rw[en]at WZ;have gL:=h.mf.sz x tk m hx;have Hg:=h.mf.wh x tk m hx;have HVS:=h.mf.vs x tk m hx;have has:=sD tk m;have yP:(vars [] m).length<=size m:=by
  exact SF
 have hla:(vars []<|jp tk m).length<=1000:=by
  rw[cC];have h2:=dc (occs<|jp tk m) [];have h3:=dd<|jp tk m;simp only[qO]at h2;omega
 have⟨k0,B0⟩:=rq w #[Nv f,Nv t,Sv x] 219;obtain⟨w0,xF⟩:∃w0,w0=w.alloc (Cv #[Nv f,Nv t,Sv x] 219):=⟨_,rfl⟩;have Yc:=h.we.af k0;have wk0:=h.wk.af k0;rw[<-xF]at k0 B0 Yc wk0;have⟨v,hv,ya⟩:=Yc.ms.look hx;have ld:=Yc.d;have ll:=Yc.l;have Na:=hv;obtain⟨sa,sc,ta,xa,rfl,hr,hm⟩:=Na;have HRN:∀W:World,Bq w0 W->Cq 236 #[Pv c.eb,Fv ta xa] W (λe w'=>∃b,e=Rv (Mv b)/\RnA c cnt (vars [] m) w0 w' b):=λW hb=>by
  refine(CF (Yc.af hb) (hm.w.af hb) ae ae).mono ?_;rintro e w'⟨b,rfl,h1,h2,h3,h4⟩;exact⟨b,rfl,by have:=hb.size;omega,h2,h3,(Fr.of hb).trans h4⟩
 have HTY:∀W:World,Fr (λi=>i=c.cb) w0 W->Cq 237 #[Av #[Lv sa tk.length sc,Fv ta xa]] W (λe w'=>∃tu xu,e=Rv (Fv tu xu)/\db w' (dw c) (jp tk m) (Fv tu xu)/\Bq W w'):=λW hF=>by
  refine(vR (hv.move (Q:=dw c) hF.size (λb p z=>hF.block b z p.1)<|λb p _=>p.1) ae).mono ?_;rintro e w'⟨u,rfl,hu,hk⟩;obtain⟨tu,xu,rfl⟩:=hu.iface;exact⟨tu,xu,rfl,hu.wide λi p=>by obtain p|p:=p;exact p;show i≠c.cb;have:=hF.size;omega,hk⟩
 have Be:∀(W:World)(b:Nat)(tu:TypeId)(xu:Value),RnA c cnt (vars [] m) w0 W b->db W (dw c) (jp tk m) (Fv tu xu)->Cq 214 #[Mv b,Fv tu xu] W (λe w'=>∃tr xr,e=Rv (Fv tr xr)/\TW w' (dw c) 1100 (sub (jm<|qP cnt<|vars [] m)<|jp tk m) (Fv tr xr)/\Bq W w'):=λW b tu xu hA hu=>by
  have ev:=PZ cnt<|vars [] m;have Ip:=Iq hA.sb (show dw c b by have:=hA.z;show b≠c.cb;omega) hu ae (by rw[ev,iz];omega);rw[ev]at Ip;refine Ip.mono ?_;rintro e w'⟨u,rfl,Ms,hk⟩;obtain⟨tr,xr,rfl⟩:=Ms.iface;have hw':=pL (qP cnt<|vars [] m) _ Hg;refine⟨tr,xr,rfl,⟨⟨_,Ms.wide λi p=>by obtain p|p:=p;exact p;show i≠c.cb;have:=hA.F.size;omega,(dR.refl _).cut hw',?_⟩,hw'⟩,hk⟩;have hlq:(vars []<|sub (jm<|qP cnt<|vars [] m)<|jp tk m).length<=1000:=by
   rw[cC];have h2:=dc (occs<|sub (jm<|qP cnt<|vars [] m)<|jp tk m) [];have h3:=dd<|sub (jm<|qP cnt<|vars [] m)<|jp tk m;rw[iz]at h3;simp only[qO]at h2;omega
  have:=fI hw' hlq ae;omega
 have HLK:∀W:World,Fr (λi=>i=c.cb) w0 W->(Instr.lookup 110 (Mv c.mb) (Sv x) false).run Tryz.prog W=.ok (Av #[Lv sa tk.length sc,Fv ta xa]) W:=λW hF=>ya W<|hF.block _ ae ae;have aeq:=HLK w0.drew<|Fr.of (Below.refl _ _).drew;obtain⟨b1,b2,b3⟩:=B0;have⟨e1,e2,e3⟩:=Yc.bx;have BB:=show Bx w0 w.heap.size #[Nv f,Nv t,Sv x]from⟨b1,b2,b3⟩;have K0:=ai k0;have WK0:=ai wk0;have HU:=ai h.wk.u;have nz:=ld.1;have zc:=h.we.dt;clear h k0 Yc wk0 hv ya hr hm Hg ld ll;go_enter func223,ntmps223;go_wp2_with fail;rw[<-xF];clear xF;have amQ:=aiO;have ne0:¬w.heap.size=c.cb:=ae;have f1:=e1 2;have f2:=b1 2;clear e1 e2 e3 b1 b2 b3
 go_region_held3(λw'=>w'.cell? ⟨c.eb,2,none⟩=some (Mv c.mb)/\w'.cell? ⟨w.heap.size,2,none⟩=some (Sv x)/\(zo 110 (Mv c.mb) (Sv x) false).run xq w'=.ok (Av #[Lv sa tk.length sc,Fv ta xa]) w') (first|go_keep|(simp[*])) (first
  |(go_at_call 236;go_loud(refine(HRN _ (zx _ _).drew).mono ?_);rintro e w2⟨b5,rfl,hA⟩;have g1:w2.cell? ⟨c.eb,2,none⟩=some (Mv c.mb):=hA.we.bx.c 2;have g2:w2.cell? ⟨w.heap.size,2,none⟩=some (Sv x):=(BB.fr hA.F ne0).c 2;have aer:=HLK w2 hA.F;have HA:=ai hA;clear hA)
  |(go_at_call 237;go_loud(refine(HTY _ HA.F).mono ?_);rintro e w3⟨tu,xu,rfl,hu,k3⟩;have A3:Hid (RnA c cnt (vars [] m) w0 w3 b5):=ai ⟨HA.z,HA.we.af k3,HA.sb.af k3,HA.F.trans<|Fr.of k3⟩;have g3:w3.cell? ⟨c.eb,2,none⟩=some (Mv c.mb):=A3.we.bx.c 2;have g4:w3.cell? ⟨w.heap.size,2,none⟩=some (Sv x):=(BB.fr A3.F ne0).c 2;have amR:=HLK w3 A3.F;have U3:=ai hu;clear hu k3)
  |(go_at_call 214;go_loud(refine(Be _ _ _ _ A3 U3).mono ?_);rintro e w4⟨tr,xr,rfl,ht,k4⟩;have A4:=A3.F.trans<|Fr.of k4;have g5:w4.cell? ⟨c.eb,2,none⟩=some (Mv c.mb):=(A3.we.af k4).bx.c 2;have g6:w4.cell? ⟨w.heap.size,2,none⟩=some (Sv x):=(BB.fr A4 ne0).c 2;have amS:=HLK w4 A4;have K4:=ai k4;have T4:=ai ht;clear ht k4 A4))
 all_goals
  go_wp2
  go_ret2;have a3:=uh A3;have k4:=uh K4;have wk0:=uh WK0;refine⟨(Fr.of K0).trans<|a3.F.trans<|Fr.of k4,cnt+(vars [] m).length,.ok (sub (jm<|qP cnt<|vars [] m)<|jp tk m,⟨s.k,λn=>s.u n\/(cnt<n/\n<=cnt+(vars [] m).length)⟩),ae,ae,a3.we.af k4,xn ⟨(_,qP cnt<|vars [] m),_,xn ⟨qP cnt<|vars [] m,_,⟨_,_,Iu (Cy cnt (vars [] m) (dF m xk) HU) λv=>?_,rfl⟩,rfl⟩,rfl⟩,λn q=>q,wk0.wh,tr,xr,kb,rfl,wk0.n,(wk0.k.fr a3.F wk0.n<|λ_ p _=>p).af k4,T4.le ae⟩;rw[bP,bP];simp only[List.not_mem_nil,false_or];exact⟨acK tk m v,HVS v⟩
end
abbrev alH:J_:=λ_ B M _=>B=(λ_=>False)/\M=(λ_=>False)
def VP n w:Cq 229 #[Iv n] w λe w'=>e=.returned (.iface 165<|.agg #[.string iW,.slice none 0 0])/\w'=w:=by
 go_enter func229,ntmps229;go_wp2_with fail;refine(yV).mono ?_;rintro e w1⟨rfl,rfl⟩
 go_wp2
 go_ret;exact⟨rfl,rfl⟩
def O0:Img 229 #[] #[] (λ_=>In.nX) (λ_ _=>True) alH where
 eg:=enters_of Tryz.func229 qkr rfl
 om acc B M w w' h _ _:=h
 lt acc B M w h:=xY
 call acc B M w n h _:=by
  obtain⟨rfl,rfl⟩:=h;refine(VP (n:Int) w).mono ?_;rintro e w'⟨rfl,rfl⟩;exact⟨_,_,_,rfl,Io _ _ sB,⟨rfl,rfl⟩,λb p=>p.elim,λb p=>p.elim,Fr.refl _ _⟩
def CJ{t}(ht:db w Q t v)(hz:size t<=1000000000000):Cq 218 #[v] w λe w'=>∃u,e=.returned u/\db w' (λi=>w.heap.size<=i) (In.dU t) u/\Bq w w':=by
 have HC:=Ao O0 t [] _ _ w v Q ⟨rfl,rfl⟩ (λi hi=>trivial) hz ht<|λx _ _=>id;obtain⟨ta,xa,rfl⟩:=ht.iface;go_enter func218,ntmps218;go_wp2_with fail;refine HC.mono ?_;rintro e w1⟨u,B',M',rfl,HU,hI,hB',hM',F⟩;obtain⟨tu,xu,rfl⟩:=HU.iface;have HB:=F.none<|λ_ q=>q
 go_wp2
 go_ret;exact⟨_,rfl,HU.wide λx p=>p.2.elim (λq=>q.elim) id,HB⟩
end
section
open Go.ChangeMaps
abbrev My:Array Value:=#[Iv 0,Iv 0,Iv 0,.nilIface,.nilIface]
def VK a b c d e w:(Instr.typeAssert (.iface 340<|.agg #[a,b,c,d,e]) 20 340 true).run xq w=.ok (.tuple #[.agg #[a,b,c,d,e],.bool true]) w:=qkr
def Bx.Qb(h:Bx w b C)(hC:C.size=5)v0 v1 v2 v3 v4:Bx (((((w.setCell ⟨b,0,none⟩ v0).setCell ⟨b,1,none⟩ v1).setCell ⟨b,2,none⟩ v2).setCell ⟨b,3,none⟩ v3).setCell ⟨b,4,none⟩ v4) b #[v0,v1,v2,v3,v4]:=by
 obtain⟨a0,a1,a2,a3,a4,rfl⟩:∃a0 a1 a2 a3 a4,C=#[a0,a1,a2,a3,a4]:=by
  obtain⟨l⟩:=C
  match l,hC with
  |[a,b,c,d,e],_=>grind
 exact((((h.aR 0 v0 #[v0,a1,a2,a3,a4] rfl ag).aR 1 v1 #[v0,v1,a2,a3,a4] rfl ag).aR 2 v2 #[v0,v1,v2,a3,a4] rfl ag).aR 3 v3 #[v0,v1,v2,v3,a4] rfl ag).aR 4 v4 #[v0,v1,v2,v3,v4] rfl ag
def CI b(hB:Bx w b My)(f:Fl)vl vr(hv:(vl=.nilIface/\vr=.nilIface)\/∃a b c d,vl=.iface a b/\vr=.iface c d):
 CallsD xq 212 #[Pv b] (.panicking [{v:=.iface 340<|.agg #[Nv f.kind,Nv f.al,Nv f.to,vl,vr],recovered:=false}]) w λe u' w'=>
  e=.returned (.tuple #[])/\u'=.panicking [{v:=.iface 340<|.agg #[Nv f.kind,Nv f.al,Nv f.to,vl,vr],recovered:=true}]/\Bx w' b #[Nv f.kind,Nv f.al,Nv f.to,vl,vr]/\Fr (λi=>i=b) w w':=by
 obtain⟨G,hG⟩:∃G:Value,G=.iface 340 (.agg #[Nv f.kind,Nv f.al,Nv f.to,vl,vr]):=⟨_,rfl⟩;rw[<-hG];have hta:=VK;have B0:=ai hB;obtain⟨c,ff,z⟩:=hB;refine callsD_of_wpS Tryz.func212 rfl λfB cs hu=>?_;apply wpS_seq;apply wpS_region;simp[wpOpsS,go_sem,recoverD,hu,Tryz.ntmps212,Exit.thenS];rw[show(#[Pv b]++((vf 16 undef).setIfInBounds 3 G).setIfInBounds 0 G)=#[Pv b,G,undef,undef,G,undef,undef,undef,undef,undef,undef,undef,undef,undef,undef,undef,undef]from rfl];obtain⟨CS,Ic⟩:∃CS:List Frame,CS=({fn:=fB.fn,tmps:=fB.tmps,todo:=fB.todo,defers:=fB.defers,mode:=FrameMode.panicking [{v:=G,recovered:=true}],kind:=fB.kind,roundOf:=fB.roundOf}::cs):=⟨_,rfl⟩;rw[<-Ic];refine wpS_of_wp ?_;subst hG;obtain⟨rfl,rfl⟩|⟨ta,xa,tb,xb,rfl,rfl⟩:=hv
 all_goals(
 go_wp2_with fail;refine⟨rfl,_,Ic,.tuple #[],by simp[results,Tryz.results212,go_sem],rfl,rfl,?_,?_⟩
 .exact((B0.Qb rfl _ _ _ _ _).alloc _)
 .exact(((((Fr.refl (λi=>i=b) w).set (b:=b) (xo rfl) 0 _).set (xo rfl) 1 _).set (xo rfl) 2 _).set (xo rfl) 3 _).set (xo rfl) 4 _|>.trans (Fr.of<|bw _))
def acR b:
 CallsD xq 212 #[Pv b] .returning w λe u' w'=>
  e=.returned (.tuple #[])/\u'=.returning/\w'=w:=by
 refine callsD_of_wpS Tryz.func212 rfl λfB cs hu=>?_;apply wpS_seq;apply wpS_region;simp[wpOpsS,go_sem,recoverD,hu,Tryz.ntmps212,Exit.thenS];rw[show(#[Pv b]++((vf 16 undef).setIfInBounds 3 Zv).setIfInBounds 0 Zv)=#[Pv b,Zv,undef,undef,Zv,undef,undef,undef,undef,undef,undef,undef,undef,undef,undef,undef,undef]from rfl];have Ic:fB::cs={fB with mode:=.returning}::cs:=(by cases fB;simp at hu;subst hu;rfl);refine wpS_of_wp ?_
 go_wp2
 exact⟨rfl,_,Ic,.tuple #[],by simp[results,Tryz.results212,go_sem],rfl,rfl,rfl⟩
end
end Go.Proofs.YtnldmeakhapdhaaGreatDoor

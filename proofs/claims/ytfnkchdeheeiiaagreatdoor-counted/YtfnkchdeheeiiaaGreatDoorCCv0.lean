import Derived.Test.YtfnkchdeheeiiaaGreatDoorCCu3
import Derived.Test.YtfnkchdeheeiiaaGreatDoorCCu5
import Derived.Test.YtfnkchdeheeiiaaGreatDoorCCu7
import Derived.Test.YtfnkchdeheeiiaaGreatDoorCZw
set_option linter.all false
set_option maxRecDepth 100000
set_option maxHeartbeats 8000000
namespace Go.Proofs.YtfnkchdeheeiiaaGreatDoor
open Go.Proofs.Tryz renaming prog->ja,checked->jc
open Bool renaming and_eq_true->jd
open Go
variable {l:List Nat}
section
open Go.RowKit Un
namespace In
def agh(l:List Nat)(h:∀j∈l,j<3)(h0:l≠[])(h5:l.length<=5):mC l=true:=by
 have m:=qR l h
 match l,h,h0,h5,m with
 |[_],_,_,_,m=>exact List.all_eq_true.1 c_1 _ m|[_,_],_,_,_,m=>exact List.all_eq_true.1 c_2 _ m|[_,_,_],_,_,_,m=>exact List.all_eq_true.1 c_3 _ m|[i,j,a,b],h,_,_,_=>
  have m:=qR [a,b] λi q=>h i<|.tail _<|.tail _ q;obtain rfl|rfl|rfl:i=0\/i=1\/i=2:=by have:=h i<|.head _;omega
  all_goals obtain rfl|rfl|rfl:j=0\/j=1\/j=2:=by have:=h j<|.tail _<|.head _;omega
  .exact List.all_eq_true.1 agr _ m
  .exact List.all_eq_true.1 ags _ m
  .exact List.all_eq_true.1 agt _ m
  .exact List.all_eq_true.1 agu _ m
  .exact List.all_eq_true.1 aif _ m
  .exact List.all_eq_true.1 aih _ m
  .exact List.all_eq_true.1 aii _ m
  .exact List.all_eq_true.1 akc _ m
  .exact List.all_eq_true.1 akd _ m
 |[i,j,k,a,b],h,_,_,_=>
  have m:=qR [a,b] λi q=>h i<|.tail _<|.tail _<|.tail _ q;obtain rfl|rfl|rfl:i=0\/i=1\/i=2:=by have:=h i<|.head _;omega
  all_goals obtain rfl|rfl|rfl:j=0\/j=1\/j=2:=by have:=h j<|.tail _<|.head _;omega
  all_goals obtain rfl|rfl|rfl:k=0\/k=1\/k=2:=by have:=h k<|.tail _<|.tail _<|.head _;omega
  .exact List.all_eq_true.1 adp _ m
  .exact List.all_eq_true.1 adq _ m
  .exact List.all_eq_true.1 adr _ m
  .exact List.all_eq_true.1 ads _ m
  .exact List.all_eq_true.1 adt _ m
  .exact List.all_eq_true.1 adu _ m
  .exact List.all_eq_true.1 adv _ m
  .exact List.all_eq_true.1 adw _ m
  .exact List.all_eq_true.1 adx _ m
  .exact List.all_eq_true.1 ady _ m
  .exact List.all_eq_true.1 adz _ m
  .exact List.all_eq_true.1 adA _ m
  .exact List.all_eq_true.1 adB _ m
  .exact List.all_eq_true.1 adC _ m
  .exact List.all_eq_true.1 adD _ m
  .exact List.all_eq_true.1 adE _ m
  .exact List.all_eq_true.1 adF _ m
  .exact List.all_eq_true.1 adG _ m
  .exact List.all_eq_true.1 adK _ m
  .exact List.all_eq_true.1 adL _ m
  .exact List.all_eq_true.1 adM _ m
  .exact List.all_eq_true.1 adN _ m
  .exact List.all_eq_true.1 adO _ m
  .exact List.all_eq_true.1 adP _ m
  .exact List.all_eq_true.1 adQ _ m
  .exact List.all_eq_true.1 adR _ m
  .exact List.all_eq_true.1 adS _ m
 |_::_::_::_::_::_::_,_,_,h5,_=>simp at h5
def JP:∀l,size (QF l)<=1+4*l.length
 |[]=>by simp[QF,size,ah]|j::l=>by
  have:=JP l;simp only[QF,mV];unfold cY;split<;>simp only[size,ah]<;>omega
end In
end
section
open Go.RowKit Go.ChangeMaps Go.MapKept Un
def Us(ok:In.mC l=true)(hl:l.length<=5):m7 (bs<|In.QG l)=(Un.written dec<|In.QF l,gF):=by
 have hz:=In.JP l;rw[In.mC]at ok;split at ok
 .simp only[jd]at ok;obtain⟨_,o5⟩:=ok;split at o5
  .rename_i y hy;have m:=In.Ut o5;have Zf:eK (bs<|In.QG l)=.ok y:=hy;rw[m7];rw[Zf];simp[m,show ¬48<size (In.QF l) by omega]
  .cases o5
 .cases ok
def adT.cn{k i j:Int}{L R:BA}{B:List (BA×BA)}(h:adT (In.Mr l) k i j L R B)(ok:In.mC l=true)(hl:l.length<=5):k=0/\B=[(⟨#[120]⟩,bs<|Un.written dec<|In.QF l)]:=by
 have hz:=In.JP l;obtain⟨rs,f,B,h,rfl,rfl,rfl,rfl⟩:=h;rw[JQ]at h;rw[In.mC]at ok;split at ok
 .rename_i t vs ms t' vs' ms' x e hr;rw[hr]at h;simp only[jd,decide_eq_true_eq,beq_iff_eq]at ok;obtain⟨⟨⟨⟨o1,o2⟩,o3⟩,o4⟩,_⟩:=ok;have⟨hC,hN⟩:=In.adU o4;have hc:=In.adV o1;obtain⟨hk,_⟩|⟨_,F,q,rfl,rfl,rfl⟩:=h
  .exact absurd o3 hk
  .simp only[In.QH]at q;obtain⟨o,ho,q⟩:=q;obtain⟨a,s',rfl,e1,_⟩:=In.adW hC hN hc ae (λ_=>none) ⟨Ty.var,λ_=>False⟩ ⟨λ_ _=>rfl,λ_ _ q=>q.elim⟩ o ho;obtain⟨z,_⟩|⟨_,T,B',hT,rfl,rfl,rfl⟩:=q
   .rw[e1]at z;omega
   .have hT:T=In.QF l:=by
     rw[hT,e1];split
     .rfl
     .exact hc.cl.sub _
    subst hT;exact⟨rfl,by simp[wB,o2,Un.written]⟩
 .cases ok
section
variable {w:World}
def Uu{c d:Int}(h0: -9223372036854775808<=c)(h1:c<=9223372036854775807)(hd:0<d): -9223372036854775808<=c.tdiv d/\c.tdiv d<=9223372036854775807:=by
 have:=Int.natAbs_tdiv_le_natAbs c d;by_cases hc:0<=c
 .have:=Int.tdiv_nonneg hc<|Int.le_of_lt hd;omega
 .have:0<=(-c).tdiv d:=Int.tdiv_nonneg ae ae;rw[Int.neg_tdiv]at this;omega
def Uv(n:Nat)(h:n<5):({data:=#[97,98,99,100,101]}:BA).extract n (n+1)=bs [97+n.toUInt8]:=by
 match n,h with
 |0,_|1,_|2,_|3,_|4,_=>decide
def Ca:∀l,(bs<|In.QI l).size<=1+18*l.length/\(bs<|In.QG l).size<=3+14*l.length
 |[]=>by simp[jZ,In.QI,In.QG]|j::l=>by
  have:=Ca l;simp only[jZ,In.QI,In.QG,mV]at this⊢;unfold In.cE In.cT;constructor<;>split<;>simp<;>omega
def Uw{j:Nat}(hl:∀j∈l,j<3)(hj:j<3):∀i∈j::l,i<3:=λi q=>by
 obtain rfl|q:=List.mem_cons.1 q
 .exact hj
 .exact hl i q
def Er(hL:Laid w)(c n:Int)(c0: -9223372036854775808<=c)(c1:c<=9223372036854775807)(h0: -9223372036854775808<=n)(h1:n<=9223372036854775807):
 Cq 8 #[Iv c,Iv n] w λe w'=>e=.returned (.bool true)/\Bq w w':=by
 have HL:=ai hL;have HP:Hid (∀x y:Int,-9223372036854775808<=x->x<=9223372036854775807->0<y->y<=1000->Cq 21 #[Iv x,Iv y] w λe w'=>∃r:Int,e=Rv (Iv r)/\0<=r/\r<y/\w'=w):=ai<|λx y a b d e=>Ux x y a b d e;have HE:Hid (∀W,Cq 14 #[Iv n] W λe w'=>∃m fn rs,e=Rv (Iv m)/\Es m fn rs/\w'=W):=ai<|λW=>Uy n h0 h1;clear hL h0 h1;go_enter Tryz.func8,Tryz.ntmps8;go_wp2_with fail;refine(HP c 5 c0 c1 aK aK).mono ?_;rintro e w'⟨k,rfl,k0,k1,rfl⟩
 go_wp2
 go_loopg[6,7,9] 5 (λg e t i wr=>∃l:List Nat,g=5-l.length/\e=Sv (bs<|In.QI l)/\t=Sv (bs<|In.QG l)/\i=Nv l.length/\(∀j∈l,j<3)/\(l.length:Int)<=1+k/\wr=w')
 case atStart=>exact⟨[],rfl,rfl,rfl,rfl,ag,bQ,rfl⟩
 case round=>
  obtain⟨l,rfl,rfl,rfl,rfl,hl,hk,rfl⟩:=hrel;have lY:(bs<|In.QI l).size<=100:=by have:=(Ca l).1;omega
  have kE:(bs<|In.QG l).size<=100:=by have:=(Ca l).2;omega
  by_cases sg:(l.length:Int)<1+k
  .have hz3:(({data:=#[97,98,99,100,101]}:BA).extract l.length<|l.length+1).size<=1:=by rw[Uv l.length ae];simp[jZ]
   have HQ:=ai<|HP (c.tdiv<|5*((l.length:Int)+1)) 3 (Uu c0 c1 ae).1 (Uu c0 c1 ae).2 aK aK;have hv:=ai<|Uv l.length ae;go_wp2_with fail;refine HQ.mono ?_;rintro e w'⟨j,rfl,j0,j1,rfl⟩;clear HQ;obtain rfl|rfl|rfl:j=0\/j=1\/j=2:=ae
   .go_wp2
    go_roundg(5-(l.length+1))
    case rel=>
     refine⟨0::l,rfl,?_,?_,iF,Uw hl aK,bQ,rfl⟩
     .rw[uh hv];show Sv (bs [102,117,110,32]++bs [97+l.length.toUInt8]++bs [32,45,62,32,40]++bs (In.QI l)++bs [44,32]++bs [97+l.length.toUInt8]++bs [32,43,32,49,41])=_;simp[m8,In.QI,In.cE]
     .simp only[In.QG,In.cT,<-m8];rfl
    case measure=>omega
   .go_wp2
    go_roundg(5-(l.length+1))
    case rel=>
     refine⟨1::l,rfl,?_,?_,iF,Uw hl aK,bQ,rfl⟩
     .simp only[In.QI,In.cE,<-m8];rfl
     .simp only[In.QG,In.cT,<-m8];rfl
    case measure=>omega
   .go_wp2
    go_roundg(5-(l.length+1))
    case rel=>
     refine⟨2::l,rfl,?_,?_,iF,Uw hl aK,bQ,rfl⟩
     .simp only[In.QI,In.cE,<-m8];rfl
     .simp only[In.QG,In.cT,<-m8];rfl
    case measure=>omega
  .have ajI:decide ((l.length:Int)<1+k)=false:=by simpa using sg
   have hlz:l.length<=5:=ae;have wo:l≠[]:=by rintro rfl;simp at sg;omega
   have HO:=ai<|In.agh l hl wo hlz;have HC:=ai<|Uz (uh HL)<|bs<|In.QG l;have HV:=ai<|Us (uh HO) hlz;clear sg hl wo hk;go_wp2_with fail;refine HC.mono ?_;rintro e w1⟨rfl,da⟩;rw[uh HV];simp only[m9,gF];have K1:Bq wr (w1.alloc<|Cv #[Iv 0,Iv 0,Iv 0] 30):=da.alloc da.size _;have B1:=ai<|Bx.new w1 #[Iv 0,Iv 0,Iv 0] 30
   have HX:Hid ((⟨#[116,121,112,101,32,76,32,39,97,32,61,32,78,32,124,32,67,32,39,97,32,40,76,32,39,97,41,59,116,121,112,101,32,83,32,61,32,80,32,124,32,81,32,73,110,116,32,66,111,111,108,59,108,101,116,32,120,32,61,32]⟩:BA)++bs (In.QI l)++⟨#[59]⟩=In.Mr l):=ai (by
    show bs In.agi++bs (In.QI l)++bs [59]=_;simp only[m8]
    rfl)
   have HI:Hid (∀{m:Int}{fn:FuncId}{rs:Bool},Es m fn rs->_):=ai<|λhn=>Et (HL.af K1) (In.Mr l) hn;clear HC HP;go_wp2_with fail;refine(HE _).mono ?_;rintro e w2⟨m,fn,rs,rfl,hn,rfl⟩;have HJ:=ai<|uh HI hn;clear HI HE;go_wp2_with fail;rw[uh HX];refine HJ.mono ?_;rintro e v1⟨k1,i,j,l1,r1,u,L,m1,cc,rfl,a1,b1,jT⟩;obtain⟨rfl,rfl⟩:=a1.cn (uh HO) hlz;have⟨y8,B3⟩:=mM v1 #[Iv 0,Iv i,Iv j,Sv l1,Sv r1,Lv u m1 cc,Lv none 0 0] 34;have DN:=jT.trans<|y8.mono jT.size;have K2:=K1.trans<|DN.mono K1.size;have B2:=B1.below DN;have⟨va,vc,e,h⟩:=b1.af y8;simp only[Value.slice.injEq,List.length_singleton]at e;obtain⟨rfl,rfl,rfl⟩:=e;obtain h|⟨g,rfl,hg,h⟩:=h
   .cases h
   have h:=h 0 ag;simp only[List.getElem_cons_zero,Nat.zero_mul,Nat.zero_add]at h;obtain⟨h1,h2⟩:=h;obtain⟨x1,x2,x3⟩:=B2;obtain⟨y1,y2,y3⟩:=B3;clear HJ a1 b1 HO HX HV da jT y8 DN hn
   go_wp2
   go_ret;exact⟨rfl,K2⟩
end
end
section
open Go.ChangeShapes Go.WideShapes Go.ChangeAt Go.WideMaps Go.WideElems Go.RowKit Go.ChangeMaps
def wN(os:Os)(started:os.Started)(H:Type)(enc:TypeId×Value->H):
 ReturnsInHanded {} jc os 8 .any (λw args=>(Rows.countedSpec.pre enc ja Tryz.f8 [] false w args/\laidMetH ja Rows.countedRow.laid w)/\sizedMet enc ja Tryz.f8 (OpenSpec.ofChange Rows.countedSpec) false w args)
  (Rows.countedSpec.post enc ja Tryz.f8 false true false false):=by
 refine returnsInHanded_of_change_and (C:=jc) (X:=λw _=>laidMetH ja Rows.countedRow.laid w) (λ_ _ _ hh h=>h.of_heap hh) own started qkr Tryz.func8
  (ChangeSpec.witness_shaped (enc:=enc) (C:=jc) (os:=os) (X:=λw _=>laidMetH ja Rows.countedRow.laid w) false (World.doorLaid ja 72 os) #[Iv 0,Iv 0] 8 rfl (World.shaped_of_RefB qkr qkr) qkr qkr qkr (UA os _)) ?_
 intro W base args ds gs before ab6 hW _ _ hL _;have adX:∀(j:Nat)t v,Tryz.f8.params[j]? =some t->args[j]? =some v->Value.okWide ja W .any base t v:=ab6;have hW':=hW;obtain⟨p,q,hA0,hV,rfl,hfz,yP⟩:=hW;have hA:DataW.TrodAll enc ja W 0 (λ_=>true) true Tryz.f8.params.toList args.toList ds p:=hA0;rw[Tryz.params8]at hA adX;obtain⟨v0,v1,d0,d1,p0,p1,rfl,rfl,rfl,h0,h1⟩:=trodAll_two hA;obtain⟨rfl,rfl⟩:=trodVars_none hV;obtain⟨c,rfl,rfl,rfl,hc⟩:=open_int Tryz.underlying3 (adX 0 3 v0 rfl rfl) h0;obtain⟨n,rfl,rfl,rfl,hw⟩:=open_int Tryz.underlying3 (adX 1 3 v1 rfl rfl) h1;clear hA0 ab6;simp only[List.append_nil]at hW';have hn: -9223372036854775808<=n/\n<=9223372036854775807:=by have QJ:=hw;simp only[Lit.wf,jd,decide_eq_true_eq]at QJ;exact QJ
 have hm: -9223372036854775808<=c/\c<=9223372036854775807:=by have QJ:=hc;simp only[Lit.wf,jd,decide_eq_true_eq]at QJ;exact QJ
 refine(Er (Z3 hL) c n hm.1 hm.2 hn.1 hn.2).mono λe W'⟨he,hb⟩=>?_;subst he;exact⟨_,rfl,_,_,_,[],_,[],hW',trodAll_mk1<|shut_bool Tryz.underlying4 _,trodAll_mk2 (shut_int Tryz.underlying3 hc)<|shut_int Tryz.underlying3 hw,rfl,hb.frame _,λh=>JB⟩
end
section
open Go.ChangeShapes Go.WideShapes Go.ChangeAt Go.WideMaps Go.WideElems Go.RowKit
def counted_named:Tryz.prog.funcNamed "assay/assaykeep.Counted" =some 8:=qkr
def Cb:Tryz.f8.isInstance ja Rows.countedRow.origin Rows.countedRow.targs:=of_decide_eq_true qkr
def Cc:Tryz.f8.isWrapper ja Rows.countedRow.wrapper Rows.countedRow.mainSum:=by
 rw[Func.isWrapper];first|(rw[if_pos<|by decide+kernel];kernel_rfl)|(rw[if_neg<|by decide+kernel];exact⟨rfl,rfl⟩)
def counted_row:Rows.CountedSaid:=
 OpenClaim.holds_of_wide 8 Tryz.f8 rfl rfl rfl rfl rfl rfl rfl ⟨rfl,rfl,rfl,rfl,rfl⟩ rfl rfl rfl rfl rfl counted_named Tryz.func8 wO Cb Cc
  (λos started H enc _=>wN os started H enc)
#print axioms counted_row
end
def Eu:([3,3].all λu=> !Tryz.prog.wantsStandIn u)=true:=qkr
theorem counted_holds:Rows.CountedCardSaid:=
 Claim7.holds_tied_plain_at .later [] [.data,.data,.data,.sentinel,.sentinel,.data,.data] true Rows.agreeCard.stood.harness true
  counted_row (λ_ h=>JB) Ev (λ_ h=>JB) counted_row_tie rfl ⟨rfl,rfl⟩ QK rfl
  (λf fn hf hfn=>by
   obtain rfl:f=8:=(Option.some.inj<|counted_named.symm.trans hf).symm;obtain rfl:fn=Tryz.f8:=(Option.some.inj<|Tryz.func8.symm.trans hfn).symm
   exact⟨JT,λj t ht=>by
    rw[Tryz.params8]at ht;have hm:t∈[3,3]:=by simpa using Array.mem_of_getElem? ht
    exact(show Tryz.prog.wantsStandIn t=false by simpa using List.all_eq_true.1 Eu t hm)⟩)
  Cd
#print axioms counted_holds
end Go.Proofs.YtfnkchdeheeiiaaGreatDoor

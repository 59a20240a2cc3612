import Derived.Laws.AppendOwnNone
import Derived.Test.YtfnkchdeheeiiaaGreatDoorQPf
import Derived.Test.YtfnkchdeheeiiaaGreatDoorQWj
import Derived.Test.YtfnkchdeheeiiaaGreatDoorQTo
set_option linter.all false
set_option maxRecDepth 100000
set_option maxHeartbeats 2000000
namespace Go.Proofs.YtfnkchdeheeiiaaGreatDoor
open Or renaming inr->ja,inl->jc
open _root_.List renaming take_succ_eq_append_getElem->jd,cons_append->jf,getD_eq_getElem?_getD->jh,mem_cons->ji,nil_append->jj,map_nil->jk,getElem_cons_succ->jl,getElem?_eq_none->jm,length->jo,map_congr_left->jp,map_cons->jq
open Un renaming sub->jt,seen->ju,written->jv
open Go.Lib renaming byteCells->jx
open Go.World renaming setCell->jy,cell?->jz,frozen?->j5
open Go.RowKit.Below renaming heap_setCell->j6
open Pu renaming Tok->j7,bG->j8,pu->j9
open Go.Proofs.Tryz renaming prog->qe,underlying171->qf
open _root_.Nat renaming lt_of_lt_of_le->qg,le_trans->qh
open Go.Value renaming ownBlock->qi
open Go Go.RowKit Proofs.Tryz
variable {C:Array Value} {last s:BA} {z:Fl} {tys:List (BA×Nat)} {ns:List BA} {cs:List Nat} {L L':List Nd} {T vs:List j7} {l:List UInt8} {xs:List Value} {mk:M Nd} {B N base cap f f' g k kb mb n nb pb rb wb xb:Nat} {ρ bJ:Nat->Nat} {K:Nat->Option Un.Ty} {D P Λ cH:Nat->Prop} {R θ σ:Nat->Un.Ty} {e' u v:Nd} {c pl:Prop} {α β κ:Type} {e:TypeId} {a a' b b' t t':Un.Ty} {bv cv hv iv mv tv:Value} {W w w' w0:World}
section
open Un
def Mb(f:Fl):Value:=.agg #[Nv f.kind,Nv f.ak,Nv f.to]
abbrev alq(w:World)base v xs:=w.ownsRow base 9 1 v xs.length xs
structure NL w xb v(l:List BA):Prop where
 o:∃base,alq w base v<|l.map Value.string
 n:v.ownBlock≠some xb
structure MK where
 nm:BA
 x:NV
 d:Int
 a:Int
def tyL:List (BA×Nat)->BA->Option Nat
 |[],_=>none|p::l,s=>if p.1=s then some p.2 else tyL l s
section
variable {lv:Value} {mks:List MK} {f f':Fl}
def kX l s w gk c(wr:World):=∃j:Nat,Hid (gk=l.length-j)/\j<=l.length/\c=Nv j/\Hid (tyL l s=tyL (l.drop j) s)/\wr=w
end
mutual
def Nd.ind{P:Nd->Prop}(H:∀k s n L f t a,(∀x∈L,P x)->P (.mk k s n L f t a)):∀nd,P nd
 |.mk k s n L f t a=>H k s n L f t a<|Nd.ajO H L
def Nd.ajO{P:Nd->Prop}(H:∀k s n L f t a,(∀x∈L,P x)->P (.mk k s n L f t a)):∀L:List Nd,∀x∈L,P x
 |[]=>λx hx=>absurd hx ag|y::l=>λx hx=>by
  obtain h|h:=List.mem_cons.1 hx
  .rw[h];exact Nd.ind H y
  .exact Nd.ajO H l x h
end
def Kg(ty:BA->Option Nat)(own:List BA):∀(L M:List Nd)(z:Fl),gJ ty own (L++M) z=gJ ty own M (gJ ty own L z)
 |[],_,_=>by rw[jj];unfold gJ;rfl|x::l,M,z=>by
  rw[jf];show gJ ty own (l++M) (uj ty own x z)=gJ ty own M (gJ ty own l<|uj ty own x z);exact Kg ty own l M _
def Ut ty own(L:List Nd)z j(h:j<L.length):gJ ty own (L.take<|j+1) z=uj ty own L[j] (gJ ty own (L.take j) z):=by
 rw[jd h,Kg];rfl
def Sm nd:=Ge 0 nd/\nn nd<=1000
def Kh.mem{lo:Nat}:∀{L:List Nd},Kh lo L->∀x∈L,Ge lo x
 |[],_,x,hx=>by simp at hx|y::l,g,x,hx=>by
  obtain rfl|h:=List.mem_cons.1 hx
  .exact g.1
  .exact Kh.mem g.2 x h
def yf:∀{L:List Nd}{x:Nd},x∈L->nn x<=ck L
 |y::l,x,hx=>by
  simp only[ck];obtain rfl|h:=List.mem_cons.1 hx
  .omega
  .have:=yf h;omega
def Sm.part{t a:Nat}(h:Sm (.mk k s n L f t a)):∀x∈L,Sm x:=λx hx=>by
 obtain⟨h1,h2⟩:=h;refine⟨Kh.mem h1.2.2 x hx,?_⟩;simp only[nn]at h2;have:=yf hx;omega
def Sm.len{t a:Nat}(h:Sm (.mk k s n L f t a)):L.length<=1000/\f<=400/\a<=400/\s.size<=400:=by
 obtain⟨h1,h2⟩:=h;simp only[nn]at h2;have:=pW L;exact⟨ae,h1.2.1⟩
def Ki(mk:BA->Option Nat):∀(L M:List Nd)(q:List BA×Fl),dI mk (L++M) q=dI mk M (dI mk L q)
 |[],_,_=>by rw[jj];unfold dI;rfl|x::l,M,q=>by
  rw[jf];show dI mk (l++M) (n9 mk x q)=dI mk M (dI mk l<|n9 mk x q);exact Ki mk l M _
def Uv mk(L:List Nd)q j(h:j<L.length):dI mk (L.take<|j+1) q=n9 mk L[j] (dI mk (L.take j) q):=by
 rw[jd h,Ki];rfl
section
variable {t a:Nat} {ty mk:BA->Option Nat} {l:List BA}
def ajf:dX ty mk (.mk 9 s n [u] f t a) l z=dX ty mk u (l++[s]) z:=by
 conv=>lhs;rw[dX]
 rfl
def agF:dX ty mk (.mk 10 s n [u,v] f t a) l z=dX ty mk v (l++[s]) (dX ty mk u l z):=by
 conv=>lhs;rw[dX]
 rfl
def agG:dX ty mk (.mk 11 s n [u,v] f t a) l z=dX ty mk v (l++[s]) (dX ty mk u (l++[s]) z):=by
 conv=>lhs;rw[dX]
 rfl
def agE:dX ty mk (.mk 14 s n [u,v] f t a) l z=uj ty [] v (dX ty mk u l z):=by
 conv=>lhs;rw[dX]
 rfl
def agH:dX ty mk (.mk 13 s n (u::L) f t a) l z=mZ ty mk L l (dX ty mk u l z):=by
 conv=>lhs;rw[dX]
 rfl
def YS(hk:k≠1/\k≠2/\k≠9/\k≠10/\k≠11/\k≠13/\k≠14):dX ty mk (.mk k s n L f t a) l z=hH ty mk L l z:=by
 conv=>lhs;rw[dX]
 simp[hk]
end
def Kj(ty mk:BA->Option Nat)(l:List BA):∀(L M:List Nd)(z:Fl),hH ty mk (L++M) l z=hH ty mk M l (hH ty mk L l z)
 |[],_,_=>by rw[jj];conv=>rhs;arg 5;rw[hH]|x::r,M,z=>by
  rw[jf];have h1:∀N z,hH ty mk (x::N) l z=hH ty mk N l (dX ty mk x l z):=λN z=>by conv=>lhs;rw[hH]
  rw[h1,h1];exact Kj ty mk l r M _
def Uz ty mk l(L:List Nd)z j(h:j<L.length):hH ty mk (L.take<|j+1) l z=dX ty mk L[j] l (hH ty mk (L.take j) l z):=by
 rw[jd h,Kj]
 conv=>lhs;rw[hH]
 conv=>lhs;rw[hH]
def C8:∀A:List (Nd×Nd),(aU A).length=2*A.length
 |[]=>rfl|p::r=>by have:=C8 r;simp[aU,this];omega
def Qp:∀(A:List (Nd×Nd))(j:Nat)(h:j<A.length),nn A[j].1+nn A[j].2<=ck (aU A)
 |p::r,0,h=>by simp[aU,ck]<;>omega|p::r,j+1,h=>by
  have:=Qp r j G_;simp only[aU,ck,jl];omega
def EU:∀(A:List (Nd×Nd))(j:Nat)(h:j<A.length),A[j].1∈aU A/\A[j].2∈aU A
 |p::r,0,h=>by simp[aU]|p::r,j+1,h=>by
  have:=EU r j G_;simp only[aU,jl,ji];exact⟨ja<|ja this.1,ja<|ja this.2⟩
def Qq ty mk l z(p:Nd×Nd):=dX ty mk p.2 (l++(n9 mk p.1 ([],z)).1) (n9 mk p.1 ([],z)).2
def Nb ty mk l(A:List (Nd×Nd))z:=A.foldl (Qq ty mk l) z
def Qo(ty mk:BA->Option Nat)(l:List BA):∀(A:List (Nd×Nd))(z:Fl),mZ ty mk (aU A) l z=Nb ty mk l A z
 |[],z=>by
  show mZ ty mk [] l z=z
  conv=>lhs;rw[mZ]
 |p::r,z=>by
  have h1:mZ ty mk (aU (p::r)) l z=mZ ty mk (aU r) l (Qq ty mk l z p):=by
   show mZ ty mk (p.1::p.2::aU r) l z=_
   conv=>lhs;rw[mZ]
   conv=>lhs;rw[Iy]
   rfl
  rw[h1,Qo ty mk l r];rfl
def UA ty mk l(A:List (Nd×Nd))z j(h:j<A.length):Nb ty mk l (A.take<|j+1) z=Qq ty mk l (Nb ty mk l (A.take j) z) A[j]:=by
 rw[Nb];rw[jd h,List.foldl_append];rfl
end
section
open Go.ChangeMaps
def Vt{p}(h:(aD s p).kind=7):aD s p=Pu.fD s:=by
 rw[aD]at h⊢;split at h
 .exfalso;revert h;rw[Pu.dr];repeat' split
  all_goals simp[Pu.gS]
 .rename_i hn;rw[if_neg hn]
def aaB(hk:k<(j8 s 0).length)(h:(tk (j8 s 0) k).kind=7):(aD s (tk (j8 s 0) k).to).kind≠6:=by
 rw[jJ s k hk]at h⊢;rw[Vt h];show(aD s s.size).kind≠6;rw[aD];rw[if_neg (by rw[Pu.mz<|br _];omega)];simp[Pu.fD]
abbrev Du:BA:=⟨#[116,104,101,32,101,110,100]⟩
def Ke.low{a b c}(k:Ke rb b c)(h:Below B a b)(hB:B<=b.heap.size)(hr:B<=rb):Below B a c:=
 ⟨k.os.trans h.os,k.tape.trans h.tape,k.output.trans h.output,qh h.size k.size,λi hi=>(k.block i (qg hi hB) ae).trans<|h.block i hi⟩
def uY(s:BA):∀f i,(j9 s f i).length<=f+1
 |0,i=>by simp[j9]|f+1,i=>by
  rw[j9];split
  .split
   .have:=uY s f<|i+1;omega
   .have:=uY s f (Pu.dr s i).to;simp;omega
  .simp
theorem aaC s i:(j8 s i).length<=s.size-i+1:=uY s _ _
end
section
open Un
def SB wb(tv cv mv:Value)b:=b=wb\/tv.ownBlock=some b\/cv.ownBlock=some b\/mv.ownBlock=some b
def Rk:∀(a b:List j7)(p:List BA)(z:Fl),BU p (a++b) z=BU (p++a.map (·.text)) b (BU p a z)
 |[],b,p,z=>by simp[BU]|v::r,b,p,z=>by
  simp only[jf,BU,jq];rw[Rk r b,List.append_assoc];rfl
def Y9(vs:List j7)z i(h:i<vs.length):BU [] (vs.take<|i+1) z=bm (fU vs[i].text ((vs.map (·.text)).take i)) 4 vs[i].ak vs[i].to (BU [] (vs.take i) z):=by
 rw[jd h,Rk];simp only[BU,jj,List.map_take]
end
section
open Go.ChangeMaps Un
structure PN(w:World)B pb bv l last mv:Prop where
 bk:∃ad,w.heap[pb]? =some (.cells #[ad,bv,.string last,mv] 113 (0,0))/\(ad=.pointer none\/ad=Pv pb)
 ow:w.ownsRow B 5 1 bv l.length (jx l)
 nl:l=[]->bv=.slice none 0 0
 hb:B<=w.heap.size
def SP pb(bv:Value)b:=b=pb\/bv.ownBlock=some b
def Q_(w:World)b:=∀x,w.cell? ⟨b,0,none⟩=some x->∀c,x≠.int .u8 c
def PN.ajP(h:PN w B pb bv l last mv){q}(hq:bv.ownBlock=some q):∃c,w.cell? ⟨q,0,none⟩=some (.int .u8 c):=by
 cases l with
 |nil=>rw[h.nl rfl]at hq;simp[qi]at hq|cons x r=>
  have⟨_,h2⟩:=h.ow;obtain⟨h3,_⟩|⟨g,cap,l7,hv,_,hh,_,_,_,ht⟩:=h2
  .grind
  .rw[hv]at hq;simp[qi]at hq;subst hq;refine⟨x.toNat,?_⟩;simp only[jz,hh];have h0:(l7.toList.take<|(x::r).length*1)[0]? =some (.int .u8 x.toNat):=by rw[ht];simp[jx]
   rw[List.getElem?_take_of_lt ag]at h0;simpa using h0
def PN.ne(h:PN w B pb bv l last mv){b:Nat}(hb:Q_ w b):bv.ownBlock≠some b:=λe=>by
 have⟨c,hc⟩:=h.ajP e;exact hb _ hc c rfl
def PN.lt(h:PN w B pb bv l last mv):pb<w.heap.size:=by
 have⟨ad,hb,_⟩:=h.bk;exact(Array.getElem?_eq_some_iff.1 hb).1
def PN.pbN(h:PN w B pb bv l last mv):Q_ w pb:=λx hx c e=>by
 have⟨ad,hb,ha⟩:=h.bk;simp[jz,hb]at hx;subst hx;obtain rfl|rfl:=ha<;>cases e
def PN.same(h:PN w B pb bv l last mv)(hs:w.heap.size<=w'.heap.size)(hb:∀b,b<w.heap.size->SP pb bv b->w'.heap[b]? =w.heap[b]?):PN w' B pb bv l last mv:=by
 have⟨ad,h1,h2⟩:=h.bk;refine⟨⟨ad,(hb pb h.lt<|jc rfl).trans h1,h2⟩,?_,h.nl,qh h.hb hs⟩;have⟨g1,g2⟩:=h.ow;refine⟨g1,?_⟩;obtain g2|⟨g,cap,l7,hv,hg,hh,r⟩:=g2
 .exact jc g2
 .refine ja ⟨g,cap,l7,hv,hg,?_,r⟩;rw[hb g (Array.getElem?_eq_some_iff.1 hh).1<|ja (by rw[hv];rfl),hh]
def PN.af(h:PN w B pb bv l last mv)(hb:Bq w w'):PN w' B pb bv l last mv:=h.same hb.size λb z _=>hb.block b z
def Q_.same{b:Nat}(h:Q_ w b)(hb:w'.heap[b]? =w.heap[b]?):Q_ w' b:=λx hx=>h x (by rw[<-World.cell?_of_block (a:=⟨b,0,none⟩) (w:=w) hb];exact hx)
def dK{w:World}{b:Nat}{t}{fz}(h:w.heap[b]? =some (.cells C t fz))j v:(w.setCell ⟨b,j,none⟩ v).heap[b]? =some (.cells (C.setIfInBounds j v) t fz):=by
 have bz:=(Array.getElem?_eq_some_iff.1 h).1;simp[jy,Array.getElem?_modify,h]
def One.cell w b j v:One b w (w.setCell ⟨b,j,none⟩ v):=⟨rfl,rfl,rfl,C9,λk hk=>j6 _ _ _ _ hk⟩
def FU{w}{c}{size}{v:Value}(h:w.ownsRow base e size v n xs)(o:One c w w')(df:v.ownBlock≠some c):w'.ownsRow base e size v n xs:=by
 obtain⟨g1,g2⟩:=h;refine⟨g1,?_⟩;obtain g2|⟨g,cap,l7,hv,hg,hh,r⟩:=g2
 .exact jc g2
 .refine ja ⟨g,cap,l7,hv,hg,?_,r⟩;rw[o.block g<|λe=>df (by rw[hv,<-e];rfl),hh]
def Dv{w2:World}{pb}{o}{row}(hg:W.grownBy w2 row)(hb:W.heap[pb]? =some o)(hn:row≠some pb):w2.heap[pb]? =some o:=(hg.block pb (Array.getElem?_eq_some_iff.1 hb).1<|λe=>hn e.symm).trans hb
def Ap{w:World}{size}{v:Value}(h:w.ownsRow base e size v n xs):∃ao n' cap,v=.slice ao n' cap:=by
 obtain⟨hv,_⟩|⟨g,cap,l7,hv,_⟩:=h.2
 .grind
 .grind
def Kk:(Tryz.prog.info? 110).map (λi=>i.size)=some 2:=qkr
def adY:liesAt qe Tryz.prog.depth 113 (4/Tryz.prog.cellsOf 113) 0 110 1=true:=qkr
def ajQ p w:(callFunc 262 #[p]).run qe w=.ok (.value p) w:=qkr
def Kl:(Tryz.prog.info? 5).map (λi=>(i.zero,i.size,i.bytes))=some (some<|.int .u8 0,1,1):=qkr
def wN:Tryz.prog.underlying 108=some (.slice 5):=qkr
def wO ad(had:ad=.pointer none\/ad=Pv pb)x1 x2 x3(h:w.heap[pb]? =some (.cells #[ad,x1,x2,x3] 113 (0,0))):
 Cq 221 #[Pv pb] w λe w'=>e=.returned (.tuple #[])/\w'.heap[pb]? =some (.cells #[Pv pb,x1,x2,x3] 113 (0,0))/\One pb w w':=by
 have⟨j,hj,hjs⟩:=Option.map_eq_some_iff.1 Kk;have c0:w.cell? ⟨pb,0,none⟩=some ad:=by simp[jz,h]
 have f0:w.frozen? ⟨pb,0,none⟩=false:=by simp[j5,h]
 have hsh:w.shape? pb=some (113,4):=by simp[World.shape?,h]
 obtain rfl|rfl:=had
 .have hn:=ajQ;have ht:=Lib.run_to_unsafe (P:=Tryz.prog) w ⟨pb,0,none⟩ Tryz.underlying107 Tryz.underlying404 hj ae hsh (by show 0<4;decide);have hf:=Lib.run_from_unsafe (P:=Tryz.prog) w ⟨pb,0,none⟩ Tryz.underlying404 Tryz.underlying107 hj hsh adY;have df:∀W:World,(binOp .neq 107 (Pv pb)<|Pv pb).run Tryz.prog W=.ok (.bool false) W:=λW=>Lib.run_neq_ptr_same W _ Tryz.underlying107 hj;go_enter func221,ntmps221
  go_wp2
  go_end0;exact⟨rfl,(dK h 0 _).trans ag,One.cell _ _ _ _⟩
 .have df:∀W:World,(binOp .neq 107 (Pv pb)<|Pv pb).run Tryz.prog W=.ok (.bool false) W:=λW=>Lib.run_neq_ptr_same W _ Tryz.underlying107 hj;go_enter func221,ntmps221
  go_wp2
  go_end0;exact⟨rfl,h,⟨rfl,rfl,rfl,rfl,λ_ _=>rfl⟩⟩
def Rl{p:Prop}(h:p:=by
 rw[e1,e2];refine⟨g1,?_⟩;obtain g2|⟨g,ahk,l7,hv,hg,hh,r⟩:=g2
 .exact jc g2
 .refine ja ⟨g,ahk,l7,hv,hg,?_,r⟩
  rw[j6 _ _ _ _ (by show g≠pb;intro e;exact hnp (by rw[hv,e];rfl)),hh]):p:=h
def Rm{p:Prop}(h:p:=by
 obtain⟨hv,_⟩|⟨g,ahk,l7,hv,_,hh,_⟩:=Ro.2
 .rw[hv]at e;simp[qi]at e
 .rw[hv]at e;simp[qi]at e;subst e;rw[uh eA]at hh
  simp at hh):p:=h
def Km(h:PN w B pb bv l last mv)c(hl:l.length<=1000000):Cq 139 #[Pv pb,.int .u8 (c.toNat:Int)] w λe w'=>e=.returned .nilIface/\∃bv',PN w' B pb bv' (l++[c]) last mv/\Fr (SP pb bv) w w':=by
 obtain⟨i0,yi,oh,m7,i_⟩:=info_parts Kl;have hpn:=h.ne h.pbN;have bz:=h.lt;have hBw:=h.hb;obtain⟨ad,ZA,had⟩:=h.bk;have how:=ai h.ow;go_enter func139,ntmps139;go_wp2_with(first|(go_at_call 221;refine(wO ad had _ _ _ ZA).mono ?_;rintro e w1⟨rfl,dA,o1⟩;have c0:w1.cell? ⟨pb,0,none⟩=some (Pv pb):=(by simp[World.cell?,dA]);have c1:w1.cell? ⟨pb,1,none⟩=some bv:=(by simp[World.cell?,dA]);have O1:=ai o1;have eN:=ai dA;have Hz1:=ai o1.size;have aaD:=ai<|FU how o1 hpn;clear o1 dA ZA)|(at_builtin;go_must(refine wpList_append_own_at _ rfl (.tmp 11) (.tmp 13) 108 rfl B 5 i0 _ 1 1 wN yi oh m7 i_ rfl aH bv l.length _ rfl (aaD.alloc _) ⟨w1.heap.size,0,none⟩ 1 1 [.int .u8 (c.toNat:Int)] rfl rfl (oP _ _ _ _ ag) qAn Yf ae (by have:=uh Hz1;simp;omega) ?_;intro v2 w2 Aq Vh Rp ajR;have iG:=Dv Vh ((Below.heap_alloc _ _ _ (by have:=uh Hz1;omega)).trans eN) hpn;have d0:w2.cell? ⟨pb,0,none⟩=some (Pv pb):=(by simp[World.cell?,iG]);have d1:w2.cell? ⟨pb,1,none⟩=some bv:=(by simp[World.cell?,iG]);have f1:w2.frozen? ⟨pb,1,none⟩=false:=(by simp[World.frozen?,iG]);obtain⟨ao,n',cap,Tx⟩:=Ap Aq;subst Tx;have eA:=ai iG;clear iG;have Ro:=ai Aq;have Hg2:=ai Vh;clear Aq Vh Rp ajR)));go_ret;have hnp:(Value.slice ao n' cap).ownBlock≠some pb:=λe=>by
  exact Rm
 refine⟨rfl,.slice ao n' cap,⟨⟨_,(dK eA 1 _).trans ag,ja rfl⟩,?_,?_,?_⟩,?_⟩
 .have hO:=uh Ro;obtain⟨g1,g2⟩:=hO;have e1:jx (l++[c])=jx l++[.int .u8 (c.toNat:Int)]:=by simp[jx]
  have e2:(l++[c]).length=l.length+1:=ag;exact Rl
 .intro q;simp at q
 .have:=Hg2.size;have:=uh Hz1;simp[jy]at*;omega
 .have hO:=uh O1;have hG:=uh Hg2;refine⟨(hG.os).trans hO.os,hG.tape.trans hO.tape,hG.output.trans hO.output,by simp[jy];have:=hG.size;have:=uh Hz1;simp at*;omega,λk hk hn=>?_⟩;rw[j6 _ _ _ _ (by show k≠pb;intro e;exact hn<|jc e),hG.block k (by have:=uh Hz1;simp;omega)<|λe=>hn<|ja e.symm,Below.heap_alloc _ _ _ (by have:=uh Hz1;omega)];exact hO.block k<|λe=>hn<|jc e
def q_(h:PN w B pb bv l last mv)s(hs:s.size<=100000)(hl:l.length<=1000000):Cq 147 #[Pv pb,.string s] w λe w'=>e=.returned (.tuple #[Nv s.size,.nilIface])/\∃bv',PN w' B pb bv' (l++s.data.toList) last mv/\Fr (SP pb bv) w w':=by
 obtain⟨i0,yi,oh,m7,i_⟩:=info_parts Kl;have hpn:=h.ne h.pbN;have bz:=h.lt;have hBw:=h.hb;obtain⟨ad,ZA,had⟩:=h.bk;have how:=ai h.ow;have hnl:=ai h.nl;go_enter func147,ntmps147;go_wp2_with(first|(go_at_call 221;refine(wO ad had _ _ _ ZA).mono ?_;rintro e w1⟨rfl,dA,o1⟩;have c0:w1.cell? ⟨pb,0,none⟩=some (Pv pb):=(by simp[World.cell?,dA]);have c1:w1.cell? ⟨pb,1,none⟩=some bv:=(by simp[World.cell?,dA]);have O1:=ai o1;have eN:=ai dA;have Hz1:=ai o1.size;have aaD:=ai<|FU how o1 hpn;clear o1 dA ZA)|(at_builtin;go_must(refine Lib.wpList_append_own_string _ rfl (.tmp 12) (.tmp 13) 108 9 rfl B 5 i0 wN Tryz.underlying9 yi oh m7 i_ bv l.length _ rfl aaD s rfl Yf ae (by have:=uh Hz1;omega) ?_;intro v2 w2 Aq Vh Rp;have iG:=Dv Vh eN hpn;have d0:w2.cell? ⟨pb,0,none⟩=some (Pv pb):=(by simp[World.cell?,iG]);have d1:w2.cell? ⟨pb,1,none⟩=some bv:=(by simp[World.cell?,iG]);have f1:w2.frozen? ⟨pb,1,none⟩=false:=(by simp[World.frozen?,iG]);obtain⟨ao,n',cap,Tx⟩:=Ap Aq;subst Tx;have eA:=ai iG;clear iG;have Ro:=ai Aq;have Hg2:=ai Vh;have Hn2:=ai Rp;clear Aq Vh Rp)));go_ret2;have hnp:(Value.slice ao n' cap).ownBlock≠some pb:=λe=>by
  exact Rm
 refine⟨rfl,.slice ao n' cap,⟨⟨_,(dK eA 1 _).trans ag,ja rfl⟩,?_,?_,?_⟩,?_⟩
 .have hO:=uh Ro;obtain⟨g1,g2⟩:=hO;have e1:jx (l++s.data.toList)=jx l++Lib.strCells s:=by simp[jx,Lib.strCells]
  have e2:(l++s.data.toList).length=l.length+s.size:=ag;exact Rl
 .intro q;have q':l=[]/\s.data.toList=[]:=by simpa using q
  exact Hn2.2 ⟨hnl q'.1,by have:=congrArg jo q'.2;simpa using this⟩
 .have:=Hg2.size;have:=uh Hz1;simp[jy]at*;omega
 .have hO:=uh O1;have hG:=uh Hg2;refine⟨(hG.os).trans hO.os,hG.tape.trans hO.tape,hG.output.trans hO.output,by simp[jy];have:=hG.size;have:=uh Hz1;omega,λk hk hn=>?_⟩;rw[j6 _ _ _ _ (by show k≠pb;intro e;exact hn<|jc e),hG.block k (by have:=uh Hz1;omega)<|λe=>hn<|ja e.symm];exact hO.block k<|λe=>hn<|jc e
def aax(h:PN w B pb bv l last mv)(h0:l≠[]):Cq 53 #[Pv pb] w λe w'=>e=.returned (.string<|bs l)/\Fr (SP pb bv) w w':=by
 have Cn:l.length≠0:=by simpa using h0
 have⟨ad,ZA,_⟩:=h.bk;have fS:=h.ow;obtain⟨g,cap,l7,rfl,hbg,hg,hnc,LU,Mt,ajv⟩:∃g cap l7,bv=Lv (some ⟨g,0,none⟩) l.length cap/\B<=g/\w.heap[g]? =some (Cv l7 5 (0,0))/\l.length<=cap/\cap<=maxLen/\l7.size=cap*1/\l7.toList.take (l.length*1)=jx l:=by
  obtain⟨_,hz⟩|⟨g,cap,l7,hv,r⟩:=fS.2
  .exact absurd hz Cn
  .exact⟨g,cap,l7,hv,r⟩
 have c1:w.cell? ⟨pb,1,none⟩=some (Lv (some ⟨g,0,none⟩) l.length cap):=by simp[jz,ZA]
 have hSD:∀W:World,(Builtin.unsafeSliceData_ #[108] 178 #[Lv (some ⟨g,0,none⟩) l.length cap]).run qe W=.ok (Pv g) W:=λW=>Lib.run_unsafeSliceData_row W _ _ _ _ _ ae;have hUS:(Builtin.unsafeString_ #[178,3] 9 #[Pv g,Nv l.length]).run qe w.drew=.ok (Sv ⟨l.toArray⟩) (w.drew.freeze ⟨g,0,none⟩ l.length):=by
  refine Lib.run_unsafeString_row w.drew _ _ _ 5 Tryz.underlying178 qkr g l7.size (by have CF:w.drew.heap[g]? =some (Cv l7 5 (0,0)):=hg;simp[World.shape?,CF]) l h0 ae (by rw[maxLen]at LU;omega) ?_;intro j x hx;exact fS.cells (g:=g) rfl j (.int .u8 x.toNat) (by simp[jx,hx])
 have HF:Fr (SP pb<|Lv (some ⟨g,0,none⟩) l.length cap) w (w.drew.freeze ⟨g,0,none⟩ l.length):=(by
  have hb:=Lib.below_freeze (B:=g) (Below.refl g w.drew) (p:=⟨g,0,none⟩) (br _) l.length;refine⟨hb.os,hb.tape,hb.output,hb.size,λk hk hn=>?_⟩;have hkg:k≠g:=λe=>hn (ja (by rw[e];rfl));simp[World.freeze];rw[if_neg h0];simp only[Array.getElem?_modify,if_neg<|Ne.symm hkg]
  rfl)
 go_enter func53,ntmps53
 go_wp2
 go_region
 all_goals(
  go_wp2
  go_ret
  exact⟨rfl,HF⟩)
def spB(last t:BA):Bool:= !(t.toList==[41])&& !(t.toList==[44])&& !(t.toList==[59])&& !(last.toList==[])&& !(last.toList==[40])
structure FN B pb(w w':World):Prop where
 os:w'.os=w.os
 tape:w'.tape=w.tape
 output:w'.output=w.output
 size:w.heap.size<=w'.heap.size
 block:∀k,k<w.heap.size->k≠pb->(k<B\/Q_ w k)->w'.heap[k]? =w.heap[k]?
def FN.trans{B pb}{a b c}(h:FN B pb a b)(k:FN B pb b c):FN B pb a c:=
 ⟨k.os.trans h.os,k.tape.trans h.tape,k.output.trans h.output,qh h.size k.size,λi hi hp hn=>by
  have e:=h.block i hi hp hn
  refine(k.block i (qg hi h.size) hp<|hn.imp id λq=>q.same e).trans e⟩
def FN.of(h:Bq w w'):FN B pb w w':=⟨h.os,h.tape,h.output,h.size,λi hi _ _=>h.block i hi⟩
def Fr.fn(h:PN w B pb bv l last mv)(hf:Fr (SP pb bv) w w'):FN B pb w w':=
 ⟨hf.os,hf.tape,hf.output,hf.size,λk hk hp hn=>hf.block k hk (λq=>by
  obtain q|q:=q
  .exact hp q
  .obtain hn|hn:=hn
   .have:=(fK h.ow k q).1;omega
   .exact h.ne hn q)⟩
def Q_.fn{b:Nat}(h:Q_ w b)(hb:b<w.heap.size)(hp:b≠pb)(hf:FN B pb w w'):Q_ w' b:=h.same<|hf.block b hb hp<|ja h
def Bx.fn{b:Nat}(h:Bx w b C)(hp:b≠pb)(hn:b<B\/Q_ w b)(hf:FN B pb w w'):Bx w' b C:=h.same hf.size<|hf.block b h.z hp hn
def Bx.nby{b:Nat}(h:Bx w b C)(hx:∀x,C[0]? =some x->∀c,x≠.int .u8 c):Q_ w b:=λx q=>hx x (by rw[<-h.c 0];exact q)
def tI l last t:=(l++if spB last t then[32]else[])++t.data.toList
def ahl B pb(bv:Value)l last t mv(g:Nat)w gk v wr:=
 (v=Iv 0/\gk=1/\wr=w)\/(v=Iv 1/\gk=0/\∃bv',PN wr B pb bv' (tI l last t) t mv/\FN B pb w wr)
def FV{p:Prop}(h:p:=by
 go_enter func146,ntmps146
 go_wp2
 go_ret
 exact⟨rfl,rfl⟩):p:=h
def Kn last t:Cq 146 #[.string last,.string t] w λe w'=>e=.returned (.bool<|spB last t)/\w'=w:=by
 rw[spB]
 cases h1:(t.toList==[41])
 .cases h2:(t.toList==[44])
  .cases h3:(t.toList==[59])
   .cases h4:(last.toList==[])
    .go_enter func146,ntmps146
     go_wp2
     go_ret;exact⟨ag,rfl⟩
    .go_enter func146,ntmps146
     go_wp2
     go_ret;exact⟨ag,rfl⟩
   .exact FV
  .exact FV
 .exact FV
def PN.Ko{w}{B pb}{bv}{l}{last}{mv}(h:PN w B pb bv l last mv)t:PN (w.setCell ⟨pb,2,none⟩<|.string t) B pb bv l t mv:=by
 have hpn:=h.ne h.pbN;have⟨ad,hb,ha⟩:=h.bk;exact⟨⟨ad,(dK hb 2 _).trans ag,ha⟩,FU h.ow (One.cell _ _ _ _) hpn,h.nl,by have:=h.hb;simp[jy];exact this⟩
def PN.cells{w}{B pb}{bv}{l}{last}{mv}(h:PN w B pb bv l last mv):w.cell? ⟨pb,2,none⟩=some (.string last)/\w.frozen? ⟨pb,2,none⟩=false:=by
 have⟨ad,hb,ha⟩:=h.bk;exact⟨by simp[jz,hb],by simp[j5,hb]⟩
def FN.Ko B pb w v:FN B pb w (w.setCell ⟨pb,2,none⟩ v):=⟨rfl,rfl,rfl,C9,λk _ hp _=>j6 _ _ _ _ hp⟩
def wM(h:PN w B pb bv l last mv)t(ht:t.size<=100000)(hl:l.length<=900000)g(hg:Bx w g #[.string t])(hgp:g≠pb):
 Cq 108 #[Pv pb,.slice (some ⟨g,0,none⟩) 1 1] w λe w'=>e=.returned (.tuple #[])/\∃bv',PN w' B pb bv' (tI l last t) t mv/\FN B pb w w':=by
 obtain⟨cg,fg,zg⟩:=hg;have⟨c2,f2⟩:=h.cells;go_enter func108,ntmps108
 go_wp2
 go_loopg[8] 1 (λgk v wr=>ahl B pb bv l last t mv g w gk v wr)
 case atStart=>exact jc ⟨rfl,rfl,rfl⟩
 case round=>
  obtain⟨rfl,rfl,rfl⟩|⟨rfl,rfl,hr⟩:=hrel
  .by_cases hsp:spB last t=true
   .go_wp2_with(first|(go_at_call 146;refine(Kn last t).mono ?_;rw[hsp];rintro e w'⟨rfl,rfl⟩)|(go_at_call 139;refine(Km h 32 ae).mono ?_;rintro e w1⟨rfl,bv1,hN1,hF1⟩;have Ez:=ai hN1;have Bv:=ai<|Fr.fn h hF1;clear hN1 hF1)|(go_at_call 147;refine(q_ Ez t ht bP).mono ?_;rintro e w2⟨rfl,W5,M6,hF2⟩;have PK:=ai M6;have Bi:=ai<|Bv.trans<|Fr.fn Ez hF2;have⟨c3,f3⟩:=M6.cells;clear M6 hF2));go_roundg 0
    case measure=>omega
    case rel=>exact ja ⟨jT,rfl,W5,by rw[tI];rw[if_pos hsp];exact PK.Ko t,Bi.trans<|FN.Ko _ _ _ _⟩
   .have alr:spB last t=false:=by simpa using hsp
    go_wp2_with(first|(go_at_call 146;refine(Kn last t).mono ?_;rw[alr];rintro e w'⟨rfl,rfl⟩)|(go_at_call 147;refine(q_ h t ht ae).mono ?_;rintro e w2⟨rfl,W5,M6,hF2⟩;have PK:=ai M6;have Bi:=ai<|Fr.fn h hF2;have⟨c3,f3⟩:=M6.cells;clear M6 hF2));go_roundg 0
    case measure=>omega
    case rel=>exact ja ⟨jT,rfl,W5,by rw[tI];rw[if_neg hsp,List.append_nil];exact PK.Ko t,Bi.trans<|FN.Ko _ _ _ _⟩
  .go_wp2
   go_end0;exact⟨rfl,hr⟩
def W6:Nat->List Nat->List (Int×Value)
 |_,[]=>[]|i,a::l=>((a:Int),Nv i)::W6 (i+1) l
def Rq:∀l i,(W6 i l).length=l.length
 |[],i=>rfl|a::l,i=>by simp[W6,Rq l]
def Kq(s:Nat):∀l i,W6 i (l++[s])=W6 i l++[((s:Int),.int .i64 ((i+l.length:Nat):Int))]
 |[],i=>by simp[W6]|a::l,i=>by
  simp only[jf,W6,Kq s l<|i+1];simp;omega
def Rr(s:Nat):∀l i,s∈l->aZ (s:Int) (W6 i l)=some (.int .i64 ((i+l.idxOf s:Nat):Int))
 |[],i,h=>vR|a::l,i,h=>by
  rw[W6,aZ];by_cases e:a=s
  .subst e;simp
  .have h1:¬((a:Int)=(s:Int)):=ae;have h2:(a==s)=false:=by simpa using e
   rw[if_neg h1,Rr s l (i+1)<|(List.mem_cons.1 h).resolve_left<|λq=>e q.symm,List.idxOf_cons,h2];simp;omega
def Kr(s:Nat):∀l i,¬s∈l->aZ (s:Int) (W6 i l)=none
 |[],i,_=>rfl|a::l,i,h=>by
  rw[W6,aZ];have h1:¬((a:Int)=(s:Int)):=λq=>h (by simp;left;omega);rw[if_neg h1];exact Kr s l (i+1)<|λq=>h<|List.mem_cons_of_mem _ q
abbrev ajL:Int->Value:=λn=>Iv n
structure NB w nb mb L:Prop where
 bk:Bx w nb #[Mv mb]
 mp:MS ajL w mb (W6 0 L)
 ne:nb≠mb
def MS.len{enc}{b:Nat}{L:List (κ×Value)}(h:MS enc w b L):∃es clock,w.heap[b]? =some (.map es clock)/\es.size=L.length:=by
 obtain⟨es,c,h1,h2⟩:=h;refine⟨es,c,h1,?_⟩;have:=congrArg jo h2;simpa using this
abbrev nbV(nb:Nat):Value:=.func (.func 72) #[] #[Pv nb]
def NB.fr{S}{w w'}{nb mb}{L}(h:NB w nb mb L)(hf:Fr S w w')(h1:¬S nb)(h2:¬S mb):NB w' nb mb L:=⟨h.bk.fr hf h1,h.mp.same<|hf.block mb h.mp.lt h2,h.ne⟩
def NB.af{L:List Nat}(h:NB w nb mb L)(hb:Bq w w'):NB w' nb mb L:=h.fr (S:=λ_=>False) (Fr.of hb) id id
def vT i:=118::dec i
section
variable {L:List Nat}
def aaE{b:Nat}{enc}{M:List (κ×Value)}(h:MS enc w b M){t k:TypeId}(ht:Tryz.prog.underlying t=some (.map k e))(ty:TypeId):(Builtin.len_ #[t] ty #[Mv b]).run qe w=.ok (Nv M.length) w:=by
 have⟨es,c,h1,h2⟩:=h.len;simp[Builtin.len_,run_underlying ht,MapKept.run_getObj_map h1,h2,goInt]
def Rs w:(zeroValue 3).run qe w=.ok (Iv 0) w:=qkr
def FX nb mb L n w(e:Ending)w':=
 e=.returned (.string<|bs<|vT<|(ju L n).idxOf n)/\NB w' nb mb (ju L n)/\Fr (λb=>b=mb) w w'
def Vn(h:NB w nb mb L)n(hn:(ju L n).length<=96):Cq 72 #[Nv n,Pv nb] w (FX nb mb L n w):=by
 have hl:=h.mp.look (KL.num Tryz.underlying98) qf (Rs w) (n:Int) trivial (λ_ _=>trivial) true;have⟨c,f,z⟩:=h.bk;have ahd:∀i,(⟨#[118]⟩:BA)++bs (dec i)=bs (vT i):=λi=>by rw[show(⟨#[118]⟩:BA)=bs [118]from rfl,lL];rfl
 by_cases hm:n∈L
 .rw[Rr n L 0 hm]at hl;simp at hl;have es:ju L n=L:=by rw[ju,if_pos hm]
  rw[es]at hn;have bz:=qg (List.idxOf_lt_length_iff.2 hm) hn;have HC:=λW:World=>aaF (w:=W) (L.idxOf n) bz;have hc:=ahd<|L.idxOf n;have hdl:(bs<|dec<|L.idxOf n).size<=100:=by rw[jN];have:=yo<|L.idxOf n;omega
  go_enter func72,ntmps72;go_wp2_with(go_at_call 73;refine(HC _).mono ?_;rintro e w'⟨rfl,rfl⟩);go_ret;rw[FX];rw[es];exact⟨rfl,h,Fr.refl _ _⟩
 .have hg:=Kr n L 0 hm;rw[hg]at hl;simp at hl;have es:ju L n=L++[n]:=by rw[ju,if_neg hm]
  have hix:(L++[n]).idxOf n=L.length:=by
   rw[List.idxOf_append,if_neg hm];simp
  have hlen:=aaE h.mp qf;rw[Rq]at hlen;rw[es]at hn;simp at hn;have HC:=λW:World=>aaF (w:=W) L.length ae;have hc:=ahd L.length;have hdl:(bs<|dec L.length).size<=100:=by rw[jN];have:=yo L.length;omega
  have HM:=ai h.mp;have HK:=ai h.bk;have df:=h.ne;go_enter func72,ntmps72;go_wp2_with(first|(go_at_call 73;refine(HC _).mono ?_;rintro e w'⟨rfl,rfl⟩)|(refine aV _ rfl _ _ _ _ (Or.inr rfl) (KL.num Tryz.underlying98) Tryz.underlying171 _ _ rfl HM (n:Int) (Nv L.length) rfl rfl trivial (λ_ _=>trivial) ?_;intro w' H' O';have C5:=ai H';have O2:=ai O';clear H' O'));go_ret;rw[FX];rw[es,hix];have O:=uh O2;refine⟨rfl,⟨HK.one O df,?_,df⟩,⟨O.os,O.tape,O.output,by rw[O.size];exact br _,λk hk hn=>O.block k hn⟩⟩;have:=uh C5;rw[oS _ _ _ hg]at this;rw[Kq];simpa using this
end
end
section
open Un
def aaG l n:(ju l n).length<=l.length+1:=by rw[ju];split<;>simp
mutual
def tM:∀(t:Ty)(l:List Nat),(vars l t).length<=l.length+size t
 |.var n,l=>by have:=aaG l n;simp[vars,size];omega|.aK c L,l=>by have:=Dw L l;simp[vars,size];omega
def Dw:∀(L:List Ty)(l:List Nat),(ba l L).length<=l.length+ah L
 |[],l=>by simp[ba,ah]|t::L,l=>by
   have h1:=tM t l;have h2:=Dw L<|vars l t;simp[ba,ah];omega
end
mutual
def Wf:Ty->Prop
 |.var _=>True|.aK c l=>Yb c l.length/\FY l
def FY:List Ty->Prop
 |[]=>True|t::l=>Wf t/\FY l
end
def FK:∀(l:List Ty),FY l↔∀t,t∈l->Wf t
 |[]=>by simp[FY]|a::l=>by simp[FY,FK l]
mutual
def Wf.Cb{R:Nat->Ty}:∀t,Wf t->(∀v,aA v t->Wf (R v))->Wf (jt R t)
 |.var n,_,hR=>by simpa[jt]using hR n (by simp[aA])|.aK c l,h,hR=>by simp only[jt,Wf,eB];exact⟨h.1,FY.Cb l h.2<|λv hv=>hR v<|by simpa[aA]using hv⟩
def FY.Cb{R:Nat->Ty}:∀l,FY l->(∀v,bY v l->Wf (R v))->FY (aT R l)
 |[],_,_=>by simp[aT,FY]|t::l,h,hR=>⟨Wf.Cb t h.1<|λv hv=>hR v<|jc hv,FY.Cb l h.2<|λv hv=>hR v<|ja hv⟩
end
def Ru p s:(par p s).length<=s.length+2:=by rw[par];split<;>simp
def ahm n:∀L:List Nat,L.idxOf n<=L.length:=λL=>List.idxOf_le_length
mutual
def uX{L:List Nat}(hL:L.length<=1000):∀t,Wf t->∀k,(wr dec L t k).length+1000<=3000*size t
 |.var n,_,k=>by
  have h1:=yo<|L.idxOf n;have h2:=ahm n L;simp[wr,size];omega
 |.aK c l,h,k=>by
  obtain⟨⟨h1,h2⟩,h3⟩:=h;have hfl:=Rw hL l h3;have hc:c.toList.length=c.size:=by rw[ByteArray.toList_eq];exact Array.length_toList
  simp only[wr,bC];split
  .rename_i e
   match l,h2<|jc e,h3 with
   |[u,v],_,h3=>
    have a:=uX hL u h3.1 1;have b:=uX hL v h3.2.1 0;have:=Ru (decide (0<k))<|nth (Bm dec L [u,v]) 0 1++([32,45,62,32]++nth (Bm dec L [u,v]) 1 0);simp[Bm,nth,size,ah]at this⊢;omega
  .split
   .rename_i e
    match l,h2<|ja e,h3 with
    |[u,v],_,h3=>
     have a:=uX hL u h3.1 0;have b:=uX hL v h3.2.1 0;simp[Bm,nth,size,ah];omega
   .have:=Ru (decide (1<k)&& !(Bm dec L l).isEmpty) (c.toList++(Bm dec L l).flatMap λp=>32::p 2);simp only[ug]at this;simp only[size];omega
def Rw{L:List Nat}(hL:L.length<=1000):∀l,FY l->((Bm dec L l).flatMap λp=>32::p 2).length<=3000*ah l
 |[],_=>by simp[Bm,ah]|t::l,h=>by
   have a:=uX hL t h.1 2;have b:=Rw hL l h.2;simp[Bm,ah]at b⊢;omega
end
def J'{l}{M}(h:vars l t<+:M):wr dec M t=wr dec (vars l t) t:=
 Yo dec h t λn hn=>(bE t l n).2<|ja hn
namespace In
structure LO where
 of:Ty
 any:List Nat
structure St where
 k:Nat->Ty
 u:Nat->Prop
structure Ft where
 f:Fl
 l:Ty
 r:Ty
abbrev Env:=BA->Option LO
abbrev Mks:=BA->Option (List Ty×Ty)
abbrev Rn:=Nat->Option Nat
abbrev MM(α:Type):=St->Except Ft (α×St)->Prop
def cU(a:α):MM α:=λs o=>o=.ok (a,s)
def andM(m:MM α)(g:α->MM β):MM β:=λs o=>(∃x,m s (.error x)/\o=.error x)\/∃a s',m s (.ok (a,s'))/\g a s' o
def W7:MM α:=λ_ _=>False
def iP:MM Nat:=λs o=>∃v,¬s.u v/\o=.ok (v,⟨s.k,λn=>s.u n\/n=v⟩)
structure xL θ a b:Prop where
 one:sub θ a=sub θ b
 gen:∀σ,sub σ a=sub σ b->∀v,sub σ (θ v)=σ v
 out:∀v,¬aA v a->¬aA v b->θ v=.var v
 rng:∀v n,aA v a\/aA v b->aA n (θ v)->aA n a\/aA n b
def pN(f t:Nat):Ft:=⟨⟨7,f,t⟩,.var 0,.var 0⟩
def sv(a b:Ty)(f t:Nat):MM Unit:=λs o=>
 ((48<size (sub s.k a)\/48<size (sub s.k b))/\o=.error (pN f t))\/
 (size (sub s.k a)<=48/\size (sub s.k b)<=48/\((∃θ,xL θ (sub s.k a) (sub s.k b)/\o=.ok ((),⟨λv=>sub θ<|s.k v,s.u⟩))\/((∀σ,sub σ (sub s.k a)≠sub σ (sub s.k b))/\o=.error ⟨⟨6,f,t⟩,sub s.k a,sub s.k b⟩)))
structure Ck(l:List Nat)(ρ d_:Rn)(u u':Nat->Prop):Prop where
 eR:∀v n,ρ v=some n->d_ v=some n
 out:∀v,v∉l->d_ v=ρ v
 all:∀v,v∈l->d_ v≠none
 new:∀v n,ρ v=none->d_ v=some n->¬u n
 one:∀v v' n,ρ v=none->d_ v=some n->d_ v'=some n->v=v'
 use:∀n,u' n↔u n\/∃v,ρ v=none/\d_ v=some n
def oE(l:List Nat)(ρ:Rn):MM Rn:=λs o=>∃d_ u',Ck l ρ d_ s.u u'/\o=.ok (d_,⟨s.k,u'⟩)
def Cj:Rn:=λ_=>none
def via(ρ:Rn):Nat->Ty:=λv=>match ρ v with
 |some n=>.var n|none=>.var v
def cJ(Γ:Env)x c:=λy=>if y=x then some c else Γ y
def lH(Γ:Env)x:=λy=>if y=x then none else Γ y
def over(g Γ:Env):Env:=λy=>match g y with
 |some c=>some c|none=>Γ y
abbrev mono(t:Ty):LO:=⟨t,[]⟩
def vM(Γ:Env)k v:=∃y c,Γ y=some c/\aA v (sub k c.of)/\v∉c.any
open Classical in
noncomputable def yA (Γ:Env) (k:Nat->Ty) (T:Ty):List Nat:=(vars [] T).filter λv=>decide (¬vM Γ k v)
noncomputable def f_ (Γ:Env) (k:Nat->Ty) (t:Ty) (v:Bool):LO:=⟨sub k t,if v then yA Γ k (sub k t)else[]⟩
abbrev jA:Ty:=.aK ry []
abbrev oC:Ty:=.aK kv []
abbrev sH:Ty:=.aK iZ []
abbrev nV(a b:Ty):Ty:=.aK qJ [a,b]
abbrev tPr(a b:Ty):Ty:=.aK nO [a,b]
def arr(tk:List Ty)m:=tk.foldr nV m
def gW:Nd->Nat|.mk _ _ _ _ f _ _=>f
def ue:Nd->Nat|.mk _ _ _ _ _ t _=>t
def Rx:Nd->Nat|.mk k _ _ _ _ _ _=>k
mutual
def sw:Nd->Bool
 |.mk k _ _ L _ _ _=>if k=6 then Vq L else if k=14 then Vl L else if k=8 then isC L&&N7 L else k==1||k==2||k==3||k==4||k==5||k==9
def Vq:List Nd->Bool
 |[]=>true|x::l=>sw x&&Vq l
def Vl:List Nd->Bool
 |[]=>false|x::_=>sw x
def N7:List Nd->Bool
 |[]=>false|_::l=>Vl l
def isC:List Nd->Bool
 |[]=>false|x::_=>isM x
def isM:Nd->Bool
 |.mk k _ _ L _ _ _=>if k=8 then isC L&&N7 L else k==2
end
def qL(Γ:Env)(x:BA)(f t:Nat):MM Ty:=match Γ x with
 |none=>W7|some c=>λs o=>(48<size (sub s.k c.of)/\o=.error (pN f t))\/(size (sub s.k c.of)<=48/\∃ρ s',oE c.any Cj s (.ok (ρ,s'))/\o=.ok (sub (via ρ)<|sub s.k c.of,s'))
def oo t ρ:=andM (oE (vars [] t) ρ) λd_=>cU (sub (via d_) t,d_)
def upM(mk:Mks)x:=match mk x with
 |none=>W7|some (tk,m)=>andM (oo (arr tk m) Cj) λq=>cU q.1
abbrev PM:=Env->MM (Ty×Env)
abbrev EM:=Env->MM Ty
def fH:List Ty->List Nd->List PM->Env->Rn->MM (Env×Rn)
 |u::tk,x::L,p::ps,g,ρ=>andM (p g) λq=>andM (oo u ρ) λi=>andM (sv q.1 i.1 (gW x)<|ue x) λ_=>fH tk L ps q.2 i.2|_,_,_,g,ρ=>cU (g,ρ)
def cK{α:Type}(ps:List (Env->MM α))i:=ps.getD i λ_=>W7
def qH(mk:Mks)k s L ps g:=
 if k=15 then andM iP λv=>cU (.var v,g)
 else if k=1 then andM iP λv=>cU (.var v,cJ g s<|mono<|.var v)
 else if k=3 then cU (jA,g)
 else if k=4 then cU (oC,g)
 else if k=5 then cU (sH,g)
 else if k=6 then andM (cK ps 0 g) λa=>andM (cK ps 1 a.2) λb=>cU (tPr a.1 b.1,b.2)
 else match mk s with
  |none=>W7|some (tk,m)=>andM (fH tk L ps g Cj) λq=>andM (oo m q.2) λi=>cU (i.1,q.1)
mutual
def du(mk:Mks):Nd->PM
 |.mk k s _ L _ _ _=>qH mk k s L<|iX mk L
def iX(mk:Mks):List Nd->List PM
 |[]=>[]|x::l=>du mk x::iX mk l
end
def iK(mk:Mks)(Γ:Env)(t r:Ty):List Nd->List EM->MM Unit
 |p::e::L,_::pe::ps=>andM (du mk p λ_=>none) λq=>andM (sv t q.1 (gW p)<|ue p) λ_=>andM (pe<|over q.2 Γ) λu=>andM (sv r u (gW e)<|ue e) λ_=>iK mk Γ t r L ps|_,_=>cU ()
def bM(rc:Bool)x e(pe:EM)Γ:=
 if rc then andM iP λv=>andM (pe<|cJ Γ x<|mono<|.var v) λt=>andM (sv (.var v) t (gW e)<|ue e) λ_=>cU t
 else pe Γ
noncomputable def li (rc:Bool) (x:BA) (e:Nd) (pe pf:EM) (Γ:Env):MM Ty:=
 andM (bM rc x e pe Γ) λt=>λs=>pf (cJ Γ x<|f_ (if rc then lH Γ x else Γ) s.k t (sw e)) s
def nd0:Nd:=.mk 0 ⟨#[]⟩ 0 [] 0 0 0
def iA(L:List Nd)i:=L.getD i nd0
noncomputable def kh (mk:Mks) (k:Nat) (s:BA) (L:List Nd) (f t:Nat) (ps:List EM) (Γ:Env):MM Ty:=
 if k=1 then qL Γ s f t
 else if k=2 then upM mk s
 else if k=3 then cU jA
 else if k=4 then cU oC
 else if k=5 then cU sH
 else if k=6 then andM (cK ps 0 Γ) λa=>andM (cK ps 1 Γ) λb=>cU<|tPr a b
 else if k=14 then(if vars [] (bt []<|es<|iA L 1).1=[]then andM (cK ps 0 Γ) λa=>andM (sv a (bt []<|es<|iA L 1).1 (gW<|iA L 0)<|ue<|iA L 0) λ_=>cU (bt []<|es<|iA L 1).1 else W7)
 else if k=7 then andM (cK ps 0 Γ) λa=>andM (sv a jA (gW<|iA L 0)<|ue<|iA L 0) λ_=>andM (cK ps 1 Γ) λb=>andM (sv b jA (gW<|iA L 1)<|ue<|iA L 1) λ_=>cU<|if s=eQ then oC else jA
 else if k=8 then andM (cK ps 0 Γ) λa=>andM (cK ps 1 Γ) λb=>andM iP λv=>andM (sv a (nV b<|.var v) f t) λ_=>cU<|.var v
 else if k=9 then andM iP λv=>andM (cK ps 0<|cJ Γ s<|mono<|.var v) λa=>cU<|nV (.var v) a
 else if k=10 then li false s (iA L 0) (cK ps 0) (cK ps 1) Γ
 else if k=11 then li true s (iA L 0) (cK ps 0) (cK ps 1) Γ
 else if k=12 then andM (cK ps 0 Γ) λa=>andM (sv a oC (gW<|iA L 0)<|ue<|iA L 0) λ_=>andM (cK ps 1 Γ) λb=>andM (cK ps 2 Γ) λc=>andM (sv b c (gW<|iA L 2)<|ue<|iA L 2) λ_=>cU b
 else if k=13 then andM (cK ps 0 Γ) λa=>andM iP λv=>andM (iK mk Γ a (.var v) L.tail ps.tail) λ_=>cU<|.var v
 else W7
mutual
noncomputable def inf (mk:Mks):Nd->EM
 |.mk k s _ L f t _=>kh mk k s L f t<|dY mk L
noncomputable def dY (mk:Mks):List Nd->List EM
 |[]=>[]|x::l=>inf mk x::dY mk l
end
def Ks ns(m:Nd):=match m with|.mk _ _ _ L _ _ _=>(aF ns<|fZ L).1
def Ry:Nd->BA|.mk _ s _ _ _ _ _=>s
def N8(t:j7)(vs:List j7):Ty:=.aK t.text<|(List.range vs.length).map λi=>.var<|i+1
def v8(t:j7)(vs:List j7):List Nd->Mks->Mks
 |[],mk=>mk|m::r,mk=>v8 t vs r λy=>if y=Ry m then some (Ks (vs.map (·.text)) m,N8 t vs)else mk y
def dS t:=sub (λ_=>sH) t
end In
namespace In
mutual
def bR{n:Nat}{σ:Nat->Ty}:∀t,aA n (sub σ t)↔∃m,aA m t/\aA n (σ m)
 |.var m=>by simp[sub,aA]|.aK c l=>by simp[sub,aA,Kt l]
def Kt{n:Nat}{σ:Nat->Ty}:∀l,bY n (aT σ l)↔∃m,bY m l/\aA n (σ m)
 |[]=>by simp[aT,bY]|t::l=>by
  simp only[aT,bY,bR t,Kt l];constructor
  .rintro(⟨m,a,b⟩|⟨m,a,b⟩)
   .exact⟨m,jc a,b⟩
   .exact⟨m,ja a,b⟩
  .rintro⟨m,a|a,b⟩
   .exact jc ⟨m,a,b⟩
   .exact ja ⟨m,a,b⟩
end
def iu(h:∀n,aA n t->σ n=.var n):sub σ t=t:=(sub_congr t h).trans<|cO t
def ahn(h:sub σ t=t)(hn:aA n t):σ n=.var n:=PO t (h.trans (cO t).symm) n hn
def xL.idem(h:xL θ a b)v:sub θ (θ v)=θ v:=h.gen θ h.one v
def xL.fix(h:xL θ a b){v}(hn:aA n (θ v)):θ n=.var n:=ahn (h.idem v) hn
structure Ok(s:St):Prop where
 out:∀v,¬s.u v->s.k v=.var v
 use:∀v n,s.u v->aA n (s.k v)->s.u n
 idem:∀v n,aA n (s.k v)->s.k n=.var n
def Ok.nZ{s:St}(h:Ok s)(ht:∀n,aA n t->s.u n)(hn:aA n (sub s.k t)):s.u n/\s.k n=.var n:=by
 have⟨m,h1,h2⟩:=(bR t).1 hn;exact⟨h.use m n (ht m h1) h2,h.idem m n h2⟩
def Ok.rf{s:St}(h:Ok s)t:sub s.k (sub s.k t)=sub s.k t:=by
 refine iu λn hn=>?_;have⟨m,_,h2⟩:=(bR t).1 hn;exact h.idem m n h2
structure LV(Λ:Nat->Prop)(s s':St):Prop where
 mono:∀n,s.u n->s'.u n
 step:∃θ:Nat->Ty,(∀v,s'.k v=sub θ (s.k v))/\(∀v,¬Λ v->θ v=.var v)/\∀v n,Λ v->aA n (θ v)->Λ n
def LV.refl Λ s:LV Λ s s:=⟨λ_ h=>h,Ty.var,λ_=>(cO _).symm,λ_ _=>rfl,λv n h k=>by simp[aA]at k;subst k;exact h⟩
def LV.trans{s s1 s2:St}(h:LV Λ s s1)(k:LV Λ s1 s2):LV Λ s s2:=by
 obtain⟨h1,θ,a1,a2,a3⟩:=h;obtain⟨k1,τ,b1,b2,b3⟩:=k;refine⟨λn q=>k1 n<|h1 n q,λv=>sub τ<|θ v,λv=>by rw[b1,a1,sub_sub],λv hv=>by show sub τ (θ v)=_;rw[a2 v hv,sub,b2 v hv],λv n hv hn=>?_⟩;have⟨m,c1,c2⟩:=(bR _).1 hn;exact b3 m n (a3 v m hv c1) c2
def LV.wide{M}{s s':St}(h:LV Λ s s')(hm:∀n,Λ n->M n):LV M s s':=by
 obtain⟨h1,θ,a1,a2,a3⟩:=h;refine⟨h1,θ,a1,λv hv=>a2 v λq=>hv<|hm v q,λv n hv hn=>?_⟩;by_cases q:Λ v
 .grind
 .rw[a2 v q]at hn;simp[aA]at hn;subst hn;exact hv
structure cB(Λ:Nat->Prop)(s:St)t:Prop where
 use:∀n,aA n t->s.u n
 loc:∀n,aA n (sub s.k t)->Λ n
def FZ{s s':St}(h:∀v,s'.k v=sub θ (s.k v))t:sub s'.k t=sub θ (sub s.k t):=by grind[sub,sub_sub,sub_congr]
def cB.run{s s':St}(h:cB Λ s t)(r:LV Λ s s'):cB Λ s' t:=by
 have⟨θ,a1,a2,a3⟩:=r.step;refine⟨λn hn=>r.mono n<|h.use n hn,λn hn=>?_⟩;rw[FZ a1]at hn;have⟨m,c1,c2⟩:=(bR _).1 hn;exact a3 m n (h.loc m c1) c2
structure nQ(Λ:Nat->Prop)(s:St)(c:LO):Prop where
 use:∀n,aA n c.of->s.u n
 loc:∀n,aA n (sub s.k c.of)->n∈c.any\/Λ n
 fix:∀v,v∈c.any->s.k v=.var v/\¬Λ v
 sub:∀v,v∈c.any->aA v c.of
def nQ.run{s s':St}{c:LO}(h:nQ Λ s c)(r:LV Λ s s'):nQ Λ s' c:=by
 have⟨θ,a1,a2,a3⟩:=r.step;refine⟨λn hn=>r.mono n<|h.use n hn,λn hn=>?_,λv hv=>?_,h.sub⟩
 .rw[FZ a1]at hn;have⟨m,c1,c2⟩:=(bR _).1 hn;obtain q|q:=h.loc m c1
  .rw[a2 m (h.fix m q).2]at c2;simp[aA]at c2;subst c2;exact jc q
  .grind
 .have⟨q1,q2⟩:=h.fix v hv;exact⟨by rw[a1,q1,jt,a2 v q2],q2⟩
def bB Λ s(Γ:Env):=∀y c,Γ y=some c->nQ Λ s c
def bB.run{Λ}{s s'}{Γ}(h:bB Λ s Γ)(r:LV Λ s s'):bB Λ s' Γ:=λy c q=>(h y c q).run r
def cB.mono{s:St}(h:cB Λ s t):nQ Λ s (mono t):=⟨h.use,λn hn=>ja<|h.loc n hn,λv hv=>(by simp at hv),λv hv=>(by simp at hv)⟩
def bB.set{s:St}{Γ}(h:bB Λ s Γ)x{c:LO}(hc:nQ Λ s c):bB Λ s (cJ Γ x c):=λy d q=>by
 rw[cJ]at q;split at q
 .grind
 .exact h y d q
theorem bB.over{Λ}{s}{g Γ}(hg:bB Λ s g)(h:bB Λ s Γ):bB Λ s (over g Γ):=by grind[bB,over]
def bB.none Λ s:bB Λ s (λ_=>none):=by grind[bB]
def dz{α:Type}(m:MM α)s(Q:α->St->Prop):=∀a s',m s (.ok (a,s'))->Q a s'
section
variable {s:St}
def dz.ret{a}{Q:α->St->Prop}(h:Q a s):dz (cU a) s Q:=by grind[dz,cU]
def dz.and{m}{g}{Q:α->St->Prop}{R:β->St->Prop}(h:dz m s Q)(k:∀a s',Q a s'->dz (g a) s' R):dz (andM m g) s R:=by grind[dz,andM]
def dz.no{Q:α->St->Prop}:dz W7 s Q:=λ_ _ q=>q.elim
def dz.imp{m}{Q R:α->St->Prop}(h:dz m s Q)(k:∀a s',Q a s'->R a s'):dz m s R:=by grind[dz]
structure Kp(Λ:Nat->Prop)s s':Prop where
 ok:Ok s'
 new:∀n,¬s'.u n->Λ n
 run:LV Λ s s'
def Kp.refl(h:Ok s)(hn:∀n,¬s.u n->Λ n):Kp Λ s s:=⟨h,hn,LV.refl _ _⟩
def Kp.trans{s1 s2}(h:Kp Λ s s1)(k:Kp Λ s1 s2):Kp Λ s s2:=⟨k.ok,k.new,h.run.trans k.run⟩
def ij(h:Ok s)(hn:∀n,¬s.u n->Λ n):dz iP s λv s'=>Kp Λ s s'/\cB Λ s' (.var v)/\s'.k=s.k:=λv s' q=>by
 obtain⟨w,hw,q⟩:=q;injection q with q;injection q with q1 q2;subst q1;subst q2;have hk:=h.out v hw;refine⟨⟨⟨λn q=>h.out n λq'=>q<|jc q',λm n q1 q2=>?_,h.idem⟩,λn q=>hn n λq'=>q<|jc q',⟨λn q=>jc q,Ty.var,λ_=>(cO _).symm,λ_ _=>rfl,λm n h k=>by simp[aA]at k;subst k;exact h⟩⟩,⟨λn q=>?_,λn q=>?_⟩,rfl⟩
 .obtain q1|rfl:=q1
  .exact jc (h.use m n q1 q2)
  .rw[hk]at q2;simp[aA]at q2;exact ja q2.symm
 .simp[aA]at q;exact ja q.symm
 .simp only[jt,hk]at q;simp[aA]at q;subst q;exact hn _ hw
def fk(h:Ok s)(hn:∀n,¬s.u n->Λ n)(ha:cB Λ s a)(hb:cB Λ s b)f t:dz (sv a b f t) s λ_ s'=>Kp Λ s s'/\sub s'.k a=sub s'.k b:=λv s' q=>by
 obtain⟨_,q⟩|⟨_,_,⟨θ,vP,q⟩|⟨_,q⟩⟩:=q
 .cases q
 .injection q with q;injection q with q1 q2;subst q2;have hu:∀n,aA n (sub s.k a)\/aA n (sub s.k b)->s.u n/\s.k n=.var n/\Λ n:=λn q=>by
   obtain q|q:=q
   .exact⟨(h.nZ ha.use q).1,(h.nZ ha.use q).2,ha.loc n q⟩
   .exact⟨(h.nZ hb.use q).1,(h.nZ hb.use q).2,hb.loc n q⟩
  have hr:∀v n,aA n (θ v)->n=v\/(aA n (sub s.k a)\/aA n (sub s.k b)):=λv n q=>by
   by_cases e:aA v (sub s.k a)\/aA v (sub s.k b)
   .exact ja (vP.rng v n e q)
   .rw[vP.out v (λq=>e<|jc q)<|λq=>e<|ja q]at q;simp[aA]at q;exact jc q.symm
  refine⟨⟨⟨λv q=>?_,λv n q1 q2=>?_,λv n q=>?_⟩,hn,⟨λn q=>q,θ,λ_=>rfl,λv q=>?_,λv n q1 q2=>?_⟩⟩,?_⟩
  .show sub θ (s.k v)=_;rw[h.out v q,jt];exact vP.out v (λq'=>q (hu v<|jc q').1)<|λq'=>q (hu v<|ja q').1
  .have⟨m,c1,c2⟩:=(bR _).1 q2;obtain rfl|e:=hr m n c2
   .exact h.use v n q1 c1
   .exact(hu n e).1
  .have⟨m,c1,c2⟩:=(bR _).1 q;have:s.k n=.var n:=by
    obtain rfl|e:=hr m n c2
    .exact h.idem v n c1
    .exact(hu n e).2.1
   show sub θ (s.k n)=_;rw[this,jt];exact vP.fix c2
  .exact vP.out v (λq'=>q (hu v<|jc q').2.2) (λq'=>q (hu v<|ja q').2.2)
  .grind
  .have e:∀x,sub (λv=>sub θ<|s.k v) x=sub θ (sub s.k x):=λx=>(sub_sub _ _ x).symm;show sub (λv=>sub θ<|s.k v) a=sub (λv=>sub θ<|s.k v) b;rw[e,e];exact vP.one
 .cases q
def tN(h:Ok s)(hn:∀n,¬s.u n->Λ n)l ρ:dz (oE l ρ) s λd_ s'=>Kp Λ s s'/\Ck l ρ d_ s.u s'.u/\s'.k=s.k:=λd_ s' q=>by
 obtain⟨bJ,u',hd,q⟩:=q;injection q with q;injection q with q1 q2;subst q1;subst q2;refine⟨⟨⟨λn q=>h.out n λq'=>q<|(hd.use n).2<|jc q',λm n q1 q2=>(hd.use n).2 ?_,h.idem⟩,λn q=>hn n λq'=>q<|(hd.use n).2<|jc q',⟨λn q=>(hd.use n).2<|jc q,Ty.var,λ_=>(cO _).symm,λ_ _=>rfl,λm n h k=>by simp[aA]at k;subst k;exact h⟩⟩,hd,rfl⟩;obtain q1|⟨v,e1,e2⟩:=(hd.use m).1 q1
 .exact jc (h.use m n q1 q2)
 .have:s.k m=.var m:=h.out m<|hd.new v m e1 e2;have q2:=q2;rw[this]at q2;simp[aA]at q2;subst q2;exact ja ⟨v,e1,e2⟩
end
structure iE(Λ:Nat->Prop)(s:St)(ρ:Rn):Prop where
 use:∀v n,ρ v=some n->s.u n
 loc:∀v n m,ρ v=some n->aA m (s.k n)->Λ m
def iE.run{s s':St}{ρ:Rn}(h:iE Λ s ρ)(r:LV Λ s s'):iE Λ s' ρ:=by
 have⟨θ,a1,a2,a3⟩:=r.step;refine⟨λv n q=>r.mono n<|h.use v n q,λv n m q1 q2=>?_⟩;rw[a1]at q2;have⟨x,c1,c2⟩:=(bR _).1 q2;exact a3 x m (h.loc v n x q1 c1) c2
def iE.draw{s s':St}{ρ d_:Rn}{l}(h:iE Λ s ρ)(ho:Ok s)(hn:∀n,¬s.u n->Λ n)(hk:Kp Λ s s')(hd:Ck l ρ d_ s.u s'.u)(e:s'.k=s.k):iE Λ s' d_:=by
 refine⟨λv n q=>?_,λv n m q1 q2=>?_⟩
 .cases e1:ρ v with
  |none=>exact(hd.use n).2 (ja ⟨v,e1,q⟩)|some n'=>have:=hd.eR v n' e1;rw[this]at q;injection q with q;subst q;exact hk.run.mono _<|h.use v _ e1
 .cases e1:ρ v with
  |none=>
   have hu:=hd.new v n e1 q1;rw[e,ho.out n hu]at q2;simp[aA]at q2;subst q2;exact hn n hu
  |some n'=>have:=hd.eR v n' e1;rw[this]at q1;injection q1 with q1;subst q1;rw[e]at q2;exact h.loc v _ m e1 q2
def iE.zero Λ s:iE Λ s Cj:=⟨λv n q=> mO,λv n m q=> mO⟩
def iE.ty{s:St}{ρ:Rn}(h:iE Λ s ρ)(ht:∀v,aA v t->ρ v≠none):cB Λ s (sub (via ρ) t):=by
 refine⟨λn hn=>?_,λn hn=>?_⟩
 .have⟨m,c1,c2⟩:=(bR _).1 hn
  cases e:ρ m with
  |none=>grind|some x=>simp[via,e,aA]at c2;subst c2;exact h.use m _ e
 .rw[sub_sub]at hn;have⟨m,c1,c2⟩:=(bR _).1 hn
  cases e:ρ m with
  |none=>grind|some x=>simp only[via,e,jt]at c2;exact h.loc m x n e c2
end In
namespace In
def aC:n∈vars [] t↔aA n t:=by simp[bE]
section
variable {s:St}
def sD(h:Ok s)(hn:∀n,¬s.u n->Λ n){ρ}(hρ:iE Λ s ρ)t:dz (oo t ρ) s λq s'=>Kp Λ s s'/\cB Λ s' q.1/\iE Λ s' q.2:=by
 refine(tN h hn _ _).and λd_ s1⟨k1,d1,e1⟩=>?_;have hr:=hρ.draw h hn k1 d1 e1;exact .ret ⟨k1,hr.ty<|λv hv=>d1.all v<|aC.2 hv,hr⟩
def bL{c:BA}:cB Λ s (.aK c []):=⟨λn q=>(by simp[aA,bY]at q),λn q=>(by simp[jt,aT,aA,bY]at q)⟩
def dO{c:BA}(ha:cB Λ s a)(hb:cB Λ s b):cB Λ s (.aK c [a,b]):=by
 refine⟨λn q=>?_,λn q=>?_⟩
 .simp[aA,bY]at q;exact q.elim (ha.use n)<|hb.use n
 .simp[jt,aT,aA,bY]at q;exact q.elim (ha.loc n)<|hb.loc n
def j_(h:vars [] t=[]):cB Λ s t:=by
 have h0:∀n,¬aA n t:=λn q=>by have:=aC.2 q;rw[h]at this;simp at this
 refine⟨λn q=>absurd q<|h0 n,λn q=>?_⟩;have⟨m,c1,_⟩:=(bR t).1 q;exact absurd c1<|h0 m
def F_(h:Ok s)(hn:∀n,¬s.u n->Λ n){Γ:Env}(cA:bB Λ s Γ)x f t:dz (qL Γ x f t) s λq s'=>Kp Λ s s'/\cB Λ s' q:=by
 rw[qL]
 cases e:Γ x with
 |none=>exact .no|some c=>
  intro a s' q;obtain⟨_,q⟩|⟨_,ρ,s1,q1,q2⟩:=q
  .cases q
  .have⟨k1,d1,e1⟩:=tN h hn _ _ _ _ q1;injection q2 with q2;injection q2 with q2 q3;subst q2;subst q3;have hc:=cA x c e;have nM:∀v,v∉c.any->ρ v=none:=λv hv=>d1.out v hv;refine⟨k1,λn IA=>?_,λn IA=>?_⟩
   .have⟨m,c1,c2⟩:=(bR _).1 IA;by_cases hm:m∈c.any
    .cases e2:ρ m with
     |none=>exact absurd e2 (d1.all m hm)|some y=>simp[via,e2,aA]at c2;subst c2;exact(d1.use _).2 (ja ⟨m,rfl,e2⟩)
    .simp[via,nM m hm,aA]at c2;subst c2;exact k1.run.mono _ (h.nZ hc.use c1).1
   .rw[sub_sub,e1]at IA;have⟨m,c1,c2⟩:=(bR _).1 IA;by_cases hm:m∈c.any
    .cases e2:ρ m with
     |none=>exact absurd e2 (d1.all m hm)|some y=>
      have hu:=d1.new m y rfl e2;simp only[via,e2,jt,h.out y hu]at c2;simp[aA]at c2;subst c2;exact hn _ hu
    .simp only[via,nM m hm,jt,(h.nZ hc.use c1).2]at c2;simp[aA]at c2;subst c2;exact(hc.loc m c1).resolve_left hm
end
def Ar(p:PM):=∀(g:Env)(s:St)(Λ:Nat->Prop),Ok s->(∀n,¬s.u n->Λ n)->bB Λ s g->dz (p g) s λq s'=>Kp Λ s s'/\cB Λ s' q.1/\bB Λ s' q.2
def nS(p:EM):=∀(Γ:Env)(s:St)(Λ:Nat->Prop),Ok s->(∀n,¬s.u n->Λ n)->bB Λ s Γ->dz (p Γ) s λt s'=>Kp Λ s s'/\cB Λ s' t
def yq{p:Prop}(h:p:=by
 rw[jh,List.getElem?_eq_getElem hi];exact h _<|List.getElem_mem hi):p:=h
def Rz{p:Prop}(h:p:=by
 rw[jh,jm ae];intro _ _ _ _ _ _;exact .no):p:=h
def afn{ps}(h:∀p∈ps,Ar p)i:Ar (cK ps i):=by
 rw[cK];by_cases hi:i<ps.length
 .exact yq
 .exact Rz
def aaH{ps}(h:∀p∈ps,nS p)i:nS (cK ps i):=by
 rw[cK];by_cases hi:i<ps.length
 .exact yq
 .exact Rz
def Ku:∀(tk:List Ty)(L:List Nd)(ps:List PM),(∀p∈ps,Ar p)->∀(g:Env)(ρ:Rn)(s:St)(Λ:Nat->Prop),Ok s->(∀n,¬s.u n->Λ n)->bB Λ s g->iE Λ s ρ->dz (fH tk L ps g ρ) s λq s'=>Kp Λ s s'/\bB Λ s' q.1/\iE Λ s' q.2
 |u::tk,x::L,p::ps,hp,g,ρ,s,Λ,h,hn,hg,hρ=>by
  rw[fH];refine(hp p ag g s Λ h hn hg).and λq s1⟨k1,t1,g1⟩=>?_;refine(sD k1.ok k1.new (hρ.run k1.run) u).and λi s2⟨k2,t2,r2⟩=>?_;refine(fk k2.ok k2.new (t1.run k2.run) t2 _ _).and λ_ s3⟨k3,_⟩=>?_;refine(Ku tk L ps (λp h=>hp p<|by simp[h]) q.2 i.2 s3 Λ k3.ok k3.new ((g1.run k2.run).run k3.run)<|r2.run k3.run).imp λ_ s4⟨k4,r4⟩=>?_;exact⟨((k1.trans k2).trans k3).trans k4,r4⟩
 |[],_,_,_,g,ρ,s,Λ,h,hn,hg,hρ=>.ret ⟨.refl h hn,hg,hρ⟩|_::_,[],_,_,g,ρ,s,Λ,h,hn,hg,hρ=>.ret ⟨.refl h hn,hg,hρ⟩|_::_,_::_,[],_,g,ρ,s,Λ,h,hn,hg,hρ=>.ret ⟨.refl h hn,hg,hρ⟩
def Vu mk k x L ps(hp:∀p∈ps,Ar p):Ar (qH mk k x L ps):=by
 intro g s Λ h hn hg;rw[qH];split
 .exact(ij h hn).and λv s1⟨k1,t1,_⟩=>.ret ⟨k1,t1,hg.run k1.run⟩
 split
 .exact(ij h hn).and λv s1⟨k1,t1,_⟩=>.ret ⟨k1,t1,(hg.run k1.run).set _ t1.mono⟩
 split
 .exact .ret ⟨.refl h hn,bL,hg⟩
 split
 .exact .ret ⟨.refl h hn,bL,hg⟩
 split
 .exact .ret ⟨.refl h hn,bL,hg⟩
 split
 .refine(afn hp 0 g s Λ h hn hg).and λa s1⟨k1,t1,g1⟩=>?_;refine(afn hp 1 _ s1 Λ k1.ok k1.new g1).and λb s2⟨k2,t2,g2⟩=>?_;exact .ret ⟨k1.trans k2,dO (t1.run k2.run) t2,g2⟩
 cases mk x with
 |none=>exact .no|some p=>
  refine(Ku p.1 L ps hp g Cj s Λ h hn hg<|.zero _ _).and λq s1⟨k1,g1,r1⟩=>?_;refine(sD k1.ok k1.new r1 p.2).and λi s2⟨k2,t2,_⟩=>?_;exact .ret ⟨k1.trans k2,t2,g1.run k2.run⟩
mutual
def ux(mk:Mks):∀nd,Ar<|du mk nd
 |.mk k s n L f t a=>Vu mk k s L _<|As mk L
def As(mk:Mks):∀L,∀p∈iX mk L,Ar p
 |[],p,h=>by simp[iX]at h|x::l,p,h=>by
  simp only[iX,ji]at h;obtain rfl|h:=h
  .exact ux mk x
  .exact As mk l p h
end
def Kv(mk:Mks):∀(L:List Nd)(ps:List EM),(∀p∈ps,nS p)->∀(Γ:Env)(t r:Ty)(s:St)(Λ:Nat->Prop),Ok s->(∀n,¬s.u n->Λ n)->bB Λ s Γ->cB Λ s t->cB Λ s r->dz (iK mk Γ t r L ps) s λ_ s'=>Kp Λ s s'
 |p::e::L,_::pe::ps,hp,Γ,t,r,s,Λ,h,hn,cA,ht,hr=>by
  rw[iK];refine(ux mk p _ s Λ h hn<|.none _ _).and λq s1⟨k1,t1,g1⟩=>?_;refine(fk k1.ok k1.new (ht.run k1.run) t1 _ _).and λ_ s2⟨k2,_⟩=>?_;have k12:=k1.trans k2;refine(hp pe ag _ s2 Λ k2.ok k2.new<|(g1.run k2.run).over<|cA.run k12.run).and λu s3⟨k3,t3⟩=>?_;have k13:=k12.trans k3;refine(fk k3.ok k3.new (hr.run k13.run) t3 _ _).and λ_ s4⟨k4,_⟩=>?_;have k14:=k13.trans k4;exact(Kv mk L ps (λp h=>hp p<|by simp[h]) Γ t r s4 Λ k4.ok k4.new (cA.run k14.run) (ht.run k14.run)<|hr.run k14.run).imp λ_ s5 k5=>k14.trans k5
 |[],_,_,_,_,_,s,Λ,h,hn,_,_,_=>.ret (.refl h hn)|[_],_,_,_,_,_,s,Λ,h,hn,_,_,_=>.ret (.refl h hn)|_::_::_,[],_,_,_,_,s,Λ,h,hn,_,_,_=>.ret (.refl h hn)|_::_::_,[_],_,_,_,_,s,Λ,h,hn,_,_,_=>.ret<|.refl h hn
def iF rc x e{pe:EM}(hp:nS pe):nS (bM rc x e pe):=by
 intro Γ s Λ h hn cA;rw[bM];split
 .refine(ij h hn).and λv s1⟨k1,t1,_⟩=>?_;refine(hp _ s1 Λ k1.ok k1.new<|(cA.run k1.run).set _ t1.mono).and λt s2⟨k2,t2⟩=>?_;refine(fk k2.ok k2.new (t1.run k2.run) t2 _ _).and λ_ s3⟨k3,_⟩=>?_;exact .ret ⟨(k1.trans k2).trans k3,t2.run k3.run⟩
 .exact hp Γ s Λ h hn cA
def less(Λ:Nat->Prop)(l:List Nat):Nat->Prop:=λn=>Λ n/\n∉l
section
variable {s:St}
def Ga{Γ:Env}{k}{v}(h:n∈(f_ Γ k t v).any):aA n (sub k t)/\¬vM Γ k n:=by
 rw[f_]at h
 cases v with
 |false=>simp at h|true=>simp[yA]at h;exact⟨aC.1 h.1,h.2⟩
def xV(h:Ok s)(hn:∀n,¬s.u n->Λ n){Γ:Env}(cA:bB Λ s Γ)(ht:cB Λ s t)(rc:Bool)x v:
 bB (less Λ (f_ (if rc then lH Γ x else Γ) s.k t v).any) s (cJ Γ x<|f_ (if rc then lH Γ x else Γ) s.k t v)/\∀n,¬s.u n->less Λ (f_ (if rc then lH Γ x else Γ) s.k t v).any n:=by
 have hA:∀n,n∈(f_ (if rc then lH Γ x else Γ) s.k t v).any->aA n (sub s.k t)/\¬vM (if rc then lH Γ x else Γ) s.k n:=λn q=>Ga q;have hof:(f_ (if rc then lH Γ x else Γ) s.k t v).of=sub s.k t:=rfl;generalize f_ (if rc then lH Γ x else Γ) s.k t v=S at hA hof⊢;obtain⟨T,A⟩:=S;simp only at hA hof⊢;subst hof;refine⟨λy c e=>?_,λn q=>⟨hn n q,λq'=>q (h.nZ ht.use (hA n q').1).1⟩⟩;rw[cJ]at e;split at e
 .injection e with e;subst e;refine⟨λn q=>(h.nZ ht.use q).1,λn q=>?_,λn q=>⟨(h.nZ ht.use (hA n q).1).2,λq'=>q'.2 q⟩,λn q=>(hA n q).1⟩;by_cases hm:n∈A
  .exact jc hm
  .have q:=q;rw[h.rf]at q;exact ja ⟨ht.loc n q,hm⟩
 .rename_i hyx;have hc:=cA y c e;refine⟨hc.use,λn q=>?_,λn q=>⟨(hc.fix n q).1,λq'=>(hc.fix n q).2 q'.1⟩,hc.sub⟩;by_cases hm:n∈c.any
  .exact jc hm
  .refine ja ⟨(hc.loc n q).resolve_left hm,λq'=>(hA n q').2 ⟨y,c,?_,q,hm⟩⟩
   cases rc with
   |true=>simp only[if_true];rw[lH];rw[if_neg hyx];exact e|false=>exact e
def Dx rc x e{pe pf:EM}(hp:nS pe)(hf:nS pf):nS (li rc x e pe pf):=by
 intro Γ s Λ h hn cA;rw[li];refine(iF rc x e hp Γ s Λ h hn cA).and λt s1⟨k1,t1⟩=>?_;have⟨hE,hN⟩:=xV k1.ok k1.new (cA.run k1.run) t1 rc x<|sw e;refine dz.imp (hf _ s1 _ k1.ok hN hE) λu s2⟨k2,t2⟩=>?_;exact⟨k1.trans ⟨k2.ok,λn q=>(k2.new n q).1,k2.run.wide λn q=>q.1⟩,t2.use,λn q=>(t2.loc n q).1⟩
end
def dt[Decidable c]{m m'}{s:St}{Q:α->St->Prop}(h:c->dz m s Q)(k:¬c->dz m' s Q):dz (if c then m else m') s Q:=xC
def Vv mk k x L f t ps(hp:∀p∈ps,nS p):nS (kh mk k x L f t ps):=by
 intro Γ s Λ h hn cA;have h0:=aaH hp 0;have h1:=aaH hp 1;have h2:=aaH hp 2;rw[kh];refine dt (λ_=>?_) λ_=>?_
 .exact F_ h hn cA _ _ _
 refine dt (λ_=>?_) λ_=>?_
 .rw[upM]
  cases mk x with
  |none=>exact .no|some p=>exact(sD h hn (.zero _ _) _).and λq s1⟨k1,t1,_⟩=>.ret ⟨k1,t1⟩
 refine dt (λ_=>?_) λ_=>?_
 .exact .ret ⟨.refl h hn,bL⟩
 refine dt (λ_=>?_) λ_=>?_
 .exact .ret ⟨.refl h hn,bL⟩
 refine dt (λ_=>?_) λ_=>?_
 .exact .ret ⟨.refl h hn,bL⟩
 refine dt (λ_=>?_) λ_=>?_
 .refine(h0 Γ s Λ h hn cA).and λa s1⟨k1,t1⟩=>?_;refine(h1 Γ s1 Λ k1.ok k1.new<|cA.run k1.run).and λb s2⟨k2,t2⟩=>?_;exact .ret ⟨k1.trans k2,dO (t1.run k2.run) t2⟩
 refine dt (λ_=>?_) λ_=>?_
 .split
  .rename_i hs;refine(h0 Γ s Λ h hn cA).and λa s1⟨k1,t1⟩=>?_;refine(fk k1.ok k1.new t1 (j_ hs) _ _).and λ_ s2⟨k2,_⟩=>?_;exact .ret ⟨k1.trans k2,j_ hs⟩
  .exact .no
 refine dt (λ_=>?_) λ_=>?_
 .refine(h0 Γ s Λ h hn cA).and λa s1⟨k1,t1⟩=>?_;refine(fk k1.ok k1.new t1 bL _ _).and λ_ s2⟨k2,_⟩=>?_;have k12:=k1.trans k2;refine(h1 Γ s2 Λ k2.ok k2.new<|cA.run k12.run).and λb s3⟨k3,t3⟩=>?_;refine(fk k3.ok k3.new t3 bL _ _).and λ_ s4⟨k4,_⟩=>?_;refine .ret ⟨(k12.trans k3).trans k4,?_⟩;split<;>exact bL
 refine dt (λ_=>?_) λ_=>?_
 .refine(h0 Γ s Λ h hn cA).and λa s1⟨k1,t1⟩=>?_;refine(h1 Γ s1 Λ k1.ok k1.new<|cA.run k1.run).and λb s2⟨k2,t2⟩=>?_;refine(ij k2.ok k2.new).and λv s3⟨k3,t3,_⟩=>?_;refine(fk k3.ok k3.new ((t1.run k2.run).run k3.run) (dO (t2.run k3.run) t3) _ _).and λ_ s4⟨k4,_⟩=>?_;exact .ret ⟨((k1.trans k2).trans k3).trans k4,t3.run k4.run⟩
 refine dt (λ_=>?_) λ_=>?_
 .refine(ij h hn).and λv s1⟨k1,t1,_⟩=>?_;refine(h0 _ s1 Λ k1.ok k1.new<|(cA.run k1.run).set _ t1.mono).and λa s2⟨k2,t2⟩=>?_;exact .ret ⟨k1.trans k2,dO (t1.run k2.run) t2⟩
 refine dt (λ_=>?_) λ_=>?_
 .exact Dx _ _ _ h0 h1 Γ s Λ h hn cA
 refine dt (λ_=>?_) λ_=>?_
 .exact Dx _ _ _ h0 h1 Γ s Λ h hn cA
 refine dt (λ_=>?_) λ_=>?_
 .refine(h0 Γ s Λ h hn cA).and λa s1⟨k1,t1⟩=>?_;refine(fk k1.ok k1.new t1 bL _ _).and λ_ s2⟨k2,_⟩=>?_;have k12:=k1.trans k2;refine(h1 Γ s2 Λ k2.ok k2.new<|cA.run k12.run).and λb s3⟨k3,t3⟩=>?_;have k13:=k12.trans k3;refine(h2 Γ s3 Λ k3.ok k3.new<|cA.run k13.run).and λc s4⟨k4,t4⟩=>?_;refine(fk k4.ok k4.new (t3.run k4.run) t4 _ _).and λ_ s5⟨k5,_⟩=>?_;exact .ret ⟨(k13.trans k4).trans k5,(t3.run k4.run).run k5.run⟩
 refine dt (λ_=>?_) λ_=>?_
 .refine(h0 Γ s Λ h hn cA).and λa s1⟨k1,t1⟩=>?_;refine(ij k1.ok k1.new).and λv s2⟨k2,t2,_⟩=>?_;have k12:=k1.trans k2;refine(Kv mk L.tail ps.tail (λp h=>hp p<|List.mem_of_mem_tail h) Γ a _ s2 Λ k2.ok k2.new (cA.run k12.run) (t1.run k2.run) t2).and λ_ s3 k3=>?_;exact .ret ⟨k12.trans k3,t2.run k3.run⟩
 .exact .no
mutual
def l8(mk:Mks):∀nd,nS<|inf mk nd
 |.mk k s n L f t a=>Vv mk k s L f t _<|Dy mk L
def Dy(mk:Mks):∀L,∀p∈dY mk L,nS p
 |[],p,h=>by simp[dY]at h|x::l,p,h=>by
  simp only[dY,ji]at h;obtain rfl|h:=h
  .exact l8 mk x
  .exact Dy mk l p h
end
end In
namespace In
structure Rel(D:Nat->Prop)(ρ:Nat->Nat)(s s':St):Prop where
 live:∀n,D n->s.u n->s.k n=.var n->s'.u (ρ n)/\s'.k (ρ n)=.var (ρ n)
 inj:∀m n,D m->D n->s.u m->s.k m=.var m->s.u n->s.k n=.var n->ρ m=ρ n->m=n
def kX(ρ:Nat->Nat)(s s':St)(t t':Ty):Prop:=sub s'.k t'=sub (pY ρ) (sub s.k t)
structure Kw(D:Nat->Prop)ρ s s'(c c':LO):Prop where
 of:kX ρ s s' c.of c'.of
 any:c'.any=c.any.map ρ
 dom:∀v,v∈c.any->D v
def gK D ρ s s'(Γ dL:Env):=∀y,(Γ y=none/\dL y=none)\/∃c c',Γ y=some c/\dL y=some c'/\Kw D ρ s s' c c'
structure uZ D Λ cH ρ s s' bJ s1 Cc:Prop where
 kp:Kp Λ s s1
 iO:Kp cH s' Cc
 rel:Rel D bJ s1 Cc
 ty:∀t t',(∀n,aA n t->s.u n)->(∀n,aA n (sub s.k t)->D n)->kX ρ s s' t t'->kX bJ s1 Cc t t'
 any:∀n,s.u n->s.k n=.var n->D n->¬Λ n->bJ n=ρ n
 dom:∀n,Λ n->D n
section
variable {ol:Nat->Nat} {s s' s1 Cc s2 s2':St}
def uZ.refl(hD:∀n,Λ n->D n)(h:Ok s)(hn:∀n,¬s.u n->Λ n)(h':Ok s')(IA:∀n,¬s'.u n->cH n)(r:Rel D ρ s s'):uZ D Λ cH ρ s s' ρ s s':=⟨.refl h hn,.refl h' IA,r,λ_ _ _ _ h=>h,λ_ _ _ _ _=>rfl,hD⟩
def Kp.fix(k:Kp Λ s s1)(h:s.k n=.var n)(hn:¬Λ n):s1.k n=.var n:=by
 have⟨θ,a1,a2,_⟩:=k.run.step;rw[a1,h,jt,a2 n hn]
def Kp.dom(k:Kp Λ s s1)(hD:∀n,Λ n->D n)(h:∀n,aA n (sub s.k t)->D n)n(hn:aA n (sub s1.k t)):D n:=by
 have⟨θ,a1,a2,a3⟩:=k.run.step;rw[FZ a1]at hn;have⟨m,c1,c2⟩:=(bR _).1 hn;by_cases e:Λ m
 .grind
 .rw[a2 m e]at c2;simp[aA]at c2;subst c2;exact h m c1
def uZ.trans(h:uZ D Λ cH ρ s s' bJ s1 Cc)(k:uZ D Λ cH bJ s1 Cc ol s2 s2'):uZ D Λ cH ρ s s' ol s2 s2':=
 ⟨h.kp.trans k.kp,h.iO.trans k.iO,k.rel,λt t' q d r=>k.ty t t' (λn hn=>h.kp.run.mono n<|q n hn) (h.kp.dom h.dom d)<|h.ty t t' q d r,λn a b d c=>by
  rw[k.any n (h.kp.run.mono n a) (h.kp.fix b c) d c,h.any n a b d c],h.dom⟩
def cB.dom(h:cB Λ s t)(hD:∀n,Λ n->D n):∀n,aA n (sub s.k t)->D n:=λn hn=>hD n<|h.loc n hn
def uZ.pC(h:uZ D Λ cH ρ s s' bJ s1 Cc)(hi:cB Λ s t)(r:kX ρ s s' t t'):kX bJ s1 Cc t t':=h.ty t t' hi.use (hi.dom h.dom) r
def Kw.eO{c c':LO}(h:Kw D ρ s s' c c')(hc:nQ Λ s c)(k:uZ D Λ cH ρ s s' bJ s1 Cc):Kw D bJ s1 Cc c c':=
 ⟨k.ty _ _ hc.use (λn hn=>(hc.loc n hn).elim (h.dom n)<|k.dom n) h.of,by
  rw[h.any]
  exact jp λv hv=>(k.any v (hc.use v<|hc.sub v hv) (hc.fix v hv).1 (h.dom v hv) (hc.fix v hv).2).symm,h.dom⟩
def gK.eO{Γ dL}(h:gK D ρ s s' Γ dL)(hc:bB Λ s Γ)(k:uZ D Λ cH ρ s s' bJ s1 Cc):gK D bJ s1 Cc Γ dL:=λy=>by
 obtain q|⟨c,c',q1,q2,q3⟩:=h y
 .exact jc q
 .exact ja ⟨c,c',q1,q2,q3.eO (hc y c q1) k⟩
def gK.set{Γ dL:Env}(h:gK D ρ s s' Γ dL)x{c c':LO}(hc:Kw D ρ s s' c c'):gK D ρ s s' (cJ Γ x c) (cJ dL x c'):=λy=>by
 unfold cJ;by_cases e:y=x
 .grind
 .rw[if_neg e,if_neg e];exact h y
def gK.del{Γ dL:Env}(h:gK D ρ s s' Γ dL)x:gK D ρ s s' (lH Γ x) (lH dL x):=by grind[gK,lH]
theorem gK.over{g g' Γ dL}(hg:gK D ρ s s' g g')(h:gK D ρ s s' Γ dL):gK D ρ s s' (over g Γ) (over g' dL):=by grind[gK,over]
def gK.none:gK D ρ s s' (λ_=>none) (λ_=>none):=by grind[gK]
def kX.mono(h:kX ρ s s' t t'):Kw D ρ s s' (mono t) (mono t'):=⟨h,rfl,λv hv=>(by simp at hv)⟩
def kX.aK c:kX ρ s s' (.aK c []) (.aK c []):=by simp[kX,jt,aT]
def kX.two c(ha:kX ρ s s' a a')(hb:kX ρ s s' b b'):kX ρ s s' (.aK c [a,b]) (.aK c [a',b']):=by
 simp only[kX,jt,aT]at ha hb⊢;rw[ha,hb]
def kX.shut(h:vars [] t=[]):kX ρ s s' t t:=by
 have h0:∀n,¬aA n t:=λn q=>by have:=aC.2 q;rw[h]at this;simp at this
 rw[kX];rw[iu (σ:=s'.k) λn q=>absurd q<|h0 n,iu (σ:=s.k) λn q=>absurd q<|h0 n,iu (σ:=pY ρ) λn q=>absurd q<|h0 n]
theorem kX.size(h:kX ρ s s' t t'):size (sub s'.k t')=size (sub s.k t):=by rw[h,IF]
end
def FtR pl(x x':Ft):=x.f.kind=x'.f.kind/\(pl->x.f=x'.f)/\∃ρ:Nat->Nat,(∀m n,(aA m x.l\/aA m x.r)->(aA n x.l\/aA n x.r)->ρ m=ρ n->m=n)/\x'.l=sub (pY ρ) x.l/\x'.r=sub (pY ρ) x.r
def als{α β:Type}(pl:Prop)(Q:α->St->β->St->Prop):Except Ft (α×St)->Except Ft (β×St)->Prop
 |.ok (a,s),.ok (b,s')=>Q a s b s'|.error x,.error x'=>FtR pl x x'|_,_=>False
def kY{α β:Type}pl(m:MM α)(m':MM β)s s' Q:=∀o o',m s o->m' s' o'->als pl Q o o'
section
variable {γ δ:Type} {s s':St}
def kY.ret{a}{b}{Q:α->St->β->St->Prop}(h:Q a s b s'):kY pl (cU a) (cU b) s s' Q:=λo o' q q'=>by
 rw[cU]at q q';subst q;subst q';exact h
def kY.and{m}{m'}{g}{g'}{Q:α->St->β->St->Prop}{R:γ->St->δ->St->Prop}(h:kY pl m m' s s' Q)(k:∀a t b t',Q a t b t'->kY pl (g a) (g' b) t t' R):kY pl (andM m g) (andM m' g') s s' R:=λo o' q q'=>by
 obtain⟨x,q1,rfl⟩|⟨a,t,q1,q2⟩:=q<;>obtain⟨x',RA,rfl⟩|⟨a',t',RA,q2'⟩:=q'
 .exact h _ _ q1 RA
 .exact(h _ _ q1 RA).elim
 .exact(h _ _ q1 RA).elim
 .exact k _ _ _ _ (h _ _ q1 RA) _ _ q2 q2'
def kY.no{Q:α->St->β->St->Prop}{m'}:kY pl W7 m' s s' Q:=λ_ _ q=>q.elim
def kY.imp{m}{m'}{Q R:α->St->β->St->Prop}(h:kY pl m m' s s' Q)(k:∀a t b t',Q a t b t'->R a t b t'):kY pl m m' s s' R:=λo o' q q'=>by
 have:=h o o' q q'
 match o,o',this with
 |.ok (a,t),.ok (b,t'),w=>exact k _ _ _ _ w|.error _,.error _,w=>exact w
def kY.ite[Decidable c]{m n}{m' n'}{Q:α->St->β->St->Prop}(h:c->kY pl m m' s s' Q)(k:¬c->kY pl n n' s s' Q):kY pl (if c then m else n) (if c then m' else n') s s' Q:=xC
end
structure qQ(D Λ cH:Nat->Prop)ρ s s':Prop where
 dom:∀n,Λ n->D n
 ok:Ok s
 new:∀n,¬s.u n->Λ n
 G':Ok s'
 Vw:∀n,¬s'.u n->cH n
 rel:Rel D ρ s s'
def uZ.both{s s' s1 Cc:St}(h:uZ D Λ cH ρ s s' bJ s1 Cc):qQ D Λ cH bJ s1 Cc:=⟨h.dom,h.kp.ok,h.kp.new,h.iO.ok,h.iO.new,h.rel⟩
def qQ.refl{D Λ cH}{ρ}{s s'}(h:qQ D Λ cH ρ s s'):uZ D Λ cH ρ s s' ρ s s':=.refl h.dom h.ok h.new h.G' h.Vw h.rel
section
variable {s s':St}
def u7{ρ d_}(h:∀n,aA n t->ρ n=d_ n):sub (pY ρ) t=sub (pY d_) t:=by grind[aA,sub,sub_congr]
def lE σ ρ u:sub σ (sub (pY ρ) u)=sub (λn=>σ<|ρ n) u:=by rw[sub_sub];rfl
def mG(h:qQ D Λ cH ρ s s'):kY pl iP iP s s' λv t v' t'=>∃bJ,uZ D Λ cH ρ s s' bJ t t'/\cB Λ t (.var v)/\cB cH t' (.var v')/\kX bJ t t' (.var v) (.var v'):=λo o' q q'=>by
 obtain⟨v,hv,rfl⟩:=q;obtain⟨v',Mn,rfl⟩:=q';have⟨k1,t1,e1⟩:=ij h.ok h.new v _ ⟨v,hv,rfl⟩;have⟨k1',t1',e1'⟩:=ij h.G' h.Vw v' _ ⟨v',Mn,rfl⟩;refine⟨λn=>if n=v then v' else ρ n,⟨k1,k1',⟨λn q0 q1 q2=>?_,λm n g1 g2 a1 a2 b1 b2 e=>?_⟩,λt t' q _ r=>?_,λn q1 q2 _ q3=>?_,h.dom⟩,t1,t1',?_⟩
 .by_cases e:n=v
  .subst e;simp;exact h.G'.out v' Mn
  .have q1:=q1.resolve_right e;have:=h.rel.live n q0 q1 q2;simp[e];exact⟨jc this.1,this.2⟩
 .by_cases em:m=v<;>by_cases en:n=v
  .rw[em,en]
  .simp[em,en]at e;have:=h.rel.live n g2 (b1.resolve_right en) b2;rw[<-e]at this;exact absurd this.1 Mn
  .simp[em,en]at e;have:=h.rel.live m g1 (a1.resolve_right em) a2;rw[e]at this;exact absurd this.1 Mn
  .simp[em,en]at e;exact h.rel.inj m n g1 g2 (a1.resolve_right em) a2 (b1.resolve_right en) b2 e
 .rw[kX]at r⊢;show sub s'.k t'=sub _ (sub s.k t);rw[r];refine u7 λn hn=>?_;have:n≠v:=λe=>hv<|e▸(h.ok.nZ q hn).1;simp[this]
 .grind
 .show sub s'.k (.var v')=sub _ (sub s.k<|.var v);simp[jt,h.ok.out v hv,h.G'.out v' Mn,pY]
def RB{p:Prop}(h:p:=by
 refine⟨rfl,λp=>?_,λn=>n,λm n _ _ e=>e,?_,?_⟩
 .grind
 .simp[pN,jt,pY]
 .simp[pN,jt,pY]):p:=h
def iw(h:qQ D Λ cH ρ s s')(ha:cB Λ s a)(hb:cB Λ s b)(ha':cB cH s' a')(QC:cB cH s' b')(ra:kX ρ s s' a a')(rb:kX ρ s s' b b'){t t'}(hp:pl->f=f'/\t=t'):
 kY pl (sv a b f t) (sv a' b' f' t') s s' λ_ t _ t'=>∃bJ,uZ D Λ cH ρ s s' bJ t t':=λo o' q q'=>by
 have za:=ra.size;have zb:=rb.size;have hu:∀n,aA n (sub s.k a)\/aA n (sub s.k b)->s.u n/\s.k n=.var n:=λn q=>by
  obtain q|q:=q
  .exact h.ok.nZ ha.use q
  .exact h.ok.nZ hb.use q
 have hd:∀n,aA n (sub s.k a)\/aA n (sub s.k b)->D n:=λn q=>q.elim (ha.dom h.dom n)<|hb.dom h.dom n;have LW:∀n,aA n (sub s'.k a')\/aA n (sub s'.k b')->s'.u n/\s'.k n=.var n:=λn q=>by
  obtain q|q:=q
  .exact h.G'.nZ ha'.use q
  .exact h.G'.nZ QC.use q
 have hK:=λθ(vP:xL θ (sub s.k a) (sub s.k b))(hz:size (sub s.k a)<=48)(i_:size (sub s.k b)<=48)=>(fk h.ok h.new ha hb f t () ⟨λv=>sub θ<|s.k v,s.u⟩<|ja ⟨hz,i_,jc ⟨θ,vP,rfl⟩⟩).1;have hK':=λθ(vP:xL θ (sub s'.k a') (sub s'.k b'))(hz:size (sub s'.k a')<=48)(i_:size (sub s'.k b')<=48)=>(fk h.G' h.Vw ha' QC f t () ⟨λv=>sub θ<|s'.k v,s'.u⟩<|ja ⟨hz,i_,jc ⟨θ,vP,rfl⟩⟩).1
 classical
 obtain⟨β,hβ⟩:∃β:Nat->Nat,∀n,D n->s.u n->s.k n=.var n->β (ρ n)=n:=by
  refine⟨λm=>if e:∃n,D n/\s.u n/\s.k n=.var n/\ρ n=m then e.choose else 0,λn q0 q1 q2=>?_⟩;have e:∃m,D m/\s.u m/\s.k m=.var m/\ρ m=ρ n:=⟨n,q0,q1,q2,rfl⟩;simp only[e,dite_true];have⟨w,x,y,z⟩:=e.choose_spec;exact h.rel.inj _ _ w q0 x y q1 q2 z
 have back:∀(θ:Nat->Ty)u,(∀n,aA n u->s.u n/\s.k n=.var n)->(∀n,aA n u->D n)->sub (λm=>θ<|β m) (sub (pY ρ) u)=sub θ u:=λθ u hu hd=>by
  rw[lE];refine sub_congr u λn hn=>?_;show θ (β<|ρ n)=_;rw[hβ n (hd n hn) (hu n hn).1 (hu n hn).2]
 obtain⟨z,rfl⟩|⟨z1,z2,⟨θ,vP,rfl⟩|⟨nM,rfl⟩⟩:=q<;>obtain⟨z',rfl⟩|⟨z1',z2',⟨Vx,Cd,rfl⟩|⟨alt,rfl⟩⟩:=q'
 .exact RB
 .omega
 .omega
 .omega
 .have kp:=hK θ vP z1 z2;have iO:=hK' Vx Cd z1' z2';have e1:∀n,s.u n->s.k n=.var n->sub (λn=>Vx<|ρ n) (θ n)=Vx (ρ n):=λn _ _=>by
   have e:=Cd.one;rw[ra,rb,lE,lE]at e;exact vP.gen (λn=>Vx<|ρ n) e n
  have e2:∀m,sub (λm=>θ<|β m) (Vx m)=θ (β m):=λm=>by
   refine Cd.gen (λm=>θ<|β m) ?_ m;rw[ra,rb,back θ _ (λn q=>hu n<|jc q)<|λn q=>hd n<|jc q,back θ _ (λn q=>hu n<|ja q)<|λn q=>hd n<|ja q,vP.one]
  have lv:∀n x,s.u n->s.k n=.var n->aA x (θ n)->(s.u x/\s.k x=.var x)/\θ x=.var x:=λn x q1 q2 q3=>by
   refine⟨?_,vP.fix q3⟩;by_cases e:aA n (sub s.k a)\/aA n (sub s.k b)
   .exact hu x (vP.rng n x e q3)
   .rw[vP.out n (λq=>e<|jc q)<|λq=>e<|ja q]at q3;simp[aA]at q3;subst q3;exact⟨q1,q2⟩
  have ld:∀n x,D n->aA x (θ n)->D x:=λn x q1 q3=>by
   by_cases e:aA n (sub s.k a)\/aA n (sub s.k b)
   .exact hd x (vP.rng n x e q3)
   .rw[vP.out n (λq=>e<|jc q)<|λq=>e<|ja q]at q3;simp[aA]at q3;subst q3;exact q1
  have e3:∀x,D x->s.u x->s.k x=.var x->θ x=.var x->∃y,Vx (ρ x)=.var y:=λx q0 q1 q2 q3=>by
   have:=e2<|ρ x;rw[hβ x q0 q1 q2,q3]at this
   cases e:Vx (ρ x)with
   |var y=>exact⟨y,rfl⟩|aK c l=>rw[e]at this;simp[jt]at this
  have red:∀n,s.u n->sub θ (s.k n)=.var n->s.k n=.var n/\θ n=.var n:=λn q1 q2=>by
   cases e:s.k n with
   |var m=>
    rw[e,jt]at q2;have hm:=h.ok.idem n m (by rw[e];simp[aA]);have hum:=h.ok.use n m q1 (by rw[e];simp[aA]);have:=(lv m n hum hm (by rw[q2];simp[aA])).1.2;rw[e]at this;injection this with this;subst this;exact⟨rfl,q2⟩
   |aK c l=>rw[e]at q2;simp[jt]at q2
  refine⟨λx=>match Vx (ρ x)with|.var y=>y|.aK _ _=>0,⟨kp,iO,⟨λn q0 q1 q2=>?_,λm n g1 g2 a1 a2 b1 b2 e=>?_⟩,λt t' q qd r=>?_,λn q1 q2 qd q3=>?_,h.dom⟩⟩
  .have q2:=q2;have hk:=red n q1 q2;have⟨y,hy⟩:=e3 n q0 q1 hk.1 hk.2;simp only[hy];have⟨l1,l2⟩:=h.rel.live n q0 q1 hk.1;have u1:s'.u y:=by
    by_cases e:aA (ρ n) (sub s'.k a')\/aA (ρ n) (sub s'.k b')
    .exact(LW y<|Cd.rng (ρ n) y e (by rw[hy];simp[aA])).1
    .rw[Cd.out _ (λq=>e<|jc q)<|λq=>e<|ja q]at hy;injection hy with hy;subst hy;exact l1
   refine⟨u1,?_⟩;show sub Vx (s'.k y)=_;have ky:s'.k y=.var y:=by
    by_cases e:aA (ρ n) (sub s'.k a')\/aA (ρ n) (sub s'.k b')
    .exact(LW y<|Cd.rng (ρ n) y e (by rw[hy];simp[aA])).2
    .rw[Cd.out _ (λq=>e<|jc q)<|λq=>e<|ja q]at hy;injection hy with hy;subst hy;exact l2
   rw[ky,jt];exact Cd.fix (v:=ρ n) (by rw[hy];simp[aA])
  .grind
  .have hN:∀(θ k:Nat->Ty)t,sub (λv=>sub θ<|k v) t=sub θ (sub k t):=λθ k t=>(sub_sub _ _ t).symm;show sub (λv=>sub Vx<|s'.k v) t'=sub _ (sub (λv=>sub θ<|s.k v) t);rw[kX]at r;rw[hN,hN,r,lE,sub_sub (pY _) θ];refine sub_congr _ λn hn=>?_;have⟨q1,q2⟩:=h.ok.nZ q hn;show Vx (ρ n)=_;rw[<-e1 n q1 q2];refine sub_congr _ λx hx=>?_;have⟨⟨x1,x2⟩,x3⟩:=lv n x q1 q2 hx;have⟨y,hy⟩:=e3 x (ld n x (qd n hn) hx) x1 x2 x3;simp[hy]
  .have hx:=vP.out n (λq=>q3<|ha.loc n q)<|λq=>q3<|hb.loc n q;have:Vx (ρ n)=.var (ρ n):=by
    have adZ:∀u u':Ty,kX ρ s s' u u'->cB Λ s u->¬aA (ρ n) (sub s'.k u'):=λu u' r hu q=>by
     rw[kX]at r;rw[r]at q;have⟨m,c1,c2⟩:=(bR _).1 q;simp[pY,aA]at c2;have⟨m1,m2⟩:=h.ok.nZ hu.use c1;have:=h.rel.inj m n (hu.dom h.dom m c1) qd m1 m2 q1 q2 c2;subst this;exact q3<|hu.loc m c1
    exact Cd.out _ (adZ a a' ra ha)<|adZ b b' rb hb
   simp[this]
 .exact(alt (λm=>θ<|β m)<|by rw[ra,rb,back θ _ (λn q=>hu n<|jc q)<|λn q=>hd n<|jc q,back θ _ (λn q=>hu n<|ja q)<|λn q=>hd n<|ja q,vP.one]).elim
 .omega
 .exact(nM (λn=>Vx<|ρ n) (by have e:=Cd.one;rw[ra,rb,lE,lE]at e;exact e)).elim
 .refine⟨rfl,λp=>?_,ρ,λm n q1 q2 e=>?_,ra,rb⟩
  .grind
  .grind
end
end In
namespace In
section
variable {s s' s1 Cc:St}
def Dz(h:qQ D Λ cH ρ s s')π{l l'}{R R':Rn}(hl:l'=l.map π)(hi:∀v,v∈l->∀w,w∈l->π v=π w->v=w)(hR:∀v,v∈l->(R v=none↔R' (π v)=none)):
 kY pl (oE l R) (oE l' R') s s' λr t r' t'=>∃bJ,uZ D Λ cH ρ s s' bJ t t'/\Ck l R r s.u t.u/\Ck l' R' r' s'.u t'.u/\t.k=s.k/\t'.k=s'.k/\(∀n,s.u n->bJ n=ρ n)/\∀v,v∈l->R v=none->∃n,r v=some n/\r' (π v)=some (bJ n):=λo o' q q'=>by
 obtain⟨r,u,hd,rfl⟩:=q;obtain⟨r',u',UF,rfl⟩:=q';have⟨k1,d1,e1⟩:=tN h.ok h.new l R r _ ⟨r,u,hd,rfl⟩;have⟨k1',d1',e1'⟩:=tN h.G' h.Vw l' R' r' _ ⟨r',u',UF,rfl⟩
 classical
 have ru:∀v n,R v=none->r v=some n->v∈l:=λv n q1 q2=>by
  by_cases e:v∈l
  .exact e
  .rw[hd.out v e,q1]at q2;cases q2
 obtain⟨bJ,a1,a2⟩:∃bJ:Nat->Nat,(∀n,s.u n->bJ n=ρ n)/\∀v n,v∈l->R v=none->r v=some n->r' (π v)=some (bJ n):=by
  refine⟨λn=>if e:∃v,R v=none/\r v=some n then(r'<|π e.choose).getD 0 else ρ n,λn q=>?_,λv n q1 q2 q3=>?_⟩
  .have:¬∃v,R v=none/\r v=some n:=λ⟨v,x,y⟩=>hd.new v n x y q;simp[this]
  .have e:∃v,R v=none/\r v=some n:=⟨v,q2,q3⟩;simp only[e,dite_true];have⟨x,y⟩:=e.choose_spec;have:e.choose=v:=hd.one _ _ n x y q3;rw[this];have hm:π v∈l':=xC
   cases e2:r' (π v)with
   |none=>exact absurd e2 (UF.all _ hm)|some m=>rfl
 have nw:∀n,u n->¬s.u n->∃v,v∈l/\R v=none/\r v=some n:=λn q1 q2=>by
  have⟨v,x,y⟩:=((hd.use n).1 q1).resolve_left q2;exact⟨v,ru v n x y,x,y⟩
 have nw':∀v n,v∈l->R v=none->r v=some n->¬s'.u (bJ n)/\u' (bJ n):=λv n q1 q2 q3=>by
  have e:=a2 v n q1 q2 q3;have e0:=(hR v q1).1 q2;exact⟨UF.new _ _ e0 e,(UF.use _).2<|ja ⟨_,e0,e⟩⟩
 refine⟨bJ,⟨k1,k1',⟨λn q0 q1 q2=>?_,λm n g1 g2 p1 p2 q1 q2 e=>?_⟩,λt t' q _ w=>?_,λn q _ _ _=>a1 n q,h.dom⟩,hd,UF,rfl,rfl,a1,λv q1 q2=>?_⟩
 .by_cases e:s.u n
  .rw[a1 n e];have:=h.rel.live n q0 e q2;exact⟨(UF.use _).2<|jc this.1,this.2⟩
  .have⟨v,x,y,z⟩:=nw n q1 e;have⟨g1,g2⟩:=nw' v n x y z;exact⟨g2,h.G'.out _ g1⟩
 .by_cases em:s.u m<;>by_cases en:s.u n
  .rw[a1 m em,a1 n en]at e;exact h.rel.inj m n g1 g2 em p2 en q2 e
  .have⟨v,x,y,z⟩:=nw n q1 en;have:=(nw' v n x y z).1;rw[<-e,a1 m em]at this;exact absurd (h.rel.live m g1 em p2).1 this
  .have⟨v,x,y,z⟩:=nw m p1 em;have:=(nw' v m x y z).1;rw[e,a1 n en]at this;exact absurd (h.rel.live n g2 en q2).1 this
  .have⟨v,x,y,z⟩:=nw m p1 em;have⟨v2,x2,y2,z2⟩:=nw n q1 en;have b1:=a2 v m x y z;have b2:=a2 v2 n x2 y2 z2;rw[e]at b1;have:=UF.one _ _ _ ((hR v x).1 y) b1 b2;have:=hi v x v2 x2 this;subst this;rw[z]at z2;injection z2
 .rw[kX]at w⊢;show sub s'.k t'=sub _ (sub s.k t);rw[w];exact u7 λn hn=>(a1 n (h.ok.nZ q hn).1).symm
 .cases e:r v with
  |none=>exact absurd e (hd.all v q1)|some n=>grind
def RnR ρ s s'(R R':Rn):=∀v,(R v=none/\R' v=none)\/∃n n',R v=some n/\R' v=some n'/\kX ρ s s' (.var n) (.var n')
def RnR.zero:RnR ρ s s' Cj Cj:=λ_=>jc ⟨rfl,rfl⟩
def RnR.eO{R R':Rn}(h:RnR ρ s s' R R')(hi:iE Λ s R)(k:uZ D Λ cH ρ s s' bJ s1 Cc):RnR bJ s1 Cc R R':=λv=>by
 obtain q|⟨n,n',q1,q2,q3⟩:=h v
 .exact jc q
 .exact ja ⟨n,n',q1,q2,k.ty _ _ (λm hm=>by simp[aA]at hm;subst hm;exact hi.use v _ q1) (λm hm=>k.dom m<|hi.loc v n m q1<|by simpa[jt]using hm) q3⟩
theorem kX.via{R R'}(h:RnR ρ s s' R R'){t}(ht:∀v,aA v t->R v≠none):kX ρ s s' (sub (via R) t) (sub (via R') t):=by
 rw[kX];rw[sub_sub,sub_sub,sub_sub];refine sub_congr t λv hv=>?_;obtain q|⟨n,n',q1,q2,q3⟩:=h v
 .grind
 .simp only[In.via,q1,q2];exact q3
def u9(h:qQ D Λ cH ρ s s'){R R':Rn}(hR:RnR ρ s s' R R')(hi:iE Λ s R)(oj:iE cH s' R')t:
 kY pl (oo t R) (oo t R') s s' λq u q' u'=>∃bJ,uZ D Λ cH ρ s s' bJ u u'/\cB Λ u q.1/\cB cH u' q'.1/\kX bJ u u' q.1 q'.1/\iE Λ u q.2/\iE cH u' q'.2/\RnR bJ u u' q.2 q'.2:=by
 have hz:∀v,v∈vars [] t->(R v=none↔R' v=none):=λv _=>by
  obtain⟨q1,q2⟩|⟨n,n',q1,q2,q3⟩:=hR v
  .simp[q1,q2]
  .simp[q1,q2]
 refine(Dz h (λv=>v) ag (λv _ w _ e=>e) hz).and λr u r' u'⟨bJ,st,d,d',e,e',_,a⟩=>?_;have i1:=hi.draw h.ok h.new st.kp d e;have i2:=oj.draw h.G' h.Vw st.iO d' e';have hr:RnR bJ u u' r r':=λv=>by
  obtain⟨q1,q2⟩|⟨n,n',q1,q2,q3⟩:=hR.eO hi st v
  .by_cases hv:v∈vars [] t
   .have⟨n,x,y⟩:=a v hv q1;refine ja ⟨n,_,x,y,?_⟩;have h1:=d.new v n q1 x;have h2:=d'.new v _ q2 y;simp[kX,jt,e,e',h.ok.out n h1,h.G'.out _ h2,pY]
   .exact jc ⟨by rw[d.out v hv,q1],by rw[d'.out v hv,q2]⟩
  .exact ja ⟨n,n',d.eR v n q1,d'.eR v n' q2,q3⟩
 have Tz:∀v,aA v t->r v≠none:=λv hv=>d.all v<|aC.2 hv;have ajS:∀v,aA v t->r' v≠none:=λv hv=>d'.all v<|aC.2 hv;exact .ret ⟨bJ,st,i1.ty Tz,i2.ty ajS,.via hr Tz,i1,i2,hr⟩
def At{c:LO}(hc:nQ Λ s c){v}(hv:v∈c.any):s.u v/\s.k v=.var v:=⟨hc.use v<|hc.sub v hv,(hc.fix v hv).1⟩
def any_map(h:qQ D Λ cH ρ s s'){c:LO}(hc:nQ Λ s c)(hd:∀v,v∈c.any->D v)(hn:aA n (sub s.k c.of))(hm:ρ n∈c.any.map ρ):n∈c.any:=by
 have⟨m,x,y⟩:=List.mem_map.1 hm;have⟨l1,l2⟩:=h.ok.nZ hc.use hn;have⟨g1,g2⟩:=At hc x;have:=h.rel.inj m n (hd m x) ((hc.loc n hn).elim (hd n)<|h.dom n) g1 g2 l1 l2 y;subst this;exact x
def aaI(h:qQ D Λ cH ρ s s'){Γ dL}(cA:bB Λ s Γ)(gL:bB cH s' dL)(hr:gK D ρ s s' Γ dL)x{t t':Nat}(hp:pl->f=f'/\t=t'):
 kY pl (qL Γ x f t) (qL dL x f' t') s s' λq u q' u'=>∃bJ,uZ D Λ cH ρ s s' bJ u u'/\cB Λ u q/\cB cH u' q'/\kX bJ u u' q q':=by
 intro o o' q q';have K:=F_ h.ok h.new cA x f t;have K':=F_ h.G' h.Vw gL x f' t';obtain⟨q1,q2⟩|⟨c,c',q1,q2,q3⟩:=hr x
 .rw[qL]at q;rw[q1]at q;exact q.elim
 .have hc:=cA x c q1;have hc':=gL x c' q2;have z:=q3.of.size;have w:=q;have w':=q';rw[qL]at q q';rw[q1]at q;rw[q2]at q';obtain⟨b1,rfl⟩|⟨b1,r,u,b2,rfl⟩:=q<;>obtain⟨b1',rfl⟩|⟨b1',r',u',b2',rfl⟩:=q'
  .exact RB
  .omega
  .omega
  .have⟨bJ,st,d,d',e,e',a0,a⟩:=Dz (pl:=pl) h ρ (R:=Cj) (R':=Cj) q3.any (λv hv w hw e=>by
    have⟨g1,g2⟩:=At hc hv;have⟨g3,g4⟩:=At hc hw
    exact h.rel.inj v w (q3.dom v hv) (q3.dom w hw) g1 g2 g3 g4 e) (λv _=>by simp[Cj]) _ _ b2 b2'
   refine⟨bJ,st,(K _ _ w).2,(K' _ _ w').2,?_⟩;rw[kX];have key:∀T,(∀n,aA n T->sub s'.k (via r'<|ρ n)=sub (pY bJ) (sub s.k<|via r n))->sub s'.k (sub (via r')<|sub (pY ρ) T)=sub (pY bJ) (sub s.k<|sub (via r) T):=λT hT=>by
    rw[lE,sub_sub,sub_sub,sub_sub];exact sub_congr T λn hn=>by rw[hT n hn,sub_sub]
   rw[q3.of,e,e'];refine key _ λn hn=>?_;have⟨l1,l2⟩:=h.ok.nZ hc.use hn;by_cases hm:n∈c.any
   .have⟨m,x1,x2⟩:=a n hm rfl;have g1:=d.new n m rfl x1;have g2:=d'.new (ρ n) _ rfl x2;simp[via,x1,x2,jt,h.ok.out m g1,h.G'.out _ g2,pY]
   .have y1:r n=none:=d.out n hm;have y2:r' (ρ n)=none:=d'.out (ρ n) λq=>hm (any_map h hc q3.dom hn (by rw[<-q3.any];exact q));simp[via,y1,y2,jt,l2,(h.rel.live n (h.dom n<|(hc.loc n hn).resolve_left hm) l1 l2).2,pY,a0 n l1]
end
def N9 pl(p p':PM):=∀(g g':Env)(s s':St)(D Λ cH:Nat->Prop)(ρ:Nat->Nat),qQ D Λ cH ρ s s'->bB Λ s g->bB cH s' g'->gK D ρ s s' g g'->
 kY pl (p g) (p' g') s s' λq u q' u'=>∃bJ,uZ D Λ cH ρ s s' bJ u u'/\(cB Λ u q.1/\cB cH u' q'.1/\kX bJ u u' q.1 q'.1)/\bB Λ u q.2/\bB cH u' q'.2/\gK D bJ u u' q.2 q'.2
def xM pl(p p':EM):=∀(Γ dL:Env)(s s':St)(D Λ cH:Nat->Prop)(ρ:Nat->Nat),qQ D Λ cH ρ s s'->bB Λ s Γ->bB cH s' dL->gK D ρ s s' Γ dL->
 kY pl (p Γ) (p' dL) s s' λq u q' u'=>∃bJ,uZ D Λ cH ρ s s' bJ u u'/\cB Λ u q/\cB cH u' q'/\kX bJ u u' q q'
def N_{pl:Prop}:∀{ps Gb:List PM},dE (N9 pl) ps Gb->∀i,N9 pl (cK ps i)<|cK Gb i
 |_,_,.nil,i=>by unfold cK;simp;intro _ _ _ _ _ _ _ _ _ _ _ _;exact .no|_,_,.cons h _,0=>by unfold cK;simpa using h|_,_,.cons _ h,i+1=>by have:=N_ h i;unfold cK at this⊢;simpa using this
def Gc{pl:Prop}:∀{ps Gb:List EM},dE (xM pl) ps Gb->∀i,xM pl (cK ps i)<|cK Gb i
 |_,_,.nil,i=>by unfold cK;simp;intro _ _ _ _ _ _ _ _ _ _ _ _;exact .no|_,_,.cons h _,0=>by unfold cK;simpa using h|_,_,.cons _ h,i+1=>by have:=Gc h i;unfold cK at this⊢;simpa using this
structure NdE pl x x':Prop where
 es:es x=es x'
 pl:pl->x=x'
def NdE.sp{x x'}(h:NdE pl x x')(p:pl):gW x=gW x'/\ue x=ue x':=by rw[h.pl p];exact⟨rfl,rfl⟩
structure Kx pl L L':Prop where
 es:fZ L=fZ L'
 pl:pl->L=L'
def Kx.cons{pl:Prop}{x x'}{L L'}(h:Kx pl (x::L) (x'::L')):NdE pl x x'/\Kx pl L L':=by
 have:=h.es;simp only[fZ,List.cons.injEq]at this;exact⟨⟨this.1,λp=>by have:=h.pl p;injection this⟩,⟨this.2,λp=>by have:=h.pl p;injection this⟩⟩
def Kx.nth{pl:Prop}:∀{L L':List Nd},Kx pl L L'->∀i,NdE pl (iA L i)<|iA L' i
 |[],[],_,i=>⟨rfl,λ_=>rfl⟩|[],_::_,h,_=>by have:=h.es;simp[fZ]at this|_::_,[],h,_=>by have:=h.es;simp[fZ]at this|x::L,x'::L',h,0=>by have:=h.cons.1;simpa[iA]using this|x::L,x'::L',h,i+1=>by have:=Kx.nth h.cons.2 i;simpa[iA]using this
def DA{pl:Prop}:∀(tk:List Ty){L L':List Nd}{ps Gb:List PM},Kx pl L L'->dE (N9 pl) ps Gb->∀(g g':Env)(R R':Rn)(s s':St)(D Λ cH:Nat->Prop)(ρ:Nat->Nat),qQ D Λ cH ρ s s'->bB Λ s g->bB cH s' g'->gK D ρ s s' g g'->iE Λ s R->iE cH s' R'->RnR ρ s s' R R'->
 kY pl (fH tk L ps g R) (fH tk L' Gb g' R') s s' λq u q' u'=>∃bJ,uZ D Λ cH ρ s s' bJ u u'/\(bB Λ u q.1/\bB cH u' q'.1/\gK D bJ u u' q.1 q'.1)/\iE Λ u q.2/\iE cH u' q'.2/\RnR bJ u u' q.2 q'.2
 |a::tk,x::L,x'::L',p::ps,p'::Gb,hL,.cons hp hps,g,g',R,R',s,s',D,Λ,cH,ρ,h,hg,CF,rg,hR,hR',rR=>by
  rw[fH];refine(hp g g' s s' D Λ cH ρ h hg CF rg).and λq u q' u'⟨bJ,dQ,⟨a1,a2,a3⟩,b1,b2,b3⟩=>?_;refine(u9 dQ.both (rR.eO hR dQ) (hR.run dQ.kp.run) (hR'.run dQ.iO.run) a).and λi v i' v'⟨ol,gF,c1,c2,c3,d1,d2,d3⟩=>?_;refine(iw gF.both (a1.run gF.kp.run) c1 (a2.run gF.iO.run) c2 (gF.pC a1 a3) c3<|λp=>hL.cons.1.sp p).and λ_ w _ w'⟨ρ3,pU⟩=>?_;have Gd:=gF.trans pU;refine(DA tk hL.cons.2 hps q.2 q'.2 i.2 i'.2 w w' D Λ cH ρ3 pU.both (b1.run Gd.kp.run) (b2.run Gd.iO.run) (b3.eO b1 Gd) (d1.run pU.kp.run) (d2.run pU.iO.run)<|d3.eO d1 pU).imp λ_ y _ y'⟨DB,Ky,r4⟩=>?_;exact⟨DB,(dQ.trans Gd).trans Ky,r4⟩
 |[],_,_,_,_,_,_,g,g',R,R',s,s',D,Λ,cH,ρ,h,hg,CF,rg,hR,hR',rR=>by simp only[fH];exact .ret ⟨ρ,h.refl,⟨hg,CF,rg⟩,hR,hR',rR⟩|_::_,[],[],_,_,_,_,g,g',R,R',s,s',D,Λ,cH,ρ,h,hg,CF,rg,hR,hR',rR=>by simp only[fH];exact .ret ⟨ρ,h.refl,⟨hg,CF,rg⟩,hR,hR',rR⟩|_::_,[],_::_,_,_,hL,_,_,_,_,_,_,_,_,_,_,_,_,_,_,_,_,_,_=>by have:=hL.es;simp[fZ]at this|_::_,_::_,[],_,_,hL,_,_,_,_,_,_,_,_,_,_,_,_,_,_,_,_,_,_=>by have:=hL.es;simp[fZ]at this|_::_,_::_,_::_,[],[],_,.nil,g,g',R,R',s,s',D,Λ,cH,ρ,h,hg,CF,rg,hR,hR',rR=>by simp only[fH];exact .ret ⟨ρ,h.refl,⟨hg,CF,rg⟩,hR,hR',rR⟩
def Gf{p:Prop}(h:p:=by
 exact .ret ⟨ρ,h.refl,⟨bL,bL,.aK _⟩,hg,CF,rg⟩):p:=h
def Kz mk k x{ps Gb}(hL:Kx pl L L')(hp:dE (N9 pl) ps Gb):N9 pl (qH mk k x L ps) (qH mk k x L' Gb):=by
 intro g g' s s' D Λ cH ρ h hg CF rg;rw[qH];refine kY.ite (λ_=>?_) λ_=>?_
 .exact(mG h).and λv u v' u'⟨bJ,st,a⟩=>.ret ⟨bJ,st,a,hg.run st.kp.run,CF.run st.iO.run,rg.eO hg st⟩
 refine kY.ite (λ_=>?_) λ_=>?_
 .exact(mG h).and λv u v' u'⟨bJ,st,a⟩=>.ret ⟨bJ,st,a,(hg.run st.kp.run).set _ a.1.mono,(CF.run st.iO.run).set _ a.2.1.mono,(rg.eO hg st).set _ a.2.2.mono⟩
 refine kY.ite (λ_=>?_) λ_=>?_
 .exact Gf
 refine kY.ite (λ_=>?_) λ_=>?_
 .exact Gf
 refine kY.ite (λ_=>?_) λ_=>?_
 .exact Gf
 refine kY.ite (λ_=>?_) λ_=>?_
 .refine(N_ hp 0 g g' s s' D Λ cH ρ h hg CF rg).and λa u a' u'⟨bJ,dQ,⟨a1,a2,a3⟩,b1,b2,b3⟩=>?_;refine(N_ hp 1 _ _ u u' D Λ cH bJ dQ.both b1 b2 b3).and λb v b' v'⟨ol,gF,⟨c1,c2,c3⟩,d⟩=>?_;exact .ret ⟨ol,dQ.trans gF,⟨dO (a1.run gF.kp.run) c1,dO (a2.run gF.iO.run) c2,.two _ (gF.pC a1 a3) c3⟩,d⟩
 cases mk x with
 |none=>exact .no|some p=>
  refine(DA p.1 hL hp g g' Cj Cj s s' D Λ cH ρ h hg CF rg (.zero _ _) (.zero _ _) .zero).and λq u q' u'⟨bJ,dQ,⟨a1,a2,a3⟩,b1,b2,b3⟩=>?_;refine(u9 dQ.both b3 b1 b2 p.2).and λi v i' v'⟨ol,gF,c1,c2,c3,_⟩=>?_;exact .ret ⟨ol,dQ.trans gF,⟨c1,c2,c3⟩,a1.run gF.kp.run,a2.run gF.iO.run,a3.eO a1 gF⟩
def RC{k' n' t t' a a':Nat}{s'}(h:es (.mk k s n L f t a)=es (.mk k' s' n' L' f' t' a')):k=k'/\((k≠3/\k≠15)->s=s')/\fZ L=fZ L':=by
 simp only[es,Nd.mk.injEq]at h;obtain⟨rfl,h2,-,h4,-⟩:=h;refine⟨rfl,λq=>?_,h4⟩;rw[if_neg ae,if_neg ae]at h2;exact h2
def Vy mk x y L ps(h:k=3\/k=15):qH mk k x L ps=qH mk k y L ps:=by
 obtain rfl|rfl:=h<;>(funext g;simp[qH])
def Vz mk x y L f t ps(h:k=3\/k=15):kh mk k x L f t ps=kh mk k y L f t ps:=by
 obtain rfl|rfl:=h<;>(funext g;simp[kh])
mutual
def KG{pl:Prop}(mk:Mks):∀x x',NdE pl x x'->N9 pl (du mk x) (du mk x')
 |.mk k s n L f t a,.mk k' s' n' L' f' t' a',h=>by
  obtain⟨rfl,h2,h3⟩:=RC h.es;have hL:Kx pl L L':=⟨h3,λp=>by have:=h.pl p;injection this⟩;unfold du;by_cases e:k=3\/k=15
  .rw[Vy mk s' s L' _ e];exact Kz mk k s hL<|u_ mk L L' hL
  .rw[<-h2 ⟨λq=>e<|jc q,λq=>e<|ja q⟩];exact Kz mk k s hL<|u_ mk L L' hL
def u_{pl:Prop}(mk:Mks):∀L L',Kx pl L L'->dE (N9 pl) (iX mk L) (iX mk L')
 |[],[],_=>.nil|[],_::_,h=>by have:=h.es;simp[fZ]at this|_::_,[],h=>by have:=h.es;simp[fZ]at this|x::L,x'::L',h=>.cons (KG mk x x' h.cons.1)<|u_ mk L L' h.cons.2
end
end In
namespace In
def DC{pl:Prop}(mk:Mks):∀{L L':List Nd}{ps Gb:List EM},Kx pl L L'->dE (xM pl) ps Gb->∀(Γ dL:Env)(t t' r r':Ty)(s s':St)(D Λ cH:Nat->Prop)(ρ:Nat->Nat),qQ D Λ cH ρ s s'->bB Λ s Γ->bB cH s' dL->gK D ρ s s' Γ dL->cB Λ s t->cB cH s' t'->kX ρ s s' t t'->cB Λ s r->cB cH s' r'->kX ρ s s' r r'->
 kY pl (iK mk Γ t r L ps) (iK mk dL t' r' L' Gb) s s' λ_ u _ u'=>∃bJ,uZ D Λ cH ρ s s' bJ u u'
 |p::e::L,p'::e'::L',q1::pe::ps,q2::pe'::Gb,hL,.cons _<|.cons hpe hps,Γ,dL,t,t',r,r',s,s',D,Λ,cH,ρ,h,cA,gL,so,a1,a2,a3,b1,b2,b3=>by
  have⟨hp,hL1⟩:=hL.cons;have⟨he,hL2⟩:=hL1.cons;rw[iK];refine(KG mk p p' hp _ _ s s' D Λ cH ρ h (.none _ _) (.none _ _) .none).and λq u q' u'⟨bJ,dQ,⟨c1,c2,c3⟩,d1,d2,d3⟩=>?_;refine(iw dQ.both (a1.run dQ.kp.run) c1 (a2.run dQ.iO.run) c2 (dQ.pC a1 a3) c3<|λp=>hp.sp p).and λ_ v _ v'⟨ol,gF⟩=>?_;have nE:=dQ.trans gF;refine(hpe _ _ v v' D Λ cH ol gF.both ((d1.run gF.kp.run).over<|cA.run nE.kp.run) ((d2.run gF.iO.run).over<|gL.run nE.iO.run)<|(d3.eO d1 gF).over<|so.eO cA nE).and λx w x' w'⟨ρ3,pU,e1,e2,e3⟩=>?_;have Gg:=nE.trans pU;refine(iw pU.both (b1.run Gg.kp.run) e1 (b2.run Gg.iO.run) e2 (Gg.pC b1 b3) e3<|λp=>he.sp p).and λ_ y _ y'⟨DB,Ky⟩=>?_;have Ce:=Gg.trans Ky;exact(DC mk hL2 hps Γ dL t t' r r' y y' D Λ cH DB Ky.both (cA.run Ce.kp.run) (gL.run Ce.iO.run) (so.eO cA Ce) (a1.run Ce.kp.run) (a2.run Ce.iO.run) (Ce.pC a1 a3) (b1.run Ce.kp.run) (b2.run Ce.iO.run)<|Ce.pC b1 b3).imp λ_ _ _ _⟨ρ5,st5⟩=>⟨ρ5,Ce.trans st5⟩
 |[],[],_,_,_,_,_,_,_,_,_,_,s,s',D,Λ,cH,ρ,h,_,_,_,_,_,_,_,_,_=>qBj|[_],[_],_,_,_,_,_,_,_,_,_,_,s,s',D,Λ,cH,ρ,h,_,_,_,_,_,_,_,_,_=>qBj|_::_::_,_::_::_,[],[],_,.nil,_,_,_,_,_,_,s,s',D,Λ,cH,ρ,h,_,_,_,_,_,_,_,_,_=>qBj|_::_::_,_::_::_,[_],[_],_,.cons _ .nil,_,_,_,_,_,_,s,s',D,Λ,cH,ρ,h,_,_,_,_,_,_,_,_,_=>qBj|[],_::_,_,_,hL,_,_,_,_,_,_,_,_,_,_,_,_,_,_,_,_,_,_,_,_,_,_,_=>by have:=hL.es;simp[fZ]at this|_::_,[],_,_,hL,_,_,_,_,_,_,_,_,_,_,_,_,_,_,_,_,_,_,_,_,_,_,_=>by have:=hL.es;simp[fZ]at this|[_],_::_::_,_,_,hL,_,_,_,_,_,_,_,_,_,_,_,_,_,_,_,_,_,_,_,_,_,_,_=>by have:=hL.es;simp[fZ]at this|_::_::_,[_],_,_,hL,_,_,_,_,_,_,_,_,_,_,_,_,_,_,_,_,_,_,_,_,_,_,_=>by have:=hL.es;simp[fZ]at this
def Au rc x{e:Nd}(he:NdE pl e e'){pe pe':EM}(hp:xM pl pe pe'):xM pl (bM rc x e pe) (bM rc x e' pe'):=by
 intro Γ dL s s' D Λ cH ρ h cA gL so;rw[bM];refine kY.ite (λ_=>?_) λ_=>hp Γ dL s s' D Λ cH ρ h cA gL so;refine(mG h).and λv u v' u'⟨bJ,dQ,a1,a2,a3⟩=>?_;refine(hp _ _ u u' D Λ cH bJ dQ.both ((cA.run dQ.kp.run).set _ a1.mono) ((gL.run dQ.iO.run).set _ a2.mono)<|(so.eO cA dQ).set _ a3.mono).and λt w t' w'⟨ol,gF,b1,b2,b3⟩=>?_;refine(iw gF.both (a1.run gF.kp.run) b1 (a2.run gF.iO.run) b2 (gF.pC a1 a3) b3<|λp=>he.sp p).and λ_ y _ y'⟨ρ3,pU⟩=>?_;exact .ret ⟨ρ3,(dQ.trans gF).trans pU,b1.run pU.kp.run,b2.run pU.iO.run,pU.pC b1 b3⟩
mutual
def vh:∀x,sw (es x)=sw x
 |.mk k s n L f t a=>by
  simp only[es,sw,RE L,RG L,RH L,aaJ L]
def RE:∀L,Vq (fZ L)=Vq L
 |[]=>rfl|x::l=>by simp only[fZ,Vq,vh x,RE l]
def RG:∀L,Vl (fZ L)=Vl L
 |[]=>rfl|x::l=>by simp only[fZ,Vl,vh x]
def RH:∀L,N7 (fZ L)=N7 L
 |[]=>rfl|x::l=>by simp only[fZ,N7,RG l]
def aaJ:∀L,isC (fZ L)=isC L
 |[]=>rfl|x::l=>by simp only[fZ,isC,aho x]
def aho:∀x,isM (es x)=isM x
 |.mk k s n L f t a=>by simp only[es,isM,RH L,aaJ L]
end
section
variable {s s':St}
def VA(h:qQ D Λ cH ρ s s'){Γ dL:Env}(cA:bB Λ s Γ)(so:gK D ρ s s' Γ dL){v}(d:D v)(u:s.u v)(e:s.k v=.var v):vM Γ s.k v↔vM dL s'.k (ρ v):=by
 constructor
 .rintro⟨y,c,q1,q2,q3⟩;obtain⟨z,_⟩|⟨d,c',z1,z2,z3⟩:=so y
  .rw[q1]at z;cases z
  .rw[q1]at z1;injection z1 with z1;subst z1;refine⟨y,c',z2,?_,λq=>q3 ?_⟩
   .rw[z3.of];exact(bR _).2 ⟨v,q2,by simp[pY,aA]⟩
   .rw[z3.any]at q;exact any_map h (cA y c q1) z3.dom q2 q
 .rintro⟨y,c',q1,q2,q3⟩;obtain⟨_,z⟩|⟨c,d,z1,z2,z3⟩:=so y
  .rw[q1]at z;cases z
  .rw[q1]at z2;injection z2 with z2;subst z2;rw[z3.of]at q2;have⟨m,c1,c2⟩:=(bR _).1 q2;simp[pY,aA]at c2;have⟨l1,l2⟩:=h.ok.nZ (cA y c z1).use c1;have:=h.rel.inj m v (((cA y c z1).loc m c1).elim (z3.dom m)<|h.dom m) d l1 l2 u e c2;subst this;exact⟨y,c,z1,c1,λq=>q3 (by rw[z3.any];exact List.mem_map.2 ⟨m,q,rfl⟩)⟩
def bB.del{Γ:Env}(h:bB Λ s Γ)x:bB Λ s (lH Γ x):=by grind[bB,lH]
def RI(h:qQ D Λ cH ρ s s'){Γ dL:Env}(cA:bB Λ s Γ)(so:gK D ρ s s' Γ dL)(a1:cB Λ s t)(a3:kX ρ s s' t t')v:Kw D ρ s s' (f_ Γ s.k t v) (f_ dL s'.k t' v):=by
 refine⟨?_,?_,λn hn=>a1.dom h.dom n (Ga hn).1⟩
 .show sub s'.k (sub s'.k t')=sub (pY ρ) (sub s.k<|sub s.k t);rw[h.ok.rf,h.G'.rf];exact a3
 .unfold f_
  cases v with
  |false=>simp|true=>
   simp only[if_true,yA];unfold kX at a3;have hR:Ren ρ (vars []<|sub s.k t):=λm hm n hn e=>by
    have⟨x1,x2⟩:=h.ok.nZ a1.use<|aC.1 hm;have⟨y1,y2⟩:=h.ok.nZ a1.use<|aC.1 hn;exact h.rel.inj m n (a1.dom h.dom m<|aC.1 hm) (a1.dom h.dom n<|aC.1 hn) x1 x2 y1 y2 e
   have hv:=mq (ρ:=ρ) (sub s.k t) (a:=[]) hR;simp only[jk]at hv;rw[a3,hv,List.filter_map];congr 1;refine List.filter_congr λn hn=>?_;have⟨x1,x2⟩:=h.ok.nZ a1.use<|aC.1 hn;have:=VA h cA so (a1.dom h.dom n<|aC.1 hn) x1 x2;simp[this]
def uZ.wide{M M'}{bJ}{s1 Cc}(h:uZ D Λ cH ρ s s' bJ s1 Cc)(a:∀n,Λ n->M n)(b:∀n,cH n->M' n)(hD:∀n,M n->D n):uZ D M M' ρ s s' bJ s1 Cc:=
 ⟨⟨h.kp.ok,λn q=>a n<|h.kp.new n q,h.kp.run.wide a⟩,⟨h.iO.ok,λn q=>b n<|h.iO.new n q,h.iO.run.wide b⟩,h.rel,h.ty,λn q1 q2 d q3=>h.any n q1 q2 d λq=>q3<|a n q,hD⟩
def KH rc x{e:Nd}(he:NdE pl e e'){pe pe' pf pf':EM}(hp:xM pl pe pe')(hf:xM pl pf pf'):xM pl (li rc x e pe pf) (li rc x e' pe' pf'):=by
 intro Γ dL s s' D Λ cH ρ h cA gL so;unfold li;have hv:sw e=sw e':=by rw[<-vh e,<-vh e',he.es]
 rw[<-hv];refine(Au rc x he hp Γ dL s s' D Λ cH ρ h cA gL so).and λt u t' u'⟨bJ,dQ,a1,a2,a3⟩=>?_;have ahp:=cA.run dQ.kp.run;have ajT:=gL.run dQ.iO.run;have ahq:=so.eO cA dQ;have⟨hE,hN⟩:=xV dQ.kp.ok dQ.kp.new ahp a1 rc x<|sw e;have⟨hE',hN'⟩:=xV dQ.iO.ok dQ.iO.new ajT a2 rc x<|sw e;have hS:Kw D bJ u u' (f_ (if rc then lH Γ x else Γ) u.k t (sw e)) (f_ (if rc then lH dL x else dL) u'.k t' (sw e)):=by
  cases rc with
  |true=>simp only[if_true];exact RI dQ.both (ahp.del x) (ahq.del x) a1 a3 _|false=>exact RI dQ.both ahp ahq a1 a3 _
 exact kY.imp (hf _ _ u u' D _ _ bJ ⟨λn q=>h.dom n q.1,dQ.kp.ok,hN,dQ.iO.ok,hN',dQ.rel⟩ hE hE'<|ahq.set x hS) λy w y' w'⟨ol,gF,b1,b2,b3⟩=>
  ⟨ol,dQ.trans<|gF.wide (λn q=>q.1) (λn q=>q.1) h.dom,⟨b1.use,λn q=>(b1.loc n q).1⟩,⟨b2.use,λn q=>(b2.loc n q).1⟩,b3⟩
end
def VB{E}{l:List α}{k:List β}(h:dE E l k):dE E l.tail k.tail:=by
 cases h with
 |nil=>exact .nil|cons _ h=>exact h
def Kx.tail:∀{L L':List Nd},Kx pl L L'->Kx pl L.tail L'.tail
 |[],[],_=>⟨rfl,λ_=>rfl⟩|[],_::_,h=>by have:=h.es;simp[fZ]at this|_::_,[],h=>by have:=h.es;simp[fZ]at this|_::_,_::_,h=>h.cons.2
def Gh{p:Prop}(h:p:=by
 exact .ret ⟨ρ,h.refl,bL,bL,.aK _⟩):p:=h
def KI mk k x{t t'}(hs:pl->f=f'/\t=t'){ps Gb}(hL:Kx pl L L')(hp:dE (xM pl) ps Gb):xM pl (kh mk k x L f t ps) (kh mk k x L' f' t' Gb):=by
 intro Γ dL s s' D Λ cH ρ h cA gL so;have h0:=Gc hp 0;have h1:=Gc hp 1;have h2:=Gc hp 2;have n0:=hL.nth 0;have n1:=hL.nth 1;have n2:=hL.nth 2;rw[kh];refine kY.ite (λ_=>?_) λ_=>?_
 .exact aaI h cA gL so _ hs
 refine kY.ite (λ_=>?_) λ_=>?_
 .rw[upM]
  cases mk x with
  |none=>exact .no|some p=>exact(u9 h .zero (.zero _ _) (.zero _ _) _).and λq u q' u'⟨bJ,dQ,a1,a2,a3,_⟩=>.ret ⟨bJ,dQ,a1,a2,a3⟩
 refine kY.ite (λ_=>?_) λ_=>?_
 .exact Gh
 refine kY.ite (λ_=>?_) λ_=>?_
 .exact Gh
 refine kY.ite (λ_=>?_) λ_=>?_
 .exact Gh
 refine kY.ite (λ_=>?_) λ_=>?_
 .refine(h0 Γ dL s s' D Λ cH ρ h cA gL so).and λa u a' u'⟨bJ,dQ,a1,a2,a3⟩=>?_;refine(h1 Γ dL u u' D Λ cH bJ dQ.both (cA.run dQ.kp.run) (gL.run dQ.iO.run)<|so.eO cA dQ).and λb v b' v'⟨ol,gF,b1,b2,b3⟩=>?_;exact .ret ⟨ol,dQ.trans gF,dO (a1.run gF.kp.run) b1,dO (a2.run gF.iO.run) b2,.two _ (gF.pC a1 a3) b3⟩
 refine kY.ite (λ_=>?_) λ_=>?_
 .rw[<-n1.es];refine kY.ite (λhz=>?_) λ_=>.no;refine(h0 Γ dL s s' D Λ cH ρ h cA gL so).and λa u a' u'⟨bJ,dQ,a1,a2,a3⟩=>?_;refine(iw dQ.both a1 (j_ hz) a2 (j_ hz) a3 (.shut hz)<|λp=>n0.sp p).and λ_ v _ v'⟨ol,gF⟩=>?_;exact .ret ⟨ol,dQ.trans gF,j_ hz,j_ hz,.shut hz⟩
 refine kY.ite (λ_=>?_) λ_=>?_
 .refine(h0 Γ dL s s' D Λ cH ρ h cA gL so).and λa u a' u'⟨bJ,dQ,a1,a2,a3⟩=>?_;refine(iw dQ.both a1 bL a2 bL a3 (.aK _)<|λp=>n0.sp p).and λ_ v _ v'⟨ol,gF⟩=>?_;have nE:=dQ.trans gF;refine(h1 Γ dL v v' D Λ cH ol gF.both (cA.run nE.kp.run) (gL.run nE.iO.run)<|so.eO cA nE).and λb w b' w'⟨ρ3,pU,b1,b2,b3⟩=>?_;refine(iw pU.both b1 bL b2 bL b3 (.aK _)<|λp=>n1.sp p).and λ_ y _ y'⟨DB,Ky⟩=>?_;refine .ret ⟨DB,(nE.trans pU).trans Ky,?_⟩;split<;>exact⟨bL,bL,.aK _⟩
 refine kY.ite (λ_=>?_) λ_=>?_
 .refine(h0 Γ dL s s' D Λ cH ρ h cA gL so).and λa u a' u'⟨bJ,dQ,a1,a2,a3⟩=>?_;refine(h1 Γ dL u u' D Λ cH bJ dQ.both (cA.run dQ.kp.run) (gL.run dQ.iO.run)<|so.eO cA dQ).and λb v b' v'⟨ol,gF,b1,b2,b3⟩=>?_;refine(mG gF.both).and λc w c' w'⟨ρ3,pU,c1,c2,c3⟩=>?_;have Gd:=gF.trans pU;refine(iw pU.both (a1.run Gd.kp.run) (dO (b1.run pU.kp.run) c1) (a2.run Gd.iO.run) (dO (b2.run pU.iO.run) c2) (Gd.pC a1 a3) (.two _ (pU.pC b1 b3) c3) hs).and λ_ y _ y'⟨DB,Ky⟩=>?_;exact .ret ⟨DB,(dQ.trans Gd).trans Ky,c1.run Ky.kp.run,c2.run Ky.iO.run,Ky.pC c1 c3⟩
 refine kY.ite (λ_=>?_) λ_=>?_
 .refine(mG h).and λc u c' u'⟨bJ,dQ,c1,c2,c3⟩=>?_;refine(h0 _ _ u u' D Λ cH bJ dQ.both ((cA.run dQ.kp.run).set _ c1.mono) ((gL.run dQ.iO.run).set _ c2.mono)<|(so.eO cA dQ).set _ c3.mono).and λa v a' v'⟨ol,gF,a1,a2,a3⟩=>?_;exact .ret ⟨ol,dQ.trans gF,dO (c1.run gF.kp.run) a1,dO (c2.run gF.iO.run) a2,.two _ (gF.pC c1 c3) a3⟩
 refine kY.ite (λ_=>?_) λ_=>?_
 .exact KH false x n0 h0 h1 Γ dL s s' D Λ cH ρ h cA gL so
 refine kY.ite (λ_=>?_) λ_=>?_
 .exact KH true x n0 h0 h1 Γ dL s s' D Λ cH ρ h cA gL so
 refine kY.ite (λ_=>?_) λ_=>?_
 .refine(h0 Γ dL s s' D Λ cH ρ h cA gL so).and λa u a' u'⟨bJ,dQ,a1,a2,a3⟩=>?_;refine(iw dQ.both a1 bL a2 bL a3 (.aK _)<|λp=>n0.sp p).and λ_ v _ v'⟨ol,gF⟩=>?_;have nE:=dQ.trans gF;refine(h1 Γ dL v v' D Λ cH ol gF.both (cA.run nE.kp.run) (gL.run nE.iO.run)<|so.eO cA nE).and λb w b' w'⟨ρ3,pU,b1,b2,b3⟩=>?_;have Gg:=nE.trans pU;refine(h2 Γ dL w w' D Λ cH ρ3 pU.both (cA.run Gg.kp.run) (gL.run Gg.iO.run)<|so.eO cA Gg).and λc y c' y'⟨DB,Ky,c1,c2,c3⟩=>?_;refine(iw Ky.both (b1.run Ky.kp.run) c1 (b2.run Ky.iO.run) c2 (Ky.pC b1 b3) c3<|λp=>n2.sp p).and λ_ z _ z'⟨ρ5,st5⟩=>?_;have ad0:=Ky.trans st5;exact .ret ⟨ρ5,Gg.trans ad0,b1.run ad0.kp.run,b2.run ad0.iO.run,ad0.pC b1 b3⟩
 refine kY.ite (λ_=>?_) λ_=>.no
 .refine(h0 Γ dL s s' D Λ cH ρ h cA gL so).and λa u a' u'⟨bJ,dQ,a1,a2,a3⟩=>?_;refine(mG dQ.both).and λc v c' v'⟨ol,gF,c1,c2,c3⟩=>?_;have nE:=dQ.trans gF;refine(DC mk hL.tail (VB hp) Γ dL a a' _ _ v v' D Λ cH ol gF.both (cA.run nE.kp.run) (gL.run nE.iO.run) (so.eO cA nE) (a1.run gF.kp.run) (a2.run gF.iO.run) (gF.pC a1 a3) c1 c2 c3).and λ_ w _ w'⟨ρ3,pU⟩=>?_;exact .ret ⟨ρ3,nE.trans pU,c1.run pU.kp.run,c2.run pU.iO.run,pU.pC c1 c3⟩
mutual
def RJ{pl:Prop}(mk:Mks):∀x x',NdE pl x x'->xM pl (inf mk x) (inf mk x')
 |.mk k s n L f t a,.mk k' s' n' L' f' t' a',h=>by
  obtain⟨rfl,h2,h3⟩:=RC h.es;have hL:Kx pl L L':=⟨h3,λp=>by have:=h.pl p;injection this⟩;have hs:pl->f=f'/\t=t':=λp=>h.sp p;unfold inf;by_cases e:k=3\/k=15
  .rw[Vz mk s' s L' f' t' _ e];exact KI mk k s hs hL<|Aw mk L L' hL
  .rw[<-h2 ⟨λq=>e<|jc q,λq=>e<|ja q⟩];exact KI mk k s hs hL<|Aw mk L L' hL
def Aw{pl:Prop}(mk:Mks):∀L L',Kx pl L L'->dE (xM pl) (dY mk L) (dY mk L')
 |[],[],_=>.nil|[],_::_,h=>by have:=h.es;simp[fZ]at this|_::_,[],h=>by have:=h.es;simp[fZ]at this|x::L,x'::L',h=>.cons (RJ mk x x' h.cons.1)<|Aw mk L L' h.cons.2
end
end In
namespace In
def nxt(rs:Bool)(s:St):St:=⟨if rs then Ty.var else s.k,s.u⟩
def sG(rs:Bool):List Dc->Mks->Env->St->List (BA×Ty)->Option Ft->Prop
 |[],_,_,_,B,F=>B=[]/\F=none|.ty t vs ms::r,mk,Γ,s0,B,F=>sG rs r (v8 t vs ms mk) Γ s0 B F
 |.lt rc t b::r,mk,Γ,s0,B,F=>∃o,bM rc t.text b (inf mk b) Γ s0 o/\match o with
  |.error x=>B=[]/\F=some x
  |.ok (a,s)=>(48<size (sub s.k a)/\B=[]/\F=some (pN t.ak t.to))\/
   (size (sub s.k a)<=48/\∃T B',T=(if sw b then sub s.k a else dS (sub s.k a))/\B=(t.text,T)::B'/\sG rs r mk (cJ Γ t.text ⟨T,vars [] T⟩) (nxt rs s) B' F)
def oF u:Ok ⟨Ty.var,u⟩:=⟨λ_ _=>rfl,λv n q1 q2=>by simp[aA]at q2;subst q2;exact q1,λv n q=>by simp[aA]at q;subst q;rfl⟩
def XY(s:St)(Γ:Env):=∀y c,Γ y=some c->c.any=vars [] c.of/\∀v,v∈c.any->s.u v/\s.k v=.var v
def XY.fix{s:St}{Γ:Env}(h:XY s Γ){y}{c}(q:Γ y=some c):sub s.k c.of=c.of:=iu λn hn=>((h y c q).2 n (by rw[(h y c q).1];exact aC.2 hn)).2
def XY.env{s:St}{Γ:Env}(h:XY s Γ):bB (λn=>¬s.u n) s Γ:=λy c q=>by
 have⟨h1,h2⟩:=h y c q;refine⟨λn hn=>(h2 n (by rw[h1];exact aC.2 hn)).1,λn hn=>jc ?_,λv hv=>⟨(h2 v hv).2,λq=>q (h2 v hv).1⟩,λv hv=>by rw[h1]at hv;exact aC.1 hv⟩;rw[h1];rw[h.fix q]at hn;exact aC.2 hn
def Gi(u:Nat->Prop)(Γ:Env):Nat->Prop:=λn=>¬u n\/∃y c,Γ y=some c/\n∈c.any
structure VC ρ s s' Γ dL:Prop where
 ok:Ok s
 G':Ok s'
 top:XY s Γ
 VD:XY s' dL
 rel:Rel (Gi s.u Γ) ρ s s'
 env:gK (Gi s.u Γ) ρ s s' Γ dL
def VC.both{s s':St}{Γ dL:Env}(h:VC ρ s s' Γ dL):qQ (Gi s.u Γ) (λn=>¬s.u n) (λn=>¬s'.u n) ρ s s':=⟨λn q=>jc q,h.ok,λ_ q=>q,h.G',λ_ q=>q,h.rel⟩
def aaK{s:St}(h:Ok s)rs:Ok (nxt rs s):=by
 cases rs with
 |false=>exact h|true=>exact oF _
def tO{s:St}(h:s.k n=.var n)rs:(nxt rs s).k n=.var n:=by
 cases rs with
 |false=>exact h|true=>rfl
inductive DcE(pl:Prop):Dc->Dc->Prop where
 |ty(t t':j7)(vs vs':List j7)(ms ms':List Nd):t.text=t'.text->vs.map (·.text)=vs'.map (·.text)->fZ ms=fZ ms'->DcE pl (.ty t vs ms) (.ty t' vs' ms')
 |lt(r:Bool)(t t':j7)(b b':Nd):t.text=t'.text->(pl->t=t')->NdE pl b b'->DcE pl (.lt r t b) (.lt r t' b')
def aaL:∀{x y:Nd},Rx x=2->es x=es y->Ry x=Ry y
 |.mk k s n L f t a,.mk k' s' n' L' f' t' a',h,e=>(RC e).2.1 (by simp only[Rx]at h;omega)
def aaM:∀{x y:Nd},es x=es y->Ks ns x=Ks ns y
 |.mk k s n L f t a,.mk k' s' n' L' f' t' a',e=>by simp only[Ks,(RC e).2.2]
def KJ{t t':j7}{vs vs':List j7}(ht:t.text=t'.text)(hv:vs.map (·.text)=vs'.map (·.text)):∀{ms ms':List Nd},(∀m∈ms,Rx m=2)->fZ ms=fZ ms'->∀mk,v8 t vs ms mk=v8 t' vs' ms' mk
 |[],[],_,_,mk=>rfl|[],_::_,_,h,_=>by simp[fZ]at h|_::_,[],_,h,_=>by simp[fZ]at h|m::ms,m'::ms',hk,h,mk=>by
  simp only[fZ,List.cons.injEq]at h;have hl:vs.length=vs'.length:=by have:=congrArg jo hv;simpa using this
  simp only[v8];rw[KJ ht hv (λm q=>hk m Mf) h.2,aaL (hk m ag) h.1,aaM h.1,hv];simp only[N8,ht,hl]
def DcK:Dc->Prop
 |.ty _ _ ms=>∀m∈ms,Rx m=2|.lt _ _ _=>True
section
variable (dec:Nat->List UInt8)
def RK(x:Ft):List UInt8:=wr dec (vars [] x.l) x.l 0
def Gk(x:Ft):List UInt8:=wr dec (vars (vars [] x.l) x.r) x.r 0
def FtR.texts{x x':Ft}(h:FtR pl x x'):RK dec x'=RK dec x/\Gk dec x'=Gk dec x:=by
 obtain⟨_,_,ρ,hi,e1,e2⟩:=h;have o1:∀n,n∈vars [] x.l->aA n x.l:=λn q=>aC.1 q;have o2:∀n,n∈vars (vars [] x.l) x.r->aA n x.l\/aA n x.r:=λn q=>by
  obtain q|q:=(bE x.r _ n).1 q
  .exact jc (o1 n q)
  .exact ja q
 have r1:Ren ρ (vars [] x.l):=λm hm n hn e=>hi m n (jc<|o1 m hm) (jc<|o1 n hn) e;have r2:Ren ρ (vars (vars [] x.l) x.r):=λm hm n hn e=>hi m n (o2 m hm) (o2 n hn) e;have v1:=mq (ρ:=ρ) x.l (a:=[]) r1;have v2:=mq (ρ:=ρ) x.r (a:=vars [] x.l) r2;simp only[jk]at v1;rw[RK,Gk];rw[e1,e2,v1,v2,EB dec r1 x.l<|λn hn=>aC.2 hn,EB dec r2 x.r<|λn hn=>(bE x.r _ n).2<|ja hn];exact⟨rfl,rfl⟩
def tP(B:List (BA×Ty)):List (BA×List UInt8):=B.map λp=>(p.1,jv dec p.2)
def ahr(pl:Prop):Option Ft->Option Ft->Prop
 |none,none=>True|some x,some x'=>FtR pl x x'|_,_=>False
def pD t:vars [] (dS t)=[]:=by
 cases e:vars [] (dS t)with
 |nil=>rfl|cons n l=>
  have:aA n (dS t):=aC.1 (by rw[e];simp);have⟨m,_,c⟩:=(bR _).1 this;simp[aA,bY]at c
def N' ρ t:dS (sub (pY ρ) t)=dS t:=by
 unfold dS;rw[lE]
def VC.next{s0 s0':St}{Γ dL:Env}(h:VC ρ s0 s0' Γ dL){s s':St}(st:uZ (Gi s0.u Γ) (λn=>¬s0.u n) (λn=>¬s0'.u n) ρ s0 s0' bJ s s')(a1:cB (λn=>¬s0.u n) s a)(a2:cB (λn=>¬s0'.u n) s' a')(a3:kX bJ s s' a a')(x:BA)(v:Bool){T T':Ty}(hT:T=if v then sub s.k a else dS (sub s.k a))(hT':T'=if v then sub s'.k a' else dS (sub s'.k a'))(rs RL:Bool):
 jv dec T'=jv dec T/\VC bJ (nxt rs s) (nxt RL s') (cJ Γ x ⟨T,vars [] T⟩) (cJ dL x ⟨T',vars [] T'⟩):=by
 have oT:∀n,aA n T->s.u n/\s.k n=.var n/\¬s0.u n:=λn hn=>by
  cases v with
  |true=>simp only[if_true]at hT;subst hT;exact⟨(st.kp.ok.nZ a1.use hn).1,(st.kp.ok.nZ a1.use hn).2,a1.loc n hn⟩|false=>simp at hT;subst hT;have:=aC.2 hn;rw[pD]at this;simp at this
 have oT':∀n,aA n T'->s'.u n/\s'.k n=.var n:=λn hn=>by
  cases v with
  |true=>simp only[if_true]at hT';subst hT';exact st.iO.ok.nZ a2.use hn|false=>simp at hT';subst hT';have:=aC.2 hn;rw[pD]at this;simp at this
 have dT:∀n,aA n T->Gi s0.u Γ n:=λn hn=>jc (oT n hn).2.2;have hR:Ren bJ (vars [] T):=λm hm n hn e=>by
  have q1:=oT m<|aC.1 hm;have q2:=oT n<|aC.1 hn;exact st.rel.inj m n (dT m<|aC.1 hm) (dT n<|aC.1 hn) q1.1 q1.2.1 q2.1 q2.2.1 e
 have eT:T'=sub (pY bJ) T:=by
  rw[kX]at a3
  cases v with
  |true=>grind|false=>
   simp at hT hT';rw[hT',a3,N',<-hT];exact(iu λn hn=>by have:=aC.2 hn;rw[hT,pD]at this;simp at this).symm
 have hv:=mq (ρ:=bJ) T (a:=[]) hR;simp only[jk]at hv;refine⟨by rw[eT];exact II dec hR,?_⟩;have eR:∀y c n,Γ y=some c->n∈c.any->s0.u n/\s.u n/\s.k n=.var n/\bJ n=ρ n/\Gi s0.u Γ n:=λy c n q1 q2=>by
  have⟨hu,hf⟩:=(h.top y c q1).2 n q2;have hd:Gi s0.u Γ n:=ja ⟨y,c,q1,q2⟩;exact⟨hu,st.kp.run.mono n hu,st.kp.fix hf<|λq=>q hu,st.any n hu hf hd<|λq=>q hu,hd⟩
 have Oa:∀n,Gi s.u (cJ Γ x ⟨T,vars [] T⟩) n->s.u n->Gi s0.u Γ n/\s.k n=.var n:=λn q1 q2=>by
  obtain q|⟨y,c,q3,q4⟩:=q1
  .exact absurd q2 q
  .rw[cJ]at q3;split at q3
   .injection q3 with q3;subst q3;exact⟨dT n<|aC.1 q4,(oT n<|aC.1 q4).2.1⟩
   .grind
 have tp:XY (nxt rs s) (cJ Γ x ⟨T,vars [] T⟩):=λy c q=>by
  rw[cJ]at q;split at q
  .injection q with q;subst q;exact⟨rfl,λv hv=>⟨(oT v<|aC.1 hv).1,tO (oT v<|aC.1 hv).2.1 rs⟩⟩
  .exact⟨(h.top y c q).1,λv hv=>⟨(eR y c v q hv).2.1,tO (eR y c v q hv).2.2.1 rs⟩⟩
 have tp':XY (nxt RL s') (cJ dL x ⟨T',vars [] T'⟩):=λy c q=>by
  rw[cJ]at q;split at q
  .injection q with q;subst q;exact⟨rfl,λv hv=>⟨(oT' v<|aC.1 hv).1,tO (oT' v<|aC.1 hv).2 RL⟩⟩
  .exact⟨(h.VD y c q).1,λv hv=>⟨st.iO.run.mono v ((h.VD y c q).2 v hv).1,tO (st.iO.fix ((h.VD y c q).2 v hv).2<|λz=>z ((h.VD y c q).2 v hv).1) RL⟩⟩
 refine⟨aaK st.kp.ok rs,aaK st.iO.ok RL,tp,tp',⟨λn q1 q2 _=>?_,λm n p1 p2 q1 _ q2 _ e=>?_⟩,λy=>?_⟩
 .have⟨b1,b2⟩:=Oa n q1 q2;exact⟨(st.rel.live n b1 q2 b2).1,tO (st.rel.live n b1 q2 b2).2 RL⟩
 .have⟨b1,b2⟩:=Oa m p1 q1;have⟨c1,c2⟩:=Oa n p2 q2;exact st.rel.inj m n b1 c1 q1 b2 q2 c2 e
 .by_cases e:y=x
  .refine ja ⟨⟨T,vars [] T⟩,⟨T',vars [] T'⟩,by simp[cJ,e],by simp[cJ,e],?_,?_,λv hv=>ja ⟨x,_,by simp[cJ],hv⟩⟩
   .rw[kX];rw[tp.fix (y:=x)<|by simp[cJ],tp'.fix (y:=x)<|by simp[cJ]];exact eT
   .grind
  .obtain⟨q1,q2⟩|⟨c,c',q1,q2,q3⟩:=h.env y
   .exact jc ⟨by simp[cJ,e,q1],by simp[cJ,e,q2]⟩
   .refine ja ⟨c,c',by simp[cJ,e,q1],by simp[cJ,e,q2],?_,?_,λv hv=>ja ⟨y,c,by simp[cJ,e,q1],hv⟩⟩
    .have:=q3.of;rw[kX]at this⊢;rw[tp.fix (y:=y)<|by simp[cJ,e,q1],tp'.fix (y:=y)<|by simp[cJ,e,q2]];rw[h.top.fix q1,h.VD.fix q2]at this;rw[this];exact u7 λn hn=>(eR y c n q1 (by rw[(h.top y c q1).1];exact aC.2 hn)).2.2.2.1.symm
    .rw[q3.any];exact jp λv hv=>(eR y c v q1 hv).2.2.2.1.symm
def Ax{pl:Prop}{rs RL:Bool}:∀{l l':List Dc},dE (DcE pl) l l'->(∀d∈l,DcK d)->∀(mk:Mks)(ρ:Nat->Nat)(u u':St)(Γ dL:Env),VC ρ u u' Γ dL->∀B F B' F',sG rs l mk Γ u B F->sG RL l' mk dL u' B' F'->tP dec B'=tP dec B/\ahr pl F F'
 |[],[],.nil,_,mk,ρ,u,u',Γ,dL,_,B,F,B',F',⟨q1,q2⟩,⟨RA,q2'⟩=>by subst q1;subst q2;subst RA;subst q2';exact⟨rfl,trivial⟩|.ty t vs ms::r,.ty t' vs' ms'::r',.cons (.ty _ _ _ _ _ _ h1 h2 h3) hr,hk,mk,ρ,u,u',Γ,dL,hT,B,F,B',F',q,q'=>by
  rw[sG]at q q';rw[<-KJ h1 h2 (hk (.ty t vs ms) ag) h3]at q';exact Ax hr (λd q=>hk d Mf) _ ρ u u' Γ dL hT B F B' F' q q'
 |.lt rc t b::r,.lt _ t' b'::r',.cons (.lt _ _ _ _ _ h1 h2 h3) hr,hk,mk,ρ,u,u',Γ,dL,hT,B,F,B',F',q,q'=>by
  rw[sG]at q q';obtain⟨o,q1,q2⟩:=q;obtain⟨o',RA,q2'⟩:=q';rw[<-h1]at RA;have S:=Au rc t.text h3 (RJ mk b b' h3) Γ dL _ _ _ _ _ ρ hT.both hT.top.env hT.VD.env hT.env o o' q1 RA
  match o,o',S with
  |.error x,.error x',S=>
   obtain⟨rfl,rfl⟩:=q2;obtain⟨rfl,rfl⟩:=q2';exact⟨rfl,S⟩
  |.ok (a,s),.ok (a',s'),S=>
   obtain⟨bJ,st,a1,a2,a3⟩:=S;have z:=a3.size;obtain⟨z1,rfl,rfl⟩|⟨z1,T,C,hC,rfl,q2⟩:=q2<;>obtain⟨z1',rfl,rfl⟩|⟨z1',T',C',hC',rfl,q2'⟩:=q2'
   .refine⟨rfl,rfl,λp=>?_,λn=>n,λm n _ _ e=>e,?_,?_⟩
    .rw[h2 p]
    .simp[pN,jt,pY]
    .simp[pN,jt,pY]
   .omega
   .omega
   .have hv:sw b=sw b':=by rw[<-vh b,<-vh b',h3.es]
    rw[<-hv]at hC';have⟨w,hT1⟩:=hT.next dec st a1 a2 a3 t.text (sw b) hC hC' rs RL;rw[<-h1]at q2';have⟨g1,g2⟩:=Ax hr (λd q=>hk d Mf) mk bJ _ _ _ _ hT1 C F C' F' q2 q2';refine⟨?_,g2⟩;simp only[tP,jq]at g1⊢;rw[g1,w,h1]
def aaN{rs RL:Bool}{l l':List Dc}(h:dE (DcE pl) l l')(hk:∀d∈l,DcK d)(mk:Mks){u u':Nat->Prop}{B B':List (BA×Ty)}{F F':Option Ft}(q:sG rs l mk (λ_=>none) ⟨Ty.var,u⟩ B F)(q':sG RL l' mk (λ_=>none) ⟨Ty.var,u'⟩ B' F'):tP dec B'=tP dec B/\ahr pl F F':=by
 refine Ax dec h hk mk (λn=>n) _ _ _ _ ⟨oF _,oF _,λy c q=> mO,λy c q=> mO,⟨λn d un _=>?_,λm n d1 d2 u1 _ u2 _ e=>e⟩,.none⟩ B F B' F' q q';obtain d|⟨y,c,q,_⟩:=d
 .exact absurd un d
 .cases q
end
end In
namespace In
open Classical in
mutual
noncomputable def trim:Ty->Ty
 |.var n=>.var n|.aK c l=>if Yb c l.length then .aK c (DE l)else .var 0
noncomputable def DE:List Ty->List Ty
 |[]=>[]|t::l=>trim t::DE l
end
def DF(σ:Nat->Ty):∀l,(aT σ l).length=l.length
 |[]=>rfl|t::l=>by simp[aT,DF σ l]
mutual
def Ay{θ:Nat->Ty}:∀t,Wf t->trim (sub θ t)=sub (λv=>trim<|θ v) t
 |.var n,_=>rfl|.aK c l,h=>by
  simp only[sub,trim];rw[if_pos (by rw[DF];exact h.1),DG l h.2]
def DG{θ:Nat->Ty}:∀l,FY l->DE (aT θ l)=aT (λv=>trim<|θ v) l
 |[],_=>rfl|t::l,h=>by simp only[aT,DE];rw[Ay t h.1,DG l h.2]
end
mutual
def RM{σ:Nat->Ty}:∀t,sub σ t=trim t->Wf t
 |.var n,_=>trivial|.aK c l,h=>by
  simp only[sub,trim]at h;by_cases q:Yb c l.length
  .rw[if_pos q]at h;injection h with _ h;exact⟨q,KN l h⟩
  .rw[if_neg q]at h;cases h
def KN{σ:Nat->Ty}:∀l,aT σ l=DE l->FY l
 |[],_=>trivial|t::l,h=>by
  simp only[aT,DE]at h;injection h with h1 h2;exact⟨RM t h1,KN l h2⟩
end
def xL.wf(h:xL θ a b)(ha:Wf a)(hb:Wf b)v:Wf (θ v):=by
 refine RM _<|h.gen (λv=>trim<|θ v) ?_ v;rw[<-Ay a ha,<-Ay b hb,h.one]
def lO n:Wf (.var n):=trivial
theorem o6(h:Wf t)(k:∀n,Wf<|σ n):Wf (sub σ t):=Wf.Cb t h λn _=>k n
def FtF(z:Ft):Prop:=z.f.kind=6->(Wf z.l/\size z.l<=48)/\Wf z.r/\size z.r<=48
def KF(s:St):=∀n,Wf<|s.k n
def EF(Γ:Env):=∀y c,Γ y=some c->Wf c.of
def MF(mk:Mks):=∀x tk m,mk x=some (tk,m)->FY tk/\Wf m
def Hf{α:Type}(m:MM α)s(Q:α->Prop):=∀o,m s o->match o with
 |.ok (a,s')=>Q a/\KF s'|.error z=>FtF z
section
variable {s:St}
def Hf.ret{a}{Q:α->Prop}(h:Q a)(k:KF s):Hf (cU a) s Q:=by grind[KF,Hf,cU]
def Hf.and{m}{g}{Q:α->Prop}{R:β->Prop}(h:Hf m s Q)(k:∀a s',Q a->KF s'->Hf (g a) s' R):Hf (andM m g) s R:=by grind[Hf,KF,andM]
def Hf.no{Q:α->Prop}:Hf W7 s Q:=λ_ q=>q.elim
def Hf.ite[Decidable c]{m m'}{Q:α->Prop}(h:c->Hf m s Q)(k:¬c->Hf m' s Q):Hf (if c then m else m') s Q:=xC
def Fc f t:FtF (pN f t):=λh=>Mo
def vo(k:KF s):Hf iP s λ_=>True:=by simp_all[KF,Hf,iP]
def rh(k:KF s)(ha:Wf a)(hb:Wf b)f t:Hf (sv a b f t) s λ_=>True:=λo q=>by
 have h1:=o6 ha k;have h2:=o6 hb k;obtain⟨_,rfl⟩|⟨z1,z2,⟨θ,hm,rfl⟩|⟨_,rfl⟩⟩:=q
 .exact Fc f t
 .exact⟨trivial,λn=>o6 (k n)<|hm.wf h1 h2⟩
 .exact λ_=>⟨⟨h1,z1⟩,h2,z2⟩
def RN(k:KF s)l ρ:Hf (oE l ρ) s λ_=>True:=by simp_all[KF,Hf,oE]
def aaO ρ(h:Wf t):Wf (sub (via ρ) t):=by grind[Wf,sub,via,o6]
def Gl(k:KF s)(h:Wf t)ρ:Hf (oo t ρ) s λq=>Wf q.1:=(RN k _ _).and λd_ _ _ k1=>.ret (aaO d_ h) k1
def ahs(k:KF s){Γ:Env}(cA:EF Γ)x f t:Hf (qL Γ x f t) s Wf:=by
 rw[qL]
 cases hx:Γ x with
 |none=>exact .no|some c=>
  rintro o(⟨_,rfl⟩|⟨_,ρ,s',hd,rfl⟩)
  .exact Fc f t
  .exact⟨aaO ρ<|o6 (cA x c hx) k,(RN k _ _ _ hd).2⟩
def aht{tk}{m}(h:FY tk)(k:Wf m):Wf (arr tk m):=by
 induction tk with
 |nil=>exact k|cons t tk ih=>exact⟨⟨aH,λ_=>rfl⟩,h.1,ih h.2,trivial⟩
def Az:Wf jA:=⟨⟨aH,λe=>by obtain e|e:=e<;>exact absurd e aH⟩,trivial⟩
def yr:Wf oC:=⟨⟨aH,λe=>by obtain e|e:=e<;>exact absurd e aH⟩,trivial⟩
def Gm:Wf sH:=⟨⟨aH,λe=>by obtain e|e:=e<;>exact absurd e aH⟩,trivial⟩
def afo(ha:Wf a)(hb:Wf b):Wf (nV a b):=⟨⟨aH,λ_=>rfl⟩,ha,hb,trivial⟩
def afp(ha:Wf a)(hb:Wf b):Wf (tPr a b):=⟨⟨aH,λ_=>rfl⟩,ha,hb,trivial⟩
end
def EF.set{Γ:Env}(h:EF Γ)x{c}(hc:Wf c.of):EF (cJ Γ x c):=λy d q=>by
 rw[cJ]at q;split at q
 .grind
 .exact h y d q
theorem EF.over{g Γ}(hg:EF g)(h:EF Γ):EF (over g Γ):=by grind[EF,over]
def PF(p:PM):=∀g s,KF s->EF g->Hf (p g) s λq=>Wf q.1/\EF q.2
def XF(p:EM):=∀Γ s,KF s->EF Γ->Hf (p Γ) s Wf
def RP{p:Prop}(h:p:=by
 rw[jh,jm ae];intro _ _ _ _;exact .no):p:=h
def aaP{ps}(h:∀p∈ps,PF p)i:PF (cK ps i):=by
 rw[cK];by_cases hi:i<ps.length
 .exact yq
 .exact RP
def Ob{ps}(h:∀p∈ps,XF p)i:XF (cK ps i):=by
 rw[cK];by_cases hi:i<ps.length
 .exact yq
 .exact RP
def RQ:∀(tk:List Ty)(L:List Nd)(ps:List PM),FY tk->(∀p∈ps,PF p)->∀(g:Env)(ρ:Rn)(s:St),KF s->EF g->Hf (fH tk L ps g ρ) s λq=>EF q.1
 |u::tk,x::L,p::ps,hw,hp,g,ρ,s,k,hg=>by
  rw[fH];refine(hp p ag g s k hg).and λq s1⟨t1,g1⟩k1=>?_;refine(Gl k1 hw.1 ρ).and λi s2 t2 k2=>?_;refine(rh k2 t1 t2 _ _).and λ_ s3 _ k3=>?_;exact RQ tk L ps hw.2 (λp h=>hp p<|by simp[h]) q.2 i.2 s3 k3 g1
 |[],_,_,_,_,g,ρ,s,k,hg=>.ret hg k|_::_,[],_,_,_,g,ρ,s,k,hg=>.ret hg k|_::_,_::_,[],_,_,g,ρ,s,k,hg=>.ret hg k
def ahu{mk:Mks}(hm:MF mk)k x L ps(hp:∀p∈ps,PF p):PF (qH mk k x L ps):=by
 intro g s h hg;rw[qH];split
 .exact(vo h).and λv s1 _ k1=>.ret ⟨trivial,hg⟩ k1
 split
 .exact(vo h).and λv s1 _ k1=>.ret ⟨trivial,hg.set _ trivial⟩ k1
 split
 .exact .ret ⟨Az,hg⟩ h
 split
 .exact .ret ⟨yr,hg⟩ h
 split
 .exact .ret ⟨Gm,hg⟩ h
 split
 .refine(aaP hp 0 g s h hg).and λa s1⟨t1,g1⟩k1=>?_;refine(aaP hp 1 _ s1 k1 g1).and λb s2⟨t2,g2⟩k2=>?_;exact .ret ⟨afp t1 t2,g2⟩ k2
 cases e:mk x with
 |none=>exact .no|some p=>
  obtain⟨tk,m⟩:=p;have⟨w1,w2⟩:=hm x tk m e;refine(RQ tk L ps w1 hp g Cj s h hg).and λq s1 g1 k1=>?_;refine(Gl k1 w2 q.2).and λi s2 t2 k2=>?_;exact .ret ⟨t2,g1⟩ k2
mutual
def aaQ{mk:Mks}(hm:MF mk):∀nd,PF<|du mk nd
 |.mk k s n L f t a=>ahu hm k s L _<|RS hm L
def RS{mk:Mks}(hm:MF mk):∀L,∀p∈iX mk L,PF p
 |[],p,h=>by simp[iX]at h|x::l,p,h=>by
  simp only[iX,ji]at h;obtain rfl|h:=h
  .exact aaQ hm x
  .exact RS hm l p h
end
def RT{mk:Mks}(hm:MF mk):∀(L:List Nd)(ps:List EM),(∀p∈ps,XF p)->∀(Γ:Env)(t r:Ty)(s:St),KF s->EF Γ->Wf t->Wf r->Hf (iK mk Γ t r L ps) s λ_=>True
 |p::e::L,_::pe::ps,hp,Γ,t,r,s,h,cA,ht,hr=>by
  rw[iK];refine(aaQ hm p _ s h<|λ_ _ q=> mO).and λq s1⟨t1,g1⟩k1=>?_;refine(rh k1 ht t1 _ _).and λ_ s2 _ k2=>?_;refine(hp pe ag _ s2 k2<|g1.over cA).and λu s3 t3 k3=>?_;refine(rh k3 hr t3 _ _).and λ_ s4 _ k4=>?_;exact RT hm L ps (λp h=>hp p<|by simp[h]) Γ t r s4 k4 cA ht hr
 |[],_,_,_,_,_,s,h,_,_,_=>.ret trivial h|[_],_,_,_,_,_,s,h,_,_,_=>.ret trivial h|_::_::_,[],_,_,_,_,s,h,_,_,_=>.ret trivial h|_::_::_,[_],_,_,_,_,s,h,_,_,_=>.ret trivial h
def Jd rc x e{pe:EM}(hp:XF pe):XF (bM rc x e pe):=by
 intro Γ s h cA;rw[bM]
 cases rc with
 |false=>exact hp Γ s h cA|true=>
  refine(vo h).and λv s1 _ k1=>?_;refine(hp _ s1 k1<|cA.set x (c:=mono<|.var v)<|lO v).and λt s2 t2 k2=>?_;exact(rh k2 (lO v) t2 _ _).and λ_ s3 _ k3=>.ret t2 k3
def aaR rc x e{pe pf:EM}(hp:XF pe)(hf:XF pf):XF (li rc x e pe pf):=by
 intro Γ s h cA;refine(Jd rc x e hp Γ s h cA).and λt s1 t1 k1=>?_;exact hf _ s1 k1<|cA.set x<|o6 t1 k1
def ahv{mk:Mks}(hm:MF mk)k x L f t ps(hp:∀p∈ps,XF p)(hL:k=14->Wf (bt []<|es<|iA L 1).1):XF (kh mk k x L f t ps):=by
 intro Γ s h cA;have h0:=Ob hp 0;have h1:=Ob hp 1;have h2:=Ob hp 2;rw[kh];refine .ite (λ_=>?_) λ_=>?_
 .exact ahs h cA _ _ _
 refine .ite (λ_=>?_) λ_=>?_
 .rw[upM]
  cases e:mk x with
  |none=>exact .no|some p=>
   obtain⟨tk,m⟩:=p;have⟨w1,w2⟩:=hm x tk m e;exact(Gl h (aht w1 w2) Cj).and λq s1 t1 k1=>.ret t1 k1
 refine .ite (λ_=>?_) λ_=>?_
 .exact .ret Az h
 refine .ite (λ_=>?_) λ_=>?_
 .exact .ret yr h
 refine .ite (λ_=>?_) λ_=>?_
 .exact .ret Gm h
 refine .ite (λ_=>?_) λ_=>?_
 .refine(h0 Γ s h cA).and λa s1 t1 k1=>?_;exact(h1 Γ s1 k1 cA).and λb s2 t2 k2=>.ret (afp t1 t2) k2
 refine .ite (λe=>?_) λ_=>?_
 .refine .ite (λ_=>?_) λ_=>.no;refine(h0 Γ s h cA).and λa s1 t1 k1=>?_;exact(rh k1 t1 (hL e) _ _).and λ_ s2 _ k2=>.ret (hL e) k2
 refine .ite (λ_=>?_) λ_=>?_
 .refine(h0 Γ s h cA).and λa s1 t1 k1=>?_;refine(rh k1 t1 Az _ _).and λ_ s2 _ k2=>?_;refine(h1 Γ s2 k2 cA).and λb s3 t3 k3=>?_;refine(rh k3 t3 Az _ _).and λ_ s4 _ k4=>.ret ?_ k4;split
  .exact yr
  .exact Az
 refine .ite (λ_=>?_) λ_=>?_
 .refine(h0 Γ s h cA).and λa s1 t1 k1=>?_;refine(h1 Γ s1 k1 cA).and λb s2 t2 k2=>?_;refine(vo k2).and λv s3 _ k3=>?_;exact(rh k3 t1 (afo t2<|lO v) _ _).and λ_ s4 _ k4=>.ret (lO v) k4
 refine .ite (λ_=>?_) λ_=>?_
 .refine(vo h).and λv s1 _ k1=>?_;exact(h0 _ s1 k1<|cA.set _ (c:=mono<|.var v)<|lO v).and λa s2 t2 k2=>.ret (afo (lO v) t2) k2
 refine .ite (λ_=>?_) λ_=>?_
 .exact aaR _ _ _ h0 h1 Γ s h cA
 refine .ite (λ_=>?_) λ_=>?_
 .exact aaR _ _ _ h0 h1 Γ s h cA
 refine .ite (λ_=>?_) λ_=>?_
 .refine(h0 Γ s h cA).and λa s1 t1 k1=>?_;refine(rh k1 t1 yr _ _).and λ_ s2 _ k2=>?_;refine(h1 Γ s2 k2 cA).and λb s3 t3 k3=>?_;refine(h2 Γ s3 k3 cA).and λc s4 t4 k4=>?_;exact(rh k4 t3 t4 _ _).and λ_ s5 _ k5=>.ret t3 k5
 refine .ite (λ_=>?_) λ_=>?_
 .refine(h0 Γ s h cA).and λa s1 t1 k1=>?_;refine(vo k1).and λv s2 _ k2=>?_;exact(RT hm L.tail ps.tail (λp h=>hp p<|List.mem_of_mem_tail h) Γ a _ s2 k2 cA t1<|lO v).and λ_ s3 _ k3=>.ret (lO v) k3
 .exact .no
mutual
def NW:Nd->Prop
 |.mk k _ _ L _ _ _=>(k=14->Wf (bt []<|es<|iA L 1).1)/\NWL L
def NWL:List Nd->Prop
 |[]=>True|x::l=>NW x/\NWL l
end
mutual
def ae7{mk:Mks}(hm:MF mk):∀nd,NW nd->XF (inf mk nd)
 |.mk k s n L f t a,h=>ahv hm k s L f t _ (aaS hm L h.2) h.1
def aaS{mk:Mks}(hm:MF mk):∀L,NWL L->∀p∈dY mk L,XF p
 |[],_,p,h=>by simp[dY]at h|x::l,hn,p,h=>by
  simp only[dY,ji]at h;obtain rfl|h:=h
  .exact ae7 hm x hn.1
  .exact aaS hm l hn.2 p h
end
end In
def vn i:=bs (39::118::dec i)
def lvl tight:=if tight=0 then 2 else if tight=1 then 1 else 0
end
end Go.Proofs.YtfnkchdeheeiiaaGreatDoor

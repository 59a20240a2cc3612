import Derived.Test.YtfnkchdeheeiiaaGreatDoorCQa
import Derived.Test.YtfnkchdeheeiiaaGreatDoorCTm
import Derived.Test.YtfnkchdeheeiiaaGreatDoorCPl
set_option linter.all false
set_option maxRecDepth 100000
set_option maxHeartbeats 8000000
namespace Go.Proofs.YtfnkchdeheeiiaaGreatDoor
open Go.Proofs.Tryz renaming prog->ja,underlying209->jc,underlying9->jd
open _root_.List renaming getElem_mem->jf,map_cons->jh,take_of_length_le->ji,mem_map_of_mem->jj,nodup_cons->jk,mem_cons->jl
open Pu renaming bC->jm,Tok->jo
open Or renaming inr->jp,inl->jq
open Go.Value renaming string->jt,int->ju
open Go.Result renaming andThen->jv
open Go.Instr renaming lookup->jx,mapUpdate->jy,next->jz
open Go.RowKit.Below renaming refl->j3
open _root_.Array renaming getElem?_setIfInBounds->j5,toList_modify->j6
open Go.MapKept renaming run_setObj_map->j7,heap_alloc->j8
open Go Go.RowKit Go.ChangeMaps Proofs.Tryz
variable {s x:BA} {lo:BA->Nat} {F mk ty:BA->Option Nat} {f f':Fl} {L:List (BA×Value)} {done l p:List BA} {T:List jo} {e:M Nd} {m:MV} {B N a b c cb gb k lb mb n r rb sb sc t tb:Nat} {S:Nat->Prop} {nd:Nd} {v:Value} {w w' w0:World}
abbrev smP s n:=aP (jm s 0) (eh (jm s 0) n) (mr<|jm s 0) 2
def SX.plain(h:SX w N rb sb m s k)(hb:m.d=Mv b):∃x,Bx w x #[rp rb]/\MS jt w b (pM rb x):=by
 have⟨x,hx,b',e,_,_,hM⟩:=h.ev.mp.pl;rw[hb]at e
 cases e
 exact⟨x,hx.2.2,hM⟩
def aiQ(hs:s.size<=1000)(IH:zN s n)(h:SX w N rb sb m s k)(hn:(jm s 0).length<=k+1+n)(hb:m.d=Mv b):Tab N rb sb m s PP (smP s n) 2 b w k:=by
 have⟨x,hx,hM⟩:=h.plain hb;refine⟨_,hM,?_⟩
 cases hc:aG (tk (jm s 0) k) 2
 .exact .inr ⟨rfl,VP h hc x⟩
 .exact .inl ⟨rfl,(Q9 hs IH h hn hc hx).imp id λ⟨f,h⟩=>⟨f,x,h⟩⟩
def SX.md(h:SX w N rb sb m s k):∃b,m.d=Mv b:=by
 have⟨x,_,b,e,_⟩:=h.ev.mp.pl;exact⟨b,e⟩
def RowV.up{P}{L}{v}(h:RowV (Q1 PP) 1 w P L v)s n f t a y(hu:mN s)(hy:y=a+s.size):PP w P (.mk 2 s n L f t a) (.iface 307<|.agg #[Nv f,Nv t,Nv a,Nv y,.string s,v]):=by
 obtain⟨va,vc,cs,rfl,aN,hr⟩:=h;refine .up s n L f t a y va vc (λi=>cs i 0) hu hy ?_ hr;obtain h0|⟨g,h1,h2,h3,h4⟩:=aN
 .exact jq h0
 .grind
def Dk(hs:s.size<=1000)(hT:(jm s 0).length<=1001)(IH:zN s n):zN s (n+1):=by
 intro w N rb sb m k h hn;have⟨b,hb⟩:=h.md;exact VV (R:=PP) hs hT (.inl ⟨rfl,rfl,hb⟩) PP.iface (λ_ _ _ _ _ _ h a b c=>h.move a b c) (cy (nU (T:=(jm s 0)) n) mw 2) (λw k' S l=>aiQ hs IH S ae hb) h λhu hy h=>h.up _ _ _ _ _ _ hu hy
def Bh(hs:s.size<=1000)(hT:(jm s 0).length<=1001):∀n,zN s n
 |0=>λw N rb sb m k h hn=>by have:=h.lt;omega|n+1=>Dk hs hT<|Bh hs hT n
def pW(hs:s.size<=1000)(IH:eP s n)(h:SX w N rb sb m s k)(hn:(jm s 0).length<=k+1+n):
 Cq 180 #[rp rb] w (ap PE N rb sb m s (sF (jm s 0) (bP (jm s 0) n) k) w):=by
 have Th:=gK;have VL:=jI;refine cz.xN h rfl λH=>?_;go_enter func180,ntmps180;go_wp2_with fail;refine H.take ?_;intro w1 H;go_wp2_with fail;refine H.name ?_;intro t w2 H Ht;go_wp2_with fail;refine H.box.take ?_;intro w3 H;go_wp2_with fail;refine H.expr IH ?_;intro a k4 t4 x4 w4 H l4;have⟨⟨_,c,f,z⟩,_⟩:=H.p
 go_wp2
 go_region_with(go_at_call 105;refine H.drew.since ?_;intro w5 H;have⟨⟨_,c,f,z⟩,_⟩:=H.p)
 all_goals(
  go_wp2
  go_ret
  exact H.done λ⟨_,V⟩=>.fn _ _ _ _ _ _ _ _ Ht.1 Ht.2 V)
def XG(hs:s.size<=1000)(IH:eP s n)(h:SX w N rb sb m s k)(hn:(jm s 0).length<=k+1+n):
 Cq 182 #[rp rb] w (ap PE N rb sb m s (oG (jm s 0) (bP (jm s 0) n) k) w):=by
 have Th:=gK;have VL:=jI;refine cz.xN h rfl λH=>?_;go_enter func182,ntmps182;go_wp2_with fail;refine H.take ?_;intro w1 H;go_wp2_with fail;refine H.expr IH ?_;intro a k2 t2 x2 w2 H l2;go_wp2_with fail;refine H.take ?_;intro w3 H;go_wp2_with fail;refine H.expr IH ?_;intro b k4 t4 x4 w4 H l4;go_wp2_with fail;refine H.take ?_;intro w5 H;go_wp2_with fail;refine H.expr IH ?_;intro c k6 t6 x6 w6 H l6;go_wp2_with fail;refine H.since ?_;intro w7 H
 go_wp2
 go_ret;exact H.done λ⟨⟨⟨_,A⟩,B⟩,C⟩=>.ite _ _ _ _ _ _ _ _ _ _ _ A B C
def bindM(T:List jo)e:=λk=>
 if a_ (tk T k) V_=true then aM (di T 1) (λt=>aM (bt T MO) λ_=>aM (sF T e) λe k'=>.ok ((11,t,e),k')) (k+1)
 else aM (di T 1) (λt=>aM (bt T MO) λ_=>aM e λe k'=>.ok ((10,t,e),k')) k
def RX(h:a_ (tk T k) V_=true):bindM T e k=aM pi (λ_=>aM (di T 1) λt=>aM (bt T MO) λ_=>aM (sF T e) λe k'=>.ok ((11,t,e),k')) k:=by rw[bindM];rw[if_pos h];rfl
def Im(h:a_ (tk T k) V_=false):bindM T e k=aM (di T 1) (λt=>aM (bt T MO) λ_=>aM e λe k'=>.ok ((10,t,e),k')) k:=by rw[bindM];rw[h];rfl
def Kv e:aR T (bindM T e):=λk h=>by
 rw[Im<|dY h _];exact bT (pN T 1 aK k h) λ_ q g=>by
  rw[aM];rw[show bt T MO q=.error (db<|tk T q) by rw[bt];rw[dY g];rfl];rfl
def yo w P(b:Nat×jo×Nd)(v:Value):=
 ∃ve,v=.agg #[.bool<|b.1==11,Nv b.2.1.al,Nv b.2.1.to,.string b.2.1.text,ve]/\PE w P b.2.2 ve/\(b.1=10\/b.1=11)/\zM b.2.1.text/\b.2.1.to=b.2.1.al+b.2.1.text.size
def Bx.aiR{C}(h:Bx w b C)(hC:C.size=5)v0 v1 v2 v3 v4:Bx (((((w.setCell ⟨b,0,none⟩ v0).setCell ⟨b,1,none⟩ v1).setCell ⟨b,2,none⟩ v2).setCell ⟨b,3,none⟩ v3).setCell ⟨b,4,none⟩ v4) b #[v0,v1,v2,v3,v4]:=by
 obtain⟨a0,a1,a2,a3,a4,rfl⟩:∃a0 a1 a2 a3 a4,C=#[a0,a1,a2,a3,a4]:=by
  obtain⟨l⟩:=C
  match l,hC with
  |[a,b,c,d,e],_=>grind
 exact((((h.aO 0 v0 #[v0,a1,a2,a3,a4] rfl ag).aO 1 v1 #[v0,v1,a2,a3,a4] rfl ag).aO 2 v2 #[v0,v1,v2,a3,a4] rfl ag).aO 3 v3 #[v0,v1,v2,v3,a4] rfl ag).aO 4 v4 #[v0,v1,v2,v3,v4] rfl ag
theorem yo.move{w w'}{P Q}{b}{v}(h:yo w P b v)(hs:w.heap.size<=w'.heap.size)(hb:∀b,P b->b<w.heap.size->w'.heap[b]? =w.heap[b]?)(hq:∀b,P b->b<w.heap.size->Q b):yo w' Q b v:=by
 obtain⟨ve,h1,h2,h3⟩:=h;exact⟨ve,h1,h2.move hs hb hq,h3⟩
def Io{t}{a}{k'}{D}{tv}{xv}{g}{P:World->Prop}{r}{bb}(o:w.heap.size≠rb)(hc:(c==11)=bb)(Ht:Hid (zM t.text/\t.to=t.al+t.text.size))(H:cz N rb sb m s r w w.heap.size D g (λw'=>P w'/\PE w' (λb=>w.heap.size<=b) a (.iface tv<|.agg xv)) k' w')(hD:D.size=5)(hg:g k'=.ok ((c,t,a),k'))(h1:c=10\/c=11):∃W,W=(((((w'.setCell ⟨w.heap.size,0,none⟩<|.bool bb).setCell ⟨w.heap.size,1,none⟩<|Nv t.al).setCell ⟨w.heap.size,2,none⟩<|Nv t.to).setCell ⟨w.heap.size,3,none⟩<|.string t.text).setCell ⟨w.heap.size,4,none⟩<|.iface tv<|.agg xv)/\
 Bx W w.heap.size #[.bool bb,Nv t.al,Nv t.to,.string t.text,.iface tv<|.agg xv]/\ap yo N rb sb m s r w (.returned<|.agg #[.bool bb,Nv t.al,Nv t.to,.string t.text,.iface tv<|.agg xv]) W:=by
 have B:=(H.bo o).aiR hD (.bool bb) (Nv t.al) (Nv t.to) (Sv t.text)<|Fv tv<|Av xv;subst hc;exact⟨_,rfl,B,(H.put o B<|cJ<|cJ<|cJ<|cJ<|cJ ⟨rfl,rfl,rfl,rfl,λ_ _=>rfl⟩).done (λV=>⟨_,rfl,V.2,h1,Ht.1,Ht.2⟩) hg⟩
def Bi(hs:s.size<=1000)(IH:eP s n)(h:SX w N rb sb m s k)(hn:(jm s 0).length<=k+n):
 Calls ja 248 #[rp rb] w (ap yo N rb sb m s (bindM (jm s 0) (bP (jm s 0) n) k) w):=by
 have Th:=gK;have VL:=jI;have hcE:∀args w,(callFunc 249 args).run ja w=.ok (.enter 249 args) w:=λ_ _=>qkr;have hcF:∀args w,(callFunc 180 args).run ja w=.ok (.enter 180 args) w:=λ_ _=>qkr;have o:w.heap.size≠rb:=by have:=h.z;omega
 cases hc:a_ (tk (jm s 0) k) V_
 .refine cz.xN h (Im hc) λH=>?_;go_enter func248,ntmps248;go_wp2_with fail;refine H.own.CI hc ?_;go_wp2_with fail;refine H.own.name ?_;intro t w2 H Ht;go_wp2_with fail;refine H.box.take ?_;intro w3 H;go_wp2_with fail;have⟨_,c1,f1,z1⟩:=H.p;have⟨c2,f2,z2⟩:=H.bo o
  cases hA:fin (jm s 0) (bP (jm s 0) n<|k+1+1)with
  |error f'=>
   go_region_dies
   all_goals(refine(IH _ _ _ _ _ _ H.drew.sx ae).mono ?_;intro e w5 hp;obtain⟨rfl,hb⟩:=H.drew.lost (R':=yo) hp hA;exact⟨rfl,hb⟩)
  |ok rr=>
  obtain⟨a,k4⟩:=rr;go_region_with(go_at_call 249;refine(IH _ _ _ _ _ _ H.drew.sx ae).mono ?_;intro e w5 hp;obtain⟨v,rfl,H,V⟩:=H.drew.aY hp hA;obtain⟨tv,xv,rfl⟩:=V.iface;have⟨⟨_,c1,f1,z1⟩,_⟩:=H.p;have⟨c2,f2,z2⟩:=H.bo o;clear hp V)
  all_goals(
   go_wp2_with fail;obtain⟨_,rfl,⟨cF,fF,zF⟩,h⟩:=Io (c:=10) (bb:=false) o rfl Ht H rfl rfl (.inl rfl)
   exact bodyPost_ret (by simp[results,Tryz.results248,go_sem,cF]) rfl h)
 .refine cz.xN h (RX hc) λH=>?_;go_enter func248,ntmps248;go_wp2_with fail;refine H.own.zO hc ?_;intro w1 H;go_wp2_with fail;refine H.name ?_;intro t w2 H Ht;go_wp2_with fail;refine H.box.take ?_;intro w3 H;go_wp2_with fail;have⟨_,c1,f1,z1⟩:=H.p;have⟨c2,f2,z2⟩:=H.bo o
  cases hA:fin (jm s 0) (sF (jm s 0) (bP (jm s 0) n)<|k+1+1+1)with
  |error f'=>
   go_region_dies
   all_goals(refine(pW hs IH H.drew.sx ae).mono ?_;intro e w5 hp;obtain⟨rfl,hb⟩:=H.drew.lost (R':=yo) hp hA;exact⟨rfl,hb⟩)
  |ok rr=>
  obtain⟨a,k4⟩:=rr;go_region_with(go_at_call 180;refine(pW hs IH H.drew.sx ae).mono ?_;intro e w5 hp;obtain⟨v,rfl,H,V⟩:=H.drew.aY hp hA;obtain⟨tv,xv,rfl⟩:=V.iface;have⟨⟨_,c1,f1,z1⟩,_⟩:=H.p;have⟨c2,f2,z2⟩:=H.bo o;clear hp V)
  all_goals(
   go_wp2_with fail;obtain⟨_,rfl,⟨cF,fF,zF⟩,h⟩:=Io (c:=11) (bb:=true) o rfl Ht H rfl rfl (.inr rfl)
   exact bodyPost_ret (by simp[results,Tryz.results248,go_sem,cF]) rfl h)
def FM w b(F:BA->Option Nat):=∃L,MS jt w b L/\∀x,aY x L=(F x).map λ(n:Nat)=>Nv n
def FM.lt(h:FM w b F):b<w.heap.size:=qAr
def FM.same(h:FM w b F)(hb:w'.heap[b]? =w.heap[b]?):FM w' b F:=qAs
def FM.below(h:FM w b F)(hb:Bq w w'):FM w' b F:=h.same<|hb.block b h.lt
def FM.ke(h:FM w b F)(hk:Ke c w w')(hn:b≠c):FM w' b F:=h.same<|hk.block b h.lt hn
def yp w:(zeroValue 3).run ja w=.ok (Iv 0) w:=qkr
def lkV(c:Bool):Option Nat->Value
 |some n=>if c then .tuple #[Nv n,.bool true]else Nv n|none=>if c then .tuple #[Iv 0,.bool false]else Iv 0
def FM.look(h:FM w b F)x c:(jx 209 (Mv b) (.string x) c).run ja w=.ok (lkV c<|F x) w:=by
 obtain⟨L,h1,h2⟩:=h;rw[h1.look (KL.str jd) jc (yp w) x trivial (λ_ _=>trivial) c,h2 x]
 cases F x<;>rfl
def FM.put(h:∀x,aY x L=(F x).map λ(n:Nat)=>Nv n)s n:∀x,aY x (bD s (Nv n) L)=(fE F s n x).map λ(n:Nat)=>Nv n:=by grind[aY,bD,fE,aJ]
def RY w x c:(jx 209 (.map none) (.string x) c).run ja w=.ok (lkV c none) w:=by
 rw[jx];simp only[Sem.run_bind,run_underlying jc,jv];have hf:(Instr.findKey 9 (Sv x) []).run ja w=.ok none w:=(KL.str jd).fin x [] [] w trivial ag rfl
 cases c<;>simp[yp,jv,(KL.str jd).chk,lkV,hf]
def DR w v F:=(v=.map none/\F=λ_=>none)\/∃b,v=Mv b/\FM w b F
def DR.look{v}(h:DR w v F)x c:(jx 209 v (.string x) c).run ja w=.ok (lkV c<|F x) w:=by
 obtain⟨rfl,rfl⟩|⟨b,rfl,h⟩:=h
 .exact RY w x c
 .exact h.look x c
def O_{p:Prop}(h:p:=by
 rw[hF]at hl;simp only[lkV,if_true]at hl;go_enter func240,ntmps240
 go_wp2
 go_ret
 exact⟨rfl,rfl⟩):p:=h
def Pa(h:DR w v F)s:Cq 240 #[v,.string s] w λe w'=>e=.returned (.bool (F s).isSome)/\w'=w:=by
 have hl:=h.look s true
 cases hF:F s with
 |none=>
  exact O_
 |some n=>
  exact O_
def Pb(h:DR w v F)s n:Cq 271 #[v,.string s,Nv n] w λe w'=>e=.returned (.bool<|F s==some n)/\w'=w:=by
 have hl:=h.look s true
 cases hF:F s with
 |none=>
  rw[hF]at hl;simp only[lkV,if_true]at hl;go_enter func271,ntmps271
  go_wp2
  go_ret;exact⟨rfl,rfl⟩
 |some m=>
  rw[hF]at hl;simp only[lkV,if_true]at hl
  have HE:=ai (show(some m==some n)=((m:Int)==(n:Int)) by
   by_cases e:m=n
   .simp[e]
   .have h1:((m:Int)==(n:Int))=false:=bQ
    rw[h1];simp[e])
  rw[uh HE];go_enter func271,ntmps271
  go_wp2
  go_ret;exact⟨rfl,rfl⟩
def LM w b(lo:BA->Nat):=∃L,MS jt w b L/\∀x,aY x L=some (Nv<|lo x)\/(aY x L=none/\lo x=0)
structure CK w cb tb mb lb ty mk lo(f:Fl):Prop where
 bx:Bx w cb #[Mv tb,Mv mb,Mv lb,Nv f.kind,Nv f.al,Nv f.to]
 t:FM w tb ty
 m:FM w mb mk
 l:LM w lb lo
 ct:cb≠tb
 cm:cb≠mb
 cl:cb≠lb
 tm:tb≠mb
 tl:tb≠lb
 ml:mb≠lb
def LM.lt{b}(h:LM w b lo):b<w.heap.size:=qAr
def LM.same{b}(h:LM w b lo)(hb:w'.heap[b]? =w.heap[b]?):LM w' b lo:=qAs
def LM.look{b}(h:LM w b lo)x:(jx 209 (Mv b) (.string x) false).run ja w=.ok (Nv<|lo x) w:=by
 obtain⟨L,h1,h2⟩:=h;rw[h1.look (KL.str jd) jc (yp w) x trivial (λ_ _=>trivial) false];obtain q|⟨q,q2⟩:=h2 x
 .rw[q];rfl
 .rw[q,q2];rfl
def LM.put(h:∀x,aY x L=some (Nv<|lo x)\/(aY x L=none/\lo x=0))s n:∀x,aY x (bD s (Nv n) L)=some (.int .i64 ((if x=s then n else lo x:Nat):Int))\/(aY x (bD s (Nv n) L)=none/\(if x=s then n else lo x)=0):=by grind[aY,bD,aJ]
def CK.z(h:CK w cb tb mb lb ty mk lo f):cb<w.heap.size:=h.bx.z
def CK.ke(h:CK w cb tb mb lb ty mk lo f)(k:Ke cb w w')(b:Bx w' cb #[Mv tb,Mv mb,Mv lb,Nv f'.kind,Nv f'.al,Nv f'.to]):CK w' cb tb mb lb ty mk lo f':=
 ⟨b,h.t.ke k<|λe=>h.ct e.symm,h.m.ke k<|λe=>h.cm e.symm,h.l.same<|k.block lb h.l.lt<|λe=>h.cl e.symm,h.ct,h.cm,h.cl,h.tm,h.tl,h.ml⟩
def CK.af(h:CK w cb tb mb lb ty mk lo f)(k:Bq w w'):CK w' cb tb mb lb ty mk lo f:=h.ke (Ke.of k)<|h.bx.below k
def CK.drewN(h:CK w cb tb mb lb ty mk lo f)n:CK (w.drewN n) cb tb mb lb ty mk lo f:=h.af<|(j3 _ _).drewN n
abbrev cp b:=Pv b
def Pc{p:Prop}(h:p:=by
 go_enter func241,ntmps241
 go_wp2
 go_quiet(fail)
 go_wp2
 go_end0
 exact⟨rfl,(uh<|HY _).1,(uh<|HY _).2⟩):p:=h
def pX(h:CK w cb tb mb lb ty mk lo f)(k a b:Nat):Calls ja 241 #[cp cb,.int .i64 (k:Int),.agg #[.int .i64 (a:Int),.int .i64 (b:Int)]] w λe w'=>e=.returned (.tuple #[])/\Ke cb w w'/\CK w' cb tb mb lb ty mk lo (tell k a b f):=by
 have hz:=h.z;have⟨cx,HB⟩:=mM w #[.int .i64 (a:Int),.int .i64 (b:Int)] 131;have H:=h.af cx;have HK:=Ke.of (rb:=cb) cx;have yes:∀q,(f.kind=0\/a<f.al)->Hid (Ke cb w ((((((w.alloc<|Cv #[.int .i64 (a:Int),.int .i64 (b:Int)] 131).drewN q).setCell ⟨cb,3,none⟩<|.int .i64 (k:Int)).setCell ⟨cb,4,none⟩<|.int .i64 (a:Int)).setCell ⟨cb,5,none⟩<|.int .i64 (b:Int)))/\CK (((((w.alloc<|Cv #[.int .i64 (a:Int),.int .i64 (b:Int)] 131).drewN q).setCell ⟨cb,3,none⟩<|.int .i64 (k:Int)).setCell ⟨cb,4,none⟩<|.int .i64 (a:Int)).setCell ⟨cb,5,none⟩<|.int .i64 (b:Int)) cb tb mb lb ty mk lo (tell k a b f)):=λq hq=>by
  have H':=H.drewN q;have K':Ke cb ((w.alloc<|Cv #[.int .i64 (a:Int),.int .i64 (b:Int)] 131).drewN q) (((((w.alloc<|Cv #[.int .i64 (a:Int),.int .i64 (b:Int)] 131).drewN q).setCell ⟨cb,3,none⟩<|.int .i64 (k:Int)).setCell ⟨cb,4,none⟩<|.int .i64 (a:Int)).setCell ⟨cb,5,none⟩<|.int .i64 (b:Int)):=(((Ke.refl cb _).set 3 _).set 4 _).set 5 _;refine ai ⟨(HK.trans<|Ke.of<|(j3 _ _).drewN q).trans K',?_⟩;rw[tell];rw[if_pos hq];exact H'.ke K'<|((H'.bx.aO 3 (.int .i64 (k:Int)) #[.map<|some tb,.map<|some mb,.map<|some lb,.int .i64 (k:Int),.int .i64 (f.al:Int),.int .i64 (f.to:Int)] rfl ag).aO 4 (.int .i64 (a:Int)) #[.map<|some tb,.map<|some mb,.map<|some lb,.int .i64 (k:Int),.int .i64 (a:Int),.int .i64 (f.to:Int)] rfl ag).aO 5 (.int .i64 (b:Int)) _ rfl ag
 have⟨c,ff,z⟩:=H.bx;obtain⟨c1,f1,z1⟩:=HB;by_cases h0:f.kind=0
 .have h0':((f.kind:Int)==0)=true:=by simp[h0]
  have HY:=λq=>yes q<|jq h0;exact Pc
 .have h0':((f.kind:Int)==0)=false:=bQ;by_cases h1:a<f.al
  .have h1':(a:Int)<(f.al:Int):=ae;have HY:=λq=>yes q<|jp h1;exact Pc
  .have h1':decide ((a:Int)<(f.al:Int))=false:=bQ;have e:tell k a b f=f:=by rw[tell];rw[if_neg ae]
   rw[e];go_enter func241,ntmps241
   go_wp2
   go_quiet(fail)
   go_wp2
   go_end0;exact⟨rfl,HK.trans<|Ke.of<|(j3 _ _).drewN _,H.drewN _⟩
def Kf own(F:BA->Option Nat):=∀s:BA,(∃r,s.toList=39::r)->(F<|s.extract 1 s.size).isSome=fC s own
def DR.ke{w w'}{v}{F}{cb}(h:DR w v F)(k:Ke cb w w')(hn:∀b,v=Mv b->b≠cb):DR w' v F:=by
 obtain h|⟨b,rfl,h⟩:=h
 .exact jq h
 .exact jp ⟨b,rfl,h.ke k<|hn b rfl⟩
def DR.af(h:DR w v F)(k:Bq w w'):DR w' v F:=by
 obtain h|⟨b,rfl,h⟩:=h
 .exact jq h
 .exact jp ⟨b,rfl,h.below k⟩
structure CT cb tb mb lb ty mk lo ov F w0 f wr:Prop where
 d:CK wr cb tb mb lb ty mk lo f
 k:Ke cb w0 wr
 o:DR wr ov F
 n:∀b,ov=Mv b->b≠cb
section
variable {ov:Value} {wr:World} {own:List BA}
def CT.af(h:CT cb tb mb lb ty mk lo ov F w0 f wr)(hb:Bq wr w'):CT cb tb mb lb ty mk lo ov F w0 f w':=⟨h.d.af hb,h.k.eZ hb,h.o.af hb,h.n⟩
def CT.ke(h:CT cb tb mb lb ty mk lo ov F w0 f wr)(hk:Ke cb wr w')(d:CK w' cb tb mb lb ty mk lo f'):CT cb tb mb lb ty mk lo ov F w0 f' w':=⟨d,h.k.trans hk,h.o.ke hk h.n,h.n⟩
def PT.keB(h:PT w (·<B) nd v)(k:Ke cb w w')(hB:B<=cb):PT w' (·<B) nd v:=h.ke k λb(p:b<B)=>ae
def PTC nd:=∀(w:World)(cb tb mb lb B:Nat)(ty mk:BA->Option Nat)(lo:BA->Nat)(f:Fl)(v ov:Value)(F:BA->Option Nat)(own:List BA),CK w cb tb mb lb ty mk lo f->B<=cb->PT w (·<B) nd v->DR w ov F->(∀b,ov=Mv b->b≠cb)->Kf own F->Sm nd->
 Cq 242 #[cp cb,v,ov] w λe w'=>e=.returned (.tuple #[])/\Ke cb w w'/\CK w' cb tb mb lb ty mk lo (tV ty own nd f)
def TSR cb tb mb lb ty mk lo ov F w0 f own(L:List Nd)gk c wr:=∃j:Nat,Hid (gk=L.length-j)/\j<=L.length/\c=Nv j/\CT cb tb mb lb ty mk lo ov F w0 (ir ty own (L.take j) f) wr
def Dl{p:Prop}(h:p:=by
 go_wp2
 go_end0
 exact⟨rfl,XR.k,XR.d⟩):p:=h
def AB{L:List Nd}{sa}{vs:Nat->Value}(IH:∀x∈L,PTC x)(h:CK w cb tb mb lb ty mk lo f)(hB:B<=cb)(aN:L=[]\/∃g,sa=some ⟨g,0,none⟩/\g<B/\g<w.heap.size/\∀i,i<L.length->w.cell? ⟨g,i,none⟩=some (vs i))(hr:∀i(h:i<L.length),PT w (·<B) L[i]<|vs i)(ho:DR w ov F)(hn:∀b,ov=Mv b->b≠cb)(hO:Kf own F)(hS:∀x∈L,Sm x)(hL:L.length<=1000):
 Cq 174 #[cp cb,.slice sa L.length sc,ov] w λe w'=>e=.returned (.tuple #[])/\Ke cb w w'/\CK w' cb tb mb lb ty mk lo (ir ty own L f):=by
 have X0:CT cb tb mb lb ty mk lo ov F w f w:=⟨h,Ke.refl _ _,ho,hn⟩;obtain⟨Z,HZ⟩:∃Z,Hid<|Z=ir ty own L f:=⟨_,ai rfl⟩;rw[<-uh HZ];go_enter func174,ntmps174
 go_wp2
 go_loopg[10] L.length (λgk c wr=>TSR cb tb mb lb ty mk lo ov F w f own L gk c wr)
 case atStart=>exact⟨0,ai rfl,Nat.zero_le _,rfl,X0⟩
 case round=>
  obtain⟨j,c_,hj,rfl,hX⟩:=hrel;have XR:=ai hX;by_cases bA:j<L.length
  .have hd:(j:Int)<(L.length:Int):=ae;obtain⟨g,rfl,Vi,kC,hc⟩:∃g,sa=some ⟨g,0,none⟩/\g<B/\g<w.heap.size/\∀i,i<L.length->w.cell? ⟨g,i,none⟩=some (vs i):=by
    obtain e|e:=aN
    .exact absurd bA QX
    .exact e
   have hcj:=(XR.k.cell kC ae).trans<|hc j bA;have HC:=IH L[j] (jf bA) _ cb tb mb lb B ty mk lo _ (vs j) ov F own XR.d hB ((hr j bA).keB XR.k hB) XR.o XR.n hO<|hS _<|jf bA;rw[<-RE _ _ _ _ _ bA]at HC;go_wp2_with fail;refine HC.mono ?_;rintro e w2⟨rfl,k2,d2⟩;have X2:=XR.ke k2 d2
   go_wp2
   go_roundg(L.length-(j+1))
   case measure=>rw[uh c_];omega
   case rel=>exact⟨j+1,ai rfl,ae,iF,X2⟩
  .have hd:decide ((j:Int)<(L.length:Int))=false:=bQ;have he:L.take j=L:=ji ae;rw[he,<-uh HZ]at XR;exact Dl
def ae1{ty}{own}{fr:Nat}{z:Fl}:tV ty own (.mk 16 s n [] fr t a) z=bi (!fC s own) 4 fr (fr+s.size) z:=by
 rw[tV];rfl
def ahj{ty}{own}{fr:Nat}{L:List Nd}{z:Fl}:tV ty own (.mk 2 s n L fr t a) z=ir ty own L (bi (ty s !=some L.length) 4 a (a+s.size) z):=by
 conv=>lhs;rw[tV]
 rfl
def Pd{ty}{own}{fr:Nat}{x y}{z:Fl}(hk:k=6\/k=17):tV ty own (.mk k s n [x,y] fr t a) z=tV ty own y (tV ty own x z):=by
 obtain rfl|rfl:=hk
 .conv=>lhs;rw[tV]
  rfl
 .conv=>lhs;rw[tV]
  rfl
def Pe{p:Prop}(h:p:=by
 have HC:=ai<|Js p ag _ cb tb mb lb B ty mk lo f _ ov F own X1.d hB HA X1.o X1.n HO<|HS p ag;obtain⟨c1,f1,y1⟩:=uh B1;clear cx HX ha hb;go_enter func242,ntmps242;go_wp2_with fail;refine HC.mono ?_;rintro e w2⟨rfl,k2,d2⟩;have X2:=ai<|X1.ke k2 d2;have B2:=ai<|B1.ri k2 ae;have ed:=ai<|HB.keB k2 hB;obtain⟨c2,f2,y2⟩:=uh B2;have rl:=ai<|Js q ag _ cb tb mb lb B ty mk lo _ _ ov F own X2.d hB ed X2.o X2.n HO<|HS q ag;clear k2 d2 HC c1 f1 y1;go_wp2_with fail;refine rl.mono ?_;rintro e w3⟨rfl,k3,d3⟩;have X3:=ai<|X2.ke k3 d3;clear k3 d3 rl
 go_wp2
 go_end0
 exact⟨rfl,X3.k,X3.d⟩):p:=h
def Pf{p:Prop}(h:p:=by
 all_goals(
  go_wp2_with fail
  go_meet
  case rel=>exact⟨rfl,X1.af (j3 _ _).drew,B1.g_⟩)):p:=h
def FK:∀nd,PTC nd:=by
 refine Nd.ind ?_;intro k s n L fr t a IH w cb tb mb lb B ty mk lo f v ov F own h hB hx ho hn hO hs;have Js:=ai IH;have HS:=ai hs.part;have⟨hL,hf4,ha4,hs4⟩:=hs.len;have HO:=ai hO;have X0:Hid (CT cb tb mb lb ty mk lo ov F w f w):=ai ⟨h,Ke.refl _ _,ho,hn⟩;have HX:=ai hx;have hcz:=h.z;clear h IH hs ho hn hO
 cases hx with
 |var _ _ _ _ _ x y hq Dm Zf=>
  subst Dm Zf;have⟨cx,B1⟩:=sf w #[Nv fr,.int .i64 ((fr+s.size:Nat):Int),Sv<|s.extract 1 s.size] 159;have X1:=ai<|X0.af cx;have HC:=ai<|Pa X1.o<|s.extract 1 s.size;have HE:=ai<|HO s hq;rw[ae1];have⟨c1,f1,y1⟩:=uh B1;clear cx HX;go_enter func242,ntmps242;go_wp2_with fail;refine HC.mono ?_;rintro e w1⟨rfl,rfl⟩;rw[uh HE]
  cases qJ:fC s own with
  |true=>
   go_wp2
   go_end0;exact⟨rfl,X1.k,by rw[qJ];exact X1.d⟩
  |false=>
   have rl:=ai<|pX X1.d 4 fr<|fr+s.size;go_wp2_with fail;refine rl.mono ?_;rintro e w2⟨rfl,k2,d2⟩;have X2:=ai<|X1.ke k2 d2;clear k2 d2 rl HC
   go_wp2
   go_end0;exact⟨rfl,X2.k,by rw[qJ];exact X2.d⟩
 |fn _ _ p q _ _ _ x y va vb ha hb=>
  obtain⟨t1,x1,rfl⟩:=ha.iface;obtain⟨t2,x2,rfl⟩:=hb.iface;have⟨cx,B1⟩:=sf w #[Iv x,Iv y,Fv t1<|Av x1,Fv t2<|Av x2] 161;have X1:=ai<|X0.af cx;have HA:=ai<|ha.af cx;have HB:=ai<|hb.af cx;rw[Pd<|jp rfl];exact Pe
 |pr _ _ p q _ _ _ x y va vb ha hb=>
  obtain⟨t1,x1,rfl⟩:=ha.iface;obtain⟨t2,x2,rfl⟩:=hb.iface;have⟨cx,B1⟩:=sf w #[Iv x,Iv y,Fv t1<|Av x1,Fv t2<|Av x2] 163;have X1:=ai<|X0.af cx;have HA:=ai<|ha.af cx;have HB:=ai<|hb.af cx;rw[Pd<|jq rfl];exact Pe
 |up _ _ _ _ _ _ x y x' y' sa sc vs hu aN hr Dm Zf=>
  subst Dm;have HY:=ai Zf;clear Zf;have⟨cx,B1⟩:=sf w #[Iv x,Iv y,Nv a,Iv y',Sv s,Lv sa L.length sc] 166;have X1:=ai<|X0.af cx;have HR:=ai hr;have HW:Hid (L=[]\/∃g,sa=some ⟨g,0,none⟩/\g<B/\g<w.heap.size/\∀i,i<L.length->w.cell? ⟨g,i,none⟩=some (vs i)):=ai aN;rw[ahj];obtain⟨Z,HZ⟩:∃Z,Hid<|Z=ir ty own L (bi (ty s !=some L.length) 4 a (a+s.size) f):=⟨_,ai rfl⟩;rw[<-uh HZ];have⟨c1,f1,y1⟩:=uh B1;have⟨c2,f2,y2⟩:=X1.d.bx;clear cx HX aN hr;go_enter func242,ntmps242;go_wp2_with fail;go_cut[37]from 26 (λv wc=>v=.bool (ty s !=some L.length)/\CT cb tb mb lb ty mk lo ov F w f wc/\Bx wc w.heap.size #[Iv x,Iv y,Nv a,Iv y',Sv s,Lv sa L.length sc])
  case first=>
   go_region_with(go_at_call 271;refine(Pb (v:=Mv tb) (jp ⟨tb,rfl,(X1.af (j3 _ _).drew).d.t⟩) s L.length).mono ?_;rintro e w2⟨rfl,rfl⟩);all_goals exact Pf
  case rest=>
   obtain⟨rfl,hX,hB2⟩:=hcut;have X2:=ai hX;have B2:=ai hB2;clear hX hB2 X1 B1 c1 f1 y1 c2 f2 y2;have⟨c1,f1,y1⟩:=uh B2
   go_upto_if 37 with(fail)
   go_cut[]from 14 (λwc=>CT cb tb mb lb ty mk lo ov F w (bi (ty s !=some L.length) 4 a (a+s.size) f) wc/\Bx wc w.heap.size #[Iv x,Iv y,Nv a,Iv y',Sv s,Lv sa L.length sc])
   case first=>
    cases hb:(ty s !=some L.length)with
    |true=>
     have HC:=ai<|pX X2.d 4 a<|a+s.size;rw[<-uh HY]at HC;go_wp2_with fail;refine HC.mono ?_;rintro e w2⟨rfl,k2,d2⟩;have X3:=ai<|X2.ke k2 d2;have B3:=ai<|B2.ri k2 ae;clear k2 d2 HC;go_wp2_with fail
     go_meet
     case rel=>rw[hb];exact⟨X3,B3⟩
    |false=>
     go_wp2_with fail
     go_meet
     case rel=>rw[hb];exact⟨X2,B2⟩
   case rest=>
    obtain⟨hX,Mh⟩:=hcut;have X3:=ai hX;have B3:=ai Mh;clear hX Mh X2 B2 c1 f1 y1;have⟨c1,f1,y1⟩:=uh B3
    have HC:=ai (AB (sa:=sa) (sc:=sc) (vs:=vs) (own:=own) (λx hx=>Js x hx) X3.d hB (by
     obtain q|⟨g,e,q1,q2,q3⟩:=uh HW
     .exact jq q
     .exact jp ⟨g,e,q1,Nat.lt_of_lt_of_le q2 X3.k.size,λi hi=>(X3.k.cell q2 ae).trans<|q3 i hi⟩) (λi hi=>(HR i hi).keB X3.k hB) X3.o X3.n HO HS hL)
    rw[<-uh HZ]at HC;go_wp2_with fail;refine HC.mono ?_;rintro e w2⟨rfl,k2,d2⟩;have X4:=ai<|X3.ke k2 d2
    go_wp2
    go_end0;exact⟨rfl,X4.k,X4.d⟩
end
section
open Go.MapKept
def MB(w:World)(b:Nat)(L:List (BA×Value)):=∃es clock,w.heap[b]? =some (.map es clock)/\es.toList.map (λe=>(e.key,e.val))=L.map (λp=>(jt p.1,p.2))/\(es.toList.map (·.born)).Nodup/\∀e∈es.toList,e.born<clock
def MB.ms(h:MB w b L):MS jt w b L:=by obtain⟨es,c,h1,h2,_⟩:=h;exact⟨es,c,h1,h2⟩
def MB.lt(h:MB w b L):b<w.heap.size:=h.ms.lt
def MB.same(h:MB w b L)(hb:w'.heap[b]? =w.heap[b]?):MB w' b L:=by obtain⟨es,c,h1,h2⟩:=h;exact⟨es,c,hb.trans h1,h2⟩
def MB.new(w:World):MB (w.alloc<|.map #[] 0) w.heap.size []:=⟨#[],0,(j8 w _).1,rfl,ag,ag⟩
def uF(l:List MapEntry)j f(hf:∀e,(f e).born=e.born):(l.modify j f).map (·.born)=l.map (·.born):=by
 induction l generalizing j with
 |nil=>cases j<;>simp|cons e r ih=>grind
def MB.put(h:MB w b L)x v:∃o,(jy 209 (Mv b) (.string x) v).run ja w=.ok () (setBlock w b o)/\MB (setBlock w b o) b (bD x v L):=by
 obtain⟨es,clock,hb,l9,hn,hk⟩:=h;have K:=KL.str (P:=ja) jd;have hf:=K.fin x L es.toList w trivial (λ_ _=>trivial) l9;rw[jy];simp only[Sem.run_bind,run_underlying jc,jv,MapKept.run_getObj_map hb,K.chk,hf]
 cases vD:vC x L 0 with
 |none=>
  refine⟨.map (es.push {key:=Sv x,val:=v,born:=clock})<|clock+1,by rw[vD]at hf;simp[hf,jv];exact j7 _ hb,_,_,(heap_setBlock_same hb _),?_,?_,?_⟩
  .rw[nF x v L<|nH x L 0 vD];simp[l9]
  .simp only[Array.toList_push,List.map_append,jh,List.map_nil];rw[List.nodup_append];refine⟨hn,ag,?_⟩;intro a ha c hc;obtain⟨e,he,rfl⟩:=List.mem_map.1 ha;simp only[List.mem_singleton]at hc;have:=hk e he;omega
  .grind
 |some p=>
  obtain⟨j,u⟩:=p;have⟨_,e0,h2,h3,h4⟩:=Ct (enc:=Sv) x v L es.toList 0 j u l9 vD;have Jl:es[j]? =some e0:=by simpa using h2
  refine⟨.map (es.modify j λe=>{e with key:=Sv x,val:=v}) clock,?_,_,_,(heap_setBlock_same hb _),by simpa using h4,?_,?_⟩
  .rw[vD]at hf;simp[hf,jv,Jl,h3,Instr.keyThatStays,K.bit];exact j7 _ hb
  .rw[j6,uF es.toList j (λe=>{e with key:=Sv x,val:=v}) (λ_=>rfl)];exact hn
  .intro e he;have:e.born∈(es.modify j λe=>{e with key:=Sv x,val:=v}).toList.map (·.born):=jj he;rw[j6,uF es.toList j (λe=>{e with key:=Sv x,val:=v}) (λ_=>rfl)]at this;have⟨e',h1,h2⟩:=List.mem_map.1 this;rw[<-h2];exact hk e' h1
def n8{ops}{rest}{o}{a}{Q}(hg:o.guard=none)m x v(qB:o.op=Op.insert 209 m x v\/o.op=Op.mapUpdate 209 m x v)(hm:a.eval m=Mv b)(hM:MB w b L)key val(hx:a.eval x=.string key)(hv:a.eval v=val)(hK:∀w',MB w' b (bD key val L)->One b w w'->wpList ja ops Q rest (a.put o.dst undef) w'):
 wpList ja ops Q (o::rest) a w:=by
 refine wpList_plain hg λK' hK'=>?_;have⟨ob,kJ,r1⟩:=hM.put key val;rw[Oper.wp];obtain qB|qB:=qB<;>
 .simp[execOp,qB,hm,hx,hv,kJ,jv];exact hK' _ _<|hK _ r1<|One.set w b ob
def GM w b p:=∃L,MB w b L/\(L.map (·.1)).Nodup/\∀x,aY x L=if fC x p then some (Iv 1)else none
def Lk(h:(L.map (·.1)).Nodup):((bD s v L).map (·.1)).Nodup:=by
 have hm:∀(L:List (BA×Value))x,x∈(bD s v L).map (·.1)->x=s\/x∈L.map (·.1):=by
  intro L x
  induction L with
  |nil=>simp[bD]|cons p r ih=>
   rw[bD];split
   .grind
   .grind
 induction L with
 |nil=>simp[bD]|cons p r ih=>
  simp only[jh,jk]at h;rw[bD];split
  .rename_i e;simp only[jh,jk];exact⟨e▸h.1,h.2⟩
  .rename_i e;simp only[jh,jk];refine⟨λq=>?_,ih h.2⟩;obtain q|q:=hm r _ q
   .exact e q
   .exact h.1 q
def GM.lt(h:GM w b p):b<w.heap.size:=qAr
def GM.same(h:GM w b p)(hb:w'.heap[b]? =w.heap[b]?):GM w' b p:=qAs
def GM.mv(h:GM w b p):DR w (Mv b) (λx=>if fC x p then some 1 else none):=by
 obtain⟨L,h1,_,h2⟩:=h;refine jp ⟨b,rfl,L,h1.ms,λx=>?_⟩;rw[h2 x];show _=Option.map _ (if fC x p=true then some 1 else none)
 cases fC x p<;>rfl
theorem GM.bD(h2:(L.map (·.1)).Nodup)(h:∀x,aY x L=if fC x p then some (Iv 1)else none)(hM:MB w' b (Go.Proofs.YtfnkchdeheeiiaaGreatDoor.bD s (Iv 1) L)):GM w' b (p++[s]):=by
 refine⟨_,hM,Lk h2,λx=>?_⟩;rw[aJ,h x];have e:fC x (p++[s])=(fC x p||decide (s=x)):=by unfold fC;rw[List.any_append];simp only[List.any_cons,List.any_nil,Bool.or_false]
 rw[e];by_cases q:s=x
 .simp[q]
 .simp[q]
def GM.new(w:World):GM (w.alloc<|.map #[] 0) w.heap.size []:=⟨[],MB.new w,ag,λx=>by simp[aY,fC]⟩
end
structure CP cb tb mb lb gb ty mk lo w0(q:List BA×Fl)wr:Prop where
 d:CK wr cb tb mb lb ty mk lo q.2
 k:Fr (λb=>b=cb\/b=gb) w0 wr
 g:GM wr gb q.1
 n:gb≠cb/\gb≠tb/\gb≠mb/\gb≠lb
section
variable {wr:World} {q q':List BA×Fl}
def CP.af(h:CP cb tb mb lb gb ty mk lo w0 q wr)(hb:Bq wr w'):CP cb tb mb lb gb ty mk lo w0 q w':=⟨h.d.af hb,h.k.trans<|Fr.of hb,h.g.same<|hb.block gb h.g.lt,h.n⟩
def CP.ke(h:CP cb tb mb lb gb ty mk lo w0 (p,f) wr)(hk:Ke cb wr w')(d:CK w' cb tb mb lb ty mk lo f'):CP cb tb mb lb gb ty mk lo w0 (p,f') w':=⟨d,h.k.trans ⟨hk.os,hk.tape,hk.output,hk.size,λb hb hn=>hk.block b hb<|λe=>hn<|jq e⟩,h.g.same<|hk.block gb h.g.lt h.n.1,h.n⟩
def CP.fr(h:CP cb tb mb lb gb ty mk lo w0 q wr)(k:Fr (λb=>b=cb\/b=gb) wr w')(d:CK w' cb tb mb lb ty mk lo q'.2)(g:GM w' gb q'.1):CP cb tb mb lb gb ty mk lo w0 q' w':=⟨d,h.k.trans k,g,h.n⟩
def CK.one(h:CK w cb tb mb lb ty mk lo f)(o:One gb w w')(n:gb≠cb/\gb≠tb/\gb≠mb/\gb≠lb):CK w' cb tb mb lb ty mk lo f:=
 ⟨h.bx.one o n.1.symm,h.t.same<|o.block tb n.2.1.symm,h.m.same<|o.block mb n.2.2.1.symm,h.l.same<|o.block lb n.2.2.2.symm,h.ct,h.cm,h.cl,h.tm,h.tl,h.ml⟩
def CP.one(h:CP cb tb mb lb gb ty mk lo w0 (p,f) wr)(o:One gb wr w'){p'}(g:GM w' gb p'):CP cb tb mb lb gb ty mk lo w0 (p',f) w':=
 ⟨h.d.one o h.n,h.k.trans ⟨o.os,o.tape,o.output,Jc,λb _ hn=>o.block b<|λe=>hn<|jp e⟩,g,h.n⟩
def PP.Nj(h:PP w (·<B) nd v)(k:Fr S w w')(hB:∀b,b<B->¬S b):PP w' (·<B) nd v:=h.move k.size (λb p z=>k.block b z<|hB b p)<|λ_ p _=>p
def PPC nd:=∀(w:World)(cb tb mb lb gb B:Nat)(ty mk:BA->Option Nat)(lo:BA->Nat)(f:Fl)(v:Value)(p:List BA),CK w cb tb mb lb ty mk lo f->B<=cb->B<=gb->PP w (·<B) nd v->GM w gb p->(gb≠cb/\gb≠tb/\gb≠mb/\gb≠lb)->Sm nd->
 Cq 272 #[cp cb,v,Mv gb] w λe w'=>e=.returned (.tuple #[])/\Fr (λb=>b=cb\/b=gb) w w'/\CK w' cb tb mb lb ty mk lo (nB mk nd (p,f)).2/\GM w' gb (nB mk nd (p,f)).1
def ahk{fr}{L:List Nd}:nB mk (.mk 1 s n L fr t a) (p,f)=(p++[s],bi (fC s p) 5 fr t f):=by rw[nB];rfl
def ahl{fr}{L:List Nd}:nB mk (.mk 2 s n L fr t a) (p,f)=dK mk L (p,bi (mk s !=some L.length) 5 a (a+s.size) f):=by
 conv=>lhs;rw[nB]
 rfl
def acL{fr}{L:List Nd}(hk:k≠1/\k≠2):nB mk (.mk k s n L fr t a) (p,f)=dK mk L (p,f):=by grind[nB,dK,bi]
def PPR cb tb mb lb gb ty mk lo w0 q(L:List Nd)xb C gk c wr:=∃j:Nat,Hid (gk=L.length-j)/\j<=L.length/\c=Nv j/\CP cb tb mb lb gb ty mk lo w0 (dK mk (L.take j) q) wr/\Bx wr xb C
def vW{p:Prop}(h:p:=by
 rw[acL aK,show dK mk [] (p,f)=(p,f) by unfold dK;rfl];go_enter func272,ntmps272
 go_wp2
 go_end0
 exact⟨rfl,X0.k,X0.d,X0.g⟩):p:=h
def RZ:∀nd,PPC nd:=by
 refine Nd.ind ?_;intro k s n L fr t a Js w cb tb mb lb gb B ty mk lo f v p h hB hBg HA hg hn hs;have HS:=ai hs.part;have⟨hL,hf4,ha4,hs4⟩:=hs.len;have X0:Hid (CP cb tb mb lb gb ty mk lo w (p,f) w):=ai ⟨h,Fr.refl _ _,hg,hn⟩;have hcz:=h.z;have kC:=hg.lt;have xF:∀b,b<B->¬(b=cb\/b=gb):=λb hb q=>ae;have hnS:¬(w.heap.size=cb\/w.heap.size=gb):=λq=>ae;clear h hs hg hn
 cases HA with
 |any _ _ _ _ _=>
  exact vW
 |num _ _ _ _ _=>
  exact vW
 |word _ _ _ _ _ _=>
  exact vW
 |unit _ _ _ _ _=>
  exact vW
 |low _ _ _ _ _ hl=>
  have⟨cx,B1⟩:=sf w #[Nv fr,Nv t,Sv s] 356;have X1:=ai<|X0.af cx;have HC:=Pa X1.g.mv s;rw[ahk];have⟨c1,f1,y1⟩:=uh B1;clear cx;go_enter func272,ntmps272;go_wp2_with fail;refine HC.mono ?_;rintro e w1⟨rfl,rfl⟩
  cases qJ:fC s p with
  |true=>
   have rl:=pX X1.d 5 fr t;simp only[if_true,Option.isSome_some];go_wp2_with fail;refine rl.mono ?_;rintro e w2⟨rfl,k2,d2⟩;have X2:=X1.ke k2 d2;have B2:=ai<|B1.ri k2<|λe=>hnS<|jq e;have⟨L2,AD,Lb,hG2⟩:=X2.g;have Jt:=And.intro Lb hG2;clear k2 d2 rl HC c1 f1 y1 Lb hG2;have⟨c1,f1,y1⟩:=uh B2;go_wp2_with(refine n8 rfl _ _ _ (jp rfl) rfl AD s (Iv 1) rfl rfl ?_;intro w3 H' O';have X3:=ai<|X2.one O'<|GM.bD Jt.1 Jt.2 H';clear H' O');go_end0;exact⟨rfl,X3.k,by rw[qJ];exact X3.d,X3.g⟩
  |false=>
   simp only[Bool.false_eq_true,if_false,Option.isSome_none];have⟨L2,AD,Lb,hG2⟩:=X1.g;have Jt:=And.intro Lb hG2;clear Lb hG2 HC;go_wp2_with(refine n8 rfl _ _ _ (jp rfl) rfl AD s (Iv 1) rfl rfl ?_;intro w3 H' O';have X3:=ai<|X1.one O'<|GM.bD Jt.1 Jt.2 H';clear H' O');go_end0;exact⟨rfl,X3.k,X3.d,X3.g⟩
 |pr _ _ x y _ _ _ vx vy HA hy=>
  obtain⟨u1,x1,rfl⟩:=HA.iface;obtain⟨u2,x2,rfl⟩:=hy.iface;have⟨cx,B1⟩:=sf w #[Nv fr,Nv t,Fv u1<|Av x1,Fv u2<|Av x2] 328;have X1:=ai<|X0.af cx;have HB:=ai hy;rw[acL aK,show dK mk [x,y] (p,f)=nB mk y (nB mk x (p,f)) by unfold dK;unfold dK;unfold dK;rfl];have HC:=Js x ag _ cb tb mb lb gb B ty mk lo f _ p X1.d hB hBg (HA.Nj X1.k xF) X1.g X1.n<|HS x ag;have⟨c1,f1,y1⟩:=uh B1;clear cx hy;generalize nB mk x (p,f)=q1 at HC⊢;obtain⟨p1,z1⟩:=q1;go_enter func272,ntmps272;go_wp2_with fail;refine HC.mono ?_;rintro e w2⟨rfl,k2,d2,g2⟩;have X2:=X1.fr (q':=(p1,z1)) k2 d2 g2;have B2:=ai<|B1.fr k2 hnS;have⟨c2,f2,y2⟩:=uh B2;have rl:=Js y ag _ cb tb mb lb gb B ty mk lo z1 _ p1 X2.d hB hBg (HB.Nj X2.k xF) X2.g X2.n<|HS y ag;clear k2 d2 g2 HC c1 f1 y1;go_wp2_with fail;refine rl.mono ?_;rintro e w3⟨rfl,k3,d3,g3⟩;have X3:=ai<|X2.fr (q':=nB mk y (p1,z1)) k3 d3 g3;clear k3 d3 g3 rl
  go_wp2
  go_end0;exact⟨rfl,X3.k,X3.d,X3.g⟩
 |up _ _ _ _ _ _ y sa sc vs hu hy aN hr=>
  have HY:=ai hy;have⟨cx,B1⟩:=sf w #[Nv fr,Nv t,Nv a,Nv y,Sv s,Lv sa L.length sc] 307;have X1:=ai<|X0.af cx;have HW:Hid (L=[]\/∃g,sa=some ⟨g,0,none⟩/\g<B/\g<w.heap.size/\∀i,i<L.length->w.cell? ⟨g,i,none⟩=some (vs i)):=ai aN;rw[ahl];obtain⟨Z,HZ⟩:∃Z,Hid<|Z=dK mk L (p,bi (mk s !=some L.length) 5 a (a+s.size) f):=⟨_,ai rfl⟩;rw[<-uh HZ];have⟨c1,f1,y1⟩:=uh B1;have⟨c2,f2,y2⟩:=X1.d.bx;clear cx aN hy;go_enter func272,ntmps272;go_wp2_with fail;go_cut[40]from 29 (λv wc=>v=.bool (mk s !=some L.length)/\CP cb tb mb lb gb ty mk lo w (p,f) wc/\Bx wc w.heap.size #[Nv fr,Nv t,Nv a,Nv y,Sv s,Lv sa L.length sc])
  case first=>
   go_region_with(go_at_call 271;refine(Pb (v:=Mv mb) (jp ⟨mb,rfl,(X1.af (j3 _ _).drew).d.m⟩) s L.length).mono ?_;rintro e w2⟨rfl,rfl⟩);all_goals exact Pf
  case rest=>
   obtain⟨rfl,hX,hB2⟩:=hcut;have X2:=ai hX;have B2:=ai hB2;clear hX hB2 X1 B1 c1 f1 y1 c2 f2 y2;have⟨c1,f1,y1⟩:=uh B2
   go_upto_if 40 with(fail)
   go_cut[]from 15 (λwc=>CP cb tb mb lb gb ty mk lo w (p,bi (mk s !=some L.length) 5 a (a+s.size) f) wc/\Bx wc w.heap.size #[Nv fr,Nv t,Nv a,Nv y,Sv s,Lv sa L.length sc])
   case first=>
    cases hb:(mk s !=some L.length)with
    |true=>
     have HC:=pX X2.d 5 a<|a+s.size;rw[<-uh HY]at HC;have HTT:=show bi true 5 a (a+s.size) f=tell 5 a y f by rw[uh HY];rfl
     go_wp2_with fail;refine HC.mono ?_;rintro e w2⟨rfl,k2,d2⟩;have X3:=ai<|X2.ke k2 d2;have B3:=ai<|B2.ri k2<|λe=>hnS<|jq e;clear k2 d2 HC;go_wp2_with fail
     go_meet
     case rel=>rw[hb,HTT];exact⟨X3,B3⟩
    |false=>
     go_wp2_with fail
     go_meet
     case rel=>rw[hb];exact⟨X2,B2⟩
   case rest=>
    obtain⟨hX,Mh⟩:=hcut;have X3:=ai hX;have B3:=ai Mh;clear hX Mh X2 B2 c1 f1 y1;generalize bi (mk s !=some L.length) 5 a (a+s.size) f=z2 at X3 HZ;have⟨c1,f1,y1⟩:=uh B3;go_wp2_with fail;clear c1 f1 y1;go_loopg[49] L.length (λgk c wr=>PPR cb tb mb lb gb ty mk lo w (p,z2) L w.heap.size #[Nv fr,Nv t,Nv a,Nv y,Sv s,Lv sa L.length sc] gk c wr)
    case atStart=>exact⟨0,ai rfl,Nat.zero_le _,rfl,X3,B3⟩
    case round=>
     clear X3 B3;obtain⟨j,c_,hj,rfl,hX,hB4⟩:=hrel;have XR:=ai hX;have BR:=ai hB4;clear hX hB4;have⟨c1,f1,y1⟩:=uh BR;by_cases bA:j<L.length
     .have hd:(j:Int)<(L.length:Int):=ae;obtain⟨g,rfl,Vi,ae2,hc⟩:∃g,sa=some ⟨g,0,none⟩/\g<B/\g<w.heap.size/\∀i,i<L.length->w.cell? ⟨g,i,none⟩=some (vs i):=by
       obtain e|e:=uh HW
       .exact absurd bA QX
       .exact e
      have hcj:=(World.cell?_of_block (a:=⟨g,j,none⟩)<|XR.k.block g ae2<|xF g Vi).trans<|hc j bA;have HT:=RG mk L (p,z2) j bA;generalize dK mk (L.take j) (p,z2)=qj at XR HT;obtain⟨pj,zj⟩:=qj;have HC:=Js L[j] (jf bA) _ cb tb mb lb gb B ty mk lo zj (vs j) pj XR.d hB hBg ((hr j bA).Nj XR.k xF) XR.g XR.n<|HS _<|jf bA;rw[<-HT]at HC;clear hc;go_wp2_with fail;refine HC.mono ?_;rintro e w2⟨rfl,k2,d2,g2⟩;have X4:=XR.fr (q':=dK mk (L.take<|j+1) (p,z2)) k2 d2 g2;have B4:=ai<|BR.fr k2 hnS
      go_wp2
      go_roundg(L.length-(j+1))
      case measure=>rw[uh c_];omega
      case rel=>exact⟨j+1,ai rfl,ae,iF,X4,B4⟩
     .have hd:decide ((j:Int)<(L.length:Int))=false:=bQ;have he:L.take j=L:=ji ae;rw[he,<-uh HZ]at XR
      go_wp2
      go_end0;exact⟨rfl,XR.k,XR.d,XR.g⟩
end
section
open Go.MapKept
def IT(w:World)(r gb:Nat)(p done:List BA)cnt:=∃(es:Array MapEntry)(clock since:Nat)(seen:Array Nat)(c0:Nat)(L:List (BA×Value)),w.heap[gb]? =some (.map es clock)/\es.toList.map (λe=>(e.key,e.val))=L.map (λp=>(jt p.1,p.2))/\(es.toList.map (·.born)).Nodup/\(∀e∈es.toList,e.born<since)/\since<=c0/\since<=clock/\w.heap[r]? =some (.mapIter (some gb) since seen c0)/\(L.map (·.1)).Nodup/\(∀x,aY x L=if fC x p then some (Iv 1)else none)/\(leftOf es seen).size=cnt/\∀e∈es.toList,∀x,e.key=.string x->(seen.contains e.born=true↔x∈done)
def Dn{x:BA}:∀{L:List (BA×Value)},(aY x L).isSome=true↔x∈L.map (·.1)
 |[]=>by simp[aY]|p::l=>by
  rw[aY];split
  .rename_i e;simp[e]
  .rename_i e;rw[Dn (L:=l)];simp only[jh,jl];exact⟨jp,λq=>q.elim (λq=>absurd q.symm e) id⟩
def abc{es:List MapEntry}(h:es.map (λe=>(e.key,e.val))=L.map (λp=>(jt p.1,p.2))):es.map (·.key)=(L.map (·.1)).map jt:=by
 have:=congrArg (List.map Prod.fst) h;simpa[List.map_map,Function.comp_def]using this
def IT.same{cnt}(h:IT w r gb p done cnt)(h1:w'.heap[gb]? =w.heap[gb]?)(h2:w'.heap[r]? =w.heap[r]?):IT w' r gb p done cnt:=by
 obtain⟨es,clock,since,seen,c0,L,a1,a2,a3,a4,a5,a6,a7,a8⟩:=h;exact⟨es,clock,since,seen,c0,L,h1.trans a1,a2,a3,a4,a5,a6,h2.trans a7,a8⟩
def IT.lt{cnt}(h:IT w r gb p done cnt):gb<w.heap.size/\r<w.heap.size/\gb≠r:=by
 obtain⟨es,clock,since,seen,c0,L,a1,a2,a3,a4,a5,a6,a7,a8⟩:=h;refine⟨(Array.getElem?_eq_some_iff.1 a1).1,(Array.getElem?_eq_some_iff.1 a7).1,λe=>?_⟩;rw[e,a7]at a1
 cases a1
def GM.range(h:GM w gb p):∃o cnt,(Instr.range 209<|Mv gb).run ja w=.ok (Pv w.heap.size) (w.alloc o)/\IT (w.alloc o) w.heap.size gb p [] cnt:=by
 obtain⟨L,⟨es,clock,a1,a2,a3,a4⟩,a5,a6⟩:=h;have bA:=(Array.getElem?_eq_some_iff.1 a1).1;refine⟨_,_,run_range_map w 209 _ _ gb es clock jc a1,es,clock,clock,#[],clock,L,((j8 w _).2 _ bA).trans a1,a2,a3,a4,br _,br _,heap_alloc_new w _,a5,a6,rfl,λe he x hx=>ag⟩
def IT.next{cnt}(h:IT w r gb p done cnt):((∀x,fC x p=true->x∈done)/\(∀x,x∈done->fC x p=true->True)/\(jz (Pv r) false 0).run ja w=.ok (.tuple #[.bool false]) w)\/
 ∃x v w1 aB,x∉done/\fC x p=true/\(jz (Pv r) false 0).run ja w=.ok (.tuple #[.bool true,.string x,v]) w1/\IT w1 r gb p (x::done) aB/\aB<cnt/\Fr (λb=>b=r) w w1/\w1.heap.size=w.heap.size/\(Instr.entry<|Pv r).run ja w1=.ok (.tuple #[.string x,v]) w1:=by
 have⟨hg1,hr1,dw⟩:=h.lt;obtain⟨es,clock,since,seen,c0,L,a1,a2,a3,a4,a5,a6,a7,a8,a9,a10,a11⟩:=h;have Wy:=abc a2;rcases run_next_at (P:=ja) w 0 r gb since c0 seen es clock a7 a1 a4 a5 with⟨h0,kJ⟩|⟨e,he,w1,vo,kJ⟩
 .left;refine⟨λx hx=>?_,λ_ _ _=>trivial,kJ⟩;have qJ:=Dn.1 (by rw[a9 x,hx];rfl);have:Sv x∈es.toList.map (·.key):=yV;have⟨e,he,hk⟩:=List.mem_map.1 this;exact(a11 e he x hk).1 (all_seen es seen h0 e he)
 .right;have⟨Tj,he2⟩:=mem_left he;obtain⟨x,hx⟩:∃x,e.key=Sv x:=by
   have:e.key∈es.toList.map (·.key):=jj Tj;rw[Wy]at this;have⟨x,_,q⟩:=List.mem_map.1 this;exact⟨x,q.symm⟩
  have hxL:x∈L.map (·.1):=by
   have:e.key∈es.toList.map (·.key):=jj Tj;rw[Wy,hx]at this;have⟨y,hy,q⟩:=List.mem_map.1 this
   cases q;exact hy
  have yP:x∉done:=λq=>by
   have:=(a11 e Tj x hx).2 q;rw[he2]at this;cases this
  have hp:fC x p=true:=by
   have:=Dn.2 hxL;rw[a9 x]at this
   cases hq:fC x p with
   |true=>rfl|false=>grind
  have K9:w1.heap=w.heap:=by obtain rfl|rfl:=vo<;>rfl
  have b1:∀k,k≠r->(setBlock w1 r<|.mapIter (some gb) since (seen.push e.born) clock).heap[k]? =w.heap[k]? :=λk hk=>by
   have:(setBlock w1 r<|.mapIter (some gb) since (seen.push e.born) clock).heap[k]? =w1.heap[k]? :=by simp[setBlock,j5,Ne.symm hk]
   rw[this,K9]
  have b2:(setBlock w1 r<|.mapIter (some gb) since (seen.push e.born) clock).heap[r]? =some (.mapIter (some gb) since (seen.push e.born) clock):=by
   have hr2:r<w1.heap.size:=by rw[K9];exact hr1
   simp[setBlock,j5,hr2]
  have eG:(setBlock w1 r<|.mapIter (some gb) since (seen.push e.born) clock).heap.size=w.heap.size:=by simp[setBlock,K9]
  have hnk:(es.toList.map (·.key)).Nodup:=yV;refine⟨x,e.val,_,_,yP,hp,by rw[kJ,hx],⟨es,clock,since,seen.push e.born,clock,L,(b1 gb dw).trans a1,a2,a3,a4,a6,a6,b2,a8,a9,rfl,λe' he' y hy=>?_⟩,by rw[<-a10];exact left_shrinks es seen e he,⟨by obtain rfl|rfl:=vo<;>rfl,by obtain rfl|rfl:=vo<;>rfl,by obtain rfl|rfl:=vo<;>rfl,by rw[eG];exact br _,λk _ hk=>b1 k hk⟩,eG,?_⟩
  .rw[contains_push];simp only[Bool.or_eq_true,beq_iff_eq,jl];constructor
   .rintro(q|q)
    .grind
    .have:e'=e:=born_inj a3 he' Tj q;rw[this,hx]at hy
     cases hy;exact jq rfl
   .rintro(q|q)
    .right;have:e'=e:=by
      have hk:e'.key=e.key:=by rw[hy,hx,q]
      exact entry_eq_of_key (by rw[List.Nodup,List.pairwise_map]at hnk;exact hnk) he' Tj hk
     rw[this]
    .grind
  .have:=run_entry_at (P:=ja) (setBlock w1 r<|.mapIter (some gb) since (seen.push e.born) clock) r gb since seen es clock e b2 ((b1 gb dw).trans a1) Tj a3;rw[hx]at this;exact this
def Jo(lo:BA->Nat)(l:List BA):=∀x,lo x≠0↔x∈l
structure CE cb tb mb lb ty mk lo w0 f wr:Prop where
 d:CK wr cb tb mb lb ty mk lo f
 k:Fr (λb=>b=cb\/b=lb) w0 wr
section
variable {Vl:BA->Nat} {wr:World}
def CE.af(h:CE cb tb mb lb ty mk lo w0 f wr)(hb:Bq wr w'):CE cb tb mb lb ty mk lo w0 f w':=⟨h.d.af hb,h.k.trans<|Fr.of hb⟩
def CE.ke(h:CE cb tb mb lb ty mk lo w0 f wr)(hk:Ke cb wr w')(d:CK w' cb tb mb lb ty mk lo f'):CE cb tb mb lb ty mk lo w0 f' w':=⟨d,h.k.trans ⟨hk.os,hk.tape,hk.output,hk.size,λb hb hn=>hk.block b hb<|λe=>hn<|jq e⟩⟩
def CE.fr(h:CE cb tb mb lb ty mk lo w0 f wr)(k:Fr (λb=>b=cb\/b=lb) wr w')(d:CK w' cb tb mb lb ty mk Vl f'):CE cb tb mb lb ty mk Vl w0 f' w':=⟨d,h.k.trans k⟩
def CE.put(h:CE cb tb mb lb ty mk lo w0 f wr)(o:One lb wr w')(hM:MS jt w' lb L)(hL:∀x,aY x L=some (Nv<|Vl x)\/(aY x L=none/\Vl x=0)):CE cb tb mb lb ty mk Vl w0 f w':=
 ⟨⟨h.d.bx.one o h.d.cl,h.d.t.same<|o.block tb h.d.tl,h.d.m.same<|o.block mb h.d.ml,⟨L,hM,hL⟩,h.d.ct,h.d.cm,h.d.cl,h.d.tm,h.d.tl,h.d.ml⟩,h.k.trans ⟨o.os,o.tape,o.output,Jc,λb _ hn=>o.block b<|λe=>hn<|jp e⟩⟩
def CK.frN(h:CK w cb tb mb lb ty mk lo f)(k:Fr (λb=>b=r) w w')(n:r≠cb/\r≠tb/\r≠mb/\r≠lb):CK w' cb tb mb lb ty mk lo f:=
 ⟨h.bx.fr k n.1.symm,h.t.same<|k.block tb h.t.lt n.2.1.symm,h.m.same<|k.block mb h.m.lt n.2.2.1.symm,h.l.same<|k.block lb h.l.lt n.2.2.2.symm,h.ct,h.cm,h.cl,h.tm,h.tl,h.ml⟩
def CE.frN(h:CE cb tb mb lb ty mk lo w0 f wr){r}(k:Fr (λb=>b=r) wr w')(n:r≠cb/\r≠tb/\r≠mb/\r≠lb)(hr:w0.heap.size<=r):CE cb tb mb lb ty mk lo w0 f w':=
 ⟨h.d.frN k n,h.k.trans' k<|λb q=>jp (by have q:b=r:=q;omega)⟩
def CK.lts(h:CK w cb tb mb lb ty mk lo f):cb<w.heap.size/\tb<w.heap.size/\mb<w.heap.size/\lb<w.heap.size:=⟨h.z,h.t.lt,h.m.lt,h.l.lt⟩
def PE.Nj(h:PE w (·<B) nd v)(k:Fr S w w')(hB:∀b,b<B->¬S b):PE w' (·<B) nd v:=h.move k.size (λb p z=>k.block b z<|hB b p)<|λ_ p _=>p
def PT.Nj(h:PT w (·<B) nd v)(k:Fr S w w')(hB:∀b,b<B->¬S b):PT w' (·<B) nd v:=h.move k.size (λb p z=>k.block b z<|hB b p)<|λ_ p _=>p
def PXC nd:=∀(w:World)(cb tb mb lb B:Nat)(ty mk:BA->Option Nat)(lo:BA->Nat)(f:Fl)(v:Value)(l:List BA),CK w cb tb mb lb ty mk lo f->B<=cb->B<=lb->PE w (·<B) nd v->Jo lo l->(∀x,lo x+nn nd<=5000)->Sm nd->
 Cq 177 #[cp cb,v] w λe w'=>e=.returned (.tuple #[])/\Fr (λb=>b=cb\/b=lb) w w'/\CK w' cb tb mb lb ty mk lo (dM ty mk nd l f)
def loU(lo:BA->Nat)done:=λx=>lo x+if fC x done then 1 else 0
def loD(lo:BA->Nat)done:=λx=>lo x-if fC x done then 1 else 0
def XH(h:x∉done):(λy=>if y=x then loU lo done x+1 else loU lo done y)=loU lo (x::done):=by grind[loU,fC]
def XI(h:x∉done):(λy=>if y=x then loD lo done x-1 else loD lo done y)=loD lo (x::done):=by grind[loD,fC]
def Ip{p}(h1:∀x,fC x p=true->x∈done)(h2:∀x∈done,fC x p=true)x:fC x done=fC x p:=by grind[fC]
def Jo.app(h:Jo lo l)p:Jo (λx=>lo x+if fC x p then 1 else 0) (l++p):=by grind[Jo,fC]
def UPR cb tb mb lb ty mk lo w0 f r gb p gk wr:=∃done,IT wr r gb p done gk/\(∀x∈done,fC x p=true)/\CE cb tb mb lb ty mk (loU lo done) w0 f wr
def DNR cb tb mb lb ty mk lo w0 f r gb p gk wr:=∃done,IT wr r gb p done gk/\(∀x∈done,fC x p=true)/\CE cb tb mb lb ty mk (loD lo done) w0 f wr
def Pg{p:Prop}(h:p:=by
 have I5:=HI1.same (O3.block gb hn.2.2.2)<|O3.block _ hrn.2.2.2;go_roundg aB
 case measure=>exact DZ
 case rel=>exact⟨x::done,I5,by intro y hy;obtain rfl|q:=List.mem_cons.1 hy;exact HXP;exact HD y q,X5⟩):p:=h
def rX(HE:PXC nd)(h:CK w cb tb mb lb ty mk lo f)(hB:B<=cb)(zI:B<=lb)(hx:PE w (·<B) nd v)(hg:GM w gb p)(hn:gb≠cb/\gb≠tb/\gb≠mb/\gb≠lb)(hl:Jo lo l)(pC:∀x,lo x+1+nn nd<=5000)(hs:Sm nd):
 Calls ja 175 #[cp cb,.map<|some gb,v] w λe w'=>e=.returned (.tuple #[])/\Fr (λb=>b=cb\/b=lb) w w'/\CK w' cb tb mb lb ty mk lo (dM ty mk nd (l++p) f):=by
 have⟨o,cnt,Y_,kT⟩:=hg.range;have cx:Below w.heap.size w (w.alloc o):=bw _;have X0:CE cb tb mb lb ty mk lo w f (w.alloc o):=⟨h.af cx,Fr.of cx⟩;have⟨z1,z2,z3,z4⟩:=h.lts;have HI:=ai kT;have kC:=hg.lt;have xF:∀b,b<B->¬(b=cb\/b=lb):=λb hb q=>ae;have Tn:=ai hl;obtain⟨t1,x1,rfl⟩:=hx.iface;obtain⟨f2,HZ⟩:∃Z,Hid<|Z=dM ty mk nd (l++p) f:=⟨_,ai rfl⟩;rw[<-uh HZ];go_enter func175,ntmps175
 go_wp2
 go_loopg[] cnt (λgk wr=>UPR cb tb mb lb ty mk lo w f w.heap.size gb p gk wr)
 case atStart=>exact⟨[],HI,ag,by have:=X0;exact this⟩
 case round=>
  obtain⟨done,kT,hdn,hX⟩:=hrel;have XR:=ai hX;have HI:=ai kT;have HD:=ai hdn;have hsw:=hX.k.size;have hiz:=kT.lt;obtain⟨ha,-,Bz⟩|⟨x,u,w1,aB,hxd,Mg,Bz,DY,bA,u_,eG,hen⟩:=HI.next
  .have eL:loU lo done=λx=>lo x+if fC x p then 1 else 0:=by funext y;rw[loU];rw[Ip ha HD y]
   rw[eL]at XR;obtain⟨lo2,XK⟩:∃lo2,Hid<|lo2=λx=>lo x+if fC x p then 1 else 0:=⟨_,ai rfl⟩;rw[<-uh XK]at XR;have HC:=HE wr cb tb mb lb B ty mk lo2 f _ (l++p) XR.d hB zI (hx.Nj XR.k xF) (by rw[uh XK];exact Tn.app p) (λx=>by rw[uh XK];have:=pC x;show lo x+(if fC x p=true then 1 else 0)+nn nd<=5000;split<;>omega) hs;rw[<-uh HZ]at HC;have GR:=hg.same (XR.k.block gb kC (λq=>by obtain q|q:=q;exact hn.1 q;exact hn.2.2.2 q));go_wp2_with fail;refine HC.mono ?_;rintro e w2⟨rfl,k2,d2⟩;have X2:=ai<|XR.fr k2 d2;have G2:=GR.same (k2.block gb hiz.1 (λq=>by obtain q|q:=q;exact hn.1 q;exact hn.2.2.2 q));have⟨o2,cA,ajW,HI2⟩:=G2.range;have X3:Hid (CE cb tb mb lb ty mk lo2 w f2<|w2.alloc o2):=ai<|X2.af<|bw _;have z2w:=X2.k.size
   go_wp2
   go_loopg[] cA (λgk wr=>DNR cb tb mb lb ty mk lo2 w f2 w2.heap.size gb p gk wr)
   case atStart=>exact⟨[],HI2,ag,by have:=uh X3;exact this⟩
   case round=>
    obtain⟨done,HI,HD,XR⟩:=hrel;have hsw:=XR.k.size;have hiz:=HI.lt;obtain⟨ha,-,Bz⟩|⟨x,u,w1,aB,HXD,HXP,Bz,HI1,bA,HFR,eG,hen⟩:=HI.next
    .have eL:loD lo2 done=lo:=by
      funext y;rw[loD];rw[Ip ha HD y,uh XK];show lo y+(if fC y p=true then 1 else 0)-(if fC y p=true then 1 else 0)=lo y;omega
     rw[eL]at XR;exact Dl
    .have hrn:w2.heap.size≠cb/\w2.heap.size≠tb/\w2.heap.size≠mb/\w2.heap.size≠lb:=⟨ae,ae,ae,ae⟩;have X4:=XR.frN HFR hrn ae;obtain⟨N,hN⟩:∃N,Hid<|N=loD lo2 done x:=⟨_,ai rfl⟩;have hl:=X4.d.l.look x;rw[<-uh hN]at hl;have⟨L,HM,HL⟩:=X4.d.l;have hN5:1<=N/\N<=6000:=by
      have h1:=pC x;have h2:=Dg.2 HXD;have h3:N=lo x+1:=by rw[uh hN,uh XK];rw[loD];rw[h2];simp[HXP]
      omega
     have hN6:(1:Int)<=(N:Int):=ae;have hN7:(N:Int)<=6000:=ae;have⟨c1,f1,y1⟩:=X4.d.bx;have DZ:=bA;go_wp2_with(refine aU _ rfl _ _ _ _ (jp rfl) (KL.str jd) jc _ _ rfl HM x (.int .i64<|(N:Int)-1) rfl rfl trivial (λ_ _=>trivial) ?_;intro w3 H' O';have M3:=ai H';have O3:=ai O';clear H' O');have hv:(ju .i64<|(N:Int)-1)=.int .i64 ((N-1:Nat):Int):=by rw[Int.natCast_sub hN5.1];rfl
     rw[hv]at M3;have X5:=X4.put O3 M3<|LM.put HL x<|N-1;rw[uh hN,XI HXD]at X5;exact Pg
  .have hrn:w.heap.size≠cb/\w.heap.size≠tb/\w.heap.size≠mb/\w.heap.size≠lb:=⟨ae,ae,ae,ae⟩;have X4:=XR.frN u_ hrn<|br _;obtain⟨N,hN⟩:∃N,Hid<|N=loU lo done x:=⟨_,ai rfl⟩;have hl:=X4.d.l.look x;rw[<-uh hN]at hl;have⟨L,HM,HL⟩:=X4.d.l;have hN7:(N:Int)<=6000:=by
    have h1:=pC x;have h2:N=lo x+(if fC x done then 1 else 0):=uh hN;have h3:(if fC x done=true then 1 else 0)<=1:=by split<;>omega
    omega
   have⟨c1,f1,y1⟩:=X4.d.bx;have HI1:=ai DY;have HXD:=ai hxd;have HXP:=ai Mg;have DZ:=bA;go_wp2_with(refine aU _ rfl _ _ _ _ (jp rfl) (KL.str jd) jc _ _ rfl HM x (.int .i64<|(N:Int)+1) rfl rfl trivial (λ_ _=>trivial) ?_;intro w3 H' O';have M3:=ai H';have O3:=ai O';clear H' O');have hv:(ju .i64<|(N:Int)+1)=.int .i64 ((N+1:Nat):Int):=rfl;rw[hv]at M3;have X5:=X4.put O3 M3<|LM.put HL x<|N+1;rw[uh hN,XH HXD]at X5;exact Pg
end
section
variable {wr:World}
def CE.frG(h:CE cb tb mb lb ty mk lo w0 f wr)(k:Fr (λb=>b=cb\/b=gb) wr w')(hg:w0.heap.size<=gb)(d:CK w' cb tb mb lb ty mk lo f'):CE cb tb mb lb ty mk lo w0 f' w':=
 ⟨d,h.k.trans' k (λb q=>by
  obtain q|q:=q
  .omega
  .exact jp ae)⟩
def AMR cb tb mb lb ty mk lo w0 f l(A:List (Nd×Nd))gk c wr:=∃j:Nat,Hid (gk=A.length-j)/\j<=A.length/\c=Nv j/\CE cb tb mb lb ty mk lo w0 (Lc ty mk l (A.take j) f) wr
def ae3{A}{g}{vp ve:Nat->Value}(HA:∀q∈A,PXC q.2)(h:CK w cb tb mb lb ty mk lo f)(hB:B<=cb)(zI:B<=lb)(Vi:g<B)(hg:g<w.heap.size)(hc:∀i,i<A.length->(∃u v,w.cell? ⟨g,i*4,none⟩=some (Iv u)/\w.cell? ⟨g,i*4+1,none⟩=some (Iv v))/\w.cell? ⟨g,i*4+2,none⟩=some (vp i)/\w.cell? ⟨g,i*4+3,none⟩=some (ve i))(hp:∀i(h:i<A.length),PP w (·<B) A[i].1<|vp i)(he:∀i(h:i<A.length),PE w (·<B) A[i].2<|ve i)(hl:Jo lo l)(pC:∀x,lo x+1+bY (aT A)<=5000)(hS:∀x∈aT A,Sm x)(hL:A.length<=1000):
 Cq 244 #[cp cb,.slice (some ⟨g,0,none⟩) A.length sc] w λe w'=>e=.returned (.tuple #[])/\Fr (λb=>b=cb\/b=lb) w w'/\CK w' cb tb mb lb ty mk lo (oV ty mk (aT A) l f):=by
 have iE:= @run_makeMap Tryz.prog;have HE:=ai he;have xF:∀b,b<B->¬(b=cb\/b=lb):=λb hb q=>ae;have⟨z1,z2,z3,z4⟩:=h.lts;have X0:CE cb tb mb lb ty mk lo w f w:=⟨h,Fr.refl _ _⟩;rw[OC];clear h he;obtain⟨Z,HZ⟩:∃Z,Hid<|Z=Lc ty mk l A f:=⟨_,ai rfl⟩;rw[<-uh HZ];go_enter func244,ntmps244
 go_wp2
 go_loopg[9] A.length (λgk c wr=>AMR cb tb mb lb ty mk lo w f l A gk c wr)
 case atStart=>exact⟨0,ai rfl,Nat.zero_le _,rfl,X0⟩
 case round=>
  clear X0;obtain⟨j,c_,hj,rfl,hX⟩:=hrel;have XR:=ai hX;have hsw:=hX.k.size;clear hX;by_cases bA:j<A.length
  .have hd:(j:Int)<(A.length:Int):=ae;have kZ:∀o,wr.cell? ⟨g,o,none⟩=w.cell? ⟨g,o,none⟩:=λo=>World.cell?_of_block (a:=⟨g,o,none⟩)<|XR.k.block g hg<|xF g Vi;have⟨⟨u,v,d0,d1⟩,d2,d3⟩:=hc j bA;rw[<-kZ]at d0 d1 d2 d3;have⟨t1,x1,e1⟩:=(hp j bA).iface;have⟨t2,x2,e2⟩:=(HE j bA).iface;have P1:=hp j bA;have E1:=HE j bA;rw[e1]at d2 P1;rw[e2]at d3 E1;have HT:=RI ty mk l A f j bA;have hnn:=OA A j bA;have HIN:=Db A j bA;generalize Lc ty mk l (A.take j) f=zj at XR HT;rw[OB]at HT;have cx:Bq wr ((wr.alloc<|Cv #[Iv u,Iv v,Fv t1<|Av x1,Fv t2<|Av x2] 257).alloc<|.map #[] 0):=(bw _).alloc ag _;have X1:=XR.af cx;have B1:=ai<|(Bx.new wr #[Iv u,Iv v,Fv t1<|Av x1,Fv t2<|Av x2] 257).alloc<|.map #[] 0;have G1:GM ((wr.alloc<|Cv #[Iv u,Iv v,Fv t1<|Av x1,Fv t2<|Av x2] 257).alloc<|.map #[] 0) (wr.heap.size+1) []:=(by have:=GM.new<|wr.alloc<|Cv #[Iv u,Iv v,Fv t1<|Av x1,Fv t2<|Av x2] 257;simpa using this);have HC:=ai<|RZ A[j].1 _ cb tb mb lb (wr.heap.size+1) B ty mk lo zj _ [] X1.d hB ae (P1.Nj X1.k xF) G1 ⟨ae,ae,ae,ae⟩<|hS _ HIN.1;have HA2:=HA A[j]<|jf bA;generalize nB mk A[j].1 ([],zj)=pz at HC HT;obtain⟨p,zp⟩:=pz;simp only at HC HT;have⟨c1,f1,y1⟩:=uh B1;clear cx kZ e1 e2;go_wp2_with fail;refine HC.mono ?_;rintro e w3⟨rfl,k3,d3',G3⟩;have X3:=X1.frG k3 ae d3'
   have B3:=ai<|B1.fr k3<|λq=>ae;have rl:=rX (l:=l) HA2 X3.d hB zI (E1.Nj X3.k xF) G3 ⟨ae,ae,ae,ae⟩ hl (λx=>by have:=pC x;omega)<|hS _ HIN.2;rw[<-HT]at rl;clear k3 d3' HC c1 f1 y1 d0 d1 d2 d3;have⟨c1,f1,y1⟩:=uh B3;go_wp2_with fail;refine rl.mono ?_;rintro e w4⟨rfl,k4,d4⟩;have X4:=X3.fr k4 d4
   go_wp2
   go_roundg(A.length-(j+1))
   case measure=>rw[uh c_];omega
   case rel=>exact⟨j+1,ai rfl,ae,iF,X4⟩
  .have hd:decide ((j:Int)<(A.length:Int))=false:=bQ;have he:A.take j=A:=ji ae;rw[he,<-uh HZ]at XR;exact Dl
end
end
section
open Go.MapKept Un
abbrev aiS:GH:=λ_ B M _=>B=(λ_=>False)/\M=(λ_=>False)
def R7 n w:Cq 329 #[Iv n] w λe w'=>e=.returned (.iface 169<|.agg #[.string iB,.slice none 0 0])/\w'=w:=by
 go_enter func329,ntmps329;go_wp2_with fail;refine(wG).mono ?_;rintro e w1⟨rfl,rfl⟩
 go_wp2
 go_ret;exact⟨rfl,rfl⟩
def Ll:Img 329 #[] #[] (λ_=>In.ya) (λ_ _=>True) aiS where
 eg:=enters_of Tryz.func329 qkr rfl
 mR acc B M w w' h _ _:=h
 lt acc B M w h:=yV
 call acc B M w n h _:=by
  obtain⟨rfl,rfl⟩:=h;refine(R7 (n:Int) w).mono ?_;rintro e w'⟨rfl,rfl⟩;exact⟨_,_,_,rfl,Eg _ _ qM,⟨rfl,rfl⟩,λb p=>p.elim,λb p=>p.elim,Fr.refl _ _⟩
section
variable {Q:Nat->Prop}
def Ao{t}(ht:cR w Q t v)(hz:size t<=1000000000000):Cq 318 #[v] w λe w'=>∃u,e=.returned u/\cR w' (λi=>w.heap.size<=i) (In.lZ t) u/\Bq w w':=by
 have HC:=xV Ll t [] _ _ w v Q ⟨rfl,rfl⟩ (λi hi=>trivial) hz ht<|λx _ _=>id;obtain⟨ta,xa,rfl⟩:=ht.iface;go_enter func318,ntmps318;go_wp2_with fail;refine HC.mono ?_;rintro e w1⟨u,B',M',rfl,HU,hI,hB',hM',F⟩;obtain⟨tu,xu,rfl⟩:=HU.iface;have HB:=F.none<|λ_ q=>q
 go_wp2
 go_ret;exact⟨_,rfl,HU.wide λx p=>p.2.elim (λq=>q.elim) id,HB⟩
end
end
end Go.Proofs.YtfnkchdeheeiiaaGreatDoor

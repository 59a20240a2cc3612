import Derived.Test.YtopmodaakdnliaaGreatDoorCKj0
import Derived.Test.YtopmodaakdnliaaGreatDoorCBn
import Derived.Test.YtopmodaakdnliaaGreatDoorCYb
set_option linter.all false
set_option maxRecDepth 100000
set_option maxHeartbeats 8000000
namespace Go.Proofs.YtopmodaakdnliaaGreatDoor
open _root_.List renaming take_succ_eq_append_getElem->ja,take_of_length_le->jc,foldl_append->jd,take_length->jf
open Go.Proofs.Tryz renaming prog->jh
open _root_.Array renaming replicate->ji,getD_eq_getD_getElem?->jj
open Go.World renaming cell?_of_block->jk,setCell->jl
open Go.RowKit.Below renaming refl->jm
open Go.Instr renaming typeAssert->jo,lookup->jq
open _root_.Nat renaming add_zero->jt,zero_le->ju
open Go Go.RowKit Proofs.Tryz
variable {mk:BA->Option Nat} {L l ms:List Nd} {vs:List Pu.Tok} {j n:Nat} {w:World}
section
open Go.ChangeMaps Un
def z_{nd:Nd}{k:Nat}{s:BA}(h:es nd=.mk k s n l 0 0 0):∃s' n' L f t a,nd=.mk k s' n' L f t a/\(k≠3->k≠15->s'=s)/\Hz L=l:=by
 obtain⟨k',s',n',L,f,t,a⟩:=nd;simp only[es,Nd.mk.injEq]at h;obtain⟨rfl,h1,_,h2,_⟩:=h;exact⟨s',n',L,f,t,a,rfl,λa b=>by rw[if_neg ae]at h1;exact h1,h2⟩
def Di(h:Hz L=[]):L=[]:=by cases L with|nil=>rfl|cons=>cases h
def Dj{x:Nd}(h:Hz L=x::l):∃y M,L=y::M/\es y=x/\Hz M=l:=by
 cases L with
 |nil=>cases h|cons y M=>simp only[Hz,List.cons.injEq]at h;exact⟨y,M,rfl,h⟩
def OA(c:UInt8)(h:Pu.Bv c.toNat=true):Lx true [c] [(2,[c])]:=by
 have hn:EG (abF c):=⟨c,[],abG c,h,ah⟩;have:=hn.lx
 rwa[abG]at this
end
section
open Go.ChangeMaps Go.MapKept
def kY(v:Pu.Tok):BA:=v.text.extract 1 v.text.size
def Qo:Nd->List Nd|.mk _ _ _ L _ _ _=>L
def Ik(vs:List Pu.Tok):BA->Option Nat:=vs.foldl (λF v=>wX F (kY v) 0) λ_=>none
def mkF(mk:BA->Option Nat)(ms:List Nd):BA->Option Nat:=ms.foldl (λm x=>wX m (In.Yd x) (Qo x).length) mk
structure agJ(ty mk:BA->Option Nat)(t:Pu.Tok)(vs:List Pu.Tok)(ms:List Nd):Prop where
 tn:ty t.text=none
 vo:∀j(h:j<vs.length),Ik (vs.take j) (kY vs[j])=none
 mo:∀j(h:j<ms.length),mkF mk (ms.take j) (In.Yd ms[j])=none/\MX (wX ty t.text vs.length) (Ik vs) (Qo ms[j])=true
 zo:vs.length<=1000/\ms.length<=1000/\cV ms<=1000
def agK(h:j<vs.length):Ik (vs.take<|j+1)=wX (Ik<|vs.take j) (kY vs[j]) 0:=by
 rw[Ik];rw[ja h,jd];rfl
def ajA(h:j<ms.length):mkF mk (ms.take<|j+1)=wX (mkF mk<|ms.take j) (In.Yd ms[j]) (Qo ms[j]).length:=by
 rw[mkF];rw[ja h,jd];rfl
structure CD cb tb mb lb ob ty mk lo F w0 xb C wr:Prop where
 d:CK wr cb tb mb lb ty mk lo
 k:Fr (λb=>b=tb\/b=mb) w0 wr
 o:FM wr ob F
 b:Bx wr xb C
section
variable {cb tb mb lb ob B xb:Nat} {C:Array Value} {ty F F' mk':BA->Option Nat} {lo:BA->Nat} {w0 wr w':World}
def CD.af(h:CD cb tb mb lb ob ty mk lo F w0 xb C wr)(hb:Bq wr w'):CD cb tb mb lb ob ty mk lo F w0 xb C w':=⟨h.d.af hb,h.k.trans<|Fr.of hb,h.o.below hb,h.b.below hb⟩
def CD.amc(h:CD cb tb mb lb ob ty mk lo F w0 xb C wr)(k:Fr (λb=>b=ob) wr w')(m:FM w' ob F')(n:ob≠cb/\ob≠tb/\ob≠mb/\ob≠lb)(hz:w0.heap.size<=ob)(hx:xb≠ob):CD cb tb mb lb ob ty mk lo F' w0 xb C w':=
 ⟨h.d.fr k λb q=>by subst q;exact n,h.k.trans' k<|λb q=>Or.inr (by have q:b=ob:=q;omega),m,h.b.fr k hx⟩
def CD.amd(h:CD cb tb mb lb ob ty mk lo F w0 xb C wr)(k:Fr (λb=>b=mb) wr w')(m:FM w' mb mk')(ho:ob≠mb)(hx:xb≠mb):CD cb tb mb lb ob ty mk' lo F w0 xb C w':=
 ⟨h.d.ajz k m,h.k.trans' k<|λb q=>Or.inl<|Or.inr q,h.o.same<|k.block ob h.o.lt ho,h.b.fr k hx⟩
def MY{t:Pu.Tok}{vv vm}{x y}(h:CK w cb tb mb lb ty mk lo)(hBt:B<=tb)(hBm:B<=mb)(hv:RowV QName 3 w (·<B) vs vv)(hm:RowV QMaker 6 w (·<B) ms vm)(HT:agJ ty mk t vs ms):
 Cq 84 #[cp cb,.agg #[Iv x,Iv y,Nv t.aD,Nv t.t9,.string t.text,vv,vm]] w λe w'=>e=.returned (.tuple #[])/\Fr (λb=>b=tb\/b=mb) w w'/\CK w' cb tb mb lb (wX ty t.text vs.length) (mkF mk ms) lo:=by
 obtain⟨va,vc,cv,rfl,HVR,HVQ⟩:=hv;obtain⟨ma,mc,cm,rfl,HMR,hmq⟩:=hm;have g_:= @run_makeMap Tryz.prog;have HMQ:=ai hmq;have⟨z1,z2,z3,z4⟩:=h.lts;have⟨hvz,hmz,hnz⟩:=HT.zo;have iK:=(Below.refl w.heap.size w).alloc (br _)<|Cv #[Iv x,Iv y,Nv t.aD,Nv t.t9,Sv t.text,Lv va vs.length vc,Lv ma ms.length mc] 95;have D1:=ai<|h.af iK;have HB:=ai iK;have B1:=ai<|Bx.new w #[Iv x,Iv y,Nv t.aD,Nv t.t9,Sv t.text,Lv va vs.length vc,Lv ma ms.length mc] 95;obtain⟨TY,hTY⟩:∃TY,Hid<|TY=wX ty t.text vs.length:=⟨_,ai rfl⟩;rw[<-uh hTY];have Hh:∀b,b<B->¬(b=tb\/b=mb):=λb hb q=>ae;have⟨c1,f1,y1⟩:=uh B1;have⟨c2,f2,y2⟩:=D1.bx;clear h hmq iK;go_enter func84,ntmps84;go_wp2_with fail;go_cut[]from 9 (λwc=>CK wc cb tb mb lb TY mk lo/\Fr (λb=>b=tb\/b=mb) w wc/\Bx wc w.heap.size #[Iv x,Iv y,Nv t.aD,Nv t.t9,Sv t.text,Lv va vs.length vc,Lv ma ms.length mc])
 case first=>
  go_region_with(go_at_call 122;refine(tR (D1.af (jm _ _).drew).t _ _ vs.length HT.tn).mono ?_;rintro e w3⟨rfl,k2,m2⟩;have D3:=ai<|(D1.af (jm _ _).drew).ajy k2 m2;have F3:=ai<|(Fr.of HB.drew).trans' k2 (λb q=>Or.inl (Or.inl q):∀b,b=tb->(b=tb\/b=mb)\/_);have B3:=ai<|B1.nE.fr k2 ae;clear k2 m2)
  all_goals(
   go_wp2_with fail
   go_meet
   case rel=>exact⟨by rw[uh hTY];exact D3,F3,B3⟩)
 case rest=>
  obtain⟨D2,F2,B2⟩:=hcut;have Qp:=F2.size;clear D1 HB B1 c1 f1 y1 c2 f2 y2;have X3:Hid (CD cb tb mb lb wc.heap.size TY mk lo (λ_=>none) w w.heap.size #[Iv x,Iv y,Nv t.aD,Nv t.t9,Sv t.text,Lv va vs.length vc,Lv ma ms.length mc]<|wc.alloc<|.map #[] 0):=ai ⟨D2.af<|bw _,F2.trans<|Fr.of<|bw _,⟨[],MS.new _ wc,λx=>rfl⟩,B2.alloc _⟩;have⟨zc1,zc2,zc3,zc4⟩:=D2.lts;have zB:=B2.z;have BG:wc.heap.size≠cb/\wc.heap.size≠tb/\wc.heap.size≠mb/\wc.heap.size≠lb:=⟨ae,ae,ae,ae⟩;have hxo:w.heap.size≠wc.heap.size:=ae;have⟨c1,f1,y1⟩:=X3.b;clear D2 F2 B2;go_wp2_with fail;clear c1 f1 y1;go_loopg[24] vs.length (λgk c wr=>∃i:Nat,Hid (gk=vs.length-i)/\i<=vs.length/\c=Nv i/\CD cb tb mb lb wc.heap.size TY mk lo (Ik<|vs.take i) w w.heap.size #[Iv x,Iv y,Nv t.aD,Nv t.t9,Sv t.text,Lv va vs.length vc,Lv ma ms.length mc] wr)
  case atStart=>exact⟨0,ai rfl,ju _,rfl,X3⟩
  case round=>
   clear X3;obtain⟨i,bE,hi,rfl,hX⟩:=hrel;have XR:=ai hX;have hsw:=hX.k.size;clear hX;have⟨c1,f1,y1⟩:=XR.b;by_cases aZ:i<vs.length
   .have hd:(i:Int)<(vs.length:Int):=ae;obtain⟨g,rfl,hgB,hg,oY⟩:=HVR.resolve_left λe=>by subst e;simp at aZ
    have jE:∀o,wr.cell? ⟨g,o,none⟩=w.cell? ⟨g,o,none⟩:=λo=>jk (a:=⟨g,o,none⟩)<|XR.k.block g hg<|Hh g hgB;have d0:=(jE _).trans<|oY i aZ 0 ae;have d1:=(jE _).trans<|oY i aZ 1 ae;have d2:=(jE _).trans<|oY i aZ 2 ae;obtain⟨e0,e1,e2,-⟩:=HVQ i aZ;rw[e0]at d0;rw[e1]at d1;rw[e2]at d2;simp only[jt]at d0;have iK:=(jm wr.heap.size wr).alloc (br _)<|Cv #[Nv<|vs[i].aD,Nv<|vs[i].t9,Sv<|kY vs[i]] 71;have XA:=ai<|XR.af iK;have HC:=ai<|tR (cb:=cb) XA.o (vs[i].aD:Int) (vs[i].t9:Int) 0<|HT.vo i aZ;rw[<-agK aZ]at HC;have⟨c2,f2,y2⟩:=Bx.new wr #[Nv<|vs[i].aD,Nv<|vs[i].t9,Sv<|kY vs[i]] 71
    replace d2:wr.cell? ⟨g,i*3+2,none⟩=some (Sv<|kY vs[i]):=d2
    generalize vs[i]=v at d0 d1 d2 HC XA c2 f2 y2;clear iK e0 e1 e2 jE oY;go_wp2_with fail;refine HC.mono ?_;rintro e w3⟨rfl,k2,m2⟩;have X5:=XA.amc k2 m2 BG ae hxo;clear k2 m2 HC
    go_wp2
    go_roundg(vs.length-(i+1))
    case measure=>rw[uh bE];omega
    case rel=>exact⟨i+1,ai rfl,ae,d_,X5⟩
   .have hd:decide ((i:Int)<(vs.length:Int))=false:=bi;rw[jc ae]at XR;go_wp2_with fail;clear c1 f1 y1;go_loopg[36] ms.length (λgk c wr=>∃j:Nat,Hid (gk=ms.length-j)/\j<=ms.length/\c=Nv j/\CD cb tb mb lb wc.heap.size TY (mkF mk<|ms.take j) lo (Ik vs) w w.heap.size #[Iv x,Iv y,Nv t.aD,Nv t.t9,Sv t.text,Lv va vs.length vc,Lv ma ms.length mc] wr)
    case atStart=>exact⟨0,ai rfl,ju _,rfl,XR⟩
    case round=>
     clear XR;obtain⟨j,hgj,hj,rfl,hX⟩:=hrel;have XJ:=ai hX;have hsj:=hX.k.size;clear hX;have⟨c1,f1,y1⟩:=XJ.b;by_cases Ym:j<ms.length
     .have hd':(j:Int)<(ms.length:Int):=ae;obtain⟨g,rfl,hgB,hg,oY⟩:=HMR.resolve_left λe=>by subst e;simp at Ym
      have jE:∀o,wr.cell? ⟨g,o,none⟩=w.cell? ⟨g,o,none⟩:=λo=>jk (a:=⟨g,o,none⟩)<|XJ.k.block g hg<|Hh g hgB;have d0:=(jE _).trans<|oY j Ym 0 ae;have d1:=(jE _).trans<|oY j Ym 1 ae;have d2:=(jE _).trans<|oY j Ym 2 ae;have d3:=(jE _).trans<|oY j Ym 3 ae;have d4:=(jE _).trans<|oY j Ym 4 ae;have d5:=(jE _).trans<|oY j Ym 5 ae;obtain⟨ss,nn',L,mf,mt,aa,yy,vt,e0,q0,q1,q2,q3,q4,q5,hu,hyy,ta,tc,ct,rfl,htr,HTQ⟩:=uh HMQ j Ym;rw[q0]at d0;rw[q1]at d1;rw[q2]at d2;rw[q3]at d3;rw[q4]at d4;rw[q5]at d5;simp only[jt]at d0;have HS:=ajA (mk:=mk) Ym;have⟨wY,Mm⟩:=HT.mo j Ym;have hLn:=xV<|List.getElem_mem Ym;rw[e0]at HS wY Mm hLn;rw[<-uh hTY]at Mm;simp only[In.Yd,Qo,nn]at HS wY Mm hLn;have Qq:=ai Mm;have hn4:=ai wY;have MZ:=ai HS;clear HS wY Mm;have HTR:=ai htr;have iK:=(jm wr.heap.size wr).alloc (br _)<|Cv #[Nv mf,Nv mt,Nv aa,Nv yy,Sv ss,Lv ta L.length tc] 182;have XA:=ai<|XJ.af iK;have BA:=ai<|Bx.new wr #[Nv mf,Nv mt,Nv aa,Nv yy,Sv ss,Lv ta L.length tc] 182;have⟨zr1,zr2,zr3,zr4⟩:=XJ.d.lts;have zro:=XJ.o.lt;have zrx:=XJ.b.z;have⟨c2,f2,y2⟩:=uh BA;have⟨c3,f3,y3⟩:=XA.d.bx;clear iK q0 q1 q2 q3 q4 q5 jE oY hyy htr e0 XJ c1 f1 y1;go_wp2_with fail
      go_cut[]from 37 to 56 (λwd=>CD cb tb mb lb wc.heap.size TY (wX (mkF mk<|ms.take j) ss L.length) lo (Ik vs) w w.heap.size #[Iv x,Iv y,Nv t.aD,Nv t.t9,Sv t.text,Lv va vs.length vc,Lv (some ⟨g,0,none⟩) ms.length mc] wd/\Bx wd wr.heap.size #[Nv mf,Nv mt,Nv aa,Nv yy,Sv ss,Lv ta L.length tc])
      case first=>
       go_region_with(go_at_call 122;refine(tR (XA.af (jm _ _).drew).d.m _ _ L.length hn4).mono ?_;rintro e w3⟨rfl,k2,m2⟩;have X3:=ai<|(XA.af (jm _ _).drew).amd k2 m2 BG.2.2.1 ae;have B3:=ai<|BA.nE.fr k2 ae;clear k2 m2)
       all_goals(
        go_wp2_with fail
        go_meet
        case rel=>exact⟨X3,B3⟩)
      case rest=>
       obtain⟨X4,B4⟩:=hcut;clear XA BA c2 f2 y2 c3 f3 y3;obtain⟨c2,f2,y2⟩:=B4
       have HC:=ai (Cs (sa:=ta) (sc:=tc) (vs:=λi=>ct i 0) (P:=(·<B)) (λx _=>Yn x) X4.d (by
        obtain q|⟨g',e,q1,q2,q3⟩:=uh HTR
        .exact Or.inl q
        .refine Or.inr ⟨g',e,q1,Nat.lt_of_lt_of_le q2 X4.k.size,λi hi=>?_⟩;have:=q3 i hi 0 ae;rw[Nat.mul_one,jt]at this
         exact(jk (a:=⟨g',i,none⟩)<|X4.k.block g' q2<|Hh g' q1).trans this) (λi hi=>(HTQ i hi:PT w (·<B) L[i] (ct i 0)).move X4.k.size (λb p z=>X4.k.block b z<|Hh b p) λ_ p _=>p) (Or.inr ⟨_,rfl,X4.o⟩) Qq ae)
       go_wp2_with fail;refine HC.mono ?_;rintro e w5⟨rfl,k5⟩;have X5:=X4.af k5;clear k5 HC
       go_wp2
       go_roundg(ms.length-(j+1))
       case measure=>rw[uh hgj];omega
       case rel=>exact⟨j+1,ai rfl,ae,d_,by rw[uh MZ];exact X5⟩
     .have hd':decide ((j:Int)<(ms.length:Int))=false:=bi;rw[jc ae]at XJ
      go_wp2
      go_end0;exact⟨rfl,XJ.k,XJ.d⟩
end
end
namespace Ms
def IM.snoc:∀{a:List Nd}{b:List Sk}{c:List So}{x:Nd}{s:Sk}{t:So},IM a b c->In.Pt x s t->IM (a++[x]) (b++[s]) (c++[t])
 |[],[],[],_,_,_,_,h=>⟨h,trivial⟩|_::_,_::_,_::_,_,_,_,g,h=>⟨g.1,IM.snoc g.2 h⟩|[],[],_::_,_,_,_,g,_=>g.elim|[],_::_,_,_,_,_,g,_=>g.elim|_::_,[],_,_,_,_,g,_=>g.elim|_::_,_::_,[],_,_,_,g,_=>g.elim
def Y5:∀{a:List Sk}{s:List So}(i:Nat)(h:i<a.length),Sk.iE a s->∃h':i<s.length,Sk.of a[i] s[i]
 |_::_,_::_,0,_,q=>⟨ah,q.1⟩|_::_,_::_,i+1,h,q=>by have⟨h',q'⟩:=Y5 i xB q.2;exact⟨by simpa using h',by simpa using q'⟩|_::_,[],_,_,q=>q.elim
def Y6:∀{a:List Sk}(i:Nat)(h:i<a.length),bO a[i]<=aK a
 |_::_,0,_=>by simp[aK]|_::l,i+1,h=>by have:=Y6 (a:=l) i xB;simp only[List.getElem_cons_succ,aK];omega
def adN(s:Sk):=∀(t:So)(w:World)(kb:Nat)(mv:Value)(pa:Option Addr)(pc:Nat),s.of t->VaW w kb->nL pa s.ps.length pc->aS w (λ_=>True) s.ps pa->Cq 38 #[.agg #[Mv kb,mv],.agg #[.string s.kd,Nv s.pl,.slice pa s.ps.length pc]] w (ajQ (λb=>w.heap.size<=b) s t w)
end Ms
def ag8(hn:n<=1000)(w:World):(Instr.makeSlice 183 (Nv n)<|Nv n).run jh w=.ok (.slice (some ⟨w.heap.size,0,none⟩) n n) (w.alloc<|.cells (ji n .nilIface) 115):=by
 have⟨i0,m6,ku,gS,gC⟩:=info_parts Q9;exact CH CI m6 ku rfl gS gC ae n ae w
def ag9:Ms.adN .any:=by
 intro t w kb mv pa pc ho hv sp mp;go_enter func38,ntmps38;simp only[Ms.Sk.kd,Ms.Sk.pl,Ms.Sk.ps,eF,Int.natCast_zero]
 go_wp2
 go_ret;exact⟨.mk 15 ⟨#[]⟩ 0 [] 0 0 0,_,rfl,.any ⟨#[]⟩ 0 0 0 0,.any _ _ _ _ _ _,(bw _).alloc ah _⟩
def ag_{t:Ms.So}{ps:List Ms.Sk}(ih:∀i(h:i<ps.length),Ms.adN ps[i]):Ms.adN (.hd t n ps):=by
 intro t' w kb mv pa pc ho hv sp mp;obtain⟨rfl,hH,hof⟩:=ho;have Nl:=Ms.fe hof;have UP:=Ms.ia t n;have hps:ps.length<=2:=by omega
 have HPL:=ai Nl;clear Nl UP;obtain⟨W,hW⟩:∃W,W=(w.alloc<|Cv #[Mv kb,mv] 64).alloc (Cv #[Sv<|Ms.kS t,Nv n,Lv pa ps.length pc] 122):=⟨_,rfl⟩;have K:Bq w W:=by rw[hW];exact(bw _).alloc (by simp) _
 have zW:W.heap.size=w.heap.size+2:=by rw[hW];simp
 have A0:Bx W w.heap.size #[Mv kb,mv]:=by rw[hW];exact(Bx.new _ _ _).alloc _
 have B0:Bx W (w.heap.size+1) #[Sv<|Ms.kS t,Nv n,Lv pa ps.length pc]:=by
  rw[hW];have:=Bx.new (w.alloc<|Cv #[Mv kb,mv] 64) #[Sv<|Ms.kS t,Nv n,Lv pa ps.length pc] 122;simpa using this
 have Hi:=ag8 (n:=ps.length) (by omega) W;obtain⟨W1,fV⟩:∃W1,W1=W.alloc (Cv (ji ps.length Zv) 115):=⟨_,rfl⟩;have k1:Bq W W1:=by rw[fV];exact bw _
 have K1:=K.trans<|k1.mono K.size;have A1:=A0.below k1;have B1:=B0.below k1;have G1:Bx W1 (w.heap.size+2) (ji ps.length Zv):=by rw[<-zW,fV];exact Bx.new _ _ _
 have HMP:=ai mp;have HV:=ai hv;have SP:=ai sp;have hke:=yU t;have⟨b1,b2,b3⟩:=id B0;rw[<-fV,zW]at Hi;clear hv mp sp k1 A0 B0 fV;go_enter func38,ntmps38;simp only[Ms.Sk.kd,Ms.Sk.pl,Ms.Sk.ps]
 go_upto_region 1 with fail
 rw[<-hW];clear hW;have⟨g1,g2,g3⟩:=id B1;go_wp2_with fail;clear Hi b1 b2 b3 g1 g2 g3;have zW1:w.heap.size+2<W1.heap.size:=G1.z;clear zW;go_loopg[21] ps.length (λgk c wr=>∃(j:Nat)(C:Array Value)(XU:List Nd),Hid (gk=ps.length-j)/\j<=ps.length/\c=Nv j/\Hid (C.size=ps.length/\XU.length=j/\Ms.IM XU (ps.take j) ((Ms.iR t n).take j)/\∀i(h:i<XU.length),PP wr (λb=>W1.heap.size<=b) XU[i]<|C.getD i Zv)/\Hid (Bq w wr)/\Hid (W1.heap.size<=wr.heap.size)/\Hid (Bx wr w.heap.size #[Mv kb,mv])/\Hid (Bx wr (w.heap.size+1) #[Sv<|Ms.kS t,Nv n,Lv pa ps.length pc])/\Hid (Bx wr (w.heap.size+2) C))
 case atStart=>exact⟨0,_,[],ai rfl,ju _,rfl,ai ⟨by simp,rfl,trivial,λi h=>absurd h<|by simp⟩,ai K1,ai<|br _,ai A1,ai B1,ai G1⟩
 case round=>
  clear A1 B1 G1;obtain⟨j,C,XU,bE,hj,rfl,HI,K2,Z2,A2,B2,G2⟩:=hrel;by_cases aI:j<ps.length
  .have hd:(j:Int)<(ps.length:Int):=by omega
   have i0:(0:Int)<=(j:Int):=by omega
   have kk:=uh K2;obtain⟨g,o,rfl,_,zg⟩:=(uh HMP).ptr (by show 0<ps.length;omega);have CJ:=(((uh HMP).af kk).at j aI).1.cells;have⟨hts,ajT⟩:=Ms.Y5 j aI hof;have Ml:=ih j aI;have ajU:ps.take (j+1)=ps.take j++[ps[j]]:=ja aI;have ajV:(Ms.iR t n).take (j+1)=(Ms.iR t n).take j++[(Ms.iR t n)[j]]:=ja hts;have vQ:=ai ajU;have HT1:=ai ajV;have CJ:wr.cell? ⟨g,o+j*3,none⟩=some (Sv (ps[j]).kd)/\wr.cell? ⟨g,o+j*3+1,none⟩=some (Nv (ps[j]).pl)/\∃pa pc,wr.cell? ⟨g,o+j*3+2,none⟩=some (Lv pa (ps[j]).ps.length pc)/\Ms.nL pa (ps[j]).ps.length pc/\Ms.aS wr (λ_=>True) (ps[j]).ps pa:=CJ;generalize(Ms.iR t n)[j]=tj at*;generalize ps[j]=sj at*;obtain⟨c0,c1,pa',pc',c2,sp',mp'⟩:=CJ;obtain⟨W2,gF⟩:∃W2,W2=wr.alloc (Cv #[Sv sj.kd,Nv sj.pl,Lv pa' sj.ps.length pc'] 122):=⟨_,rfl⟩;have k2:Bq wr W2:=by rw[gF];exact bw _
   have E2:Bx W2 wr.heap.size #[Sv sj.kd,Nv sj.pl,Lv pa' sj.ps.length pc']:=by rw[gF];exact Bx.new _ _ _
   have HC:=ai<|Ml tj W2 kb mv pa' pc' ajT (((uh HV).af kk).af k2) sp'<|mp'.af k2;have A3:=ai<|(uh A2).below k2;have B3:=ai<|(uh B2).below k2;have G3:=ai<|(uh G2).below k2;have K3:=ai<|kk.trans<|k2.mono kk.size;have HI3:=ai<|λi(h:i<XU.length)=>((uh HI).2.2.2 i h).af k2;have z3:wr.heap.size<=W2.heap.size:=k2.size;have z2:=uh Z2;have⟨x1,x2,x3⟩:=uh A3;obtain⟨e1,e2,e3⟩:=E2;clear ih Ml ajU ajV hof sp' mp' k2 kk hts ajT
   go_upto_region 7 with fail
   rw[<-gF];clear gF;go_wp2_with fail;refine(uh HC).mono ?_;rintro e w4⟨nd,v4,rfl,pp4,pt4,k4⟩;obtain⟨tv,xv,rfl⟩:=pp4.iface;have G4:=ai<|(uh G3).below k4;have⟨y1,y2,y3⟩:=uh G4;have zC:=(uh HI).1;have yC:w4.cell? ⟨w.heap.size+2,j,none⟩=some (C.getD j Zv):=by rw[y1 j];simp[show j<C.size by omega]
   have PP4:=ai pp4;have PT4:=ai pt4;have K4:=ai k4;clear pp4 pt4 k4 HC y1 zC
   go_wp2
   go_roundg(ps.length-(j+1))
   case measure=>rw[uh bE];omega
   case rel=>
    have k4:=uh K4;have⟨h1,h2,h3,h4⟩:=uh HI;have z4:=k4.size;have cJ:∀b,W1.heap.size<=b->b≠w.heap.size+2:=λb p=>by omega
    refine⟨j+1,C.setIfInBounds j<|Fv tv<|Av xv,XU++[nd],ai rfl,by omega,by go_num,ai ⟨by simpa using h1,by simp[h2],?_,λi hi=>?_⟩,ai<|((uh K3).trans<|k4.mono (uh K3).size).setCell (p:=⟨w.heap.size+2,j,none⟩) (Nat.le_add_right _ _) _,ai (by simp[jl];omega),ai<|((uh A3).below k4).gE (by omega) _ _,ai<|((uh B3).below k4).gE (by omega) _ _,ai<|(uh G4).mE j _ _ rfl (by omega)⟩
    .rw[uh vQ,uh HT1];exact h3.snoc<|uh PT4
    .have mv':∀{x:Nd}{v:Value},PP w4 (λb=>W1.heap.size<=b) x v->PP (w4.setCell ⟨w.heap.size+2,j,none⟩<|Fv tv<|Av xv) (λb=>W1.heap.size<=b) x v:=λq=>q.move (by simp[jl]) (λb p _=>Below.heap_setCell _ _ _ _<|cJ b p) λ_ p _=>p;by_cases tH:i<XU.length
     .rw[List.getElem_append_left tH];have e:(C.setIfInBounds j<|Fv tv<|Av xv).getD i .nilIface=C.getD i .nilIface:=by simp[jj,Array.getElem?_setIfInBounds_ne<|show j≠i by omega]
      rw[e];exact mv'<|(uh HI3 i tH).af k4
     .have e0:i=XU.length:=by simp at hi;omega
      subst e0;have e:(C.setIfInBounds j<|Fv tv<|Av xv).getD XU.length .nilIface=Fv tv (Av xv):=by rw[h2];simp[jj,show j<C.size by omega]
      rw[e];have:=mv' ((uh PP4).wide λb p=>by have p:W2.heap.size<=b:=p;show W1.heap.size<=b;omega);simpa using this
  .have hd:decide ((j:Int)<(ps.length:Int))=false:=by simp;omega
   obtain rfl:j=ps.length:=by omega
   have⟨h1,h2,h3,h4⟩:=uh HI;rw[jf,uh HPL,jf]at h3;have⟨fp,pb,fw,cw,qk,qw⟩:=uh HV t;have kk:=uh K2;have vC:=qk.lk wr kk;have IR:=qw.cf;have XV:=ajW;have z2:=uh Z2;have ajX:Ms.Vg wr (λb=>w.heap.size<=b) XU (some ⟨w.heap.size+2,0,none⟩):=by
    refine⟨λi=>C.getD i Zv,.inr ⟨w.heap.size+2,rfl,Nat.le_add_right _ _,(uh G2).z,λi hi=>?_⟩,λi hi=>(h4 i hi).wide λb p=>by have p:W1.heap.size<=b:=p;show w.heap.size<=b;omega⟩;rw[(uh G2).c i];simp[show i<C.size by omega]
   have HWR:=qw.wr n ps hH wr kk _ XU (some ⟨w.heap.size+2,0,none⟩) ps.length h3 ajX;rw[h2]at HWR;have hsh:=qw.sh;have⟨x1,x2,x3⟩:=uh A2;have⟨y1,y2,y3⟩:=uh B2;clear h1 h2 h3 h4 HI ajX qk qw ih G2 hof;obtain rfl|⟨b,rfl⟩:=hsh;all_goals
    go_wp2_with fail;refine HWR.mono ?_;rintro e w5⟨nd,v5,rfl,pp5,pt5,k5⟩;have PP5:=ai pp5;have PT5:=ai pt5;have K5:=ai<|kk.trans<|k5.mono kk.size;clear pp5 pt5 k5 HWR
    go_wp2
    go_ret;exact⟨nd,v5,rfl,uh PP5,uh PT5,uh K5⟩
def Y7:∀(N:Nat)(s:Ms.Sk),Ms.bO s<=N->Ms.adN s
 |_,.any,_=>ag9|0,.hd _ _ _,h=>by simp[Ms.bO]at h|N+1,.hd t n ps,h=>ag_ λi hi=>Y7 N _ (by have:=Ms.Y6 i hi;simp only[Ms.bO]at h;omega)
section
open Go.ChangeMaps Un
@[simp] theorem ajr a0 a1 a2 a3 a4 a5 a6 w:(jo (.iface 95<|.agg #[a0,a1,a2,a3,a4,a5,a6]) 67 95 true).run jh w=.ok (.tuple #[(.agg #[a0,a1,a2,a3,a4,a5,a6]),.bool true]) w:=qkr
@[simp] theorem ajs a0 a1 a2 a3 a4 a5 a6 w:(jo (.iface 77<|.agg #[a0,a1,a2,a3,a4,a5,a6]) 67 77 true).run jh w=.ok (.tuple #[(.agg #[a0,a1,a2,a3,a4,a5,a6]),.bool true]) w:=qkr
@[simp] theorem ajt a0 a1 a2 a3 a4 a5 a6 w:(jo (.iface 77<|.agg #[a0,a1,a2,a3,a4,a5,a6]) 67 95 true).run jh w=.ok (.tuple #[(.agg #[Iv 0,Iv 0,Iv 0,Iv 0,.string ⟨#[]⟩,.slice none 0 0,.slice none 0 0]),.bool false]) w:=qkr
def metW_Makers a w:(method 617 88 (.pointer<|some a) "Makers").run Tryz.prog w=.ok (267,.pointer<|some a) w:=qkr
def metW_Let a w:(method 617 88 (.pointer<|some a) "Let").run Tryz.prog w=.ok (266,.pointer<|some a) w:=qkr
def metJ_Makers a w:(method 617 90 (.pointer<|some a) "Makers").run Tryz.prog w=.ok (335,.pointer<|some a) w:=qkr
def metJ_Let a w:(method 617 90 (.pointer<|some a) "Let").run Tryz.prog w=.ok (334,.pointer<|some a) w:=qkr
end
section
open Go.ChangeMaps Go.MapKept Un
abbrev KLI:KL jh 3 p9 (λ_ _=>True):=KL.num Tryz.underlying3
def IB:Tryz.prog.underlying 56=some (.map 3 54):=qkr
def adD w:(zeroValue 54).run jh w=.ok .nilFunc w:=qkr
def U6:Cq 15 #[] w λe w'=>e=.returned (Mv w.heap.size)/\Bq w w'/\MG p9 w' w.heap.size (bn 2 (.func (.func 27) #[] #[])<|bn 1 (.func (.func 25) #[] #[]) []):=by
 have g_:= @run_makeMap Tryz.prog;have M0:=MG.new p9 w;have k0:Bq w (w.alloc<|.map #[] 0):=bw _;have K0:=ai k0;go_enter func15,ntmps15;go_wp2_with((refine cK KLI IB rfl _ _ _ (Or.inl rfl) rfl M0 _ _ rfl rfl ?_;clear M0;intro w' H' O';have M0:=ai H';have K1:=K0;clear K0;have K0:=ai (One.below K1 O'<|by exact br _);clear H' O' K1));go_ret;exact⟨rfl,K0,M0⟩
def IC{w}{b}(h:MG p9 w b (bn 2 (.func (.func 27) #[] #[])<|bn 1 (.func (.func 25) #[] #[]) [])):(jq 56 (Mv b) (Iv 1) true).run jh w=.ok (.tuple #[.func (.func 25) #[] #[],.bool true]) w/\(jq 56 (Mv b) (Iv 2) true).run jh w=.ok (.tuple #[.func (.func 27) #[] #[],.bool true]) w:=by
 have hl:=λk:Int=>h.ms.look KLI IB (adD w) k trivial (λ_ _=>trivial) true;constructor
 .have:=hl 1;simpa[aN]using this
 .have:=hl 2;simpa[aN]using this
end
end Go.Proofs.YtopmodaakdnliaaGreatDoor

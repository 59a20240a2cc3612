import Derived.Test.YtfnkchdeheeiiaaGreatDoorQYf
import Derived.Test.YtfnkchdeheeiiaaGreatDoorQYa
set_option linter.all false
set_option maxRecDepth 100000
set_option maxHeartbeats 8000000
namespace Go.Proofs.YtfnkchdeheeiiaaGreatDoor
open _root_.Nat renaming le_succ->ja,le_trans->jc,lt_of_lt_of_le->jd,add_zero->jf,zero_le->jh,mul_one->ji
open Or renaming inl->jj,inr->jk
open _root_.List renaming take_of_length_le->jl,take_succ_eq_append_getElem->jm,append_nil->jo,mem_cons_self->jp,getElem_mem->jq
open Go.World renaming cell?_of_block->jt
open Go.Proofs.Tryz renaming underlying209->ju,underlying9->jv,prog->jx
open Go.Value renaming slice->jy
open In renaming Mks->jz,Env->j5,St->j6,Ft->j7,cJ->j8,pN->j9
open Go.RowKit.Below renaming refl->qe
open Pu renaming Tok->qf
open Go Go.RowKit Proofs.Tryz
variable {s:BA} {lo:BA->Nat} {F:BA->Option Nat} {rs:Bool} {f:Fl} {Γ:j5} {mks:jz} {nl:List BA} {l:List Dc} {B cb lb mb tb:Nat} {w w':World}
section
open Go.ChangeMaps Go.MapKept
theorem Y6{r}(h:s.toList=39::r):(s.extract 1 s.size).toList=r:=by
 rw[ByteArray.toList_eq]at h⊢;rw[ByteArray.data_extract];simp;rw[h];have:s.size=(39::r).length:=by rw[<-h];simp
 rw[this];simp
def ac9{t}(hs:∃r,s.toList=39::r)(ht:∃r,t.toList=39::r)(h:s.extract 1 s.size=t.extract 1 t.size):s=t:=by grind[Y6,toList_inj]
def MZ.up{own}(h:MZ own F)(hs:∃r,s.toList=39::r)n:MZ (own++[s]) (fY F (s.extract 1 s.size) n):=λx hx=>by
 have e:fU x (own++[s])=(fU x own||decide (s=x)):=by unfold fU;rw[List.any_append];simp only[List.any_cons,List.any_nil,Bool.or_false]
 rw[e];unfold fY;by_cases q:s=x
 .subst q;simp
 .rw[if_neg<|λe=>q<|ac9 hs hx e.symm,h x hx];simp[q]
structure CD cb tb mb lb ob ty mk lo F w0 xb C f wr:Prop where
 d:CK wr cb tb mb lb ty mk lo f
 k:Fr (λb=>b=cb\/b=tb\/b=mb) w0 wr
 o:FM wr ob F
 b:Bx wr xb C
section
variable {ob xb:Nat} {C:Array Value} {ty mk F' mk':BA->Option Nat} {w0 wr w1:World} {f':Fl}
def CD.af(h:CD cb tb mb lb ob ty mk lo F w0 xb C f wr)(hb:Bq wr w'):CD cb tb mb lb ob ty mk lo F w0 xb C f w':=⟨h.d.af hb,h.k.trans<|Fr.of hb,h.o.below hb,h.b.below hb⟩
def CD.ke(h:CD cb tb mb lb ob ty mk lo F w0 xb C f wr)(hk:Ke cb wr w')(d:CK w' cb tb mb lb ty mk lo f')(ho:ob≠cb)(hx:xb≠cb):CD cb tb mb lb ob ty mk lo F w0 xb C f' w':=
 ⟨d,h.k.trans ⟨hk.os,hk.tape,hk.output,hk.size,λb hb hn=>hk.block b hb<|λe=>hn<|jj e⟩,h.o.ke hk ho,h.b.xG hk hx⟩
def CD.alb(h:CD cb tb mb lb ob ty mk lo F w0 xb C f wr)(o:One ob wr w')(m:FM w' ob F')(n:ob≠cb/\ob≠tb/\ob≠mb/\ob≠lb)(hz:w0.heap.size<=ob)(hx:xb≠ob):CD cb tb mb lb ob ty mk lo F' w0 xb C f w':=
 ⟨h.d.one o n,h.k.trans' (⟨o.os,o.tape,o.output,LS,λb _ hn=>o.block b hn⟩:Fr (λb=>b=ob) wr w')<|λb q=>jk (by have q:b=ob:=q;omega),m,h.b.one o hx⟩
def CD.alc(h:CD cb tb mb lb ob ty mk lo F w0 xb C f wr)(o:One mb wr w')(m:FM w' mb mk')(ho:ob≠mb)(hx:xb≠mb):CD cb tb mb lb ob ty mk' lo F w0 xb C f w':=
 ⟨h.d.ajj o m,h.k.trans ⟨o.os,o.tape,o.output,LS,λb _ hn=>o.block b<|λe=>hn<|jk<|jk e⟩,h.o.agI o ho,h.b.one o hx⟩
def GZ.of{b}(h:FM w b F):GZ w (Mv b) F:=by grind[FM,GZ]
def PVR cb tb mb lb ob ty mk lo w0 xb C z(vs:List qf)(own:List BA)gk c wr:=∃(i:Nat)(F:BA->Option Nat),Hid (gk=vs.length-i)/\i<=vs.length/\c=Nv i/\CD cb tb mb lb ob ty mk lo F w0 xb C (BU [] (vs.take i) z) wr/\MZ (own.take i) F
def PMR cb tb mb lb ob ty mk lo F w0 xb C z(ms:List Nd)own gk c wr:=∃j:Nat,Hid (gk=ms.length-j)/\j<=ms.length/\c=Nv j/\CD cb tb mb lb ob ty (zS fY ty own (ms.take j) (mk,z)).1 lo F w0 xb C (zS fY ty own (ms.take j) (mk,z)).2 wr
def Y7(u:WW)(ty:BA->Option Nat)(own:List BA):Nd->(BA->Option Nat)×Fl->(BA->Option Nat)×Fl
 |.mk _ s _ L _ _ a,q=>(u q.1 s L.length,gJ ty own L<|bm (q.1 s).isSome 4 a (a+s.size) q.2)
def I'(u:WW)(ty:BA->Option Nat)(own:List BA):∀(l:List Nd)(m:Nd)(q:(BA->Option Nat)×Fl),zS u ty own (l++[m]) q=Y7 u ty own m (zS u ty own l q)
 |[],.mk _ _ _ _ _ _ _,q=>rfl|.mk _ _ _ _ _ _ _::r,m,q=>I' u ty own r m _
def UE u ty own(ms:List Nd)q j(h:j<ms.length):zS u ty own (ms.take<|j+1) q=Y7 u ty own ms[j] (zS u ty own (ms.take j) q):=by
 rw[jm h,I']
def Ng{t:qf}{vs}{ms}{vv vm}{x y}(h:CK w cb tb mb lb ty mk lo f)(hB:B<=cb)(hBt:B<=tb)(hBm:B<=mb)(BN:B<=lb)(hv:RowV QName 3 w (·<B) vs vv)(hm:RowV QMaker 6 w (·<B) ms vm)(hvs:vs.length<=1000)(hms:∀m∈ms,Sm m)(Y8:ms.length<=1000):
 Cq 122 #[cp cb,.agg #[Iv x,Iv y,Nv t.ak,Nv t.to,.string t.text,vv,vm]] w λe w'=>e=.returned (.tuple #[])/\Fr (λb=>b=cb\/b=tb\/b=mb) w w'/\CK w' cb tb mb lb (fY ty t.text vs.length) (zS fY (fY ty t.text vs.length) (vs.map (·.text)) ms (mk,BU [] vs<|bm (ty t.text).isSome 4 t.ak t.to f)).1 lo (zS fY (fY ty t.text vs.length) (vs.map (·.text)) ms (mk,BU [] vs<|bm (ty t.text).isSome 4 t.ak t.to f)).2:=by
 obtain⟨va,vc,cv,rfl,HVR,HVQ⟩:=hv;obtain⟨ma,mc,cm,rfl,HMR,hmq⟩:=hm;obtain⟨C,hC⟩:∃C:Array Value,Hid<|C=#[Iv x,Iv y,Nv t.ak,Nv t.to,Sv t.text,Lv va vs.length vc,Lv ma ms.length mc]:=⟨_,ai rfl⟩;have jB:= @run_makeMap jx;have HMQ:=ai hmq;have⟨z1,z2,z3,z4⟩:=h.lts;have⟨cG,B1⟩:=ul w #[Iv x,Iv y,Nv t.ak,Nv t.to,Sv t.text,Lv va vs.length vc,Lv ma ms.length mc] 137;have D1:=ai<|h.af cG;have F1:Hid (Fr (λb=>b=cb\/b=tb\/b=mb) w<|w.alloc<|Cv #[Iv x,Iv y,Nv t.ak,Nv t.to,Sv t.text,Lv va vs.length vc,Lv ma ms.length mc] 137):=ai<|Fr.of cG;obtain⟨own,fS⟩:∃own,Hid (own=vs.map (·.text)):=⟨_,ai rfl⟩;have ho:own.length=vs.length:=by rw[uh fS];simp
 obtain⟨TY,hTY⟩:∃TY,Hid<|TY=fY ty t.text vs.length:=⟨_,ai rfl⟩;obtain⟨Q,HQ⟩:∃Q,Hid<|Q=zS fY TY own ms (mk,BU [] vs<|bm (ty t.text).isSome 4 t.ak t.to f):=⟨_,ai rfl⟩;rw[<-uh fS,<-uh hTY,<-uh HQ];have zM:∀b,b<B->¬(b=cb\/b=tb\/b=mb):=λb hb q=>ae;have hct:=h.ct;have htc:tb≠cb:=λe=>h.ct e.symm;have hmc:mb≠cb:=λe=>h.cm e.symm;have⟨c1,f1,y1⟩:=uh B1;have⟨c2,f2,y2⟩:=D1.bx;clear h hmq cG;go_enter func122,ntmps122;go_wp2_with fail;go_cut[]from 9 (λwc=>CK wc cb tb mb lb TY mk lo (bm (ty t.text).isSome 4 t.ak t.to f)/\Fr (λb=>b=cb\/b=tb\/b=mb) w wc/\Bx wc w.heap.size #[Iv x,Iv y,Nv t.ak,Nv t.to,Sv t.text,Lv va vs.length vc,Lv ma ms.length mc])
 case first=>
  go_region_with(go_at_call 173;refine(uK (D1.af (qe _ _).drew) (D1.af (qe _ _).drew).t htc t.ak t.to vs.length t.text).mono ?_;rintro e w3⟨rfl,w2,k2,d2,o2,m2⟩;have D3:=ai<|d2.aji o2 m2;have F3:=ai ((F1.drew.trans (⟨k2.os,k2.tape,k2.output,k2.size,λb hb hn=>k2.block b hb<|λe=>hn<|jj e⟩:Fr (λb=>b=cb\/b=tb\/b=mb) _ _)).trans (⟨o2.os,o2.tape,o2.output,by rw[o2.size];exact br _,λb _ hn=>o2.block b<|λe=>hn<|jk<|jj e⟩:Fr (λb=>b=cb\/b=tb\/b=mb) _ _));have B3:=ai<|(B1.kL.xG k2 ae).one o2 ae;clear k2 d2 o2 m2)
  all_goals(
   go_wp2_with fail
   go_meet
   case rel=>exact⟨by rw[uh hTY];exact D3,F3,B3⟩)
 case rest=>
  obtain⟨D2,F2,B2⟩:=hcut;have hw2:=F2.size;clear D1 F1 B1 c1 f1 y1 c2 f2 y2;generalize bm (ty t.text).isSome 4 t.ak t.to f=z1' at D2 HQ;have X3:Hid (CD cb tb mb lb wc.heap.size TY mk lo (λ_=>none) w w.heap.size #[Iv x,Iv y,Nv t.ak,Nv t.to,Sv t.text,Lv va vs.length vc,Lv ma ms.length mc] z1'<|wc.alloc<|.map #[] 0):=ai ⟨D2.af<|bw _,F2.trans<|Fr.of<|bw _,⟨[],MS.new _ wc,λx=>rfl⟩,B2.alloc _⟩;have⟨zc1,zc2,zc3,zc4⟩:=D2.lts;have zB:=B2.z;have Ja:wc.heap.size≠cb/\wc.heap.size≠tb/\wc.heap.size≠mb/\wc.heap.size≠lb:=⟨ae,ae,ae,ae⟩;have hxo:w.heap.size≠wc.heap.size:=ae;have⟨c1,f1,y1⟩:=X3.b;clear D2 F2 B2;go_wp2_with fail;clear c1 f1 y1;go_loopg[24] vs.length (λgk c wr=>PVR cb tb mb lb wc.heap.size TY mk lo w w.heap.size #[Iv x,Iv y,Nv t.ak,Nv t.to,Sv t.text,Lv va vs.length vc,Lv ma ms.length mc] z1' vs own gk c wr)
  case atStart=>exact⟨0,_,ai rfl,jh _,rfl,X3,λs _=>by simp[fU]⟩
  case round=>
   clear X3;obtain⟨i,F,dv,hi,rfl,hX,hO⟩:=hrel;have XR:=ai hX;have HO:=ai hO;have hsw:=hX.k.size;clear hX hO;have⟨c1,f1,y1⟩:=XR.b;by_cases bz:i<vs.length
   .have hd:(i:Int)<(vs.length:Int):=ae;obtain⟨g,rfl,YG,hg,qT⟩:∃g,va=some ⟨g,0,none⟩/\g<B/\g<w.heap.size/\∀i,i<vs.length->∀j,j<3->w.cell? ⟨g,i*3+j,none⟩=some (cv i j):=by
     obtain e|e:=HVR
     .exact absurd bz Us
     .exact e
    have me:∀o,wr.cell? ⟨g,o,none⟩=w.cell? ⟨g,o,none⟩:=λo=>jt (a:=⟨g,o,none⟩)<|XR.k.block g hg<|zM g YG;have d0:=(me _).trans<|qT i bz 0 ae;have d1:=(me _).trans<|qT i bz 1 ae;have d2:=(me _).trans<|qT i bz 2 ae;have⟨e0,e1,e2,e3,e4⟩:=HVQ i bz;rw[e0]at d0;rw[e1]at d1;rw[e2]at d2;simp only[jf]at d0;have G9:=ai<|Y9 vs z1' i bz;rw[<-uh fS]at G9;have HOS:=HO vs[i].text e3
    have HOU:=ai (show MZ (own.take<|i+1) (fY F (vs[i].text.extract 1 vs[i].text.size) 0) by
     have nN:i<own.length:=ae;have eo:own[i]=vs[i].text:=by simp[uh fS]
     rw[jm nN,eo]
     exact HO.up e3 0)
    generalize BU [] (vs.take i) z1'=zi at XR G9;generalize vs[i]=v at d0 d1 d2 G9 HOS HOU;have⟨cG,BA⟩:=ul wr #[Nv v.ak,Nv v.to,Sv<|v.text.extract 1 v.text.size] 133;have XA:=ai<|XR.af cG;have HC:=ai<|uK XA.d XA.o Ja.1 v.ak v.to 0<|v.text.extract 1 v.text.size;rw[HOS,<-uh G9]at HC;have⟨c2,f2,y2⟩:=uh BA;clear cG e0 e1 e2 e3 e4 me qT;go_wp2_with fail;refine HC.mono ?_;rintro e w3⟨rfl,w2,k2,dd2,o2,m2⟩;have X5:=(XA.ke k2 dd2 Ja.1 ae).alb o2 m2 Ja ae hxo;clear k2 dd2 o2 m2 HC
    go_wp2
    go_roundg(vs.length-(i+1))
    case measure=>rw[uh dv];omega
    case rel=>exact⟨i+1,_,ai rfl,ae,jT,X5,HOU⟩
   .have hd:decide ((i:Int)<(vs.length:Int))=false:=bP;have he:vs.take i=vs:=jl ae;have he2:own.take i=own:=jl ae;rw[he]at XR;rw[he2]at HO;generalize BU [] vs z1'=z2' at XR HQ;go_wp2_with fail;clear c1 f1 y1;go_loopg[36] ms.length (λgk c wr=>PMR cb tb mb lb wc.heap.size TY mk lo F w w.heap.size #[Iv x,Iv y,Nv t.ak,Nv t.to,Sv t.text,Lv va vs.length vc,Lv ma ms.length mc] z2' ms own gk c wr)
    case atStart=>exact⟨0,ai rfl,jh _,rfl,XR⟩
    case round=>
     clear XR;obtain⟨j,hgj,hj,rfl,hX⟩:=hrel;have XJ:=ai hX;have hsj:=hX.k.size;clear hX;have⟨c1,f1,y1⟩:=XJ.b;by_cases hlj:j<ms.length
     .have UF:(j:Int)<(ms.length:Int):=ae;obtain⟨g,rfl,YG,hg,qT⟩:∃g,ma=some ⟨g,0,none⟩/\g<B/\g<w.heap.size/\∀i,i<ms.length->∀j,j<6->w.cell? ⟨g,i*6+j,none⟩=some (cm i j):=by
       obtain e|e:=HMR
       .exact absurd hlj Us
       .exact e
      have me:∀o,wr.cell? ⟨g,o,none⟩=w.cell? ⟨g,o,none⟩:=λo=>jt (a:=⟨g,o,none⟩)<|XJ.k.block g hg<|zM g YG;have d0:=(me _).trans<|qT j hlj 0 ae;have d1:=(me _).trans<|qT j hlj 1 ae;have d2:=(me _).trans<|qT j hlj 2 ae;have d3:=(me _).trans<|qT j hlj 3 ae;have d4:=(me _).trans<|qT j hlj 4 ae;have d5:=(me _).trans<|qT j hlj 5 ae;obtain⟨ss,nn',L,mf,mt,aa,yy,vt,e0,q0,q1,q2,q3,q4,q5,hu,hyy,ta,tc,ct,rfl,htr,HTQ⟩:=uh HMQ j hlj;rw[q0]at d0;rw[q1]at d1;rw[q2]at d2;rw[q3]at d3;rw[q4]at d4;rw[q5]at d5;simp only[jf]at d0;have HSM:=ai (show Sm (.mk 2 ss nn' L mf mt aa) by rw[<-e0];exact hms _<|jq hlj);have⟨hLl,hf4,ha4,hs4⟩:=HSM.len;have G9:=ai<|UE fY TY own ms (mk,z2') j hlj;rw[e0]at G9;rw[Y7]at G9;generalize zS fY TY own (ms.take j) (mk,z2')=qj at XJ G9;obtain⟨mkj,zj⟩:=qj;simp only at G9 XJ;have HYY:=ai hyy;have HTR:=ai htr;have⟨cG,BA⟩:=ul wr #[Nv mf,Nv mt,Nv aa,Nv yy,Sv ss,Lv ta L.length tc] 286;have XA:=ai<|XJ.af cG;have⟨zr1,zr2,zr3,zr4⟩:=XJ.d.lts;have zro:=XJ.o.lt;have zrx:=XJ.b.z;have⟨c2,f2,y2⟩:=uh BA;have⟨c3,f3,y3⟩:=XA.d.bx;clear cG q0 q1 q2 q3 q4 q5 me qT hyy htr e0 XJ c1 f1 y1;go_wp2_with fail
      go_cut[]from 37 to 56 (λwd=>CD cb tb mb lb wc.heap.size TY (fY mkj ss L.length) lo F w w.heap.size #[Iv x,Iv y,Nv t.ak,Nv t.to,Sv t.text,Lv va vs.length vc,Lv (some ⟨g,0,none⟩) ms.length mc] (bm (mkj ss).isSome 4 aa (aa+ss.size) zj) wd/\Bx wd wr.heap.size #[Nv mf,Nv mt,Nv aa,Nv yy,Sv ss,Lv ta L.length tc])
      case first=>
       go_region_with(go_at_call 173;refine(uK (XA.af (qe _ _).drew).d (XA.af (qe _ _).drew).d.m hmc aa yy L.length ss).mono ?_;rintro e w3⟨rfl,w2,k2,dd2,o2,m2⟩;have X3:=ai<|((XA.af (qe _ _).drew).ke k2 dd2 Ja.1 ae).alc o2 m2 Ja.2.2.1 ae;have B3:=ai<|(BA.kL.xG k2 ae).one o2 ae;clear k2 dd2 o2 m2)
       all_goals(
        go_wp2_with fail
        go_meet
        case rel=>exact⟨by rw[<-uh HYY];exact X3,B3⟩)
      case rest=>
       obtain⟨X4,B4⟩:=hcut;clear XA BA c2 f2 y2 c3 f3 y3;generalize bm (mkj ss).isSome 4 aa (aa+ss.size) zj=zt at X4 G9;obtain⟨c2,f2,y2⟩:=B4
       have HC:=ai (CY (sa:=ta) (sc:=tc) (vs:=λi=>ct i 0) (own:=own) (λx _=>IW x) X4.d hB (by
        obtain q|⟨g',e,q1,q2,q3⟩:=uh HTR
        .exact jj q
        .refine jk ⟨g',e,q1,jd q2 X4.k.size,λi hi=>?_⟩;have:=q3 i hi 0 ae;rw[ji,jf]at this
         exact(jt (a:=⟨g',i,none⟩)<|X4.k.block g' q2<|zM g' q1).trans this) (λi hi=>(HTQ i hi:PT w (·<B) L[i] (ct i 0)).Qk X4.k zM) (GZ.of X4.o) (λb q=>by cases q;exact Ja.1) HO HSM.part hLl)
       go_wp2_with fail;refine HC.mono ?_;rintro e w5⟨rfl,k5,d5'⟩;have X5:=X4.ke k5 d5' Ja.1 ae;clear k5 d5' HC
       go_wp2
       go_roundg(ms.length-(j+1))
       case measure=>rw[uh hgj];omega
       case rel=>exact⟨j+1,ai rfl,ae,jT,by rw[uh G9];exact X5⟩
     .have UF:decide ((j:Int)<(ms.length:Int))=false:=bP;have he3:ms.take j=ms:=jl ae;rw[he3,<-uh HQ]at XJ
      go_wp2
      go_end0;exact⟨rfl,XJ.k,XJ.d⟩
end
def Fr.wide{S T}{a b}(h:Fr S a b)(hS:∀x,S x->T x):Fr T a b:=⟨h.os,h.tape,h.output,h.size,λk hk hn=>h.block k hk<|λq=>hn<|hS k q⟩
section
variable {e0:SE}
def agN:fY (fY (fY (λ_=>none) ry 0) kv 0) iZ 0=ty0:=by grind[fY,ty0]
def E9:Cq 92 #[] w λe w'=>∃cb tb mb lb,e=.returned (cp cb)/\Bq w w'/\(w.heap.size<=cb/\w.heap.size<=tb/\w.heap.size<=mb/\w.heap.size<=lb)/\CK w' cb tb mb lb ty0 (λ_=>none) (λ_=>0) sF:=by
 have jB:= @run_makeMap Tryz.prog;have H:=MS.new Sv w;have HF:∀x,aZ x ([]:List (BA×Value))=((λ_=>none:BA->Option Nat) x).map λ(n:Nat)=>Nv n:=(λx=>rfl);have HB:=(Below.refl w.heap.size w).alloc (br _)<|.map #[] 0;have HZ:(w.alloc<|.map #[] 0).heap.size=w.heap.size+1:=ag;go_enter func92,ntmps92
 go_wp2_with(first
  |(refine aV _ rfl _ _ _ _ (jj rfl) (KL.str jv) ju _ _ rfl H ry (.int .i64 ((0:Nat):Int)) rfl rfl trivial (λ_ _=>trivial) ?_;intro w1 H' O';have H1:=ai H';have Bv:=ai<|FM.put HF ry 0;have eN:=ai<|One.below HB O'<|br _;have HZ1:=ai<|O'.size.trans HZ;clear H' O' H HF HB HZ)|(refine aV _ rfl _ _ _ _ (jj rfl) (KL.str jv) ju _ _ rfl H1 kv (.int .i64 ((0:Nat):Int)) rfl rfl trivial (λ_ _=>trivial) ?_;intro w2 H' O';have H2:=ai H';have Bi:=ai<|FM.put Bv kv 0;have eA:=ai<|One.below eN O'<|br _;have HZ2:=ai<|O'.size.trans HZ1;clear H' O' H1 Bv eN HZ1)|(refine aV _ rfl _ _ _ _ (jj rfl) (KL.str jv) ju _ _ rfl H2 iZ (.int .i64 ((0:Nat):Int)) rfl rfl trivial (λ_ _=>trivial) ?_;intro w3 H' O';have H3:=ai H';have HF3:=ai<|FM.put Bi iZ 0;have y8:=ai<|One.below eA O'<|br _;have HZ3:=ai<|O'.size.trans HZ2;clear H' O' H2 Bi eA HZ2))
 go_ret;have z3:=uh HZ3;have b4:Bq w3 (((w3.alloc<|.map #[] 0).alloc<|.map #[] 0).alloc<|Cv #[Mv w.heap.size,Mv w3.heap.size,Mv<|w3.heap.size+1,Iv 0,Iv 0,Iv 0] 211):=((bw _).alloc ag _).alloc bP _;have m1:MS Sv (((w3.alloc<|.map #[] 0).alloc<|.map #[] 0).alloc<|Cv #[Mv w.heap.size,Mv w3.heap.size,Mv<|w3.heap.size+1,Iv 0,Iv 0,Iv 0] 211) w3.heap.size []:=((MS.new Sv w3).below<|bw _).below<|bw _;have m2:MS Sv (((w3.alloc<|.map #[] 0).alloc<|.map #[] 0).alloc<|Cv #[Mv w.heap.size,Mv w3.heap.size,Mv<|w3.heap.size+1,Iv 0,Iv 0,Iv 0] 211) (w3.heap.size+1) []:=by
  have:=(MS.new Sv<|w3.alloc<|.map #[] 0).below<|bw<|Cv #[Mv w.heap.size,Mv w3.heap.size,Mv<|w3.heap.size+1,Iv 0,Iv 0,Iv 0] 211;simpa using this
 have bx:Bx (((w3.alloc<|.map #[] 0).alloc<|.map #[] 0).alloc<|Cv #[Mv w.heap.size,Mv w3.heap.size,Mv<|w3.heap.size+1,Iv 0,Iv 0,Iv 0] 211) (w3.heap.size+1+1) #[Mv w.heap.size,Mv w3.heap.size,Mv<|w3.heap.size+1,Iv 0,Iv 0,Iv 0]:=by
  have:=Bx.new ((w3.alloc<|.map #[] 0).alloc<|.map #[] 0) #[Mv w.heap.size,Mv w3.heap.size,Mv<|w3.heap.size+1,Iv 0,Iv 0,Iv 0] 211;simpa using this
 have ft:=uh HF3;rw[agN]at ft;refine⟨w3.heap.size+1+1,w.heap.size,w3.heap.size,w3.heap.size+1,rfl,y8.trans<|b4.mono ae,⟨ae,ae,ae,ae⟩,bx,⟨_,H3.below b4,ft⟩,⟨_,m1,λx=>rfl⟩,⟨_,m2,λx=>jk ⟨rfl,rfl⟩⟩,ae,ae,ae,ae,ae,ae⟩
def DSo:Dc->Prop
 |.ty _ vs ms=>vs.length<=1000/\(∀m∈ms,Sm m)/\ms.length<=1000|.lt _ _ b=>Sm b/\nn b<=1000
def DeP(cb tb mb lb B:Nat)d e0(lo:BA->Nat)w(e:Ending)w':=e=.returned (.tuple #[])/\∃G7,CK w' cb tb mb lb (WX fY d e0).ty (WX fY d e0).mks G7 (WX fY d e0).f/\L_ G7 (WX fY d e0).nm/\(∀x,G7 x<=lo x+1)/\Fr (λb=>b=cb\/b=tb\/b=mb\/b=lb) w w'
def L_.put{l}(h:L_ lo l)s:L_ (λx=>if x=s then lo s+1 else lo x) (l++[s]):=by grind[L_]
def agO{d}{v}(h:CK w cb tb mb lb e0.ty e0.mks lo e0.f)(hl:L_ lo e0.nm)(hB:B<=cb)(hBt:B<=tb)(hBm:B<=mb)(BN:B<=lb)(hx:PD w (·<B) d v)(hs:DSo d)(nN:∀x,lo x<=2000):
 Cq 93 #[cp cb,v] w (DeP cb tb mb lb B d e0 lo w):=by
 have⟨z1,z2,z3,z4⟩:=h.lts
 cases d with
 |ty t vs ms=>
  obtain⟨x,u,vv,vm,rfl,hu,ht,hv,hm0,hm⟩:=hx;have HV:=hv.move dw (br _) (λ_ _ _=>rfl)<|λ_ p _=>p;have HM:=hm.move cd (br _) (λ_ _ _=>rfl)<|λ_ p _=>p;obtain⟨va,vc,cv,rfl,-⟩:=hv;obtain⟨ma,mc,cm,rfl,-⟩:=hm;have⟨cG,B1⟩:=ul w #[Iv x,Iv u,Nv t.ak,Nv t.to,Sv t.text,Lv va vs.length vc,Lv ma ms.length mc] 137;have HC:=ai<|Ng (t:=t) (x:=x) (y:=u) (h.af cG) hB hBt hBm BN (HV.move dw cG.size (λb _ z=>cG.block b z)<|λ_ p _=>p) (HM.move cd cG.size (λb _ z=>cG.block b z)<|λ_ p _=>p) hs.1 hs.2.1 hs.2.2;have HB:=ai cG;have⟨c1,f1,y1⟩:=uh B1;clear h cG HV HM hs ht hu;go_enter func93,ntmps93;go_wp2_with fail;refine HC.mono ?_;rintro e w2⟨rfl,K2,D2⟩;clear HC
  go_wp2
  go_end0;exact⟨rfl,lo,D2,hl,λx=>ja _,(Fr.of HB).trans' K2<|λb q=>jj (by obtain q|q|q:=q;exact jj q;exact jk<|jj q;exact jk<|jk<|jj q)⟩
 |lt r t b=>
  obtain⟨x,u,vb,rfl,hu,ht,hb⟩:=hx;obtain⟨u1,x1,rfl⟩:=hb.iface;have⟨cG,B1⟩:=ul w #[Iv x,Iv u,.bool r,Nv t.ak,Nv t.to,Sv t.text,Fv u1<|Av x1] 144;have X1:CE cb tb mb lb e0.ty e0.mks lo w e0.f (w.alloc<|Cv #[Iv x,Iv u,.bool r,Nv t.ak,Nv t.to,Sv t.text,Fv u1<|Av x1] 144):=⟨h.af cG,Fr.of cG⟩;have HC:=ai (Qn (l:=e0.nm) (agD b) (h.af cG) hB BN (hb.af cG) hl (λx=>by have:=nN x;have:=hs.2;omega) hs.1 r (t.ak:Int) (t.to:Int) t.text);have⟨c1,f1,y1⟩:=uh B1;clear h cG hb hs ht hu;go_enter func93,ntmps93;go_wp2_with fail;refine HC.mono ?_;rintro e w2⟨rfl,k2,d2⟩;have X2:=X1.fr k2 d2;have B2:=B1.fr k2<|λq=>ae;clear k2 d2 HC c1 f1 y1;obtain⟨N,hN⟩:∃N,Hid<|N=lo t.text:=⟨_,ai rfl⟩;have X3:=X2.af (Below.refl _ _).drew;have xU:=X3.d.l.look t.text;rw[<-uh hN]at xU;have⟨L,hM,HLL⟩:=X3.d.l;have⟨o,amg,C5⟩:=hM.put (KL.str Tryz.underlying9) Tryz.underlying209 t.text (Iv<|(N:Int)+1) trivial<|λ_ _=>trivial;have hN7:(N:Int)<=3000:=by have:=nN t.text;have:=uh hN;omega
  obtain⟨c1,f1,y1⟩:=B2;have⟨c2,f2,y2⟩:=X2.d.bx;clear hM
  go_wp2
  go_region
  all_goals(
   go_wp2
   go_end0;have hv:(Iv<|(N:Int)+1)=.int .i64 ((N+1:Nat):Int):=rfl;have M3:=C5;rw[hv]at M3;have X5:=X3.put (One.set w2.drew lb o) M3<|LM.put HLL t.text<|N+1;rw[uh hN]at X5
   exact⟨rfl,_,X5.d,hl.put t.text,λy=>by show(if y=t.text then lo t.text+1 else lo y)<=lo y+1;split;rename_i e;rw[e];exact br _;exact ja _,X5.k.wide (λb q=>by obtain q|q:=q;exact jj q;exact jk<|jk<|jk q)⟩)
end
def zT(h:bX s=.ok l):(∀d∈l,DSo d)/\l.length<=802:=by
 have⟨h1,h2⟩:=Y_ h;refine⟨λd hd=>?_,?_⟩
 .have h3:=h1 d hd;have h4:=E_ hd
  cases d with
  |ty t vs ms=>
   simp only[Jb]at h4;have:=pW ms;exact⟨h3.1,h3.2,ae⟩
  |lt r t b=>exact⟨h3.1,h3.1.2⟩
 .have:∀l:List Dc,l.length<=BV l:=λl=>by
   induction l with
   |nil=>simp[BV]|cons d r ih=>
    simp only[BV,List.map_cons,List.sum_cons,ot]at ih⊢;have:1<=Jb d:=by cases d<;>simp[Jb]<;>omega
    omega
  exact jc (this l) h2
def FAR w0 cb tb mb lb(l:List Dc)gk c wr:=∃(j:Nat)(lo:BA->Nat),Hid (gk=l.length-j)/\j<=l.length/\c=Nv j/\CK wr cb tb mb lb (fs fY (l.take j) xE).ty (fs fY (l.take j) xE).mks lo (fs fY (l.take j) xE).f/\L_ lo (fs fY (l.take j) xE).nm/\(∀x,lo x<=j)/\Fr (λb=>b=cb\/b=tb\/b=mb\/b=lb) w0 wr
def ac_{u}(hr:RowV QD 1 w (·<w.heap.size) l u)(hS:∀d∈l,DSo d)(hl:l.length<=802):
 Cq 60 #[.agg #[u]] w λe w'=>e=.returned (Mb (fs fY l xE).f)/\Bq w w':=by
 obtain⟨va,vc,cs,rfl,HW,HQ⟩:=hr;obtain⟨Z,HZ⟩:∃Z,Hid<|Z=(fs fY l xE).f:=⟨_,ai rfl⟩;rw[<-uh HZ];have dA:Bq w ((w.alloc<|Cv #[Lv va l.length vc] 60).alloc<|Cv #[Iv 0,Iv 0,Iv 0] 30):=(bw _).alloc ag _;have B1:=ai<|(Bx.new w #[Lv va l.length vc] 60).alloc<|Cv #[Iv 0,Iv 0,Iv 0] 30;have F1:Bx ((w.alloc<|Cv #[Lv va l.length vc] 60).alloc<|Cv #[Iv 0,Iv 0,Iv 0] 30) (w.heap.size+1) #[Iv 0,Iv 0,Iv 0]:=(by have:=Bx.new (w.alloc<|Cv #[Lv va l.length vc] 60) #[Iv 0,Iv 0,Iv 0] 30;simpa using this);have eN:=ai dA;have HC:=E9 (w:=(w.alloc<|Cv #[Lv va l.length vc] 60).alloc<|Cv #[Iv 0,Iv 0,Iv 0] 30);have⟨c1,f1,y1⟩:=uh B1;go_enter func60,ntmps60;go_wp2_with fail;refine HC.mono ?_;rintro e w2⟨cb,tb,mb,lb,rfl,b2,hz,D2⟩;have hz':w.heap.size+2<=cb/\w.heap.size+2<=tb/\w.heap.size+2<=mb/\w.heap.size+2<=lb:=by simpa using hz
 have eA:=eN.trans<|b2.mono eN.size;have B2:=ai<|B1.below b2;have F2:=F1.below b2;have hw2:=eA.size;have⟨c1,f1,y1⟩:=uh B2
 go_wp2
 go_loopg[10] l.length (λgk c wr=>FAR w2 cb tb mb lb l gk c wr)
 case atStart=>exact⟨0,λ_=>0,ai rfl,jh _,rfl,D2,λx=>by simp[fs,xE],λx=>br _,Fr.refl _ _⟩
 case round=>
  obtain⟨j,lo,dv,hj,rfl,hD,LR,Nc,FR⟩:=hrel;have DR':=ai hD;have hBW:Bq w wr:=⟨FR.os.trans eA.os,FR.tape.trans eA.tape,FR.output.trans eA.output,jc eA.size FR.size,λb hb=>(FR.block b (jd hb eA.size)<|λq=>ae).trans<|eA.block b hb⟩;have F3:=ai<|F2.fr FR<|λq=>ae;by_cases bz:j<l.length
  .have hd:(j:Int)<(l.length:Int):=ae;obtain⟨g,rfl,-,hg,qT⟩:∃g,va=some ⟨g,0,none⟩/\g<w.heap.size/\g<w.heap.size/\∀i,i<l.length->∀j,j<1->w.cell? ⟨g,i*1+j,none⟩=some (cs i j):=by
    obtain e|e:=HW
    .exact absurd bz Us
    .exact e
   have d0:=(jt (a:=⟨g,j*1+0,none⟩)<|hBW.block g hg).trans<|qT j bz 0 ae;simp only[ji,jf]at d0;have Mc:=HQ j bz;have HPD:=Mc.move hBW.size (λb _ z=>hBW.block b z) (Q:=(·<w.heap.size))<|λ_ p _=>p;have⟨t1,x1,e1⟩:=Mc.iface;rw[e1]at d0 HPD;have G9:=UG fY l xE j bz;generalize fs fY (l.take j) xE=e0 at DR' LR G9;have HC:=agO DR' LR ae ae ae ae HPD (hS _<|jq bz)<|λx=>qAv;go_wp2_with fail;refine HC.mono ?_;rintro e w3⟨rfl,G7,D3,L3,O3,k3⟩;have K3:=FR.trans k3
   go_wp2
   go_roundg(l.length-(j+1))
   case measure=>rw[uh dv];omega
   case rel=>exact⟨j+1,G7,ai rfl,ae,jT,by rw[G9];exact D3,by rw[G9];exact L3,λx=>jc (O3 x)<|Nat.succ_le_succ<|Nc x,K3⟩
  .have hd:decide ((j:Int)<(l.length:Int))=false:=bP;have he:l.take j=l:=jl ae;rw[he,<-uh HZ]at DR';have⟨c4,f4,y4⟩:=DR'.bx;have⟨c3,f3,y3⟩:=uh F3;have B5:=ai<|F3.oZ rfl (Nv Z.kind) (Nv Z.ak) (Nv Z.to);go_wp2_with fail;have⟨c5,f5,z5⟩:=uh B5;refine bodyPost_ret (v:=Mb Z) (by simp[results,Tryz.results60,go_sem,Mb,c5]) rfl ?_;exact⟨rfl,((hBW.setCell (ja _) _).setCell (ja _) _).setCell (ja _) _⟩
end
section
open Un
def zU(hf:bX s=.error f):f.kind%6≠0/\f.ak<=f.to/\f.to<=s.size:=by
 by_cases hs:400<s.size
 .simp[bX,hs]at hf;subst hf;simp
 .have:=pZ hs;rw[hf]at this;exact this
def agP s w(e:Ending)w':=
 ∃u f,e=.returned (.tuple #[.agg #[u],Mb f])/\Bq w w'/\match bX s with
  |.error f'=>f=f'/\u=.slice none 0 0|.ok l=>f=(fs fY l xE).f/\RowV QD 1 w' (λb=>w.heap.size<=b) l u
def Jc(h:Laid w)s:Calls jx 38 #[.string s] w (agP s w):=by
 obtain⟨W0,hW0⟩:∃W0,W0=(w.alloc<|.cells #[.slice none 0 0] 60).alloc (.cells #[.int .i64 0,.int .i64 0,.int .i64 0] 30):=⟨_,rfl⟩;have cz:Below w.heap.size w W0:=by rw[hW0];exact(bw _).alloc ag _
 have A0:Bx W0 w.heap.size #[.slice none 0 0]:=by rw[hW0];exact(Bx.new w _ _).alloc _
 have B0:Bx W0 (w.heap.size+1) #[.int .i64 0,.int .i64 0,.int .i64 0]:=by rw[hW0];have:=Bx.new (w.alloc<|.cells #[.slice none 0 0] 60) #[.int .i64 0,.int .i64 0,.int .i64 0] 30;simpa using this
 have HC:=UH (h.af cz) s;have HW:=ai hW0;clear h hW0;go_enter func38,ntmps38;go_wp2_with fail;rw[<-uh HW];refine HC.mono ?_;rintro e w1⟨u,f,rfl,dA,hp⟩;obtain⟨va,vc,n,hu⟩:∃va vc n,u=.slice va n vc:=by
  cases hr:bX s with
  |error f'=>rw[hr]at hp;exact⟨_,_,_,hp.2⟩|ok l=>rw[hr]at hp;obtain⟨va,vc,cs,e,_⟩:=hp.2;exact⟨_,_,_,e⟩
 subst hu;have eN:=cz.trans<|dA.mono cz.size;obtain⟨W1,Br⟩:∃W1,W1=(w1.alloc<|.cells #[.slice va n vc] 60).alloc (.cells #[.int .i64 (f.kind:Int),.int .i64 (f.ak:Int),.int .i64 (f.to:Int)] 30):=⟨_,rfl⟩;have iG:Below w1.heap.size w1 W1:=by rw[Br];exact(bw _).alloc ag _
 have eA:=eN.trans<|iG.mono eN.size;have A2:=ai<|(A0.below dA).below iG;have B2:=ai<|(B0.below dA).below iG;have P2:Hid (Bx W1 w1.heap.size #[.slice va n vc]):=ai (by rw[Br];exact(Bx.new w1 _ _).alloc _);have F2:Hid (Bx W1 (w1.heap.size+1) #[.int .i64 (f.kind:Int),.int .i64 (f.ak:Int),.int .i64 (f.to:Int)]):=ai (by rw[Br];have:=Bx.new (w1.alloc<|.cells #[.slice va n vc] 60) #[.int .i64 (f.kind:Int),.int .i64 (f.ak:Int),.int .i64 (f.to:Int)] 30;simpa using this);have yg:=ai Br;have m7:=eN.size;have oh:=B0.z;have i_:=dA.size;unfold Mb
 cases hr:bX s with
 |error f'=>
  rw[hr]at hp;obtain⟨hf,hu⟩:=hp;subst hf;have hk:=(zU hr).1;have gY:((f.kind:Int)==0)=false:=bP;clear HC cz dA iG eN A0 B0 Br HW hk;go_wp2_with fail;rw[<-uh yg];obtain⟨c1,f1,z1⟩:=uh A2;obtain⟨c2,f2,z2⟩:=uh B2;obtain⟨c3,f3,z3⟩:=uh P2;obtain⟨c4,f4,z4⟩:=uh F2;go_region;go_wp2_with fail;obtain⟨c5,f5,z5⟩:=((B2.oe (b2:=w.heap.size) ae 0<|.slice none 0 0).oZ rfl (.int .i64 (f.kind:Int)) (.int .i64 (f.ak:Int)) (.int .i64 (f.to:Int))).kL;obtain⟨c6,f6,z6⟩:=((A2.rK 0 (.slice none 0 0) #[.slice none 0 0] ag ag).ae6 (b2:=w.heap.size+1) ae (.int .i64 (f.kind:Int)) (.int .i64 (f.ak:Int))<|.int .i64 (f.to:Int)).kL;refine bodyPost_ret (v:=.tuple #[.agg #[.slice none 0 0],Mb f]) (by simp[results,Tryz.results38,go_sem,Mb,c5,c6]) rfl ?_;refine⟨.slice none 0 0,f,rfl,((((eA.setCell (br _) _).setCell (ja _) _).setCell (ja _) _).setCell (ja _) _).drew,?_⟩;rw[hr];exact⟨rfl,rfl⟩
 |ok l=>
  rw[hr]at hp;obtain⟨rfl,aN⟩:=hp;obtain⟨hS,hl⟩:=zT hr;have zV:RowV QD 1 W1 (λb=>W0.heap.size<=b/\b<w1.heap.size) l (.slice va n vc):=aN.move bS iG.size (λb _ z=>iG.block b z)<|λb p z=>⟨p,z⟩;have HR2:=ai zV;have sU:∀W,Below W1.heap.size W1 W->Calls jx 60 #[.agg #[.slice va n vc]] W λe w'=>e=.returned (Mb (fs fY l xE).f)/\Below W.heap.size W w':=λW k=>ac_ (zV.move bS k.size (λb _ z=>k.block b z)<|λb p z=>jd z k.size) hS hl;have hzw:=iG.size;generalize hZ:(fs fY l xE).f=Z at sU;simp only[Mb]at sU;have e0:((sF.kind:Nat):Int)=0:=rfl;have e1:((sF.ak:Nat):Int)=0:=rfl;have e2:((sF.to:Nat):Int)=0:=rfl;rw[e0,e1,e2]at F2 yg;clear HC cz dA eN A0 B0 aN zV hS iG Br HW;go_wp2_with fail;rw[<-uh yg];obtain⟨c3,f3,z3⟩:=uh P2;go_region_with(go_at_call 60;refine(sU _ (qe _ _).drew).mono ?_;rintro e w3⟨rfl,oJ⟩;have K3:=(qe W1.heap.size W1).drew.trans oJ;have A3:=A2.below K3;have B3:=B2.below K3;have P3:=P2.below K3;have HK3:=ai K3;have HA3:=ai A3;have y8:=ai B3;obtain⟨a1,a2,a3⟩:=A3;obtain⟨b1,b2,b3⟩:=B3;obtain⟨p1,p2,p3⟩:=P3;clear oJ K3)
  all_goals(
   go_wp2_with fail;have oJ:=uh HK3;obtain⟨c5,f5,z5⟩:=(y8.oe (b2:=w.heap.size) ae 0<|.slice va n vc).oZ rfl (.int .i64 (Z.kind:Int)) (.int .i64 (Z.ak:Int)) (.int .i64 (Z.to:Int));obtain⟨c6,f6,z6⟩:=(HA3.rK 0 (.slice va n vc) #[.slice va n vc] ag ag).ae6 (b2:=w.heap.size+1) ae (.int .i64 (Z.kind:Int)) (.int .i64 (Z.ak:Int))<|.int .i64 (Z.to:Int);refine bodyPost_ret (v:=.tuple #[.agg #[.slice va n vc],Mb Z]) (by simp[results,Tryz.results38,go_sem,Mb,c5,c6]) rfl ?_;have kk:Fr (λb=>b=w.heap.size\/b=w.heap.size+1) w3 ((((w3.setCell ⟨w.heap.size,0,none⟩<|.slice va n vc).setCell ⟨w.heap.size+1,0,none⟩<|.int .i64 (Z.kind:Int)).setCell ⟨w.heap.size+1,1,none⟩<|.int .i64 (Z.ak:Int)).setCell ⟨w.heap.size+1,2,none⟩<|.int .i64 (Z.to:Int)):=((((Fr.refl _ _).set (jj<|jj rfl) 0 _).set (jj<|jk rfl) 0 _).set (jj<|jk rfl) 1 _).set (jj<|jk rfl) 2 _;have k3:=eA.trans<|oJ.mono eA.size;have z3':=oJ.size;refine⟨.slice va n vc,Z,rfl,Fr.zR k3 k3.size kk (λx q=>by obtain rfl|rfl:=q<;>omega),?_⟩;rw[hr]
   exact⟨hZ.symm,HR2.move bS (by have:=kk.size;omega) (λb p z=>(kk.block b ae (λq=>by obtain rfl|rfl:=q<;>omega)).trans (oJ.block b z)) (λb p z=>ae)⟩)
end
section
open Go.ChangeMaps Go.MapKept Un
def WY:EQ (BA×Ty):=λ_ _ p c=>c 0=.string p.1/\c 1=.string (bs<|wr dec (vars [] p.2) p.2 0)
def iJ:gn WY:=λ_ _ _ _ _ _ h _ _ _=>h
def fF:Option j7->Fl
 |none=>sF|some z=>z.f
def fL:Option j7->BA
 |none=>bs []|some z=>UI z
def fR:Option j7->BA
 |none=>bs []|some z=>UJ z
structure PI nl rs(Q:List (BA×Ty)->Option j7->Prop)r cnt(mks:jz)(s:j6)(Γ:j5)e B:Prop where
 pg:PG nl r e mks
 nm:∀x,x∈e.nm->Γ x≠none
 mf:In.MF mks
 ef:In.EF Γ
 kf:In.KF s
 qq:∀B' F,In.sG rs r mks Γ s B' F->Q (B++B') F
 cn:cnt+1048*BV r<=850000
section
variable {Q:List (BA×Ty)->Option j7->Prop} {r:List Dc} {cnt:Nat} {s:j6} {e:SE} {B:List (BA×Ty)}
def PI.end(h:PI nl rs Q [] cnt mks s Γ e B):Q B none:=by
 have:=h.qq [] none ⟨rfl,rfl⟩
 rwa[jo]at this
def PI.ty{t}{vs}{ms}(h:PI nl rs Q (.ty t vs ms::r) cnt mks s Γ e B):TdF t vs ms/\PI nl rs Q r cnt (In.v8 t vs ms mks) s Γ (WX fY (.ty t vs ms) e) B:=by
 have⟨d1,d2,d3,d4,d5⟩:=h.pg.d3 _<|jp ..;have⟨g1,g2⟩:=h.pg.ty;have hc:=h.cn;rw[o5]at hc;exact⟨g1,g2,h.nm,MF.add d1 d2 h.mf d5,h.ef,h.kf,h.qq,ae⟩
def LtI nl rs(Q:List (BA×Ty)->Option j7->Prop)r cnt(mks:jz)(s:j6)(Γ:j5)e B rc(t:qf)b:=∀o,In.bM rc t.text b (In.inf mks b) Γ s o->match o with
 |.error z=>In.FtF z/\Q B (some z)|.ok (a,s1)=>(48<size (sub s1.k a)->Q B (some<|j9 t.ak t.to))/\∀T aE,size (sub s1.k a)<=48->T=(if In.sw b then sub s1.k a else In.dS (sub s1.k a))->aE<=cnt+1000*(1+nn b)+48->Wf T/\size T<=48/\PI nl rs Q r aE mks (In.nxt rs s1) (j8 Γ t.text ⟨T,vars [] T⟩) (WX fY (.lt rc t b) e) (B++[(t.text,T)])
def PI.lt{rc}{t}{b}(h:PI nl rs Q (.lt rc t b::r) cnt mks s Γ e B):t.text∈nl/\cnt+1000*(1+nn b)<=850000/\1+nn b<=805/\MkFine mks/\ScE mks nl (λv=>v∈e.nm\/(rc=true/\v=t.text)) b/\LtI nl rs Q r cnt mks s Γ e B rc t b:=by
 have⟨d1,d2,d3,d4⟩:=h.pg.d3 _<|jp ..;have⟨g1,g2,g3,g4⟩:=h.pg.lt;have hc:=h.cn;rw[o5]at hc;simp only[Jb]at hc;refine⟨g1,ae,ae,h.pg.D6,g3,λo ho=>?_⟩;have g:=In.Jd rc t.text b (In.ae7 h.mf b d3.nw) Γ s h.kf h.ef o ho
 cases o with
 |error z=>
  refine⟨g,?_⟩;have:=h.qq [] (some z) ⟨_,ho,rfl,rfl⟩
  rwa[jo]at this
 |ok p=>
  obtain⟨a,s1⟩:=p;obtain⟨k1,k2⟩:=g;refine⟨λhz=>?_,λT aE hz hT Fb=>?_⟩
  .have:=h.qq [] (some<|j9 t.ak t.to) ⟨_,ho,jj ⟨hz,rfl,rfl⟩⟩
   rwa[jo]at this
  .have hw:=In.o6 k1 k2;have hTw:Wf T/\size T<=48:=by
    rw[hT];split
    .exact⟨hw,hz⟩
    .exact⟨Y' hw,by rw[oH];exact hz⟩
   refine⟨hTw.1,hTw.2,g4,λx hx=>?_,h.mf,h.ef.set _ hTw.1,λn=>?_,λB' F q=>?_,ae⟩
   .rw[j8];split
    .simp
    .rename_i df;obtain q|q:=List.mem_append.1<|show x∈e.nm++[t.text]from hx
     .exact h.nm x q
     .grind
   .show Wf ((if rs then Ty.var else s1.k) n)
    cases rs
    .exact k2 n
    .exact In.lO n
   .rw[List.append_assoc];exact h.qq _ F ⟨_,ho,jk ⟨hz,T,B',hT,rfl,q⟩⟩
end
def PI.init{s}(hs:¬400<s.size){l}(h:bX s=.ok l)(hk:(fs fY l xE).f.kind=0)rs u{cnt}(hc:cnt<=1000):PI (l.flatMap dNm) rs (In.sG rs l (λ_=>none) (λ_=>none) ⟨Ty.var,u⟩) l cnt (λ_=>none) ⟨Ty.var,u⟩ (λ_=>none) xE []:=by
 have⟨g,_⟩:=PG.init hs h hk;have:=g.sz;exact⟨g,λx hx=>by simp[xE]at hx,λx tk m q=> mO,λy c q=> mO,In.lO,λB' F q=>q,ae⟩
def o7 va n vc:=#[Iv 0,Iv 0,Iv 0,.string ⟨#[]⟩,.string ⟨#[]⟩,.slice va n vc,.slice none 0 0]
structure rL w b4 b5 b6(B:List (BA×Ty))va vc:Prop where
 r4:Bx w b4 (o7 none 0 0)
 r5:Bx w b5 (o7 va B.length vc)
 row:dC WY 40 2 w b6 va vc B
 fst:∀b,(jy va B.length vc).ownBlock=some b->∃x,w.cell? ⟨b,0,none⟩=some (.string x)
def Qs x:Oth (.string x):=⟨λ_ _ q=> mO,λ_ _ q=> mO,λ_ q=> mO⟩
def Za:Oth (Iv 0):=⟨λ_ _ q=> mO,λn h q=>(by injection q with _ q;omega),λ_ q=> mO⟩
section
variable {b4 b5 b6 lo base:Nat} {B:List (BA×Ty)} {va:Option Addr} {vc:Nat}
def rL.same(h:rL w b4 b5 b6 B va vc)(hs:w.heap.size<=w'.heap.size)(h4:w'.heap[b4]? =w.heap[b4]?)(h5:w'.heap[b5]? =w.heap[b5]?)(h6:∀b,(jy va B.length vc).ownBlock=some b->w'.heap[b]? =w.heap[b]?):rL w' b4 b5 b6 B va vc:=by
 refine⟨h.r4.same hs h4,h.r5.same hs h5,?_,λb q=>?_⟩
 .have⟨cs,ho,hr⟩:=h.row;exact⟨cs,sY ho h6,hr⟩
 .have⟨x,hx⟩:=h.fst b q;exact⟨x,by rw[jt (a:=⟨b,0,none⟩)<|h6 b q];exact hx⟩
def rL.af(h:rL w b4 b5 b6 B va vc)(k:Bq w w'):rL w' b4 b5 b6 B va vc:=
 h.same k.size (k.block _ h.r4.z) (k.block _ h.r5.z) λb q=>k.block b (h.row.block b q).2
def rL.kp(h:rL w b4 b5 b6 B va vc)(k:KpI lo base w w')(h4:base<=b4)(h5:base<=b5)(h6:base<=b6):rL w' b4 b5 b6 B va vc:=
 h.same k.size (k.box _ _ h.r4.z h4 (by rw[h.r4.c 0];rfl) Za.p) (k.box _ _ h.r5.z h5 (by rw[h.r5.c 0];rfl) Za.p) λb q=>by
  have⟨x,hx⟩:=h.fst b q;have:=h.row.block b q;exact k.box _ _ this.2 ae hx (Qs x).p
def dC.fst(h:dC WY 40 2 w b6 va vc B)(hB:B≠[]):∀b,(jy va B.length vc).ownBlock=some b->∃x,w.cell? ⟨b,0,none⟩=some (.string x):=λb q=>by
 have⟨qM,qN,cs,e,aN,hq⟩:=h.v iJ;injection e with e1 _ e2;subst e1 e2;have hl:=List.length_pos_iff.2 hB;obtain e|⟨g,rfl,h1,h2,h3⟩:=aN
 .exact absurd e hB
 .have hg:g=b:=by simpa[Value.ownBlock]using q
  subst hg;have:=h3 0 hl 0 aH;rw[(hq 0 hl).1]at this;exact⟨_,by simpa using this⟩
def rL.grow{S}{ty}{eb}(E:Zb ty eb lo base rs nl S){cnt}{s}{w5 w6}{n}{T}{q3 c3}{cs}(h:rL w b4 b5 b6 B va vc)(hS:S w cnt mks s Γ)(h45:b4<b5/\b5<b6)(hb6:b6<=w.heap.size)(hb:base<=b4)(nN:lo<=base)(k:Bq w w5)(Mt:∀i(h:i<B.length),WY w (λb=>b6<=b/\b<w.heap.size/\(jy va B.length vc).ownBlock≠some b) B[i]<|cs i)(h6:w6.ownsRow b6 40 2 (.slice (some ⟨q3,0,none⟩) (B.length+1) c3) (B.length+1) (gR cs 2 B.length++[.string n,.string<|bs<|wr dec (vars [] T) T 0]))(hg:(w5.alloc<|.cells #[.string n,.string<|bs<|wr dec (vars [] T) T 0] 40).grownBy w6 (jy va B.length vc).ownBlock)(UK:(jy (some ⟨q3,0,none⟩) (B.length+1) c3).ownBlock=(jy va B.length vc).ownBlock\/(jy (some ⟨q3,0,none⟩) (B.length+1) c3).ownBlock=some (w5.alloc<|.cells #[.string n,.string<|bs<|wr dec (vars [] T) T 0] 40).heap.size):
 S (w6.setCell ⟨b5,5,none⟩<|.slice (some ⟨q3,0,none⟩) (B.length+1) c3) cnt mks s Γ/\rL (w6.setCell ⟨b5,5,none⟩<|.slice (some ⟨q3,0,none⟩) (B.length+1) c3) b4 b5 b6 (B++[(n,T)]) (some ⟨q3,0,none⟩) c3/\Below lo w (w6.setCell ⟨b5,5,none⟩<|.slice (some ⟨q3,0,none⟩) (B.length+1) c3):=by
 obtain⟨W,hW⟩:∃W,W=w5.alloc (Cv #[Sv n,Sv<|bs<|wr dec (vars [] T) T 0] 40):=⟨_,rfl⟩;rw[<-hW]at hg UK;have k5:Bq w5 W:=by rw[hW];exact bw _
 have kW:=k.trans<|k5.mono k.size;have RW:=h.af kW;have Ja:=h.row.block;have z5:=h.r5.z;have zW:=kW.size;have F6:Fr (λi=>(Lv va B.length vc).ownBlock=some i) W w6:=⟨hg.os,hg.tape,hg.output,hg.size,λb hb hn=>hg.block b hb<|λe=>hn e.symm⟩;have S6:S w6 cnt mks s Γ:=by
  cases ho:(Lv va B.length vc).ownBlock with
  |none=>exact E.af (E.af hS kW) (F6.none λb q=>by rw[ho]at q;cases q)|some b=>
   have⟨x,hx⟩:=RW.fst b ho;have:=Ja b ho;exact E.oth (E.af hS kW) ae hx (Qs x) (F6.fX λi q=>by rw[ho]at q;injection q with q;exact q.symm)
 have R4:=RW.r4.fr F6 (λq=>by have:=Ja _ q;omega);have R5:=RW.r5.fr F6 (λq=>by have:=Ja _ q;omega);have F7:Fr (λi=>i=b5) w6 (w6.setCell ⟨b5,5,none⟩<|Lv (some ⟨q3,0,none⟩) (B.length+1) c3):=(Fr.refl (λi=>i=b5) w6).set (jj rfl) 5 _;have aN:dC WY 40 2 w6 b6 (some ⟨q3,0,none⟩) c3 (B++[(n,T)]):=
  dC.push (w1:=w5) (W:=W) (lo:=w5.heap.size) (a:=(n,T)) (c:=λj=>if j=0 then Sv n else Sv (bs<|wr dec (vars [] T) T 0)) (cs:=cs) iJ (λi hi=>Mt i hi) ⟨rfl,rfl⟩ (by have:=k.size;omega) (λb e=>by have:=Ja b e;have:=k.size;omega) k5 h6 hg UK
 have fW:1<=(B++[(n,T)]).length:=ag;have hlen:(B++[(n,T)]).length=B.length+1:=ag;have ae8:=aN.od (w':=w6.setCell ⟨b5,5,none⟩<|Lv (some ⟨q3,0,none⟩) (B.length+1) c3) iJ F7.size (λb q z=>F7.block b z (by show b≠b5;omega));refine⟨E.oth S6 ae (by rw[R5.c 0];rfl) Za F7,⟨R4.fr F7 (by show ¬b4=b5;omega),?_,ae8,ae8.fst ag⟩,?_⟩
 .rw[hlen];exact R5.rK 5 _ _ (by simp[o7]) (by simp[o7])
 .have hz:=h.r4.z;refine⟨F7.os.trans<|F6.os.trans kW.os,F7.tape.trans<|F6.tape.trans kW.tape,F7.output.trans<|F6.output.trans kW.output,jc zW<|jc F6.size F7.size,λb hb=>?_⟩;have h6z:=F6.size;exact(F7.block b ae (by show ¬b=b5;omega)).trans ((F6.block b ae (λq=>by have:=Ja b q;omega)).trans<|kW.block b ae)
end
def agQ.cases{S}{lo base}{rs}{nl}{Q}{r}{cnt}{mks}{s}{Γ}{se}{B}{rc}{t}{b}{w w'}{e}(h:agQ S lo base rs cnt mks s Γ rc t.text t.ak t.to b w e w')(hP:LtI nl rs Q r cnt mks s Γ se B rc t b):KpI lo base w w'/\((∃z vl vr,e=.returned (.tuple #[.nilIface,BW z.f vl vr])/\sf w' (λ_=>True) z vl vr/\In.FtF z/\Q B (some z))\/
  ∃T ta xa aE s1,e=.returned (.tuple #[.iface ta xa,.agg L0])/\dW w' (λ_=>True) T (.iface ta xa)/\Wf T/\size T<=48/\S w' aE mks s1 (j8 Γ t.text ⟨T,vars [] T⟩)/\PI nl rs Q r aE mks s1 (j8 Γ t.text ⟨T,vars [] T⟩) (WX fY (.lt rc t b) se) (B++[(t.text,T)])):=by
 obtain⟨hk,o,ho,hq⟩:=h;have hp:=hP o ho;refine⟨hk,?_⟩
 cases o with
 |error z=>
  obtain⟨vl,vr,e1,e2⟩:=hq;exact jj ⟨z,vl,vr,e1,e2,hp⟩
 |ok p=>
  obtain⟨a,s1⟩:=p;obtain⟨z,e1⟩|⟨z,T,ta,xa,aE,hT,e1,e2,e3,e4⟩:=hq
  .exact jj ⟨j9 t.ak t.to,Zv,Zv,e1,⟨λ_=>⟨rfl,rfl⟩,λq=> mO,jk rfl⟩,In.Fc _ _,hp.1 z⟩
  .grind
end
end Go.Proofs.YtfnkchdeheeiiaaGreatDoor

import Derived.Test.YtfnkchdeheeiiaaGreatDoorCYf
import Derived.Test.YtfnkchdeheeiiaaGreatDoorCYa
set_option linter.all false
set_option maxRecDepth 100000
set_option maxHeartbeats 8000000
namespace Go.Proofs.YtfnkchdeheeiiaaGreatDoor
open _root_.Nat renaming le_succ->ja,le_trans->jc,lt_of_lt_of_le->jd,add_zero->jf,zero_le->jh,mul_one->ji
open Or renaming inl->jj,inr->jk
open _root_.List renaming take_of_length_le->jl,take_succ_eq_append_getElem->jm,append_nil->jo,mem_cons_self->jp,getElem_mem->jq
open Go.World renaming cell?_of_block->jt
open Go.Proofs.Tryz renaming underlying209->ju,underlying9->jv,prog->jx
open Go.Value renaming slice->jy
open In renaming Mks->jz,Env->j3,St->j5,Ft->j6,gR->j7,qA->j8
open Go.RowKit.Below renaming refl->j9
open Pu renaming Tok->qc
open Go Go.RowKit Proofs.Tryz
variable {s:BA} {lo:BA->Nat} {F:BA->Option Nat} {rs:Bool} {f:Fl} {Γ:j3} {mks:jz} {nl:List BA} {l:List Dc} {B cb lb mb tb:Nat} {w w':World}
section
open Go.ChangeMaps Go.MapKept
theorem Vf{r}(h:s.toList=39::r):(s.extract 1 s.size).toList=r:=by
 rw[ByteArray.toList_eq]at h⊢;rw[ByteArray.data_extract];simp;rw[h];have:s.size=(39::r).length:=by rw[<-h];simp
 rw[this];simp
def aal{t}(hs:∃r,s.toList=39::r)(ht:∃r,t.toList=39::r)(h:s.extract 1 s.size=t.extract 1 t.size):s=t:=by grind[Vf,toList_inj]
def Kf.up{own}(h:Kf own F)(hs:∃r,s.toList=39::r)n:Kf (own++[s]) (fE F (s.extract 1 s.size) n):=λx hx=>by
 have e:fC x (own++[s])=(fC x own||decide (s=x)):=by unfold fC;rw[List.any_append];simp only[List.any_cons,List.any_nil,Bool.or_false]
 rw[e];unfold fE;by_cases q:s=x
 .subst q;simp
 .rw[if_neg<|λe=>q<|aal hs hx e.symm,h x hx];simp[q]
structure CD cb tb mb lb ob ty mk lo F w0 xb C f wr:Prop where
 d:CK wr cb tb mb lb ty mk lo f
 k:Fr (λb=>b=cb\/b=tb\/b=mb) w0 wr
 o:FM wr ob F
 b:Bx wr xb C
section
variable {ob xb:Nat} {C:Array Value} {ty mk F' mk':BA->Option Nat} {w0 wr w1:World} {f':Fl}
def CD.af(h:CD cb tb mb lb ob ty mk lo F w0 xb C f wr)(hb:Bq wr w'):CD cb tb mb lb ob ty mk lo F w0 xb C f w':=⟨h.d.af hb,h.k.trans<|Fr.of hb,h.o.below hb,h.b.below hb⟩
def CD.ke(h:CD cb tb mb lb ob ty mk lo F w0 xb C f wr)(hk:Ke cb wr w')(d:CK w' cb tb mb lb ty mk lo f')(ho:ob≠cb)(hx:xb≠cb):CD cb tb mb lb ob ty mk lo F w0 xb C f' w':=
 ⟨d,h.k.trans ⟨hk.os,hk.tape,hk.output,hk.size,λb hb hn=>hk.block b hb<|λe=>hn<|jj e⟩,h.o.ke hk ho,h.b.ri hk hx⟩
def CD.aiy(h:CD cb tb mb lb ob ty mk lo F w0 xb C f wr)(o:One ob wr w')(m:FM w' ob F')(n:ob≠cb/\ob≠tb/\ob≠mb/\ob≠lb)(hz:w0.heap.size<=ob)(hx:xb≠ob):CD cb tb mb lb ob ty mk lo F' w0 xb C f w':=
 ⟨h.d.one o n,h.k.trans' (⟨o.os,o.tape,o.output,Jc,λb _ hn=>o.block b hn⟩:Fr (λb=>b=ob) wr w')<|λb q=>jk (by have q:b=ob:=q;omega),m,h.b.one o hx⟩
def CD.aiz(h:CD cb tb mb lb ob ty mk lo F w0 xb C f wr)(o:One mb wr w')(m:FM w' mb mk')(ho:ob≠mb)(hx:xb≠mb):CD cb tb mb lb ob ty mk' lo F w0 xb C f w':=
 ⟨h.d.agH o m,h.k.trans ⟨o.os,o.tape,o.output,Jc,λb _ hn=>o.block b<|λe=>hn<|jk<|jk e⟩,h.o.aec o ho,h.b.one o hx⟩
def DR.of{b}(h:FM w b F):DR w (Mv b) F:=by grind[FM,DR]
def PVR cb tb mb lb ob ty mk lo w0 xb C z(vs:List qc)(own:List BA)gk c wr:=∃(i:Nat)(F:BA->Option Nat),Hid (gk=vs.length-i)/\i<=vs.length/\c=Nv i/\CD cb tb mb lb ob ty mk lo F w0 xb C (Cu [] (vs.take i) z) wr/\Kf (own.take i) F
def PMR cb tb mb lb ob ty mk lo F w0 xb C z(ms:List Nd)own gk c wr:=∃j:Nat,Hid (gk=ms.length-j)/\j<=ms.length/\c=Nv j/\CD cb tb mb lb ob ty (zH fE ty own (ms.take j) (mk,z)).1 lo F w0 xb C (zH fE ty own (ms.take j) (mk,z)).2 wr
def Vg(u:Zh)(ty:BA->Option Nat)(own:List BA):Nd->(BA->Option Nat)×Fl->(BA->Option Nat)×Fl
 |.mk _ s _ L _ _ a,q=>(u q.1 s L.length,ir ty own L<|bi (q.1 s).isSome 4 a (a+s.size) q.2)
def FE(u:Zh)(ty:BA->Option Nat)(own:List BA):∀(l:List Nd)(m:Nd)(q:(BA->Option Nat)×Fl),zH u ty own (l++[m]) q=Vg u ty own m (zH u ty own l q)
 |[],.mk _ _ _ _ _ _ _,q=>rfl|.mk _ _ _ _ _ _ _::r,m,q=>FE u ty own r m _
def QW u ty own(ms:List Nd)q j(h:j<ms.length):zH u ty own (ms.take<|j+1) q=Vg u ty own ms[j] (zH u ty own (ms.take j) q):=by
 rw[jm h,FE]
def Kg{t:qc}{vs}{ms}{vv vm}{x y}(h:CK w cb tb mb lb ty mk lo f)(hB:B<=cb)(hBt:B<=tb)(hBm:B<=mb)(zI:B<=lb)(hv:RowV QName 3 w (·<B) vs vv)(hm:RowV QMaker 6 w (·<B) ms vm)(hvs:vs.length<=1000)(hms:∀m∈ms,Sm m)(Vh:ms.length<=1000):
 Cq 122 #[cp cb,.agg #[Iv x,Iv y,Nv t.al,Nv t.to,.string t.text,vv,vm]] w λe w'=>e=.returned (.tuple #[])/\Fr (λb=>b=cb\/b=tb\/b=mb) w w'/\CK w' cb tb mb lb (fE ty t.text vs.length) (zH fE (fE ty t.text vs.length) (vs.map (·.text)) ms (mk,Cu [] vs<|bi (ty t.text).isSome 4 t.al t.to f)).1 lo (zH fE (fE ty t.text vs.length) (vs.map (·.text)) ms (mk,Cu [] vs<|bi (ty t.text).isSome 4 t.al t.to f)).2:=by
 obtain⟨va,vc,cv,rfl,HVR,HVQ⟩:=hv;obtain⟨ma,mc,cm,rfl,HMR,hmq⟩:=hm;obtain⟨C,hC⟩:∃C:Array Value,Hid<|C=#[Iv x,Iv y,Nv t.al,Nv t.to,Sv t.text,Lv va vs.length vc,Lv ma ms.length mc]:=⟨_,ai rfl⟩;have iE:= @run_makeMap jx;have HMQ:=ai hmq;have⟨z1,z2,z3,z4⟩:=h.lts;have⟨cx,B1⟩:=sf w #[Iv x,Iv y,Nv t.al,Nv t.to,Sv t.text,Lv va vs.length vc,Lv ma ms.length mc] 137;have D1:=ai<|h.af cx;have F1:Hid (Fr (λb=>b=cb\/b=tb\/b=mb) w<|w.alloc<|Cv #[Iv x,Iv y,Nv t.al,Nv t.to,Sv t.text,Lv va vs.length vc,Lv ma ms.length mc] 137):=ai<|Fr.of cx;obtain⟨own,gT⟩:∃own,Hid (own=vs.map (·.text)):=⟨_,ai rfl⟩;have ho:own.length=vs.length:=by rw[uh gT];simp
 obtain⟨TY,hTY⟩:∃TY,Hid<|TY=fE ty t.text vs.length:=⟨_,ai rfl⟩;obtain⟨Q,HQ⟩:∃Q,Hid<|Q=zH fE TY own ms (mk,Cu [] vs<|bi (ty t.text).isSome 4 t.al t.to f):=⟨_,ai rfl⟩;rw[<-uh gT,<-uh hTY,<-uh HQ];have xF:∀b,b<B->¬(b=cb\/b=tb\/b=mb):=λb hb q=>ae;have hct:=h.ct;have htc:tb≠cb:=λe=>h.ct e.symm;have hmc:mb≠cb:=λe=>h.cm e.symm;have⟨c1,f1,y1⟩:=uh B1;have⟨c2,f2,y2⟩:=D1.bx;clear h hmq cx;go_enter func122,ntmps122;go_wp2_with fail;go_cut[]from 9 (λwc=>CK wc cb tb mb lb TY mk lo (bi (ty t.text).isSome 4 t.al t.to f)/\Fr (λb=>b=cb\/b=tb\/b=mb) w wc/\Bx wc w.heap.size #[Iv x,Iv y,Nv t.al,Nv t.to,Sv t.text,Lv va vs.length vc,Lv ma ms.length mc])
 case first=>
  go_region_with(go_at_call 173;refine(sL (D1.af (j9 _ _).drew) (D1.af (j9 _ _).drew).t htc t.al t.to vs.length t.text).mono ?_;rintro e w3⟨rfl,w2,k2,d2,o2,m2⟩;have D3:=ai<|d2.agI o2 m2;have F3:=ai ((F1.drew.trans (⟨k2.os,k2.tape,k2.output,k2.size,λb hb hn=>k2.block b hb<|λe=>hn<|jj e⟩:Fr (λb=>b=cb\/b=tb\/b=mb) _ _)).trans (⟨o2.os,o2.tape,o2.output,by rw[o2.size];exact br _,λb _ hn=>o2.block b<|λe=>hn<|jk<|jj e⟩:Fr (λb=>b=cb\/b=tb\/b=mb) _ _));have B3:=ai<|(B1.g_.ri k2 ae).one o2 ae;clear k2 d2 o2 m2)
  all_goals(
   go_wp2_with fail
   go_meet
   case rel=>exact⟨by rw[uh hTY];exact D3,F3,B3⟩)
 case rest=>
  obtain⟨D2,F2,B2⟩:=hcut;have Zi:=F2.size;clear D1 F1 B1 c1 f1 y1 c2 f2 y2;generalize bi (ty t.text).isSome 4 t.al t.to f=z1' at D2 HQ;have X3:Hid (CD cb tb mb lb wc.heap.size TY mk lo (λ_=>none) w w.heap.size #[Iv x,Iv y,Nv t.al,Nv t.to,Sv t.text,Lv va vs.length vc,Lv ma ms.length mc] z1'<|wc.alloc<|.map #[] 0):=ai ⟨D2.af<|bw _,F2.trans<|Fr.of<|bw _,⟨[],MS.new _ wc,λx=>rfl⟩,B2.alloc _⟩;have⟨zc1,zc2,zc3,zc4⟩:=D2.lts;have zB:=B2.z;have FI:wc.heap.size≠cb/\wc.heap.size≠tb/\wc.heap.size≠mb/\wc.heap.size≠lb:=⟨ae,ae,ae,ae⟩;have hxo:w.heap.size≠wc.heap.size:=ae;have⟨c1,f1,y1⟩:=X3.b;clear D2 F2 B2;go_wp2_with fail;clear c1 f1 y1;go_loopg[24] vs.length (λgk c wr=>PVR cb tb mb lb wc.heap.size TY mk lo w w.heap.size #[Iv x,Iv y,Nv t.al,Nv t.to,Sv t.text,Lv va vs.length vc,Lv ma ms.length mc] z1' vs own gk c wr)
  case atStart=>exact⟨0,_,ai rfl,jh _,rfl,X3,λs _=>by simp[fC]⟩
  case round=>
   clear X3;obtain⟨i,F,c_,hi,rfl,hX,hO⟩:=hrel;have XR:=ai hX;have HO:=ai hO;have hsw:=hX.k.size;clear hX hO;have⟨c1,f1,y1⟩:=XR.b;by_cases bA:i<vs.length
   .have hd:(i:Int)<(vs.length:Int):=ae;obtain⟨g,rfl,Vi,hg,o8⟩:∃g,va=some ⟨g,0,none⟩/\g<B/\g<w.heap.size/\∀i,i<vs.length->∀j,j<3->w.cell? ⟨g,i*3+j,none⟩=some (cv i j):=by
     obtain e|e:=HVR
     .exact absurd bA QX
     .exact e
    have kZ:∀o,wr.cell? ⟨g,o,none⟩=w.cell? ⟨g,o,none⟩:=λo=>jt (a:=⟨g,o,none⟩)<|XR.k.block g hg<|xF g Vi;have d0:=(kZ _).trans<|o8 i bA 0 ae;have d1:=(kZ _).trans<|o8 i bA 1 ae;have d2:=(kZ _).trans<|o8 i bA 2 ae;have⟨e0,e1,e2,e3,e4⟩:=HVQ i bA;rw[e0]at d0;rw[e1]at d1;rw[e2]at d2;simp only[jf]at d0;have DS:=ai<|Vk vs z1' i bA;rw[<-uh gT]at DS;have HOS:=HO vs[i].text e3
    have HOU:=ai (show Kf (own.take<|i+1) (fE F (vs[i].text.extract 1 vs[i].text.size) 0) by
     have pC:i<own.length:=ae;have eo:own[i]=vs[i].text:=by simp[uh gT]
     rw[jm pC,eo]
     exact HO.up e3 0)
    generalize Cu [] (vs.take i) z1'=zi at XR DS;generalize vs[i]=v at d0 d1 d2 DS HOS HOU;have⟨cx,BA⟩:=sf wr #[Nv v.al,Nv v.to,Sv<|v.text.extract 1 v.text.size] 133;have XA:=ai<|XR.af cx;have HC:=ai<|sL XA.d XA.o FI.1 v.al v.to 0<|v.text.extract 1 v.text.size;rw[HOS,<-uh DS]at HC;have⟨c2,f2,y2⟩:=uh BA;clear cx e0 e1 e2 e3 e4 kZ o8;go_wp2_with fail;refine HC.mono ?_;rintro e w3⟨rfl,w2,k2,dd2,o2,m2⟩;have X5:=(XA.ke k2 dd2 FI.1 ae).aiy o2 m2 FI ae hxo;clear k2 dd2 o2 m2 HC
    go_wp2
    go_roundg(vs.length-(i+1))
    case measure=>rw[uh c_];omega
    case rel=>exact⟨i+1,_,ai rfl,ae,iF,X5,HOU⟩
   .have hd:decide ((i:Int)<(vs.length:Int))=false:=bQ;have he:vs.take i=vs:=jl ae;have he2:own.take i=own:=jl ae;rw[he]at XR;rw[he2]at HO;generalize Cu [] vs z1'=z2' at XR HQ;go_wp2_with fail;clear c1 f1 y1;go_loopg[36] ms.length (λgk c wr=>PMR cb tb mb lb wc.heap.size TY mk lo F w w.heap.size #[Iv x,Iv y,Nv t.al,Nv t.to,Sv t.text,Lv va vs.length vc,Lv ma ms.length mc] z2' ms own gk c wr)
    case atStart=>exact⟨0,ai rfl,jh _,rfl,XR⟩
    case round=>
     clear XR;obtain⟨j,hgj,hj,rfl,hX⟩:=hrel;have XJ:=ai hX;have hsj:=hX.k.size;clear hX;have⟨c1,f1,y1⟩:=XJ.b;by_cases Zj:j<ms.length
     .have hd':(j:Int)<(ms.length:Int):=ae;obtain⟨g,rfl,Vi,hg,o8⟩:∃g,ma=some ⟨g,0,none⟩/\g<B/\g<w.heap.size/\∀i,i<ms.length->∀j,j<6->w.cell? ⟨g,i*6+j,none⟩=some (cm i j):=by
       obtain e|e:=HMR
       .exact absurd Zj QX
       .exact e
      have kZ:∀o,wr.cell? ⟨g,o,none⟩=w.cell? ⟨g,o,none⟩:=λo=>jt (a:=⟨g,o,none⟩)<|XJ.k.block g hg<|xF g Vi;have d0:=(kZ _).trans<|o8 j Zj 0 ae;have d1:=(kZ _).trans<|o8 j Zj 1 ae;have d2:=(kZ _).trans<|o8 j Zj 2 ae;have d3:=(kZ _).trans<|o8 j Zj 3 ae;have d4:=(kZ _).trans<|o8 j Zj 4 ae;have d5:=(kZ _).trans<|o8 j Zj 5 ae;obtain⟨ss,nn',L,mf,mt,aa,yy,vt,e0,q0,q1,q2,q3,q4,q5,hu,hyy,ta,tc,ct,rfl,htr,HTQ⟩:=uh HMQ j Zj;rw[q0]at d0;rw[q1]at d1;rw[q2]at d2;rw[q3]at d3;rw[q4]at d4;rw[q5]at d5;simp only[jf]at d0;have HSM:=ai (show Sm (.mk 2 ss nn' L mf mt aa) by rw[<-e0];exact hms _<|jq Zj);have⟨hLl,hf4,ha4,hs4⟩:=HSM.len;have DS:=ai<|QW fE TY own ms (mk,z2') j Zj;rw[e0]at DS;rw[Vg]at DS;generalize zH fE TY own (ms.take j) (mk,z2')=qj at XJ DS;obtain⟨mkj,zj⟩:=qj;simp only at DS XJ;have HYY:=ai hyy;have HTR:=ai htr;have⟨cx,BA⟩:=sf wr #[Nv mf,Nv mt,Nv aa,Nv yy,Sv ss,Lv ta L.length tc] 286;have XA:=ai<|XJ.af cx;have⟨zr1,zr2,zr3,zr4⟩:=XJ.d.lts;have zro:=XJ.o.lt;have zrx:=XJ.b.z;have⟨c2,f2,y2⟩:=uh BA;have⟨c3,f3,y3⟩:=XA.d.bx;clear cx q0 q1 q2 q3 q4 q5 kZ o8 hyy htr e0 XJ c1 f1 y1;go_wp2_with fail
      go_cut[]from 37 to 56 (λwd=>CD cb tb mb lb wc.heap.size TY (fE mkj ss L.length) lo F w w.heap.size #[Iv x,Iv y,Nv t.al,Nv t.to,Sv t.text,Lv va vs.length vc,Lv (some ⟨g,0,none⟩) ms.length mc] (bi (mkj ss).isSome 4 aa (aa+ss.size) zj) wd/\Bx wd wr.heap.size #[Nv mf,Nv mt,Nv aa,Nv yy,Sv ss,Lv ta L.length tc])
      case first=>
       go_region_with(go_at_call 173;refine(sL (XA.af (j9 _ _).drew).d (XA.af (j9 _ _).drew).d.m hmc aa yy L.length ss).mono ?_;rintro e w3⟨rfl,w2,k2,dd2,o2,m2⟩;have X3:=ai<|((XA.af (j9 _ _).drew).ke k2 dd2 FI.1 ae).aiz o2 m2 FI.2.2.1 ae;have B3:=ai<|(BA.g_.ri k2 ae).one o2 ae;clear k2 dd2 o2 m2)
       all_goals(
        go_wp2_with fail
        go_meet
        case rel=>exact⟨by rw[<-uh HYY];exact X3,B3⟩)
      case rest=>
       obtain⟨X4,B4⟩:=hcut;clear XA BA c2 f2 y2 c3 f3 y3;generalize bi (mkj ss).isSome 4 aa (aa+ss.size) zj=zt at X4 DS;obtain⟨c2,f2,y2⟩:=B4
       have HC:=ai (AB (sa:=ta) (sc:=tc) (vs:=λi=>ct i 0) (own:=own) (λx _=>FK x) X4.d hB (by
        obtain q|⟨g',e,q1,q2,q3⟩:=uh HTR
        .exact jj q
        .refine jk ⟨g',e,q1,jd q2 X4.k.size,λi hi=>?_⟩;have:=q3 i hi 0 ae;rw[ji,jf]at this
         exact(jt (a:=⟨g',i,none⟩)<|X4.k.block g' q2<|xF g' q1).trans this) (λi hi=>(HTQ i hi:PT w (·<B) L[i] (ct i 0)).Nj X4.k xF) (DR.of X4.o) (λb q=>by cases q;exact FI.1) HO HSM.part hLl)
       go_wp2_with fail;refine HC.mono ?_;rintro e w5⟨rfl,k5,d5'⟩;have X5:=X4.ke k5 d5' FI.1 ae;clear k5 d5' HC
       go_wp2
       go_roundg(ms.length-(j+1))
       case measure=>rw[uh hgj];omega
       case rel=>exact⟨j+1,ai rfl,ae,iF,by rw[uh DS];exact X5⟩
     .have hd':decide ((j:Int)<(ms.length:Int))=false:=bQ;have he3:ms.take j=ms:=jl ae;rw[he3,<-uh HQ]at XJ
      go_wp2
      go_end0;exact⟨rfl,XJ.k,XJ.d⟩
end
def Fr.wide{S T}{a b}(h:Fr S a b)(hS:∀x,S x->T x):Fr T a b:=⟨h.os,h.tape,h.output,h.size,λk hk hn=>h.block k hk<|λq=>hn<|hS k q⟩
section
variable {e0:SE}
def aed:fE (fE (fE (λ_=>none) mO 0) iA 0) iB 0=ty0:=by grind[fE,ty0]
def Cw:Cq 92 #[] w λe w'=>∃cb tb mb lb,e=.returned (cp cb)/\Bq w w'/\(w.heap.size<=cb/\w.heap.size<=tb/\w.heap.size<=mb/\w.heap.size<=lb)/\CK w' cb tb mb lb ty0 (λ_=>none) (λ_=>0) gF:=by
 have iE:= @run_makeMap Tryz.prog;have H:=MS.new Sv w;have HF:∀x,aY x ([]:List (BA×Value))=((λ_=>none:BA->Option Nat) x).map λ(n:Nat)=>Nv n:=(λx=>rfl);have HB:=(Below.refl w.heap.size w).alloc (br _)<|.map #[] 0;have HZ:(w.alloc<|.map #[] 0).heap.size=w.heap.size+1:=ag;go_enter func92,ntmps92
 go_wp2_with(first
  |(refine aU _ rfl _ _ _ _ (jj rfl) (KL.str jv) ju _ _ rfl H mO (.int .i64 ((0:Nat):Int)) rfl rfl trivial (λ_ _=>trivial) ?_;intro w1 H' O';have H1:=ai H';have yW:=ai<|FM.put HF mO 0;have dC:=ai<|One.below HB O'<|br _;have HZ1:=ai<|O'.size.trans HZ;clear H' O' H HF HB HZ)|(refine aU _ rfl _ _ _ _ (jj rfl) (KL.str jv) ju _ _ rfl H1 iA (.int .i64 ((0:Nat):Int)) rfl rfl trivial (λ_ _=>trivial) ?_;intro w2 H' O';have H2:=ai H';have yN:=ai<|FM.put yW iA 0;have ed:=ai<|One.below dC O'<|br _;have HZ2:=ai<|O'.size.trans HZ1;clear H' O' H1 yW dC HZ1)|(refine aU _ rfl _ _ _ _ (jj rfl) (KL.str jv) ju _ _ rfl H2 iB (.int .i64 ((0:Nat):Int)) rfl rfl trivial (λ_ _=>trivial) ?_;intro w3 H' O';have H3:=ai H';have HF3:=ai<|FM.put yN iB 0;have Jn:=ai<|One.below ed O'<|br _;have HZ3:=ai<|O'.size.trans HZ2;clear H' O' H2 yN ed HZ2))
 go_ret;have z3:=uh HZ3;have b4:Bq w3 (((w3.alloc<|.map #[] 0).alloc<|.map #[] 0).alloc<|Cv #[Mv w.heap.size,Mv w3.heap.size,Mv<|w3.heap.size+1,Iv 0,Iv 0,Iv 0] 211):=((bw _).alloc ag _).alloc bQ _;have m1:MS Sv (((w3.alloc<|.map #[] 0).alloc<|.map #[] 0).alloc<|Cv #[Mv w.heap.size,Mv w3.heap.size,Mv<|w3.heap.size+1,Iv 0,Iv 0,Iv 0] 211) w3.heap.size []:=((MS.new Sv w3).below<|bw _).below<|bw _;have m2:MS Sv (((w3.alloc<|.map #[] 0).alloc<|.map #[] 0).alloc<|Cv #[Mv w.heap.size,Mv w3.heap.size,Mv<|w3.heap.size+1,Iv 0,Iv 0,Iv 0] 211) (w3.heap.size+1) []:=by
  have:=(MS.new Sv<|w3.alloc<|.map #[] 0).below<|bw<|Cv #[Mv w.heap.size,Mv w3.heap.size,Mv<|w3.heap.size+1,Iv 0,Iv 0,Iv 0] 211;simpa using this
 have bx:Bx (((w3.alloc<|.map #[] 0).alloc<|.map #[] 0).alloc<|Cv #[Mv w.heap.size,Mv w3.heap.size,Mv<|w3.heap.size+1,Iv 0,Iv 0,Iv 0] 211) (w3.heap.size+1+1) #[Mv w.heap.size,Mv w3.heap.size,Mv<|w3.heap.size+1,Iv 0,Iv 0,Iv 0]:=by
  have:=Bx.new ((w3.alloc<|.map #[] 0).alloc<|.map #[] 0) #[Mv w.heap.size,Mv w3.heap.size,Mv<|w3.heap.size+1,Iv 0,Iv 0,Iv 0] 211;simpa using this
 have ft:=uh HF3;rw[aed]at ft;refine⟨w3.heap.size+1+1,w.heap.size,w3.heap.size,w3.heap.size+1,rfl,Jn.trans<|b4.mono ae,⟨ae,ae,ae,ae⟩,bx,⟨_,H3.below b4,ft⟩,⟨_,m1,λx=>rfl⟩,⟨_,m2,λx=>jk ⟨rfl,rfl⟩⟩,ae,ae,ae,ae,ae,ae⟩
def DSo:Dc->Prop
 |.ty _ vs ms=>vs.length<=1000/\(∀m∈ms,Sm m)/\ms.length<=1000|.lt _ _ b=>Sm b/\nn b<=1000
def DeP(cb tb mb lb B:Nat)d e0(lo:BA->Nat)w(e:Ending)w':=e=.returned (.tuple #[])/\∃Vl,CK w' cb tb mb lb (Tf fE d e0).ty (Tf fE d e0).mks Vl (Tf fE d e0).f/\Jo Vl (Tf fE d e0).nm/\(∀x,Vl x<=lo x+1)/\Fr (λb=>b=cb\/b=tb\/b=mb\/b=lb) w w'
def Jo.put{l}(h:Jo lo l)s:Jo (λx=>if x=s then lo s+1 else lo x) (l++[s]):=by grind[Jo]
def aee{d}{v}(h:CK w cb tb mb lb e0.ty e0.mks lo e0.f)(hl:Jo lo e0.nm)(hB:B<=cb)(hBt:B<=tb)(hBm:B<=mb)(zI:B<=lb)(hx:PD w (·<B) d v)(hs:DSo d)(pC:∀x,lo x<=2000):
 Cq 93 #[cp cb,v] w (DeP cb tb mb lb B d e0 lo w):=by
 have⟨z1,z2,z3,z4⟩:=h.lts
 cases d with
 |ty t vs ms=>
  obtain⟨x,u,vv,vm,rfl,hu,ht,hv,hm0,hm⟩:=hx;have HV:=hv.move dc (br _) (λ_ _ _=>rfl)<|λ_ p _=>p;have HM:=hm.move bS (br _) (λ_ _ _=>rfl)<|λ_ p _=>p;obtain⟨va,vc,cv,rfl,-⟩:=hv;obtain⟨ma,mc,cm,rfl,-⟩:=hm;have⟨cx,B1⟩:=sf w #[Iv x,Iv u,Nv t.al,Nv t.to,Sv t.text,Lv va vs.length vc,Lv ma ms.length mc] 137;have HC:=ai<|Kg (t:=t) (x:=x) (y:=u) (h.af cx) hB hBt hBm zI (HV.move dc cx.size (λb _ z=>cx.block b z)<|λ_ p _=>p) (HM.move bS cx.size (λb _ z=>cx.block b z)<|λ_ p _=>p) hs.1 hs.2.1 hs.2.2;have HB:=ai cx;have⟨c1,f1,y1⟩:=uh B1;clear h cx HV HM hs ht hu;go_enter func93,ntmps93;go_wp2_with fail;refine HC.mono ?_;rintro e w2⟨rfl,K2,D2⟩;clear HC
  go_wp2
  go_end0;exact⟨rfl,lo,D2,hl,λx=>ja _,(Fr.of HB).trans' K2<|λb q=>jj (by obtain q|q|q:=q;exact jj q;exact jk<|jj q;exact jk<|jk<|jj q)⟩
 |lt r t b=>
  obtain⟨x,u,vb,rfl,hu,ht,hb⟩:=hx;obtain⟨u1,x1,rfl⟩:=hb.iface;have⟨cx,B1⟩:=sf w #[Iv x,Iv u,.bool r,Nv t.al,Nv t.to,Sv t.text,Fv u1<|Av x1] 144;have X1:CE cb tb mb lb e0.ty e0.mks lo w e0.f (w.alloc<|Cv #[Iv x,Iv u,.bool r,Nv t.al,Nv t.to,Sv t.text,Fv u1<|Av x1] 144):=⟨h.af cx,Fr.of cx⟩;have HC:=ai (Nk (l:=e0.nm) (aef b) (h.af cx) hB zI (hb.af cx) hl (λx=>by have:=pC x;have:=hs.2;omega) hs.1 r (t.al:Int) (t.to:Int) t.text);have⟨c1,f1,y1⟩:=uh B1;clear h cx hb hs ht hu;go_enter func93,ntmps93;go_wp2_with fail;refine HC.mono ?_;rintro e w2⟨rfl,k2,d2⟩;have X2:=X1.fr k2 d2;have B2:=B1.fr k2<|λq=>ae;clear k2 d2 HC c1 f1 y1;obtain⟨N,hN⟩:∃N,Hid<|N=lo t.text:=⟨_,ai rfl⟩;have X3:=X2.af (Below.refl _ _).drew;have sg:=X3.d.l.look t.text;rw[<-uh hN]at sg;have⟨L,hM,HLL⟩:=X3.d.l;have⟨o,ajK,AD⟩:=hM.put (KL.str Tryz.underlying9) Tryz.underlying209 t.text (Iv<|(N:Int)+1) trivial<|λ_ _=>trivial;have hN7:(N:Int)<=3000:=by have:=pC t.text;have:=uh hN;omega
  obtain⟨c1,f1,y1⟩:=B2;have⟨c2,f2,y2⟩:=X2.d.bx;clear hM
  go_wp2
  go_region
  all_goals(
   go_wp2
   go_end0;have hv:(Iv<|(N:Int)+1)=.int .i64 ((N+1:Nat):Int):=rfl;have M3:=AD;rw[hv]at M3;have X5:=X3.put (One.set w2.drew lb o) M3<|LM.put HLL t.text<|N+1;rw[uh hN]at X5
   exact⟨rfl,_,X5.d,hl.put t.text,λy=>by show(if y=t.text then lo t.text+1 else lo y)<=lo y+1;split;rename_i e;rw[e];exact br _;exact ja _,X5.k.wide (λb q=>by obtain q|q:=q;exact jj q;exact jk<|jk<|jk q)⟩)
end
def FQ(h:cd s=.ok l):(∀d∈l,DSo d)/\l.length<=802:=by
 have⟨h1,h2⟩:=Vm h;refine⟨λd hd=>?_,?_⟩
 .have h3:=h1 d hd;have h4:=Cx hd
  cases d with
  |ty t vs ms=>
   simp only[Jk]at h4;have:=l7 ms;exact⟨h3.1,h3.2,ae⟩
  |lt r t b=>exact⟨h3.1,h3.1.2⟩
 .have:∀l:List Dc,l.length<=EI l:=λl=>by
   induction l with
   |nil=>simp[EI]|cons d r ih=>
    simp only[EI,List.map_cons,List.sum_cons,mV]at ih⊢;have:1<=Jk d:=by cases d<;>simp[Jk]<;>omega
    omega
  exact jc (this l) h2
def FAR w0 cb tb mb lb(l:List Dc)gk c wr:=∃(j:Nat)(lo:BA->Nat),Hid (gk=l.length-j)/\j<=l.length/\c=Nv j/\CK wr cb tb mb lb (gh fE (l.take j) vw).ty (gh fE (l.take j) vw).mks lo (gh fE (l.take j) vw).f/\Jo lo (gh fE (l.take j) vw).nm/\(∀x,lo x<=j)/\Fr (λb=>b=cb\/b=tb\/b=mb\/b=lb) w0 wr
def aam{u}(hr:RowV QD 1 w (·<w.heap.size) l u)(hS:∀d∈l,DSo d)(hl:l.length<=802):
 Cq 60 #[.agg #[u]] w λe w'=>e=.returned (m9 (gh fE l vw).f)/\Bq w w':=by
 obtain⟨va,vc,cs,rfl,HW,HQ⟩:=hr;obtain⟨Z,HZ⟩:∃Z,Hid<|Z=(gh fE l vw).f:=⟨_,ai rfl⟩;rw[<-uh HZ];have da:Bq w ((w.alloc<|Cv #[Lv va l.length vc] 60).alloc<|Cv #[Iv 0,Iv 0,Iv 0] 30):=(bw _).alloc ag _;have B1:=ai<|(Bx.new w #[Lv va l.length vc] 60).alloc<|Cv #[Iv 0,Iv 0,Iv 0] 30;have F1:Bx ((w.alloc<|Cv #[Lv va l.length vc] 60).alloc<|Cv #[Iv 0,Iv 0,Iv 0] 30) (w.heap.size+1) #[Iv 0,Iv 0,Iv 0]:=(by have:=Bx.new (w.alloc<|Cv #[Lv va l.length vc] 60) #[Iv 0,Iv 0,Iv 0] 30;simpa using this);have dC:=ai da;have HC:=Cw (w:=(w.alloc<|Cv #[Lv va l.length vc] 60).alloc<|Cv #[Iv 0,Iv 0,Iv 0] 30);have⟨c1,f1,y1⟩:=uh B1;go_enter func60,ntmps60;go_wp2_with fail;refine HC.mono ?_;rintro e w2⟨cb,tb,mb,lb,rfl,b2,hz,D2⟩;have Zk:w.heap.size+2<=cb/\w.heap.size+2<=tb/\w.heap.size+2<=mb/\w.heap.size+2<=lb:=by simpa using hz
 have ed:=dC.trans<|b2.mono dC.size;have B2:=ai<|B1.below b2;have F2:=F1.below b2;have Zi:=ed.size;have⟨c1,f1,y1⟩:=uh B2
 go_wp2
 go_loopg[10] l.length (λgk c wr=>FAR w2 cb tb mb lb l gk c wr)
 case atStart=>exact⟨0,λ_=>0,ai rfl,jh _,rfl,D2,λx=>by simp[gh,vw],λx=>br _,Fr.refl _ _⟩
 case round=>
  obtain⟨j,lo,c_,hj,rfl,hD,LR,Kh,FR⟩:=hrel;have DR':=ai hD;have hBW:Bq w wr:=⟨FR.os.trans ed.os,FR.tape.trans ed.tape,FR.output.trans ed.output,jc ed.size FR.size,λb hb=>(FR.block b (jd hb ed.size)<|λq=>ae).trans<|ed.block b hb⟩;have F3:=ai<|F2.fr FR<|λq=>ae;by_cases bA:j<l.length
  .have hd:(j:Int)<(l.length:Int):=ae;obtain⟨g,rfl,-,hg,o8⟩:∃g,va=some ⟨g,0,none⟩/\g<w.heap.size/\g<w.heap.size/\∀i,i<l.length->∀j,j<1->w.cell? ⟨g,i*1+j,none⟩=some (cs i j):=by
    obtain e|e:=HW
    .exact absurd bA QX
    .exact e
   have d0:=(jt (a:=⟨g,j*1+0,none⟩)<|hBW.block g hg).trans<|o8 j bA 0 ae;simp only[ji,jf]at d0;have Jp:=HQ j bA;have HPD:=Jp.move hBW.size (λb _ z=>hBW.block b z) (Q:=(·<w.heap.size))<|λ_ p _=>p;have⟨t1,x1,e1⟩:=Jp.iface;rw[e1]at d0 HPD;have DS:=QY fE l vw j bA;generalize gh fE (l.take j) vw=e0 at DR' LR DS;have HC:=aee DR' LR ae ae ae ae HPD (hS _<|jq bA)<|λx=>qAv;go_wp2_with fail;refine HC.mono ?_;rintro e w3⟨rfl,Vl,D3,L3,O3,k3⟩;have K3:=FR.trans k3
   go_wp2
   go_roundg(l.length-(j+1))
   case measure=>rw[uh c_];omega
   case rel=>exact⟨j+1,Vl,ai rfl,ae,iF,by rw[DS];exact D3,by rw[DS];exact L3,λx=>jc (O3 x)<|Nat.succ_le_succ<|Kh x,K3⟩
  .have hd:decide ((j:Int)<(l.length:Int))=false:=bQ;have he:l.take j=l:=jl ae;rw[he,<-uh HZ]at DR';have⟨c4,f4,y4⟩:=DR'.bx;have⟨c3,f3,y3⟩:=uh F3;have B5:=ai<|F3.fN rfl (Nv Z.kind) (Nv Z.al) (Nv Z.to);go_wp2_with fail;have⟨c5,f5,z5⟩:=uh B5;refine bodyPost_ret (v:=m9 Z) (by simp[results,Tryz.results60,go_sem,m9,c5]) rfl ?_;exact⟨rfl,((hBW.setCell (ja _) _).setCell (ja _) _).setCell (ja _) _⟩
end
section
open Un
def FT(hf:cd s=.error f):f.kind%6≠0/\f.al<=f.to/\f.to<=s.size:=by
 by_cases hs:400<s.size
 .simp[cd,hs]at hf;subst hf;simp
 .have:=sM hs;rw[hf]at this;exact this
def aeg s w(e:Ending)w':=
 ∃u f,e=.returned (.tuple #[.agg #[u],m9 f])/\Bq w w'/\match cd s with
  |.error f'=>f=f'/\u=.slice none 0 0|.ok l=>f=(gh fE l vw).f/\RowV QD 1 w' (λb=>w.heap.size<=b) l u
def FU(h:Laid w)s:Calls jx 38 #[.string s] w (aeg s w):=by
 obtain⟨W0,hW0⟩:∃W0,W0=(w.alloc<|.cells #[.slice none 0 0] 60).alloc (.cells #[.int .i64 0,.int .i64 0,.int .i64 0] 30):=⟨_,rfl⟩;have bR:Below w.heap.size w W0:=by rw[hW0];exact(bw _).alloc ag _
 have A0:Bx W0 w.heap.size #[.slice none 0 0]:=by rw[hW0];exact(Bx.new w _ _).alloc _
 have B0:Bx W0 (w.heap.size+1) #[.int .i64 0,.int .i64 0,.int .i64 0]:=by rw[hW0];have:=Bx.new (w.alloc<|.cells #[.slice none 0 0] 60) #[.int .i64 0,.int .i64 0,.int .i64 0] 30;simpa using this
 have HC:=QZ (h.af bR) s;have HW:=ai hW0;clear h hW0;go_enter func38,ntmps38;go_wp2_with fail;rw[<-uh HW];refine HC.mono ?_;rintro e w1⟨u,f,rfl,da,hp⟩;obtain⟨va,vc,n,hu⟩:∃va vc n,u=.slice va n vc:=by
  cases hr:cd s with
  |error f'=>rw[hr]at hp;exact⟨_,_,_,hp.2⟩|ok l=>rw[hr]at hp;obtain⟨va,vc,cs,e,_⟩:=hp.2;exact⟨_,_,_,e⟩
 subst hu;have dC:=bR.trans<|da.mono bR.size;obtain⟨W1,yR⟩:∃W1,W1=(w1.alloc<|.cells #[.slice va n vc] 60).alloc (.cells #[.int .i64 (f.kind:Int),.int .i64 (f.al:Int),.int .i64 (f.to:Int)] 30):=⟨_,rfl⟩;have jT:Below w1.heap.size w1 W1:=by rw[yR];exact(bw _).alloc ag _
 have ed:=dC.trans<|jT.mono dC.size;have A2:=ai<|(A0.below da).below jT;have B2:=ai<|(B0.below da).below jT;have P2:Hid (Bx W1 w1.heap.size #[.slice va n vc]):=ai (by rw[yR];exact(Bx.new w1 _ _).alloc _);have F2:Hid (Bx W1 (w1.heap.size+1) #[.int .i64 (f.kind:Int),.int .i64 (f.al:Int),.int .i64 (f.to:Int)]):=ai (by rw[yR];have:=Bx.new (w1.alloc<|.cells #[.slice va n vc] 60) #[.int .i64 (f.kind:Int),.int .i64 (f.al:Int),.int .i64 (f.to:Int)] 30;simpa using this);have FV:=ai yR;have lY:=dC.size;have oW:=B0.z;have kE:=da.size;unfold m9
 cases hr:cd s with
 |error f'=>
  rw[hr]at hp;obtain⟨hf,hu⟩:=hp;subst hf;have hk:=(FT hr).1;have gG:((f.kind:Int)==0)=false:=bQ;clear HC bR da jT dC A0 B0 yR HW hk;go_wp2_with fail;rw[<-uh FV];obtain⟨c1,f1,z1⟩:=uh A2;obtain⟨c2,f2,z2⟩:=uh B2;obtain⟨c3,f3,z3⟩:=uh P2;obtain⟨c4,f4,z4⟩:=uh F2;go_region;go_wp2_with fail;obtain⟨c5,f5,z5⟩:=((B2.mQ (b2:=w.heap.size) ae 0<|.slice none 0 0).fN rfl (.int .i64 (f.kind:Int)) (.int .i64 (f.al:Int)) (.int .i64 (f.to:Int))).g_;obtain⟨c6,f6,z6⟩:=((A2.rj 0 (.slice none 0 0) #[.slice none 0 0] ag ag).ack (b2:=w.heap.size+1) ae (.int .i64 (f.kind:Int)) (.int .i64 (f.al:Int))<|.int .i64 (f.to:Int)).g_;refine bodyPost_ret (v:=.tuple #[.agg #[.slice none 0 0],m9 f]) (by simp[results,Tryz.results38,go_sem,m9,c5,c6]) rfl ?_;refine⟨.slice none 0 0,f,rfl,((((ed.setCell (br _) _).setCell (ja _) _).setCell (ja _) _).setCell (ja _) _).drew,?_⟩;rw[hr];exact⟨rfl,rfl⟩
 |ok l=>
  rw[hr]at hp;obtain⟨rfl,aN⟩:=hp;obtain⟨hS,hl⟩:=FQ hr;have xG:RowV QD 1 W1 (λb=>W0.heap.size<=b/\b<w1.heap.size) l (.slice va n vc):=aN.move bL jT.size (λb _ z=>jT.block b z)<|λb p z=>⟨p,z⟩;have HR2:=ai xG;have rl:∀W,Below W1.heap.size W1 W->Calls jx 60 #[.agg #[.slice va n vc]] W λe w'=>e=.returned (m9 (gh fE l vw).f)/\Below W.heap.size W w':=λW k=>aam (xG.move bL k.size (λb _ z=>k.block b z)<|λb p z=>jd z k.size) hS hl;have hzw:=jT.size;generalize hZ:(gh fE l vw).f=Z at rl;simp only[m9]at rl;have e0:((gF.kind:Nat):Int)=0:=rfl;have e1:((gF.al:Nat):Int)=0:=rfl;have e2:((gF.to:Nat):Int)=0:=rfl;rw[e0,e1,e2]at F2 FV;clear HC bR da dC A0 B0 aN xG hS jT yR HW;go_wp2_with fail;rw[<-uh FV];obtain⟨c3,f3,z3⟩:=uh P2;go_region_with(go_at_call 60;refine(rl _ (j9 _ _).drew).mono ?_;rintro e w3⟨rfl,y8⟩;have K3:=(j9 W1.heap.size W1).drew.trans y8;have A3:=A2.below K3;have B3:=B2.below K3;have P3:=P2.below K3;have HK3:=ai K3;have HA3:=ai A3;have Jn:=ai B3;obtain⟨a1,a2,a3⟩:=A3;obtain⟨b1,b2,b3⟩:=B3;obtain⟨p1,p2,p3⟩:=P3;clear y8 K3)
  all_goals(
   go_wp2_with fail;have y8:=uh HK3;obtain⟨c5,f5,z5⟩:=(Jn.mQ (b2:=w.heap.size) ae 0<|.slice va n vc).fN rfl (.int .i64 (Z.kind:Int)) (.int .i64 (Z.al:Int)) (.int .i64 (Z.to:Int));obtain⟨c6,f6,z6⟩:=(HA3.rj 0 (.slice va n vc) #[.slice va n vc] ag ag).ack (b2:=w.heap.size+1) ae (.int .i64 (Z.kind:Int)) (.int .i64 (Z.al:Int))<|.int .i64 (Z.to:Int);refine bodyPost_ret (v:=.tuple #[.agg #[.slice va n vc],m9 Z]) (by simp[results,Tryz.results38,go_sem,m9,c5,c6]) rfl ?_;have kk:Fr (λb=>b=w.heap.size\/b=w.heap.size+1) w3 ((((w3.setCell ⟨w.heap.size,0,none⟩<|.slice va n vc).setCell ⟨w.heap.size+1,0,none⟩<|.int .i64 (Z.kind:Int)).setCell ⟨w.heap.size+1,1,none⟩<|.int .i64 (Z.al:Int)).setCell ⟨w.heap.size+1,2,none⟩<|.int .i64 (Z.to:Int)):=((((Fr.refl _ _).set (jj<|jj rfl) 0 _).set (jj<|jk rfl) 0 _).set (jj<|jk rfl) 1 _).set (jj<|jk rfl) 2 _;have k3:=ed.trans<|y8.mono ed.size;have z3':=y8.size;refine⟨.slice va n vc,Z,rfl,Fr.sN k3 k3.size kk (λx q=>by obtain rfl|rfl:=q<;>omega),?_⟩;rw[hr]
   exact⟨hZ.symm,HR2.move bL (by have:=kk.size;omega) (λb p z=>(kk.block b ae (λq=>by obtain rfl|rfl:=q<;>omega)).trans (y8.block b z)) (λb p z=>ae)⟩)
end
section
open Go.ChangeMaps Go.MapKept Un
def Tg:EQ (BA×Ty):=λ_ _ p c=>c 0=.string p.1/\c 1=.string (bs<|wr dec (vars [] p.2) p.2 0)
def hH:fO Tg:=λ_ _ _ _ _ _ h _ _ _=>h
def fF:Option j6->Fl
 |none=>gF|some z=>z.f
def fL:Option j6->BA
 |none=>bs []|some z=>Zl z
def fR:Option j6->BA
 |none=>bs []|some z=>Zm z
structure PI nl rs(Q:List (BA×Ty)->Option j6->Prop)r cnt(mks:jz)(s:j5)(Γ:j3)e B:Prop where
 pg:PG nl r e mks
 nm:∀x,x∈e.nm->Γ x≠none
 mf:In.MF mks
 ef:In.EF Γ
 kf:In.KF s
 qq:∀B' F,In.QH rs r mks Γ s B' F->Q (B++B') F
 cn:cnt+1048*EI r<=850000
section
variable {Q:List (BA×Ty)->Option j6->Prop} {r:List Dc} {cnt:Nat} {s:j5} {e:SE} {B:List (BA×Ty)}
def PI.end(h:PI nl rs Q [] cnt mks s Γ e B):Q B none:=by
 have:=h.qq [] none ⟨rfl,rfl⟩
 rwa[jo]at this
def PI.ty{t}{vs}{ms}(h:PI nl rs Q (.ty t vs ms::r) cnt mks s Γ e B):TdF t vs ms/\PI nl rs Q r cnt (In.wV t vs ms mks) s Γ (Tf fE (.ty t vs ms) e) B:=by
 have⟨d1,d2,d3,d4,d5⟩:=h.pg.d3 _<|jp ..;have⟨g1,g2⟩:=h.pg.ty;have hc:=h.cn;rw[nI]at hc;exact⟨g1,g2,h.nm,MF.add d1 d2 h.mf d5,h.ef,h.kf,h.qq,ae⟩
def LtI nl rs(Q:List (BA×Ty)->Option j6->Prop)r cnt(mks:jz)(s:j5)(Γ:j3)e B rc(t:qc)b:=∀o,In.cH rc t.text b (In.inf mks b) Γ s o->match o with
 |.error z=>In.FtF z/\Q B (some z)|.ok (a,s1)=>(48<size (sub s1.k a)->Q B (some<|j8 t.al t.to))/\∀T aB,size (sub s1.k a)<=48->T=(if In.Jw b then sub s1.k a else In.lZ (sub s1.k a))->aB<=cnt+1000*(1+nn b)+48->Wf T/\size T<=48/\PI nl rs Q r aB mks (In.nxt rs s1) (j7 Γ t.text ⟨T,vars [] T⟩) (Tf fE (.lt rc t b) e) (B++[(t.text,T)])
def PI.lt{rc}{t}{b}(h:PI nl rs Q (.lt rc t b::r) cnt mks s Γ e B):t.text∈nl/\cnt+1000*(1+nn b)<=850000/\1+nn b<=805/\MkFine mks/\ScE mks nl (λv=>v∈e.nm\/(rc=true/\v=t.text)) b/\LtI nl rs Q r cnt mks s Γ e B rc t b:=by
 have⟨d1,d2,d3,d4⟩:=h.pg.d3 _<|jp ..;have⟨g1,g2,g3,g4⟩:=h.pg.lt;have hc:=h.cn;rw[nI]at hc;simp only[Jk]at hc;refine⟨g1,ae,ae,h.pg.BI,g3,λo ho=>?_⟩;have g:=In.FX rc t.text b (In.acm h.mf b d3.nw) Γ s h.kf h.ef o ho
 cases o with
 |error z=>
  refine⟨g,?_⟩;have:=h.qq [] (some z) ⟨_,ho,rfl,rfl⟩
  rwa[jo]at this
 |ok p=>
  obtain⟨a,s1⟩:=p;obtain⟨k1,k2⟩:=g;refine⟨λhz=>?_,λT aB hz hT AE=>?_⟩
  .have:=h.qq [] (some<|j8 t.al t.to) ⟨_,ho,jj ⟨hz,rfl,rfl⟩⟩
   rwa[jo]at this
  .have hw:=In.nJ k1 k2;have hTw:Wf T/\size T<=48:=by
    rw[hT];split
    .exact⟨hw,hz⟩
    .exact⟨Vn hw,by rw[ng];exact hz⟩
   refine⟨hTw.1,hTw.2,g4,λx hx=>?_,h.mf,h.ef.set _ hTw.1,λn=>?_,λB' F q=>?_,ae⟩
   .rw[j7];split
    .simp
    .rename_i dw;obtain q|q:=List.mem_append.1<|show x∈e.nm++[t.text]from hx
     .exact h.nm x q
     .grind
   .show Wf ((if rs then Ty.var else s1.k) n)
    cases rs
    .exact k2 n
    .exact In.kI n
   .rw[List.append_assoc];exact h.qq _ F ⟨_,ho,jk ⟨hz,T,B',hT,rfl,q⟩⟩
end
def PI.init{s}(hs:¬400<s.size){l}(h:cd s=.ok l)(hk:(gh fE l vw).f.kind=0)rs u{cnt}(hc:cnt<=1000):PI (l.flatMap dNm) rs (In.QH rs l (λ_=>none) (λ_=>none) ⟨Ty.var,u⟩) l cnt (λ_=>none) ⟨Ty.var,u⟩ (λ_=>none) vw []:=by
 have⟨g,_⟩:=PG.init hs h hk;have:=g.sz;exact⟨g,λx hx=>by simp[vw]at hx,λx tk m q=> mD,λy c q=> mD,In.kI,λB' F q=>q,ae⟩
def nK va n vc:=#[Iv 0,Iv 0,Iv 0,.string ⟨#[]⟩,.string ⟨#[]⟩,.slice va n vc,.slice none 0 0]
structure pJ w b4 b5 b6(B:List (BA×Ty))va vc:Prop where
 r4:Bx w b4 (nK none 0 0)
 r5:Bx w b5 (nK va B.length vc)
 row:dt Tg 40 2 w b6 va vc B
 fst:∀b,(jy va B.length vc).ownBlock=some b->∃x,w.cell? ⟨b,0,none⟩=some (.string x)
def Nl x:Oth (.string x):=⟨λ_ _ q=> mD,λ_ _ q=> mD,λ_ q=> mD⟩
def Vo:Oth (Iv 0):=⟨λ_ _ q=> mD,λn h q=>(by injection q with _ q;omega),λ_ q=> mD⟩
section
variable {b4 b5 b6 lo base:Nat} {B:List (BA×Ty)} {va:Option Addr} {vc:Nat}
def pJ.same(h:pJ w b4 b5 b6 B va vc)(hs:w.heap.size<=w'.heap.size)(h4:w'.heap[b4]? =w.heap[b4]?)(h5:w'.heap[b5]? =w.heap[b5]?)(h6:∀b,(jy va B.length vc).ownBlock=some b->w'.heap[b]? =w.heap[b]?):pJ w' b4 b5 b6 B va vc:=by
 refine⟨h.r4.same hs h4,h.r5.same hs h5,?_,λb q=>?_⟩
 .have⟨cs,ho,hr⟩:=h.row;exact⟨cs,rq ho h6,hr⟩
 .have⟨x,hx⟩:=h.fst b q;exact⟨x,by rw[jt (a:=⟨b,0,none⟩)<|h6 b q];exact hx⟩
def pJ.af(h:pJ w b4 b5 b6 B va vc)(k:Bq w w'):pJ w' b4 b5 b6 B va vc:=
 h.same k.size (k.block _ h.r4.z) (k.block _ h.r5.z) λb q=>k.block b (h.row.block b q).2
def pJ.kp(h:pJ w b4 b5 b6 B va vc)(k:Zn lo base w w')(h4:base<=b4)(h5:base<=b5)(h6:base<=b6):pJ w' b4 b5 b6 B va vc:=
 h.same k.size (k.box _ _ h.r4.z h4 (by rw[h.r4.c 0];rfl) Vo.p) (k.box _ _ h.r5.z h5 (by rw[h.r5.c 0];rfl) Vo.p) λb q=>by
  have⟨x,hx⟩:=h.fst b q;have:=h.row.block b q;exact k.box _ _ this.2 ae hx (Nl x).p
def dt.fst(h:dt Tg 40 2 w b6 va vc B)(hB:B≠[]):∀b,(jy va B.length vc).ownBlock=some b->∃x,w.cell? ⟨b,0,none⟩=some (.string x):=λb q=>by
 have⟨oX,oY,cs,e,aN,hq⟩:=h.v hH;injection e with e1 _ e2;subst e1 e2;have hl:=List.length_pos_iff.2 hB;obtain e|⟨g,rfl,h1,h2,h3⟩:=aN
 .exact absurd e hB
 .have hg:g=b:=by simpa[Value.ownBlock]using q
  subst hg;have:=h3 0 hl 0 aK;rw[(hq 0 hl).1]at this;exact⟨_,by simpa using this⟩
def pJ.grow{S}{ty}{eb}(E:Uk ty eb lo base rs nl S){cnt}{s}{w5 w6}{n}{T}{q3 c3}{cs}(h:pJ w b4 b5 b6 B va vc)(hS:S w cnt mks s Γ)(h45:b4<b5/\b5<b6)(hb6:b6<=w.heap.size)(hb:base<=b4)(pC:lo<=base)(k:Bq w w5)(Mo:∀i(h:i<B.length),Tg w (λb=>b6<=b/\b<w.heap.size/\(jy va B.length vc).ownBlock≠some b) B[i]<|cs i)(h6:w6.ownsRow b6 40 2 (.slice (some ⟨q3,0,none⟩) (B.length+1) c3) (B.length+1) (gw cs 2 B.length++[.string n,.string<|bs<|wr dec (vars [] T) T 0]))(hg:(w5.alloc<|.cells #[.string n,.string<|bs<|wr dec (vars [] T) T 0] 40).grownBy w6 (jy va B.length vc).ownBlock)(Q0:(jy (some ⟨q3,0,none⟩) (B.length+1) c3).ownBlock=(jy va B.length vc).ownBlock\/(jy (some ⟨q3,0,none⟩) (B.length+1) c3).ownBlock=some (w5.alloc<|.cells #[.string n,.string<|bs<|wr dec (vars [] T) T 0] 40).heap.size):
 S (w6.setCell ⟨b5,5,none⟩<|.slice (some ⟨q3,0,none⟩) (B.length+1) c3) cnt mks s Γ/\pJ (w6.setCell ⟨b5,5,none⟩<|.slice (some ⟨q3,0,none⟩) (B.length+1) c3) b4 b5 b6 (B++[(n,T)]) (some ⟨q3,0,none⟩) c3/\Below lo w (w6.setCell ⟨b5,5,none⟩<|.slice (some ⟨q3,0,none⟩) (B.length+1) c3):=by
 obtain⟨W,hW⟩:∃W,W=w5.alloc (Cv #[Sv n,Sv<|bs<|wr dec (vars [] T) T 0] 40):=⟨_,rfl⟩;rw[<-hW]at hg Q0;have k5:Bq w5 W:=by rw[hW];exact bw _
 have kW:=k.trans<|k5.mono k.size;have RW:=h.af kW;have FI:=h.row.block;have z5:=h.r5.z;have zW:=kW.size;have F6:Fr (λi=>(Lv va B.length vc).ownBlock=some i) W w6:=⟨hg.os,hg.tape,hg.output,hg.size,λb hb hn=>hg.block b hb<|λe=>hn e.symm⟩;have S6:S w6 cnt mks s Γ:=by
  cases ho:(Lv va B.length vc).ownBlock with
  |none=>exact E.af (E.af hS kW) (F6.none λb q=>by rw[ho]at q;cases q)|some b=>
   have⟨x,hx⟩:=RW.fst b ho;have:=FI b ho;exact E.oth (E.af hS kW) ae hx (Nl x) (F6.fD λi q=>by rw[ho]at q;injection q with q;exact q.symm)
 have R4:=RW.r4.fr F6 (λq=>by have:=FI _ q;omega);have R5:=RW.r5.fr F6 (λq=>by have:=FI _ q;omega);have F7:Fr (λi=>i=b5) w6 (w6.setCell ⟨b5,5,none⟩<|Lv (some ⟨q3,0,none⟩) (B.length+1) c3):=(Fr.refl (λi=>i=b5) w6).set (jj rfl) 5 _;have aN:dt Tg 40 2 w6 b6 (some ⟨q3,0,none⟩) c3 (B++[(n,T)]):=
  dt.push (w1:=w5) (W:=W) (lo:=w5.heap.size) (a:=(n,T)) (c:=λj=>if j=0 then Sv n else Sv (bs<|wr dec (vars [] T) T 0)) (cs:=cs) hH (λi hi=>Mo i hi) ⟨rfl,rfl⟩ (by have:=k.size;omega) (λb e=>by have:=FI b e;have:=k.size;omega) k5 h6 hg Q0
 have eG:1<=(B++[(n,T)]).length:=ag;have hlen:(B++[(n,T)]).length=B.length+1:=ag;have acn:=aN.mR (w':=w6.setCell ⟨b5,5,none⟩<|Lv (some ⟨q3,0,none⟩) (B.length+1) c3) hH F7.size (λb q z=>F7.block b z (by show b≠b5;omega));refine⟨E.oth S6 ae (by rw[R5.c 0];rfl) Vo F7,⟨R4.fr F7 (by show ¬b4=b5;omega),?_,acn,acn.fst ag⟩,?_⟩
 .rw[hlen];exact R5.rj 5 _ _ (by simp[nK]) (by simp[nK])
 .have hz:=h.r4.z;refine⟨F7.os.trans<|F6.os.trans kW.os,F7.tape.trans<|F6.tape.trans kW.tape,F7.output.trans<|F6.output.trans kW.output,jc zW<|jc F6.size F7.size,λb hb=>?_⟩;have h6z:=F6.size;exact(F7.block b ae (by show ¬b=b5;omega)).trans ((F6.block b ae (λq=>by have:=FI b q;omega)).trans<|kW.block b ae)
end
def aeh.cases{S}{lo base}{rs}{nl}{Q}{r}{cnt}{mks}{s}{Γ}{se}{B}{rc}{t}{b}{w w'}{e}(h:aeh S lo base rs cnt mks s Γ rc t.text t.al t.to b w e w')(hP:LtI nl rs Q r cnt mks s Γ se B rc t b):Zn lo base w w'/\((∃z vl vr,e=.returned (.tuple #[.nilIface,zJ z.f vl vr])/\pD w' (λ_=>True) z vl vr/\In.FtF z/\Q B (some z))\/
  ∃T ta xa aB s1,e=.returned (.tuple #[.iface ta xa,.agg Jj])/\dE w' (λ_=>True) T (.iface ta xa)/\Wf T/\size T<=48/\S w' aB mks s1 (j7 Γ t.text ⟨T,vars [] T⟩)/\PI nl rs Q r aB mks s1 (j7 Γ t.text ⟨T,vars [] T⟩) (Tf fE (.lt rc t b) se) (B++[(t.text,T)])):=by
 obtain⟨hk,o,ho,hq⟩:=h;have hp:=hP o ho;refine⟨hk,?_⟩
 cases o with
 |error z=>
  obtain⟨vl,vr,e1,e2⟩:=hq;exact jj ⟨z,vl,vr,e1,e2,hp⟩
 |ok p=>
  obtain⟨a,s1⟩:=p;obtain⟨z,e1⟩|⟨z,T,ta,xa,aB,hT,e1,e2,e3,e4⟩:=hq
  .exact jj ⟨j8 t.al t.to,Zv,Zv,e1,⟨λ_=>⟨rfl,rfl⟩,λq=> mD,jk rfl⟩,In.Cy _ _,hp.1 z⟩
  .grind
end
end Go.Proofs.YtfnkchdeheeiiaaGreatDoor

import Derived.Test.YtopmodaakdnliaaGreatDoorCBo
import Derived.Test.YtopmodaakdnliaaGreatDoorCMc
import Derived.Test.YtopmodaakdnliaaGreatDoorCOi
set_option linter.all false
set_option maxRecDepth 100000
set_option maxHeartbeats 2000000
namespace Go.Proofs.YtopmodaakdnliaaGreatDoor
open Or renaming inl->ja,inr->jc
open Go Go.RowKit Go.ChangeMaps Un
variable {ds:List Nat} {L n:Nat} {cy vr:Nat->Nat} {ly:Nat->Option Addr×Nat} {D:Nat->Prop} {str:Un.tO} {w:World}
section
open Go.MapKept
section
variable {w':World} {c:WC} {cnt:Nat} {u:Nat->Prop} {Γ:In.Env} {P Q:Nat->Prop}
def WT.below(h:WT w c cnt u Γ)(hb:Bq w w'):WT w' c cnt u Γ:=⟨h.we.af hb,h.e.move hb.size (hb.block _ h.e.lt) (λb _ z=>hb.block b z)<|λ_ p _=>p,h.n,h.hu,h.top,h.dm⟩
def ah7{nb mb}{mks}(h:bR w P nb Γ)(k:mH w Q mb mks){st}{d}(q:Γ st=some d):nb≠mb:=by
 rintro rfl;obtain⟨L,h1,h2,h3⟩:=h;obtain⟨L',k1,k2,k3⟩:=k
 cases h1.akn k1
 cases hg:bd st L with
 |none=>grind|some v=>
  obtain⟨_,_,ta,xa,sa,sc,rfl,_⟩:=h3 st v hg;have⟨_,_,_,_,_,_,_,e,_⟩:=k3 st _ hg;simp at e
end
def StW eb lo base nl w cnt mks(s:In.St)Γ:=∃(c:WC)(u:Nat->Prop),c.eb=eb/\(lo<=c.cb/\lo<=c.eb/\lo<=c.mb)/\(c.cb<base/\c.eb<base)/\c.mks=mks/\c.nl=nl/\s=⟨Ty.var,u⟩/\c.nb≠c.mb/\WT w c cnt u Γ
def am6{eb lo base}{nl}(hl:nl.length<=1000000):ZG 88 eb lo base true nl (StW eb lo base nl):=by
 refine⟨?_,?_,⟨_,λw=>metW_Makers _ w,λ_ _=>qkr,?_⟩,⟨_,λw=>metW_Let _ w,λ_ _=>qkr,?_⟩⟩
 .rintro w w' cnt mks s Γ⟨c,u,h1,h2,h3,h4,h5,h6,h7,h⟩hb;exact⟨c,u,h1,h2,h3,h4,h5,h6,h7,h.below hb⟩
 .rintro w w' cnt mks s Γ b x⟨c,u,h1,h2,h3,h4,h5,h6,h7,h⟩hb hx ho f;exact⟨c,u,h1,h2,h3,h4,h5,h6,h7,h.other ⟨ae,ae⟩ hx ho f⟩
 .rintro w cnt mks s Γ t vs ms f x vv vm⟨c,u,rfl,h2,h3,rfl,rfl,rfl,h7,h⟩hv hm hd;have⟨Lm,hMG,_⟩:=id h.we.ms;refine(VA h hv hm hd).mono ?_;rintro e w'⟨rfl,hf,hw⟩;refine⟨rfl,.of hf (λb q=>by subst q;exact h2.2.2) (λb y q _ e _=>by subst q;rw[hMG.bF 0]at e;cases e),?_⟩;exact⟨ZE c t vs ms w'.heap.size,u,rfl,h2,h3,rfl,rfl,rfl,h7,h.ZD h7 hf hw⟩
 .rintro w cnt mks s Γ rc st x v a y dom⟨c,u,rfl,h2,h3,rfl,rfl,rfl,h7,h⟩hp hs hd lF ha hb hm UX;refine(ah3 (Q:=(·<lo)) (a:=a) (y:=y) ⟨h,hp,λb q=>by have:b<lo:=q;omega,hs,hd,⟨ha,hb,hl⟩,hm,lF,UX⟩).mono ?_;rintro e w'⟨hf,o,ho,hq⟩;refine⟨.of hf (λb q=>by obtain rfl|rfl:=q;exact h2.1;exact h2.2.1) (λb z q hz _ _=>by obtain rfl|rfl:=q<;>omega),o,ho,?_⟩
  cases o with
  |error z=>exact hq.elim|ok p=>
   obtain⟨t,s1⟩:=p;obtain⟨z,T,ta,xa,aC,Vp,e1,e2,e3,e4,e5,e6⟩:=hq;exact⟨z,T,ta,xa,aC,e1,e2,(e3.v e4).move (br _) (λ_ _ _=>rfl)<|λ_ _ _=>trivial,ae,{c with nb:=Vp},s1.u,rfl,h2,h3,rfl,rfl,rfl,ah7 e6.e e6.we.ms (st:=st) (d:=⟨T,vars [] T⟩)<|by simp[In.dN],e6⟩
end
abbrev aL:Nat:=9223372036854775807
def Nf(lv:Nat->Nat)L h:=lv h<=L\/lv h=aL
structure ue(str:tO)(nx:Nx)(ds:List Nat)(lv cy:Nat->Nat)n L(D:Nat->Prop):Prop where
 up:∀m,D m->m∈ds/\nx m=none/\L<lv m/\lv m≠aL/\cy m=aL
 no:∀m,¬D m->cy m=lv m
 hd:∀h,Hd nx n h->D h\/Nf lv L h
 cl:∀a,D a->∀c l,str a=some (c,l)->∀p,p∈l->∀h,Hd nx p h->D h\/Nf lv L h
 re:∀R:Nat->Prop,(∀h,Hd nx n h->R h)->(∀a c l p h,R a->str a=some (c,l)->p∈l->Hd nx p h->R h)->∀a,D a->R a
structure xI(str:tO)(nx:Nx)(ds:List Nat)(lv li:Nat->Nat)h(l:List Nat)L(D:Nat->Prop):Prop where
 own:D h
 up:∀m,D m->m∈ds/\nx m=none/\L<lv m/\lv m≠aL/\li m=aL
 no:∀m,¬D m->li m=lv m
 pt:∀p,p∈l->∀k,Hd nx p k->D k\/Nf lv L k
 cl:∀a,D a->a≠h->∀c l,str a=some (c,l)->∀p,p∈l->∀k,Hd nx p k->D k\/Nf lv L k
 re:∀R:Nat->Prop,R h->(∀a c l p k,R a->str a=some (c,l)->p∈l->Hd nx p k->R k)->∀a,D a->R a
section
variable {nx:Nx} {lv li:Nat->Nat} {h:Nat} {l:List Nat} {E:Nat->Prop}
def ue.nil(hh:Hd nx n h)(hl:Nf lv L h):ue str nx ds lv lv n L (λ_=>False):=
 ⟨λ_ q=>q.elim,λ_ _=>rfl,λk q=>jc (by rw[q.one hh];exact hl),λ_ q=>q.elim,λ_ _ _ _ q=>q.elim⟩
def xI.start(hd:h∈ds)(hn:nx h=none)(hl:L<lv h)(ha:lv h≠aL):xI str nx ds lv (Un.dZ lv h aL) h [] L (λm=>m=h):=
 ⟨rfl,λm q=>by subst q;exact⟨hd,hn,hl,ha,QK⟩,λm q=>by simp[Un.dZ,q],λp q=>by simp at q,λa q r=>absurd q r,λR q _ a r=>by subst r;exact q⟩
def xI.step{p}{c}{l0}(hs:str h=some (c,l0))(hp:p∈l0)(k:xI str nx ds lv li h l L D)(q:ue str nx ds li cy p L E):xI str nx ds lv cy h (l++[p]) L (λm=>D m\/E m):=by
 have dis:∀m,E m->¬D m:=λm e d=>(q.up m e).2.2.2.1 (k.up m d).2.2.2.2;have low:∀x,Nf li L x->D x\/Nf lv L x:=λx hx=>by
  by_cases d:D x
  .exact ja d
  .exact jc (by unfold Nf at*;rw[<-k.no x d];exact hx)
 refine⟨ja k.own,λm e=>?_,λm e=>?_,λp' lG x hx=>?_,λa e ne c' l' iO p' lG x hx=>?_,λR r1 r2 a e=>?_⟩
 .by_cases d:E m
  .have⟨u1,u2,u3,u4,u5⟩:=q.up m d;rw[k.no m<|dis m d]at u3 u4;exact⟨u1,u2,u3,u4,u5⟩
  .have⟨u1,u2,u3,u4,u5⟩:=k.up m<|e.resolve_right d;exact⟨u1,u2,u3,u4,(q.no m d).trans u5⟩
 .rw[q.no m<|λd=>e<|jc d,k.no m<|λd=>e<|ja d]
 .obtain lG|lG:=List.mem_append.1 lG
  .exact(k.pt p' lG x hx).imp ja id
  .simp at lG;subst lG;obtain r|r:=q.hd x hx
   .grind
   .grind
 .obtain d|d:=e
  .exact(k.cl a d ne c' l' iO p' lG x hx).imp ja id
  .obtain r|r:=q.cl a d c' l' iO p' lG x hx
   .grind
   .grind
 .obtain d|d:=e
  .exact k.re R r1 r2 a d
  .exact q.re R (λx hx=>r2 h c l0 p x r1 hs hp hx) r2 a d
def xI.done{c}{l0}(hh:Hd nx n h)(hs:str h=some (c,l0))(k:xI str nx ds lv li h l0 L D):ue str nx ds lv li n L D:=by
 refine⟨k.up,k.no,λx hx=>ja (by rw[hx.one hh];exact k.own),λa d c' l' iO p hp x hx=>?_,λR r1 r2 a d=>k.re R (r1 h hh) r2 a d⟩;by_cases e:a=h
 .subst e;rw[hs]at iO;injection iO with iO;injection iO with _ e2;subst e2;exact k.pt p hp x hx
 .exact k.cl a d e c' l' iO p hp x hx
def xI.YG(hh:Hd nx n h)(hs:str h=none)(k:xI str nx ds lv li h [] L D):ue str nx ds lv li n L D:=by
 refine⟨k.up,k.no,λx hx=>ja (by rw[hx.one hh];exact k.own),λa d c' l' iO p hp x hx=>?_,λR r1 r2 a d=>k.re R (r1 h hh) r2 a d⟩;by_cases e:a=h
 .grind
 .exact k.cl a d e c' l' iO p hp x hx
end
def fp(ds:List Nat)(lv:Nat->Nat)L:=ds.countP λm=>decide (L<lv m/\lv m≠aL)
def afY{lv}(h:∀m,L<cy m/\cy m≠aL->L<lv m/\lv m≠aL):fp ds cy L<=fp ds lv L:=List.countP_mono_left λm _ q=>by simpa using h m (by simpa using q)
def afZ{lv cy:Nat->Nat}{L x:Nat}(h:∀m,L<cy m/\cy m≠aL->L<lv m/\lv m≠aL)(hx:L<lv x/\lv x≠aL)(Em:¬(L<cy x/\cy x≠aL)):∀{ds:List Nat},x∈ds->fp ds cy L<fp ds lv L
 |a::ds,hm=>by
  unfold fp;rw[List.countP_cons,List.countP_cons];have hle:ds.countP (λm=>decide (L<cy m/\cy m≠aL))<=ds.countP (λm=>decide (L<lv m/\lv m≠aL)):=afY h;by_cases e:a=x
  .subst e;rw[if_pos<|decide_eq_true hx,if_neg<|by simpa using Em];omega
  .have:=afZ h hx Em (ds:=ds) (by obtain q|q:=List.mem_cons.1 hm;exact absurd q.symm e;exact q);unfold fp at this;by_cases q:L<cy a/\cy a≠aL
   .rw[if_pos<|decide_eq_true q,if_pos<|decide_eq_true<|h a q];omega
   .rw[if_neg<|by simpa using q];split<;>omega
def ue.eqv{nx a_}{lv0 lv}(g:GL w ds str nx vr ly lv0)(e:iF str nx a_)(q:ue str a_ ds lv cy n L D):ue str nx ds lv cy n L D:=
 ⟨λm d=>⟨(q.up m d).1,(e.Bt m).1 (q.up m d).2.1,(q.up m d).2.2⟩,q.no,λh k=>q.hd h<|e.bO _ _ k,λa d c l hs p hp h k=>q.cl a d c l hs p hp h<|e.bO _ _ k,λR r1 r2=>q.re R (λh k=>r1 h<|e.back g k)<|λa c l p h ra hs hp k=>r2 a c l p h ra hs hp<|e.back g k⟩
def Jb ds str nx vr ly lv n L w(e:Ending)w':=
 e=.returned (.tuple #[])/\∃a_ cy D,GL w' ds str a_ vr ly cy/\Fr (λb=>b∈ds) w w'/\iF str nx a_/\w'.heap.size=w.heap.size/\ue str nx ds lv cy n L D
def ahr ds str vr ly k:=∀(w:World)(nx:Nx)(lv:Nat->Nat)(n L:Nat),GL w ds str nx vr ly lv->n∈ds->fp ds lv L<=k->Cq 342 #[nA n,Nv L] w (Jb ds str nx vr ly lv n L w)
def ahs ds str nx vr ly lv h L(l:List Nat)w gk v wr:=
 ∃j gK li D,Hid (gk=l.length-j)/\j<=l.length/\v=Nv j/\GL wr ds str gK vr ly li/\Fr (λb=>b∈ds) w wr/\iF str nx gK/\wr.heap.size=w.heap.size/\xI str nx ds lv li h (l.take j) L D
section
variable {k:Nat}
def VG(IH:∀i,i<k->ahr ds str vr ly i):ahr ds str vr ly k:=by
 intro w nx lv n L Hn hn hk;have⟨h,hh⟩:=Hn.hd n hn;have hm:=Hn.bD hn hh;have HC:=p_ Hn hn hh;go_enter Tryz.func342,Tryz.ntmps342;go_wp2_with fail;refine HC.mono ?_;rintro e w1⟨rfl,eI,G1,F1,E1,z1⟩;clear HC;have⟨c1,f1⟩:=(G1.nd h hm).lvl;have wY:nx h=none:=hh.head;by_cases hle:lv h<=L
 .have hd:(lv h:Int)<=(L:Int):=ae;have HG:=ai G1;clear G1
  go_wp2
  go_end0;exact⟨rfl,eI,lv,_,uh HG,F1,E1,z1,ue.nil hh<|ja hle⟩
 .have hd:decide ((lv h:Int)<=(L:Int))=false:=bi;by_cases han:lv h=aL
  .have he:((lv h:Int)==(9223372036854775807:Int))=true:=by rw[han];rfl
   have HAN:=ai han;have HG:=ai G1;clear G1 han
   go_wp2
   go_end0;exact⟨rfl,eI,lv,_,uh HG,F1,E1,z1,ue.nil hh<|jc<|uh HAN⟩
  have he:((lv h:Int)==(9223372036854775807:Int))=false:=by simp;intro q;exact han (by show lv h=9223372036854775807;omega)
  have G2:=G1.U8 hm aL;have⟨_,_,_,_,c4⟩:=(G1.nd h hm).cells;have F2:Hid (Fr (λb=>b∈ds) w<|w1.setCell ⟨h,1,none⟩<|Iv 9223372036854775807):=ai<|F1.set (ja hm) 1 _;have HG2:=ai G2;have Z1:=z1;have YH:=ai E1;have J0:Hid (xI str nx ds lv (Un.dZ lv h aL) h [] L<|λm=>m=h):=ai<|xI.start hm wY ae han;clear G1 G2 F1 z1 E1
  cases hs:str h with
  |none=>
   have c4':w1.cell? ⟨h,4,none⟩=some (.slice (ly h).1 0 (ly h).2):=by rw[c4,hs];rfl
   clear c4
   go_wp2
   go_loopg[29] 0 (λgk v wr=>v=Iv 0/\wr=w1.setCell ⟨h,1,none⟩ (Iv 9223372036854775807))
   case atStart=>exact⟨rfl,rfl⟩
   case round=>
    obtain⟨rfl,rfl⟩:=hrel
    go_wp2
    go_end0;exact⟨rfl,eI,_,_,uh HG2,uh F2,uh YH,qAz,(uh J0).YG hh hs⟩
  |some q=>
   obtain⟨c,l⟩:=q;have c4':w1.cell? ⟨h,4,none⟩=some (.slice (ly h).1 l.length (ly h).2):=by rw[c4,hs];rfl
   have⟨hl1,Hm⟩:=Hn.part hm hs;have hdp:fp ds (Un.dZ lv h aL) L<fp ds lv L:=afZ (x:=h) (λm q=>by by_cases e:m=h;subst e;exact⟨ae,han⟩;simpa[Un.dZ,e]using q) ⟨ae,han⟩ QK hm;clear c4;by_cases BS:l=[]
   .subst BS;have amg:=c4';clear c4'
    go_wp2
    go_loopg[29] 0 (λgk v wr=>v=Iv 0/\wr=w1.setCell ⟨h,1,none⟩ (Iv 9223372036854775807))
    case atStart=>exact⟨rfl,rfl⟩
    case round=>
     obtain⟨rfl,rfl⟩:=hrel
     go_wp2
     go_end0;exact⟨rfl,eI,_,_,uh HG2,uh F2,uh YH,qAz,(uh J0).done hh hs⟩
   have⟨ga,EGA,_,_⟩:=Hn.row hm hs<|List.length_pos_iff.2 BS;rw[EGA]at c4'
   go_wp2
   go_loopg[29] l.length (λgk v wr=>ahs ds str nx vr ly lv h L l w gk v wr)
   case atStart=>exact⟨0,eI,_,_,ai ah,Nat.zero_le _,rfl,uh HG2,uh F2,uh YH,qAz,by simpa using uh J0⟩
   case round=>
    clear HG2 F2 YH J0 c4' c1 f1;obtain⟨j,gK,li,D,bE,hj,rfl,Gj,FJ,EJ,ZJ,JJ⟩:=hrel;by_cases aI:j<l.length
    .have aZ:(j:Int)<(l.length:Int):=ae;have Cz:(0:Int)<=(j:Int):=ae;have⟨ga',e1,cg,_⟩:=Gj.row hm hs aI;have e2:=e1.symm.trans EGA;injection e2 with e2;injection e2 with e2;subst e2
     have HCJ:=IH (fp ds (Un.dZ lv h aL) L) ae wr gK li l[j] L Gj (Hm _<|List.getElem_mem aI) (afY λm q=>by
      by_cases d:D m
      .exact absurd (JJ.up m d).2.2.2.2 q.2
      .have e:m≠h:=λe=>d<|e▸JJ.own;simp only[Un.dZ,e,if_false]
       rw[<-JJ.no m d];exact q)
     clear e1;clear Gj;go_wp2_with fail;refine HCJ.mono ?_;rintro e w2⟨rfl,pR,lz,D2,G2,F2,E2,z2,q2⟩;have HG:=ai G2;have HF:=FJ.trans F2;have HE:=EJ.trans E2;have HZ:=z2.trans ZJ;have HJ2:=JJ.step hs (List.getElem_mem aI)<|q2.eqv Hn EJ
     go_wp2
     go_roundg(l.length-(j+1))
     case measure=>rw[uh bE];omega
     case rel=>exact⟨j+1,pR,lz,_,ai rfl,Nat.succ_le_of_lt aI,d_,uh HG,HF,HE,HZ,by rw[List.take_succ_eq_append_getElem aI];exact HJ2⟩
    .have aZ:decide ((j:Int)<(l.length:Int))=false:=bi;have ej:j=l.length:=ae;subst ej;rw[List.take_length]at JJ;have HX:=show Jb ds str nx vr ly lv n L w (Rv<|.tuple #[]) wr from⟨rfl,gK,li,D,Gj,FJ,EJ,ZJ,JJ.done hh hs⟩
     go_wp2
     go_end0;exact HX
def aht:∀k,ahr ds str vr ly k:=λk=>Nat.strongRecOn k λk ih=>VG ih
end
end Go.Proofs.YtopmodaakdnliaaGreatDoor

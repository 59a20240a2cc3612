import Derived.Test.YtfnkchdeheeiiaaGreatDoorCVd
import Derived.Test.YtfnkchdeheeiiaaGreatDoorCXo
import Derived.Test.YtfnkchdeheeiiaaGreatDoorCXk
set_option linter.all false
set_option maxRecDepth 100000
set_option maxHeartbeats 16000000
namespace Go.Proofs.YtfnkchdeheeiiaaGreatDoor
open Pu renaming bC->ja,Tok->jc
open Go.RowKit.Below renaming refl->jd
open Go.Proofs.Tryz renaming prog->jf,underlying209->jh,underlying9->ji
open _root_.List renaming getElem_mem->jj
open Go Go.RowKit Proofs.Tryz
variable {s:BA} {lo:BA->Nat} {mk ty:BA->Option Nat} {f f':Fl} {m:MV} {B N b cb g k lb mb n rb sb tb:Nat} {P:Nat->Prop} {nd x y z:Nd} {t:TypeId} {a c v:Value} {W w w' w0:World}
section
open Go.ChangeMaps
def lI T mk f l k:dJ T mk (f+1) l k=aM mk (λx=>kL T mk (dJ T mk f)<|l++[x]) k:=rfl
def iR T mk go l:aR T (kL T mk go l):=by grind[aR,kL,dY,cO]
def uJ T sm:aR T (dd T sm):=by grind[aR,dd,fq,pN,iO]
theorem tE{T}{sm}(hm:∀k a k',sm k=.ok (a,k')->k<k'):lN (dd T sm):=λk a k' h=>by
 rw[dd]at h;have⟨_,k1,h1,h2⟩:=aw h;have:=eE _ _ _ _ h1;have:=yi hm 1 _ _ _ _ _ h2;omega
def QMaker:EQ Nd:=λw P nd c=>∃(s:BA)(n:Nat)(L:List Nd)(f t a y:Nat)(v:Value),nd=.mk 2 s n L f t a/\c 0=Nv f/\c 1=Nv t/\c 2=Nv a/\c 3=Nv y/\c 4=.string s/\c 5=v/\mN s/\y=a+s.size/\RowV (Q1 PT) 1 w P L v
def bS:fO QMaker:=λ_ _ _ _ _ _ h h1 h2 h3=>by
 obtain⟨s,n,L,f,t,a,y,v,e0,e1,e2,e3,e4,e5,e6,e7,e8,e9⟩:=h;exact⟨s,n,L,f,t,a,y,v,e0,e1,e2,e3,e4,e5,e6,e7,e8,e9.move VO h1 h2 h3⟩
def Dw w P nd(v:Value):=∃c:Nat->Value,v=.agg #[c 0,c 1,c 2,c 3,c 4,c 5]/\QMaker w P nd c
def IB{k k'}{t}(h:di (ja s 0) 2 k=.ok (t,k'))(hk:k<(ja s 0).length):mN t.text/\t.to=t.al+t.text.size:=by
 rw[di]at h;split at h
 .rename_i hq
  cases h
  exact⟨(dX s k hk).v2<|by simpa using hq,(nO s k hk).sp⟩
 .cases h
def Bx.ahA{w}{C}(h:Bx w b C)(hC:C.size=6)v0 v1 v2 v3 v4 v5:Bx ((((((w.setCell ⟨b,0,none⟩ v0).setCell ⟨b,1,none⟩ v1).setCell ⟨b,2,none⟩ v2).setCell ⟨b,3,none⟩ v3).setCell ⟨b,4,none⟩ v4).setCell ⟨b,5,none⟩ v5) b #[v0,v1,v2,v3,v4,v5]:=by
 obtain⟨a0,a1,a2,a3,a4,a5,rfl⟩:∃a0 a1 a2 a3 a4 a5,C=#[a0,a1,a2,a3,a4,a5]:=by
  obtain⟨l⟩:=C
  match l,hC with
  |[a,b,c,d,e,f],_=>grind
 exact(((((h.aO 0 v0 #[v0,a1,a2,a3,a4,a5] rfl ag).aO 1 v1 #[v0,v1,a2,a3,a4,a5] rfl ag).aO 2 v2 #[v0,v1,v2,a3,a4,a5] rfl ag).aO 3 v3 #[v0,v1,v2,v3,a4,a5] rfl ag).aO 4 v4 #[v0,v1,v2,v3,v4,a5] rfl ag).aO 5 v5 #[v0,v1,v2,v3,v4,v5] rfl ag
def RowV.sQ{α:Type}{Q}{sz}{L:List α}(h:RowV Q sz w P L v)(hQ:fO Q)(hb:∀c,P c->c≠b)(j:Nat)(u:Value):RowV Q sz (w.setCell ⟨b,j,none⟩ u) P L v:=h.move hQ xH (λc p _=>Below.heap_setCell _ _ _ _<|hb c p)<|λ_ p _=>p
def PL(hs:s.size<=1000)(hT:(ja s 0).length<=1001)(h:SX w N rb sb m s k)(hn:(ja s 0).length<=k+1+n):Cq 247 #[rp rb] w (ap Dw N rb sb m s (dd (ja s 0) (AL s n) k) w):=by
 have o:w.heap.size≠rb:=by have:=h.z;omega
 have ai8:=h.lt;refine cz.xN h rfl λH=>?_;go_enter func247,ntmps247;go_wp2_with fail;refine H.own.call (sT H.own.sx hs 2 FY<|Or.inr ⟨rfl,rfl⟩) ?_ (st:=λ_ k h=>iO _ _ _ _ k h);intro t k1 v w1 H q V
 cases V
 have Ht:=ai<|IB q ai8
 cases eE _ _ _ _ q
 clear q;have H:=H.box (D:=#[Nv t.al,Nv t.to,Sv t.text]) (t:=133);have⟨c1,f1,y1⟩:=H.sx.bx;go_wp2_with fail;clear c1 f1 y1;refine(H.re<|CO (eN (ja s 0) (AL s n) 1 (ja s 0).length<|.mk 2 t.text 0 [] t.al (aF (ja s 0)<|k+1) t.al)<|k+1).call (VS (R:=PT) hT (.inl ⟨rfl,rfl,rfl⟩) PT.iface (λ_ _ _ _ _ _ h a b c=>h.move a b c) (cy (cX (T:=(ja s 0)) n) (cX n) 1) (λw k' S l=>agL hs (VY hs hT n) S ae) H.sx t.text t.al (aF (ja s 0)<|k+1) t.al) ?_ (mv:=Gt λ_ _ _ _ _ _ h a b c=>h.move a b c);intro a k2 v w3 H q V;have⟨L',hL'⟩:=pS _ _ _ _ _ q;subst hL';obtain⟨va,L,vc,rfl⟩:=V.sl;clear V q;have⟨⟨_,d3,g3,x3⟩,_⟩:=H.p;have⟨c3,f3,y3⟩:=H.bo o
 go_wp2
 go_region_with(go_at_call 105;refine H.drew.since ?_;intro w4 H;have⟨⟨_,d4,g4,x4⟩,_⟩:=H.p;have⟨c4,f4,y4⟩:=H.bo o)
 all_goals(
  go_wp2_with fail;have⟨cF,fF,zF⟩:=(H.bo o).ahA rfl (Nv t.al) (.int .i64 ((aF (ja s 0) k2:Nat):Int)) (Nv t.al) (Nv t.to) (Sv t.text) (Lv va L vc);refine bodyPost_ret (v:=Av #[Nv t.al,.int .i64 ((aF (ja s 0) k2:Nat):Int),Nv t.al,Nv t.to,Sv t.text,Lv va L vc]) (by simp[results,Tryz.results247,go_sem,cF]) rfl ((H.put o ⟨cF,fF,zF⟩<|cJ<|cJ<|cJ<|cJ<|cJ<|cJ ⟨rfl,rfl,rfl,rfl,λ_ _=>rfl⟩).done ?_);rintro⟨_,L1,fr,tz,at_,e,R⟩;injection e with _ _ _ e3 e4 e5 e6;subst e3 e4 e5 e6
  exact⟨λj=>([Nv t.al,.int .i64 ((aF (ja s 0) k2:Nat):Int),Nv t.al,Nv t.to,Sv t.text,Lv va L vc]:List Value).getD j Zv,rfl,_,_,_,_,_,_,_,_,rfl,rfl,rfl,rfl,rfl,rfl,rfl,Ht.1,Ht.2,R⟩)
def Sk:(Tryz.prog.info? 286).map (λi=>(i.zero,i.size,i.bytes))=some (some<|.agg #[Iv 0,Iv 0,Iv 0,Iv 0,.string ⟨#[]⟩,.slice none 0 0],6,72):=qkr
def IC:Tryz.prog.underlying 135=some (.slice 286):=qkr
def Dw.open(h:Dw w P nd v):∃(s:BA)(n:Nat)(L:List Nd)(f t a y:Nat)(va:Option Addr)(vc:Nat),nd=.mk 2 s n L f t a/\v=.agg #[Nv f,Nv t,Nv a,Nv y,.string s,.slice va L.length vc]/\mN s/\y=a+s.size/\RowV (Q1 PT) 1 w P L (.slice va L.length vc):=by
 obtain⟨c,rfl,s,n,L,f,t,a,y,v,e0,e1,e2,e3,e4,e5,e6,e7,e8,e9⟩:=h;have e9':=e9;obtain⟨va,vc,cs,rfl,_,_⟩:=e9;exact⟨s,n,L,f,t,a,y,va,vc,e0,by rw[e1,e2,e3,e4,e5,e6],e7,e8,e9'⟩
def Bm:Mov Dw:=λ_ _ _ _ _ _⟨c,h1,h2⟩p q r=>⟨c,h1,bS _ _ _ _ _ _ h2 p q r⟩
def abu w P l v:=l≠[]/\RowV QMaker 6 w P l v
def zX(hs:s.size<=1000)(hT:(ja s 0).length<=1001)(h:SX w N rb sb m s k)(hn:(ja s 0).length<=k+1+n):
 Cq 246 #[rp rb,nM 247 rb] w (ap abu N rb sb m s (dJ (ja s 0) (dd (ja s 0)<|AL s n) (ja s 0).length [] k) w):=by
 have hcA:∀args w,(callFunc 247 args).run Tryz.prog w=.ok (.enter 247 args) w:=λ_ _=>qkr;have hk:=h.lt;obtain⟨r,hr⟩:∃r,r=dJ (Pu.bC s 0) (dd (Pu.bC s 0)<|AL s n) (Pu.bC s 0).length [] k:=⟨_,rfl⟩;rw[<-hr];obtain⟨L,hL⟩:∃L,(Pu.bC s 0).length=L+1:=⟨(Pu.bC s 0).length-1,ae⟩;refine cz.xN h (by rw[hr,hL];exact lI _ _ _ _ _) λH=>?_;have HL:=ai hL;clear hr hL;go_enter func246,ntmps246;go_wp2_with fail;refine H.call (PL (n:=n) hs hT h hn) ?_ (st:=λa=>iR _ _ _ _) (mv:=Bm);intro a k1 v1 w1 H q V;have l1:=tE (T:=(Pu.bC s 0)) (cy (cX n) (cX n) 1) _ _ _ q;obtain⟨s',n',L',f',t',a',y',oX,oY,rfl,rfl,hu,hy,hV⟩:=V.open;have H:=(H.af<|bw _).row bS (dt.one (sz:=6) (et:=286) (lo:=w.heap.size) (c:=λj=>([Nv f',Nv t',Nv a',Nv y',Sv s',Lv oX L'.length oY]:List Value).getD j Zv) bS ⟨s',n',L',f',t',a',y',_,rfl,rfl,rfl,rfl,rfl,rfl,rfl,hu,hy,hV⟩ (br _) H.ke.size aK #[Nv f',Nv t',Nv a',Nv y',Sv s',Lv oX L'.length oY] rfl rfl) ⟨br _,.inl rfl⟩;clear hu hy hV V q
 go_wp2
 go_loopg[5] ((ja s 0).length-k1) (λgk v wr=>CL (·≠[]) QMaker 286 6 N rb sb m s (k+1) w r (λf A _=>kL (ja s 0) (dd (ja s 0)<|AL s n) (dJ (ja s 0) (dd (ja s 0)<|AL s n) f) A) gk v wr)
 case atStart=>exact⟨k1,[Nd.mk 2 s' n' L' f' t' a'],L,_,1,0,rfl,ag,H,ai rfl,l1,bQ,by have:=uh HL;omega⟩
 case round=>
  clear H HL;obtain⟨kr,A,f,va,vc,_,rfl,hA,H,c_,hle,hAl,hfu⟩:=hrel;have zw:=H.ke.size;have VU:=H.p.block;have VT:=H.sx.lt
  cases hb:a_ (tk (ja s 0) kr) Wd
  .have H:=H.re (g':=λk=>.ok (A,k)) (by dsimp only[kL];rw[hb];rfl);go_wp2_with fail;refine H.CI hb ?_
   go_wp2
   go_ret;exact H.done λR=>⟨hA,R.v bS⟩
  .obtain⟨f,rfl⟩:∃f',f=f'+1:=⟨f-1,ae⟩;have H:=H.re (g':=aM pi λ_=>aM (dd (ja s 0)<|AL s n) λa=>kL (ja s 0) (dd (ja s 0)<|AL s n) (dJ (ja s 0) (dd (ja s 0)<|AL s n) f)<|A++[a]) (by dsimp only[kL];rw[if_pos hb,lI];rfl);go_wp2_with fail;refine H.zO hb ?_ (st:=λ_=>fq (uJ _ _) λa=>iR _ _ _ _);intro w2 H;go_wp2_with fail;have z2:=H.ke.size;have VU:=H.p.block;refine H.call (PL (n:=n) hs hT H.sx ae) ?_ (st:=λa=>iR _ _ _ _) (mv:=Bm);intro a k2 v1 w1 H q V;have l2:=tE (T:=(ja s 0)) (cy (cX n) (cX n) 1) _ _ _ q;obtain⟨s',n',L',f',t',a',y',oX,oY,rfl,rfl,hu,hy,hV⟩:=V.open
   replace hy:=ai hy
   go_wp2_with(at_builtin;go_must(refine H.append (a:=.mk 2 s' n' L' f' t' a') (D:=[Nv f',Nv t',Nv a',Nv y',Sv s',Lv oX L'.length oY]) hT bS Sk IC H.p.1 z2 (λb e=>(VU b e).2) (c:=λj=>([Nv f',Nv t',Nv a',Nv y',Sv s',Lv oX L'.length oY]:List Value).getD j Zv) ⟨s',n',L',f',t',a',y',_,rfl,rfl,rfl,rfl,rfl,rfl,rfl,hu,hy,hV⟩ ae ?_;intro q3 c3 w3 H));go_roundg((ja s 0).length-k2)
   case measure=>rw[uh c_];omega
   case rel=>exact⟨k2,A++[Nd.mk 2 s' n' L' f' t' a'],f,_,c3,0,ag,ag,H,ai rfl,ae,bQ,ae⟩
end
section
open Un
def cI{c}{a}{z}(hk:k≠0)(h:(bi c k a b z).kind=0):c=false/\z.kind=0:=by
 rw[bi]at h
 cases c with
 |false=>exact⟨rfl,h⟩|true=>
  rw[if_pos rfl]at h;exact absurd h (RL k a b z hk).1
mutual
def UX{ty:BA->Option Nat}{own:List BA}:∀(nd:Nd)(z:Fl),(tV ty own nd z).kind=0->z.kind=0
 |.mk k s n L f t a,z,h=>by
  rw[tV]at h;exact(cI aK (cI aK<|wX L _ h).2).2
def wX{ty:BA->Option Nat}{own:List BA}:∀(l:List Nd)(z:Fl),(ir ty own l z).kind=0->z.kind=0
 |[],z,h=>h|x::l,z,h=>by rw[ir]at h;exact UX x z<|wX l _ h
end
mutual
def acQ{mk:BA->Option Nat}:∀(nd:Nd)(q:List BA×Fl),(nB mk nd q).2.kind=0->q.2.kind=0
 |.mk k s n L f t a,q,h=>by
  rw[nB]at h;split at h
  .exact(cI aK h).2
  .exact(cI aK<|Cm L _ h).2
def Cm{mk:BA->Option Nat}:∀(l:List Nd)(q:List BA×Fl),(dK mk l q).2.kind=0->q.2.kind=0
 |[],q,h=>h|x::l,q,h=>by rw[dK]at h;exact acQ x q<|Cm l _ h
end
mutual
def lf{ty mk:BA->Option Nat}:∀(nd:Nd)(l:List BA)(z:Fl),(dM ty mk nd l z).kind=0->z.kind=0
 |.mk k s n L f t a,l,z,h=>by
  rw[dM]at h;split at h
  .exact(cI aK h).2
  split at h
  .exact(cI aK h).2
  split at h
  .exact Yk L _ z h
  split at h
  .exact Yl L _ _ z h
  split at h
  .exact Yl L _ _ z h
  split at h
  .exact afj L l z h
  split at h
  .exact afk L l z h
  .exact Ym L l z h
def Yk{ty mk:BA->Option Nat}:∀(L:List Nd)(l:List BA)(z:Fl),(QP ty mk L l z).kind=0->z.kind=0
 |[],l,z,h=>h|x::r,l,z,h=>lf x l z (by rw[QP]at h;exact h)
def Yl{ty mk:BA->Option Nat}:∀(L:List Nd)(l l':List BA)(z:Fl),(UU ty mk L l l' z).kind=0->z.kind=0
 |[],l,l',z,h=>h|x::r,l,l',z,h=>lf x l z (Yk r l' _ (by rw[UU]at h;exact h))
def afk{ty mk:BA->Option Nat}:∀(L:List Nd)(l:List BA)(z:Fl),(UW ty mk L l z).kind=0->z.kind=0
 |[],l,z,h=>h|[x],l,z,h=>lf x l z (by rw[UW]at h;exact h)|x::y::r,l,z,h=>lf x l z (UX y _ (by rw[UW]at h;exact h))
def Ym{ty mk:BA->Option Nat}:∀(L:List Nd)(l:List BA)(z:Fl),(iI ty mk L l z).kind=0->z.kind=0
 |[],l,z,h=>h|x::r,l,z,h=>lf x l z (Ym r l _ (by rw[iI]at h;exact h))
def afj{ty mk:BA->Option Nat}:∀(L:List Nd)(l:List BA)(z:Fl),(aai ty mk L l z).kind=0->z.kind=0
 |[],l,z,h=>h|x::r,l,z,h=>lf x l z (Co r l _ (by rw[aai]at h;exact h))
def Co{ty mk:BA->Option Nat}:∀(L:List Nd)(l:List BA)(z:Fl),(oV ty mk L l z).kind=0->z.kind=0
 |[],l,z,h=>h|p::r,l,z,h=>acQ p ([],z) (afl r l _ (by rw[oV]at h;exact h))
def afl{ty mk:BA->Option Nat}:∀(L:List Nd)(l:List BA)(q:List BA×Fl),(UT ty mk L l q).kind=0->q.2.kind=0
 |[],l,q,h=>h|e::r,l,q,h=>lf e _ q.2 (Co r l _ (by rw[UT]at h;exact h))
end
mutual
def mP:Nd->List BA
 |.mk _ s _ L _ _ _=>s::jE L
def jE:List Nd->List BA
 |[]=>[]|x::l=>mP x++jE l
end
mutual
def ID:∀nd,(mP nd).length=nn nd
 |.mk k s n L f t a=>by simp only[mP,nn,mV,Bn L];omega
def Bn:∀l,(jE l).length=bY l
 |[]=>rfl|x::l=>by simp only[jE,bY,vg,ID x,Bn l]
end
end
section
open Go.ChangeMaps Go.MapKept
section
variable {gb:Nat} {wr:World} {p l:List BA}
def Yn x y s:Cq 176 #[.agg #[Iv x,Iv y,.string s]] w λe w'=>∃gb,e=.returned (Mv gb)/\w.heap.size<=gb/\Bq w w'/\GM w' gb [s]:=by
 have iE:= @run_makeMap Tryz.prog;have da:Bq w ((w.alloc<|Cv #[Iv x,Iv y,Sv s] 133).alloc<|.map #[] 0):=(bw _).alloc ag _;have M0:MB ((w.alloc<|Cv #[Iv x,Iv y,Sv s] 133).alloc<|.map #[] 0) (w.heap.size+1) []:=(by have:=MB.new<|w.alloc<|Cv #[Iv x,Iv y,Sv s] 133;simpa using this);have HB:=ai da;have B1:=(Bx.new w #[Iv x,Iv y,Sv s] 133).alloc<|.map #[] 0;obtain⟨c1,f1,y1⟩:=B1;go_enter func176,ntmps176;go_wp2_with(refine n8 rfl _ _ _ (Or.inl rfl) rfl M0 s (Iv 1) rfl rfl ?_;intro w3 H' O';have M3:=ai H';have O3:=ai O';clear H' O');go_ret;exact⟨_,rfl,Nat.le_succ _,One.below HB O3<|Nat.le_succ _,GM.bD (p:=[]) ag (λx=>by simp[aY,fC]) M3⟩
def EXR cb tb mb lb ty mk lo w0 f l(L:List Nd)gk c wr:=∃j:Nat,Hid (gk=L.length-j)/\j<=L.length/\c=Nv j/\CE cb tb mb lb ty mk lo w0 (iI ty mk (L.take j) l f) wr
def PO{L}{sc}{vs:Nat->Value}(IH:∀x∈L,PXC x)(h:CK w cb tb mb lb ty mk lo f)(hB:B<=cb)(zI:B<=lb)(hg:g<w.heap.size)(hgn:g≠cb/\g≠lb)(hc:∀i,i<L.length->w.cell? ⟨g,i,none⟩=some (vs i))(hr:∀i(h:i<L.length),PE w (·<B) L[i]<|vs i)(hl:Jo lo l)(pC:∀x,lo x+bY L<=5000)(hS:∀x∈L,Sm x)(hL:L.length<=1000):
 Cq 243 #[cp cb,.slice (some ⟨g,0,none⟩) L.length sc] w λe w'=>e=.returned (.tuple #[])/\Fr (λb=>b=cb\/b=lb) w w'/\CK w' cb tb mb lb ty mk lo (iI ty mk L l f):=by
 have xF:∀b,b<B->¬(b=cb\/b=lb):=λb hb q=>ae;have X0:CE cb tb mb lb ty mk lo w f w:=⟨h,Fr.refl _ _⟩;obtain⟨Z,HZ⟩:∃Z,Hid<|Z=iI ty mk L l f:=⟨_,ai rfl⟩;rw[<-uh HZ];go_enter func243,ntmps243
 go_wp2
 go_loopg[8] L.length (λgk c wr=>EXR cb tb mb lb ty mk lo w f l L gk c wr)
 case atStart=>exact⟨0,ai rfl,Nat.zero_le _,rfl,by rw[List.take_zero];rw[iI];exact X0⟩
 case round=>
  obtain⟨j,c_,hj,rfl,hX⟩:=hrel;have XR:=ai hX;by_cases bA:j<L.length
  .have hd:(j:Int)<(L.length:Int):=ae;have hcj:=(World.cell?_of_block (a:=⟨g,j,none⟩)<|XR.k.block g hg (λq=>by obtain q|q:=q;exact hgn.1 q;exact hgn.2 q)).trans (hc j bA);have HC:=IH L[j] (jj bA) _ cb tb mb lb B ty mk lo _ (vs j) l XR.d hB zI ((hr j bA).Nj XR.k xF) hl (λx=>by have:=pC x;have:=rS<|jj bA;omega)<|hS _<|jj bA;rw[<-RH _ _ _ _ _ _ bA]at HC;go_wp2_with fail;refine HC.mono ?_;rintro e w2⟨rfl,k2,d2⟩;have X2:=XR.fr k2 d2
   go_wp2
   go_roundg(L.length-(j+1))
   case measure=>rw[uh c_];omega
   case rel=>exact⟨j+1,ai rfl,ae,iF,X2⟩
  .have hd:decide ((j:Int)<(L.length:Int))=false:=bQ;have he:L.take j=L:=List.take_of_length_le ae;rw[he,<-uh HZ]at XR
   go_wp2
   go_end0;exact⟨rfl,XR.k,XR.d⟩
abbrev bdA r x y s v:=#[.bool r,Iv x,Iv y,.string s,v]
def Nk(HE:PXC nd)(h:CK w cb tb mb lb ty mk lo f)(hB:B<=cb)(zI:B<=lb)(hx:PE w (·<B) nd v)(hl:Jo lo l)(pC:∀x,lo x+1+nn nd<=5000)(hs:Sm nd)r x y s:
 Cq 123 #[cp cb,.agg<|bdA r x y s v] w λe w'=>e=.returned (.tuple #[])/\Fr (λb=>b=cb\/b=lb) w w'/\CK w' cb tb mb lb ty mk lo (dM ty mk nd (if r then l++[s]else l) f):=by
 have⟨cx,B0⟩:=sf w (bdA r x y s v) 142;have X0:Hid (CE cb tb mb lb ty mk lo w f<|w.alloc<|Cv (bdA r x y s v) 142):=ai ⟨h.af cx,Fr.of cx⟩;have HX:=ai<|hx.af cx;have⟨z1,z2,z3,z4⟩:=h.lts;obtain⟨t1,x1,rfl⟩:=hx.iface;have⟨c0,f0,y0⟩:=uh B0;clear h hx cx
 cases r with
 |false=>
  have HC:=ai (HE _ cb tb mb lb B ty mk lo f _ l X0.d hB zI HX hl (λx=>by have:=pC x;omega) hs);go_enter func123,ntmps123;go_wp2_with fail;refine HC.mono ?_;rintro e w2⟨rfl,k2,d2⟩;have X2:=ai<|X0.fr k2 d2;clear k2 d2 HC
  go_wp2
  go_end0;exact⟨rfl,X2.k,X2.d⟩
 |true=>
  go_enter func123,ntmps123
  go_wp2
  go_region_with(first
   |(go_at_call 176;refine(Yn _ _ _).mono ?_;rintro e w1⟨gb,rfl,hgb,b1,g1⟩;have hb:=(jd _ _).drew.trans<|b1.mono<|br _;have X1:=ai<|X0.af hb;have P1:=ai<|HX.af hb;have G1:=ai g1;have B1:=ai<|B0.below hb;have ahB:w.heap.size+1<=gb:=(by simpa using hgb);have⟨c1,f1,y1⟩:=uh B1;clear hb b1 g1 hgb)
   |(go_at_call 175;refine(rX HE X1.d hB zI P1 G1 ⟨ae,ae,ae,ae⟩ hl pC hs).mono ?_;rintro e w2⟨rfl,k2,d2⟩;have X2:=ai<|X1.fr k2 d2;clear k2 d2))
  all_goals(
   go_wp2
   exact bodyPost_ret (v:=.tuple #[]) (by simp[results,Tryz.results123,go_sem]) rfl ⟨rfl,X2.k,X2.d⟩)
end
def afm{b:Value}(hg:g=W.heap.size)(hw:w=W.alloc (.cells #[a,b] t)):∀i,i<[x,y].length->w.cell? ⟨g,i,none⟩=some ((λi:Nat=>if i=0 then a else b) i):=by
 subst hg hw;intro i hi;have:i=0\/i=1:=D9;obtain rfl|rfl:=this<;>simp
def afn{b:Value}(hg:g=W.heap.size)(hw:w=W.alloc (.cells #[a,b,c] t)):∀i,i<[x,y,z].length->w.cell? ⟨g,i,none⟩=some ((λi:Nat=>if i=0 then a else if i=1 then b else c) i):=by
 subst hg hw;intro i hi;have:i=0\/i=1\/i=2:=D9;obtain rfl|rfl|rfl:=this<;>simp
def ahC{b:Value}(hx:PE w (·<B) x a)(hy:PE w (·<B) y b):∀i(h:i<[x,y].length),PE w (·<B) [x,y][i]<|(λi:Nat=>if i=0 then a else b) i:=yV
def ahD{b:Value}(hx:PE w (·<B) x a)(hy:PE w (·<B) y b)(hz:PE w (·<B) z c):∀i(h:i<[x,y,z].length),PE w (·<B) [x,y,z][i]<|(λi:Nat=>if i=0 then a else if i=1 then b else c) i:=yV
def Dx{p:Prop}(h:p:=by
 have X2:=X1.af Tt;rw[Xc aK];simp only[nn]at Kh;have HC:=ai<|PO (g:=w.heap.size+1) (sc:=2) (l:=l) (L:=[x,y]) (λq hq=>Js q hq) X2.d hB zI ag ⟨ae,ae⟩ (afm ag rfl) (ahC ((hx.af cx).af Tt)<|(hy.af cx).af Tt) Tn (λx=>qAv) HS hL;simp only[mV,vf,Nat.zero_add,Nat.reduceAdd]at HC;obtain⟨c1,f1,y1⟩:=uh B1;clear cx Tt hx hy;go_enter func177,ntmps177;go_wp2_with fail;refine HC.mono ?_;rintro e w2⟨rfl,k2,d2⟩;have X3:=X2.fr k2 d2;clear k2 d2 HC
 go_wp2
 go_end0
 exact⟨rfl,X3.k,X3.d⟩):p:=h
def Dy{p:Prop}(h:p:=by
 go_wp2
 go_end0
 exact⟨rfl,X3.k,X3.d⟩):p:=h
def aef:∀nd,PXC nd:=by
 refine Nd.ind ?_;intro k s n L fr t a Js w cb tb mb lb B ty mk lo f v l h hB zI hx Tn Kh hs;have HS:=ai hs.part;have hL:=hs.len.1;have X0:CE cb tb mb lb ty mk lo w f w:=⟨h,Fr.refl _ _⟩;have⟨z1,z2,z3,z4⟩:=h.lts;have xF:∀b,b<B->¬(b=cb\/b=lb):=λb hb q=>ae;clear h hs
 cases hx with
 |low _ _ _ _ _ iD=>
  have⟨cx,B1⟩:=sf w #[Nv fr,Nv t,Sv s] 356;have X1:=X0.af cx;rw[show dM ty mk (.mk 1 s n [] fr t a) l f=bi (!fC s l) 5 fr t f by unfold dM;rfl];obtain⟨N,hN⟩:∃N,Hid<|N=lo s:=⟨_,ai rfl⟩;have sg:∀q,(Instr.lookup 209 (Mv lb) (Sv s) false).run jf ((w.alloc<|Cv #[Nv fr,Nv t,Sv s] 356).drewN q)=.ok (Nv N) ((w.alloc<|Cv #[Nv fr,Nv t,Sv s] 356).drewN q):=λq=>by
   have:=(X1.af<|(jd _ _).drewN q).d.l.look s;rw[<-uh hN]at this;exact this
  have HE:((N:Int)==0)= !fC s l:=(by
   cases hq:fC s l with
   |true=>have:=(Tn s).2<|MW.1 hq;have h2:=uh hN;simp;omega|false=>
    have h1:lo s=0:=by
     apply Classical.byContradiction;intro e;exact Dg.1 hq<|(Tn s).1 e
    have h2:=uh hN
    simp;omega)
  have⟨c1,f1,y1⟩:=uh B1;have⟨c2,f2,y2⟩:=X1.d.bx;clear cx
  cases qJ:fC s l with
  |true=>
   rw[qJ]at HE;have hE':=HE;go_enter func177,ntmps177
   go_wp2
   go_quiet(fail)
   go_wp2
   go_end0;exact⟨rfl,(X1.af<|(jd _ _).drewN _).k,(X1.af<|(jd _ _).drewN _).d⟩
  |false=>
   rw[qJ]at HE;have hE':=HE;have HC:=λq=>ai<|pX (X1.af<|(Below.refl _ _).drewN q).d 5 fr t;go_enter func177,ntmps177
   go_wp2
   go_quiet(fail);go_wp2_with fail;refine(uh<|HC _).mono ?_;rintro e w2⟨rfl,k2,d2⟩;have X2:=(X1.af<|(jd _ _).drewN _).ke k2 d2;clear k2 d2 HC
   go_wp2
   go_end0;exact⟨rfl,X2.k,X2.d⟩
 |up _ _ _ _ _ iD=>
  have⟨cx,B1⟩:=sf w #[Nv fr,Nv t,Sv s] 390;have X1:=X0.af cx;rw[show dM ty mk (.mk 2 s n [] fr t a) l f=bi (mk s).isNone 5 fr t f by unfold dM;rfl];have⟨c1,f1,y1⟩:=uh B1;have⟨c2,f2,y2⟩:=X1.d.bx;obtain⟨b,hb⟩:∃b,Hid<|b=(mk s).isSome:=⟨_,ai rfl⟩;have HB:=show(mk s).isNone= !b by rw[uh hb];cases mk s<;>rfl
  clear cx;go_enter func177,ntmps177
  go_wp2
  go_region_with(go_at_call 240;refine(Pa (v:=Mv mb) (Or.inr ⟨mb,rfl,(X1.af (jd _ _).drew).d.m⟩) s).mono ?_;rintro e w2⟨rfl,rfl⟩;rw[<-uh hb])
  all_goals(
   cases b with
   |true=>
    go_wp2
    go_end0;exact⟨rfl,(X1.af (jd _ _).drew).k,by rw[HB];exact(X1.af (jd _ _).drew).d⟩
   |false=>
    have HC:=ai<|pX (X1.af (jd _ _).drew).d 5 fr t;go_wp2_with fail;refine HC.mono ?_;rintro e w2⟨rfl,k2,d2⟩;have X2:=(X1.af (jd _ _).drew).ke k2 d2;clear k2 d2 HC
    go_wp2
    go_end0
    exact⟨rfl,X2.k,by rw[HB];exact X2.d⟩)
 |pr _ _ x y _ _ _ vx vy hx hy=>
  obtain⟨t1,x1,rfl⟩:=hx.iface;obtain⟨t2,x2,rfl⟩:=hy.iface;have⟨cx,B1⟩:=sf w #[Nv fr,Nv t,Fv t1<|Av x1,Fv t2<|Av x2] 309;have X1:=X0.af cx;have Tt:Bq (w.alloc<|Cv #[Nv fr,Nv t,Fv t1<|Av x1,Fv t2<|Av x2] 309) ((w.alloc<|Cv #[Nv fr,Nv t,Fv t1<|Av x1,Fv t2<|Av x2] 309).alloc<|Cv #[Fv t1<|Av x1,Fv t2<|Av x2] 140):=bw _;exact Dx
 |op _ _ x y _ _ _ vx vy ho hx hy=>
  obtain⟨t1,x1,rfl⟩:=hx.iface;obtain⟨t2,x2,rfl⟩:=hy.iface;have⟨cx,B1⟩:=sf w #[Nv fr,Nv t,Sv s,Fv t1<|Av x1,Fv t2<|Av x2] 297;have X1:=X0.af cx;have Tt:Bq (w.alloc<|Cv #[Nv fr,Nv t,Sv s,Fv t1<|Av x1,Fv t2<|Av x2] 297) ((w.alloc<|Cv #[Nv fr,Nv t,Sv s,Fv t1<|Av x1,Fv t2<|Av x2] 297).alloc<|Cv #[Fv t1<|Av x1,Fv t2<|Av x2] 140):=bw _;exact Dx
 |call _ _ x y _ _ _ vx vy hx hy=>
  obtain⟨t1,x1,rfl⟩:=hx.iface;obtain⟨t2,x2,rfl⟩:=hy.iface;have⟨cx,B1⟩:=sf w #[Nv fr,Nv t,Fv t1<|Av x1,Fv t2<|Av x2] 319;have X1:=X0.af cx;have Tt:Bq (w.alloc<|Cv #[Nv fr,Nv t,Fv t1<|Av x1,Fv t2<|Av x2] 319) ((w.alloc<|Cv #[Nv fr,Nv t,Fv t1<|Av x1,Fv t2<|Av x2] 319).alloc<|Cv #[Fv t1<|Av x1,Fv t2<|Av x2] 140):=bw _;exact Dx
 |ite _ _ x y z _ _ _ vx vy vz hx hy hz=>
  obtain⟨t1,x1,rfl⟩:=hx.iface;obtain⟨t2,x2,rfl⟩:=hy.iface;obtain⟨t3,x3,rfl⟩:=hz.iface;have⟨cx,B1⟩:=sf w #[Nv fr,Nv t,Fv t1<|Av x1,Fv t2<|Av x2,Fv t3<|Av x3] 317;have X1:=X0.af cx;have Tt:Bq (w.alloc<|Cv #[Nv fr,Nv t,Fv t1<|Av x1,Fv t2<|Av x2,Fv t3<|Av x3] 317) ((w.alloc<|Cv #[Nv fr,Nv t,Fv t1<|Av x1,Fv t2<|Av x2,Fv t3<|Av x3] 317).alloc<|Cv #[Fv t1<|Av x1,Fv t2<|Av x2,Fv t3<|Av x3] 140):=bw _;have X2:=X1.af Tt;rw[Xc aK];simp only[nn]at Kh;have HC:=ai<|PO (g:=w.heap.size+1) (sc:=3) (l:=l) (L:=[x,y,z]) (λq hq=>Js q hq) X2.d hB zI ag ⟨ae,ae⟩ (afn ag rfl) (ahD ((hx.af cx).af Tt) ((hy.af cx).af Tt)<|(hz.af cx).af Tt) Tn (λx=>qAv) HS hL;simp only[mV,vf,Nat.zero_add,Nat.reduceAdd]at HC;have⟨c1,f1,y1⟩:=uh B1;clear cx Tt hx hy hz;go_enter func177,ntmps177;go_wp2_with fail;refine HC.mono ?_;rintro e w2⟨rfl,k2,d2⟩;have X3:=X2.fr k2 d2;clear k2 d2 HC;exact Dy
 |of _ _ x y _ _ _ vx vy hx hy=>
  obtain⟨t1,x1,rfl⟩:=hx.iface;obtain⟨t2,x2,rfl⟩:=hy.iface;have⟨cx,B1⟩:=sf w #[Nv fr,Nv t,Fv t1<|Av x1,Fv t2<|Av x2] 311;have X1:=X0.af cx;rw[aeL];simp only[nn,bY]at Kh;have HY:=hy.af cx;have HC:=ai<|Js x ag _ cb tb mb lb B ty mk lo f _ l X1.d hB zI (hx.af cx) Tn (λx=>qAv)<|HS x ag;have⟨c1,f1,y1⟩:=uh B1;clear cx hx hy;go_enter func177,ntmps177;go_wp2_with fail;refine HC.mono ?_;rintro e w2⟨rfl,k2,d2⟩;have X2:=X1.fr k2 d2;have B2:=ai<|B1.fr k2<|λq=>ae;have HY2:=HY.Nj k2 xF;have rl:=FK y _ cb tb mb lb B ty mk lo _ _ (.map none) (λ_=>none) [] X2.d hB HY2 (Or.inl ⟨rfl,rfl⟩) (λb q=>mD) (λs _=>by simp[fC])<|uh HS y ag;clear k2 d2 HC c1 f1 y1;have⟨c1,f1,y1⟩:=uh B2;go_wp2_with fail;refine rl.mono ?_;rintro e w3⟨rfl,k3,d3⟩;have X3:=X2.ke k3 d3;clear k3 d3 rl;exact Dy
 |fn _ _ x _ _ _ y vx iD hy hx=>
  obtain⟨t1,x1,rfl⟩:=hx.iface;have⟨cx,B1⟩:=sf w #[Nv fr,Nv t,Nv a,Nv y,Sv s,Fv t1<|Av x1] 313;have X1:=X0.af cx;have BB:=B1;rw[ag_];simp only[nn,bY]at Kh;have HX:=hx.af cx;have HE:=Js x ag;have HSX:=HS x ag;have⟨c1,f1,y1⟩:=uh B1;clear cx hx hy;go_enter func177,ntmps177
  go_wp2
  go_region_with(first
   |(go_at_call 176;refine(Yn _ _ _).mono ?_;rintro e w1⟨gb,rfl,hgb,b1,g1⟩;have hb:=(jd _ _).drew.trans<|b1.mono<|br _;have Y1:=ai<|X1.af hb;have Q1:=ai<|HX.af hb;have G1:=ai g1;have C1:=ai<|BB.below hb;have ahB:w.heap.size+1<=gb:=(by have:=hgb;simp at this;omega);have⟨c3,f3,y3⟩:=uh C1;clear hb b1 g1 hgb)
   |(go_at_call 175;refine(rX (l:=l) HE Y1.d hB zI Q1 G1 ⟨ae,ae,ae,ae⟩ Tn (λx=>qAv) HSX).mono ?_;rintro e w2'⟨rfl,k2,d2⟩;have X2:=ai<|Y1.fr k2 d2;clear k2 d2))
  all_goals(
   go_wp2
   go_end0
   exact⟨rfl,X2.k,X2.d⟩)
 |lt _ _ _ x z _ _ _ y vx vz hc iD hy hx hz=>
  obtain⟨t1,x1,rfl⟩:=hx.iface;obtain⟨t2,x2,rfl⟩:=hz.iface
  have HRR:=ai (show dM ty mk (.mk k s n [x,z] fr t a) l f=dM ty mk z (l++[s]) (dM ty mk x (if(k==11)=true then l++[s]else l) f) by
   obtain rfl|rfl:=hc
   .rw[aeJ];rfl
   .rw[aeK];rfl)
  rw[uh HRR];obtain⟨rr,hrr⟩:∃rr,rr=(k==11):=⟨_,rfl⟩;rw[<-hrr];obtain⟨fz,HFZ⟩:∃fz,Hid<|fz=dM ty mk x (if rr=true then l++[s]else l) f:=⟨_,ai rfl⟩;rw[<-uh HFZ];clear HRR hrr;have⟨cx,B1⟩:=sf w #[Nv fr,Nv t,.bool rr,Nv a,Nv y,Sv s,Fv t1<|Av x1,Fv t2<|Av x2] 315;have X1:=X0.af cx;simp only[nn,bY]at Kh;have HZ:=hz.af cx;have HC:=ai<|Nk (l:=l) (Js x ag) X1.d hB zI (hx.af cx) Tn (λx=>qAv) (HS x ag) rr (a:Int) (y:Int) s;rw[<-uh HFZ]at HC;have HE:=Js z ag;have HSX:=HS z ag;have⟨c1,f1,y1⟩:=uh B1;clear cx hx hy hz;go_enter func177,ntmps177;go_wp2_with fail;refine HC.mono ?_;rintro e w2⟨rfl,k2,d2⟩;have X2:=X1.fr k2 d2;have BB:=ai<|B1.fr k2<|λq=>ae;have HZ2:=HZ.Nj k2 xF;have Zi:=k2.size;clear k2 d2 HC c1 f1 y1;have⟨c1,f1,y1⟩:=uh BB
  go_wp2
  go_region_with(first
   |(go_at_call 176;refine(Yn _ _ _).mono ?_;rintro e w1⟨gb,rfl,hgb,b1,g1⟩;have hb:=(jd _ _).drew.trans<|b1.mono<|br _;have Y1:=ai<|X2.af hb;have Q1:=ai<|HZ2.af hb;have G1:=ai g1;have C1:=ai<|BB.below hb;have ahB:w.heap.size+1<=gb:=(by have:=hgb;have h3:=Zi;simp at this h3;omega);have⟨c3,f3,y3⟩:=uh C1;clear hb b1 g1 hgb)
   |(go_at_call 175;refine(rX (l:=l) HE Y1.d hB zI Q1 G1 ⟨ae,ae,ae,ae⟩ Tn (λx=>qAv) HSX).mono ?_;rintro e w2'⟨rfl,k2,d2⟩;have X3:=ai<|Y1.fr k2 d2;clear k2 d2))
  all_goals(
   go_wp2
   go_end0
   exact⟨rfl,X3.k,X3.d⟩)
 |mt _ _ x A _ _ _ vx g sc vp ve h0 hg hz hc hx hp he=>
  obtain⟨t1,x1,rfl⟩:=hx.iface;have⟨cx,B1⟩:=sf w #[Nv fr,Nv t,Fv t1<|Av x1,Lv (some ⟨g,0,none⟩) A.length sc] 201;have X1:=X0.af cx;rw[aeM];simp only[nn,bY]at Kh;have Vi:=hg;have hAL:A.length<=1000:=by simp only[mV]at hL;rw[A8]at hL;omega
  have HC:=ai<|Js x ag _ cb tb mb lb B ty mk lo f _ l X1.d hB zI (hx.af cx) Tn (λx=>qAv)<|HS x ag;have⟨c1,f1,y1⟩:=uh B1
  have HIA:∀q∈A,PXC q.2:=(λq hq=>by
   obtain⟨i,hi,rfl⟩:=List.getElem_of_mem hq
   exact Js _<|List.mem_cons_of_mem _ (Db A i hi).2)
  clear cx hx;go_enter func177,ntmps177;go_wp2_with fail;refine HC.mono ?_;rintro e w2⟨rfl,k2,d2⟩;have X2:=X1.fr k2 d2;have B2:=ai<|B1.fr k2<|λq=>ae;have kZ:∀o,w2.cell? ⟨g,o,none⟩=w.cell? ⟨g,o,none⟩:=λo=>World.cell?_of_block (a:=⟨g,o,none⟩)<|X2.k.block g hz<|xF g Vi;have rl:=ae3 (l:=l) (sc:=sc) (vp:=vp) (ve:=ve) HIA X2.d hB zI Vi (Nat.lt_of_lt_of_le hz X2.k.size) (λi hi=>by rw[kZ,kZ,kZ,kZ];exact hc i hi) (λi hi=>(hp i hi).Nj X2.k xF) (λi hi=>(he i hi).Nj X2.k xF) Tn (λq=>by have:=Kh q;have:=tq x;omega) (λq hq=>HS q<|List.mem_cons_of_mem _ hq) hAL;clear k2 d2 HC c1 f1 y1 kZ;have⟨c1,f1,y1⟩:=uh B2;go_wp2_with fail;refine rl.mono ?_;rintro e w3⟨rfl,k3,d3⟩;have X3:=X2.fr k3 d3;clear k3 d3 rl;exact Dy
 |_=>
  rw[Xc aK,show iI ty mk [] l f=f by unfold iI;rfl];go_enter func177,ntmps177
  go_wp2
  go_end0;exact⟨rfl,X0.k,X0.d⟩
section
variable {kb:Nat} {F:BA->Option Nat} {wr w1:World}
def FM.aec{c}(h:FM w b F)(o:One c w w')(hn:b≠c):FM w' b F:=h.same<|o.block b hn
def sL(h:CK w cb tb mb lb ty mk lo f)(hk:FM w kb F)(hn:kb≠cb)a b n s:
 Cq 173 #[cp cb,Mv kb,.agg #[Nv a,Nv b,.string s],Nv n] w λe w'=>e=.returned (.tuple #[])/\∃w1,Ke cb w w1/\CK w1 cb tb mb lb ty mk lo (bi (F s).isSome 4 a b f)/\One kb w1 w'/\FM w' kb (fE F s n):=by
 have⟨cx,B1⟩:=sf w #[Nv a,Nv b,Sv s] 133;have D1:=h.af cx;have K1:=Ke.of (rb:=cb) cx;have M1:=hk.below cx;have HC:=Pa (v:=Mv kb) (Or.inr ⟨kb,rfl,M1⟩) s;have hz:=h.z;have⟨c1,f1,y1⟩:=uh B1;go_enter func173,ntmps173;go_wp2_with fail;refine HC.mono ?_;rintro e w2⟨rfl,rfl⟩
 cases hF:(F s).isSome with
 |true=>
  have rl:=pX D1 4 a b;go_wp2_with fail;refine rl.mono ?_;rintro e w3⟨rfl,k3,D3⟩;have K3:=K1.trans k3;have B3:=ai<|B1.ri k3 ae;have⟨L,HM,HL⟩:=M1.ke k3 hn;have⟨c1,f1,y1⟩:=uh B3;go_wp2_with(refine aU _ rfl _ _ _ _ (Or.inr rfl) (KL.str ji) jh _ _ rfl HM s (Nv n) rfl rfl trivial (λ_ _=>trivial) ?_;intro w4 H' O';have M4:=ai H';have O4:=ai O';clear H' O');go_end0;exact⟨rfl,_,K3,D3,O4,_,M4,FM.put HL s n⟩
 |false=>
  obtain⟨L,HM,HL⟩:=M1;go_wp2_with(refine aU _ rfl _ _ _ _ (Or.inr rfl) (KL.str ji) jh _ _ rfl HM s (Nv n) rfl rfl trivial (λ_ _=>trivial) ?_;intro w4 H' O';have M4:=ai H';have O4:=ai O';clear H' O');go_end0;exact⟨rfl,_,K1,D1,O4,_,M4,FM.put HL s n⟩
def CK.agI(h:CK w1 cb tb mb lb ty mk lo f)(o:One tb w1 w')(m:FM w' tb F):CK w' cb tb mb lb F mk lo f:=
 ⟨h.bx.one o h.ct,m,h.m.aec o h.tm.symm,h.l.same<|o.block lb h.tl.symm,h.ct,h.cm,h.cl,h.tm,h.tl,h.ml⟩
def CK.agH(h:CK w1 cb tb mb lb ty mk lo f)(o:One mb w1 w')(m:FM w' mb F):CK w' cb tb mb lb ty F lo f:=
 ⟨h.bx.one o h.cm,h.t.aec o h.tm,m,h.l.same<|o.block lb h.ml.symm,h.ct,h.cm,h.cl,h.tm,h.tl,h.ml⟩
end
end
section
open Go.ChangeMaps Go.MapKept Un
abbrev KLI:KL jf 3 oS (λ_ _=>True):=KL.num Tryz.underlying3
def IE:Tryz.prog.underlying 85=some (.map 3 83):=qkr
def abv w:(zeroValue 83).run jf w=.ok .nilFunc w:=qkr
def Sl:Cq 39 #[] w λe w'=>e=.returned (Mv w.heap.size)/\Bq w w'/\MG oS w' w.heap.size (bD 2 (.func (.func 63) #[] #[])<|bD 1 (.func (.func 61) #[] #[]) []):=by
 have iE:= @run_makeMap Tryz.prog;have M0:=MG.new oS w;have k0:Bq w (w.alloc<|.map #[] 0):=bw _;have K0:=ai k0;go_enter func39,ntmps39;go_wp2_with((refine b8 KLI IE rfl _ _ _ (Or.inl rfl) rfl M0 _ _ rfl rfl ?_;clear M0;intro w' H' O';have M0:=ai H';have K1:=K0;clear K0;have K0:=ai (One.below K1 O'<|by exact br _);clear H' O' K1));go_ret;exact⟨rfl,K0,M0⟩
def IF{w}(h:MG oS w b (bD 2 (.func (.func 63) #[] #[])<|bD 1 (.func (.func 61) #[] #[]) [])):(Instr.lookup 85 (Mv b) (Iv 1) true).run jf w=.ok (.tuple #[.func (.func 61) #[] #[],.bool true]) w/\(Instr.lookup 85 (Mv b) (Iv 2) true).run jf w=.ok (.tuple #[.func (.func 63) #[] #[],.bool true]) w:=by
 have hl:=λk:Int=>h.ms.look KLI IE (abv w) k trivial (λ_ _=>trivial) true;constructor
 .have:=hl 1;simpa[aJ]using this
 .have:=hl 2;simpa[aJ]using this
end
end Go.Proofs.YtfnkchdeheeiiaaGreatDoor

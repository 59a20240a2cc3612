import Derived.Test.YtlnlhlefeokfjaaGreatDoorPBl
import Derived.Test.YtlnlhlefeokfjaaGreatDoorPXk
import Derived.Test.YtlnlhlefeokfjaaGreatDoorPXo
set_option linter.all false
set_option maxRecDepth 100000
set_option maxHeartbeats 16000000
namespace Go.Proofs.YtlnlhlefeokfjaaGreatDoor
open Pu renaming bF->ja,aY->jc,gN->jd,Tok->jf,fX->jh,dQ->ji,Ax->jj,dB->jk
open Go.RowKit.Below renaming refl->jl
open Bool renaming and_eq_true->jm
open Go.Proofs.Tryz renaming prog->jo
open Un.Ty renaming var->jp
open Go.World renaming cell?_of_block->jq
open _root_.List renaming not_mem_nil->jt,getElem_mem->ju,mem_cons->jv,map_cons->jx
open Or renaming inl->jy,inr->jz
open Go Go.RowKit Proofs.Tryz
variable {s:BA} {lo:BA->Nat} {ty:BA->Option Nat} {dom:BA->Prop} {o:Except In.Ft (Un.Ty×In.St)} {Γ:In.Env} {mks:In.Mks} {x:Ky} {nl:List BA} {K p q:List Ky} {T:List jf} {F L r:List UInt8} {sm:M Nd} {B N a b cb f fr k lb mb n rb sb tb:Nat} {P u:Nat->Prop} {nd t y:Nd} {α β:Type} {c:UInt8} {v:Value} {w:World}
section
open Go.ChangeMaps
def qN(T:List jf)mk f l k:eP T mk (f+1) l k=aV mk (λx=>nT T mk (eP T mk f)<|l++[x]) k:=rfl
theorem jT(T:List jf)mk go l:aS T (nT T mk go l):=by grind[aS,nT,eE,cW]
theorem yd(T:List jf)sm:aS T (dJ T sm):=by grind[aS,dJ,fZ,sg,jQ]
theorem wM(hm:∀k a k',sm k=.ok (a,k')->k<k'):mZ (dJ T sm):=λk a k' h=>by
 rw[dJ]at h;have⟨_,k1,h1,h2⟩:=aC h;have:=eN _ _ _ _ h1;have:=Be hm 1 _ _ _ _ _ h2;omega
def QMaker:EQ Nd:=λw P nd c=>∃(s:BA)(n:Nat)(L:List Nd)(f t a y:Nat)(v:Value),nd=.mk 2 s n L f t a/\c 0=Nv f/\c 1=Nv t/\c 2=Nv a/\c 3=Nv y/\c 4=.string s/\c 5=v/\oA s/\y=a+s.size/\RowV (Q1 PT) 1 w P L v
def cu:gq QMaker:=λ_ _ _ _ _ _ h h1 h2 h3=>by
 obtain⟨s,n,L,f,t,a,y,v,e0,e1,e2,e3,e4,e5,e6,e7,e8,e9⟩:=h;exact⟨s,n,L,f,t,a,y,v,e0,e1,e2,e3,e4,e5,e6,e7,e8,e9.move aai h1 h2 h3⟩
def Ik w P nd(v:Value):=∃c:Nat->Value,v=.agg #[c 0,c 1,c 2,c 3,c 4,c 5]/\QMaker w P nd c
section
variable {m:MV}
def Mg{k k'}{t}(h:dl (ja s 0) 2 k=.ok (t,k'))(hk:k<(ja s 0).length):oA t.text/\t.to=t.aF+t.text.size:=by
 rw[dl]at h;split at h
 .rename_i hq
  cases h
  exact⟨(eC s k hk).v2<|by simpa using hq,(pD s k hk).sp⟩
 .cases h
theorem Bx.akE{w}{C}(h:Bx w b C)(hC:C.size=6)v0 v1 v2 v3 v4 v5:Bx ((((((w.setCell ⟨b,0,none⟩ v0).setCell ⟨b,1,none⟩ v1).setCell ⟨b,2,none⟩ v2).setCell ⟨b,3,none⟩ v3).setCell ⟨b,4,none⟩ v4).setCell ⟨b,5,none⟩ v5) b #[v0,v1,v2,v3,v4,v5]:=by
 obtain⟨a0,a1,a2,a3,a4,a5,rfl⟩:∃a0 a1 a2 a3 a4 a5,C=#[a0,a1,a2,a3,a4,a5]:=by
  obtain⟨l⟩:=C
  match l,hC with
  |[a,b,c,d,e,f],_=>grind
 exact(((((h.aT 0 v0 #[v0,a1,a2,a3,a4,a5] rfl ag).aT 1 v1 #[v0,v1,a2,a3,a4,a5] rfl ag).aT 2 v2 #[v0,v1,v2,a3,a4,a5] rfl ag).aT 3 v3 #[v0,v1,v2,v3,a4,a5] rfl ag).aT 4 v4 #[v0,v1,v2,v3,v4,a5] rfl ag).aT 5 v5 #[v0,v1,v2,v3,v4,v5] rfl ag
def RowV.u_{Q}{sz}{L:List α}(h:RowV Q sz w P L v)(hQ:gq Q)(hb:∀c,P c->c≠b)(j:Nat)(u:Value):RowV Q sz (w.setCell ⟨b,j,none⟩ u) P L v:=h.move hQ zJ (λc p _=>Below.heap_setCell _ _ _ _<|hb c p)<|λ_ p _=>p
def TU(hs:s.size<=1000)(hT:(ja s 0).length<=1001)(h:SX w N rb sb m s k)(hn:(ja s 0).length<=k+1+n):Cq 170 #[rp rb] w (ap Ik N rb sb m s (dJ (ja s 0) (Ea s n) k) w):=by
 have o:w.heap.size≠rb:=by have:=h.z;omega
 have ams:=h.lt;refine cG.AK h rfl λH=>?_;go_enter func170,ntmps170;go_wp2_with fail;refine H.own.call (vU H.own.sx hs 2 J9<|Or.inr ⟨rfl,rfl⟩) ?_ (st:=λ_ k h=>jQ _ _ _ _ k h);intro t k1 v w1 H q V
 cases V
 have Ht:=ai<|Mg q ams
 cases eN _ _ _ _ q
 clear q;have H:=H.box (D:=#[Nv t.aF,Nv t.to,Sv t.text]) (t:=121);have⟨c1,f1,y1⟩:=H.sx.bx;go_wp2_with fail;clear c1 f1 y1;refine(H.re<|GF (dn (ja s 0) (Ea s n) 1 (ja s 0).length<|.mk 2 t.text 0 [] t.aF (aR (ja s 0)<|k+1) t.aF)<|k+1).call (aak (R:=PT) hT (.inl ⟨rfl,rfl,rfl⟩) PT.iface (λ_ _ _ _ _ _ h a b c=>h.move a b c) (cE (dc (T:=(ja s 0)) n) (dc n) 1) (λw k' S l=>ajP hs (aao hs hT n) S ae) H.sx t.text t.aF (aR (ja s 0)<|k+1) t.aF) ?_ (mv:=Kr λ_ _ _ _ _ _ h a b c=>h.move a b c);intro a k2 v w3 H q V;have⟨L',hL'⟩:=sq _ _ _ _ _ q;subst hL';obtain⟨va,L,vc,rfl⟩:=V.sl;clear V q;have⟨⟨_,d3,g3,x3⟩,_⟩:=H.p;have⟨c3,f3,y3⟩:=H.bo o
 go_wp2
 go_region_with(go_at_call 78;refine H.drew.since ?_;intro w4 H;have⟨⟨_,d4,g4,x4⟩,_⟩:=H.p;have⟨c4,f4,y4⟩:=H.bo o)
 all_goals(
  go_wp2_with fail;have⟨cF,fF,zF⟩:=(H.bo o).akE rfl (Nv t.aF) (.int .i64 ((aR (ja s 0) k2:Nat):Int)) (Nv t.aF) (Nv t.to) (Sv t.text) (Lv va L vc);refine bodyPost_ret (v:=Av #[Nv t.aF,.int .i64 ((aR (ja s 0) k2:Nat):Int),Nv t.aF,Nv t.to,Sv t.text,Lv va L vc]) (by simp[results,Tryz.results170,go_sem,cF]) rfl ((H.put o ⟨cF,fF,zF⟩<|cO<|cO<|cO<|cO<|cO<|cO ⟨rfl,rfl,rfl,rfl,λ_ _=>rfl⟩).done ?_);rintro⟨_,L1,fr,tz,at_,e,R⟩;injection e with _ _ _ e3 e4 e5 e6;subst e3 e4 e5 e6
  exact⟨λj=>([Nv t.aF,.int .i64 ((aR (ja s 0) k2:Nat):Int),Nv t.aF,Nv t.to,Sv t.text,Lv va L vc]:List Value).getD j Zv,rfl,_,_,_,_,_,_,_,_,rfl,rfl,rfl,rfl,rfl,rfl,rfl,Ht.1,Ht.2,R⟩)
end
def Ww:(Tryz.prog.info? 247).map (λi=>(i.zero,i.size,i.bytes))=some (some<|.agg #[Iv 0,Iv 0,Iv 0,Iv 0,.string ⟨#[]⟩,.slice none 0 0],6,72):=qkr
def Mh:Tryz.prog.underlying 123=some (.slice 247):=qkr
def Ik.open(h:Ik w P nd v):∃(s:BA)(n:Nat)(L:List Nd)(f t a y:Nat)(va:Option Addr)(vc:Nat),nd=.mk 2 s n L f t a/\v=.agg #[Nv f,Nv t,Nv a,Nv y,.string s,.slice va L.length vc]/\oA s/\y=a+s.size/\RowV (Q1 PT) 1 w P L (.slice va L.length vc):=by
 obtain⟨c,rfl,s,n,L,f,t,a,y,v,e0,e1,e2,e3,e4,e5,e6,e7,e8,e9⟩:=h;have e9':=e9;obtain⟨va,vc,cs,rfl,_,_⟩:=e9;exact⟨s,n,L,f,t,a,y,va,vc,e0,by rw[e1,e2,e3,e4,e5,e6],e7,e8,e9'⟩
def EB:Mov Ik:=λ_ _ _ _ _ _⟨c,h1,h2⟩p q r=>⟨c,h1,cu _ _ _ _ _ _ h2 p q r⟩
def aey w P l v:=l≠[]/\RowV QMaker 6 w P l v
section
variable {m:MV}
def Dd(hs:s.size<=1000)(hT:(ja s 0).length<=1001)(h:SX w N rb sb m s k)(hn:(ja s 0).length<=k+1+n):
 Cq 169 #[rp rb,pA 170 rb] w (ap aey N rb sb m s (eP (ja s 0) (dJ (ja s 0)<|Ea s n) (ja s 0).length [] k) w):=by
 have hcA:∀args w,(callFunc 170 args).run Tryz.prog w=.ok (.enter 170 args) w:=λ_ _=>qkr;have hk:=h.lt;obtain⟨r,hr⟩:∃r,r=eP (Pu.bF s 0) (dJ (Pu.bF s 0)<|Ea s n) (Pu.bF s 0).length [] k:=⟨_,rfl⟩;rw[<-hr];obtain⟨L,hL⟩:∃L,(Pu.bF s 0).length=L+1:=⟨(Pu.bF s 0).length-1,ae⟩;refine cG.AK h (by rw[hr,hL];exact qN _ _ _ _ _) λH=>?_;have HL:=ai hL;clear hr hL;go_enter func169,ntmps169;go_wp2_with fail;refine H.call (TU (n:=n) hs hT h hn) ?_ (st:=λa=>jT _ _ _ _) (mv:=EB);intro a k1 v1 w1 H q V;have l1:=wM (T:=(Pu.bF s 0)) (cE (dc n) (dc n) 1) _ _ _ q;obtain⟨s',n',L',f',t',a',y',oR,oU,rfl,rfl,hu,hy,hV⟩:=V.open;have H:=(H.af<|bw _).row cu (dh.one (sz:=6) (et:=247) (lo:=w.heap.size) (c:=λj=>([Nv f',Nv t',Nv a',Nv y',Sv s',Lv oR L'.length oU]:List Value).getD j Zv) cu ⟨s',n',L',f',t',a',y',_,rfl,rfl,rfl,rfl,rfl,rfl,rfl,hu,hy,hV⟩ (br _) H.ke.size aw #[Nv f',Nv t',Nv a',Nv y',Sv s',Lv oR L'.length oU] rfl rfl) ⟨br _,.inl rfl⟩;clear hu hy hV V q
 go_wp2
 go_loopg[5] ((ja s 0).length-k1) (λgk v wr=>GD (·≠[]) QMaker 247 6 N rb sb m s (k+1) w r (λf A _=>nT (ja s 0) (dJ (ja s 0)<|Ea s n) (eP (ja s 0) (dJ (ja s 0)<|Ea s n) f) A) gk v wr)
 case atStart=>exact⟨k1,[Nd.mk 2 s' n' L' f' t' a'],L,_,1,0,rfl,ag,H,ai rfl,l1,bD,by have:=uh HL;omega⟩
 case round=>
  clear H HL;obtain⟨kr,A,f,va,vc,_,rfl,hA,H,cV,hle,hAl,hfu⟩:=hrel;have zw:=H.ke.size;have hrw:=H.p.block;have hkr:=H.sx.lt
  cases hb:aX (tk (ja s 0) kr) Vw
  .have H:=H.re (g':=λk=>.ok (A,k)) (by dsimp only[nT];rw[hb];rfl);go_wp2_with fail;refine H.GB hb ?_
   go_wp2
   go_ret;exact H.done λR=>⟨hA,R.v cu⟩
  .obtain⟨f,rfl⟩:∃f',f=f'+1:=⟨f-1,ae⟩;have H:=H.re (g':=aV rE λ_=>aV (dJ (ja s 0)<|Ea s n) λa=>nT (ja s 0) (dJ (ja s 0)<|Ea s n) (eP (ja s 0) (dJ (ja s 0)<|Ea s n) f)<|A++[a]) (by dsimp only[nT];rw[if_pos hb,qN];rfl);go_wp2_with fail;refine H.C8 hb ?_ (st:=λ_=>fZ (yd _ _) λa=>jT _ _ _ _);intro w2 H;go_wp2_with fail;have z2:=H.ke.size;have hrw:=H.p.block;refine H.call (TU (n:=n) hs hT H.sx ae) ?_ (st:=λa=>jT _ _ _ _) (mv:=EB);intro a k2 v1 w1 H q V;have l2:=wM (T:=(ja s 0)) (cE (dc n) (dc n) 1) _ _ _ q;obtain⟨s',n',L',f',t',a',y',oR,oU,rfl,rfl,hu,hy,hV⟩:=V.open
   replace hy:=ai hy
   go_wp2_with(at_builtin;go_must(refine H.append (a:=.mk 2 s' n' L' f' t' a') (D:=[Nv f',Nv t',Nv a',Nv y',Sv s',Lv oR L'.length oU]) hT cu Ww Mh H.p.1 z2 (λb e=>(hrw b e).2) (c:=λj=>([Nv f',Nv t',Nv a',Nv y',Sv s',Lv oR L'.length oU]:List Value).getD j Zv) ⟨s',n',L',f',t',a',y',_,rfl,rfl,rfl,rfl,rfl,rfl,rfl,hu,hy,hV⟩ ae ?_;intro q3 c3 w3 H));go_roundg((ja s 0).length-k2)
   case measure=>rw[uh cV];omega
   case rel=>exact⟨k2,A++[Nd.mk 2 s' n' L' f' t' a'],f,_,c3,0,ag,ag,H,ai rfl,ae,bD,ae⟩
end
end
def Nn(s:BA):=∃x r,s.toList=x::r/\jd x.toNat=true/\(∀y∈r,jc y.toNat=true)/\jh ⟨(x::r).toArray⟩=false
def NmV(s:BA):=∃x r,s.toList=39::x::r/\jd x.toNat=true/\(∀y∈r,jc y.toNat=true)/\jh ⟨(x::r).toArray⟩=false
inductive Ty3:Nd->Prop where
 |var(s:BA)(n f t a:Nat):NmV s->s.size<=400->n=0->Ty3 (.mk 16 s n [] f t a)
 |up(s:BA)(n:Nat)(L:List Nd)(f t a:Nat):CQ s->s.size<=400->n=0->(∀x∈L,Ty3 x)->Ty3 (.mk 2 s n L f t a)
 |pr(x y:Nd)(f t a:Nat):Ty3 x->Ty3 y->Ty3 (.mk 6 jY 0 [x,y] f t a)
 |fn(x y:Nd)(f t a:Nat):Ty3 x->Ty3 y->Ty3 (.mk 17 jY 0 [x,y] f t a)
inductive Pa3:Nd->Prop where
 |any(s:BA)(f t a:Nat):s.size<=400->Pa3 (.mk 15 s 0 [] f t a)
 |low(s:BA)(f t a:Nat):Nn s->s.size<=400->Pa3 (.mk 1 s 0 [] f t a)
 |num(s:BA)(n f t a:Nat):n<1000000000->s.size<=400->Pa3 (.mk 3 s n [] f t a)
 |word(s:BA)(f t a:Nat):s.toList=iN.toList\/s.toList=eF.toList->s.size<=400->Pa3 (.mk 4 s 0 [] f t a)
 |unit(f t a:Nat):Pa3 (.mk 5 jY 0 [] f t a)
 |pr(x y:Nd)(f t a:Nat):Pa3 x->Pa3 y->Pa3 (.mk 6 jY 0 [x,y] f t a)
 |up(s:BA)(n:Nat)(L:List Nd)(f t a:Nat):CQ s->s.size<=400->n=0->(∀x∈L,Pa3 x)->Pa3 (.mk 2 s n L f t a)
inductive qZ:Nd->Prop where
 |low(s:BA)(f t a:Nat):Nn s->s.size<=400->qZ (.mk 1 s 0 [] f t a)
 |up(s:BA)(f t a:Nat):CQ s->s.size<=400->qZ (.mk 2 s 0 [] f t a)
 |num(s:BA)(n f t a:Nat):n<1000000000->s.size<=400->qZ (.mk 3 s n [] f t a)
 |word(s:BA)(f t a:Nat):s.toList=iN.toList\/s.toList=eF.toList->s.size<=400->qZ (.mk 4 s 0 [] f t a)
 |unit(f t a:Nat):qZ (.mk 5 jY 0 [] f t a)
 |pr(x y:Nd)(f t a:Nat):qZ x->qZ y->qZ (.mk 6 jY 0 [x,y] f t a)
 |of(x y:Nd)(f t a:Nat):qZ x->Ty3 y->qZ (.mk 14 jY 0 [x,y] f t a)
 |op(s:BA)(x y:Nd)(f t a:Nat):s=lB\/s=gp\/s=jB\/s=iC->qZ x->qZ y->qZ (.mk 7 s 0 [x,y] f t a)
 |call(x y:Nd)(f t a:Nat):qZ x->qZ y->qZ (.mk 8 jY 0 [x,y] f t a)
 |fn(s:BA)(x:Nd)(f t a:Nat):Nn s->s.size<=400->qZ x->qZ (.mk 9 s 0 [x] f t a)
 |lt(s:BA)(x z:Nd)(f t a:Nat):Nn s->s.size<=400->qZ x->qZ z->qZ (.mk 10 s 0 [x,z] f t a)
 |ltr(s s':BA)(x z:Nd)(f t a f' t' a':Nat):Nn s->s.size<=400->Nn s'->s'.size<=400->qZ x->qZ z->qZ (.mk 11 s 0 [.mk 9 s' 0 [x] f' t' a',z] f t a)
 |ite(x y z:Nd)(f t a:Nat):qZ x->qZ y->qZ z->qZ (.mk 12 jY 0 [x,y,z] f t a)
 |mt(x:Nd)(A:List (Nd×Nd))(f t a:Nat):A≠[]->qZ x->(∀p∈A,Pa3 p.1)->(∀p∈A,qZ p.2)->qZ (.mk 13 jY 0 (x::bq A) f t a)
def Fn3(nd:Nd):=∃s x f t a,nd=.mk 9 s 0 [x] f t a/\Nn s/\s.size<=400/\qZ x
section
variable {e:Nat}
def Up3(P:Nd->Prop)(nd:Nd):=∃s L f t a,nd=.mk 2 s 0 L f t a/\CQ s/\s.size<=400/\∀x∈L,P x
end
section
open Un
def D3:Dc->Prop
 |.ty t vs ms=>CQ t.text/\t.text.size<=400/\(∀v∈vs,NmV v.text/\v.text.size<=400)/\ms≠[]/\∀m∈ms,Up3 Ty3 m|.lt r t b=>Nn t.text/\t.text.size<=400/\qZ b/\(r=true->Fn3 b)
end
def TX:∀l m,dz (l++m)=dz l++dz m
 |[],m=>rfl|x::l,m=>by simp[dz,TX l m]
abbrev Bv:Ky:=(5,[116,114,117,101])
abbrev aic:Ky:=(5,[95])
abbrev yEq:Ky:=(5,[61])
abbrev Ou:Ky:=(5,[124])
abbrev xI:Ky:=(5,[59])
abbrev akF:Ky:=(5,[102,117,110])
abbrev CL:Ky:=(5,[108,101,116])
abbrev yIn:Ky:=(5,[105,110])
abbrev yIf:Ky:=(5,[105,102])
abbrev T7:Ky:=(5,[116,104,101,110])
abbrev T8:Ky:=(5,[101,108,115,101])
abbrev ab3:Ky:=(5,[109,97,116,99,104])
abbrev ab4:Ky:=(5,[119,105,116,104])
abbrev Wx:Ky:=(5,[101,110,100])
abbrev DS:Ky:=(5,[116,121,112,101])
def aez[BEq α][LawfulBEq α][DecidableEq α](a b:α):(a==b)=decide (a=b):=by by_cases h:a=b<;>simp[h]
def ab5{t:jf}{l:List UInt8}:aX t ⟨l.toArray⟩=decide (eJ t=(5,l)):=by
 rw[eO,aez]
def yN(s:BA):(⟨s.toList.toArray⟩:BA)=s:=toList_inj<|toList_mk _
abbrev PL(x:Ky)(f g:Nat):jf:=⟨x.1,⟨x.2.toArray⟩,f,g⟩
def jU(t:jf):t=PL (eJ t) t.aF t.to:=by simp[eJ,PL,yN]
abbrev Ox:Ky:=(5,[58])
def stops:List Ky:=[eA,GI,yIn,T7,T8,ab4,Ou,Wx,xI,Ox]
def En(T:List jf)(k:Nat):Prop:=eJ (tk T k)∈stops
def aid(h:x∈stops)(f g:Nat):aK (PL x f g) 3=false/\aX (PL x f g) jB=false/\(aX (PL x f g) lB||aX (PL x f g) gp)=false/\aX (PL x f g) iC=false:=by
 simp only[stops,jv,jt,or_false]at h;obtain rfl|rfl|rfl|rfl|rfl|rfl|rfl|rfl|rfl|rfl:=h<;>exact⟨qkr,qkr,qkr,qkr⟩
def En.no(h:En T k):aK (tk T k) 3=false/\aX (tk T k) jB=false/\(aX (tk T k) lB||aX (tk T k) gp)=false/\aX (tk T k) iC=false:=by
 rw[jU<|tk T k];exact aid h _ _
def Mi(t:jf):Bool:=aK t 3&& !aX t OD&& !aX t kIf&& !aX t vS&& !aX t vR
def Bg(p:List Ky):=∃x r,p=x::r/\∀f g,Mi (PL x f g)=true
def HdK(p:List Ky):=∃x r,p=x::r/\x≠eA
def Bg.len(h:Bg p):1<=p.length:=by obtain⟨x,r,rfl,_⟩:=h;simp
def Bg.ol{p:List Ky}(h:Bg p)(q:List Ky):Bg (p++q):=by obtain⟨x,r,rfl,h⟩:=h;exact⟨x,r++q,rfl,h⟩
def Bg.at(h:Bg p)(hs:gy T k p):Mi (tk T k)=true:=by
 obtain⟨x,r,rfl,h⟩:=h;rw[jU<|tk T k,hs.hd];exact h _ _
def Bg.hd(h:Bg p):HdK p:=by obtain⟨x,r,rfl,h⟩:=h;exact⟨x,r,rfl,by rintro rfl;exact Bool.noConfusion<|(by kernel_rfl:false=Mi (PL eA 0 0)).trans<|h 0 0⟩
section
variable (T:List jf) (n:Nat)
abbrev sm3:M Nd:=aH T (bt T n) (da T n) 3
abbrev sm2:M Nd:=aH T (dv T n) (lZ T) 2
end
def RdT(m:M Nd)(k:Nat)(p:List Ky)(t:Nd):=∃nd,es nd=t/\m k=.ok (nd,k+p.length)
def ie(v:Nat)(p:List Ky)(t:Nd):Prop:=match v with
 |5=>Bg p/\∀T k n,gy T k p->p.length<=n+1->p.length<=T.length+1->RdT (sm3 T n) k p t|4=>Bg p/\∀T k n f,gy T k p->p.length<=n+1->p.length<=T.length+1->p.length<=f+1->∃nd f',es nd=t/\f+1<=f'+p.length/\aV (sm3 T n) (jF T (sm3 T n) (tk T k).aF f) k=jF T (sm3 T n) (tk T k).aF f' nd (k+p.length)|_=>HdK p/\∀T k n,gy T k p->p.length<=n->p.length<=T.length+1->En T (k+p.length)->RdT (bt T n) k p t
def ie.d54(h:ie 5 p t):ie 4 p t:=⟨h.1,λT k n f hs hn hT hf=>by
 have⟨nd,e,hr⟩:=h.2 T k n hs hn hT
 exact⟨nd,f,e,by have:=h.1.len;omega,by rw[aV];rw[hr]⟩⟩
def PO{x:Nd}(h:En T k):jF T sm fr f x k=.ok (x,k):=by
 cases f with
 |zero=>rfl|succ f=>unfold jF;rw[h.no.1];rfl
def PQ{x:Nd}(h:En T k):mL T sm fr f x k=.ok (x,k):=by
 cases f with
 |zero=>rfl|succ f=>unfold mL;rw[h.no.2.1];rfl
def Wy{x:Nd}(h:En T k):vW T sm fr f x k=.ok (x,k):=by
 cases f with
 |zero=>rfl|succ f=>unfold vW;rw[if_neg (by have:=h.no.2.2.1;simp_all)]
def ie.d40(h:ie 4 p t):ie 0 p t:=⟨h.1.hd,λT k n hs hn hT he=>by
 have h1:=h.1.len;obtain⟨m,rfl⟩:∃m,n=m+1:=⟨n-1,ae⟩;have hc:=h.1.at hs;simp only[Mi,jm,Bool.not_eq_true']at hc;have⟨nd,f',e,_,hr⟩:=h.2 T k m T.length hs hn hT hT;refine⟨nd,e,?_⟩;unfold bt;rw[hc.1.1.1.2,hc.1.1.2,hc.1.2,hc.2];show uv T (ur T<|fe T<|db T<|sm3 T m) k=_;have c1:db T (sm3 T m) k=.ok (nd,k+p.length):=by unfold db;rw[hr,PO he]
 have c2:fe T (db T<|sm3 T m) k=.ok (nd,k+p.length):=by unfold fe;simp only[aV,c1,PQ he]
 have c3:ur T (fe T<|db T<|sm3 T m) k=.ok (nd,k+p.length):=by unfold ur;simp only[aV,c2,Wy he]
 unfold uv;simp only[aV,c3,he.no.2.2.2]
 rfl⟩
def ie.d50(h:ie 5 p t):ie 0 p t:=h.d54.d40
def eB(x:Ky):Nd:=es<|cN<|PL x 0 0
def ie.leaf(h:∀f g,Mi (PL x f g)=true/\aX (PL x f g) ug=false):ie 5 [x] (eB x):=by
 refine⟨⟨x,[],rfl,λf g=>(h f g).1⟩,λT k n hs _ _=>⟨cN<|tk T k,?_,?_⟩⟩
 .rw[jU<|tk T k,hs.hd];rfl
 .have hb:Mi (tk T k)=true/\aX (tk T k) ug=false:=by rw[jU<|tk T k,hs.hd];exact h _ _
  simp only[Mi,jm]at hb;show aH T _ _ 3 k=_;rw[aH];rw[hb.1.1.1.1.1,hb.2];rfl
def dU{l:List UInt8}(h:eJ (tk T k)=(5,l)):bz T ⟨l.toArray⟩ k=.ok ((),k+1):=by
 rw[bz];rw[ab5,h,decide_eq_true rfl];rfl
def T9{l:List UInt8}(h:eJ (tk T k)=(n,l)):dl T n k=.ok (tk T k,k+1)/\(tk T k).text=⟨l.toArray⟩:=by
 have h1:(tk T k).kind=n:=congrArg Prod.fst h;refine⟨by rw[dl];rw[h1];simp,toList_inj ?_⟩;exact(congrArg Prod.snd h).trans (toList_mk l).symm
def kJ{l:List UInt8}(h:eJ (tk T k)=x)(hx:x≠(5,l)):aX (tk T k) ⟨l.toArray⟩=false:=by
 rw[ab5,h,decide_eq_false hx]
def gA{l:List UInt8}(h:eJ (tk T k)=(5,l)):aX (tk T k) ⟨l.toArray⟩=true:=by
 rw[ab5,h,decide_eq_true rfl]
def ab6(h:En T a)(e:a=b):En T b:=by rw[<-e];exact h
def kI(h:eJ (tk T k)=x)(hv:x∈stops):En T k:=by rw[En];rw[h];exact hv
def mP:Nd:=.mk 5 jY 0 [] 0 0 0
def Mk(x y:Nd):Nd:=.mk 6 jY 0 [x,y] 0 0 0
def ye(x y:Nd):Nd:=.mk 8 jY 0 [x,y] 0 0 0
def l9(s:BA)(x:Nd):Nd:=.mk 9 s 0 [x] 0 0 0
def ab7(c:Nat)(s:BA)(x y:Nd):Nd:=.mk c s 0 [x,y] 0 0 0
def tIf(x y z:Nd):Nd:=.mk 12 jY 0 [x,y,z] 0 0 0
def tMt(x:Nd)(A:List (Nd×Nd)):Nd:=.mk 13 jY 0 (x::bq A) 0 0 0
def yP(q:List Ky):Bg (jE::q):=⟨jE,q,rfl,λ_ _=>qkr⟩
def ud(h:eJ (tk T k)=jE):aK (tk T k) 3=true:=by rw[jU<|tk T k,h];kernel_rfl
section
variable {x z:Nd}
def ie.unit:ie 5 [jE,eA] mP:=by
 refine⟨yP _,λT k n hs _ _=>⟨.mk 5 jY 0 [] (tk T k).aF (aR T<|k+1+1) (tk T k).aF,rfl,?_⟩⟩;have h0:=hs.hd;have h1:=hs.tl.hd;show aH T _ _ 3 k=_;rw[aH];rw[ud h0,gA h0];rw[eQ];rw[gA h1];rfl
def ie.rL(h:ie 0 p x):ie 5 (jE::(p++[eA])) x:=by
 refine⟨yP _,λT k n hs hn hT=>?_⟩;simp only[kh,lz,qP]at hn hT;have h0:=hs.hd;have hp:=hs.tl.left;have hc:=hs.tl.right.hd;obtain⟨⟨c,r,rfl,NH⟩,hr⟩:=h;have⟨nd,e,hr⟩:=hr T (k+1) n hp ae ae<|kI hc aw;refine⟨nd,e,?_⟩;show aH T _ _ 3 k=_;rw[aH];rw[ud h0,gA h0];rw[eQ];rw[kJ hp.hd NH];simp only[aV,hr,iK,kJ hc<|show eA≠(5,[44]) by decide,kJ hc<|show eA≠(5,[58]) by decide,pu _ hc];simp[Nat.add_assoc,Nat.add_comm 1]
def ie.pair(h:ie 0 p x)(h':ie 0 q y):ie 5 (jE::(p++(GI::(q++[eA])))) (Mk x y):=by
 refine⟨yP _,λT k n hs hn hT=>?_⟩;simp only[kh,lz,qP]at hn hT;have h0:=hs.hd;have hp:=hs.tl.left;have hm:=hs.tl.right.hd;have hq:=hs.tl.right.tl.left;have hc:=hs.tl.right.tl.right.hd;obtain⟨⟨c,r,rfl,NH⟩,hr⟩:=h;have⟨nd,e,hr⟩:=hr T (k+1) n hp ae ae<|kI hm aw;have⟨yQ,e2,rh⟩:=h'.2 T _ n hq ae ae<|kI hc aw;refine⟨.mk 6 jY 0 [nd,yQ] (tk T k).aF (aR T<|k+1+(c::r).length+1+q.length+1) (tk T k).aF,by simp[es,dz,e,e2,Mk],?_⟩;show aH T _ _ 3 k=_;rw[aH];rw[ud h0,gA h0];rw[eQ];rw[kJ hp.hd NH];simp only[aV,hr,iK,gA hm,rh,pu _ hc];simp;omega
def ie.ol(h:ie 4 p x)(h':ie 5 q y):ie 4 (p++q) (ye x y):=by
 refine⟨h.1.ol q,λT k n f hs hn hT hf=>?_⟩;simp only[lz]at hn hT hf;have n2:=h'.1.len;have⟨nd,f',e,hff,hr⟩:=h.2 T k n f hs.left ae ae ae;have⟨yQ,e2,rh⟩:=h'.2 T (k+p.length) n hs.right ae ae;obtain⟨g,rfl⟩:∃g,f'=g+1:=⟨f'-1,ae⟩;refine⟨.mk 8 jY 0 [nd,yQ] (tk T k).aF (aR T<|k+p.length+q.length) (tk T k).aF,g,by simp[es,dz,e,e2,ye],bD,?_⟩;rw[hr];show(if _ then _ else _)=_;have hb:=h'.1.at hs.right;simp only[Mi,jm]at hb;rw[if_pos hb.1.1.1.1];rw[aV];rw[rh];simp[Nat.add_assoc]
def RdF(p:List Ky)(t:Nd):=∃q s x,p=akF::(1,s)::v9::q/\t=l9 ⟨s.toArray⟩ x/\ie 0 q x
def RdF.reads(h:RdF p t)(hs:gy T k p)(hn:p.length<=n+1)(hT:p.length<=T.length+1)(he:En T (k+p.length)):RdT (vX T<|bt T n) k p t:=by
 obtain⟨q,s,x,rfl,rfl,h⟩:=h;simp only[kh]at hn hT;have h0:=hs.hd;have h1:=hs.tl.hd;have h2:=hs.tl.tl.hd;have⟨nd,e,hr⟩:=h.2 T _ n hs.tl.tl.tl ae ae (ab6 he (by simp<;>omega));have⟨g1,g2⟩:=T9 h1;refine⟨.mk 9 (tk T<|k+1).text 0 [nd] (tk T k).aF (aR T<|k+1+1+1+q.length) (tk T<|k+1).aF,by rw[g2];simp[es,dz,e,l9],?_⟩;rw[vX];simp only[aV,dU h0,g1,dU h2,hr];simp;omega
def RdF.rds(h:RdF p t):ie 0 p t:=by
 have h':=h;obtain⟨q,s,x,rfl,rfl,_⟩:=h';refine⟨⟨_,_,rfl,aw⟩,λT k n hs hn hT he=>?_⟩;simp only[kh]at hn;obtain⟨m,rfl⟩:∃m,n=m+1:=⟨n-1,ae⟩;have h0:=hs.hd;have⟨nd,e,hr⟩:=h.reads (n:=m) hs bD hT he;refine⟨nd,e,?_⟩;unfold bt;rw[gA h0,if_pos rfl];exact hr
def RdB(p:List Ky)(s:List UInt8)(t:Nd):=∃q,p=CL::(1,s)::yEq::q/\ie 0 q t
def RdB.reads{s:List UInt8}(h:RdB p s t)(hs:gy T k p)(hn:p.length<=n+1)(hT:p.length<=T.length+1)(he:En T (k+p.length)):∃tok nd,es nd=t/\tok.text=⟨s.toArray⟩/\ch T (bt T n) k=.ok ((10,tok,nd),k+p.length):=by
 obtain⟨q,rfl,h⟩:=h;simp only[kh]at hn hT;have h0:=hs.hd;have h1:=hs.tl.hd;have h2:=hs.tl.tl.hd;have⟨nd,e,hr⟩:=h.2 T _ n hs.tl.tl.tl ae ae (ab6 he (by simp<;>omega));have⟨g1,g2⟩:=T9 h1;refine⟨tk T<|k+1,nd,e,g2,?_⟩;rw[ch];simp only[aV,dU h0,kJ h1<|show((1,s):Ky)≠(5,[114,101,99]) by simp,g1,dU h2,hr];simp;omega
def ie.lt{s:List UInt8}(h:RdB p s x)(h':ie 0 q y):ie 0 (p++(yIn::q)) (ab7 10 ⟨s.toArray⟩ x y):=by
 have hh:=h;obtain⟨r,rfl,-⟩:=hh;refine⟨⟨CL,_,rfl,aw⟩,λT k n hs hn hT he=>?_⟩;simp only[lz,kh]at hn hT;obtain⟨m,rfl⟩:∃m,n=m+1:=⟨n-1,ae⟩;have hm:=hs.right.hd;have⟨tok,nd,e,g,hr⟩:=h.reads (n:=m) hs.left bD bD<|kI hm aw;have⟨yQ,e2,rh⟩:=h'.2 T _ m hs.right.tl ae ae (ab6 he (by simp<;>omega));have h0:eJ (tk T k)=CL:=hs.left.hd;refine⟨.mk 10 tok.text 0 [nd,yQ] (tk T k).aF (aR T<|k+(CL::(1,s)::yEq::r).length+1+q.length) tok.aF,by rw[g];simp[es,dz,e,e2,ab7],?_⟩;unfold bt;rw[kJ h0 aw,kJ h0 aw,kJ h0 aw,gA h0];show qR T (bt T m) k=_;unfold qR;simp only[aV,hr,dU hm,rh];simp;omega
def ie.ite{r:List Ky}(h:ie 0 p x)(h':ie 0 q y)(h'':ie 0 r z):ie 0 (yIf::(p++(T7::(q++(T8::r))))) (tIf x y z):=by
 refine⟨⟨_,_,rfl,aw⟩,λT k n hs hn hT he=>?_⟩;simp only[lz,kh]at hn hT;obtain⟨m,rfl⟩:∃m,n=m+1:=⟨n-1,ae⟩;have h0:=hs.hd;have hp:=hs.tl.left;have h1:=hs.tl.right.hd;have hq:=hs.tl.right.tl.left;have h2:=hs.tl.right.tl.right.hd;have hr':=hs.tl.right.tl.right.tl;have⟨nd,e,hr⟩:=h.2 T _ m hp ae ae<|kI h1 aw;have⟨yQ,e2,rh⟩:=h'.2 T _ m hq ae ae<|kI h2 aw
 have⟨Nc,e3,hr3⟩:=h''.2 T _ m hr' ae ae (by
  have:k+1+p.length+1+q.length+1+r.length=k+(yIf::(p++(T7::(q++(T8::r))))).length:=bD
  rw[this];exact he)
 refine⟨.mk 12 jY 0 [nd,yQ,Nc] (tk T k).aF (aR T<|k+1+p.length+1+q.length+1+r.length) (tk T k).aF,by simp[es,dz,e,e2,e3,tIf],?_⟩;unfold bt;rw[kJ h0 aw,gA h0];show qL T (bt T m) k=_;unfold qL;simp only[aV,dU h0,hr,dU h1,rh,dU h2,hr3];simp;omega
def tUp(s:BA)(L:List Nd):Nd:=.mk 2 s 0 L 0 0 0
def IF(v:Nat)(p:List Ky)(t:Nd):Prop:=match v with
 |5=>(∃x r,p=x::r/\∀f g,aK (PL x f g) 2=true)/\∀T k n,gy T k p->p.length<=n+1->p.length<=T.length+1->RdT (sm2 T n) k p t|_=>(∃s r,p=(2,s)::r)/\∀T k n f,gy T k p->p.length<=n+1->p.length<=T.length+1->p.length<=f+1->∃nd f',es nd=t/\f+1<=f'+p.length/\aV (sm2 T n) (dn T (sm2 T n) 2 f) k=dn T (sm2 T n) 2 f' nd (k+p.length)
def IF.uw(h:IF 4 p x)(hs:gy T k p)(hn:p.length<=n)(hT:p.length<=T.length+1)(he:eJ (tk T<|k+p.length)=v9):RdT (dv T n) k p x:=by
 obtain⟨⟨s,r,rfl⟩,h⟩:=h;obtain⟨m,rfl⟩:∃m,n=m+1:=⟨n-1,by simp at hn;omega⟩;have⟨nd,f',e,_,hr⟩:=h T k m T.length hs hn hT hT;refine⟨nd,e,?_⟩;rw[dv,iM];have hk:(tk T k).kind=2:=congrArg Prod.fst hs.hd;rw[hk];show aV (sm2 T m) (dn T (sm2 T m) 2 T.length) k=_;rw[hr];have hb:aK (tk T<|k+((2,s)::r).length) 2=false:=by rw[jU<|tk T _,he];kernel_rfl
 cases f' with
 |zero=>rfl|succ f=>unfold dn;rw[hb];rfl
def IF.leaf{x:Ky}(h:∀f g,aK (PL x f g) 2=true/\aX (PL x f g) ug=false):IF 5 [x] (eB x):=by
 refine⟨⟨x,[],rfl,λf g=>(h f g).1⟩,λT k n hs _ _=>⟨cN<|tk T k,?_,?_⟩⟩
 .rw[jU<|tk T k,hs.hd];rfl
 .have hb:aK (tk T k) 2=true/\aX (tk T k) ug=false:=by rw[jU<|tk T k,hs.hd];exact h _ _
  show aH T _ _ 2 k=_;rw[aH];rw[hb.1,hb.2];rfl
def IF.up(s:List UInt8):IF 4 [(2,s)] (tUp ⟨s.toArray⟩ []):=by
 refine⟨⟨s,[],rfl⟩,λT k n f hs hn hT hf=>?_⟩;have⟨nd,e,hr⟩:=(IF.leaf (x:=(2,s)) λ_ _=>⟨qkr,qkr⟩).2 T k n hs hn hT;exact⟨nd,f,e,ag,by rw[aV];rw[hr]⟩
def aie(a b:Nd)(u:Nat)(s:BA)(L:List Nd)(h:es a=tUp s L):es (a.add b u)=tUp s (L++[es b]):=by
 obtain⟨k,s',n,L',f,t,a⟩:=a;simp only[es,tUp,Nd.mk.injEq]at h;obtain⟨rfl,h1,_,rfl,_⟩:=h;simp at h1;subst h1;simp[Nd.add,es,TX,dz,tUp]
def IF.arg{s:BA}{L:List Nd}(h:IF 4 p (tUp s L))(h':IF 5 q y):IF 4 (p++q) (tUp s<|L++[y]):=by
 obtain⟨⟨s0,r,rfl⟩,h⟩:=h;refine⟨⟨s0,r++q,rfl⟩,λT k n f hs hn hT hf=>?_⟩;simp only[lz]at hn hT hf;obtain⟨⟨y0,r0,rfl,bP⟩,h'⟩:=h';have n2:1<=(y0::r0).length:=ag;have⟨nd,f',e,hff,hr⟩:=h T k n f hs.left ae ae ae;have⟨yQ,e2,rh⟩:=h' T _ n hs.right ae ae;obtain⟨g,rfl⟩:∃g,f'=g+1:=⟨f'-1,ae⟩;refine⟨nd.add yQ<|aR T<|k+((2,s0)::r).length+(y0::r0).length,g,by rw[aie _ _ _ s L e,e2],by simp only[lz];omega,?_⟩;rw[hr];show(if _ then _ else _)=_;rw[if_pos (by rw[jU<|tk T _,hs.right.hd];exact bP _ _)];rw[aV];rw[rh,lz,<-Nat.add_assoc]
inductive RdA:List Ky->List (Nd×Nd)->Prop where
 |one{p r:List Ky}{x y:Nd}:IF 4 p x->ie 0 r y->RdA (p++(v9::r)) [(x,y)]
 |cons{p r q:List Ky}{x y:Nd}{A:List (Nd×Nd)}:IF 4 p x->ie 0 r y->RdA q A->RdA (p++(v9::(r++(Ou::q)))) ((x,y)::A)
def esA(A:List (Nd×Nd)):List (Nd×Nd):=A.map λp=>(es p.1,es p.2)
def T_:∀A,dz (bq A)=bq (esA A)
 |[]=>rfl|p::A=>by simp[bq,dz,esA];exact T_ A
def RdA.reads{A:List (Nd×Nd)}(h:RdA q A):∀(T:List jf)(k n f:Nat)(l:List Nd),gy T k q->q.length<=n->q.length<=T.length+1->q.length<=f->eJ (tk T<|k+q.length)=Wx->∃B,esA B=A/\oa T (dv T n) (bt T n) f l k=.ok (l++bq B,k+q.length):=by
 induction h with
 | @one p r x y hp hr=>
   intro T k n f l hs hn hT hf he;simp only[lz,kh]at hn hT hf he;have hm:=hs.right.hd;obtain⟨f,rfl⟩:∃g,f=g+1:=⟨f-1,ae⟩;have⟨nd,e,h1⟩:=hp.uw (n:=n) hs.left ae ae hm;have⟨yQ,e2,h2⟩:=hr.2 T _ n hs.right.tl ae ae (kI (x:=Wx) (by rw[<-he];congr 2;omega) aw);refine⟨[(nd,yQ)],by simp[esA,e,e2],?_⟩;have hb:aX (tk T<|k+p.length+1+r.length) Vw=false:=kJ (by rw[<-he];congr 2;omega) (show Wx≠(5,[124]) by decide);rw[oa];simp only[aV,h1,dU hm,h2,hb];simp[bq];omega
 | @cons p r q x y A hp hr hA ih=>
   intro T k n f l hs hn hT hf he;simp only[lz,kh]at hn hT hf he;have hm:=hs.right.hd;have hr':=hs.right.tl.left;have hb:=hs.right.tl.right.hd;have hq:=hs.right.tl.right.tl;obtain⟨f,rfl⟩:∃g,f=g+1:=⟨f-1,ae⟩;have⟨nd,e,h1⟩:=hp.uw (n:=n) hs.left ae ae hm;have⟨yQ,e2,h2⟩:=hr.2 T _ n hr' ae ae<|kI hb aw;have⟨B,e3,h3⟩:=ih T _ n f (l++[nd,yQ]) hq ae ae ae (by rw[<-he];congr 2;omega);refine⟨(nd,yQ)::B,by simp[esA,e,e2];exact e3,?_⟩;rw[oa];simp only[aV,h1,dU hm,h2,gA hb,h3];simp[bq];omega
def ie.mt{A:List (Nd×Nd)}(h:ie 0 p x)(h':RdA q A):ie 0 (ab3::(p++(ab4::(q++[Wx])))) (tMt x A):=by
 refine⟨⟨_,_,rfl,aw⟩,λT k n hs hn hT he=>?_⟩;simp only[lz,kh,qP]at hn hT;obtain⟨m,rfl⟩:∃m,n=m+1:=⟨n-1,ae⟩;have h0:=hs.hd;have hp:=hs.tl.left;have h1:=hs.tl.right.hd;have hq:=hs.tl.right.tl.left;have h2:=hs.tl.right.tl.right.hd;have⟨nd,e,hr⟩:=h.2 T _ m hp ae ae<|kI h1 aw;have⟨B,e2,rh⟩:=h'.reads T _ m T.length [nd] hq ae ae ae h2;refine⟨.mk 13 jY 0 (nd::bq B) (tk T k).aF (aR T<|k+1+p.length+1+q.length+1) (tk T k).aF,by simp[es,dz,e,T_,e2,tMt],?_⟩;unfold bt;rw[kJ h0 aw,kJ h0 aw,gA h0];show v8 T (dv T m) (bt T m) k=_;unfold v8;simp only[aV,dU h0,hr,dU h1,rh,dU h2];simp;omega
end
section
open Un
def aif(c:UInt8)(h1:jd c.toNat=false)(h2:jj c.toNat=false)(h3:ji c.toNat=false)(h4:c.toNat≠39)(h5:c.toNat≠45)(h6:Pu.xW c.toNat=true)(h7:Pu.cP c.toNat=false):Lx false [c] [(5,[c])]:=by
 intro s i hs hi _;have⟨h0,e⟩:=hs.hd;refine nR hs hi h0 (by rw[e];exact h7) ?_;rw[jk];rw[e,h1,h2,h3,h6,if_neg ag,if_neg ag,if_neg ae,if_neg ag,if_neg ae,if_pos rfl];rfl
def ab8(x:UInt8)(r:List UInt8)(hx:jd x.toNat=true)(hr:∀y∈r,jc y.toNat=true):Lx true (x::r) [(if jh ⟨(x::r).toArray⟩=true then 5 else 1,x::r)]:=by
 intro s i hs hi hn;have⟨h0,h1⟩:=hs.hd
 have he:=hs.end_ (p:=jc) (λy hy=>by
  obtain rfl|hy:=List.mem_cons.1 hy
  .simp[jc,hx]
  .exact hr y hy) (hn rfl)
 have hx2:s.extract i (i+(x::r).length)=⟨(x::r).toArray⟩:=lK (by rw[hs.ext ae,toList_mk]);refine nR hs hi h0 ?_ ?_
 .rw[h1];simp[jd]at hx;simp[Pu.cP];omega
 .rw[jk];rw[h1,he,hx2,if_pos hx];split<;>rfl
def Nn.lx(h:Nn s):Lx true s.toList [(1,s.toList)]:=by
 obtain⟨x,r,e,h1,h2,h3⟩:=h;have:=ab8 x r h1 h2;rw[h3]at this;rw[e];simpa using this
def CQ.lx(h:CQ s):Lx true s.toList [(2,s.toList)]:=by
 obtain⟨x,r,e,h1,h2⟩:=h;rw[e];exact DX x r h1 h2
def NmV.lx(h:NmV s):Lx true s.toList [(3,s.toList)]:=by
 obtain⟨x,r,e,h1,h2,h3⟩:=h;rw[e];exact aa1 x r h1 h2 h3
def aeA(x:UInt8)(r:List UInt8)(hx:jd x.toNat=true)(hr:∀y∈r,jc y.toNat=true)(hw:jh ⟨(x::r).toArray⟩=true):Lx true (x::r) [(5,x::r)]:=by
 have:=ab8 x r hx hr;rw[hw]at this;simpa using this
def ab9(x:UInt8)(r:List UInt8)(hx:ji x.toNat=true)(hr:∀y∈r,ji y.toNat=true)(hl:r.length<=8):Lx true (x::r) [(4,x::r)]:=by
 intro s i hs hi hn;have⟨h0,h1⟩:=hs.hd;have hq:ji (Pu.at_ s<|i+1+r.length)=false:=by
  have:=hn rfl;simp only[kh]at this;rw[show i+(r.length+1)=i+1+r.length by omega]at this;rw[jc]at this;simp at this;exact this.2
 have he:=hs.tl.end_ (p:=ji) hr hq;have hd:48<=x.toNat/\x.toNat<=57:=by simpa[ji]using hx
 refine nR hs hi h0 ?_ ?_
 .rw[h1];simp[Pu.cP];omega
 .rw[jk];rw[h1,he,if_neg (by simp[jd];omega),if_neg (by simp[jj];omega),if_neg ae,if_pos hx,if_pos ae];simp[Nat.add_assoc,Nat.add_comm 1]
def Lx.pre{l:List UInt8}{b:Bool}(h:Lx false F K)(h':Lx b l p):Lx b (F++l) (K++p):=h.ol h' (λe=>by cases e)
def Lx.Ng{l m:List UInt8}{b:Bool}{x:UInt8}(h:Lx true l p)(hF:Lx false F K)(e:F=x::r)(hx:jc x.toNat=false)(h':Lx b m q):Lx b (l++(F++m)) (p++(K++q)):=
 h.ol (hF.pre h') (λ_=>⟨x,r++m,by rw[e];rfl,hx⟩)
def Lx.post{l:List UInt8}{b:Bool}{x:UInt8}(h:Lx true l p)(hF:Lx b F K)(e:F=x::r)(hx:jc x.toNat=false):Lx b (l++F) (p++K):=h.ol hF<|λ_=>⟨x,r,e,hx⟩
def iJ{l:List UInt8}{b:Bool}(h:Lx b l p):Lx b (32::l) p:=fh.pre h
def sgB(c:UInt8):Bool:= !jd c.toNat&& !jj c.toNat&& !ji c.toNat&&c.toNat !=39&&c.toNat !=45&&Pu.xW c.toNat&& !Pu.cP c.toNat
def JW(c:UInt8)(h:sgB c=true):Lx false [c] [(5,[c])]:=by
 simp only[sgB,jm,Bool.not_eq_true',bne_iff_ne,ne_eq]at h;exact aif c h.1.1.1.1.1.1 h.1.1.1.1.1.2 h.1.1.1.1.2 h.1.1.1.2 h.1.1.2 h.1.2 h.2
def kwB(x:UInt8)(r:List UInt8):Bool:=jd x.toNat&&r.all (λy=>jc y.toNat)&&jh ⟨(x::r).toArray⟩
def ab_(x:UInt8)(r:List UInt8)(h:kwB x r=true):Lx true (x::r) [(5,x::r)]:=by
 simp only[kwB,jm,List.all_eq_true]at h;exact aeA x r h.1.1 h.1.2 h.2
def uS(x:UInt8)(r:List UInt8)(h:kwB x r=true):Lx false (x::r++[32]) [(5,x::r)]:=(ab_ x r h).post fh rfl aw
def tZ:Lx false [40] [jE]:=lM 40 ag
def pk:Lx false [41] [eA]:=lM 41 ag
def aih:Lx false [44,32] [GI]:=(lM 44 ag).pre fh
def Zz:Lx false [61] [yEq]:=JW 61 qkr
def Zs:Lx false [32,61,32] [yEq]:=iJ<|Zz.pre fh
def Ov:Lx false [32,124,32] [Ou]:=iJ<|(JW 124 qkr).pre fh
def aii:Lx false [95] [aic]:=JW 95 qkr
def Gb:Lx false [59] [xI]:=JW 59 qkr
def PS:Lx false [32,45,62,32] [v9]:=iJ<|Lg.pre fh
def aij:Lx false [102,117,110,32] [akF]:=uS 102 [117,110] qkr
def Zy:Lx false [108,101,116,32] [CL]:=uS 108 [101,116] qkr
def akG:Lx false [105,102,32] [yIf]:=uS 105 [102] qkr
def aca:Lx false [109,97,116,99,104,32] [ab3]:=uS 109 [97,116,99,104] qkr
def Rk:Lx false [116,121,112,101,32] [DS]:=uS 116 [121,112,101] qkr
def akH:Lx false [32,105,110,32] [yIn]:=iJ<|uS 105 [110] qkr
def aeB:Lx false [32,116,104,101,110,32] [T7]:=iJ<|uS 116 [104,101,110] qkr
def aeC:Lx false [32,101,108,115,101,32] [T8]:=iJ<|uS 101 [108,115,101] qkr
def aeD:Lx false [32,119,105,116,104,32] [ab4]:=iJ<|uS 119 [105,116,104] qkr
def aik:Lx true [32,101,110,100] [Wx]:=iJ<|ab_ 101 [110,100] qkr
def Ua:Lx true [116,114,117,101] [Bv]:=ab_ 116 [114,117,101] qkr
end
section
open Go.ChangeMaps Un
def TQ(v:Nat)(l:List UInt8)(t:Nd):=∃p,Lx true l p/\IF v p t
def TE(v:Nat)(l:List UInt8)(t:Nd):=∃p,Lx true l p/\ie v p t
def TE.d50{l:List UInt8}{t:Nd}(h:TE 5 l t):TE 0 l t:=⟨_,h.choose_spec.1,h.choose_spec.2.d50⟩
def TE.d54{l:List UInt8}{t:Nd}(h:TE 5 l t):TE 4 l t:=⟨_,h.choose_spec.1,h.choose_spec.2.d54⟩
def TE.d40{l:List UInt8}{t:Nd}(h:TE 4 l t):TE 0 l t:=⟨_,h.choose_spec.1,h.choose_spec.2.d40⟩
def TE.rL{l:List UInt8}{t:Nd}(h:TE 0 l t):TE 5 (40::(l++[41])) t:=by
 obtain⟨p,h1,h2⟩:=h;exact⟨_,(tZ.pre<|h1.post pk rfl aw).tJ,h2.rL⟩
def TE.pair{l m:List UInt8}{t u:Nd}(h:TE 0 l t)(k:TE 0 m u):TE 5 (40::(l++([44,32]++(m++[41])))) (Mk t u):=by
 obtain⟨p,a1,a2⟩:=h;obtain⟨q,b1,b2⟩:=k;exact⟨_,(tZ.pre<|a1.Ng aih rfl aw (b1.post pk rfl aw)).tJ,a2.pair b2⟩
def TE.ol{l m:List UInt8}{t u:Nd}(h:TE 4 l t)(k:TE 5 m u):TE 4 (l++(32::m)) (ye t u):=by
 obtain⟨p,a1,a2⟩:=h;obtain⟨q,b1,b2⟩:=k;exact⟨_,a1.post (iJ b1) rfl aw,a2.ol b2⟩
def TE.ite{l m o:List UInt8}{t u w:Nd}(h:TE 0 l t)(k:TE 0 m u)(j:TE 0 o w):TE 0 ([105,102,32]++(l++([32,116,104,101,110,32]++(m++([32,101,108,115,101,32]++o))))) (tIf t u w):=by
 obtain⟨p,a1,a2⟩:=h;obtain⟨q,b1,b2⟩:=k;obtain⟨r,c1,c2⟩:=j;exact⟨_,akG.pre<|a1.Ng aeB rfl aw (b1.Ng aeC rfl aw c1),a2.ite b2 c2⟩
def TF(l:List UInt8)(t:Nd):=∃p,Lx true l p/\RdF p t
def TF.mk(hs:Nn s){l:List UInt8}(h:TE 0 l t):TF ([102,117,110,32]++(s.toList++([32,45,62,32]++l))) (l9 s t):=by
 obtain⟨q,a1,a2⟩:=h;exact⟨_,aij.pre<|hs.lx.Ng PS rfl aw a1,⟨q,s.toList,t,rfl,by rw[yN],a2⟩⟩
def TF.te{l:List UInt8}(h:TF l t):TE 0 l t:=by
 obtain⟨p,a1,a2⟩:=h;exact⟨p,a1,a2.rds⟩
def TE.lt{s:BA}(hs:Nn s){l m:List UInt8}{t u:Nd}(h:TE 0 l t)(k:TE 0 m u):TE 0 ([108,101,116,32]++(s.toList++([32,61,32]++(l++([32,105,110,32]++m))))) (ab7 10 s t u):=by
 obtain⟨p,a1,a2⟩:=h;obtain⟨q,b1,b2⟩:=k;have:=ie.lt ⟨p,rfl,a2⟩ b2 (s:=s.toList);rw[yN]at this;exact⟨_,Zy.pre<|hs.lx.Ng Zs rfl aw (a1.Ng akH rfl aw b1),this⟩
def TA(l:List UInt8)(A:List (Nd×Nd)):=∃p,Lx true l p/\RdA p A
def TA.one{l m:List UInt8}{t u:Nd}(h:TQ 4 l t)(k:TE 0 m u):TA (l++([32,45,62,32]++m)) [(t,u)]:=by
 obtain⟨p,a1,a2⟩:=h;obtain⟨q,b1,b2⟩:=k;exact⟨_,a1.Ng PS rfl aw b1,.one a2 b2⟩
def TA.cons{l m o:List UInt8}{t u:Nd}{A:List (Nd×Nd)}(h:TQ 4 l t)(k:TE 0 m u)(j:TA o A):TA (l++([32,45,62,32]++(m++([32,124,32]++o)))) ((t,u)::A):=by
 obtain⟨p,a1,a2⟩:=h;obtain⟨q,b1,b2⟩:=k;obtain⟨r,c1,c2⟩:=j;exact⟨_,a1.Ng PS rfl aw (b1.Ng Ov rfl aw c1),.cons a2 b2 c2⟩
def TE.mt{l m:List UInt8}{t:Nd}{A:List (Nd×Nd)}(h:TE 0 l t)(k:TA m A):TE 0 ([109,97,116,99,104,32]++(l++([32,119,105,116,104,32]++(m++[32,101,110,100])))) (tMt t A):=by
 obtain⟨p,a1,a2⟩:=h;obtain⟨q,b1,b2⟩:=k;exact⟨_,aca.pre<|a1.Ng aeD rfl aw (b1.post aik rfl aw),a2.mt b2⟩
end
section
open Un
def bY(c:UInt8):BA:=⟨#[c]⟩
def wN c:(bY c).toList=[c]:=by rw[bY];exact toList_mk _
def nm1 c(h:jd c.toNat=true)(hw:jh ⟨#[c]⟩=false):Nn (bY c):=⟨c,[],wN c,h,ag,hw⟩
def nmM:List UInt8:=[97,98,102,119,120,121,122]
def Ni:List BA:=nmM.map bY
abbrev Ch(c:UInt8):Prop:=c∈nmM
def Ch.l(h:Ch c):Nn (bY c):=by
 simp only[Ch,nmM,jv,jt,or_false]at h;obtain rfl|rfl|rfl|rfl|rfl|rfl|rfl:=h<;>exact nm1 _ aw qAq
def Ch.m(h:Ch c):bY c∈Ni:=List.mem_map_of_mem h
inductive nk:List UInt8->List UInt8->Prop where
 |low{L:List UInt8}{c:UInt8}(hc:c∈L)(h:Ch c):nk L [c]
 |up{L:List UInt8}{c:UInt8}(h:c=78\/c=80):nk L [c]
 |tr{L:List UInt8}:nk L [116,114,117,101]
 |one{L:List UInt8}:nk L [49]
 |unit{L:List UInt8}:nk L [40,41]
 |fn{L:List UInt8}{c:UInt8}{l:List UInt8}(hc:Ch c)(h:nk (L++[c]) l):nk L ([40,102,117,110,32]++[c]++[32,45,62,32]++l++[41])
 |ol{L:List UInt8}{l m:List UInt8}(h:nk L l)(k:nk L m):nk L ([40]++l++[32]++m++[41])
 |lt{L:List UInt8}{c:UInt8}{l m:List UInt8}(hc:Ch c)(h:nk L l)(k:nk (L++[c]) m):nk L ([40,108,101,116,32]++[c]++[32,61,32]++l++[32,105,110,32]++m++[41])
 |pair{L:List UInt8}{l m:List UInt8}(h:nk L l)(k:nk L m):nk L ([40]++l++[44,32]++m++[41])
 |aJ{L:List UInt8}{l m:List UInt8}(h:nk L l)(k:nk L m):nk L ([40,67,32]++l++[32]++m++[41])
 |ite{L:List UInt8}{l m:List UInt8}(h:nk L l)(k:nk L m):nk L ([40,105,102,32,116,114,117,101,32,116,104,101,110,32]++l++[32,101,108,115,101,32]++m++[41])
 |mt{L:List UInt8}{c:UInt8}{l m:List UInt8}(hc:Ch c)(h:nk L l)(k:nk (L++[c]) m):nk L ([40,109,97,116,99,104,32]++l++[32,119,105,116,104,32,78,32,45,62,32,49,32,124,32,67,32]++[c]++[32,95,32,45,62,32]++m++[32,101,110,100,41])
def mB:Nat->Nat
 |0=>4|d+1=>2*mB d+40
def MXq d L l:=nk L l/\l.length<=mB d
def agB:∀d,4<=mB d
 |0=>br _|d+1=>by have:=agB d;simp only[mB];omega
def oq:List UInt8:=[116,121,112,101,32,76,32,39,97,32,61,32,78,32,124,32,67,32,39,97,32,40,76,32,39,97,41,59,116,121,112,101,32,83,32,61,32,80,32,124,32,81,32,73,110,116,32,66,111,111,108,59]
inductive MQ:List UInt8->List UInt8->Prop where
 |zero:MQ [] oq
 |next{L:List UInt8}{c:UInt8}{l m:List UInt8}(h:MQ L l)(hc:Ch c)(k:nk L m)(hz:l.length+m.length<=330\/m=[49]):MQ (L++[c]) (l++[108,101,116,32]++[c]++[61]++m++[59])
def MQ.len{l}(h:MQ L l):l.length<=337+8*L.length:=by
 induction h with
 |zero=>simp[oq]|next h hc k hz ih=>
  simp only[lz,kh,qP];obtain q|q:=hz
  .omega
  .subst q;simp;omega
end
section
open Go.ChangeMaps Un
def fJ{l:List Nd}(h:es nd=.mk k s n l 0 0 0):∃s' n' L f t a,nd=.mk k s' n' L f t a/\(k≠3->k≠15->s'=s)/\dz L=l:=by
 obtain⟨k',s',n',L,f,t,a⟩:=nd;simp only[es,Nd.mk.injEq]at h;obtain⟨rfl,h1,_,h2,_⟩:=h;exact⟨s',n',L,f,t,a,rfl,λa b=>by rw[if_neg ae]at h1;exact h1,h2⟩
def kL{L:List Nd}(h:dz L=[]):L=[]:=by cases L with|nil=>rfl|cons=>cases h
def gC{L:List Nd}{x:Nd}{l:List Nd}(h:dz L=x::l):∃y M,L=y::M/\es y=x/\dz M=l:=by
 cases L with
 |nil=>cases h|cons y M=>simp only[dz,List.cons.injEq]at h;exact⟨y,M,rfl,h⟩
def MkS(mks:In.Mks):=(∃a b m,mks ⟨#[67]⟩=some ([a,b],m))/\(∃m,mks ⟨#[78]⟩=some ([],m))/\∃a m,mks ⟨#[80]⟩=some (a,m)
mutual
def ZB:∀x,nn (es x)=nn x
 |.mk k s n L f t a=>by simp only[es,nn,Ow L]
def Ow:∀L,bV (dz L)=bV L
 |[]=>rfl|x::l=>by simp only[dz,bV,ZB x,Ow l]
end
def Sk(L:List UInt8)(t:Nd):=∀nd,es nd=t->∀mks,MkS mks->∀dom:BA->Prop,(∀c∈L,dom<|bY c)->ScE mks Ni dom nd
def ail(h:k=3\/k=4\/k=5):Sk L (.mk k s n [] 0 0 0):=by
 intro nd e mks hm dom hl;obtain⟨s',n',M,f,t,a,rfl,_,e2⟩:=fJ e;rw[kL e2];exact .leaf _ _ _ _ _ _ _ h
def af4:Sk L (eB Bv):=by
 rw[show eB Bv=.mk 4 ⟨#[116,114,117,101]⟩ 0 [] 0 0 0 by kernel_rfl];exact ail ag
def acb:Sk L (eB (4,[49])):=by
 rw[show eB (4,[49])=.mk 3 jY 1 [] 0 0 0 by kernel_rfl];exact ail ag
def aeE{x:Nd}(h:k=6\/k=8)(hx:Sk L x)(hy:Sk L y):Sk L (.mk k s n [x,y] 0 0 0):=by
 intro nd e mks hm dom hl;obtain⟨s',n',M,f,t,a,rfl,_,e2⟩:=fJ e;obtain⟨x',M,rfl,ex,e2⟩:=gC e2;obtain⟨y',M,rfl,ey,e2⟩:=gC e2;rw[kL e2];exact .two _ _ _ _ _ _ _ _ _ h (hx x' ex mks hm dom hl)<|hy y' ey mks hm dom hl
def Bw(P:BA->Prop)(hl:∀c∈L,dom<|bY c)(k:P (bY c)):∀d∈L++[c],dom (bY d)\/P (bY d):=λd hd=>by
 obtain q|q:=List.mem_append.1 hd
 .exact .inl (hl d q)
 .rw[List.mem_singleton.1 q];exact .inr k
def MEx(L l:List UInt8):=∃t,TE 5 l t/\Sk L t/\nn t<=l.length
def At(c:UInt8)(h:jj c.toNat=true):Lx true [c] [(2,[c])]:=by
 have hn:CQ (bY c):=⟨c,[],wN c,h,ag⟩;have:=hn.lx
 rwa[wN]at this
def Nn.lx1(h:Nn (bY c)):Lx true [c] [(1,[c])]:=by
 have:=h.lx
 rwa[wN]at this
def af5(h:c=67\/c=78\/c=80):Sk L (eB (2,[c])):=by
 intro nd e mks hm dom hl;obtain⟨s',n',M,f,t,a,rfl,e1,e2⟩:=fJ (k:=2) (s:=⟨#[c]⟩) (n:=0) (l:=[]) e;obtain rfl:=e1 aw aw;rw[kL e2];obtain⟨⟨_,_,_,h1⟩,⟨_,h2⟩,_,_,h3⟩:=hm;obtain rfl|rfl|rfl:=h
 .exact .up _ _ _ _ _ _ _ _ h1
 .exact .up _ _ _ _ _ _ _ _ h2
 .exact .up _ _ _ _ _ _ _ _ h3
def ZH(h:c∈L):Sk L (eB (1,[c])):=by
 intro nd e mks hm dom hl;obtain⟨s',n',M,f,t,a,rfl,e1,e2⟩:=fJ (k:=1) (s:=bY c) (n:=0) (l:=[]) e;obtain rfl:=e1 aw aw;rw[kL e2];exact .low _ _ _ _ _ _<|hl c h
def pw(x:Ky):nn (eB x)=1:=by simp[eB,cN,ZB,nn,bV]
def y9{l:List UInt8}(h:Lx true l [x])(k:ie 5 [x] (eB x))(s:Sk L (eB x))(hl:1<=l.length):MEx L l:=⟨_,⟨_,h,k⟩,s,by rw[pw];exact hl⟩
def nk.me{l:List UInt8}(h:nk L l):MEx L l:=by
 induction h with
 | @low L c hc h=>exact y9 h.l.lx1 (ie.leaf λ_ _=>⟨qkr,qkr⟩) (ZH hc) ag| @up L c h=>exact y9 (At c (by obtain rfl|rfl:=h<;>decide)) (ie.leaf λ_ _=>⟨qkr,qkr⟩) (af5<|.inr h) ag
 |tr=>exact y9 (x:=Bv) Ua (ie.leaf λ_ _=>⟨qkr,qkr⟩) af4 ag|one=>exact y9 (ab9 49 [] aw ag ag) (ie.leaf λ_ _=>⟨qkr,qkr⟩) acb ag|unit=>exact⟨mP,⟨[jE,eA],(tZ.pre pk).tJ,ie.unit⟩,ail ag,by simp[mP,nn,bV]⟩| @fn L c l hc _ ih=>
   obtain⟨t,h1,h2,h3⟩:=ih;refine⟨l9 (bY c) t,?_,?_,by simp[l9,nn,bV];omega⟩
   .have:=(TF.mk hc.l h1.d50).te.rL;rw[wN]at this;simpa using this
   .intro nd e mks hm dom hl;obtain⟨s',n',M,f,t,a,rfl,e1,e2⟩:=fJ e;obtain rfl:=e1 aw aw;obtain⟨x',M,rfl,ex,e2⟩:=gC e2;rw[kL e2];exact .fn _ _ _ _ _ _ _ hc.m (h2 x' ex mks hm _ (Bw (·=bY c) hl rfl))
 |ol _ _ ih ik=>
  obtain⟨t,h1,h2,h3⟩:=ih;obtain⟨u,k1,k2,k3⟩:=ik;refine⟨ye t u,?_,aeE ag h2 k2,by simp[ye,nn,bV];omega⟩;have:=(h1.d54.ol k1).d40.rL;simpa using this
 | @lt L c l m hc _ _ ih ik=>
   obtain⟨t,h1,h2,h3⟩:=ih;obtain⟨u,k1,k2,k3⟩:=ik;refine⟨ab7 10 (bY c) t u,?_,?_,by simp[ab7,nn,bV];omega⟩
   .have:=(TE.lt hc.l h1.d50 k1.d50).rL;simpa[wN]using this
   .intro nd e mks hm dom hl;obtain⟨s',n',M,f,t,a,rfl,e1,e2⟩:=fJ e;obtain rfl:=e1 aw aw;obtain⟨x',M,rfl,ex,e2⟩:=gC e2;obtain⟨y',M,rfl,ey,e2⟩:=gC e2;rw[kL e2];exact .lt _ _ _ _ _ _ _ _ _ hc.m rfl (h2 x' ex mks hm _ λc q=>.inl<|hl c q) (k2 y' ey mks hm _ (Bw (·=bY c) hl rfl))
 |pair _ _ ih ik=>
  obtain⟨t,h1,h2,h3⟩:=ih;obtain⟨u,k1,k2,k3⟩:=ik;refine⟨Mk t u,?_,aeE ag h2 k2,by simp[Mk,nn,bV];omega⟩;have:=h1.d50.pair k1.d50;simpa using this
 |aJ _ _ ih ik=>
  obtain⟨t,h1,h2,h3⟩:=ih;obtain⟨u,k1,k2,k3⟩:=ik;refine⟨ye (ye (eB (2,[67])) t) u,?_,aeE ag (aeE ag (af5 ag) h2) k2,by simp[ye,nn,bV,pw];omega⟩;have uc:TE 5 [67] (eB (2,[67])):=⟨_,At 67 aw,ie.leaf λ_ _=>⟨qkr,qkr⟩⟩;have:=((uc.d54.ol h1).ol k1).d40.rL;simpa using this
 |ite _ _ ih ik=>
  obtain⟨t,h1,h2,h3⟩:=ih;obtain⟨u,k1,k2,k3⟩:=ik;have tr:TE 5 [116,114,117,101] (eB Bv):=⟨[Bv],Ua,ie.leaf λ_ _=>⟨qkr,qkr⟩⟩;refine⟨tIf (eB Bv) t u,?_,?_,by simp[tIf,nn,bV,pw];omega⟩
  .have:=(tr.d50.ite h1.d50 k1.d50).rL;simpa using this
  .intro nd e mks hm dom hl;obtain⟨s',n',M,f,t,a,rfl,e1,e2⟩:=fJ e;obtain⟨x',M,rfl,ex,e2⟩:=gC e2;obtain⟨y',M,rfl,ey,e2⟩:=gC e2;obtain⟨z',M,rfl,ez,e2⟩:=gC e2;rw[kL e2];exact .ite _ _ _ _ _ _ _ _ _ (af4 x' ex mks hm dom hl) (h2 y' ey mks hm dom hl)<|k2 z' ez mks hm dom hl
 | @mt L c l m hc _ _ ih ik=>
   obtain⟨t,h1,h2,h3⟩:=ih;obtain⟨u,k1,k2,k3⟩:=ik;have q1:TQ 4 [78] (tUp (bY 78) []):=⟨_,At 78 aw,IF.up [78]⟩;have q2:TQ 4 ([67,32]++[c]++[32,95]) (tUp (bY 67) [eB (1,[c]),eB aic]):=by
    have a2:=((At 67 aw).post (iJ hc.l.lx1) rfl aw).post (iJ aii) rfl aw;have r:=((IF.up [67]).arg<|IF.leaf (x:=(1,[c])) λ_ _=>⟨qkr,qkr⟩).arg<|IF.leaf (x:=aic) λ_ _=>⟨qkr,qkr⟩;exact⟨_,by simpa using a2.tJ,by simpa[bY]using r⟩
   have w0:TE 5 [49] (eB (4,[49])):=⟨_,ab9 49 [] aw ag ag,ie.leaf λ_ _=>⟨qkr,qkr⟩⟩;have w1:=TA.cons q1 w0.d50<|TA.one q2 k1.d50;have w2:=(h1.d50.mt w1).rL;refine⟨_,by simpa using w2,?_,by simp[tMt,tUp,bq,nn,bV,pw];omega⟩;intro nd e mks hm dom hl;obtain⟨s',n',M,f,t,a,rfl,e1,e2⟩:=fJ e;simp only[bq]at e2;obtain⟨x',M,rfl,ex,e2⟩:=gC e2;obtain⟨p1,M,rfl,f1,e2⟩:=gC e2;obtain⟨y1,M,rfl,f2,e2⟩:=gC e2;obtain⟨p2,M,rfl,f3,e2⟩:=gC e2;obtain⟨y2,M,rfl,f4,e2⟩:=gC e2;rw[kL e2];obtain⟨s1,n1,M1,f',t',a',rfl,g1,g2⟩:=fJ f1;obtain rfl:=g1 aw aw;rw[kL g2];obtain⟨s2,n2,M2,f5,t5,a5,rfl,g1,g2⟩:=fJ f3;obtain rfl:=g1 aw aw;obtain⟨v1,M2,rfl,v2,g2⟩:=gC g2;obtain⟨v3,M2,rfl,v4,g2⟩:=gC g2;rw[kL g2];obtain⟨s3,n3,M3,f6,t6,a6,rfl,g1,g4⟩:=fJ (k:=1) (s:=bY c) (n:=0) (l:=[]) v2;obtain rfl:=g1 aw aw;rw[kL g4];obtain⟨s4,n4,M4,f7,t7,a7,rfl,_,g3⟩:=fJ (k:=15) (s:=jY) (n:=0) (l:=[])<|v4.trans qkr;rw[kL g3];have⟨⟨ta,tb,tm,m1⟩,⟨tn,m2⟩,m3⟩:=id hm;refine .mt _ _ _ _ [(_,y1),(_,y2)] _ _ _ (h2 x' ex mks hm dom hl) (λi hi=>?_) λi hi=>?_
   .match i,hi with
    |0,_=>exact⟨.up _ _ _ _ _ _ _ _ m2 rfl (λi h=>absurd h ag),by simp[k_,fE]⟩
    |1,_=>exact⟨.up _ _ _ _ _ _ _ _ m1 rfl (λi h=>match i,h with
     |0,_=>.low _ _ _ _ _ hc.m|1,_=>.leaf _ _ _ _ _ _<|.inl rfl),by simp[k_,fE]⟩
   .match i,hi with
    |0,_=>exact acb (L:=[]) y1 f2 mks hm _ ag|1,_=>exact k2 y2 f4 mks hm _ (Bw (·∈k_ _) hl<|by simp[k_,fE])
end
section
open Go.ChangeMaps Go.MapKept
section
variable {gb:Nat} {mk:BA->Option Nat}
def af6 x y s:Cq 113 #[.agg #[Iv x,Iv y,.string s]] w λe w'=>∃gb,e=.returned (Mv gb)/\w.heap.size<=gb/\Bq w w'/\GM w' gb [s]:=by
 have iZ:= @run_makeMap Tryz.prog;have bZ:Bq w ((w.alloc<|Cv #[Iv x,Iv y,Sv s] 121).alloc<|.map #[] 0):=(bw _).alloc ag _;have M0:MB ((w.alloc<|Cv #[Iv x,Iv y,Sv s] 121).alloc<|.map #[] 0) (w.heap.size+1) []:=(by have:=MB.new<|w.alloc<|Cv #[Iv x,Iv y,Sv s] 121;simpa using this);have HB:=ai bZ;have B1:=(Bx.new w #[Iv x,Iv y,Sv s] 121).alloc<|.map #[] 0;obtain⟨c1,f1,y1⟩:=B1;go_enter func113,ntmps113;go_wp2_with(refine wW rfl _ _ _ (Or.inl rfl) rfl M0 s (Iv 1) rfl rfl ?_;intro w3 H' O';have M3:=ai H';have O3:=ai O';clear H' O');go_ret;exact⟨_,rfl,Nat.le_succ _,One.below HB O3<|Nat.le_succ _,GM.bG (p:=[]) ag (λx=>by simp[a_,m8]) M3⟩
def aeF{L}{g sc}{vs:Nat->Value}(IH:∀x∈L,PXC x)(h:CK w cb tb mb lb ty mk lo)(Dl:B<=lb)(hg:g<w.heap.size)(hgn:g≠lb)(hc:∀i,i<L.length->w.cell? ⟨g,i,none⟩=some (vs i)/\∃h:i<L.length,PE w (·<B) L[i] (vs i)/\ScE mks nl dom L[i])(hl:∀x,dom x->lo x≠0)(hM:MkT mks mk ty)(sH:∀x,lo x+bV L<=5000):
 Cq 166 #[cp cb,.slice (some ⟨g,0,none⟩) L.length sc] w λe w'=>e=.returned (.tuple #[])/\Fr (λb=>b=lb) w w'/\CK w' cb tb mb lb ty mk lo:=by
 have BU:∀b,b<B->¬b=lb:=λb hb q=>ae;have X0:CE cb tb mb lb ty mk lo w w:=⟨h,Fr.refl _ _⟩;have hL:=yz L;have hL5:L.length<=5000:=by have:=sH lh;omega
 clear hL;go_enter func166,ntmps166
 go_wp2
 go_loopg[8] L.length (λgk c wr=>∃j:Nat,Hid (gk=L.length-j)/\j<=L.length/\c=Nv j/\CE cb tb mb lb ty mk lo w wr)
 case atStart=>exact⟨0,ai rfl,Nat.zero_le _,rfl,X0⟩
 case round=>
  obtain⟨j,cV,hj,rfl,hX⟩:=hrel;have XR:=ai hX;by_cases bA:j<L.length
  .have hd:(j:Int)<(L.length:Int):=ae;have⟨hcj,_,hp,hs⟩:=hc j bA;have hcj:=(jq (a:=⟨g,j,none⟩)<|XR.k.block g hg hgn).trans hcj;have HC:=IH L[j] (ju bA) _ cb tb mb lb B ty mk lo (vs j) mks nl dom XR.d Dl (hp.frB XR.k BU) hs hl hM (λx=>by have:=sH x;have:=sY<|ju bA;omega);go_wp2_with fail;refine HC.mono ?_;rintro e w2⟨rfl,k2,d2⟩;have X2:=XR.fr k2 d2
   go_wp2
   go_roundg(L.length-(j+1))
   case measure=>rw[uh cV];omega
   case rel=>exact⟨j+1,ai rfl,ae,i_,X2⟩
  .have hd:decide ((j:Int)<(L.length:Int))=false:=bD
   go_wp2
   go_end0;exact⟨rfl,XR.k,XR.d⟩
abbrev bdA r x y s v:=#[.bool r,Iv x,Iv y,.string s,v]
def Ub(HE:PXC nd)(h:CK w cb tb mb lb ty mk lo)(Dl:B<=lb)(hx:PE w (·<B) nd v)(hs:ScE mks nl dom nd)(hl:∀x,dom x->lo x≠0)(hM:MkT mks mk ty)(sH:∀x,lo x+nn nd<=5000)x y s:
 Cq 86 #[cp cb,.agg<|bdA false x y s v] w λe w'=>e=.returned (.tuple #[])/\Fr (λb=>b=lb) w w'/\CK w' cb tb mb lb ty mk lo:=by
 have fN:Bq w (w.alloc<|Cv (bdA false x y s v) 130):=bw _;have X0:Hid (CE cb tb mb lb ty mk lo w<|w.alloc<|Cv (bdA false x y s v) 130):=ai ⟨h.af fN,Fr.of fN⟩;have HC:=ai<|HE _ cb tb mb lb B ty mk lo _ mks nl dom X0.d Dl (hx.af fN) hs hl hM sH;obtain⟨t1,x1,rfl⟩:=hx.iface;have⟨c0,f0,y0⟩:=Bx.new w (bdA false x y s<|Fv t1<|Av x1) 130;clear h hx fN;go_enter func86,ntmps86;go_wp2_with fail;refine HC.mono ?_;rintro e w2⟨rfl,k2,d2⟩;have X2:=ai<|X0.fr k2 d2;clear k2 d2 HC
 go_wp2
 go_end0;exact⟨rfl,X2.k,X2.d⟩
end
section
variable {mk:BA->Option Nat}
def kids{L:List Nd}(Dk:∀x∈L,PXC x)(h:CK w cb tb mb lb ty mk lo)(Dl:B<=lb)(HL:∀x,dom x->lo x≠0)(HM:MkT mks mk ty)(Eb:∀x,lo x+bV L<=5000)(D C:Array Value)(hD:∀i(h:i<L.length),∃v,D[i]? =some v/\PE w (·<B) L[i] v/\ScE mks nl dom L[i])(T:TypeId):
 Cq 166 #[cp cb,.slice (some ⟨w.heap.size+1,0,none⟩) L.length L.length] ((w.alloc<|.cells C T).alloc<|.cells D 128) λe w'=>e=.returned (.tuple #[])/\Fr (λb=>b=lb) w w'/\CK w' cb tb mb lb ty mk lo:=by
 have HB:=((jl w.heap.size w).alloc (br _)<|Cv C T).alloc ag<|Cv D 128;have hz:(w.alloc<|Cv C T).heap.size=w.heap.size+1:=ag;have B2:=Bx.new (w.alloc<|Cv C T) D 128;rw[hz]at B2;have:=h.lts;refine(aeF (nl:=nl) (vs:=λi=>(D[i]?).getD Zv) Dk (h.af HB) Dl B2.z ae (λi hi=>?_) HL HM Eb).mono λe w' q=>⟨q.1,(Fr.of HB).trans q.2.1,q.2.2⟩;have⟨v,e,q1,q2⟩:=hD i hi;exact⟨by rw[B2.c i,e];rfl,hi,by rw[e];exact q1.af HB,q2⟩
end
def Uc{p:Prop}(h:p:=by
 go_enter func114,ntmps114;go_wp2_with fail;refine(HC _).mono ?_;rintro e w2⟨rfl,k2,d2⟩
 go_wp2
 go_end0
 exact⟨rfl,k2,d2⟩):p:=h
def aim:∀nd,PXC nd:=by
 refine Nd.ind ?_;intro k s n L fr t a Dk w cb tb mb lb B ty mk lo v mks nl dom h Dl hx hs HL HM Eb;have X0:CE cb tb mb lb ty mk lo w w:=⟨h,Fr.refl _ _⟩;have⟨z1,z2,z3,z4⟩:=h.lts;have BU:∀b,b<B->¬b=lb:=λb hb q=>ae;clear h;simp only[nn]at Eb
 cases hx with
 |low _ _ _ _ _ jD=>
  have fN:=(jl w.heap.size w).alloc (br _)<|Cv #[Nv fr,Nv t,Sv s] 253;have X1:=X0.af fN;have⟨c1,f1,y1⟩:=Bx.new w #[Nv fr,Nv t,Sv s] 253;obtain⟨N,hN⟩:∃N,Hid<|N=lo s:=⟨_,ai rfl⟩;have Ds:∀q,(Instr.lookup 183 (Mv lb) (Sv s) false).run jo ((w.alloc<|Cv #[Nv fr,Nv t,Sv s] 253).drewN q)=.ok (Nv N) ((w.alloc<|Cv #[Nv fr,Nv t,Sv s] 253).drewN q):=λq=>by
   have:=(X1.af<|(jl _ _).drewN q).d.l.look s;rw[<-uh hN]at this;exact this
  have HE:((N:Int)==0)=false:=by
   have:lo s≠0:=by cases hs with
    |low _ _ _ _ _ _ h=>exact HL _ h|leaf _ _ _ _ _ _ _ h=>omega
   have h2:=uh hN;simp;omega
  have⟨c2,f2,y2⟩:=X1.d.bx;clear fN;go_enter func114,ntmps114
  go_wp2
  go_quiet(fail)
  go_wp2
  go_end0;exact⟨rfl,(X1.af<|(jl _ _).drewN _).k,(X1.af<|(jl _ _).drewN _).d⟩
 |up _ _ _ _ _ jD=>
  have X1:=X0.af<|(jl w.heap.size w).alloc (br _)<|Cv #[Nv fr,Nv t,Sv s] 282;have⟨c1,f1,y1⟩:=Bx.new w #[Nv fr,Nv t,Sv s] 282;have⟨c2,f2,y2⟩:=X1.d.bx;have hb:(mk s).isSome=true:=by cases hs with
   |up _ _ _ _ _ _ tk m h=>rw[HM.a _ _ _ h];rfl|leaf _ _ _ _ _ _ _ h=>omega
  go_enter func114,ntmps114
  go_wp2
  go_region_with(go_at_call 163;refine(Qn (v:=Mv mb) (jz ⟨mb,rfl,(X1.af (jl _ _).drew).d.m⟩) s).mono ?_;rintro e w2⟨rfl,rfl⟩;rw[hb])
  all_goals(
   go_wp2
   go_end0
   exact⟨rfl,(X1.af (jl _ _).drew).k,(X1.af (jl _ _).drew).d⟩)
 |op _ _ x y _ _ _ vx vy ho hx hy=>exact absurd rfl (vB hs ag).1|pr _ _ x y _ _ _ vx vy hx hy|call _ _ x y _ _ _ vx vy hx hy=>
  obtain⟨-,sx,sy⟩:=vB hs ag;obtain⟨t1,x1,rfl⟩:=hx.iface;obtain⟨t2,x2,rfl⟩:=hy.iface;have c1:=λT=>(Bx.new w #[Nv fr,Nv t,Fv t1<|Av x1,Fv t2<|Av x2] T).c;have HC:=kids Dk X0.d Dl HL HM (λx=>qAv) #[Fv t1<|Av x1,Fv t2<|Av x2] #[Nv fr,Nv t,Fv t1<|Av x1,Fv t2<|Av x2] λi hi=>match i,hi with
   |0,_=>⟨_,rfl,hx,sx⟩|1,_=>⟨_,rfl,hy,sy⟩
  simp only[kh,qP,Nat.zero_add,Nat.reduceAdd]at HC;clear hs hx hy;exact Uc
 |ite _ _ x y z _ _ _ vx vy vz hx hy hz=>
  obtain⟨sx,sy,sz⟩:ScE mks nl dom x/\ScE mks nl dom y/\ScE mks nl dom z:=by cases hs with|ite _ _ _ _ _ _ _ _ _ h1 h2 h3=>exact⟨h1,h2,h3⟩
  obtain⟨t1,x1,rfl⟩:=hx.iface;obtain⟨t2,x2,rfl⟩:=hy.iface;obtain⟨t3,x3,rfl⟩:=hz.iface;have c1:=λT=>(Bx.new w #[Nv fr,Nv t,Fv t1<|Av x1,Fv t2<|Av x2,Fv t3<|Av x3] T).c;have HC:=kids Dk X0.d Dl HL HM (λx=>qAv) #[Fv t1<|Av x1,Fv t2<|Av x2,Fv t3<|Av x3] #[Nv fr,Nv t,Fv t1<|Av x1,Fv t2<|Av x2,Fv t3<|Av x3] λi hi=>match i,hi with
   |0,_=>⟨_,rfl,hx,sx⟩|1,_=>⟨_,rfl,hy,sy⟩|2,_=>⟨_,rfl,hz,sz⟩
  simp only[kh,qP,Nat.zero_add,Nat.reduceAdd]at HC;clear hs hx hy hz;exact Uc
 |of _ _ x y _ _ _ vx vy hx hy=>
  obtain⟨sx,hk,hN⟩:ScE mks nl dom x/\uV rN (λ_=>none) y=true/\mks ⟨#[78]⟩≠none:=by
   cases hs with
   |of _ _ _ _ _ _ _ _ h _ _ _ hk hN=>exact⟨h,hk,hN⟩|two _ _ _ _ _ _ _ _ _ h=>omega|lt _ _ _ _ _ _ _ _ _ _ h=>omega
  obtain rfl:=HM.t hN;obtain⟨t1,x1,rfl⟩:=hx.iface;obtain⟨t2,x2,rfl⟩:=hy.iface;have fN:=(Below.refl w.heap.size w).alloc (br _)<|Cv #[Nv fr,Nv t,Fv t1<|Av x1,Fv t2<|Av x2] 287;have X1:=X0.af fN;have B1:=ai<|Bx.new w #[Nv fr,Nv t,Fv t1<|Av x1,Fv t2<|Av x2] 287;simp only[bV]at Eb;have HC:=ai<|Dk x ag _ cb tb mb lb B _ mk lo _ mks nl dom X1.d Dl (hx.af fN) sx HL HM<|λx=>qAv;have HY:=hy.af fN;have⟨c1,f1,y1⟩:=uh B1;clear fN hx hy hs;go_enter func114,ntmps114;go_wp2_with fail;refine HC.mono ?_;rintro e w2⟨rfl,k2,d2⟩;have X2:=X1.fr k2 d2;have MW:=IU y _ cb tb mb lb _ mk lo _ _ (.map none) (λ_=>none) X2.d (HY.move k2.size (λb p z=>k2.block b z<|BU b p) λ_ p _=>p) (Or.inl ⟨rfl,rfl⟩) hk (by have:=Eb lh;omega);have⟨c2,f2,y2⟩:=B1.fr k2 ae;clear k2 d2 HC c1 f1 y1;go_wp2_with fail;refine MW.mono ?_;rintro e w3⟨rfl,k3⟩;have X3:=X2.af k3
  go_wp2
  go_end0;exact⟨rfl,X3.k,X3.d⟩
 |fn _ _ x _ _ _ y vx jD hy hx=>
  have sx:ScE mks nl (λv=>dom v\/v∈[s]) x:=by cases hs with|fn _ _ _ _ _ _ _ _ h=>simpa using h
  obtain⟨t1,x1,rfl⟩:=hx.iface;have fN:=(Below.refl w.heap.size w).alloc (br _)<|Cv #[Nv fr,Nv t,Nv a,Nv y,Sv s,Fv t1<|Av x1] 289;have X1:=X0.af fN;have BB:=ai<|Bx.new w #[Nv fr,Nv t,Nv a,Nv y,Sv s,Fv t1<|Av x1] 289;simp only[bV]at Eb;have HX:=hx.af fN;have HE:=Dk x ag;have⟨c1,f1,y1⟩:=uh BB;clear fN hx hy hs;go_enter func114,ntmps114
  go_wp2
  go_region_with(first
   |(go_at_call 113;refine(af6 _ _ _).mono ?_;rintro e w1⟨gb,rfl,hgb,b1,g1⟩;have hb:=(jl _ _).drew.trans<|b1.mono<|br _;have Y1:=ai<|X1.af hb;have Q1:=ai<|HX.af hb;have G1:=ai g1;have C1:=ai<|BB.below hb;have amt:w.heap.size+1<=gb:=(by have:=hgb;simp at this;omega);have⟨c3,f3,y3⟩:=uh C1;clear hb b1 g1 hgb)
   |(go_at_call 112;refine(zE HE Y1.d Dl Q1 G1 ⟨ae,ae,ae,ae⟩ sx HL HM<|λx=>qAv).mono ?_;rintro e w2'⟨rfl,k2,d2⟩;have X2:=ai<|Y1.fr k2 d2;clear k2 d2))
  all_goals(
   go_wp2
   go_end0
   exact⟨rfl,X2.k,X2.d⟩)
 |lt _ _ _ x z _ _ _ y vx vz hc jD hy hx hz=>
  obtain⟨rfl,-,sx,sz⟩:=hs.YB hc;have sz:ScE mks nl (λv=>dom v\/v∈[s]) z:=by simpa using sz
  obtain⟨t1,x1,rfl⟩:=hx.iface;obtain⟨t2,x2,rfl⟩:=hz.iface;have fN:=(Below.refl w.heap.size w).alloc (br _)<|Cv #[Nv fr,Nv t,.bool false,Nv a,Nv y,Sv s,Fv t1<|Av x1,Fv t2<|Av x2] 291;have X1:=X0.af fN;have B1:=ai<|Bx.new w #[Nv fr,Nv t,.bool false,Nv a,Nv y,Sv s,Fv t1<|Av x1,Fv t2<|Av x2] 291;simp only[bV]at Eb;have HZ:=hz.af fN;have HC:=ai<|Ub (Dk x ag) X1.d Dl (hx.af fN) sx (λv q=>q.elim (HL v) λq=>absurd q.1 aw) HM (λx=>qAv) (a:Int) (y:Int) s;have HE:=Dk z ag;have⟨c1,f1,y1⟩:=uh B1;clear fN hx hy hz hs hc;go_enter func114,ntmps114;go_wp2_with fail;refine HC.mono ?_;rintro e w2⟨rfl,k2,d2⟩;have X2:=X1.fr k2 d2;have BB:=ai<|B1.fr k2 ae;have HZ2:=HZ.frB k2 BU;have hw2:=k2.size;clear k2 d2 HC c1 f1 y1;have⟨c1,f1,y1⟩:=uh BB
  go_wp2
  go_region_with(first
   |(go_at_call 113;refine(af6 _ _ _).mono ?_;rintro e w1⟨gb,rfl,hgb,b1,g1⟩;have hb:=(jl _ _).drew.trans<|b1.mono<|br _;have Y1:=ai<|X2.af hb;have Q1:=ai<|HZ2.af hb;have G1:=ai g1;have C1:=ai<|BB.below hb;have amt:w.heap.size+1<=gb:=(by have:=hgb;have h3:=hw2;simp at this h3;omega);have⟨c3,f3,y3⟩:=uh C1;clear hb b1 g1 hgb)
   |(go_at_call 112;refine(zE HE Y1.d Dl Q1 G1 ⟨ae,ae,ae,ae⟩ sz HL HM<|λx=>qAv).mono ?_;rintro e w2'⟨rfl,k2,d2⟩;have X3:=ai<|Y1.fr k2 d2;clear k2 d2))
  all_goals(
   go_wp2
   go_end0
   exact⟨rfl,X3.k,X3.d⟩)
 |mt _ _ x A _ _ _ vx g sc vp ve h0 hg hz hc hx hp he=>
  have⟨sx,sp,se⟩:=aa2 hs;obtain⟨t1,x1,rfl⟩:=hx.iface;have fN:=(jl w.heap.size w).alloc (br _)<|Cv #[Nv fr,Nv t,Fv t1<|Av x1,Lv (some ⟨g,0,none⟩) A.length sc] 296;have X1:=X0.af fN;have B1:=ai<|Bx.new w #[Nv fr,Nv t,Fv t1<|Av x1,Lv (some ⟨g,0,none⟩) A.length sc] 296;simp only[bV]at Eb;have hgB:=hg;have hAL:A.length<=5000:=by have:=Eb lh;have:=Lj A;omega
  have HC:=ai<|Dk x ag _ cb tb mb lb B ty mk lo _ mks nl dom X1.d Dl (hx.af fN) sx HL HM<|λx=>qAv;have⟨c1,f1,y1⟩:=uh B1;have HIA:∀q∈A,PXC q.2:=λq hq=>by
   obtain⟨i,hi,rfl⟩:=List.getElem_of_mem hq;exact Dk _<|List.mem_cons_of_mem _ (Sm A i hi).2
  clear fN hx hs;go_enter func114,ntmps114;go_wp2_with fail;refine HC.mono ?_;rintro e w2⟨rfl,k2,d2⟩;have X2:=X1.fr k2 d2;have B2:=ai<|B1.fr k2 ae;have my:∀o,w2.cell? ⟨g,o,none⟩=w.cell? ⟨g,o,none⟩:=λo=>World.cell?_of_block (a:=⟨g,o,none⟩)<|X2.k.block g hz<|BU g hgB;have MW:=agc (sc:=sc) (vp:=vp) (ve:=ve) HIA X2.d Dl hgB (Nat.lt_of_lt_of_le hz X2.k.size) (λi hi=>by rw[my,my,my,my];exact hc i hi) (λi hi=>(hp i hi).frB X2.k BU) (λi hi=>(he i hi).frB X2.k BU) sp se HL HM (λq=>by have:=Eb q;have:=rZ x;omega) hAL;clear k2 d2 HC c1 f1 y1 my;have⟨c1,f1,y1⟩:=uh B2;go_wp2_with fail;refine MW.mono ?_;rintro e w3⟨rfl,k3,d3⟩;have X3:=X2.fr k3 d3;clear k3 d3 MW
  go_wp2
  go_end0;exact⟨rfl,X3.k,X3.d⟩
 |_=>
  go_enter func114,ntmps114
  go_wp2
  go_end0;exact⟨rfl,X0.k,X0.d⟩
section
variable {kb:Nat} {mk F:BA->Option Nat} {w':World}
def wO(hk:FM w kb F)(a b:Int)(n:Nat)(hF:F s=none):
 Cq 110 #[cp cb,Mv kb,.agg #[Iv a,Iv b,.string s],Nv n] w λe w'=>e=.returned (.tuple #[])/\Fr (λb=>b=kb) w w'/\FM w' kb (yj F s n):=by
 have fN:=(Below.refl w.heap.size w).alloc (br _)<|Cv #[Iv a,Iv b,Sv s] 121;have M1:=hk.below fN;have HC:=Qn (v:=Mv kb) (Or.inr ⟨kb,rfl,M1⟩) s;rw[hF]at HC;simp only[Option.isSome_none]at HC;have HB:=ai fN;obtain⟨L,HM,HL⟩:=M1;have⟨c1,f1,y1⟩:=Bx.new w #[Iv a,Iv b,Sv s] 121;clear fN;go_enter func110,ntmps110;go_wp2_with fail;refine HC.mono ?_;rintro e w2⟨rfl,rfl⟩;go_wp2_with(refine aZ _ rfl _ _ _ _ (Or.inr rfl) (KL.str Tryz.underlying9) Tryz.underlying183 _ _ rfl HM s (Nv n) rfl rfl trivial (λ_ _=>trivial) ?_;intro w4 H' O';have M4:=ai H';have O4:=ai O';clear H' O');go_end0;exact⟨rfl,(Fr.of HB).trans ⟨O4.os,O4.tape,O4.output,by rw[O4.size];exact br _,λb _ q=>O4.block b q⟩,_,M4,FM.put HL s n⟩
def CK.akI(h:CK w cb tb mb lb ty mk lo)(k:Fr (λb=>b=tb) w w')(m:FM w' tb F):CK w' cb tb mb lb F mk lo:=
 ⟨h.bx.fr k h.n.1,m,h.m.same<|k.block mb h.m.lt h.n.2.2.2.1.symm,h.l.same<|k.block lb h.l.lt h.n.2.2.2.2.1.symm,h.n⟩
def CK.akJ(h:CK w cb tb mb lb ty mk lo)(k:Fr (λb=>b=mb) w w')(m:FM w' mb F):CK w' cb tb mb lb ty F lo:=
 ⟨h.bx.fr k h.n.2.1,h.t.same<|k.block tb h.t.lt h.n.2.2.2.1,m,h.l.same<|k.block lb h.l.lt h.n.2.2.2.2.2.symm,h.n⟩
end
end
section
open Go.ChangeMaps Go.MapKept Un
abbrev KLI:KL jo 3 qO (λ_ _=>True):=KL.num Tryz.underlying3
def Ml:Tryz.prog.underlying 73=some (.map 3 71):=qkr
def aeG w:(zeroValue 71).run jo w=.ok .nilFunc w:=qkr
def Wz:Cq 26 #[] w λe w'=>e=.returned (Mv w.heap.size)/\Bq w w'/\MG qO w' w.heap.size (bG 2 (.func (.func 48) #[] #[])<|bG 1 (.func (.func 46) #[] #[]) []):=by
 have iZ:= @run_makeMap Tryz.prog;have M0:=MG.new qO w;have k0:Bq w (w.alloc<|.map #[] 0):=bw _;have K0:=ai k0;go_enter func26,ntmps26;go_wp2_with((refine cr KLI Ml rfl _ _ _ (Or.inl rfl) rfl M0 _ _ rfl rfl ?_;clear M0;intro w' H' O';have M0:=ai H';have K1:=K0;clear K0;have K0:=ai (One.below K1 O'<|by exact br _);clear H' O' K1));go_ret;exact⟨rfl,K0,M0⟩
def Mm{w}(h:MG qO w b (bG 2 (.func (.func 48) #[] #[])<|bG 1 (.func (.func 46) #[] #[]) [])):(Instr.lookup 73 (Mv b) (Iv 1) true).run jo w=.ok (.tuple #[.func (.func 46) #[] #[],.bool true]) w/\(Instr.lookup 73 (Mv b) (Iv 2) true).run jo w=.ok (.tuple #[.func (.func 48) #[] #[],.bool true]) w:=by
 have hl:=λk:Int=>h.ms.look KLI Ml (aeG w) k trivial (λ_ _=>trivial) true;constructor
 .have:=hl 1;simpa[aO]using this
 .have:=hl 2;simpa[aO]using this
end
section
open Go.ChangeMaps
def WA a b c d e w:(Instr.typeAssert (.iface 442<|.agg #[a,b,c,d,e]) 20 442 true).run jo w=.ok (.tuple #[.agg #[a,b,c,d,e],.bool true]) w:=qkr
def ED b(hB:Bx w b MU)(f:Fl)vl vr(hv:(vl=.nilIface/\vr=.nilIface)\/∃a b c d,vl=.iface a b/\vr=.iface c d):
 CallsD jo 304 #[Pv b] (.panicking [{v:=.iface 442<|.agg #[Nv f.kind,Nv f.aF,Nv f.to,vl,vr],recovered:=false}]) w λe u' w'=>
  e=.returned (.tuple #[])/\u'=.panicking [{v:=.iface 442<|.agg #[Nv f.kind,Nv f.aF,Nv f.to,vl,vr],recovered:=true}]/\Bx w' b #[Nv f.kind,Nv f.aF,Nv f.to,vl,vr]/\Fr (λi=>i=b) w w':=by
 obtain⟨G,hG⟩:∃G:Value,G=.iface 442 (.agg #[Nv f.kind,Nv f.aF,Nv f.to,vl,vr]):=⟨_,rfl⟩;rw[<-hG];have hta:=WA;have B0:=ai hB;obtain⟨c,ff,z⟩:=hB;refine callsD_of_wpS Tryz.func304 rfl λdW cs hu=>?_;apply wpS_seq;apply wpS_region;simp[wpOpsS,go_sem,recoverD,hu,Tryz.ntmps304,Exit.thenS];rw[show(#[Pv b]++((Array.replicate 16 undef).setIfInBounds 3 G).setIfInBounds 0 G)=#[Pv b,G,undef,undef,G,undef,undef,undef,undef,undef,undef,undef,undef,undef,undef,undef,undef]from rfl];obtain⟨CS,EZ⟩:∃CS:List Frame,CS=({fn:=dW.fn,tmps:=dW.tmps,todo:=dW.todo,defers:=dW.defers,mode:=FrameMode.panicking [{v:=G,recovered:=true}],kind:=dW.kind,roundOf:=dW.roundOf}::cs):=⟨_,rfl⟩;rw[<-EZ];refine wpS_of_wp ?_;subst hG;obtain⟨rfl,rfl⟩|⟨ta,xa,tb,xb,rfl,rfl⟩:=hv
 all_goals(
 go_wp2_with fail;refine⟨rfl,_,EZ,.tuple #[],by simp[results,Tryz.results304,go_sem],rfl,rfl,?_,?_⟩
 .exact((B0.Ql rfl _ _ _ _ _).alloc _)
 .exact(((((Fr.refl (λi=>i=b) w).set (b:=b) (jy rfl) 0 _).set (jy rfl) 1 _).set (jy rfl) 2 _).set (jy rfl) 3 _).set (jy rfl) 4 _|>.trans (Fr.of<|bw _))
def aeH b:
 CallsD jo 304 #[Pv b] .returning w λe u' w'=>
  e=.returned (.tuple #[])/\u'=.returning/\w'=w:=by
 refine callsD_of_wpS Tryz.func304 rfl λdW cs hu=>?_;apply wpS_seq;apply wpS_region;simp[wpOpsS,go_sem,recoverD,hu,Tryz.ntmps304,Exit.thenS];rw[show(#[Pv b]++((Array.replicate 16 undef).setIfInBounds 3 Zv).setIfInBounds 0 Zv)=#[Pv b,Zv,undef,undef,Zv,undef,undef,undef,undef,undef,undef,undef,undef,undef,undef,undef,undef]from rfl];have EZ:dW::cs={dW with mode:=.returning}::cs:=(by cases dW;simp at hu;subst hu;rfl);refine wpS_of_wp ?_
 go_wp2
 exact⟨rfl,_,EZ,.tuple #[],by simp[results,Tryz.results304,go_sem],rfl,rfl,rfl⟩
end
section
open Go.ChangeMaps Un
def tB(HB:zG nd):W5 nd:=by
 intro w B pb bv l last mv Q v k h hp hq hk hl hB;have⟨tv,xv,hv⟩:=hp.bO;have hzp:=h.lt;have n1:w.heap.size≠pb:=ae;have n2:w.heap.size+1≠pb:=ae;obtain⟨R,hR⟩:∃R,R=u9 B pb mv (l++(sep last++wT nd k)) w:=⟨_,rfl⟩;obtain⟨r,hr⟩:∃r,r=rk nd:=⟨_,rfl⟩;have bP:Bq w ((w.alloc<|Cv #[Pv pb] 89).alloc<|Cv #[v] 79):=(bw _).alloc ag _;have X1:=((Bx.new w #[Pv pb] 89).alloc<|Cv #[v] 79);have X2:Bx ((w.alloc<|Cv #[Pv pb] 89).alloc<|Cv #[v] 79) (w.heap.size+1) #[v]:=by have:=Bx.new (w.alloc<|Cv #[Pv pb] 89) #[v] 79;simpa using this
 have HN:=h.af bP;have HP:=hp.af bP;have F0:=FN.of (B:=B) (pb:=pb) bP;have HQ:=hq.fn F0;subst hv;rw[<-hR];clear h hp hq bP;go_enter func36,ntmps36;go_wp2_with fail;generalize((w.alloc<|Cv #[Pv pb] 89).alloc<|Cv #[Fv tv<|Av xv] 79)=W0 at X1 X2 HN HP F0 HQ⊢;generalize w.heap.size=b1 at n1 n2 X1 X2⊢;have c1:=X1.c;have f1:=X1.f;have z1:=X1.z;have c2:=X2.c;have f2:=X2.f;have z2:=X2.z;have HRK:Hid (∀W,Bq W0 W->Cq 58 #[Fv tv<|Av xv] W λe w'=>e=Rv (Nv r)/\Bq W w'):=ai (λW hW=>by rw[hr];exact XP<|HP.af hW)
 have HG:Hid (∀W,Bq W0 W->Cq 57 #[Pv pb,.bool<|decide (r<k),.func (.func 59) #[] #[Pv b1,Pv<|b1+1]] W λe w'=>e=Rv (.tuple #[])/\R e w'/\w'.cell? ⟨b1,0,none⟩=some (Pv pb)/\w'.cell? ⟨b1+1,0,none⟩=some (Fv tv<|Av xv)):=ai (λW hW=>by
  have FW:=FN.of (B:=B) (pb:=pb) hW;rw[hr];refine(acP HB k hk (HN.af hW) (HP.af hW) (HQ.fn FW) hl hB b1 (b1+1) (X1.below hW) (X2.below hW) n1 n2).mono ?_;rintro e w2⟨rfl,W6,Dm,WY,fi2,hF2⟩;have Y1:=hF2.ls (X1.below hW) n1 qAi;have Y2:=hF2.ls (X2.below hW) n2 qAi;refine⟨rfl,?_,Y1.c 0,Y2.c 0⟩;rw[hR]
  exact⟨rfl,W6,Dm,WY,fi2,F0.trans<|FW.trans hF2⟩)
 clear HB HN HP HQ F0 hR hr hl X1 X2 n1 n2 hzp hk hB;have k1:W0.cell? ⟨b1,0,none⟩=some (Pv pb):=c1 0;have k2:W0.cell? ⟨b1+1,0,none⟩=some (Fv tv<|Av xv):=c2 0;clear c1 c2 f1 f2;go_region_held3(λw'=>w'.cell? ⟨b1,0,none⟩=some (Pv pb)/\w'.cell? ⟨b1+1,0,none⟩=some (Fv tv<|Av xv)) (first|go_keep|(simp[*])) (first|(go_at_call 58;refine(uh HRK _ (jl _ _).drew).mono ?_;rintro e w1⟨rfl,bZ⟩;have dA:=ai<|XS bZ;have k3:w1.cell? ⟨b1,0,none⟩=some (Pv pb):=(jq (a:=⟨b1,0,none⟩)<|(uh dA).block b1 z1).trans k1;have k4:w1.cell? ⟨b1+1,0,none⟩=some (Fv tv<|Av xv):=(jq (a:=⟨b1+1,0,none⟩)<|(uh dA).block (b1+1) z2).trans k2;clear bZ)|(go_at_call 57;with_reducible refine(uh HG _<|uh dA).mono ?_;rintro e w2⟨rfl,hR2,k5,k6⟩;have HR2:=ai hR2;clear hR2))
 all_goals(
  go_wp2
  go_end0
  exact uh HR2)
end
section
open Un
def aeI:BA:=⟨#[108,101,116,32,107,32,61,32,102,117,110,32,120,32,45,62,32,102,117,110,32,121,32,45,62,32,120,59,32,108,101,116,32,97,32,61,32,107,32,49,59]⟩
def aeJ:List Dc:=[.lt false ⟨1,⟨#[107]⟩,4,5⟩<|.mk 9 ⟨#[120]⟩ 0 [.mk 9 ⟨#[121]⟩ 0 [.mk 1 ⟨#[120]⟩ 0 [] 26 27 26] 17 27 21] 8 27 12,.lt false ⟨1,⟨#[97]⟩,33,34⟩<|.mk 8 jY 0 [.mk 1 ⟨#[107]⟩ 0 [] 37 38 37,.mk 3 ⟨#[49]⟩ 1 [] 39 40 39] 37 40 37]
def acd:lF aeI=.ok aeJ:=qkr
namespace In
section
variable {s:St}
theorem Il{g}{o:Except Ft (β×St)}(h:andM jH g s o):∃v,¬s.u v/\g v ⟨s.k,λn=>s.u n\/n=v⟩ o:=by
 obtain⟨x,⟨v,_,e⟩,_⟩|⟨v,s1,⟨v',hv,e⟩,ho⟩:=h
 .cases e
 .grind
theorem pR{m}{g}{o:Except Ft (β×St)}{Q:α->St->Prop}(h:andM m g s o)(hm:∀o,m s o->∃a s',o=.ok (a,s')/\Q a s'):∃a s',Q a s'/\g a s' o:=by
 obtain⟨x,h1,_⟩|⟨a,s1,h1,ho⟩:=h
 .grind
 .grind
def aeK{mk:Mks}{x}{t v:Nat}(h:Γ x=some (mono<|.var v))(hk:s.k=jp)(ho:inf mk (.mk 1 x n [] f t a) Γ s o):∃s',o=.ok (.var v,s')/\s'.k=jp/\∀n,s'.u n↔s.u n:=by
 simp only[inf,li,qT,h,if_true]at ho;rw[hk]at ho;obtain⟨h1,_⟩|⟨_,ρ,s',⟨dP,u',hd,e⟩,rfl⟩:=ho
 .simp[sub,size]at h1
 .cases e
  have hr:∀y,ρ y=none:=λy=>hd.out y ag;refine⟨⟨s.k,u'⟩,by simp[sub,via,hr],hk,λn=>⟨λq=>?_,λq=>(hd.use n).2<|jy q⟩⟩;obtain q|⟨y,_,q⟩:=(hd.use n).1 q
  .exact q
  .rw[hr]at q;cases q
end
def akK{mk:Mks}(ho:inf mk (.mk 9 ⟨#[120]⟩ 0 [.mk 9 ⟨#[121]⟩ 0 [.mk 1 ⟨#[120]⟩ 0 [] 26 27 26] 17 27 21] 8 27 12) (λ_=>none) ⟨jp,u⟩ o):∃v v2 s',v≠v2/\o=.ok (l9 (.var v)<|l9 (.var v2)<|.var v,s')/\s'.k=jp/\s'.u v/\s'.u v2:=by
 have e1:∀Γ,inf mk (.mk 9 ⟨#[120]⟩ 0 [.mk 9 ⟨#[121]⟩ 0 [.mk 1 ⟨#[120]⟩ 0 [] 26 27 26] 17 27 21] 8 27 12) Γ=andM jH λv=>andM (inf mk (.mk 9 ⟨#[121]⟩ 0 [.mk 1 ⟨#[120]⟩ 0 [] 26 27 26] 17 27 21)<|cz Γ ⟨#[120]⟩<|mono<|.var v) λa=>cH<|l9 (.var v) a:=λΓ=>by simp[inf,li,qQ,dr]
 have e2:∀Γ,inf mk (.mk 9 ⟨#[121]⟩ 0 [.mk 1 ⟨#[120]⟩ 0 [] 26 27 26] 17 27 21) Γ=andM jH λv=>andM (inf mk (.mk 1 ⟨#[120]⟩ 0 [] 26 27 26)<|cz Γ ⟨#[121]⟩<|mono<|.var v) λa=>cH<|l9 (.var v) a:=λΓ=>by simp[inf,li,qQ,dr]
 rw[e1]at ho;have⟨v,hv,ho⟩:=Il ho
 obtain⟨a,s1,⟨v2,cR,rfl,k1,u1,u2⟩,ho⟩:=pR (Q:=λa s'=>∃v2,v≠v2/\a=l9 (.var v2) (.var v)/\s'.k=jp/\s'.u v/\s'.u v2) ho (by
  intro o ho;rw[e2]at ho;have⟨v2,UL,ho⟩:=Il ho
  obtain⟨a,s1,⟨rfl,k1,u1⟩,ho⟩:=pR (Q:=λa s'=>a=.var v/\s'.k=jp/\∀n,s'.u n↔((u n\/n=v)\/n=v2)) ho (by
   intro o ho;obtain⟨s',rfl,q1,q2⟩:=aeK (v:=v) (by simp[cz]) rfl ho
   exact⟨_,_,rfl,rfl,q1,q2⟩)
  cases ho
  exact⟨_,_,rfl,v2,λe=>UL<|jz e.symm,rfl,k1,(u1 _).2<|jy<|jz rfl,(u1 _).2<|jz rfl⟩)
 cases ho
 exact⟨v,v2,s1,cR,rfl,k1,u1,u2⟩
def akL{mk:Mks}{v v2:Nat}(cR:v≠v2)(ck:Γ ⟨#[107]⟩=some ⟨l9 (.var v)<|l9 (.var v2)<|.var v,vars []<|l9 (.var v)<|l9 (.var v2)<|.var v⟩){s:St}(hk:s.k=jp)(ho:inf mk (.mk 8 jY 0 [.mk 1 ⟨#[107]⟩ 0 [] 37 38 37,.mk 3 ⟨#[49]⟩ 1 [] 39 40 39] 37 40 37) Γ s o):∃a s' m,o=.ok (a,s')/\sub s'.k a=l9 (.var m) nC:=by
 have hvs:vars [] (l9 (.var v)<|l9 (.var v2)<|.var v)=[v,v2]:=by simp[vars,aU,Un.seen,cR,Ne.symm cR]
 rw[hvs]at ck;have e1:inf mk (.mk 8 jY 0 [.mk 1 ⟨#[107]⟩ 0 [] 37 38 37,.mk 3 ⟨#[49]⟩ 1 [] 39 40 39] 37 40 37) Γ=andM (inf mk (.mk 1 ⟨#[107]⟩ 0 [] 37 38 37) Γ) λa=>andM (cH nC) λb=>andM jH λv=>andM (sW a (l9 b<|.var v) 37 40) λ_=>cH<|.var v:=by simp[inf,li,qQ,dr]
 rw[e1]at ho
 obtain⟨a,s1,⟨n,n2,rfl,hn,k1,u1,u2⟩,ho⟩:=pR (Q:=λa s'=>∃n n2,a=l9 (.var n) (l9 (.var n2)<|.var n)/\n≠n2/\s'.k=jp/\s'.u n/\s'.u n2) ho (by
  intro o ho;simp only[inf,li,qT,ck,if_true]at ho;rw[hk]at ho;obtain⟨h1,_⟩|⟨_,ρ,s',⟨dP,u',hd,e⟩,rfl⟩:=ho
  .rw[cI]at h1;simp[size,ah]at h1
  .cases e
   have⟨n,hn⟩:=Option.ne_none_iff_exists'.1<|hd.all v ag;have⟨n2,IC⟩:=Option.ne_none_iff_exists'.1<|hd.all v2 ag
   refine⟨_,_,rfl,n,n2,by rw[cI];simp[sub,aP,via,hn,IC],λe=>cR<|hd.one v v2 n rfl hn (by rw[e];exact IC),hk,(hd.use n).2<|jz ⟨v,rfl,hn⟩,(hd.use n2).2<|jz ⟨v2,rfl,IC⟩⟩)
 have⟨b,s2,⟨hb,rY⟩,ho2⟩:=pR (Q:=λb s'=>b=nC/\s'=s1) ho<|λo ho=>⟨_,_,ho,rfl,rfl⟩;rw[hb,rY]at ho2;have⟨r,hr,ho⟩:=Il ho2;have hr1:r≠n:=λe=>hr<|e▸u1;have rh:r≠n2:=λe=>hr<|e▸u2
 have⟨x,s3,⟨m,q⟩,ho3⟩:=pR (Q:=λ_ s'=>∃m,sub s'.k (.var r)=l9 (.var m) nC) ho (by
  intro o ho;rw[sW]at ho;simp only[k1,cI]at ho;have σ1:sub (λw=>if w=n then nC else if w=r then l9 (.var n2) nC else .var w) (l9 (.var n)<|l9 (.var n2)<|.var n)=sub (λw=>if w=n then nC else if w=r then l9 (.var n2) nC else .var w) (l9 nC<|.var r):=by
   simp[sub,aP,hn.symm,hr1,Ne.symm rh]
  obtain⟨h1,_⟩|⟨_,_,⟨θ,hm,rfl⟩|⟨h1,_⟩⟩:=ho
  .simp[size,ah]at h1
  .refine⟨_,_,rfl,?_⟩;have g:=hm.gen _ σ1 n2;simp only[if_neg<|Ne.symm hn,if_neg<|Ne.symm rh]at g;have ho:=hm.one;simp only[sub,aP,Ty.aJ.injEq,List.cons.injEq,true_and,and_true]at ho
   cases uW:θ n2 with
   |var m=>exact⟨m,by show sub (λw=>sub θ<|.var w) (.var r)=_;simp only[sub];rw[<-ho.2,ho.1,uW]⟩|aJ c l=>rw[uW]at g;simp[sub]at g
  .exact absurd σ1 (h1 _))
 cases ho3
 exact⟨_,_,m,rfl,q⟩
def aeL{rs}{B}{F}(h:qV rs aeJ (λ_=>none) (λ_=>none) ⟨jp,u⟩ B F):F=none/\B.map (λp=>(p.1,Un.written Go.Proofs.YtlnlhlefeokfjaaGreatDoor.dec p.2))=[(⟨#[107]⟩,[39,118,48,32,45,62,32,39,118,49,32,45,62,32,39,118,48]),(⟨#[97]⟩,[85,110,105,116,32,45,62,32,73,110,116])]:=by
 obtain⟨o,ho,hq⟩:=h;obtain⟨v,v2,s1,cR,rfl,k1,u1,u2⟩:=akK ho;obtain⟨z,_⟩|⟨_,T,B',hT,rfl,hq⟩:=hq
 .rw[k1,cI]at z;simp[size,ah]at z
 .have Xf:T=l9 (.var v) (l9 (.var v2)<|.var v):=by rw[hT,k1,cI];rfl
  subst Xf;obtain⟨o,ho,hq⟩:=hq;have hk:(nxt rs s1).k=jp:=by
   show(if rs then jp else s1.k)=jp
   cases rs
   .exact k1
   .rfl
  obtain⟨a,s2,m,rfl,hs⟩:=akL cR (by simp[cz]) hk ho;obtain⟨z,_⟩|⟨_,T,B'',hT,rfl,hq⟩:=hq
  .rw[hs]at z;simp[size,ah]at z
  .obtain⟨rfl,rfl⟩:=hq;have hv:rK (.mk 8 jY 0 [.mk 1 ⟨#[107]⟩ 0 [] 37 38 37,.mk 3 ⟨#[49]⟩ 1 [] 39 40 39] 37 40 37)=false:=by simp[rK,isC,isM]
   rw[hv,hs]at hT;have Xf:T=l9 mP nC:=by rw[hT];simp[eu,sub,aP]
   subst Xf;have hvs:vars [] (l9 (.var v)<|l9 (.var v2)<|.var v)=[v,v2]:=by simp[vars,aU,Un.seen,cR,Ne.symm cR]
   have hx:([v,v2]:List Nat).idxOf v=0:=ag;have hy:([v,v2]:List Nat).idxOf v2=1:=Cc;have a1:Un.written Go.Proofs.YtlnlhlefeokfjaaGreatDoor.dec (l9 (.var v)<|l9 (.var v2)<|.var v)=[39,118,48,32,45,62,32,39,118,49,32,45,62,32,39,118,48]:=by
    rw[Un.written];rw[hvs];simp only[Un.wr,Un.oe,hx,hy];kernel_rfl
   have a2:Un.written Go.Proofs.YtlnlhlefeokfjaaGreatDoor.dec (l9 mP nC)=[85,110,105,116,32,45,62,32,73,110,116]:=qkr;refine⟨rfl,?_⟩;rw[jx,jx,List.map_nil,a1,a2]
end In
end
end Go.Proofs.YtlnlhlefeokfjaaGreatDoor

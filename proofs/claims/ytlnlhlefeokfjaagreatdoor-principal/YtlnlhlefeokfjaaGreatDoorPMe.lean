import Derived.Test.YtlnlhlefeokfjaaGreatDoorPMd
import Derived.Test.YtlnlhlefeokfjaaGreatDoorPYb
import Derived.Test.YtlnlhlefeokfjaaGreatDoorPFy
set_option linter.all false
set_option maxRecDepth 100000
set_option maxHeartbeats 8000000
namespace Go.Proofs.YtlnlhlefeokfjaaGreatDoor
open In renaming ch->ja,arr->jc,inf->jd,rK->jf,eU->jh,wZ->ji,Mks->jj,cz->jk,tN->jl,St->jm,bN->jo,Env->jp
open _root_.List renaming getElem?_append_right->jq,append_assoc->jt,nil_append->ju,getD_eq_getElem?_getD->jv,mem_map_of_mem->jx,map_append->jy
open _root_.Nat renaming le_of_eq->jz,le_trans->j3,le_of_lt->j5,le_succ->j6
open Or renaming inr->j7,inl->j8
open Pu renaming gB->j9,Tok->qe
open Bool renaming and_eq_true->qf
open Go Go.RowKit Un Proofs.Tryz
variable {st:BA} {dom:BA->Prop} {rc:Bool} {g g1:f_} {Γ:jp} {s s1:jm} {c:JC} {D:List Dc} {p:List Ky} {L l m:List UInt8} {a d f n nb v:Nat} {cB:Nat->Nat} {t x y:Nd} {T:Un.Ty} {w w1 w2:World}
section
open Go.ChangeMaps
abbrev vA:BA:=⟨#[39,97]⟩
def Zr:Lx true [39,97] [(3,[39,97])]:=by
 have h:NmV vA:=⟨97,[],toList_mk _,aw,ag,by simp[Pu.fX,Pu.words,toList_mk,ByteArray.toList_eq]⟩;have:=h.lx
 rwa[show vA.toList=[39,97]from toList_mk _]at this
def alV:Lx false [116,121,112,101,32,76,32,39,97,32,61,32,78,32,124,32,67,32,39,97,32,40,76,32,39,97,41,59] [DS,(2,[76]),(3,[39,97]),yEq,(2,[78]),Ou,(2,[67]),(3,[39,97]),jE,(2,[76]),(3,[39,97]),eA,xI]:=
 Rk.pre ((At 76 aw).post (iJ<|Zr.Ng Zs rfl aw ((At 78 aw).Ng Ov rfl aw ((At 67 aw).post (iJ<|Zr.post (iJ<|tZ.pre<|(At 76 aw).post (iJ<|Zr.post (pk.pre Gb) rfl aw) rfl aw) rfl aw) rfl aw))) rfl aw)
def alW:Lx false [116,121,112,101,32,83,32,61,32,80,32,124,32,81,32,73,110,116,32,66,111,111,108,59] [DS,(2,[83]),yEq,(2,[80]),Ou,(2,[81]),(2,[73,110,116]),(2,[66,111,111,108]),xI]:=
 Rk.pre ((At 83 aw).Ng Zs rfl aw ((At 80 aw).Ng Ov rfl aw ((At 81 aw).post (iJ<|(DX 73 [110,116] aw aw).post (iJ<|(DX 66 [111,111,108] aw aw).post Gb rfl aw) rfl aw) rfl aw)))
def Nh(f g:Nat->Nat):Nat->List Ky->List qe
 |_,[]=>[]|i,k::p=>⟨k.1,⟨k.2.toArray⟩,f i,g i⟩::Nh f g (i+1) p
def DY{f g f' g':Nat->Nat}:∀(p:List Ky)(i:Nat),(∀j,i<=j->f j=f' j/\g j=g' j)->Nh f g i p=Nh f' g' i p
 |[],_,_=>rfl|k::p,i,h=>by rw[Nh,Nh,(h i<|br _).1,(h i<|br _).2,DY p (i+1) λj q=>h j ae]
def Zt:∀(p:List Ky)(T:List qe)(i:Nat),T.map eJ=p->∃f g,T=Nh f g i p
 |[],T,i,h=>⟨λ_=>0,λ_=>0,List.map_eq_nil_iff.1 h⟩|k::p,T,i,h=>by
  obtain⟨t,T,rfl,h1,h2⟩:=List.map_eq_cons_iff.1 h;have⟨f,g,e⟩:=Zt p T (i+1) h2;refine⟨λj=>if j=i then t.aF else f j,λj=>if j=i then t.to else g j,?_⟩;have e2:=DY (f:=λj=>if j=i then t.aF else f j) (g:=λj=>if j=i then t.to else g j) (f':=f) (g':=g) p (i+1) λj q=>⟨if_neg ae,if_neg ae⟩;rw[Nh,e2,<-e,<-h1];simp[eJ,yN]
abbrev CP:List Ky:=[DS,(2,[76]),(3,[39,97]),yEq,(2,[78]),Ou,(2,[67]),(3,[39,97]),jE,(2,[76]),(3,[39,97]),eA,xI,DS,(2,[83]),yEq,(2,[80]),Ou,(2,[81]),(2,[73,110,116]),(2,[66,111,111,108]),xI]
abbrev dL(f g:Nat->Nat):Dc:=.ty ⟨2,⟨#[76]⟩,f 1,g 1⟩ [⟨3,vA,f 2,g 2⟩] [.mk 2 ⟨#[78]⟩ 0 [] (f 4) (g 4)<|f 4,.mk 2 ⟨#[67]⟩ 0 [.mk 16 vA 0 [] (f 7) (g 7)<|f 7,.mk 2 ⟨#[76]⟩ 0 [.mk 16 vA 0 [] (f 10) (g 10)<|f 10] (f 9) (g 10)<|f 9] (f 6) (g 11)<|f 6]
abbrev dS(f g:Nat->Nat):Dc:=.ty ⟨2,⟨#[83]⟩,f 14,g 14⟩ [] [.mk 2 ⟨#[80]⟩ 0 [] (f 16) (g 16)<|f 16,.mk 2 ⟨#[81]⟩ 0 [.mk 2 lh 0 [] (f 19) (g 19)<|f 19,.mk 2 gS 0 [] (f 20) (g 20)<|f 20] (f 18) (g 20)<|f 18]
abbrev dPs(f g:Nat->Nat):List Dc:=[dL f g,dS f g]
abbrev tyL:Ty:=.aJ ⟨#[76]⟩ [.var 1]
abbrev tyS:Ty:=.aJ ⟨#[83]⟩ []
def mkN:jj:=λy=>if y=⟨#[67]⟩then some ([.var 1,tyL],tyL)else if y=⟨#[78]⟩then some ([],tyL)else none
def Au:jj:=λy=>if y=⟨#[81]⟩then some ([In.nC,In.th],tyS)else if y=⟨#[80]⟩then some ([],tyS)else mkN y
def mkA:BA->Option Nat:=yj (yj (yj (yj (λ_=>none) ⟨#[78]⟩ 0) ⟨#[67]⟩ 2) ⟨#[80]⟩ 0) ⟨#[81]⟩ 2
structure MkG(tk:List Ty)(m:Ty):Prop where
 z:size (jc tk m)<=1000
 w:Whole (jc tk m)
 v:∀n,aB n (jc tk m)->aB n m
 t:xJ tk
 f:Wf m
def afz{s:BA}(h:s.size<=4):s≠sK:=λe=>by rw[e]at h;exact absurd h aw
def ag3{y:BA}{tk:List Ty}{m:Ty}(h:Au y=some (tk,m)):MkG tk m:=by
 have oL:DZ ⟨#[76]⟩ 1:=t_ qkr;have oS:DZ ⟨#[83]⟩ 0:=t_ qkr;have oI:DZ lh 0:=t_ qkr;have oB:DZ gS 0:=t_ qkr;have w:∀s:BA,s.size<=4->∀l,lX l->Whole (.aJ s l):=λs h l q=>⟨afz h,q⟩;rw[Au,mkN]at h;repeat' split at h
 all_goals cases h
 .exact⟨by simp[jc,size,ah],w _ aw _ ⟨w _ aw _ trivial,w _ aw _ ⟨w _ aw _ trivial,w _ aw _ trivial,trivial⟩,trivial⟩,by simp[jc,aB,bX],⟨⟨oI,trivial⟩,⟨oB,trivial⟩,trivial⟩,oS,trivial⟩
 .exact⟨by simp[jc,size,ah],w _ aw _ trivial,by simp[jc],trivial,oS,trivial⟩
 .exact⟨by simp[jc,size,ah],w _ aw _ ⟨trivial,w _ aw _ ⟨w _ aw _ ⟨trivial,trivial⟩,w _ aw _ ⟨trivial,trivial⟩,trivial⟩,trivial⟩,by simp[jc,aB,bX],⟨trivial,⟨oL,trivial,trivial⟩,trivial⟩,oL,trivial,trivial⟩
 .exact⟨by simp[jc,size,ah],w _ aw _ ⟨trivial,trivial⟩,by simp[jc],trivial,oL,trivial,trivial⟩
def ajC{y:BA}{tk:List Ty}{m:Ty}(h:mkN y=some (tk,m)):MkG tk m:=by
 have h0:=h;rw[mkN]at h;split at h
 .exact ag3 (y:=⟨#[67]⟩) (by rw[<-h];kernel_rfl)
 split at h
 .exact ag3 (y:=⟨#[78]⟩) (by rw[<-h];kernel_rfl)
 .cases h
def Zu{mks:jj}(h:∀{y tk m},mks y=some (tk,m)->MkG tk m):MkFine mks/\In.MF mks:=⟨⟨λ_ _ _ q=>(h q).z,λ_ _ _ q=>(h q).w,λ_ _ _ q=>(h q).v⟩,λ_ _ _ q=>⟨(h q).t,(h q).f⟩⟩
def ajD:MkA Au mkA:=by
 intro y tk m h;rw[Au,mkN]at h;repeat' split at h
 all_goals cases h
 all_goals(rename_i e;subst e;kernel_rfl)
section
variable (f g:Nat->Nat)
set_option maxRecDepth 100000
def ajE(T:List qe)(n:Nat):eZ (Nh f g 0 CP++T) (n+22) 0=.ok (dL f g,13):=qkr
def ajF(T:List qe)(n:Nat):eZ (Nh f g 0 CP++T) (n+22) 13=.ok (dS f g,22):=qkr
def ajG(T:List qe):aX (tk (Nh f g 0 CP++T) 0) po=true:=qkr
def ag4(T:List qe):aX (tk (Nh f g 0 CP++T) 13) po=true:=qkr
def ajH(f' g':Nat->Nat):(dPs f g).map eD=(dPs f' g').map eD:=qkr
def ag5{B:List Dc}(h:rU Ni B rN mkA Au []):rU Ni (dPs f g++B) Xb (λ_=>none) (λ_=>none) []:=by
 have e1:In.oQ ⟨2,⟨#[76]⟩,f 1,g 1⟩ [⟨3,vA,f 2,g 2⟩] [.mk 2 ⟨#[78]⟩ 0 [] (f 4) (g 4)<|f 4,.mk 2 ⟨#[67]⟩ 0 [.mk 16 vA 0 [] (f 7) (g 7)<|f 7,.mk 2 ⟨#[76]⟩ 0 [.mk 16 vA 0 [] (f 10) (g 10)<|f 10] (f 9) (g 10)<|f 9] (f 6) (g 11)<|f 6] (λ_=>none)=mkN:=qkr;have e2:In.oQ ⟨2,⟨#[83]⟩,f 14,g 14⟩ [] [.mk 2 ⟨#[80]⟩ 0 [] (f 16) (g 16)<|f 16,.mk 2 ⟨#[81]⟩ 0 [.mk 2 lh 0 [] (f 19) (g 19)<|f 19,.mk 2 gS 0 [] (f 20) (g 20)<|f 20] (f 18) (g 20)<|f 18] mkN=Au:=qkr;refine⟨⟨⟨qkr,λj h=>?_,λj h=>?_,by simp[bV,nn]⟩,⟨⟨76,[],toList_mk _,aw⟩,ag,ag,λv hv=>?_,ag,λj h=>?_⟩,?_⟩,⟨⟨qkr,λj h=>absurd h ag,λj h=>?_,by simp[bV,nn]⟩,⟨⟨83,[],toList_mk _,aw⟩,ag,ag,ag,ag,λj h=>?_⟩,?_⟩,?_⟩
 .match j,h with
  |0,_=>show _=_;kernel_rfl
 .match j,h with
  |0,_=>exact⟨qkr,qkr⟩|1,_=>exact⟨qkr,qkr⟩
 .rw[List.mem_singleton.1 hv];exact⟨[97],toList_mk _⟩
 .match j,h with
  |0,_=>exact⟨_,_,_,_,_,_,rfl,ag,λk hk=>absurd hk ag⟩
  |1,_=>exact⟨_,_,_,_,_,_,rfl,ag,λk hk=>match k,hk with
   |0,_=>⟨.var ..,qkr,qkr⟩
   |1,_=>⟨.up _ _ _ _ _ _ (λn=>CQ.DZ ⟨76,[],toList_mk _,aw,ag⟩ aw n) ag λi h=>match i,h with
    |0,_=>.var ..,qkr,qkr⟩⟩
 .rw[e1];exact Zu ajC
 .match j,h with
  |0,_=>exact⟨qkr,qkr⟩|1,_=>exact⟨qkr,qkr⟩
 .match j,h with
  |0,_=>exact⟨_,_,_,_,_,_,rfl,ag,λk hk=>absurd hk ag⟩
  |1,_=>exact⟨_,_,_,_,_,_,rfl,ag,λk hk=>match k,hk with
   |0,_=>⟨.up _ _ _ _ _ _ (λn=>CQ.DZ ⟨73,[110,116],toList_mk _,aw,aw⟩ aw n) ag λi h=>absurd h ag,qkr,qkr⟩|1,_=>⟨.up _ _ _ _ _ _ (λn=>CQ.DZ ⟨66,[111,111,108],toList_mk _,aw,aw⟩ aw n) ag λi h=>absurd h ag,qkr,qkr⟩⟩
 .rw[e1,e2];exact Zu ag3
 .rw[e1,e2];exact h
end
def yO{s t:BA}(h:tk0 s=tk0 t):s=t:=by simpa[tk0]using h
def adu{k:Nat}{s:BA}(h:es x=.mk k s 0 [] 0 0 0)(hk:k≠3/\k≠15):∃n f t a,x=.mk k s n [] f t a:=by
 obtain⟨_,n,M,f,t,a,rfl,q,e⟩:=fJ h;obtain rfl:=q hk.1 hk.2;rw[kL e];exact⟨n,f,t,a,rfl⟩
def adv(hl:Lx false m p)(hg:Xd p D)(hz:(oq++m).length<=400):∃f g B,lF (bs<|oq++m)=.ok (dPs f g++B)/\B.map eD=D:=by
 have hp:Lx false oq CP:=alV.pre alW;have⟨T,e,k⟩:=(hp.pre hl) (bs<|oq++m) 0 (Zw _) (Nat.zero_le _)<|λq=>mE;rw[Pu.Aw (s:=bs<|oq++m) (i:=0+(oq++m).length) (by rw[cq];omega)]at e;obtain⟨T0,T1,rfl,h0,h1⟩:=List.map_eq_append_iff.1 k;obtain⟨f,g,rfl⟩:=Zt _ _ 0 h0;have hlen:T1.length=p.length:=by rw[<-h1];simp
 rw[jt]at e;have h22:(Nh f g 0 CP).length=22:=rfl;have hs:gy (Nh f g 0 CP++(T1++[j9<|bs<|oq++m])) 22 p:=λi hi=>by
  have:tk (Nh f g 0 CP++(T1++[j9<|bs<|oq++m])) (22+i)=T1[i]'(by omega):=by
   rw[tk];rw[jv,jq ae,h22,Nat.add_sub_cancel_left,List.getElem?_append_left ae,List.getElem?_eq_getElem ae];rfl
  rw[this];subst h1;simp
 have Zx:tk (Nh f g 0 CP++(T1++[j9<|bs<|oq++m])) (22+p.length)=j9 (bs<|oq++m):=by
  rw[tk];rw[jv,jq ae,h22,Nat.add_sub_cancel_left,jq ae,hlen];simp
 have hn:(Nh f g 0 CP++(T1++[j9<|bs<|oq++m])).length=p.length+1+22:=by simp[h22,hlen];omega
 have⟨B,e1,hr⟩:=hg.reads _ 22 (p.length+1+22) (p.length+21) (dPs f g) hs ae ae ae (by rw[Zx];rfl);refine⟨f,g,B,?_,e1⟩;rw[lF];rw[if_neg (by rw[cq];omega),e];rw[aV];rw[hn,show p.length+1+22=p.length+21+1+1 from rfl,tV<|.inl<|ajG f g _];simp only[aV,show p.length+21+1+1=p.length+1+22 from rfl,ajE];rw[tV<|.inl<|ag4 f g _];simp only[aV,ajF,ju,List.singleton_append];rw[hr];simp only[Vf,Zx];rfl
def Xe:List Dc->List BA
 |[]=>[]|.ty _ _ _::r=>Xe r|.lt _ t _::r=>t.text::Xe r
structure MB'(L:List UInt8)(B:List Dc):Prop where
 o:rU Ni B rN mkA Au []
 n:Xe B=L.map bY
 l:∀d∈B,∃t b,d=.lt false t b
def MD(L:List UInt8)(D:List Dc):=∀B,B.map eD=D->MB' L B
def D5{t:qe}{b:Nd}:∀{B:List Dc}{nm:List BA},(∀d∈B,∃t b,d=.lt false t b)->rU Ni B rN mkA Au nm->ScE Au Ni (λv=>v∈nm++Xe B\/(false=true/\v=t.text)) b->t.text∈Ni->rU Ni (B++[.lt false t b]) rN mkA Au nm
 |[],nm,_,_,hs,ht=>⟨⟨rfl,by simpa[Xe]using hs,⟨ajD,λ_=>rfl⟩,ht⟩,trivial⟩|d::B,nm,hl,ho,hs,ht=>by
  obtain⟨t',b',rfl⟩:=hl d ag;exact⟨ho.1,D5 (λd q=>hl d qBf) ho.2 (by simpa[Xe]using hs) ht⟩
def Gc:∀l m,Xe (l++m)=Xe l++Xe m
 |[],m=>rfl|.ty _ _ _::l,m=>Gc l m|.lt _ _ _::l,m=>congrArg _<|Gc l m
def ajI:MkS Au:=⟨⟨.var 1,tyL,tyL,qkr⟩,⟨tyL,qkr⟩,[],tyS,qkr⟩
def RdM(L l:List UInt8)(p:List Ky)(D:List Dc):Prop:=Lx false l p/\Xd p D/\MD L D/\Iz D<=l.length
def RdM.next{c:UInt8}(h:RdM L l p D)(hc:Ch c)(ht:TE 5 m t)(k2:Sk L t)(k3:nn t<=m.length):∃p,RdM (L++[c]) (l++[108,101,116,32]++[c]++[61]++m++[59]) p<|D++[.lt false (tk0<|bY c) t]:=by
 obtain⟨h1,h2,h3,h4⟩:=h;obtain⟨q,q1,q2⟩:=ht;have hb:RdB (CL::(1,[c])::yEq::q) [c] t:=⟨q,rfl,q2.d50⟩;have a:=h1.pre<|(Zy.pre<|hc.l.lx1.Ng Zz rfl aw (q1.post Gb rfl aw));refine⟨_,by simpa using a,h2.snoc<|by simpa[bY]using RdE.lt hb,λB hB=>?_,by simp[Iz,Nc]at h4⊢;omega⟩;obtain⟨B0,B',rfl,hB0,hB'⟩:=List.map_eq_append_iff.1 hB;obtain⟨d,B',rfl,hd,hB'⟩:=List.map_eq_cons_iff.1 hB';obtain rfl:=List.map_eq_nil_iff.1 hB';have⟨g1,g2,g3⟩:=h3 B0 hB0
 cases d with
 |ty=>cases hd|lt r t' b=>
  simp only[eD,Dc.lt.injEq]at hd;obtain⟨rfl,BW,ZA⟩:=hd;have BW:t'.text=bY c:=yO BW;refine⟨D5 g3 g1 (k2 b ZA _ ajI _ λc hc=>.inl ?_) (by rw[BW];exact hc.m),by simp[Gc,Xe,g2,BW],λd hd=>?_⟩
  .rw[ju,g2];exact jx hc
  .obtain z|z:=List.mem_append.1 hd
   .exact g3 d z
   .exact⟨_,_,List.mem_singleton.1 z⟩
def MQ.rd(h:MQ L l):(∃m p D,l=oq++m/\RdM L m p D)/\∀c∈L,Ch c:=by
 induction h with
 |zero=>exact⟨⟨[],[],[],rfl,λs i _ _ _=>⟨[],ag,rfl⟩,.nil,λB q=>by
  obtain rfl:=List.map_eq_nil_iff.1 q
  exact⟨trivial,rfl,ag⟩,by simp[Iz]⟩,ag⟩
 |next h hc k hz ih=>
  obtain⟨⟨m,p,D,rfl,ih⟩,hL⟩:=ih;have⟨t,h1,h2,h3⟩:=k.me;have⟨p,q⟩:=ih.next hc h1 h2 h3
  exact⟨⟨_,p,_,ag,q⟩,λc q=>by
   obtain z|z:=List.mem_append.1 q
   .exact hL c z
   .rw[List.mem_singleton.1 z];exact hc⟩
def ag6(d:Dc):Nc (eD d)=Nc d:=by cases d<;>simp[eD,Nc,ZB,Ow]
def ag7(l:List Dc):Iz (l.map eD)=Iz l:=by simp[Iz,Function.comp_def,ag6]
def RdM.Jd(h:RdM L m p D)(hz:(oq++m).length<=400):∃f g B,pq Ni (bs<|oq++m) (dPs f g++B)/\B.map eD=D/\MB' L B/\∀d∈dPs f g++B,In.DcK d:=by
 obtain⟨h1,h2,h3,h4⟩:=h;have⟨f,g,B,r1,r2⟩:=adv h1 h2 hz;have hB:=h3 B r2;refine⟨f,g,B,⟨r1,ag5 f g hB.o,?_,aw⟩,r2,hB,λd hd=>?_⟩
 .rw[<-r2,ag7]at h4;simp[oq]at hz;simp[mG,Nc,nn,bV];omega
 .simp only[List.cons_append,ju,List.mem_cons]at hd;obtain rfl|rfl|hd:=hd
  .simp[In.DcK,In.D6]
  .simp[In.DcK,In.D6]
  .obtain⟨t,b,rfl⟩:=hB.l d hd;trivial
section
variable {ty F:BA->Option Nat}
def Rl:∀L,(dz L).length=L.length
 |[]=>rfl|x::l=>by simp[dz,Rl l]
def ua:∀L,(vH L).length=L.length
 |[]=>rfl|x::l=>by simp[vH,ua l]
mutual
def ZC:∀x,uV ty F (es x)=uV ty F x
 |.mk k s n L f t a=>by
  simp only[es,uV,Rm L,Rl];by_cases h:k=3\/k=15
  .obtain rfl|rfl:=h<;>simp
  .rw[if_neg h]
def Rm:∀L,lP ty F (dz L)=lP ty F L
 |[]=>rfl|x::l=>by simp only[dz,lP,ZC x,Rm l]
end
mutual
def ZD:∀x,uV ty F (er x)=uV ty F x
 |.mk k s n L f t a=>by simp only[er,uV,Ro L,ua]
def Ro:∀L,lP ty F (vH L)=lP ty F L
 |[]=>rfl|x::l=>by simp only[vH,lP,ZD x,Ro l]
end
mutual
def afA:∀x,uV ty F x=true->es x=er x
 |.mk k s n L f t a,h=>by
  simp only[uV,qf]at h;have e:¬(k=3\/k=15):=λq=>by obtain rfl|rfl:=q<;>simp at h
  simp only[es,er,ZE L h.2,if_neg e];rw[if_neg λq=>e<|.inl q]
def ZE:∀L,lP ty F L=true->dz L=vH L
 |[],_=>rfl|x::l,h=>by
  simp only[lP,qf]at h;simp only[dz,vH,afA x h.1,ZE l h.2]
end
mutual
def ub:∀x,uV ty (λ_=>none) x=true->∀ns,aI ns x=((aI [] x).1,ns)/\∀n,¬aB n (aI [] x).1
 |.mk k s n L f t a,h,ns=>by
  simp only[uV,qf]at h;have e:k≠16:=λq=>by subst q;simp at h
  have g:=JV L h.2;simp only[aI,if_neg e];exact⟨by rw[(g ns).1,(g []).1],λn q=>(g []).2 n q⟩
def JV:∀L,lP ty (λ_=>none) L=true->∀ns,aG ns L=((aG [] L).1,ns)/\∀n,¬bX n (aG [] L).1
 |[],_,ns=>⟨rfl,λn q=>q⟩|x::l,h,ns=>by
  simp only[lP,qf]at h;have g:=ub x h.1;have g':=JV l h.2;have e:=(g ns).1;have e':=(g' ns).1;have e0:(aI [] x).2=[]:=congrArg Prod.snd (g []).1;refine⟨?_,λn q=>?_⟩
  .simp only[aG];rw[e0,show(aI ns x).2=ns by rw[e],show(aI ns x).1=(aI [] x).1 by rw[e],show(aG ns l).2=ns by rw[e'],show(aG ns l).1=(aG [] l).1 by rw[e']]
  .simp only[aG]at q;rw[e0]at q;exact q.elim ((g []).2 n)<|(g' []).2 n
end
end
mutual
def Wf.whole:∀t,Wf t->Whole t
 |.var _,_=>trivial|.aJ c l,h=>⟨afz h.1.1,xJ.whole l h.2⟩
def xJ.whole:∀l,xJ l->lX l
 |[],_=>trivial|t::l,h=>⟨Wf.whole t h.1,xJ.whole l h.2⟩
end
def afB{L:List Nd}(h:vH L=[]):L=[]:=by cases L with|nil=>rfl|cons=>cases h
def afC{L:List Nd}{l:List Nd}(h:vH L=x::l):∃y M,L=y::M/\er y=x/\vH M=l:=by
 cases L with
 |nil=>cases h|cons y M=>simp only[vH,List.cons.injEq]at h;exact⟨y,M,rfl,h⟩
def Rp:∀(L:List Nd)(i:Nat)(h:i<L.length),(vH L)[i]'(by rw[ua];exact h)=er L[i]
 |x::l,0,_=>rfl|x::l,i+1,h=>Rp l i Fe
def ot.at:∀nd,ot (er nd)->ot nd:=by
 refine Nd.ind λk s n L f t a ih h=>?_;simp only[er]at h;generalize hM:vH L=M at h
 cases h with
 |var=>rw[afB hM];exact .var ..|two _ _ _ x y _ _ _ hk hx hy=>
  obtain⟨x',M,rfl,ex,e2⟩:=afC hM;obtain⟨y',M,rfl,ey,e2⟩:=afC e2;rw[afB e2]at ih⊢;exact .two _ _ _ _ _ _ _ _ hk (ih x' ag<|ex▸hx)<|ih y' ag<|ey▸hy
 |up _ _ _ _ _ _ hw hl hL=>
  subst hM;rw[ua]at hl;exact .up _ _ _ _ _ _ hw hl λi hi=>ih _ (List.getElem_mem hi) (by have:=hL i (by rw[ua];exact hi);rwa[Rp L i hi]at this)
def sT:Nat->Nat
 |0=>1|d+1=>2*sT d+1
def lT:Nat->Nat
 |0=>4|d+1=>2*lT d+6
def ag8:∀d,1<=sT d
 |0=>by simp[sT]|d+1=>by simp[sT]
def ZF:∀d,4<=lT d
 |0=>by simp[lT]|d+1=>by have:=ZF d;rw[lT];omega
structure MT(d:Nat)(l:List UInt8)(t:Nd):Prop where
 rd:Rd 0 l t
 sz:nn t<=sT d
 len:l.length<=lT d
 ok:uV rN (λ_=>none) t=true
 nd:ot t
 nz:nn t<=l.length
def MT.up(d:Nat){x:UInt8}{r:List UInt8}(hx:Pu.Ax x.toNat=true)(hr:r.all (λy=>Pu.aY y.toNat)=true)(h:(x::r).length<=4)(ho:uV rN (λ_=>none) (xK (bs (x::r)) [])=true):MT d (x::r) (xK (bs (x::r)) []):=by
 refine⟨⟨[(2,(bs (x::r)).toList)],?_,.up0 _⟩,by simpa[nn,xK,bV]using ag8 d,j3 h<|ZF d,ho,.up _ _ _ _ _ _ (λn=>CQ.DZ ⟨x,r,toList_mk _,hx,λy hy=>List.all_eq_true.1 hr y hy⟩ h n) ag λi h=>absurd h ag,by simp[nn,xK,bV]⟩;rw[show(bs (x::r)).toList=x::r from toList_mk _];exact DX x r hx λy hy=>List.all_eq_true.1 hr y hy
def MT.list(h:MT d l t):MT (d+1) ([40,76,32]++l++[41]) (xK (bs [76]) [t]):=by
 refine⟨?_,by have:=h.sz;simp[nn,xK,bV,sT];omega,by have:=h.len;simp[lT];omega,?_,.up _ _ _ _ _ _ (λn=>CQ.DZ ⟨76,[],toList_mk _,aw,ag⟩ aw n) ag λi hi=>match i,hi with|0,_=>h.nd,by have:=h.nz;simp[nn,xK,bV];omega⟩
 .have r0:Rd 3 [76] (xK (bs [76]) []):=⟨[(2,(bs [76]).toList)],by rw[show(bs [76]).toList=[76]from toList_mk _];exact DX 76 [] aw ag,.up _⟩;have:=(r0.arg h.rd).ol.head.rL;simpa using this
 .simp[uV,lP,xK,h.ok];kernel_rfl
def MT.fn{d:Nat}{l m:List UInt8}{x y:Nd}(h:MT d l x)(k:MT d m y):MT (d+1) ([40]++l++[32,45,62,32]++m++[41]) (sFn x y):=by
 refine⟨?_,by have:=h.sz;have:=k.sz;simp[nn,sFn,bV,sT];omega,by have:=h.len;have:=k.len;simp[lT];omega,by simp[uV,lP,sFn,h.ok,k.ok],.two _ _ _ _ _ _ _ _ (.inl rfl) h.nd k.nd,by have:=h.nz;have:=k.nz;simp[nn,sFn,bV];omega⟩;have:=(Rd.fn (h.rd.lv 1)<|k.rd.lv 0).rL;simpa[jt]using this
def MT.pr(h:MT d l x)(k:MT d m y):MT (d+1) ([40]++l++[44,32]++m++[41]) (Ay x y):=by
 refine⟨?_,by have:=h.sz;have:=k.sz;simp[nn,Ay,bV,sT];omega,by have:=h.len;have:=k.len;simp[lT];omega,by simp[uV,lP,Ay,h.ok,k.ok],.two _ _ _ _ _ _ _ _ (.inr rfl) h.nd k.nd,by have:=h.nz;have:=k.nz;simp[nn,Ay,bV];omega⟩;have:=Rd.pair (h.rd.lv 0)<|k.rd.lv 0;simpa[jt]using this
def tOf(x y:Nd):Nd:=.mk 14 jY 0 [x,y] 0 0 0
def ie.of{q:List Ky}(h:ie 0 p x)(h':Gr 2 q t)(ht:uV rN (λ_=>none) t=true):ie 5 (jE::(p++(Ox::(q++[eA])))) (tOf x t):=by
 refine⟨yP _,λT k n hs hn hT=>?_⟩;simp only[kh,lz,qP]at hn hT;have h0:=hs.hd;have hp:=hs.tl.left;have hm:=hs.tl.right.hd;have hq:=hs.tl.right.tl.left;have hc:=hs.tl.right.tl.right.hd;obtain⟨⟨c,r,rfl,NH⟩,hr⟩:=h;have⟨nd,e,hr⟩:=hr T (k+1) n hp ae ae<|kI hm aw;have⟨yQ,e2,rh⟩:=h'.reads T _ n hq ae ae<|qG hc aw aw;have e3:es yQ=t:=by rw[afA yQ (by rw[<-ZD (ty:=rN),e2];exact ht)];exact e2
 refine⟨.mk 14 jY 0 [nd,yQ] (tk T k).aF (aR T<|k+1+(c::r).length+1+q.length+1) (tk T k).aF,by simp[es,dz,e,e3,tOf],?_⟩;show aH T _ _ 3 k=_;rw[aH];rw[ud h0,gA h0];rw[eQ];rw[kJ hp.hd NH];simp only[aV,hr,iK,kJ hm<|show Ox≠(5,[44]) by decide,gA hm,rh,pu _ hc];simp;omega
def ajJ{c:UInt8}(hc:c∈L)(hn:Ch c)(h:MT 3 m t):TE 5 ([40]++[c]++[58]++m++[41]) (tOf (eB (1,[c])) t)/\Sk L (tOf (eB (1,[c])) t)/\nn (tOf (eB (1,[c])) t)<=([40]++[c]++[58]++m++[41]).length:=by
 have hs:=h.sz;simp[sT]at hs;refine⟨?_,?_,by have:=h.nz;simp[tOf,nn,bV,pw];omega⟩
 .have⟨q,q1,q2⟩:=h.rd.lv 0;have hx:TE 5 [c] (eB (1,[c])):=⟨_,hn.l.lx1,ie.leaf λ_ _=>⟨qkr,qkr⟩⟩;have⟨p,p1,p2⟩:=hx.d50;have a:=(tZ.pre<|p1.Ng (JW 58 qkr) rfl aw (q1.post pk rfl aw)).tJ;exact⟨_,by simpa using a,p2.of q2 h.ok⟩
 .intro nd e mks hm dom hl;obtain⟨s',n',M,f,t',a,rfl,_,e2⟩:=fJ e;obtain⟨x',M,rfl,ex,e2⟩:=gC e2;obtain⟨y',M,rfl,ey,e2⟩:=gC e2;rw[kL e2];have hk:uV rN (λ_=>none) y'=true:=by rw[<-ZC,ey];exact h.ok
  have hw:=ZG y' hk [];have g:=ub t h.ok [];rw[ey]at hw;refine .of _ _ _ _ _ _ _ _ (ZH hc x' ex mks hm dom hl) ?_ ?_ (by rw[ey];exact hw.whole) hk (by obtain⟨_,⟨_,q⟩,_⟩:=hm;rw[q];simp)
  .rw[ey,List.eq_nil_iff_forall_not_mem];exact λn q=>g.2 n<|In.aq.1 q
  .rw[ey];have:=(qH t []).1;omega
namespace In
def JX{κ:Nat->Nat}(hR:Ren κ (vars [] T))(σ:Nat->Ty):∃θ,sub θ (sub (jK κ) T)=sub σ T:=by
 classical
 refine⟨λn=>if e:∃v,v∈vars [] T/\κ v=n then σ e.choose else .var n,?_⟩;rw[sub_sub];refine sub_congr _ λv o=>?_;have e:∃v',v'∈vars [] T/\κ v'=κ v:=⟨v,aq.2 o,rfl⟩;simp only[jK,sub,e,dite_true];rw[hR _ e.choose_spec.1 _ (aq.2 o) e.choose_spec.2]
def adw{rs:Bool}{mk:Mks}{ρ:Nat->Nat}{s':St}{G G':Env}(h:Gd ρ s s' G G'){x:BA}(hG:G x=some ⟨T,vars [] T⟩)(hz:size T<=48){t:qe}{e n1 f1 ee a1:Nat}{sn:BA}{τ:Ty}(hy:(aI []<|es y).1=τ)(hv:∀n,¬aB n τ)(hτ:size τ<=48){B:List (BA×Ty)}{F:Option Ft}(q:qV rs [.lt false t<|.mk 14 sn n1 [.mk 1 x n [] f e a,y] f1 ee a1] mk G' s' B F):
 (F=none/\B=[(t.text,τ)]/\∃σ,sub σ T=τ)\/∃z,F=some z/\z.f.kind=6/\¬∃σ,sub σ T=τ:=by
 have fx:∀σ,sub σ τ=τ:=λσ=>fs λn q=>absurd q<|hv n;obtain⟨z,_⟩|⟨c,c',q1,q2,q3⟩:=h.env x
 .rw[hG]at z;cases z
 rw[hG]at q1;obtain rfl:=Option.some.inj q1;have e1:c'.of=sub (jK ρ) T:=by
  have:=q3.of;rw[kM]at this
  rwa[h.top.fix hG,h.JY.fix q2]at this
 have e2:=h.JY.fix q2;have hv0:vars [] τ=[]:=by rw[List.eq_nil_iff_forall_not_mem];exact λn q=>hv n<|aq.1 q
 obtain⟨o,ho,q⟩:=q;have ei:inf mk (.mk 14 sn n1 [.mk 1 x n [] f e a,y] f1 ee a1) G'=andM (qT G' x f e) λa=>andM (sW a τ f e) λ_=>cH τ:=by simp[inf,li,qQ,dr,iV,hv0,hy,kZ,BT]
 simp only[ch,Bool.false_eq_true,if_false]at ho;rw[ei]at ho;simp only[andM,qT,q2,cH]at ho;rw[e2,e1,o8]at ho;obtain⟨_,⟨z,_⟩|⟨_,_,_,_,e3⟩,_⟩|⟨_,_,⟨z,_⟩|⟨_,lG,s2,⟨dP,u',hd,e3⟩,e4⟩,ho⟩:=ho
 .omega
 .cases e3
 .omega
 cases e3
 cases e4
 rw[q3.any]at hd;have hv:∀v,v∈vars [] T->∃k,lG (ρ v)=some k/\¬s'.u k:=λv hv=>by
  have⟨k,hk⟩:=Option.ne_none_iff_exists'.1<|hd.all (ρ v)<|jx hv;exact⟨k,hk,hd.new (ρ v) k rfl hk⟩
 have e4:sub (via lG) (sub (jK ρ) T)=sub (jK λv=>(lG<|ρ v).getD 0) T:=by
  rw[sub_sub];refine sub_congr _ λv o=>?_;have⟨k,hk,_⟩:=hv v<|aq.2 o;simp[jK,sub,via,hk]
 have hR:Ren (λv=>(lG<|ρ v).getD 0) (vars [] T):=λm hm n hn e=>by
  have⟨k,hk,_⟩:=hv m hm;have⟨k',iX,_⟩:=hv n hn;simp only[hk,iX,Option.getD_some]at e;subst e;have t1:=(h.top x _ hG).2 m hm;have t2:=(h.top x _ hG).2 n hn;exact h.rel.inj m n (q3.dom m hm) (q3.dom n hn) t1.1 t1.2 t2.1 t2.2<|hd.one _ _ _ rfl hk iX
 have e5:sub s'.k (sub (via lG)<|sub (jK ρ) T)=sub (via lG) (sub (jK ρ) T):=by
  rw[e4];refine fs λn hn=>?_;have⟨v,o1,o2⟩:=(bN _).1 hn;have⟨k,hk,iX⟩:=hv v<|aq.2 o1;simp only[jK,hk,Option.getD_some,aB]at o2;subst o2;exact h.Ge.1 _ iX
 rw[e4]at e5 ho;generalize(λv=>(lG<|ρ v).getD 0)=κ at hR e5 ho;have back:(∃σ,sub σ T=τ)->∃σ,sub σ (sub (jK κ) T)=sub σ τ:=λ⟨σ,hσ⟩=>by
  have⟨θ,e⟩:=JX hR σ;exact⟨θ,by rw[fx,e,hσ]⟩
 have fwd:∀θ,sub θ (sub (jK κ) T)=sub θ τ->∃σ,sub σ T=τ:=λθ e=>⟨λv=>θ<|κ v,by rw[fx,iu]at e;exact e⟩;have hE:∀o,sW (sub (jK κ) T) τ f e ⟨s'.k,u'⟩ o->(∃s3,o=.ok ((),s3)/\∃σ,sub σ T=τ)\/∃z,o=.error z/\z.f.kind=6/\¬∃σ,sub σ T=τ:=λo ho=>by
  simp only[sW]at ho;rw[e5,fx,o8]at ho;obtain⟨z,_⟩|⟨_,_,⟨θ,uW,rfl⟩|⟨hn,rfl⟩⟩:=ho
  .omega
  .exact .inl ⟨_,rfl,fwd θ uW.one⟩
  .exact .inr ⟨_,rfl,rfl,λq=>by have⟨σ,q⟩:=back q;exact hn σ q⟩
 obtain⟨z,hz,rfl⟩|⟨_,s3,hz,rfl⟩:=ho
 .obtain⟨_,q,_⟩|⟨z',q,hk⟩:=hE _ hz
  .cases q
  .cases q
   exact .inr ⟨z,q.2,hk⟩
 .obtain⟨_,_,hs⟩|⟨_,q,_⟩:=hE _ hz
  .obtain⟨z,_⟩|⟨_,T',B',Xf,rfl,rfl,rfl⟩:=q
   .rw[fx]at z;omega
   .rw[Xf,if_pos<|by simp[rK,Nq],fx];exact .inl ⟨rfl,rfl,hs⟩
  .cases q
end In
def Gf{rs:Bool}:∀{l:List Dc}{mk:jj}{Γ:jp}{s:jm}{B:List (BA×Ty)},In.qV rs l mk Γ s B none->B.map (·.1)=Xe l
 |[],_,_,_,_,⟨h,_⟩=>by subst h;rfl|.ty _ _ _::l,_,_,_,_,h=>Gf (l:=l) h|.lt _ _ _::l,_,_,_,_,⟨o,_,h⟩=>by
  match o,h with
  |.error _,h=>exact absurd h.2 ag|.ok _,h=>
   obtain⟨_,_,h⟩|⟨_,T,B',_,rfl,hr⟩:=h
   .cases h
   .simp[Xe,Gf (l:=l) hr]
def ZI:∀{B B':List Dc},B.map eD=B'.map eD->cU (In.DcE False) B B'
 |[],[],_=>.nil|[],_::_,h=>MO|_::_,[],h=>MO|d::B,d'::B',h=>by
  simp only[List.map_cons,List.cons.injEq]at h;refine .cons ?_<|ZI h.2;have h:=h.1
  cases d<;>cases d'<;>simp only[eD,Dc.ty.injEq,Dc.lt.injEq,reduceCtorEq]at h
  .refine .ty _ _ _ _ _ _ (yO h.1) ?_ h.2.2;have:=congrArg (List.map Pu.Tok.text) h.2.1;simpa[Function.comp_def,tk0]using this
  .obtain⟨rfl,h1,h2⟩:=h;exact .lt _ _ _ _ _ (yO h1) False.elim ⟨h2,False.elim⟩
def ajK:In.Gd (λn=>n) ⟨Ty.var,λ_=>False⟩ ⟨Ty.var,λ_=>False⟩ (λ_=>none) (λ_=>none):=
 ⟨jl _,jl _,λ_ _ q=> mE,λ_ _ q=> mE,⟨λ_ _ u _=>u.elim,λ_ _ _ _ u _ _ _ _=>u.elim⟩,λ_=>.inl ⟨rfl,rfl⟩⟩
abbrev adx(rs:Bool)(B:List Dc)(Z:List (BA×Ty))(F:Option In.Ft):Prop:=In.qV rs B (λ_=>none) (λ_=>none) ⟨Ty.var,λ_=>False⟩ Z F
def JZ(h:MQ L l)(h0:L≠[])(hz:l.length<=380)(ht:MT 3 m t):∃B,pq Ni (bs l) B/\∀rs Z,adx rs B Z none->∃c T,Z.getLast? =some (bY c,T)/\(size T<=48->l.length+m.length+11<=400->
 ∃B',pq Ni (bs<|l++[108,101,116,32,119,61,40]++[c]++[58]++m++[41,59]) B'/\∀Vg Z' F',adx Vg B' Z' F'->(F'=none/\(∃Z1,Z'=Z1++[(⟨#[119]⟩,(aI [] t).1)])/\∃σ,sub σ T=(aI [] t).1)\/∃z,F'=some z/\z.f.kind=6/\¬∃σ,sub σ T=(aI [] t).1):=by
 obtain⟨⟨m0,p,D,rfl,hD⟩,hL⟩:=h.rd;have⟨f,g,B,r1,r2,r3,r4⟩:=hD.Jd ae;refine⟨_,r1,λrs Z q=>?_⟩;have hn:Z.map (·.1)=L.map bY:=(Gf q).trans r3.n;obtain⟨c,L',hc⟩:∃c L',L=L'++[c]:=⟨L.getLast h0,L.dropLast,(List.dropLast_concat_getLast h0).symm⟩;have afD:(Z.map (·.1)).getLast? =some (bY c):=by rw[hn,hc];simp
 rw[List.getLast?_map]at afD;have⟨⟨x,T⟩,e1,e2⟩:=Option.map_eq_some_iff.1 afD;have e2:x=bY c:=e2;subst e2;refine⟨c,T,e1,λhT gR=>?_⟩;have hcL:c∈L:=by rw[hc];simp
 have⟨tl,sl,nl⟩:=ajJ hcL (hL c hcL) ht;have⟨p',hD'⟩:=hD.next (c:=119) aw tl sl nl;have⟨f',g',B',s1,s2,s3,s4⟩:=hD'.Jd (by simp at gR⊢;omega);refine⟨dPs f' g'++B',by simpa using s1,λVg Z' F' q'=>?_⟩;obtain⟨B0,B1,rfl,t1,t2⟩:=List.map_eq_append_iff.1 s2;obtain⟨d,B1,rfl,t3,t4⟩:=List.map_eq_cons_iff.1 t2;obtain rfl:=List.map_eq_nil_iff.1 t4
 cases d with
 |ty=>cases t3|lt r tt b=>
  simp only[eD,Dc.lt.injEq]at t3;obtain⟨rfl,u1,u2⟩:=t3;have u1:tt.text=bY 119:=yO u1;obtain⟨s',n',M,f1,t1',a1,rfl,_,e3⟩:=fJ u2;obtain⟨x',M,rfl,ex,e3⟩:=gC e3;obtain⟨y',M,rfl,ey,e3⟩:=gC e3;obtain rfl:=kL e3;obtain⟨n,f,e,a,rfl⟩:=adu (k:=1) (s:=bY c) ex aw;rw[<-jt]at q';obtain⟨x,z⟩|⟨_,mk',ρ,s,s',G,G',Y0,Y1,g1,rfl,g3,g4,g5⟩:=In.Az dec (ZI<|by rw[jy,jy,ajH _ _ f' g',r2,t1]) r4 _ _ _ _ _ _ ajK _ _ _ _ q q'
  .cases z
  .obtain⟨rfl,_⟩|⟨p,g5,g6⟩:=g5
   .cases e1
   .rw[e1]at g5;obtain rfl:=Option.some.inj g5;have gs:=ub t ht.ok [];have hs:=ht.sz;simp[sT]at hs;have hm:=(qH t []).1;rcases In.adw g1 g6 hT (τ:=(aI [] t).1) (by rw[ey]) gs.2 ae g4 with⟨v1,rfl,v2⟩|v
    .exact .inl ⟨v1,⟨Y0,by rw[u1];rfl⟩,v2⟩
    .exact .inr v
end
section
open Go.ChangeMaps Go.MapKept
structure TpD tl(g:f_)(cB:Nat->Nat)n l(D:Nat->Prop):Prop where
 up:∀m,D m->m∈g.ds/\g.nx m=none/\l<g.lv m/\g.lv m≠aL/\cB m=tl
 no:∀m,¬D m->cB m=g.lv m
 hd:∀h,Hd g.nx n h->D h\/g.lv h<=l
 cl:∀a,D a->∀c ps,g.str a=some (c,ps)->∀p,p∈ps->∀h,Hd g.nx p h->D h\/g.lv h<=l
section
variable {l cnt:Nat} {D:Nat->Prop}
def afE(js:JS w g s)(r:np l g s n T)(hD:∀R:Nat->Prop,(∀h,Hd g.nx n h->R h)->(∀a k ps p h,R a->g.str a=some (k,ps)->p∈ps->Hd g.nx p h->R h)->∀a,D a->R a):∀a,D a->g.lv a<=l:=λa d=>
 (hD (λx=>x∈g.ds/\g.nx x=none/\g.lv x<=l) (λh k=>⟨js.gl.bM r.mem k,k.head,r.lv h k⟩) (λa k ps p h q hs hp hh=>⟨js.gl.bM (js.jg.Xa a k ps q.1 hs p hp) hh,hh.head,j3 (js.lc a q.1 q.2.1 k ps hs p hp h hh) q.2.2⟩) a d).2.2
def kN.tp(js:JS w g s)(hl:l+1<aL)(r:np (l+1) g s n T)(d:kN g.str g.nx g.ds g.lv cB n l D):TpD l g cB n l D:=
 ⟨λm q=>by have⟨h1,h2,h3,h4⟩:=d.up m q;exact⟨h1,h2,h3,by have:=afE js r d.re m q;omega,h4⟩,d.no,d.hd,d.cl⟩
def vI.tp(js:JS w g s)(hl:l+1<aL)(r:np (l+1) g s n T)(d:vI g.str g.nx g.ds g.lv cB n l D):TpD aL g cB n l D:=
 ⟨d.up,d.no,λh k=>(d.hd h k).imp id λq=>q.resolve_right (by have:=r.lv h k;omega),λa q k ps hs p hp h hh=>(d.cl a q k ps hs p hp h hh).imp id λz=>z.resolve_right (by
  have h1:=afE js r d.re a q;have h2:=js.lc a (d.up a q).1 (d.up a q).2.1 k ps hs p hp h hh
  omega)⟩
theorem JS.ag9(js:JS w g s){S}(hS:ScD g.str g.ds g.nx S)(hn:n∈g.ds)(hh:∀h,Hd g.nx n h->S h)(o:aB v (g.V n)):∃x,g.R v x/\S x:=by
 classical
 have⟨y,hy⟩:=js.gl.hd n hn;have⟨x,r,q⟩:=fA (lv:=λx=>if S x then 0 else 1) js.jg js.can _ n y hn hy (br _) o;refine⟨x,r,?_⟩;have:=q λa ha na k ps hs p hp h hh=>by
  by_cases z:S a
  .simp[z,hS a ha na z k ps hs p hp h hh]
  .grind
 rw[if_pos<|hh y hy]at this;exact Classical.byContradiction λz=>by rw[if_neg z]at this;omega
def J6(aj:AJ w c nb l cnt g s)(hl:l+1<aL)(nm:∀y d,Γ y=some d->∃m,Cj g s d m)(t1:gi (l+1) c w g s w1 g1 s1)(js:JS w1 g1 s1)(hp:ja rc st x (jd c.mks x) Γ s (.ok (T,s1))){y}(hv:aB v (sub s1.k T))(hy:g1.R v y):ji (mg rc st Γ) s1.k v↔g1.lv y<=l:=by
 have CR:∀z d,mg rc st Γ z=some d->∃m,Cj g s d m:=λz d q=>by
  cases rc with
  |false=>exact nm z d q|true=>
   simp only[mg,if_true,In.lR]at q;split at q
   .cases q
   .exact nm z d q
 have t0:=t1.le<|j6 l;have hl':l<aL:=ae;constructor
 .rintro⟨z,d,q1,q2,q3⟩;have⟨m,k⟩:=CR z d q1;have k1:=k.dX hl' aj js t0;rw[<-k1.val]at q2;have na:¬dY g1 v:=λa=>q3<|(k1.any v).2 ⟨q2,a⟩;rw[t1.st.val m k.mem]at q2;have⟨u,ou,ov⟩:=(jo _).1 q2;have⟨r,r1⟩:=aj.js.om k.mem ou;obtain e|e:=aj.lv r r1.1 r1.2.1
  .have⟨o1,o2,o3⟩:=t1.st.eW r r1.1;have⟨r',hr'⟩:=js.gl.hd r o1;have e':=t1.lo r r1.1 r r' (.here r1.2.1) hr' l (j6 l) e;have ov':aB v (g1.V r):=by rw[js.val r o1<|o2.trans r1.2.2.1,o3,r1.2.2.2];exact ov
   have⟨x2,r2,e2⟩:=fA (lv:=g1.lv) js.jg js.can _ r r' o1 hr' (br _) ov';have e2:=e2 js.lc;rw[r2.one js.jg hy]at e2;omega
  .exfalso;have qa:dY g u:=⟨r,r1,e⟩;rw[t1.root js qa]at ov;simp only[aB]at ov;subst ov;exact na<|t1.ady qa
 .intro e;have eb:ja rc st x (jd c.mks x) Γ=ja rc st x (jd c.mks x) (mg rc st Γ):=by
   cases rc with
   |false=>rfl|true=>
    unfold ja;simp only[if_true];have:∀d,jk (mg true st Γ) st d=jk Γ st d:=λd=>by
     funext z;unfold jk mg In.lR;by_cases q:z=st<;>simp[q]
    simp only[this]
  rw[eb]at hp;have hE:In.bC (λn=>¬s.u n\/ji (mg rc st Γ) s.k n) s (mg rc st Γ):=λz d q=>by
   have⟨m,k⟩:=CR z d q;refine⟨k.use,λn o=>?_,λn o=>?_,k.sub⟩
   .by_cases a:n∈d.any
    .exact j8 a
    .exact j7 (j7 ⟨z,d,q,o,a⟩)
   .have⟨o1,o2⟩:=(k.any n).1 o;obtain⟨r,r1,r2⟩:=o2;refine⟨(aj.js.root r1).2,λb=>?_⟩;obtain b|⟨z',d',b1,b2,b3⟩:=b
    .exact b (aj.js.root r1).1
    .have⟨m',k'⟩:=CR z' d' b1;rw[<-k'.val]at b2;exact b3<|(k'.any n).2 ⟨b2,r,r1,r2⟩
  have⟨kp,ti⟩:=In.iG rc st x (In.mD c.mks x) (mg rc st Γ) s _ aj.js.ok (λn q=>j8 q) hE T s1 hp;have lv:=ti.loc v hv;have⟨u,⟨r,r1,r2⟩,ov⟩:=(t1.st.Vh l (Nat.lt_succ_self l) v).1 ⟨y,hy,e⟩;have hu:=aj.js.root r1;have fu:ji (mg rc st Γ) s.k u:=by
   refine Classical.byContradiction λz=>?_;have nz:¬(¬s.u u\/ji (mg rc st Γ) s.k u):=λq=>q.elim (λq=>q hu.1) z;rw[kp.fix hu.2 nz]at ov;simp only[aB]at ov;subst ov;exact nz lv
  obtain⟨z,d,q1,q2,q3⟩:=fu;have⟨m,k⟩:=CR z d q1;refine⟨z,d,q1,?_,λa=>?_⟩
  .rw[<-Gg t1.ky];exact(jo _).2 ⟨u,q2,ov⟩
  .have⟨r',a1,a2⟩:=t1.ady ((k.any v).1 a).2;rw[a1.one js.jg hy]at a2;omega
end
def vJ(g:f_)l x:=∃S:Nat->Prop,ScD g.str g.ds g.nx S/\(∀y,S y->g.lv y<=l\/g.lv y=aL)/\S x
section
variable {l cnt ak tl:Nat} {bm:Nx} {D:Nat->Prop}
theorem Vi(aj:AJ w c nb l cnt g s)(hl:l+1<aL)(nm:∀y d,Γ y=some d->∃m,Cj g s d m)(a1:AJ w1 c nb (l+1) ak g1 s1)(t1:gi (l+1) c w g s w1 g1 s1)(r1:np (l+1) g1 s1 n T)(hp:ja rc st x (jd c.mks x) Γ s (.ok (T,s1)))(hg:GL w2 g1.ds g1.str bm g1.vr g1.ly cB)(e:iQ g1.str g1.nx bm)(d:TpD (if jf x then aL else l) g1 cB n l D)(F:Fr (jS c g1) w1 w2)(je:JE w2 c nb l ak):
 ∃g2,AJ w2 c nb l ak g2 s1/\gi l c w g s w2 g2 s1/\Cj g2 s1 (jh (mg rc st Γ) s1.k T<|jf x) n:=by
 obtain⟨gx,Xg⟩:∃gx:f_,gx={g1 with nx:=bm,lv:=cB}:=⟨_,rfl⟩;have e0:gx.ds=g1.ds:=by rw[Xg]
 have e1:gx.str=g1.str:=by rw[Xg]
 have e2:gx.nx=bm:=by rw[Xg]
 have e3:gx.lv=cB:=by rw[Xg]
 have e4:gx.vr=g1.vr:=by rw[Xg]
 have e5:gx.V=g1.V:=by rw[Xg]
 have hG:GL w2 gx.ds gx.str gx.nx gx.vr gx.ly gx.lv:=by rw[Xg];exact hg
 have js:=a1.js;have tl2:∀m,D m->cB m=aL\/cB m=l:=λm q=>by
  have:=(d.up m q).2.2.2.2;split at this
  .exact j8 this
  .exact j7 this
 have low:∀m,g1.lv m<=l->cB m=g1.lv m:=λm q=>d.no m λz=>by have:=(d.up m z).2.2.1;omega
 have any:∀m,g1.lv m=aL->cB m=aL:=λm q=>by rw[d.no m λz=>(d.up m z).2.2.2.1 q];exact q
 have bk:∀{m h},Hd gx.nx m h->Hd g1.nx m h:=λk=>e.back js.gl<|e2▸k;have fw:∀{m h},Hd g1.nx m h->Hd gx.nx m h:=λk=>e2▸e.kK _ _ k;have lc1:∀a,a∈g1.ds->g1.nx a=none->cB a<=l->∀k ps,g1.str a=some (k,ps)->∀p,p∈ps->∀h,Hd g1.nx p h->cB h<=cB a:=λa ha hn hz k ps hs p hp h hh=>by
  by_cases q:D a
  .have ea:=(tl2 a q).resolve_left ae;obtain z|z:=d.cl a q k ps hs p hp h hh
   .obtain y|y:=tl2 h z
    .have h1:=(d.up a q).2.2.2.2;have h2:=(d.up h z).2.2.2.2;omega
    .omega
   .rw[low h z];omega
  .rw[d.no a q]at hz⊢;have z:=js.lc a ha hn k ps hs p hp h hh;rw[low h ae];exact z
 have hP:ScD gx.str gx.ds gx.nx (vJ gx l):=λx hx hn⟨S,h1,h2,h3⟩k ps hs p hp h hh=>⟨S,h1,h2,h1 x hx hn h3 k ps hs p hp h hh⟩;have lcx:∀a,a∈gx.ds->gx.nx a=none->vJ gx l a->∀k ps,gx.str a=some (k,ps)->∀p,p∈ps->∀h,Hd gx.nx p h->gx.lv h<=gx.lv a:=λa ha hn hN k ps hs p hp h hh=>by
  have hN':=hP a ha hn hN k ps hs p hp h hh;obtain⟨S,_,q2,q3⟩:=hN;obtain⟨S',_,q2',q3'⟩:=hN';obtain z|z:=q2 a q3
  .rw[e3]at z⊢;exact lc1 a (e0▸ha) ((e.B_ a).1<|e2▸hn) z k ps (e1▸hs) p hp h<|bk hh
  .grind
 have JS2:=JS.cut hG (by rw[e1,e2];exact e.mY _ js.mY) (by rw[Xg];exact js.inj) (λm h k=>by rw[e1,e4,e5];exact js.can m h<|bk k) (by rw[Xg];exact js.val) (by rw[Xg];exact js.use) js.ok hP lcx;have kl:∀m,m∈g1.ds->(∀h,Hd g1.nx m h->g1.lv h<=l)->gx.K (vJ gx l) m:=λm hm q=>by
  refine⟨e0▸hm,λh hh=>⟨λy=>y∈g1.ds/\cB y<=l,λa ha hn z k ps hs p hp h hh=>?_,λy z=>j8 (by rw[e3];exact z.2),js.gl.bM hm<|bk hh,by rw[low h<|q h<|bk hh];exact q h<|bk hh⟩⟩;rw[e0]at ha;rw[e1]at hs;exact⟨js.gl.bM (js.jg.Xa a k ps ha hs p hp)<|bk hh,j3 (lc1 a ha ((e.B_ a).1<|e2▸hn) z.2 k ps hs p hp h<|bk hh) z.2⟩
 have ko:∀m,m∈g.ds->gx.K (vJ gx l) m:=λm hm=>by
  have hm1:=(t1.st.eW m hm).1;have key:∀m,m∈g.ds->∀h,Hd g1.nx m h->(h∈g1.ds/\cB h<=l)\/(h∈g.ds/\g.nx h=none/\g.lv h=aL):=λm hm h hh=>by
   have⟨h0,k0⟩:=aj.js.gl.hd m hm;obtain z|z:=aj.hd hm k0
   .have:=t1.lo m hm h0 h k0 hh l (j6 l) z;exact j8 ⟨js.gl.bM (t1.st.eW m hm).1 hh,by rw[low h this];exact this⟩
   .rw[hh.one (t1.an m hm h0 k0 z).1];exact j7 ⟨aj.js.gl.bM hm k0,k0.head,z⟩
  refine⟨e0▸hm1,λh hh=>⟨λy=>(y∈g1.ds/\cB y<=l)\/(y∈g.ds/\g.nx y=none/\g.lv y=aL),λa ha hn z k ps hs p hp h hh=>?_,λy z=>?_,key m hm h<|bk hh⟩⟩
  .rw[e0]at ha;rw[e1]at hs;obtain z|⟨z1,z2,z3⟩:=z
   .exact j8 ⟨js.gl.bM (js.jg.Xa a k ps ha hs p hp)<|bk hh,j3 (lc1 a ha ((e.B_ a).1<|e2▸hn) z.2 k ps hs p hp h<|bk hh) z.2⟩
   .rw[(t1.st.eW a z1).2.1]at hs;exact key p (aj.js.jg.Xa a k ps z1 hs p hp) h<|bk hh
  .rw[e3];exact z.imp (λq=>q.2) λq=>any y (t1.an y q.1 y (.here q.2.1) q.2.2).2
 have Sn:ScD g1.str g1.ds g1.nx (λy=>D y\/(y∈g1.ds/\g1.lv y<=l)):=λa ha hn z k ps hs p hp h hh=>by
  have hd:=js.gl.bM (js.jg.Xa a k ps ha hs p hp) hh;obtain z|z:=z
  .exact(d.cl a z k ps hs p hp h hh).imp id λq=>⟨hd,q⟩
  .exact j7 ⟨hd,j3 (js.lc a ha hn k ps hs p hp h hh) z.2⟩
 have Snl:∀y,D y\/(y∈g1.ds/\g1.lv y<=l)->cB y<=l\/cB y=aL:=λy z=>by
  obtain z|z:=z
  .grind
  .grind
 have ZK:∀h,Hd g1.nx n h->D h\/(h∈g1.ds/\g1.lv h<=l):=λh hh=>(d.hd h hh).imp id λq=>⟨js.gl.bM r1.mem hh,q⟩;have Sx:∀y,y∈g1.ds->g1.nx y=none->D y\/(y∈g1.ds/\g1.lv y<=l)->gx.K (vJ gx l) y:=λy hy ny z=>by
  refine⟨e0▸hy,λh hh=>?_⟩;rw[(bk hh).one<|.here ny];exact⟨_,λa ha hn z k ps hs p hp h hh=>Sn a (e0▸ha) ((e.B_ a).1<|e2▸hn) z k ps (e1▸hs) p hp h<|bk hh,λy z=>by rw[e3];exact Snl y z,z⟩
 have kn:gx.K (vJ gx l) n:=by
  refine⟨e0▸r1.mem,λh hh=>?_⟩;exact(Sx h (js.gl.bM r1.mem<|bk hh) (bk hh).head<|ZK h<|bk hh).2 h (.here hh.head)
 have V2:∀{m},gx.K (vJ gx l) m->(gx.cut<|vJ gx l).V m=g1.V m:=λq=>by rw[(bI q).2.2,e5]
 have rt:∀{v y},(gx.cut<|vJ gx l).R v y↔g1.R v y/\gx.K (vJ gx l) y:=λ{v y}=>by
  constructor
  .rintro⟨q1,q2,q3,q4⟩;have k:=cS.1 q1;rw[(bI k).2.1,e2]at q2;rw[(bI k).1,e1]at q3;exact⟨⟨e0▸k.1,(e.B_ y).1 q2,q3,by have:gx.vr y=v:=q4;rw[e4]at this;exact this⟩,k⟩
  .rintro⟨⟨q1,q2,q3,q4⟩,k⟩;exact⟨cS.2 k,by rw[(bI k).2.1,e2];exact(e.B_ y).2 q2,by rw[(bI k).1,e1];exact q3,by show gx.vr y=v;rw[e4];exact q4⟩
 have lvx:(gx.cut<|vJ gx l).lv=cB:=e3;refine⟨gx.cut<|vJ gx l,⟨je,JS2,a1.us,λm hm hn=>?_,λm hm=>a1.lo m<|e0▸(cS.1 hm).1⟩,⟨⟨λm hm=>?_,λm hm=>?_,λi hi v=>?_⟩,λm hm h k q=>?_,λm hm h h' k k' i hi z=>?_,λm hm=>t1.nw m<|e0▸(cS.1 hm).1,?_,t1.ky,t1.um⟩,⟨cS.2 kn,?_,λv=>?_,λv o=>?_,λv q=>(In.Gh q).1⟩⟩
 .have k:=cS.1 hm;rw[(bI k).2.1]at hn;have⟨S,_,q2,q3⟩:=k.2 m<|.here hn;rw[lvx,<-e3];exact q2 m q3
 .have⟨o1,o2,o3⟩:=t1.st.eW m hm;have k:=ko m hm;exact⟨cS.2 k,by rw[(bI k).1,e1,o2],by show gx.vr m=_;rw[e4,o3]⟩
 .rw[V2<|ko m hm];exact t1.st.val m hm
 .rw[<-t1.st.Vh i ae v];constructor
  .rintro⟨y,r,z⟩;rw[lvx]at z;refine⟨y,(rt.1 r).1,?_⟩;rw[<-d.no y λq=>by obtain h|h:=tl2 y q<;>omega];exact z
  .rintro⟨y,r,z⟩;exact⟨y,rt.2 ⟨r,kl y r.1 λh hh=>by rw[hh.one<|.here r.2.1];omega⟩,by rw[lvx,low y ae];exact z⟩
 .have⟨k1,q1⟩:=t1.an m hm h k q;exact⟨(adz hG (fw k1)<|ko m hm).1,by rw[lvx];exact any h q1⟩
 .have:=t1.lo m hm h h' k (bk<|ag_ hG (ko m hm) k') i ae z;rw[lvx,low h' ae];exact this
 .exact t1.fr.trans' F λb q=>by
   obtain q|q|q:=q
   .omega
   .omega
   .exact(t1.nw b q).imp (λz=>j7<|j7 z) id
 .rw[V2 kn,r1.val];exact(js.ok.rA T).symm
 .rw[V2 kn,r1.val];have ZL:aB v (sub s1.k T)->∃y,g1.R v y/\(D y\/(y∈g1.ds/\g1.lv y<=l)):=λo=>js.ag9 Sn r1.mem ZK (by rw[r1.val];exact o);have aha:∀{y},g1.R v y->(D y\/(y∈g1.ds/\g1.lv y<=l))->(dY (gx.cut<|vJ gx l) v↔cB y=aL):=λ{y}r q=>by
   constructor
   .rintro⟨y',r',z⟩;rw[<-(rt.1 r').1.one js.jg r,<-lvx];exact z
   .exact λz=>⟨y,rt.2 ⟨r,Sx y r.1 r.2.1 q⟩,by rw[lvx];exact z⟩
  cases hv:jf x with
  |false=>
   simp only[jh];constructor
   .intro q;cases q
   .rintro⟨o,a⟩;exfalso;have⟨y,r,q⟩:=ZL o;have z:=(aha r q).1 a;obtain q|q:=q
    .have:=(d.up y q).2.2.2.2;rw[hv]at this;simp only[Bool.false_eq_true,if_false]at this;omega
    .grind
  |true=>
   simp only[jh,if_true,In.zL,List.mem_filter,decide_eq_true_eq];constructor
   .rintro⟨o,nf⟩;have o:=In.aq.1 o;have⟨y,r,q⟩:=ZL o;refine⟨o,(aha r q).2 ?_⟩;have nl:=λz=>nf<|(J6 aj hl nm t1 js hp o r).2 z;have dy:=q.resolve_right λz=>nl z.2;have:=(d.up y dy).2.2.2.2;rw[hv]at this;exact this
   .rintro⟨o,a⟩;refine⟨In.aq.2 o,λf=>?_⟩;have⟨y,r,q⟩:=ZL o;have z:=(aha r q).1 a;have:=(J6 aj hl nm t1 js hp o r).1 f;rw[low y this]at z;omega
 .have o:aB v (sub s1.k T):=o;rw[<-r1.val]at o;have⟨y,r⟩:=js.om r1.mem o;exact(js.root r).1
end
def ajL rc st x(Γ:jp)c nb l D g(s:jm)cnt w e w':=
 (∃n g' s' aE T,e=.returned (nA n)/\ja rc st x (jd c.mks x) Γ s (.ok (T,s'))/\AJ w' c nb l aE g' s'/\gi l c w g s w' g' s'/\aE<=cnt+D/\Cj g' s' (jh (mg rc st Γ) s'.k T<|jf x) n)\/vC c (ja rc st x (jd c.mks x) Γ) g s w e w'
section
variable {w' W:World} {l cnt b:Nat} {v:Value}
def AJ.Vh(a:AJ w c nb l cnt g s)l'(hl:l<=l'):AJ (w.setCell ⟨c.eb,4,none⟩<|Nv l') c nb l' cnt g s:=a.eng (gw _ _ _ _) (a.je.bx.aT 4 _ _ rfl ag) hl
def J7{y}(Hx:lV x)(h:BdJ rc st x c w nb l cnt g s Γ dom v)(fb:l+1+nn x<=805):Cq 305 #[nA c.eb,.agg #[.bool rc,Nv a,Nv y,.string st,v]] w (ajL rc st x Γ c nb l (1000*(1+nn x)) g s cnt w):=by
 have fa:=h.fa;have o1:=gw w c.eb 4<|Iv<|(l:Int)+1;have k1:Bq (w.setCell ⟨c.eb,4,none⟩<|Iv<|(l:Int)+1) ((w.setCell ⟨c.eb,4,none⟩<|Iv<|(l:Int)+1).alloc<|Cv #[.bool rc,Nv a,Nv y,Sv st,v] 130):=bw _;have h1:=h.aj.kE<|br _;have b1:=Bx.at (w.setCell ⟨c.eb,4,none⟩<|Iv<|(l:Int)+1) #[.bool rc,Nv a,Nv y,Sv st,v] 130 w.heap.size o1.size.symm;have ze:=h.aj.je.bx.z;have a1:=(h.aj.Vh (l+1)<|j6 l).af k1;have pe1:=(h.pe.move (w':=w.setCell ⟨c.eb,4,none⟩<|Iv<|(l:Int)+1) (Q:=λb=>b<c.lo) (jz o1.size.symm) (λb p _=>o1.block b λe=>by have:=h.aj.je.z;omega)<|λ_ p _=>p).af k1;have en1:=(h.en.one o1<|h.en.afl h.aj.je).af k1;obtain⟨W1,HW⟩:∃W,W=(w.setCell ⟨c.eb,4,none⟩<|Iv<|(l:Int)+1).alloc (Cv #[.bool rc,Nv a,Nv y,Sv st,v] 130):=⟨_,rfl⟩;have k1':Fr (jS c g) w W1:=by rw[HW];exact(o1.fr<|j7<|j8 rfl).trans (Fr.of k1)
 have a1:AJ W1 c nb (l+1) cnt g s:=by rw[HW];exact a1
 have en1:b_ W1 nb Γ g s:=by rw[HW];exact en1
 have pe1:PE W1 (λb=>b<c.lo) x v:=by rw[HW];exact pe1
 have b1:Bx W1 w.heap.size #[.bool rc,Nv a,Nv y,Sv st,v]:=by rw[HW];exact b1
 have t1:gi (l+1) c w g s W1 g s:={gi.refl h.aj.js c (l+1)with fr:=k1'};have H1:=YR (a:=a) (y:=y) Hx ⟨a1,en1,pe1,h.sc,h.hd,h.fa,fb,h.mf⟩;have nm:∀y d,Γ y=some d->∃m,Cj g s d m:=λy d q=>by
  have⟨L,_,hq⟩:=h.en;obtain⟨q1,_⟩|⟨d',m,q1,_,q3⟩:=hq y
  .rw[q1]at q;cases q
  .rw[q1]at q;injection q with q;subst q;exact⟨m,q3⟩
 have l1:l+1<aL:=qAx;have HK:∀w2 w4 w5 n2 g2 s2 cT T2 bm cB D,ja rc st x (jd c.mks x) Γ s (.ok (T2,s2))->AJ w2 c nb (l+1) cT g2 s2->gi (l+1) c W1 g s w2 g2 s2->np (l+1) g2 s2 n2 T2->cT<=cnt+1000*(1+nn x)->Below w2.heap.size (w2.setCell ⟨c.eb,4,none⟩<|Nv l) w4->GL w5 g2.ds g2.str bm g2.vr g2.ly cB->Fr (λb=>b∈g2.ds) w4 w5->iQ g2.str g2.nx bm->TpD (if jf x then aL else l) g2 cB n2 l D->ajL rc st x Γ c nb l (1000*(1+nn x)) g s cnt w (Rv<|nA n2) w5:=λw2 w4 w5 n2 g2 s2 cT T2 bm cB D p2 a2 t2 r2 hc k4 hg F e d=>by
  have o:=gw w2 c.eb 4<|Nv l;have F':Fr (jS c g2) w2 w5:=((o.fr<|j7<|j8 rfl).trans<|Fr.of<|k4.mono<|jz o.size).trans<|F.gh λb q=>j7<|j7 q;have bx:=((a2.je.bx.aT 4 (Nv l) (UX c nb l) rfl ag).below (k4.mono<|jz o.size)).fr F (a2.je.Af a2.js);have ct:=(((a2.je.ct.one o<|Ne.symm a2.je.ne.1).below<|k4.mono<|jz o.size).fr F<|a2.je.Ag a2.js);have⟨g5,a5,t5,n5⟩:=Vi h.aj l1 nm a2 (t1.trans h.aj.js a1.js a2.js t2) r2 p2 hg e d F'<|a2.je.fr a2.js F' bx ct;exact j8 ⟨n2,g5,s2,cT,T2,rfl,p2,a5,t5,hc,n5⟩
 have HF:=And.intro t1.fr<|λb=>h.aj.YL (b:=b);have f4:=h.aj.je.bx.c 4;have f5:=h.aj.je.bx.f 4;have HV:=And.intro pe1 b1;obtain⟨tx,ax,rfl⟩:=h.pe.iface;obtain⟨c1,c2,c3⟩:=b1;go_enter func305,ntmps305;go_wp2_with fail;rw[<-HW];refine H1.mono ?_;rintro e w2(⟨n2,g2,s2,cT,T2,rfl,P2,A2,T2',hc2,R2⟩|hb)
 .have o:=gw w2 c.eb 4<|Nv l;have f6:=A2.je.bx.c 4;have f7:=A2.je.bx.f 4;have zl:=c3;have bb:=HV.2.fr T2'.fr h1;have⟨d1,d2,d3⟩:=bb.one o ae;have pe3:=(HV.1.move (Q:=λb=>b<c.lo) T2'.fr.size (λb p q=>T2'.fr.block b q<|HF.2 b p)<|λ_ p _=>p).move (w':=w2.setCell ⟨c.eb,4,none⟩<|Nv l) (Q:=λb=>b<c.lo) (jz o.size.symm) (λb p _=>o.block b λe=>by have:=A2.je.z;omega)<|λ_ p _=>p;have HI:=pV x _ _ _ pe3;have b3:=((A2.je.bx.aT 4 (Nv l) (UX c nb l) rfl ag).c 4);go_wp2_with fail;refine HI.mono ?_;rintro e w4⟨rfl,K4⟩;have g4:=((A2.js.eb A2.je<|gw w2 c.eb 4<|Nv l).af K4).gl;have l4:=((A2.je.bx.aT 4 (Nv l) (UX c nb l) rfl ag).below K4).c 4
  cases hv:jf x with
  |true=>
   have HG:=ahb (fp g2.ds g2.lv l) w4 g2.nx g2.lv n2 l g4 R2.mem<|br _;go_wp2_with fail;refine HG.mono ?_;rintro e w5⟨rfl,Ot,lv5,D,hg,F,E,z5,d⟩;have HX:=HK w2 w4 w5 n2 g2 s2 cT T2 Ot lv5 D P2 A2 T2' R2 hc2 (K4.mono<|jz (gw w2 c.eb 4<|Nv l).size.symm) hg F E (by rw[hv,if_pos rfl];exact d.tp A2.js l1 R2)
   go_wp2
   go_ret;exact HX
  |false=>
   have HG:=Gi (dp g2.ds g2.lv l) w4 g2.nx g2.lv n2 l g4 R2.mem<|br _;go_wp2_with fail;refine HG.mono ?_;rintro e w5⟨rfl,Ot,lv5,D,hg,F,E,z5,d⟩;have HX:=HK w2 w4 w5 n2 g2 s2 cT T2 Ot lv5 D P2 A2 T2' R2 hc2 (K4.mono<|jz (gw w2 c.eb 4<|Nv l).size.symm) hg F E (by rw[hv,if_neg ag];exact d.tp A2.js l1 R2)
   go_wp2
   go_ret;exact HX
 .have HX:=show vC c (ja rc st x (jd c.mks x) Γ) g s w e w2 from by obtain⟨z,vl,vr,q1,q2,q3,q4⟩:=hb;exact⟨z,vl,vr,q1,q2,q3,HF.1.trans q4⟩
  obtain⟨z,vl,vr,rfl,-⟩:=hb
  go_wp2
  exact⟨rfl,j7 HX⟩
end
section
variable {l cnt D:Nat} {p:In.MM Ty}
def Dsj w c nb l cnt D p g(s:jm)fn T xs:=
 (∀W:World,Bq w W->Cq fn #[nA c.eb,.agg xs] W (c_ c nb l D p g s cnt W))->Cq 309 #[nA c.eb,.iface T<|.agg xs] w (c_ c nb l D p g s cnt w)
def dj{t}:
 (∀{st},Dsj w c nb l cnt D p g s 313 253 #[Nv f,Nv t,.string st])/\
 (∀{tx ty ax ay},Dsj w c nb l cnt D p g s 316 287 #[Nv f,Nv t,.iface tx<|.agg ax,.iface ty<|.agg ay])/\
 (∀{tx ty ax ay},Dsj w c nb l cnt D p g s 321 299 #[Nv f,Nv t,.iface tx<|.agg ax,.iface ty<|.agg ay])/\
 (∀{tx ty tz ax ay az},Dsj w c nb l cnt D p g s 318 293 #[Nv f,Nv t,.iface tx<|.agg ax,.iface ty<|.agg ay,.iface tz<|.agg az])/\
 (∀{n sc sa tx ax},Dsj w c nb l cnt D p g s 319 296 #[Nv f,Nv t,.iface tx<|.agg ax,.slice sa n sc]):=by
 refine⟨?_,?_,?_,?_,?_⟩;all_goals
  intros;intro H;go_enter func309,ntmps309;go_wp2_with fail;refine(H _<|bw _).mono ?_;intro e w1 hp;have HP:=ai<|hp.up<|bw _;obtain⟨n1,-,-,-,-,rfl,-⟩|⟨z,vl,vr,rfl,-⟩:=hp
  .go_wp2
   go_ret;exact HP
  .go_wp2
   exact⟨rfl,HP⟩
def Gk{t T}{cn}{xs}(hq:T=256/\cn=lh/\(∃n:Nat,xs=#[Nv f,Nv t,Nv n])\/T=259/\cn=gS/\(∃n:Bool,xs=#[Nv f,Nv t,.bool n])\/T=309/\cn=jC/\xs=#[Nv f,Nv t])(aj:AJ w c nb l cnt g s)(hc:cnt+1<=900000):Cq 309 #[nA c.eb,.iface T<|.agg xs] w (c_ c nb l 1000 (In.cH<|.aJ cn []) g s cnt w):=by
 have hu:oA cn:=by obtain⟨-,rfl,-⟩|⟨-,rfl,-⟩|⟨-,rfl,-⟩:=hq;exact Fo;exact qA;exact tj
 have k0:Bq w (w.alloc<|Cv xs T):=bw _;have H1:=agK (aj.af k0) hu hc;have N0:=n8.start (aj.af k0)<|In.cH<|Ty.aJ cn [];have K0:=ai k0;obtain⟨rfl,rfl,n,rfl⟩|⟨rfl,rfl,n,rfl⟩|⟨rfl,rfl,rfl⟩:=hq;all_goals
  go_enter func309,ntmps309;go_wp2_with fail;first|refine QF.mono ?_|refine vd.mono ?_|refine zU.mono ?_
  rintro e w1⟨rfl,rfl⟩;go_wp2_with fail;refine H1.mono ?_;rintro e w2⟨n2,g2,cT,rfl,a2,t2,c2,r2⟩;have HX:=((N0.step a2 t2).ret (D:=1000) (cnt0:=cnt) r2 ae).up K0
  go_wp2
  go_ret;exact HX
end
section
variable {l cnt:Nat}
def ZM{t}{vx vy v}(Hx:lV x)(h:oY (.mk 14 st n [x,y] f t a) c w nb l cnt g s Γ dom v)(hx:PE w (λb=>b<c.lo) x vx)(hy:PT w (λb=>b<c.lo) y vy):
 Cq 316 #[nA c.eb,.agg #[Nv f,Nv t,vx,vy]] w (c_ c nb l (1000*nn (.mk 14 st n [x,y] f t a)) (jd c.mks (.mk 14 st n [x,y] f t a) Γ) g s cnt w):=by
 have en:nn (.mk 14 st n [x,y] f t a)=1+nn x+nn y:=QG;obtain⟨sx,hv,hz⟩:ScE c.mks c.nl dom x/\vars [] (aI []<|es y).1=[]/\size (aI []<|es y).1<=1000:=by
  cases h.sc with
  |of _ _ _ _ _ _ _ _ hx hv hz _=>exact⟨hx,hv,hz⟩|two _ _ _ _ _ _ _ _ _ hk=>omega|lt _ _ _ _ _ _ _ _ _ _ hk=>omega
 have⟨n0,em⟩:=afF hy [] (λm o=>by have:=In.aq.2 o;rw[hv]at this;cases this) hz;have ei:=ZN c.mks st n x y f t a Γ hv;rw[em]at hz hv ei;obtain⟨M,hM⟩:∃M,M=m0 y:=⟨_,rfl⟩;have Ad:=afG y n0;rw[Gl]at Ad;rw[<-hM]at hv hz Ad ei;dsimp only at hv hz ei;have hT:∀v,¬aB v M:=λv o=>by have:=In.aq.2 o;rw[hv]at this;cases this
 have fa:=h.fa;rw[en]at fa;have hny:=rZ y;have H:=mi.start h ei;have HL:∀b,b<c.lo->¬jS c g b:=λb p=>h.aj.YL p
 replace en:=ai en
 clear h ei hM em;have HX:=ai hx;have HY:=ai hy;obtain⟨tx,ax,rfl⟩:=hx.iface;obtain⟨ty,ay,rfl⟩:=hy.bO;have UR:=hx.place;dsimp only[PlF]at UR;clear hx hy;go_enter func316,ntmps316;go_wp2_with fail;refine H.box.ex (D2:=2000) Hx HX sx ?_ uX uX;intro T1 n1 s1 ak g1 w1 H;have⟨⟨_,b1,b2,b3⟩,_⟩:=H.p;have fr1:=H.n.n.t.fr;have HO:=Ad w1 _ _<|HY.move (Q:=λb=>b<c.lo) fr1.size (λb p q=>fr1.block b q<|HL b p)<|λ_ p _=>p;go_wp2_with fail;refine HO.mono ?_;rintro e w2⟨u2,rfl,wU,F2⟩;obtain⟨tu,xu,rfl⟩:=wU.iface;have zc:=H.n.n.a.je.ct.z;have H:=H.af<|F2.none λ_ q=>q;have cn:=H.cn;go_wp2_with fail;refine(YN H.n.n.a wU (λb p=>by have:w1.heap.size<=b:=p;omega) hz hT (by rw[uh en]at cn;omega)).mono ?_;rintro e w3⟨n3,g3,vw,rfl,a3,t3,c3,r3⟩;have H:=H.nde (D2:=500) a3 t3 c3 r3 ae;clear b1 b2 b3 a3 t3 r3;have⟨⟨⟨_,b1,b2,b3⟩,_⟩,_⟩:=H.p;go_wp2_with fail;refine(dR _ _).mono ?_;rintro e w4⟨rfl,k4⟩;have H:=H.af k4;go_wp2_with fail;refine H.eq H.p.1.2 H.p.2 ?_;intro s5 g5 w5 H
 go_wp2
 go_ret;exact H.ret H.p.2
end
end
section
open Go.ChangeMaps
def ZO(hL:Laid w){s t:BA}{a b:Nd}(hs:Vk s a)(ht:Vk t b)(fK:size (aI [] a).1<=48)(agl:size (aI (aI [] a).2 b).1<=48):Cq 10 #[.string s,.string t] w λe w'=>∃z ok f,e=.returned (.tuple #[.string<|bs z,.bool ok,oC f])/\agA (aI [] a).1 (aI (aI [] a).2 b).1 z ok f/\Bq w w':=by
 have⟨bP,B0⟩:=oF w zF 31;have bZ:Bq w ((w.alloc<|Cv zF 31).alloc<|Cv #[Iv 0] 3):=bP.alloc ag _;have B1:=B0.alloc<|Cv #[Iv 0] 3;have C1:Bx ((w.alloc<|Cv zF 31).alloc<|Cv #[Iv 0] 3) (w.heap.size+1) #[Iv 0]:=by have:=Bx.new (w.alloc<|Cv zF 31) #[Iv 0] 3;simpa using this
 have Ae:=(qH a []).2;have hsn:=hs.n;have hW:=Gm hs.t [];have hW2:=Gm ht.t (aI [] a).2;go_enter func10,ntmps10;go_wp2_with(go_at_call 19;refine tG.mono ?_;rintro e w'⟨rfl,rfl⟩);refine(FD (w.heap.size+1) C1).mono ?_;rintro e w2⟨kb,fb,mb,rfl,N2,gd,rC⟩;have du:=bZ.trans<|gd.mono bZ.size;have B2:=B1.below gd;have HC:=r8 (hL.af du) N2 ag hs fK;go_wp2_with fail;refine HC.mono ?_;rintro e w3⟨v,rfl,F3,N3,T3⟩;simp at rC;have hS:∀x,YG (w.heap.size+1) mb x->w.heap.size<x:=λx q=>by obtain q|q:=q<;>omega
 have oP:=Fr.ph du du.size F3<|λx q=>j5<|hS x q;have B3:=B2.fr F3 (λq=>by have:=hS _ q;omega);have⟨ry,L4⟩:=nbh w3 #[Iv 0,Iv 0,Iv 0] 31;have Ci:=oP.trans<|ry.mono oP.size;have B4:=ai<|B3.below ry;have⟨c4,f4,z4⟩:=uh B4;have⟨d4,g4,y4⟩:=uh L4;rw[oC];obtain⟨tv,xv,rfl⟩:=T3.iface;have T4:=T3.low.af ry;have l3:=N3.lt;have l2:=N2.lt;have HC:=r8 (hL.af Ci) (N3.af ry) (by simp at Ae;omega) ht agl;simp only[dw]at*;go_wp2_with fail;refine HC.mono ?_;rintro e w5⟨v5,rfl,F5,N5,TB⟩;have Zq:=Fr.ph Ci Ci.size F5<|λx q=>j5<|hS x q;have B5:=B4.fr F5 (λq=>by have:=hS _ q;omega);have L5:=L4.fr F5 (λq=>by obtain q|q:=q<;>omega);have T5:=T4.fr F5 (λb p _ q=>by have p1:w2.heap.size<=b:=p.1;obtain q|q:=q<;>omega);have z35:=L5.z;have rS:=B3.z;have L6:=L5.fW rfl (Iv 0) (Iv 0) (Iv 0);have B6:=ai<|B5.afH (b2:=w3.heap.size) ae (Iv 0) (Iv 0)<|Iv 0;have HB6:=((Zq.setCell (p:=⟨w3.heap.size,0,none⟩) (j5 rS)<|Iv 0).setCell (p:=⟨w3.heap.size,1,none⟩) (j5 rS)<|Iv 0).setCell (p:=⟨w3.heap.size,2,none⟩) (j5 rS)<|Iv 0;have F6:=(Fr.refl (λx=>x=w3.heap.size) w5).Gn (b:=w3.heap.size) (j8 rfl) (Iv 0) (Iv 0)<|Iv 0;have T6:=(T5.fr F6 (λb p _ q=>by have q:b=w3.heap.size:=q;have:=p.2;omega)).wide (Q:=λ_=>True) (λ_ _=>trivial);obtain⟨c5,f5,z5⟩:=L5
 have⟨c6,f6,z6⟩:=uh B6;obtain⟨d6,g6,y6⟩:=L6;rw[oC];obtain⟨tb,xb,rfl⟩:=TB.iface;have TB6:=(TB.fr F6 (λb p _ q=>by have q:b=w3.heap.size:=q;have p1:w3.heap.size+1<=b:=(by simpa using p);omega)).wide (Q:=λ_=>True) (λ_ _=>trivial);have HU:=Zn T6 TB6 hW hW2 fK agl;simp only[dw]at*;go_wp2_with fail;refine HU.mono ?_;rintro e w7⟨z,ok,f,rfl,hb7,hR⟩;have HB7:=HB6.trans<|hb7.mono HB6.size;have B7:=B6.below hb7;have B8:=B7.fW rfl (Nv f.kind) (Nv f.aF) (Nv f.to);obtain⟨c7,f7,z7⟩:=B7;rw[oC];go_wp2_with fail;obtain⟨c8,f8,z8⟩:=B8;refine bodyPost_ret (v:=.tuple #[Sv<|bs z,.bool ok,oC f]) (by simp[results,Tryz.results10,go_sem,oC,c8]) rfl ?_;exact⟨z,ok,f,rfl,hR,((HB7.setCell (p:=⟨w.heap.size,0,none⟩) (br _) _).setCell (p:=⟨w.heap.size,1,none⟩) (br _) _).setCell (p:=⟨w.heap.size,2,none⟩) (br _) _⟩
end
section
variable {xb len cap:Nat} {p:Option Addr} {r:Nat->Int}
def alX(xb:Nat)(p:Option Addr)(len cap:Nat)(r:Nat->Int)(d:Nat)(w:World)(e:Ending)(w':World):=∃l t,e=.returned (.string<|bs l)/\MT d l t/\tD xb p len cap r w w'
def Rq:List BA:=[⟨#[73,110,116]⟩,⟨#[66,111,111,108]⟩,⟨#[85,110,105,116]⟩,⟨#[83]⟩]
def Rr(d j:Nat)(hj:j<4):∃l t,Rq.getD j ⟨#[]⟩=bs l/\MT d l t:=by
 have hc:j=0\/j=1\/j=2\/j=3:=ae;obtain rfl|rfl|rfl|rfl:=hc
 .exact⟨[73,110,116],_,rfl,MT.up d aw aw aw qkr⟩
 .exact⟨[66,111,111,108],_,rfl,MT.up d aw aw aw qkr⟩
 .exact⟨[85,110,105,116],_,rfl,MT.up d aw aw aw qkr⟩
 .exact⟨[83],_,rfl,MT.up d aw aw aw qkr⟩
abbrev ZP:Array Value:=#[.string ⟨#[73,110,116]⟩,.string ⟨#[66,111,111,108]⟩,.string ⟨#[85,110,105,116]⟩,.string ⟨#[83]⟩]
def J8(w1:World):Txt (w1.alloc<|.cells ZP 9) w1.heap.size 4 (λj=>Rq.getD j ⟨#[]⟩):=by
 intro j hj;have hc:j=0\/j=1\/j=2\/j=3:=ae;rw[(Bx.new w1 ZP 9).c j];obtain rfl|rfl|rfl|rfl:=hc<;>rfl
def ajM(h:d<=3):lT d<=74:=by
 have hc:d=0\/d=1\/d=2\/d=3:=ae;obtain rfl|rfl|rfl|rfl:=hc<;>simp[lT]
def Rs{p:Prop}(h:p:=by
 rw[e2]
 go_wp2
 go_ret
 exact⟨l,nd,rfl,HM,A2,QL,(HK.below<|al w1).trans Yx⟩):p:=h
def ahc:∀(d:Nat),d<=3->∀(w:World)(A:Nat),Src w xb p len cap r A->Cq 6 #[Pv xb,Nv d,.bool false] w (alX xb p len cap r d w):=by
 have al:∀w1:World,Bq w1<|w1.alloc<|Cv ZP 9:=λw1=>bw _;intro d
 induction d with
 |zero=>
  intro _ w A h;have HC:=qC h 8 ae ae;go_enter func6,ntmps6;go_wp2_with fail;refine HC.mono ?_;rintro e w1⟨q,rfl,q0,q1,A1,HS,HK⟩;go_wp2_with fail;refine(z_ (n:=4) (f:=λj=>Rq.getD j ⟨#[]⟩) (HS.af<|al w1) (J8 w1) ag (by have:=HS.b.z;omega) ae ae).mono ?_;rintro e w2⟨j,hj,rfl,A2,QL,Yx⟩;have⟨l,nd,e2,HM⟩:=Rr 0 j hj;exact Rs
 |succ d ih=>
  intro hd w A h;have IH:=ih ae;have HC:=qC h 8 ae ae;have hd0:(((d+1:Nat):Int)==0)=false:=bD;have BW:((d+1:Nat):Int)-1=(d:Int):=ae;go_enter func6,ntmps6;go_wp2_with fail;refine HC.mono ?_;rintro e w1⟨q,rfl,q0,q1,A1,HS,HK⟩;by_cases h3:q<3
  .go_wp2_with fail;refine(z_ (n:=4) (f:=λj=>Rq.getD j ⟨#[]⟩) (HS.af<|al w1) (J8 w1) ag (by have:=HS.b.z;omega) ae ae).mono ?_;rintro e w2⟨j,hj,rfl,A2,QL,Yx⟩;have⟨l,nd,e2,HM⟩:=Rr (d+1) j hj;exact Rs
  .have h3':decide (q<3)=false:=bD;have hld:=ajM (d:=d) ae;go_wp2_with fail;refine(IH w1 A1 HS).mono ?_;rintro e w2⟨l,nd,rfl,yk,A2,QL,Na⟩;have Yx:=HK.trans Na;have gd:(bs l).size<=74:=by have h1:=yk.len;rw[cq];omega
   by_cases h4:q=3
   .subst h4
    go_wp2
    go_ret;refine⟨_,_,?_,yk.list,A2,QL,Yx⟩;rw[<-df,<-df];rfl
   .have h4':(q==3)=false:=by simpa using h4
    go_wp2_with fail;refine(IH w2 A2 QL).mono ?_;rintro e w3⟨m,Nc,rfl,HM3,A3,Rj,sJ⟩;have HK3:=Yx.trans sJ;have ox:(bs m).size<=74:=by have h1:=HM3.len;rw[cq];omega
    by_cases h6:q<6
    .go_wp2
     go_ret;refine⟨_,_,?_,yk.fn HM3,A3,Rj,HK3⟩;rw[<-df,<-df,<-df,<-df];rfl
    .have h6':decide (q<6)=false:=bD
     go_wp2
     go_ret;refine⟨_,_,?_,yk.pr HM3,A3,Rj,HK3⟩;rw[<-df,<-df,<-df,<-df];rfl
end
end Go.Proofs.YtlnlhlefeokfjaaGreatDoor

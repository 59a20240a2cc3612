import Derived.Test.YtonaidfgokhmoaaGreatDoorYPq
import Derived.Test.YtonaidfgokhmoaaGreatDoorYQd
set_option linter.all false
set_option maxRecDepth 100000
set_option maxHeartbeats 16000000
namespace Go.Proofs.YtonaidfgokhmoaaGreatDoor
open Go renaming Calls->ca,World->ea,Value->fa,Ending->ga
open _root_.Option renaming some->ia,none->ka
open _root_.Bool renaming true->la,false->ra
open _root_.Nat renaming le_succ->ja,zero_le->jc,lt_of_lt_of_le->jd,le_trans->jf,add_zero->jh,ne_of_gt->ji,mul_one->jj,strongRecOn->jk,zero_add->jl
open _root_.List renaming take_succ_eq_append_getElem->jm,take_of_length_le->jo,getElem_mem->jp,drop_eq_getElem_cons->jq,map_cons->jt,drop_length->ju,getElem_cons_succ->jv,cons_append->jx,length_map->jy,getD_eq_getElem?_getD->jz,getElem?_eq_getElem->j3,append_assoc->j5,getElem_map->j6,nil_append->j7
open Go.Proofs.Tryz renaming prog->j8,underlying9->j9
open Pu renaming Tok->qe,gH->qf,d_->qg,AU->qh,a_->qi,fe->qj,dw->qk,at_->ql,Ct->qm
open Or renaming inr->qn,inl->qp
open Go.World renaming cell?_of_block->qr,cell?->qs
open Go.RowKit.Below renaming refl->qt
open In renaming cG->qu,inf->qv,andM->qw,Env->qx
open Bx renaming new->qy
open Bool renaming and_eq_true->qz
open Go.ByteArray renaming toList_eq->q9
open Go Go.RowKit Proofs.Tryz
variable {C xv xx xy:Array fa} {last s st:BA} {lo:BA->Nat} {F mk:BA->Option Nat} {dom:BA->Prop} {c:Cx} {d:Dc} {z:Fl} {Γ:qx} {tys:List (BA×Nat)} {done ns r ux uy:List BA} {q:List Ky} {mks:List MK} {L ms:List Nd} {T vs:List qe} {l:List UInt8} {sm:M Nd} {a b b0 b1 b2 b3 cap cb f fr g gb j k kb n rb sc wb:Nat} {cs:Nat->Nat->fa} {P Q Λ:Nat->Prop} {nd t u x y:Nd} {sa:Option Addr} {σ σ':St} {α:Type} {tv tx:TypeId} {cv mv v vm vv vx:fa} {w w' w0 we:ea} {J:ea->Prop}
section
open Go.ChangeMaps Un
mutual
def NuB:Nd->Prop
 |.mk _ _ n L _ _ _=>n<1000000000/\Bk L
def Bk:List Nd->Prop
 |[]=>True|x::l=>NuB x/\Bk l
end
def Bk.at:∀{L:List Nd},Bk L->∀i(h:i<L.length),NuB L[i]
 |x::l,h,0,_=>h.1|x::l,h,i+1,q=>Bk.at h.2 i (by simpa using q)
def JP(b:Bool):BA:=if b then dJ else cx
def JQ(h:s.toList=dJ.toList\/s.toList=cx.toList):JP (s.toList==[116,114,117,101])=s:=by
 apply toList_inj;obtain h|h:=h
 .rw[h,show dJ.toList=[116,114,117,101]from toList_mk _];exact toList_mk _
 .rw[h,show cx.toList=[102,97,108,115,101]from toList_mk _];exact toList_mk _
section
variable {us:List BA}
def sP(b:Bool)(w:ea):ca j8 172 #[.bool b] w λe w'=>e=.returned (.string<|JP b)/\w'=w:=by
 cases b
 all_goals
  go_in;go_wp2_with(go_at_call 188;go_in);go_ret;exact⟨rfl,rfl⟩
def zY{p:Prop}(h:p:=by
 go_wp2
 go_ret
 exact⟨rfl,bw _⟩):p:=h
def xA(h:PP w0 Q nd v):∃q:Nat,(∀k,k<=1->decide (q<k)=decide (lv nd<5*k))/\∀w,ca j8 185 #[v] w λe w'=>e=.returned (Nv q)/\Bq w w':=by
 have i:∀{p:Nat->Prop},p 0->p 1->∀k,k<=1->p k:=λa b k i=>match k,i with
  |0,_=>a|1,_=>b
 cases h with
 |up s n L f t a y sa sc vs hu hy bK hr=>
  by_cases m:L=[]
  .subst m;refine⟨1,i ?_ ?_,λw=>?_⟩;iterate 2 simp[lv]
   exact zY
  .have hl:0<L.length:=List.length_pos_iff.2 m;refine⟨0,i ?_ ?_,λw=>?_⟩;iterate 2 simp[lv,m]
   exact zY
 |_=>
  refine⟨1,i ?_ ?_,λw=>?_⟩;iterate 2 simp[lv]
  exact zY
def JT{p:Prop}(h:p:=by
 go_wp2_with fail;refine HC.mono ?_;rintro e w1⟨rfl,h1⟩
 go_wp2
 go_end0
 exact⟨rfl,h1⟩):p:=h
def ab_(K:Wd c 187 #[c.p,.iface tv<|.agg xv] us):ClP c 186 (.iface tv<|.agg xv) us:=by
 intro b1 b2 r w h h1 i;obtain⟨c1,f1,z1⟩:=h1;obtain⟨c2,f2,z2⟩:=i;have HC:=K r w h;clear K;go_in;exact JT
def JU(Y:Wd c 187 #[c.p,.iface tv<|.agg xv] us){q:Nat}(Z:∀w,ca j8 185 #[.iface tv<|.agg xv] w λe w'=>e=.returned (Nv q)/\Bq w w')(k:Nat):Wd c 171 #[c.p,.iface tv<|.agg xv,Nv k] (wZ (decide (q<k)) us):=by
 intro r w h;have D:=h.lt;have i:Bq w ((w.alloc<|Cv #[c.p] 72).alloc<|Cv #[Fv tv<|Av xv] 207):=(bw _).alloc ag _;have o:=((Bx.new w #[c.p] 72).alloc<|Cv #[Fv tv<|Av xv] 207);have A:=Bx.at (w.alloc<|Cv #[c.p] 72) #[Fv tv<|Av xv] 207 (w.heap.size+1) ag;have N:=h.af i;have S:=FN.of (B:=c.B) (pb:=c.pb) i;have K:∀w',e7 c r w'->FN c.B c.pb ((w.alloc<|Cv #[c.p] 72).alloc<|Cv #[Fv tv<|Av xv] 207) w'->Dn c r w (Rv<|.tuple #[]) w':=λw' a b=>⟨rfl,a,S.trans b⟩;generalize Dn c r w=R at K⊢;clear h i S;go_in;go_wp;generalize((w.alloc<|Cv #[c.p] 72).alloc<|Cv #[Fv tv<|Av xv] 207)=W0 at o A N K⊢;generalize w.heap.size=b1 at o A D⊢;have HG:=ai (λW hW=>grp (W:=W) (λ_ _=>qkr) (ab_ Y) (by nofun) N o A ae ae hW);have U:=o.c 0;have V:=A.c 0;have z1:=o.z;have z2:=A.z;simp only[List.getElem?_toArray,List.getElem?_cons_zero]at U V;have O:=ai Z;have HR:=ai K;clear Y N o A Z D K
 go_region_held3(λw'=>w'.cell? ⟨b1,0,ka⟩=ia c.p/\w'.cell? ⟨b1+1,0,ka⟩=ia (Fv tv<|Av xv)) (first|go_keep|(simp[*])) (first|(go_at_call 185;refine(uh O _).mono ?_;rintro e X⟨rfl,E⟩;have m:=ai<|zP E;have k3:X.cell? ⟨b1,0,ka⟩=ia c.p:=(qr (a:=⟨b1,0,ka⟩)<|(uh m).block b1 z1).trans U;have k4:X.cell? ⟨b1+1,0,ka⟩=ia (Fv tv<|Av xv):=(qr (a:=⟨b1+1,0,ka⟩)<|(uh m).block (b1+1) z2).trans V;clear E)|(go_at_call 76;with_reducible refine(uh HG _<|uh m).mono ?_;rintro e w2⟨rfl,G,k5,k6⟩;have I:=ai G;clear G))
 all_goals(
  go_wp2
  go_end0
  exact uh HR _ (uh I).1 (uh I).2)
def lf{p:Prop}(h:p:=by
 rintro e w1⟨rfl,H⟩
 go_wp2
 go_end0
 exact H.out):p:=h
def ET{p:Prop}(h:p:=by
 rintro e w4⟨rfl,H⟩;obtain⟨c1,f1,z1⟩:=H.b;go_wp2_with fail;refine(H.put [bH] 9 _ rfl ag).mono ?_;rintro e w5⟨rfl,H⟩
 go_wp2
 go_end0
 exact H.out):p:=h
def xW{p:Prop}(h:p:=by
 rintro e w1⟨rfl,H⟩
 go_wp2
 go_end0
 exact⟨rfl,H⟩):p:=h
def ahj(X:∀w,c.I w->P10 w)(h:PP c.w0 c.Q nd v):NuB nd->∀k:Nat,k<=1->Wd c 171 #[c.p,v,Nv k] (cK nd<|5*k):=by
 have at_:∀{nd:Nd}{v:fa},PP c.w0 c.Q nd v->Wd c 187 #[c.p,v] (sw nd)->∀k:Nat,k<=1->Wd c 171 #[c.p,v,Nv k] (cK nd<|5*k):=λh K k hk=>by
  have⟨q,m,o⟩:=xA h;obtain⟨tv,xv,rfl⟩:=h.iface;have:=JU K o k;rw[m k hk]at this;exact this
 have A:∀{t:BA}{r:List BA}{w:ea}{tv:TypeId}{f:Int}{l:List fa},e7 c ([t]++r) w->ca j8 64 #[c.p,Lv (ia ⟨w.heap.size+1,0,ka⟩) 1 1] ((w.alloc<|Cv (Iv f::l).toArray tv).alloc<|Cv #[Sv t] 9) (Dn c r w):=λ{t r w tv f l}h=>((WP.new h (Iv f) l tv).put [t] 9 (w.heap.size+1) ag ag).mono λe w q=>by rw[q.1];exact q.2.out
 induction h with
 |any s n f t a=>
  intro _;refine at_ (.any s n f t a) ?_;intro r w h;have h:e7 c ([pR]++r) w:=by simpa[sw,jw]using h
  have o:=A (tv:=259) (f:=f) (l:=[Iv t]) h;go_in;go_wp;refine o.mono ?_;exact xW
 |low s n f t a hs=>
  intro _;refine at_ (.low s n f t a hs) ?_;intro r w h;have h:e7 c ([s]++r) w:=by simpa[sw,jw]using h
  have o:=A (tv:=197) (f:=f) (l:=[Iv t,Sv s]) h;go_in;go_wp;refine o.mono ?_;exact xW
 |num s n f t a=>
  intro D;refine at_ (.num s n f t a) ?_;intro r w h;have h:e7 c ([bs<|dec n]++r) w:=by simpa[sw,jw]using h
  have H:=ai<|WP.new h (Iv f) [Iv t,Iv n] 200;go_in;go_wp;refine(adA _ n D.1<|X _ (uh H).s.i).mono ?_;rintro e w1⟨rfl,m⟩;have H:=(uh H).af m;go_wp2_with fail;refine(H.put [bs<|dec n] 9 _ rfl ag).mono ?_;exact lf
 |word s n f t a hs=>
  intro _;refine at_ (.word s n f t a hs) ?_;intro r w h;have h:e7 c ([JP<|s.toList==[116,114,117,101]]++r) w:=by rw[JQ hs];simpa[sw,jw]using h
  generalize(s.toList==[116,114,117,101])=bb at h⊢;have o:=A (tv:=203) (f:=f) (l:=[Iv t,.bool bb]) h;go_in;go_wp2_with(go_at_call 172;refine(sP bb _).mono ?_;rintro e w1⟨rfl,rfl⟩);refine o.mono ?_;exact xW
 |unit s n f t a=>
  intro _;refine at_ (.unit s n f t a) ?_;intro r w h;have h:e7 c ([bT,bH]++r) w:=by simpa[sw,jw]using h
  have o:=(WP.new h (Iv f) [Iv t] 254).put [bT,bH] 9 (w.heap.size+1) ag ag;go_in;go_wp;refine o.mono ?_;exact lf
 |pr s n a b f t at' va vb ha m tK tM=>
  intro D;refine at_ (.pr s n a b f t at' va vb ha m) ?_;intro r w h;obtain⟨E,G,rfl⟩:=ha.iface;obtain⟨N,O,rfl⟩:=m.iface;have h:e7 c ([bT]++(cK a 0++([db]++(cK b 0++([bH]++r))))) w:=by simpa[sw,jw,ij,gw,cK,Qk]using h
  have o:=(WP.new h (Iv f) [Iv t,Fv E<|Av G,Fv N<|Av O] 264).put [bT] 9 (w.heap.size+1) ag ag;go_in;go_wp;refine o.mono ?_;rintro e w1⟨rfl,H⟩;have⟨c1,f1,z1⟩:=H.b;go_wp2_with fail;refine(H.sub<|tK D.2.1 0 ae).mono ?_;rintro e w2⟨rfl,H⟩;have⟨c1,f1,z1⟩:=H.b;go_wp2_with fail;refine(H.put [db] 9 _ rfl ag).mono ?_;rintro e S⟨rfl,H⟩;have⟨c1,f1,z1⟩:=H.b;go_wp2_with fail;refine(H.sub<|tM D.2.2.1 0 ae).mono ?_;exact ET
 |up s n L f t a y sa sc vs hu hy bK hr ih=>
  intro D;refine at_ (.up s n L f t a y sa sc vs hu hy bK hr) ?_;intro r w h;have h:e7 c ([s]++((L.flatMap λx=>cK x 5)++r)) w:=by simpa[sw,jw,pF,List.flatMap_map,cK]using h
  have hL:=CJ L 5;have E:=h.len;simp only[eG,g_]at E;have bK:abV c L.length sa vs:=bK.imp (λe=>by rw[e];rfl) id;have o:=(WP.new h (Iv f) [Iv t,Iv a,Iv y,Sv s,Lv sa L.length sc] 262).put [s] 9 (w.heap.size+1) ag ag;clear hy;go_in;go_wp;refine o.mono ?_;rintro e w1⟨rfl,H⟩;have⟨c1,f1,z1⟩:=H.b;have H:=ai H
  go_wp2
  go_loopg[64] L.length (λgk v wr=>NmR c L r w gk v wr)
  case atStart=>exact⟨0,ai rfl,jc _,rfl,(uh H).s,(uh H).f⟩
  case round=>
   obtain⟨j,G,hj,rfl,P,F⟩:=hrel;by_cases m:j<L.length
   .have U:=kK m;obtain⟨g,rfl,V⟩:=bK.at m P;have⟨tv,xv,W⟩:=(hr j m).iface;rw[Qp _ _ m]at P;have N:=ih j m (D.2.at j m) 1 ae _ wr P;rw[W]at V N;go_wp2_with(go_at_call 171;refine N.mono ?_;rintro e S⟨rfl,O⟩;have R:=ai O;clear O);go_roundg(L.length-(j+1))
    case measure=>rw[uh G];omega
    case rel=>exact⟨j+1,ai rfl,ae,iF,(uh R).1,F.trans (uh R).2⟩
   .have U:=nN m;have N:j=L.length:=ae;subst N;rw[ju]at P
    go_wp2
    go_end0;exact⟨rfl,P,F⟩
end
def kL(k:Nat):Nat:=if k=0 then 0 else k+1
def afc:Nd->Prop
 |.mk k _ _ _ _ _ _=>k=7
def wF{p:Nat->Prop}(i:p 0)(m:p 1)(o:p 2)(A:p 3)(D:p 4):∀k,k<=4->p k:=λk hk=>match k,hk with
 |0,_=>i|1,_=>m|2,_=>o|3,_=>A|4,_=>D
section
variable {us:List BA}
def xX{p:Prop}(h:p:=by
 go_wp2
 go_ret
 exact⟨rfl,qt _ _⟩):p:=h
def Uh(h:PE w0 Q nd v)(i:¬afc nd):∃q:Nat,(∀k,k<=4->decide (q<k)=decide (lv nd<kL k))/\∀w,ca j8 125 #[v] w λe w'=>e=.returned (Nv q)/\Bq w w':=by
 cases h with
 |op=>exact absurd rfl i|call=>
  refine⟨3,wF ?_ ?_ ?_ ?_ ?_,λw=>?_⟩;iterate 5 simp[lv,kL]
  exact xX
 |fn|ite|mt=>
  refine⟨0,wF ?_ ?_ ?_ ?_ ?_,λw=>?_⟩;iterate 5 simp[lv,kL]
  exact xX
 |lt q s n x z f t a y vx vz hc=>
  refine⟨0,wF ?_ ?_ ?_ ?_ ?_,λw=>?_⟩;iterate 5 (obtain rfl|rfl:=hc<;>simp[lv,kL])
  clear hc;exact xX
 |_=>
  refine⟨4,wF ?_ ?_ ?_ ?_ ?_,λw=>?_⟩;iterate 5 simp[lv,kL]
  exact xX
def aca(K:Wd c 127 #[c.p,.iface tv<|.agg xv] us):ClP c 126 (.iface tv<|.agg xv) us:=by
 intro b1 b2 r w h h1 i;obtain⟨c1,f1,z1⟩:=h1;obtain⟨c2,f2,z2⟩:=i;have HC:=K r w h;clear K;go_in;exact JT
def YB(HB:Wd c 127 #[c.p,.iface tv<|.agg xv] us){q:Nat}(HQ:∀w,ca j8 125 #[.iface tv<|.agg xv] w λe w'=>e=.returned (Nv q)/\Bq w w')(ht:tv≠216)(k:Nat):Wd c 67 #[c.p,.iface tv<|.agg xv,Nv k] (wZ (decide (q<k)) us):=by
 intro r w h;have o:=h.lt;obtain⟨W,A⟩:∃W,W=((w.alloc<|Cv #[c.p] 72).alloc<|Cv #[Fv tv<|Av xv] 99).alloc (Cv #[Iv 0,Iv 0,Sv ⟨#[]⟩,Zv,Zv] 216):=⟨_,rfl⟩;have i:Bq w W:=by rw[A];exact((bw _).alloc ag _).alloc bQ _
 have D:Bx W w.heap.size #[c.p]:=by rw[A];exact((qy w #[c.p] _).alloc _).alloc _
 have E:Bx W (w.heap.size+1) #[Fv tv<|Av xv]:=by rw[A];exact(Bx.at _ _ _ _ ag).alloc _
 have S:=h.af i;have V:=FN.of (B:=c.B) (pb:=c.pb) i;have N:∀w',e7 c r w'->FN c.B c.pb W w'->Dn c r w (Rv<|.tuple #[]) w':=λw' a b=>⟨rfl,a,V.trans b⟩;generalize Dn c r w=R at N⊢;have X:=ai A;clear h i V A;go_in;go_wp;rw[<-uh X];clear X;generalize w.heap.size=b1 at D E o⊢;have HG:=ai (λU hW=>grp (W:=U) (λ_ _=>qkr) (aca HB) (by nofun) S D E ae ae hW);have Y:=D.c 0;have Z:=E.c 0;have z1:=D.z;have z2:=E.z;simp only[List.getElem?_toArray,List.getElem?_cons_zero]at Y Z;have O:=ai HQ;have HR:=ai N;clear HB S D E HQ o N;go_region_held3(λw'=>w'.cell? ⟨b1,0,ka⟩=ia c.p/\w'.cell? ⟨b1+1,0,ka⟩=ia (Fv tv<|Av xv)) (first|go_keep|(simp[*])) (first|(go_at_call 125;refine(uh O _).mono ?_;rintro e w1⟨rfl,G⟩;have m:=ai<|zP G;have k3:w1.cell? ⟨b1,0,ka⟩=ia c.p:=(World.cell?_of_block (a:=⟨b1,0,ka⟩)<|(uh m).block b1 z1).trans Y;have k4:w1.cell? ⟨b1+1,0,ka⟩=ia (Fv tv<|Av xv):=(World.cell?_of_block (a:=⟨b1+1,0,ka⟩)<|(uh m).block (b1+1) z2).trans Z;clear G)|(go_at_call 76;with_reducible refine(uh HG _<|uh m).mono ?_;rintro e w2⟨rfl,I,k5,k6⟩;have K:=ai I;clear I))
 all_goals(
  go_wp2
  go_end0
  exact uh HR _ (uh K).1 (uh K).2)
end
def acb(w:ea):(zeroValue 169).run j8 w=.ok .nilFunc w:=qkr
section
variable {us:List BA}
def OpL(w:ea)(pb:Nat)(mv:fa)(s:BA):=∃mb a b d e o lx ly:Nat,mv=Mv mb/\lx<=4/\ly<=4/\(a≠pb/\b≠pb/\d≠pb/\e≠pb)/\(Bx w a #[Pv pb]/\Bx w b #[Nv o]/\Bx w d #[Nv lx]/\Bx w e #[Nv ly])/\(∀W:ea,W.heap=w.heap->(Instr.lookup 81 (Mv mb) (.string s) ra).run j8 W=.ok (opW a b d e) W)/\∀n x y f t q,(∀k:Nat,k<=4->decide (o<k)=decide (lv (.mk 7 s n [x,y] f t q)<kL k))/\sw (.mk 7 s n [x,y] f t q)=cK x (kL lx)++(s::cK y (kL ly))
def PM.look{pb:Nat}{mv:fa}(h:PM w pb mv){s:BA}(hs:s=cY\/s=bM\/s=cD\/s=b8):OpL w pb mv s:=by
 obtain⟨K,N,O,R,S,rfl,hn,U,V,X,Y,Z⟩:=h;have E:∀{o G I:Nat}{f:fa},Bi w pb (pb+1) o G I f->ba s [(b8,N),(cY,O),(bM,R),(cD,S)]=ia f->G<=4->I<=4->(∀n x y f t q,(∀k,k<=4->decide (o<k)=decide (lv (.mk 7 s n [x,y] f t q)<kL k))/\sw (.mk 7 s n [x,y] f t q)=cK x (kL G)++(s::cK y (kL I)))->OpL w pb (Mv K) s:=λ{o G I f}hf hg h1 h2 h3=>by
  obtain⟨a,b,d,e,rfl,⟨l1,l2,l3,l4⟩,i⟩:=hf
  exact⟨K,a,b,d,e,o,G,I,rfl,h1,h2,⟨ae,ae,ae,ae⟩,i,λW eW=>by
   have:=(U.same (w':=W)<|by rw[eW]).look (KL.str j9) Tryz.underlying81 (acb W) s trivial (λ_ _=>trivial) ra;rw[this,hg]
   rfl,h3⟩
 have i:cY.toList=[43]:=toList_mk _;have m:bM.toList=[45]:=toList_mk _;have A:cD.toList=[42]:=toList_mk _;have D:b8.toList=[60]:=toList_mk _;obtain rfl|rfl|rfl|rfl:=hs
 .exact E X rfl ae ae λn x y f t q=>⟨wF (by simp[lv,kL,i]) (by simp[lv,kL,i]) (by simp[lv,kL,i]) (by simp[lv,kL,i])<|by simp[lv,kL,i],by simp[sw,jw,ij,gw,cK,lv,kL,i]⟩
 .exact E Y rfl ae ae λn x y f t q=>⟨wF (by simp[lv,kL,m]) (by simp[lv,kL,m]) (by simp[lv,kL,m]) (by simp[lv,kL,m])<|by simp[lv,kL,m],by simp[sw,jw,ij,gw,cK,lv,kL,m]⟩
 .exact E Z rfl ae ae λn x y f t q=>⟨wF (by simp[lv,kL,A]) (by simp[lv,kL,A]) (by simp[lv,kL,A]) (by simp[lv,kL,A])<|by simp[lv,kL,A],by simp[sw,jw,ij,gw,cK,lv,kL,A]⟩
 .exact E V rfl ae ae λn x y f t q=>⟨wF (by simp[lv,kL,D]) (by simp[lv,kL,D]) (by simp[lv,kL,D]) (by simp[lv,kL,D])<|by simp[lv,kL,D],by simp[sw,jw,ij,gw,cK,lv,kL,D]⟩
def afd(s:BA)(f t:Int){ty:TypeId}{S U:Nat}(Hx:Wd c 67 #[c.p,.iface tx<|.agg xx,Nv S] ux)(Hy:Wd c 67 #[c.p,.iface ty<|.agg xy,Nv U] uy)(n0:b0≠c.pb)(n1:b1≠c.pb)(n2:b2≠c.pb)(n3:b3≠c.pb)(h:e7 c ((ux++(s::uy))++r) w)(V:Bx w b0 #[c.p])(W:Bx w b1 #[Iv f,Iv t,.string s,.iface tx<|.agg xx,.iface ty<|.agg xy])(X:Bx w b2 #[Nv S])(Y:Bx w b3 #[Nv U]):
 ca j8 122 #[Pv b0,Pv b1,Pv b2,Pv b3] w (Dn c r w):=by
 have h:e7 c (ux++([s]++(uy++r))) w:=uY;have I:∀w',FN c.B c.pb w w'->Bx w' b0 #[c.p]/\Bx w' b2 #[Nv S]/\Bx w' b3 #[Nv U]:=λ_ F=>⟨F.fB V n0 (by intro x i k;simp at i;subst i;nofun),F.fB X n2 (by intro x i k;simp at i;subst i;nofun),F.fB Y n3 (by intro x i k;simp at i;subst i;nofun)⟩;have H:WP c w b1 _ _ w:=⟨h,FN.refl _ _ _,W,n1,by intro x i k;simp at i;subst i;nofun⟩;have K:=H.sub Hx;have⟨⟨m,o,A⟩,⟨Z,f2,z2⟩,⟨N,O,R⟩⟩:=I _<|FN.refl _ _ _;obtain⟨D,E,G⟩:=W;have KP:=ai I;clear V X Y h H I;go_in;go_wp;clear m D Z N o E f2 O A G z2 R;refine K.mono ?_;rintro e w1⟨rfl,H⟩;have⟨D,E,G⟩:=H.b;have⟨⟨m,o,A⟩,_⟩:=uh KP _ H.f;go_wp2_with fail;clear m D o E A G;refine(H.put [s] 9 _ rfl ag).mono ?_;rintro e w2⟨rfl,H⟩;have⟨D,E,G⟩:=H.b;have⟨⟨m,o,A⟩,_,⟨N,O,R⟩⟩:=uh KP _ H.f;have K:=H.sub Hy;go_wp2_with fail;clear m D N o E O A G R;refine K.mono ?_;rintro e w3⟨rfl,H⟩
 go_wp2
 go_end0;exact H.out
def YC (s:BA) (f t:Int) {ty:TypeId} {o E G:Nat} (V:Wd c 67 #[c.p,.iface tx (.agg xx),Nv E] ux) (X:Wd c 67 #[c.p,.iface ty (.agg xy),Nv G] uy) (nn:b0≠c.pb/\b1≠c.pb/\b2≠c.pb/\b3≠c.pb)
 (h:e7 c (wZ (decide (o<k)) (ux++(s::uy))++r) w) (D:Bx w b0 #[c.p]/\Bx w b1 #[Nv o]/\Bx w b2 #[Nv E]/\Bx w b3 #[Nv G]):
 ca j8 121 #[.agg #[Iv f,Iv t,.string s,.iface tx (.agg xx),.iface ty (.agg xy)],Nv k,Pv b0,Pv b1,Pv b2,Pv b3] w (Dn c r w):=by
 have m:Bq w (w.alloc (Cv #[Iv f,Iv t,Sv s,Fv tx (Av xx),Fv ty (Av xy)] 216)):=bw _;have I:w.heap.size≠c.pb:=by have:=h.lt;omega
 have K:=Qm (caps:=#[Pv b0,Pv w.heap.size,Pv b2,Pv b3]) (F:=122) (decide (o<k))
  (λW=>Bx W b0 #[c.p]/\Bx W w.heap.size #[Iv f,Iv t,Sv s,Fv tx (Av xx),Fv ty (Av xy)]/\Bx W b2 #[Nv E]/\Bx W b3 #[Nv G])
  (λ_ _ F i=>⟨F.fB i.1 nn.1 (by intro x A k;simp at A;subst A;nofun),F.fB i.2.1 I (by intro x A k;simp at A;subst A;nofun),F.fB i.2.2.1 nn.2.2.1 (by intro x A k;simp at A;subst A;nofun),F.fB i.2.2.2 nn.2.2.2 (by intro x A k;simp at A;subst A;nofun)⟩)
  (λ_ _=>qkr) (λr W h i=>afd s f t V X nn.1 I nn.2.2.1 nn.2.2.2 h i.1 i.2.1 i.2.2.1 i.2.2.2) (h.af m) ⟨D.1.below m,qy _ _ _,D.2.2.1.below m,D.2.2.2.below m⟩
 have O:=(D.1.below m).c 0;have R:=(D.2.1.below m).c 0;simp only [List.getElem?_toArray,List.getElem?_cons_zero] at O R;clear D;go_in;go_wp;refine K.mono ?_;rintro e w1 ⟨rfl,A,N⟩;have S:=ai A;have U:=ai ((FN.of m).trans N);clear A N K
 go_wp2
 go_end0;exact ⟨rfl,uh S,uh U⟩
def Ui(hI:∀w,c.I w->PM w c.pb c.mv)(hs:s=cY\/s=bM\/s=cD\/s=b8)(n:Nat)(f t a:Nat){ty:TypeId}(Hx:∀k:Nat,k<=4->Wd c 67 #[c.p,.iface tx<|.agg xx,Nv k] (cK x<|kL k))(Hy:∀k:Nat,k<=4->Wd c 67 #[c.p,.iface ty<|.agg xy,Nv k] (cK y<|kL k))(k:Nat)(hk:k<=4):
 Wd c 67 #[c.p,.iface 216<|.agg #[Nv f,Nv t,.string s,.iface tx<|.agg xx,.iface ty<|.agg xy],Nv k] (cK (.mk 7 s n [x,y] f t a)<|kL k):=by
 intro r w h;obtain⟨W,D⟩:∃W,W=((w.alloc<|Cv #[c.p] 72).alloc<|Cv #[Fv 216<|Av #[Nv f,Nv t,Sv s,Fv tx<|Av xx,Fv ty<|Av xy]] 99).alloc (Cv #[Nv f,Nv t,Sv s,Fv tx<|Av xx,Fv ty<|Av xy] 216):=⟨_,rfl⟩;have m:Bq w W:=by rw[D];exact((bw _).alloc ag _).alloc bQ _
 have O:Bx W w.heap.size #[c.p]:=by rw[D];exact((qy w #[c.p] _).alloc _).alloc _
 have S:Bx W (w.heap.size+2) #[Nv f,Nv t,Sv s,Fv tx<|Av xx,Fv ty<|Av xy]:=by rw[D];exact Bx.at _ _ _ _ ag
 have E:=h.af m;have⟨mb,a0,a1,a2,a3,o,lx,ly,G,l1,l2,nn,K,V,hw⟩:=(hI _ E.i).look hs;have X:=hw n x y f t a;have e1:cK (.mk 7 s n [x,y] f t a) (kL k)=wZ (decide (o<k)) (cK x (kL lx)++(s::cK y (kL ly))):=by unfold cK aw;rw[<-X.1 k hk];show wZ _ (sw _)=_;rw[X.2];rfl
 rw[e1]at E;have F0:=FN.of (B:=c.B) (pb:=c.pb) m;have⟨_,bv,_,hN⟩:=E.pn;have⟨ad,N,_⟩:=hN.bk;have kp:W.cell? ⟨c.pb,3,ka⟩=ia (Mv mb):=by simp[qs,N,G]
 have Y:=ai<|λU(A:Bq W U)=>YC s (f:Int) (t:Int) (Hx lx l1) (Hy ly l2) nn (E.af A) ⟨K.1.below A,K.2.1.below A,K.2.2.1.below A,K.2.2.2.below A⟩;have HR:=ai<|λU U'(A:Bq W U)(q:e7 c r U'/\FN c.B c.pb U U')=>show Dn c r w (Rv<|.tuple #[]) U' from⟨rfl,q.1,F0.trans<|(FN.of A).trans q.2⟩;have hcO:∀args w,(callFunc 121 args).run Tryz.prog w=.ok (.enter 121 args) w:=λ_ _=>qkr;have hlW:=V W rfl;have hlD:=V W.drew rfl;have EW:=ai D;generalize Dn c r w=R at HR⊢;clear h m F0 D E hN N K V hw X e1 Hx Hy l1 l2 nn G hk hs;go_in;go_wp;rw[<-uh EW];clear EW;generalize w.heap.size=b1 at O S⊢;have k1:=O.c 0;simp only[List.getElem?_toArray,List.getElem?_cons_zero]at k1;have c3:=S.c;clear O S;go_region_with(go_at_call 121;refine(uh Y _ (Below.refl _ _).drew).mono ?_;rintro e w2⟨rfl,A⟩;have Z:=ai<|uh HR _ _ (Below.refl _ _).drew A;clear A)
 all_goals(
  go_wp2
  go_end0
  exact uh Z)
end
def Uj(b:Bool)(A:List (Nd×Nd)):List BA:=uE b<|ij<|aN A
def afe(b:Bool){A:List (Nd×Nd)}(h:j<A.length)(r:List BA):Uj b (A.drop j)++r=[if b then sH else oN]++(cK A[j].1 0++([cH]++(cK A[j].2 0++(Uj ra (A.drop<|j+1)++r)))):=by
 rw[jq h];simp[Uj,aN,ij,uE,cK,Qk]
def QV:∀(A:List (Nd×Nd))(b:Bool),A.length<=(Uj b A).length
 |[],_=>jc _|p::A,b=>by
  have:=QV A ra;simp only[Uj,aN,ij,uE,eG,g_]at this⊢;omega
def MtR(c:Cx)(A:List (Nd×Nd))(r:List BA)(w:ea)(i:Nat)(v:fa)(wr:ea):=
 ∃j,Hid (i=A.length-j)/\j<=A.length/\v=Nv j/\e7 c (Uj (decide (j=0)) (A.drop j)++r) wr/\FN c.B c.pb w wr
section
variable {us:List BA}
def CQ(j:Nat)(s:BA)(w:ea):ca j8 65 #[Nv j,.string s] w λe w'=>e=.returned (.string<|if decide (j=0)then s else oN)/\w'=w:=by
 by_cases h:j=0
 .subst h;go_wp2
  go_ret;exact⟨rfl,rfl⟩
 .have h':((j:Int)==0)=ra:=by simp[h]
  go_in;rw[if_neg<|show ¬decide (j=0)=la by simpa using h]
  go_wp2
  go_ret;exact⟨rfl,rfl⟩
def QW{p:Prop}(h:p:=by
 rintro e w1⟨rfl,H⟩;obtain⟨c1,f1,z1⟩:=H.b;go_wp2_with fail;refine(H.put [s,tN] 9 _ rfl ag).mono ?_;rintro e w2⟨rfl,H⟩;obtain⟨c1,f1,z1⟩:=H.b;go_wp2_with fail;refine(H.sub K).mono ?_;rintro e w3⟨rfl,H⟩
 go_wp2
 go_end0
 exact H.out):p:=h
def CR(rb:Bool)(a y:Int)(s:BA)(K:Wd c 67 #[c.p,.iface tx<|.agg xx,Iv 0] us):Wd c 42 #[c.p,.agg #[.bool rb,Iv a,Iv y,.string s,.iface tx<|.agg xx]] (jZ::((if rb=la then[pS]else[])++(s::tN::us))):=by
 intro r w h
 cases rb with
 |false=>
  have h:e7 c ([jZ]++([s,tN]++(us++r))) w:=uY;have i:=(WP.new h (.bool ra) [Iv a,Iv y,Sv s,Fv tx<|Av xx] 101).put [jZ] 9 (w.heap.size+1) ag ag;go_in;go_wp;refine i.mono ?_;exact QW
 |true=>
  have h:e7 c ([jZ]++([pS]++([s,tN]++(us++r)))) w:=uY;have i:=(WP.new h (.bool la) [Iv a,Iv y,Sv s,Fv tx<|Av xx] 101).put [jZ] 9 (w.heap.size+1) ag ag;go_in;go_wp;refine i.mono ?_;rintro e w1⟨rfl,H⟩;have⟨c1,f1,z1⟩:=H.b;go_wp2_with fail;refine(H.put [pS] 9 _ rfl ag).mono ?_;exact QW
def acd(f t:Int)(g sc:Nat)(A:List (Nd×Nd))(V W:Nat->fa)(hg:c.Q g)(hz:g<c.w0.heap.size)(hc:∀i,i<A.length->(∃u v,c.w0.cell? ⟨g,i*4,ka⟩=ia (Iv u)/\c.w0.cell? ⟨g,i*4+1,ka⟩=ia (Iv v))/\c.w0.cell? ⟨g,i*4+2,ka⟩=ia (V i)/\c.w0.cell? ⟨g,i*4+3,ka⟩=ia (W i))(K:Wd c 67 #[c.p,.iface tx<|.agg xx,Iv 0] us)(vP:∀i,i<A.length->∃t x,V i=.iface t (.agg x))(vE:∀i,i<A.length->∃t x,W i=.iface t (.agg x))(KP:∀i(h:i<A.length),Wd c 171 #[c.p,V i,Iv 0]<|cK A[i].1 0)(KE:∀i(h:i<A.length),Wd c 67 #[c.p,W i,Iv 0]<|cK A[i].2 0):
 Wd c 154 #[c.p,.agg #[Iv f,Iv t,.iface tx<|.agg xx,.slice (ia ⟨g,0,ka⟩) A.length sc]] (gW::(us++(Uj la A++[wU]))):=by
 intro r w h;have h:e7 c ([gW]++(us++(Uj la A++([wU]++r)))) w:=uY;have hL:=QV A la;have N:=h.len;simp only[eG,g_]at N;have Hc:=ai hc;clear hc;have o:=(WP.new h (Iv f) [Iv t,Fv tx<|Av xx,Lv (ia ⟨g,0,ka⟩) A.length sc] 250).put [gW] 9 (w.heap.size+1) ag ag;go_in;go_wp;refine o.mono ?_;rintro e w1⟨rfl,H⟩;have⟨E,G,I⟩:=H.b;go_wp2_with fail;refine(H.sub K).mono ?_;rintro e w2⟨rfl,H⟩;have⟨E,G,I⟩:=H.b;have D:=ai H;clear H
 go_wp2
 go_loopg[16] A.length (λgk v wr=>MtR c A ([wU]++r) w gk v wr)
 case atStart=>exact⟨0,ai rfl,jc _,rfl,(uh D).s,(uh D).f⟩
 case round=>
  clear D E G I;obtain⟨j,O,hj,rfl,P,F⟩:=hrel;by_cases m:j<A.length
  .have hd:=kK m;have⟨⟨u1,u2,k0,k1⟩,X,Y⟩:=uh Hc j m;rw[<-P.cell hg hz]at k0 k1 X Y;have o:=KP j m;have Z:=KE j m;have⟨tp,xp,R⟩:=vP j m;have⟨te,xe,S⟩:=vE j m;rw[R]at X o;rw[S]at Y Z;rw[afe _ m]at P;have HF:=ai F;have HD:=CQ j sH;generalize(if decide (j=0)then sH else oN)=d at P HD;have U:=(WP.new P (Iv u1) [Iv u2,Fv tp<|Av xp,Fv te<|Av xe] 247).put [d] 9 (wr.heap.size+1) ag ag;have U:=ai U;clear P F KP KE;go_wp2_with(go_at_call 65;refine(HD _).mono ?_;rintro e w'⟨rfl,rfl⟩);refine(uh U).mono ?_;rintro e w3⟨rfl,H⟩;have⟨E,G,I⟩:=H.b;go_wp2_with fail;refine(H.sub o).mono ?_;rintro e w4⟨rfl,H⟩;have⟨E,G,I⟩:=H.b;go_wp2_with fail;refine(H.put [cH] 9 _ rfl ag).mono ?_;rintro e w5⟨rfl,H⟩;have⟨E,G,I⟩:=H.b;go_wp2_with fail;refine(H.sub Z).mono ?_;rintro e w6⟨rfl,H⟩;have D:=ai H;clear H
   go_wp2
   go_roundg(A.length-(j+1))
   case measure=>rw[uh O];omega
   case rel=>exact⟨j+1,ai rfl,ae,iF,by simpa using(uh D).s,(uh HF).trans (uh D).f⟩
  .have hd:=nN m;have S:j=A.length:=ae;subst S;have P:e7 c ([wU]++r) wr:=by rw[ju]at P;exact P
   have R:Bq wr (wr.alloc<|Cv #[Sv wU] 9):=bw _;have o:=Js [wU] (P.af R) ag wr.heap.size (qy wr _ _) (by have:=P.lt;omega);go_wp2_with fail;refine o.mono ?_;rintro e w7⟨rfl,U,X⟩
   go_wp2
   go_end0;exact⟨rfl,U,F.trans<|(FN.of R).trans X⟩
end
def Bk.arm:∀{A:List (Nd×Nd)},Bk (aN A)->∀i(h:i<A.length),NuB A[i].1/\NuB A[i].2
 |p::l,h,0,_=>⟨h.1,h.2.1⟩|p::l,h,i+1,q=>Bk.arm h.2.2 i (by simpa using q)
section
variable {us:List BA}
def YD(K:Wd c 155 #[c.p,.iface tv<|.agg xv] us)(h1:tv≠239)(h2:tv≠241)(h3:tv≠243)(h4:tv≠250)(h5:tv≠269):Wd c 127 #[c.p,.iface tv<|.agg xv] us:=by
 intro r w h;have i:=K r w h;clear K;go_in;go_wp;refine i.mono ?_;exact xW
def aiK(S:∀w,c.I w->P10 w/\PM w c.pb c.mv)(h:PE c.w0 c.Q nd v):NuB nd->∀k:Nat,k<=4->Wd c 67 #[c.p,v,Nv k] (cK nd<|kL k):=by
 have at_:∀{nd:Nd}{tv:TypeId}{xv:Array fa},¬afc nd->tv≠216->PE c.w0 c.Q nd (Fv tv<|Av xv)->Wd c 127 #[c.p,Fv tv<|Av xv] (sw nd)->∀k:Nat,k<=4->Wd c 67 #[c.p,Fv tv<|Av xv,Nv k] (cK nd<|kL k):=λho ht h K k hk=>by
  have⟨q,m,D⟩:=Uh h ho;have:=YB K D ht k;rw[m k hk]at this;exact this
 have m:∀{nd:Nd}{tv:TypeId}{xv:Array fa},¬afc nd->PE c.w0 c.Q nd (Fv tv<|Av xv)->Wd c 155 #[c.p,Fv tv<|Av xv] (sw nd)->(q:tv≠216/\tv≠239/\tv≠241/\tv≠243/\tv≠250/\tv≠269:=by decide)->∀k:Nat,k<=4->Wd c 67 #[c.p,Fv tv<|Av xv,Nv k] (cK nd<|kL k):=λho h K q=>at_ ho q.1 h<|YD K q.2.1 q.2.2.1 q.2.2.2.1 q.2.2.2.2.1 q.2.2.2.2.2
 induction h with
 |low s n f t a hs=>
  intro D;refine m nofun (.low s n f t a hs) ?_;intro r w h;have h:e7 c ([s]++r) w:=by simpa[sw,jw,ij,gw,cK,Qk]using h
  have H:=WP.new h (Iv f) [Iv t,Sv s] 197;have E:=H.put [s] 9 (w.heap.size+1) ag ag;go_in;go_wp;refine E.mono ?_;exact lf
 |up s n f t a hs=>
  intro D;refine m nofun (.up s n f t a hs) ?_;intro r w h;have h:e7 c ([s]++r) w:=by simpa[sw,jw,ij]using h
  have H:=WP.new h (Iv f) [Iv t,Sv s] 251;have E:=H.put [s] 9 (w.heap.size+1) ag ag;go_in;go_wp;refine E.mono ?_;exact lf
 |num s n f t a=>
  intro D;refine m nofun (.num s n f t a) ?_;intro r w h;have h:e7 c ([bs<|dec n]++r) w:=by simpa[sw,jw]using h
  have H:=ai<|WP.new h (Iv f) [Iv t,Iv n] 200;go_in;go_wp;refine(adA _ n D.1 (S _ (uh H).s.i).1).mono ?_;rintro e w1⟨rfl,G⟩;have H:=(uh H).af G;go_wp2_with fail;refine(H.put [bs<|dec n] 9 _ rfl ag).mono ?_;exact lf
 |word s n f t a hs=>
  intro _;refine m nofun (.word s n f t a hs) ?_;intro r w h;have h:e7 c ([JP<|s.toList==[116,114,117,101]]++r) w:=by rw[JQ hs];simpa[sw,jw]using h
  generalize(s.toList==[116,114,117,101])=bb at h⊢;have E:=(WP.new h (Iv f) [Iv t,.bool bb] 203).put [JP bb] 9 (w.heap.size+1) ag ag;go_in;go_wp2_with(go_at_call 172;refine(sP bb _).mono ?_;rintro e w1⟨rfl,rfl⟩);refine E.mono ?_;exact lf
 |unit s n f t a=>
  intro D;refine m nofun (.unit s n f t a) ?_;intro r w h;have h:e7 c ([bT,bH]++r) w:=by simpa[sw,jw,ij,gw,cK,Qk]using h
  have H:=WP.new h (Iv f) [Iv t] 254;have E:=H.put [bT,bH] 9 (w.heap.size+1) ag ag;go_in;go_wp;refine E.mono ?_;exact lf
 |pr s n x y f t a vx vy hx hy bu cW=>
  intro D;refine m nofun (.pr s n x y f t a vx vy hx hy) ?_;intro r w h;obtain⟨tx,xx,rfl⟩:=hx.iface;obtain⟨ty,xy,rfl⟩:=hy.iface;have h:e7 c ([bT]++(cK x 0++([db]++(cK y 0++([bH]++r))))) w:=by simpa[sw,jw,ij,gw,cK,Qk]using h
  have H:=WP.new h (Iv f) [Iv t,Fv tx<|Av xx,Fv ty<|Av xy] 256;have E:=H.put [bT] 9 (w.heap.size+1) ag ag;go_in;go_wp;refine E.mono ?_;rintro e w1⟨rfl,H⟩;have⟨c1,f1,z1⟩:=H.b;go_wp2_with fail;refine(H.sub<|bu D.2.1 0 ae).mono ?_;rintro e G⟨rfl,H⟩;have⟨c1,f1,z1⟩:=H.b;go_wp2_with fail;refine(H.put [db] 9 _ rfl ag).mono ?_;rintro e N⟨rfl,H⟩;have⟨c1,f1,z1⟩:=H.b;go_wp2_with fail;refine(H.sub<|cW D.2.2.1 0 ae).mono ?_;exact ET
 |of s n x y f t a vx vy hx hy bu=>
  intro D;refine m nofun (.of s n x y f t a vx vy hx hy) ?_;intro r w h;obtain⟨tx,xx,rfl⟩:=hx.iface;obtain⟨ty,xy,rfl⟩:=hy.iface;have h:e7 c ([bT]++(cK x 0++([mY]++(cK y 0++([bH]++r))))) w:=by simpa[sw,jw,ij,gw,cK,Qk]using h
  have H:=WP.new h (Iv f) [Iv t,Fv tx<|Av xx,Fv ty<|Av xy] 258;have E:=H.put [bT] 9 (w.heap.size+1) ag ag;go_in;go_wp;refine E.mono ?_;rintro e w1⟨rfl,H⟩;have⟨c1,f1,z1⟩:=H.b;go_wp2_with fail;refine(H.sub<|bu D.2.1 0 ae).mono ?_;rintro e G⟨rfl,H⟩;have⟨c1,f1,z1⟩:=H.b;go_wp2_with fail;refine(H.put [mY] 9 _ rfl ag).mono ?_;rintro e N⟨rfl,H⟩;have⟨c1,f1,z1⟩:=H.b;go_wp2_with fail;refine(H.sub<|Yk hy.o 0 ae).mono ?_;exact ET
 |call s n x y f t a vx vy hx hy bu cW=>
  intro D;refine at_ nofun nofun (.call s n x y f t a vx vy hx hy) ?_;intro r w h;obtain⟨tx,xx,rfl⟩:=hx.iface;obtain⟨ty,xy,rfl⟩:=hy.iface;have h:e7 c (cK x 4++(cK y 5++r)) w:=by simpa[sw,jw,ij,gw,cK,Qk]using h
  have H:=WP.new h (Iv f) [Iv t,Fv tx<|Av xx,Fv ty<|Av xy] 269;have E:=H.sub<|bu D.2.1 3 ae;go_in;go_wp;refine E.mono ?_;rintro e w1⟨rfl,H⟩;have⟨c1,f1,z1⟩:=H.b;go_wp2_with fail;refine(H.sub<|cW D.2.2.1 4 ae).mono ?_;rintro e G⟨rfl,H⟩
  go_wp2
  go_end0;exact H.out
 |fn s n x f t a y vx hs hy hx bu=>
  intro D;refine at_ nofun nofun (.fn s n x f t a y vx hs hy hx) ?_;intro r w h;obtain⟨tx,xx,rfl⟩:=hx.iface;have h:e7 c ([wT,s,cH]++(cK x 0++r)) w:=by simpa[sw,jw,ij,gw,cK,Qk]using h
  have H:=WP.new h (Iv f) [Iv t,Iv a,Iv y,Sv s,Fv tx<|Av xx] 239;clear hy;have E:=H.put [wT,s,cH] 9 (w.heap.size+1) ag ag;go_in;go_wp;refine E.mono ?_;rintro e w1⟨rfl,H⟩;have⟨c1,f1,z1⟩:=H.b;go_wp2_with fail;refine(H.sub<|bu D.2.1 0 ae).mono ?_;rintro e G⟨rfl,H⟩
  go_wp2
  go_end0;exact H.out
 |ite s n x y z f t a vx vy vz hx hy hz bu cW qA=>
  intro D;refine at_ nofun nofun (.ite s n x y z f t a vx vy vz hx hy hz) ?_;intro r w h;obtain⟨tx,xx,rfl⟩:=hx.iface;obtain⟨ty,xy,rfl⟩:=hy.iface;obtain⟨O,R,rfl⟩:=hz.iface;have h:e7 c ([W7]++(cK x 0++([yV]++(cK y 0++([yW]++(cK z 0++r)))))) w:=by simpa[sw,jw,ij,gw,cK,Qk]using h
  have H:=WP.new h (Iv f) [Iv t,Fv tx<|Av xx,Fv ty<|Av xy,Fv O<|Av R] 243;have E:=H.put [W7] 9 (w.heap.size+1) ag ag;go_in;go_wp;refine E.mono ?_;rintro e w1⟨rfl,H⟩;have⟨c1,f1,z1⟩:=H.b;go_wp2_with fail;refine(H.sub<|bu D.2.1 0 ae).mono ?_;rintro e G⟨rfl,H⟩;have⟨c1,f1,z1⟩:=H.b;go_wp2_with fail;refine(H.put [yV] 9 _ rfl ag).mono ?_;rintro e N⟨rfl,H⟩;have⟨c1,f1,z1⟩:=H.b;go_wp2_with fail;refine(H.sub<|cW D.2.2.1 0 ae).mono ?_;rintro e w4⟨rfl,H⟩;have⟨c1,f1,z1⟩:=H.b;go_wp2_with fail;refine(H.put [yW] 9 _ rfl ag).mono ?_;rintro e w5⟨rfl,H⟩;have⟨c1,f1,z1⟩:=H.b;go_wp2_with fail;refine(H.sub<|qA D.2.2.2.1 0 ae).mono ?_;rintro e w6⟨rfl,H⟩
  go_wp2
  go_end0;exact H.out
 |op s n x y f t a vx vy hs hx hy bu cW=>
  intro D k hk;obtain⟨tx,xx,rfl⟩:=hx.iface;obtain⟨ty,xy,rfl⟩:=hy.iface;exact Ui (λw i=>(S w i).2) hs n f t a (bu D.2.1) (cW D.2.2.1) k hk
 |lt q s n x z f t a y vx vz hc hs hy hx hz bu qA=>
  intro D;refine at_ (by obtain rfl|rfl:=hc<;>nofun) nofun (.lt q s n x z f t a y vx vz hc hs hy hx hz) ?_;intro r w h;obtain⟨tx,xx,rfl⟩:=hx.iface;obtain⟨O,R,rfl⟩:=hz.iface;have h:e7 c ((jZ::((if(q==11)=la then[pS]else[])++(s::tN::cK x 0)))++([kIn]++(cK z 0++r))) w:=by obtain rfl|rfl:=hc<;>simpa[sw,jw,ij,gw,cK,Qk]using h
  generalize(q==11)=rb at h⊢;have H:=WP.new h (Iv f) [Iv t,.bool rb,Iv a,Iv y,Sv s,Fv tx<|Av xx,Fv O<|Av R] 241;clear hy hc;have E:=H.sub<|CR rb a y s<|bu D.2.1 0 ae;go_in;go_wp;refine E.mono ?_;rintro e w1⟨rfl,H⟩;have⟨c1,f1,z1⟩:=H.b;go_wp2_with fail;refine(H.put [kIn] 9 _ rfl ag).mono ?_;rintro e G⟨rfl,H⟩;have⟨c1,f1,z1⟩:=H.b;go_wp2_with fail;refine(H.sub<|qA D.2.2.1 0 ae).mono ?_;rintro e N⟨rfl,H⟩
  go_wp2
  go_end0;exact H.out
 |mt s n x A f t a vx g sc vp ve h0 hg hz hc hx hp he bu ihe=>
  intro D;refine at_ nofun nofun (.mt s n x A f t a vx g sc vp ve h0 hg hz hc hx hp he) ?_;intro r w h;obtain⟨tx,xx,rfl⟩:=hx.iface;have G:=λi hi=>Bk.arm D.2.2 i hi;have h:e7 c ((gW::(cK x 0++(Uj la A++[wU])))++r) w:=by simpa[sw,jw,ij,gw,cK,Qk,Uj]using h
  have H:=WP.new h (Iv f) [Iv t,Fv tx<|Av xx,Lv (ia ⟨g,0,ka⟩) A.length sc] 250;have E:=H.sub<|acd f t g sc A vp ve hg hz hc (bu D.2.1 0 ae) (λi hi=>(hp i hi).iface) (λi hi=>(he i hi).iface) (λi hi=>ahj (λw i=>(S w i).1) (hp i hi) (G i hi).1 0 ae)<|λi hi=>ihe i hi (G i hi).2 0 ae;go_in;go_wp;refine E.mono ?_;exact lf
end
def EU:Bool->List Nd->List BA
 |_,[]=>[]|b,m::r=>(if b then tN else oN)::(sw m++EU ra r)
def aff(b:Bool)(h:j<ms.length)(r:List BA):EU b (ms.drop j)++r=[if b then tN else oN]++(sw ms[j]++(EU ra (ms.drop<|j+1)++r)):=by
 rw[jq h];simp[EU]
def QX:∀(ms:List Nd)(b:Bool),ms.length<=(EU b ms).length
 |[],_=>jc _|m::ms,b=>by
  have:=QX ms ra;simp only[EU,eG,g_];omega
def sQ:Dc->List BA
 |.ty t vs ms=>jY::t.text::(vs.map (λv=>v.text)++EU la ms)|.lt q t b=>jZ::((if q=la then[pS]else[])++(t.text::tN::sw b))
def VsP(c:Cx)(we:ea)(cb:Nat)(C:Array fa)(vs:List qe)(r:List BA)(i:Nat)(v:fa)(wr:ea):=
 ∃j,Hid (i=vs.length-j)/\j<=vs.length/\v=Nv j/\WP c we cb C ((vs.drop j).map (λv=>v.text)++r) wr
def MkZ(c:Cx)(we:ea)(cb:Nat)(C:Array fa)(ms:List Nd)(r:List BA)(i:Nat)(v:fa)(wr:ea):=
 ∃j,Hid (i=ms.length-j)/\j<=ms.length/\v=Nv j/\WP c we cb C (EU (decide (j=0)) (ms.drop j)++r) wr
section
variable {us:List BA}
def YE(t:qe)(vs:List qe)(ms:List Nd)(f u:Int)(hV:RowV QName 3 c.w0 c.Q vs vv)(hM:RowV QMaker 6 c.w0 c.Q ms vm):
 Wd c 41 #[c.p,.agg #[Iv f,Iv u,Nv t.ah,Nv t.to,.string t.text,vv,vm]] (sQ<|.ty t vs ms):=by
 intro r w h;have h:e7 c ([jY,t.text]++(vs.map (λv=>v.text)++(EU la ms++r))) w:=by simpa[sQ]using h
 have hl:=h.len;have hl2:=QX ms la;simp only[g_,List.length_map,eG,nM]at hl;obtain⟨va,vc,vcs,rfl,R,S⟩:=hV;obtain⟨ma,mc,mcs,rfl,U,V⟩:=hM;have d0:=ai R;have f0:=ai S;have g0:=ai U;have i0:=ai V;clear R S U V;have N:=(WP.new h (Iv f) [Iv u,Nv t.ah,Nv t.to,Sv t.text,Lv va vs.length vc,Lv ma ms.length mc] 96).put [jY,t.text] 9 (w.heap.size+1) ag ag;go_in;go_wp;refine N.mono ?_;rintro e w1⟨rfl,H⟩;have⟨c1,f1,z1⟩:=H.b;have D:=ai H;clear H N h
 go_wp2
 go_loopg[17] vs.length (λgk v wr=>VsP c w w.heap.size (Iv f::[Iv u,Nv t.ah,Nv t.to,Sv t.text,Lv va vs.length vc,Lv ma ms.length mc]).toArray vs (EU la ms++r) gk v wr)
 case atStart=>exact⟨0,ai rfl,jc _,rfl,uh D⟩
 case round=>
  clear D c1 f1 z1;obtain⟨j,G,hj,rfl,H⟩:=hrel;by_cases m:j<vs.length
  .have hd:=kK m;obtain h0|⟨g,rfl,E,A,hc⟩:=uh d0
   .rw[h0]at m;exact absurd m ag
   obtain⟨W,X,Y,K,-⟩:=uh f0 j m;have k0:=(H.s.cell E A _).trans<|hc j m 0 ae;have k1:=(H.s.cell E A _).trans<|hc j m 1 ae;have k2:=(H.s.cell E A _).trans<|hc j m 2 ae;rw[W,jh]at k0;rw[X]at k1;rw[Y]at k2;clear W X Y hc;rw[jq m,jt,jx]at H;have I:=H.s.tok (t:=vs[j].text) ag;generalize vs[j]=x at k0 k1 k2 K H I;have aiG:=Qo K;have N:=(H.af (w':=wr.alloc<|Cv #[Nv x.ah,Nv x.to,Sv<|x.text.extract 1 x.text.size] 92)<|bw _).put [x.text] 9 (wr.heap.size+1) ag ag;have N:=ai N;clear H;go_wp2_with fail;refine(uh N).mono ?_;rintro e w2⟨rfl,H⟩;have D:=ai H;clear H
   go_wp2
   go_roundg(vs.length-(j+1))
   case measure=>rw[uh G];omega
   case rel=>exact⟨j+1,ai rfl,ae,iF,uh D⟩
  .have hd:=nN m;have ej:j=vs.length:=ae;subst ej;rw[ju]at H;have⟨c1,f1,z1⟩:=H.b;have D:=ai H;clear H
   go_wp2
   go_loopg[31] ms.length (λgk v wr=>MkZ c w w.heap.size (Iv f::[Iv u,Nv t.ah,Nv t.to,Sv t.text,Lv va vs.length vc,Lv ma ms.length mc]).toArray ms r gk v wr)
   case atStart=>exact⟨0,ai rfl,jc _,rfl,uh D⟩
   case round=>
    clear D c1 f1 z1 hd G m hj;obtain⟨j,G,hj,rfl,H⟩:=hrel;by_cases m:j<ms.length
    .have hd:=kK m;obtain h0|⟨g,rfl,E,A,hc⟩:=uh g0
     .rw[h0]at m;exact absurd m ag
     have⟨ns,nn,O,nf,nt,na,ny,nv,I,W,X,Y,e3,e4,e5,eu,ey,er⟩:=uh i0 j m;have k0:=(H.s.cell E A _).trans<|hc j m 0 ae;have k1:=(H.s.cell E A _).trans<|hc j m 1 ae;have k2:=(H.s.cell E A _).trans<|hc j m 2 ae;have k3:=(H.s.cell E A _).trans<|hc j m 3 ae;have k4:=(H.s.cell E A _).trans<|hc j m 4 ae;have k5:=(H.s.cell E A _).trans<|hc j m 5 ae;rw[W,jh]at k0;rw[X]at k1;rw[Y]at k2;rw[e3]at k3;rw[e4]at k4;rw[e5]at k5;clear W X Y e3 e4 e5 hc ey;obtain⟨xa,xc,Z,rfl,a0,c0⟩:=er;have K:∀i(h:i<O.length),PT c.w0 c.Q O[i]<|Z i 0:=c0;have hN:=ai (Qq (c:=c) ns (na:Int) (ny:Int) O xa xc (λi=>Z i 0) (a0.imp (λe=>by rw[e];rfl) λ⟨g,a1,a2,a3,a4⟩=>⟨g,a1,a2,a3,λi hi=>by have:=a4 i hi 0 ae;simpa using this⟩) (λi hi=>(K i hi).o.iface) (λi hi=>Yk (K i hi).o 2 ae));rw[aff _ m,I,show sw (.mk 2 ns nn O nf nt na)=ns::O.flatMap (λx=>cK x 5) by simp[sw,jw,pF,List.flatMap_map,cK]]at H;clear a0 c0 K I;have HD:=CQ j tN;generalize(if decide (j=0)then tN else oN)=d at H HD;have H0:=ai<|(WP.new H.s (Iv nf) [Iv nt,Iv na,Iv ny,Sv ns,Lv xa O.length xc] 175).put [d] 9 (wr.heap.size+1) ag ag;have D:=ai H;clear H;go_wp2_with(go_at_call 65;refine(HD _).mono ?_;rintro e w'⟨rfl,rfl⟩);refine(uh H0).mono ?_;rintro e w3⟨rfl,H⟩
     have⟨c1,f1,z1⟩:=H.b;go_wp2_with fail;refine(H.sub<|uh hN).mono ?_;rintro e w4⟨rfl,H⟩;have H4:=ai<|(uh D).fn H.s H.f;clear H D hN H0 HD
     go_wp2
     go_roundg(ms.length-(j+1))
     case measure=>rw[uh G];omega
     case rel=>exact⟨j+1,ai rfl,ae,iF,by simpa using uh H4⟩
    .have hd:=nN m;have ej:j=ms.length:=ae;subst ej;rw[ju]at H;have D:=ai H;clear H
     go_wp2
     go_end0;exact(uh D).out
end
def ru(l:List UInt8):List Dc->List UInt8
 |[]=>l|d::r=>ru ((rd l<|sQ d++[dK]).1++[10]) r
def JV(d:Dc):∀(L:List Dc)(l:List UInt8),ru l (L++[d])=(rd (ru l L)<|sQ d++[dK]).1++[10]
 |[],_=>rfl|_::L,_=>JV d L _
def Uk:List Dc->Nat
 |[]=>0|d::r=>(sQ d).length+2+Uk r
def QY:∀L,L.length<=Uk L
 |[]=>jc _|d::r=>by have:=QY r;simp only[eG,Uk];omega
def JW:∀(L:List Dc)(j:Nat)(h:j<L.length),Uk (L.take j)+((sQ L[j]).length+2)<=Uk L
 |d::r,0,_=>by simp[Uk]|d::r,j+1,h=>by
  have:=JW r j uY;simp only[List.take_succ_cons,Uk,jv];omega
def QZ:∀(L:List Dc)(l:List UInt8),(∀d∈L,∀t∈sQ d,t.size<=400)->(ru l L).length<=l.length+Uk L*401
 |[],l,_=>by simp[ru,Uk]|d::r,l,h=>by
  have i:=QZ r ((rd l<|sQ d++[dK]).1++[10]) λx hx=>h x (by simp[hx]);have m:=M6 (x:=(l,cX)) (ts:=sQ d++[dK]) λt ht=>by
   obtain q|q:=List.mem_append.1 ht
   .exact h d ag t q
   .rw[List.mem_singleton.1 q];decide
  have o:(rd l<|sQ d++[dK]).1.length<=l.length+(sQ d++[dK]).length*401:=m;simp only[ru,Uk,g_,eG,nM]at i o⊢;omega
def NuD:Dc->Prop
 |.ty _ _ _=>True|.lt _ _ b=>NuB b
structure SzP(L:List Dc):Prop where
 s:∀d∈L,∀t∈sQ d,t.size<=400
 n:∀d∈L,NuD d
 z:Uk L<=22000
section
variable {us:List BA}
def DnL(c:Cx)(w:ea)(e:ga)(w':ea):Prop:=e=.returned (.tuple #[])/\(∃bv,PN w' c.B c.pb bv ((rd c.l0 c.fin).1++[10]) cX c.mv)/\FN c.B c.pb w w'
def Ul(h:e7 c ([dK]++[]) w):ca j8 43 #[c.p] w (DnL c w):=by
 have O:Bq w (w.alloc<|Cv #[Sv dK] 9):=bw _;have R:=Js [dK] (h.af O) ag w.heap.size (Bx.new w _ _) (by have:=h.lt;omega);clear h;go_in;go_wp;refine R.mono ?_;rintro e w1⟨rfl,E,S⟩;have⟨ts,bv1,U,i⟩:=E.pn;rw[List.append_nil]at U;subst U;have V:=M6 (x:=(c.l0,cX)) (ts:=c.fin) E.x.s;have V:(rd c.l0 c.fin).1.length<=c.l0.length+c.fin.length*(c.m+1):=V;have hz:=E.x.z;have A:=ai i;have G:=ai<|(FN.of O).trans S;have⟨c2,f2⟩:=i.cells;clear i S R E;go_wp2_with(go_at_call 68;refine(wa (uh A) 10 ae).mono ?_;rintro e w2⟨rfl,I,o,D⟩;have K:=ai o;have N:=ai<|(uh G).trans<|Fr.fn (uh A) D;have⟨c3,f3⟩:=o.cells;clear o D);go_end0;exact⟨rfl,⟨I,(uh K).y_ cX⟩,(uh N).trans<|FN.y_ _ _ _ _⟩
def Q3{p:Prop}(h:p:=by
 go_in;go_wp;refine HT.mono ?_;rintro e w1⟨rfl,H⟩;have HE:=ai<|fin H;clear H HT;go_wp2_with fail;refine(uh HE).mono ?_;rintro e w2⟨rfl,H⟩
 go_wp2
 go_end0
 exact⟨rfl,H⟩):p:=h
def afg(E:∀w,c.I w->P10 w/\PM w c.pb c.mv)(d:Dc)(o:PD c.w0 c.Q d v)(G:NuD d)(h:e7 c (sQ d++([dK]++[])) w):ca j8 27 #[c.p,v] w (DnL c w):=by
 have fin:∀{we cb C w1},WP c we cb C ([dK]++[]) w1->ca j8 43 #[c.p] w1 (DnL c we):=λH=>(Ul H.s).mono λ_ _ q=>⟨q.1,q.2.1,H.f.trans q.2.2⟩
 cases d with
 |ty t vs ms=>
  obtain⟨f,u,vv,vm,rfl,-,-,i,-,m⟩:=o;have HT:=(WP.new h (Iv f) [Iv u,Nv t.ah,Nv t.to,Sv t.text,vv,vm] 96).sub<|YE t vs ms f u i m;obtain⟨va,vc,vcs,rfl,-,-⟩:=i;obtain⟨ma,mc,mcs,rfl,-,-⟩:=m;clear h;exact Q3
 |lt q t b=>
  obtain⟨f,u,vb,rfl,-,-,i⟩:=o;obtain⟨m,A,rfl⟩:=i.iface;have K:=aiK E i G 0 ae;have D:cK b (kL 0)=sw b:=by rw[cK];exact Qk _
  rw[D]at K;have HT:=(WP.new h (Iv f) [Iv u,.bool q,Nv t.ah,Nv t.to,Sv t.text,Fv m<|Av A] 103).sub<|CR q (t.ah:Int) (t.to:Int) t.text K;clear h K;exact Q3
end
section
variable {B pb:Nat} {bv:fa}
def YF(h:PN w B pb bv l last mv):ca j8 28 #[Pv pb] w λe w'=>e=.returned (.string<|bs l)/\Fr (SP pb bv) w w':=by
 by_cases m:l=[]
 .subst m;have⟨ad,i,_⟩:=h.bk;have o:=h.nl rfl;subst o;have c0:w.cell? ⟨pb,1,ka⟩=ia (Lv ka 0 0):=by simp[qs,i]
  have hSD:∀W:ea,(Builtin.unsafeSliceData_ #[78] 131 #[Lv ka 0 0]).run Tryz.prog W=.ok (.pointer ka) W:=λW=>qkr;have hUS:∀W:ea,(Builtin.unsafeString_ #[131,3] 9 #[.pointer ka,Iv 0]).run Tryz.prog W=.ok (Sv ⟨#[]⟩) W:=λW=>qkr;have A:Hid (Fr (SP pb<|Lv ka 0 0) w w.drew):=ai ⟨rfl,rfl,rfl,br _,λ_ _ _=>rfl⟩;clear h i;go_wp2
  go_region
  all_goals(
   go_wp2
   go_ret
   exact⟨rfl,uh A⟩)
 .exact IY h m
end
def PgR(w:ea)(B pb:Nat)(mv:fa)(L:List Dc)(i:Nat)(v:fa)(wr:ea):=
 ∃j bv,Hid (i=L.length-j)/\j<=L.length/\v=Nv j/\PN wr B pb bv (ru []<|L.take j) cX mv/\FN B pb w wr
def Nq(A:P10 w)(L:List Dc)(V:SzP L){u:fa}(hv:RowV QD 1 w P L u):
 ca j8 18 #[.agg #[u]] w λe w'=>e=.returned (.string<|bs<|ru [] L)/\Bq w w':=by
 obtain⟨va,vc,cs,rfl,hR,hQ⟩:=hv;obtain⟨W,O⟩:∃W,W=w.alloc (Cv #[Lv va L.length vc] 50):=⟨_,rfl⟩;have K:Bq w W:=by rw[O];exact bw _
 have z0:W.heap.size=w.heap.size+1:=by rw[O];simp
 have B0:Bx W w.heap.size #[Lv va L.length vc]:=by rw[O];exact qy _ _ _
 have HP:=Jv W;have HR:=ai hR;have HQ:=ai hQ;have EW:=ai O;have hln:L.length<=22000:=Nat.le_trans (QY L) V.z;clear hR hQ O;go_in;go_wp;rw[<-uh EW];refine HP.mono ?_;rintro e w1⟨rfl,⟨mv,hN,hM⟩,D⟩;have HB:=K.trans<|D.mono K.size;have⟨c0,f0,y0⟩:=B0.below D;have E:=ai HB;have X:=ai hN;have HM:=ai hM;have zz:=D.size;rw[z0]at zz;clear D hN hM K HP EW;generalize hpb:W.heap.size=pb at X HM⊢;have hp1:w.heap.size<pb:=ae;have hp2:pb<=w.heap.size+1:=ae;clear z0 hpb
 go_wp2
 go_loopg[10] L.length (λgk v wr=>PgR w1 pb pb mv L gk v wr)
 case atStart=>exact⟨0,_,ai rfl,jc _,rfl,uh X,FN.refl _ _ _⟩
 case round=>
  clear c0 f0 y0 X;obtain⟨j,bv,Y,hj,rfl,N,F⟩:=hrel;have zF:=F.size;have m:∀b,b<w.heap.size->wr.heap[b]? =w.heap[b]? :=λb z=>(F.block b ae ae<|qp ae).trans<|(uh E).block b z;by_cases o:j<L.length
  .have Z:=kK o;obtain h0|⟨g,rfl,hg,a0,hc⟩:=uh HR
   .rw[h0]at o;exact absurd o ag
   have k0:=(qr (a:=⟨g,j*1+0,ka⟩)<|m g a0).trans<|hc j o 0 ae;rw[jj,jh]at k0;have DJ:PD w P L[j] (cs j 0):=uh HQ j o;have⟨td,xd,I⟩:=DJ.iface;have hm:=jp o;have d0:=JW L j o;have R:=QZ (L.take j) [] λd Z=>V.s d<|List.mem_of_mem_take Z;have hz3:=V.z;simp only[nM,jl]at R
   have hx:CxF ⟨w,P,pb,pb,mv,λw=>P10 w/\PM w pb mv,ru []<|L.take j,sQ L[j]++[dK],400⟩:=⟨λb _ z=>⟨by show b≠pb;have z:b<w.heap.size:=z;omega,qp (by show b<pb;have z:b<w.heap.size:=z;omega)⟩,λw2 w3 F i=>⟨i.1.block<|F.block _ i.1.z (by have:=A.z;show _≠pb;omega)<|qp (by have:=A.z;show _<pb;omega),i.2.fn F⟩,br _,by show(ru []<|L.take j).length+(sQ L[j]++[dK]).length*401<=9000000;simp only[g_,eG,nM];omega,λt ht=>by
    obtain q|q:=List.mem_append.1<|show t∈sQ L[j]++[dK]from ht
    .exact V.s _ hm t q
    .rw[List.mem_singleton.1 q];exact(by decide:1<=400),(by decide:400<=1000)⟩
   have HC:=afg (w:=wr) (c:=⟨w,P,pb,pb,mv,λw=>P10 w/\PM w pb mv,ru []<|L.take j,sQ L[j]++[dK],400⟩) (λ_ i=>i) L[j] DJ (V.n _ hm) ⟨hx,⟨[],bv,rfl,N⟩,by show w.heap.size<=_;omega,λb _ z=>m b z,⟨(A.af<|uh E).block<|F.block _ (A.af<|uh E).z (by have:=A.z;omega)<|qp (by have:=A.z;omega),(uh HM).fn F⟩⟩;rw[I]at k0 HC;have G:=ai HC;have HF:=ai F;clear HC hx DJ I N F hc d0 R m;go_wp2_with fail;refine(uh G).mono ?_;rintro e w3⟨rfl,⟨e0,S⟩,U⟩;have g0:=ai S;have i0:=ai<|(uh HF).trans U;clear S U G
   go_wp2
   go_roundg(L.length-(j+1))
   case measure=>rw[uh Y];omega
   case rel=>exact⟨j+1,e0,ai rfl,ae,iF,by rw[List.take_add_one,j3 o,Option.toList_some,JV];exact uh g0,uh i0⟩
  .have Z:=nN o;have S:j=L.length:=ae;subst S;rw[List.take_length]at N;have G:=ai<|YF N;have I:∀w',Fr (SP pb bv) wr w'->Bq w w':=λw' F4=>by
    have R:=uh E
    exact⟨F4.os.trans<|F.os.trans R.os,F4.tape.trans<|F.tape.trans R.tape,F4.output.trans<|F.output.trans R.output,by have:=F4.size;omega,λk hk=>(F4.block k ae (λq=>by
     obtain q|q:=q
     .omega
     .have:=(eP N.ow k q).1;omega)).trans (m k hk)⟩
   have R:=ai I;clear N F I m;go_wp2_with fail;refine(uh G).mono ?_;rintro e w4⟨rfl,F4⟩;have U:=ai<|uh R _ F4;clear F4
   go_wp2
   go_ret;exact⟨rfl,uh U⟩
def qI(s:BA):List UInt8×Fl:=match bq s with
 |.error f=>([],f)|.ok l=>(ru [] l,lA)
def YG(s:BA)(w:ea)(e:ga)(w':ea):Prop:=e=.returned (.tuple #[.string<|bs (qI s).1,xN (qI s).2])/\Bq w w'
def afh(Z:P10 w)(hL:Laid w)(s:BA)(hS:∀l,bq s=.ok l->SzP l)(hK:∀f,bq s=.error f->f.kind≠0):ca j8 9 #[.string s] w (YG s w):=by
 have⟨m,R⟩:=rF w zF 35;have z0:(w.alloc<|Cv zF 35).heap.size=w.heap.size+1:=ag;have S:=ai<|Co (hL.af m) s;go_in;go_wp;refine(uh S).mono ?_;rintro e K⟨u,f,rfl,o,E⟩;have A:=m.trans<|o.mono m.size;have U:=R.below o;obtain⟨us,N,O,rfl⟩:∃us N O,u=Lv us N O:=by
  cases hr:bq s with
  |error f'=>rw[hr]at E;exact⟨_,_,_,E.2⟩|ok l=>rw[hr]at E;obtain⟨_,va,vc,cs,e,_,_⟩:=E;exact⟨_,_,_,e⟩
 have i:Bq K ((K.alloc<|Cv #[Lv us N O] 50).alloc<|Cv #[Nv f.kind,Nv f.ah,Nv f.to] 35):=(bw _).alloc ag _;have D:=ai<|A.trans<|i.mono A.size;have V:=ai<|U.below i;have P2:=ai<|(qy K #[Lv us N O] 50).alloc<|Cv #[Nv f.kind,Nv f.ah,Nv f.to] 35;have F2:=ai (show Bx ((K.alloc<|Cv #[Lv us N O] 50).alloc<|Cv #[Nv f.kind,Nv f.ah,Nv f.to] 35) (K.heap.size+1) #[Nv f.kind,Nv f.ah,Nv f.to] by have:=qy (K.alloc<|Cv #[Lv us N O] 50) #[Nv f.kind,Nv f.ah,Nv f.to] 35;simpa using this);have⟨c2,f2,z2⟩:=uh V;have⟨c3,f3,z3⟩:=uh P2;have⟨c4,f4,z4⟩:=uh F2;rw[xN]
 cases hr:bq s with
 |error f'=>
  rw[hr]at E;obtain⟨rfl,-⟩:=E;have hk:=hK f hr;have hk':((f.kind:Int)==0)=ra:=bQ;have G:=ai (show qI s=([],f) by rw[qI];rw[hr]);have W:=ai<|((uh V).l_ rfl (Nv f.kind) (Nv f.ah) (Nv f.to)).lS;clear hr S R m o U i A
  go_wp2
  go_region;go_wp2_with fail;have⟨X,f5,z5⟩:=uh W;refine bodyPost_ret (v:=.tuple #[Sv<|bs [],xN f]) (by simp[results,Tryz.results9,go_sem,xN,X,bs]) rfl ?_;rw[YG];rw[uh G];exact⟨rfl,((((uh D).setCell (p:=⟨w.heap.size,0,ka⟩) (br _) _).setCell (p:=⟨w.heap.size,1,ka⟩) (br _) _).setCell (p:=⟨w.heap.size,2,ka⟩) (br _) _).drew⟩
 |ok l=>
  rw[hr]at E;obtain⟨rfl,hv⟩:=E;have s1:=hS l hr;have G:=ai (show qI s=(ru [] l,lA) by rw[qI];rw[hr]);have HW:=ai<|Nq (Z.af<|uh D) l s1<|hv.move bO i.size (λb _ z=>i.block b z) λ_ p _=>p;simp only[lA]at*;clear hr S R m o U A hv s1;have zb:=i.size;clear i;go_wp2_with fail;refine(uh HW).mono ?_;rintro e w3⟨rfl,I⟩;have Y:=ai<|(uh D).trans<|I.mono (uh D).size;have B3:=ai<|(uh V).below I;have W:=ai<|(uh B3).l_ rfl (Iv 0) (Iv 0) (Iv 0);clear I c2 f2 z2 c3 f3 z3 c4 f4 z4;have⟨c2,f2,z2⟩:=uh B3;go_wp2_with fail;have⟨X,f5,z5⟩:=uh W;refine bodyPost_ret (v:=.tuple #[Sv<|bs<|ru [] l,xN lA]) (by simp[results,Tryz.results9,go_sem,xN,lA,X,bs]) rfl ?_;rw[YG];rw[uh G];exact⟨rfl,(((uh Y).setCell (p:=⟨w.heap.size,0,ka⟩) (br _) _).setCell (p:=⟨w.heap.size,1,ka⟩) (br _) _).setCell (p:=⟨w.heap.size,2,ka⟩) (br _) _⟩
end
section
open Un
def ahk(n:Nat):48<=(dg n).toNat/\(dg n).toNat<=57:=by
 have h:n%10<10:=Nat.mod_lt _ aD;rw[dg];generalize n%10=d at h
 match d,h with
 |0,_|1,_|2,_|3,_|4,_|5,_|6,_|7,_|8,_|9,_=>decide
def wG:∀(k n:Nat),n<10^(k+1)->(dec n).length<=k+1
 |0,n,h=>by
  have i:n<10:=uY;rw[dec];rw[if_pos i];simp
 |k+1,n,h=>by
  rw[dec];split
  .simp
  .have:=wG k (n/10) (by rw[Nat.pow_succ]at h;omega);simp;omega
def zZ(h:n<1000000000):(dec n).length<=9:=wG 8 n h
def afi(c:UInt8)(D:qf c.toNat=ra)(E:qh c.toNat=ra)(G:qg c.toNat=ra)(h4:c.toNat≠39)(h5:c.toNat≠45)(I:qm c.toNat=la)(K:Pu.cN c.toNat=ra):Lx ra [c] [(5,[c])]:=by
 intro s i m o _;have⟨A,e⟩:=m.hd;refine ni m o A (by rw[e];exact K) ?_;rw[qk];rw[e,D,E,G,I,if_neg ag,if_neg ag,if_neg ae,if_neg ag,if_neg ae,if_pos rfl];rfl
def YH(x:UInt8)(r:List UInt8)(A:qf x.toNat=la)(N:∀y∈r,qi y.toNat=la):Lx la (x::r) [(if qj ⟨(x::r).toArray⟩=la then 5 else 1,x::r)]:=by
 intro s i m E G;have⟨I,D⟩:=m.hd
 have K:=m.end_ (p:=qi) (λy hy=>by
  obtain rfl|hy:=List.mem_cons.1 hy
  .simp[qi,A]
  .exact N y hy) (G rfl)
 have o:s.extract i (i+(x::r).length)=⟨(x::r).toArray⟩:=kZ (by rw[m.ext ae,toList_mk]);refine ni m E I ?_ ?_
 .rw[D];simp[qf]at A;simp[Pu.cN];omega
 .rw[qk];rw[D,K,o,if_pos A];split<;>rfl
def JX.lx(h:JX s):Lx la s.toList [(1,s.toList)]:=by
 obtain⟨x,r,e,i,m,o⟩:=h;have:=YH x r i m;rw[o]at this;rw[e];simpa using this
def wQ.lx(h:wQ s):Lx la s.toList [(2,s.toList)]:=by
 obtain⟨x,r,e,i,m⟩:=h;rw[e];exact ahl x r i m
def VQ.lx(h:VQ s):Lx la s.toList [(3,s.toList)]:=by
 obtain⟨x,r,e,i,m,o⟩:=h;rw[e];exact afj x r i m o
def ace(x:UInt8)(r:List UInt8)(i:qf x.toNat=la)(m:∀y∈r,qi y.toNat=la)(o:qj ⟨(x::r).toArray⟩=la):Lx la (x::r) [(5,x::r)]:=by
 have:=YH x r i m;rw[o]at this;simpa using this
def xY{p:Prop}(h:p:=by
 simp[Nat.add_assoc,Nat.add_comm 1]):p:=h
def afk(x:UInt8)(r:List UInt8)(A:qg x.toNat=la)(N:∀y∈r,qg y.toNat=la)(hl:r.length<=8):Lx la (x::r) [(4,x::r)]:=by
 intro s i m D E;have⟨G,o⟩:=m.hd;have I:qg (ql s<|i+1+r.length)=ra:=by
  have:=E rfl;simp only[eG]at this;rw[show i+(r.length+1)=i+1+r.length by omega]at this;rw[qi]at this;simp at this;exact this.2
 have K:=m.tl.end_ (p:=qg) N I;have hd:48<=x.toNat/\x.toNat<=57:=by simpa[qg]using A
 refine ni m D G ?_ ?_
 .rw[o];simp[Pu.cN];omega
 .rw[qk];rw[o,K,if_neg (by simp[qf];omega),if_neg (by simp[qh];omega),if_neg ae,if_pos A,if_pos ae];exact xY
def sgB(c:UInt8):Bool:= !qf c.toNat&& !qh c.toNat&& !qg c.toNat&&c.toNat !=39&&c.toNat !=45&&qm c.toNat&& !Pu.cN c.toNat
def adB(c:UInt8)(h:sgB c=la):Lx ra [c] [(5,[c])]:=by
 simp only[sgB,qz,Bool.not_eq_true',bne_iff_ne,ne_eq]at h;exact afi c h.1.1.1.1.1.1 h.1.1.1.1.1.2 h.1.1.1.1.2 h.1.1.1.2 h.1.1.2 h.1.2 h.2
def kwB(x:UInt8)(r:List UInt8):Bool:=qf x.toNat&&r.all (λy=>qi y.toNat)&&qj ⟨(x::r).toArray⟩
def ahm(x:UInt8)(r:List UInt8)(h:kwB x r=la):Lx la (x::r) [(5,x::r)]:=by
 simp only[kwB,qz,List.all_eq_true]at h;exact ace x r h.1.1 h.1.2 h.2
def xZ:∀n,dec n≠[]:=by
 intro n;rw[dec];split<;>simp
def EV(n:Nat):∀y∈dec n,qg y.toNat=la:=by
 induction n using jk with
 |_ n ih=>
  rw[dec];have i:qg (dg n).toNat=la:=by have:=ahk n;simp[qg];omega
  split
  .simp[i]
  .intro y m;obtain q|q:=List.mem_append.1 m
   .exact ih (n/10) ae y q
   .rw[List.mem_singleton.1 q];exact i
def Q4(l:List UInt8)(i:Nat)(h:i<l.length):ql (bs l) i=l[i].toNat:=by
 have:=(YI l i h).2;simpa using this
def JY(l m:List UInt8):∀k,k<=l.length->nT (bs<|l++m) k=nT (bs l) k
 |0,_=>rfl|k+1,h=>by
  simp only[nT,JY l m k ae];rw[Q4 l k ae,Q4 (l++m) k bQ,List.getElem_append_left ae]
def YJ(n:Nat):nT (bs<|dec n) (dec n).length=n:=by
 induction n using jk with
 |_ n ih=>
  have m:((dg n).toNat+208)%256=n%10:=by
   have:(dg n).toNat=48+n%10:=by
    rw[dg];have h:n%10<10:=Nat.mod_lt _ aD;generalize n%10=d at h
    match d,h with
    |0,_|1,_|2,_|3,_|4,_|5,_|6,_|7,_|8,_|9,_=>rfl
   omega
  by_cases i:n<10
  .have e:dec n=[dg n]:=by rw[dec];rw[if_pos i]
   rw[e];show 10*nT (bs [dg n]) 0+(ql (bs [dg n]) 0+208)%256=n;rw[Q4 [dg n] 0 ag];show 10*0+((dg n).toNat+208)%256=n;omega
  .have e:dec n=dec (n/10)++[dg n]:=by rw[dec,if_neg i]
   have o:=ih (n/10) ae;rw[e,g_];show 10*nT (bs<|dec (n/10)++[dg n]) (dec<|n/10).length+(ql (bs<|dec (n/10)++[dg n]) (dec<|n/10).length+208)%256=n;rw[JY _ _ _<|br _,o,Q4 _ _ ag];simp only[List.getElem_append_right<|br _,Nat.sub_self,List.getElem_cons_zero,m];omega
def afl(h:n<1000000000):Lx la (dec n) [(4,dec n)]:=by
 have m:=zZ h;have i:=EV n
 cases hd:dec n with
 |nil=>exact absurd hd (xZ n)|cons x r=>
  rw[hd]at m i;exact afk x r (i x ag) (λy hy=>i y<|by simp[hy]) (by simp at m;omega)
def YK(h:n<1000000000):rj (bs<|dec n)=n:=by
 rw[rj];rw[gq,Nat.min_eq_left<|zZ h];exact YJ n
def acf(c:Nat):Bool:=c==32||c==10||c==41||c==44||c==59
def YL{c:Nat}(h:acf c=la):qi c=ra/\c≠62:=by
 simp only[acf,Bool.or_eq_true,beq_iff_eq]at h;rcases h with(((rfl|rfl)|rfl)|rfl)|rfl<;>decide
def Ly(b:Bool)(l:List UInt8)(p:List Ky):=∀s i,Has s i l->i<=s.size->(b=la->acf (ql s<|i+l.length)=la)->∃T,Pu.bP s i=T++Pu.bP s (i+l.length)/\T.map aP=p
def Ly.pD{b1 b2:Bool}{o A:List UInt8}{E G:List Ky}(V:Ly b1 o E)(W:Ly b2 A G)(X:b1=la->∃x r,A=x::r/\acf x.toNat=la):Ly b2 (o++A) (E++G):=by
 intro s i m D I
 have⟨K,N,O⟩:=V s i m.left D (λq=>by
  obtain⟨x,r,rfl,R⟩:=X q;rw[m.right.hd.2]
  exact R)
 have⟨R,S,U⟩:=W s (i+o.length) m.right (m.left.le D) (λq=>by have:=I q;simpa[Nat.add_assoc]using this);refine⟨K++R,?_,by simp[O,U]⟩;rw[N,S];simp[Nat.add_assoc]
def Lx.ly{b:Bool}{p:List Ky}(h:Lx b l p):Ly b l p:=λs i hs hi hn=>h s i hs hi λq=>(YL<|hn q).1
def Nr:List UInt8->Nat
 |[]=>5|x::r=>if qf x.toNat=la then(if qj ⟨(x::r).toArray⟩=la then 5 else 1)else if qh x.toNat=la then 2 else if x.toNat=39 then 3 else if qg x.toNat=la then 4 else 5
def ky(t:BA):Ky:=(Nr t.toList,t.toList)
def Ga(t:BA):Bool:= !(t.toList==[])&& !(t.toList==[40])
structure pU(t:BA):Prop where
 ne:t.toList≠[]
 ly:Ly (Ga t) t.toList [ky t]
 sz:t.size<=400
def pU.put{t:BA}{p:List Ky}(h:Ly (Ga last) l p)(k:pU t):Ly (Ga t) (oR l last t) (p++[ky t]):=by
 rw[oR];rw[<-q9];by_cases i:spB last t=la
 .rw[if_pos i];have:=(h.pD YM.ly λ_=>⟨32,[],rfl,aD⟩).pD k.ly nofun;simpa using this
 .rw[if_neg i,List.append_nil];refine h.pD k.ly λq=>?_;simp only[Ga,spB,qz,Bool.not_eq_true',beq_eq_false_iff_ne,ne_eq]at q i;obtain e|e:=Classical.em<|t.toList=[41]
  .exact⟨41,[],e,aD⟩
  obtain e'|e':=Classical.em<|t.toList=[44]
  .exact⟨44,[],e',aD⟩
  obtain m|m:=Classical.em<|t.toList=[59]
  .exact⟨59,[],m,aD⟩
  exact absurd ⟨⟨⟨⟨e,e'⟩,m⟩,q.1⟩,q.2⟩ i
def Q5:∀{ts:List BA}{x:List UInt8×BA}{p:List Ky},(∀t∈ts,pU t)->Ly (Ga x.2) x.1 p->Ly (Ga (ts.foldl Bh x).2) (ts.foldl Bh x).1 (p++ts.map ky)
 |[],x,p,_,h=>uY|t::ts,x,p,ht,h=>by
  have i:Ly (Ga t) (oR x.1 x.2 t) (p++[ky t]):=(ht t ag).put h;have:=Q5 (ts:=ts) (x:=Bh x t) (p:=p++[ky t]) (λy hy=>ht y<|by simp[hy]) i;simpa using this
def ahn:Ga cX=ra:=by rw[Ga];rw[show cX.toList=[]from toList_mk []];rfl
def dcK(d:Dc):List Ky:=(sQ d++[dK]).map ky
def YN(o:pU dK):∀{L:List Dc}{l:List UInt8}{p:List Ky},(∀d∈L,∀t∈sQ d,pU t)->Ly ra l p->Ly ra (ru l L) (p++L.flatMap dcK)
 |[],l,p,_,h=>by simpa[ru]using h|d::L,l,p,ht,h=>by
  have A:=Q5 (ts:=sQ d++[dK]) (x:=(l,cX)) (λy hy=>by
   obtain q|q:=List.mem_append.1 hy
   .exact ht d ag y q
   .rw[List.mem_singleton.1 q];exact o) (show Ly (Ga cX) l p by rw[ahn];exact h)
  have D:=A.pD (show Ly ra [10] [] by
   intro s i m hi _;refine⟨[],?_,rfl⟩;rw[Pu.ri m.hd.1 (by rw[m.hd.2];rfl)]
   rfl) λ_=>⟨10,[],rfl,aD⟩
  have:=YN o (L:=L) (λx hx=>ht x<|by simp[hx]) D;simpa[ru,dcK,rd]using this
def oY(c:UInt8)(h:sgB c=la)(i:Nr [c]=5:=by decide):pU ⟨[c].toArray⟩:=by
 have e:(⟨[c].toArray⟩:BA).toList=[c]:=toList_mk _;refine⟨by rw[e];simp,?_,(by decide:1<=400)⟩;rw[ky];rw[e,i]
 cases Ga _
 .exact(adB c h).ly
 .exact(adB c h).DB.ly
def mw(x:UInt8)(r:List UInt8)(h:kwB x r=la)(hr:r.length<=300):pU ⟨(x::r).toArray⟩:=by
 have e:(⟨(x::r).toArray⟩:BA).toList=x::r:=toList_mk _;have i:=h;simp only[kwB,qz]at i;have m:(40:UInt8)≠x:=λq=>by rw[<-q]at i;exact absurd i.1.1 aD
 refine⟨by rw[e];simp,?_,by show(x::r).toArray.size<=400;simp;omega⟩;unfold ky Ga Nr;rw[e];simp only[i.1.1,i.2,if_true];have o:(!((x::r)==[])&& !((x::r)==[40]))=la:=by simp;exact qp λq=>m q.symm
 rw[o];exact(ahm x r h).ly
def YO:pU bM:=by
 have e:bM.toList=[45]:=toList_mk _;refine⟨by rw[e];simp,?_,aD⟩;rw[ky,Ga];rw[e];intro s i m D E;have o:=(YL<|E aD).2;have⟨G,A⟩:=m.hd;refine ni m D G (by rw[A];rfl) ?_;rw[qk];rw[A];simp only[eG,nM,jl]at o;simp[qf,qh,qg,qm,o,Nr]
theorem JX.tk(h:JX s)(D:s.size<=400):pU s:=by
 have m:=h.lx.ly;obtain⟨x,r,e,i,h2,o⟩:=h;have A:(40:UInt8)≠x:=λq=>by rw[<-q]at i;exact absurd i aD
 refine⟨by rw[e];simp,?_,D⟩;rw[ky,Ga];rw[e]at m⊢;rw[show(!((x::r)==[])&& !((x::r)==[40]))=la by simp;exact qp λq=>A q.symm,show Nr (x::r)=1 by simp[Nr,i,o]];exact m
theorem wQ.tk(h:wQ s)(D:s.size<=400):pU s:=by
 have o:=h.lx.ly;obtain⟨x,r,e,m,h2⟩:=h;have A:(40:UInt8)≠x:=λq=>by rw[<-q]at m;exact absurd m aD
 have i:qf x.toNat=ra:=by simp[qh]at m;simp[qf];omega
 refine⟨by rw[e];simp,?_,D⟩;rw[ky,Ga];rw[e]at o⊢;rw[show(!((x::r)==[])&& !((x::r)==[40]))=la by simp;exact qp λq=>A q.symm,show Nr (x::r)=2 by simp[Nr,m,i]];exact o
theorem VQ.tk(h:VQ s)(m:s.size<=400):pU s:=by
 have i:=h.lx.ly;obtain⟨x,r,e,h1,h2,h3⟩:=h;refine⟨by rw[e];simp,?_,m⟩;rw[ky,Ga];rw[e]at i⊢;rw[show(!((39::x::r)==[])&& !((39::x::r)==[40]))=la by simp,show Nr (39::x::r)=3 by simp[Nr,qf,qh]];exact i
def EX(x:List UInt8):(bs x).toList=x:=by rw[q9];rfl
def Nt(n:Nat):ky (bs<|dec n)=(4,dec n):=by
 have i:=EV n;rw[ky];rw[EX]
 cases hd:dec n with
 |nil=>exact absurd hd (xZ n)|cons x r=>
  rw[hd]at i;have h3:48<=x.toNat/\x.toNat<=57:=by have:=i x ag;simpa[qg]using this
  simp only[Nr];rw[if_neg (by simp[qf];omega),if_neg (by simp[qh];omega),if_neg ae,if_pos<|i x ag]
def afm(h:n<1000000000):pU (bs<|dec n):=by
 have i:=afl h;have h9:=zZ h;refine⟨by rw[EX];exact xZ n,?_,by rw[gq];omega⟩;rw[Nt];rw[Ga]
 rw[EX,show(!(dec n==[])&& !(dec n==[40]))=la by
  simp;refine⟨xZ n,λq=>?_⟩;have:=EV n 40 (by rw[q];simp)
  exact absurd this aD]
 exact i.ly
def fx:List BA:=[bT,bH,db,mY,cH,pR,wT,jZ,pS,kIn,W7,yV,yW,gW,sH,wU,oN,tN,jY,dK,dJ,cx,cY,bM,cD,b8]
def YP:pU cH:=by
 have e:cH.toList=[45,62]:=toList_mk _;refine⟨by rw[e];simp,?_,aD⟩;rw[ky,Ga];rw[e];exact YQ.DB.ly
def lh:∀t∈fx,pU t:=by
 simp only[fx,List.forall_mem_cons];exact⟨oY 40 qkr,oY 41 qkr,oY 44 qkr,oY 58 qkr,YP,oY 95 qkr,mw 102 [117,110] qkr aD,mw 108 [101,116] qkr aD,mw 114 [101,99] qkr aD,mw 105 [110] qkr aD,mw 105 [102] qkr aD,mw 116 [104,101,110] qkr aD,mw 101 [108,115,101] qkr aD,mw 109 [97,116,99,104] qkr aD,mw 119 [105,116,104] qkr aD,mw 101 [110,100] qkr aD,oY 124 qkr,oY 61 qkr,mw 116 [121,112,101] qkr aD,oY 59 qkr,mw 116 [114,117,101] qkr aD,mw 102 [97,108,115,101] qkr aD,oY 43 qkr,YO,oY 42 qkr,oY 60 qkr,nofun⟩
def usS(k:Nat):Bool:= ![3,5,6,8,12,13,14,15,17].elem k
def ry:List (Nat×List BA)->Nat
 |[]=>0|p::r=>p.2.length+3+ry r
def ed{p:Prop}[Decidable p]{a b:List BA}{m:Nat}(i:p->(∀t∈a,pU t)/\a.length<=m)(o:¬p->(∀t∈b,pU t)/\b.length<=m):(∀t∈(if p then a else b),pU t)/\(if p then a else b).length<=m:=by
 by_cases h:p
 .rw[if_pos h];exact i h
 .rw[if_neg h];exact o h
def Q6:∀(P:List (Nat×List BA))(b:Bool),(∀p∈P,∀t∈p.2,pU t)->(∀t∈uE b P,pU t)/\(uE b P).length<=ry P
 |[],b,_=>⟨nofun,br _⟩|[p],b,_=>⟨nofun,jc _⟩|p::e::r,b,h=>by
  have i:=Q6 r ra λx hx=>h x (by simp[hx]);refine⟨?_,?_⟩
  .simp only[uE,List.forall_mem_cons,List.forall_mem_append];exact⟨lh _ (by cases b<;>simp[fx]),h p ag,lh _<|by simp[fx],h e ag,i.1⟩
  .simp only[uE,ry,eG,g_];omega
def Nu(p:Nat×List BA)(k:Nat)(h:∀t∈p.2,pU t):(∀t∈aw p k,pU t)/\(aw p k).length<=p.2.length+2:=by
 rw[aw,wZ];refine ed (λ_=>⟨?_,?_⟩) λ_=>⟨h,ae⟩
 .simp only[List.forall_mem_cons,List.forall_mem_append];exact⟨lh _<|by simp[fx],h,lh _<|by simp[fx],nofun⟩
 .simp
def JZ:∀(P:List (Nat×List BA)),(∀p∈P,∀t∈p.2,pU t)->(∀t∈P.flatMap λp=>aw p 5,pU t)/\(P.flatMap λp=>aw p 5).length<=ry P
 |[],_=>⟨nofun,br _⟩|p::r,h=>by
  have i:=JZ r λx hx=>h x (by simp[hx]);have:=Nu p 5<|h p ag;simp only[List.flatMap_cons,List.forall_mem_append,g_,ry];exact⟨⟨this.1,i.1⟩,ae⟩
def afn{l:Nat}{P:List (Nat×List BA)}(o:usS k=la->pU s)(I:n<1000000000)(D:∀p∈P,∀t∈p.2,pU t):(∀t∈jw k s n l P,pU t)/\(jw k s n l P).length<=6+ry P:=by
 have F:=lh;simp only[fx,List.forall_mem_cons]at F;have g:∀i,∀t∈(gw P i).2,pU t:=λi=>by
  rw[gw];by_cases m:i<P.length
  .rw[jz,j3 m];exact D _<|jp m
  .rw[jz,List.getElem?_eq_none ae];simp
 have z:(gw P 0).2.length+(gw P 1).2.length+(gw P 2).2.length<=ry P:=by
  match P with
  |[]=>simp[gw,ry]|[a]|[a,b]|a::b::c::r=>simp[gw,ry]<;>omega
 have m:=λk=>Nu (gw P 0) k<|g 0;have A:=λk=>Nu (gw P 1) k<|g 1;have E:=JZ P D;have G:=Q6 (P.drop 1) la λp hp=>D p<|List.mem_of_mem_drop hp;have hd:ry (P.drop 1)+(gw P 0).2.length<=ry P:=by
  cases P with
  |nil=>simp[gw,ry]|cons a r=>simp[gw,ry]<;>omega
 rw[jw];refine ed (λh=>⟨by simpa using o (by obtain rfl|rfl|rfl:=h<;>decide),bQ⟩) λh1=>?_;refine ed (λh=>⟨by simpa using F.2.2.2.2.2.1,bQ⟩) λh2=>?_;refine ed (λh=>⟨by simpa using afm I,bQ⟩) λh3=>?_;refine ed (λh=>⟨by simpa using⟨F.1,F.2.1⟩,bQ⟩) λh4=>?_;refine ed (λh=>⟨by simp only[List.forall_mem_cons];exact⟨o (by rw[h];decide),E.1⟩,by simp only[eG];omega⟩) λh5=>?_;refine ed (λh=>⟨by simp only[List.forall_mem_cons,List.forall_mem_append];exact⟨F.1,g 0,F.2.2.1,g 1,F.2.1,nofun⟩,by simp only[eG,g_,nM];omega⟩) λh=>?_;refine ed (λh=>⟨by simp only[List.forall_mem_cons,List.forall_mem_append];exact⟨F.1,g 0,F.2.2.2.1,g 1,F.2.1,nofun⟩,by simp only[eG,g_,nM];omega⟩) λh=>?_;refine ed (λh=>⟨by simp only[List.forall_mem_cons,List.forall_mem_append];exact⟨(m 2).1,F.2.2.2.2.1,g 1⟩,by have:=(m 2).2;simp only[eG,g_,nM];omega⟩) λh=>?_;refine ed (λh=>⟨by simp only[List.forall_mem_cons,List.forall_mem_append];exact⟨(m 4).1,(A 5).1⟩,by have:=(m 4).2;have:=(A 5).2;simp only[eG,g_,nM];omega⟩) λh=>?_;refine ed (λh=>⟨by simp only[List.forall_mem_cons,List.forall_mem_append];exact⟨(m _).1,o (by rw[h];decide),(A _).1⟩,by have:=(m<|if l=1 then 2 else l).2;have:=(A<|l+1).2;simp only[eG,g_,nM];omega⟩) λh=>?_
 refine ed (λh=>⟨by simp only[List.forall_mem_cons,List.forall_mem_append];exact⟨F.2.2.2.2.2.2.1,o (by rw[h];decide),F.2.2.2.2.1,g 0⟩,by simp only[eG,g_,nM];omega⟩) λh=>?_;refine ed (λh=>⟨by simp only[List.forall_mem_cons,List.forall_mem_append];exact⟨F.2.2.2.2.2.2.2.2.2.2.1,g 0,F.2.2.2.2.2.2.2.2.2.2.2.1,g 1,F.2.2.2.2.2.2.2.2.2.2.2.2.1,g 2⟩,by simp only[eG,g_,nM];omega⟩) λh=>?_;refine ed (λh=>⟨by simp only[List.forall_mem_cons,List.forall_mem_append];exact⟨F.2.2.2.2.2.2.2.2.2.2.2.2.2.1,g 0,G.1,F.2.2.2.2.2.2.2.2.2.2.2.2.2.2.2.1,nofun⟩,by simp only[eG,g_,nM];omega⟩) λh=>?_;refine⟨?_,?_⟩
 .simp only[List.forall_mem_cons,List.forall_mem_append];exact⟨F.2.2.2.2.2.2.2.1,by split<;>simp[F.2.2.2.2.2.2.2.2.1],o (by simp[usS];omega),F.2.2.2.2.2.2.2.2.2.2.2.2.2.2.2.2.2.1,g 0,F.2.2.2.2.2.2.2.2.2.1,g 1⟩
 .have:(if k=11 then[pS]else[]).length<=1:=by split<;>simp
  simp only[eG,g_,nM];omega
mutual
def OkN:Nd->Prop
 |.mk k s n L _ _ _=>n<1000000000/\(usS k=la->pU s)/\Nw L
def Nw:List Nd->Prop
 |[]=>True|x::l=>OkN x/\Nw l
end
def Nw.of:∀{L:List Nd},(∀x∈L,OkN x)->Nw L
 |[],_=>trivial|x::l,h=>⟨h x ag,Nw.of λy hy=>h y<|by simp[hy]⟩
mutual
def Ny:∀nd,OkN nd->((∀t∈sw nd,pU t)/\(sw nd).length+3<=9*nn nd)/\NuB nd
 |.mk k s n L f t a,h=>by
  have i:=Q7 L h.2.2;have j:=afn (l:=lv<|.mk k s n L f t a) h.2.1 h.1 i.1.1;refine⟨⟨j.1,?_⟩,h.1,i.2⟩;have:=j.2;have:=i.1.2;simp only[sw,nn];omega
def Q7:∀L,Nw L->((∀p∈ij L,∀t∈p.2,pU t)/\ry (ij L)<=9*cr L)/\Bk L
 |[],_=>⟨⟨nofun,br _⟩,trivial⟩|x::l,h=>by
  have a:=Ny x h.1;have b:=Q7 l h.2;refine⟨⟨?_,?_⟩,a.2,b.2⟩
  .simp only[ij,List.forall_mem_cons];exact⟨a.1.1,b.1.1⟩
  .have:=a.1.2;have:=b.1.2;simp only[ij,ry,cr];omega
end
def Q8(h:s.toList=dJ.toList\/s.toList=cx.toList):pU s:=by
 obtain h|h:=h<;>rw[toList_inj h]
 .exact lh _ (by simp[fx])
 .exact lh _ (by simp[fx])
def qN.ok(h:qN nd):OkN nd:=by
 induction h with
 |var s n f t a h1 h2 h3=>exact⟨ae,λ_=>h1.tk h2,trivial⟩|up s n L f t a h1 h2 h3 h4 ih=>exact⟨ae,λ_=>h1.tk h2,.of ih⟩|pr x y f t a hx hy bu cW|fn x y f t a hx hy bu cW=>exact⟨ae,(λq=>iP),bu,cW,trivial⟩
def tH.ok(h:tH nd):OkN nd:=by
 induction h with
 |any s f t a h1=>exact⟨ae,(λq=>iP),trivial⟩|low s f t a h1 h2=>exact⟨ae,λ_=>h1.tk h2,trivial⟩|num s n f t a h1 h2=>exact⟨h1,(λq=>iP),trivial⟩|word s f t a h1 h2=>exact⟨ae,λ_=>Q8 h1,trivial⟩|unit f t a=>exact⟨ae,(λq=>iP),trivial⟩|pr x y f t a hx hy bu cW=>exact⟨ae,(λq=>iP),bu,cW,trivial⟩|up s n L f t a h1 h2 h3 h4 ih=>exact⟨ae,λ_=>h1.tk h2,.of ih⟩
def Q9:∀{A:List (Nd×Nd)},(∀p∈A,OkN p.1)->(∀p∈A,OkN p.2)->Nw (aN A)
 |[],_,_=>trivial|p::A,h,k=>⟨h p ag,k p ag,Q9 (λq hq=>h q<|by simp[hq]) λq hq=>k q<|by simp[hq]⟩
def gT.ok{nd:Nd}(h:gT nd):OkN nd:=by
 induction h with
 |low s f t a h1 h2=>exact⟨ae,λ_=>h1.tk h2,trivial⟩|up s f t a h1 h2=>exact⟨ae,λ_=>h1.tk h2,trivial⟩|num s n f t a h1 h2=>exact⟨h1,(λq=>iP),trivial⟩|word s f t a h1 h2=>exact⟨ae,λ_=>Q8 h1,trivial⟩|unit f t a=>exact⟨ae,(λq=>iP),trivial⟩|pr x y f t a hx hy bu cW|call x y f t a hx hy bu cW=>exact⟨ae,(λq=>iP),bu,cW,trivial⟩|of x y f t a hx hy bu=>exact⟨ae,(λq=>iP),bu,hy.ok,trivial⟩|op s x y f t a hs hx hy bu cW=>exact⟨ae,λ_=>lh _ (by obtain rfl|rfl|rfl|rfl:=hs<;>simp[fx]),bu,cW,trivial⟩
 |fn s x f t a h1 h2 hx bu=>exact⟨ae,λ_=>h1.tk h2,bu,trivial⟩|lt s x z f t a h1 h2 hx hz bu qA=>exact⟨ae,λ_=>h1.tk h2,bu,qA,trivial⟩|ltr s s' x z f t a f' t' a' h1 h2 h3 h4 hx hz bu qA=>exact⟨ae,λ_=>h1.tk h2,⟨ae,λ_=>h3.tk h4,bu,trivial⟩,qA,trivial⟩|ite x y z f t a hx hy hz bu cW qA=>exact⟨ae,(λq=>iP),bu,cW,qA,trivial⟩|mt x A f t a h0 hx hp he bu ihe=>exact⟨ae,(λq=>iP),bu,Q9 (λp hq=>(hp p hq).ok) ihe⟩
def Q_:∀(ms:List Nd)(b:Bool),(∀m∈ms,Dx qN m)->(∀t∈EU b ms,pU t)/\(EU b ms).length<=9*cr ms
 |[],b,_=>⟨nofun,br _⟩|m::ms,b,h=>by
  have i:=Q_ ms ra λx hx=>h x (by simp[hx]);have j:=(Ny m (h m ag).ty.ok).1;refine⟨?_,?_⟩
  .simp only[EU,List.forall_mem_cons,List.forall_mem_append];exact⟨lh _ (by cases b<;>simp[fx]),j.1,i.1⟩
  .simp only[EU,cr,eG,g_];omega
def D3.all(h:D3 d):(∀t∈sQ d,pU t)/\(sQ d).length+2<=9*AY d/\NuD d:=by
 cases d with
 |ty t vs ms=>
  obtain⟨o,A,m,D,E⟩:=h;have i:=Q_ ms la E;refine⟨?_,?_,trivial⟩
  .simp only[sQ,List.forall_mem_cons,List.forall_mem_append,List.forall_mem_map];exact⟨lh _<|by simp[fx],o.tk A,λv hv=>(m v hv).1.tk (m v hv).2,i.1⟩
  .simp only[sQ,AY,eG,g_,jy];omega
 |lt q t b=>
  obtain⟨o,A,m,D⟩:=h;have j:=Ny b m.ok;refine⟨?_,?_,j.2⟩
  .simp only[sQ,List.forall_mem_cons,List.forall_mem_append];exact⟨lh _<|by simp[fx],by split<;>simp[lh pS<|by simp[fx]],o.tk A,lh _<|by simp[fx],j.1.1⟩
  .have:(if q=la then[pS]else[]).length<=1:=by split<;>simp
   simp only[sQ,AY,eG,g_];omega
def YR:∀{L:List Dc},(∀d∈L,D3 d)->Uk L<=9*Dv L
 |[],_=>br _|d::L,h=>by
  have:=(h d ag).all.2.1;have:=YR (L:=L) λx hx=>h x (by simp[hx]);simp only[Uk,Dv,jt,List.sum_cons]at*;omega
def z_{l:List Dc}(h:bq s=.ok l):(∀d∈l,D3 d)/\SzP l:=by
 have m:¬400<s.size:=λc=>by simp[bq,c]at h
 have i:=po m;rw[h]at i;have:=YR i.1;have:=i.2;exact⟨i.1,λd hd t ht=>((i.1 d hd).all.1 t ht).sz,λd hd=>(i.1 d hd).all.2.2,ae⟩
end
def Q':∀l m,bB (l++m)=bB l++bB m
 |[],m=>rfl|x::l,m=>by simp[bB,Q' l m]
abbrev gA:Ky:=(5,[116,114,117,101])
abbrev dS:Ky:=(5,[102,97,108,115,101])
abbrev nU:Ky:=(5,[95])
def LD(x:Ky):Nat:=
 if x=eZ\/x.1=1\/x.1=2\/x.1=4\/x=gA\/x=dS then 4 else if x=(5,[42])then 3 else if x=(5,[43])\/x=(5,[45])then 2 else if x=(5,[60])then 1 else 0
def ik[BEq α][LawfulBEq α][DecidableEq α](a b:α):(a==b)=decide (a=b):=by by_cases h:a=b<;>simp[h]
def li{t:qe}:aT t ⟨l.toArray⟩=decide (aP t=(5,l)):=by
 rw[eR,ik]
def uH(t:qe):(aQ t=1↔(aP t).1=1)/\(aQ t=2↔(aP t).1=2)/\(aQ t=3↔(aP t).1=4)/\(aQ t=16↔(aP t).1=3)/\(aQ t=4↔aP t=gA\/aP t=dS)/\(aQ t=15↔aP t=nU):=by
 have K:aT t dJ=decide (aP t=gA):=li;have N:aT t cx=decide (aP t=dS):=li;have O:aT t pR=decide (aP t=nU):=li;have i:(aP t).1=t.kind:=rfl;rw[aQ];rw[K,N,O,i];by_cases D:t.kind=1
 .have m:aP t≠gA:=λq=>by rw[q]at i;simp at i;omega
  have o:aP t≠dS:=λq=>by rw[q]at i;simp at i;omega
  have A:aP t≠nU:=λq=>by rw[q]at i;simp at i;omega
  simp[D,m,o,A]
 by_cases E:t.kind=2
 .have m:aP t≠gA:=λq=>by rw[q]at i;simp at i;omega
  have o:aP t≠dS:=λq=>by rw[q]at i;simp at i;omega
  have A:aP t≠nU:=λq=>by rw[q]at i;simp at i;omega
  simp[E,m,o,A]
 by_cases G:t.kind=3
 .have m:aP t≠gA:=λq=>by rw[q]at i;simp at i;omega
  have o:aP t≠dS:=λq=>by rw[q]at i;simp at i;omega
  have A:aP t≠nU:=λq=>by rw[q]at i;simp at i;omega
  simp[G,m,o,A]
 by_cases I:t.kind=4
 .have m:aP t≠gA:=λq=>by rw[q]at i;simp at i;omega
  have o:aP t≠dS:=λq=>by rw[q]at i;simp at i;omega
  have A:aP t≠nU:=λq=>by rw[q]at i;simp at i;omega
  simp[I,m,o,A]
 by_cases m:aP t=gA
 .simp[D,E,G,I,m]
 by_cases o:aP t=dS
 .simp[D,E,G,I,o]
 by_cases A:aP t=nU
 .simp[D,E,G,I,A]
 simp[D,E,G,I,m,o,A]
def nj(t:qe):aH t 3=decide (LD (aP t)=4):=by
 have m:aT t bT=decide (aP t=eZ):=li;have⟨o,A,D,_,E,_⟩:=uH t;have G:(aQ t==1)=decide ((aP t).1=1):=by rw[ik,decide_eq_decide];exact o
 have I:(aQ t==2)=decide ((aP t).1=2):=by rw[ik,decide_eq_decide];exact A
 have K:(aQ t==3)=decide ((aP t).1=4):=by rw[ik,decide_eq_decide];exact D
 have N:(aQ t==4)=decide (aP t=gA\/aP t=dS):=by rw[ik,decide_eq_decide];exact E
 rw[aH];rw[if_neg aD,if_neg aD,m,G,I,K,N];rw[LD];by_cases h:aP t=eZ\/(aP t).1=1\/(aP t).1=2\/(aP t).1=4\/aP t=gA\/aP t=dS
 .rw[if_pos h];simp only[decide_true];obtain h|h|h|h|h|h:=h<;>simp[h]
 .rw[if_neg h];have i:=h;simp only[not_or]at i;obtain⟨O,R,S,U,V,W⟩:=i;rw[decide_eq_false O,decide_eq_false R,decide_eq_false S,decide_eq_false U,decide_eq_false (by intro q;exact q.elim V W)];symm;rw[Bool.or_false,Bool.or_false,Bool.or_false,Bool.or_false];apply decide_eq_false;repeat' split
  all_goals omega
def Aa{p:Prop}(h:p:=by
 intro h;unfold LD at h;repeat' split at h
 all_goals first|omega|assumption):p:=h
def YS(t:qe):aT t cD=decide (LD (aP t)=3):=by
 rw[show aT t cD=decide (aP t=(5,[42]))from li,decide_eq_decide];constructor
 .intro h;rw[h];decide
 .exact Aa
def YT(t:qe):(aT t cY=la\/aT t bM=la)↔LD (aP t)=2:=by
 rw[show aT t cY=decide (aP t=(5,[43]))from li,show aT t bM=decide (aP t=(5,[45]))from li];simp only[decide_eq_true_eq];constructor
 .rintro(h|h)<;>rw[h]<;>decide
 .exact Aa
def YU(t:qe):aT t b8=decide (LD (aP t)=1):=by
 rw[show aT t b8=decide (aP t=(5,[60]))from li,decide_eq_decide];constructor
 .intro h;rw[h];decide
 .exact Aa
def En(v:Nat)(T:List qe)(k:Nat):Prop:=LD (aP<|tk T k)<v
def Bg(p:List Ky):=∃x r,p=x::r/\LD x=4
def HdK(p:List Ky):=∃x r,p=x::r/\x≠fH
def Bg.hd{p:List Ky}(h:Bg p):HdK p:=by obtain⟨x,r,rfl,h⟩:=h;exact⟨x,r,rfl,by rintro rfl;revert h;decide⟩
def Bg.len{p:List Ky}(h:Bg p):1<=p.length:=by obtain⟨x,r,rfl,_⟩:=h;simp
def Bg.pD{p:List Ky}(h:Bg p)(q:List Ky):Bg (p++q):=by obtain⟨x,r,rfl,h⟩:=h;exact⟨x,r++q,rfl,h⟩
def Bg.at{p:List Ky}(h:Bg p)(i:dX T k p):LD (aP<|tk T k)=4:=by obtain⟨x,r,rfl,h⟩:=h;rw[i.hd];exact h
section
variable (T:List qe) (n:Nat)
abbrev Ra:M Nd:=ap T (bi T n) (c_ T n) 3
abbrev sm2:M Nd:=ap T (dG T n) (lG T) 2
end
def RdT(m:M Nd)(k:Nat)(p:List Ky)(t:Nd):=∃nd,es nd=t/\m k=.ok (nd,k+p.length)
def dx(v:Nat)(p:List Ky)(t:Nd):Prop:=match v with
 |5=>Bg p/\∀T k n,dX T k p->p.length<=n+1->p.length<=T.length+1->RdT (Ra T n) k p t|4=>Bg p/\∀T k n f,dX T k p->p.length<=n+1->p.length<=T.length+1->p.length<=f+1->∃nd f',es nd=t/\f+1<=f'+p.length/\aI (Ra T n) (gi T (Ra T n) (tk T k).ah f) k=gi T (Ra T n) (tk T k).ah f' nd (k+p.length)|3=>Bg p/\∀T k n f,dX T k p->p.length<=n+1->p.length<=T.length+1->p.length<=f+1->En 4 T (k+p.length)->∃nd f',es nd=t/\f+1<=f'+p.length/\aI (cd T<|Ra T n) (gO T (cd T<|Ra T n) (tk T k).ah f) k=gO T (cd T<|Ra T n) (tk T k).ah f' nd (k+p.length)|2=>Bg p/\∀T k n f,dX T k p->p.length<=n+1->p.length<=T.length+1->p.length<=f+1->En 3 T (k+p.length)->∃nd f',es nd=t/\f+1<=f'+p.length/\aI (dN T<|cd T<|Ra T n) (nS T (dN T<|cd T<|Ra T n) (tk T k).ah f) k=nS T (dN T<|cd T<|Ra T n) (tk T k).ah f' nd (k+p.length)|1=>Bg p/\∀T k n,dX T k p->p.length<=n+1->p.length<=T.length+1->En 1 T (k+p.length)->RdT (nF T<|q_ T<|dN T<|cd T<|Ra T n) k p t|_=>HdK p/\∀T k n,dX T k p->p.length<=n->p.length<=T.length+1->En 1 T (k+p.length)->RdT (bi T n) k p t
def En.up{v u:Nat}(h:En v T k)(i:v<=u):En u T k:=jd h i
def Nz(h:En 4 T k):gi T sm fr f x k=.ok (x,k):=by
 cases f with
 |zero=>rfl|succ f=>unfold gi;rw[nj,decide_eq_false (by unfold En at h;omega)];rfl
def NA(h:En 3 T k):gO T sm fr f x k=.ok (x,k):=by
 cases f with
 |zero=>rfl|succ f=>unfold gO;rw[YS,decide_eq_false (by unfold En at h;omega)];rfl
def Um(h:En 2 T k):nS T sm fr f x k=.ok (x,k):=by
 cases f with
 |zero=>rfl|succ f=>unfold nS;rw[if_neg (by rw[YT];unfold En at h;omega)]
def dx.call{p:List Ky}(h:dx 4 p t)(o:dX T k p)(A:p.length<=n+1)(i:p.length<=T.length+1)(D:En 4 T (k+p.length)):RdT (cd T<|Ra T n) k p t:=by
 have⟨nd,f',e,_,m⟩:=h.2 T k n T.length o A i i;exact⟨nd,e,by rw[cd];rw[m,Nz D]⟩
def dx.prod{p:List Ky}(h:dx 3 p t)(A:dX T k p)(D:p.length<=n+1)(i:p.length<=T.length+1)(m:En 3 T (k+p.length)):RdT (dN T<|cd T<|Ra T n) k p t:=by
 have⟨nd,f',e,_,o⟩:=h.2 T k n T.length A D i i<|m.up ae;exact⟨nd,e,by rw[dN];rw[o,NA m]⟩
def dx.sum{p:List Ky}(h:dx 2 p t)(A:dX T k p)(D:p.length<=n+1)(i:p.length<=T.length+1)(m:En 2 T (k+p.length)):RdT (q_ T<|dN T<|cd T<|Ra T n) k p t:=by
 have⟨nd,f',e,_,o⟩:=h.2 T k n T.length A D i i<|m.up ae;exact⟨nd,e,by rw[q_];rw[o,Um m]⟩
def dx.d54{p:List Ky}{t:Nd}(h:dx 5 p t):dx 4 p t:=⟨h.1,λT k n f hs hn hT hf=>by
 have⟨nd,e,i⟩:=h.2 T k n hs hn hT
 exact⟨nd,f,e,by have:=h.1.len;omega,by rw[aI];rw[i]⟩⟩
def dx.d43{p:List Ky}{t:Nd}(h:dx 4 p t):dx 3 p t:=⟨h.1,λT k n f hs hn hT hf he=>by
 have⟨nd,e,i⟩:=h.call hs hn hT he
 exact⟨nd,f,e,by have:=h.1.len;omega,by rw[aI];rw[i]⟩⟩
def dx.d32{p:List Ky}{t:Nd}(h:dx 3 p t):dx 2 p t:=⟨h.1,λT k n f hs hn hT hf he=>by
 have⟨nd,e,i⟩:=h.prod hs hn hT he
 exact⟨nd,f,e,by have:=h.1.len;omega,by rw[aI];rw[i]⟩⟩
def dx.d21{p:List Ky}{t:Nd}(h:dx 2 p t):dx 1 p t:=⟨h.1,λT k n hs hn hT he=>by
 have⟨nd,e,i⟩:=h.sum hs hn hT<|he.up ae;refine⟨nd,e,?_⟩;rw[nF,aI];rw[i];show(if _ then _ else _)=_
 rw[YU,if_neg (by rw[En]at he;simp;omega)]⟩
def sR{t:qe}(h:LD (aP t)=4)(l:List UInt8)(i:LD (5,l)≠4):aT t ⟨l.toArray⟩=ra:=by
 rw[li];apply decide_eq_false;intro q;rw[q]at h;exact i h
def dx.d10{p:List Ky}{t:Nd}(h:dx 1 p t):dx 0 p t:=⟨h.1.hd,λT k n hs hn hT he=>by
 have h1:=h.1.len;obtain⟨m,rfl⟩:∃m,n=m+1:=⟨n-1,ae⟩;have hc:=h.1.at hs;have⟨nd,e,i⟩:=h.2 T k m hs ae hT he;refine⟨nd,e,?_⟩;unfold bi;rw[sR hc _ aD,sR hc _ aD,sR hc _ aD,sR hc _ aD]
 exact i⟩
def dx.down{p:List Ky}{v:Nat}(h:dx v p t)(G:v<=5):∀u,u<=v->dx u p t:=by
 intro u E;have A:= @dx.d54 p t;have m:= @dx.d43 p t;have i:= @dx.d32 p t;have o:= @dx.d21 p t;have D:= @dx.d10 p t
 match v,u,G,E,h with
 |0,0,_,_,h=>exact h|1,0,_,_,h=>exact D h|1,1,_,_,h=>exact h|2,0,_,_,h=>exact D (o h)|2,1,_,_,h=>exact o h|2,2,_,_,h=>exact h|3,0,_,_,h=>exact D (o<|i h)|3,1,_,_,h=>exact o (i h)|3,2,_,_,h=>exact i h|3,3,_,_,h=>exact h|4,0,_,_,h=>exact D (o<|i<|m h)|4,1,_,_,h=>exact o (i<|m h)|4,2,_,_,h=>exact i (m h)|4,3,_,_,h=>exact m h|4,4,_,_,h=>exact h|5,0,_,_,h=>exact D (o<|i<|m<|A h)|5,1,_,_,h=>exact o (i<|m<|A h)|5,2,_,_,h=>exact i (m<|A h)|5,3,_,_,h=>exact m (A h)|5,4,_,_,h=>exact A h|5,5,_,_,h=>exact h
def iQ(x:Ky):Nd:=.mk (if x.1=1 then 1 else if x.1=2 then 2 else if x.1=3 then 16 else if x.1=4 then 3 else if x=gA\/x=dS then 4 else 15) (if x.1=4\/x=nU then cX else⟨x.2.toArray⟩) (if x.1=4 then rj ⟨x.2.toArray⟩else 0) [] 0 0 0
def Ab{p:Prop}(h:p:=by
 have h5:t.kind=5:=by rw[<-hkd,h]
 simp[this,h,cO]):p:=h
def Rb(t:qe)(h:(aP t).1=1\/(aP t).1=2\/(aP t).1=3\/(aP t).1=4\/aP t=gA\/aP t=dS\/aP t=nU):es (bD t)=iQ (aP t):=by
 have A:(⟨(aP t).2.toArray⟩:BA)=t.text:=toList_inj (by rw[toList_mk];rfl);have⟨D,E,G,i,o,m⟩:=uH t;have hkd:(aP t).1=t.kind:=rfl;rw[bD,iQ];simp only[es,bB,A];obtain h|h|h|h|h|h|h:=h
 .have a:aP t≠nU:=λq=>by rw[q]at h;simp at h
  have:=D.2 h;simp[this,h,a,cO,show t.kind=1 from h]
 .have a:aP t≠nU:=λq=>by rw[q]at h;simp at h
  have:=E.2 h;simp[this,h,a,cO,show t.kind=2 from h]
 .have a:aP t≠nU:=λq=>by rw[q]at h;simp at h
  have:=i.2 h;simp[this,h,a,cO,show t.kind=3 from h]
 .have:=G.2 h;simp[this,h,cO,show t.kind=4 from h]
 .have:=o.2<|qp h;exact Ab
 .have:=o.2<|qn h;exact Ab
 .have:=m.2 h;exact Ab
def J4{p:Prop}(h:p:=by
 have ho:aT (tk T k) bT=decide (aP (tk T k)=eZ):=li;rw[ho,hs.hd,decide_eq_false (by rintro rfl;simp at h)]
 rfl):p:=h
def dx.leaf{x:Ky}(h:x.1=1\/x.1=2\/x.1=4\/x=gA\/x=dS):dx 5 [x] (iQ x):=by
 have hc:LD x=4:=by rw[LD];rw[if_pos<|qn h]
 refine⟨⟨x,[],rfl,hc⟩,λT k n hs _ _=>⟨bD<|tk T k,?_,?_⟩⟩
 .rw[<-hs.hd];rw[<-hs.hd]at h;exact Rb _ (by obtain h|h|h|h|h:=h<;>simp[h])
 .show ap T _ _ 3 k=_;rw[ap];rw[nj,hs.hd,decide_eq_true hc];exact J4
def cQ(h:aP (tk T k)=(5,l)):bt T ⟨l.toArray⟩ k=.ok ((),k+1):=by
 rw[bt];rw[li,h,decide_eq_true rfl];rfl
def pG(h:aP (tk T k)=(n,l)):dk T n k=.ok (tk T k,k+1)/\(tk T k).text=⟨l.toArray⟩:=by
 have i:(tk T k).kind=n:=congrArg Prod.fst h;refine⟨by rw[dk];rw[i];simp,toList_inj ?_⟩;exact(congrArg Prod.snd h).trans (toList_mk l).symm
def iR{x:Ky}(h:aP (tk T k)=x)(i:x≠(5,l)):aT (tk T k) ⟨l.toArray⟩=ra:=by
 rw[li,h,decide_eq_false i]
def de(h:aP (tk T k)=(5,l)):aT (tk T k) ⟨l.toArray⟩=la:=by
 rw[li,h,decide_eq_true rfl]
def Ac{v:Nat}(h:En v T a)(e:a=b):En v T b:=by rw[<-e];exact h
def gB{v:Nat}{x:Ky}(h:aP (tk T k)=x)(i:LD x<v):En v T k:=by rw[En];rw[h];exact i
mutual
def Vp:Nd->Prop
 |.mk k _ _ L _ _ _=>k≠3/\k≠15/\J6 L
def J6:List Nd->Prop
 |[]=>True|x::l=>Vp x/\J6 l
end
mutual
def J7:∀nd,Vp (er nd)->es nd=er nd
 |.mk k s n L f t a,h=>by
  simp only[er,Vp]at h;simp only[er,es,YV L h.2.2,if_neg<|show ¬(k=3\/k=15) by omega,if_neg h.1]
def YV:∀L,J6 (vX L)->bB L=vX L
 |[],_=>rfl|x::l,h=>by
  simp only[vX,J6]at h;simp only[vX,bB,J7 x h.1,YV l h.2]
end
def kM:Nd:=.mk 5 cX 0 [] 0 0 0
def CS(x y:Nd):Nd:=.mk 6 cX 0 [x,y] 0 0 0
def tOf(x y:Nd):Nd:=.mk 14 cX 0 [x,y] 0 0 0
def YW(x y:Nd):Nd:=.mk 8 cX 0 [x,y] 0 0 0
def tOp(l:List UInt8)(x y:Nd):Nd:=.mk 7 ⟨l.toArray⟩ 0 [x,y] 0 0 0
def mD(s:BA)(x:Nd):Nd:=.mk 9 s 0 [x] 0 0 0
def acg(c:Nat)(s:BA)(x y:Nd):Nd:=.mk c s 0 [x,y] 0 0 0
def tIf(x y z:Nd):Nd:=.mk 12 cX 0 [x,y,z] 0 0 0
def tMt(x:Nd)(A:List (Nd×Nd)):Nd:=.mk 13 cX 0 (x::aN A) 0 0 0
abbrev adC:Ky:=(5,[42])
abbrev adD:Ky:=(5,[60])
abbrev ND:Ky:=(5,[58])
abbrev yEq:Ky:=(5,[61])
abbrev NE:Ky:=(5,[124])
abbrev CU:Ky:=(5,[59])
abbrev aho:Ky:=(5,[102,117,110])
abbrev EY:Ky:=(5,[108,101,116])
abbrev ahp:Ky:=(5,[114,101,99])
abbrev yIn:Ky:=(5,[105,110])
abbrev yIf:Ky:=(5,[105,102])
abbrev YX:Ky:=(5,[116,104,101,110])
abbrev YY:Ky:=(5,[101,108,115,101])
abbrev YZ:Ky:=(5,[109,97,116,99,104])
abbrev Y2:Ky:=(5,[119,105,116,104])
abbrev Y3:Ky:=(5,[101,110,100])
abbrev Y4:Ky:=(5,[116,121,112,101])
def x_(q:List Ky):Bg (eZ::q):=⟨eZ,q,rfl,aD⟩
section
variable {p:List Ky} {z:Nd}
def dx.unit:dx 5 [eZ,fH] kM:=by
 refine⟨x_ _,λT k n hs _ _=>⟨.mk 5 cX 0 [] (tk T k).ah (aF T<|k+1+1) (tk T k).ah,rfl,?_⟩⟩;have i:=hs.hd;have m:=hs.tl.hd;show ap T _ _ 3 k=_;rw[ap];rw[nj,i,decide_eq_true aD,de i];rw[dD];rw[de m];rfl
def Rc{p:Prop}(h:p:=by
 unfold dD;rw[iR hp.hd hcl];simp only[aI,hr,gN,iR hc<|show fH≠(5,[44]) by decide,iR hc<|show fH≠(5,[58]) by decide,oQ _ hc]
 simp[Nat.add_assoc,Nat.add_comm 1]):p:=h
def dx.par(h:dx 0 p x):dx 5 (eZ::(p++[fH])) x:=by
 refine⟨x_ _,λT k n hs hn hT=>?_⟩;simp only[eG,g_,nM]at hn hT;have i:=hs.hd;have hp:=hs.tl.left;have hc:=hs.tl.right.hd;obtain⟨⟨c,r,rfl,hcl⟩,hr⟩:=h;have⟨nd,e,hr⟩:=hr T (k+1) n hp ae ae<|gB hc aD;refine⟨nd,e,?_⟩;show ap T _ _ 3 k=_;rw[ap];rw[nj,i,decide_eq_true aD,de i];exact Rc
def J8{p:Prop}(h:p:=by
 unfold dD;rw[iR hp.hd hcl];simp only[aI,hr,gN,de hm,hr2,oQ _ hc];simp
 omega):p:=h
def dx.pair(h:dx 0 p x)(D:dx 0 q y):dx 5 (eZ::(p++(Ej::(q++[fH])))) (CS x y):=by
 refine⟨x_ _,λT k n hs hn hT=>?_⟩;simp only[eG,g_,nM]at hn hT;have m:=hs.hd;have hp:=hs.tl.left;have hm:=hs.tl.right.hd;have o:=hs.tl.right.tl.left;have hc:=hs.tl.right.tl.right.hd;obtain⟨⟨c,r,rfl,hcl⟩,hr⟩:=h;have⟨nd,e,hr⟩:=hr T (k+1) n hp ae ae<|gB hm aD;have⟨i,A,hr2⟩:=D.2 T _ n o ae ae<|gB hc aD;refine⟨.mk 6 cX 0 [nd,i] (tk T k).ah (aF T<|k+1+(c::r).length+1+q.length+1) (tk T k).ah,by simp[es,bB,e,A,CS],?_⟩;show ap T _ _ 3 k=_;rw[ap];rw[nj,m,decide_eq_true aD,de m];exact J8
def dx.of(h:dx 0 p x)(O:Gr 2 q t)(R:Vp t):dx 5 (eZ::(p++(ND::(q++[fH])))) (tOf x t):=by
 refine⟨x_ _,λT k n hs hn hT=>?_⟩;simp only[eG,g_,nM]at hn hT;have E:=hs.hd;have G:=hs.tl.left;have m:=hs.tl.right.hd;have K:=hs.tl.right.tl.left;have hc:=hs.tl.right.tl.right.hd;obtain⟨⟨c,r,rfl,o⟩,A⟩:=h;have⟨nd,e,A⟩:=A T (k+1) n G ae ae<|gB m aD;have⟨i,I,D⟩:=O.reads T _ n K ae ae<|jK hc aD aD;have N:=J7 i (by rw[I];exact R);refine⟨.mk 14 cX 0 [nd,i] (tk T k).ah (aF T<|k+1+(c::r).length+1+q.length+1) (tk T k).ah,by simp[es,bB,e,N,I,tOf],?_⟩;show ap T _ _ 3 k=_;rw[ap];rw[nj,E,decide_eq_true aD,de E];rw[dD];rw[iR G.hd o];simp only[aI,A,gN,iR m<|show ND≠(5,[44]) by decide,de m,D,oQ _ hc];simp;omega
def dx.pD(h:dx 4 p x)(o:dx 5 q y):dx 4 (p++q) (YW x y):=by
 refine⟨h.1.pD q,λT k n f hs hn hT hf=>?_⟩;simp only[g_]at hn hT hf;have n2:=o.1.len;have⟨nd,A,e,hff,D⟩:=h.2 T k n f hs.left ae ae ae;have⟨i,E,m⟩:=o.2 T (k+p.length) n hs.right ae ae;obtain⟨g,rfl⟩:∃g,A=g+1:=⟨A-1,ae⟩;refine⟨.mk 8 cX 0 [nd,i] (tk T k).ah (aF T<|k+p.length+q.length) (tk T k).ah,g,by simp[es,bB,e,E,YW],bQ,?_⟩;rw[D];show(if _ then _ else _)=_;rw[nj,o.1.at hs.right,if_pos aD];rw[aI];rw[m];simp[Nat.add_assoc]
def dx.mul(h:dx 3 p x)(D:dx 4 q y):dx 3 (p++(adC::q)) (tOp [42] x y):=by
 refine⟨h.1.pD _,λT k n f hs hn hT hf he=>?_⟩;simp only[g_,eG]at hn hT hf;have n2:=D.1.len;have o:=hs.right.hd;have⟨nd,A,e,hff,E⟩:=h.2 T k n f hs.left ae ae ae<|gB o aD;have⟨i,G,m⟩:=D.call (n:=n) hs.right.tl ae ae (Ac he (by simp<;>omega));obtain⟨g,rfl⟩:∃g,A=g+1:=⟨A-1,ae⟩;refine⟨.mk 7 cD 0 [nd,i] (tk T k).ah (aF T<|k+p.length+1+q.length) (tk T k).ah,g,by simp[es,bB,e,G,tOp],bQ,?_⟩;rw[E];show(if _ then _ else _)=_;rw[de o,if_pos rfl];rw[aI];rw[m];exact xY
def dx.add{l:List UInt8}(K:l=[43]\/l=[45])(h:dx 2 p x)(D:dx 3 q y):dx 2 (p++((5,l)::q)) (tOp l x y):=by
 refine⟨h.1.pD _,λT k n f hs hn hT hf he=>?_⟩;simp only[g_,eG]at hn hT hf;have n2:=D.1.len;have i:=hs.right.hd;have hc:LD (5,l)=2:=by obtain rfl|rfl:=K<;>decide
 have⟨nd,A,e,hff,E⟩:=h.2 T k n f hs.left ae ae ae<|gB i ae;have⟨m,G,o⟩:=D.prod (n:=n) hs.right.tl ae ae (Ac he (by simp<;>omega));obtain⟨g,rfl⟩:∃g,A=g+1:=⟨A-1,ae⟩;have I:(tk T<|k+p.length).text=⟨l.toArray⟩:=(pG i).2;refine⟨.mk 7 (tk T<|k+p.length).text 0 [nd,m] (tk T k).ah (aF T<|k+p.length+1+q.length) (tk T k).ah,g,by rw[I];simp[es,bB,e,G,tOp],bQ,?_⟩;rw[E];show(if _ then _ else _)=_;rw[if_pos (by rw[YT,i];exact hc)];rw[aI];rw[o];exact xY
def dx.less(h:dx 2 p x)(E:dx 2 q y):dx 1 (p++(adD::q)) (tOp [60] x y):=by
 refine⟨h.1.pD _,λT k n hs hn hT he=>?_⟩;simp only[g_,eG]at hn hT;have o:=hs.right.hd;have⟨nd,e,A⟩:=h.sum (n:=n) hs.left ae ae<|gB o aD;have⟨i,D,m⟩:=E.sum (n:=n) hs.right.tl ae ae (Ac (he.up ae) (by simp<;>omega));refine⟨.mk 7 b8 0 [nd,i] (tk T k).ah (aF T<|k+p.length+1+q.length) (tk T k).ah,by simp[es,bB,e,D,tOp],?_⟩;unfold nF aI;rw[A];show(if _ then _ else _)=_;rw[de o,if_pos rfl,m];exact xY
def RdF(p:List Ky)(t:Nd):=∃q s x,p=aho::(1,s)::uz::q/\t=mD ⟨s.toArray⟩ x/\dx 0 q x
def RdF.reads(h:RdF p t)(i:dX T k p)(I:p.length<=n+1)(K:p.length<=T.length+1)(N:En 1 T (k+p.length)):RdT (rf T<|bi T n) k p t:=by
 obtain⟨q,s,x,rfl,rfl,h⟩:=h;simp only[eG]at I K;have m:=i.hd;have o:=i.tl.hd;have A:=i.tl.tl.hd;have⟨nd,e,D⟩:=h.2 T _ n i.tl.tl.tl ae ae (Ac N (by simp<;>omega));have⟨E,G⟩:=pG o;refine⟨.mk 9 (tk T<|k+1).text 0 [nd] (tk T k).ah (aF T<|k+1+1+1+q.length) (tk T<|k+1).ah,by rw[G];simp[es,bB,e,mD],?_⟩;rw[rf];simp only[aI,cQ m,E,cQ A,D];simp;omega
def RdF.rds(h:RdF p t):dx 0 p t:=by
 have i:=h;obtain⟨q,s,x,rfl,rfl,_⟩:=i;refine⟨⟨_,_,rfl,aD⟩,λT k n hs hn hT he=>?_⟩;simp only[eG]at hn;obtain⟨m,rfl⟩:∃m,n=m+1:=⟨n-1,ae⟩;have o:=hs.hd;have⟨nd,e,A⟩:=h.reads (n:=m) hs bQ hT he;refine⟨nd,e,?_⟩;unfold bi;rw[de o,if_pos rfl];exact A
def RdB(p:List Ky)(c:Nat)(s:List UInt8)(t:Nd):=∃q,(c=10/\p=EY::(1,s)::yEq::q/\dx 0 q t)\/(c=11/\p=EY::ahp::(1,s)::yEq::q/\RdF q t)
def RdB.reads{c:Nat}{s:List UInt8}{t:Nd}(h:RdB p c s t){T:List qe}{k n:Nat}(i:dX T k p)(I:p.length<=n+1)(K:p.length<=T.length+1)(N:En 1 T (k+p.length)):∃tok nd,es nd=t/\tok.text=⟨s.toArray⟩/\cG T (bi T n) k=.ok ((c,tok,nd),k+p.length):=by
 obtain⟨q,⟨rfl,rfl,h⟩|⟨rfl,rfl,h⟩⟩:=h
 .simp only[eG]at I K;have o:=i.hd;have m:=i.tl.hd;have A:=i.tl.tl.hd;have⟨nd,e,D⟩:=h.2 T _ n i.tl.tl.tl ae ae (Ac N (by simp<;>omega));have⟨E,G⟩:=pG m;refine⟨tk T<|k+1,nd,e,G,?_⟩;rw[cG];simp only[aI,cQ o,iR m<|show((1,s):Ky)≠(5,[114,101,99]) by simp,E,cQ A,D];simp;omega
 .simp only[eG]at I K;have o:=i.hd;have m:=i.tl.hd;have A:=i.tl.tl.hd;have O:=i.tl.tl.tl.hd;have⟨nd,e,D⟩:=h.reads (n:=n) i.tl.tl.tl.tl ae ae (Ac N (by simp<;>omega));have⟨E,G⟩:=pG A;refine⟨tk T<|k+1+1,nd,e,G,?_⟩;rw[cG];simp only[aI,cQ o,de m,E,cQ O,D];simp;omega
def RdB.hd{c:Nat}{s:List UInt8}(h:RdB p c s t):∃r,p=EY::r/\2<=r.length:=by
 obtain⟨q,⟨_,rfl,h⟩|⟨_,rfl,h⟩⟩:=h
 .exact⟨_,rfl,ag⟩
 .exact⟨_,rfl,ag⟩
def dx.lt{c:Nat}{s:List UInt8}(h:RdB p c s x)(N:dx 0 q y)(hc:c=10\/c=11):dx 0 (p++(yIn::q)) (acg c ⟨s.toArray⟩ x y):=by
 have⟨r,i,hr1⟩:=h.hd;refine⟨⟨EY,r++(yIn::q),by rw[i];rfl,aD⟩,λT k n hs hn hT he=>?_⟩;simp only[g_,eG]at hn hT;obtain⟨m,rfl⟩:∃m,n=m+1:=⟨n-1,ae⟩;have G:=hs.right.hd;have⟨o,nd,e,g,I⟩:=h.reads (n:=m) hs.left ae ae<|gB G aD;have⟨D,K,E⟩:=N.2 T _ m hs.right.tl ae ae (Ac he (by simp<;>omega));have A:aP (tk T k)=EY:=by have:=hs.left;rw[i]at this;exact this.hd
 refine⟨.mk c o.text 0 [nd,D] (tk T k).ah (aF T<|k+p.length+1+q.length) o.ah,?_,?_⟩
 .rw[g];obtain rfl|rfl:=hc<;>simp[es,bB,e,K,acg]
 .unfold bi;rw[iR A aD,iR A aD,iR A aD,de A];show nK T (bi T m) k=_;unfold nK;simp only[aI,I,cQ G,E];simp;omega
def dx.ite{r:List Ky}(h:dx 0 p x)(V:dx 0 q y)(G:dx 0 r z):dx 0 (yIf::(p++(YX::(q++(YY::r))))) (tIf x y z):=by
 refine⟨⟨_,_,rfl,aD⟩,λT k n hs hn hT he=>?_⟩;simp only[g_,eG]at hn hT;obtain⟨m,rfl⟩:∃m,n=m+1:=⟨n-1,ae⟩;have i:=hs.hd;have N:=hs.tl.left;have I:=hs.tl.right.hd;have O:=hs.tl.right.tl.left;have K:=hs.tl.right.tl.right.hd;have o:=hs.tl.right.tl.right.tl;have⟨nd,e,R⟩:=h.2 T _ m N ae ae<|gB I aD;have⟨A,S,D⟩:=V.2 T _ m O ae ae<|gB K aD
 have⟨AY,U,E⟩:=G.2 T _ m o ae ae (by
  have:k+1+p.length+1+q.length+1+r.length=k+(yIf::(p++(YX::(q++(YY::r))))).length:=bQ
  rw[this];exact he)
 refine⟨.mk 12 cX 0 [nd,A,AY] (tk T k).ah (aF T<|k+1+p.length+1+q.length+1+r.length) (tk T k).ah,by simp[es,bB,e,S,U,tIf],?_⟩;unfold bi;rw[iR i aD,de i];show kX T (bi T m) k=_;unfold kX;simp only[aI,cQ i,R,cQ I,D,cQ K,E];simp;omega
end
def pcl(x:Ky):Bool:=decide (x=eZ\/x=nU\/x.1=1\/x.1=2\/x.1=4\/x=gA\/x=dS)
def pH(t:qe):aH t 2=pcl (aP t):=by
 have K:aT t bT=decide (aP t=eZ):=li;have⟨N,O,R,_,S,i⟩:=uH t;have U:(aQ t==15)=decide (aP t=nU):=by rw[ik,decide_eq_decide];exact i
 have V:(aQ t==1)=decide ((aP t).1=1):=by rw[ik,decide_eq_decide];exact N
 have W:(aQ t==2)=decide ((aP t).1=2):=by rw[ik,decide_eq_decide];exact O
 have X:(aQ t==3)=decide ((aP t).1=4):=by rw[ik,decide_eq_decide];exact R
 have Y:(aQ t==4)=decide (aP t=gA\/aP t=dS):=by rw[ik,decide_eq_decide];exact S
 rw[aH,pcl];rw[if_neg aD,if_pos rfl,K,U,V,W,X,Y];by_cases m:aP t=eZ
 .simp[m]
 by_cases o:aP t=nU
 .simp[o]
 by_cases A:(aP t).1=1
 .simp[A]
 by_cases D:(aP t).1=2
 .simp[D]
 by_cases E:(aP t).1=4
 .simp[E]
 by_cases G:aP t=gA
 .simp[G]
 by_cases I:aP t=dS
 .simp[I]
 simp[m,o,A,D,E,G,I]
def Vq(s:BA)(L:List Nd):Nd:=.mk 2 s 0 L 0 0 0
def Pg(p:List Ky):=∃x r,p=x::r/\pcl x=la
def Pg.len{p:List Ky}(h:Pg p):1<=p.length:=by obtain⟨x,r,rfl,_⟩:=h;simp
def Pg.at{p:List Ky}(h:Pg p)(i:dX T k p):pcl (aP<|tk T k)=la:=by obtain⟨x,r,rfl,h⟩:=h;rw[i.hd];exact h
def Pg.hd{p:List Ky}(h:Pg p):HdK p:=by obtain⟨x,r,rfl,h⟩:=h;exact⟨x,r,rfl,by rintro rfl;revert h;decide⟩
def mx(v:Nat)(p:List Ky)(t:Nd):Prop:=match v with
 |5=>Pg p/\∀T k n,dX T k p->p.length<=n+1->p.length<=T.length+1->RdT (sm2 T n) k p t|4=>(∃s r,p=(2,s)::r)/\∀T k n f,dX T k p->p.length<=n+1->p.length<=T.length+1->p.length<=f+1->∃nd f',es nd=t/\f+1<=f'+p.length/\aI (sm2 T n) (da T (sm2 T n) 2 f) k=da T (sm2 T n) 2 f' nd (k+p.length)|_=>HdK p/\∀T k n,dX T k p->p.length<=n->p.length<=T.length+1->pcl (aP<|tk T<|k+p.length)=ra->RdT (dG T n) k p t
def wH(h:pcl (aP<|tk T k)=ra):da T sm 2 f x k=.ok (x,k):=by
 cases f with
 |zero=>rfl|succ f=>unfold da;rw[pH,h];rfl
section
variable {p:List Ky} {z:Nd}
def mx.d40(h:mx 4 p x):mx 0 p x:=by
 obtain⟨⟨s,r,rfl⟩,h⟩:=h;refine⟨⟨_,_,rfl,ag⟩,λT k n hs hn hT he=>?_⟩;obtain⟨m,rfl⟩:∃m,n=m+1:=⟨n-1,by simp at hn;omega⟩;have⟨nd,f',e,_,i⟩:=h T k m T.length hs hn hT hT;refine⟨nd,e,?_⟩;rw[dG,fN];have o:(tk T k).kind=2:=congrArg Prod.fst hs.hd;rw[o];show aI (sm2 T m) (da T (sm2 T m) 2 T.length) k=_;rw[i,wH he]
def mx.d50(h:mx 5 p x):mx 0 p x:=by
 refine⟨h.1.hd,λT k n hs hn hT he=>?_⟩;have h1:=h.1.len;obtain⟨m,rfl⟩:∃m,n=m+1:=⟨n-1,ae⟩;have⟨nd,e,i⟩:=h.2 T k m hs hn hT;refine⟨nd,e,?_⟩;rw[dG,fN];split
 .show aI (sm2 T m) _ k=_;rw[aI];rw[i];exact wH he
 .exact i
def mx.leaf{x:Ky}(h:x.1=1\/x.1=2\/x.1=4\/x=gA\/x=dS\/x=nU):mx 5 [x] (iQ x):=by
 have hc:pcl x=la:=by rw[pcl];apply decide_eq_true;obtain h|h|h|h|h|h:=h<;>simp[h]
 refine⟨⟨x,[],rfl,hc⟩,λT k n hs _ _=>⟨bD<|tk T k,?_,?_⟩⟩
 .rw[<-hs.hd];rw[<-hs.hd]at h;exact Rb _ (by obtain h|h|h|h|h|h:=h<;>simp[h])
 .show ap T _ _ 2 k=_;rw[ap];rw[pH,hs.hd,hc];exact J4
def Y5(s:List UInt8):iQ (2,s)=Vq ⟨s.toArray⟩ []:=by simp[iQ,Vq]
def mx.up(s:List UInt8):mx 4 [(2,s)] (Vq ⟨s.toArray⟩ []):=by
 refine⟨⟨s,[],rfl⟩,λT k n f hs hn hT hf=>?_⟩;have⟨nd,e,i⟩:=(mx.leaf (x:=(2,s)) ag).2 T k n hs hn hT;exact⟨nd,f,by rw[e,Y5],ag,by rw[aI];rw[i]⟩
def afo(a b:Nd)(u:Nat)(s:BA)(L:List Nd)(h:es a=Vq s L):es (a.add b u)=Vq s (L++[es b]):=by
 obtain⟨k,s',n,L',f,t,a⟩:=a;simp only[es,Vq,Nd.mk.injEq]at h;obtain⟨rfl,i,_,rfl,_⟩:=h;simp at i;subst i;simp[Nd.add,es,Q',bB,Vq]
def mx.arg{s:BA}{L:List Nd}(h:mx 4 p (Vq s L))(o:mx 5 q y):mx 4 (p++q) (Vq s<|L++[y]):=by
 obtain⟨⟨A,r,rfl⟩,h⟩:=h;refine⟨⟨A,r++q,rfl⟩,λT k n f hs hn hT hf=>?_⟩;simp only[g_]at hn hT hf;have n2:=o.1.len;have⟨nd,D,e,hff,E⟩:=h T k n f hs.left ae ae ae;have⟨i,G,m⟩:=o.2 T _ n hs.right ae ae;obtain⟨g,rfl⟩:∃g,D=g+1:=⟨D-1,ae⟩;refine⟨nd.add i<|aF T<|k+((2,A)::r).length+q.length,g,by rw[afo _ _ _ s L e,G],by simp only[g_];omega,?_⟩;rw[E];show(if _ then _ else _)=_;rw[pH,o.1.at hs.right,if_pos rfl];rw[aI];rw[m,g_,<-Nat.add_assoc]
def mx.unit:mx 5 [eZ,fH] kM:=by
 refine⟨⟨_,_,rfl,aD⟩,λT k n hs _ _=>⟨.mk 5 cX 0 [] (tk T k).ah (aF T<|k+1+1) (tk T k).ah,rfl,?_⟩⟩;have i:=hs.hd;have m:=hs.tl.hd;show ap T _ _ 2 k=_;rw[ap];rw[pH,i,de i];show dD T _ _ 2 _ (k+1)=_;rw[dD];rw[de m];rfl
def mx.par(h:mx 0 p x):mx 5 (eZ::(p++[fH])) x:=by
 refine⟨⟨_,_,rfl,aD⟩,λT k n hs hn hT=>?_⟩;simp only[eG,g_,nM]at hn hT;have i:=hs.hd;have hp:=hs.tl.left;have hc:=hs.tl.right.hd;obtain⟨⟨c,r,rfl,hcl⟩,hr⟩:=h;have⟨nd,e,hr⟩:=hr T (k+1) n hp ae ae (by rw[hc];decide);refine⟨nd,e,?_⟩;show ap T _ _ 2 k=_;rw[ap];rw[pH,i,de i];show dD T _ _ 2 _ (k+1)=_;exact Rc
def mx.pair(h:mx 0 p x)(D:mx 0 q y):mx 5 (eZ::(p++(Ej::(q++[fH])))) (CS x y):=by
 refine⟨⟨_,_,rfl,aD⟩,λT k n hs hn hT=>?_⟩;simp only[eG,g_,nM]at hn hT;have m:=hs.hd;have hp:=hs.tl.left;have hm:=hs.tl.right.hd;have o:=hs.tl.right.tl.left;have hc:=hs.tl.right.tl.right.hd;obtain⟨⟨c,r,rfl,hcl⟩,hr⟩:=h;have⟨nd,e,hr⟩:=hr T (k+1) n hp ae ae (by rw[hm];decide);have⟨i,A,hr2⟩:=D.2 T _ n o ae ae (by rw[hc];decide);refine⟨.mk 6 cX 0 [nd,i] (tk T k).ah (aF T<|k+1+(c::r).length+1+q.length+1) (tk T k).ah,by simp[es,bB,e,A,CS],?_⟩;show ap T _ _ 2 k=_;rw[ap];rw[pH,m,de m];show dD T _ _ 2 _ (k+1)=_;exact J8
inductive RdA:List Ky->List (Nd×Nd)->Prop where
 |one{p r:List Ky}{x y:Nd}:mx 0 p x->dx 0 r y->RdA (p++(uz::r)) [(x,y)]
 |cons{p r q:List Ky}{x y:Nd}{A:List (Nd×Nd)}:mx 0 p x->dx 0 r y->RdA q A->RdA (p++(uz::(r++(NE::q)))) ((x,y)::A)
def esA(A:List (Nd×Nd)):List (Nd×Nd):=A.map λp=>(es p.1,es p.2)
def EZ:∀A,bB (aN A)=aN (esA A)
 |[]=>rfl|p::A=>by simp[aN,bB,esA];exact EZ A
def RdA.reads{A:List (Nd×Nd)}(h:RdA q A):∀(T:List qe)(k n f:Nat)(l:List Nd),dX T k q->q.length<=n->q.length<=T.length+1->q.length<=f->aP (tk T<|k+q.length)=Y3->∃B,esA B=A/\kY T (dG T n) (bi T n) f l k=.ok (l++aN B,k+q.length):=by
 induction h with
 | @one p r x y hp hr=>
   intro T k n f l i G I K o;simp only[g_,eG]at G I K o;have D:=i.right.hd;obtain⟨f,rfl⟩:∃g,f=g+1:=⟨f-1,ae⟩;have⟨nd,e,N⟩:=hp.2 T k n i.left ae ae (by rw[D];decide);have⟨m,O,R⟩:=hr.2 T _ n i.right.tl ae ae (gB (by rw[<-o];congr 2;omega)<|show LD Y3<1 by decide);refine⟨[(nd,m)],by simp[esA,e,O],?_⟩;have E:aT (tk T<|k+p.length+1+r.length) oN=ra:=iR (by rw[<-o];congr 2;omega) (show Y3≠(5,[124]) by decide);rw[kY];simp only[aI,N,cQ D,R,E];simp[aN];omega
 | @cons p r q x y A hp hr hA ih=>
   intro T k n f l i G I K o;simp only[g_,eG]at G I K o;have D:=i.right.hd;have S:=i.right.tl.left;have E:=i.right.tl.right.hd;have U:=i.right.tl.right.tl;obtain⟨f,rfl⟩:∃g,f=g+1:=⟨f-1,ae⟩;have⟨nd,e,N⟩:=hp.2 T k n i.left ae ae (by rw[D];decide);have⟨m,O,R⟩:=hr.2 T _ n S ae ae<|gB E aD;have⟨B,V,W⟩:=ih T _ n f (l++[nd,m]) U ae ae ae (by rw[<-o];congr 2;omega);refine⟨(nd,m)::B,by simp[esA,e,O];exact V,?_⟩;rw[kY];simp only[aI,N,cQ D,R,de E,W];simp[aN];omega
def dx.mt{A:List (Nd×Nd)}(h:dx 0 p x)(O:RdA q A):dx 0 (YZ::(p++(Y2::(q++[Y3])))) (tMt x A):=by
 refine⟨⟨_,_,rfl,aD⟩,λT k n hs hn hT he=>?_⟩;simp only[g_,eG,nM]at hn hT;obtain⟨m,rfl⟩:∃m,n=m+1:=⟨n-1,ae⟩;have i:=hs.hd;have G:=hs.tl.left;have D:=hs.tl.right.hd;have I:=hs.tl.right.tl.left;have E:=hs.tl.right.tl.right.hd;have⟨nd,e,K⟩:=h.2 T _ m G ae ae<|gB D aD;have⟨B,N,o⟩:=O.reads T _ m T.length [nd] I ae ae ae E;refine⟨.mk 13 cX 0 (nd::aN B) (tk T k).ah (aF T<|k+1+p.length+1+q.length+1) (tk T k).ah,by simp[es,bB,e,EZ,N,tMt],?_⟩;unfold bi;rw[iR i aD,iR i aD,de i];show oO T (dG T m) (bi T m) k=_;unfold oO;simp only[aI,cQ i,K,cQ D,o,cQ E];simp;omega
end
def Uo(s:BA):qe:=⟨0,s,0,0⟩
def eD:Dc->Dc
 |.ty t vs ms=>.ty (Uo t.text) (vs.map λv=>Uo v.text) (bB ms)|.lt q t b=>.lt q (Uo t.text)<|es b
def RdE(p:List Ky)(d:Dc):=(∃x r,p=x::r/\(x=Y4\/x=EY))/\∀T k n,dX T k p->p.length<=n->p.length<=T.length+1->∃d',eD d'=d/\ec T n k=.ok (d',k+p.length)
def RdE.lt{p:List Ky}{c:Nat}{s:List UInt8}{t:Nd}(h:RdB p c s t):RdE (p++[CU]) (.lt (c==11) (Uo ⟨s.toArray⟩) t):=by
 have⟨r,i,hr1⟩:=h.hd;refine⟨⟨EY,r++[CU],by rw[i];rfl,qn rfl⟩,λT k n hs hn hT=>?_⟩;simp only[g_,eG,nM]at hn hT;have o:=hs.right.hd;have⟨m,nd,e,g,A⟩:=h.reads (n:=n) hs.left ae ae<|gB o aD;have D:aP (tk T k)=EY:=by have:=hs.left;rw[i]at this;exact this.hd
 refine⟨.lt (c==11) m nd,by simp only[eD,g,e],?_⟩;rw[ec];rw[iR D aD];show Ad T (bi T n) k=_;rw[Ad];simp only[aI,A,cQ o];simp;omega
def Up(vs:List (List UInt8)):∀(T:List qe)(k f:Nat)(l:List qe),dX T k (vs.map λv=>((3,v):Ky))->vs.length<=f->(tk T<|k+vs.length).kind≠3->∃V,V.map (λt=>t.text.toList)=vs/\iE T f l k=.ok (l++V,k+vs.length):=by
 induction vs with
 |nil=>
  intro T k f l m o i;refine⟨[],rfl,?_⟩
  cases f with
  |zero=>simp[iE]|succ f=>simp at i;simp[iE,i]
 |cons v vs ih=>
  intro T k f l m o i;simp only[eG]at o i;obtain⟨f,rfl⟩:∃g,f=g+1:=⟨f-1,ae⟩;have A:aP (tk T k)=(3,v):=m.hd;have⟨V,e,D⟩:=ih T (k+1) f (l++[tk T k]) m.tl ae (by rw[show k+1+vs.length=k+(vs.length+1) by omega];exact i);refine⟨tk T k::V,by simp[e];exact congrArg Prod.snd A,?_⟩;have E:(tk T k).kind=3:=congrArg Prod.fst A;unfold iE;rw[if_pos E,D];simp;omega
inductive RdK:List Ky->List Nd->Prop where
 |one{p:List Ky}{t:Nd}:Gr 3 p t->Vp t->RdK p [t]
 |cons{p q:List Ky}{t:Nd}{M:List Nd}:Gr 3 p t->Vp t->RdK q M->RdK (p++(NE::q)) (t::M)
def Ae{p:List Ky}(h:Gr 3 p t)(K:Vp t)(A:dX T k p)(N:p.length<=n+1)(D:p.length<=T.length+1)(O:PQ T (k+p.length)):RdT (cR T<|ap T (c_ T n) (c_ T n) 1) k p t:=by
 have⟨nd,f',e,_,o⟩:=h.reads T k n T.length A N D D;refine⟨nd,by rw[J7 nd (by rw[e];exact K),e],?_⟩;rw[vY O]at o;rw[<-o];obtain⟨s,r,rfl⟩:=h.first;have i:=A.hd;have E:(tk T k).kind=2:=congrArg Prod.fst i;have⟨G,g2⟩:=pG i;unfold cR;have I:bD (tk T k)=.mk 2 (tk T k).text 0 [] (tk T k).ah (aF T<|k+1) (tk T k).ah:=by
  unfold bD aF;simp[aQ,E,cO]
 have m:ap T (c_ T n) (c_ T n) 1 k=.ok (bD<|tk T k,k+1):=by
  unfold ap;rw[dP,eR,i];simp
 unfold aI;rw[G,m,I]
def Rd:∀L,bB L=L.map es
 |[]=>rfl|x::l=>by simp[bB,Rd l]
def RdK.reads{M:List Nd}(h:RdK q M):∀(T:List qe)(k n f:Nat)(l:List Nd),dX T k q->q.length<=n->q.length<=T.length+1->q.length<=f->aP (tk T<|k+q.length)=CU->∃B,B.map es=M/\dU T (cR T<|ap T (c_ T n) (c_ T n) 1) f l k=.ok (l++B,k+q.length):=by
 induction h with
 | @one p t hp ht=>
   intro T k n f l i A D E m;have:=hp.ne;obtain⟨f,rfl⟩:∃g,f=g+1:=⟨f-1,ae⟩;have⟨nd,e,o⟩:=Ae hp ht (n:=n) i ae ae (jK m aD aD).1;refine⟨[nd],Vh,?_⟩;rw[gY];simp only[aI,o,iO,iR m<|show CU≠(5,[124]) by decide];rfl
 | @cons p q t M hp ht hq ih=>
   intro T k n f l i A D E m;simp only[g_,eG]at A D E m;have:=hp.ne;obtain⟨f,rfl⟩:∃g,f=g+1:=⟨f-1,ae⟩;have G:=i.right.hd;have⟨nd,e,o⟩:=Ae hp ht (n:=n) i.left ae ae (jK G aD aD).1;have⟨B,I,K⟩:=ih T _ n f (l++[nd]) i.right.tl ae ae ae (by rw[<-m];congr 2;omega);refine⟨nd::B,by simp[e,I],?_⟩;rw[gY];simp only[aI,o,iO,de G,if_true,K];simp;omega
def RdE.ty{q:List Ky}{M:List Nd}(s:List UInt8)(vs:List (List UInt8))(h:RdK q M):RdE (Y4::(2,s)::((vs.map λv=>((3,v):Ky))++(yEq::(q++[CU])))) (.ty (Uo ⟨s.toArray⟩) (vs.map λv=>Uo ⟨v.toArray⟩) M):=by
 refine⟨⟨_,_,rfl,qp rfl⟩,λT k n hs hn hT=>?_⟩;simp only[g_,eG,nM,jy]at hn hT;have o:=hs.hd;have D:=hs.tl.hd;have E:=hs.tl.tl.left;have i:=hs.tl.tl.right.hd;have A:=hs.tl.tl.right.tl.left;have m:=hs.tl.tl.right.tl.right.hd;simp only[jy]at i A m;have⟨G,I⟩:=pG D
 have⟨V,K,N⟩:=Up vs T (k+1+1) T.length [] E ae (by
  have:(tk T<|k+1+1+vs.length).kind=5:=congrArg Prod.fst i
  omega)
 have⟨B,O,R⟩:=h.reads T _ n T.length [] A ae ae ae m;refine⟨.ty (tk T<|k+1) V B,?_,?_⟩
 .simp only[eD,I,Rd,O,<-K,List.map_map];congr 1;apply List.map_congr_left;intro v _;show Uo v.text=Uo ⟨v.text.toList.toArray⟩;rw[toList_inj<|toList_mk v.text.toList]
 .rw[ec];rw[de o,if_pos rfl];rw[Af];simp only[aI,cQ o,G,N,cQ i,R,cQ m];simp;omega
inductive RdG:List Ky->List Dc->Prop where
 |nil:RdG [] []
 |cons{p q:List Ky}{d:Dc}{D:List Dc}:RdE p d->RdG q D->RdG (p++q) (d::D)
def RdG.reads{p:List Ky}{D:List Dc}(h:RdG p D):∀(T:List qe)(k n f:Nat)(l:List Dc),dX T k p->p.length<=n->p.length<=T.length+1->p.length<=f->(tk T<|k+p.length).kind=7->∃B,B.map eD=D/\dc T (ec T n) f l k=.ok (l++B,k+p.length):=by
 induction h with
 |nil=>
  intro T k n f l _ _ _ _ i;simp at i;refine⟨[],rfl,?_⟩;rw[CV (by simp[aT,i])<|by simp[aT,i]];simp
 | @cons p q d D hp hq ih=>
   intro T k n f l m E G I i;simp only[g_]at E G I i;obtain⟨⟨x,r,o,K⟩,hp⟩:=hp;have hl:1<=p.length:=by rw[o];simp
   obtain⟨f,rfl⟩:∃g,f=g+1:=⟨f-1,ae⟩;have⟨d,N,O⟩:=hp T k n m.left ae ae;have⟨B,R,S⟩:=ih T _ n f (l++[d]) m.right ae ae ae (by rw[Nat.add_assoc];exact i);have A:aP (tk T k)=x:=by have:=m.left;rw[o]at this;exact this.hd
   refine⟨d::B,by rw[<-N,<-R];rfl,?_⟩
   rw[J9 (by
    obtain rfl|rfl:=K;·exact qp<|de A
    .exact qn (de A))]
   simp only[aI,O,S];simp;omega
section
open Un
def il(s:BA):(⟨s.toList.toArray⟩:BA)=s:=toList_inj<|toList_mk _
def ky5(l:List UInt8)(h:Nr l=5):ky ⟨l.toArray⟩=(5,l):=by rw[ky];rw[toList_mk,h]
def kyS:(ky bT=eZ/\ky bH=fH/\ky db=Ej/\ky mY=ND/\ky cH=uz/\ky pR=nU/\ky wT=aho/\ky jZ=EY)/\(ky pS=ahp/\ky kIn=yIn/\ky W7=yIf/\ky yV=YX/\ky yW=YY/\ky gW=YZ/\ky sH=Y2/\ky wU=Y3)/\(ky oN=NE/\ky tN=yEq/\ky jY=Y4/\ky dK=CU/\ky dJ=gA/\ky cx=dS)/\ky cY=(5,[43])/\ky bM=(5,[45])/\ky cD=adC/\ky b8=adD:=by
 refine⟨⟨?_,?_,?_,?_,?_,?_,?_,?_⟩,⟨?_,?_,?_,?_,?_,?_,?_,?_⟩,⟨?_,?_,?_,?_,?_,?_⟩,?_,?_,?_,?_⟩;all_goals exact ky5 _ qkr
def JX.ky{s:BA}(h:JX s):Go.Proofs.YtonaidfgokhmoaaGreatDoor.ky s=(1,s.toList):=by
 obtain⟨x,r,e,i,_,m⟩:=h;rw[Go.Proofs.YtonaidfgokhmoaaGreatDoor.ky];rw[e];simp[Nr,i,m]
def wQ.ky{s:BA}(h:wQ s):Go.Proofs.YtonaidfgokhmoaaGreatDoor.ky s=(2,s.toList):=by
 obtain⟨x,r,e,m,_⟩:=h;have i:qf x.toNat=ra:=by simp[qh]at m;simp[qf];omega
 rw[Go.Proofs.YtonaidfgokhmoaaGreatDoor.ky];rw[e];simp[Nr,m,i]
def VQ.ky{s:BA}(h:VQ s):Go.Proofs.YtonaidfgokhmoaaGreatDoor.ky s=(3,s.toList):=by
 obtain⟨x,r,e,_⟩:=h;rw[Go.Proofs.YtonaidfgokhmoaaGreatDoor.ky];rw[e];simp[Nr,qf,qh]
def kN(nd:Nd):List Ky:=(sw nd).map ky
def kA(nd:Nd)(k:Nat):List Ky:=(cK nd k).map ky
def Re(nd:Nd)(k:Nat):kA nd k=if lv nd<k then eZ::(kN nd++[fH])else kN nd:=by
 obtain⟨⟨i,m,_⟩,_⟩:=kyS;rw[kA,cK,aw,wZ];by_cases h:lv nd<k<;>simp[h,kN,i,m]
def gl(v:Nat):Nat:=if v=5 then 0 else if v=4 then 3 else 2
def uI{v:Nat}{p:List Ky}(h:Gr (gl v) p t):Gr 2 p t:=by
 rw[gl]at h;split at h
 .exact .head h.up1
 .split at h
  .exact .head (.pD h)
  .exact h
def Y6(nd:Nd):lv nd<=5:=by
 obtain⟨k,s,n,L,f,t,a⟩:=nd;rw[lv];repeat' split
 all_goals omega
def J_{p:Prop}(h:p:=by
 cases h with
 |up s n L f t a h1 h2 h3 h4=>by_cases hL:L=[]<;>simp[lv,hL]|_=>simp[lv]):p:=h
def ahq(h:qN nd):lv nd<=1\/lv nd=4\/lv nd=5:=by
 exact J_
def ach(h:Gr (gl<|lv x) (kN x) t):Gr 0 (kA x 5) t:=by
 rw[Re];have:=Y6 x;split
 .exact .par (uI h)
 .rw[show lv x=5 by omega]at h;exact h
def afp(h:Gr (gl<|lv x) (kN x) t)(i:lv x<=1\/lv x=4\/lv x=5):Gr 1 (kA x 2) t:=by
 rw[Re];split
 .exact(Gr.par<|uI h).up1
 .obtain i|i|i:=i
  .omega
  .rw[i]at h;exact .pD h
  .rw[i]at h;exact Gr.up1 h
def J'(s:BA)(n:Nat)(L:List Nd)(f t a:Nat):kN (.mk 2 s n L f t a)=ky s::L.flatMap λx=>kA x 5:=by
 simp[kN,sw,jw,pF,List.flatMap_map,List.map_flatMap,kA,cK]
def Rf{s:BA}:∀(L:List Nd)(p:List Ky)(M:List Nd),Gr 3 p (TA s M)->(∀x∈L,Gr 0 (kA x 5)<|er x)->Gr 3 (p++L.flatMap λx=>kA x 5) (TA s<|M++vX L)
 |[],p,M,h,_=>by simpa[vX]using h|x::L,p,M,h,hx=>by
  have:=Rf L (p++kA x 5) (M++[er x]) (.arg h<|hx x ag) λy hy=>hx y (by simp[hy]);simpa[vX]using this
def ahr:∀{M:List Nd},(∀x∈M,Vp<|er x)->J6 (vX M)
 |[],_=>trivial|y::M,h=>⟨h y ag,ahr λz hz=>h z<|by simp[hz]⟩
def adE(i:wQ s)(n f t a:Nat)(m:∀x∈L,Gr (gl<|lv x) (kN x)<|er x):Gr 3 (kN<|.mk 2 s n L f t a) (er<|.mk 2 s n L f t a):=by
 have:=Rf L [ky s] [] (by rw[i.ky];exact .up s) λx hx=>ach<|m x hx;rw[J'];simpa[er,TA]using this
def Y7(h:qN nd):Gr (gl<|lv nd) (kN nd) (er nd)/\Vp (er nd):=by
 obtain⟨⟨m,o,A,a4,D,_⟩,_⟩:=kyS
 induction h with
 |var s n f t a h1 h2 h3=>exact⟨by simpa[kN,sw,jw,lv,gl,er,vX,h1.ky,aeL]using Gr.var s,by simp[er,vX,Vp,J6]⟩|up s n L f t a h1 h2 h3 h4 ih=>
  refine⟨?_,aD,aD,ahr λx hx=>(ih x hx).2⟩;by_cases i:L=[]
  .subst i;rw[J',h1.ky];simpa[lv,gl,er,vX,TA]using Gr.up0 s
  .rw[show lv (.mk 2 s n L f t a)=4 by simp[lv,i]];exact adE h1 n f t a λx hx=>(ih x hx).1
 |pr x y f t a hx hy bu cW=>
  refine⟨?_,by simp[er,vX,Vp,J6,bu.2,cW.2]⟩;have:=Gr.pair (uI bu.1)<|uI cW.1;simpa[kN,sw,jw,ij,gw,lv,gl,er,vX,m,o,A,XD]using this
 |fn x y f t a hx hy bu cW=>
  refine⟨?_,by simp[er,vX,Vp,J6,bu.2,cW.2]⟩;have:=Gr.XE (afp bu.1<|ahq hx)<|uI cW.1;simpa[kN,kA,cK,sw,jw,ij,gw,lv,gl,er,vX,D,sFn]using this
def Y8(s:BA):iQ (1,s.toList)=.mk 1 s 0 [] 0 0 0:=by simp[iQ,il]
def Y9(s:BA):iQ (2,s.toList)=.mk 2 s 0 [] 0 0 0:=by simp[iQ,il]
def Y_(h:n<1000000000):iQ (4,dec n)=.mk 3 cX n [] 0 0 0:=by
 have:rj ⟨(dec n).toArray⟩=n:=YK h;simp[iQ,this]
def Y'(h:s.toList=dJ.toList\/s.toList=cx.toList):(ky s=gA\/ky s=dS)/\iQ (ky s)=.mk 4 s 0 [] 0 0 0:=by
 obtain⟨_,_,⟨_,_,_,_,b1,b2⟩,_⟩:=kyS;obtain h|h:=h<;>rw[toList_inj h]
 .exact⟨.inl b1,by rw[b1];simp[iQ]⟩
 .exact⟨.inr b2,by rw[b2];simp[iQ]⟩
def Rg(h:tH nd):lv nd=4\/lv nd=5:=by
 exact J_
def ya{p:List Ky}(h:mx (lv x) p t)(i:lv x=4\/lv x=5):mx 0 p t:=by
 obtain i|i:=i<;>rw[i]at h
 .exact h.d40
 .exact h.d50
def aci(h:mx (lv x) (kN x) t)(i:lv x=4\/lv x=5):mx 5 (kA x 5) t:=by
 rw[Re];split
 .exact(ya h i).par
 .rw[show lv x=5 by omega]at h;exact h
def Rh{s:BA}:∀(L:List Nd)(p:List Ky)(M:List Nd),mx 4 p (Vq s M)->(∀x∈L,mx 5 (kA x 5)<|es x)->mx 4 (p++L.flatMap λx=>kA x 5) (Vq s<|M++bB L)
 |[],p,M,h,_=>by simpa[bB]using h|x::L,p,M,h,hx=>by
  have:=Rh L (p++kA x 5) (M++[es x]) (h.arg<|hx x ag) λy hy=>hx y (by simp[hy]);simpa[bB]using this
def ahs(h:tH nd):mx (lv nd) (kN nd) (es nd):=by
 obtain⟨⟨i,m,D,a4,a5,E,_⟩,_⟩:=kyS
 induction h with
 |any s f t a h1=>simpa[kN,sw,jw,lv,E,iQ,es,bB]using mx.leaf (x:=nU) ag|low s f t a h1 h2=>simpa[kN,sw,jw,lv,h1.ky,Y8,es,bB]using mx.leaf (x:=(1,s.toList)) ag|num s n f t a h1 h2=>simpa[kN,sw,jw,lv,Nt,Y_ h1,es,bB]using mx.leaf (x:=(4,dec n)) ag|word s f t a h1 h2=>
  have⟨b1,b2⟩:=Y' h1;have:=mx.leaf (x:=ky s) (by obtain b|b:=b1<;>simp[b]);rw[b2]at this;simpa[kN,sw,jw,lv,es,bB]using this
 |unit f t a=>simpa[kN,sw,jw,lv,i,m,es,bB,kM]using mx.unit|pr x y f t a hx hy bu cW=>
  have:=(ya bu<|Rg hx).pair<|ya cW<|Rg hy;simpa[kN,sw,jw,ij,gw,lv,i,m,D,es,bB,CS]using this
 |up s n L f t a h1 h2 h3 h4 ih=>
  subst h3;by_cases o:L=[]
  .subst o;simpa[J',lv,h1.ky,Y9,es,bB]using mx.leaf (x:=(2,s.toList)) ag
  .have A:=mx.up s.toList;rw[il]at A;have:=Rh L [ky s] [] (by rw[h1.ky];exact A) λx hx=>aci (ih x hx)<|Rg<|h4 x hx;simpa[J',es,lv,o,Vq]using this
def qJ(h:dx (lv x) (kN x) t)(i:k<=5):dx k (kA x k) t:=by
 rw[Re];have:=Y6 x;split
 .exact(h.down this 0<|jc _).par.down (br _) k i
 .exact h.down this k ae
def sT(h:dx (lv x) (kN x) t):dx 0 (kN x) t:=h.down (Y6 x) 0<|jc _
def Ri:∀(A:List (Nd×Nd))(b:Bool),A≠[]->(∀p∈A,tH p.1)->(∀p∈A,dx 0 (kN p.2)<|es p.2)->∃q,(Uj b A).map ky=ky (if b then sH else oN)::q/\RdA q (esA A)
 |[],b,h,_,_=>absurd rfl h|p::A,b,_,h1,h2=>by
  obtain⟨⟨_,_,_,_,i,_⟩,_,⟨b1,_⟩,_⟩:=kyS;have m:=ya (ahs<|h1 p ag)<|Rg<|h1 p ag;have o:=h2 p ag
  cases A with
  |nil=>exact⟨_,by simp[Uj,aN,ij,uE];rfl,by simpa[kN,i,esA]using RdA.one m o⟩|cons c A=>
   have⟨q,e,D⟩:=Ri (c::A) ra ag (λx hx=>h1 x<|by simp[hx]) λx hx=>h2 x (by simp[hx]);refine⟨kN p.1++(uz::(kN p.2++(NE::q))),?_,RdA.cons m o D⟩;have e':List.map ky (uE ra<|ij<|aN (c::A))=NE::q:=by rw[<-b1];exact e
   simp[Uj,aN,ij,uE,kN,i]at e'⊢;exact e'
def aht(h:gT nd):dx (lv nd) (kN nd) (es nd)/\(Fn3 nd->RdF (kN nd) (es nd)):=by
 obtain⟨⟨o,D,K,N,O,a6,R,G⟩,⟨b1,b2,b3,S,U,V,W,X⟩,⟨d1,I,d3,d4,d5,d6⟩,Y,Z,e3,e4⟩:=kyS;have i:∀{k:Nat}{s:BA}{n:Nat}{L:List Nd}{f t a:Nat},k≠9->¬Fn3 (.mk k s n L f t a):=λhk q=>by
  obtain⟨s,x,f,t,a,e,_⟩:=q;injection e with e;exact hk e
 have m:∀{s:BA}{x:Nd}(f t a:Nat),JX s->dx 0 (kN x) (es x)->RdF (kN<|.mk 9 s 0 [x] f t a) (es<|.mk 9 s 0 [x] f t a):=λ{s x}f t a h1 h2=>⟨kN x,s.toList,es x,by simp[kN,sw,jw,ij,gw,R,O,h1.ky],by simp[es,bB,mD,il],h2⟩
 induction h with
 |low s f t a h1 h2=>exact⟨by simpa[kN,sw,jw,lv,h1.ky,Y8,es,bB]using dx.leaf (x:=(1,s.toList)) ag,λq=>absurd q<|i aD⟩|up s f t a h1 h2=>exact⟨by simpa[J',lv,h1.ky,Y9,es,bB]using dx.leaf (x:=(2,s.toList)) ag,λq=>absurd q<|i aD⟩|num s n f t a h1 h2=>exact⟨by simpa[kN,sw,jw,lv,Nt,Y_ h1,es,bB]using dx.leaf (x:=(4,dec n)) ag,λq=>absurd q<|i aD⟩|word s f t a h1 h2=>
  have⟨b1,b2⟩:=Y' h1;have:=dx.leaf (x:=ky s) (by obtain b|b:=b1<;>simp[b]);rw[b2]at this;exact⟨by simpa[kN,sw,jw,lv,es,bB]using this,λq=>absurd q<|i aD⟩
 |unit f t a=>exact⟨by simpa[kN,sw,jw,lv,o,D,es,bB,kM]using dx.unit,λq=>absurd q<|i aD⟩|pr x y f t a hx hy bu cW=>
  have:=(sT bu.1).pair<|sT cW.1;exact⟨by simpa[kN,sw,jw,ij,gw,lv,o,D,K,es,bB,CS]using this,λq=>absurd q<|i aD⟩
 |of x y f t a hx hy bu=>
  have⟨g1,E⟩:=Y7 hy;have:=(sT bu.1).of (uI g1) E;rw[<-J7 y E]at this;exact⟨by simpa[kN,sw,jw,ij,gw,lv,o,D,N,es,bB,tOf]using this,λq=>absurd q<|i aD⟩
 |op s x y f t a hs hx hy bu cW=>
  refine⟨?_,λq=>absurd q<|i aD⟩;obtain rfl|rfl|rfl|rfl:=hs
  .have:=(qJ bu.1 (k:=2) aD).add (.inl rfl)<|qJ cW.1 (k:=3) aD;rw[show lv (.mk 7 cY 0 [x,y] f t a)=2 by simp[lv,show cY.toList=[43]from toList_mk _]];simpa[kN,kA,cK,sw,jw,ij,gw,show lv (.mk 7 cY 0 [x,y] f t a)=2 by simp[lv,show cY.toList=[43]from toList_mk _],Y,es,bB,tOp]using this
  .have:=(qJ bu.1 (k:=2) aD).add (.inr rfl)<|qJ cW.1 (k:=3) aD;rw[show lv (.mk 7 bM 0 [x,y] f t a)=2 by simp[lv,show bM.toList=[45]from toList_mk _]];simpa[kN,kA,cK,sw,jw,ij,gw,show lv (.mk 7 bM 0 [x,y] f t a)=2 by simp[lv,show bM.toList=[45]from toList_mk _],Z,es,bB,tOp]using this
  .have:=(qJ bu.1 (k:=3) aD).mul<|qJ cW.1 (k:=4) aD;rw[show lv (.mk 7 cD 0 [x,y] f t a)=3 by simp[lv,show cD.toList=[42]from toList_mk _]];simpa[kN,kA,cK,sw,jw,ij,gw,show lv (.mk 7 cD 0 [x,y] f t a)=3 by simp[lv,show cD.toList=[42]from toList_mk _],e3,es,bB,tOp]using this
  .have:=(qJ bu.1 (k:=2) aD).less<|qJ cW.1 (k:=2) aD;rw[show lv (.mk 7 b8 0 [x,y] f t a)=1 by simp[lv,show b8.toList=[60]from toList_mk _]];simpa[kN,kA,cK,sw,jw,ij,gw,show lv (.mk 7 b8 0 [x,y] f t a)=1 by simp[lv,show b8.toList=[60]from toList_mk _],e4,es,bB,tOp]using this
 |call x y f t a hx hy bu cW=>
  have:=(qJ bu.1 (k:=4) aD).pD<|qJ cW.1 (k:=5) aD;exact⟨by rw[show lv (.mk 8 cX 0 [x,y] f t a)=4 by simp[lv]];simpa[kN,kA,cK,sw,jw,ij,gw,es,bB,YW]using this,λq=>absurd q<|i aD⟩
 |fn s x f t a h1 h2 hx bu=>
  have:=m f t a h1<|sT bu.1;exact⟨by rw[show lv (.mk 9 s 0 [x] f t a)=0 by simp[lv]];exact this.rds,λ_=>this⟩
 |lt s x z f t a h1 h2 hx hz bu qA=>
  have:=dx.lt (c:=10) (s:=s.toList) ⟨kN x,.inl ⟨rfl,rfl,sT bu.1⟩⟩ (sT qA.1)<|.inl rfl;rw[il]at this;exact⟨by rw[show lv (.mk 10 s 0 [x,z] f t a)=0 by simp[lv]];simpa[kN,sw,jw,ij,gw,G,b2,I,h1.ky,es,bB,acg]using this,λq=>absurd q<|i aD⟩
 |ltr s s' x z f t a f' t' a' h1 h2 h3 h4 hx hz bu qA=>
  have:=dx.lt (c:=11) (s:=s.toList) ⟨_,.inr ⟨rfl,rfl,m f' t' a' h3<|sT bu.1⟩⟩ (sT qA.1)<|.inr rfl;rw[il]at this;exact⟨by rw[show lv (.mk 11 s 0 [.mk 9 s' 0 [x] f' t' a',z] f t a)=0 by simp[lv]];simpa[kN,sw,jw,ij,gw,G,b1,b2,I,h1.ky,es,bB,acg]using this,λq=>absurd q<|i aD⟩
 |ite x y z f t a hx hy hz bu cW qA=>
  have:=(sT bu.1).ite (sT cW.1)<|sT qA.1;exact⟨by rw[show lv (.mk 12 cX 0 [x,y,z] f t a)=0 by simp[lv]];simpa[kN,sw,jw,ij,gw,b3,S,U,es,bB,tIf]using this,λq=>absurd q<|i aD⟩
 |mt x A f t a h0 hx hp he bu ihe=>
  have⟨q,e,E⟩:=Ri A la h0 hp λp E=>sT (ihe p E).1;have:=(sT bu.1).mt E;have e':List.map ky (uE la<|ij<|aN A)=Y2::q:=by rw[<-W];exact e
  exact⟨by rw[show lv (.mk 13 cX 0 (x::aN A) f t a)=0 by simp[lv]];simpa[kN,sw,jw,ij,gw,e',V,X,es,bB,EZ,tMt]using this,λq=>absurd q<|i aD⟩
mutual
def Ag(lo:Nat):Nd->Nat->Prop
 |.mk k _ _ L f _ a,hi=>if k=1\/k=2\/k=16 then lo<=f/\f=a/\pV f L hi else pV lo L hi
def pV(lo:Nat):List Nd->Nat->Prop
 |[],hi=>lo<=hi|x::l,hi=>∃m,Ag lo x m/\pV m l hi
end
mutual
def Ag.mono:∀{nd:Nd}{lo i o m:Nat},Ag lo nd o->i<=lo->o<=m->Ag i nd m
 |.mk k s n L f t a,lo,i,o,m,h,h1,h2=>by
  rw[Ag]at h⊢;split at h
  .rename_i q;rw[if_pos q];exact⟨jf h1 h.1,h.2.1,pV.mono h.2.2 (br _) h2⟩
  .rename_i q;rw[if_neg q];exact pV.mono h h1 h2
def pV.mono:∀{L:List Nd}{lo i A o:Nat},pV lo L A->i<=lo->A<=o->pV i L o
 |[],_,_,_,_,h,h1,h2=>jf h1 (jf h h2)|x::l,_,_,_,_,⟨m,h,k⟩,h1,h2=>⟨m,Ag.mono h h1<|br _,pV.mono k (br _) h2⟩
end
def pV.snoc:∀{L:List Nd}{lo m i:Nat}{y:Nd},pV lo L m->Ag m y i->pV lo (L++[y]) i
 |[],lo,m,i,y,h,k=>⟨i,k.mono h<|br _,br _⟩|x::l,lo,m,i,y,⟨q,h,g⟩,k=>⟨q,h,pV.snoc g k⟩
section
variable {e:Nat}
def Ka{p:Prop}(h:p:=by
 have a1:=d1.le;have a2:=d2.le
 exact⟨_,i1,_,i2.mono (le (ja _) ae)<|br _,br _⟩):p:=h
def eC.as(h:nk T e n){s:Nat}{a:Nd}(d:eC T e s k j a):Ag (tk T k).ah a (tk T j).ah:=by
 have le:∀{i j:Nat},i<=j->j<=e->(tk T i).ah<=(tk T j).ah:=λh1 h2=>h.asc _ _ h1 h2
 induction d with
 | @leaf s k hs h1 h2 h3=>
   rw[bD,Ag];split
   .exact⟨br _,rfl,le (ja _) h1⟩
   .exact le (ja _) h1
 |unit hs h1=>exact le ae h1|par d h1 ih=>have:=d.le;exact ih.mono (le ae ae) (le ae h1)|two hc d1 d2 h1 i1 i2=>
  have a1:=d1.le;have a2:=d2.le;have g:pV (tk T _).ah [_,_] (tk T _).ah:=⟨_,i1.mono (le (ja _) ae)<|br _,_,i2.mono (le (ja _) ae)<|le (ja _) h1,br _⟩;rw[Ag];rw[if_neg (by obtain⟨rfl,_⟩|⟨rfl,_⟩:=hc<;>decide)];exact g
 | @nm s k h1 h2=>
   rw[Ag];rw[if_pos ag];exact⟨br _,rfl,le (ja _) h2⟩
 | @add s k i j x y d1 d2 i1 i2=>
   obtain⟨c,s,m,L,f,t,a⟩:=x;rw[Nd.add];rw[Ag]at i1⊢;split at i1
   .rename_i q;rw[if_pos q];exact⟨i1.1,i1.2.1,i1.2.2.snoc i2⟩
   .rename_i q;rw[if_neg q];exact i1.snoc i2
 |up _ _ ih=>exact ih|ex _ ih=>exact ih|arr d1 d2 i1 i2=>
  exact Ka
 |op _ d1 d2 i1 i2=>
  exact Ka
 |call d1 d2 i1 i2=>exact⟨_,i1,_,i2,br _⟩|fn h1 d ih=>have:=d.le;exact⟨_,ih.mono (le ae ae)<|br _,br _⟩|lt _ d1 d2 i1 i2|ltr _ d1 d2 i1 i2=>
  have a1:=d1.le;have a2:=d2.le;exact⟨_,i1.mono (le ae ae)<|br _,_,i2.mono (le (ja _) ae)<|br _,br _⟩
 |ite d1 d2 d3 i1 i2 i3=>
  have a1:=d1.le;have a2:=d2.le;have o:=d3.le;exact⟨_,i1.mono (le ae ae)<|br _,_,i2.mono (le (ja _) ae)<|br _,_,i3.mono (le (ja _) ae)<|br _,br _⟩
 |ar0 d h1 ih=>have:=d.le;exact⟨_,ih.mono (le ae ae)<|le (ja _) h1,br _⟩| @ar k i j q q' l p x d1 d2 d3 hq i1 i2 i3=>
   have a1:=d1.le;have a2:=d2.le;have o:=d3.le;have i1:pV _ _ _:=i1;have g:=(i1.snoc i2).snoc<|i3.mono (le (ja _) ae)<|le (j:=q') ae ae;rw[j5]at g;exact g
 |mt d hn h1 ih=>have i1:pV _ _ _:=ih;exact i1.mono (br _)<|le (ja _) h1
def NF.as(h:nk T e n){i j:Nat}{ms:List Nd}(d:NF T e i j ms):pV (tk T i).ah ms (tk T j).ah:=by
 induction d with
 |one d=>exact⟨_,d.as h,br _⟩|more a d ih=>have:=a.le;have:=d.le;exact ih.snoc<|(d.as h).mono (h.asc _ _ (ja _) ae)<|br _
def AsV(lo:Nat):List qe->Nat->Prop
 |[],hi=>lo<=hi|v::l,hi=>lo<=v.ah/\AsV v.ah l hi
def Za(lo:Nat):List Dc->Nat->Prop
 |[],hi=>lo<=hi|.ty t vs ms::l,hi=>lo<=t.ah/\∃m p,AsV t.ah vs m/\pV m ms p/\Za p l hi|.lt _ _ b::l,hi=>∃p,Ag lo b p/\Za p l hi
def Za.snoc:∀{l:List Dc}{lo m i:Nat}{d:Dc},Za lo l m->Za m [d] i->Za lo (l++[d]) i
 |[],lo,m,i,.ty t vs ms,h,k=>⟨jf h k.1,k.2⟩|[],lo,m,i,.lt q t b,h,⟨p,k1,k2⟩=>⟨p,k1.mono h<|br _,k2⟩|.ty t vs ms::l,lo,m,i,d,⟨h1,a,b,h2,h3,h4⟩,k=>⟨h1,a,b,h2,h3,Za.snoc h4 k⟩|.lt q t b::l,lo,m,i,d,⟨p,h1,h2⟩,k=>⟨p,h1,Za.snoc h2 k⟩
def Zb(h:nk T e n):∀(vs:List qe)(lo k:Nat),lo<=(tk T k).ah->k+vs.length<=e->(∀i(h:i<vs.length),vs[i]=tk T (k+i))->AsV lo vs (tk T<|k+vs.length).ah
 |[],lo,k,h1,_,_=>h1|v::vs,lo,k,h1,h2,h3=>by
  have m:v=tk T k:=h3 0 ag;simp only[eG]at h2;have:=Zb h vs v.ah (k+1) (by rw[m];exact h.asc _ _ (ja _) ae) ae λi hi=>by rw[Nat.add_assoc,Nat.add_comm 1];exact h3 (i+1) WW
  refine⟨by rw[m];exact h1,?_⟩;rw[eG,show k+(vs.length+1)=k+1+vs.length by omega];exact this
def NG.as(h:nk T e n){j:Nat}{l:List Dc}(d:NG T e j l):Za 0 l (tk T j).ah:=by
 have le:∀{i j:Nat},i<=j->j<=e->(tk T i).ah<=(tk T j).ah:=λh1 h2=>h.asc _ _ h1 h2
 induction d with
 |nil=>exact jc _| @more i j l d a q ih=>
   refine ih.snoc ?_
   cases q with
   |ty t1 v m h1 h2=>
    have:=m.le;refine⟨le (ja _) ae,_,_,Zb h _ _ (i+2) (le ae ae) ae v.2,(m.as h).mono (le ae ae)<|br _,le ae h2⟩
   |lt q h1=>
    obtain⟨_,_,_,q⟩|⟨_,_,_,q⟩:=q<;>have:=q.le
    .exact⟨_,(q.as h).mono (le ae ae)<|le (ja _) h1,br _⟩
    .exact⟨_,(q.as h).mono (le ae ae)<|le (ja _) h1,br _⟩
end
def Zc{l:List Dc}(h:bq s=.ok l):∃hi,Za 0 l hi:=by
 have i:¬400<s.size:=λc=>by simp[bq,c]at h
 have q:=yb i;rw[h]at q;obtain⟨j,q⟩:=q;exact⟨_,q.as<|Rj s ae⟩
end
section
open Go.ChangeMaps
structure Kb where
 w0:ea
 B:Nat
 c:Nat
 t:Nat
 m:Nat
 l:Nat
 g:Option Nat
 I:ea->Prop
structure Ks where
 ty:BA->Option Nat
 mm:BA->Option Nat
 nm:List BA
 lo:BA->Nat
 n:Nat
 p:List BA
 f:Fl
def Ks.ok(s:Ks):Prop:=LoR s.lo s.nm/\∀x,s.lo x<=s.n
abbrev Ks.fl(s:Ks)(f:Fl):Ks:={s with f:=f}
def Kb.S(k:Kb)(b:Nat):Prop:=b=k.c\/b=k.t\/b=k.m\/b=k.l\/k.g=ia b
abbrev Kb.p(k:Kb):fa:=Pv k.c
abbrev Kb.A(k:Kb)(f:Fl):Array fa:=#[Mv k.t,Mv k.m,Mv k.l,Nv f.kind,Nv f.ah,Nv f.to]
structure KbF(k:Kb):Prop where
 ne:k.c≠k.t/\k.c≠k.m/\k.c≠k.l/\k.t≠k.m/\k.t≠k.l/\k.m≠k.l
 g:∀b,k.g=ia b->b≠k.c/\b≠k.t/\b≠k.m/\b≠k.l
 B:∀b,k.S b->k.B<=b
 st:∀w w',Fr k.S w w'->k.I w->k.I w'
structure CK(k:Kb)(s:Ks)w:Prop where
 x:KbF k
 bx:Bx w k.c (k.A s.f)
 t:FM w k.t s.ty
 m:FM w k.m s.mm
 l:LM w k.l s.lo
 g:∀b,k.g=ia b->GM w b s.p
 u:∀b,b<k.B->w.heap[b]? =k.w0.heap[b]?
 i:k.I w
section
variable {k:Kb} {s s':Ks} {T:Nat->Prop}
def One.fs(o:One b w w')(h:T b):Fr T w w':=⟨o.os,o.tape,o.output,Nat.le_of_eq o.size.symm,λi _ hn=>o.block i λe=>hn<|e▸h⟩
def CK.lt(h:CK k s w)(q:k.S b):b<w.heap.size:=by
 obtain rfl|rfl|rfl|rfl|q:=q
 .exact h.bx.z
 .exact h.t.lt
 .exact h.m.lt
 .exact h.l.lt
 .exact(h.g b q).lt
def CK.B(h:CK k s w):k.B<=w.heap.size:=Nat.le_of_lt<|Nat.lt_of_le_of_lt (h.x.B _<|qp rfl) h.bx.z
def CK.oth(h:CK k s w)(F:Fr T w w')(o:∀b,T b->¬k.S b/\k.B<=b)(i:k.I w'):CK k s w':=
 have q:∀{b},k.S b->w'.heap[b]? =w.heap[b]? :=λ{b}e=>F.block b (h.lt e) λt=>(o b t).1 e
 ⟨h.x,h.bx.same F.size<|q<|qp rfl,h.t.same<|q<|qn<|qp rfl,h.m.same<|q<|qn<|qn<|qp rfl,h.l.same<|q<|qn<|qn<|qn<|qp rfl,λb e=>(h.g b e).same<|q<|qn<|qn<|qn<|qn e,λb hb=>(F.block b (jd hb h.B) λt=>absurd (o b t).2<|Nat.not_le.2 hb).trans<|h.u b hb,i⟩
def CK.af(h:CK k s w)(m:Bq w w'):CK k s w':=h.oth (T:=λ_=>False) (Fr.of m) nofun<|h.x.st _ _ (Fr.of m) h.i
def Fr.wide{S T}{a b}(h:Fr S a b)(i:∀x,S x->T x):Fr T a b:=⟨h.os,h.tape,h.output,h.size,λk hk hn=>h.block k hk<|λq=>hn<|i k q⟩
def Kb.sS(k:Kb):k.S k.c/\k.S k.t/\k.S k.m/\k.S k.l/\∀b,k.g=ia b->k.S b:=by simp+contextual [Kb.S]
def CK.re(h:CK k s w)(F:Fr (λx=>x=b) w w')(m:k.S b):(∀x,k.S x->x≠b->w'.heap[x]? =w.heap[x]?)/\(∀x,x<k.B->w'.heap[x]? =k.w0.heap[x]?)/\k.I w':=⟨λx hx n=>F.block x (h.lt hx) n,λx hx=>(F.block x (jd hx h.B) λe=>by have:=h.x.B b m;omega).trans<|h.u x hx,h.x.st _ _ (F.wide λx e=>e▸m) h.i⟩
def CK.pc(h:CK k s w)(F:Fr (λx=>x=k.c) w w'){f:Fl}(b:Bx w' k.c (k.A f)):CK k (s.fl f) w':=
 have⟨o,D,E,G,I⟩:=k.sS;have⟨K,N,O,_⟩:=h.x.ne;have⟨q,r,i⟩:=h.re F o
 ⟨h.x,b,h.t.same<|q _ D K.symm,h.m.same<|q _ E N.symm,h.l.same<|q _ G O.symm,λb e=>(h.g b e).same<|q _ (I b e) (h.x.g b e).1,r,i⟩
def CK.pt(h:CK k s w)(o:One k.t w w')(m:FM w' k.t F):CK k {s with ty:=F} w':=
 have⟨a1,A,D,E,G⟩:=k.sS;have⟨I,_,_,K,N,_⟩:=h.x.ne;have⟨q,r,i⟩:=h.re (o.fs rfl) A
 ⟨h.x,h.bx.one o I,m,h.m.same<|q _ D K.symm,h.l.same<|q _ E N.symm,λb e=>(h.g b e).same<|q _ (G b e) (h.x.g b e).2.1,r,i⟩
def CK.pm(h:CK k s w)(o:One k.m w w')(m:FM w' k.m F):CK k {s with mm:=F} w':=
 have⟨a1,A,D,E,G⟩:=k.sS;have⟨_,I,_,K,_,N⟩:=h.x.ne;have⟨q,r,i⟩:=h.re (o.fs rfl) D
 ⟨h.x,h.bx.one o I,h.t.same<|q _ A K,m,h.l.same<|q _ E N.symm,λb e=>(h.g b e).same<|q _ (G b e) (h.x.g b e).2.2.1,r,i⟩
def CK.pl(h:CK k s w)(o:One k.l w w')(m:LM w' k.l lo):CK k {s with lo:=lo} w':=
 have⟨a1,A,D,E,G⟩:=k.sS;have⟨_,_,I,_,K,N⟩:=h.x.ne;have⟨q,r,i⟩:=h.re (o.fs rfl) E
 ⟨h.x,h.bx.one o I,h.t.same<|q _ A K,h.m.same<|q _ D N,m,λb e=>(h.g b e).same<|q _ (G b e) (h.x.g b e).2.2.2,r,i⟩
def CK.pg(h:CK k s w)(e:k.g=ia b)(o:One b w w'){p:List BA}(m:GM w' b p):CK k {s with p:=p} w':=
 have⟨a1,A,D,E,G⟩:=k.sS;have⟨I,K,N,O⟩:=h.x.g b e;have⟨q,r,i⟩:=h.re (o.fs rfl)<|G b e
 ⟨h.x,h.bx.one o I.symm,h.t.same<|q _ A K.symm,h.m.same<|q _ D N.symm,h.l.same<|q _ E O.symm,λc q=>by rw[e]at q;cases q;exact m,r,i⟩
def Dk(k:Kb)(s:Ks)(w:ea)(e:ga)(w':ea):Prop:=e=.returned (.tuple #[])/\CK k s w'/\Fr k.S w w'
def Td(k:Kb)(f:FuncId)(a:Array fa)(s s':Ks):=∀w,CK k s w->ca j8 f a w (Dk k s' w)
structure KP(k:Kb)(we:ea)(cb:Nat)(C:Array fa)(s:Ks)(w:ea):Prop where
 s:CK k s w
 f:Fr k.S we w
 b:Bx w cb C
 n:¬k.S cb
def Kn(k:Kb)(we:ea)(cb:Nat)(C:Array fa)(s:Ks)(e:ga)(w':ea):Prop:=e=.returned (.tuple #[])/\KP k we cb C s w'
def KP.af(H:KP k we cb C s w)(i:Bq w w'):KP k we cb C s w':=⟨H.s.af i,H.f.trans<|Fr.of i,H.b.below i,H.n⟩
def KP.drew(H:KP k we cb C s w):KP k we cb C s w.drew:=H.af (qt _ _).drew
def KP.new(h:CK k s w)(C:Array fa)(t:TypeId):KP k w w.heap.size C s (w.alloc<|.cells C t):=
 have i:Bq w (w.alloc<|Cv C t):=bw _
 ⟨h.af i,Fr.of i,qy _ _ _,λq=>Nat.lt_irrefl _<|h.lt q⟩
def KP.go(H:KP k we cb C s w)(h:CK k s' w')(F:Fr k.S w w'):KP k we cb C s' w':=⟨h,H.f.trans F,H.b.fr F H.n,H.n⟩
theorem KP.sub(H:KP k we cb C s w){f:FuncId}{a:Array fa}(K:Td k f a s s'):ca j8 f a w (Kn k we cb C s'):=(K w H.s).mono λ_ _ q=>⟨q.1,H.go q.2.1 q.2.2⟩
theorem KP.fin(H:KP k we cb C s w):Dk k s we (.returned<|.tuple #[]) w:=⟨rfl,H.s,H.f⟩
def LpG(n:Nat)(P:Nat->ea->Prop)(i:Nat)(c:fa)(w:ea):=∃j,Hid (i=n-j)/\j<=n/\c=Nv j/\P j w
def Zd(k:Kb)(n sz:Nat)(sa:Option Addr)(cs:Nat->Nat->fa):Prop:=n=0\/∃g,sa=ia ⟨g,0,ka⟩/\g<k.B/\∀i,i<n->∀j,j<sz->k.w0.cell? ⟨g,i*sz+j,ka⟩=ia (cs i j)
def Zd.at{sz:Nat}(h:Zd k n sz sa cs){i:Nat}(m:i<n)(c:CK k s w):∃g,sa=ia ⟨g,0,ka⟩/\∀j,j<sz->w.cell? ⟨g,i*sz+j,ka⟩=ia (cs i j):=by
 obtain rfl|⟨g,e,q,hc⟩:=h
 .cases m
 .exact⟨g,e,λj hj=>(qr (a:=⟨g,_,ka⟩)<|c.u g q).trans<|hc i m j hj⟩
def Kc{p:Prop}(h:p:=by
 go_wp2
 go_quiet(fail)
 go_wp2
 go_end0
 exact uh<|Y _):p:=h
def uJ(e a b:Nat)(s:Ks):Td k 158 #[k.p,Nv e,.agg #[Nv a,Nv b]] s (s.fl<|tell e a b s.f):=by
 intro w h;have H:=λq=>(KP.new h #[Nv a,Nv b] 90).af<|(qt _ _).drewN q
 have Y:=λq=>ai (show Dk k (s.fl ⟨e,a,b⟩) w (Rv<|.tuple #[]) (((((w.alloc<|Cv #[Nv a,Nv b] 90).drewN q).setCell ⟨k.c,3,ka⟩<|Nv e).setCell ⟨k.c,4,ka⟩<|Nv a).setCell ⟨k.c,5,ka⟩<|Nv b)from
  have F:=(((Fr.refl (λx=>x=k.c) _).set (qp rfl) 3 _).set (qp rfl) 4 _).set (qp rfl) 5 _
  ⟨rfl,(H q).s.pc F<|(((H q).s.bx.aW 3 _ _ rfl ag).aW 4 _ _ rfl ag).aW 5 _ _ rfl ag,(H q).f.trans<|F.wide λx e=>qp e⟩)
 have N:=λq=>ai (H q).fin;have⟨c,A,z⟩:=(H 0).s.bx;have⟨c1,f1,z1⟩:=(KP.new h #[Nv a,Nv b] 90).b;have⟨c2,f2,z2⟩:=(KP.new h #[Nv a,Nv b] 90).s.bx;clear H c A z;rw[tell];by_cases o:s.f.kind=0
 .rw[if_pos<|qp o];have i:((s.f.kind:Int)==0)=la:=by simp[o]
  exact Kc
 .have i:((s.f.kind:Int)==0)=ra:=bQ;by_cases D:a<s.f.ah
  .rw[if_pos<|qn D];have m:(a:Int)<(s.f.ah:Int):=ae;exact Kc
  .rw[if_neg ae];have m:decide ((a:Int)<(s.f.ah:Int))=ra:=bQ;go_wp2
   go_quiet(fail)
   go_wp2
   go_end0;exact uh<|N _
end
def afq{ty}{own}{t:Nat}:rV ty own (.mk 16 s n [] fr t a) z=bR (!gG s own) 4 fr (fr+s.size) z:=by
 rw[rV];rfl
def ahu{ty}{own}{t:Nat}:rV ty own (.mk 2 s n L fr t a) z=iJ ty own L (bR (ty s !=ia L.length) 4 a (a+s.size) z):=by
 conv=>lhs;rw[rV]
 rfl
def acj{ty}{own}{t:Nat}(i:k=6\/k=17):rV ty own (.mk k s n [x,y] fr t a) z=rV ty own y (rV ty own x z):=by
 obtain rfl|rfl:=i;all_goals
  conv=>lhs;rw[rV]
  rfl
section
variable {k:Kb} {s:Ks} {ov:fa} {own:List BA}
def CW(o:Zd k L.length 1 sa cs)(N:∀i(h:i<L.length)s,Td k 159 #[k.p,cs i 0,ov] s<|s.fl<|rV s.ty own L[i] s.f)(hL:L.length<=1000)(s:Ks):
 Td k 130 #[k.p,.slice sa L.length sc,ov] s (s.fl<|iJ s.ty own L s.f):=by
 intro w h;have H:=ai h;clear h;go_wp2
 go_loopg[10] L.length (λgk c wr=>LpG L.length (λj wr=>Dk k (s.fl<|iJ s.ty own (L.take j) s.f) w (Rv<|.tuple #[]) wr) gk c wr)
 case atStart=>exact⟨0,ai rfl,jc _,rfl,rfl,uh H,Fr.refl _ _⟩
 case round=>
  obtain⟨j,A,hj,rfl,-,X,Y⟩:=hrel;by_cases m:j<L.length
  .have G:=kK m;obtain⟨g,rfl,hc⟩:=o.at m X;have D:=hc 0 ae;rw[jj,jh]at D;have E:=N j m _ wr X;rw[<-T7 _ _ _ _ _ m]at E;go_wp2_with fail;refine E.mono ?_;rintro e w2⟨rfl,I,K⟩
   go_wp2
   go_roundg(L.length-(j+1))
   case measure=>rw[uh A];omega
   case rel=>exact⟨j+1,ai rfl,ae,iF,rfl,I,Y.trans K⟩
  .have G:=nN m;rw[jo ae]at X
   go_wp2
   go_end0;exact⟨rfl,X,Y⟩
def np{p:Prop}(h:p:=by
 rintro e w2⟨rfl,H⟩
 go_wp2
 go_end0
 exact H.fin):p:=h
def Kd(O:∀w,k.I w->MV' w ov F)(R:TY own F)(h:PT k.w0 (·<k.B) nd v):Sm nd->∀s,Td k 159 #[k.p,v,ov] s<|s.fl<|rV s.ty own nd s.f:=by
 induction h with
 |var u n f t a x y hq hx hy=>
  intro _ s w h;subst hx hy;have H:=ai<|KP.new h #[Nv f,.int .i64 ((f+u.size:Nat):Int),Sv<|u.extract 1 u.size] 191;have m:=Qs (O _ H.s.i)<|u.extract 1 u.size;rw[R u hq]at m;rw[afq];generalize gG u own=q at m⊢
  cases q
  all_goals
   go_in;go_wp2_with(first|(go_at_call 157;refine m.mono ?_;rintro e E⟨rfl,rfl⟩)|(go_at_call 158;refine(H.sub<|uJ 4 f (f+u.size) s).mono ?_;rintro e w2⟨rfl,H⟩));go_end0;exact KP.fin H
 |fn u n a b f t _ x y va vb ha hb tK tM|pr u n a b f t _ x y va vb ha hb tK tM=>
  intro m s w h;obtain⟨ta,xa,rfl⟩:=ha.iface;obtain⟨tb,xb,rfl⟩:=hb.iface;rw[acj ag];go_in;go_wp;refine((KP.new h _ _).sub<|tK (m.part a ag) s).mono ?_;rintro e E⟨rfl,H⟩;have⟨o,A,D⟩:=H.b;go_wp2_with fail;refine(H.sub<|tM (m.part b ag) _).mono ?_;exact np
 |up u n L f t a x y x' y' sa sc vs hu bK hr hx hy ih=>
  intro m s w h;subst hx;have G:Hid (∀s:Ks,Td k 158 #[k.p,Iv 4,Av #[Nv a,Iv y']] s<|s.fl<|tell 4 a (a+u.size) s.f):=ai (by rw[hy];exact uJ 4 a<|a+u.size);have K:=ai (CW (sa:=sa) (sc:=sc) (cs:=λi _=>vs i) (bK.imp (λe=>by rw[e];rfl) λ⟨g,e,q,_,hc⟩=>⟨g,e,q,λi hi j hj=>by rw[show i*1+j=i by omega];exact hc i hi⟩) (λi hi=>ih i hi<|m.part _<|jp hi) m.len.1);have H:=ai<|KP.new h #[Iv x,Iv y,Nv a,Iv y',Sv u,Lv sa L.length sc] 230;have⟨o,A,D⟩:=H.b;have⟨c2,f2,y2⟩:=H.s.bx;have E:=ai λw'(h:KP k w w.heap.size #[Iv x,Iv y,Nv a,Iv y',Sv u,Lv sa L.length sc] s w')=>Qt (v:=Mv k.t) (qn ⟨k.t,rfl,h.s.t⟩) u L.length;rw[ahu,show(s.ty u !=ia L.length)= !(s.ty u==ia L.length)from rfl];generalize(s.ty u==ia L.length)=q at E⊢;have HL:=m.len.1;clear m h ih hr hy
  cases q
  all_goals
   go_wp2
   go_quiet((go_at_call 173;exact Calls.quiet_of_same<|uh E _<|H.af<|(qt _ _).drewN _));all_goals
    have H:=ai<|H.af<|(qt _ _).drewN nq;go_wp2_with(first|(go_at_call 158;refine(H.sub<|G _).mono ?_;rintro e N⟨rfl,H⟩;have⟨o,A,D⟩:=H.b)|(go_at_call 130;refine(H.sub<|K _).mono ?_;rintro e N⟨rfl,H⟩));go_end0;exact KP.fin H
end
abbrev Ks.pt(s:Ks)(q:List BA×Fl):Ks:={s with p:=q.1,f:=q.2}
section
variable {k:Kb} {s:Ks} {p:List BA} {f:Fl}
def ahv{s:BA}{t:Nat}:jJ mk (.mk 1 s n L fr t a) (p,f)=(p++[s],bR (gG s p) 5 fr t f):=by rw[jJ];rfl
def ahw{s:BA}{t:Nat}:jJ mk (.mk 2 s n L fr t a) (p,f)=dW mk L (p,bR (mk s !=ia L.length) 5 a (a+s.size) f):=by
 conv=>lhs;rw[jJ]
 rfl
def adF{k}{s:BA}{t:Nat}(hk:k≠1/\k≠2):jJ mk (.mk k s n L fr t a) (p,f)=dW mk L (p,f):=by grind[jJ,dW,bR]
def Uq(K:k.g=ia gb)(h:PP k.w0 (·<k.B) nd v):Sm nd->∀s,Td k 174 #[k.p,v,Mv gb] s<|s.pt<|jJ s.mm nd (s.p,s.f):=by
 induction h with
 |low u n f t a hl=>
  intro _ s w h;have H:=ai<|KP.new h #[Nv f,Nv t,Sv u] 197;have A:=Qs (H.s.g gb K).mv u;rw[show(if gG u s.p=la then ia 1 else ka:Option Nat).isSome=gG u s.p by cases gG u s.p<;>rfl]at A;have⟨R,I,N,o⟩:=H.s.g gb K;have o:=ai o;rw[ahv];generalize gG u s.p=q at A⊢
  cases q
  all_goals
   go_in;go_wp2_with(first|(go_at_call 157;refine A.mono ?_;rintro e S⟨rfl,rfl⟩)|(go_at_call 158;refine(H.sub<|uJ 5 f t _).mono ?_;rintro e w2⟨rfl,H⟩;have⟨D,E,G⟩:=H.b;have⟨R,I,N,o⟩:=H.s.g gb K;have o:=ai o)|(refine wv rfl _ _ _ (Or.inr rfl) rfl I u (Iv 1) rfl rfl ?_;intro V U O;have H:=ai<|KP.go H (H.s.pg K O<|GM.bF N (uh o) U)<|O.fs<|k.sS.2.2.2.2 gb K));go_end0;exact KP.fin H
 |pr u n x y f t a vx vy hx hy bu cW=>
  intro I s w h;obtain⟨tx,xx,rfl⟩:=hx.iface;obtain⟨ty,xy,rfl⟩:=hy.iface;rw[adF aD,show dW s.mm [x,y] (s.p,s.f)=jJ s.mm y (jJ s.mm x (s.p,s.f)) by unfold dW;unfold dW;unfold dW;rfl];go_in;go_wp;refine((KP.new h _ _).sub<|bu (I.part x ag) s).mono ?_;rintro e S⟨rfl,H⟩;have⟨D,E,G⟩:=H.b;go_wp2_with fail;refine(H.sub<|cW (I.part y ag) _).mono ?_;exact np
 |up u n L f t a y sa sc vs hu hy bK hr ih=>
  intro I s w h;have R:=ai<|uJ (k:=k) 5 a<|a+u.size;rw[<-hy]at R;have bK:Zd k L.length 1 sa (λi _=>vs i):=bK.imp (λe=>by rw[e];rfl) λ⟨g,e,q,_,hc⟩=>⟨g,e,q,λi hi j hj=>by rw[show i*1+j=i by omega];exact hc i hi⟩;have H:=ai<|KP.new h #[Nv f,Nv t,Nv a,Nv y,Sv u,Lv sa L.length sc] 262;have⟨D,E,G⟩:=H.b;have⟨c2,f2,y2⟩:=H.s.bx;have S:=ai λw'(h:KP k w w.heap.size #[Nv f,Nv t,Nv a,Nv y,Sv u,Lv sa L.length sc] s w')=>Qt (v:=Mv k.m) (qn ⟨k.m,rfl,h.s.m⟩) u L.length;have HL:=I.len.1;rw[ahw,show(s.mm u !=ia L.length)= !(s.mm u==ia L.length)from rfl,<-hy];generalize(s.mm u==ia L.length)=q at S⊢;obtain⟨z,U⟩:∃z,Hid<|z=bR (!q) 5 a y s.f:=⟨_,ai rfl⟩;rw[<-uh U];clear h hy
  cases q
  all_goals
   go_wp2
   go_quiet((go_at_call 173;exact Calls.quiet_of_same<|uh S _<|H.af<|(qt _ _).drewN _));have H:=ai<|H.af<|(qt _ _).drewN nq;go_wp2_with(go_at_call 158;refine(H.sub<|R _).mono ?_;rintro e V⟨rfl,H⟩;have⟨D,E,G⟩:=H.b);clear D E G;go_loopg[49] L.length (λgk c wr=>LpG L.length (λj wr=>KP k w w.heap.size #[Nv f,Nv t,Nv a,Nv y,Sv u,Lv sa L.length sc] (s.pt<|dW s.mm (L.take j) (s.p,z)) wr) gk c wr)
   case atStart=>exact⟨0,ai rfl,jc _,rfl,by rw[uh U];exact H⟩
   case round=>
    obtain⟨j,N,hj,rfl,X⟩:=hrel;have⟨D,E,G⟩:=X.b;by_cases o:j<L.length
    .have W:=kK o;obtain⟨g,rfl,hc⟩:=bK.at o X.s;have O:=hc 0 ae;rw[jj,jh]at O;have A:=X.sub<|ih j o (I.part _<|jp o) _;go_wp2_with fail;refine A.mono ?_;rintro e w2⟨rfl,X⟩
     go_wp2
     go_roundg(L.length-(j+1))
     case measure=>rw[uh N];omega
     case rel=>exact⟨j+1,ai rfl,ae,iF,by simp only[T8 _ _ _ _ o];exact X⟩
    .have W:=nN o;rw[jo ae]at X
     go_wp2
     go_end0;exact X.fin
 |_=>
  intro _ s w h;rw[adF aD,show dW s.mm [] (s.p,s.f)=(s.p,s.f) by unfold dW;rfl];go_wp2
  go_end0;exact⟨rfl,h,Fr.refl _ _⟩
end
end
section
open Un
section
variable {t:Nat} {ty:BA->Option Nat} {l:List BA}
def ahx:dV ty mk (.mk 9 s n [u] f t a) l z=dV ty mk u (l++[s]) z:=by
 conv=>lhs;rw[dV]
 rfl
def afr{v:Nd}:dV ty mk (.mk 10 s n [u,v] f t a) l z=dV ty mk v (l++[s]) (dV ty mk u l z):=by
 conv=>lhs;rw[dV]
 rfl
def afs{v:Nd}:dV ty mk (.mk 11 s n [u,v] f t a) l z=dV ty mk v (l++[s]) (dV ty mk u (l++[s]) z):=by
 conv=>lhs;rw[dV]
 rfl
def aft{v:Nd}:dV ty mk (.mk 14 s n [u,v] f t a) l z=rV ty [] v (dV ty mk u l z):=by
 conv=>lhs;rw[dV]
 rfl
def afu:dV ty mk (.mk 13 s n (u::L) f t a) l z=mi ty mk L l (dV ty mk u l z):=by
 conv=>lhs;rw[dV]
 rfl
def Ze(i:k≠1/\k≠2/\k≠9/\k≠10/\k≠11/\k≠13/\k≠14):dV ty mk (.mk k s n L f t a) l z=gn ty mk L l z:=by
 conv=>lhs;rw[dV]
 simp[i]
end
def Kf(ty mk:BA->Option Nat)(l:List BA):∀(L M:List Nd)(z:Fl),gn ty mk (L++M) l z=gn ty mk M l (gn ty mk L l z)
 |[],_,_=>by rw[j7];conv=>rhs;arg 5;rw[gn]|x::r,M,z=>by
  rw[jx];have i:∀N z,gn ty mk (x::N) l z=gn ty mk N l (dV ty mk x l z):=λN z=>by conv=>lhs;rw[gn]
  rw[i,i];exact Kf ty mk l r M _
def Ur ty mk l(L:List Nd)z j(h:j<L.length):gn ty mk (L.take<|j+1) l z=dV ty mk L[j] l (gn ty mk (L.take j) l z):=by
 rw[jm h,Kf]
 conv=>lhs;rw[gn]
 conv=>lhs;rw[gn]
def CX:∀A:List (Nd×Nd),(aN A).length=2*A.length
 |[]=>rfl|p::r=>by have:=CX r;simp[aN,this];omega
def Rk:∀(A:List (Nd×Nd))(j:Nat)(h:j<A.length),nn A[j].1+nn A[j].2<=cr (aN A)
 |p::r,0,h=>by simp[aN,cr]<;>omega|p::r,j+1,h=>by
  have:=Rk r j uY;simp only[aN,cr,jv];omega
def E9:∀(A:List (Nd×Nd))(j:Nat)(h:j<A.length),A[j].1∈aN A/\A[j].2∈aN A
 |p::r,0,h=>by simp[aN]|p::r,j+1,h=>by
  have:=E9 r j uY;simp only[aN,jv,List.mem_cons];exact⟨qn<|qn this.1,qn<|qn this.2⟩
def Zf ty mk l z(p:Nd×Nd):=dV ty mk p.2 (l++(jJ mk p.1 ([],z)).1) (jJ mk p.1 ([],z)).2
def Us ty mk l(A:List (Nd×Nd))z:=A.foldl (Zf ty mk l) z
def Rl(ty mk:BA->Option Nat)(l:List BA):∀(A:List (Nd×Nd))(z:Fl),mi ty mk (aN A) l z=Us ty mk l A z
 |[],z=>by
  show mi ty mk [] l z=z
  conv=>lhs;rw[mi]
 |p::r,z=>by
  have i:mi ty mk (aN (p::r)) l z=mi ty mk (aN r) l (Zf ty mk l z p):=by
   show mi ty mk (p.1::p.2::aN r) l z=_
   conv=>lhs;rw[mi]
   conv=>lhs;rw[Ee]
   rfl
  rw[i,Rl ty mk l r];rfl
def Ut ty mk l(A:List (Nd×Nd))z j(h:j<A.length):Us ty mk l (A.take<|j+1) z=Zf ty mk l (Us ty mk l (A.take j) z) A[j]:=by
 rw[Us];rw[jm h,List.foldl_append];rfl
end
section
open Go.ChangeMaps Go.MapKept
def Ah(lo:BA->Nat)done:=λx=>lo x+if gG x done then 1 else 0
def loD(lo:BA->Nat)done:=λx=>lo x-if gG x done then 1 else 0
section
variable {k:Kb} {s s':Ks} {r:Nat} {p l:List BA} {e e':ga}
def Zg{x:BA}(h:x∉done):(λy=>if y=x then Ah lo done x+1 else Ah lo done y)=Ah lo (x::done):=by grind[Ah,gG]
def Zh{x:BA}(h:x∉done):(λy=>if y=x then loD lo done x-1 else loD lo done y)=loD lo (x::done):=by grind[loD,gG]
def Kg{p}(h1:∀x,gG x p=la->x∈done)(h2:∀x∈done,gG x p=la)x:gG x done=gG x p:=by grind[gG]
def LoR.pD(h:LoR lo l)p:LoR (Ah lo p) (l++p):=by grind[LoR,gG,Ah]
def Dk.it(X:Dk k s' we e w)(h:CK k s we)(F:Fr (λb=>b=r) w w')(m:we.heap.size<=r):Dk k s' we e w':=
 have o:Fr k.S we w':=X.2.2.trans' F λb q=>qn<|q▸m
 ⟨X.1,X.2.1.oth F (λb q=>q▸⟨λq'=>absurd (h.lt q')<|Nat.not_lt.2 m,jf h.B m⟩)<|h.x.st _ _ o h.i,o⟩
def Dk.pl(X:Dk k s we e w)(o:One k.l w w')(m:LM w' k.l lo):Dk k {s with lo:=lo} we e w':=⟨X.1,X.2.1.pl o m,X.2.2.trans<|o.fs k.sS.2.2.2.1⟩
def CK.nm(h:CK k s w)(l:List BA)(n:Nat):CK k {s with nm:=l,n:=n} w:=⟨h.x,h.bx,h.t,h.m,h.l,h.g,h.u,h.i⟩
def XT(k:Kb)(nd:Nd)(v:fa):=∀s:Ks,s.ok->s.n+nn nd<=5000->Td k 133 #[k.p,v] s (s.fl<|dV s.ty s.mm nd s.nm s.f)
def UpR(k:Kb)(s:Ks)(w:ea)(r gb:Nat)(p:List BA)(lo:List BA->BA->Nat)(i:Nat)(wr:ea):=∃done,IT wr r gb p done i/\(∀x∈done,gG x p=la)/\Dk k {s with lo:=lo done} w (.returned<|.tuple #[]) wr
def Rm{p:Prop}(h:p:=by
 go_roundg aR
 case measure=>exact ahy
 case rel=>exact⟨x::done,HI1.same (O3.block gb nl)<|O3.block _ ae,by intro y hy;obtain rfl|q:=List.mem_cons.1 hy;exact HXP;exact HD y q,X5⟩):p:=h
def Zi(HE:XT k nd v)(hs:s.ok)(hn:s.n+1+nn nd<=5000)(hS:¬k.S gb)(hg:GM w gb p)(h:CK k s w):
 ca j8 131 #[k.p,.map<|some gb,v] w (Dk k (s.fl<|dV s.ty s.mm nd (s.nm++p) s.f) w):=by
 have⟨o,cnt,hrg,lJ⟩:=hg.range;have X0:=ai<|show Dk k s w (Rv<|.tuple #[]) (w.alloc o)from⟨rfl,h.af<|bw _,Fr.of<|bw _⟩;have I:=ai lJ;have HG:=ai hg;have H:=ai h;have nl:gb≠k.l:=λq=>hS<|q▸k.sS.2.2.2.1;have hzl:=h.lt k.sS.2.2.2.1;have K:=λx=>hs.2 x;have HR:=ai (show Ks.ok {s with lo:=Ah s.lo p,nm:=s.nm++p,n:=s.n+1}from⟨hs.1.pD p,λx=>by have:=hs.2 x;show s.lo x+(if gG x p=la then 1 else 0)<=s.n+1;split<;>omega⟩);obtain⟨O,HZ⟩:∃Z,Hid<|Z=dV s.ty s.mm nd (s.nm++p) s.f:=⟨_,ai rfl⟩;rw[<-uh HZ];clear h hg lJ;go_wp2
 go_loopg[] cnt (λgk wr=>UpR k s w w.heap.size gb p (Ah s.lo) gk wr)
 case atStart=>exact⟨[],I,ag,uh X0⟩
 case round=>
  clear X0;obtain⟨done,lJ,a0,hX⟩:=hrel;have i:=ai hX;have I:=ai lJ;have HD:=ai a0;have c0:=hX.2.2.size;have R:=lJ.lt;obtain⟨ha,-,D⟩|⟨x,u,w1,aR,d0,e0,D,U,E,f0,g0,h0⟩:=I.next
  .have eL:Ah s.lo done=Ah s.lo p:=by funext y;unfold Ah;rw[Kg ha HD y]
   rw[eL]at i;have HC:=HE {s with lo:=Ah s.lo p,nm:=s.nm++p,n:=s.n+1} HR (by show s.n+1+nn nd<=5000;omega) wr (i.2.1.nm _ _);have GR:=HG.same<|i.2.2.block gb HG.lt hS;have HC:=HC.mono (R':=Dk k {s with lo:=Ah s.lo p,f:=O} wr) λ_ _ q=>⟨q.1,by rw[uh HZ];exact q.2.1.nm s.nm s.n,q.2.2⟩;go_wp2_with fail;refine HC.mono ?_;rintro e w2⟨rfl,d2,k2⟩;have X2:=ai<|show Dk k {s with lo:=Ah s.lo p,f:=O} w (Rv<|.tuple #[]) w2 from⟨rfl,d2,i.2.2.trans k2⟩;have⟨o2,V,aju,i0⟩:=(GR.same<|k2.block gb R.1 hS).range;have X3:Hid (Dk k {s with lo:=Ah s.lo p,f:=O} w (Rv<|.tuple #[]) (w2.alloc o2)):=ai ⟨rfl,d2.af<|bw _,X2.2.2.trans<|Fr.of<|bw _⟩;have j0:=X2.2.2.size
   go_wp2
   go_loopg[] V (λgk wr=>UpR k {s with f:=O} w w2.heap.size gb p (loD<|Ah s.lo p) gk wr)
   case atStart=>exact⟨[],i0,ag,uh X3⟩
   case round=>
    obtain⟨done,I,HD,i⟩:=hrel;have c0:=i.2.2.size;have R:=I.lt;obtain⟨ha,-,D⟩|⟨x,u,w1,aR,m,HXP,D,HI1,E,k0,g0,h0⟩:=I.next
    .have eL:loD (Ah s.lo p) done=s.lo:=by
      funext y;unfold loD Ah;rw[Kg ha HD y];omega
     rw[eL]at i
     go_wp2
     go_end0;exact i
    .have A:=i.it H k0 j0;obtain⟨N,G⟩:∃N,Hid<|N=loD (Ah s.lo p) done x:=⟨_,ai rfl⟩;have hl:=A.2.1.l.look x;rw[show({s with f:=O,lo:=loD (Ah s.lo p) done}:Ks).lo x=N from(uh G).symm]at hl;have⟨L,HM,HL⟩:=A.2.1.l;have l0:1<=N/\N<=6000:=by
      have h1:=K x;have h2:=Pw.2 m;have h3:N=s.lo x+1:=by rw[uh G];unfold loD Ah;rw[h2];simp[HXP]
      omega
     have hN6:(1:Int)<=(N:Int):=ae;have n0:(N:Int)<=6000:=ae;have⟨c1,f1,y1⟩:=A.2.1.bx;have ahy:=E;go_wp2_with(refine aV _ rfl _ _ _ _ (qn rfl) (KL.str j9) Tryz.underlying135 _ _ rfl HM x (.int .i64<|(N:Int)-1) rfl rfl trivial (λ_ _=>trivial) ?_;intro w3 W X;have Y:=ai W;have O3:=ai X;clear W X);have hv:(Value.int .i64<|(N:Int)-1)=.int .i64 ((N-1:Nat):Int):=by rw[Int.natCast_sub l0.1];rfl
     rw[hv]at Y;have X5:=A.pl O3 ⟨_,Y,LM.put HL x<|N-1⟩;rw[uh G,Zh m]at X5;exact Rm
  .have A:=i.it H f0<|br _;obtain⟨N,G⟩:∃N,Hid<|N=Ah s.lo done x:=⟨_,ai rfl⟩;have hl:=A.2.1.l.look x;rw[show({s with lo:=Ah s.lo done}:Ks).lo x=N from(uh G).symm]at hl;have⟨L,HM,HL⟩:=A.2.1.l;have n0:(N:Int)<=6000:=by
    have h1:=K x;have h2:N=s.lo x+(if gG x done then 1 else 0):=uh G;have h3:(if gG x done=la then 1 else 0)<=1:=by split<;>omega
    omega
   have⟨c1,f1,y1⟩:=A.2.1.bx;have HI1:=ai U;have m:=ai d0;have HXP:=ai e0;have ahy:=E;go_wp2_with(refine aV _ rfl _ _ _ _ (qn rfl) (KL.str j9) Tryz.underlying135 _ _ rfl HM x (.int .i64<|(N:Int)+1) rfl rfl trivial (λ_ _=>trivial) ?_;intro w3 W X;have Y:=ai W;have O3:=ai X;clear W X);have hv:(Value.int .i64<|(N:Int)+1)=.int .i64 ((N+1:Nat):Int):=rfl;rw[hv]at Y;have X5:=A.pl O3 ⟨_,Y,LM.put HL x<|N+1⟩;rw[uh G,Zg m]at X5;exact Rm
end
section
variable {k:Kb} {s s':Ks} {p:List BA} {u:BA}
def ahz x y s:ca j8 132 #[.agg #[Iv x,Iv y,.string s]] w λe w'=>∃gb,e=.returned (Mv gb)/\w.heap.size<=gb/\Bq w w'/\GM w' gb [s]:=by
 have i:Bq w ((w.alloc<|Cv #[Iv x,Iv y,Sv s] 92).alloc<|.map #[] 0):=(bw _).alloc ag _;have A:MB ((w.alloc<|Cv #[Iv x,Iv y,Sv s] 92).alloc<|.map #[] 0) (w.heap.size+1) []:=(by have:=MB.new<|w.alloc<|Cv #[Iv x,Iv y,Sv s] 92;simpa using this);have D:=ai i;have E:=(Bx.new w #[Iv x,Iv y,Sv s] 92).alloc<|.map #[] 0;obtain⟨c1,f1,y1⟩:=E;go_in;go_wp2_with(refine wv rfl _ _ _ (Or.inl rfl) rfl A s (Iv 1) rfl rfl ?_;intro w3 m o;have G:=ai m;have I:=ai o;clear m o);go_ret;exact⟨_,rfl,Nat.le_succ _,One.below D I<|Nat.le_succ _,GM.bF (p:=[]) ag (λx=>by simp[ba,gG]) G⟩
def KP.one(H:KP k we cb C s w)(x y:Int)(u:BA):ca j8 132 #[.agg #[Iv x,Iv y,.string u]] w.drew λe w'=>∃gb,e=.returned (Mv gb)/\¬k.S gb/\KP k we cb C s w'/\GM w' gb [u]:=
 (ahz x y u).mono λ_ _⟨gb,e,hg,b,g⟩=>⟨gb,e,λq=>absurd (H.s.lt q)<|Nat.not_lt.2 hg,H.drew.af b,g⟩
def KP.within(H:KP k we cb C s w)(i:XT k nd v)(m:s.ok)(o:s.n+1+nn nd<=5000)(A:¬k.S gb)(D:GM w gb p):ca j8 131 #[k.p,Mv gb,v] w (Kn k we cb C<|s.fl<|dV s.ty s.mm nd (s.nm++p) s.f):=
 (Zi i m o A D H.s).mono λ_ _ q=>⟨q.1,H.go q.2.1 q.2.2⟩
def KP.exprs(H:KP k we cb C s w)(Z:List (Nd×fa))(G:∀q∈Z,XT k q.1 q.2)(t:TypeId)(g:Nat)(I:g=w.heap.size)(K:s.ok)(hn:s.n+cr (Z.map (·.1))<=5000):
 ca j8 160 #[k.p,.slice (ia ⟨g,0,ka⟩) Z.length Z.length] (w.alloc (.cells (Z.map (·.2)).toArray t)) (Kn k we cb C (s.fl (gn s.ty s.mm (Z.map (·.1)) s.nm s.f))):=by
 subst I;have hL:Z.length<=5000:=by have:=mJ (Z.map (·.1));simp at this;omega
 have X:=ai (KP.new H.s (Z.map (·.2)).toArray t);have R:∀e w',Dk k (s.fl (gn s.ty s.mm (Z.map (·.1)) s.nm s.f)) w e w'->Kn k we cb C (s.fl (gn s.ty s.mm (Z.map (·.1)) s.nm s.f)) e w':=λ_ _ q=>⟨q.1,H.go q.2.1 q.2.2⟩;refine Calls.mono ?_ R;clear R H;go_wp2
 go_loopg[8] Z.length (λgk c wr=>LpG Z.length (λj wr=>KP k w w.heap.size (Z.map (·.2)).toArray (s.fl (gn s.ty s.mm ((Z.map (·.1)).take j) s.nm s.f)) wr) gk c wr)
 case atStart=>exact⟨0,ai rfl,jc _,rfl,by simp only[List.take_zero,gn];exact uh X⟩
 case round=>
  obtain⟨j,o,hj,rfl,X⟩:=hrel;by_cases i:j<Z.length
  .have D:=kK i;have A:=X.b.c j;rw[show(Z.map (·.2)).toArray[j]? =ia Z[j].2 by simp[i]]at A;have m:j<(Z.map (·.1)).length:=by simpa using i
   have E:=X.sub (G Z[j] (jp i) _ K (by have:=xT<|jp m;simp only[j6]at this;show s.n+_<=_;omega));go_wp2_with fail;refine E.mono ?_;rintro e w2⟨rfl,X⟩
   go_wp2
   go_roundg(Z.length-(j+1))
   case measure=>rw[uh o];omega
   case rel=>exact⟨j+1,ai rfl,ae,iF,by simp only[Ur _ _ _ _ _ _ m,j6];exact X⟩
  .have D:=nN i;rw[jo bQ]at X
   go_wp2
   go_end0;exact X.fin
abbrev bdA r x y s v:=#[.bool r,Iv x,Iv y,.string s,v]
def Ro(i:XT k nd (.iface tv<|.agg xv))r x y(u:BA)(m:s.ok)(A:s.n+1+nn nd<=5000):Td k 70 #[k.p,.agg<|bdA r x y u<|.iface tv<|.agg xv] s (s.fl<|dV s.ty s.mm nd (if r then s.nm++[u]else s.nm) s.f):=by
 intro w h;have H:=ai<|KP.new h (bdA r x y u<|Fv tv<|Av xv) 101;have⟨c0,f0,y0⟩:=H.b
 cases r
 .go_in;go_wp;refine(H.sub<|i s m ae).mono ?_;exact np
 .go_wp2
  go_region_with(first|(go_at_call 132;refine(KP.one H _ _ _).mono ?_;rintro e w1⟨gb,rfl,o,H,G⟩;have⟨c1,f1,z1⟩:=H.b)|(go_at_call 131;refine(KP.within H i m A o G).mono ?_;rintro e w2⟨rfl,H⟩));all_goals
   go_wp2
   exact bodyPost_ret (v:=.tuple #[]) (by simp[results,Tryz.results70,go_sem]) rfl H.fin
structure Ko(k:Kb):Prop where
 x:KbF k
 g:k.g=ka
 i:∀w,k.I w
def Ko.sd(h:Ko k)(gb b:Nat):Kb.S {k with g:=ia gb} b↔k.S b\/gb=b:=by simp[Kb.S,h.g,or_assoc]
def KP.arm(H:KP k we cb C s w)(A:Ko k)(gb:Nat)(e:gb=w.heap.size):KP {k with g:=ia gb} we cb C {s with p:=[]} (w.alloc<|.map #[] 0):=by
 have o:=H.af<|bw<|.map #[] 0;obtain⟨D,E,G,I,-⟩:=k.sS;subst e;exact⟨⟨⟨A.x.ne,λb q=>(by cases q;exact⟨ji<|H.s.lt D,ji<|H.s.lt E,ji<|H.s.lt G,ji<|H.s.lt I⟩),λb q=>((A.sd _ b).1 q).elim (A.x.B b) λe=>e▸H.s.B,λ_ w' _ _=>A.i w'⟩,o.s.bx,o.s.t,o.s.m,o.s.l,λb q=>(by cases q;exact GM.new w),o.s.u,A.i _⟩,o.f.wide λb q=>(A.sd _ b).2<|qp q,o.b,λq=>((A.sd _ _).1 q).elim H.n λe=>Nat.lt_irrefl _<|e▸H.b.z⟩
def KP.shut(H:KP {k with g:=ia gb} we cb C s w)(o:Ko k)(hz:we.heap.size<=gb)(p:List BA):KP k we cb C {s with p:=p} w/\GM w gb s.p:=
 ⟨⟨⟨o.x,H.s.bx,H.s.t,H.s.m,H.s.l,λb q=>(by rw[o.g]at q;cases q),H.s.u,o.i w⟩,⟨H.f.os,H.f.tape,H.f.output,H.f.size,λb hb n=>H.f.block b hb λq=>((o.sd _ b).1 q).elim n λe=>ae⟩,H.b,λq=>H.n<|(o.sd _ _).2<|qp q⟩,H.s.g gb rfl⟩
def Zj(s:Ks)(A:List (Nd×Nd))(j:Nat):Ks:=s.fl<|Us s.ty s.mm s.nm (A.take j) s.f
def afv(Z:Ko k){A}{vp N:Nat->fa}(HA:∀i(h:i<A.length),XT k A[i].2<|N i)(O:g<k.B)(hc:∀i,i<A.length->(∃u v,k.w0.cell? ⟨g,i*4,ka⟩=ia (Iv u)/\k.w0.cell? ⟨g,i*4+1,ka⟩=ia (Iv v))/\k.w0.cell? ⟨g,i*4+2,ka⟩=ia (vp i)/\k.w0.cell? ⟨g,i*4+3,ka⟩=ia (N i))(hp:∀i(h:i<A.length),PP k.w0 (·<k.B) A[i].1<|vp i)(he:∀i(h:i<A.length),∃t x,N i=.iface t (.agg x))(hs:s.ok)(hn:s.n+1+cr (aN A)<=5000)(hS:∀x∈aN A,Sm x)(hL:A.length<=1000):
 Td k 161 #[k.p,.slice (ia ⟨g,0,ka⟩) A.length sc] s (s.fl<|mi s.ty s.mm (aN A) s.nm s.f):=by
 intro w h;have H:=ai<|show Dk k (Zj s A 0) w (Rv<|.tuple #[]) w from⟨rfl,h,Fr.refl _ _⟩;rw[Rl,show s.fl (Us s.ty s.mm s.nm A s.f)=Zj s A A.length by rw[Zj,List.take_length]];clear h;go_wp2
 go_loopg[9] A.length (λgk c wr=>LpG A.length (λj wr=>Dk k (Zj s A j) w (Rv<|.tuple #[]) wr) gk c wr)
 case atStart=>exact⟨0,ai rfl,jc _,rfl,uh H⟩
 case round=>
  clear H;obtain⟨j,E,hj,rfl,X⟩:=hrel;have X:=ai X;by_cases m:j<A.length
  .have hd:=kK m;have D:∀o,wr.cell? ⟨g,o,ka⟩=k.w0.cell? ⟨g,o,ka⟩:=λo=>qr (a:=⟨g,o,ka⟩)<|X.2.1.u g O;have⟨⟨u,v,d0,d1⟩,R,S⟩:=hc j m;rw[<-D]at d0 d1 R S;have⟨t1,x1,U⟩:=(hp j m).iface;have⟨t2,x2,V⟩:=he j m;have W:=hp j m;have Y:=HA j m;rw[U]at R W;rw[V]at S Y;have hnn:=Rk A j m;have I:=E9 A j m;have H:=ai<|(KP.new X.2.1 #[Iv u,Iv v,Fv t1<|Av x1,Fv t2<|Av x2] 247).arm Z (wr.heap.size+1) ag;have⟨c1,f1,y1⟩:=H.b;have K:=ai<|H.sub<|Uq (k:={k with g:=ia<|wr.heap.size+1}) rfl W (hS _ I.1) _;clear D U V;go_wp2_with fail;refine(uh K).mono ?_;rintro e w3⟨rfl,H⟩;have⟨H,G⟩:=H.shut Z (ja _) s.p;have⟨c1,f1,y1⟩:=H.b;have K:=ai (H.within Y hs (by show s.n+1+_<=5000;omega) (λq=>absurd (X.2.1.lt q) ae) G);go_wp2_with fail;refine(uh K).mono ?_;rintro e w4⟨rfl,H⟩
   go_wp2
   go_roundg(A.length-(j+1))
   case measure=>rw[uh E];omega
   case rel=>exact⟨j+1,ai rfl,ae,iF,rfl,by simp only[Zj,Ut _ _ _ _ _ _ m];exact H.s,X.2.2.trans H.f⟩
  .have hd:=nN m;rw[show j=A.length by omega]at X
   go_wp2
   go_end0;exact uh X
end
section
variable {k:Kb}
def Kh{p:Prop}(h:p:=by
 have H:=ai<|H.af<|(qt _ _).drewN nq;go_wp2_with(go_at_call 158;refine(H.sub<|uJ 5 f t _).mono ?_;rintro e w3⟨rfl,H⟩);go_end0
 exact KP.fin H):p:=h
def afw(ho:Ko k)(h:PE k.w0 (·<k.B) nd v):Sm nd->XT k nd v:=by
 induction h with
 |low u n f t a hl=>
  intro _ s D _ w h;have H:=ai<|KP.new h #[Nv f,Nv t,Sv u] 197;rw[show dV s.ty s.mm (.mk 1 u n [] f t a) s.nm s.f=bR (!gG u s.nm) 5 f t s.f by unfold dV;rfl];have o:=λq=>(H.af<|(qt _ _).drewN q).s.l.look u;have R:((s.lo u:Int)==0)= !gG u s.nm:=by
   have:=D.1 u;rw[<-Pt]at this;by_cases e:s.lo u=0
   .rw[e];cases q:gG u s.nm;rfl;exact absurd e<|this.2 q
   .rw[this.1 e];simp[e]
  generalize s.lo u=N at o R;generalize gG u s.nm=q at R⊢;have⟨S,U,V⟩:=H.b;have⟨E,I,O⟩:=H.s.bx
  cases q
  all_goals
   have HE':=R;go_wp2
   go_quiet(fail);exact Kh
 |up u n f t a hu=>
  intro _ s D _ w h;have H:=ai<|KP.new h #[Nv f,Nv t,Sv u] 251;rw[show dV s.ty s.mm (.mk 2 u n [] f t a) s.nm s.f=bR (!(s.mm u).isSome) 5 f t s.f by unfold dV;cases s.mm u<;>rfl];have o:=ai λw'(h:KP k w w.heap.size #[Nv f,Nv t,Sv u] s w')=>Qs (v:=Mv k.m) (qn ⟨k.m,rfl,h.s.m⟩) u;generalize(s.mm u).isSome=q at o⊢;have⟨S,U,V⟩:=H.b;have⟨E,I,O⟩:=H.s.bx
  cases q
  all_goals
   go_wp2
   go_quiet((go_at_call 157;exact Calls.quiet_of_same<|uh o _<|H.af<|(qt _ _).drewN _));exact Kh
 |pr u n x y f t a vx vy hx hy bu cW|call u n x y f t a vx vy hx hy bu cW|op u n x y f t a vx vy _ hx hy bu cW=>
  intro o s D E w h;obtain⟨I,O,rfl⟩:=hx.iface;obtain⟨W,X,rfl⟩:=hy.iface;rw[Ze aD];have Y:∀q∈[(x,Fv I<|Av O),(y,Fv W<|Av X)],XT k q.1 q.2:=by simp[bu<|o.part x ag,cW<|o.part y ag]
  simp only[nn,cr]at E;go_in;go_wp;refine((KP.new h _ _).exprs _ Y 99 _ ag D (by simp only[List.map,cr];omega)).mono ?_;exact np
 |ite u n x y z f t a vx vy vz hx hy hz bu cW qA=>
  intro o s D E w h;obtain⟨I,O,rfl⟩:=hx.iface;obtain⟨W,X,rfl⟩:=hy.iface;obtain⟨Z,x3,rfl⟩:=hz.iface;rw[Ze aD];have Y:∀q∈[(x,Fv I<|Av O),(y,Fv W<|Av X),(z,Fv Z<|Av x3)],XT k q.1 q.2:=by simp[bu<|o.part x ag,cW<|o.part y ag,qA<|o.part z ag]
  simp only[nn,cr]at E;go_in;go_wp;refine((KP.new h _ _).exprs _ Y 99 _ ag D (by simp only[List.map,cr];omega)).mono ?_;exact np
 |of u n x y f t a vx vy hx hy bu=>
  intro o s D E w h;obtain⟨I,O,rfl⟩:=hx.iface;obtain⟨W,X,rfl⟩:=hy.iface;rw[aft];simp only[nn,cr]at E;go_in;go_wp;refine((KP.new h _ _).sub<|bu (o.part x ag) s D ae).mono ?_;rintro e Y⟨rfl,H⟩;have⟨S,U,V⟩:=H.b;go_wp2_with fail;refine(H.sub<|Kd (F:=λ_=>ka) (own:=[]) (λ_ _=>Or.inl ⟨rfl,rfl⟩) (λ_ _=>rfl) hy (o.part y ag) _).mono ?_;exact np
 |fn u n x f t a y vx hl hy hx bu=>
  intro o s D E w h;obtain⟨I,O,rfl⟩:=hx.iface;have H:=ai<|KP.new h #[Nv f,Nv t,Nv a,Nv y,Sv u,Fv I<|Av O] 239;rw[ahx];simp only[nn,cr]at E;have R:=bu<|o.part x ag;have⟨S,U,V⟩:=H.b;clear hy;go_wp2
  go_region_with(first|(go_at_call 132;refine(KP.one H _ _ _).mono ?_;rintro e Y⟨gb,rfl,Z,H,G⟩;have⟨S,U,V⟩:=H.b)|(go_at_call 131;refine(KP.within H R D ae Z G).mono ?_;rintro e w2⟨rfl,H⟩));all_goals
   go_wp2
   go_end0;exact KP.fin H
 |lt c u n x z f t a y vx vz hc hl hy hx hz bu qA=>
  intro o s D E w h;obtain⟨I,O,rfl⟩:=hx.iface;obtain⟨W,X,rfl⟩:=hz.iface;have K:=λh=>Ro (s:=s) (bu<|o.part x ag) (c==11) a y u D h;rw[show dV s.ty s.mm (.mk c u n [x,z] f t a) s.nm s.f=dV s.ty s.mm z (s.nm++[u]) (dV s.ty s.mm x (if(c==11)=la then s.nm++[u]else s.nm) s.f) by obtain rfl|rfl:=hc<;>simp[afr,afs]];generalize dV s.ty s.mm x (if(c==11)=la then s.nm++[u]else s.nm) s.f=fz at K⊢;generalize(c==11)=r at K⊢;simp only[nn,cr]at E;have R:=qA<|o.part z ag;have K:=ai<|K ae;clear hy hc;go_in;go_wp;refine((KP.new h _ _).sub<|uh K).mono ?_;rintro e Y⟨rfl,h1⟩;have H:=ai h1;have⟨S,U,V⟩:=H.b;clear h1 h bu qA hx hz
  go_wp2
  go_region_with(first|(go_at_call 132;refine(KP.one H _ _ _).mono ?_;rintro e Y⟨gb,rfl,Z,H,G⟩;have⟨S,U,V⟩:=H.b)|(go_at_call 131;refine(KP.within H R D (by show s.n+1+_<=5000;omega) Z G).mono ?_;rintro e w2⟨rfl,H⟩));all_goals
   go_wp2
   go_end0;exact KP.fin H
 |mt u n x A f t a vx g sc vp ve h0 hg hz hc hx hp he bu ihe=>
  intro o s D E w h;obtain⟨I,O,rfl⟩:=hx.iface;rw[afu];simp only[nn,cr]at E;have R:A.length<=1000:=by have:=o.len.1;simp only[eG]at this;rw[CX]at this;omega
  have hnp:=tT x;have K:=afv (s:=s.fl<|dV s.ty s.mm x s.nm s.f) (sc:=sc) ho (λi hi=>ihe i hi<|o.part _<|List.mem_cons_of_mem _ (E9 A i hi).2) hg hc hp (λi hi=>(he i hi).iface) D (by show s.n+1+_<=5000;omega) (λq hq=>o.part q<|List.mem_cons_of_mem _ hq) R;go_in;go_wp;refine((KP.new h _ _).sub<|bu (o.part x ag) s D ae).mono ?_;rintro e Y⟨rfl,H⟩;have⟨S,U,V⟩:=H.b;go_wp2_with fail;refine(H.sub K).mono ?_;exact np
 |_=>
  intro _ s _ _ w h;rw[Ze aD,show gn s.ty s.mm [] s.nm s.f=s.f by unfold gn;rfl];go_wp2
  go_end0;exact⟨rfl,h,Fr.refl _ _⟩
end
end
section
open Un
def SB wb(tv cv mv:fa)b:=b=wb\/tv.ownBlock=ia b\/cv.ownBlock=ia b\/mv.ownBlock=ia b
def Rp:∀(a b:List qe)(p:List BA)(z:Fl),F9 p (a++b) z=F9 (p++a.map (·.text)) b (F9 p a z)
 |[],b,p,z=>by simp[F9]|v::r,b,p,z=>by
  simp only[jx,F9,jt];rw[Rp r b,j5];rfl
def Zk(vs:List qe)z i(h:i<vs.length):F9 [] (vs.take<|i+1) z=bR (gG vs[i].text ((vs.map (·.text)).take i)) 4 vs[i].ah vs[i].to (F9 [] (vs.take i) z):=by
 rw[jm h,Rp];simp only[F9,j7,List.map_take]
end
section
open Go.ChangeMaps Go.MapKept
theorem Zl{r}(h:s.toList=39::r):(s.extract 1 s.size).toList=r:=by
 rw[q9]at h⊢;rw[ByteArray.data_extract];simp;rw[h];have:s.size=(39::r).length:=by rw[<-h];simp
 rw[this];simp
def ack{t}(hs:∃r,s.toList=39::r)(ht:∃r,t.toList=39::r)(h:s.extract 1 s.size=t.extract 1 t.size):s=t:=by grind[Zl,toList_inj]
def TY.up{own}(h:TY own F)(i:∃r,s.toList=39::r)n:TY (own++[s]) (iy F (s.extract 1 s.size) n):=λx hx=>by
 have e:gG x (own++[s])=(gG x own||decide (s=x)):=by unfold gG;rw[List.any_append];simp only[List.any_cons,List.any_nil,Bool.or_false]
 rw[e];unfold iy;by_cases q:s=x
 .subst q;simp
 .rw[if_neg<|λe=>q<|ack i hx e.symm,h x hx];simp[q]
def Zm(u:Sy)(ty:BA->Option Nat)(own:List BA):Nd->(BA->Option Nat)×Fl->(BA->Option Nat)×Fl
 |.mk _ s _ L _ _ a,q=>(u q.1 s L.length,iJ ty own L<|bR (q.1 s).isSome 4 a (a+s.size) q.2)
def Ki(u:Sy)(ty:BA->Option Nat)(own:List BA):∀(l:List Nd)(m:Nd)(q:(BA->Option Nat)×Fl),xG u ty own (l++[m]) q=Zm u ty own m (xG u ty own l q)
 |[],.mk _ _ _ _ _ _ _,q=>rfl|.mk _ _ _ _ _ _ _::r,m,q=>Ki u ty own r m _
def Uu u ty own(ms:List Nd)q j(h:j<ms.length):xG u ty own (ms.take<|j+1) q=Zm u ty own ms[j] (xG u ty own (ms.take j) q):=by
 rw[jm h,Ki]
section
variable {k:Kb} {s:Ks}
def KP.oth(H:KP k we cb C s w){i:Ks}(m:CK k i we)(o:One b w w')(A:we.heap.size<=b)(D:cb≠b):KP k we cb C s w':=
 have Y:=Dk.it (e:=Rv<|.tuple #[]) ⟨rfl,H.s,H.f⟩ m (o.fs rfl) A
 ⟨Y.2.1,Y.2.2,H.b.one o D,H.n⟩
def uK(h:CK k s w)(m:∀z w',CK k (s.fl z) w'->Fr k.S w w'->FM w' kb F)a b n(u:BA):
 ca j8 129 #[k.p,Mv kb,.agg #[Nv a,Nv b,.string u],Nv n] w λe w'=>e=.returned (.tuple #[])/\∃w1,Dk k (s.fl<|bR (F u).isSome 4 a b s.f) w (.returned<|.tuple #[]) w1/\One kb w1 w'/\FM w' kb (iy F u n):=by
 have H:=ai<|KP.new h #[Nv a,Nv b,Sv u] 92;have o:=Qs (v:=Mv kb) (qn ⟨kb,rfl,m _ _ H.s H.f⟩) u;have⟨L,A,i⟩:=m _ _ H.s H.f;have i:=ai i;generalize(F u).isSome=q at o⊢
 cases q
 all_goals
  go_in;go_wp2_with(first|(go_at_call 157;refine o.mono ?_;rintro e w1⟨rfl,rfl⟩)|(go_at_call 158;refine(H.sub<|uJ 4 a b _).mono ?_;rintro e w2⟨rfl,D⟩;have H:=ai D;have⟨c1,f1,z1⟩:=H.b;have⟨L,A,E⟩:=m _ _ H.s H.f;have i:=ai E;clear D E)|(refine aV _ rfl _ _ _ _ (Or.inr rfl) (KL.str Tryz.underlying9) Tryz.underlying135 _ _ rfl A u (Nv n) rfl rfl trivial (λ_ _=>trivial) ?_;intro K G I;have Y:=ai<|And.intro I<|show FM K kb (iy F u n)from⟨_,G,FM.put (uh i) u n⟩;clear G I));go_end0;exact⟨rfl,_,KP.fin H,Y.1,Y.2⟩
def RowV.kk{Q:EQ α}{sz:Nat}{L:List α}(h:RowV Q sz k.w0 (·<k.B) L v):∃va vc cs,v=.slice va L.length vc/\Zd k L.length sz va cs/\∀i(h:i<L.length),Q k.w0 (·<k.B) L[i]<|cs i:=
 let⟨va,vc,cs,e,hr,hq⟩:=h
 ⟨va,vc,cs,e,hr.imp (λe=>by rw[e];rfl) λ⟨g,e,q,_,hc⟩=>⟨g,e,q,hc⟩,hq⟩
def KP.inv(H:KP k we cb C s w)(st:∀w w',Fr k.S w w'->J w->J w')(j:J w):KP {k with I:=J} we cb C s w:=⟨⟨⟨H.s.x.ne,H.s.x.g,H.s.x.B,st⟩,H.s.bx,H.s.t,H.s.m,H.s.l,H.s.g,H.s.u,j⟩,H.f,H.b,H.n⟩
def KP.vni(H:KP {k with I:=J} we cb C s w)(o:Ko k):KP k we cb C s w:=⟨⟨o.x,H.s.bx,H.s.t,H.s.m,H.s.l,H.s.g,H.s.u,o.i w⟩,H.f,H.b,H.n⟩
def NH(ho:Ko k){t:qe}{x y}(hv:RowV QName 3 k.w0 (·<k.B) vs vv)(hm:RowV QMaker 6 k.w0 (·<k.B) ms vm)(hvs:vs.length<=1000)(x0:∀m∈ms,Sm m)(hml:ms.length<=1000)(s:Ks)(N:BA->Option Nat)(y0:Hid (N=iy s.ty t.text vs.length))(Q:(BA->Option Nat)×Fl)(HQ:Hid (Q=xG iy N (vs.map (·.text)) ms (s.mm,F9 [] vs<|bR (s.ty t.text).isSome 4 t.ah t.to s.f))):
 Td k 69 #[k.p,.agg #[Iv x,Iv y,Nv t.ah,Nv t.to,.string t.text,vv,vm]] s {s with ty:=N,mm:=Q.1,f:=Q.2}:=by
 intro w h;obtain⟨va,vc,cv,rfl,k0,l0⟩:=hv.kk;obtain⟨ma,mc,cm,rfl,n0,o0⟩:=hm.kk;have H:=ai<|KP.new h #[Iv x,Iv y,Nv t.ah,Nv t.to,Sv t.text,Lv va vs.length vc,Lv ma ms.length mc] 96;have h0:=ai h;obtain⟨own,A⟩:∃own,Hid (own=vs.map (·.text)):=⟨_,ai rfl⟩;obtain⟨z1,a0⟩:∃z,Hid<|z=bR (s.ty t.text).isSome 4 t.ah t.to s.f:=⟨_,ai rfl⟩;rw[<-uh A,<-uh a0]at HQ;have⟨V,W,Y⟩:=H.b;have⟨c2,f2,y2⟩:=H.s.bx;clear h hv hm;go_in;go_wp;go_cut[]from 9 (λwc=>KP k w w.heap.size #[Iv x,Iv y,Nv t.ah,Nv t.to,Sv t.text,Lv va vs.length vc,Lv ma ms.length mc] {s with ty:=N,f:=z1} wc)
 case first=>
  go_region_with(go_at_call 129;refine(uK H.drew.s (λ_ _ h _=>h.t) t.ah t.to vs.length t.text).mono ?_;rintro e w3⟨rfl,w2,D,G,U⟩;have H:=ai<|(KP.go H.drew D.2.1 D.2.2).go (D.2.1.pt G U)<|G.fs k.sS.2.1;clear D G U);all_goals
   go_wp2_with fail
   go_meet
   case rel=>rw[uh y0,uh a0];exact uh H
 case rest=>
  have H:=ai<|KP.af hcut<|bw<|.map #[] 0;have O:=ai<|show FM (wc.alloc<|.map #[] 0) wc.heap.size (λ_=>ka)from⟨[],MS.new _ wc,λx=>rfl⟩;have hw:=hcut.f.size;have hx:=Nat.ne_of_lt hcut.b.z;have hS:¬k.S wc.heap.size:=λq=>Nat.lt_irrefl _<|hcut.s.lt q;clear V W Y c2 f2 y2;have⟨V,W,Y⟩:=H.b;clear hcut;go_wp2_with fail;clear V W Y;go_loopg[24] vs.length (λgk c wr=>LpG vs.length (λi wr=>∃F,KP k w w.heap.size #[Iv x,Iv y,Nv t.ah,Nv t.to,Sv t.text,Lv va vs.length vc,Lv ma ms.length mc] {s with ty:=N,f:=F9 [] (vs.take i) z1} wr/\FM wr wc.heap.size F/\TY (own.take i) F) gk c wr)
  case atStart=>exact⟨0,ai rfl,jc _,rfl,_,H,O,λs _=>by simp[gG]⟩
  case round=>
   clear H O;obtain⟨i,p0,hi,rfl,F,X,O,Z⟩:=hrel;have X:=ai X;have O:=ai O;have Z:=ai Z;have⟨V,W,Y⟩:=X.b;by_cases E:i<vs.length
   .have hd:=kK E;obtain⟨g,rfl,hc⟩:=k0.at E X.s;have d0:=hc 0 ae;have d1:=hc 1 ae;have d2:=hc 2 ae;have⟨e0,e1,e2,e3,e4⟩:=l0 i E;rw[e0,jh]at d0;rw[e1]at d1;rw[e2]at d2;have o:=ai<|Zk vs z1 i E;rw[<-uh A,<-Z vs[i].text e3]at o
    have R:=ai (show TY (own.take<|i+1) (iy F (vs[i].text.extract 1 vs[i].text.size) 0) by
     have c0:i<own.length:=by rw[uh A];simpa using E
     have eo:own[i]=vs[i].text:=by simp[uh A]
     rw[jm c0,eo]
     exact Z.up e3 0)
    generalize vs[i]=v at d0 d1 d2 o R;have XA:=ai<|X.af<|bw<|Cv #[Nv v.ah,Nv v.to,Sv<|v.text.extract 1 v.text.size] 92;have OA:=ai<|O.below<|bw<|Cv #[Nv v.ah,Nv v.to,Sv<|v.text.extract 1 v.text.size] 92;have HC:=ai<|uK (kb:=wc.heap.size) XA.s (λ_ _ _ f=>OA.same<|f.block _ OA.lt hS) v.ah v.to 0<|v.text.extract 1 v.text.size;have⟨c2,f2,y2⟩:=qy wr #[Nv v.ah,Nv v.to,Sv<|v.text.extract 1 v.text.size] 92;clear e0 e1 e2 e3 e4 hc;go_wp2_with fail;refine(uh HC).mono ?_;rintro e w3⟨rfl,w2,D,G,U⟩;have X5:=ai<|KP.oth (KP.go XA D.2.1 D.2.2) h0 G hw hx;have M5:=ai U;clear D G U HC
    go_wp2
    go_roundg(vs.length-(i+1))
    case measure=>rw[uh p0];omega
    case rel=>exact⟨i+1,ai rfl,ae,iF,_,by rw[uh o];exact X5,M5,R⟩
   .have hd:=nN E;rw[jo ae]at X;rw[jo (by rw[uh A];simp;omega)]at Z;obtain⟨z2,r0⟩:∃z,Hid<|z=F9 [] vs z1:=⟨_,ai rfl⟩;rw[<-uh r0]at X HQ;have X:=ai<|X.inv (J:=λw=>FM w wc.heap.size F) (λw w' f i=>i.same<|f.block _ i.lt hS) O;go_wp2_with fail;clear V W Y;go_loopg[36] ms.length (λgk c wr=>LpG ms.length (λj wr=>KP {k with I:=λw=>FM w wc.heap.size F} w w.heap.size #[Iv x,Iv y,Nv t.ah,Nv t.to,Sv t.text,Lv va vs.length vc,Lv ma ms.length mc] {s with ty:=N,mm:=(xG iy N own (ms.take j) (s.mm,z2)).1,f:=(xG iy N own (ms.take j) (s.mm,z2)).2} wr) gk c wr)
    case atStart=>exact⟨0,ai rfl,jc _,rfl,X⟩
    case round=>
     clear X;obtain⟨j,s0,hj,rfl,X⟩:=hrel;have X:=ai X;have⟨V,W,Y⟩:=X.b;by_cases R:j<ms.length
     .have t0:(j:Int)<(ms.length:Int):=ae;obtain⟨g,rfl,hc⟩:=n0.at (k:={k with I:=λw=>FM w wc.heap.size F}) R X.s;have d0:=hc 0 ae;have d1:=hc 1 ae;have d2:=hc 2 ae;have d3:=hc 3 ae;have d4:=hc 4 ae;have d5:=hc 5 ae;have⟨ss,u0,L,mf,mt,aa,yy,vt,e0,q0,q1,q2,q3,q4,q5,hu,c0,f0⟩:=o0 j R;obtain⟨ta,tc,ct,rfl,g0,i0⟩:=RowV.kk (k:={k with I:=λw=>FM w wc.heap.size F}) f0;rw[q0,jh]at d0;rw[q1]at d1;rw[q2]at d2;rw[q3]at d3;rw[q4]at d4;rw[q5]at d5;have j0:=ai (show Sm (.mk 2 ss u0 L mf mt aa) by rw[<-e0];exact x0 _<|jp R);have v0:=j0.len.1;have o:=ai<|Uu iy N own ms (s.mm,z2) j R;rw[e0]at o;unfold Zm at o;dsimp only at o;rw[<-c0]at o;generalize xG iy N own (ms.take j) (s.mm,z2)=q at X o;obtain⟨mj,zj⟩:=q;have K:=ai<|CW (k:={k with I:=λw=>FM w wc.heap.size F}) (sa:=ta) (sc:=tc) (ov:=Mv wc.heap.size) (own:=own) g0 (λi hi=>Kd (λ_ i=>qn ⟨_,rfl,i⟩) Z (i0 i hi)<|j0.part _<|jp hi) v0;have H:=ai<|KP.new X.s #[Nv mf,Nv mt,Nv aa,Nv yy,Sv ss,Lv ta L.length tc] 175;have⟨c2,f2,y2⟩:=H.b;have⟨c3,f3,y3⟩:=H.s.bx;clear q0 q1 q2 q3 q4 q5 hc c0 g0 e0 f0 i0
      go_wp2
      go_region_with(go_at_call 129;refine(uK H.drew.s (λ_ _ h _=>h.m) aa yy L.length ss).mono ?_;rintro e w3⟨rfl,w2,D,G,U⟩;have H:=ai<|(KP.go H.drew D.2.1 D.2.2).go (D.2.1.pm G U)<|G.fs (Kb.sS _).2.2.1;clear D G U;have⟨c2,f2,y2⟩:=H.b);all_goals
       go_wp2_with fail;refine(H.sub<|K _).mono ?_;rintro e w5⟨rfl,h5⟩;have H:=ai h5;clear h5
       go_wp2
       go_roundg(ms.length-(j+1))
       case measure=>rw[uh s0];omega
       case rel=>exact⟨j+1,ai rfl,ae,iF,by simp only[uh o];exact KP.go X H.s H.f⟩
     .have t0:decide ((j:Int)<(ms.length:Int))=ra:=bQ;rw[jo ae,<-uh HQ]at X
      go_wp2
      go_end0;exact(KP.vni X ho).fin
end
end
section
open Un
def Kj(u:Sy):∀(l m:List Dc)(e:SE),fQ u (l++m) e=fQ u m (fQ u l e)
 |[],_,_=>rfl|d::r,m,e=>Kj u r m _
def Uv u(l:List Dc)e i(h:i<l.length):fQ u (l.take<|i+1) e=Ow u l[i] (fQ u (l.take i) e):=by
 rw[jm h,Kj];rfl
def DSm:Dc->Prop
 |.ty _ vs ms=>vs.length<=1000/\∀m∈ms,Sm m|.lt _ _ b=>Sm b/\gT b
def afx{m}(h:m∈ms):nn m<=cr ms:=xT h
def E_:∀{l:List Dc}{d:Dc},d∈l->AY d<=Dv l
 |x::r,d,h=>by
  simp only[Dv,jt,List.sum_cons];obtain rfl|q:=List.mem_cons.1 h
  .omega
  .have:=E_ q;simp only[Dv]at this;omega
def Zn{l}(h:bq s=.ok l):(∀d∈l,DSm d)/\Dv l<=802:=by
 have D:¬400<s.size:=λq=>by simp[bq,q]at h
 have i:=po D;rw[h]at i;refine⟨λd hd=>?_,i.2⟩;have o:=(Uw h d hd).2;have A:=E_ hd;have E:=i.1 d hd;have h4:=i.2
 cases d with
 |ty t vs ms=>
  simp only[AY]at A;exact⟨ae,λm hm=>⟨o m hm,by have:=afx hm;omega⟩⟩
 |lt r t b=>
  simp only[AY]at A;exact⟨⟨o,ae⟩,E.2.2.1⟩
end
section
open Go.ChangeMaps Go.MapKept
def DSo:Dc->Prop
 |.ty _ vs ms=>vs.length<=1000/\(∀m∈ms,Sm m)/\ms.length<=1000|.lt _ _ b=>Sm b/\nn b<=1000
def Ai{l:List Dc}(h:bq s=.ok l):(∀d∈l,DSo d)/\l.length<=802:=by
 have⟨m,o⟩:=Zn h;refine⟨λd hd=>?_,?_⟩
 .have i:=m d hd;have A:=E_ hd
  cases d with
  |ty t vs ms=>
   simp only[AY]at A;have:=mJ ms;exact⟨i.1,i.2,ae⟩
  |lt r t b=>exact⟨i.1,i.1.2⟩
 .have:∀l:List Dc,l.length<=Dv l:=λl=>by
   induction l with
   |nil=>simp[Dv]|cons d r ih=>
    simp only[Dv,jt,List.sum_cons,eG]at ih⊢;have:1<=AY d:=by cases d<;>simp[AY]<;>omega
    omega
  exact jf (this l) o
def afy:iy (iy (iy (λ_=>ka) t_ 0) lV 0) kQ 0=ty0:=by grind[iy,ty0]
def sk0:Ks:=⟨ty0,λ_=>ka,[],λ_=>0,0,[],lA⟩
def Ks.se(s:Ks):SE:=⟨s.ty,s.mm,s.nm,s.f⟩
section
variable {k:Kb} {s:Ks} {B:Nat}
def LoR.put{l}(h:LoR lo l)s:LoR (λx=>if x=s then lo s+1 else lo x) (l++[s]):=by grind[LoR]
def E'(R:B<=w.heap.size)(V:∀b,b<B->w.heap[b]? =w0.heap[b]?):ca j8 44 #[] w λe w'=>∃k:Kb,e=.returned k.p/\k.w0=w0/\k.B=B/\Ko k/\(∀b,k.S b->w.heap.size<=b)/\Bq w w'/\CK k sk0 w':=by
 have H:=MS.new Sv w;have i:∀x,ba x ([]:List (BA×fa))=((λ_=>ka:BA->Option Nat) x).map λ(n:Nat)=>Nv n:=(λx=>rfl);have m:=(Below.refl w.heap.size w).alloc (br _)<|.map #[] 0;have o:(w.alloc<|.map #[] 0).heap.size=w.heap.size+1:=ag;go_in;go_wp2_with(refine aV _ rfl _ _ _ _ (Or.inl rfl) (KL.str Tryz.underlying9) Tryz.underlying135 _ _ rfl H _ (.int .i64 ((0:Nat):Int)) rfl rfl trivial (λ_ _=>trivial) ?_;intro W D A;have Y:FM W w.heap.size _:=⟨_,D,FM.put i _ 0⟩;have m:=ai<|One.below m A<|br _;have o:=ai<|A.size.trans o;clear D A;obtain⟨L,H,i⟩:=Y);go_ret;have z3:W.heap.size=w.heap.size+1:=uh o;have E:Bq W (((W.alloc<|.map #[] 0).alloc<|.map #[] 0).alloc<|Cv #[Mv w.heap.size,Mv W.heap.size,Mv<|W.heap.size+1,Iv 0,Iv 0,Iv 0] 137):=((bw _).alloc ag _).alloc bQ _;have U:=((MS.new Sv W).below<|bw<|.map #[] 0).below<|bw<|Cv #[Mv w.heap.size,Mv W.heap.size,Mv<|W.heap.size+1,Iv 0,Iv 0,Iv 0] 137;have G:=(MS.new Sv<|W.alloc<|.map #[] 0).below<|bw<|Cv #[Mv w.heap.size,Mv W.heap.size,Mv<|W.heap.size+1,Iv 0,Iv 0,Iv 0] 137;have I:=Bx.new ((W.alloc<|.map #[] 0).alloc<|.map #[] 0) #[Mv w.heap.size,Mv W.heap.size,Mv<|W.heap.size+1,Iv 0,Iv 0,Iv 0] 137;simp only[World.size_alloc]at G I
 have K:∀b,Kb.S ⟨w0,B,W.heap.size+1+1,w.heap.size,W.heap.size,W.heap.size+1,ka,λ_=>True⟩ b->w.heap.size<=b:=λb q=>by simp[Kb.S]at q;omega
 have N:Ko ⟨w0,B,W.heap.size+1+1,w.heap.size,W.heap.size,W.heap.size+1,ka,λ_=>True⟩:=⟨⟨⟨bQ,bQ,ag,bQ,bQ,ag⟩,nofun,λb q=>jf R<|K b q,λ_ _ _ _=>trivial⟩,rfl,λ_=>trivial⟩;have O:=m.trans<|E.mono ae;exact⟨_,rfl,rfl,rfl,N,K,O,N.x,I,by show FM _ _ ty0;rw[<-afy];exact⟨_,H.below E,i⟩,⟨_,U,λx=>rfl⟩,⟨_,G,λx=>qn ⟨rfl,rfl⟩⟩,nofun,λb hb=>(O.block b<|jd hb R).trans<|V b hb,trivial⟩
def DeP(k:Kb)d(s:Ks)w(e:ga)w':=e=.returned (.tuple #[])/\∃s':Ks,s'.ok/\s'.n<=s.n+1/\s'.se=Ow iy d s.se/\CK k s' w'/\Fr k.S w w'
def afz(V:Ko k)(W:PD k.w0 (·<k.B) d v)(E:DSo d)(m:s.ok)(hn:s.n<=2000)(h:CK k s w):ca j8 45 #[k.p,v] w (DeP k d s w):=by
 cases d with
 |ty t vs ms=>
  obtain⟨x,u,vv,vm,rfl,X,G,D,hm0,I⟩:=W;have K:=ai<|NH (t:=t) (x:=x) (y:=u) V D I E.1 E.2.1 E.2.2 s _ (ai rfl) _<|ai rfl;obtain⟨va,vc,cv,rfl,-⟩:=D;obtain⟨ma,mc,cm,rfl,-⟩:=I;clear G;go_in;go_wp;refine((KP.new h _ _).sub<|uh K).mono ?_;rintro e A⟨rfl,i⟩;have H:=ai i;clear i
  go_wp2
  go_end0;refine⟨rfl,_,?_,?_,?_,H.s,H.f⟩
  .exact m
  .exact ja _
  .rfl
 |lt r t b=>
  obtain⟨x,u,vb,rfl,X,G,R⟩:=W;obtain⟨u1,x1,rfl⟩:=R.iface;have K:=ai (Ro (s:=s) (afw V R E.1) r t.ah t.to t.text m (by have:=E.2;omega));clear G;go_in;go_wp;refine((KP.new h _ _).sub<|uh K).mono ?_;rintro e A⟨rfl,i⟩;have H:=ai i.drew;obtain⟨N,I⟩:∃N,Hid<|N=s.lo t.text:=⟨_,ai rfl⟩;have hlk:(Instr.lookup 135 (Mv k.l) (Sv t.text) ra).run Tryz.prog A.drew=.ok (Nv N) A.drew:=by rw[uh I];exact H.s.l.look t.text
  have⟨L,S,O⟩:=H.s.l;have⟨o,ajv,D⟩:=S.put (KL.str j9) Tryz.underlying135 t.text (Iv<|(N:Int)+1) trivial<|λ_ _=>trivial;have hN7:(N:Int)<=3000:=by have:=m.2 t.text;have:=uh I;omega
  have⟨c1,f1,y1⟩:=i.b;have⟨c2,f2,y2⟩:=i.s.bx;clear S i h
  go_wp2
  go_region;all_goals
   go_wp2
   go_end0;have U:=LM.put O t.text<|N+1;rw[uh I]at U D;exact⟨rfl,_,⟨m.1.put t.text,λy=>by have:=m.2 y;have:=m.2 t.text;show(if y=t.text then s.lo t.text+1 else s.lo y)<=s.n+1;split<;>omega⟩,br _,rfl,(H.s.pl (One.set A.drew k.l o) ⟨_,D,U⟩).nm (s.nm++[t.text])<|s.n+1,H.f.trans<|(One.set A.drew k.l o).fs k.sS.2.2.2.1⟩
def acm{l:List Dc}{u}(hr:RowV QD 1 w (·<w.heap.size) l u)(hS:∀d∈l,DSo d)(hl:l.length<=802):
 ca j8 29 #[.agg #[u]] w λe w'=>e=.returned (xN (fQ iy l yx).f)/\Bq w w':=by
 obtain⟨K,O,cs,rfl,HW,HQ⟩:=hr;obtain⟨Z,HZ⟩:∃Z,Hid<|Z=(fQ iy l yx).f:=⟨_,ai rfl⟩;rw[<-uh HZ];have D:Hid (Bq w<|(w.alloc<|Cv #[Lv K l.length O] 50).alloc<|Cv #[Iv 0,Iv 0,Iv 0] 35):=ai<|(bw _).alloc ag _;have F1:=Bx.at (w.alloc<|Cv #[Lv K l.length O] 50) #[Iv 0,Iv 0,Iv 0] 35 (w.heap.size+1) ag;have B1:=ai<|(Bx.new w #[Lv K l.length O] 50).alloc<|Cv #[Iv 0,Iv 0,Iv 0] 35;have R:=E' D.size<|λb hb=>D.block b hb;have⟨c1,f1,y1⟩:=uh B1;go_in;go_wp;refine R.mono ?_;rintro e w2⟨k,rfl,e0,eB,U,N,b2,D2⟩;have U:=ai U;have o:=D.trans<|b2.mono D.size;have F2:=F1.below b2;have N:∀b,k.S b->w.heap.size+2<=b:=by simpa using N
 have⟨c1,f1,y1⟩:=B1.below b2
 go_wp2
 go_loopg[10] l.length (λgk c wr=>LpG l.length (λj wr=>∃s:Ks,s.ok/\s.n<=j/\s.se=fQ iy (l.take j) yx/\CK k s wr/\Fr k.S w2 wr) gk c wr)
 case atStart=>exact⟨0,ai rfl,jc _,rfl,sk0,⟨λx=>by simp[sk0],λx=>br _⟩,br _,rfl,D2,Fr.refl _ _⟩
 case round=>
  obtain⟨j,V,hj,rfl,s,W,hn,A,X,E⟩:=hrel;have W:=ai W;have I:Hid (Bq w wr):=ai ⟨E.os.trans o.os,E.tape.trans o.tape,E.output.trans o.output,jf o.size E.size,λb hb=>(E.block b (jd hb o.size) (λq=>by have:=N b q;omega)).trans<|o.block b hb⟩;have F3:=ai (F2.fr E (λq=>by have:=N _ q;omega));by_cases m:j<l.length
  .have hd:=kK m;obtain⟨g,rfl,-,hg,a0⟩:∃g,K=ia ⟨g,0,ka⟩/\g<w.heap.size/\g<w.heap.size/\∀i,i<l.length->∀j,j<1->w.cell? ⟨g,i*1+j,ka⟩=ia (cs i j):=by
    obtain e|e:=HW
    .exact absurd m Vh
    .exact e
   have d0:=(qr (a:=⟨g,j*1+0,ka⟩)<|I.block g hg).trans<|a0 j m 0 ae;simp only[jj,jh]at d0;have G:PD k.w0 (·<k.B) l[j] (cs j 0):=by rw[e0,eB];exact HQ j m
   have⟨t1,x1,e1⟩:=G.iface;rw[e1]at d0 G;have R:=ai<|afz U G (hS _<|jp m) W ae X;have A:=ai A;have X:=ai X;go_wp2_with fail;refine(uh R).mono ?_;rintro e w3⟨rfl,s',h1,h2,h3,h4,h5⟩;have Y:=ai (show s'.ok/\s'.se=fQ iy (l.take<|j+1) yx/\CK k s' w3/\Fr k.S w2 w3 from⟨h1,by rw[h3,Uv _ _ _ _ m,uh A],h4,E.trans h5⟩);clear h1 h3 h4 h5
   go_wp2
   go_roundg(l.length-(j+1))
   case measure=>rw[uh V];omega
   case rel=>exact⟨j+1,ai rfl,ae,iF,s',Y.1,ae,Y.2⟩
  .have hd:=nN m;rw[jo ae]at A;have G:s.f=Z:=by rw[uh HZ,<-A];rfl
   have⟨c4,f4,y4⟩:=X.bx;rw[G]at c4;clear A G;have⟨c3,f3,y3⟩:=uh F3;have B5:=ai<|F3.l_ rfl (Nv Z.kind) (Nv Z.ah) (Nv Z.to);go_wp2_with fail;have⟨c5,f5,z5⟩:=uh B5;refine bodyPost_ret (v:=xN Z) (by simp[results,Tryz.results29,go_sem,xN,c5]) rfl ?_;exact⟨rfl,((I.setCell (ja _) _).setCell (ja _) _).setCell (ja _) _⟩
end
end
section
open Un
def sU{f}(i:bq s=.error f):f.kind%6≠0/\f.ah<=f.to/\f.to<=s.size:=by
 by_cases m:400<s.size
 .simp[bq,m]at i;subst i;simp
 .have:=po m;rw[i]at this;exact this
def afA s w(e:ga)w':=
 ∃u f,e=.returned (.tuple #[.agg #[u],xN f])/\Bq w w'/\match bq s with
  |.error f'=>f=f'/\u=.slice ka 0 0|.ok l=>f=(fQ iy l yx).f/\RowV QD 1 w' (λb=>w.heap.size<=b) l u
def Kk(h:Laid w)s:ca j8 21 #[.string s] w (afA s w):=by
 obtain⟨W0,I⟩:∃W0,W0=(w.alloc<|.cells #[.slice ka 0 0] 50).alloc (.cells #[.int .i64 0,.int .i64 0,.int .i64 0] 35):=⟨_,rfl⟩;have K:Below w.heap.size w W0:=by rw[I];exact(bw _).alloc ag _
 have A0:Bx W0 w.heap.size #[.slice ka 0 0]:=by rw[I];exact(qy w _ _).alloc _
 have B0:Bx W0 (w.heap.size+1) #[.int .i64 0,.int .i64 0,.int .i64 0]:=by rw[I];have:=qy (w.alloc<|.cells #[.slice ka 0 0] 50) #[.int .i64 0,.int .i64 0,.int .i64 0] 35;simpa using this
 have HC:=Co (h.af K) s;have HW:=ai I;clear h I;go_in;go_wp;rw[<-uh HW];refine HC.mono ?_;rintro e R⟨u,f,rfl,D,S⟩;obtain⟨o,A,n,hu⟩:∃o A n,u=.slice o n A:=by
  cases hr:bq s with
  |error f'=>rw[hr]at S;exact⟨_,_,_,S.2⟩|ok l=>rw[hr]at S;obtain⟨o,A,cs,e,_⟩:=S.2;exact⟨_,_,_,e⟩
 subst hu;have N:=K.trans<|D.mono K.size;obtain⟨O,E⟩:∃O,O=(R.alloc<|.cells #[.slice o n A] 50).alloc (.cells #[.int .i64 (f.kind:Int),.int .i64 (f.ah:Int),.int .i64 (f.to:Int)] 35):=⟨_,rfl⟩;have i:Below R.heap.size R O:=by rw[E];exact(bw _).alloc ag _
 have V:=N.trans<|i.mono N.size;have A2:=ai<|(A0.below D).below i;have B2:=ai<|(B0.below D).below i;have P2:Hid (Bx O R.heap.size #[.slice o n A]):=ai (by rw[E];exact(qy R _ _).alloc _);have F2:Hid (Bx O (R.heap.size+1) #[.int .i64 (f.kind:Int),.int .i64 (f.ah:Int),.int .i64 (f.to:Int)]):=ai (by rw[E];have:=qy (R.alloc<|.cells #[.slice o n A] 50) #[.int .i64 (f.kind:Int),.int .i64 (f.ah:Int),.int .i64 (f.to:Int)] 35;simpa using this);have X:=ai E;have hz1:=N.size;have hz0:=B0.z;have hz2:=D.size;unfold xN
 cases hr:bq s with
 |error f'=>
  rw[hr]at S;obtain⟨m,hu⟩:=S;subst m;have G:=(sU hr).1;have hk':((f.kind:Int)==0)=ra:=bQ;clear HC K D i N A0 B0 E HW G;go_wp2_with fail;rw[<-uh X];obtain⟨c1,f1,z1⟩:=uh A2;obtain⟨c2,f2,z2⟩:=uh B2;obtain⟨c3,f3,z3⟩:=uh P2;obtain⟨c4,f4,z4⟩:=uh F2;go_region;go_wp2_with fail;obtain⟨c5,f5,z5⟩:=((B2.nQ (b2:=w.heap.size) ae 0<|.slice ka 0 0).l_ rfl (.int .i64 (f.kind:Int)) (.int .i64 (f.ah:Int)) (.int .i64 (f.to:Int))).lS;obtain⟨c6,f6,z6⟩:=((A2.qO 0 (.slice ka 0 0) #[.slice ka 0 0] ag ag).adG (b2:=w.heap.size+1) ae (.int .i64 (f.kind:Int)) (.int .i64 (f.ah:Int))<|.int .i64 (f.to:Int)).lS;refine bodyPost_ret (v:=.tuple #[.agg #[.slice ka 0 0],xN f]) (by simp[results,Tryz.results21,go_sem,xN,c5,c6]) rfl ?_;refine⟨.slice ka 0 0,f,rfl,((((V.setCell (br _) _).setCell (ja _) _).setCell (ja _) _).setCell (ja _) _).drew,?_⟩;rw[hr];exact⟨rfl,rfl⟩
 |ok l=>
  rw[hr]at S;obtain⟨rfl,U⟩:=S;obtain⟨hS,hl⟩:=Ai hr;have m:RowV QD 1 O (λb=>W0.heap.size<=b/\b<R.heap.size) l (.slice o n A):=U.move bO i.size (λb _ z=>i.block b z)<|λb p z=>⟨p,z⟩;have a0:=ai m;have Y:∀W,Below O.heap.size O W->ca j8 29 #[.agg #[.slice o n A]] W λe w'=>e=.returned (xN (fQ iy l yx).f)/\Below W.heap.size W w':=λW k=>acm (m.move bO k.size (λb _ z=>k.block b z)<|λb p z=>jd z k.size) hS hl;have hzw:=i.size;generalize hZ:(fQ iy l yx).f=Z at Y;simp only[xN]at Y;have e0:((lA.kind:Nat):Int)=0:=rfl;have e1:((lA.ah:Nat):Int)=0:=rfl;have e2:((lA.to:Nat):Int)=0:=rfl;rw[e0,e1,e2]at F2 X;clear HC K D N A0 B0 U m hS i E HW;go_wp2_with fail;rw[<-uh X];obtain⟨c3,f3,z3⟩:=uh P2;go_region_with(go_at_call 29;refine(Y _ (qt _ _).drew).mono ?_;rintro e w3⟨rfl,G⟩;have K3:=(qt O.heap.size O).drew.trans G;have A3:=A2.below K3;have B3:=B2.below K3;have P3:=P2.below K3;have c0:=ai K3;have d0:=ai A3;have f0:=ai B3;obtain⟨a1,a2,a3⟩:=A3;obtain⟨b1,b2,b3⟩:=B3;obtain⟨p1,p2,p3⟩:=P3;clear G K3)
  all_goals(
   go_wp2_with fail;have G:=uh c0;obtain⟨c5,f5,z5⟩:=(f0.nQ (b2:=w.heap.size) ae 0<|.slice o n A).l_ rfl (.int .i64 (Z.kind:Int)) (.int .i64 (Z.ah:Int)) (.int .i64 (Z.to:Int));obtain⟨c6,f6,z6⟩:=(d0.qO 0 (.slice o n A) #[.slice o n A] ag ag).adG (b2:=w.heap.size+1) ae (.int .i64 (Z.kind:Int)) (.int .i64 (Z.ah:Int))<|.int .i64 (Z.to:Int);refine bodyPost_ret (v:=.tuple #[.agg #[.slice o n A],xN Z]) (by simp[results,Tryz.results21,go_sem,xN,c5,c6]) rfl ?_;have kk:Fr (λb=>b=w.heap.size\/b=w.heap.size+1) w3 ((((w3.setCell ⟨w.heap.size,0,ka⟩<|.slice o n A).setCell ⟨w.heap.size+1,0,ka⟩<|.int .i64 (Z.kind:Int)).setCell ⟨w.heap.size+1,1,ka⟩<|.int .i64 (Z.ah:Int)).setCell ⟨w.heap.size+1,2,ka⟩<|.int .i64 (Z.to:Int)):=((((Fr.refl _ _).set (qp<|qp rfl) 0 _).set (qp<|qn rfl) 0 _).set (qp<|qn rfl) 1 _).set (qp<|qn rfl) 2 _;have k3:=V.trans<|G.mono V.size;have z3':=G.size;refine⟨.slice o n A,Z,rfl,Fr.yz k3 k3.size kk (λx q=>by obtain rfl|rfl:=q<;>omega),?_⟩;rw[hr]
   exact⟨hZ.symm,a0.move bO (by have:=kk.size;omega) (λb p z=>(kk.block b ae (λq=>by obtain rfl|rfl:=q<;>omega)).trans (G.block b z)) (λb p z=>ae)⟩)
end
section
open Go.ChangeMaps Go.MapKept Un
abbrev KLI:KL j8 3 pT (λ_ _=>True):=KL.num Tryz.underlying3
def Kl:Tryz.prog.underlying 61=ia (.map 3 59):=qkr
def acn w:(zeroValue 59).run j8 w=.ok .nilFunc w:=qkr
def Ux:ca j8 22 #[] w λe w'=>e=.returned (Mv w.heap.size)/\Bq w w'/\MG pT w' w.heap.size (bF 2 (.func (.func 32) #[] #[])<|bF 1 (.func (.func 30) #[] #[]) []):=by
 have i:=MG.new pT w;have E:Bq w (w.alloc<|.map #[] 0):=bw _;have m:=ai E;go_in;go_wp2_with((refine cz KLI Kl rfl _ _ _ (Or.inl rfl) rfl i _ _ rfl rfl ?_;clear i;intro w' o A;have i:=ai o;have D:=m;clear m;have m:=ai (One.below D A<|by exact br _);clear o A D));go_ret;exact⟨rfl,m,i⟩
def Km{w}(h:MG pT w b (bF 2 (.func (.func 32) #[] #[])<|bF 1 (.func (.func 30) #[] #[]) [])):(Instr.lookup 61 (Mv b) (Iv 1) la).run j8 w=.ok (.tuple #[.func (.func 30) #[] #[],.bool la]) w/\(Instr.lookup 61 (Mv b) (Iv 2) la).run j8 w=.ok (.tuple #[.func (.func 32) #[] #[],.bool la]) w:=by
 have i:=λk:Int=>h.ms.look KLI Kl (acn w) k trivial (λ_ _=>trivial) la;constructor
 .have:=i 1;simpa[aO]using this
 .have:=i 2;simpa[aO]using this
section
variable {c:WC} {cnt:Nat} {s:In.St}
def Wx mk s n x y f t a(Γ:qx)(i:vars [] (bm []<|es y).1=[]):qv mk (.mk 14 s n [x,y] f t a) Γ=qw (qv mk x Γ) λa=>qw (In.tG a (bm []<|es y).1 (In.iG x)<|In.wO x) λ_=>In.dl (bm []<|es y).1:=by simp[qv,In.ls,In.pM,In.dB,In.iH,i]
def We{t}{vy}(Hx:AP x)(h:Bz (.mk 14 st n [x,y] f t a) c w cnt s kb Λ Γ gb Q dom (.iface 258<|.agg #[Nv f,Nv t,vx,vy]))(I:PE w Q x vx)(R:PT w Q y vy):
 ca j8 246 #[Pv c.eb,Mv kb,Mv gb,.agg #[Nv f,Nv t,vx,vy]] w (aZ c (1100*nn (.mk 14 st n [x,y] f t a)) (1000*nn (.mk 14 st n [x,y] f t a)) (qv c.mks (.mk 14 st n [x,y] f t a) Γ) s cnt w):=by
 have en:nn (.mk 14 st n [x,y] f t a)=1+nn x+nn y:=Lq;obtain⟨sx,i,A,D⟩:ScE c.mks c.nl dom x/\vars [] (bm []<|es y).1=[]/\size (bm []<|es y).1<=1000/\Whole (bm []<|es y).1:=by
  cases h.sc with
  |of _ _ _ _ _ _ _ _ I i A D=>exact⟨I,i,A,D⟩|two _ _ _ _ _ _ _ _ _ hk=>omega|lt _ _ _ _ _ _ _ _ _ _ hk=>omega
 obtain⟨n0,V⟩:=adf R [] (λm o=>by have:=In.aE.2 o;rw[i]at this;cases this) A;have K:=Wx c.mks st n x y f t a Γ i;rw[V]at A D i K;obtain⟨M,W⟩:∃M,M=m0 y:=⟨_,rfl⟩;have E:=adg y n0;unfold DS at E;rw[<-W]at i A D E K;dsimp only at i A D K;have N:∀s,In.cy Λ s M:=λs=>by
  have G:∀m,¬aA m M:=λm o=>by have:=In.aE.2 o;rw[i]at this;cases this
  refine⟨λm o=>(G m o).elim,λm o=>?_⟩;obtain⟨O,U,_⟩:=(In.bS _).1 o;exact(G O U).elim
 have hny:=tT y;have hnx:=tT x;have fb:=h.ft.b;rw[en]at fb;have H:=gE.start h K
 replace en:=ai en
 clear h K W V;have HX:=ai I;have HY:=ai R;have TI:=ai N;have X:=ai<|And.intro D A;obtain⟨tx,ax,rfl⟩:=I.iface;obtain⟨ty,ay,rfl⟩:=R.dI;have U:=I.place;dsimp only[PlF]at U;clear I R N i D A;go_in;go_wp;refine H.box.ex (D2:=1000) Hx HX sx ?_ p8 p8;intro T1 ta1 xa1 s1 al lP Y H;obtain⟨⟨_,b1,b2,b3⟩,_⟩:=H.p;have Z:=E Y Q _<|HY.fr H.f<|λb p _=>H.hq b p;have z1:=H.we.dE;go_wp2_with fail;refine Z.mono ?_;rintro e w2⟨u2,rfl,G,O⟩;obtain⟨tu,xu,rfl⟩:=G.iface;have TM:=TW.of (G.w.wide λb p=>by show b≠c.cb;have:Y.heap.size<=b:=p;omega) X.1 X.2;have H:=(H.af ⟨O.os,O.tape,O.output,O.size,λb z=>O.block b z id⟩).add λw' _ f _=>TM.fr f<|λ_ p _=>p;clear b1 b2 b3 G TM Z;obtain⟨⟨⟨_,b1,b2,b3⟩,_⟩,_⟩:=H.p;go_wp2_with fail;refine(dv _ _).mono ?_;rintro e w4⟨rfl,K4⟩;have H:=H.af K4;go_wp2_with fail;refine H.eq (S:=900000) (H.p.1.2.1.le ae) (H.p.2.le ae) H.p.1.2.2 (TI _) ?_;intro kb5 s5 w5 H
 go_wp2
 go_ret2;exact H.ret H.p.2 p8
end
structure BdA rc st x c w cnt s kb(Λ:Nat->Prop)(Γ:qx)gb Q(dom:BA->Prop)v:Prop where
 we:WE w c cnt
 wk:WK w c cnt s kb
 hn:∀n,¬s.u n->Λ n
 wg:WG w c s Λ Γ gb
 pe:PE w Q x v
 hq:∀b,Q b->b≠c.cb
 sc:ScE c.mks c.nl (λv=>dom v\/(rc=la/\v=st)) x
 hd:∀x,dom x->Γ x≠ka
 ft:Fit c cnt (1+nn x)
 mf:MkFine c.mks
 LS:st∈c.nl
section
variable {c:WC} {cnt:Nat} {s:In.St}
def BdA.af{rc}{st}{x}{v}{w1}(h:BdA rc st x c w cnt s kb Λ Γ gb Q dom v)(i:Bq w w1):BdA rc st x c w1 cnt s kb Λ Γ gb Q dom v:=
 ⟨h.we.af i,h.wk.af i,h.hn,h.wg.af i,h.pe.af i,h.hq,h.sc,h.hd,h.ft,h.mf,h.LS⟩
def V9{y:Nat}(Y:AP x)(h:BdA ra st x c w cnt s kb Λ Γ gb Q dom vx):
 ca j8 220 #[Pv c.eb,Mv kb,Mv gb,.agg #[.bool ra,Nv a,Nv y,.string st,vx]] w (aZ c (1100*(1+nn x)) (1000*(1+nn x)) (qu ra st x (qv c.mks x) Γ) s cnt w):=by
 have I:Bq w (w.alloc<|Cv #[.bool ra,Nv a,Nv y,Sv st,vx] 101):=bw _;have A:=h.af I;have O:=Y c _ cnt s kb Λ Γ gb Q _ vx ⟨A.we,A.wk,A.hn,A.wg,A.pe,A.hq,A.sc,λv q=>A.hd v (q.resolve_right λr=>by cases r.1),A.ft.le ae ae,A.mf⟩;have K:=ai I;obtain⟨tx,ax,rfl⟩:=h.pe.iface;go_in;go_wp;refine O.mono ?_;intro e w1 N;obtain⟨o,R,S,U,rfl,i⟩|⟨o,V,W,D,E,G,rfl,i⟩:=N.split
 .clear N
  go_wp2
  exact⟨rfl,(Fr.of K).trans i.F,o,.error R,i.c1,by have:=i.c2;omega,i.we,i.m,S,U,rfl,i.f⟩
 .have X:=ai i
  go_wp2
  go_ret2;have i:=uh X;exact⟨(Fr.of K).trans i.F,o,.ok (V,W),i.c1,by have:=i.c2;omega,i.we,i.m,i.u,i.wh,D,E,G,rfl,i.n,i.k,i.t.le ae⟩
def DO st x pe(Γ:qx):qu la st x pe Γ=qw In.lC λv=>qw (pe<|In.cV Γ st<|In.mono<|.var v) λt=>qw (In.tG (.var v) t (In.iG x)<|In.wO x) λ_=>In.dl t:=by simp[qu]
def BdA.at{rc}{M q}(h:BdA rc st x c w cnt s kb Λ Γ gb Q dom v)(e:M=q):gE (1+nn x) M c w cnt s Λ Γ gb Q dom (1000*(1+nn x)) q (λ_ _=>True) s cnt kb w:=⟨h.wg,h.hq,h.hd,h.ft,h.mf,Fr.refl _ _,h.we,⟨h.wk,h.hn,In.Kp.refl h.wk.ok h.hn⟩,λ_ _ h=>e▸h,λ_ _ _ _=>trivial,br _⟩
def V_{y:Nat}(X:AP x)(h:BdA la st x c w cnt s kb Λ Γ gb Q dom vx):
 ca j8 220 #[Pv c.eb,Mv kb,Mv gb,.agg #[.bool la,Nv a,Nv y,.string st,vx]] w (aZ c (1100*(1+nn x)) (1000*(1+nn x)) (qu la st x (qv c.mks x) Γ) s cnt w):=by
 have Bu:=jN;have fb:=h.ft.b;have i:=h.LS;have I:=ai h.sc;obtain⟨tx,K,rfl⟩:=h.pe.iface;have N:=ai h.pe;have m:=h.pe.place;have H:=h.at<|DO st x (In.inf c.mks x) Γ;dsimp only[PlF]at m;clear h;have⟨O,R,U⟩:=H.we.bx;go_in;go_wp;refine H.box.new (D2:=1000*nn x+999) ?_ ae;intro s3 o H;clear O R U;have⟨⟨_,b1,b2,b3⟩,_⟩:=H.p;go_wp2_with fail;go_cut[11,1]from 12 (λvt vk wc=>∃T6 s6 aaU VB VC Vd,vt=Fv VB VC/\vk=Mv Vd/\gE (1+nn x) (In.cG la st x (In.inf c.mks x) Γ) c w cnt s Λ Γ gb Q dom 999 (In.andM (In.tG (.var<|cnt+1) T6 (In.iG x)<|In.wO x) λ_=>In.dl T6) (λw' s=>((True/\Bx w' w.heap.size #[.bool la,Nv a,Nv y,Sv st,Fv tx<|Av K])/\In.cy Λ s (.var<|cnt+1))/\TW w' (dF c) (1100*nn x) T6 (Fv VB VC)/\In.cy Λ s T6) s6 aaU Vd wc)
 case first=>
  go_region_with(first
   |(go_at_call 226;go_loud(refine(xE ((H.wg.fr H.f H.st.p.run).e.af (qt _ _).drew) st<|Gg (pi o.drew c cnt 1<|br _) ae).mono ?_);rintro e w5⟨b5,rfl,D,E,G⟩;have A:=ai<|(qt o.heap.size o).drew.trans G;have⟨⟨_,d1,d2,d3⟩,_⟩:=(H.af A).p;have V:=ai E;have W:=ai D;clear G E D)
   |(go_at_call 230;go_loud(refine H.exG (D2:=999) A X (H.asks A V W H.p.2.mono List.nodup_nil i N I (λ_ q=>q.imp id (·.2)) ae ae) ?_);intro T6 VB VC s6 aaU Vd w6 A))
  all_goals
   go_wp2_with fail
   go_meet
   case rel=>exact⟨_,_,_,_,_,_,rfl,rfl,A⟩
 case rest=>
  obtain⟨T6,s6,aaU,VB,VC,Vd,rfl,rfl,H⟩:=hcut;clear b1 b2 b3;have⟨⟨⟨_,b1,b2,b3⟩,_⟩,_⟩:=H.p;go_wp2_with fail;refine(dv _ _).mono ?_;rintro e A⟨rfl,D⟩;have H:=H.af D;go_wp2_with fail;refine H.eq (S:=900000) (pi A c cnt _ ae) (H.p.2.1.le ae) H.p.1.2 H.p.2.2 ?_;intro kb8 s8 w8 H
  go_wp2
  go_ret2;exact H.ret H.p.2.1 ae
end
end
section
open Un
def sW k i j:ca j8 11 #[ftV k i j,ftV k i j] w λe w'=>e=.returned (.bool la)/\Bq w w':=by
 rw[ftV];have h0:(k==k)=la:=ag;have h1:(i==i)=la:=ag;have h2:(j==j)=la:=ag;go_wp2
 go_ret;exact⟨rfl,(bw _).alloc ag _⟩
end
def Bl(w:ea)(L:List (BA×BA))(v:fa):=∃va vc,v=.slice va L.length vc/\L.length<=vc/\(L=[]\/∃g,va=ia ⟨g,0,ka⟩/\g<w.heap.size/\∀i(h:i<L.length),w.cell? ⟨g,i*2,ka⟩=ia (.string L[i].1)/\w.cell? ⟨g,i*2+1,ka⟩=ia (.string L[i].2))
def Bl.af{L:List (BA×BA)}(h:Bl w L v)(k:Bq w w'):Bl w' L v:=by
 obtain⟨o,A,rfl,hc,h⟩:=h;refine⟨o,A,rfl,hc,h.imp id ?_⟩;rintro⟨g,rfl,m,hc⟩;refine⟨g,rfl,jd m k.size,λi hi=>⟨?_,?_⟩⟩
 .rw[qr (a:=⟨g,i*2,ka⟩)<|k.block g m];exact(hc i hi).1
 .rw[qr (a:=⟨g,i*2+1,ka⟩)<|k.block g m];exact(hc i hi).2
def wI{L:List (BA×BA)}{u:fa}(S:Bl w L u)(U:Bl w L v)(hl:L.length<=1000000):ca j8 12 #[u,v] w λe w'=>e=.returned (.bool la)/\Bq w w':=by
 obtain⟨pa,pc,rfl,_,I⟩:=S;obtain⟨qa,qc,rfl,_,K⟩:=U;go_wp2
 go_loopg[5] L.length (λgk c wr=>∃j:Nat,Hid (gk=L.length-j)/\j<=L.length/\c=Nv j/\Bq w wr)
 case atStart=>exact⟨0,ai rfl,jc _,rfl,qt _ _⟩
 case round=>
  obtain⟨j,E,hj,rfl,m⟩:=hrel;by_cases i:j<L.length
  .have N:=kK i;obtain⟨g,rfl,G,hc⟩:=I.resolve_left (λe=>by simp[e]at i);obtain⟨D,rfl,o,A⟩:=K.resolve_left (λe=>by simp[e]at i);have O:=(qr (a:=⟨g,j*2,ka⟩)<|m.block g G).trans (hc j i).1;have R:=(qr (a:=⟨g,j*2+1,ka⟩)<|m.block g G).trans (hc j i).2;have b0:=(qr (a:=⟨D,j*2,ka⟩)<|m.block D o).trans (A j i).1;have b1:=(qr (a:=⟨D,j*2+1,ka⟩)<|m.block D o).trans (A j i).2;generalize L[j].1=x at O b0;generalize L[j].2=y at R b1;have e1:(x.toList==x.toList)=la:=ag;have e2:(y.toList==y.toList)=la:=ag
   go_wp2
   go_quiet(fail)
   go_wp2
   go_roundg(L.length-(j+1))
   case measure=>rw[uh E];omega
   case rel=>exact⟨j+1,ai rfl,ae,iF,m.drewN _⟩
  .have N:=nN i
   go_wp2
   go_ret;exact⟨rfl,m⟩
def Kq:ca j8 16 #[.slice ka 0 0,.slice ka 0 0] w λe w'=>e=.returned (.bool la)/\Bq w w':=by
 go_wp2
 go_loopg[5] 0 (λgk c wr=>c=Iv 0/\Bq w wr)
 case atStart=>exact⟨rfl,qt _ _⟩
 case round=>
  obtain⟨rfl,i⟩:=hrel
  go_wp2
  go_ret;exact⟨rfl,i⟩
def rpt(k i j:Int)(l r:BA)(u:fa):fa:=.agg #[Iv k,Iv i,Iv j,.string l,.string r,u,.slice ka 0 0]
def sX{k i j}{l r}{L:List (BA×BA)}{u:fa}(h1:Bl w L u)(h2:Bl w L v)(hl:L.length<=1000000):ca j8 8 #[rpt k i j l r u,rpt k i j l r v] w λe w'=>e=.returned (.bool la)/\Bq w w':=by
 have H1:=ai h1;have H2:=ai h2;obtain⟨D,E,rfl,-⟩:=h1;obtain⟨G,I,rfl,-⟩:=h2;have e1:(l.toList==l.toList)=la:=ag;have e2:(r.toList==r.toList)=la:=ag;unfold rpt;have O:Bq w ((w.alloc<|Cv #[Iv k,Iv i,Iv j,Sv l,Sv r,Lv D L.length E,Lv ka 0 0] 38).alloc<|Cv #[Iv k,Iv i,Iv j,Sv l,Sv r,Lv G L.length I,Lv ka 0 0] 38):=(bw _).alloc ag _;obtain⟨W,K⟩:∃W,W=((w.alloc<|Cv #[Iv k,Iv i,Iv j,Sv l,Sv r,Lv D L.length E,Lv ka 0 0] 38).alloc<|Cv #[Iv k,Iv i,Iv j,Sv l,Sv r,Lv G L.length I,Lv ka 0 0] 38):=⟨_,rfl⟩;have A0:Bx W w.heap.size #[Iv k,Iv i,Iv j,Sv l,Sv r,Lv D L.length E,Lv ka 0 0]:=(by rw[K];exact(Bx.new w _ _).alloc _);have A1:Bx W (w.heap.size+1) #[Iv k,Iv i,Iv j,Sv l,Sv r,Lv G L.length I,Lv ka 0 0]:=(by rw[K];have:=Bx.new (w.alloc<|Cv #[Iv k,Iv i,Iv j,Sv l,Sv r,Lv D L.length E,Lv ka 0 0] 38) #[Iv k,Iv i,Iv j,Sv l,Sv r,Lv G L.length I,Lv ka 0 0] 38;simpa using this);rw[<-K]at O;have R:=ai O;have S:=sW (w:=W) k i j;simp only[ftV]at S;go_in;go_wp;rw[<-K];refine S.mono ?_;rintro e w1⟨rfl,m⟩;have N:=R.trans<|m.mono R.size;have U:=ai<|A0.below m;have V:=ai<|A1.below m;have HC:=wI (H1.af N) (H2.af N) hl;have⟨X,Y,Z⟩:=uh U;have⟨c2,f2,z2⟩:=uh V;go_wp2_with fail;refine HC.mono ?_;rintro e w2⟨rfl,o⟩;have K4:=N.trans<|o.mono N.size
 have C0:=ai<|U.below o;have C1:=ai<|V.below o;have⟨X,Y,Z⟩:=uh C0;have⟨c2,f2,z2⟩:=uh C1;go_wp2_with fail;refine Kq.mono ?_;rintro e w3⟨rfl,A⟩;have K5:=K4.trans<|A.mono K4.size;have D0:=C0.below A;have D1:=C1.below A;obtain⟨X,Y,Z⟩:=D0;obtain⟨c2,f2,z2⟩:=D1
 go_wp2
 go_ret;exact⟨rfl,K5⟩
end Go.Proofs.YtonaidfgokhmoaaGreatDoor

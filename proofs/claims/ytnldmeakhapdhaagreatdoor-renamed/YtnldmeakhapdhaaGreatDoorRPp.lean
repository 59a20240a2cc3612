import Derived.Test.YtnldmeakhapdhaaGreatDoorRPq
import Derived.Test.YtnldmeakhapdhaaGreatDoorRXu
set_option linter.all false
set_option maxRecDepth 100000
set_option maxHeartbeats 4000000
namespace Go.Proofs.YtnldmeakhapdhaaGreatDoor
open _root_.List renaming take_succ_eq_append_getElem->ja,mem_cons_of_mem->jc,getElem_mem->jd,map_append->jf,take_length->jh,take_append_drop->ji,drop_eq_getElem_cons->jj,getElem_cons_zero->jk,getElem_cons_succ->jl,take_of_length_le->jm,mem_append_right->jo,mem_append_left->jp,mem_map_of_mem->jq,map_congr_left->jt,countP_cons->ju,map_cons->jv,map_map->jx
open In renaming St->jy,wa->jz,via->j5,Env->j6,Mks->j7,Rn->j8,bX->j9,inf->qe,andM->qf,cA->qg,OG->qh,MM->qi,arr->qk,gH->ql,bO->qm,dv->qn,iJ->qp,dU->qr,xD->qs,nX->qt,Cr->qu,Ry->qv,cz->qw,ur->qx
open Or renaming inl->qy,inr->qz
open And renaming intro->q9
open _root_.Nat renaming succ_le_of_lt->xc,le_trans->xd,le_of_eq->xf,lt_of_lt_of_le->xg,zero_le->xh,not_lt_zero->xi,le_succ->xj
open Go.World renaming cell?_of_block->xk
open Un renaming eu->xm
open Go.RowKit.Below renaming refl->xn,heap_setCell->xo
open Go.Value renaming string->xq
open Pu renaming Tok->xt
open Go.Proofs.Tryz renaming prog->xw
open Go.MapKept renaming heap_alloc->xy
open Ne renaming symm->zd
open Bx renaming new->zh
open _root_.Array renaming getElem?_eq_getElem->zo,replicate->zu
open Go Go.RowKit Proofs.Tryz
variable {st:BA} {dom:BA->Prop} {e:Ending} {g g1 g2:f_} {Γ:j6} {q:qi Un.Ty} {ρ bK:j8} {s s1 s2:jy} {A:List (Nd×Nd)} {ns:List BA} {ds ps:List Nat} {L ms:List Nd} {B B' K Kb b b1 b2 base cap ah f gb gv h j jb k kb l l' lo m mb n nb Wh p rb sb sc vc y:Nat} {cB vr:Nat->Nat} {ly:Nat->Option Addr×Nat} {D E P Q S u Λ:Nat->Prop} {vs:Nat->Value} {x:Nd} {va:Option Addr} {κ:Type} {bi:Un.Nx} {str:Un.xG} {T t:Un.Ty} {v vm vv vx vy:Value} {c:WC} {V W w w' w0 w1 w2:World}
section
open Go.ChangeMaps
abbrev zF:Array Value:=#[Iv 0,Iv 0,Iv 0]
def abl a b c w:(Instr.typeAssert (.iface 136<|.agg #[a,b,c]) 20 136 true).run xw w=.ok (.tuple #[.agg #[a,b,c],.bool true]) w:=qkr
end
section
open Go.ChangeMaps Go.MapKept
section
variable {cb tb lb:Nat} {ty mk:BA->Option Nat} {lo:BA->Nat} {wr:World} {p l:List BA} {f f':Fl}
def abK x y s:Cq 71 #[.agg #[Iv x,Iv y,.string s]] w λe w'=>∃gb,e=.returned (Mv gb)/\w.heap.size<=gb/\Bq w w'/\GM w' gb [s]:=by
 have jA:= @run_makeMap Tryz.prog;have dz:Bq w ((w.alloc<|Cv #[Iv x,Iv y,Sv s] 74).alloc<|.map #[] 0):=(bw _).alloc ag _;have M0:MB ((w.alloc<|Cv #[Iv x,Iv y,Sv s] 74).alloc<|.map #[] 0) (w.heap.size+1) []:=(by have:=MB.new<|w.alloc<|Cv #[Iv x,Iv y,Sv s] 74;simpa using this);have HB:=ai dz;have B1:=(Bx.new w #[Iv x,Iv y,Sv s] 74).alloc<|.map #[] 0;obtain⟨c1,f1,y1⟩:=B1;go_enter func71,ntmps71;go_wp2_with(refine py rfl _ _ _ (Or.inl rfl) rfl M0 s (Iv 1) rfl rfl ?_;intro w3 H' O';have M3:=ai H';have O3:=ai O';clear H' O');go_ret;exact⟨_,rfl,Nat.le_succ _,One.below HB O3<|Nat.le_succ _,GM.bG (p:=[]) ag (λx=>by simp[a_,fQ]) M3⟩
def EXR cb tb mb lb ty mk lo w0 f l(L:List Nd)gk c wr:=∃j:Nat,Hid (gk=L.length-j)/\j<=L.length/\c=Nv j/\CE cb tb mb lb ty mk lo w0 (hY ty mk (L.take j) l f) wr
def To{g}(IH:∀x∈L,PXC x)(h:CK w cb tb mb lb ty mk lo f)(hB:B<=cb)(BZ:B<=lb)(hg:g<w.heap.size)(hgn:g≠cb/\g≠lb)(hc:∀i,i<L.length->w.cell? ⟨g,i,none⟩=some (vs i))(hr:∀i(h:i<L.length),PE w (·<B) L[i]<|vs i)(hl:MH lo l)(rl:∀x,lo x+cD L<=5000)(hS:∀x∈L,Sm x)(hL:L.length<=1000):
 Cq 120 #[cp cb,.slice (some ⟨g,0,none⟩) L.length sc] w λe w'=>e=.returned (.tuple #[])/\Fr (λb=>b=cb\/b=lb) w w'/\CK w' cb tb mb lb ty mk lo (hY ty mk L l f):=by
 have zT:∀b,b<B->¬(b=cb\/b=lb):=λb hb q=>ae;have X0:CE cb tb mb lb ty mk lo w f w:=⟨h,Fr.refl _ _⟩;obtain⟨Z,HZ⟩:∃Z,Hid<|Z=hY ty mk L l f:=⟨_,ai rfl⟩;rw[<-uh HZ];go_enter func120,ntmps120
 go_wp2
 go_loopg[8] L.length (λgk c wr=>EXR cb tb mb lb ty mk lo w f l L gk c wr)
 case atStart=>exact⟨0,ai rfl,xh _,rfl,by rw[List.take_zero];rw[hY];exact X0⟩
 case round=>
  obtain⟨j,dl,hj,rfl,hX⟩:=hrel;have XR:=ai hX;by_cases bA:j<L.length
  .have hd:(j:Int)<(L.length:Int):=ae;have hcj:=(xk (a:=⟨g,j,none⟩)<|XR.k.block g hg (λq=>by obtain q|q:=q;exact hgn.1 q;exact hgn.2 q)).trans (hc j bA);have HC:=IH L[j] (jd bA) _ cb tb mb lb B ty mk lo _ (vs j) l XR.d hB BZ ((hr j bA).QO XR.k zT) hl (λx=>by have:=rl x;have:=yx<|jd bA;omega)<|hS _<|jd bA;rw[<-Vx _ _ _ _ _ _ bA]at HC;go_wp2_with fail;refine HC.mono ?_;rintro e w2⟨rfl,k2,d2⟩;have X2:=XR.fr k2 d2
   go_wp2
   go_roundg(L.length-(j+1))
   case measure=>rw[uh dl];omega
   case rel=>exact⟨j+1,ai rfl,ae,jP,X2⟩
  .have hd:decide ((j:Int)<(L.length:Int))=false:=bF;have he:L.take j=L:=jm ae;rw[he,<-uh HZ]at XR
   go_wp2
   go_end0;exact⟨rfl,XR.k,XR.d⟩
abbrev bdA r x y s v:=#[.bool r,Iv x,Iv y,.string s,v]
def QP{nd}(HE:PXC nd)(h:CK w cb tb mb lb ty mk lo f)(hB:B<=cb)(BZ:B<=lb)(hx:PE w (·<B) nd v)(hl:MH lo l)(rl:∀x,lo x+1+nn nd<=5000)(hs:Sm nd)r x y s:
 Cq 45 #[cp cb,.agg<|bdA r x y s v] w λe w'=>e=.returned (.tuple #[])/\Fr (λb=>b=cb\/b=lb) w w'/\CK w' cb tb mb lb ty mk lo (dA ty mk nd (if r then l++[s]else l) f):=by
 have⟨cE,B0⟩:=uo w (bdA r x y s v) 83;have X0:Hid (CE cb tb mb lb ty mk lo w f<|w.alloc<|Cv (bdA r x y s v) 83):=ai ⟨h.af cE,Fr.of cE⟩;have HX:=ai<|hx.af cE;have⟨z1,z2,z3,z4⟩:=h.lts;obtain⟨t1,x1,rfl⟩:=hx.iface;have⟨c0,f0,y0⟩:=uh B0;clear h hx cE
 cases r with
 |false=>
  have HC:=ai (HE _ cb tb mb lb B ty mk lo f _ l X0.d hB BZ HX hl (λx=>by have:=rl x;omega) hs);go_enter func45,ntmps45;go_wp2_with fail;refine HC.mono ?_;rintro e w2⟨rfl,k2,d2⟩;have X2:=ai<|X0.fr k2 d2;clear k2 d2 HC
  go_wp2
  go_end0;exact⟨rfl,X2.k,X2.d⟩
 |true=>
  go_enter func45,ntmps45
  go_wp2
  go_region_with(first
   |(go_at_call 71;refine(abK _ _ _).mono ?_;rintro e w1⟨gb,rfl,hgb,b1,g1⟩;have hb:=(xn _ _).drew.trans<|b1.mono<|br _;have X1:=ai<|X0.af hb;have P1:=ai<|HX.af hb;have G1:=ai g1;have B1:=ai<|B0.below hb;have aj9:w.heap.size+1<=gb:=(by simpa using hgb);have⟨c1,f1,y1⟩:=uh B1;clear hb b1 g1 hgb)
   |(go_at_call 70;refine(tW HE X1.d hB BZ P1 G1 ⟨ae,ae,ae,ae⟩ hl rl hs).mono ?_;rintro e w2⟨rfl,k2,d2⟩;have X2:=ai<|X1.fr k2 d2;clear k2 d2))
  all_goals(
   go_wp2
   exact bodyPost_ret (v:=.tuple #[]) (by simp[results,Tryz.results45,go_sem]) rfl ⟨rfl,X2.k,X2.d⟩)
end
end
section
open Go.ChangeMaps Un
def adI{c}(h:od c):Lc c:=⟨λe=>(by obtain⟨x,r,h1,_⟩:=h;rw[h1]at e;cases e),da h 40 [] aB⟩
abbrev pw:BA:=⟨#[45,62]⟩
abbrev AM:BA:=⟨#[44]⟩
def So:∀L:List Nd,wTL L=L.map wT
 |[]=>rfl|x::l=>by simp[wTL,So l]
def Gn t:(sep t).length<=1:=by rw[sep];split<;>simp
def aaY B pb mv l(L:List Nd)w gk v wr:=
 ∃(j:Nat)(bv':Value)(Ld:BA),Hid (gk=L.length-j)/\j<=L.length/\v=Nv j/\PN wr B pb bv' (l++((L.take j).map wT).flatMap λp=>32::p 2) Ld mv/\Lc Ld/\FN B pb w wr
def VG(L:List Nd)j(h:j<L.length):(((L.take<|j+1).map wT).flatMap λp=>32::p 2)=(((L.take j).map wT).flatMap λp=>32::p 2)++32::wT L[j] 2:=by
 rw[List.take_add_one,List.getElem?_eq_getElem h];simp only[jf,List.flatMap_append,Option.toList_some,jv,List.map_nil,List.flatMap_cons,List.flatMap_nil,List.append_nil]
def adJ(L:List Nd)j:(((L.take j).map wT).flatMap λp=>32::p 2).length<=((L.map wT).flatMap λp=>32::p 2).length:=by
 have e:((L.map wT).flatMap λp=>32::p 2)=(((L.take j).map wT).flatMap λp=>32::p 2)++(((L.drop j).map wT).flatMap λp=>32::p 2):=by
  rw[<-List.flatMap_append,<-jf,ji]
 rw[e,lM];omega
section
variable {pb:Nat} {bv:Value} {l:List UInt8} {last:BA} {mv:Value}
def adK s(hu:od s)(hss:s.size<=1000)x y L sa sc(vs:Nat->Value)(hL:L.length<=1001)(h:PN w B pb bv l last mv)(hq:NQ w pb Q)(hB:B<=pb)(aO:L=[]\/∃g,sa=some ⟨g,0,none⟩/\Q g/\g<w.heap.size/\∀i,i<L.length->w.cell? ⟨g,i,none⟩=some (vs i))(hr:∀i(h:i<L.length),mO w Q L[i]<|vs i)(IH:∀i(h:i<L.length),Xd L[i])(hl:(l++(sep last++(s.toList++(L.map wT).flatMap λp=>32::p 2))).length<=800000):
 Cq 76 #[Pv pb,.agg #[Iv x,Iv y,.string s],.slice sa L.length sc] w (FV B pb mv (l++(sep last++(s.toList++(L.map wT).flatMap λp=>32::p 2))) w):=by
 have hzp:=h.lt;have hsl:=Gn last;simp only[lM]at hl;have cr:Bq w ((w.alloc<|Cv #[Iv x,Iv y,Sv s] 74).alloc<|Cv #[Sv s] 9):=(bw _).alloc ag _;have BX:Bx ((w.alloc<|Cv #[Iv x,Iv y,Sv s] 74).alloc<|Cv #[Sv s] 9) (w.heap.size+1) #[Sv s]:=by have:=zh (w.alloc<|Cv #[Iv x,Iv y,Sv s] 74) #[Sv s] 9;simpa using this
 have HP:=wQ (h.af cr) s ae ae (w.heap.size+1) BX ae;rw[pu (da hu 41 [] aB) (da hu 44 [] aB)<|da hu 59 [] aB]at HP;have F0:=FN.of (B:=B) (pb:=pb) cr;have Zx:s.toList.length=s.size:=by rw[ByteArray.toList_eq];simp
 go_enter func76,ntmps76;go_wp2_with fail;refine HP.mono ?_;rintro e w1⟨rfl,bv1,N1,F1⟩;have FA:=F0.trans F1
 go_wp2
 go_loopg[15] L.length (λgk v wr=>aaY B pb mv (l++(sep last++s.toList)) L w gk v wr)
 case atStart=>exact⟨0,bv1,s,ai ag,xh _,rfl,by simpa using N1,adI hu,FA⟩
 case round=>
  obtain⟨j,Xb,DK,dl,hj,rfl,N2,fi2,F2⟩:=hrel;by_cases bm:j<L.length
  .have hd:(j:Int)<(L.length:Int):=ae;obtain⟨g,rfl,hg,k9,bY⟩:∃g,sa=some ⟨g,0,none⟩/\Q g/\g<w.heap.size/\∀i,i<L.length->w.cell? ⟨g,i,none⟩=some (vs i):=by
    obtain h0|h0:=aO
    .subst h0;simp at bm
    .exact h0
   have cg:=(xk (a:=⟨g,j,none⟩)<|F2.block g k9 (hq g hg).2.1<|qz (hq g hg).2.2).trans<|bY j bm;have PJ:=(hr j bm).fnQ hq F2;have⟨tv,xv,hv⟩:=PJ.bQ;have ft:=VG L j bm;have fl:=adJ L<|j+1;rw[ft]at fl;simp only[lM,yE]at fl;have HC:=IH j bm wr B pb Xb _ DK mv Q (vs j) 2 N2 PJ (hq.fn F2) (br _) (by rw[kS fi2];simp only[lM,yE,qO];omega) hB;rw[hv]at cg HC;rw[kS fi2]at HC;go_wp2_with(go_at_call 37;refine HC.mono ?_;rintro e w3⟨rfl,bv3,Sp,hN3,fi3,hF3⟩;have HN3:=ai hN3;have HF3:=ai<|F2.trans hF3;clear hN3 hF3);go_roundg(L.length-(j+1))
   case measure=>rw[uh dl];omega
   case rel=>
    refine⟨j+1,bv3,Sp,ai rfl,ae,jP,?_,fi3,HF3⟩;rw[ft];have e9:l++(sep last++s.toList)++((((L.take j).map wT).flatMap λp=>32::p 2)++32::wT L[j] 2)=l++(sep last++s.toList)++(((L.take j).map wT).flatMap λp=>32::p 2)++([32]++wT L[j] 2):=ag;rw[e9];exact HN3
  .have hd:decide ((j:Int)<(L.length:Int))=false:=bF;have ej:j=L.length:=ae;subst ej;rw[jh]at N2
   go_wp2
   go_end0;refine⟨rfl,Xb,DK,?_,fi2,F2⟩;have e9:l++(sep last++(s.toList++(L.map wT).flatMap λp=>32::p 2))=l++(sep last++s.toList)++(L.map wT).flatMap λp=>32::p 2:=ag;rw[e9];exact N2
end
end
section
open Go.ChangeMaps Go.MapKept Un
section
variable {cnt:Nat} {g:j6}
def Wj w C1 C2 v wc:=∃p,v=Pv p/\w.heap.size<p/\Bx wc w.heap.size C1/\Bx wc p C2/\Bq w wc
theorem Wj.a w C1 C2 t1 t2:Wj w C1 C2 (Pv<|w.heap.size+1) ((w.alloc<|.cells C1 t1).alloc<|.cells C2 t2).drew:=by
 have⟨p,q,h1,h2,h3,h4,h5,h6,h7⟩:=qV.a w C1 C2 t1 t2;injection h1 with h1;injection h1 with h1;injection h1 with h1;injection h2 with h2;injection h2 with h2;injection h2 with h2;subst h1 h2;exact⟨_,rfl,Nat.lt_succ_self _,h5,h6,h7⟩
def afA{R}{ab}(hs:fG w (qC c gv) ab (λv=>(R v).map Ty.var))(oa:qC c gv ab)(ht:db w P t v)(hz:size t<=1000)(Hg:Whole t)(hcb:c.cb<w.heap.size)(hgv:gv<w.heap.size):
 Cq 214 #[Mv ab,v] w (λe w'=>∃tr xr,e=.returned (.iface tr xr)/\TW w' (qC c gv) 1100 (sub (j5 R) t) (.iface tr xr)/\Bq w w'):=by
 have ev:Ef (λv=>(R v).map Ty.var)=j5 R:=by
  funext v;show((R v).map Ty.var).getD (.var v)=_;rw[j5]
  cases R v<;>rfl
 have Ip:=Iq hs oa ht ae (by rw[ev,iz];omega);rw[ev]at Ip;refine Ip.mono ?_;rintro e w'⟨u,rfl,Ms,hk⟩;obtain⟨tr,xr,rfl⟩:=Ms.iface;have hw':=pL R _ Hg;refine⟨tr,xr,rfl,⟨⟨_,Ms.wide λi p=>by obtain p|p:=p;exact p;exact⟨ae,ae⟩,(dR.refl _).cut hw',?_⟩,hw'⟩,hk⟩;have hlq:(vars []<|sub (j5 R) t).length<=1000:=by
  rw[cC];have h2:=dc (occs<|sub (j5 R) t) [];have h3:=dd<|sub (j5 R) t;rw[iz]at h3;simp only[qO]at h2;omega
 have:=fI hw' hlq ae;omega
def akd c gv cnt(s:jy)w(R:j8)(p:qi (Ty×j6))Λ tk m L C1 C2 pb ab gk v1 v31 wr:=
 ∃j cj sj kj g D,Hid (gk=L.length-j)/\j<=L.length/\v1=Mv kj/\v31=Nv j/\MdS c gv cnt s w R p Λ tk m L j wr cj sj kj g D/\Bx wr w.heap.size C1/\Bx wr pb C2/\fG wr (qC c gv) ab (λv=>(R v).map Ty.var)
def Bd tk m i(h:i<tk.length):size tk[i]<=size (qk tk m)/\(Whole (qk tk m)->Whole tk[i])/\∀v,aw v tk[i]->aw v (qk tk m):=by
 induction tk generalizing i with
 |nil=>simp at h|cons t tk ih=>
  have e:qk (t::tk) m=In.lY t (qk tk m):=rfl;rw[e]
  cases i with
  |zero=>
   refine⟨by simp only[jk,size,ak];omega,λq=>q.2.1,λv q=>?_⟩;simp only[aw,bW,or_false];exact qy q
  |succ i=>
   have⟨h1,h2,h3⟩:=ih i Hn;refine⟨by simp only[jl,size,ak];omega,λq=>h2 q.2.2.1,λv q=>?_⟩;simp only[aw,bW,or_false];exact qz<|h3 v q
def abU tk m:Whole (qk tk m)->Whole m:=by
 induction tk with
 |nil=>exact id|cons t tk ih=>exact λq=>ih q.2.2.1
def aep{t a}{sa}(H:∀i(h:i<L.length),XQ L[i])(h:PaA (.mk 2 st n L f t a) c w cnt s kb Λ g gv Q (.iface 263<|.agg #[Nv f,Nv t,Nv a,Nv y,.string st,.slice sa L.length sc]))(aO:L=[]\/∃g,sa=some ⟨g,0,none⟩/\Q g/\g<w.heap.size/\∀i,i<L.length->w.cell? ⟨g,i,none⟩=some (vs i))(hr:∀i(h:i<L.length),PP w Q L[i]<|vs i):
 Cq 264 #[Pv c.eb,Mv kb,Mv gv,.agg #[Nv f,Nv t,Nv a,Nv y,.string st,.slice sa L.length sc]] w (ew c gv (1100*nn (.mk 2 st n L f t a)) (1000*nn (.mk 2 st n L f t a)) (qn c.mks (.mk 2 st n L f t a) g) s cnt w):=by
 have en:nn (.mk 2 st n L f t a)=1+cD L:=by simp[nn]
 obtain⟨tk,m,hx,hl,hsc⟩:∃tk m,c.mks st=some (tk,m)/\L.length=tk.length/\∀i(h:i<L.length),si c.mks c.nl L[i]:=by
  cases h.sc with
  |up _ _ _ _ _ _ tk m hx hl hr=>exact⟨tk,m,hx,hl,hr⟩|leaf _ _ _ _ _ _ hk=>omega
 obtain⟨p,hp⟩:∃p,p=qn c.mks (.mk 2 st n L f t a) g:=⟨_,rfl⟩;have l8:=hp;rw[yY hx]at l8;rw[<-hp,en];have WZ:=h.ft.a;have ftb:=h.ft.b;rw[en]at WZ ftb;have gL:=h.mf.sz st tk m hx;have Hg:=h.mf.wh st tk m hx;have hvs:=h.mf.vs st tk m hx;have has:=sD tk m;have yP:(vars [] m).length<=size m:=by
  rw[cC];have h2:=dc (occs m) [];have h3:=dd m;simp only[qO]at h2;omega
 obtain⟨R,hR⟩:∃R,R=qP cnt (vars [] m):=⟨_,rfl⟩;have MR:MdR c cnt tk m R:=⟨hR,λi hi v o=>hvs v<|(Bd tk m i hi).2.2 v o⟩;have hta:∀i(h:i<tk.length),size tk[i]<=1000/\Whole tk[i]:=λi hi=>⟨Nat.le_trans (Bd tk m i hi).1 gL,(Bd tk m i hi).2.1 Hg⟩;have hwm:=abU tk m Hg;have k0:Bq w (w.alloc<|Cv #[Nv f,Nv t,Nv a,Nv y,Sv st,Lv sa L.length sc] 263):=bw _;have⟨v,hv,ya⟩:=h.we.ms.look hx;obtain⟨ma,mc,ta,xa,rfl,hmr,jA⟩:=hv;have zc:=h.we.dt;have lg:=h.e.lt;have lgl:=h.l;have⟨l1,l2,l3,l4,l5⟩:=h.we.l;have⟨d1,d2,d3⟩:=h.we.d;have aeq:=ya (w.alloc<|Cv #[Nv f,Nv t,Nv a,Nv y,Sv st,Lv sa L.length sc] 263).drew<|k0.drew.block c.mb ae;have k00:Bq w ((w.alloc<|Cv #[Nv f,Nv t,Nv a,Nv y,Sv st,Lv sa L.length sc] 263).alloc<|Cv #[Lv none 0 0,Zv] 357):=k0.alloc k0.size _;have aer:=ya _<|k00.drew.block c.mb ae;have⟨e1,e2,e3⟩:=h.we.bx;have amN:size m<=1000:=ae;have hln:L.length<=1000:=ae;clear k00;have HA:=ai h;have HL:=ai hl;have HM:=ai<|And.intro hmr jA;have HT:=ai hta;have HS:=ai hsc;have HP':=ai l8;have MR':=ai MR;clear h ya hmr jA hta hsc k0 hp l8 hvs Hg gL MR hl;go_enter func264,ntmps264;go_wp2_with fail;go_cut[10]from 16 (λv1 wc=>Wj w #[Nv f,Nv t,Nv a,Nv y,Sv st,Lv sa L.length sc] #[Lv ma tk.length mc,Fv ta xa] v1 wc)
 case first=>
  go_region
  all_goals(
   go_wp2_with fail
   go_meet
   case rel=>exact Wj.a w _ _ _ _)
 case rest=>
  obtain⟨pb,rfl,zp,X1,X2,kc⟩:=hcut;clear aeq aer e1 e2 e3;have h:=uh HA;have HRN:=CF (h.we.af kc) ((HM.2.w.af kc)) ae ae;obtain⟨x1,x2,x3⟩:=X2;have X1':=ai X1;have X2':=show Bx wc pb #[Lv ma tk.length mc,Fv ta xa]from⟨x1,x2,x3⟩;have KC:=ai kc;clear X1 kc h;go_wp2_with fail;refine HRN.mono ?_;rintro e w2⟨ab,rfl,oa,hw2,yu,F2⟩;clear HRN x1 x2 x3;have h:=uh HA;have zkc:=KC.size;have F02:Fr (λi=>i=c.cb\/i=gv) w w2:=((Fr.of KC).trans F2).fZ λ_ q=>qy q;have FB:=(Fr.of (S:=λi=>i=c.cb) KC).trans F2;have X1:=X1'.fr F2 ae;have X2:=X2'.fr F2 ae;rw[<-hR]at yu;have SB:fG w2 (qC c gv) ab (λv=>(R v).map Ty.var):=yu.bare;have M0':MdS c gv cnt s w R p Λ tk m L 0 w2 (cnt+(vars [] m).length) s kb g (λ_=>False):=by
   have k2:=h.wk.fr F02;refine⟨F02,hw2,⟨k2.k,k2.n,λn q=>by have:=k2.u n q;unfold us at*;omega,k2.ok,k2.wh⟩,h.hn,h.e.move F02.size (FB.block _ h.e.lt ae) (λb p z=>FB.block b z p.1)<|λ_ p _=>p,h.i,by rw[yX];exact In.iA.zero Λ s,λv n _ q z=>?_,λn q=>qy q,br _,by rw[List.drop_zero];omega,λo ho=>by rw[yX]at ho;rw[uh HP'];exact ho⟩;have:=MR'.num q;have:=h.wk.u n z;rw[us]at this;omega
  have SB':=ai SB;have T1:=ai X1;have T2:=ai X2;obtain⟨y1,y2,y3⟩:=X1;clear h hw2 yu F2 F02 FB X2 SB X1' X2' KC
  go_wp2
  go_loopg[1,31] L.length (λgk v1 v31 wr=>akd c gv cnt s w R p Λ tk m L #[Nv f,Nv t,Nv a,Nv y,Sv st,Lv sa L.length sc] #[Lv ma tk.length mc,Fv ta xa] pb ab gk v1 v31 wr)
  case atStart=>exact⟨0,_,_,_,_,_,ai ag,xh _,rfl,rfl,M0',T1,T2,SB'⟩
  case round=>
   clear M0' SB' T1 T2 y1 y2 y3;obtain⟨j,cj,sj,kj,gj,D,dl,hj,rfl,rfl,MS,X1,X2,SB2⟩:=hrel;have h:=uh HA;have zcr:=MS.we.dt;have lgr:=MS.e.lt;have zab:=SB2.lt;have nab:qC c gv ab:=⟨ae,ae⟩;by_cases bm:j<L.length
   .have bA:(j:Int)<(L.length:Int):=ae;have It:(0:Int)<=(j:Int):=ae;have hjt:j<tk.length:=by have:=uh HL;omega
    have ahV:(j:Int)<(tk.length:Int):=ae;obtain⟨gg,rfl,hQ,hz,bY⟩:=aO.resolve_left<|λe=>qBs;have Pt:=hr j bm;have cg:=(xk (a:=⟨gg,j,none⟩)<|MS.F.block gg hz λq=>q.elim (h.hq gg hQ).1 (h.hq gg hQ).2).trans<|bY j bm;have⟨tx,ax,evs⟩:=Pt.iface;rw[evs]at cg Pt;have Mx:=Pt.place;dsimp only[PlF]at Mx;have hdn:cD (L.drop j)=nn L[j]+cD (L.drop<|j+1):=by rw[jj bm];rfl
    have mc2:=MS.c2;have mc1:=MS.c1;have hnj:nn L[j]<=cD L:=by
     have:cD (L.take j)+cD (L.drop j)=cD L:=by rw[<-sX,ji]
     omega
    have H1:=H j bm c wr cj sj kj Λ gj gv Q _ ⟨MS.we,MS.wk,MS.n,MS.e,MS.i,h.l,Pt.move MS.F.size (λb p z=>MS.F.block b z λq=>q.elim (h.hq b p).1 (h.hq b p).2)<|λ_ p _=>p,h.hq,HS j bm,⟨ae,ae,h.ft.l⟩,h.mf⟩;obtain⟨gt,vt,rfl,pgt,zgt,hct⟩:=HM.1.resolve_left (λe=>by subst e;simp at hjt);have⟨CT,TT⟩:=hct j hjt;have⟨tb,xb,evt⟩:=TT.w.iface;rw[evt]at CT TT;have B1:=ai X1;have B2:=ai X2;have HWU:=ai h.wk.u;obtain⟨y1,y2,y3⟩:=X1;clear X2 h Pt bY hct;go_wp2_with fail;refine H1.mono ?_;intro e w3 hp3;clear H1 y1 y2 y3 cg;obtain⟨c3,zz,vl,vr,rfl,q⟩|⟨c3,T3,g3,s3,ta3,xa3,kb3,rfl,q⟩:=hp3.split
    .have HP:=MS.no (S:=1100*(1+cD L)) (DD:=1000*(1+cD L)) HL bm (br _) q;clear hp3 q
     go_wp2
     exact⟨rfl,HP⟩
    have⟨s4,mt⟩:=MS.arg (DD:=0) MR' HL bm HWU q;have amO:=mt.c1;have amP:=mt.c2;have zmt:=mt.we.dt;have zgm:=mt.e.lt;have F3:=q.F;have Mt:=mt.F;have ake:=SB2.fr F3 (λr=>r.elim nab.1 nab.2)<|λb p _ r=>r.elim p.1 p.2;have ct3:=(xk (a:=⟨gt,j,none⟩)<|Mt.block gt zgt (by have:=pgt;omega)).trans CT;have tt3:=TT.w.move (Q:=λ_=>True) Mt.size (λb p z=>Mt.block b z (by have:=p;omega))<|λ_ _ _=>trivial;have⟨ht1,ht2⟩:=uh HT j hjt;have Be:=afA ake nab tt3 ht1 ht2 zmt zgm;have BQ:=B1.fr F3 ae;have X2:=B2.fr F3 ae;obtain⟨x1,x2,x3⟩:=X2;have Yd:=show Bx w3 pb #[Lv (some ⟨gt,0,none⟩) tk.length mc,Fv ta xa]from⟨x1,x2,x3⟩;have MT:=ai mt;have T3':=ai q.t;clear hp3 q mt F3 Mt tt3 B1 B2 SB2 MS CT TT;go_wp2_with fail;refine Be.mono ?_;rintro e w4⟨tr,xr,rfl,U4,K4⟩;clear Be x1 x2 x3 ct3;go_wp2_with fail;refine(de _ _).mono ?_;rintro e w5⟨rfl,k5⟩;have K5:=K4.trans<|k5.mono K4.size;have mt:=uh MT;have HEQ:=aiI (mt.we.af K5) (xg zgm K5.size) (mt.wk.af K5) mt.n ae (S:=1100*nn L[j]+1100) ae ((T3'.af K5).le ae) ((U4.af k5).le ae) mt.ti mt.ui (qp L[j])<|qs L[j];clear mt k5 U4;go_wp2_with fail;refine HEQ.mono ?_;intro e w6 hq6;clear HEQ;obtain hn|hq6:=hq6
    .obtain⟨fl,vl,vr,rfl,k6,z,rfl,he,hf⟩:=hn;have HP:=MT.no (S:=1100*(1+cD L)) (DD:=1000*(1+cD L)) (K5.trans<|k6.mono K5.size) (br _) he hf;clear k6 he hf
     go_wp2
     exact⟨rfl,HP⟩
    .obtain⟨b6,rfl,k6,s6,he6,kp6,wk6,hu6⟩:=hq6;have K6:=K5.trans<|k6.mono K5.size;have MS6:=MT.next K6 he6 kp6 wk6 hu6;clear k6 he6 kp6 wk6 hu6
     go_wp2
     go_roundg(L.length-(j+1))
     case measure=>rw[uh dl];omega
     case rel=>exact⟨j+1,_,_,_,_,_,ai rfl,xc bm,rfl,jP,MS6,BQ.below K6,Yd.below K6,ake.af K6⟩
   .have bA:¬(j:Int)<(L.length:Int):=ae;have ej:j=L.length:=ae;subst ej;have tmm:=HM.2.w.move (Q:=λ_=>True) MS.F.size (λb p z=>MS.F.block b z (by have:=p;omega))<|λ_ _ _=>trivial;have Be:=afA SB2 nab tmm ae hwm zcr lgr;obtain⟨x1,x2,x3⟩:=X2;clear X1 h tmm;go_wp2_with fail;refine Be.mono ?_;rintro e w4⟨tr,xr,rfl,hu4,k4⟩;have HD:=MS.done (DD:=1000*(1+cD L)) MR' HL k4 (br _) (hu4.le<|show 1100<=1100*(1+cD L) by omega);clear hu4 k4 Be
    go_wp2
    go_ret2;exact HD
end
section
variable {cnt:Nat} {S D:Nat} {p:qi (Ty×j6)}
def ew.below(h:ew c gv S D p s cnt w0 e w')(hb:Bq w w0):ew c gv S D p s cnt w e w':=⟨(Fr.of hb).trans h.1,h.2⟩
end
def akf st n f t a(H:∀i(h:i<L.length),XQ L[i]):XQ (.mk 2 st n L f t a):=by
 intro c w cnt s kb Λ g gv Q v h;obtain⟨y,sa,sc,vs,rfl,aO,hr⟩:∃(y:Nat)(sa:Option Addr)(sc:Nat)(vs:Nat->Value),v=Fv 263 (Av #[Nv f,Nv t,Nv a,Nv y,Sv st,Lv sa L.length sc])/\(L=[]\/∃g,sa=some ⟨g,0,none⟩/\Q g/\g<w.heap.size/\∀i,i<L.length->w.cell? ⟨g,i,none⟩=some (vs i))/\∀i(h:i<L.length),PP w Q L[i]<|vs i:=by
  cases h.pp with
  |up _ _ _ _ _ _ y sa sc vs hu hy aO hr=>exact⟨_,sa,sc,vs,rfl,aO,hr⟩
 have k0:Bq w (w.alloc<|Cv #[Nv f,Nv t,Nv a,Nv y,Sv st,Lv sa L.length sc] 263):=bw _
 have H1:=aep H (h.part k0 h.pp h.sc<|br _) (aO.imp id λq=>by
  obtain⟨g,q1,q2,q3,q4⟩:=q
  exact⟨g,q1,q2,xg q3 k0.size,λi hi=>(xk (a:=⟨g,i,none⟩)<|k0.block g q3).trans<|q4 i hi⟩)<|λi hi=>(hr i hi).af k0
 have K0:=ai k0;have q1:=YV;have q2:=uG;have q3:=QL;have q4:=QN;go_enter func257,ntmps257;go_wp2_with fail;refine H1.mono ?_;intro e w1 hp;have l8:=hp.below K0;obtain⟨ah,zz,vl,vr,rfl,q⟩|⟨ah,T1,g1,s1,yT,yU,iV,rfl,q⟩:=hp.split
 .have HP:=ai l8
  go_wp2
  exact⟨rfl,HP⟩
 .have HP:=ai l8
  go_wp2
  go_ret2;exact HP
def Pw:∀(L:List Nd)(i:Nat)(h:i<L.length),nn L[i]<=cD L
 |x::l,0,_=>by simp only[jk,cD];omega|x::l,i+1,h=>by simp only[jl,cD];have:=Pw l i Hn;omega
def aes:∀(k:Nat)(nd:Nd),nn nd<=k->XQ nd:=by
 intro k
 induction k with
 |zero=>intro nd h;cases nd;simp only[nn]at h;omega|succ k ih=>
  intro nd hk c w cnt s kb Λ g gv Q v h;have hp:=h.pp
  cases hp with
  |any st n f t a=>exact af5 st n f t a c w cnt s kb Λ g gv Q _ h|low st n f t a=>exact af7 st n f t a c w cnt s kb Λ g gv Q _ h|num st n f t a=>exact Ek (qy ⟨rfl,rfl⟩) st _ f t a c w cnt s kb Λ g gv Q _ h|word st n f t a b=>exact Ek (qz<|qy ⟨rfl,rfl⟩) st n f t a c w cnt s kb Λ g gv Q _ h|unit st n f t a=>exact Ek (qz<|qz ⟨rfl,rfl⟩) st n f t a c w cnt s kb Λ g gv Q _ h|pr st n x y f t a vx vy hx hy=>exact aiM st n f t a (ih x CH) (ih y CH) c w cnt s kb Λ g gv Q _ h|up st n L f t a y sa sc vs hu hy aO hr=>exact akf st n f t a (λi hi=>ih _ (by have:=Pw L i hi;simp only[nn]at hk;omega)) c w cnt s kb Λ g gv Q _ h
def ahW nd:XQ nd:=aes _ nd<|br _
section
variable {n0:Nat} {M:qi Ty} {cnt0 cnt D D2:Nat} {s0:jy} {q2:qi Ty} {P:World->jy->Prop} {post:Ending->World->Prop} {y:Nd}
def gO.to(H:gO n0 M c w0 cnt0 s0 Λ Γ gb Q dom D q P s cnt kb w)(k:∀o,q2 s o->q s o):gO n0 M c w0 cnt0 s0 Λ Γ gb Q dom D q2 P s cnt kb w:=⟨H.wg,H.hq,H.hd,H.ft,H.mf,H.f,H.we,H.st,H.cl.imp k,H.lv,H.cn⟩
def gO.imp{P'}(H:gO n0 M c w0 cnt0 s0 Λ Γ gb Q dom D q P s cnt kb w)(k:∀w s,P w s->P' w s):gO n0 M c w0 cnt0 s0 Λ Γ gb Q dom D q P' s cnt kb w:=⟨H.wg,H.hq,H.hd,H.ft,H.mf,H.f,H.we,H.st,H.cl,λw s a b=>k _ _<|H.lv w s a b,H.cn⟩
def gO.sS{g}(H:gO n0 M c w0 cnt0 s0 Λ Γ gb Q dom D (qf (qn c.mks y λ_=>none) g) P s cnt kb w)(K:Bq w W)(E:bS W (qC c gv) gv λ_=>none)(hg:w.heap.size<=gv)(hy:PP w0 Q y vy)(sy:si c.mks c.nl y)(ok:∀T g1 ta xa s' aD Nj w',gO n0 M c w0 cnt0 s0 Λ Γ gb Q dom D2 (g (T,g1)) (λw s=>P w s/\(TW w (dw c) (1100*nn y) T (.iface ta xa)/\qg Λ s T)/\bS w (dw c) gv g1/\In.bC Λ s g1) s' aD Nj w'->qn c.mks y (λ_=>none) s (.ok ((T,g1),s'))->w.heap.size<=w'.heap.size->post (.returned<|.tuple #[.iface ta xa,Mv Nj]) w')(hD:D2+1000*nn y<=D)(hn:nn y<=n0)(bad:∀f l r w',aZ c (1100*n0) (1000*n0) M s0 cnt0 w0 (CA f l r) w'->post (CA f l r) w':=by exact λ_ _ _ _ h=>⟨rfl,h⟩):
 Cq 257 #[Pv c.eb,Mv kb,Mv gv,vy] W post:=by
 have cn:=H.cn;have zc:=H.we.dt;have k:=(CC.of H.st.k hg).af K;have pp:=(hy.move (Q:=λb=>Q b/\b<w.heap.size) H.f.size (λb p z=>H.f.block b z<|H.hq b p)<|λb p z=>⟨p,xg z H.f.size⟩).af K;refine(ahW y c W cnt s kb Λ (λ_=>none) gv _ _ ⟨H.we.af K,k,H.st.n,E,(λy d q=>lq),by have:=H.we.l.2.2.2.2;omega,pp,(λb q=>⟨H.hq b q.1,by have:=q.2;omega⟩),sy,H.ft.le ae hn,H.mf⟩).mono λe w' hp=>?_;obtain⟨c3,zz,vl,vr,rfl,q⟩|⟨c3,T3,g3,s3,ta3,xa3,kb3,rfl,q⟩:=hp.split
 .exact bad _ _ _ _ (H.cl _ _ ⟨abW K hg q.F,c3,.error zz,q.c1,by have:=q.c2;omega,q.we,qy ⟨zz,q.m,rfl⟩,vl,vr,rfl,q.f⟩)
 .have st:=q.step k H.st.n<|λy d q=>lq;have F:=abW (c:=c) K hg q.F;have:=q.c1;have:=q.c2;exact ok T3 g3 ta3 xa3 s3 c3 kb3 w' ⟨H.wg,H.hq,H.hd,H.ft,H.mf,H.f.trans F,q.we,H.st.and ⟨st.k.wk,st.n,st.p⟩,H.cl.and q.m F q.c1 q.u ae,λw2 s2 a b=>⟨H.lv w2 s2 (F.trans a)<|st.p.trans b,⟨(q.t.wide (Q:=dw c) λi p=>p.1).fr a<|λ_ p _=>p,st.t.run b.run⟩,(q.e.wide (Q:=dw c) λi p=>p.1).fr a ae<|λ_ p _=>p,st.i.run b.run⟩,ae⟩ q.m F.size
end
def akg n0(M:qi Ty)c w0 cnt0(s0:jy)Λ(Γ:j6)gb Q dom T ts xs rv nx A gk v1 v35 wr:=
 ∃j cj sj kj,Hid (gk=A.length-j)/\j<=A.length/\v1=Mv kj/\v35=Nv j/\gO n0 M c w0 cnt0 s0 Λ Γ gb Q dom (1000*cD (aP<|A.drop j)) (mV c.mks Γ T (.var rv) A j) (λw s=>(TW w (dw c) (1100*nx) T (.iface ts xs)/\qg Λ s T)/\qg Λ s (.var rv)) sj cj kj wr
def DZ(h:j<A.length):cD (aP<|A.drop j)=nn A[j].1+nn A[j].2+cD (aP<|A.drop<|j+1):=by
 rw[jj h];simp only[aP,cD];omega
def pD:∀A:List (Nd×Nd),A.length<=cD (aP A)
 |[]=>ag|p::r=>by have:=pD r;have:=FY p.1;simp only[yE,aP,cD];omega
def sG:∀(A:List (Nd×Nd))(j:Nat)(h:j<A.length),nn A[j].1+nn A[j].2<=cD (aP A)
 |p::r,0,_=>by simp only[jk,aP,cD];omega|p::r,j+1,h=>by have:=sG r j Hn;simp only[jl,aP,cD];omega
section
variable {cnt:Nat}
def agb{t a}{g}{vp ve:Nat->Value}(Hx:Bv x)(He:∀i(h:i<A.length),Bv A[i].2)(h:CB (.mk 13 st n (x::aP A) f t a) c w cnt s kb Λ Γ gb Q dom (.iface 233<|.agg #[Nv f,Nv t,vx,.slice (some ⟨g,0,none⟩) A.length sc]))(hg:Q g)(k9:g<w.heap.size)(hc:∀i,i<A.length->(∃u v,w.cell? ⟨g,i*4,none⟩=some (Iv u)/\w.cell? ⟨g,i*4+1,none⟩=some (Iv v))/\w.cell? ⟨g,i*4+2,none⟩=some (vp i)/\w.cell? ⟨g,i*4+3,none⟩=some (ve i))(hx:PE w Q x vx)(hp:∀i(h:i<A.length),PP w Q A[i].1<|vp i)(he:∀i(h:i<A.length),PE w Q A[i].2<|ve i):
 Cq 243 #[Pv c.eb,Mv kb,Mv gb,.agg #[Nv f,Nv t,vx,.slice (some ⟨g,0,none⟩) A.length sc]] w (aZ c (1100*nn (.mk 13 st n (x::aP A) f t a)) (1000*nn (.mk 13 st n (x::aP A) f t a)) (qe c.mks (.mk 13 st n (x::aP A) f t a) Γ) s cnt w):=by
 have en:nn (.mk 13 st n (x::aP A) f t a)=1+nn x+cD (aP A):=Mu;obtain⟨sx,SP,SE⟩:ScE c.mks c.nl dom x/\(∀i(h:i<A.length),si c.mks c.nl A[i].1)/\∀i(h:i<A.length),ScE c.mks c.nl (λv=>dom v\/v∈pM A[i].1) A[i].2:=by
  have hs:=h.sc;generalize hL:x::aP A=L at hs
  cases hs with
  |mt _ _ _ x' A' _ _ _ hx hp he=>
   injection hL with h1 h2;subst h1;have hA:A=A':=by
    have:∀(A A':List (Nd×Nd)),aP A=aP A'->A=A':=by
     intro A
     induction A with
     |nil=>intro A' e;cases A' with|nil=>rfl|cons=>simp[aP]at e
     |cons p r ih=>
      intro A' e
      cases A' with
      |nil=>simp[aP]at e|cons p' r'=>
       simp only[aP,List.cons.injEq]at e;obtain⟨e1,e2,e3⟩:=e;rw[ih r' e3,Prod.ext e1 e2]
    exact this A A' h2
   subst hA;exact⟨hx,hp,he⟩
  |leaf _ _ _ _ _ _ _ hk=>omega|two _ _ _ _ _ _ _ _ _ hk=>omega|lt _ _ _ _ _ _ _ _ _ _ hk=>omega
 have fb:=h.ft.b;rw[en]at fb;have hAl:=pD A;have jA:= @run_makeMap Tryz.prog;have HX:=ai hx;obtain⟨tx,ax,rfl⟩:=hx.iface;have H:=gO.start h<|Px ..;obtain⟨n0,hn0⟩:∃n0,n0=nn (.mk 13 st n (x::aP A) f t a):=⟨_,rfl⟩;obtain⟨M,hM⟩:∃M,M=In.inf c.mks (.mk 13 st n (x::aP A) f t a) Γ:=⟨_,rfl⟩;rw[<-hM,<-hn0]at H⊢;rw[en]at hn0;have EN:=ai hn0;have HP:=ai hp;have HE:=ai he;have HC:=ai hc;clear h hx en hn0 hM hp he hc;go_enter func243,ntmps243;go_wp2_with fail;refine H.box.ex (D2:=1000*(1+cD (aP A))) Hx HX sx ?_ (by rw[uh EN];omega) (by rw[uh EN];omega);intro T1 yT yU s1 ah iV w1 H;have⟨⟨_,b1,b2,b3⟩,_⟩:=H.p;have⟨e1,e2,e3⟩:=H.we.bx;go_wp2_with fail;refine H.new (D2:=1000*cD (aP A)) ?_ ae;intro s3 w3 H;clear e1 e2 e3 b1 b2 b3;have⟨⟨⟨_,b1,b2,b3⟩,_⟩,_⟩:=H.p
 go_wp2
 go_loopg[1,35] A.length (λgk v1 v35 wr=>akg n0 M c w cnt s Λ Γ gb Q dom T1 yT yU (ah+1) (nn x) A gk v1 v35 wr)
 case atStart=>exact⟨0,_,_,_,ai ag,xh _,rfl,rfl,H.imp λ_ _ h=>⟨h.1.2,h.2⟩⟩
 case round=>
  clear H b1 b2 b3;obtain⟨j,cj,sj,kj,dl,hj,rfl,rfl,H⟩:=hrel;by_cases bm:j<A.length
  .have bA:(j:Int)<(A.length:Int):=ae;have It:(0:Int)<=(j:Int):=ae;have⟨⟨u,v,d0,d1⟩,d2,d3⟩:=HC j bm;rw[<-xk (a:=⟨g,_,none⟩) (H.f.block g k9<|H.hq g hg)]at d0 d1 d2 d3;have⟨t1,x1,e1⟩:=(HP j bm).iface;have⟨t2,x2,e2⟩:=(HE j bm).iface;have PP1:=HP j bm;have PE2:=HE j bm;rw[e1]at d2 PP1;rw[e2]at d3 PE2;have pl1:=PP1.place;have pl2:=PE2.place;dsimp only[PlF]at pl1 pl2
   replace PP1:=ai PP1
   replace PE2:=ai PE2
   have hdn:=DZ bm;have hnn:=sG A j bm;have l5:=H.we.l.2.2.2.2;have H:=H.to λo q=>DY bm q;have zc:=H.we.dt;go_wp2_with fail;refine(H.box (C:=#[Iv u,Iv v,Fv t1<|Av x1,Fv t2<|Av x2]) (t:=255)).sS (D2:=1000*(nn A[j].2+cD (aP<|A.drop<|j+1))) (gv:=wr.heap.size+1) (bw _) (by have:=bS.new (wr.alloc<|Cv #[Iv u,Iv v,Fv t1<|Av x1,Fv t2<|Av x2] 255)<|qC c<|wr.heap.size+1;simpa using this) ag PP1 (SP j bm) ?_ ae (by rw[uh EN];omega);intro T3 g3 ta3 xa3 s3 c3 kb3 w3 H hm3 z3;clear d0 d1 d2 d3;have⟨⟨_,b1,b2,b3⟩,_⟩:=H.p;go_wp2_with fail;refine(de _ _).mono ?_;rintro e w4⟨rfl,K4⟩;have H:=H.af K4;clear b1 b2 b3;have⟨⟨_,b1,b2,b3⟩,_⟩:=H.p;go_wp2_with fail;refine H.eq (S:=900000) (H.p.1.1.1.1.le ae) (H.p.2.1.1.le ae) H.p.1.1.1.2 H.p.2.1.2 ?_;intro b5 s5 w5 H;clear b1 b2 b3;have⟨⟨_,b1,b2,b3⟩,_⟩:=H.p
   replace hm3:=ai hm3
   go_wp2_with fail;go_cut[16,17]from 56 to 75 (λv16 v17 wc=>∃T6 s6 c6 X9 X_ W4,v16=Mv W4/\v17=Fv X9 X_/\gO n0 M c w cnt s Λ Γ gb Q dom (1000*cD (aP<|A.drop<|j+1)) (qf (qx (.var<|ah+1) T6 (qp A[j].2)<|qs A[j].2) λ_=>mV c.mks Γ T1 (.var<|ah+1) A<|j+1) (λw' s=>(((TW w' (dw c) (1100*nn x) T1 (Fv yT yU)/\qg Λ s T1)/\qg Λ s (.var<|ah+1))/\Bx w' wr.heap.size #[Iv u,Iv v,Fv t1<|Av x1,Fv t2<|Av x2])/\TW w' (dw c) (1100*nn A[j].2) T6 (Fv X9 X_)/\qg Λ s T6) s6 c6 W4 wc)
   case first=>
    go_region_with(first
     |(go_at_call 231;go_loud(refine(Ct ((H.wg.fr H.f H.st.p.run).e.af (xn _ _).drew)<|H.p.2.2.1.af (xn _ _).drew).mono ?_);rintro e w6⟨b6,rfl,z6,h6,k6⟩;have K6:=ai<|(xn w5.heap.size w5).drew.trans k6;have⟨⟨_,d1,d2,d3⟩,_⟩:=(H.af K6).p;have E6:=ai h6;have Z6:=ai z6;clear k6 h6 z6)
     |(go_at_call 223;go_loud(refine H.exG (D2:=1000*cD (aP<|A.drop<|j+1)) K6 (He j bm) ⟨H.we.af K6,H.st.k.af K6,H.st.n,(H.wg.fr H.f H.st.p.run).over (SP j bm) hm3 H.p.2.2.2 E6 (by have z:=uh Z6;have:=H.we.dt;have q:w5.heap.size<=b6:=z;omega),(PE2.move H.f.size (λb p z=>H.f.block b z<|H.hq b p)<|λ_ p _=>p).af K6,H.hq,SE j bm,LU (SP j bm) hm3 H.hd,H.ft.le qBw (by rw[uh EN];omega),H.mf⟩ ?_ ae);intro T6 X9 X_ s6 c6 W4 w7 H7))
    all_goals(
     go_wp2_with fail
     go_meet
     case rel=>exact⟨_,_,_,_,_,_,rfl,rfl,H7.imp λ_ _ h=>⟨h.1.1,h.2⟩⟩)
   case rest=>
    obtain⟨T6,s6,c6,X9,X_,W4,rfl,rfl,H⟩:=hcut;clear b1 b2 b3;have⟨⟨_,b1,b2,b3⟩,_⟩:=H.p;go_wp2_with fail;refine(de _ _).mono ?_;rintro e w8⟨rfl,K8⟩;have H:=H.af K8;go_wp2_with fail;refine H.eq (S:=900000) (pO w8 c ah _ ae) (H.p.2.1.le ae) H.p.1.1.2 H.p.2.2 ?_;intro b9 s9 w9 H
    go_wp2
    go_roundg(A.length-(j+1))
    case measure=>rw[uh dl];omega
    case rel=>exact⟨j+1,_,_,_,ai rfl,xc bm,rfl,jP,H.imp λ_ _ h=>h.1.1⟩
  .have bA:¬(j:Int)<(A.length:Int):=ae;have ej:j=A.length:=ae;subst ej;have H:=H.to λo q=>LS c.mks Γ T1 (.var<|ah+1) A sj o q
   go_wp2
   go_ret2;exact H.ret (pO wr c ah 1<|br _) (by rw[uh EN];omega)
end
section
variable {cnt:Nat}
def abX(mk:j7)s n x y f t a(Γ:j6)(hv:vars [] (bt []<|es y).1=[]):qe mk (.mk 14 s n [x,y] f t a) Γ=qf (qe mk x Γ) λa=>qf (qx a (bt []<|es y).1 (qp x)<|qs x) λ_=>In.cZ (bt []<|es y).1:=by simp[qe,In.kZ,In.rh,In.di,In.j_,hv]
def Ya{t a}{y}(Hx:Bv x)(h:CB (.mk 14 st n [x,y] f t a) c w cnt s kb Λ Γ gb Q dom (.iface 224<|.agg #[Nv f,Nv t,vx,vy]))(hx:PE w Q x vx)(hy:PT w Q y vy):
 Cq 239 #[Pv c.eb,Mv kb,Mv gb,.agg #[Nv f,Nv t,vx,vy]] w (aZ c (1100*nn (.mk 14 st n [x,y] f t a)) (1000*nn (.mk 14 st n [x,y] f t a)) (qe c.mks (.mk 14 st n [x,y] f t a) Γ) s cnt w):=by
 have en:nn (.mk 14 st n [x,y] f t a)=1+nn x+nn y:=Mu;obtain⟨sx,hv,hz,hw⟩:ScE c.mks c.nl dom x/\vars [] (bt []<|es y).1=[]/\size (bt []<|es y).1<=1000/\Whole (bt []<|es y).1:=by
  cases h.sc with
  |of _ _ _ _ _ _ _ _ hx hv hz hw=>exact⟨hx,hv,hz,hw⟩|two _ _ _ _ _ _ _ _ _ hk=>omega|lt _ _ _ _ _ _ _ _ _ _ hk=>omega
 obtain⟨n0,em⟩:=afo hy [] (λm o=>by have:=In.aC.2 o;rw[hv]at this;cases this) hz;have ei:=abX c.mks st n x y f t a Γ hv;rw[em]at hz hw hv ei;obtain⟨M,hM⟩:∃M,M=m0 y:=⟨_,rfl⟩;have Be:=afp y n0;unfold FC at Be;rw[<-hM]at hv hz hw Be ei;dsimp only at hv hz hw ei;have tiM:∀s,qg Λ s M:=λs=>by
  have nU:∀m,¬aw m M:=λm o=>by have:=In.aC.2 o;rw[hv]at this;cases this
  refine⟨λm o=>(nU m o).elim,λm o=>?_⟩;obtain⟨m',o1,_⟩:=(qm _).1 o;exact(nU m' o1).elim
 have hny:=FY y;have Ea:=FY x;have fb:=h.ft.b;rw[en]at fb;have H:=gO.start h ei
 replace en:=ai en
 clear h ei hM em;have HX:=ai hx;have HY:=ai hy;have TI:=ai tiM;have PR:=ai<|And.intro hw hz;obtain⟨tx,ax,rfl⟩:=hx.iface;obtain⟨ty,ay,rfl⟩:=hy.bQ;have Mx:=hx.place;dsimp only[PlF]at Mx;clear hx hy tiM hv hw hz;go_enter func239,ntmps239;go_wp2_with fail;refine H.box.ex (D2:=1000) Hx HX sx ?_ qS qS;intro T1 yT yU s1 ah iV w1 H;obtain⟨⟨_,b1,b2,b3⟩,_⟩:=H.p;have HO:=Be w1 Q _<|HY.fr H.f<|λb p _=>H.hq b p;have z1:=H.we.dt;go_wp2_with fail;refine HO.mono ?_;rintro e w2⟨u2,rfl,wL,F2⟩;obtain⟨tu,xu,rfl⟩:=wL.iface;have TM:=TW.of (wL.w.wide λb p=>by show b≠c.cb;have:w1.heap.size<=b:=p;omega) PR.1 PR.2;have H:=(H.af ⟨F2.os,F2.tape,F2.output,F2.size,λb z=>F2.block b z id⟩).add λw' _ f _=>TM.fr f<|λ_ p _=>p;clear b1 b2 b3 wL TM HO;obtain⟨⟨⟨_,b1,b2,b3⟩,_⟩,_⟩:=H.p;go_wp2_with fail;refine(de _ _).mono ?_;rintro e w4⟨rfl,K4⟩;have H:=H.af K4;go_wp2_with fail;refine H.eq (S:=900000) (H.p.1.2.1.le ae) (H.p.2.le ae) H.p.1.2.2 (TI _) ?_;intro kb5 s5 w5 H
 go_wp2
 go_ret2;exact H.ret H.p.2 qS
end
structure BdA rc st x c w cnt(s:jy)kb(Λ:Nat->Prop)(Γ:j6)gb Q(dom:BA->Prop)v:Prop where
 we:WE w c cnt
 wk:WK w c cnt s kb
 hn:∀n,¬s.u n->Λ n
 wg:WG w c s Λ Γ gb
 pe:PE w Q x v
 hq:∀b,Q b->b≠c.cb
 sc:ScE c.mks c.nl (λv=>dom v\/(rc=true/\v=st)) x
 hd:∀x,dom x->Γ x≠none
 ft:Fit c cnt (1+nn x)
 mf:MkFine c.mks
 jQ:st∈c.nl
section
variable {cnt:Nat}
def BdA.af{rc}{st}{x}{v}{w1}(h:BdA rc st x c w cnt s kb Λ Γ gb Q dom v)(hb:Bq w w1):BdA rc st x c w1 cnt s kb Λ Γ gb Q dom v:=
 ⟨h.we.af hb,h.wk.af hb,h.hn,h.wg.af hb,h.pe.af hb,h.hq,h.sc,h.hd,h.ft,h.mf,h.jQ⟩
def X7{a:Nat}(Hx:Bv x)(h:BdA false st x c w cnt s kb Λ Γ gb Q dom vx):
 Cq 213 #[Pv c.eb,Mv kb,Mv gb,.agg #[.bool false,Nv a,Nv y,.string st,vx]] w (aZ c (1100*(1+nn x)) (1000*(1+nn x)) (j9 false st x (qe c.mks x) Γ) s cnt w):=by
 have k0:Bq w (w.alloc<|Cv #[.bool false,Nv a,Nv y,Sv st,vx] 83):=bw _;have h1:=h.af k0;have H1:=Hx c _ cnt s kb Λ Γ gb Q _ vx ⟨h1.we,h1.wk,h1.hn,h1.wg,h1.pe,h1.hq,h1.sc,λv q=>h1.hd v (q.resolve_right λr=>by cases r.1),h1.ft.le ae ae,h1.mf⟩;have K0:=ai k0;obtain⟨tx,ax,rfl⟩:=h.pe.iface;go_enter func213,ntmps213;go_wp2_with fail;refine H1.mono ?_;intro e w1 hp;obtain⟨ah,zz,vl,vr,rfl,q1⟩|⟨ah,T1,s1,yT,yU,iV,rfl,q1⟩:=hp.split
 .clear hp
  go_wp2
  exact⟨rfl,(Fr.of K0).trans q1.F,ah,.error zz,q1.c1,by have:=q1.c2;omega,q1.we,q1.m,vl,vr,rfl,q1.f⟩
 .have QQ:=ai q1
  go_wp2
  go_ret2;have q1:=uh QQ;exact⟨(Fr.of K0).trans q1.F,ah,.ok (T1,s1),q1.c1,by have:=q1.c2;omega,q1.we,q1.m,q1.u,q1.wh,yT,yU,iV,rfl,q1.n,q1.k,q1.t.le ae⟩
def Ep st x pe(Γ:j6):j9 true st x pe Γ=qf In.jZ λv=>qf (pe<|qw Γ st<|In.mono<|.var v) λt=>qf (qx (.var v) t (qp x)<|qs x) λ_=>In.cZ t:=by simp[j9]
def BdA.at{rc}{M}(h:BdA rc st x c w cnt s kb Λ Γ gb Q dom v)(e:M=q):gO (1+nn x) M c w cnt s Λ Γ gb Q dom (1000*(1+nn x)) q (λ_ _=>True) s cnt kb w:=⟨h.wg,h.hq,h.hd,h.ft,h.mf,Fr.refl _ _,h.we,⟨h.wk,h.hn,In.Kp.refl h.wk.ok h.hn⟩,λ_ _ h=>e▸h,λ_ _ _ _=>trivial,br _⟩
def X8{a:Nat}(Hx:Bv x)(h:BdA true st x c w cnt s kb Λ Γ gb Q dom vx):
 Cq 213 #[Pv c.eb,Mv kb,Mv gb,.agg #[.bool true,Nv a,Nv y,.string st,vx]] w (aZ c (1100*(1+nn x)) (1000*(1+nn x)) (j9 true st x (qe c.mks x) Γ) s cnt w):=by
 have gL:=yw;have fb:=h.ft.b;have jQ:=h.jQ;have sx:=ai h.sc;obtain⟨tx,ax,rfl⟩:=h.pe.iface;have HX:=ai h.pe;have Mx:=h.pe.place;have H:=h.at<|Ep st x (In.inf c.mks x) Γ;dsimp only[PlF]at Mx;clear h;have⟨e1,e2,e3⟩:=H.we.bx;go_enter func213,ntmps213;go_wp2_with fail;refine H.box.new (D2:=1000*nn x+999) ?_ ae;intro s3 w3 H;clear e1 e2 e3;have⟨⟨_,b1,b2,b3⟩,_⟩:=H.p;go_wp2_with fail;go_cut[11,1]from 12 (λvt vk wc=>∃T6 s6 Iy X9 X_ W4,vt=Fv X9 X_/\vk=Mv W4/\gO (1+nn x) (In.bX true st x (In.inf c.mks x) Γ) c w cnt s Λ Γ gb Q dom 999 (In.andM (In.ur (.var<|cnt+1) T6 (In.iJ x)<|In.xD x) λ_=>In.cZ T6) (λw' s=>((True/\Bx w' w.heap.size #[.bool true,Nv a,Nv y,Sv st,Fv tx<|Av ax])/\In.cA Λ s (.var<|cnt+1))/\TW w' (dw c) (1100*nn x) T6 (Fv X9 X_)/\In.cA Λ s T6) s6 Iy W4 wc)
 case first=>
  go_region_with(first
   |(go_at_call 219;go_loud(refine(x_ ((H.wg.fr H.f H.st.p.run).e.af (xn _ _).drew) st<|Ik (pO w3.drew c cnt 1<|br _) ae).mono ?_);rintro e w5⟨b5,rfl,z5,h5,k5⟩;have K5:=ai<|(xn w3.heap.size w3).drew.trans k5;have⟨⟨_,d1,d2,d3⟩,_⟩:=(H.af K5).p;have E5:=ai h5;have Z5:=ai z5;clear k5 h5 z5)
   |(go_at_call 223;go_loud(refine H.exG (D2:=999) K5 Hx (H.asks K5 E5 Z5 H.p.2.mono List.nodup_nil jQ HX sx (λ_ q=>q.imp id (·.2)) ae ae) ?_);intro T6 X9 X_ s6 Iy W4 w6 H6))
  all_goals
   go_wp2_with fail
   go_meet
   case rel=>exact⟨_,_,_,_,_,_,rfl,rfl,H6⟩
 case rest=>
  obtain⟨T6,s6,Iy,X9,X_,W4,rfl,rfl,H⟩:=hcut;clear b1 b2 b3;have⟨⟨⟨_,b1,b2,b3⟩,_⟩,_⟩:=H.p;go_wp2_with fail;refine(de _ _).mono ?_;rintro e w7⟨rfl,K7⟩;have H:=H.af K7;go_wp2_with fail;refine H.eq (S:=900000) (pO w7 c cnt _ ae) (H.p.2.1.le ae) H.p.1.2 H.p.2.2 ?_;intro kb8 s8 w8 H
  go_wp2
  go_ret2;exact H.ret H.p.2.1 ae
end
structure WT w c cnt(u:Nat->Prop)(Γ:j6):Prop where
 we:WE w c cnt
 e:bS w (λi=>i≠c.cb/\i≠c.eb) c.nb Γ
 n:c.nb≠c.cb/\c.nb≠c.eb
 hu:∀n,u n->us cnt n
 top:In.Ye ⟨Ty.var,u⟩ Γ
 dm:∀x,Γ x≠none->x∈c.nl
structure LtA rc st x c w cnt u(Γ:j6)Q(dom:BA->Prop)v:Prop where
 wt:WT w c cnt u Γ
 pe:PE w Q x v
 hq:∀b,Q b->b≠c.cb/\b≠c.eb
 sc:ScE c.mks c.nl (λv=>dom v\/(rc=true/\v=st)) x
 hd:∀x,dom x->Γ x≠none
 ft:Fit c cnt (1+nn x)
 mf:MkFine c.mks
 jQ:st∈c.nl
def T9{p:Prop}(h:p:=by
 induction h with
 |var n=>exact .var n|aM c L sa sc vs hc aO hr ih=>
  refine .aM c L sa sc vs hc ?_ ih;obtain h0|⟨g,h1,h2,h3,h4⟩:=aO
  .exact qy h0
  .by_cases h0:L=[]
   .exact qy h0
   .refine qz ⟨g,h1,⟨h2,λe=>?_⟩,h3,h4⟩;have hl:=List.length_pos_iff.2 h0;have q:=h4 0 hl;rw[e,hb]at q;injection q with q;obtain⟨a,y,r⟩:=(hr 0 hl).iface
    exact hx a y<|q.trans r):p:=h
def db.not{x:Value}(h:db w P t v)(hb:w.cell? ⟨b,0,none⟩=some x)(hx:∀a y,x≠.iface a y):db w (λi=>P i/\i≠b) t v:=by
 exact T9
def dW.not{x:Value}(h:dW w P t v)(hb:w.cell? ⟨b,0,none⟩=some x)(hx:∀a y,x≠.iface a y):dW w (λi=>P i/\i≠b) t v:=by
 exact T9
def ru.hv{z:In.Ft}{vl vr:Value}(h:ru w P z vl vr):(vl=.nilIface/\vr=.nilIface)\/∃a b c d,vl=.iface a b/\vr=.iface c d:=by
 obtain k|k:=h.k
 .have⟨h1,h2⟩:=h.apart k;have⟨a,b,e1⟩:=h1.iface;have⟨c,d,e2⟩:=h2.iface;exact qz ⟨a,b,c,d,e1,e2⟩
 .exact qy (h.qN k)
def ru.one{w w':World}{P:Nat->Prop}{z:In.Ft}{vl vr x:Value}{b:Nat}(h:ru w P z vl vr)(hb:w.cell? ⟨b,0,none⟩=some x)(hx:∀a y,x≠.iface a y)(hf:Fr (λi=>i=b) w w'):ru w' P z vl vr:=
 ⟨h.qN,λk=>⟨((h.apart k).1.not hb hx).move hf.size (λi p q=>hf.block i q p.2)<|λ_ p _=>p.1,((h.apart k).2.not hb hx).move hf.size (λi p q=>hf.block i q p.2)<|λ_ p _=>p.1⟩,h.k⟩
abbrev Ca(f:Fl)(vl vr:Value):Value:=.agg #[Nv f.kind,Nv f.al,Nv f.to,vl,vr]
def Yb c cnt u(Γ:j6)rc st a y x w(e:Ending)w':=Fr (λi=>i=c.cb\/i=c.eb) w w'/\∃o,j9 rc st x (qe c.mks x) Γ ⟨Ty.var,u⟩ o/\match o with
 |.error z=>∃vl vr,e=.returned (.tuple #[.nilIface,Ca z.f vl vr])/\ru w' (dw c) z vl vr
 |.ok (t,s)=>(48<size (sub s.k t)/\e=.returned (.tuple #[.nilIface,Ca ⟨7,a,y⟩ .nilIface .nilIface]))\/
  (size (sub s.k t)<=48/\∃T ta xa aD Wh,T=(if In.sg x then sub s.k t else qr (sub s.k t))/\e=.returned (.tuple #[.iface ta xa,.agg My])/\db w' (dw c) T (.iface ta xa)/\Whole T/\aD<=cnt+1000*(1+nn x)/\WT w' {c with nb:=Wh} aD s.u (qw Γ st ⟨T,vars [] T⟩))
def m5.not{w}{P}{mb b}{mk}{x}(h:m5 w P mb mk)(hb:w.cell? ⟨b,0,none⟩=some x)(hx:∀a y,x≠.iface a y):m5 w (λi=>P i/\i≠b) mb mk:=by
 obtain⟨L,h1,h2,h3⟩:=h;refine⟨L,h1,h2,λk v hk=>?_⟩;obtain⟨tk,m,e,sa,sc,ta,xa,rfl,q1,q2⟩:=h3 k v hk;refine⟨tk,m,e,sa,sc,ta,xa,rfl,?_,q2.not hb hx⟩;obtain q1|⟨g,vs,q3,q4,q5,q6⟩:=q1
 .exact qy q1
 .by_cases h0:tk=[]
  .exact qy h0
  .have hl:=List.length_pos_iff.2 h0;refine qz ⟨g,vs,q3,⟨q4,λe=>?_⟩,q5,λi hi=>⟨(q6 i hi).1,(q6 i hi).2.not hb hx⟩⟩;have⟨q7,q8⟩:=q6 0 hl;rw[e,hb]at q7;injection q7 with q7;have⟨a,y,r⟩:=q8.iface;exact hx a y<|q7.trans r
def MG.bE{enc}{L:List (κ×Value)}(h:MG enc w b L)(o:Nat):w.cell? ⟨b,o,none⟩=none:=by
 obtain⟨es,c,h1,_⟩:=h;simp[World.cell?,h1]
def GO{p:Prop}(h:p:=by
 have:=h.bx.c 0;rw[<-e]at this
 exact absurd this (by rw[hM.bE 0];simp)):p:=h
def WE.put{cnt}(h:WE w c cnt)(hf:Fr (λi=>i=c.eb\/c.fZ<=i) w w')(he:Bx w' c.eb (afY {c with nb:=nb})):WE w' {c with nb:=nb} cnt:=by
 have⟨l1,l2,l3,l4,l5⟩:=h.l;have⟨d1,d2,d3⟩:=h.d;have ne1:c.rb≠c.eb:=λe=>by
  have⟨L,hM,_⟩:=h.rs;exact GO
 have ne2:c.mb≠c.eb:=λe=>by
  have⟨L,hM,_⟩:=h.ms;exact GO
 refine⟨he,h.ct.fr hf ae,h.rs.same<|hf.block _ h.rs.lt ae,?_,h.d,⟨l1,l2,l3,l4,xd l5 hf.size⟩⟩;exact(h.ms.not (h.bx.c 0) ag).move hf.size (hf.block _ h.ms.lt ae) (λb p z=>hf.block b z (by have:=p;omega)) (λb p _=>p.1)
mutual
def Bf:∀t,size (sub (λ_=>qt) t)=size t
 |.var n=>by simp[sub,size,ak]|.aM c l=>by simp only[sub,size,wZ l]
def wZ:∀l,ak (aT (λ_=>qt) l)=ak l
 |[]=>rfl|t::l=>by simp only[aT,ak,Bf t,wZ l]
end
def lp t:size (qr t)=size t:=Bf t
def yZ:Whole qt:=⟨λe=>by have:=congrArg ByteArray.size e;revert this;decide,trivial⟩
def QTy:EQ Ty:=λw P t c=>dW w P t<|c 0
def iG:gy QTy:=by grind[gy,QTy,dW.move]
def vsT(j:Nat):List Ty:=(List.range j).map λi=>.var<|i+1
def ab9 j:vsT (j+1)=vsT j++[.var<|j+1]:=by simp[vsT,List.range_succ]
def p_ j:(vsT j).length=j:=by simp[vsT]
structure TdF(t:xt)(vs:List xt)(ms:List Nd):Prop where
 up:od t.text
 vn:(vs.map (·.text)).Nodup
 vl:vs.length<=900
 vq:∀v∈vs,Q' v.text
 ml:ms.length<=900
 mt:∀i(h:i<ms.length),∃s n L f u a,ms[i]=.mk 2 s n L f u a/\L.length<=900/\∀k(hk:k<L.length),zO L[k]/\(bt (vs.map (·.text)) L[k]).2=vs.map (·.text)/\bt (vs.map (·.text)) (es L[k])=bt (vs.map (·.text)) L[k]
def TO{s:BA}:∀{ns:List BA},s∉ns->ix s ns=ns.length/\ix s (ns++[s])=ns.length
 |[],_=>⟨rfl,by simp[ix]⟩|a::ns,h=>by
  have h1:¬a.toList=s.toList:=λe=>h (by rw[show a=s from by have:=congrArg List.toArray e;cases a;cases s;simp_all[ByteArray.toList_eq]];simp);have⟨h2,h3⟩:=TO (s:=s) (ns:=ns)<|λq=>h qBf;simp[ix,h1,h2,h3]
def Fr.grown{a}{row}(h:Fr S a W)(hg:W.grownBy w' row)(hr:∀b,row=some b->S b\/a.heap.size<=b):Fr S a w':=
 ⟨hg.os.trans h.os,hg.tape.trans h.tape,hg.output.trans h.output,xd h.size hg.size,λk hk hn=>(hg.block k (xg hk h.size) (λe=>by obtain q|q:=hr k e.symm;exact hn q;omega)).trans (h.block k hk hn)⟩
def dq.ty{c}{L:List Ty}(hc:od c)(h:dq QTy 87 1 w base va vc L):dW w (λb=>base<=b) (.aM c L) (.iface 165<|.agg #[.string c,.slice va L.length vc]):=by
 have⟨qG,qH,cs,e,aO,hq⟩:=h.v iG;injection e with e1 _ e2;subst e1 e2;have:=dW.aM (w:=w) (P:=λb=>base<=b) c L va vc (λi=>cs i 0) (qz<|qz hc) (aO.imp id λ⟨g,q1,q2,q3,q4⟩=>⟨g,q1,q2,q3,λi hi=>by simpa using q4 i hi 0 aB⟩) (λi hi=>hq i hi)
 rwa[fh hc]at this
def dq.al7{L:List Ty}(h:dq QTy 87 1 w base va vc L):XC w (λb=>base<=b) va L:=by
 have⟨qG,qH,cs,e,aO,hq⟩:=h.v iG;injection e with e1 _ e2;subst e1 e2;exact aO.imp id λ⟨g,q1,q2,q3,q4⟩=>⟨g,λi=>cs i 0,q1,q2,q3,λi hi=>⟨by simpa using q4 i hi 0 aB,hq i hi⟩⟩
def ug:Tryz.prog.underlying 110=some (.map 9 357):=qkr
def xA{ops}{rest}{o}{a}{F}{mk}(hg:o.guard=none)m x v(EB:o.op=Op.insert 110 m x v\/o.op=Op.mapUpdate 110 m x v)(hm:a.eval m=Mv b)(h:m5 w P b mk)(hP:¬P b){tk}{mt}{u}(hc:WY w P tk mt u)n(hx:a.eval x=.string n)(hv:a.eval v=u)(hK:∀w',m5 w' P b (λy=>if y=n then some (tk,mt)else mk y)->One b w w'->wpList xw ops F rest (a.put o.dst undef) w'):
 wpList xw ops F (o::rest) a w:=by
 obtain⟨L,h1,h2,h3⟩:=h;refine cu PW ug hg m x v EB hm h1 n u hx hv λw' hM o=>hK w' ⟨_,hM,λy hy=>?_,λy z hy=>?_⟩ o
 .rw[aN]at hy;by_cases e:n=y
  .grind
  .grind
 .have mv:∀{tk m v},WY w P tk m v->WY w' P tk m v:=λh=>h.move Mn (λx p _=>o.block x<|λe=>hP<|e▸p)<|λ_ p _=>p;rw[aN]at hy;by_cases e:n=y
  .grind
  .grind
def Bo(t:xt)(vs:List xt)(m:Nd):∀(l:List Nd)(mk:j7),jz t vs (l++[m]) mk=λy=>if y=qv m then some (In.Kr (vs.map (·.text)) m,qh t vs)else jz t vs l mk y
 |[],mk=>rfl|x::l,mk=>by
  show jz t vs (l++[m]) _=_;rw[Bo t vs m l];rfl
def TP ns(L:List Nd):=L.map λx=>(bt ns x).1
def ab_{ns:List BA}:∀{L:List Nd},(∀k(hk:k<L.length),(bt ns L[k]).2=ns/\bt ns (es L[k])=bt ns L[k])->aI ns (dI L)=(TP ns L,ns)
 |[],_=>rfl|x::l,h=>by
  have⟨h1,h2⟩:=h 0 ag;have h1:(bt ns x).2=ns:=h1;have h2:bt ns (es x)=bt ns x:=h2;have h3:=ab_ (L:=l) λk hk=>h (k+1) bF;simp[dI,aI,h2,h1,h3,TP]
def aca(h:k<L.length):TP ns (L.take<|k+1)=TP ns (L.take k)++[(bt ns L[k]).1]:=by
 rw[TP];rw[ja h,jf];rfl
def aeI(h:k<=L.length):(TP ns<|L.take k).length=k:=by grind[TP]
def al8 w7 B p4 mm kb fb cb mb(t:xt)(vs:List xt)(ms:List Nd)va vc gk v wr:=
 ∃(j:Nat),Hid (gk=ms.length-j)/\j<=ms.length/\v=Nv j/\NM wr kb fb cb mb (vs.map (·.text))/\Bx wr p4 #[.string t.text,.slice va vs.length vc]/\dW wr (λi=>B<=i/\i≠cb/\i≠mb/\i≠mm) (qh t vs) (.iface 165<|.agg #[.string t.text,.slice va vs.length vc])/\m5 wr (λi=>B<=i/\i≠cb/\i≠mb/\i≠mm) mm (jz t vs (ms.take j) λ_=>none)/\Fr (λi=>i=cb\/i=mb\/i=mm) w7 wr
def al9 w8 p10 kb fb cb mb(vs:List xt)(L:List Nd)mv gk v wr:=
 ∃(j:Nat)(va:Option Addr)(vc:Nat),Hid (gk=L.length-j)/\j<=L.length/\v=Nv j/\NM wr kb fb cb mb (vs.map (·.text))/\Bx wr p10 #[.slice va j vc,mv]/\dq QTy 87 1 wr w8.heap.size va vc (TP (vs.map (·.text))<|L.take j)/\Fr (λi=>i=cb\/i=mb\/i=p10) w8 wr
def al_ w0 p4 kb fb cb mb(t:xt)(vs:List xt)gk v wr:=
 ∃(j:Nat)(va:Option Addr)(vc:Nat),Hid (gk=vs.length-j)/\j<=vs.length/\v=Nv j/\NM wr kb fb cb mb ((vs.map (·.text)).take j)/\Bx wr p4 #[.string t.text,.slice va j vc]/\dq QTy 87 1 wr w0.heap.size va vc (vsT j)/\Fr (λi=>i=cb\/i=mb\/i=p4) w0 wr
def L9{t}{vs}{f u}(hv:RowV QName 3 w P vs vv)(hm:RowV QMaker 6 w P ms vm)(hd:TdF t vs ms):
 Calls xw 222 #[.agg #[.int .i64 f,.int .i64 u,.int .i64 (t.al:Int),.int .i64 (t.to:Int),.string t.text,vv,vm]] w (λe w'=>∃b,e=.returned (.map<|some b)/\Below w.heap.size w w'/\w.heap.size<=b/\m5 w' (λi=>w.heap.size<=i) b (jz t vs ms λ_=>none)):=by
 obtain⟨pa,pc,cs,rfl,HR,HQ⟩:=hv;obtain⟨ma,mc,ds,rfl,HRM,HQM⟩:=hm;have hl:=hd.vl;have jA:= @run_makeMap Tryz.prog;have⟨i0,yq,oR,nu,iZ⟩:=info_parts gE;have⟨k0,B0⟩:=rq w #[.int .i64 f,.int .i64 u,.int .i64 (t.al:Int),.int .i64 (t.to:Int),Sv t.text,Lv pa vs.length pc,Lv ma ms.length mc] 78;have K0:=ai k0;clear k0;go_enter func222,ntmps222;go_wp2_with fail;refine(Er).mono ?_;rintro e w1⟨rfl,yd⟩;have k1:Below (w.alloc<|Cv #[.int .i64 f,.int .i64 u,.int .i64 (t.al:Int),.int .i64 (t.to:Int),Sv t.text,Lv pa vs.length pc,Lv ma ms.length mc] 78).heap.size (w.alloc<|Cv #[.int .i64 f,.int .i64 u,.int .i64 (t.al:Int),.int .i64 (t.to:Int),Sv t.text,Lv pa vs.length pc,Lv ma ms.length mc] 78) w1:=by rw[yd];exact bw _
 have C1:Bx w1 (w.heap.size+1) #[.int .i64 0]:=by rw[yd];have:=zh (w.alloc<|Cv #[.int .i64 f,.int .i64 u,.int .i64 (t.al:Int),.int .i64 (t.to:Int),Sv t.text,Lv pa vs.length pc,Lv ma ms.length mc] 78) #[.int .i64 0] 3;simpa using this
 have B1:=B0.below k1;have K1:=K0.trans<|k1.mono K0.size;have HN:=adr _ C1;have zw1:w1.heap.size=w.heap.size+2:=by rw[yd];simp
 clear yd k1 C1 B0 K0;go_wp2_with fail;refine HN.mono ?_;rintro e w2⟨kb,fb,mb,rfl,nm,k2,zmb⟩;clear HN;have⟨b1,b2,b3⟩:=B1.below k2;have K2:=K1.trans<|k2.mono K1.size;have B2:=B1.below k2;have NM2:=ai nm;have⟨y1,y2,y3,y4⟩:=nm.lt;have zz2:=B2.z;have zc1:=K1.size;clear nm k2 B1;go_wp2_with fail;obtain⟨w3,uy⟩:∃w3,w3=w2.alloc (Cv #[Sv t.text,Lv none 0 0] 165):=⟨_,rfl⟩;have k3:Below w2.heap.size w2 w3:=by rw[uy];exact bw _
 have P3':Bx w3 w2.heap.size #[Sv t.text,Lv none 0 0]:=by rw[uy];exact zh w2 #[Sv t.text,Lv none 0 0] 165
 have z3:w3.heap.size=w2.heap.size+1:=by rw[uy];simp
 have NM3:=NM2.af k3;have B3:=B2.below k3;have K3:=K2.trans<|k3.mono K2.size;rw[<-uy];clear uy k3 NM2 B2 K2;go_loopg[22] vs.length (λgk v wr=>al_ w3 w2.heap.size kb fb (w.heap.size+1) mb t vs gk v wr)
 case atStart=>exact⟨0,none,0,ai ag,xh _,rfl,by simpa using NM3,P3',by simpa[vsT]using dq.nil QTy 87 1 w3 w3.heap.size,Fr.refl _ _⟩
 case round=>
  obtain⟨j,va,vc,dl,hj,rfl,nm,p4,ro,FR3⟩:=hrel;have zr:=FR3.size;by_cases bm:j<vs.length
  .have bA:(j:Int)<(vs.length:Int):=ae;have It:(0:Int)<=(j:Int):=ae;obtain⟨g,rfl,hPg,k9,bY⟩:=HR.resolve_left<|λe=>qBs;obtain⟨q0,q1,q2,ama,-⟩:=HQ j bm;have mw:∀o,wr.cell? ⟨g,o,none⟩=w.cell? ⟨g,o,none⟩:=λo=>(xk (a:=⟨g,o,none⟩)<|FR3.block g (by have:=K3.size;omega) ae).trans<|xk (a:=⟨g,o,none⟩)<|K3.block g k9;have d0:wr.cell? ⟨g,j*3,none⟩=some (.int .i64 (vs[j].al:Int)):=by rw[mw];exact(bY j bm 0 aB).trans (congrArg some q0)
   have d1:wr.cell? ⟨g,j*3+1,none⟩=some (.int .i64 (vs[j].to:Int)):=by rw[mw];exact(bY j bm 1 aB).trans (congrArg some q1)
   have d2:wr.cell? ⟨g,j*3+2,none⟩=some (Sv<|tl vs[j].text):=by rw[mw];exact(bY j bm 2 aB).trans (congrArg some q2)
   obtain⟨s,hs⟩:∃s,s=vs[j].text:=⟨_,rfl⟩;have hsn:s∉(vs.map (·.text)).take j:=by
    have hn:=hd.vn;have e:(vs.map (·.text))=(vs.map (·.text)).take j++(vs.map (·.text)).drop j:=(ji _ _).symm;rw[e,List.nodup_append]at hn;intro q;refine hn.2.2 s q s ?_ rfl;rw[jj (show j<(vs.map (·.text)).length by simpa using bm),hs];simp
   have hln:((vs.map (·.text)).take j).length=j:=bF;have hix:=TO hsn;have had:qJ s ((vs.map (·.text)).take j)=(vs.map (·.text)).take (j+1):=by
    rw[qJ];rw[hix.1,if_neg ae,ja (show j<(vs.map (·.text)).length by simpa using bm),hs];simp
   have akz:ix s (qJ s ((vs.map (·.text)).take j))=j:=by
    rw[qJ];rw[hix.1,if_neg ae,hix.2,hln]
   have HNA:∀W:World,Below wr.heap.size wr W->Calls xw 251 #[Sv<|tl s,.pointer<|some ⟨kb,0,none⟩,.pointer<|some ⟨fb,0,none⟩] W (λe w'=>e=Rv (Fv 152<|.int .i64<|(j:Int)+1)/\NM w' kb fb (w.heap.size+1) mb ((vs.map (·.text)).take<|j+1)/\Fr (Two (w.heap.size+1) mb) W w'):=λW hb=>by
    refine(J4 (nm.af hb) s (by rw[hs];exact ama) ae).mono ?_;rintro e w'⟨rfl,h2,h3⟩;rw[akz,had]at*;exact⟨rfl,h2,h3⟩
   rw[<-hs]at d2;obtain⟨fr0,akA⟩:∃x:Int,x=(vs[j].al:Int):=⟨_,rfl⟩;obtain⟨to0,akB⟩:∃x:Int,x=(vs[j].to:Int):=⟨_,rfl⟩;rw[<-akA]at d0;rw[<-akB]at d1;have⟨y1,y2,y3,y4⟩:=nm.lt;have⟨n1,n2,n3,n4,n5⟩:=nm.d1;have P4:=ai p4;have RO:=ai ro;obtain⟨x1,x2,x3⟩:=p4;have zp:=x3;have kA:Below wr.heap.size wr (wr.alloc<|Cv #[.int .i64 fr0,.int .i64 to0,Sv<|tl s] 74):=bw _;obtain⟨wA,hwA⟩:∃wA,wA=wr.alloc (Cv #[.int .i64 fr0,.int .i64 to0,Sv<|tl s] 74):=⟨_,rfl⟩;have A1:wA.cell? ⟨w2.heap.size,1,none⟩=some (Lv va j vc):=by rw[hwA];exact((uh P4).below kA).c 1
   have A2:wA.cell? ⟨wr.heap.size,2,none⟩=some (Sv<|tl s):=by rw[hwA];exact(zh wr #[.int .i64 fr0,.int .i64 to0,Sv<|tl s] 74).c 2
   rw[<-hwA]at kA;have KA:=ai kA;clear nm bY q0 q1 q2 mw hix akz had hsn akA akB hs ro kA hln;go_wp2_with fail;rw[<-hwA];clear hwA d0 d1 d2 x1 x2;have⟨cs',OW,HPE⟩:=uh RO;rw[p_]at OW;have MZ:=fP OW;have zKA:=(uh KA).size;have np4:¬w2.heap.size=w.heap.size+1:=ae;have np5:¬w2.heap.size=mb:=ae
   go_region_law(first
    |(go_simp;go_at_call 251;go_loud(refine(HNA _ KA.drew).mono ?_);rintro e w5⟨rfl,nm5,F5⟩;have B5:=(P4.below KA.drew).fr F5<|λq=>q.elim np4 np5;have A5:w5.cell? ⟨w2.heap.size,1,none⟩=some (Lv va j vc):=B5.c 1;have O5:Hid (w5.ownsRow w3.heap.size 87 1 (Lv va j vc) j<|gU cs' 1 j):=ai (th OW λg hg=>(F5.block g (xg (MZ g hg).2 KA.drew.size) (λq=>by have:=(MZ g hg).1;obtain q|q:=q<;>omega)).trans<|KA.drew.block g (MZ g hg).2);have BB5:=ai B5;have NM5:=ai nm5;have F5':=ai F5;have z5:wA.heap.size<=w5.heap.size:=F5.size;have z25:w2.heap.size<w5.heap.size:= ae;clear B5 nm5 F5;dsimp only)
    |(refine iR rfl (.tmp 27) (.tmp 32) 163 rfl w3.heap.size 87 i0 _ 1 16 eK yq oR nu iZ rfl aB (Lv va j vc) j _ rfl (jR O5<|bw _) ⟨w5.heap.size,0,none⟩ 1 1 [Fv 152<|.int .i64<|(j:Int)+1] rfl rfl (oE _ _ _ _ ag) qAn ZA ae (by simp;have:=KA.size;omega) ?_;intro v6 w6 pG Lj xB;obtain⟨q3,c3,rfl⟩:=tF pG ae;have b5A:=BB5.below<|bw<|Cv #[Fv 152<|.int .i64<|(j:Int)+1] 87;have B6:=b5A.same Lj.size (Lj.block _ b5A.z (λe=>by have:=(MZ _ e.symm).1;omega));have A6:w6.cell? ⟨w2.heap.size,1,none⟩=some (Lv va j vc):=B6.c 1;have A7:w6.frozen? ⟨w2.heap.size,1,none⟩=false:=B6.f 1;have BB6:=ai B6;have OW6:=ai pG;have HG6:=ai Lj;have HL6:=ai xB;clear pG Lj xB b5A B6))
   all_goals(
    go_wp2
    go_roundg(vs.length-(j+1))
    case measure=>rw[uh dl];omega
    case rel=>
     have kA:=(uh KA).drew;have F5:=uh F5';have hg:=uh HG6;have k5:Below w5.heap.size w5 (w5.alloc<|Cv #[Fv 152<|.int .i64<|(j:Int)+1] 87):=bw _;have F56:=(Fr.of k5).grown hg<|λb e=>qy (MZ b e).1;have zA:=kA.size;refine⟨j+1,some ⟨q3,0,none⟩,c3,ai rfl,xc bm,jP,((uh NM5).fr F56<|λb p=>ae).set ae 1 _,(uh BB6).aR 1 _ #[Sv t.text,Lv (some ⟨q3,0,none⟩) (j+1) c3] rfl ag,?_,?_⟩
     .rw[ab9];have PU:=dq.push (Q:=QTy) (et:=87) (sz:=1) (base:=w3.heap.size) (va:=va) (vc:=vc) (L:=vsT j) (w1:=w5) (W:=w5.alloc<|Cv #[Fv 152<|.int .i64<|(j:Int)+1] 87) (w3:=w6) (lo:=w5.heap.size) (q3:=q3) (c3:=c3) (a:=.var<|j+1) (c:=λ_=>Fv 152<|.int .i64<|(j:Int)+1) (cs:=cs') iG
       (λi hi=>iG _ _ _ _ _ _ (HPE i hi) ae (λb p z=>(F5.block b ae (λq=>by have:=p.1;obtain q|q:=q<;>omega)).trans<|kA.block b z)<|λb p z=>⟨p.1,ae,p.2.2⟩)
       (by have:=dW.var (w:=w5) (P:=λb=>w5.heap.size<=b)<|j+1;show dW _ _ _ _;simpa using this) ae (λb e=>by rw[p_]at e;have:=(MZ b e).2;omega) k5 (by rw[p_];exact uh OW6) (by rw[p_];exact hg) (by rw[p_];exact uh HL6)
      exact PU.om iG Dd (λb h1 h2=>xo _ _ _ _ (by show b≠w2.heap.size;omega))
     .have Fa:=(FR3.trans<|Fr.of kA).trans<|F5.fZ λi q=>q.elim qy<|λr=>qz<|qy r
      exact((Fa.trans<|Fr.of k5).grown hg<|λb e=>qz (MZ b e).1).set (qy<|qz<|qz rfl) 1 _)
  .obtain⟨wx,hx⟩:∃wx,wx=wr:=⟨_,rfl⟩;subst hx;have bA:decide ((j:Int)<(vs.length:Int))=false:=bF;have ej:j=vs.length:=ae;subst ej;rw[show(vs.map (·.text)).take vs.length=vs.map (·.text)from by rw[jm];simp]at nm;have ms0:=ro.ty hd.up;rw[p_]at ms0;have zp:=p4.z;obtain⟨wm,hwm⟩:∃wm,wm=wx.alloc (.map #[] 0):=⟨_,rfl⟩;have km:Below wx.heap.size wx wm:=by rw[hwm];exact bw _
   have zm:wm.heap.size=wx.heap.size+1:=by rw[hwm];simp
   have MK0:m5 wm (λi=>w.heap.size<=i/\i≠w.heap.size+1/\i≠mb/\i≠wx.heap.size) wx.heap.size (jz t vs (ms.take 0) λ_=>none):=(by rw[hwm];exact⟨[],MG.new _ wx,λ_ _=>rfl,λx v h=>qBg⟩);have kr:Below w.heap.size w wx:=⟨FR3.os.trans K3.os,FR3.tape.trans K3.tape,FR3.output.trans K3.output,xd K3.size FR3.size,λk hk=>(FR3.block k (by have:=K3.size;omega) ae).trans<|K3.block k hk⟩;have BD:=(B3.fr FR3 ae).below km;have⟨b1,b2,b3⟩:=B3.fr FR3 ae;have NMm:=nm.af km;have P4m:=p4.below km;have MSm:dW wm (λi=>w.heap.size<=i/\i≠w.heap.size+1/\i≠mb/\i≠wx.heap.size) (qh t vs) (Fv 165<|Av #[Sv t.text,Lv va vs.length vc]):=(ms0.move km.size (λb _ z=>km.block b z)<|λb p z=>⟨ae,ae,ae,ae⟩);have KM:=kr.trans<|km.mono kr.size;have⟨n1,n2,n3,n4,n5⟩:=nm.d1;have Y5:=hd.ml;clear nm p4 ro ms0 km kr;go_wp2_with fail;rw[<-hwm];clear hwm b1 b2 b3;go_loopg[40] ms.length (λgk v wq=>al8 wm w.heap.size w2.heap.size wx.heap.size kb fb (w.heap.size+1) mb t vs ms va vc gk v wq)
   case atStart=>exact⟨0,ai ag,xh _,rfl,NMm,P4m,MSm,MK0,Fr.refl _ _⟩
   case round=>
    clear NMm P4m MSm MK0;obtain⟨i,amb,hi,rfl,nm,p4,MKq,MWq,FMq⟩:=hrel;have zq:=FMq.size;by_cases Ni:i<ms.length
    .have ahV:(i:Int)<(ms.length:Int):=ae;have ajk:(0:Int)<=(i:Int):=ae;obtain⟨wq,hx⟩:∃wq,wq=wr:=⟨_,rfl⟩;subst hx;have⟨s,n,L,f',u',a',HEM,hLl,HLT⟩:=hd.mt i Ni;obtain⟨gm,rfl,hPm,hmz,Mo⟩:=HRM.resolve_left (λe=>by subst e;simp at Ni);have⟨s2,m2,L2,f2,t2,a2,y2,vL,e0,e1,e2,e3,e4,e5,e6,wL,hy2,hRL⟩:=HQM i Ni;have e0':=HEM.symm.trans e0;injection e0' with q1 q2 q3 q4 q5 q6 q7;subst q2 q4;obtain⟨la,lc,el,rfl,HRL,hqL⟩:=hRL;have mw:∀o,wq.cell? ⟨gm,o,none⟩=w.cell? ⟨gm,o,none⟩:=λo=>(xk (a:=⟨gm,o,none⟩)<|FMq.block gm (by have:=KM.size;omega) ae).trans<|xk (a:=⟨gm,o,none⟩)<|KM.block gm hmz;have d0:wq.cell? ⟨gm,i*6,none⟩=some (.int .i64 (f2:Int)):=by rw[mw];exact(Mo i Ni 0 aB).trans (congrArg some e1)
     have d1:wq.cell? ⟨gm,i*6+1,none⟩=some (.int .i64 (t2:Int)):=by rw[mw];exact(Mo i Ni 1 aB).trans (congrArg some e2)
     have d2:wq.cell? ⟨gm,i*6+2,none⟩=some (.int .i64 (a2:Int)):=by rw[mw];exact(Mo i Ni 2 aB).trans (congrArg some e3)
     have d3:wq.cell? ⟨gm,i*6+3,none⟩=some (.int .i64 (y2:Int)):=by rw[mw];exact(Mo i Ni 3 aB).trans (congrArg some e4)
     have d4:wq.cell? ⟨gm,i*6+4,none⟩=some (Sv s):=by rw[mw];exact(Mo i Ni 4 aB).trans (congrArg some e5)
     have d5:wq.cell? ⟨gm,i*6+5,none⟩=some (Lv la L.length lc):=by rw[mw];exact(Mo i Ni 5 aB).trans (congrArg some e6)
     obtain⟨w8,hw8⟩:∃w8,w8=(wq.alloc<|Cv #[.int .i64 (f2:Int),.int .i64 (t2:Int),.int .i64 (a2:Int),.int .i64 (y2:Int),Sv s,Lv la L.length lc] 181).alloc (Cv #[Lv none 0 0,Fv 165<|Av #[Sv t.text,Lv va vs.length vc]] 357):=⟨_,rfl⟩;have k8:Below wq.heap.size wq w8:=by rw[hw8];exact(bw _).alloc ag _
     have z8:w8.heap.size=wq.heap.size+2:=by rw[hw8];simp
     have B8:Bx w8 wq.heap.size #[.int .i64 (f2:Int),.int .i64 (t2:Int),.int .i64 (a2:Int),.int .i64 (y2:Int),Sv s,Lv la L.length lc]:=(by rw[hw8];exact(zh wq #[.int .i64 (f2:Int),.int .i64 (t2:Int),.int .i64 (a2:Int),.int .i64 (y2:Int),Sv s,Lv la L.length lc] 181).alloc (Cv #[Lv none 0 0,Fv 165<|Av #[Sv t.text,Lv va vs.length vc]] 357))
     have M8:Bx w8 (wq.heap.size+1) #[Lv none 0 0,Fv 165<|Av #[Sv t.text,Lv va vs.length vc]]:=(by
      rw[hw8];have:=zh (wq.alloc<|Cv #[.int .i64 (f2:Int),.int .i64 (t2:Int),.int .i64 (a2:Int),.int .i64 (y2:Int),Sv s,Lv la L.length lc] 181) #[Lv none 0 0,Fv 165<|Av #[Sv t.text,Lv va vs.length vc]] 357
      simpa using this)
     have NM8:=nm.af k8;have NMq:=ai nm;have P4q:=ai p4;have K8:=ai k8;have HQL:=ai hqL;have zpq:=p4.z;have zmm:=MWq.lt;have⟨v1,v2,v3,v4⟩:=nm.lt;obtain⟨x1,x2,x3⟩:=p4;clear nm k8 hqL e0 e1 e2 e3 e4 e5 e6 q1 q3 q5 q6 q7 mw Mo wL hy2;go_wp2_with fail;rw[<-hw8];clear hw8 d0 d1 d2 d3 d4 d5 x1 x2 x3;go_loopg[50] L.length (λgk v wr=>al9 w8 (wq.heap.size+1) kb fb (w.heap.size+1) mb vs L (Fv 165<|Av #[Sv t.text,Lv va vs.length vc]) gk v wr)
     case atStart=>exact⟨0,none,0,ai ag,xh _,rfl,NM8,M8,by simpa[TP]using dq.nil QTy 87 1 w8 w8.heap.size,Fr.refl _ _⟩
     case round=>
      clear NM8 M8;obtain⟨k,va2,vc2,amc,hk,rfl,NMr,P10,ro,F8⟩:=hrel;have zr:=F8.size;by_cases hkl:k<L.length
      .have amd:(k:Int)<(L.length:Int):=ae;have amU:(0:Int)<=(k:Int):=ae;obtain⟨gl,rfl,hPl,hlz,Uk⟩:=HRL.resolve_left (λe=>by subst e;simp at hkl);have kw8:Below w.heap.size w w8:=by
        have h1:=FMq;have h2:=KM;have h3:=uh K8;exact⟨h3.os.trans<|h1.os.trans h2.os,h3.tape.trans<|h1.tape.trans h2.tape,h3.output.trans<|h1.output.trans h2.output,by have:=h1.size;have:=h2.size;have:=h3.size;omega,λb hb=>(h3.block b (by have:=h1.size;have:=h2.size;omega)).trans<|(h1.block b (by have:=h2.size;omega) ae).trans<|h2.block b hb⟩
       have cgl:wr.cell? ⟨gl,k,none⟩=some (el k 0):=by
        rw[xk (a:=⟨gl,k,none⟩) (w:=w8)<|F8.block gl (by have:=kw8.size;omega) ae,xk (a:=⟨gl,k,none⟩) (w:=w)<|kw8.block gl hlz];simpa using Uk k hkl 0 aB
       have⟨hT1,HT2,hT3⟩:=HLT k hkl;have hpt:PT wr (λb=>P b/\b<w.heap.size) L[k] (el k 0):=(show PT w P L[k] (el k 0)from uh HQL k hkl).move (by have:=kw8.size;omega) (λb p z=>(F8.block b (by have:=kw8.size;omega) ae).trans<|kw8.block b z)<|λb p z=>⟨p,z⟩;have⟨tv,xv,ev⟩:=hpt.bQ;rw[ev]at cgl hpt;have hnl:(vs.map (·.text)).length<=2000:=bF;have Be:∀W:World,Below wr.heap.size wr W->Calls xw 234 #[Fv tv<|Av xv,nmV kb fb] W (λe w'=>∃tu xu,e=Rv (Fv tu xu)/\dW w' (λb=>W.heap.size<=b) (bt (vs.map (·.text)) L[k]).1 (Fv tu xu)/\NM w' kb fb (w.heap.size+1) mb (vs.map (·.text))/\Fr (Two (w.heap.size+1) mb) W w'):=λW hb=>by
        refine(ajm L[k] hT1 W kb fb (w.heap.size+1) mb (vs.map (·.text)) (λb=>P b/\b<w.heap.size) _ (NMr.af hb) (hpt.af hb) (λb q=>ae) (by rw[HT2];exact hnl)).mono ?_;rintro e w'⟨uu,rfl,h2,h3,h4⟩;obtain⟨tu,xu,rfl⟩:=h2.iface;rw[HT2]at h3;exact⟨tu,xu,rfl,h2,h3,h4⟩
       have FR8:=ai F8;have A1:=P10.c 0;have zp:=P10.z;obtain⟨cs',OW,HPE⟩:=ro;have ekl:=aeI (ns:=vs.map (·.text)) hk;rw[ekl]at OW;have MZ:=fP OW;have EKL:=ai ekl;have np4:¬wq.heap.size+1=w.heap.size+1:=ae;have np5:¬wq.heap.size+1=mb:=ae;clear F8 Uk hpt hT1 hT3 ev ekl;go_wp2_with fail;clear cgl
       go_region_law(first
        |(go_simp;go_at_call 234;go_loud(refine(Be _ (xn _ _).drew).mono ?_);rintro e w5⟨tu,xu,rfl,tu5,nm5,F5⟩;have B5:=(P10.below (xn _ _).drew).fr F5<|λq=>q.elim np4 np5;have A5:w5.cell? ⟨wq.heap.size+1,0,none⟩=some (Lv va2 k vc2):=B5.c 0;have O5:Hid (w5.ownsRow w8.heap.size 87 1 (Lv va2 k vc2) k<|gU cs' 1 k):=ai (th OW λg hg=>F5.block g (MZ g hg).2 (λq=>by have:=(MZ g hg).1;obtain q|q:=q<;>omega));have BB5:=ai B5;have NM5:=ai nm5;have F5':=ai F5;have TU5:=ai tu5;have z5:wr.heap.size<=w5.heap.size:=F5.size;have z25:wq.heap.size+1<w5.heap.size:= ae;clear B5 nm5 F5 tu5;dsimp only)
        |(refine iR rfl (.tmp 55) (.tmp 59) 163 rfl w8.heap.size 87 i0 _ 1 16 eK yq oR nu iZ rfl aB (Lv va2 k vc2) k _ rfl (jR O5<|bw _) ⟨w5.heap.size,0,none⟩ 1 1 [Fv tu xu] rfl rfl (oE _ _ _ _ ag) qAn ZA ae bF ?_;intro v6 w6 pG Lj xB;obtain⟨q3,c3,rfl⟩:=tF pG ae;have b5A:=BB5.below<|bw<|Cv #[Fv tu xu] 87;have B6:=b5A.same Lj.size (Lj.block _ b5A.z (λe=>by have:=(MZ _ e.symm).1;omega));have A6:w6.cell? ⟨wq.heap.size+1,0,none⟩=some (Lv va2 k vc2):=B6.c 0;have A7:w6.frozen? ⟨wq.heap.size+1,0,none⟩=false:=B6.f 0;have BB6:=ai B6;have OW6:=ai pG;have HG6:=ai Lj;have HL6:=ai xB;clear pG Lj xB b5A B6))
       all_goals(
        go_wp2
        go_roundg(L.length-(k+1))
        case measure=>rw[uh amc];omega
        case rel=>
         have F5:=uh F5';have hg:=uh HG6;have k5:Below w5.heap.size w5 (w5.alloc<|Cv #[Fv tu xu] 87):=bw _;have F56:=(Fr.of k5).grown hg<|λb e=>qy (MZ b e).1;have ekl:=uh EKL;refine⟨k+1,some ⟨q3,0,none⟩,c3,ai rfl,xc hkl,jP,((uh NM5).fr F56<|λb p=>ae).set ae 0 _,(uh BB6).aR 0 _ #[Lv (some ⟨q3,0,none⟩) (k+1) c3,Fv 165<|Av #[Sv t.text,Lv va vs.length vc]] rfl ag,?_,?_⟩
         .rw[aca hkl];have tu5:=uh TU5;have PU:=dq.push (Q:=QTy) (et:=87) (sz:=1) (base:=w8.heap.size) (va:=va2) (vc:=vc2) (L:=TP (vs.map λv:xt=>v.text)<|L.take k) (w1:=w5) (W:=w5.alloc<|Cv #[Fv tu xu] 87) (w3:=w6) (lo:=wr.heap.size) (q3:=q3) (c3:=c3) (a:=(bt (vs.map λv:xt=>v.text) L[k]).1) (c:=λ_=>Fv tu xu) (cs:=cs') iG
           (λi hi=>iG _ _ _ _ _ _ (HPE i hi) z5 (λb p z=>F5.block b z (λq=>by have:=p.1;obtain q|q:=q<;>omega))<|λb p z=>⟨p.1,ae,p.2.2⟩)
           tu5 ae (λb e=>by rw[ekl]at e;exact(MZ b e).2) k5 (by rw[ekl];exact uh OW6) (by rw[ekl];exact hg) (by rw[ekl];exact uh HL6)
          exact PU.om iG Dd (λb h1 h2=>xo _ _ _ _ (by show b≠wq.heap.size+1;omega))
         .have Fa:Fr (λi=>i=w.heap.size+1\/i=mb\/i=wq.heap.size+1) w8 w5:=((uh FR8).trans<|Fr.of (xn _ _).drew).trans<|F5.fZ λi q=>q.elim qy<|λr=>qz<|qy r
          exact((Fa.trans<|Fr.of k5).grown hg<|λb e=>qz (MZ b e).1).set (qy<|qz<|qz rfl) 0 _)
      .have amd:decide ((k:Int)<(L.length:Int))=false:=bF;have ek:k=L.length:=ae;subst ek;rw[jh]at ro;have ame:(TP (vs.map (·.text)) L).length=L.length:=by simp[TP]
       have k8:=uh K8;have mvr:∀b,(w.heap.size<=b/\b≠w.heap.size+1/\b≠mb/\b≠wx.heap.size)->b<wq.heap.size->wr.heap[b]? =wq.heap[b]? :=λb p z=>(F8.block b ae ae).trans<|k8.block b z;have MV:WY wr (λi=>w.heap.size<=i/\i≠w.heap.size+1/\i≠mb/\i≠wx.heap.size) (TP (vs.map (·.text)) L) (qh t vs) (Av #[Lv va2 L.length vc2,Fv 165<|Av #[Sv t.text,Lv va vs.length vc]]):=⟨va2,vc2,_,_,by rw[ame],ro.al7.move (br _) (λ_ _ _=>rfl)<|λb p z=>⟨ae,ae,ae,ae⟩,MKq.move ae mvr<|λ_ p _=>p⟩;have MWr:=MWq.move ae ((F8.block _ ae ae).trans<|k8.block _ zmm) mvr<|λ_ p _=>p;have MKr:=MKq.move ae mvr<|λ_ p _=>p;have P4r:=(P4q.below k8).fr F8 ae;have FMr:=((FMq.trans<|Fr.of k8).g_ F8 (λb q=>by obtain q|q|q:=q;exact qy<|qy q;exact qy<|qz<|qy q;exact qz ae));obtain⟨x1,x2,x3⟩:=P10;have⟨y1,y2,y3⟩:=B8.fr F8 ae;have Hl:In.Kr (vs.map (·.text)) ms[i]=TP (vs.map (·.text)) L/\qv ms[i]=s:=(by rw[HEM];exact⟨congrArg Prod.fst<|ab_ λk hk=>(HLT k hk).2,rfl⟩);clear ro F8 k8 mvr;go_wp2_with(refine xA rfl _ _ _ (qz rfl) rfl MWr (λq=>q.2.2.2 rfl) MV s rfl rfl ?_;intro w9 H' O';have M9:=ai H';have O9:=ai O';clear H' O');go_roundg(ms.length-(i+1))
       case measure=>rw[uh amb];omega
       case rel=>
        have o:=uh O9;have F9:Fr (λb=>b=wx.heap.size) wr w9:=⟨o.os,o.tape,o.output,Mn,λb _ hb=>o.block b hb⟩;refine⟨i+1,ai rfl,xc Ni,jP,NMr.fr F9 (λb p=>by subst p;omega),P4r.fr F9 ae,MKr.move F9.size (λb p z=>F9.block b z p.2.2.2)<|λ_ p _=>p,?_,FMr.trans<|F9.fZ λb q=>qz<|qz q⟩;rw[ja Ni,Bo,Hl.1,Hl.2];exact uh M9
    .have ahV:decide ((i:Int)<(ms.length:Int))=false:=bF;have ei:i=ms.length:=ae;subst ei;rw[jh]at MWq;have HX:∃b,Rv (.map<|some wx.heap.size)=Rv (.map<|some b)/\Below w.heap.size w wr/\w.heap.size<=b/\m5 wr (λi=>w.heap.size<=i) b (jz t vs ms λ_=>none):=⟨_,rfl,⟨FMq.os.trans KM.os,FMq.tape.trans KM.tape,FMq.output.trans KM.output,xd KM.size FMq.size,λk hk=>(FMq.block k (by have:=KM.size;omega) ae).trans<|KM.block k hk⟩,ae,MWq.move (br _) rfl (λ_ _ _=>rfl) (λb p _=>p.1)⟩;clear nm p4
     go_wp2
     go_ret;exact HX
def lX(a b:j7):j7:=λy=>match a y with
 |some c=>some c|none=>b y
def xC(t:xt)(vs:List xt)(mk:j7):∀(ms:List Nd)(a:j7),jz t vs ms (lX a mk)=lX (jz t vs ms a) mk
 |[],_=>rfl|m::r,a=>by
  show jz t vs r _=lX (jz t vs r _) mk;rw[<-xC t vs mk r];congr 1;funext y;unfold lX;by_cases q:y=qv m
  .simp[q]
  .simp[q]
def Bp(t:xt)(vs:List xt)(mk:j7)ms:jz t vs ms mk=lX (jz t vs ms λ_=>none) mk:=xC t vs mk ms λ_=>none
open Classical in
noncomputable def ovM (Wx m1:j7) (done:List BA) (x:BA):Option (List Ty×Ty):=if x∈done then lX Wx m1 x else m1 x
def ah_ P b1 b2(m1 Wx:j7)L w gk wr:=
 ∃done,IG xq wr w.heap.size b2 L done gk/\m5 wr P b1 (ovM Wx m1 done)/\Fr (λi=>i=b1) w wr
def TR{m1 Wx}(h1:m5 w P b1 m1)(h2:m5 w P b2 Wx)(hP:¬P b1)(bA:∀x,P x->x<w.heap.size)(hn:b1≠b2):
 Cq 221 #[Mv b1,Mv b2] w λe w'=>e=.returned (.tuple #[])/\m5 w' P b1 (lX Wx m1)/\Fr (λi=>i=b1) w w':=by
 have l1:=h1.lt;have l2:=h2.lt;obtain⟨L,m2,q1,q2⟩:=h2;obtain⟨o,cnt,hrg,mi⟩:=m2.range ug;have k1:Bq w (w.alloc o):=bw _;have HI:=ai mi;have H1:=h1.move k1.size (k1.block _ h1.lt) (λb _ z=>k1.block b z)<|λ_ p _=>p;have K1:=ai k1;have Q:=And.intro q1 q2;go_enter func221,ntmps221
 go_wp2
 go_loopg[] cnt (λgk wr=>ah_ P b1 b2 m1 Wx L w gk wr)
 case atStart=>
  refine⟨[],HI,?_,Fr.of K1⟩;have e:ovM Wx m1 []=m1:=by funext x;simp[ovM]
  rw[e];exact H1
 case round=>
  obtain⟨done,HI,HE,hF⟩:=hrel;have HF:=ai hF;have Xs:=HI.lt;have zr:=hF.size;rcases HI.next (P:=xw) str_inj with⟨ha,Ea⟩|⟨x,u,w2,aD,hxd,PX,Ea,Hw,H8,xZ,gL,hen⟩
  .go_wp2
   go_end0;refine⟨rfl,?_,HF⟩;have e:ovM Wx m1 done=lX Wx m1:=by
    funext y;unfold ovM;by_cases q:y∈done
    .rw[if_pos q]
    .rw[if_neg q];have:Wx y=none:=by
      cases hg:a_ y L with
      |none=>exact Q.1 y hg|some v=>exact absurd (ha _ v hg) q
     simp only[lX,this]
   rw[<-e];exact HE
  .obtain⟨tk,m,EC,hc⟩:=Q.2 x u PX;have BL:=xZ;have nP:∀i,P i->¬i=w.heap.size:=λi hi e=>by have:=bA i hi;omega
   have E2:=HE.move BL.size (BL.block _ HE.lt ae) (λi p z=>BL.block i z<|nP i p)<|λ_ p _=>p;have c2:=(hc.move (w':=wr) zr (λi p z=>HF.block i z<|λe=>hP<|e▸p)<|λ_ p _=>p).move (w':=w2) (Q:=P) ae (λi p z=>BL.block i z<|nP i p)<|λ_ p _=>p;obtain⟨sa,sc,ta,xa,rfl,t1,t2⟩:=c2;have ul:Bq w2 (w2.alloc<|.cells #[.slice sa tk.length sc,.iface ta xa] 357):=bw _;have E3:=E2.move ul.size (ul.block _ E2.lt) (λb _ z=>ul.block b z)<|λ_ p _=>p;have C3:=(WY.move ⟨sa,sc,ta,xa,rfl,t1,t2⟩ ul.size (λb _ z=>ul.block b z)<|λ_ p _=>p);have I3:=Hw.same (ul.block b2 ae)<|ul.block w.heap.size ae;have K3:=ai ul;go_wp2_with(refine xA rfl _ _ _ (qz rfl) rfl E3 hP C3 x rfl rfl ?_;intro w4 H' O';have S4:=ai H';have O4:=ai O';clear H' O');go_roundg aD
   case measure=>exact H8
   case rel=>
    have o:=uh O4;have k3:=uh K3;have f1:=BL;refine⟨x::done,I3.same (o.block b2<|zd hn)<|o.block _ ae,?_,?_⟩
    .have e:ovM Wx m1 (x::done)=λy=>if y=x then some (tk,m)else ovM Wx m1 done y:=by
      funext y;by_cases q:y=x
      .subst q;simp[ovM,lX,EC]
      .simp only[ovM,if_neg q];by_cases r:y∈done
       .rw[if_pos<|jc _ r,if_pos r]
       .rw[if_neg<|λh=>(List.mem_cons.1 h).elim q r,if_neg r]
     rw[e];exact S4
    .have hF:=uh HF;refine⟨o.os.trans<|k3.os.trans<|f1.os.trans hF.os,o.tape.trans<|k3.tape.trans<|f1.tape.trans hF.tape,o.output.trans<|k3.output.trans<|f1.output.trans hF.output,by rw[o.size];have:=k3.size;omega,λi hi hni=>?_⟩;rw[o.block i hni,k3.block i ae,f1.block i ae ae,hF.block i hi hni]
def MG.akC{L L'}(h:MG xq w b L)(h':MG xq w b L'):L=L':=by
 obtain⟨es,c,h1,h2,_⟩:=h;obtain⟨es',c',h1',Mz,_⟩:=h';rw[h1]at h1';injection h1' with h1';injection h1' with e1 e2;subst e1;have e:=h2.symm.trans Mz;have:∀(L L':List (BA×Value)),L.map (λp=>(Sv p.1,p.2))=L'.map (λp=>(Sv p.1,p.2))->L=L':=by
  intro L
  induction L with
  |nil=>intro L' e;cases L' with|nil=>rfl|cons=>simp at e
  |cons p r ih=>
   intro L' e
   cases L' with
   |nil=>simp at e|cons p' r'=>
    simp only[jv,List.cons.injEq,Prod.mk.injEq,Value.string.injEq]at e;rw[ih r' e.2,Prod.ext e.1.1 e.1.2]
 exact this L L' e
def WE.rm{cnt}(h:WE w c cnt):c.rb≠c.mb/\c.mb≠c.eb/\c.rb≠c.eb:=by
 refine⟨λe=>?_,λe=>?_,λe=>?_⟩
 .have⟨L,m1,g1,_⟩:=h.rs;have⟨L',m2,_,g2⟩:=h.ms;rw[e]at m1;rw[m1.akC m2]at g1;have⟨tk,m,_,sa,sc,ta,xa,q,_⟩:=g2 _ _ g1
  cases q
 .have⟨L,hM,_⟩:=h.ms;exact GO
 .have⟨L,hM,_⟩:=h.rs;exact GO
def T_{p:Prop}(h:p:=by
 induction h with
 |var n=>exact .var n|aM c L sa sc vs hc aO hr ih=>
  refine .aM c L sa sc vs hc ?_ ih;obtain h0|⟨g,h1,h2,h3,h4⟩:=aO
  .exact qy h0
  .by_cases h0:L=[]
   .exact qy h0
   .refine qz ⟨g,h1,⟨h2,λe=>?_⟩,h3,h4⟩;have q:=h4 0<|List.length_pos_iff.2 h0;rw[e,hb]at q
    cases q):p:=h
def dW.uj(h:dW w P t v)(hb:w.cell? ⟨b,0,none⟩=none):dW w (λi=>P i/\i≠b) t v:=by
 exact T_
def m5.uj{w}{P}{mb b}{mk}(h:m5 w P mb mk)(hb:w.cell? ⟨b,0,none⟩=none):m5 w (λi=>P i/\i≠b) mb mk:=by
 obtain⟨L,h1,h2,h3⟩:=h;refine⟨L,h1,h2,λk v hk=>?_⟩;obtain⟨tk,m,e,sa,sc,ta,xa,rfl,q1,q2⟩:=h3 k v hk;refine⟨tk,m,e,sa,sc,ta,xa,rfl,?_,q2.uj hb⟩;obtain q1|⟨g,vs,q3,q4,q5,q6⟩:=q1
 .exact qy q1
 .by_cases h0:tk=[]
  .exact qy h0
  .refine qz ⟨g,vs,q3,⟨q4,λe=>?_⟩,q5,λi hi=>⟨(q6 i hi).1,(q6 i hi).2.uj hb⟩⟩;have⟨q7,_⟩:=q6 0<|List.length_pos_iff.2 h0;rw[e,hb]at q7
   cases q7
def db.uj(h:db w P t v)(hb:w.cell? ⟨b,0,none⟩=none):db w (λi=>P i/\i≠b) t v:=by
 exact T_
def bS.uj{w}{P}{nb b}{Γ}(h:bS w P nb Γ)(hb:w.cell? ⟨b,0,none⟩=none):bS w (λi=>P i/\i≠b) nb Γ:=by
 obtain⟨L,h1,h2,h3⟩:=h;refine⟨L,h1,h2,λk v hk=>?_⟩;obtain⟨d,e,ta,xa,sa,sc,rfl,⟨⟨x',q1,q2⟩,q4⟩,q3⟩:=h3 k v hk;refine⟨d,e,ta,xa,sa,sc,rfl,⟨⟨x',q1.uj hb,q2⟩,q4⟩,?_⟩;obtain q3|⟨g,r1,r2,r3,r4⟩:=q3
 .exact qy q3
 .by_cases h0:d.any=[]
  .exact qy h0
  .refine qz ⟨g,r1,⟨r2,λe=>?_⟩,r3,r4⟩;have r5:=r4 0<|List.length_pos_iff.2 h0;rw[e,hb]at r5
   cases r5
def WT.aaR{cnt}{mks}{fZ}(h:WT w c cnt u Γ)(hn:c.nb≠c.mb)(hf:Fr (λi=>i=c.mb) w w')(hw:WE w' {c with mks:=mks,fZ:=fZ} cnt):WT w' {c with mks:=mks,fZ:=fZ} cnt u Γ:=by
 have⟨L,hMG,_⟩:=h.we.ms;exact⟨hw,(h.e.uj<|hMG.bE 0).move hf.size (hf.block _ h.e.lt hn) (λb p z=>hf.block b z p.2)<|λb p _=>p.1,h.n,h.hu,h.top,h.dm⟩
section
variable {cnt:Nat}
abbrev acb(c:WC)(t:xt)(vs:List xt)ms fZ:={c with mks:=jz t vs ms c.mks,fZ:=fZ}
def Wy(h:WT w c cnt u Γ){t}{vs}{f x}(hv:RowV QName 3 w P vs vv)(hm:RowV QMaker 6 w P ms vm)(hd:TdF t vs ms):
 Cq 211 #[Pv c.eb,.agg #[Iv f,Iv x,Nv t.al,Nv t.to,.string t.text,vv,vm]] w (λe w'=>e=.returned (.tuple #[])/\Fr (λi=>i=c.mb) w w'/\WE w' (acb c t vs ms w'.heap.size) cnt):=by
 obtain⟨w0,xF⟩:∃w0,w0=w.alloc (Cv #[Iv f,Iv x,Nv t.al,Nv t.to,Sv t.text,vv,vm] 78):=⟨_,rfl⟩;have K0:Bq w w0:=by rw[xF];exact bw _
 have BB:Bx w0 w.heap.size #[Iv f,Iv x,Nv t.al,Nv t.to,Sv t.text,vv,vm]:=by rw[xF];exact zh w #[Iv f,Iv x,Nv t.al,Nv t.to,Sv t.text,vv,vm] 78
 have WE0:=h.we.af K0;have⟨r1,r2,r3⟩:=h.we.rm;have⟨d1,d2,d3⟩:=h.we.d;have⟨l1,l2,l3,l4,l5⟩:=h.we.l;have zz0:w0.heap.size=w.heap.size+1:=by rw[xF];simp
 have HMK:∀W:World,Bq w0 W->Cq 222 #[Av #[Iv f,Iv x,Nv t.al,Nv t.to,Sv t.text,vv,vm]] W (λe w'=>∃b,e=Rv (Mv b)/\Bq W w'/\W.heap.size<=b/\m5 w' (λi=>W.heap.size<=i) b (jz t vs ms λ_=>none)):=λW hb=>by
  have kW:=K0.trans<|hb.mono K0.size;exact L9 (hv.move dn kW.size (λb _ z=>kW.block b z)<|λ_ p _=>p) (hm.move bZ kW.size (λb _ z=>kW.block b z)<|λ_ p _=>p) hd
 have HCP:∀(W:World)(b:Nat),Bq w0 W->w0.heap.size<=b->m5 W (λi=>w0.heap.size<=i) b (jz t vs ms λ_=>none)->Cq 221 #[Mv c.mb,Mv b] W (λe w'=>e=Rv (.tuple #[])/\m5 w' (λi=>i≠c.cb/\i≠c.mb/\i<W.heap.size) c.mb (jz t vs ms c.mks)/\Fr (λi=>i=c.mb) W w'):=λW b hb hz hM=>by
  rw[Bp];have weW:=WE0.af hb;have⟨L,hMG,_⟩:=weW.ms;have zb:=hM.lt;have zs:=hb.size;have h1:m5 W (λi=>i≠c.cb/\i≠c.mb/\i<W.heap.size) c.mb c.mks:=(weW.ms.uj<|hMG.bE 0).move (br _) rfl (λ_ _ _=>rfl) (λi p z=>⟨p.1.1,p.2,z⟩);have h2:m5 W (λi=>i≠c.cb/\i≠c.mb/\i<W.heap.size) b (jz t vs ms λ_=>none):=hM.move (br _) rfl (λ_ _ _=>rfl) (λi p z=>⟨qBv,qBv,z⟩);exact TR h1 h2 (λq=>q.2.1 rfl) (λi p=>p.2.2) ae
 have f0:=WE0.bx.c 2;have g0:=BB.c 0;have g1:=BB.c 1;have g2:=BB.c 2;have g3:=BB.c 3;have g4:=BB.c 4;have g5:=BB.c 5;have g6:=BB.c 6;obtain⟨pa,pc,cs,rfl,aO,hq⟩:=hv;obtain⟨ma,mc,ds,rfl,akD,hqm⟩:=hm;have ne1:¬w.heap.size=c.mb:=ae;clear h aO hq akD hqm;go_enter func211,ntmps211;go_wp2_with fail;rw[<-xF];clear xF
 go_region_held3(λw'=>w'.cell? ⟨c.eb,2,none⟩=some (Mv c.mb)/\w'.cell? ⟨w.heap.size,0,none⟩=some (Iv f)/\w'.cell? ⟨w.heap.size,1,none⟩=some (Iv x)/\w'.cell? ⟨w.heap.size,2,none⟩=some (Nv t.al)/\w'.cell? ⟨w.heap.size,3,none⟩=some (Nv t.to)/\w'.cell? ⟨w.heap.size,4,none⟩=some (Sv t.text)/\w'.cell? ⟨w.heap.size,5,none⟩=some (Lv pa vs.length pc)/\w'.cell? ⟨w.heap.size,6,none⟩=some (Lv ma ms.length mc)) (first|go_keep|(simp[*])) (first
  |(go_at_call 222;go_loud(refine(HMK _ (xn _ _).drew).mono ?_);rintro e w2⟨b,rfl,k2,z2,hM⟩;have k2':=(xn _ _).drew.trans k2;have B2:=BB.below k2';have s0:w2.cell? ⟨c.eb,2,none⟩=some (Mv c.mb):=(WE0.af k2').bx.c 2;have s1:w2.cell? ⟨w.heap.size,0,none⟩=some (Iv f):=B2.c 0;have s2:w2.cell? ⟨w.heap.size,1,none⟩=some (Iv x):=B2.c 1;have s3:w2.cell? ⟨w.heap.size,2,none⟩=some (Nv t.al):=B2.c 2;have s4:w2.cell? ⟨w.heap.size,3,none⟩=some (Nv t.to):=B2.c 3;have s5:w2.cell? ⟨w.heap.size,4,none⟩=some (Sv t.text):=B2.c 4;have s6:w2.cell? ⟨w.heap.size,5,none⟩=some (Lv pa vs.length pc):=B2.c 5;have s7:w2.cell? ⟨w.heap.size,6,none⟩=some (Lv ma ms.length mc):=B2.c 6;have K2:=ai k2';have Z2:Hid (w0.heap.size<=b):=ai z2;have M2:Hid (m5 w2 (λi=>w0.heap.size<=i) b<|jz t vs ms λ_=>none):=ai hM;clear k2 k2' z2 hM B2)
  |(go_at_call 221;go_loud(refine(HCP _ _ K2 Z2 M2).mono ?_);rintro e w3⟨rfl,hM3,F3⟩;have B3:=(BB.below K2).fr F3 ne1;have t0:w3.cell? ⟨c.eb,2,none⟩=some (Mv c.mb):=((WE0.af K2).bx.fr F3<|zd r2).c 2;have t1:w3.cell? ⟨w.heap.size,0,none⟩=some (Iv f):=B3.c 0;have t2:w3.cell? ⟨w.heap.size,1,none⟩=some (Iv x):=B3.c 1;have t3:w3.cell? ⟨w.heap.size,2,none⟩=some (Nv t.al):=B3.c 2;have t4:w3.cell? ⟨w.heap.size,3,none⟩=some (Nv t.to):=B3.c 3;have t5:w3.cell? ⟨w.heap.size,4,none⟩=some (Sv t.text):=B3.c 4;have t6:w3.cell? ⟨w.heap.size,5,none⟩=some (Lv pa vs.length pc):=B3.c 5;have t7:w3.cell? ⟨w.heap.size,6,none⟩=some (Lv ma ms.length mc):=B3.c 6;have M3:=ai hM3;have F3':=ai F3;clear hM3 F3 B3))
 go_wp2
 go_end0;have F3:=uh F3';have k2:=uh K2;have we2:=WE0.af k2;have z3:=F3.size;have z2:=k2.size;refine⟨rfl,(Fr.of<|K0.trans<|k2.mono K0.size).trans F3,⟨we2.bx.fr F3<|zd r2,we2.ct.fr F3<|zd d3,we2.rs.same<|F3.block _ we2.rs.lt r1,?_,⟨d1,d2,d3⟩,⟨by show c.eb<w3.heap.size;omega,by show c.cb<w3.heap.size;omega,by show c.rb<w3.heap.size;omega,by show c.mb<w3.heap.size;omega,br _⟩⟩⟩;exact M3.move (br _) rfl (λ_ _ _=>rfl) (λi p _=>⟨p.1,by show i<w3.heap.size;omega⟩)
end
def CL:Cq 33 #[] w λe w'=>e=.returned (Mv w.heap.size)/\uw w' w.heap.size/\Bq w w'/\w'.heap.size=w.heap.size+1:=by
 have jA:= @run_makeMap xw;have M0:=MG.new xq w;have k0:Bq w (w.alloc<|.map #[] 0):=bw _;have Z0:(w.alloc<|.map #[] 0).heap.size=w.heap.size+1:=by simp
 have K0:=ai k0;go_enter func33,ntmps33;go_wp2_with((refine cu PW Ix rfl _ _ _ (Or.inl rfl) rfl M0 _ _ rfl rfl ?_;clear M0;intro w' H' O';have M0:=ai H';have K1:=K0;have Z1:=Z0;clear K0 Z0;have K0:=ai (One.below K1 O'<|by exact br _);have Z0:=ai<|O'.size.trans Z1;clear H' O' K1 Z1));go_ret;refine⟨rfl,⟨_,M0,?_,?_,?_,?_⟩,K0,Z0⟩;all_goals(simp only[aN];rfl)
def agf nl:Cq 23 #[] w λe w'=>∃c:WC,e=.returned (Pv c.eb)/\Bq w w'/\WT w' c 0 (λ_=>False) (λ_=>none)/\c.nb≠c.mb/\c.mks=(λ_=>none)/\c.nl=nl/\w.heap.size<=c.cb/\w.heap.size<=c.eb/\w.heap.size<=c.mb:=by
 have jA:= @run_makeMap Tryz.prog;go_enter func23,ntmps23;go_wp2_with fail;refine(Er).mono ?_;rintro e w1⟨rfl,yd⟩;have k1:Bq w w1:=by rw[yd];exact bw _
 have C1':Bx w1 w.heap.size #[Iv 0]:=by rw[yd];exact zh w #[Iv 0] 3
 have z1:w1.heap.size=w.heap.size+1:=by rw[yd];simp
 have K1:=ai k1;clear yd k1;go_wp2_with fail;refine(CL).mono ?_;rintro e w2⟨rfl,R2,k2,z2⟩;have K2:=ai k2;clear k2
 go_wp2
 go_ret;obtain⟨w3,uy⟩:∃w3,w3=w2.alloc (.map #[] 0):=⟨_,rfl⟩;obtain⟨w4,hw4⟩:∃w4,w4=w3.alloc (.map #[] 0):=⟨_,rfl⟩;have k3:Bq w2 w3:=by rw[uy];exact bw _
 have k4:Bq w3 w4:=by rw[hw4];exact bw _
 have z3:w3.heap.size=w2.heap.size+1:=by rw[uy];simp
 have z4:w4.heap.size=w3.heap.size+1:=by rw[hw4];simp
 have k2:=uh K2;have k1:=uh K1;have m3:MG Sv w3 (w.heap.size+2) []:=by rw[uy,show w.heap.size+2=w2.heap.size by omega];exact MG.new _ w2
 have m4:MG Sv w4 (w.heap.size+3) []:=by rw[hw4,show w.heap.size+3=w3.heap.size by omega];exact MG.new _ w3
 rw[<-uy,<-hw4];obtain⟨w5,hw5⟩:∃w5,w5=w4.alloc (Cv #[.func (.func 46) #[] #[Pv w.heap.size],Mv<|w.heap.size+1,Mv<|w.heap.size+2,Mv<|w.heap.size+3] 114):=⟨_,rfl⟩;have k5:Bq w4 w5:=by rw[hw5];exact bw _
 have z5:w5.heap.size=w.heap.size+5:=by rw[hw5];simp;omega
 have b5:Bx w5 (w.heap.size+4) #[.func (.func 46) #[] #[Pv w.heap.size],Mv<|w.heap.size+1,Mv<|w.heap.size+2,Mv<|w.heap.size+3]:=by
  have:=zh w4 #[.func (.func 46) #[] #[Pv w.heap.size],Mv<|w.heap.size+1,Mv<|w.heap.size+2,Mv<|w.heap.size+3] 114;rw[<-hw5,show w4.heap.size=w.heap.size+4 by omega]at this;exact this
 have z1:w1.heap.size=w.heap.size+1:=ae;have M5:=k4.trans<|k5.mono k4.size;have k35:=k3.trans<|M5.mono k3.size;have k25:=k2.trans<|k35.mono k2.size;have kk:=k1.trans<|k25.mono k1.size;have res:∃c:WC,Rv (Pv<|w.heap.size+4)=Rv (Pv c.eb)/\Bq w w5/\WT w5 c 0 (λ_=>False) (λ_=>none)/\c.nb≠c.mb/\c.mks=(λ_=>none)/\c.nl=nl/\w.heap.size<=c.cb/\w.heap.size<=c.eb/\w.heap.size<=c.mb:=by
  refine⟨⟨w.heap.size+4,w.heap.size,w.heap.size+1,w.heap.size+2,w.heap.size+3,w.heap.size+5,λ_=>none,nl⟩,rfl,kk,⟨⟨b5,C1'.below k25,?_,⟨[],m3.same<|M5.block _ ae,λ_ _=>rfl,λx v h=>qBg⟩,?_,?_⟩,⟨[],m4.same<|k5.block _ ae,λ_ _=>rfl,λx v h=>qBg⟩,?_,λn q=>q.elim,(λy d q=>lq),λx q=>absurd rfl q⟩,?_,rfl,rfl,?_,?_,?_⟩
  .have:=R2.same (w':=w5)<|k35.block _ ae
   rwa[z1]at this
  all_goals(dsimp only;omega)
 rw[hw5]at res;exact res
structure Oth(x:Value):Prop where
 i:∀a y,x≠.iface a y
 n:∀n:Nat,1<=n->x≠Nv n
 p:∀q,x≠.pointer q
def bS.other{x:Value}(h:bS w P nb Γ)(hv:∀y d,Γ y=some d->∀n∈d.any,1<=n)(hb:w.cell? ⟨b,0,none⟩=some x)(hx:Oth x):bS w (λi=>P i/\i≠b) nb Γ:=by
 obtain⟨L,h1,h2,h3⟩:=h;refine⟨L,h1,h2,λk v hk=>?_⟩;obtain⟨d,e,ta,xa,sa,sc,rfl,⟨⟨x',q1,q2⟩,q4⟩,q3⟩:=h3 k v hk;refine⟨d,e,ta,xa,sa,sc,rfl,⟨⟨x',q1.not hb hx.i,q2⟩,q4⟩,?_⟩;obtain q3|⟨g,r1,r2,r3,r4⟩:=q3
 .exact qy q3
 .by_cases h0:d.any=[]
  .exact qy h0
  .refine qz ⟨g,r1,⟨r2,λeg=>?_⟩,r3,r4⟩;have hl:=List.length_pos_iff.2 h0;have r5:=r4 0 hl;rw[eg,hb]at r5;injection r5 with r5;exact hx.n _ (hv k d e _<|jd hl) r5
def ie{enc}{b'}{L:List (κ×Value)}{x:Value}(h:MG enc w b' L)(hb:w.cell? ⟨b,0,none⟩=some x):b'≠b:=λe=>by
 have:=h.bE 0;rw[e,hb]at this
 cases this
def WT.other{w w'}{c}{cnt}{u}{Γ}{b}{x}(h:WT w c cnt u Γ)(hn:b≠c.cb/\b≠c.eb)(hb:w.cell? ⟨b,0,none⟩=some x)(hx:Oth x)(f:Fr (λi=>i=b) w w'):WT w' c cnt u Γ:=by
 have⟨Lr,hr,_⟩:=id h.we.rs;have⟨Lm,hm,_⟩:=id h.we.ms;have⟨Ln,hnn,_⟩:=id h.e;have nr:=ie hr hb;have nm:=ie hm hb;have nn:=ie hnn hb;have⟨l1,l2,l3,l4,l5⟩:=h.we.l;have hz:=f.size;refine⟨⟨h.we.bx.fr f<|zd hn.2,h.we.ct.fr f<|zd hn.1,h.we.rs.same<|f.block _ h.we.rs.lt nr,(h.we.ms.not hb hx.i).move f.size (f.block _ h.we.ms.lt nm) (λi p z=>f.block i z p.2)<|λi p _=>p.1,h.we.d,l1,l2,l3,l4,ae⟩,?_,h.n,h.hu,h.top,h.dm⟩;refine(h.e.other ?_ hb hx).move f.size (f.block _ h.e.lt nn) (λi p z=>f.block i z p.2) (λi p _=>p.1);intro y d q n hq;exact(h.hu n<|(h.top.env y d q).use n<|(h.top.env y d q).sub n hq).1
structure KpI lo base(w w':World):Prop where
 os:w'.os=w.os
 tape:w'.tape=w.tape
 output:w'.output=w.output
 size:w.heap.size<=w'.heap.size
 low:∀b,b<w.heap.size->b<lo->w'.heap[b]? =w.heap[b]?
 box:∀b x,b<w.heap.size->base<=b->w.cell? ⟨b,0,none⟩=some x->(∀q,x≠.pointer q)->w'.heap[b]? =w.heap[b]?
def KpI.of(f:Fr S w w')(h1:∀b,S b->lo<=b)(h2:∀b x,S b->base<=b->w.cell? ⟨b,0,none⟩=some x->¬∀q,x≠.pointer q):KpI lo base w w':=
 ⟨f.os,f.tape,f.output,f.size,λb hb hl=>f.block b hb λq=>by have:=h1 b q;omega,λb x hb hl hx ho=>f.block b hb λq=>h2 b x q hl hx ho⟩
def KpI.bx{C}{x}(k:KpI lo base w w')(h:Bx w b C)(hb:base<=b)(hx:C[0]? =some x)(ho:∀q,x≠.pointer q):Bx w' b C:=h.same k.size (k.box b x h.z hb (by rw[h.c 0];exact hx) ho)
def agG(S:World->Nat->j7->jy->j6->Prop)lo base rs cnt(mks:j7)(s:jy)(Γ:j6)rc st a y x w(e:Ending)w':=KpI lo base w w'/\∃o,j9 rc st x (qe mks x) Γ s o/\match o with
 |.error z=>∃vl vr,e=.returned (.tuple #[.nilIface,Ca z.f vl vr])/\ru w' (λ_=>True) z vl vr
 |.ok (t,s1)=>(48<size (sub s1.k t)/\e=.returned (.tuple #[.nilIface,Ca ⟨7,a,y⟩ .nilIface .nilIface]))\/
  (size (sub s1.k t)<=48/\∃T ta xa aD,T=(if In.sg x then sub s1.k t else qr (sub s1.k t))/\e=.returned (.tuple #[.iface ta xa,.agg My])/\dW w' (λ_=>True) T (.iface ta xa)/\aD<=cnt+1000*(1+nn x)+48/\S w' aD mks (In.nxt rs s1) (qw Γ st ⟨T,vars [] T⟩))
structure Za ty eb lo base rs nl(S:World->Nat->j7->jy->j6->Prop):Prop where
 af:∀{w w':World}{cnt:Nat}{mks:j7}{s:jy}{Γ:j6},S w cnt mks s Γ->Bq w w'->S w' cnt mks s Γ
 oth:∀{w w':World}{cnt:Nat}{mks:j7}{s:jy}{Γ:j6}{b:Nat}{x:Value},S w cnt mks s Γ->base<=b->w.cell? ⟨b,0,none⟩=some x->Oth x->Fr (λi=>i=b) w w'->S w' cnt mks s Γ
 mks:∃fn,(∀w,(method 554 ty (.pointer<|some ⟨eb,0,none⟩) "Makers").run Tryz.prog w=.ok (fn,.pointer<|some ⟨eb,0,none⟩) w)/\(∀(args:Array Value)(w:World),(callFunc fn args).run Tryz.prog w=.ok (.enter fn args) w)/\∀{w:World}{cnt:Nat}{mks:In.Mks}{s:In.St}{Γ:In.Env}{t:Pu.Tok}{vs:List Pu.Tok}{ms:List Nd}{f x:Int}{vv vm:Value},S w cnt mks s Γ->RowV QName 3 w (·<lo) vs vv->RowV QMaker 6 w (·<lo) ms vm->TdF t vs ms->
  Cq fn #[Pv eb,.agg #[Iv f,Iv x,Nv t.al,Nv t.to,.string t.text,vv,vm]] w (λe w'=>e=.returned (.tuple #[])/\KpI lo base w w'/\S w' cnt (jz t vs ms mks) s Γ)
 lts:∃fn,(∀w,(method 554 ty (.pointer<|some ⟨eb,0,none⟩) "Let").run Tryz.prog w=.ok (fn,.pointer<|some ⟨eb,0,none⟩) w)/\(∀(args:Array Value)(w:World),(callFunc fn args).run Tryz.prog w=.ok (.enter fn args) w)/\∀{w:World}{cnt:Nat}{mks:In.Mks}{s:In.St}{Γ:In.Env}{rc:Bool}{st:BA}{x:Nd}{v:Value}{a y:Nat}{dom:BA->Prop},S w cnt mks s Γ->PE w (·<lo) x v->ScE mks nl (fun v=>dom v\/(rc=true/\v=st)) x->(∀x,dom x->Γ x≠none)->st∈nl->cnt+1000*(1+nn x)<=850000->1+nn x<=805->MkFine mks->
  Cq fn #[Pv eb,.agg #[.bool rc,Nv a,Nv y,.string st,v]] w (agG S lo base rs cnt mks s Γ rc st a y x w)
structure JC where
 (eb cb rb mb lo fZ:Nat)
 mks:j7
 nl:List BA
abbrev Wk(c:JC)nb l:=#[.func (.func 46) #[] #[Pv c.cb],Mv c.rb,Mv c.mb,Mv nb,Nv l]
structure JE w c nb l cnt:Prop where
 bx:Bx w c.eb (Wk c nb l)
 ct:Bx w c.cb #[Nv cnt]
 rs:uw w c.rb
 ms:m5 w (λi=>i≠c.cb/\i<c.fZ) c.mb c.mks
 z:c.lo<=c.eb/\c.lo<=c.cb/\c.fZ<=w.heap.size
section
variable {c:JC} {cnt:Nat}
def GL.rf{nx}{lv}(h:GL w ds str nx vr ly lv)(hn:n∈ds):∃p,w.cell? ⟨n,0,none⟩=some (.pointer p):=by
 have:=(h.nd n hn).cells.1
 cases e:nx n with
 |none=>rw[e]at this;exact⟨none,this⟩|some m=>rw[e]at this;exact⟨_,this⟩
def JE.Bh(h:JE w c nb l cnt)(j:JS w g s):¬c.eb∈g.ds:=λq=>by
 have⟨p,hp⟩:=j.gl.rf q;have:=h.bx.c 0;rw[hp]at this;simp at this
def JE.Bi(h:JE w c nb l cnt)(j:JS w g s):¬c.cb∈g.ds:=λq=>by
 have⟨p,hp⟩:=j.gl.rf q;have:=h.ct.c 0;rw[hp]at this;simp at this
def JE.ne(h:JE w c nb l cnt):c.eb≠c.cb/\c.rb≠c.cb/\c.rb≠c.eb/\c.mb≠c.cb/\c.mb≠c.eb:=by
 have⟨L,m1,_⟩:=h.rs;have⟨L',m2,_⟩:=h.ms;have a:=h.bx.c 0;have b:=h.ct.c 0;refine⟨λe=>?_,λe=>?_,λe=>?_,λe=>?_,λe=>?_⟩
 .grind
 .rw[<-e,m1.bE 0]at b;simp at b
 .rw[<-e,m1.bE 0]at a;simp at a
 .rw[<-e,m2.bE 0]at b;simp at b
 .rw[<-e,m2.bE 0]at a;simp at a
def JE.nQ(h:JE w c nb l cnt)(j:JS w g s):¬c.rb∈g.ds/\¬c.mb∈g.ds:=by
 have⟨L,m1,_⟩:=h.rs;have⟨L',m2,_⟩:=h.ms;refine⟨λq=>?_,λq=>?_⟩
 .have⟨p,hp⟩:=j.gl.rf q;rw[m1.bE 0]at hp
  cases hp
 .have⟨p,hp⟩:=j.gl.rf q;rw[m2.bE 0]at hp
  cases hp
def dW.Wl(h:dW w P t v)(hS:∀b,S b->∀a y,w.cell? ⟨b,0,none⟩≠some (.iface a y)):dW w (λi=>P i/\¬S i) t v:=by
 induction h with
 |var n=>exact .var n|aM c L sa sc vs hc aO hr ih=>
  refine .aM c L sa sc vs hc ?_ ih;obtain h0|⟨g,h1,h2,h3,h4⟩:=aO
  .exact qy h0
  .by_cases h0:L=[]
   .exact qy h0
   .refine qz ⟨g,h1,⟨h2,λe=>?_⟩,h3,h4⟩;have hl:=List.length_pos_iff.2 h0;have⟨a,y,r⟩:=(hr 0 hl).iface;exact hS g e a y (by rw[h4 0 hl,r])
def m5.Wl{P S:Nat->Prop}{mb}{mk}(h:m5 w P mb mk)(hS:∀b,S b->∀a y,w.cell? ⟨b,0,none⟩≠some (.iface a y)):m5 w (λi=>P i/\¬S i) mb mk:=by
 obtain⟨L,h1,h2,h3⟩:=h;refine⟨L,h1,h2,λk v hk=>?_⟩;obtain⟨tk,m,e,sa,sc,ta,xa,rfl,q1,q2⟩:=h3 k v hk;refine⟨tk,m,e,sa,sc,ta,xa,rfl,?_,q2.Wl hS⟩;obtain q1|⟨g,vs,q3,q4,q5,q6⟩:=q1
 .exact qy q1
 .by_cases h0:tk=[]
  .exact qy h0
  .have hl:=List.length_pos_iff.2 h0;refine qz ⟨g,vs,q3,⟨q4,λe=>?_⟩,q5,λi hi=>⟨(q6 i hi).1,(q6 i hi).2.Wl hS⟩⟩;have⟨q7,q8⟩:=q6 0 hl;have⟨a,y,r⟩:=q8.iface;exact hS g e a y (by rw[q7,r])
abbrev jS(c:JC)(g:f_)b:=b=c.cb\/b=c.eb\/b∈g.ds
def JE.fr(h:JE w c nb l cnt)(j:JS w g s)(hf:Fr (jS c g) w w'){aD}(he:Bx w' c.eb (Wk c Wh l'))(hc:Bx w' c.cb #[Nv aD]):JE w' c Wh l' aD:=by
 have⟨n1,n2,n3,n4,n5⟩:=h.ne;have⟨n6,n7⟩:=h.nQ j;refine⟨he,hc,h.rs.same<|hf.block _ h.rs.lt<|λq=>q.elim n2<|λq=>q.elim n3 n6,?_,⟨h.z.1,h.z.2.1,xd h.z.2.2 hf.size⟩⟩;refine(h.ms.Wl (S:=jS c g) ?_).move hf.size (hf.block _ h.ms.lt<|λq=>q.elim n4<|λq=>q.elim n5 n7) (λb p z=>hf.block b z p.2) (λb p _=>p.1);rintro b(rfl|rfl|q)a y e
 .have:=h.ct.c 0;rw[e]at this;simp at this
 .have:=h.bx.c 0;rw[e]at this;simp at this
 .have⟨p,hp⟩:=j.gl.rf q;rw[e]at hp
  cases hp
def JE.af(h:JE w c nb l cnt)(hb:Bq w w'):JE w' c nb l cnt:=⟨h.bx.below hb,h.ct.below hb,h.rs.same<|hb.block _ h.rs.lt,h.ms.move hb.size (hb.block _ h.ms.lt) (λb _ z=>hb.block b z)<|λ_ p _=>p,⟨h.z.1,h.z.2.1,xd h.z.2.2 hb.size⟩⟩
def LV v l:Cq 306 #[Iv v,Iv l] w λe w'=>e=.returned (nA w.heap.size)/\w'=w.alloc (.cells #[.pointer none,Iv l,Iv v,.string ⟨#[]⟩,.slice none 0 0] 423):=by
 go_enter func306,ntmps306
 go_wp2
 go_ret;exact⟨rfl,rfl⟩
def GQ b l a n k:Cq 296 #[.string b,Iv l,.slice a n k] w λe w'=>e=.returned (nA w.heap.size)/\w'=w.alloc (.cells #[.pointer none,Iv l,Iv 0,.string b,.slice a n k] 423):=by
 go_enter func296,ntmps296
 go_wp2
 go_ret;exact⟨rfl,rfl⟩
end
section
variable {c:JC} {cnt:Nat}
def pE(h:JE w c nb l cnt)(j:JS w g s)(hu:∀n,s.u n->us cnt n)(hc:cnt<=1000000):Cq 292 #[Pv c.eb] w (λe w'=>∃n,e=.returned (nA n)/\w.heap.size<=n/\JE w' c nb l (cnt+1)/\JS w' (g.add n none (cnt+1) (none,0) l<|.var<|cnt+1) ⟨s.k,λm=>s.u m\/m=cnt+1⟩/\Fr (λb=>b=c.cb) w w'):=by
 have f0:=h.bx.c 0;have f1:=h.bx.c 4;have⟨n1,_,_,_,_⟩:=h.ne;have dw:=h.Bi j;have zc:=h.ct.z;have HE:=ai h;have HFR:∀W:World,W=w.drew->Cq 46 #[Pv c.cb] W λe w'=>e=Rv (Iv<|(cnt:Int)+1)/\∃_:JE w' c nb l (cnt+1),Fr (λb=>b=c.cb) w w'/\JS w' g s/\w'.heap.size=w.heap.size:=λW hW=>by
  subst hW;refine(oA cnt hc<|h.ct.gw).mono ?_;rintro e w'⟨rfl,rfl⟩;have F:Fr (λb=>b=c.cb) w (w.drew.setCell ⟨c.cb,0,none⟩<|Iv<|(cnt:Int)+1):=(Fr.of (S:=λb=>b=c.cb) (xn _ w).drew).set (b:=c.cb) (qy rfl) 0 _;have B:Bx (w.drew.setCell ⟨c.cb,0,none⟩<|Iv<|(cnt:Int)+1) c.cb #[.int .i64 ((cnt+1:Nat):Int)]:=h.ct.gw.aR 0 _ _ rfl ag;have hF:Fr (jS c g) w (w.drew.setCell ⟨c.cb,0,none⟩<|Iv<|(cnt:Int)+1):=F.fZ λb q=>qy q;have hG:GL (w.drew.setCell ⟨c.cb,0,none⟩<|Iv<|(cnt:Int)+1) g.ds g.str g.nx g.vr g.ly g.lv:=by
   refine j.gl.one (b:=c.cb) ⟨rfl,rfl,rfl,Dd,λi hi=>xo _ _ _ _ hi⟩ dw<|λm hm c' l' gg hs hl hg e=>?_;have⟨ga,q1,q2,_⟩:=j.gl.row hm hs<|List.length_pos_iff.2 hl;rw[hg]at q1;injection q1 with q1;injection q1 with q1;subst q1;have:=h.ct.c 0;rw[<-e,q2]at this;simp at this
  exact⟨rfl,h.fr j hF (h.bx.fr F n1) B,F,⟨hG,j.nF,j.inj,j.can,j.lc,j.val,j.use,j.ok⟩,Dd⟩
 go_enter func292,ntmps292
 go_wp2
 go_region_held3(λw'=>w'.cell? ⟨c.eb,0,none⟩=some (.func (.func 46) #[] #[Pv c.cb])/\w'.cell? ⟨c.eb,4,none⟩=some (Nv l)) (first|go_keep|(simp[*])) (first
  |(go_at_call 46;go_loud(refine(HFR _ rfl).mono ?_);rintro e w2⟨rfl,e2,F2,j2,z2⟩;have s0:w2.cell? ⟨c.eb,0,none⟩=some (.func (.func 46) #[] #[Pv c.cb]):=e2.bx.c 0;have s1:w2.cell? ⟨c.eb,4,none⟩=some (Nv l):=e2.bx.c 4;have E2:=ai e2;have Uf:=ai F2;have J2:=ai j2;have Z2:=ai z2;clear e2 F2 j2 z2)
  |(go_at_call 306;go_loud(refine(LV _ _).mono ?_);rintro e w3⟨rfl,uy⟩;have k3:Bq w2 w3:=(by rw[uy];exact bw _);have B3:w3.heap[w2.heap.size]? =some (Cv #[.pointer none,Nv l,Iv<|(cnt:Int)+1,Sv ⟨#[]⟩,Lv none 0 0] 423 (0,0)):=(by rw[uy];exact(xy w2 _).1);have s2:w3.cell? ⟨c.eb,0,none⟩=some (.func (.func 46) #[] #[Pv c.cb]):=(E2.af k3).bx.c 0;have s3:w3.cell? ⟨c.eb,4,none⟩=some (Nv l):=(E2.af k3).bx.c 4;have K3:=ai k3;have B3':=ai B3;clear uy k3 B3))
 go_wp2
 go_ret;have k3:=uh K3;have hv:¬s.u (cnt+1):=λq=>by have:=hu _ q;rw[us]at this;omega
 exact⟨w2.heap.size,rfl,by rw[uh Z2];exact br _,(uh E2).af k3,(uh J2).var k3 (br _) hv<|by simpa using uh B3',(uh Uf).trans<|Fr.of k3⟩
def LW{fn}{cn}(hk:fn=301/\cn=pN\/fn=299/\cn=m9)(h:JE w c nb l cnt)(j:JS w g s){a}(ha:a∈g.ds/\∀x,Hd g.nx a x->g.lv x<=l)(hb:b∈g.ds/\∀x,Hd g.nx b x->g.lv x<=l):Cq fn #[Pv c.eb,nA a,nA b] w (λe w'=>∃n ar,e=.returned (nA n)/\w.heap.size<=n/\JE w' c nb l cnt/\JS w' (g.add n (some (cn,[a,b])) 0 ar l<|.aM cn [g.V a,g.V b]) s/\Bq w w'):=by
 have EW:CN cn:=by obtain⟨-,rfl⟩|⟨-,rfl⟩:=hk;exact qy rfl;exact qz<|qy rfl
 have f1:w.cell? ⟨c.eb,4,none⟩=some (Nv l):=h.bx.c 4;have⟨k0,B0⟩:=uo w #[nA a,nA b] 413;have HM:=GQ (w:=w.alloc<|Cv #[nA a,nA b] 413) (pn cn) (l:Int) (some ⟨w.heap.size,0,none⟩) 2 2;have K0:=ai k0;have HE:=ai h;have HJ:=ai j;clear h j k0;obtain⟨rfl,ec⟩|⟨rfl,ec⟩:=hk;all_goals
  first|(rw[ec,kP]at HM;go_enter func301,ntmps301)|(rw[ec,kQ]at HM;go_enter func299,ntmps299)
  go_wp2_with fail;refine HM.mono ?_;rintro e w2⟨rfl,hw2⟩;have k2:Bq (w.alloc<|Cv #[nA a,nA b] 413) w2:=by rw[hw2];exact bw _
  have B2:w2.heap[w.heap.size+1]? =some (Cv #[.pointer none,Nv l,Iv 0,Sv<|pn cn,Lv (some ⟨w.heap.size,0,none⟩) 2 2] 423 (0,0)):=by
   rw[hw2];have:=(xy (w.alloc<|Cv #[nA a,nA b] 413)<|Cv #[.pointer none,Nv l,Iv 0,Sv<|pn cn,Lv (some ⟨w.heap.size,0,none⟩) 2 2] 423).1;simpa[ec,kP,kQ]using this
  have R2:=B0.below k2;have k02:=K0.trans<|k2.mono K0.size;have HX:=ai<|q9 k02<|q9 B2 R2;clear HM hw2 k2 B2 R2 k02 B0
  go_wp2
  go_ret;have⟨k02,B2,R2⟩:=uh HX;refine⟨w.heap.size+1,(some ⟨w.heap.size,0,none⟩,2),rfl,xj _,HE.af k02,HJ.made (c:=cn) (ps:=[a,b]) (a:=(some ⟨w.heap.size,0,none⟩,2)) k02 (xj _) EW ag (λp hp=>?_) (qz ⟨w.heap.size,rfl,br _,ae,R2.z,λi hi=>?_⟩) B2,k02⟩
  .obtain e|e:=List.mem_cons.1 hp
   .subst e;exact ha
   .simp at e;subst e;exact hb
  .have rV:i=0\/i=1:=Ie;rw[R2.c i];obtain rfl|rfl:=rV<;>rfl
end
end
section
open Go.ChangeMaps Un
abbrev aL:Nat:=9223372036854775807
def Nf(lv:Nat->Nat)L h:=lv h<=L\/lv h=aL
structure vD(str:xG)(nx:Nx)(ds:List Nat)(lv cB:Nat->Nat)n L(D:Nat->Prop):Prop where
 up:∀m,D m->m∈ds/\nx m=none/\L<lv m/\lv m≠aL/\cB m=aL
 no:∀m,¬D m->cB m=lv m
 hd:∀h,Hd nx n h->D h\/Nf lv L h
 cl:∀a,D a->∀c l,str a=some (c,l)->∀p,p∈l->∀h,Hd nx p h->D h\/Nf lv L h
 re:∀R:Nat->Prop,(∀h,Hd nx n h->R h)->(∀a c l p h,R a->str a=some (c,l)->p∈l->Hd nx p h->R h)->∀a,D a->R a
structure xV(str:xG)(nx:Nx)(ds:List Nat)(lv l9:Nat->Nat)h(l:List Nat)L(D:Nat->Prop):Prop where
 own:D h
 up:∀m,D m->m∈ds/\nx m=none/\L<lv m/\lv m≠aL/\l9 m=aL
 no:∀m,¬D m->l9 m=lv m
 pt:∀p,p∈l->∀k,Hd nx p k->D k\/Nf lv L k
 cl:∀a,D a->a≠h->∀c l,str a=some (c,l)->∀p,p∈l->∀k,Hd nx p k->D k\/Nf lv L k
 re:∀R:Nat->Prop,R h->(∀a c l p k,R a->str a=some (c,l)->p∈l->Hd nx p k->R k)->∀a,D a->R a
section
variable {nx:Nx} {lv l9:Nat->Nat} {L:Nat} {l:List Nat}
def vD.nil(hh:Hd nx n h)(hl:Nf lv L h):vD str nx ds lv lv n L (λ_=>False):=
 ⟨λ_ q=>q.elim,λ_ _=>rfl,λk q=>qz (by rw[q.one hh];exact hl),λ_ q=>q.elim,λ_ _ _ _ q=>q.elim⟩
def xV.start(hd:h∈ds)(hn:nx h=none)(hl:L<lv h)(ha:lv h≠aL):xV str nx ds lv (xm lv h aL) h [] L (λm=>m=h):=
 ⟨rfl,λm q=>by subst q;exact⟨hd,hn,hl,ha,Q5⟩,λm q=>by simp[xm,q],λp q=>by simp at q,λa q r=>absurd q r,λR q _ a r=>by subst r;exact q⟩
def xV.step{p}{c}{l0}(hs:str h=some (c,l0))(hp:p∈l0)(k:xV str nx ds lv l9 h l L D)(q:vD str nx ds l9 cB p L E):xV str nx ds lv cB h (l++[p]) L (λm=>D m\/E m):=by
 have dis:∀m,E m->¬D m:=λm e d=>(q.up m e).2.2.2.1 (k.up m d).2.2.2.2;have low:∀x,Nf l9 L x->D x\/Nf lv L x:=λx hx=>by
  by_cases d:D x
  .exact qy d
  .exact qz (by unfold Nf at*;rw[<-k.no x d];exact hx)
 refine⟨qy k.own,λm e=>?_,λm e=>?_,λp' l8 x hx=>?_,λa e ne c' l' kY p' l8 x hx=>?_,λR r1 r2 a e=>?_⟩
 .by_cases d:E m
  .have⟨u1,u2,u3,u4,u5⟩:=q.up m d;rw[k.no m<|dis m d]at u3 u4;exact⟨u1,u2,u3,u4,u5⟩
  .have⟨u1,u2,u3,u4,u5⟩:=k.up m<|e.resolve_right d;exact⟨u1,u2,u3,u4,(q.no m d).trans u5⟩
 .rw[q.no m<|λd=>e<|qz d,k.no m<|λd=>e<|qy d]
 .obtain l8|l8:=List.mem_append.1 l8
  .exact(k.pt p' l8 x hx).imp qy id
  .simp at l8;subst l8;obtain r|r:=q.hd x hx
   .grind
   .grind
 .obtain d|d:=e
  .exact(k.cl a d ne c' l' kY p' l8 x hx).imp qy id
  .obtain r|r:=q.cl a d c' l' kY p' l8 x hx
   .grind
   .grind
 .obtain d|d:=e
  .exact k.re R r1 r2 a d
  .exact q.re R (λx hx=>r2 h c l0 p x r1 hs hp hx) r2 a d
def xV.done{c}{l0}(hh:Hd nx n h)(hs:str h=some (c,l0))(k:xV str nx ds lv l9 h l0 L D):vD str nx ds lv l9 n L D:=by
 refine⟨k.up,k.no,λx hx=>qy (by rw[hx.one hh];exact k.own),λa d c' l' kY p hp x hx=>?_,λR r1 r2 a d=>k.re R (r1 h hh) r2 a d⟩;by_cases e:a=h
 .subst e;rw[hs]at kY;injection kY with kY;injection kY with _ e2;subst e2;exact k.pt p hp x hx
 .exact k.cl a d e c' l' kY p hp x hx
def xV.abu(hh:Hd nx n h)(hs:str h=none)(k:xV str nx ds lv l9 h [] L D):vD str nx ds lv l9 n L D:=by
 refine⟨k.up,k.no,λx hx=>qy (by rw[hx.one hh];exact k.own),λa d c' l' kY p hp x hx=>?_,λR r1 r2 a d=>k.re R (r1 h hh) r2 a d⟩;by_cases e:a=h
 .grind
 .exact k.cl a d e c' l' kY p hp x hx
end
def fp(ds:List Nat)(lv:Nat->Nat)L:=ds.countP λm=>decide (L<lv m/\lv m≠aL)
def afB{lv}{L:Nat}(h:∀m,L<cB m/\cB m≠aL->L<lv m/\lv m≠aL):fp ds cB L<=fp ds lv L:=List.countP_mono_left λm _ q=>by simpa using h m (by simpa using q)
def afC{lv cB:Nat->Nat}{L x:Nat}(h:∀m,L<cB m/\cB m≠aL->L<lv m/\lv m≠aL)(hx:L<lv x/\lv x≠aL)(Gt:¬(L<cB x/\cB x≠aL)):∀{ds:List Nat},x∈ds->fp ds cB L<fp ds lv L
 |a::ds,hm=>by
  unfold fp;rw[ju,ju];have hle:ds.countP (λm=>decide (L<cB m/\cB m≠aL))<=ds.countP (λm=>decide (L<lv m/\lv m≠aL)):=afB h;by_cases e:a=x
  .subst e;rw[if_pos<|decide_eq_true hx,if_neg<|by simpa using Gt];omega
  .have:=afC h hx Gt (ds:=ds) (by obtain q|q:=List.mem_cons.1 hm;exact absurd q.symm e;exact q);unfold fp at this;by_cases q:L<cB a/\cB a≠aL
   .rw[if_pos<|decide_eq_true q,if_pos<|decide_eq_true<|h a q];omega
   .rw[if_neg<|by simpa using q];split<;>omega
def vD.eqv{nx}{lv0 lv}{L:Nat}(g:GL w ds str nx vr ly lv0)(e:iS str nx bi)(q:vD str bi ds lv cB n L D):vD str nx ds lv cB n L D:=
 ⟨λm d=>⟨(q.up m d).1,(e.BH m).1 (q.up m d).2.1,(q.up m d).2.2⟩,q.no,λh k=>q.hd h<|e.k_ _ _ k,λa d c l hs p hp h k=>q.cl a d c l hs p hp h<|e.k_ _ _ k,λR r1 r2=>q.re R (λh k=>r1 h<|e.back g k)<|λa c l p h ra hs hp k=>r2 a c l p h ra hs hp<|e.back g k⟩
def LX ds str nx vr ly lv n L w(e:Ending)w':=
 e=.returned (.tuple #[])/\∃bi cB D,GL w' ds str bi vr ly cB/\Fr (λb=>b∈ds) w w'/\iS str nx bi/\w'.heap.size=w.heap.size/\vD str nx ds lv cB n L D
def ahX ds str vr ly k:=∀(w:World)(nx:Nx)(lv:Nat->Nat)(n L:Nat),GL w ds str nx vr ly lv->n∈ds->fp ds lv L<=k->Cq 286 #[nA n,Nv L] w (LX ds str nx vr ly lv n L w)
def ahY ds str nx vr ly lv h L(l:List Nat)w gk v wr:=
 ∃j gY l9 D,Hid (gk=l.length-j)/\j<=l.length/\v=Nv j/\GL wr ds str gY vr ly l9/\Fr (λb=>b∈ds) w wr/\iS str nx gY/\wr.heap.size=w.heap.size/\xV str nx ds lv l9 h (l.take j) L D
def Wm(IH:∀i,i<k->ahX ds str vr ly i):ahX ds str vr ly k:=by
 intro w nx lv n L Hq hn hk;have⟨h,hh⟩:=Hq.hd n hn;have hm:=Hq.bN hn hh;have HC:=r9 Hq hn hh;go_enter func286,ntmps286;go_wp2_with fail;refine HC.mono ?_;rintro e w1⟨rfl,e_,G1,F1,E1,z1⟩;clear HC;have⟨c1,f1⟩:=(G1.nd h hm).lvl;have Mw:nx h=none:=hh.head;by_cases hle:lv h<=L
 .have hd:(lv h:Int)<=(L:Int):=ae;have HG:=ai G1;clear G1
  go_wp2
  go_end0;exact⟨rfl,e_,lv,_,uh HG,F1,E1,z1,vD.nil hh<|qy hle⟩
 .have hd:decide ((lv h:Int)<=(L:Int))=false:=bF;by_cases han:lv h=aL
  .have he:((lv h:Int)==(9223372036854775807:Int))=true:=by rw[han];rfl
   have HAN:=ai han;have HG:=ai G1;clear G1 han
   go_wp2
   go_end0;exact⟨rfl,e_,lv,_,uh HG,F1,E1,z1,vD.nil hh<|qz<|uh HAN⟩
  have he:((lv h:Int)==(9223372036854775807:Int))=false:=by simp;intro q;exact han (by show lv h=9223372036854775807;omega)
  have G2:=G1.VY hm aL;have⟨_,_,_,_,c4⟩:=(G1.nd h hm).cells;have F2:Hid (Fr (λb=>b∈ds) w<|w1.setCell ⟨h,1,none⟩<|Iv 9223372036854775807):=ai<|F1.set (qy hm) 1 _;have MW:=ai G2;have Z1:=z1;have E1':=ai E1;have J0:Hid (xV str nx ds lv (xm lv h aL) h [] L<|λm=>m=h):=ai<|xV.start hm Mw ae han;clear G1 G2 F1 z1 E1
  cases hs:str h with
  |none=>
   have c4':w1.cell? ⟨h,4,none⟩=some (.slice (ly h).1 0 (ly h).2):=by rw[c4,hs];rfl
   clear c4
   go_wp2
   go_loopg[29] 0 (λgk v wr=>v=Iv 0/\wr=w1.setCell ⟨h,1,none⟩ (Iv 9223372036854775807))
   case atStart=>exact⟨rfl,rfl⟩
   case round=>
    obtain⟨rfl,rfl⟩:=hrel
    go_wp2
    go_end0;exact⟨rfl,e_,_,_,uh MW,uh F2,uh E1',qAz,(uh J0).abu hh hs⟩
  |some q=>
   obtain⟨c,l⟩:=q;have c4':w1.cell? ⟨h,4,none⟩=some (.slice (ly h).1 l.length (ly h).2):=by rw[c4,hs];rfl
   have⟨hl1,Kd⟩:=Hq.part hm hs;have hdp:fp ds (xm lv h aL) L<fp ds lv L:=afC (x:=h) (λm q=>by by_cases e:m=h;subst e;exact⟨ae,han⟩;simpa[xm,e]using q) ⟨ae,han⟩ Q5 hm;clear c4;by_cases Cu:l=[]
   .subst Cu;have alL:=c4';clear c4'
    go_wp2
    go_loopg[29] 0 (λgk v wr=>v=Iv 0/\wr=w1.setCell ⟨h,1,none⟩ (Iv 9223372036854775807))
    case atStart=>exact⟨rfl,rfl⟩
    case round=>
     obtain⟨rfl,rfl⟩:=hrel
     go_wp2
     go_end0;exact⟨rfl,e_,_,_,uh MW,uh F2,uh E1',qAz,(uh J0).done hh hs⟩
   have⟨ga,EGA,_,_⟩:=Hq.row hm hs<|List.length_pos_iff.2 Cu;rw[EGA]at c4'
   go_wp2
   go_loopg[29] l.length (λgk v wr=>ahY ds str nx vr ly lv h L l w gk v wr)
   case atStart=>exact⟨0,e_,_,_,ai ag,xh _,rfl,uh MW,uh F2,uh E1',qAz,by simpa using uh J0⟩
   case round=>
    clear MW F2 E1' J0 c4' c1 f1;obtain⟨j,gY,l9,D,dl,hj,rfl,Gj,FJ,EJ,ZJ,JJ⟩:=hrel;by_cases bm:j<l.length
    .have bA:(j:Int)<(l.length:Int):=ae;have It:(0:Int)<=(j:Int):=ae;have⟨ga',e1,cg,_⟩:=Gj.row hm hs bm;have e2:=e1.symm.trans EGA;injection e2 with e2;injection e2 with e2;subst e2
     have HCJ:=IH (fp ds (xm lv h aL) L) ae wr gY l9 l[j] L Gj (Kd _<|jd bm) (afB λm q=>by
      by_cases d:D m
      .exact absurd (JJ.up m d).2.2.2.2 q.2
      .have e:m≠h:=λe=>d<|e▸JJ.own;simp only[xm,e,if_false]
       rw[<-JJ.no m d];exact q)
     clear e1;clear Gj;go_wp2_with fail;refine HCJ.mono ?_;rintro e w2⟨rfl,q_,mQ,D2,G2,F2,E2,z2,q2⟩;have HG:=ai G2;have HF:=FJ.trans F2;have HE:=EJ.trans E2;have HZ:=z2.trans ZJ;have HJ2:=JJ.step hs (jd bm)<|q2.eqv Hq EJ
     go_wp2
     go_roundg(l.length-(j+1))
     case measure=>rw[uh dl];omega
     case rel=>exact⟨j+1,q_,mQ,_,ai rfl,xc bm,jP,uh HG,HF,HE,HZ,by rw[ja bm];exact HJ2⟩
    .have bA:decide ((j:Int)<(l.length:Int))=false:=bF;have ej:j=l.length:=ae;subst ej;rw[jh]at JJ;have HX:=show LX ds str nx vr ly lv n L w (Rv<|.tuple #[]) wr from⟨rfl,gY,l9,D,Gj,FJ,EJ,ZJ,JJ.done hh hs⟩
     go_wp2
     go_end0;exact HX
def ahZ:∀k,ahX ds str vr ly k:=λk=>Nat.strongRecOn k λk ih=>Wm ih
end
section
open Go.ChangeMaps Go.MapKept Un
structure OR l B g(s:jy)cnt(ρ:j8)g'(s':jy)(aD:Nat)(dS:j8):Prop where
 st:iT l g s g' s'
 hd:∀m,m∈g.ds->∀x,Hd g'.nx m x↔Hd g.nx m x
 kk:s'.k=s.k
 ext:∀v n,ρ v=some n->dS v=some n
 cc:cnt<=aD
 uu:∀m,s'.u m->s.u m\/(cnt<m/\m<=aD)
 nw:∀v n,ρ v=none->dS v=some n->¬s.u n
 on:∀v v' n,ρ v=none->dS v=some n->dS v'=some n->v=v'
 usd:∀n,s'.u n↔s.u n\/∃v,ρ v=none/\dS v=some n
 fe:∀m,m∈g.ds->g'.lv m=g.lv m/\g'.V m=g.V m
 new:∀m,m∈g'.ds->(m∈g.ds/\g'.ly m=g.ly m/\g'.str m=g.str m)\/(B<=m/\∀gg,(g'.ly m).1=some ⟨gg,0,none⟩->B<=gg)
 nl:∀m,m∈g'.ds->¬m∈g.ds->g'.lv m<=l
section
variable {cnt cJ:Nat} {lV:j8}
def OR.refl(h:JS w g s)l B cnt(ρ:j8):OR l B g s cnt ρ g s cnt ρ:=⟨iT.refl h l,λ_ _ _=>Iff.rfl,rfl,λ_ _ q=>q,br _,λ_ q=>qy q,(λv n q r=>qAw),(λv v' n q r=>qAw),λn=>⟨qy,λq=>q.elim id λ⟨v,q,r⟩=>qAw⟩,λ_ _=>⟨rfl,rfl⟩,λm hm=>qy ⟨hm,rfl,rfl⟩,λm hm q=>absurd hm q⟩
def OR.trans(h:JS w g s)(h1:JS w1 g1 s1)(h2:JS w2 g2 s2)(a:OR l B g s cnt ρ g1 s1 ah bK)(b:OR l B' g1 s1 ah bK g2 s2 cJ lV)(hB:B<=B'):OR l B g s cnt ρ g2 s2 cJ lV where
 st:=iT.trans h h1 h2 a.st b.st
 hd m hm x:=(b.hd m (a.st.fe m hm).1 x).trans<|a.hd m hm x
 kk:=b.kk.trans a.kk
 ext v n q:=b.ext v n<|a.ext v n q
 cc:=xd a.cc b.cc
 uu m q:=by
  have:=a.cc;have:=b.cc;obtain q|q:=b.uu m q
  .exact(a.uu m q).imp id λr=>ae
  .omega
 nw v n h0 h2:=by
  cases e:bK v with
  |none=>exact λq=>b.nw v n e h2 ((a.usd n).2<|qy q)|some n'=>
   have:=b.ext v n' e;rw[h2]at this;injection this with this;subst this;exact a.nw v _ h0 e
 on v v' n h0 h2 Mz:=by
  cases e:bK v with
  |none=>exact b.on v v' n e h2 Mz|some n'=>
   have:=b.ext v n' e;rw[h2]at this;injection this with this;subst this
   cases e':bK v' with
   |none=>exact(b.on v' v n e' Mz h2).symm|some n''=>
    have:=b.ext v' n'' e';rw[Mz]at this;injection this with this;subst this;exact a.on v v' _ h0 e e'
 usd n:=by
  rw[b.usd n,a.usd n];constructor
  .rintro((q|⟨v,q,r⟩)|⟨v,q,r⟩)
   .exact qy q
   .exact qz ⟨v,q,b.ext v n r⟩
   .refine qz ⟨v,?_,r⟩
    cases e:ρ v with
    |none=>rfl|some n'=>rw[a.ext v n' e]at q;cases q
  .rintro(q|⟨v,q,r⟩)
   .grind
   .cases e:bK v with
    |none=>grind|some n'=>
     have:=b.ext v n' e;rw[r]at this;injection this with this;subst this;exact qy<|qz ⟨v,q,e⟩
 fe m hm:=⟨(b.fe m (a.st.fe m hm).1).1.trans (a.fe m hm).1,(b.fe m (a.st.fe m hm).1).2.trans (a.fe m hm).2⟩
 new m hm:=by
  obtain⟨q1,q2,q3⟩|⟨q1,q2⟩:=b.new m hm
  .obtain⟨r1,r2,r3⟩|⟨r1,r2⟩:=a.new m q1
   .grind
   .grind
  .grind
 nl m hm q:=by
  by_cases q1:m∈g1.ds
  .rw[(b.fe m q1).1];exact a.nl m q1 q
  .exact b.nl m hm q1
end
section
variable {c:JC} {cnt:Nat}
def OR.used(a:OR l B g s cnt ρ g1 s1 ah bK)(h:∀n,s.u n->us cnt n):∀n,s1.u n->us ah n:=λn q=>by
 have:=a.cc;obtain q|q:=a.uu n q
 .have:=h n q;rw[us]at this⊢;omega
 .rw[us];omega
def OR.zK(a:OR l B' g s cnt ρ g1 s1 ah bK)(h:B<=B'):OR l B g s cnt ρ g1 s1 ah bK:={a with new:=λm hm=>(a.new m hm).imp id λq=>⟨ae,λgg e=>by have:=q.2 gg e;omega⟩}
def JS.one(h:JS w g s)(o:One b w w')(h1:¬b∈g.ds)(h4:∀m∈g.ds,∀c l gg,g.str m=some (c,l)->l≠[]->(g.ly m).1=some ⟨gg,0,none⟩->gg≠b):JS w' g s:=⟨h.gl.one o h1 h4,h.nF,h.inj,h.can,h.lc,h.val,h.use,h.ok⟩
def JE.one(h:JE w c nb l cnt)(o:One b w w')(h1:c.fZ<=b)(h2:c.eb<b)(h3:c.cb<b)(h4:c.rb<b)(h5:c.mb<b):JE w' c nb l cnt:=
 ⟨h.bx.same (xf o.size.symm)<|o.block c.eb ae,h.ct.same (xf o.size.symm)<|o.block c.cb ae,h.rs.same<|o.block _ ae,h.ms.move (xf o.size.symm) (o.block _ ae) (λb' p _=>o.block _ (by have:=p.2;omega))<|λ_ p _=>p,⟨h.z.1,h.z.2.1,by rw[o.size];exact h.z.2.2⟩⟩
def JS.ah0(h:JS w g s)(hm:m∈g.ds){k}{gg}(hs:g.str m=some (k,ps))(hl:ps≠[])(hg:(g.ly m).1=some ⟨gg,0,none⟩):gg<w.heap.size:=by
 have⟨ga,q1,q2,_⟩:=h.gl.row hm hs<|List.length_pos_iff.2 hl;rw[hg]at q1;injection q1 with q1;injection q1 with q1;subst q1;exact jM q2
def Ua{p:Prop}(h:p:=by
 exact qy ⟨(List.mem_cons.1 hm).resolve_left e,by simp[xm,e],by simp[xm,e]⟩):p:=h
def OR.add(h:JS w g s){n:Nat}(hn:B<=n)(nd:¬n∈g.ds){q:BA×List Nat}{a:Option Addr×Nat}{T:Ty}(ha:∀gg,a.1=some ⟨gg,0,none⟩->B<=gg):OR l B g s cnt ρ (g.add n (some q) 0 a l T) s cnt ρ where
 st:=iT.add h nd rfl (λe=>by cases e)
 hd _ _ _:=Iff.rfl
 kk:=rfl
 ext _ _ q:=q
 cc:=br _
 uu _ q:=qy q
 nw v n q r:=qAw
 on v v' n q r:=qAw
 usd n:=⟨qy,λq=>q.elim id λ⟨v,q,r⟩=>qAw⟩
 fe m hm:=by
  have e:m≠n:=λe=>nd<|e▸hm;simp[xm,e]
 new m hm:=by
  by_cases e:m=n
  .subst e;exact qz ⟨hn,λgg q=>ha gg<|by simpa[xm]using q⟩
  .exact Ua
 nl m hm q:=by
  rw[(List.mem_cons.1 hm).resolve_right q];simp[xm]
end
structure OKs(c:JC)l Kb(Tb:Nat->Prop)(K:World->f_->jy->Nat->j8->Prop):Prop where
 af:∀w w' g s cnt ρ,K w g s cnt ρ->Bq w w'->K w' g s cnt ρ
 one:∀w w' g s cnt ρ b,K w g s cnt ρ->One b w w'->Kb<=b->K w' g s cnt ρ
 add:∀w g s cnt ρ n q v a T,K w g s cnt ρ->¬n∈g.ds->K w (g.add n (some q) v a l T) s cnt ρ
 tb:∀b,Tb b->b<Kb
def LY c nb l(Tb:Nat->Prop)(K:World->f_->jy->Nat->j8->Prop)g(s:jy)cnt(ρ:j8)T w(e:Ending)w':=
 ∃n g' s' aD dS,e=.returned (nA n)/\JE w' c nb l aD/\JS w' g' s'/\K w' g' s' aD dS/\OR l w.heap.size g s cnt ρ g' s' aD dS/\n∈g'.ds/\g'.V n=sub s.k (sub (j5 dS) T)/\(∀x,Hd g'.nx n x->g'.lv x<=l)/\(∀v,(aw v T->dS v≠none)/\(¬aw v T->dS v=ρ v))/\aD<=cnt+size T/\Fr (λb=>b=c.cb\/Tb b) w w'
def OfJ c nb l Kb Tb(K:World->f_->jy->Nat->j8->Prop)F(A:Nat->Prop)T:=∀(w:World)(g:f_)(s:jy)(cnt:Nat)(ρ:j8)(Q:Nat->Prop)(v:Value),JE w c nb l cnt->JS w g s->(∀n,s.u n->us cnt n)->K w g s cnt ρ->Kb<=w.heap.size->dW w Q T v->(∀b,Q b->b≠c.cb/\¬Tb b)->size T<=1000->(∀n,aw n T->A n)->cnt+size T<=900000->Cq 289 #[v,Nv l,F] w (LY c nb l Tb K g s cnt ρ T w)
def akh c nb l(Tb:Nat->Prop)(K:World->f_->jy->Nat->j8->Prop)g(s:jy)cnt(ρ:j8)k(L:List Ty)sa sc w gk v wr:=
 ∃(j:Nat)(C:Array Value)(g':f_)(s':jy)(aD:Nat)(dS:j8)(ps:List Nat),Hid (gk=L.length-j)/\j<=L.length/\v=Nv j/\JE wr c nb l aD/\JS wr g' s'/\K wr g' s' aD dS/\OR l (w.heap.size+2) g s cnt ρ g' s' aD dS/\Fr (λb=>b=c.cb\/Tb b) w wr/\Bx wr w.heap.size #[.string<|pn k,.slice sa L.length sc]/\Bx wr (w.heap.size+1) C/\Hid (C.size=L.length)/\
  Hid (ps.length=j/\(∀m,m∈ps->m∈g'.ds/\∀x,Hd g'.nx m x->g'.lv x<=l)/\ps.map g'.V=(L.take j).map (λt=>sub s.k<|sub (j5 dS) t)/\(∀i(h:i<ps.length),C[i]? =some (nA ps[i]))/\(∀v,((∃t,t∈L.take j/\aw v t)->dS v≠none)/\((∀t,t∈L.take j->¬aw v t)->dS v=ρ v))/\aD<=cnt+ak (L.take j))
def vE:∀a b:List Ty,ak (a++b)=ak a+ak b
 |[],b=>by simp[ak]|t::a,b=>by simp only[List.cons_append,ak,vE a b];omega
def Bj L(h:j<L.length):ak (L.take<|j+1)=ak (L.take j)+size L[j]/\ak (L.take<|j+1)<=ak L:=by
 have e:ak (L.take<|j+1)=ak (L.take j)+size L[j]:=by rw[ja h,vE];simp[ak]
 refine⟨e,?_⟩;have:ak (L.take<|j+1)+ak (L.drop<|j+1)=ak L:=by rw[<-vE,ji]
 omega
section
variable {c:JC} {Tb:Nat->Prop} {K:World->f_->jy->Nat->j8->Prop} {F:Value} {A:Nat->Prop}
def aeu{dS}(hc:∀v,aw v t->ρ v≠none)(he:∀v n,ρ v=some n->dS v=some n):sub (j5 ρ) t=sub (j5 dS) t:=sub_congr t λv o=>by
 unfold j5
 cases e:ρ v with
 |none=>exact absurd e (hc v o)|some n=>rw[he v n e]
def afH{p:Prop}(h:p:=by
 refine js2.one oc (λq=>?_)<|λy hy c' l' gg e1 e2 e3 e4=>?_
 .obtain⟨q,_⟩|⟨q,_⟩:=or3.new _ q
  .have:=js.lt q;omega
  .omega
 .obtain⟨q1,q2,q3⟩|⟨q1,q2⟩:=or3.new y hy
  .have:=js.ah0 q1 (q3▸e1) e2<|q2▸e3;omega
  .have:=q2 gg e3;omega):p:=h
def amY{p:Prop}(h:p:=by
 intro y hy;obtain q|q:=List.mem_append.1 hy
 .obtain⟨r1,r2⟩:=x2 y q;refine⟨(MY.st.fe y r1).1,λx k=>?_⟩;have k:=(MY.hd y r1 x).1 k;rw[(MY.fe x<|l_.gl.bN r1 k).1];exact r2 x k
 .simp at q;subst q;exact⟨hm,yP⟩):p:=h
def amZ{p:Prop}(h:p:=by
 intro i hi;by_cases e:i<j
 .rw[Array.getElem?_setIfInBounds_ne ae,x4 i ae,List.getElem_append_left ae]
 .have e:i=j:=Ie;subst e;rw[List.getElem_append_right ae]
  simp[wJ,x1]):p:=h
def am0{p:Prop}(h:p:=by
 cases e:bK v with
 |none=>exact absurd e this|some n=>rw[MY.ext v n e];simp):p:=h
def abY(hF:F=.nilFunc\/∃fn cap,F=.func fn #[] cap)(hK:OKs c l Kb Tb K)k L(IH:∀i(h:i<L.length),OfJ c nb l Kb Tb K F A L[i]):OfJ c nb l Kb Tb K F A (.aM k L):=by
 intro w g s cnt ρ Q v je js HU hk0 hkb hv hQ hs HA amT
 cases hv with
 |aM _ _ sa sc vs EW aO hr=>
 have hL:L.length<=1001:=by have:=DT L;simp[size]at hs;omega
 have gL:ak L<size (.aM k L):=by simp only[size];omega
 have⟨i0,yq,oR,nu,iZ⟩:=info_parts DS;have W7:=jV (by_:=8) wS yq oR rfl nu iZ aB L.length hL;have zc:=je.ct.z;have cr:Bq w ((w.alloc<|Cv #[Sv<|pn k,Lv sa L.length sc] 165).alloc<|Cv (Array.replicate L.length<|.pointer none) 413):=(bw _).alloc ag _;have ST:akh c nb l Tb K g s cnt ρ k L sa sc w L.length (Iv 0) ((w.alloc<|Cv #[Sv<|pn k,Lv sa L.length sc] 165).alloc<|Cv (Array.replicate L.length<|.pointer none) 413):=⟨0,Array.replicate L.length<|.pointer none,g,s,cnt,ρ,[],ai ag,Nat.zero_le _,rfl,je.af cr,js.af cr,hK.af _ _ _ _ _ _ hk0 cr,OR.refl js _ _ _ _,Fr.of cr,(Bx.new w _ _).alloc _,by have:=Bx.new (w.alloc<|Cv #[Sv<|pn k,Lv sa L.length sc] 165) (Array.replicate L.length<|.pointer none) 413;simpa using this,ai ag,ai ⟨rfl,ag,ag,λi hi=>by simp at hi,λv=>⟨ag,λ_=>rfl⟩,by simp[ak]⟩⟩;have HJ:=ai js;have HQ:=ai hQ;have HZ:=And.intro je.z.2.2<|And.intro je.bx.z<|And.intro je.ct.z<|And.intro je.rs.lt je.ms.lt;go_enter func289,ntmps289
 go_wp2
 go_loopg[29] L.length (λgk v wr=>akh c nb l Tb K g s cnt ρ k L sa sc w gk v wr)
 case atStart=>exact ST
 case round=>
  obtain⟨j,C,g1,s1,ah,bK,ps,dl,hj,rfl,D5,l_,k1,su,F1,HB0,B1,hC,hT⟩:=hrel;have zw:=F1.size;have zb:=B1.z;by_cases bm:j<L.length
  .have hd:(j:Int)<(L.length:Int):=ae;obtain⟨gg,rfl,hg,k9,bY⟩:∃g,sa=some ⟨g,0,none⟩/\Q g/\g<w.heap.size/\∀i,i<L.length->w.cell? ⟨g,i,none⟩=some (vs i):=by
    obtain h0|h0:=aO
    .subst h0;simp at bm
    .exact h0
   have hQ:=uh HQ;have cg:wr.cell? ⟨gg,j,none⟩=some (vs j):=by
    rw[xk (a:=⟨gg,j,none⟩) (w:=w)<|F1.block gg k9<|λq=>q.elim (hQ gg hg).1 (hQ gg hg).2];exact bY j bm
   have PJ:=(hr j bm).fr F1<|λb p _ q=>q.elim (hQ b p).1 (hQ b p).2;have⟨tv,xv,hv⟩:=PJ.iface;have⟨x1,x2,x3,x4,x5,x6⟩:=uh hT;have⟨y1,y2⟩:=Bj L bm;have HC:=IH j bm wr g1 s1 ah bK Q (vs j) D5 l_ (su.used HU) k1 ae PJ hQ ae (λn o=>HA n (by simp only[aw];exact(mP _ _).2 ⟨_,jd bm,o⟩)) ae;rw[hv]at cg HC;have HJ1:=ai l_;have HO1:=ai su;have BL:=ai F1;have eH:=ai B1;go_wp2_with fail;refine HC.mono ?_;rintro e w1⟨m,g2,s2,cJ,lV,rfl,je2,js2,k2,MY,hm,hV,yP,GU,Bk,F2⟩;have nmr:∀b,w.heap.size<=b->¬(b=c.cb\/Tb b):=λb hb q=>q.elim (λq=>ae) (λq=>by have:=hK.tb b q;omega);have B2:=eH.fr F2<|nmr _ ae;have B02:=HB0.fr F2<|nmr _ ae;have wJ:j<C.size:=qBh;have cj:=(B2.c j).trans<|zo wJ;have fj:=B2.f j;have B3:=B2.aR j (nA m) (C.setIfInBounds j<|nA m) rfl wJ;have B03:=B02.bT (b2:=w.heap.size+1) ae j<|nA m;have Ip:=HO1.trans HJ HJ1 js2 MY ae;have HX:=q9 je2<|q9 js2<|q9 k2<|q9 MY<|q9 hm<|q9 hV<|q9 yP<|q9 GU Bk;have Bu:=BL.trans F2;have z2:=F2.size
   go_wp2
   go_roundg(L.length-(j+1))
   case measure=>rw[uh dl];omega
   case rel=>
    have⟨x1,x2,x3,x4,x5,x6⟩:=uh hT;obtain⟨je2,js2,k2,MY,hm,hV,yP,GU,Bk⟩:=HX;have or3:=Ip;have l_:=uh HJ1;have js:=uh HJ;have oc:=One.cell w1 (w.heap.size+1) j<|nA m;obtain⟨u1,u2,u3,u4,u5⟩:=HZ;refine⟨j+1,C.setIfInBounds j<|nA m,g2,s2,cJ,lV,ps++[m],ai rfl,ae,jP,je2.one oc ae ae ae ae ae,?_,hK.one _ _ _ _ _ _ _ k2 oc ae,or3,Bu.set (qz ae) j _,B03,B3,ai (by simp;exact hC),ai ⟨by simp[x1],?_,?_,?_,?_,ae⟩⟩
    .exact afH
    .exact amY
    .rw[jf,ja bm,jf];have e1:=eC λp hp=>(MY.fe p (x2 p hp).1).2;have e2:(L.take j).map (λt=>sub s.k<|sub (j5 bK) t)=(L.take j).map (λt=>sub s.k<|sub (j5 lV) t):=jt λt ht=>by rw[aeu (λv o=>(x5 v).1 ⟨t,ht,o⟩) MY.ext]
     rw[e1,x3,e2];have:=HO1.kk;simp[hV,this]
    .exact amZ
    .intro v;rw[ja bm];refine⟨?_,λq=>?_⟩
     .rintro⟨t,ht,o⟩;obtain q|q:=List.mem_append.1 ht
      .have:=(x5 v).1 ⟨t,q,o⟩;exact am0
      .simp at q;subst q;exact(GU v).1 o
     .rw[(GU v).2<|q _<|jo _<|List.mem_singleton.2 rfl,(x5 v).2 λt ht=>q t<|jp _ ht]
  .have hd:decide ((j:Int)<(L.length:Int))=false:=bF;have ej:j=L.length:=ae;subst ej;have c0:=HB0.c 0;have HX:=q9 D5<|q9 l_<|q9 k1<|q9 su<|q9 F1<|q9 B1 hT;go_wp2_with fail;refine(GQ (w:=wr) (pn k) (l:Int) (some ⟨w.heap.size+1,0,none⟩) L.length L.length).mono ?_;rintro e w3⟨rfl,rfl⟩
   go_wp2
   go_ret;obtain⟨D5,l_,k1,su,F1,B1,x1,x2,x3,x4,x5,x6⟩:=HX;simp only[jh]at x3 x5 x6;have dz:Bq wr (wr.alloc<|Cv #[.pointer none,Nv l,Iv 0,Sv<|pn k,Lv (some ⟨w.heap.size+1,0,none⟩) L.length L.length] 423):=bw _;have BQ:=B1.alloc<|Cv #[.pointer none,Nv l,Iv 0,Sv<|pn k,Lv (some ⟨w.heap.size+1,0,none⟩) L.length L.length] 423;have hz:¬wr.heap.size∈g1.ds:=λq=>by have:=l_.lt q;omega
   have hrd:¬(w.heap.size+1)∈g1.ds:=λq=>by
    obtain⟨q,_⟩|⟨q,_⟩:=su.new _ q
    .have:=HJ.lt q;omega
    .omega
   have js3:=l_.abH dz (n:=wr.heap.size) (l:=l) (c:=k) (ps:=ps) (a:=(some ⟨w.heap.size+1,0,none⟩,L.length)) (br _) EW ae x2 (qz ⟨w.heap.size+1,rfl,(λq=>by
    obtain q|q:=List.mem_cons.1 q
    .omega
    .exact hrd q),BQ.z,λi hi=>(BQ.c i).trans<|x4 i hi⟩) (by rw[x1];exact(xy wr _).1)
   have or3:OR l w.heap.size g1 s1 ah bK (g1.add wr.heap.size (some (k,ps)) 0 (some ⟨w.heap.size+1,0,none⟩,L.length) l<|.aM k<|ps.map g1.V) s1 ah bK:=OR.add l_ ae hz (λgg e=>by injection e with e;injection e with e;omega);refine⟨wr.heap.size,_,s1,ah,bK,rfl,D5.af dz,js3,hK.add _ _ _ _ _ _ _ _ _ _ (hK.af _ _ _ _ _ _ k1 dz) hz,(su.zK ae).trans HJ l_ js3 or3<|br _,ag,?_,λx q=>?_,λv=>?_,ae,F1.trans<|Fr.of dz⟩
   .simp only[xm,if_true,sub,iC,x3,jx];rfl
   .have:x=wr.heap.size:=q.one<|.here (l_.gl.out _ hz).1;subst this;simp[xm]
   .simp only[aw];rw[mP];exact⟨(x5 v).1,λq=>(x5 v).2 λt h1 h2=>q ⟨t,h1,h2⟩⟩
end
abbrev anV(kb jb:Nat):Value:=.func (.func 312) #[] #[Pv kb,Pv jb]
structure sv(c:JC)l kb jb mb w(g:f_)(s:jy)(cnt:Nat)(ρ:j8):Prop where
 bk:Bx w kb #[Mv mb]
 bj:Bx w jb #[Pv c.eb]
 mp:∃L:List (Int×Value),MS (λn:Int=>Iv n) w mb L/\∀v:Nat,(ρ v=none/\a_ (v:Int) L=none)\/∃n m,ρ v=some n/\a_ (v:Int) L=some (nA m)/\m∈g.ds/\g.str m=none/\g.vr m=n/\∀x,Hd g.nx m x->g.lv x<=l
 far:c.fZ<=mb/\c.eb<mb/\c.cb<mb/\c.rb<mb/\c.mb<mb
section
variable {c:JC} {cnt:Nat}
def am1{p:Prop}(h:p:=by
 refine⟨n',m,r1,r2,jc _ r3,by simp[xm,e,r4],by simp[xm,e,r5],λx k=>?_⟩;by_cases ex:x=n
 .simp[xm,ex]
 .simp only[xm,ex,if_false];exact r6 x k):p:=h
def sv.ks(hk:kb<Kb)(hj:jb<Kb)(hm:mb<Kb):OKs c l Kb (λb=>b=mb) (sv c l kb jb mb) where
 af w w' g s cnt ρ h hb:=by
  have⟨L,h1,h2⟩:=h.mp;exact⟨h.bk.below hb,h.bj.below hb,⟨L,h1.below hb,h2⟩,h.far⟩
 one w w' g s cnt ρ b h o hb:=by
  have⟨L,h1,h2⟩:=h.mp;exact⟨h.bk.same (xf o.size.symm)<|o.block kb ae,h.bj.same (xf o.size.symm)<|o.block jb ae,⟨L,h1.one o ae,h2⟩,h.far⟩
 add w g s cnt ρ n q v a T h hn:=by
  have⟨L,h1,h2⟩:=h.mp;refine⟨h.bk,h.bj,⟨L,h1,λv=>(h2 v).imp id ?_⟩,h.far⟩;rintro⟨n',m,r1,r2,r3,r4,r5,r6⟩;have e:m≠n:=λe=>hn<|e▸r3;exact am1
 tb b e:=ae
def JS.Oz(h:JS w g s)(hm:m∈g.ds)(hs:g.str m=none):g.V m=s.k (g.vr m):=h.val m hm hs
def JS.nQ(h:JS w g s)[DecidableEq κ]{enc}{L:List (κ×Value)}(hm:MS enc w b L):¬b∈g.ds/\∀m∈g.ds,∀c l gg,g.str m=some (c,l)->l≠[]->(g.ly m).1=some ⟨gg,0,none⟩->gg≠b:=by
 refine⟨λq=>?_,λm hm' c l gg hs hl hg e=>?_⟩
 .have⟨p,hp⟩:=h.gl.rf q;rw[hm.r8 0]at hp
  cases hp
 .have⟨ga,q1,q2,_⟩:=h.gl.row hm' hs<|List.length_pos_iff.2 hl;rw[hg]at q1;injection q1 with q1;injection q1 with q1;subst q1;rw[e,hm.r8 _]at q2
  cases q2
def OR.var(h:JS w g s){v}(hn:B<=n)(nd:¬n∈g.ds)(hu:∀n,s.u n->us cnt n)(hv:ρ v=none)(hr:∀y n',ρ y=some n'->s.u n'):OR l B g s cnt ρ (g.add n none (cnt+1) (none,0) l<|.var<|cnt+1) ⟨s.k,λm=>s.u m\/m=cnt+1⟩ (cnt+1) (λy=>if y=v then some (cnt+1)else ρ y):=by
 have hnu:¬s.u (cnt+1):=λq=>by have:=hu _ q;rw[us]at this;omega
 have hor:∀y n',ρ y=some n'->y≠v:=λy n' q e=>by rw[e,hv]at q;cases q
 refine⟨iT.add h nd rfl (λ_=>br _),λ_ _ _=>Iff.rfl,rfl,λy n' q=>by simp[hor y n' q,q],ae,λm q=>q.imp id λe=>ae,λy n' h0 h1=>?_,λy y' n' h0 h1 h2=>?_,λn'=>⟨?_,?_⟩,λm hm=>?_,λm hm=>?_,λm hm q=>by rw[(List.mem_cons.1 hm).resolve_right q];simp[xm]⟩
 .grind
 .grind
 .grind
 .grind
 .have e:m≠n:=λe=>nd<|e▸hm;simp[xm,e]
 .by_cases e:m=n
  .subst e;exact qz ⟨hn,λgg q=>by simp[xm]at q⟩
  .exact Ua
def sv.rng(h:sv c l kb jb mb w g s cnt ρ)(j:JS w g s):∀y n',ρ y=some n'->s.u n':=λy n' q=>by
 have⟨L,h1,h2⟩:=h.mp;obtain⟨r,_⟩|⟨n,m,r1,r2,r3,r4,r5,r6⟩:=h2 y
 .rw[r]at q;cases q
 .rw[r1]at q;injection q with q;subst q;rw[<-r5];exact j.use m r3 r4
def aev(h:JE w c nb l cnt)(j:JS w g s)(hu:∀n,s.u n->us cnt n)(ha:sv c l kb jb mb w g s cnt ρ)v(hc:cnt+1<=900000):Cq 312 #[Nv v,Pv kb,Pv jb] w (LY c nb l (λb=>b=mb) (sv c l kb jb mb) g s cnt ρ (.var v) w):=by
 have⟨L,HM,HL⟩:=ha.mp;have hl:=HM.look (KL.num Tryz.underlying152) Tryz.underlying446 (AX w) (v:Int) trivial (λ_ _=>trivial) true;have qQ:=ha.bk.c 0;have hcj:=ha.bj.c 0;have hkm:kb≠mb:=λe=>by have:=HM.r8 0;rw[<-e,qQ]at this;cases this
 have hjm:jb≠mb:=λe=>by have:=HM.r8 0;rw[<-e,hcj]at this;cases this
 have Mo:c.cb≠mb:=by have:=ha.far.2.2.1;omega
 obtain⟨HR,q⟩|⟨n,m,r1,r2,r3,r4,r5,r6⟩:=HL v
 .rw[q]at hl;simp at hl;have hkc:kb≠c.cb:=λe=>by have:=h.ct.c 0;rw[<-e,qQ]at this;simp at this
  have hjc:jb≠c.cb:=λe=>by have:=h.ct.c 0;rw[<-e,hcj]at this;simp at this
  have HV:=pE h j hu ae;have HA:=ai ha;have HJ:=ai j;go_enter func312,ntmps312;go_wp2_with fail;refine HV.mono ?_;rintro e w1⟨n,rfl,hn,D5,l_,F1⟩;have hc1:=(HA.bk.fr F1 hkc).c 0;have BK1:=HA.bk.fr F1 hkc;have BJ1:=HA.bj.fr F1 hjc;have HM1:=HM.same<|F1.block mb HM.lt<|λe=>Mo e.symm;have HX:=And.intro D5<|And.intro l_ F1;go_wp2_with(refine aV _ rfl _ _ _ _ (Or.inr rfl) (KL.num Tryz.underlying152) Tryz.underlying446 _ _ rfl HM1 (v:Int) (nA n) rfl rfl trivial (λ_ _=>trivial) ?_;intro w' H' O';have Db:=ai H';have O2:=ai O';clear H' O');go_ret;obtain⟨D5,l_,F1⟩:=HX;have O:=uh O2;have j:=uh HJ;have nd:¬n∈g.ds:=λq=>by have:=j.lt q;omega
  have ha:=uh HA;have⟨f1,f2,f3,f4,f5⟩:=ha.far;have⟨n1,n2⟩:=l_.nQ HM1;refine⟨n,_,_,cnt+1,_,rfl,D5.one O f1 f2 f3 f4 f5,l_.one O n1 n2,⟨BK1.same (xf O.size.symm)<|O.block kb hkm,BJ1.same (xf O.size.symm)<|O.block jb hjm,⟨_,Db,λy=>?_⟩,ha.far⟩,OR.var j (v:=v) hn nd hu HR<|ha.rng j,ag,?_,λx k=>?_,λy=>⟨λo=>?_,λo=>?_⟩,by simp[size],?_⟩
  .rw[aN];by_cases e:y=v
   .subst e;refine qz ⟨cnt+1,n,ag,ag,ag,Q5,Q5,λx k=>?_⟩;have:x=n:=k.one<|.here (j.gl.out _ nd).1;subst this;simp[xm]
   .have e':¬(v:Int)=(y:Int):=ae;simp only[e,e',if_false];refine(HL y).imp id ?_;rintro⟨n',m,r1,r2,r3,r4,r5,r6⟩;have e:m≠n:=λe=>nd<|e▸r3;exact am1
  .have hnu:¬s.u (cnt+1):=λq=>by have:=hu _ q;rw[us]at this;omega
   simp[xm,sub,j5,j.ok.out _ hnu]
  .have:x=n:=k.one<|.here (j.gl.out _ nd).1;subst this;simp[xm]
  .simp only[aw]at o;subst o;simp
  .simp only[aw]at o;simp[zd o]
  .exact⟨O.os.trans F1.os,O.tape.trans F1.tape,O.output.trans F1.output,by rw[O.size];exact F1.size,λk hk hn=>(O.block k<|λe=>hn<|qz e).trans<|F1.block k hk<|λe=>hn<|qy e⟩
 .rw[r2]at hl;simp at hl;have HX:=show LY c nb l (λb=>b=mb) (sv c l kb jb mb) g s cnt ρ (.var v) w (Rv<|nA m) w from⟨m,g,s,cnt,ρ,rfl,h,j,ha,OR.refl j _ _ _ _,r3,by simp[sub,In.via,r1,j.Oz r3 r4,r5],r6,λy=>⟨λo=>by simp only[aw]at o;subst o;simp[r1],λ_=>rfl⟩,ae,Fr.refl _ _⟩;go_enter func312,ntmps312
  go_wp2
  go_ret;exact HX
end
section
variable {c:JC} {cnt:Nat}
def ah1 n:OfJ c nb l Kb (λb=>b=mb) (sv c l kb jb mb) (anV kb jb) (λ_=>True) (.var n):=by
 intro w g s cnt ρ Q v je js hu hk0 hkb hv hQ hs hA EW
 cases hv
 have HC:=aev je js hu hk0 n (by simpa[size]using EW);go_enter func289,ntmps289;go_wp2_with fail;refine HC.mono ?_;rintro e w1⟨m,g',s',aD,dS,rfl,r⟩
 go_wp2
 go_ret;exact⟨m,g',s',aD,dS,rfl,r⟩
mutual
def TH(hk:kb<Kb)(hj:jb<Kb)(hm:mb<Kb):∀T:Ty,OfJ c nb l Kb (λb=>b=mb) (sv c l kb jb mb) (anV kb jb) (λ_=>True) T
 |.var n=>ah1 n|.aM k L=>abY (qz ⟨_,_,rfl⟩) (sv.ks hk hj hm) k L<|afD hk hj hm L
def afD(hk:kb<Kb)(hj:jb<Kb)(hm:mb<Kb):∀(L:List Ty)(i:Nat)(h:i<L.length),OfJ c nb l Kb (λb=>b=mb) (sv c l kb jb mb) (anV kb jb) (λ_=>True) L[i]
 |[],i,h=>absurd h (xi _)|t::L,0,h=>TH hk hj hm t|t::L,i+1,h=>afD hk hj hm L i<|Nat.lt_of_succ_lt_succ h
end
abbrev noK:World->f_->jy->Nat->j8->Prop:=λ_ _ _ _ _=>True
def alZ:OKs c l 0 (λ_=>False) noK:=⟨λ_ _ _ _ _ _ _ _=>trivial,λ_ _ _ _ _ _ _ _ _ _=>trivial,λ_ _ _ _ _ _ _ _ _ _ _ _=>trivial,λ_ h=>h.elim⟩
mutual
def afE:∀T:Ty,OfJ c nb l 0 (λ_=>False) noK .nilFunc (λ_=>False) T
 |.var n=>λw g s cnt ρ Q v _ _ _ _ _ _ _ _ hA _=>(hA n rfl).elim|.aM k L=>abY (qy rfl) alZ k L<|afF L
def afF:∀(L:List Ty)(i:Nat)(h:i<L.length),OfJ c nb l 0 (λ_=>False) noK .nilFunc (λ_=>False) L[i]
 |[],i,h=>absurd h (xi _)|t::L,0,h=>afE t|t::L,i+1,h=>afF L i<|Nat.lt_of_succ_lt_succ h
end
def aki c nb l g(s:jy)cnt T w(e:Ending)w':=
 ∃n g' aD,e=.returned (nA n)/\JE w' c nb l aD/\JS w' g' s/\OR l w.heap.size g s cnt qu g' s aD qu/\n∈g'.ds/\g'.V n=T/\(∀x,Hd g'.nx n x->g'.lv x<=l)/\aD<=cnt+size T/\Fr (λb=>b=c.cb) w w'
def al0 (hT:∀v,¬aw v T) (h:LY c nb l (λ_=>False) noK g s cnt qu T w e w'):aki c nb l g s cnt T w e w':=by
 obtain ⟨n,g',s',aD,dS,rfl,h1,h2,_,h4,h5,h6,h7,h8,h9,h10⟩:=h;have hρ:=funext λv=>(h8 v).2 (hT v);subst hρ;have hs:s'=s:=by
  obtain ⟨k',u'⟩:=s';obtain ⟨k,u⟩:=s;have e1:k'=k:=h4.kk;have e2:u'=u:=funext λn=>propext ⟨λq=>((h4.usd n).1 q).elim id (λ⟨v,_,r⟩=>nomatch r),λq=>(h4.usd n).2 (qy q)⟩;rw [e1,e2]
 subst hs;refine ⟨n,g',aD,rfl,h1,h2,h4,h5,?_,h7,h9,h10.fZ λb q=>q.elim id False.elim⟩;rw [h6,ql (t:=T) λv o=>(hT v o).elim,ql λv o=>(hT v o).elim]
def aew(h:JE w c nb l cnt)(j:JS w g s)(hu:∀n,s.u n->us cnt n)(hv:dW w Q T v)(hQ:∀b,Q b->b≠c.cb)(hs:size T<=1000)(hT:∀n,¬aw n T)(hc:cnt+size T<=900000):Cq 283 #[Pv c.eb,v] w (aki c nb l g s cnt T w):=by
 have f1:=h.bx.c 4;have HC:=afE T w g s cnt In.Cr Q v h j hu trivial (Nat.zero_le _) hv (λb q=>⟨hQ b q,id⟩) hs (λn o=>hT n o) hc;obtain⟨tv,xv,rfl⟩:=hv.iface;go_enter func283,ntmps283;go_wp2_with fail;refine HC.mono ?_;rintro e w1 r;have r':=al0 hT r;obtain⟨n,g',aD,rfl,R⟩:=r'
 go_wp2
 go_ret;exact⟨n,g',aD,rfl,R⟩
def TK(h:JE w c nb l cnt)(g:f_)(s:jy):Cq 298 #[Pv c.eb] w λe w'=>∃kb jb mb,e=.returned (anV kb jb)/\sv c l kb jb mb w' g s cnt qu/\Bq w w'/\(kb<w'.heap.size/\jb<w'.heap.size/\mb<w'.heap.size)/\w.heap.size<=mb/\w.heap.size<=jb/\w.heap.size<=kb:=by
 have jA:= @run_makeMap Tryz.prog;have HE:=ai h;go_enter func298,ntmps298
 go_wp2
 go_ret;have h:=uh HE;have cr:=(((xn w.heap.size w).alloc (br _)<|Cv #[Pv c.eb] 67).alloc ag<|.map #[] 0).alloc bF<|Cv #[Mv<|w.heap.size+1] 446;have z1:=h.z.2.2;have z2:=h.bx.z;have z3:=h.ct.z;have z4:=h.rs.lt;have z5:=h.ms.lt;refine⟨w.heap.size+1+1,w.heap.size,w.heap.size+1,rfl,⟨?_,?_,⟨[],?_,λv=>qy ⟨rfl,rfl⟩⟩,ae,ae,ae,ae,ae⟩,cr,bF,ae,ae,ae⟩
 .have:=zh ((w.alloc<|Cv #[Pv c.eb] 67).alloc<|.map #[] 0) #[Mv<|w.heap.size+1] 446;simpa using this
 .exact((zh w #[Pv c.eb] 67).alloc _).alloc _
 .have:=(MS.new (λn:Int=>Iv n)<|w.alloc<|Cv #[Pv c.eb] 67).below<|bw<|Cv #[Mv<|w.heap.size+1] 446;simpa using this
def OR.drawn(h:OR l B g s cnt ρ g1 s1 ah bK)(hT:∀v,(aw v T->bK v≠none)/\(¬aw v T->bK v=ρ v)):In.qM T ρ s (.ok ((sub (j5 bK) T,bK),s1)):=by
 refine qz ⟨bK,s1,⟨bK,s1.u,⟨h.ext,λv q=>(hT v).2 λo=>q<|In.aC.2 o,λv q=>(hT v).1<|In.aC.1 q,h.nw,h.on,h.usd⟩,?_⟩,rfl⟩;have:=h.kk;obtain⟨k',u'⟩:=s1;simp only at this;rw[this]
end
def Fa(g:f_)l n:=∃S:Nat->Prop,ScD g.str g.ds g.nx S/\(∀x,S x->g.lv x<=l\/g.lv x=aL)/\∀h,Hd g.nx n h->S h
def ed(g:f_)v:=∃x,g.R v x/\g.lv x=aL
structure vF(E:Nat->Prop)l sb w(g:f_)(s:jy)(ρ:j8)M:Prop where
 ms:MS Ck w sb M
 kd:∀p,p∈M->p.1∈g.ds
 gm:∀h v,a_ h M=some v->∃m,v=nA m/\m∈g.ds/\g.V m=sub (j5 ρ) (g.V h)/\(∀x,Hd g.nx m x->g.lv x<=l)/\∀y,aw y (g.V h)->ed g y->ρ y≠none
 rn:∀v n,ρ v=some n->s.u n/\∃x,g.R v x/\g.lv x=aL/\(a_ x M≠none\/E x)
section
variable {c:JC} {cnt:Nat} {M:List (Nat×Value)}
def vF.any(h:vF E l sb w g s ρ M){v:Nat}(q:ρ v=some n):ed g v:=by
 have⟨_,x,r,q,_⟩:=h.rn v n q;exact⟨x,r,q⟩
def Fa.mv(h:JS w g s)(h1:JS w1 g1 s1)(o:OR l B g s cnt ρ g1 s1 ah bK){L:Nat}(hn:n∈g.ds)(f:Fa g L n):Fa g1 L n:=by
 obtain⟨S,f1,f2,f3⟩:=f;refine⟨λx=>S x/\x∈g.ds,λx hx Ea hS k l hs p hp y ky=>?_,λx hx=>by rw[(o.fe x hx.2).1];exact f2 x hx.1,λy ky=>?_⟩
 .have e:=(o.st.fe x hS.2).2.1;rw[e]at hs;have MJ:=(h.gl.part hS.2 hs).2 p hp;have ky':=(o.hd p MJ y).1 ky;exact⟨f1 x hS.2 ((o.hd x hS.2 x).1<|.here Ea).head hS.1 k l hs p hp y ky',h.gl.bN MJ ky'⟩
 .have ky':=(o.hd n hn y).1 ky;exact⟨f3 y ky',h.gl.bN hn ky'⟩
def Fa.part{L a:Nat}{k}(f:Fa g L n)(ha:Hd g.nx n a)(had:a∈g.ds)(hs:g.str a=some (k,ps))(hp:p∈ps):Fa g L p:=by
 obtain⟨S,f1,f2,f3⟩:=f;exact⟨S,f1,f2,λy ky=>f1 a had ha.head (f3 a ha) k ps hs p hp y ky⟩
def ed.back(h:JS w g s)(h1:JS w1 g1 s1)(o:OR l B g s cnt ρ g1 s1 ah bK){v:Nat}(hp:p∈g.ds)(hv:aw v (g.V p))(a:ed g1 v):ed g v:=by
 obtain⟨x,r,q⟩:=a;have⟨y,r0⟩:=h.og hp hv;have⟨b1,b2,b3⟩:=o.st.fe y r0.1;have e:=h1.inj y x b1 r.1 (b2.trans r0.2.2.1) r.2.2.1 (by rw[b3,r0.2.2.2,r.2.2.2]);subst e;exact⟨y,r0,by rw[<-(o.fe y r0.1).1];exact q⟩
def ed.fwd(h:JS w g s)(o:OR l B g s cnt ρ g1 s1 ah bK){v:Nat}(a:ed g v):ed g1 v:=by
 obtain⟨x,r,q⟩:=a;have⟨b1,b2,b3⟩:=o.st.fe x r.1;exact⟨x,⟨b1,((o.hd x r.1 x).2<|.here r.2.1).head,b2.trans r.2.2.1,b3.trans r.2.2.2⟩,by rw[(o.fe x r.1).1];exact q⟩
def aex(h:JS w g s)(h1:JS w1 g1 s1)(o:OR l B g s cnt ρ g1 s1 ah bK)(hr:∀v n,bK v=some n->ed g1 v)(hp:p∈g.ds)(hc:∀v,aw v (g.V p)->ed g v->ρ v≠none):sub (j5 ρ) (g.V p)=sub (j5 bK) (g.V p):=sub_congr _ λv ov=>by
 unfold j5
 cases e:ρ v with
 |some n=>rw[o.ext v n e]|none=>
  cases e1:bK v with
  |none=>rfl|some n=>exact absurd e<|hc v ov<|ed.back h h1 o hp ov<|hr v n e1
def ah2(h:JS w g s)(hr:∀v n,ρ v=some n->ed g v){x}(hn:n∈g.ds)(hx:Hd g.nx n x)(hl:g.lv x<aL):(∀v,aw v (g.V n)->¬ed g v)/\sub (j5 ρ) (g.V n)=g.V n:=by
 have a:∀v,aw v (g.V n)->¬ed g v:=λv ov⟨y,r,q⟩=>by
  have⟨z,r1,q1⟩:=fE (lv:=g.lv) h.jg h.can _ n x hn hx (br _) ov;have e:=h.inj z y r1.1 r.1 r1.2.2.1 r.2.2.1<|r1.2.2.2.trans r.2.2.2.symm;subst e;have:=q1 h.lc;omega
 refine⟨a,ql λv ov=>?_⟩;rw[j5]
 cases e:ρ v with
 |none=>rfl|some n=>grind
end
abbrev vrV(c:JC):Value:=.func (.func 292) #[Pv c.eb] #[]
abbrev LZ c l sb:=#[Nv l,vrV c,Mv sb]
def Py E c nb l sb g(s:jy)cnt(ρ:j8)n w(e:Ending)w':=
 ∃m g' s' aD dS M',e=.returned (nA m)/\JE w' c nb l aD/\JS w' g' s'/\vF E l sb w' g' s' dS M'/\OR l w.heap.size g s cnt ρ g' s' aD dS/\m∈g'.ds/\g'.V m=sub (j5 dS) (g.V n)/\(∀x,Hd g'.nx m x->g'.lv x<=l)/\(∀v,aw v (g.V n)->ed g v->dS v≠none)/\(∀v,ρ v=none->dS v≠none->aw v (g.V n))/\aD<=cnt+size (g.V n)/\Fr (λb=>b=c.cb\/b∈g.ds\/b=sb) w w'
def Wn(c:JC)sb:=c.fZ<=sb/\c.eb<sb/\c.cb<sb/\c.rb<sb/\c.mb<sb
def aey c nb l sb k:=∀(w:World)(g:f_)(s:jy)(cnt:Nat)(ρ:j8)(M:List (Nat×Value))(n:Nat),JE w c nb l cnt->JS w g s->(∀n,s.u n->us cnt n)->vF (λ_=>False) l sb w g s ρ M->n∈g.ds->Fa g l n->size (g.V n)<=k->cnt+size (g.V n)<=900000->Cq 314 #[.agg<|LZ c l sb,nA n] w (Py (λ_=>False) c nb l sb g s cnt ρ n w)
def akj c nb l sb k:=∀(w:World)(g:f_)(s:jy)(cnt:Nat)(ρ:j8)(M:List (Nat×Value))(h:Nat),JE w c nb l cnt->JS w g s->(∀n,s.u n->us cnt n)->vF (λ_=>False) l sb w g s ρ M->h∈g.ds->g.nx h=none->g.lv h=aL->a_ h M=none->Fa g l h->size (g.V h)<=k->cnt+size (g.V h)<=900000->Cq 316 #[.agg<|LZ c l sb,nA h] w (Py (λx=>x=h) c nb l sb g s cnt ρ h w)
section
variable {c:JC} {cnt:Nat} {M:List (Nat×Value)}
def OR.eqv{bi:Nx}(h:JS w g s)(e:iS g.str g.nx bi)(hg:GL w' g.ds g.str bi g.vr g.ly g.lv)(B:Nat):OR l B g s cnt ρ {g with nx:=bi} s cnt ρ where
 st:=iT.eqv h e hg l
 hd m _ x:=⟨e.back h.gl,e.k_ m x⟩
 kk:=rfl
 ext _ _ q:=q
 cc:=br _
 uu _ q:=qy q
 nw v n q r:=qAw
 on v v' n q r:=qAw
 usd n:=⟨qy,λq=>q.elim id λ⟨v,q,r⟩=>qAw⟩
 fe m _:=⟨rfl,rfl⟩
 new m hm:=qy ⟨hm,rfl,rfl⟩
 nl m hm q:=absurd hm q
def vF.eqv(h:vF E l sb w g s ρ M)(j:JS w g s)(e:iS g.str g.nx bi)(hms:MS Ck w' sb M):vF E l sb w' {g with nx:=bi} s ρ M where
 ms:=hms
 kd:=h.kd
 gm y v q:=by
  have⟨m,r1,r2,r3,r4,r5⟩:=h.gm y v q;exact⟨m,r1,r2,r3,λx k=>r4 x<|e.back j.gl k,λz oz⟨x,⟨a1,a2,a3,a4⟩,b⟩=>r5 z oz ⟨x,⟨a1,(e.BH x).1 a2,a3,a4⟩,b⟩⟩
 rn v n q:=by
  have⟨q1,x,⟨a1,a2,a3,a4⟩,q2,q3⟩:=h.rn v n q;exact⟨q1,x,⟨a1,(e.BH x).2 a2,a3,a4⟩,q2,q3⟩
def vF.put{a:Nat}(h:vF (λx=>x=a) l sb w g s ρ M)(hms:MS Ck w' sb (bG a (nA m) M))(ha:a∈g.ds)(hm:m∈g.ds)(hV:g.V m=sub (j5 ρ) (g.V a))(hl:∀x,Hd g.nx m x->g.lv x<=l)(ho:∀y,aw y (g.V a)->ed g y->ρ y≠none):vF (λ_=>False) l sb w' g s ρ (bG a (nA m) M) where
 ms:=hms
 kd p hp:=by
  have:a_ p.1 (bG a (nA m) M)≠none:=λq=>by
   have:=(tM (x:=p.1) (L:=bG a (nA m) M)).2<|jq hp;rw[q]at this
   cases this
  rw[aN]at this;split at this
  .rename_i e;rw[<-e];exact ha
  .cases e:a_ p.1 M with
   |none=>exact absurd e this|some v=>exact h.kd (p.1,v)<|pY e
 gm y v q:=by
  rw[aN]at q;split at q
  .rename_i e;subst e;injection q with q;exact⟨m,q.symm,hm,hV,hl,ho⟩
  .exact h.gm y v q
 rn v n q:=by
  have⟨q1,x,r,q2,q3⟩:=h.rn v n q;refine⟨q1,x,r,q2,qy ?_⟩;rw[aN];split
  .simp
  .rename_i e;exact q3.resolve_right<|λq=>e q.symm
def am2{p:Prop}(h:p:=by
 by_cases e:z=n
 .simp[xm,e]
 .simp only[xm,e,if_false];exact r4 z k):p:=h
def vF.var{w1}(h:vF (λ_=>False) l sb w g s ρ M)(j:JS w g s)(hms:MS Ck w1 sb M){x n}(hx:x∈g.ds)(hn:g.nx x=none)(hs:g.str x=none)(hl:g.lv x=aL)(hg:a_ x M=none)(nd:¬n∈g.ds)(NI:l<aL):ρ (g.vr x)=none/\vF (λy=>y=x) l sb w1 (g.add n none (cnt+1) (none,0) l<|.var<|cnt+1) ⟨s.k,λm=>s.u m\/m=cnt+1⟩ (λy=>if y=g.vr x then some (cnt+1)else ρ y) M:=by
 have hr:ρ (g.vr x)=none:=by
  cases e:ρ (g.vr x)with
  |none=>rfl|some n'=>
   have⟨_,y,r,_,q⟩:=h.rn _ _ e;have:=j.inj x y hx r.1 hs r.2.2.1 r.2.2.2.symm;subst this;exact(q.resolve_right id hg).elim
 have ne:∀m,m∈g.ds->m≠n:=λm hm e=>nd<|e▸hm;have ah3:∀v,ed (g.add n none (cnt+1) (none,0) l<|.var<|cnt+1) v->ed g v:=λv⟨y,⟨r1,r2,r3,r4⟩,q⟩=>by
  by_cases e:y=n
  .subst e;simp[xm]at q;omega
  .exact⟨y,⟨(List.mem_cons.1 r1).resolve_left e,r2,by simpa[xm,e]using r3,by simpa[xm,e]using r4⟩,by simpa[xm,e]using q⟩
 refine⟨hr,hms,λp hp=>jc _<|h.kd p hp,λy v q=>?_,λv n' q=>?_⟩
 .have⟨m,r1,r2,r3,r4,r5⟩:=h.gm y v q;have hy:y∈g.ds:=by
   have:(y,v)∈M:=pY q;exact h.kd _ this
  refine⟨m,r1,jc _ r2,?_,λz k=>?_,λz oz az=>?_⟩
  .simp only[xm,ne m r2,ne y hy,if_false];rw[r3];refine sub_congr _ λz oz=>?_;unfold j5;by_cases e:z=g.vr x
   .exact absurd hr (by rw[<-e];exact r5 z oz ⟨x,⟨hx,hn,hs,e.symm⟩,hl⟩)
   .simp[e]
  .exact am2
  .simp only[xm,ne y hy,if_false]at oz;have:=r5 z oz<|ah3 z az;by_cases e:z=g.vr x
   .simp[e]
   .simpa[e]using this
 .by_cases e:v=g.vr x
  .simp[e]at q;exact⟨qz q.symm,x,⟨jc _ hx,hn,by simp[xm,ne x hx,hs],by simp[xm,ne x hx,e]⟩,by simp[xm,ne x hx,hl],qz rfl⟩
  .simp[e]at q;have⟨q1,y,⟨r1,r2,r3,r4⟩,q2,q3⟩:=h.rn v n' q;exact⟨qy q1,y,⟨jc _ r1,r2,by simp[xm,ne y r1,r3],by simp[xm,ne y r1,r4]⟩,by simp[xm,ne y r1,q2],q3.imp id False.elim⟩
def Wo(hf:Wn c sb)(NI:l<aL)(h:JE w c nb l cnt)(j:JS w g s)(hu:∀n,s.u n->us cnt n)(cp:vF (λ_=>False) l sb w g s ρ M){x}(hx:x∈g.ds)(hn:g.nx x=none)(hl:g.lv x=aL)(hg:a_ x M=none)(hs:g.str x=none)(hc:cnt+1<=900000):Cq 316 #[.agg<|LZ c l sb,nA x] w (Py (λy=>y=x) c nb l sb g s cnt ρ x w):=by
 have k0:Bq w (w.alloc<|Cv (LZ c l sb) 451):=bw _;have⟨_,_,c3,_,_⟩:=((j.af k0).gl.nd x hx).cells;rw[hs]at c3;have c3':(w.alloc<|Cv (LZ c l sb) 451).cell? ⟨x,3,none⟩=some (Sv ⟨#[]⟩):=c3;have b1:(w.alloc<|Cv (LZ c l sb) 451).cell? ⟨w.heap.size,1,none⟩=some (vrV c):=(Bx.new w (LZ c l sb) 451).c 1;have HV:=pE (h.af k0) (j.af k0) hu ae;have zc:=h.ct.z;have HX:=ai<|And.intro h<|And.intro j<|And.intro hu cp;have K0:=ai k0;clear h j hu cp k0 c3;go_enter func316,ntmps316;go_wp2_with fail;refine HV.mono ?_;rintro e w1⟨n,rfl,hnn,D5,l_,F1⟩;have HY:=ai<|And.intro D5<|And.intro l_ F1;clear HV D5 l_ F1
 go_wp2
 go_ret;have⟨h,j,hu,cp⟩:=uh HX;have⟨D5,l_,F1⟩:=uh HY;have k0:=uh K0;have zk:=k0.size;have nd:¬n∈g.ds:=λq=>by have:=j.lt q;omega
 have zs:=cp.ms.lt;obtain⟨f1,f2,f3,f4,f5⟩:=hf;have hms:MS Ck w1 sb M:=(cp.ms.below k0).same (F1.block sb ae (λe=>by have e:sb=c.cb:=e;omega));have⟨hr,Et⟩:=cp.var j (cnt:=cnt) hms hx hn hs hl hg nd NI;have hV:g.V x=.var (g.vr x):=by have:=j.can x x<|.here hn;rw[hs]at this;exact this
 refine⟨n,_,_,cnt+1,_,M,rfl,D5,l_,Et,OR.var j (v:=g.vr x) ae nd hu hr<|λy n' q=>(cp.rn y n' q).1,ag,?_,λz k=>?_,λv o _=>?_,λv q q'=>?_,by rw[hV];simp[size],?_⟩
 .simp[xm,hV,sub,j5]
 .have:z=n:=k.one<|.here (j.gl.out _ nd).1;subst this;simp[xm]
 .rw[hV]at o;simp only[aw]at o;simp[o]
 .rw[hV];simp only[aw];exact Classical.byContradiction λe=>q' (by simp[zd e,q])
 .exact(Fr.of k0).trans (F1.fZ λb q=>qy q)
def ah4(hf:Wn c sb)(NI:l<aL)(HM:akj c nb l sb k):aey c nb l sb k:=by
 intro w g s cnt ρ M n h j hu cp hn fa hk hc;have⟨a,hd⟩:=j.gl.hd n hn;have ha:=j.gl.bN hn hd;have⟨k0,BA⟩:=rq w (LZ c l sb) 451;have HC:=r9 (j.af k0).gl hn hd;have zs:=cp.ms.lt;have xP:∀x∈g.ds,x<w.heap.size:=λx hx=>j.lt hx;have HX:=And.intro h<|And.intro j<|And.intro hu<|And.intro cp fa;have HHD:=ai hd;have K0:=ai k0;go_enter func314,ntmps314;go_wp2_with fail;refine HC.mono ?_;rintro e w1⟨rfl,e_,G1,F1,E1,z1⟩;have j:=HX.2.1;have cp:=HX.2.2.2.1;have hd:=uh HHD;have k0:=uh K0;have zk:=k0.size;have hsd:=(j.nQ cp.ms).1;have uF:¬w.heap.size∈g.ds:=λq=>by have:=xP _ q;omega
 have BQ:=BA.fr F1 uF;have M1:=(cp.ms.below k0).same<|F1.block sb ae hsd;have j1:=j.eqv E1 G1;have Et:=cp.eqv j E1 M1;have o1:OR l w.heap.size g s cnt ρ {g with nx:=e_} s cnt ρ:=OR.eqv j E1 G1 _;have hcb:=HX.1.Bi j;have heb:=HX.1.Bh j;have e1:=(HX.1.af k0).fr (j.af k0) (F1.fZ λb q=>qz<|qz q) ((HX.1.af k0).bx.fr F1 heb)<|(HX.1.af k0).ct.fr F1 hcb;have FF:Fr (λb=>b=c.cb\/b∈g.ds\/b=sb) w w1:=(Fr.of k0).trans' F1<|λx q=>qy<|qz<|qy q;have⟨sq,_⟩:=(G1.nd a ha).lvl;have hVa:g.V n=g.V a:=by rw[j.can n a hd,j.can a a<|.here hd.head]
 have b2:=BQ.c 2;by_cases hla:g.lv a=aL
 .have Lf:∀x∈g.ds,∃c t,w1.heap[x]? =some (Cv c t (0,0)):=λx hx=>⟨_,_,(G1.nd x hx).1⟩;have hl:=M1.look abr Tryz.underlying449 (AX w1) a (Lf a ha) (λp hp=>Lf p.1<|cp.kd p hp) true;rw[hla]at sq
  cases hg:a_ a M with
  |some v=>
   rw[hg]at hl;obtain⟨m,rfl,r2,r3,r4,r5⟩:=Et.gm a v hg;simp at hl;have HY:=show Py (λ_=>False) c nb l sb g s cnt ρ n w (Rv<|nA m) w1 from⟨m,{g with nx:=e_},s,cnt,ρ,M,rfl,e1,j1,Et,o1,r2,by rw[hVa];exact r3,r4,λv o av=>r5 v (by rw[<-hVa];exact o)<|ed.fwd j o1 av,λv q q'=>absurd q q',ae,FF⟩
   go_wp2
   go_ret;exact HY
  |none=>
   rw[hg]at hl;simp at hl;have fa1:Fa {g with nx:=e_} l a:=by
    have⟨S,f1,f2,f3⟩:=HX.2.2.2.2.mv j j1 o1 hn;exact⟨S,f1,f2,λy ky=>by rw[ky.one<|.here (E1.k_ _ _ hd).head];exact f3 a<|E1.k_ _ _ hd⟩
   have HD:=HM w1 {g with nx:=e_} s cnt ρ M a e1 j1 HX.2.2.1 Et ha (E1.k_ _ _ hd).head hla hg fa1 (by rw[hVa]at hk;exact hk) (by rw[hVa]at hc;exact hc);have b0:=BQ.c 0;have b1:=BQ.c 1;have zb1:=BQ.z;have HY:=q9 j1<|q9 o1 FF;have HJ0:=ai j;have nbx:¬(w.heap.size=c.cb\/w.heap.size∈g.ds\/w.heap.size=sb):=by
    have:=HX.1.ct.z;rintro(q|q|q)
    .omega
    .exact uF q
    .omega
   go_wp2_with fail;refine HD.mono ?_;rintro e w2⟨m,g2,s2,cJ,lV,M2,rfl,e2,j2,Qn,o2,r1,r2,r3,r4,r5,r6,F2⟩;have b2':=(BQ.fr F2 nbx).c 2;have HMS:=ai Qn.ms;have HOK:∀x∈g2.ds,∃c t,w2.heap[x]? =some (Cv c t (0,0)):=λx hx=>⟨_,_,(j2.gl.nd x hx).1⟩;have ha2:=(o2.st.fe a ha).1;have kd2:=ai Qn.kd;have HZ:=q9 e2<|q9 j2<|q9 Qn<|q9 o2<|q9 r1<|q9 r2<|q9 r3<|q9 r4<|q9 r5<|q9 r6 F2;go_wp2_with(refine aV _ rfl _ _ _ _ (qz rfl) abr Tryz.underlying449 _ _ rfl HMS a (nA m) rfl rfl (HOK a ha2) (λp hp=>HOK p.1<|kd2 p hp) ?_;intro w3 H' O';have HM3:=ai H';have O3:=ai O';clear H' O');go_ret;obtain⟨e2,j2,Qn,o2,r1,r2,r3,r4,r5,r6,F2⟩:=HZ;obtain⟨j1,o1,FF⟩:=HY;have O:=uh O3;have j:=uh HJ0;obtain⟨f1,f2,f3,f4,f5⟩:=hf;have⟨n1,n2⟩:=j2.nQ Qn.ms;have eV:=(o2.fe a ha).2;refine⟨m,g2,s2,cJ,lV,_,rfl,e2.one O f1 f2 f3 f4 f5,j2.one O n1 n2,Qn.put HM3 ha2 r1 (by rw[eV];exact r2) r3<|λy oy ay=>?_,o1.trans j j1 j2 o2 ae,r1,by rw[hVa];exact r2,r3,λv o av=>r4 v (by show aw v (g.V a);rw[<-hVa];exact o) (ed.fwd j o1 av),λv q q'=>by rw[hVa];exact r5 v q q',by rw[hVa];exact r6,?_⟩
   .rw[eV]at oy;exact r4 y oy<|ed.back j1 j2 o2 ha oy ay
   .have F3:=FF.trans F2;exact⟨O.os.trans F3.os,O.tape.trans F3.tape,O.output.trans F3.output,by rw[O.size];exact F3.size,λk hk hn=>(O.block k<|λe=>hn<|qz<|qz e).trans<|F3.block k hk hn⟩
 .have hle:g.lv a<=l:=by
   have⟨S,f1,f2,f3⟩:=HX.2.2.2.2;exact(f2 a<|f3 a hd).resolve_right hla
  have cV:¬((g.lv a:Nat):Int)=9223372036854775807:=by have:l<9223372036854775807:=NI;omega
  have⟨v1,v2⟩:=ah2 j (λv n=>cp.any) hn hd ae;have HY:=show Py (λ_=>False) c nb l sb g s cnt ρ n w (Rv<|nA a) w1 from⟨a,{g with nx:=e_},s,cnt,ρ,M,rfl,e1,j1,Et,o1,ha,by rw[v2];exact hVa.symm,(λx k=>by rw[k.one<|.here (E1.k_ _ _ hd).head];exact hle),λv o av=>absurd av<|v1 v o,λv q q'=>absurd q q',ae,FF⟩
  go_wp2
  go_ret;exact HY
end
def CpR c nb l sb g(s:jy)cnt(ρ:j8)(L:List Nat)w gk v wr:=
 ∃(j:Nat)(C:Array Value)(g':f_)(s':jy)(aD:Nat)(dS:j8)(M':List (Nat×Value))(ps:List Nat),Hid (gk=L.length-j)/\j<=L.length/\v=Nv j/\JE wr c nb l aD/\JS wr g' s'/\vF (λ_=>False) l sb wr g' s' dS M'/\OR l (w.heap.size+2) g s cnt ρ g' s' aD dS/\Fr (λb=>b=c.cb\/b∈g.ds\/b=sb) w wr/\Bx wr w.heap.size (LZ c l sb)/\Bx wr (w.heap.size+1) C/\Hid (C.size=L.length)/\
  Hid (ps.length=j/\(∀m,m∈ps->m∈g'.ds/\∀x,Hd g'.nx m x->g'.lv x<=l)/\ps.map g'.V=(L.take j).map (λp=>sub (j5 dS)<|g.V p)/\(∀i(h:i<ps.length),C[i]? =some (nA ps[i]))/\(∀v,(∃p,p∈L.take j/\aw v (g.V p))->ed g v->dS v≠none)/\(∀v,ρ v=none->dS v≠none->∃p,p∈L.take j/\aw v (g.V p))/\aD<=cnt+ak ((L.take j).map g.V))
def vF.af{M}(h:vF E l sb w g s ρ M)(hb:Bq w w'):vF E l sb w' g s ρ M:=⟨h.ms.below hb,h.kd,h.gm,h.rn⟩
def vF.one{E}{l sb b}{w w'}{g}{s}{ρ}{M}(h:vF E l sb w g s ρ M)(o:One b w w')(hb:sb≠b):vF E l sb w' g s ρ M:=⟨h.ms.one o hb,h.kd,h.gm,h.rn⟩
def vF.add{E:Nat->Prop}{l sb:Nat}{w:World}{g:f_}{s:jy}{ρ:j8}{M}(h:vF (λ_=>False) l sb w g s ρ M){n}(nd:¬n∈g.ds)q v a T:vF E l sb w (g.add n (some q) v a l T) s ρ M:=by
 have ne:∀m,m∈g.ds->m≠n:=λm hm e=>nd<|e▸hm;refine⟨h.ms,λp hp=>jc _<|h.kd p hp,λy u r=>?_,λu n' r=>?_⟩
 .have⟨m,r1,r2,r3,r4,r5⟩:=h.gm y u r;have hy:=h.kd _<|pY r;refine⟨m,r1,jc _ r2,by simp[xm,ne m r2,ne y hy,r3],λz k=>?_,λz oz⟨t,⟨b1,b2,b3,b4⟩,b5⟩=>?_⟩
  .exact am2
  .simp only[xm,ne y hy,if_false]at oz;have e:t≠n:=λe=>by subst e;simp[xm]at b3
   exact r5 z oz ⟨t,⟨(List.mem_cons.1 b1).resolve_left e,b2,by simpa[xm,e]using b3,by simpa[xm,e]using b4⟩,by simpa[xm,e]using b5⟩
 .have⟨q1,y,⟨r1,r2,r3,r4⟩,q2,q3⟩:=h.rn u n' r;exact⟨q1,y,⟨jc _ r1,r2,by simp[xm,ne y r1,r3],by simp[xm,ne y r1,r4]⟩,by simp[xm,ne y r1,q2],q3.imp id False.elim⟩
section
variable {c:JC} {cnt:Nat} {M:List (Nat×Value)}
def Wp(hf:Wn c sb)(IH:aey c nb l sb K)(h:JE w c nb l cnt)(js:JS w g s)(hu:∀n,s.u n->us cnt n)(cp:vF (λ_=>False) l sb w g s ρ M){x}(hx:x∈g.ds)(hn:g.nx x=none)(fa:Fa g l x){k}{L}(hs:g.str x=some (k,L))(hz:size (g.V x)<=K+1)(hc:cnt+size (g.V x)<=900000):Cq 316 #[.agg<|LZ c l sb,nA x] w (Py (λy=>y=x) c nb l sb g s cnt ρ x w):=by
 have hP:=(js.gl.nd x hx).2.1;rw[hs]at hP;obtain⟨EW,hL,HLM,aO⟩:=hP;have hV:g.V x=.aM k (L.map g.V):=by have:=js.can x x<|.here hn;rw[hs]at this;exact this
 have HSZ:size (g.V x)=1+ak (L.map g.V):=by rw[hV];simp[size]
 have⟨i0,yq,oR,nu,iZ⟩:=info_parts DS;have W7:=jV (by_:=8) wS yq oR rfl nu iZ aB L.length hL;have k0:Bq w (w.alloc<|Cv (LZ c l sb) 451):=bw _;have cr:Bq w ((w.alloc<|Cv (LZ c l sb) 451).alloc<|Cv (zu L.length<|.pointer none) 413):=(bw _).alloc ag _;have⟨_,_,a3,_,a4⟩:=((js.af k0).gl.nd x hx).cells;rw[hs]at a3 a4;have a3':(w.alloc<|Cv (LZ c l sb) 451).cell? ⟨x,3,none⟩=some (Sv<|pn k):=a3;have a4':(w.alloc<|Cv (LZ c l sb) 451).cell? ⟨x,4,none⟩=some (.slice (g.ly x).1 L.length (g.ly x).2):=a4;have⟨_,_,_,_,d4⟩:=((js.af cr).gl.nd x hx).cells;rw[hs]at d4;have d4':((w.alloc<|Cv (LZ c l sb) 451).alloc<|Cv (zu L.length<|.pointer none) 413).cell? ⟨x,4,none⟩=some (.slice (g.ly x).1 L.length (g.ly x).2):=d4;obtain⟨⟨sa,sc⟩,Zr⟩:∃q,g.ly x=q:=⟨_,rfl⟩;rw[Zr]at a4' d4';have HLY:=ai Zr;have hea:((pn k).toList==[])=false:=by rw[<-Bool.not_eq_true,beq_iff_eq];exact lH EW
 have zc:=h.ct.z;have zs:=cp.ms.lt;have ST:Hid (CpR c nb l sb g s cnt ρ L w L.length (Iv 0)<|(w.alloc<|Cv (LZ c l sb) 451).alloc<|Cv (Array.replicate L.length<|.pointer none) 413):=ai ⟨0,Array.replicate L.length<|.pointer none,g,s,cnt,ρ,M,[],ai ag,Nat.zero_le _,rfl,h.af cr,js.af cr,cp.af cr,OR.refl js _ _ _ _,Fr.of cr,(Bx.new w _ _).alloc _,by have:=Bx.new (w.alloc<|Cv (LZ c l sb) 451) (Array.replicate L.length<|.pointer none) 413;simpa using this,ai ag,ai ⟨rfl,ag,ag,(λi hi=>by simp at hi),(λv⟨p,q,_⟩=>by simp at q),(λv q q'=>absurd q q'),by simp[ak]⟩⟩;have HJ:=ai js;have HV:=ai hV;have HZ:=ai<|And.intro h.z.2.2<|And.intro h.bx.z<|And.intro h.ct.z<|And.intro h.rs.lt h.ms.lt;have xlt:=js.lt hx;clear h js cp k0 cr a3 a4 d4 aO hV Zr;go_enter func316,ntmps316
 go_wp2
 go_loopg[27] L.length (λgk v wr=>CpR c nb l sb g s cnt ρ L w gk v wr)
 case atStart=>exact ST
 case round=>
  clear ST a3' a4' d4' hea W7;obtain⟨j,C,g1,s1,ah,bK,M1,ps,dl,hj,rfl,D5,l_,Et,su,F1,B0,B1,hC,hT⟩:=hrel;have zw:=F1.size;have zb:=B1.z;have Vf:x∈g1.ds/\g1.ly x=g.ly x/\g1.str x=some (k,L):=by
   have⟨b1,b2,b3⟩:=su.st.fe x hx;obtain⟨_,q2,_⟩|⟨q,_⟩:=su.new x b1
   .exact⟨b1,q2,b2.trans hs⟩
   .omega
  have Xo:∀p,p∈L->g1.V p=g.V p:=λp hp=>(su.fe p<|HLM p hp).2;have sz:=HSZ;by_cases bm:j<L.length
  .have hd:(j:Int)<(L.length:Int):=ae;have⟨ga,ea,ra,_⟩:=l_.gl.row Vf.1 Vf.2.2 bm;rw[Vf.2.1,uh HLY]at ea;have ea:=ea;subst ea;have⟨x1,x2,x3,x4,x5,x6,x7⟩:=uh hT;have hjm:j<(L.map g.V).length:=by simpa using bm
   have⟨y1,y2⟩:=Bj (L.map g.V) hjm;simp only[List.getElem_map,<-List.map_take]at y1 y2;have hpm:=jd bm;have MJ:=HLM _ hpm;have HC:=IH wr g1 s1 ah bK M1 L[j] D5 l_ (su.used hu) Et (su.st.fe _ MJ).1 ((fa.part (.here hn) hx hs hpm).mv HJ l_ su MJ) (by rw[Xo _ hpm];omega) (by rw[Xo _ hpm];omega);have b0:=B0.c 0;have b1:=B0.c 1;have b2:=B0.c 2;have HY:=ai<|q9 l_<|q9 su<|q9 F1<|q9 B0<|q9 B1 Et;have EQV:=ai Xo;have nm:∀b,w.heap.size<=b->b<w.heap.size+2->¬(b=c.cb\/b∈g1.ds\/b=sb):=λb q1 q2=>by
    rintro(q|q|q)
    .omega
    .obtain⟨q,_⟩|⟨q,_⟩:=su.new b q
     .have:=HJ.lt q;omega
     .omega
    .omega
   clear D5 l_ Et su F1 B0 B1 x1 x2 x3 x4 x5 x6 x7 Xo Vf sz;go_wp2_with fail;refine HC.mono ?_;rintro e w1⟨m,g2,s2,cJ,lV,M2,rfl,je2,js2,Qn,MY,hm,hVm,yP,GU,BO,Bk,F2⟩;have⟨l_,su,F1,B0,B1,Et⟩:=uh HY;have B2:=B1.fr F2<|nm _ ae ae;have B02:=B0.fr F2<|nm _ ae ae;have wJ:j<C.size:=qBh;have cj:=(B2.c j).trans<|zo wJ;have fj:=B2.f j;have B3:=B2.aR j (nA m) (C.setIfInBounds j<|nA m) rfl wJ;have B03:=B02.bT (b2:=w.heap.size+1) ae j<|nA m;have Ip:=su.trans HJ l_ js2 MY ae;have HD:=q9 je2<|q9 js2<|q9 Qn<|q9 MY<|q9 hm<|q9 hVm<|q9 yP<|q9 GU<|q9 BO Bk
   have Bu:=ai (F1.trans' F2 (λb q=>by
    obtain q|q|q:=q
    .exact qy (qy q)
    .obtain⟨q,_⟩|⟨q,_⟩:=su.new b q
     .exact qy (qz<|qy q)
     .exact qz ae
    .exact qy (qz<|qz q)))
   have z2:=F2.size;clear HC F2 F1 B0 B1 B2 B02 l_ su Et je2 js2 Qn MY hm hVm yP GU BO Bk nm b0 b1 b2 ra
   go_wp2
   go_roundg(L.length-(j+1))
   case measure=>rw[uh dl];omega
   case rel=>
    have⟨x1,x2,x3,x4,x5,x6,x7⟩:=uh hT;obtain⟨je2,js2,Qn,MY,hm,hVm,yP,GU,BO,Bk⟩:=HD;have⟨l_,su,F1,B0,B1,Et⟩:=uh HY;have or3:=Ip;have js:=uh HJ;have Xo:=uh EQV;have oc:=One.cell w1 (w.heap.size+1) j<|nA m;have⟨u1,u2,u3,u4,u5⟩:=uh HZ;have hp1:=(su.st.fe _ MJ).1;refine⟨j+1,C.setIfInBounds j<|nA m,g2,s2,cJ,lV,M2,ps++[m],ai rfl,ae,jP,je2.one oc ae ae ae ae ae,?_,Qn.one oc ae,or3,Bu.set (qz ae) j _,B03,B3,ai (by simp;exact hC),ai ⟨by simp[x1],?_,?_,?_,?_,?_,by rw[Xo _ hpm]at Bk;omega⟩⟩
    .exact afH
    .exact amY
    .rw[jf,ja bm,jf];have e1:ps.map g2.V=ps.map g1.V:=eC λp hp=>(MY.fe p (x2 p hp).1).2;have e2:(L.take j).map (λp=>sub (j5 bK)<|g.V p)=(L.take j).map (λp=>sub (j5 lV)<|g.V p):=jt λp hp=>by
      have Xh:p∈L:=List.mem_of_mem_take hp;have hpg:=HLM p Xh
      have:=aex l_ js2 MY (λv n=>Qn.any) (su.st.fe p hpg).1 (λv ov av=>by
       rw[Xo p Xh]at ov
       exact x5 v ⟨p,hp,ov⟩<|ed.back js l_ su hpg ov av)
      rw[Xo p Xh]at this;exact this
     rw[e1,x3,e2];simp[hVm,Xo _ hpm]
    .exact amZ
    .rintro v⟨p,hp,o⟩av;rw[ja bm]at hp;obtain q|q:=List.mem_append.1 hp
     .have:=x5 v ⟨p,q,o⟩ av;exact am0
     .simp at q;subst q;exact GU v (by rw[Xo _ hpm];exact o)<|ed.fwd js su av
    .intro v q q';rw[ja bm]
     cases e:bK v with
     |none=>
      have:=BO v e q';rw[Xo _ hpm]at this;exact⟨L[j],jo _<|List.mem_singleton.2 rfl,this⟩
     |some n=>
      have⟨p,hp,o⟩:=x6 v q (by rw[e];simp);exact⟨p,jp _ hp,o⟩
  .have hd:decide ((j:Int)<(L.length:Int))=false:=bF;have ej:j=L.length:=ae;subst ej;have b0:=B0.c 0;have⟨_,_,a3,_,_⟩:=(l_.gl.nd x Vf.1).cells;rw[Vf.2.2]at a3;have a3':wr.cell? ⟨x,3,none⟩=some (Sv<|pn k):=a3;have HY:=ai<|q9 D5<|q9 l_<|q9 Et<|q9 su<|q9 F1<|q9 B1 hT;clear D5 l_ Et su F1 B0 B1 hT Xo Vf sz a3
   go_wp2
   go_region_held3(λw'=>w'.cell? ⟨w.heap.size,0,none⟩=some (Nv l)/\w'.cell? ⟨x,3,none⟩=some (Sv<|pn k)) (first|go_keep|(simp[*])) (first
    |(go_at_call 296;go_loud(refine(GQ _ _ _ _ _).mono ?_);rintro e w3⟨rfl,uy⟩;have k3:Bq wr w3:=(by rw[uy];exact(xn _ _).drew.alloc (br _) _);have N3:w3.heap[wr.heap.size]? =some (Cv #[.pointer none,Nv l,Iv 0,Sv<|pn k,Lv (some ⟨w.heap.size+1,0,none⟩) L.length L.length] 423 (0,0)):=(by rw[uy];exact(xy wr.drew _).1);have s2:w3.cell? ⟨w.heap.size,0,none⟩=some (Nv l):=(xk (a:=⟨w.heap.size,0,none⟩) (w:=wr)<|k3.block w.heap.size ae).trans b0;have s3:w3.cell? ⟨x,3,none⟩=some (Sv<|pn k):=(xk (a:=⟨x,3,none⟩) (w:=wr)<|k3.block x ae).trans a3';have K3:=ai k3;have N3':=ai N3;clear uy k3 N3))
   go_wp2
   go_ret;have⟨D5,l_,Et,su,F1,B1,x1,x2,x3,x4,x5,x6,x7⟩:=uh HY;simp only[jh]at x3 x5 x6 x7;have dz:=uh K3;have BQ:=B1.below dz;have js:=uh HJ;have hV:=uh HV;have hz:¬wr.heap.size∈g1.ds:=λq=>by have:=l_.lt q;omega
   have hrd:¬(w.heap.size+1)∈g1.ds:=λq=>by
    obtain⟨q,_⟩|⟨q,_⟩:=su.new _ q
    .have:=js.lt q;omega
    .omega
   have js3:=l_.abH dz (n:=wr.heap.size) (l:=l) (c:=k) (ps:=ps) (a:=(some ⟨w.heap.size+1,0,none⟩,L.length)) (br _) EW ae x2 (qz ⟨w.heap.size+1,rfl,(λq=>by
    obtain q|q:=List.mem_cons.1 q
    .omega
    .exact hrd q),BQ.z,λi hi=>(BQ.c i).trans<|x4 i hi⟩) (by rw[x1];exact N3')
   have or3:OR l w.heap.size g1 s1 ah bK (g1.add wr.heap.size (some (k,ps)) 0 (some ⟨w.heap.size+1,0,none⟩,L.length) l<|.aM k<|ps.map g1.V) s1 ah bK:=OR.add l_ ae hz (λgg e=>by injection e with e;injection e with e;omega);refine⟨wr.heap.size,_,s1,ah,bK,M1,rfl,D5.af dz,js3,(Et.af dz).add hz _ _ _ _,(su.zK ae).trans js l_ js3 or3<|br _,ag,?_,λz q=>?_,λv o av=>?_,λv q q'=>?_,by rw[HSZ];omega,F1.trans<|Fr.of dz⟩
   .rw[hV];simp only[xm,if_true,sub,iC,x3,jx];rfl
   .have:z=wr.heap.size:=q.one<|.here (l_.gl.out _ hz).1;subst this;simp[xm]
   .rw[hV]at o;simp only[aw]at o;have⟨t,h1,h2⟩:=(mP _ _).1 o;obtain⟨p,h3,rfl⟩:=List.mem_map.1 h1;exact x5 v ⟨p,h3,h2⟩ av
   .have⟨p,h1,h2⟩:=x6 v q q';rw[hV];simp only[aw];exact(mP _ _).2 ⟨_,jq h1,h2⟩
def ah5(hf:Wn c sb)(NI:l<aL)(IH:aey c nb l sb K):akj c nb l sb (K+1):=by
 intro w g s cnt ρ M x h j hu cp hx hn hl hg fa hz hc
 cases hs:g.str x with
 |none=>exact Wo hf NI h j hu cp hx hn hl hg hs (by have:=size_pos<|g.V x;omega)|some q=>
  obtain⟨k,L⟩:=q;exact Wp hf IH h j hu cp hx hn fa hs hz hc
def afG(hf:Wn c sb)(NI:l<aL):∀K,aey c nb l sb K
 |0=>λw g s cnt ρ M n h j hu cp hn fa hk hc=>by have:=size_pos<|g.V n;omega|K+1=>ah4 hf NI<|ah5 hf NI<|afG hf NI K
end
structure AJ w c nb l cnt g(s:jy):Prop where
 je:JE w c nb l cnt
 js:JS w g s
 us:∀n,s.u n->us cnt n
 lv:∀n,n∈g.ds->g.nx n=none->g.lv n<=l\/g.lv n=aL
 lo:∀n,n∈g.ds->c.lo<=n
structure fY l c(w:World)g(s:jy)w1 g1(s1:jy):Prop where
 st:iT l g s g1 s1
 an:∀m,m∈g.ds->∀h,Hd g.nx m h->g.lv h=aL->Hd g1.nx m h/\g1.lv h=aL
 lo:∀m,m∈g.ds->∀h h',Hd g.nx m h->Hd g1.nx m h'->∀i,i<=l->g.lv h<=i->g1.lv h'<=i
 nw:∀m,m∈g1.ds->m∈g.ds\/w.heap.size<=m
 fr:Fr (jS c g) w w1
 ky:∀v,s1.k v=sub s1.k (s.k v)
 um:∀n,s.u n->s1.u n
structure nR l(g:f_)(s:jy)n T:Prop where
 mem:n∈g.ds
 val:g.V n=sub s.k T
 lv:∀x,Hd g.nx n x->g.lv x<=l
structure Cn(g:f_)(s:jy)(d:In.Ml)m:Prop where
 mem:m∈g.ds
 val:g.V m=sub s.k d.of
 any:∀v,v∈d.any↔aw v (g.V m)/\ed g v
 use:∀n,aw n d.of->s.u n
 sub:∀v,v∈d.any->aw v d.of
def ch w nb(Γ:j6)g(s:jy):=∃L,MG xq w nb L/\∀x,(Γ x=none/\a_ x L=none)\/∃d m,Γ x=some d/\a_ x L=some (nA m)/\Cn g s d m
section
variable {c:JC} {cnt:Nat}
def GW(h:∀v,s1.k v=sub s1.k (s.k v))T:sub s1.k (sub s.k T)=sub s1.k T:=by
 rw[sub_sub];exact sub_congr _ λv _=>(h v).symm
def AJ.hd(a:AJ w c nb l cnt g s)(hm:m∈g.ds)(k:Hd g.nx m h):g.lv h<=l\/g.lv h=aL:=a.lv h (a.js.gl.bN hm k) k.head
def fY.refl(h:JS w g s)c l:fY l c w g s w g s:=⟨.refl h l,λm _ h k e=>⟨k,e⟩,λm _ h h' k k' i _ z=>by rw[k'.one k];exact z,λm hm=>qy hm,.refl _ _,λv=>(h.ok.qW<|.var v).symm,λ_ q=>q⟩
def fY.trans{Wa Wb Wc:World}(h:JS Wa g s)(h1:JS Wb g1 s1)(h2:JS Wc g2 s2)(a:fY l c w g s w1 g1 s1)(b:fY l c w1 g1 s1 w2 g2 s2):fY l c w g s w2 g2 s2 where
 st:=a.st.trans h h1 h2 b.st
 an m hm x k e:=by have⟨k1,e1⟩:=a.an m hm x k e;exact b.an m (a.st.fe m hm).1 x k1 e1
 lo m hm x x' k k' i hi z:=by
  have⟨y,hy⟩:=h1.gl.hd m (a.st.fe m hm).1;exact b.lo m (a.st.fe m hm).1 y x' hy k' i hi<|a.lo m hm x y k hy i hi z
 nw m hm:=by
  obtain q|q:=b.nw m hm
  .exact a.nw m q
  .exact qz (xd a.fr.size q)
 fr:=a.fr.trans' b.fr λx q=>by
  obtain q|q|q:=q
  .omega
  .omega
  .exact(a.nw x q).imp (λz=>qz<|qz z) id
 ky v:=by rw[b.ky v,a.ky v,GW b.ky]
 um n q:=b.um n<|a.um n q
def fY.le(a:fY l c w g s w1 g1 s1)(hl:l'<=l):fY l' c w g s w1 g1 s1:={a with st:=⟨a.st.fe,a.st.val,λi hi=>a.st.VY i ae⟩,lo:=λm hm x x' k k' i hi=>a.lo m hm x x' k k' i<|by omega}
def nR.eZ(r:nR l g s n T)(h:JS W g s)(a:fY l c w g s w1 g1 s1):nR l g1 s1 n T:=by
 have⟨x,hx⟩:=h.gl.hd n r.mem;exact⟨(a.st.fe n r.mem).1,by rw[a.st.val n r.mem,r.val,GW a.ky],λy hy=>a.lo n r.mem x y hx hy l (br _)<|r.lv x hx⟩
def fY.aez(a:fY l c w g s w1 g1 s1){v:Nat}(q:ed g v):ed g1 v:=by
 obtain⟨x,⟨r1,r2,r3,r4⟩,e⟩:=q;have⟨k,e1⟩:=a.an x r1 x (.here r2) e;have⟨o1,o2,o3⟩:=a.st.fe x r1;exact⟨x,⟨o1,k.head,o2.trans r3,o3.trans r4⟩,e1⟩
def fY.root{W}(a:fY l c w g s w1 g1 s1)(h1:JS W g1 s1){v}(q:ed g v):s1.k v=.var v:=by
 have⟨x,r,_⟩:=a.aez q;exact(h1.root r).2
def fY.back(hl:l<aL)(aj:AJ V c nb l cnt g s)(h1:JS W g1 s1)(a:fY l c w g s w1 g1 s1){v:Nat}(hm:m∈g.ds)(o:aw v (g1.V m))(q:ed g1 v):aw v (g.V m)/\ed g v:=by
 rw[a.st.val m hm]at o;have⟨u,ou,ov⟩:=(qm _).1 o;have⟨y,hy⟩:=aj.js.gl.hd m hm;have⟨x,r,_⟩:=fE (lv:=g.lv) aj.js.jg aj.js.can _ m y hm hy (br _) ou;obtain z|z:=aj.lv x r.1 r.2.1
 .exfalso;have⟨o1,o2,o3⟩:=a.st.fe x r.1;have⟨x',Gt⟩:=h1.gl.hd x o1;have ez:=a.lo x r.1 x x' (.here r.2.1) Gt l (br _) z;have ov':aw v (g1.V x):=by rw[h1.val x o1<|o2.trans r.2.2.1,o3,r.2.2.2];exact ov
  have⟨x2,r2,e2⟩:=fE (lv:=g1.lv) h1.jg h1.can _ x x' o1 Gt (br _) ov';obtain⟨x3,r3,e3⟩:=q;have e2:=e2 h1.lc;rw[r2.one h1.jg r3,e3]at e2;omega
 .have qa:ed g u:=⟨x,r,z⟩;rw[a.root h1 qa]at ov;simp only[aw]at ov;subst ov;exact⟨ou,qa⟩
def Cn.eZ{d:In.Ml}(n:Cn g s d m)(hl:l<aL)(aj:AJ V c nb l cnt g s)(h1:JS W g1 s1)(a:fY l c w g s w1 g1 s1):Cn g1 s1 d m where
 mem:=(a.st.fe m n.mem).1
 val:=by rw[a.st.val m n.mem,n.val,GW a.ky]
 any v:=by
  rw[n.any v];refine⟨λq=>⟨?_,a.aez q.2⟩,λq=>a.back hl aj h1 n.mem q.1 q.2⟩;rw[a.st.val m n.mem];exact(qm _).2 ⟨v,q.1,by rw[a.root h1 q.2];rfl⟩
 use k q:=a.um k<|n.use k q
 sub:=n.sub
def ch.eZ{Γ}(e:ch w nb Γ g s)(hl:l<aL)(aj:AJ w c Wh l cnt g s)(h1:JS w1 g1 s1)(a:fY l c w g s w1 g1 s1):ch w1 nb Γ g1 s1:=by
 obtain⟨L,h,q⟩:=e;refine⟨L,h.fr a.fr ?_,λx=>(q x).imp id λ⟨d,m,q1,q2,q3⟩=>⟨d,m,q1,q2,q3.eZ hl aj h1 a⟩⟩;rintro(z|z|z)
 .have:=aj.je.ct.c 0;rw[<-z,h.bE 0]at this;simp at this
 .have:=aj.je.bx.c 0;rw[<-z,h.bE 0]at this;simp at this
 .exact(aj.js.nQ h.ms).1 z
def OR.stj(o:OR l B g s cnt ρ g1 s1 ah bK)(h:JS w g s)(hB:w.heap.size<=B)(hf:Fr (jS c g) w w1):fY l c w g s w1 g1 s1 where
 st:=o.st
 an m hm x k e:=⟨(o.hd m hm x).2 k,by rw[(o.fe x<|h.gl.bN hm k).1];exact e⟩
 lo m hm x x' k k' i _ z:=by
  rw[((o.hd m hm x').1 k').one k,(o.fe x<|h.gl.bN hm k).1];exact z
 nw m hm:=(o.new m hm).imp (λq=>q.1) λq=>by have:=q.1;omega
 fr:=hf
 ky v:=by rw[o.kk];exact(h.ok.qW<|.var v).symm
 um n q:=(o.usd n).2<|qy q
def OR.aj(o:OR l B g s cnt ρ g1 s1 ah bK)(a:AJ w c nb l cnt g s)(hB:w.heap.size<=B)(je:JE w1 c nb l ah)(js:JS w1 g1 s1):AJ w1 c nb l ah g1 s1 where
 je:=je
 js:=js
 us:=o.used a.us
 lv n hm e:=by
  by_cases q:n∈g.ds
  .have k:=(o.hd n q n).1<|.here e;rw[(o.fe n q).1];exact a.lv n q k.head
  .exact qy (o.nl n hm q)
 lo n hm:=by
  obtain q|q:=o.new n hm
  .exact a.lo n q.1
  .have h1:=q.1;have h2:=a.je.z;have:=a.je.bx.z;omega
end
section
variable {c:JC} {cnt:Nat} {xE:j6}
def One.fr(o:One b w w')(h:S b):Fr S w w':=⟨o.os,o.tape,o.output,xf o.size.symm,λk _ hn=>o.block k λe=>hn<|e▸h⟩
def JS.eb(j:JS w g s)(h:JE w c nb l cnt)(o:One c.eb w w'):JS w' g s:=by
 refine j.one o (h.Bh j) λm hm k l' gg hs hl hg e=>?_;have⟨ga,q1,q2,_⟩:=j.gl.row hm hs<|List.length_pos_iff.2 hl;rw[hg]at q1;injection q1 with q1;injection q1 with q1;subst q1;have:=h.bx.c 0;rw[<-e,q2]at this;simp at this
def AJ.eng(a:AJ w c nb l cnt g s)(o:One c.eb w w')(hb:Bx w' c.eb (Wk c Wh l'))(hl:l<=l'):AJ w' c Wh l' cnt g s:=
 ⟨a.je.fr a.js (o.fr<|qz<|qy rfl) hb<|a.je.ct.one o<|zd a.je.ne.1,a.js.eb a.je o,a.us,λn hn e=>(a.lv n hn e).imp (λq=>ae) id,a.lo⟩
def gJ w b j v:One b w (w.setCell ⟨b,j,none⟩ v):=⟨rfl,rfl,rfl,Dd,λi hi=>xo _ _ _ _ hi⟩
def AJ.given(a:AJ w c nb l cnt g s)Wh:AJ (w.setCell ⟨c.eb,3,none⟩<|Mv Wh) c Wh l cnt g s:=a.eng (gJ _ _ _ _) (a.je.bx.aR 3 _ _ rfl ag) (br _)
def AJ.af(a:AJ w c nb l cnt g s)(k:Bq w w'):AJ w' c nb l cnt g s:=⟨a.je.af k,a.js.af k,a.us,a.lv,a.lo⟩
def ch.af(e:ch w nb Γ g s)(k:Bq w w'):ch w' nb Γ g s:=by obtain⟨L,h,q⟩:=e;exact⟨L,h.af k,q⟩
def ch.one(e:ch w nb Γ g s)(o:One b w w')(h:nb≠b):ch w' nb Γ g s:=by obtain⟨L,m,q⟩:=e;exact⟨L,m.one o h,q⟩
def ch.afI(e:ch w nb Γ g s)(a:JE w c Wh l cnt):nb≠c.eb:=λz=>by
 obtain⟨L,h,_⟩:=e;have:=a.bx.c 0;rw[<-z,h.bE 0]at this;simp at this
def ch.lt(e:ch w nb Γ g s):nb<w.heap.size:=by obtain⟨L,h,_⟩:=e;exact h.lt
def ch.new(w:World)g(s:jy):ch (w.alloc<|.map #[] 0) w.heap.size (λ_=>none) g s:=⟨[],MG.new _ w,λx=>qy ⟨rfl,rfl⟩⟩
def akk b1 b2 L1 L w gk wr:=
 ∃done L',IG xq wr w.heap.size b2 L done gk/\MG xq wr b1 L'/\(∀x,x∈done->a_ x L'=a_ x L/\a_ x L≠none)/\(∀x,¬x∈done->a_ x L'=a_ x L1)/\Fr (λi=>i=b1) w wr
def aeA{L1 L}(h1:MG xq w b1 L1)(h2:MG xq w b2 L)(hn:b1≠b2):
 Cq 308 #[Mv b1,Mv b2] w λe w'=>e=.returned (.tuple #[])/\(∃L',MG xq w' b1 L'/\∀x,a_ x L'=match a_ x L with|some v=>some v|none=>a_ x L1)/\Fr (λi=>i=b1) w w':=by
 have l1:=h1.lt;have⟨o,cnt,hrg,mi⟩:=h2.range cP;have k1:Bq w (w.alloc o):=bw _;have ST:akk b1 b2 L1 L w cnt (w.alloc o):=⟨[],L1,mi,h1.af k1,λx q=>by simp at q,λx _=>rfl,Fr.of k1⟩;go_enter func308,ntmps308
 go_wp2
 go_loopg[] cnt (λgk wr=>akk b1 b2 L1 L w gk wr)
 case atStart=>exact ST
 case round=>
  obtain⟨done,L',mi,hM,H3,H4,HF⟩:=hrel;have Xs:=mi.lt;have zr:=HF.size;rcases mi.next (P:=xw) str_inj with⟨HA,Ea⟩|⟨x,u,w2,aD,hxd,HX,Ea,I2,H8,xZ,gL,hen⟩
  .have HM:=ai hM
   go_wp2
   go_end0;refine⟨rfl,⟨L',HM,λx=>?_⟩,HF⟩
   cases e:a_ x L with
   |some v=>rw[(H3 x<|HA x v e).1,e]|none=>
    exact H4 x λq=>(H3 x q).2 e
  .have F2:=xZ;have M2:=hM.fr F2 ae;go_wp2_with(refine cu PW cP rfl _ _ _ (qz rfl) rfl M2 x u rfl rfl ?_;intro w4 H' O';have S4:=ai H';have O4:=ai O';clear H' O');go_roundg aD
   case measure=>exact H8
   case rel=>
    have o:=uh O4;refine⟨x::done,_,I2.same (o.block b2<|zd hn)<|o.block _ ae,S4,λy hy=>?_,λy hy=>?_,(HF.g_ F2<|λi e=>qz ae).trans<|o.fr rfl⟩
    .rw[aN];by_cases q:x=y
     .subst q;rw[if_pos rfl,HX];simp
     .rw[if_neg q];exact H3 y<|(List.mem_cons.1 hy).resolve_left<|zd q
    .rw[aN,if_neg λe=>hy UH];exact H4 y λq=>hy qBf
end
end
end Go.Proofs.YtnldmeakhapdhaaGreatDoor

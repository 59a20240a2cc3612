import Derived.Test.YtopmodaakdnliaaGreatDoorCGw
set_option linter.all false
set_option maxRecDepth 100000
set_option maxHeartbeats 8000000
namespace Go.Proofs.YtopmodaakdnliaaGreatDoor
open _root_.List renaming eq_nil_of_length_eq_zero->ja,take_succ_eq_append_getElem->jc,map_cons->jd,length->jf,nil_append->jh,getD_eq_getElem?_getD->ji,map_nil->jj,take_length->jk,getElem_mem->jl,map_append->jm
open Go.Proofs.Tryz renaming prog->jo,f3->jq,checked->jt,func3->ju
open Pu renaming oN->jv,bG->jx,Tok->jy,fB->jz
open _root_.Nat renaming zero_le->j3,zero_add->j5
open In renaming pG->j6,Xu->j7
open Bx renaming new->j8
open Go Proofs.Tryz
variable {s sm sx:BA} {rs:Bool} {fn:FuncId} {n:Int} {ls:List (List UInt8)} {Z:List (Nd×Ms.Sk)} {A:List (Nd×Nd)} {nl:List BA} {S:List Ms.Sk} {ys:List Ms.Wn} {l:List UInt8} {p:Ms.Sk} {t:Ms.So} {y:Ms.Wn} {a1 am ax f1 fm fx j n1 nm t1 tm v:Nat} {f g:Nat->Nat} {x:Nd} {w:World}
section
open Go.RowKit Go.ChangeMaps Go.MapKept Un
def ajj fn rs:=∀(w:World)(nl:List BA),nl.length<=1000000->Cq fn #[] w (λe w'=>∃ty eb S,e=.returned (.iface ty<|Pv eb)/\Bq w w'/\ZG ty eb w.heap.size w'.heap.size rs nl S/\S w' 0 (λ_=>none) ⟨Ty.var,λ_=>False⟩ (λ_=>none))
def anA:ajj 25 true:=by
 intro w nl hl;have HN:=ajg (w:=w) nl;go_enter func25,ntmps25;go_wp2_with fail;refine HN.mono ?_;rintro e w1⟨eb,rfl,HB,HS⟩
 go_wp2
 go_ret;exact⟨_,eb,_,rfl,HB,am6 hl,HS⟩
def anB:ajj 27 false:=by
 intro w nl hl;have HN:=ajh (w:=w) nl;go_enter func27,ntmps27;go_wp2_with fail;refine HN.mono ?_;rintro e w1⟨eb,rfl,HB,HS⟩
 go_wp2
 go_ret;exact⟨_,eb,_,rfl,HB,ajf hl,HS⟩
structure Mg n fn rs:Prop where
 An:ajj fn rs
 cf:∀(args:Array Value)(w:World),(callFunc fn args).run jo w=.ok (.enter fn args) w
 look:∀{w:World}{b:Nat},MG p9 w b (bn 2 (.func (.func 27) #[] #[])<|bn 1 (.func (.func 25) #[] #[]) [])->(Instr.lookup 56 (Mv b) (Iv n) true).run jo w=.ok (.tuple #[.func (.func fn) #[] #[],.bool true]) w
def anC:Mg 1 25 true:=⟨anA,λ_ _=>qkr,λh=>(IC h).1⟩
def anE:Mg 2 27 false:=⟨anB,λ_ _=>qkr,λh=>(IC h).2⟩
def anF rs(l:List Dc)f L R B:=∃F,j7 rs l (λ_=>none) (λ_=>none) ⟨Ty.var,λ_=>False⟩ B F/\f=fF F/\L=fL F/\R=fR F
def anG rs(l:List Dc)w(e:Ending)w':=∃nk n' np f L R B va vc,anF rs l f L R B/\e=.returned (.tuple #[.agg #[.slice nk n' np],Vu f L R va B.length vc])/\Qf w' (λb=>w.heap.size<=b) B va vc/\Bq w w'/\RowV QD 1 w' (λ_=>True) l (.slice nk n' np)
section
variable {l:List Dc}
def Co(h:Laid w)(hs:Qr nl s l)(hn:Mg n fn rs)(hF:∀B F,j7 rs l (λ_=>none) (λ_=>none) ⟨Ty.var,λ_=>False⟩ B F->F=none):Calls jo 12 #[.string s,.int .i64 n] w (anG rs l w):=by
 obtain⟨W0,HW⟩:∃W0,W0=(w.alloc<|Cv #[Lv none 0 0] 48).alloc (Cv (rq none 0 0) 42):=⟨_,rfl⟩;have b8:Below w.heap.size w W0:=by rw[HW];exact(bw _).alloc ah _
 have A0:Bx W0 w.heap.size #[Lv none 0 0]:=by rw[HW];exact(j8 w _ _).alloc _
 have B0:Bx W0 (w.heap.size+1) (rq none 0 0):=by rw[HW];have:=j8 (w.alloc<|Cv #[Lv none 0 0] 48) (rq none 0 0) 42;simpa using this
 have HC:=IW (h.af b8) hs.r hs.o hs.z;have HPI:=PI.init hs.o hs.z rs (λ_=>False) (cnt:=0) ae;have hl:=Nat.le_trans (Ej l) hs.z;have hnl:=hs.n;have HF:=ai hF;clear hF;simp only[rq]at HW B0;clear h;go_enter func12,ntmps12;go_wp2_with fail;rw[<-HW];refine HC.mono ?_;rintro e w1⟨u,rfl,cU,aE⟩;obtain⟨va,vc,cs,rfl,-⟩:=id aE;have eE:=b8.trans<|cU.mono b8.size;obtain⟨W1,fV⟩:∃W1,W1=(w1.alloc<|Cv #[Lv va l.length vc] 48).alloc (Cv #[.int .i64 0,.int .i64 0,.int .i64 0] 38):=⟨_,rfl⟩;have mq:Below w1.heap.size w1 W1:=by rw[fV];exact(bw _).alloc ah _
 have h_:=eE.trans<|mq.mono eE.size;have A2:=ai<|(A0.below cU).below mq;have B2:=ai<|(B0.below cU).below mq;have P2:Bx W1 w1.heap.size #[Lv va l.length vc]:=(by rw[fV];exact(j8 w1 _ _).alloc _);have F2:Bx W1 (w1.heap.size+1) #[.int .i64 0,.int .i64 0,.int .i64 0]:=(by rw[fV];have:=j8 (w1.alloc<|Cv #[Lv va l.length vc] 48) #[.int .i64 0,.int .i64 0,.int .i64 0] 38;simpa using this);have Hw:=ai fV;have gS:=eE.size;have ku:=B0.z;have gC:=cU.size;have HRW:Hid (RowV QD 1 W1 (λb=>W0.heap.size<=b/\b<w1.heap.size) l<|Lv va l.length vc):=ai<|aE.move bA mq.size (λb _ z=>mq.block b z)<|λb p z=>⟨p,z⟩;have hzw:=mq.size;have IR:=hn.cf;clear HC b8 cU mq eE A0 B0 fV HW aE hs;go_wp2_with fail;rw[<-uh Hw];refine U6.mono ?_;rintro e w2⟨rfl,K2,m2⟩;have vC:=hn.look m2;have A3:=A2.below K2;have B3:=B2.below K2;have P3:=ai<|P2.below K2;have HR3:=(HRW.move bA K2.size (λb _ z=>K2.block b z)<|λb p z=>p);have z2:=K2.size;clear m2 A2 B2 P2 F2 HRW Hw;have⟨p1,p2,p3⟩:=uh P3
 go_wp2
 go_region_with(first
  |(go_at_call 16;go_loud(refine HIN.mono ?_);rintro e w4⟨B,F,nk,np,hQ4,rfl,hB4,k4'⟩;have k4:Below w2.heap.size w3 w4:=k4';have A4:=(A3.below K3).same k4.size<|k4.block _ ae;have B4:=(B3.below K3).same k4.size<|k4.block _ ae;have P4:=(P3.below K3).same k4.size<|k4.block _ ae;have HA4:=ai A4;have HB4:=ai B4;have HQ4:=ai hQ4;have HW4:=ai hB4;have K4:=ai k4;obtain⟨a1,a2,a3⟩:=A4;obtain⟨b1,b2,b3⟩:=B4;obtain⟨c1,c2,c3⟩:=P4;clear hQ4 hB4 k4 k4' HIN;unfold Vu)
  |(refine(hn.An _ nl ae).mono ?_;rintro e w3⟨ty,eb,S,rfl,k3,E3,S3⟩;have GC:Below w2.heap.size w2 w3:=(Below.refl w2.heap.size w2).drew.trans k3;have HIN:=ai (afF ahh E3 (HR3.move bA GC.size (λb _ z=>GC.block b z) (λb p z=>by have:=p.2;show b<w2.heap.size;omega)) hl GC.size (br _) S3 HPI<|uh HF);have P5:=P3.below GC;have K3:=ai GC;have z3:=GC.size;obtain⟨d1,d2,d3⟩:=P5;clear k3 GC E3 S3))
 all_goals(
  go_wp2_with fail;have k3:=uh K3;have k4:=uh K4;have k24:=k3.trans k4;have z4:=k4.size;have k04:=(h_.trans<|K2.mono h_.size).trans (k24.mono (by have:=h_.size;omega));have⟨c5,f5,z5⟩:=(HB4.gE (b2:=w.heap.size) ae 0<|Lv va l.length vc).aiJ rfl (.int .i64 ((fF F).kind:Int)) (.int .i64 ((fF F).aD:Int)) (.int .i64 ((fF F).t9:Int)) (Sv<|fL F) (Sv<|fR F) (Lv nk B.length np) (Lv none 0 0);have⟨c6,f6,z6⟩:=(HA4.mE 0 (Lv va l.length vc) #[Lv va l.length vc] ah ah).alx (b:=w.heap.size+1) ae (.int .i64 ((fF F).kind:Int)) (.int .i64 ((fF F).aD:Int)) (.int .i64 ((fF F).t9:Int)) (Sv<|fL F) (Sv<|fR F) (Lv nk B.length np)<|Lv none 0 0;refine bodyPost_ret (v:=.tuple #[Av #[Lv va l.length vc],Vu (fF F) (fL F) (fR F) nk B.length np]) (by simp[results,Tryz.results12,go_sem,Vu,c5,c6]) rfl ?_;have kk:=adf ((Fr.refl (λb=>b=w.heap.size\/b=w.heap.size+1) w4).set (b:=w.heap.size) (Or.inl<|Or.inl rfl) 0<|Lv va l.length vc) (b:=w.heap.size+1) (Or.inl<|Or.inr rfl) (.int .i64 ((fF F).kind:Int)) (.int .i64 ((fF F).aD:Int)) (.int .i64 ((fF F).t9:Int)) (Sv<|fL F) (Sv<|fR F) (Lv nk B.length np)<|Lv none 0 0
  exact⟨va,l.length,vc,fF F,fL F,fR F,B,nk,np,⟨F,HQ4,rfl,rfl,rfl⟩,rfl,HW4.move kk.size (λb p z=>kk.block b z (λq=>by have p:w3.heap.size<=b:=p;obtain rfl|rfl:=q<;>omega)) (λb p _=>by have p:w3.heap.size<=b:=p;show w.heap.size<=b;omega),Fr.Nj k04 k04.size kk (λx q=>by obtain rfl|rfl:=q<;>omega),(RowV.move HR3 bA (w':=w4) k24.size (λb p z=>k24.block b z) (P':=λb=>W0.heap.size<=b) λb p z=>p.1).move bA kk.size (λb p z=>kk.block b z (λq=>by have p:W0.heap.size<=b:=p;obtain rfl|rfl:=q<;>omega)) λ_ _ _=>trivial⟩)
end
end
section
open Go.RowKit Un
def ajk(w:World)(M:List Ms.Wn)(e:Ending)(w':World):=∃va n vc v ys,e=.returned (.agg #[Iv 0,Iv 0,Iv 0,.string ⟨#[]⟩,.string ⟨#[]⟩,.slice va n vc,v])/\ys.Perm M/\RowV Ms.QW 4 w' (λb=>w.heap.size<=b) ys v/\Bq w w'
section
variable {l:List Dc} {M:List Ms.Wn}
def afG(h:Laid w)(hs:Qr nl s l)(hn:Mg n fn rs)(hF:∀B F,j7 rs l (λ_=>none) (λ_=>none) ⟨Ty.var,λ_=>False⟩ B F->F=none)(hW:∀(w1:World)(v:Value)(P:Nat->Prop),RowV QD 1 w1 P l v->Calls jo 13 #[.agg #[v]] w1 (akW w1 M)):Calls jo 10 #[.string s,.int .i64 n] w (ajk w M):=by
 obtain⟨W0,HW⟩:∃W0,W0=w.alloc (.cells #[.int .i64 0,.int .i64 0,.int .i64 0,.string ⟨#[]⟩,.string ⟨#[]⟩,.slice none 0 0,.slice none 0 0] 42):=⟨_,rfl⟩;have K0:Below w.heap.size w W0:=by rw[HW];exact bw _
 have z0:W0.heap.size=w.heap.size+1:=by rw[HW];simp
 have B0:Bx W0 w.heap.size #[.int .i64 0,.int .i64 0,.int .i64 0,.string ⟨#[]⟩,.string ⟨#[]⟩,.slice none 0 0,.slice none 0 0]:=by rw[HW];exact j8 _ _ _
 have HC:=Co (h.af K0) hs hn hF;have HWW:=ai hW;have HF:=ai hF;clear hW hF hn hs h;go_enter func10,ntmps10;go_wp2_with fail;rw[<-HW];clear HW;refine HC.mono ?_;rintro e w1⟨pa,pn,pc,f,L,R,B,va,vc,⟨F,hI,rfl,rfl,rfl⟩,rfl,-,hb,aE⟩;obtain rfl:=uh HF _ _ hI;clear hI HC HF;rw[show Vu (fF none) (fL none) (fR none) va B.length vc=.agg #[.int .i64 0,.int .i64 0,.int .i64 0,.string ⟨#[]⟩,.string ⟨#[]⟩,.slice va B.length vc,.slice none 0 0]from rfl];obtain⟨W1,fV⟩:∃W1,W1=(w1.alloc<|.cells #[.slice pa pn pc] 48).alloc (.cells #[.int .i64 0,.int .i64 0,.int .i64 0,.string ⟨#[]⟩,.string ⟨#[]⟩,.slice va B.length vc,.slice none 0 0] 42):=⟨_,rfl⟩;have k1:Below w1.heap.size w1 W1:=by rw[fV];exact(bw _).alloc ah _
 have kk:=hb.trans<|k1.mono hb.size;have K1:=K0.trans<|kk.mono K0.size;have z1:W1.heap.size=w1.heap.size+2:=by rw[fV];simp
 have D1:Bx W1 w1.heap.size #[.slice pa pn pc]:=by rw[fV];exact(j8 _ _ _).alloc _
 have C1:Bx W1 (w1.heap.size+1) #[.int .i64 0,.int .i64 0,.int .i64 0,.string ⟨#[]⟩,.string ⟨#[]⟩,.slice va B.length vc,.slice none 0 0]:=by rw[fV];have:=j8 (w1.alloc<|.cells #[.slice pa pn pc] 48) #[.int .i64 0,.int .i64 0,.int .i64 0,.string ⟨#[]⟩,.string ⟨#[]⟩,.slice va B.length vc,.slice none 0 0] 42;simpa using this
 have HWR:=ai<|uh HWW W1 _ _<|RowV.move aE bA k1.size (λb _ z=>k1.block b z) λ_ p _=>p;have B1:=ai<|B0.below kk;have HC1:=ai C1;have zz:=hb.size;obtain⟨d1,d2,d3⟩:=D1;obtain⟨y1,y2,y3⟩:=C1;have HK1:=ai K1;clear aE HWW kk K1 k1 hb
 go_upto_region 2 with fail
 rw[<-fV];clear fV
 go_upto_region 4 with(go_at_call 13;refine(uh HWR).mono ?_;rintro e w2⟨v2,ys,rfl,hp,hv,k2⟩;obtain⟨Vv,Vw,cs2,rfl,Eu⟩:=id hv;have HV2:=ai hv;have HP2:=ai hp;have K2:=ai k2;obtain⟨x1,x2,x3⟩:=(uh HC1).below k2;clear hv hp k2 Eu)
 obtain⟨W3,hW3⟩:∃W3,W3=w2.setCell ⟨w1.heap.size+1,6,none⟩ (.slice Vv ys.length Vw):=⟨_,rfl⟩;rw[<-hW3];have C2:=(uh HC1).below<|uh K2;have C3:Bx W3 (w1.heap.size+1) #[.int .i64 0,.int .i64 0,.int .i64 0,.string ⟨#[]⟩,.string ⟨#[]⟩,.slice va B.length vc,.slice Vv ys.length Vw]:=by rw[hW3];exact C2.mE 6 _ _ rfl ah
 have B3:Bx W3 w.heap.size #[.int .i64 0,.int .i64 0,.int .i64 0,.string ⟨#[]⟩,.string ⟨#[]⟩,.slice none 0 0,.slice none 0 0]:=by rw[hW3];exact((uh B1).below<|uh K2).gE ae 6 _
 have F3:Fr (·=w1.heap.size+1) w2 W3:=by rw[hW3];exact Fr.set (S:=(·=w1.heap.size+1)) (Fr.refl _ _) (b:=w1.heap.size+1) (.inl rfl) 6 _
 have HB3:=ai B3;have HF3:=ai F3;obtain⟨b1,b2,b3⟩:=B3;obtain⟨c1,c2,c3⟩:=C3;clear hW3 C2 F3 x1 x2 x3 y1 y2 y3 d1 d2 d3;go_wp2_with fail;obtain⟨q1,q2,q3⟩:=(uh HB3).aiJ rfl (.int .i64 0) (.int .i64 0) (.int .i64 0) (.string ⟨#[]⟩) (.string ⟨#[]⟩) (.slice va B.length vc) (.slice Vv ys.length Vw);refine bodyPost_ret (v:=.agg #[.int .i64 0,.int .i64 0,.int .i64 0,.string ⟨#[]⟩,.string ⟨#[]⟩,.slice va B.length vc,.slice Vv ys.length Vw]) (by simp[results,Tryz.results10,go_sem,q1]) rfl ?_;have kk:=adf (Fr.refl (λb=>b=w.heap.size) W3) (b:=w.heap.size) (Or.inl rfl) (.int .i64 0) (.int .i64 0) (.int .i64 0) (.string ⟨#[]⟩) (.string ⟨#[]⟩) (.slice va B.length vc)<|.slice Vv ys.length Vw;have f3:=uh HF3;have k2:=uh K2;have k1:=uh HK1;have z1':=k1.size;refine⟨va,B.length,vc,_,ys,rfl,uh HP2,?_,?_⟩
 .exact(RowV.move (uh HV2) Ms.cx f3.size (λb p z=>f3.block b z (by have p:W1.heap.size<=b:=p;omega)) (P':=λb=>W1.heap.size<=b) λ_ p _=>p).move Ms.cx kk.size (λb p z=>kk.block b z (by have p:W1.heap.size<=b:=p;omega)) λb p _=>by have p:W1.heap.size<=b:=p;show w.heap.size<=b;omega
 .exact⟨((kk.os.trans f3.os).trans k2.os).trans k1.os,((kk.tape.trans f3.tape).trans k2.tape).trans k1.tape,((kk.output.trans f3.output).trans k2.output).trans k1.output,by have:=kk.size;have:=f3.size;have:=k2.size;omega,λk hk=>(((kk.block k (by have:=f3.size;have:=k2.size;omega) ae).trans<|f3.block k (by have:=k2.size;omega) ae).trans<|k2.block k ae).trans<|k1.block k hk⟩
end
def Qg{t:Ms.So}:∀{A:List (Nd×Nd)}{Z:List (Nd×Ms.Sk)},Z.map (·.1)=A.map (·.1)->(∀z∈Z,In.Pt z.1 z.2 t)->(∀i(h:i<A.length),∃s n f t a,A[i].2=.mk 3 s n [] f t a)->In.PtA t (bh A) (Z.map (·.2))
 |[],[],_,_,_=>.nil|[],_::_,h,_,_=>Dq|_::_,[],h,_,_=>Dq|(x,y)::A,(x',p)::Z,h,hP,hA=>by
  injection h with h1 h2;obtain rfl:x'=x:=h1;have⟨s,n,f,e,a,q⟩:=hA 0 ah;have q:y=.mk 3 s n [] f e a:=q;subst q;exact .cons s n f e a (hP (x',p) ah) (Qg h2 (λz hz=>hP z<|by simp[hz]) λi hi=>by have:=hA (i+1) yT;simpa using this)
abbrev ajl(f g:Nat->Nat)(tk:jy)(sx:BA)(nx:Nat)(sm:BA)(nm:Nat)(n1 f1 t1 a1:Nat)(A:List (Nd×Nd))(fm tm am fx tx ax:Nat):List Dc:=[dL f g,dS f g,.lt false tk<|aaF sx nx sm nm n1 f1 t1 a1 A fm tm am fx tx ax]
def afH{tk:jy}{nx tx:Nat}(h:In.PtA t (bh A) S){u:Nat->Prop}{Γ:In.Env}{B:List (BA×Ty)}{F:Option In.Ft}(q:j7 rs (ajl f g tk sx nx sm nm n1 f1 t1 a1 A fm tm am fx tx ax) (λ_=>none) Γ ⟨Ty.var,u⟩ B F):F=none:=by
 have hm:In.ac0 (In.lq ⟨2,⟨#[83]⟩,f 14,g 14⟩ [] [.mk 2 ⟨#[80]⟩ 0 [] (f 16) (g 16)<|f 16,.mk 2 ⟨#[81]⟩ 0 [.mk 2 lA 0 [] (f 19) (g 19)<|f 19,.mk 2 kC 0 [] (f 20) (g 20)<|f 20] (f 18) (g 20)<|f 18]<|In.lq ⟨2,⟨#[76]⟩,f 1,g 1⟩ [⟨3,vA,f 2,g 2⟩] [.mk 2 ⟨#[78]⟩ 0 [] (f 4) (g 4)<|f 4,.mk 2 ⟨#[67]⟩ 0 [.mk 16 vA 0 [] (f 7) (g 7)<|f 7,.mk 2 ⟨#[76]⟩ 0 [.mk 16 vA 0 [] (f 10) (g 10)<|f 10] (f 9) (g 10)<|f 9] (f 6) (g 11)<|f 6] λ_=>none):=⟨qkr,qkr,qkr,qkr⟩;exact In.Qb hm h tk sx sm nx nm n1 fx tx ax fm tm am f1 t1 a1 q
def XE{tk:jy}{nx tx:Nat}{so:Ms.So}(h:Laid w)(hs:Qr nl s (ajl f g tk sx nx sm nm n1 f1 t1 a1 A fm tm am fx tx ax))(hn:Mg n fn rs)(hZ:Z.map (·.1)=A.map (·.1))(hP:∀z∈Z,In.Pt z.1 z.2 so)(hA:∀i(h:i<A.length),∃s n f t a,A[i].2=.mk 3 s n [] f t a)(hl:A.length<=9)(hz:2*Ms.aK (Z.map (·.2))+1<300):
 Cq 10 #[.string s,Iv n] w (ajk w<|Ms.Fo 300 Z (fm:Int) (tm:Int)):=
 afG h hs hn (λ_ _ q=>afH (Qg hZ hP hA) q) λ_ _ _ hv=>aeo rfl hv hZ hP hA hl hz
def ajm(h:In.Pt x p t):oX xL nlM x/\kB x=[]:=by
 have two:∀{s:BA}{tk:List Ty}{m:Ty}(n:Nat)(x y:Nd)(f t a:Nat),xL s=some (tk,m)->tk.length=2->oX xL nlM x/\kB x=[]->oX xL nlM y/\kB y=[]->oX xL nlM (.mk 2 s n [x,y] f t a)/\kB (.mk 2 s n [x,y] f t a)=[]:=λ{s tk m}n x y f t a hm hl hx hy=>
  ⟨.up s n _ f t a tk m hm hl.symm λi h=>match i,h with
   |0,_=>hx.1|1,_=>hy.1,by simp[kB,fS,hx.2,hy.2]⟩
 induction h with
 |any=>exact⟨.leaf _ _ _ _ _ _ aA,rfl⟩|num=>exact⟨.leaf _ _ _ _ _ _ aA,rfl⟩|Hv=>exact⟨.leaf _ _ _ _ _ _ aA,rfl⟩|nil=>exact⟨.up _ _ [] _ _ _ [] tyL qkr rfl λi h=>absurd h ah,rfl⟩|p=>exact⟨.up _ _ [] _ _ _ [] H_ qkr rfl λi h=>absurd h ah,rfl⟩|aM n f t a _ _ i1 i2=>exact two (tk:=[.var 1,tyL]) (m:=tyL) n _ _ f t a qkr rfl i1 i2|q n f t a _ _ i1 i2=>exact two (tk:=[In.n_,In.kJ]) (m:=H_) n _ _ f t a qkr rfl i1 i2|pr s n f t a _ _ i1 i2=>exact⟨.pr _ _ _ _ _ _ _ i1.1 i2.1,by simp[kB,fS,i1.2,i2.2]⟩
def ajn{q:Ms.Sk}(h:In.Pt x p t):In.Pt x q t->p=q:=by
 induction h generalizing q with
 |aM n f t a _ _ i1 i2=>intro g;cases g with|aM _ _ _ _ g1 g2=>rw[i1 g1,i2 g2]
 |q n f t a _ _ i1 i2=>intro g;cases g with|q _ _ _ _ g1 g2=>rw[i1 g1,i2 g2]
 |pr s n f t a _ _ i1 i2=>intro g;cases g with|pr _ _ _ _ _ g1 g2=>rw[i1 g1,i2 g2]
 |Hv c n f t a=>
  intro g;generalize hs:(if c=true then(⟨#[116,114,117,101]⟩:BA)else⟨#[102,97,108,115,101]⟩)=s at g
  cases g with
  |Hv c'=>cases c<;>cases c'<;>first|rfl|exact absurd hs aA
 |_=>intro g;cases g;rfl
def BeP(T:List jy)(m:M Nd):=∀k x j,m k=.ok (x,j)->∃i,k<=i/\aF (tk T i) 2=true/\j6 x=(tk T i).aD
def pD{α β:Type}{m:M α}{f:α->M β}{k:Nat}{r:β×Nat}(h:aX m f k=.ok r):∃a k',m k=.ok (a,k')/\f a k'=.ok r:=by
 unfold aX at h
 cases e:m k with
 |error _=>rw[e]at h;cases h|ok q=>rw[e]at h;exact⟨q.1,q.2,rfl,h⟩
def adg{T:List jy}{part:M Nd}(h:BeP T part):BeP T (aJ T part (jW T) 2):=λk x j q=>by
 unfold aJ at q;split at q
 .rename_i hb;split at q
  .unfold fE at q;split at q
   .cases q;exact⟨k,br _,hb,rfl⟩
   .have⟨y,k1,q1,q2⟩:=pD q;unfold jU at q2;split at q2
    .have⟨z,k2,_,q4⟩:=pD q2;have⟨_,k3,_,q5⟩:=pD q4
     cases q5
     exact⟨k,br _,hb,rfl⟩
    .rw[if_neg<|λz=>absurd z.1 aA]at q2;have⟨_,k3,_,q5⟩:=pD q2
     cases q5
     have⟨i,z1,z2⟩:=h _ _ _ q1;exact⟨i,ae,z2⟩
  .cases q;exact⟨k,br _,hb,rfl⟩
 .cases q
def UJ{T:List jy}{sm:M Nd}:∀(f:Nat)(x:Nd)(k:Nat)(y:Nd)(j:Nat),dw T sm 2 f x k=.ok (y,j)->j6 y=j6 x
 |0,x,k,y,j,q=>by cases q;rfl|f+1,x,k,y,j,q=>by
  unfold dw at q;split at q
  .have⟨z,k1,_,q2⟩:=pD q;rw[UJ f _ k1 y j q2]
   cases x;rfl
  .cases q;rfl
def adh{T:List jy}:∀n,BeP T<|b_ T n
 |0=>λk x j q=>eh|n+1=>λk x j q=>by
  have ih:=adg<|adh (T:=T) n;unfold b_ iM at q;split at q
  .have⟨y,k1,q1,q2⟩:=pD q;have⟨i,z1,z2,z3⟩:=ih _ _ _ q1;exact⟨i,z1,z2,(UJ _ _ _ _ _ q2).trans z3⟩
  .exact ih _ _ _ q
def al2{i:Nat}(h:aF (tk (jx s 0) i) 2=true):i+1<(jx s 0).length:=by
 have⟨l,hl,_⟩:=oP s (s.size-0) 0;have e:jx s 0=l++[jz s]:=hl;rw[e]at h⊢;simp only[dr,de,eF];obtain q|q|q:=Nat.lt_trichotomy i l.length
 .omega
 .rw[q]at h;rw[Sd (X:=l) rfl]at h;exact absurd h (by simp[aF,aU,bY,jz])
 .have:tk (l++[jz s]) i=⟨7,⟨#[]⟩,0,0⟩:=by unfold tk;rw[ji,List.getElem?_eq_none bi];rfl
  rw[this]at h;exact absurd h aA
def G' s:∀f i,(∀(j:Nat)(h:j+1<(jv s f i).length),i<=((jv s f i)[j]).aD)/\∀(j k:Nat)(hjk:j<k)(h:k+1<(jv s f i).length),((jv s f i)[j]).aD<((jv s f i)[k]).aD
 |0,i=>⟨λj h=>by simp[jv]at h,λj k _ h=>by simp[jv]at h⟩|f+1,i=>by
  unfold jv;by_cases hi:i<s.size
  .by_cases hb:Pu.cB (Pu.at_ s i)=true
   .simp only[hi,hb,if_true];have⟨h1,h2⟩:=G' s f<|i+1;exact⟨λj h=>by have:=h1 j h;omega,h2⟩
   .simp only[hi,hb,if_true,if_false];have⟨h1,h2⟩:=G' s f (Pu.cT s i).t9;have ht:=(Pu.lQ s i hi).1;have hf:=Pu.Dn s i;refine⟨λj h=>?_,λj k hjk h=>?_⟩
    .cases j with
     |zero=>simp[hf]|succ j=>have q:=h1 j xB;exact Nat.le_trans ae q
    .cases k with
     |zero=>omega|succ k=>
      cases j with
      |zero=>have q:=h1 k xB;simp[hf];omega|succ j=>simpa using h2 j k ae xB
  .simp only[hi,if_false];exact⟨λj h=>xA,λj k _ h=>xA⟩
def al3(h:In.Pt x p t):nn x<=2*Ms.bO p+1:=by
 induction h<;>simp only[nn,cV,Ms.bO,Ms.aK]at* <;>omega
def ajo{L:List Nd}(h:In.PtA t L S):cV L<=2*Ms.aK S+2*S.length:=by
 induction h with
 |nil=>simp[cV]|cons s n f e a hp _ ih=>have:=al3 hp;simp only[nn,cV,Ms.aK,de]at*;omega
structure anH(t:Ms.So)(S:List Ms.Sk)(src:BA)(Z:List (Nd×Ms.Sk))(B:List (Nd×Nd))(e:Nat):Prop where
 z:Z.map (·.1)=B.map (·.1)
 s:Z.map (·.2)=S
 p:∀z∈Z,In.Pt z.1 z.2 t
 n:∀i(h:i<B.length),∃s n f t a,B[i].2=.mk 3 s n [] f t a
 k:∀z∈Z,65<j6 z.1
 f:∃f g tk n1 f1 t1 a1 fx tx ax,Qr nlM src<|ajl f g tk ⟨#[97]⟩ 0 ph 0 n1 f1 t1 a1 B 65 e 65 fx tx ax
def adi(h:Ff t ls S)(h0:ls≠[])(hz:(cS ls).length<=400)(hS:Ms.aK S<=150)(hl:S.length<=9):∃Z B,anH t S (bs<|cS ls) Z B<|(cS ls).length-1:=by
 have⟨f,g,T,nd,B,fx,tx,hr,e1,⟨Z,z1,z2,z3,z4⟩,hk,hT,⟨x1,x2⟩,h28⟩:=uw h h0 hz;have hB:∀b∈B,65<j6 b.1:=λb hb=>by
  have⟨n',k',j,k1,hp⟩:=hk b hb;have⟨i,q1,q2,q3⟩:=adh n' k' _ _ hp;rw[hT]at q2 q3 h28;have q4:=al2 q2;have a2:=(G' (bs<|cS ls) ((bs<|cS ls).size-0) 0).2 28 i ae q4;have c2:(tk (jx (bs<|cS ls) 0) 28).aD<(tk (jx (bs<|cS ls) 0) i).aD:=by rw[<-SI (T:=jx (bs<|cS ls) 0) (k:=28) ae,<-SI (T:=jx (bs<|cS ls) 0) (k:=i) ae];exact a2
  omega
 obtain⟨n1,f1,t1,a1,rfl⟩:=rZ (k:=1) (s:=⟨#[97]⟩) (e1.trans qkr) aA;have hP:∀i(h:i<B.length),oX xL nlM B[i].1/\kB B[i].1=[]:=λi hi=>by
  have:B[i].1∈B.map (·.1):=List.mem_map.2 ⟨_,jl hi,rfl⟩;rw[<-z1]at this;have⟨z,q1,q2⟩:=List.mem_map.1 this;rw[<-q2];exact ajm<|z3 z q1
 refine⟨Z,B,z1,z2,z3,z4,λz q=>?_,f,g,tk T 23,n1,f1,t1,a1,fx,tx,(tk T 26).aD,?_⟩
 .have:z.1∈B.map (·.1):=by rw[<-z1];exact List.mem_map.2 ⟨z,q,rfl⟩
  have⟨b,q1,q2⟩:=List.mem_map.1 this;rw[<-q2];exact hB b q1
 rw[x2]at hr;refine⟨hr,ahI f g ?_,?_,aA⟩
 .refine⟨⟨rfl,⟨.fn _ _ _ _ _ _ _ (NmC.m (c:=97) aA)<|.mt _ _ _ _ B _ _ _ (.low _ _ _ _ _ _<|.inr rfl) (λi h=>⟨(hP i h).1,by rw[(hP i h).2];simp⟩) λi h=>?_,rfl,rfl⟩,⟨akM,λ_=>rfl⟩,by rw[x1];exact NmC.m (c:=120) aA⟩,trivial⟩;have⟨s,n,f',t',a',q⟩:=z4 i h;rw[q];exact .num ..
 .have:=ajo<|Qg z1 z3 z4;rw[z2]at this;simp[oU,nd3,nn,cV,XK];omega
namespace Ms
def kd(n:Int)(l:List Wn):List Wn:=l.filter λy=>y.k==n
def XH(l:List Wn):BA:=match kd 1 l with
 |[]=>⟨#[]⟩|y::_=>y.s
def OkW(e:Int)(y:Wn):=(y.k=1/\y.s≠⟨#[]⟩/\y.f=65/\y.t=e)\/(y.k=2/\y.s=⟨#[]⟩/\65<y.f)
def oW(n:Int)(a b:List Wn):kd n (a++b)=kd n a++kd n b:=List.filter_append ..
def Qh(h:y.k=n):kd n [y]=[y]:=by simp[kd,h]
def agE(h:y.k≠n):kd n [y]=[]:=by simp[kd,h]
def Hc(h:j<ys.length):ys.take (j+1)=ys.take j++[ys[j]]:=jc h
def afI(h1:(kd 1 ys).length<=1)(h:j<ys.length)(k:(ys[j]).k=1):XH (ys.take j)=⟨#[]⟩/\XH (ys.take<|j+1)=(ys[j]).s/\(kd 2<|ys.take<|j+1).length=(kd 2<|ys.take j).length:=by
 have e:kd 1 (ys.take j)=[]:=by
  rw[<-List.take_append_drop (j+1) ys,Hc h,oW,oW,Qh k]at h1;simp only[dr,de,eF]at h1;exact ja ae
 unfold XH;rw[Hc h,oW,oW,Qh k,e,agE (n:=2) (by rw[k];decide)];simp
def afJ(h:j<ys.length)(k:(ys[j]).k=2):XH (ys.take<|j+1)=XH (ys.take j)/\(kd 2<|ys.take<|j+1).length=(kd 2<|ys.take j).length+1:=by
 unfold XH;rw[Hc h,oW,oW,Qh k,agE (n:=1) (by rw[k];decide)];simp
def ajp{M:List Wn}(h:ys.Perm M)(h1:(kd 1 M).length<=1):(kd 1 ys).length<=1/\XH ys=XH M/\(kd 2 ys).length=(kd 2 M).length:=by
 have p1:(kd 1 ys).Perm (kd 1 M):=h.filter _;have p2:(kd 2 ys).Perm (kd 2 M):=h.filter _;refine⟨by rw[p1.length_eq];exact h1,?_,p2.length_eq⟩;unfold XH
 match hM:kd 1 M,p1,h1 with
 |[],p1,_=>rw[p1.eq_nil]|[y],p1,_=>rw[List.perm_singleton.1 p1]|_::_::_,_,h1=>simp at h1
def Hg(S:List Sk):BA:=match Cd 300 S with
 |some (s::_)=>bs (tx s)|_=>⟨#[]⟩
def UK{N:Nat}:∀{Z:List (Nd×Sk)}{B:List Sk}{y:Wn},y∈yl N B Z->∃z∈Z,y=⟨2,(j6 z.1:Int),(In.Mk z.1:Int),⟨#[]⟩⟩
 |[],_,y,h=>by simp[yl]at h|(x,p)::r,B,y,h=>by
  simp only[yl,List.mem_append]at h;obtain h|h:=h
  .split at h
   .exact⟨(x,p),ah,xB⟩
   .simp at h
  .have⟨z,h1,h2⟩:=UK h;exact⟨z,by simp[h1],h2⟩
def agF{N:Nat}:∀{Z:List (Nd×Sk)}{B:List Sk},(yl N B Z).length=bZ N B (Z.map (·.2))
 |[],_=>rfl|(x,p)::r,B=>by
  simp only[yl,dr,jd,bZ,agF];split<;>simp
def ajq{l:List Wn}(h:∀y∈l,y.k=n):kd n l=l:=List.filter_eq_self.2 λy q=>by simp[h y q]
def afK{l:List Wn}(h:∀y∈l,y.k≠n):kd n l=[]:=List.filter_eq_nil_iff.2 λy q=>by simp[h y q]
def UL{p:Prop}(h:p:=by
 exact⟨λy q=>(h2 y<|by simpa using q).2,by simp[kd],by simp[kd],by simp[kd]⟩):p:=h
def al4{e:Int}(hk:∀z∈Z,65<j6 z.1)(ht:∀s r,Cd 300 (Z.map (·.2))=some (s::r)->tx s≠[]):(∀y∈Fo 300 Z 65 e,OkW e y)/\(kd 1<|Fo 300 Z 65 e).length<=1/\XH (Fo 300 Z 65 e)=Hg (Z.map (·.2))/\(kd 2<|Fo 300 Z 65 e).length=bZ 300 [] (Z.map (·.2)):=by
 have h2:∀y∈yl 300 [] Z,y.k=2/\OkW e y:=λy q=>by
  obtain⟨z,q1,rfl⟩:=UK q;have:=hk z q1;exact⟨rfl,.inr ⟨rfl,rfl,by show(65:Int)<(j6 z.1:Int);omega⟩⟩
 have k2:=ajq (n:=2) λy q=>(h2 y q).1;have k1:=afK (n:=1) (l:=yl 300 [] Z) λy q=>by rw[(h2 y q).1];decide
 unfold Fo XH Hg;rw[oW,oW,k1,k2,<-agF (N:=300) (B:=[])];generalize Cd 300 (Z.map (·.2))=o at ht;obtain _|(_|⟨s,r⟩):=o
 .exact UL
 .exact UL
 .refine⟨λy q=>?_,by simp[kd],by simp[kd],by simp[kd]⟩;obtain q|q:=List.mem_append.1 q
  .exact(h2 y q).2
  .obtain rfl:=List.mem_singleton.1 q;exact .inl ⟨rfl,λz=>ht s r rfl (by have:=congrArg ByteArray.size z;rw[bS]at this;exact ja this),rfl,rfl⟩
def Qi(h:∀a∈S,Sk.of a t)(hz:2*aK S+1<300){f:List Sk}(q:Cd 300 S=some f):∃s,f=[s]/\Sk.of s t:=by
 have g:=GO (p:=.any) h trivial (m:=300) (by simp only[bO];omega);rw[show lo 300 (nB S) [.any]=some f from q]at g;obtain⟨s,h1,h2,_⟩:=g;exact⟨s,h1,h2⟩
end Ms
def nu.of{s:Ms.Sk}(h:nu v l s t):s.of t:=by
 have c2:∀{n:Nat}{t:Ms.So}{c:Nat},Ms.cnt t=some c->n<c->Ms.NH t n:=λh1 h2 c' e=>by rw[h1]at e;cases e;exact h2
 induction h with
 |any=>trivial|num=>exact⟨rfl,λ_ q=> eh,trivial⟩|Hv c=>exact⟨rfl,c2 rfl (by cases c<;>decide),trivial⟩|nil=>exact⟨rfl,c2 rfl aA,trivial⟩|p=>exact⟨rfl,c2 rfl aA,trivial⟩|aM _ _ a b=>exact⟨rfl,c2 rfl aA,a,b,trivial⟩|q _ _ a b=>exact⟨rfl,c2 rfl aA,a,b,trivial⟩|xU _ a=>exact a|pr _ _ a b=>exact⟨rfl,c2 rfl aA,a,b,trivial⟩
def Ff.of{t:Ms.So}{ls:List (List UInt8)}{S:List Ms.Sk}(h:Ff t ls S):∀a∈S,Ms.Sk.of a t:=by
 induction h with
 |nil=>intro a q;cases q|cons hp _ ih=>
  intro a q;obtain rfl|q:=List.mem_cons.1 q
  .exact hp.of
  .exact ih a q
def Ff.snoc(h:Ff t ls S){s:Ms.Sk}(hp:nu v l s t):Ff t (ls++[l]) (S++[s]):=by
 induction h with
 |nil=>exact .cons hp .nil|cons q _ ih=>exact .cons q ih
def Ff.at{t:Ms.So}{ls:List (List UInt8)}{S:List Ms.Sk}(h:Ff t ls S):∀i,i<ls.length->∃v s,s∈S/\nu v (ls.getD i []) s t:=by
 induction h with
 |nil=>intro i q;simp at q| @cons v l s ls S q _ ih=>
   intro i hi
   cases i with
   |zero=>exact⟨v,s,ah,q⟩|succ i=>
    have⟨v',s',h1,h2⟩:=ih i yT;exact⟨v',s',by simp[h1],by simpa using h2⟩
def nu.one{v v':Nat}{l:List UInt8}{s s':Ms.Sk}{t:Ms.So}(h:nu v l s t)(h':nu v' l s' t)(hz:l.length<=300):s=s':=by
 have IA:(cS [l]).length<=400:=by have:=sD [l];simp only[jd,jj,List.sum_cons,List.sum_nil,de,eF]at this;omega
 obtain⟨f,g,T,nd,B,fx,tx,hr,-,⟨Z,z1,z2,z3,-⟩,-⟩:=uw (.cons h .nil) ah IA;obtain⟨f',g',T',nd',B',fx',tx',UB,-,⟨Z',z1',z2',z3',-⟩,-⟩:=uw (.cons h' .nil) ah IA;rw[hr]at UB;simp only[Except.ok.injEq,List.append_eq,List.cons_append,jh,List.cons.injEq,Dc.lt.injEq,Nd.mk.injEq,and_true,true_and]at UB;obtain rfl:B=B':=og UB.2.2.2.2.1.2
 match Z,z2,z1,z3 with
 |[(x,_)],z2,z1,z3=>
  match Z',z2',z1',z3' with
  |[(x',_)],z2',z1',z3'=>
   obtain rfl:_=s:=by simpa using z2
   obtain rfl:_=s':=by simpa using z2'
   rw[<-z1']at z1;obtain rfl:x=x':=by simpa using z1
   exact ajn (z3 _<|List.mem_singleton.2 rfl)<|z3' _<|List.mem_singleton.2 rfl
def OpR(W:World)(ys:List Ms.Wn)(gk:Nat)(a b c d:Value)(wr:World):=
 ∃j:Nat,Hid (gk=ys.length-j)/\j<=ys.length/\a=.string (Ms.XH<|ys.take j)/\b=Nv (Ms.kd 2<|ys.take j).length/\c=.bool true/\d=Nv j/\Hid (Bq W wr)
def adj{x:BA}(hx:x≠⟨#[]⟩):x.toList.isEmpty=false:=by
 cases e:x.toList with
 |nil=>exact absurd (iD (by rw[e,show(⟨#[]⟩:BA).toList=[]from toList_mk []];rfl)) hx|cons=>rfl
def adk n(h0: -9223372036854775808<=n)(h1:n<=9223372036854775807):Cq 11 #[Iv n] w λe w'=>∃m fn rs,e=.returned (Iv m)/\Mg m fn rs/\w'=w:=by
 go_enter func11,ntmps11;go_wp2_with fail;refine(P8 n 2 h0 h1 aA aA).mono ?_;rintro e w'⟨r,rfl,q0,q1,rfl⟩;obtain rfl|rfl:r=0\/r=1:=ae
 .go_wp2
  go_ret;exact⟨1,_,_,rfl,anC,rfl⟩
 .go_wp2
  go_ret;exact⟨2,_,_,rfl,anE,rfl⟩
def UM{g lc:Nat}(hL:Laid w)(h0: -9223372036854775808<=n)(h1:n<=9223372036854775807)(hx:Ff t ls S)(QM:ls≠[])(hz:(cS ls).length<=400)(hS:Ms.aK S<=100)(hl:S.length<=9)(ht:Txt w g ls.length (λj=>bs<|ls.getD j []))(hg:g<w.heap.size):
 Cq 7 #[.slice (some ⟨g,0,none⟩) ls.length lc,Iv n] w λe w'=>e=.returned (.tuple #[.string<|Ms.Hg S,Nv<|Ms.bZ 300 [] S,.bool true])/\Bq w w':=by
 have Iz:ls.length=S.length:=hx.len;have⟨Z,B,HR⟩:=adi hx QM hz ae hl;have HK:=ai<|aaM (lc:=lc) ht hg hz ae;have HE:Hid (∀W,Cq 11 #[Iv n] W λe w'=>∃m fn rs,e=Rv (Iv m)/\Mg m fn rs/\w'=W):=ai<|λW=>adk n h0 h1;have hZB:B.length=S.length:=by have a:=congrArg jf HR.z;have b:=congrArg jf HR.s;simp only[List.length_map]at a b;omega
 obtain⟨e,he⟩:∃e,e=(cS ls).length-1:=⟨_,rfl⟩
 have HC:Hid (∀W'(m:Int)(fn:FuncId)(rs:Bool),Bq w W'->Mg m fn rs->Cq 10 #[Sv<|bs<|cS ls,Iv m] W' (ajk W'<|Ms.Fo 300 Z 65 (e:Int))):=ai (λW' m fn rs k hn=>by
  have⟨f,g,tk,n1,f1,t1,a1,fx,tx,ax,hF⟩:=HR.f;rw[<-he]at hF
  exact XE (hL.af k) hF hn HR.z HR.p HR.n ae (by rw[HR.s];omega))
 have hwt:∀s r,Ms.Cd 300 S=some (s::r)->Ms.tx s≠[]:=λs r q=>by have⟨s',e,ho⟩:=Ms.Qi hx.of ae q;cases e;exact Ms.Si ho
 have⟨o1,o2,o3,o4⟩:=Ms.al4 (e:=(e:Int)) HR.k (by rw[HR.s];exact hwt);rw[HR.s]at o3 o4;have hM:(Ms.Fo 300 Z 65 (e:Int)).length<=12:=by
  have:=Ms.Su 300 Z 65 (e:Int);have e1:Z.length=S.length:=by have:=congrArg jf HR.s;simpa using this
  omega
 have hX:((bs<|cS ls).size:Int)-1=(e:Int):=by rw[bS,he,yo];simp;omega
 have hX2:((bs<|cS ls).size:Int)<=400:=by rw[bS];omega
 generalize Ms.Fo 300 Z 65 (e:Int)=M at HC o1 o2 o3 o4 hM;generalize bs (cS ls)=X at HK HC hX hX2;have HX:=ai hX;have HX2:=ai hX2;have HM:=ai hM;have O1:=ai o1;have O2:=ai o2;have O3:=ai o3;have O4:=ai o4;clear o1 o2 o3 o4 HR hZB he hx QM hz hS hwt ht hL h0 h1 hl hX hX2 hM Iz hg;go_enter func7,ntmps7;go_wp2_with fail;refine(uh HK).mono ?_;rintro e' w1⟨rfl,k1⟩;have K1:=ai k1;clear k1 HK;go_wp2_with fail;refine(uh HE _).mono ?_;rintro e' w1'⟨m,fn,rs,rfl,hn,rfl⟩;have HQ:=ai<|uh HC _ m fn rs (uh K1) hn;clear HC HE hn;go_wp2_with fail;refine(uh HQ).mono ?_;rintro e' w2⟨va,nb,vc,v,ys,rfl,hp,⟨pa,pc,cs,rfl,hr,hq⟩,k2⟩;clear HQ;have⟨p1,p2,p3⟩:=Ms.ajp hp<|uh O2;have hy:∀y∈ys,Ms.OkW (e:Int) y:=λy q=>uh O1 y<|hp.mem_iff.1 q;have hyl:ys.length<=12:=by rw[hp.length_eq];exact uh HM
 rw[uh O3]at p2;rw[uh O4]at p3;obtain⟨W,hW⟩:∃W,W=w2.alloc (Cv #[Iv 0,Iv 0,Iv 0,Sv ⟨#[]⟩,Sv ⟨#[]⟩,Lv va nb vc,Lv pa ys.length pc] 42):=⟨_,rfl⟩;have kW:Bq w2 W:=by rw[hW];exact bw _
 have BW:Bx W w2.heap.size #[Iv 0,Iv 0,Iv 0,Sv ⟨#[]⟩,Sv ⟨#[]⟩,Lv va nb vc,Lv pa ys.length pc]:=by rw[hW];exact j8 _ _ _
 have kk:=(uh K1).trans<|k2.mono (uh K1).size;have KW:=ai<|kk.trans<|kW.mono kk.size;have P1:=ai p1;have P2:=ai p2;have P3:=ai p3;have HY:=ai hy;have HHR:=ai hr;have HHQ:=ai hq;have HBW:=ai BW;have HkW:=ai kW;obtain⟨b1,b2,b3⟩:=BW;clear p1 p2 p3 hy hr hq k2 kW kk K1 O1 O2 O3 O4 hp HM
 go_upto_region 3 with fail
 rw[<-hW];clear hW
 go_wp2
 go_loopg[10,11,12,13] ys.length (λgk a b c d wr=>OpR W ys gk a b c d wr)
 case atStart=>exact⟨0,ai rfl,j3 _,rfl,rfl,rfl,rfl,ai<|Below.refl _ _⟩
 case round=>
  obtain⟨j,bE,hj,rfl,rfl,rfl,rfl,Kr⟩:=hrel;have B':=(uh HBW).below<|uh Kr;obtain⟨c1,c2,c3⟩:=B';have J_:(Ms.kd 2<|ys.take j).length<=12:=by
   have q1:=List.length_filter_le (λy:Ms.Wn=>y.k==2)<|ys.take j;have q2:(ys.take j).length<=ys.length:=by rw[List.length_take];omega
   unfold Ms.kd;omega
  clear b1 b2 b3;by_cases aZ:j<ys.length
  .have hd:(j:Int)<(ys.length:Int):=ae;obtain⟨gy,rfl,-,zg,hc⟩:=(uh HHR).resolve_left (λe=>by rw[e]at aZ;simp at aZ);have kr:=(uh HkW).trans<|(uh Kr).mono (uh HkW).size;have⟨y0,y1,y2,y3⟩:=uh HHQ j aZ;have cell:∀i,i<4->wr.cell? ⟨gy,j*4+i,none⟩=some (cs j i):=λi hi=>(World.cell?_of_block (a:=⟨gy,j*4+i,none⟩)<|kr.block gy zg).trans<|hc j aZ i hi;have d0:wr.cell? ⟨gy,j*4,none⟩=some (cs j 0):=cell 0 aA;have d1:=cell 1 aA;have d2:=cell 2 aA;have d3:=cell 3 aA;rw[y0]at d0;rw[y1]at d1;rw[y2]at d2;rw[y3]at d3;have hzy:gy<wr.heap.size:=Nat.lt_of_lt_of_le zg kr.size;have UX:=uh HY ys[j]<|jl aZ;have KA:Hid (∀o,Bq W<|wr.alloc o):=ai λo=>(uh Kr).alloc (uh Kr).size o;obtain⟨q1,q2,q3,q4⟩|⟨q1,q2,q3⟩:=UX
   .have⟨e1,e2,e3⟩:=Ms.afI (uh P1) aZ q1;rw[q1]at d0;rw[q3]at d1;rw[q4]at d2;rw[e1];have E2:=ai e2;have E3:=ai e3;generalize(ys[j]).s=s at d3 E2 q2;have hs:=adj q2;have hX:=uh HX;have hX2:=uh HX2;clear hc cell y0 y1 y2 y3 kr q1 q2 q3 q4 e1 e2 e3;generalize(Ms.kd 2<|ys.take j).length=n2 at J_ E3;have⟨n1,n2',n3⟩:=j8 wr #[Iv 1,Iv 65,Nv e,Sv s] 45
    go_wp2
    go_roundg(ys.length-(j+1))
    case measure=>rw[uh bE];omega
    case rel=>exact⟨j+1,ai rfl,ae,by rw[uh E2],by rw[uh E3],rfl,d_,ai<|uh KA _⟩
   .have⟨e1,e2⟩:=Ms.afJ aZ q1;rw[q1]at d0;rw[q2]at d3;have E1:=ai e1;have E2:=ai e2;generalize(ys[j]).f=f at d1 q3;generalize(ys[j]).t=t' at d2;clear hc cell y0 y1 y2 y3 kr q1 q2 e1 e2;generalize(Ms.kd 2<|ys.take j).length=n2 at J_ E2;generalize Ms.XH (ys.take j)=x at E1;have⟨n1,n2',n3⟩:=j8 wr #[Iv 2,Iv f,Iv t',Sv ⟨#[]⟩] 45
    go_wp2
    go_roundg(ys.length-(j+1))
    case measure=>rw[uh bE];omega
    case rel=>exact⟨j+1,ai rfl,ae,by rw[uh E1],by rw[uh E2];go_num,rfl,d_,ai<|uh KA _⟩
  .obtain rfl:j=ys.length:=ae;have hd:decide ((ys.length:Int)<(ys.length:Int))=false:=ah;rw[jk,uh P2,uh P3]at*
   go_wp2
   exact bodyPost_ret (v:=.tuple #[Sv<|Ms.Hg S,Nv<|Ms.bZ 300 [] S,.bool true]) (by simp[results,Tryz.results7,go_sem]) rfl ⟨rfl,(uh KW).trans<|(uh Kr).mono (uh KW).size⟩
structure MN(t:Ms.So)(ls:List (List UInt8))(S:List Ms.Sk):Prop where
 x:Ff t ls S
 z:(ls.map jf).sum<=31*ls.length
 h:Ms.aK S<=6*ls.length
def MN.nil(t:Ms.So):MN t [] []:=⟨.nil,ah,by simp[Ms.aK]⟩
def MN.snoc{t:Ms.So}{ls:List (List UInt8)}{S:List Ms.Sk}(h:MN t ls S){l:List UInt8}{s:Ms.Sk}(hp:FI t 3 l s):MN t (ls++[l]) (S++[s]):=by
 have h1:Ms.bO s<=6:=by have:=hp.h;cases t<;>simp only[soH]at this<;>omega
 have h2:l.length<=31:=by have:=hp.z;cases t<;>simp only[J4]at this<;>omega
 have:=h.z;have:=h.h;refine⟨h.x.snoc hp.x,?_,?_⟩
 .simp only[jm,List.sum_append,jd,jj,List.sum_cons,List.sum_nil,dr,de,eF];omega
 .rw[Ms.bU];simp only[Ms.aK,dr,de,eF];omega
structure OpA(t:Ms.So)(ls:List (List UInt8))(S:List Ms.Sk):Prop where
 x:Ff t ls S
 n:ls≠[]
 z:(cS ls).length<=400
 h:Ms.aK S<=100
 l:S.length<=9
def MN.op(h:MN t ls S)(h1:0<ls.length)(h4:ls.length<=4):OpA t ls S:=by
 have a:=sD ls;have b:=h.z;have c:=h.h;exact⟨h.x,λe=>by rw[e]at h1;simp at h1,ae,ae,by rw[<-h.x.len];omega⟩
def MN.op1(h:MN t ls S)(h4:ls.length<=4){s:Ms.Sk}(hp:nu v l s t)(hl:l.length<=145)(hs:Ms.bO s<=24):OpA t (ls++[l]) (S++[s])/\OpA t (l::ls) (s::S):=by
 have a1:=sD<|ls++[l];have a2:=sD (l::ls);have b:=h.z;have c:=h.h;have d:=h.x.len;simp only[jm,List.sum_append,jd,jj,List.sum_cons,List.sum_nil,dr,de,eF]at a1 a2;exact⟨⟨h.x.snoc hp,ah,ae,by rw[Ms.bU];simp only[Ms.aK];omega,bi⟩,⟨.cons hp h.x,ah,ae,by simp only[Ms.aK];omega,bi⟩⟩
def yj:∀{S:List Ms.Sk}{s:Ms.Sk},s∈S->Ms.bO s<=Ms.aK S
 |a::S,s,h=>by
  simp only[Ms.aK];obtain rfl|h:=List.mem_cons.1 h
  .omega
  .have:=yj h;omega
def MN.any(h:MN t ls S)(h4:ls.length<=4):OpA t (ls++[[95]]) (S++[.any])/\Ms.Hg (S++[.any])=⟨#[]⟩/\Ms.bZ 300 [] (S++[.any])=Ms.bZ 300 [] S+if Ms.Cd 300 S=none then 1 else 0:=by
 have c:=h.h;have⟨e1,e2⟩:=Ms.acb (m:=300) h.x.of ae;exact⟨(h.op1 h4 (.any t) ah<|by simp[Ms.bO]).1,by unfold Ms.Hg;rw[e1],e2⟩
def MN.dup(h:MN t ls S)(h1:0<ls.length)(h4:ls.length<=4):∃s,OpA t (ls++[ls.getD 0 []]) (S++[s])/\Ms.Hg (S++[s])=Ms.Hg S/\Ms.bZ 300 [] (S++[s])=Ms.bZ 300 [] S+1:=by
 have c:=h.h;have⟨v,s,hs,hp⟩:=h.x.at 0 h1;have hm:=yj hs;have⟨e1,e2⟩:=Ms.acd (m:=300) hs h.x.of ae;refine⟨s,(h.op1 h4 hp ?_ ae).1,by unfold Ms.Hg;rw[e1],e2⟩;have:=h.z
 cases ls with
 |nil=>simp at h1|cons l r=>simp only[jd,List.sum_cons,de]at this h4;simp;omega
def MN.Cd(h:MN t ls S)(h1:0<ls.length)(h4:ls.length<=4):(Ms.Cd 300 S=none/\Ms.Hg S=⟨#[]⟩)\/∃l s,Ms.Cd 300 S≠none/\Ms.Hg S=bs l/\l≠[]/\l.length<=145/\OpA t (ls++[l]) (S++[s])/\OpA t (l::ls) (s::S)/\Ms.bZ 300 [] (S++[s])=Ms.bZ 300 [] S/\Ms.bZ 300 [] (s::S)=Ms.bZ 300 [] S/\Ms.Hg (S++[s])≠bs l:=by
 have c:=h.h;have hof:=h.x.of;have hlen:=h.x.len
 match hw:Ms.Cd 300 S with
 |none=>exact .inl ⟨rfl,by unfold Ms.Hg;rw[hw]⟩|some f=>
  obtain⟨s,rfl,ho⟩:=Ms.Qi hof ae hw;have⟨q1,q2⟩:=Ms.uy 300 (Ms.nB S) [.any] [s] (by unfold Ms.nB;simp;omega) ⟨trivial,trivial⟩ hw;rw[Ms.kL]at q2;simp only[Ms.aK,Ms.bO]at q2;have hz:Ms.bO s<=24:=ae;have tl:∀{s:Ms.Sk},s.of t->(Ms.tx s).length<=6*Ms.bO s+1:=λ{s}ho=>by have:=Ms.Fm _ s t (br _) ho;rw[Ms.iy]at this;omega
  have hp:=Ms.Ae _ s t (br _) ho q1.1;have hl:=tl ho;have⟨e1,e2,e3,e4⟩:=Ms.ace (m:=300) hof hw ae;have⟨o1,o2⟩:=h.op1 h4 hp ae hz;refine .inr ⟨Ms.tx s,s,ah,by unfold Ms.Hg;rw[hw],Ms.Si ho,ae,o1,o2,e2,Ms.W7 (m:=300) e1 e4 hof ae,λq=>?_⟩;have gC:Ms.aK (S++[s])<=48:=by rw[Ms.bU];simp only[Ms.aK];omega
  match Qp:Ms.Cd 300 (S++[s])with
  |none=>
   unfold Ms.Hg at q;rw[Qp]at q;have:=congrArg ByteArray.size q;rw[bS]at this;exact Ms.Si ho<|ja this.symm
  |some f=>
   obtain⟨s',rfl,W4⟩:=Ms.Qi o1.x.of ae Qp;have⟨q1',q2'⟩:=Ms.uy 300 (Ms.nB<|S++[s]) [.any] [s'] (by unfold Ms.nB;simp;omega) ⟨trivial,trivial⟩ Qp;rw[Ms.kL]at q2';simp only[Ms.aK,Ms.bO]at q2';have lG:=Ms.Ae _ s' t (br _) W4 q1'.1;unfold Ms.Hg at q;rw[Qp]at q;have q:Ms.tx s'=Ms.tx s:=by simpa[bs]using q
   rw[q]at lG;have:=lG.one hp ae;rw[hw,Qp,this]at e3;exact e3 rfl
end
section
open Go.RowKit Go.ChangeMaps Un
def ClL(W:World)(xb:Nat)(p:Option Addr)(len cap:Nat)(r:Nat->Int)(t:Ms.So)(gk:Nat)(a c:Value)(wr:World):=
 ∃ls S A,Hid (gk=4-ls.length)/\ls.length<=4/\c=Nv ls.length/\Hid (MN t ls S)/\Hid (pP wr W.heap.size a<|pQ ls)/\Hid (Src wr xb p len cap r A)/\Hid (Ke xb W wr)
def CuL(w0:World)(g g2:Nat)(ls:List (List UInt8))(l:List UInt8)(gk:Nat)(c:Value)(wr:World):=
 ∃j ms,Hid (gk=ls.length-j)/\j<=ls.length/\c=Nv j/\ms.length=ls.length+1/\Hid (ms.take (j+1)=l::ls.take j)/\Hid (Bn w0 wr g g2 ls ms)
def OpC(w0:World)(g g2:Nat)(ls ms:List (List UInt8))(S:List Ms.Sk)(e:Ending)(w':World):Prop:=e=.returned (.tuple #[.string<|Ms.Hg S,Nv<|Ms.bZ 300 [] S,.bool true])/\Bn w0 w' g g2 ls ms
def afL{w0:World}{g g2 c2:Nat}{ms:List (List UInt8)}(hL:Laid w0)(h0: -9223372036854775808<=n)(h1:n<=9223372036854775807)(hT:Bn w0 w g g2 ls ms)(hx:OpA t ms S):Cq 7 #[.slice (some ⟨g2,0,none⟩) ms.length c2,Iv n] w (OpC w0 g g2 ls ms S):=
 (UM (hL.af hT.k) h0 h1 hx.x hx.n hx.z hx.h hx.l hT.m.c hT.m.z).mono λ_ _⟨e,k⟩=>⟨e,hT.low k⟩
def Qj(hL:Laid w)(so n:Int)(s0: -9223372036854775808<=so)(s1:so<=9223372036854775807)(h0: -9223372036854775808<=n)(h1:n<=9223372036854775807){p:Option Addr}{len cap:Nat}{r:Nat->Int}(hlen:(len:Int)<=9223372036854775807)(hR:Raw w p len r):
 Cq 3 #[.slice p len cap,Iv so,Iv n] w λe w'=>e=.returned (.bool true)/\Bq w w':=by
 obtain⟨W,hW⟩:∃W,W=w.alloc (Cv #[Lv p len cap,Iv 0] 25):=⟨_,rfl⟩;have K:Bq w W:=by rw[hW];exact bw _
 have zW:W.heap.size=w.heap.size+1:=by rw[hW];simp
 have S0:Src W w.heap.size p len cap r 0:=by
  refine⟨by rw[hW];exact j8 w _ _,j3 _,hlen,λi hi=>?_,λi hi=>(hR i hi).2⟩;have⟨g,o,e,hg,hc⟩:=(hR i hi).1;exact⟨g,o,e,ae,ae,(World.cell?_of_block (a:=⟨g,o+i,none⟩) (w:=w)<|K.block g hg).trans hc⟩
 have HP:=ai<|P8 (w:=W) so 5 s0 s1 aA aA;have HT:Hid (∀(w1:World)(g g2 c2:Nat)(ls ms:List (List UInt8))(S:List Ms.Sk)(t:Ms.So),Bn w w1 g g2 ls ms->OpA t ms S->Cq 7 #[Lv (some ⟨g2,0,none⟩) ms.length c2,Iv n] w1 (OpC w g g2 ls ms S)):=ai<|λ_ _ _ _ _ _ _ _ a b=>afL hL h0 h1 a b;have HO:Hid (∀(w1:World)(g c:Nat)(ls:List (List UInt8))(S:List Ms.Sk)(t:Ms.So),Bq w w1->TxW w1 g ls->OpA t ls S->Cq 7 #[Lv (some ⟨g,0,none⟩) ls.length c,Iv n] w1 λe w'=>e=Rv (.tuple #[Sv<|Ms.Hg S,Nv<|Ms.bZ 300 [] S,.bool true])/\Bq w1 w'):=ai<|λ_ _ _ _ _ _ k a b=>UM (hL.af k) h0 h1 b.x b.n b.z b.h b.l a.c a.z;have HS0:=ai S0;have HK:=ai K;clear hL h0 h1 s0 s1 hlen hR S0 K;go_enter func3,ntmps3
 go_upto_region 2 with fail
 rw[<-hW];clear hW;go_wp2_with fail;refine(uh HP).mono ?_;rintro e w1⟨q,rfl,q0,q1,rfl⟩;obtain⟨t,rfl⟩:∃t,q=soN t:=by
  obtain rfl|rfl|rfl|rfl|rfl:q=0\/q=1\/q=2\/q=3\/q=4:=ae
  .exact⟨.i,rfl⟩
  .exact⟨.b,rfl⟩
  .exact⟨.l,rfl⟩
  .exact⟨.p,rfl⟩
  .exact⟨.s,rfl⟩
 clear q0 q1 HP
 go_wp2
 go_loopg[9,10] 4 (λgk a c wr=>ClL w1 w.heap.size p len cap r t gk a c wr)
 case atStart=>exact⟨[],[],0,ai rfl,ah,rfl,ai<|.nil t,ai<|World.ownsRow_nil _ _ _ _,uh HS0,ai<|Ke.refl _ _⟩
 case round=>
  obtain⟨ls,S,A,bE,h4,rfl,HA,HW,HS,HKr⟩:=hrel;have HN:=ai<|yp (uh HS) 4 ae ae;go_wp2_with fail;refine(uh HN).mono ?_;rintro e w2⟨q,rfl,q0,q1,A2,MZ,k2⟩;have tJ:u9.ownBlock≠some w.heap.size:=λe=>by have:=yv (uh HW) _ e;omega
  have Tw:=ai<|GD (uh HW) k2 tJ;have Fx:=ai<|(uh HKr).trans k2;clear HN HW HS HKr k2;by_cases hq:(ls.length:Int)<=q
  .have hq3:ls.length<4:=ae;have HPt:=ai<|aic 3 (br _) t w2 A2 MZ;clear MZ;go_wp2_with fail;refine(uh HPt).mono ?_;rintro e w3⟨l,s,rfl,hm,A3,X9,k3⟩;have HK3:=(uh Fx).trans k3;have HO3:=GD (uh Tw) k3 tJ;have z3:=HK3.size;go_wp2_with(at_builtin;refine PK rfl (.tmp 43) (.tmp 45) rfl rfl (HO3.alr _) rfl (pP.new w3 [Sv<|bs l] 0 (j3 _) ah 1 rfl) qAn (by simp[pQ];omega) bi ?_;intro v4 w4 o4 g4);have hr4:=yv HO3;have k4:=(HK3.alloc<|Cv #[Sv<|bs l] 9).grow g4 hr4;have s4:=(uh HS0).ke k4 ((X9.b.alloc<|Cv #[Sv<|bs l] 9).grow g4<|λk e=>qBt) X9.a;go_roundg(4-(ls.length+1))
   case measure=>rw[uh bE];omega
   case rel=>exact⟨ls++[l],S++[s],A3,ai ah,bi,ah,ai<|(uh HA).snoc hm,ai<|XC ls l▸o4,ai s4,ai k4⟩
  .have hq':decide ((ls.length:Int)<=q)=false:=by simpa using hq
   have h1:0<ls.length:=ae;obtain⟨g,cp,rfl,hg,hcp,HX⟩:=UI (uh Tw) h1;have K2:=(uh Fx).low (uh HK) ae<|br _;have⟨oA,eA1,eA2⟩:=(uh HA).any h4;have⟨s0,oD,eD1,eD2⟩:=(uh HA).dup h1 h4;have HWt:=ai<|(uh HA).Cd h1 h4;have hsh:Ms.bZ 300 [] S<=4:=by have:=Ms.Mf 300 S [];rw[<-(uh HA).x.len]at this;omega
   have HC1:=ai<|uh HO w2 g cp ls S t K2 HX<|(uh HA).op h1 h4;have hzg:=HX.z;clear hq bE HS0 MZ HO HA;go_wp2_with fail;refine(uh HC1).mono ?_;rintro e w3⟨rfl,k3⟩;have X3:=GD (uh Tw) (Ke.of k3) tJ;have HX3:=ai<|HX.low k3;have K3:=K2.trans<|k3.mono K2.size;have z3:=k3.size;have O1:=World.ownsRow_nil w3 w3.heap.size 9 1;have e5:pQ ls++[Sv ⟨#[95]⟩]=pQ (ls++[[95]]):=by simp[pQ,bs]
   clear HC1 Tw Fx HX tJ K2
   go_wp2_with(first
    |(at_builtin;refine PK rfl (.tmp 54) (.tmp 55) rfl rfl O1 rfl X3 (adb ls) (by simp[pQ];omega) (br _) ?_;intro v4 w4 o4 g4;have b4:Bq w3 w4:=DT (Below.refl _ _) g4 (br _)<|yv O1;have O4:=ai o4;have B4:=ai b4;have z4:=b4.size;clear o4 b4 g4 O1 X3)
    |(at_builtin;refine PK rfl (.tmp 57) (.tmp 58) rfl rfl ((uh O4).alr _) rfl (pP.new w4 [Sv ⟨#[95]⟩] 0 (j3 _) ah 1 rfl) qAn (by simp[pQ];omega) bi ?_;intro v5 w5 o5 g5;have b5:Bq w3 w5:=DT ((uh B4).alloc z4 _) g5 bi<|yv<|uh O4;rw[jh,e5]at o5;obtain⟨g2,c2,rfl,JM,hc2,HM⟩:=UI o5 ah;have T5:=ai (⟨(uh HX3).low b5,HM,ae,K3.trans<|b5.mono K3.size,by have:=K3.size;omega⟩:Bn w w5 g g2 ls (ls++[[95]]));clear o5 b5 g5 O4 B4 HM HX3))
   have hC2:=uh HT w5 g g2 c2 ls _ _ t (uh T5) oA;unfold OpC at hC2;rw[eA1,eA2]at hC2;simp only[dr,de,eF,j5]at hC2 hc2⊢;refine hC2.mono ?_;rintro e w6⟨rfl,T6⟩;have hi:((ls.length+1:Nat):Int)-1=(ls.length:Int):=ae;have a0:w6.cell? ⟨g,0,none⟩=some (Sv<|bs<|ls.getD 0 []):=T6.a.c 0 h1;have a1:=T6.m.c ls.length ah;have a2:=T6.m.f ls.length;have a3:=T6.m.z;have e7:(ls++[[95]]).set ls.length (ls.getD 0 [])=ls++[ls.getD 0 []]:=ah;have T7:=T6.put (o:=ls.length) ah<|ls.getD 0 [];rw[e7]at T7;have hC3:=uh HT _ g g2 c2 ls _ _ t T7 oD;unfold OpC at hC3;rw[eD1,eD2]at hC3;simp only[dr,de,eF,j5]at hC3;clear hC2 T5 oA oD T7 T6 e7 eA1 eA2 eD1 eD2 K3;generalize Ms.bZ 300 [] S=sh at*;generalize ls.getD 0 []=l0 at*;obtain⟨hw,ew⟩|⟨l,s,hw,ew,BS,hlz,oL,oF,sL,sF,cJ⟩:=uh HWt
   .rw[if_pos hw,ew];rw[ew]at hC3;have HC3:=ai hC3;clear HWt hw ew HT hC3;have he:(((sh+1:Nat):Int)==(sh:Int)+1)=true:=ah;go_wp2_with fail;refine(uh HC3).mono ?_;rintro e w8⟨rfl,T8⟩
    go_wp2
    go_ret;exact⟨rfl,T8.k⟩
   .rw[if_neg hw,ew];rw[ew]at hC3;have HC3:=ai hC3;clear HWt hw hC3 ew;have hl1:=adj (x:=bs l) (λq=>BS (by have:=congrArg ByteArray.size q;rw[bS]at this;exact ja this));have he:((sh:Int)==(sh:Int)+1)=false:=bi;have he2:(((sh+1:Nat):Int)==(sh:Int)+1)=true:=ah;have anO:((bs l).toList==(bs l).toList)=true:=ah;go_wp2_with fail;refine(uh HC3).mono ?_;rintro e w8⟨rfl,T8⟩;have b0:=T8.a.c (ls.length-1) ae;have b1:=T8.m.c ls.length ah;have b2:=T8.m.f ls.length;have b3:=T8.m.z;have T9:=T8.put (o:=ls.length) ah l;rw[show(ls++[l0]).set ls.length l=ls++[l] by simp]at T9;have hC4:=uh HT _ g g2 c2 ls _ _ t T9 oL;unfold OpC at hC4;rw[sL]at hC4;simp only[dr,de,eF,j5]at hC4;have HC4:=ai hC4;clear hC4 T9 T8 oL sL HC3 a0 a1 a2 a3;go_wp2_with fail;refine(uh HC4).mono ?_;rintro e w10⟨rfl,T10⟩;obtain⟨x,hx⟩:∃x,x=Ms.Hg (S++[s]):=⟨_,rfl⟩;rw[<-hx]at cJ⊢;have aoo:(x.toList==(bs l).toList)=false:=by
     cases e:x.toList==(bs l).toList with
     |false=>rfl|true=>exact absurd (iD<|by simpa using e) cJ
    have hj:(ls.length:Int)-1=((ls.length-1:Nat):Int):=ae;have d0:w10.cell? ⟨g,ls.length-1,none⟩=some (Sv<|bs<|ls.getD (ls.length-1) []):=T10.a.c _ ae;have d1:=T10.m.c ls.length ah;have d2:=T10.m.f ls.length;have d3:=T10.m.z;have T11:=T10.put (o:=ls.length) ah<|ls.getD (ls.length-1) [];have T12:=ai<|T11.put (o:=0) ah l;have x1:=T11.m.c 0 ah;have x2:=T11.m.f 0;have x3:=T11.m.z;have OF:=ai oF;have SF:=ai sF;clear T10 T11 HC4 hx cJ oF sF hlz BS b0 b1 b2 b3;generalize ls.getD (ls.length-1) []=l9 at*
    go_upto_region 26 with fail
    generalize(w10.setCell ⟨g2,ls.length,none⟩<|Sv<|bs l9).setCell ⟨g2,0,none⟩ (Sv<|bs l)=W2 at*;clear d0 d1 d2 d3 x1 x2 x3 hj
    go_wp2
    go_loopg[25] ls.length (λgk c wr=>CuL w g g2 ls l gk c wr)
    case atStart=>exact⟨0,_,ai rfl,j3 _,rfl,ah,ai (by cases ls<;>simp at h1⊢),T12⟩
    case round=>
     obtain⟨j,ms,aho,hj2,rfl,hml,HT2,IL⟩:=hrel;by_cases aZ:j<ls.length
     .have hd:(j:Int)<(ls.length:Int):=ae;have r0:wr.cell? ⟨g,j,none⟩=some (Sv<|bs<|ls.getD j []):=(uh IL).a.c j aZ;have r1:=(uh IL).m.c (j+1) ae;have r2:=(uh IL).m.f<|j+1;have r3:=(uh IL).m.z;have R4:=ai<|(uh IL).put (o:=j+1) ae<|ls.getD j [];have ht:(ms.set (j+1)<|ls.getD j []).take (j+2)=l::ls.take (j+1):=by
       rw[jc (by rw[List.length_set];omega),List.take_set_of_le<|br _,uh HT2,jc aZ];simp[ji,aZ]
      have HT3:=ai ht;clear ht HT2 IL;generalize ls.getD j []=lj at*
      go_wp2
      go_roundg(ls.length-(j+1))
      case measure=>rw[uh aho];omega
      case rel=>exact⟨j+1,_,ai rfl,ae,d_,by simp[hml],HT3,R4⟩
     .obtain rfl:j=ls.length:=ae;have hd:decide ((ls.length:Int)<(ls.length:Int))=false:=ah;obtain rfl:ms=l::ls:=by have q:=uh HT2;rw[List.take_of_length_le ae,jk]at q;exact q
      have hC5:=uh HT wr g g2 c2 ls _ _ t (uh IL)<|uh OF;unfold OpC at hC5;rw[uh SF]at hC5;simp only[de]at hC5;have HC5:=ai hC5;clear hC5 IL HT2 OF SF;go_wp2_with fail;refine(uh HC5).mono ?_;rintro e w14⟨rfl,T14⟩
      go_wp2
      go_ret;exact⟨rfl,T14.k⟩
end
section
open Go.ChangeShapes Go.WideShapes Go.ChangeAt Go.WideMaps Go.WideElems Go.RowKit Go.ChangeMaps
def Cp(os:Os)(started:os.Started)(H:Type)(enc:TypeId×Value->H):
 ReturnsInHanded {} jt os 3 .any (λw args=>(Rows.closedSpec.pre enc jo jq [] false w args/\laidMetH jo Rows.closedRow.laid w)/\sizedMet enc jo jq (OpenSpec.ofChange Rows.closedSpec) false w args)
  (Rows.closedSpec.post enc jo jq false true false false):=by
 refine returnsInHanded_of_change_and (C:=jt) (X:=λw _=>laidMetH jo Rows.closedRow.laid w) (λ_ _ _ hh h=>h.of_heap hh) own started qkr ju
  (ChangeSpec.witness_shaped (enc:=enc) (C:=jt) (os:=os) (X:=λw _=>laidMetH jo Rows.closedRow.laid w) false (World.doorLaid jo 72 os) #[.slice none 0 0,Iv 0,Iv 0] 8 rfl (World.shaped_of_RefB qkr qkr) qkr qkr qkr (acW os _)) ?_
 intro W base args ds gs before agG hW _ _ hL _;have afM:∀(j:Nat)t v,Tryz.f3.params[j]? =some t->args[j]? =some v->Value.okWide jo W .any base t v:=agG;have hW':=hW;obtain⟨p,q,hA0,hV,rfl,hfz,yS⟩:=hW;have hA:DataW.TrodAll enc jo W 0 (λ_=>true) true Tryz.f3.params.toList args.toList ds p:=hA0;rw[Tryz.params3]at hA afM;obtain⟨v1,v2,v3,d1,d2,d3,p1,p2,p3,rfl,rfl,rfl,h1,h2,h3⟩:=trodAll_three hA;obtain⟨rfl,rfl⟩:=trodVars_none hV;obtain⟨a1,len,cap,rfl⟩:=okWide_slice Bi<|afM 0 22 v1 rfl rfl;obtain⟨n,rfl,rfl,rfl,hw⟩:=open_int Tryz.underlying3 (afM 1 3 v2 rfl rfl) h2;obtain⟨n',rfl,rfl,rfl,rC⟩:=open_int Tryz.underlying3 (afM 2 3 v3 rfl rfl) h3;have h1k:=h1;obtain⟨fuel,hf⟩:=h1;clear hA0 agG;simp only[List.append_nil,jh]at hW';have aZ:∀x∈p1,x.block<W.heap.size:=λx hx=>by simpa using hW'.lt x hx
 have al5:∀(W':World),Bq W W'->DataW.Trod enc jo W' 0 (λb=>decide (b<W.heap.size)) true 22 (.slice a1 len cap) d1 p1:=
  λW' hn=>Below.trod laidOut qkr (of_decide_eq_true qkr) h1k hn aZ
 have hn: -9223372036854775808<=n/\n<=9223372036854775807:=by have hw':=hw;simp only[Lit.wf,Bool.and_eq_true,decide_eq_true_eq]at hw';exact hw'
 have H8: -9223372036854775808<=n'/\n'<=9223372036854775807:=by have hw':=rC;simp only[Lit.wf,Bool.and_eq_true,decide_eq_true_eq]at hw';exact hw'
 obtain⟨hlen,r,hS⟩:=acX (by simpa[Value.cells]using hf);refine(Qj (afy hL) n n' hn.1 hn.2 H8.1 H8.2 (cap:=cap) hlen hS).mono λe W'⟨he,hb⟩=>?_;subst he;exact⟨_,rfl,_,_,_,[],_,[],hW',trodAll_mk1<|shut_bool Tryz.underlying4 _,trodAll_mk3 (al5 _ hb) (shut_int Tryz.underlying3 hw)<|shut_int Tryz.underlying3 rC,rfl,hb.frame _,λh=>Dq⟩
end
section
open Go.ChangeShapes Go.WideShapes Go.ChangeAt Go.WideMaps Go.WideElems Go.RowKit
def closed_named:Tryz.prog.funcNamed "assay/assaykeep.Closed" =some 3:=qkr
def Mh:Tryz.f3.isInstance jo Rows.closedRow.origin Rows.closedRow.targs:=of_decide_eq_true qkr
def Mi:Tryz.f3.isWrapper jo Rows.closedRow.wrapper Rows.closedRow.mainSum:=by
 rw[Func.isWrapper];first|(rw[if_pos<|by decide+kernel];kernel_rfl)|(rw[if_neg<|by decide+kernel];exact⟨rfl,rfl⟩)
def closed_row:Rows.ClosedSaid:=
 OpenClaim.holds_of_wide 3 jq rfl rfl rfl rfl rfl rfl rfl ⟨rfl,rfl,rfl,rfl,rfl⟩ rfl rfl rfl rfl rfl closed_named ju Cc Mh Mi
  (λos started H enc _=>Cp os started H enc)
#print axioms closed_row
end
def Cr:([22,3,3].all λu=> !Tryz.prog.wantsStandIn u)=true:=qkr
theorem closed_holds:Rows.ClosedCardSaid:=
 Claim7.holds_tied_plain_at .later [] [.data,.data,.data,.sentinel,.sentinel,.data,.data] true Rows.closedCard.stood.harness true
  closed_row (λ_ h=>Dq) PV (λ_ h=>Dq) closed_row_tie rfl ⟨rfl,rfl⟩ VX rfl
  (λf fn hf hfn=>by
   obtain rfl:f=3:=(Option.some.inj<|closed_named.symm.trans hf).symm;obtain rfl:fn=jq:=(Option.some.inj<|Tryz.func3.symm.trans hfn).symm
   exact⟨Oz,λj t ht=>by
    rw[Tryz.params3]at ht;have hm:t∈[22,3,3]:=by simpa using Array.mem_of_getElem? ht
    exact(show Tryz.prog.wantsStandIn t=false by simpa using List.all_eq_true.1 Cr t hm)⟩)
  Li
#print axioms closed_holds
end Go.Proofs.YtopmodaakdnliaaGreatDoor

import Derived.Test.YtopmodaakdnliaaGreatDoorCBo
import Derived.Test.YtopmodaakdnliaaGreatDoorCOi
set_option linter.all false
set_option maxRecDepth 100000
set_option maxHeartbeats 4000000
namespace Go.Proofs.YtopmodaakdnliaaGreatDoor
open Or renaming inl->ja,inr->jc
open In renaming St->jd,Rn->jf,via->jh,My->ji,rJ->jj
open And renaming intro->jk
open _root_.Nat renaming le_of_eq->jl,le_trans->jm,not_lt_zero->jo,le_succ->jq
open _root_.List renaming take_succ_eq_append_getElem->jt,map_append->ju
open Un renaming dZ->jv
open Go.MapKept renaming heap_alloc->jx
open Go Go.RowKit Go.ChangeMaps Go.MapKept Un Proofs.Tryz
variable {g g1:fU} {ρ lH:jf} {s s1:jd} {B B' Kb b aw jb kb l m mb n nb:Nat} {T t:Un.Ty} {v:Value} {w w':World}
structure JC where
 (eb cb rb mb lo gL:Nat)
 mks:In.Mks
 nl:List BA
abbrev VC(c:JC)nb l:=#[.func (.func 86) #[] #[Pv c.cb],Mv c.rb,Mv c.mb,Mv nb,Nv l]
structure JE w c nb l cnt:Prop where
 bx:Bx w c.eb (VC c nb l)
 ct:Bx w c.cb #[Nv cnt]
 rs:I_ w c.rb
 ms:mH w (λi=>i≠c.cb/\i<c.gL) c.mb c.mks
 z:c.lo<=c.eb/\c.lo<=c.cb/\c.gL<=w.heap.size
section
variable {c:JC} {cnt:Nat}
def GL.pY{ds}{str}{nx}{vr}{ly}{lv}(h:GL w ds str nx vr ly lv)(hn:n∈ds):∃p,w.cell? ⟨n,0,none⟩=some (.pointer p):=by
 have:=(h.nd n hn).cells.1
 cases e:nx n with
 |none=>rw[e]at this;exact⟨none,this⟩|some m=>rw[e]at this;exact⟨_,this⟩
def JE.CW(h:JE w c nb l cnt)(j:JS w g s):¬c.eb∈g.ds:=λq=>by
 have⟨p,hp⟩:=j.gl.pY q;have:=h.bx.c 0;rw[hp]at this;simp at this
def JE.CX(h:JE w c nb l cnt)(j:JS w g s):¬c.cb∈g.ds:=λq=>by
 have⟨p,hp⟩:=j.gl.pY q;have:=h.ct.c 0;rw[hp]at this;simp at this
def JE.ne(h:JE w c nb l cnt):c.eb≠c.cb/\c.rb≠c.cb/\c.rb≠c.eb/\c.mb≠c.cb/\c.mb≠c.eb:=by
 have⟨L,m1,_⟩:=h.rs;have⟨L',m2,_⟩:=h.ms;have a:=h.bx.c 0;have b:=h.ct.c 0;refine⟨λe=>?_,λe=>?_,λe=>?_,λe=>?_,λe=>?_⟩
 .grind
 .rw[<-e,m1.bF 0]at b;simp at b
 .rw[<-e,m1.bF 0]at a;simp at a
 .rw[<-e,m2.bF 0]at b;simp at b
 .rw[<-e,m2.bF 0]at a;simp at a
def JE.mI(h:JE w c nb l cnt)(j:JS w g s):¬c.rb∈g.ds/\¬c.mb∈g.ds:=by
 have⟨L,m1,_⟩:=h.rs;have⟨L',m2,_⟩:=h.ms;refine⟨λq=>?_,λq=>?_⟩
 .have⟨p,hp⟩:=j.gl.pY q;rw[m1.bF 0]at hp
  cases hp
 .have⟨p,hp⟩:=j.gl.pY q;rw[m2.bF 0]at hp
  cases hp
def eN.VD{P S:Nat->Prop}(h:eN w P t v)(hS:∀b,S b->∀a y,w.cell? ⟨b,0,none⟩≠some (.iface a y)):eN w (λi=>P i/\¬S i) t v:=by
 induction h with
 |var n=>exact .var n|aM c L sa sc vs hc aE hr ih=>
  refine .aM c L sa sc vs hc ?_ ih;obtain h0|⟨g,h1,h2,h3,h4⟩:=aE
  .exact ja h0
  .by_cases h0:L=[]
   .exact ja h0
   .refine jc ⟨g,h1,⟨h2,λe=>?_⟩,h3,h4⟩;have hl:=List.length_pos_iff.2 h0;have⟨a,y,r⟩:=(hr 0 hl).iface;exact hS g e a y (by rw[h4 0 hl,r])
def mH.VD{P S:Nat->Prop}{mb}{mk}(h:mH w P mb mk)(hS:∀b,S b->∀a y,w.cell? ⟨b,0,none⟩≠some (.iface a y)):mH w (λi=>P i/\¬S i) mb mk:=by
 obtain⟨L,h1,h2,h3⟩:=h;refine⟨L,h1,h2,λk v hk=>?_⟩;obtain⟨tk,m,e,sa,sc,ta,xa,rfl,q1,q2⟩:=h3 k v hk;refine⟨tk,m,e,sa,sc,ta,xa,rfl,?_,q2.VD hS⟩;obtain q1|⟨g,vs,q3,q4,q5,q6⟩:=q1
 .exact ja q1
 .by_cases h0:tk=[]
  .exact ja h0
  .have hl:=List.length_pos_iff.2 h0;refine jc ⟨g,vs,q3,⟨q4,λe=>?_⟩,q5,λi hi=>⟨(q6 i hi).1,(q6 i hi).2.VD hS⟩⟩;have⟨q7,q8⟩:=q6 0 hl;have⟨a,y,r⟩:=q8.iface;exact hS g e a y (by rw[q7,r])
abbrev jS(c:JC)(g:fU)b:=b=c.cb\/b=c.eb\/b∈g.ds
def JE.fr(h:JE w c nb l cnt)(j:JS w g s)(hf:Fr (jS c g) w w'){Vp l' aC}(he:Bx w' c.eb (VC c Vp l'))(hc:Bx w' c.cb #[Nv aC]):JE w' c Vp l' aC:=by
 have⟨n1,n2,n3,n4,n5⟩:=h.ne;have⟨n6,n7⟩:=h.mI j;refine⟨he,hc,h.rs.same<|hf.block _ h.rs.lt<|λq=>q.elim n2<|λq=>q.elim n3 n6,?_,⟨h.z.1,h.z.2.1,jm h.z.2.2 hf.size⟩⟩;refine(h.ms.VD (S:=jS c g) ?_).move hf.size (hf.block _ h.ms.lt<|λq=>q.elim n4<|λq=>q.elim n5 n7) (λb p z=>hf.block b z p.2) (λb p _=>p.1);rintro b(rfl|rfl|q)a y e
 .have:=h.ct.c 0;rw[e]at this;simp at this
 .have:=h.bx.c 0;rw[e]at this;simp at this
 .have⟨p,hp⟩:=j.gl.pY q;rw[e]at hp
  cases hp
def JE.af(h:JE w c nb l cnt)(hb:Bq w w'):JE w' c nb l cnt:=⟨h.bx.below hb,h.ct.below hb,h.rs.same<|hb.block _ h.rs.lt,h.ms.move hb.size (hb.block _ h.ms.lt) (λb _ z=>hb.block b z)<|λ_ p _=>p,⟨h.z.1,h.z.2.1,jm h.z.2.2 hb.size⟩⟩
def I' v l:Cq 362 #[Iv v,Iv l] w λe w'=>e=.returned (nA w.heap.size)/\w'=w.alloc (.cells #[.pointer none,Iv l,Iv v,.string ⟨#[]⟩,.slice none 0 0] 486):=by
 go_enter func362,ntmps362
 go_wp2
 go_ret;exact⟨rfl,rfl⟩
def EI b l a n k:Cq 352 #[.string b,Iv l,.slice a n k] w λe w'=>e=.returned (nA w.heap.size)/\w'=w.alloc (.cells #[.pointer none,Iv l,Iv 0,.string b,.slice a n k] 486):=by
 go_enter func352,ntmps352
 go_wp2
 go_ret;exact⟨rfl,rfl⟩
end
section
variable {c:JC} {cnt:Nat}
def nU(h:JE w c nb l cnt)(j:JS w g s)(hu:∀n,s.u n->us cnt n)(hc:cnt<=1000000):Cq 348 #[Pv c.eb] w (λe w'=>∃n,e=.returned (nA n)/\w.heap.size<=n/\JE w' c nb l (cnt+1)/\JS w' (g.add n none (cnt+1) (none,0) l<|.var<|cnt+1) ⟨s.k,λm=>s.u m\/m=cnt+1⟩/\Fr (λb=>b=c.cb) w w'):=by
 have f0:=h.bx.c 0;have f1:=h.bx.c 4;have⟨n1,_,_,_,_⟩:=h.ne;have fh:=h.CX j;have zc:=h.ct.z;have HE:=ai h;have HFR:∀W:World,W=w.drew->Cq 86 #[Pv c.cb] W λe w'=>e=Rv (Iv<|(cnt:Int)+1)/\∃_:JE w' c nb l (cnt+1),Fr (λb=>b=c.cb) w w'/\JS w' g s/\w'.heap.size=w.heap.size:=λW hW=>by
  subst hW;refine(rT cnt hc<|h.ct.nE).mono ?_;rintro e w'⟨rfl,rfl⟩;have F:Fr (λb=>b=c.cb) w (w.drew.setCell ⟨c.cb,0,none⟩<|Iv<|(cnt:Int)+1):=(Fr.of (S:=λb=>b=c.cb) (Below.refl _ w).drew).set (b:=c.cb) (ja rfl) 0 _;have B:Bx (w.drew.setCell ⟨c.cb,0,none⟩<|Iv<|(cnt:Int)+1) c.cb #[.int .i64 ((cnt+1:Nat):Int)]:=h.ct.nE.aP 0 _ _ rfl ah;have hF:Fr (jS c g) w (w.drew.setCell ⟨c.cb,0,none⟩<|Iv<|(cnt:Int)+1):=F.gL λb q=>ja q;have hG:GL (w.drew.setCell ⟨c.cb,0,none⟩<|Iv<|(cnt:Int)+1) g.ds g.str g.nx g.vr g.ly g.lv:=by
   refine j.gl.one (b:=c.cb) ⟨rfl,rfl,rfl,yG,λi hi=>Below.heap_setCell _ _ _ _ hi⟩ fh<|λm hm c' l' gg hs hl hg e=>?_;have⟨ga,q1,q2,_⟩:=j.gl.row hm hs<|List.length_pos_iff.2 hl;rw[hg]at q1;injection q1 with q1;injection q1 with q1;subst q1;have:=h.ct.c 0;rw[<-e,q2]at this;simp at this
  exact⟨rfl,h.fr j hF (h.bx.fr F n1) B,F,⟨hG,j.mA,j.inj,j.can,j.lc,j.val,j.use,j.ok⟩,yG⟩
 go_enter func348,ntmps348
 go_wp2
 go_region_held3(λw'=>w'.cell? ⟨c.eb,0,none⟩=some (.func (.func 86) #[] #[Pv c.cb])/\w'.cell? ⟨c.eb,4,none⟩=some (Nv l)) (first|go_keep|(simp[*])) (first
  |(go_at_call 86;go_loud(refine(HFR _ rfl).mono ?_);rintro e w2⟨rfl,e2,F2,j2,z2⟩;have s0:w2.cell? ⟨c.eb,0,none⟩=some (.func (.func 86) #[] #[Pv c.cb]):=e2.bx.c 0;have s1:w2.cell? ⟨c.eb,4,none⟩=some (Nv l):=e2.bx.c 4;have E2:=ai e2;have VE:=ai F2;have J2:=ai j2;have Z2:=ai z2;clear e2 F2 j2 z2)
  |(go_at_call 362;go_loud(refine(I' _ _).mono ?_);rintro e w3⟨rfl,rC⟩;have k3:Bq w2 w3:=(by rw[rC];exact bw _);have B3:w3.heap[w2.heap.size]? =some (Cv #[.pointer none,Nv l,Iv<|(cnt:Int)+1,Sv ⟨#[]⟩,Lv none 0 0] 486 (0,0)):=(by rw[rC];exact(jx w2 _).1);have s2:w3.cell? ⟨c.eb,0,none⟩=some (.func (.func 86) #[] #[Pv c.cb]):=(E2.af k3).bx.c 0;have s3:w3.cell? ⟨c.eb,4,none⟩=some (Nv l):=(E2.af k3).bx.c 4;have K3:=ai k3;have B3':=ai B3;clear rC k3 B3))
 go_wp2
 go_ret;have k3:=uh K3;have hv:¬s.u (cnt+1):=λq=>by have:=hu _ q;rw[us]at this;omega
 exact⟨w2.heap.size,rfl,by rw[uh Z2];exact br _,(uh E2).af k3,(uh J2).var k3 (br _) hv<|by simpa using uh B3',(uh VE).trans<|Fr.of k3⟩
def Ja{fn}{cn}(hk:fn=357/\cn=pH\/fn=355/\cn=o6)(h:JE w c nb l cnt)(j:JS w g s){a}(ha:a∈g.ds/\∀x,Hd g.nx a x->g.lv x<=l)(hb:b∈g.ds/\∀x,Hd g.nx b x->g.lv x<=l):Cq fn #[Pv c.eb,nA a,nA b] w (λe w'=>∃n ar,e=.returned (nA n)/\w.heap.size<=n/\JE w' c nb l cnt/\JS w' (g.add n (some (cn,[a,b])) 0 ar l<|.aM cn [g.V a,g.V b]) s/\Bq w w'):=by
 have CB:CN cn:=by obtain⟨-,rfl⟩|⟨-,rfl⟩:=hk;exact ja rfl;exact jc<|ja rfl
 have f1:w.cell? ⟨c.eb,4,none⟩=some (Nv l):=h.bx.c 4;have⟨k0,B0⟩:=nbh w #[nA a,nA b] 476;have HM:=EI (w:=w.alloc<|Cv #[nA a,nA b] 476) (pn cn) (l:Int) (some ⟨w.heap.size,0,none⟩) 2 2;have K0:=ai k0;have HE:=ai h;have HJ:=ai j;clear h j k0;obtain⟨rfl,ec⟩|⟨rfl,ec⟩:=hk;all_goals
  first|(rw[ec,kE]at HM;go_enter func357,ntmps357)|(rw[ec,kF]at HM;go_enter func355,ntmps355)
  go_wp2_with fail;refine HM.mono ?_;rintro e w2⟨rfl,Qp⟩;have k2:Bq (w.alloc<|Cv #[nA a,nA b] 476) w2:=by rw[Qp];exact bw _
  have B2:w2.heap[w.heap.size+1]? =some (Cv #[.pointer none,Nv l,Iv 0,Sv<|pn cn,Lv (some ⟨w.heap.size,0,none⟩) 2 2] 486 (0,0)):=by
   rw[Qp];have:=(jx (w.alloc<|Cv #[nA a,nA b] 476)<|Cv #[.pointer none,Nv l,Iv 0,Sv<|pn cn,Lv (some ⟨w.heap.size,0,none⟩) 2 2] 486).1;simpa[ec,kE,kF]using this
  have R2:=B0.below k2;have k02:=K0.trans<|k2.mono K0.size;have HX:=ai<|jk k02<|jk B2 R2;clear HM Qp k2 B2 R2 k02 B0
  go_wp2
  go_ret;have⟨k02,B2,R2⟩:=uh HX;refine⟨w.heap.size+1,(some ⟨w.heap.size,0,none⟩,2),rfl,jq _,HE.af k02,HJ.made (c:=cn) (ps:=[a,b]) (a:=(some ⟨w.heap.size,0,none⟩,2)) k02 (jq _) CB ah (λp hp=>?_) (jc ⟨w.heap.size,rfl,br _,ae,R2.z,λi hi=>?_⟩) B2,k02⟩
  .obtain e|e:=List.mem_cons.1 hp
   .subst e;exact ha
   .simp at e;subst e;exact hb
  .have BL:i=0\/i=1:=qAk;rw[R2.c i];obtain rfl|rfl:=BL<;>rfl
end
structure OR l B g s cnt(ρ:jf)g' s'(aC:Nat)(du:jf):Prop where
 st:iG l g s g' s'
 hd:∀m,m∈g.ds->∀x,Hd g'.nx m x↔Hd g.nx m x
 kk:s'.k=s.k
 ext:∀v n,ρ v=some n->du v=some n
 cc:cnt<=aC
 uu:∀m,s'.u m->s.u m\/(cnt<m/\m<=aC)
 nw:∀v n,ρ v=none->du v=some n->¬s.u n
 on:∀v v' n,ρ v=none->du v=some n->du v'=some n->v=v'
 ZH:∀n,s'.u n↔s.u n\/∃v,ρ v=none/\du v=some n
 gB:∀m,m∈g.ds->g'.lv m=g.lv m/\g'.V m=g.V m
 new:∀m,m∈g'.ds->(m∈g.ds/\g'.ly m=g.ly m/\g'.str m=g.str m)\/(B<=m/\∀gg,(g'.ly m).1=some ⟨gg,0,none⟩->B<=gg)
 nl:∀m,m∈g'.ds->¬m∈g.ds->g'.lv m<=l
section
variable {w1 w2:World} {g2:fU} {s2:jd} {cnt dI:Nat} {ZI:jf}
def OR.refl(h:JS w g s)l B cnt(ρ:jf):OR l B g s cnt ρ g s cnt ρ:=⟨iG.refl h l,λ_ _ _=>Iff.rfl,rfl,λ_ _ q=>q,br _,λ_ q=>ja q,(λv n q r=>qAw),(λv v' n q r=>qAw),λn=>⟨ja,λq=>q.elim id λ⟨v,q,r⟩=>qAw⟩,λ_ _=>⟨rfl,rfl⟩,λm hm=>ja ⟨hm,rfl,rfl⟩,λm hm q=>absurd hm q⟩
def OR.trans(h:JS w g s)(h1:JS w1 g1 s1)(h2:JS w2 g2 s2)(a:OR l B g s cnt ρ g1 s1 aw lH)(b:OR l B' g1 s1 aw lH g2 s2 dI ZI)(hB:B<=B'):OR l B g s cnt ρ g2 s2 dI ZI where
 st:=iG.trans h h1 h2 a.st b.st
 hd m hm x:=(b.hd m (a.st.gB m hm).1 x).trans<|a.hd m hm x
 kk:=b.kk.trans a.kk
 ext v n q:=b.ext v n<|a.ext v n q
 cc:=jm a.cc b.cc
 uu m q:=by
  have:=a.cc;have:=b.cc;obtain q|q:=b.uu m q
  .exact(a.uu m q).imp id λr=>ae
  .omega
 nw v n h0 h2:=by
  cases e:lH v with
  |none=>exact λq=>b.nw v n e h2 ((a.ZH n).2<|ja q)|some n'=>
   have:=b.ext v n' e;rw[h2]at this;injection this with this;subst this;exact a.nw v _ h0 e
 on v v' n h0 h2 ZC:=by
  cases e:lH v with
  |none=>exact b.on v v' n e h2 ZC|some n'=>
   have:=b.ext v n' e;rw[h2]at this;injection this with this;subst this
   cases e':lH v' with
   |none=>exact(b.on v' v n e' ZC h2).symm|some n''=>
    have:=b.ext v' n'' e';rw[ZC]at this;injection this with this;subst this;exact a.on v v' _ h0 e e'
 ZH n:=by
  rw[b.ZH n,a.ZH n];constructor
  .rintro((q|⟨v,q,r⟩)|⟨v,q,r⟩)
   .exact ja q
   .exact jc ⟨v,q,b.ext v n r⟩
   .refine jc ⟨v,?_,r⟩
    cases e:ρ v with
    |none=>rfl|some n'=>rw[a.ext v n' e]at q;cases q
  .rintro(q|⟨v,q,r⟩)
   .grind
   .cases e:lH v with
    |none=>grind|some n'=>
     have:=b.ext v n' e;rw[r]at this;injection this with this;subst this;exact ja<|jc ⟨v,q,e⟩
 gB m hm:=⟨(b.gB m (a.st.gB m hm).1).1.trans (a.gB m hm).1,(b.gB m (a.st.gB m hm).1).2.trans (a.gB m hm).2⟩
 new m hm:=by
  obtain⟨q1,q2,q3⟩|⟨q1,q2⟩:=b.new m hm
  .obtain⟨r1,r2,r3⟩|⟨r1,r2⟩:=a.new m q1
   .grind
   .grind
  .grind
 nl m hm q:=by
  by_cases q1:m∈g1.ds
  .rw[(b.gB m q1).1];exact a.nl m q1 q
  .exact b.nl m hm q1
end
section
variable {c:JC} {cnt:Nat}
def OR.used(a:OR l B g s cnt ρ g1 s1 aw lH)(h:∀n,s.u n->us cnt n):∀n,s1.u n->us aw n:=λn q=>by
 have:=a.cc;obtain q|q:=a.uu n q
 .have:=h n q;rw[us]at this⊢;omega
 .rw[us];omega
def OR.EK(a:OR l B' g s cnt ρ g1 s1 aw lH)(h:B<=B'):OR l B g s cnt ρ g1 s1 aw lH:={a with new:=λm hm=>(a.new m hm).imp id λq=>⟨ae,λgg e=>by have:=q.2 gg e;omega⟩}
def JS.one(h:JS w g s)(o:One b w w')(h1:¬b∈g.ds)(h4:∀m∈g.ds,∀c l gg,g.str m=some (c,l)->l≠[]->(g.ly m).1=some ⟨gg,0,none⟩->gg≠b):JS w' g s:=⟨h.gl.one o h1 h4,h.mA,h.inj,h.can,h.lc,h.val,h.use,h.ok⟩
def JE.one(h:JE w c nb l cnt)(o:One b w w')(h1:c.gL<=b)(h2:c.eb<b)(h3:c.cb<b)(h4:c.rb<b)(h5:c.mb<b):JE w' c nb l cnt:=
 ⟨h.bx.same (jl o.size.symm)<|o.block c.eb ae,h.ct.same (jl o.size.symm)<|o.block c.cb ae,h.rs.same<|o.block _ ae,h.ms.move (jl o.size.symm) (o.block _ ae) (λb' p _=>o.block _ (by have:=p.2;omega))<|λ_ p _=>p,⟨h.z.1,h.z.2.1,by rw[o.size];exact h.z.2.2⟩⟩
def JS.ahu(h:JS w g s)(hm:m∈g.ds){k}{ps}{gg}(hs:g.str m=some (k,ps))(hl:ps≠[])(hg:(g.ly m).1=some ⟨gg,0,none⟩):gg<w.heap.size:=by
 have⟨ga,q1,q2,_⟩:=h.gl.row hm hs<|List.length_pos_iff.2 hl;rw[hg]at q1;injection q1 with q1;injection q1 with q1;subst q1;exact iQ q2
def QJ{p:Prop}(h:p:=by
 exact ja ⟨(List.mem_cons.1 hm).resolve_left e,by simp[jv,e],by simp[jv,e]⟩):p:=h
def OR.add(h:JS w g s){n:Nat}(hn:B<=n)(nd:¬n∈g.ds){q:BA×List Nat}{a:Option Addr×Nat}{T:Ty}(ha:∀gg,a.1=some ⟨gg,0,none⟩->B<=gg):OR l B g s cnt ρ (g.add n (some q) 0 a l T) s cnt ρ where
 st:=iG.add h nd rfl (λe=>by cases e)
 hd _ _ _:=Iff.rfl
 kk:=rfl
 ext _ _ q:=q
 cc:=br _
 uu _ q:=ja q
 nw v n q r:=qAw
 on v v' n q r:=qAw
 ZH n:=⟨ja,λq=>q.elim id λ⟨v,q,r⟩=>qAw⟩
 gB m hm:=by
  have e:m≠n:=λe=>nd<|e▸hm;simp[jv,e]
 new m hm:=by
  by_cases e:m=n
  .subst e;exact jc ⟨hn,λgg q=>ha gg<|by simpa[jv]using q⟩
  .exact QJ
 nl m hm q:=by
  rw[(List.mem_cons.1 hm).resolve_right q];simp[jv]
end
structure OKs(c:JC)l Kb(Tb:Nat->Prop)(K:World->fU->jd->Nat->jf->Prop):Prop where
 af:∀w w' g s cnt ρ,K w g s cnt ρ->Bq w w'->K w' g s cnt ρ
 one:∀w w' g s cnt ρ b,K w g s cnt ρ->One b w w'->Kb<=b->K w' g s cnt ρ
 add:∀w g s cnt ρ n q v a T,K w g s cnt ρ->¬n∈g.ds->K w (g.add n (some q) v a l T) s cnt ρ
 tb:∀b,Tb b->b<Kb
def Jd c nb l(Tb:Nat->Prop)(K:World->fU->jd->Nat->jf->Prop)g s cnt(ρ:jf)T w(e:Ending)w':=
 ∃n g' s' aC du,e=.returned (nA n)/\JE w' c nb l aC/\JS w' g' s'/\K w' g' s' aC du/\OR l w.heap.size g s cnt ρ g' s' aC du/\n∈g'.ds/\g'.V n=sub s.k (sub (jh du) T)/\(∀x,Hd g'.nx n x->g'.lv x<=l)/\(∀v,(aG v T->du v≠none)/\(¬aG v T->du v=ρ v))/\aC<=cnt+size T/\Fr (λb=>b=c.cb\/Tb b) w w'
def OfJ c nb l Kb Tb(K:World->fU->jd->Nat->jf->Prop)F(A:Nat->Prop)T:=∀(w:World)(g:fU)(s:jd)(cnt:Nat)(ρ:jf)(Q:Nat->Prop)(v:Value),JE w c nb l cnt->JS w g s->(∀n,s.u n->us cnt n)->K w g s cnt ρ->Kb<=w.heap.size->eN w Q T v->(∀b,Q b->b≠c.cb/\¬Tb b)->size T<=1000->(∀n,aG n T->A n)->cnt+size T<=900000->Cq 345 #[v,Nv l,F] w (Jd c nb l Tb K g s cnt ρ T w)
def akp c nb l(Tb:Nat->Prop)(K:World->fU->jd->Nat->jf->Prop)g s cnt(ρ:jf)k(L:List Ty)sa sc w gk v wr:=
 ∃(j:Nat)(C:Array Value)(g':fU)(s':jd)(aC:Nat)(du:jf)(ps:List Nat),Hid (gk=L.length-j)/\j<=L.length/\v=Nv j/\JE wr c nb l aC/\JS wr g' s'/\K wr g' s' aC du/\OR l (w.heap.size+2) g s cnt ρ g' s' aC du/\Fr (λb=>b=c.cb\/Tb b) w wr/\Bx wr w.heap.size #[.string<|pn k,.slice sa L.length sc]/\Bx wr (w.heap.size+1) C/\Hid (C.size=L.length)/\
  Hid (ps.length=j/\(∀m,m∈ps->m∈g'.ds/\∀x,Hd g'.nx m x->g'.lv x<=l)/\ps.map g'.V=(L.take j).map (λt=>sub s.k<|sub (jh du) t)/\(∀i(h:i<ps.length),C[i]? =some (nA ps[i]))/\(∀v,((∃t,t∈L.take j/\aG v t)->du v≠none)/\((∀t,t∈L.take j->¬aG v t)->du v=ρ v))/\aC<=cnt+ak (L.take j))
def uf:∀a b:List Ty,ak (a++b)=ak a+ak b
 |[],b=>by simp[ak]|t::a,b=>by simp only[List.cons_append,ak,uf a b];omega
def zL L{j}(h:j<L.length):ak (L.take<|j+1)=ak (L.take j)+size L[j]/\ak (L.take<|j+1)<=ak L:=by
 have e:ak (L.take<|j+1)=ak (L.take j)+size L[j]:=by rw[jt h,uf];simp[ak]
 refine⟨e,?_⟩;have:ak (L.take<|j+1)+ak (L.drop<|j+1)=ak L:=by rw[<-uf,List.take_append_drop]
 omega
section
variable {c:JC} {Tb:Nat->Prop} {K:World->fU->jd->Nat->jf->Prop} {F:Value} {A:Nat->Prop}
def adY{du}(hc:∀v,aG v t->ρ v≠none)(he:∀v n,ρ v=some n->du v=some n):sub (jh ρ) t=sub (jh du) t:=sub_congr t λv o=>by
 unfold jh
 cases e:ρ v with
 |none=>exact absurd e (hc v o)|some n=>rw[he v n e]
def ZK(hF:F=.nilFunc\/∃fn cap,F=.func fn #[] cap)(hK:OKs c l Kb Tb K)k L(IH:∀i(h:i<L.length),OfJ c nb l Kb Tb K F A L[i]):OfJ c nb l Kb Tb K F A (.aM k L):=by
 intro w g s cnt ρ Q v je js HU hk0 hkb hv hQ hs HA an9
 cases hv with
 |aM _ _ sa sc vs CB aE hr=>
 have hL:L.length<=1001:=by have:=Cy L;simp[size]at hs;omega
 have kX:ak L<size (.aM k L):=by simp only[size];omega
 have⟨i0,m6,ku,gS,gC⟩:=info_parts Cx;have Hi:=lE (by_:=8) vF m6 ku rfl gS gC aA L.length hL;have zc:=je.ct.z;have b8:Bq w ((w.alloc<|Cv #[Sv<|pn k,Lv sa L.length sc] 260).alloc<|Cv (Array.replicate L.length<|.pointer none) 476):=(bw _).alloc ah _;have ST:akp c nb l Tb K g s cnt ρ k L sa sc w L.length (Iv 0) ((w.alloc<|Cv #[Sv<|pn k,Lv sa L.length sc] 260).alloc<|Cv (Array.replicate L.length<|.pointer none) 476):=⟨0,Array.replicate L.length<|.pointer none,g,s,cnt,ρ,[],ai ah,Nat.zero_le _,rfl,je.af b8,js.af b8,hK.af _ _ _ _ _ _ hk0 b8,OR.refl js _ _ _ _,Fr.of b8,(Bx.new w _ _).alloc _,by have:=Bx.new (w.alloc<|Cv #[Sv<|pn k,Lv sa L.length sc] 260) (Array.replicate L.length<|.pointer none) 476;simpa using this,ai ah,ai ⟨rfl,ah,ah,λi hi=>by simp at hi,λv=>⟨ah,λ_=>rfl⟩,by simp[ak]⟩⟩;have HJ:=ai js;have HQ:=ai hQ;have HZ:=And.intro je.z.2.2<|And.intro je.bx.z<|And.intro je.ct.z<|And.intro je.rs.lt je.ms.lt;go_enter func345,ntmps345
 go_wp2
 go_loopg[29] L.length (λgk v wr=>akp c nb l Tb K g s cnt ρ k L sa sc w gk v wr)
 case atStart=>exact ST
 case round=>
  obtain⟨j,C,g1,s1,aw,lH,ps,bE,hj,rfl,CY,lp,k1,rD,F1,HB0,B1,hC,hT⟩:=hrel;have zw:=F1.size;have zb:=B1.z;by_cases aI:j<L.length
  .have hd:(j:Int)<(L.length:Int):=ae;obtain⟨gg,rfl,hg,mn,bX⟩:∃g,sa=some ⟨g,0,none⟩/\Q g/\g<w.heap.size/\∀i,i<L.length->w.cell? ⟨g,i,none⟩=some (vs i):=by
    obtain h0|h0:=aE
    .subst h0;simp at aI
    .exact h0
   have hQ:=uh HQ;have cg:wr.cell? ⟨gg,j,none⟩=some (vs j):=by
    rw[World.cell?_of_block (a:=⟨gg,j,none⟩) (w:=w)<|F1.block gg mn<|λq=>q.elim (hQ gg hg).1 (hQ gg hg).2];exact bX j aI
   have PJ:=(hr j aI).fr F1<|λb p _ q=>q.elim (hQ b p).1 (hQ b p).2;have⟨tv,xv,hv⟩:=PJ.iface;have⟨x1,x2,x3,x4,x5,x6⟩:=uh hT;have⟨y1,y2⟩:=zL L aI;have HC:=IH j aI wr g1 s1 aw lH Q (vs j) CY lp (rD.used HU) k1 ae PJ hQ ae (λn o=>HA n (by simp only[aG];exact(lL _ _).2 ⟨_,List.getElem_mem aI,o⟩)) ae;rw[hv]at cg HC;have HJ1:=ai lp;have HO1:=ai rD;have xW:=ai F1;have eE:=ai B1;go_wp2_with fail;refine HC.mono ?_;rintro e w1⟨m,g2,s2,dI,ZI,rfl,je2,Uz,k2,MH,hm,hV,IZ,EL,zM,F2⟩;have nmr:∀b,w.heap.size<=b->¬(b=c.cb\/Tb b):=λb hb q=>q.elim (λq=>ae) (λq=>by have:=hK.tb b q;omega);have B2:=eE.fr F2<|nmr _ ae;have B02:=HB0.fr F2<|nmr _ ae;have Bp:j<C.size:=qBh;have cj:=(B2.c j).trans<|Array.getElem?_eq_getElem Bp;have fj:=B2.f j;have B3:=B2.aP j (nA m) (C.setIfInBounds j<|nA m) rfl Bp;have B03:=B02.bJ (b2:=w.heap.size+1) ae j<|nA m;have Zk:=HO1.trans HJ HJ1 Uz MH ae;have HX:=jk je2<|jk Uz<|jk k2<|jk MH<|jk hm<|jk hV<|jk IZ<|jk EL zM;have xX:=xW.trans F2;have z2:=F2.size
   go_wp2
   go_roundg(L.length-(j+1))
   case measure=>rw[uh bE];omega
   case rel=>
    have⟨x1,x2,x3,x4,x5,x6⟩:=uh hT;obtain⟨je2,Uz,k2,MH,hm,hV,IZ,EL,zM⟩:=HX;have UA:=Zk;have lp:=uh HJ1;have js:=uh HJ;have oc:=One.cell w1 (w.heap.size+1) j<|nA m;obtain⟨u1,u2,u3,u4,u5⟩:=HZ;refine⟨j+1,C.setIfInBounds j<|nA m,g2,s2,dI,ZI,ps++[m],ai rfl,ae,d_,je2.one oc ae ae ae ae ae,?_,hK.one _ _ _ _ _ _ _ k2 oc ae,UA,xX.set (jc ae) j _,B03,B3,ai (by simp;exact hC),ai ⟨by simp[x1],?_,?_,?_,?_,ae⟩⟩
    .refine Uz.one oc (λq=>?_) (λy hy c' l' gg e1 e2 e3 e4=>?_)
     .obtain⟨q,_⟩|⟨q,_⟩:=UA.new _ q
      .have:=js.lt q;omega
      .omega
     .obtain⟨q1,q2,q3⟩|⟨q1,q2⟩:=UA.new y hy
      .have:=js.ahu q1 (q3▸e1) e2<|q2▸e3;omega
      .have:=q2 gg e3;omega
    .intro y hy;obtain q|q:=List.mem_append.1 hy
     .have⟨r1,r2⟩:=x2 y q;refine⟨(MH.st.gB y r1).1,λx k=>?_⟩;have k:=(MH.hd y r1 x).1 k;rw[(MH.gB x<|lp.gl.bD r1 k).1];exact r2 x k
     .simp at q;subst q;exact⟨hm,IZ⟩
    .rw[ju,jt aI,ju];have e1:=dQ λp hp=>(MH.gB p (x2 p hp).1).2;have e2:(L.take j).map (λt=>sub s.k<|sub (jh lH) t)=(L.take j).map (λt=>sub s.k<|sub (jh ZI) t):=List.map_congr_left λt ht=>by rw[adY (λv o=>(x5 v).1 ⟨t,ht,o⟩) MH.ext]
     rw[e1,x3,e2];have:=HO1.kk;simp[hV,this]
    .intro i hi;by_cases e:i<j
     .rw[Array.getElem?_setIfInBounds_ne ae,x4 i ae,List.getElem_append_left ae]
     .have e:i=j:=qAk;subst e;rw[List.getElem_append_right ae];simp[Bp,x1]
    .intro v;rw[jt aI];refine⟨?_,λq=>?_⟩
     .rintro⟨t,ht,o⟩;obtain q|q:=List.mem_append.1 ht
      .have:=(x5 v).1 ⟨t,q,o⟩
       cases e:lH v with
       |none=>exact absurd e this|some n=>rw[MH.ext v n e];simp
      .simp at q;subst q;exact(EL v).1 o
     .rw[(EL v).2<|q _<|List.mem_append_right _<|List.mem_singleton.2 rfl,(x5 v).2 λt ht=>q t<|List.mem_append_left _ ht]
  .have hd:decide ((j:Int)<(L.length:Int))=false:=bi;have ej:j=L.length:=ae;subst ej;have c0:=HB0.c 0;have HX:=jk CY<|jk lp<|jk k1<|jk rD<|jk F1<|jk B1 hT;go_wp2_with fail;refine(EI (w:=wr) (pn k) (l:Int) (some ⟨w.heap.size+1,0,none⟩) L.length L.length).mono ?_;rintro e w3⟨rfl,rfl⟩
   go_wp2
   go_ret;obtain⟨CY,lp,k1,rD,F1,B1,x1,x2,x3,x4,x5,x6⟩:=HX;simp only[List.take_length]at x3 x5 x6;have cU:Bq wr (wr.alloc<|Cv #[.pointer none,Nv l,Iv 0,Sv<|pn k,Lv (some ⟨w.heap.size+1,0,none⟩) L.length L.length] 486):=bw _;have zE:=B1.alloc<|Cv #[.pointer none,Nv l,Iv 0,Sv<|pn k,Lv (some ⟨w.heap.size+1,0,none⟩) L.length L.length] 486;have hz:¬wr.heap.size∈g1.ds:=λq=>by have:=lp.lt q;omega
   have hrd:¬(w.heap.size+1)∈g1.ds:=λq=>by
    obtain⟨q,_⟩|⟨q,_⟩:=rD.new _ q
    .have:=HJ.lt q;omega
    .omega
   have js3:=lp.YX cU (n:=wr.heap.size) (l:=l) (c:=k) (ps:=ps) (a:=(some ⟨w.heap.size+1,0,none⟩,L.length)) (br _) CB ae x2 (jc ⟨w.heap.size+1,rfl,(λq=>by
    obtain q|q:=List.mem_cons.1 q
    .omega
    .exact hrd q),zE.z,λi hi=>(zE.c i).trans<|x4 i hi⟩) (by rw[x1];exact(jx wr _).1)
   have UA:OR l w.heap.size g1 s1 aw lH (g1.add wr.heap.size (some (k,ps)) 0 (some ⟨w.heap.size+1,0,none⟩,L.length) l<|.aM k<|ps.map g1.V) s1 aw lH:=OR.add lp ae hz (λgg e=>by injection e with e;injection e with e;omega);refine⟨wr.heap.size,_,s1,aw,lH,rfl,CY.af cU,js3,hK.add _ _ _ _ _ _ _ _ _ _ (hK.af _ _ _ _ _ _ k1 cU) hz,(rD.EK ae).trans HJ lp js3 UA<|br _,ah,?_,λx q=>?_,λv=>?_,ae,F1.trans<|Fr.of cU⟩
   .simp only[jv,if_true,sub,iq,x3,List.map_map];rfl
   .have:x=wr.heap.size:=q.one<|.here (lp.gl.out _ hz).1;subst this;simp[jv]
   .simp only[aG];rw[lL];exact⟨(x5 v).1,λq=>(x5 v).2 λt h1 h2=>q ⟨t,h1,h2⟩⟩
end
abbrev anV(kb jb:Nat):Value:=.func (.func 368) #[] #[Pv kb,Pv jb]
structure tM(c:JC)l kb jb mb w(g:fU)(s:jd)(cnt:Nat)(ρ:jf):Prop where
 bk:Bx w kb #[Mv mb]
 bj:Bx w jb #[Pv c.eb]
 mp:∃L:List (Int×Value),MS (λn:Int=>Iv n) w mb L/\∀v:Nat,(ρ v=none/\bd (v:Int) L=none)\/∃n m,ρ v=some n/\bd (v:Int) L=some (nA m)/\m∈g.ds/\g.str m=none/\g.vr m=n/\∀x,Hd g.nx m x->g.lv x<=l
 ZL:c.gL<=mb/\c.eb<mb/\c.cb<mb/\c.rb<mb/\c.mb<mb
section
variable {c:JC} {cnt:Nat}
def Q5{p:Prop}(h:p:=by
 refine⟨n',m,r1,r2,List.mem_cons_of_mem _ r3,by simp[jv,e,r4],by simp[jv,e,r5],λx k=>?_⟩;by_cases ex:x=n
 .simp[jv,ex]
 .simp only[jv,ex,if_false];exact r6 x k):p:=h
def tM.ks(hk:kb<Kb)(hj:jb<Kb)(hm:mb<Kb):OKs c l Kb (λb=>b=mb) (tM c l kb jb mb) where
 af w w' g s cnt ρ h hb:=by
  have⟨L,h1,h2⟩:=h.mp;exact⟨h.bk.below hb,h.bj.below hb,⟨L,h1.below hb,h2⟩,h.ZL⟩
 one w w' g s cnt ρ b h o hb:=by
  have⟨L,h1,h2⟩:=h.mp;exact⟨h.bk.same (jl o.size.symm)<|o.block kb ae,h.bj.same (jl o.size.symm)<|o.block jb ae,⟨L,h1.one o ae,h2⟩,h.ZL⟩
 add w g s cnt ρ n q v a T h hn:=by
  have⟨L,h1,h2⟩:=h.mp;refine⟨h.bk,h.bj,⟨L,h1,λv=>(h2 v).imp id ?_⟩,h.ZL⟩;rintro⟨n',m,r1,r2,r3,r4,r5,r6⟩;have e:m≠n:=λe=>hn<|e▸r3;exact Q5
 tb b e:=ae
def JS.NS(h:JS w g s)(hm:m∈g.ds)(hs:g.str m=none):g.V m=s.k (g.vr m):=h.val m hm hs
def JS.mI(h:JS w g s){κ:Type}[DecidableEq κ]{enc}{L:List (κ×Value)}(hm:MS enc w b L):¬b∈g.ds/\∀m∈g.ds,∀c l gg,g.str m=some (c,l)->l≠[]->(g.ly m).1=some ⟨gg,0,none⟩->gg≠b:=by
 refine⟨λq=>?_,λm CC c l gg hs hl hg e=>?_⟩
 .have⟨p,hp⟩:=h.gl.pY q;rw[hm.qC 0]at hp
  cases hp
 .have⟨ga,q1,q2,_⟩:=h.gl.row CC hs<|List.length_pos_iff.2 hl;rw[hg]at q1;injection q1 with q1;injection q1 with q1;subst q1;rw[e,hm.qC _]at q2
  cases q2
def OR.var(h:JS w g s){v}(hn:B<=n)(nd:¬n∈g.ds)(hu:∀n,s.u n->us cnt n)(hv:ρ v=none)(hr:∀y n',ρ y=some n'->s.u n'):OR l B g s cnt ρ (g.add n none (cnt+1) (none,0) l<|.var<|cnt+1) ⟨s.k,λm=>s.u m\/m=cnt+1⟩ (cnt+1) (λy=>if y=v then some (cnt+1)else ρ y):=by
 have hnu:¬s.u (cnt+1):=λq=>by have:=hu _ q;rw[us]at this;omega
 have hor:∀y n',ρ y=some n'->y≠v:=λy n' q e=>by rw[e,hv]at q;cases q
 refine⟨iG.add h nd rfl (λ_=>br _),λ_ _ _=>Iff.rfl,rfl,λy n' q=>by simp[hor y n' q,q],ae,λm q=>q.imp id λe=>ae,λy n' h0 h1=>?_,λy y' n' h0 h1 h2=>?_,λn'=>⟨?_,?_⟩,λm hm=>?_,λm hm=>?_,λm hm q=>by rw[(List.mem_cons.1 hm).resolve_right q];simp[jv]⟩
 .grind
 .grind
 .grind
 .grind
 .have e:m≠n:=λe=>nd<|e▸hm;simp[jv,e]
 .by_cases e:m=n
  .subst e;exact jc ⟨hn,λgg q=>by simp[jv]at q⟩
  .exact QJ
def tM.rng(h:tM c l kb jb mb w g s cnt ρ)(j:JS w g s):∀y n',ρ y=some n'->s.u n':=λy n' q=>by
 have⟨L,h1,h2⟩:=h.mp;obtain⟨r,_⟩|⟨n,m,r1,r2,r3,r4,r5,r6⟩:=h2 y
 .rw[r]at q;cases q
 .rw[r1]at q;injection q with q;subst q;rw[<-r5];exact j.use m r3 r4
def adZ(h:JE w c nb l cnt)(j:JS w g s)(hu:∀n,s.u n->us cnt n)(ha:tM c l kb jb mb w g s cnt ρ)v(hc:cnt+1<=900000):Cq 368 #[Nv v,Pv kb,Pv jb] w (Jd c nb l (λb=>b=mb) (tM c l kb jb mb) g s cnt ρ (.var v) w):=by
 have⟨L,HM,HL⟩:=ha.mp;have hl:=HM.look (KL.num Tryz.underlying248) Tryz.underlying509 (zN w) (v:Int) trivial (λ_ _=>trivial) true;have oY:=ha.bk.c 0;have hcj:=ha.bj.c 0;have hkm:kb≠mb:=λe=>by have:=HM.qC 0;rw[<-e,oY]at this;cases this
 have hjm:jb≠mb:=λe=>by have:=HM.qC 0;rw[<-e,hcj]at this;cases this
 have U0:c.cb≠mb:=by have:=ha.ZL.2.2.1;omega
 obtain⟨HR,q⟩|⟨n,m,r1,r2,r3,r4,r5,r6⟩:=HL v
 .rw[q]at hl;simp at hl;have hkc:kb≠c.cb:=λe=>by have:=h.ct.c 0;rw[<-e,oY]at this;simp at this
  have hjc:jb≠c.cb:=λe=>by have:=h.ct.c 0;rw[<-e,hcj]at this;simp at this
  have HV:=nU h j hu ae;have HA:=ai ha;have HJ:=ai j;go_enter func368,ntmps368;go_wp2_with fail;refine HV.mono ?_;rintro e w1⟨n,rfl,hn,CY,lp,F1⟩;have hc1:=(HA.bk.fr F1 hkc).c 0;have BK1:=HA.bk.fr F1 hkc;have BJ1:=HA.bj.fr F1 hjc;have XY:=HM.same<|F1.block mb HM.lt<|λe=>U0 e.symm;have HX:=And.intro CY<|And.intro lp F1;go_wp2_with(refine aY _ rfl _ _ _ _ (Or.inr rfl) (KL.num Tryz.underlying248) Tryz.underlying509 _ _ rfl XY (v:Int) (nA n) rfl rfl trivial (λ_ _=>trivial) ?_;intro w' H' O';have wZ:=ai H';have O2:=ai O';clear H' O');go_ret;obtain⟨CY,lp,F1⟩:=HX;have O:=uh O2;have j:=uh HJ;have nd:¬n∈g.ds:=λq=>by have:=j.lt q;omega
  have ha:=uh HA;have⟨f1,f2,f3,f4,f5⟩:=ha.ZL;have⟨n1,n2⟩:=lp.mI XY;refine⟨n,_,_,cnt+1,_,rfl,CY.one O f1 f2 f3 f4 f5,lp.one O n1 n2,⟨BK1.same (jl O.size.symm)<|O.block kb hkm,BJ1.same (jl O.size.symm)<|O.block jb hjm,⟨_,wZ,λy=>?_⟩,ha.ZL⟩,OR.var j (v:=v) hn nd hu HR<|ha.rng j,ah,?_,λx k=>?_,λy=>⟨λo=>?_,λo=>?_⟩,by simp[size],?_⟩
  .rw[aN];by_cases e:y=v
   .subst e;refine jc ⟨cnt+1,n,ah,ah,ah,QK,QK,λx k=>?_⟩;have:x=n:=k.one<|.here (j.gl.out _ nd).1;subst this;simp[jv]
   .have e':¬(v:Int)=(y:Int):=ae;simp only[e,e',if_false];refine(HL y).imp id ?_;rintro⟨n',m,r1,r2,r3,r4,r5,r6⟩;have e:m≠n:=λe=>nd<|e▸r3;exact Q5
  .have hnu:¬s.u (cnt+1):=λq=>by have:=hu _ q;rw[us]at this;omega
   simp[jv,sub,jh,j.ok.out _ hnu]
  .have:x=n:=k.one<|.here (j.gl.out _ nd).1;subst this;simp[jv]
  .simp only[aG]at o;subst o;simp
  .simp only[aG]at o;simp[Ne.symm o]
  .exact⟨O.os.trans F1.os,O.tape.trans F1.tape,O.output.trans F1.output,by rw[O.size];exact F1.size,λk hk hn=>(O.block k<|λe=>hn<|jc e).trans<|F1.block k hk<|λe=>hn<|ja e⟩
 .rw[r2]at hl;simp at hl;have HX:=show Jd c nb l (λb=>b=mb) (tM c l kb jb mb) g s cnt ρ (.var v) w (Rv<|nA m) w from⟨m,g,s,cnt,ρ,rfl,h,j,ha,OR.refl j _ _ _ _,r3,by simp[sub,In.via,r1,j.NS r3 r4,r5],r6,λy=>⟨λo=>by simp only[aG]at o;subst o;simp[r1],λ_=>rfl⟩,ae,Fr.refl _ _⟩;go_enter func368,ntmps368
  go_wp2
  go_ret;exact HX
end
section
variable {c:JC} {cnt:Nat}
def ahv n:OfJ c nb l Kb (λb=>b=mb) (tM c l kb jb mb) (anV kb jb) (λ_=>True) (.var n):=by
 intro w g s cnt ρ Q v je js hu hk0 hkb hv hQ hs hA CB
 cases hv
 have HC:=adZ je js hu hk0 n (by simpa[size]using CB);go_enter func345,ntmps345;go_wp2_with fail;refine HC.mono ?_;rintro e w1⟨m,g',s',aC,du,rfl,r⟩
 go_wp2
 go_ret;exact⟨m,g',s',aC,du,rfl,r⟩
mutual
def ZM(hk:kb<Kb)(hj:jb<Kb)(hm:mb<Kb):∀T:Ty,OfJ c nb l Kb (λb=>b=mb) (tM c l kb jb mb) (anV kb jb) (λ_=>True) T
 |.var n=>ahv n|.aM k L=>ZK (jc ⟨_,_,rfl⟩) (tM.ks hk hj hm) k L<|af0 hk hj hm L
def af0(hk:kb<Kb)(hj:jb<Kb)(hm:mb<Kb):∀(L:List Ty)(i:Nat)(h:i<L.length),OfJ c nb l Kb (λb=>b=mb) (tM c l kb jb mb) (anV kb jb) (λ_=>True) L[i]
 |[],i,h=>absurd h (jo _)|t::L,0,h=>ZM hk hj hm t|t::L,i+1,h=>af0 hk hj hm L i<|Nat.lt_of_succ_lt_succ h
end
abbrev noK:World->fU->jd->Nat->jf->Prop:=λ_ _ _ _ _=>True
def amG:OKs c l 0 (λ_=>False) noK:=⟨λ_ _ _ _ _ _ _ _=>trivial,λ_ _ _ _ _ _ _ _ _ _=>trivial,λ_ _ _ _ _ _ _ _ _ _ _ _=>trivial,λ_ h=>h.elim⟩
mutual
def af1:∀T:Ty,OfJ c nb l 0 (λ_=>False) noK .nilFunc (λ_=>False) T
 |.var n=>λw g s cnt ρ Q v _ _ _ _ _ _ _ _ hA _=>(hA n rfl).elim|.aM k L=>ZK (ja rfl) amG k L<|af2 L
def af2:∀(L:List Ty)(i:Nat)(h:i<L.length),OfJ c nb l 0 (λ_=>False) noK .nilFunc (λ_=>False) L[i]
 |[],i,h=>absurd h (jo _)|t::L,0,h=>af1 t|t::L,i+1,h=>af2 L i<|Nat.lt_of_succ_lt_succ h
end
def akq c nb l g(s:jd)cnt T w(e:Ending)w':=
 ∃n g' aC,e=.returned (nA n)/\JE w' c nb l aC/\JS w' g' s/\OR l w.heap.size g s cnt ji g' s aC ji/\n∈g'.ds/\g'.V n=T/\(∀x,Hd g'.nx n x->g'.lv x<=l)/\aC<=cnt+size T/\Fr (λb=>b=c.cb) w w'
def amH {e:Ending} (hT:∀v,¬aG v T) (h:Jd c nb l (λ_=>False) noK g s cnt ji T w e w'):akq c nb l g s cnt T w e w':=by
 obtain ⟨n,g',s',aC,du,rfl,h1,h2,_,h4,h5,h6,h7,h8,h9,h10⟩:=h;have Jf:=funext λv=>(h8 v).2 (hT v);subst Jf;have hs:s'=s:=by
  obtain ⟨k',u'⟩:=s';obtain ⟨k,u⟩:=s;have e1:k'=k:=h4.kk;have e2:u'=u:=funext λn=>propext ⟨λq=>((h4.ZH n).1 q).elim id (λ⟨v,_,r⟩=>nomatch r),λq=>(h4.ZH n).2 (ja q)⟩;rw [e1,e2]
 subst hs;refine ⟨n,g',aC,rfl,h1,h2,h4,h5,?_,h7,h9,h10.gL λb q=>q.elim id False.elim⟩;rw [h6,jj (t:=T) λv o=>(hT v o).elim,jj λv o=>(hT v o).elim]
def ad0(h:JE w c nb l cnt)(j:JS w g s)(hu:∀n,s.u n->us cnt n){Q:Nat->Prop}(hv:eN w Q T v)(hQ:∀b,Q b->b≠c.cb)(hs:size T<=1000)(hT:∀n,¬aG n T)(hc:cnt+size T<=900000):Cq 339 #[Pv c.eb,v] w (akq c nb l g s cnt T w):=by
 have f1:=h.bx.c 4;have HC:=af1 T w g s cnt In.My Q v h j hu trivial (Nat.zero_le _) hv (λb q=>⟨hQ b q,id⟩) hs (λn o=>hT n o) hc;obtain⟨tv,xv,rfl⟩:=hv.iface;go_enter func339,ntmps339;go_wp2_with fail;refine HC.mono ?_;rintro e w1 r;have r':=amH hT r;obtain⟨n,g',aC,rfl,R⟩:=r'
 go_wp2
 go_ret;exact⟨n,g',aC,rfl,R⟩
def ad1(h:JE w c nb l cnt)(g:fU)(s:jd):Cq 354 #[Pv c.eb] w λe w'=>∃kb jb mb,e=.returned (anV kb jb)/\tM c l kb jb mb w' g s cnt ji/\Bq w w'/\(kb<w'.heap.size/\jb<w'.heap.size/\mb<w'.heap.size)/\w.heap.size<=mb/\w.heap.size<=jb/\w.heap.size<=kb:=by
 have g_:= @run_makeMap Tryz.prog;have HE:=ai h;go_enter func354,ntmps354
 go_wp2
 go_ret;have h:=uh HE;have b8:=(((Below.refl w.heap.size w).alloc (br _)<|Cv #[Pv c.eb] 90).alloc ah<|.map #[] 0).alloc bi<|Cv #[Mv<|w.heap.size+1] 509;have z1:=h.z.2.2;have z2:=h.bx.z;have z3:=h.ct.z;have z4:=h.rs.lt;have z5:=h.ms.lt;refine⟨w.heap.size+1+1,w.heap.size,w.heap.size+1,rfl,⟨?_,?_,⟨[],?_,λv=>ja ⟨rfl,rfl⟩⟩,ae,ae,ae,ae,ae⟩,b8,bi,ae,ae,ae⟩
 .have:=Bx.new ((w.alloc<|Cv #[Pv c.eb] 90).alloc<|.map #[] 0) #[Mv<|w.heap.size+1] 509;simpa using this
 .exact((Bx.new w #[Pv c.eb] 90).alloc _).alloc _
 .have:=(MS.new (λn:Int=>Iv n)<|w.alloc<|Cv #[Pv c.eb] 90).below<|bw<|Cv #[Mv<|w.heap.size+1] 509;simpa using this
def OR.drawn(h:OR l B g s cnt ρ g1 s1 aw lH)(hT:∀v,(aG v T->lH v≠none)/\(¬aG v T->lH v=ρ v)):In.nV T ρ s (.ok ((sub (jh lH) T,lH),s1)):=by
 refine jc ⟨lH,s1,⟨lH,s1.u,⟨h.ext,λv q=>(hT v).2 λo=>q<|In.bM.2 o,λv q=>(hT v).1<|In.bM.1 q,h.nw,h.on,h.ZH⟩,?_⟩,rfl⟩;have:=h.kk;obtain⟨k',u'⟩:=s1;simp only at this;rw[this]
end
end Go.Proofs.YtopmodaakdnliaaGreatDoor

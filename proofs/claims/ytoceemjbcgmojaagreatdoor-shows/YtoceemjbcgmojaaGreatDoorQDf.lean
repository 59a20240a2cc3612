import Derived.Test.YtoceemjbcgmojaaGreatDoorQTo
import Derived.Test.YtoceemjbcgmojaaGreatDoorQPk
import Derived.Test.YtoceemjbcgmojaaGreatDoorQTm
set_option linter.all false
set_option maxRecDepth 100000
set_option maxHeartbeats 8000000
namespace Go.Proofs.YtoceemjbcgmojaaGreatDoor
section
open Go Go.RowKit Un
def DeclsD(w:World)(P:Nat->Prop)(vp:Option Addr)(l:List Dc):Prop:=∀i(hi:i<l.length),∃g x,vp=some ⟨g,0,none⟩/\(g<w.heap.size/\P g)/\(∀j,j<15->w.cell? ⟨g,i*15+j,none⟩=(DV.a x)[j]?)/\DR w P x l[i]
theorem DeclsD.bel{w w':World}{P:Nat->Prop}{vp:Option Addr}{l:List Dc}(h:DeclsD w P vp l)(hb:Below w.heap.size w w'):DeclsD w' P vp l:=fun i hi=>by
 obtain⟨g,x,h1,h2,h3,h4⟩:=h i hi
 exact⟨g,x,h1,⟨Nat.lt_of_lt_of_le h2.1 hb.size,h2.2⟩,fun j hj=>(World.cell?_of_block (a:=⟨g,i*15+j,none⟩) (hb.block g h2.1)).trans (h3 j hj),h4.bel hb⟩
theorem at15_e{w:World}{g i:Nat}{x:DV}(h:∀j,j<15->w.cell? ⟨g,i*15+j,none⟩=(DV.a x)[j]?):w.cell? ⟨g,i*15,none⟩=some (.bool x.ty)/\w.cell? ⟨g,i*15+1,none⟩=some (.bool x.rc)/\w.cell? ⟨g,i*15+2,none⟩=some (.int .i64 (x.nm.kind:Int))/\w.cell? ⟨g,i*15+3,none⟩=some (.string x.nm.text)/\w.cell? ⟨g,i*15+4,none⟩=some (.int .i64 (x.nm.frm:Int))/\w.cell? ⟨g,i*15+5,none⟩=some (.int .i64 (x.nm.to:Int))/\w.cell? ⟨g,i*15+6,none⟩=some (.slice x.vp x.vl x.vc)/\w.cell? ⟨g,i*15+7,none⟩=some (.slice x.mp x.ml x.mc)/\w.cell? ⟨g,i*15+8,none⟩=some (.int .i64 x.bd.k)/\w.cell? ⟨g,i*15+9,none⟩=some (.string x.bd.s)/\w.cell? ⟨g,i*15+10,none⟩=some (.int .i64 x.bd.n)/\w.cell? ⟨g,i*15+11,none⟩=some (.slice x.bd.la x.bd.ll x.bd.lc)/\w.cell? ⟨g,i*15+12,none⟩=some (.int .i64 x.bd.f)/\w.cell? ⟨g,i*15+13,none⟩=some (.int .i64 x.bd.t)/\w.cell? ⟨g,i*15+14,none⟩=some (.int .i64 x.bd.a):=
 ⟨h 0 (by omega),h 1 (by omega),h 2 (by omega),h 3 (by omega),h 4 (by omega),h 5 (by omega),h 6 (by omega),h 7 (by omega),h 8 (by omega),h 9 (by omega),h 10 (by omega),h 11 (by omega),h 12 (by omega),h 13 (by omega),h 14 (by omega)⟩
def ProgDP(s:BA)(w:World)(e:Ending)(w':World):Prop:=
 ∃vp vl vc f,e=.returned (.tuple #[.slice vp vl vc,flV f])/\Below w.heap.size w w'/\match qcq s with
  |.error f'=>f=f'/\f.kind≠0|.ok l=>f=noFl/\vl=l.length/\∃P,DeclsD w' P vp l
def DecD(d:Dc):Prop:=∀(w:World)(P:Nat->Prop)(x:DV),DR w P x d->(dcS d).length<=800000->Calls Tryz.prog 27 #[x.v] w fun e w'=>e=.returned (.string (bs (dcS d)))/\Below w.heap.size w w'
theorem decD_ty{t:Pu.Tok}{vs:List Pu.Tok}{ms:List Nd}(H:∀m∈ms,ShD m):DecD (.ty t vs ms):=fun _ _ _ h hl=>declaration_ty h H hl
theorem decD_lt{r:Bool}{t:Pu.Tok}{b:Nd}(H:ShD b):DecD (.lt r t b):=fun _ _ _ h hl=>declaration_lt h H hl
theorem prS_takeD(l:List Dc)(j:Nat)(h:j<l.length):prS (l.take (j+1))=prS (l.take j)++dcS l[j]++[59,10]:=by
 unfold prS
 rw[List.take_succ_eq_append_getElem h,List.flatMap_append]
 simp[dcE]
theorem prS_leD(l:List Dc)(j:Nat):(prS (l.take j)).length<=(prS l).length:=by
 have:prS l=prS (l.take j)++prS (l.drop j):=by unfold prS;rw[<-List.flatMap_append,List.take_append_drop]
 rw[this,lqa];omega
theorem prS_cnt:∀l:List Dc,l.length<=(prS l).length
 |[]=>Nat.zero_le _|d::l=>by have:=prS_cnt l;unfold prS at this⊢;simp only[List.flatMap_cons,lqa,lqc,dcE];omega
def ShR(w:World)(l:List Dc)(gk:Nat)(sv c:Value)(wr:World):Prop:=∃j:Nat,Hid (gk=l.length-j)/\j<=l.length/\sv=.string (bs (prS (l.take j)))/\c=.int .i64 (j:Int)/\Below w.heap.size w wr
section
variable {w:World}
theorem ShowD_C{s:BA}(HP:∀W,Calls Tryz.prog 26 #[.string s] W (ProgDP s W))(hD:∀l,qcq s=.ok l->(∀d∈l,DecD d)/\(prS l).length<=800000):Calls Tryz.prog 11 #[.string s] w fun e w'=>e=.returned (.tuple #[.string (bs (match qcq s with|.error _=>[]|.ok l=>prS l)),flV (match qcq s with|.error f=>f|.ok _=>noFl)])/\Below w.heap.size w w':=by
 have hb0:Below w.heap.size w (w.alloc (.cells #[.int .i64 0,.int .i64 0,.int .i64 0] 34)):=bw _
 have B0:=Bx.new w #[.int .i64 0,.int .i64 0,.int .i64 0] 34
 have HC:=ai (HP (w.alloc (.cells #[.int .i64 0,.int .i64 0,.int .i64 0] 34)))
 obtain⟨Z,HZ⟩:∃Z,Hid (Z=bs (match qcq s with|.error _=>[]|.ok l=>prS l)):=⟨_,ai rfl⟩
 obtain⟨fv,HF⟩:∃v,Hid (v=flV (match qcq s with|.error f=>f|.ok _=>noFl)):=⟨_,ai rfl⟩
 rw[<-uh HZ,<-uh HF]
 go_enter Tryz.func11,Tryz.ntmps11
 go_wp2_with fail
 refine(uh HC).mono ?_
 rintro e w1⟨vp,vl,vc,f,rfl,hb1,hp⟩
 have HB1:=hb0.trans (hb1.mono hb0.size)
 have hb2:Below w1.heap.size w1 (w1.alloc (.cells #[.int .i64 (f.kind:Int),.int .i64 (f.frm:Int),.int .i64 (f.to:Int)] 34)):=bw _
 have HB2:=ai (HB1.trans (hb2.mono HB1.size))
 have B2:=ai ((B0.below hb1).below hb2)
 have F2:=ai (Bx.new w1 #[.int .i64 (f.kind:Int),.int .i64 (f.frm:Int),.int .i64 (f.to:Int)] 34)
 obtain⟨c2,f2,z2⟩:=uh B2
 obtain⟨c3,f3,z3⟩:=uh F2
 unfold flV
 cases hr:qcq s with
 |error f'=>
  rw[hr]at hp
  obtain⟨hf,hk⟩:=hp
  have HZ':Z=bs []:=by rw[uh HZ,hr]
  have HF':fv=flV f:=by rw[uh HF,hr,hf]
  subst HZ' HF'
  clear HZ HF
  have hk':((f.kind:Int)==0)=false:=by simp;omega
  have B5:=ai (((uh B2).set3' rfl (.int .i64 (f.kind:Int)) (.int .i64 (f.frm:Int)) (.int .i64 (f.to:Int))).drew')
  clear hr HC hb0 hb1 hb2 HB1 B0 hf
  go_wp2_with fail
  go_region
  go_wp2_with fail
  obtain⟨c5,f5,z5⟩:=uh B5
  refine bodyPost_ret (v:=.tuple #[.string (bs []),flV f]) (by simp[results,Tryz.results11,go_sem,flV,c5,bs]) rfl ?_
  exact⟨rfl,((((uh HB2).setCell (p:=⟨w.heap.size,0,none⟩) (br _) _).setCell (p:=⟨w.heap.size,1,none⟩) (br _) _).setCell (p:=⟨w.heap.size,2,none⟩) (br _) _).drew⟩
 |ok l=>
  rw[hr]at hp
  obtain⟨rfl,rfl,P,hd⟩:=hp
  obtain⟨hD1,hD2⟩:=hD l hr
  have HDs:=ai (hd.bel hb2)
  have HDD:=ai hD1
  have hcn:=prS_cnt l
  have e0:((noFl.kind:Nat):Int)=0:=rfl
  have e1:((noFl.frm:Nat):Int)=0:=rfl
  have e2:((noFl.to:Nat):Int)=0:=rfl
  rw[e0,e1,e2]at HB2 B2 F2 c2 f2 z2 c3 f3 z3 HDs
  obtain⟨W2,HW2⟩:∃W,Hid (W=w1.alloc (.cells #[.int .i64 0,.int .i64 0,.int .i64 0] 34)):=⟨_,ai rfl⟩
  have HZ':=ai (show Z=bs (prS l) by rw[uh HZ,hr])
  have HF':=ai (show fv=flV noFl by rw[uh HF,hr])
  clear HZ HF
  clear hr HC hb0 hb1 HB1 B0 hD hD1 hd
  go_wp2_with fail
  rw[<-uh HW2]
  rw[<-uh HW2]at HB2 B2 F2 HDs
  clear hb2 c2 f2 z2 c3 f3 z3 e0 e1 e2
  go_loopg[6,7] l.length (fun gk sv c wr=>ShR W2 l gk sv c wr)
  case atStart=>exact⟨0,ai rfl,Nat.zero_le _,rfl,rfl,Below.refl _ _⟩
  case round=>
   obtain⟨j,hgk,hj,rfl,rfl,hB⟩:=hrel
   have B3:=ai ((uh B2).below hB)
   have F3:=ai ((uh F2).below hB)
   have HD3:=ai ((uh HDs).bel hB)
   have HB3:=ai ((uh HB2).trans (hB.mono (uh HB2).size))
   have HBr:=ai hB
   clear hB
   obtain⟨c3,f3,z3⟩:=uh F3
   by_cases hlt:j<l.length
   .have hd:(j:Int)<(l.length:Int):=by omega
    obtain⟨g,x,rfl,⟨hg,-⟩,h15,hn⟩:=uh HD3 j hlt
    obtain⟨q0,q1,q2,q3,q4,q5,q6,q7,q8,q9,q10,q11,q12,q13,q14⟩:=at15_e h15
    have ht:=ai (prS_takeD l j hlt)
    have hle:=prS_leD l (j+1)
    rw[uh ht]at hle
    simp only[lqa,lqc,lqn]at hle
    have z1:(bs (prS (l.take j))).size<=800000:=by rw[qa5];omega
    have z2:(bs (dcS l[j])).size<=800000:=by rw[qa5];omega
    have HS:=ai (uh HDD l[j] (List.getElem_mem hlt) wr P x hn (by omega))
    unfold DV.v at HS
    clear h15 hn hle
    go_wp2_with fail
    refine(uh HS).mono ?_
    rintro e w1⟨rfl,hb1⟩
    have HB4:=ai ((uh HBr).trans (hb1.mono (uh HBr).size))
    clear HS q0 q1 q2 q3 q4 q5 q6 q7 q8 q9 q10 q11 q12 q13 q14 c3 f3 z3
    go_wp2_with fail
    go_roundg(l.length-(j+1))
    case measure=>rw[uh hgk];omega
    case rel=>
     refine⟨j+1,ai rfl,by omega,?_,by go_num,uh HB4⟩
     rw[uh ht,<-qay,<-qay]
     rfl
   .have hd:decide ((j:Int)<(l.length:Int))=false:=by simp;omega
    have ej:j=l.length:=by omega
    subst ej
    rw[List.take_length,<-uh HZ']
    obtain⟨c4,f4,z4⟩:=uh B3
    have B5:=ai (((uh B3).set3' rfl (.int .i64 0) (.int .i64 0) (.int .i64 0)).drew')
    go_wp2_with fail
    go_region
    go_wp2_with fail
    obtain⟨c5,f5,z5⟩:=uh B5
    refine bodyPost_ret (v:=.tuple #[.string Z,flV noFl]) (by simp[results,Tryz.results11,go_sem,flV,noFl,c5,bs]) rfl ?_
    exact⟨by rw[uh HF'],((((uh HB3).setCell (p:=⟨w.heap.size,0,none⟩) (br _) _).setCell (p:=⟨w.heap.size,1,none⟩) (br _) _).setCell (p:=⟨w.heap.size,2,none⟩) (br _) _).drew⟩
end
end
section
open Go Go.RowKit Un
abbrev declA(t:Pu.Tok)(vv mv:Value):Array Value:=#[.bool true,.bool false,.int .i64 (t.kind:Int),.string t.text,.int .i64 (t.frm:Int),.int .i64 (t.to:Int),vv,mv,.int .i64 0,.string ⟨#[]⟩,.int .i64 0,.slice none 0 0,.int .i64 0,.int .i64 0,.int .i64 0]
abbrev zDecl:Array Value:=#[.bool false,.bool false,.int .i64 0,.string ⟨#[]⟩,.int .i64 0,.int .i64 0,.slice none 0 0,.slice none 0 0,.int .i64 0,.string ⟨#[]⟩,.int .i64 0,.slice none 0 0,.int .i64 0,.int .i64 0,.int .i64 0]
theorem Bx.set15{w:World}{b:Nat}{C:Array Value}(h:Bx w b C)(hC:C.size=15)(v0 v1 v2 v3 v4 v5 v6 v7 v8 v9 v10 v11 v12 v13 v14:Value):Bx (((((((((((((((w.setCell ⟨b,0,none⟩ v0).setCell ⟨b,1,none⟩ v1).setCell ⟨b,2,none⟩ v2).setCell ⟨b,3,none⟩ v3).setCell ⟨b,4,none⟩ v4).setCell ⟨b,5,none⟩ v5).setCell ⟨b,6,none⟩ v6).setCell ⟨b,7,none⟩ v7).setCell ⟨b,8,none⟩ v8).setCell ⟨b,9,none⟩ v9).setCell ⟨b,10,none⟩ v10).setCell ⟨b,11,none⟩ v11).setCell ⟨b,12,none⟩ v12).setCell ⟨b,13,none⟩ v13).setCell ⟨b,14,none⟩ v14) b #[v0,v1,v2,v3,v4,v5,v6,v7,v8,v9,v10,v11,v12,v13,v14]:=by
 obtain⟨a0,a1,a2,a3,a4,a5,a6,a7,a8,a9,a10,a11,a12,a13,a14,rfl⟩:∃a0 a1 a2 a3 a4 a5 a6 a7 a8 a9 a10 a11 a12 a13 a14,C=#[a0,a1,a2,a3,a4,a5,a6,a7,a8,a9,a10,a11,a12,a13,a14]:=by
  obtain⟨l⟩:=C
  match l,hC with
  |[a0,a1,a2,a3,a4,a5,a6,a7,a8,a9,a10,a11,a12,a13,a14],_=>exact⟨a0,a1,a2,a3,a4,a5,a6,a7,a8,a9,a10,a11,a12,a13,a14,rfl⟩
 exact(((((((((((((((h.setS 0 v0 #[v0,a1,a2,a3,a4,a5,a6,a7,a8,a9,a10,a11,a12,a13,a14] rfl (by simp)).setS 1 v1 #[v0,v1,a2,a3,a4,a5,a6,a7,a8,a9,a10,a11,a12,a13,a14] rfl (by simp)).setS 2 v2 #[v0,v1,v2,a3,a4,a5,a6,a7,a8,a9,a10,a11,a12,a13,a14] rfl (by simp)).setS 3 v3 #[v0,v1,v2,v3,a4,a5,a6,a7,a8,a9,a10,a11,a12,a13,a14] rfl (by simp)).setS 4 v4 #[v0,v1,v2,v3,v4,a5,a6,a7,a8,a9,a10,a11,a12,a13,a14] rfl (by simp)).setS 5 v5 #[v0,v1,v2,v3,v4,v5,a6,a7,a8,a9,a10,a11,a12,a13,a14] rfl (by simp)).setS 6 v6 #[v0,v1,v2,v3,v4,v5,v6,a7,a8,a9,a10,a11,a12,a13,a14] rfl (by simp)).setS 7 v7 #[v0,v1,v2,v3,v4,v5,v6,v7,a8,a9,a10,a11,a12,a13,a14] rfl (by simp)).setS 8 v8 #[v0,v1,v2,v3,v4,v5,v6,v7,v8,a9,a10,a11,a12,a13,a14] rfl (by simp)).setS 9 v9 #[v0,v1,v2,v3,v4,v5,v6,v7,v8,v9,a10,a11,a12,a13,a14] rfl (by simp)).setS 10 v10 #[v0,v1,v2,v3,v4,v5,v6,v7,v8,v9,v10,a11,a12,a13,a14] rfl (by simp)).setS 11 v11 #[v0,v1,v2,v3,v4,v5,v6,v7,v8,v9,v10,v11,a12,a13,a14] rfl (by simp)).setS 12 v12 #[v0,v1,v2,v3,v4,v5,v6,v7,v8,v9,v10,v11,v12,a13,a14] rfl (by simp)).setS 13 v13 #[v0,v1,v2,v3,v4,v5,v6,v7,v8,v9,v10,v11,v12,v13,a14] rfl (by simp)).setS 14 v14 #[v0,v1,v2,v3,v4,v5,v6,v7,v8,v9,v10,v11,v12,v13,v14] rfl (by simp))
theorem Fr.s15{S:Nat->Prop}{a w:World}(h:Fr S a w){b:Nat}(hb:S b\/a.heap.size<=b)(v0 v1 v2 v3 v4 v5 v6 v7 v8 v9 v10 v11 v12 v13 v14:Value):Fr S a (((((((((((((((w.setCell ⟨b,0,none⟩ v0).setCell ⟨b,1,none⟩ v1).setCell ⟨b,2,none⟩ v2).setCell ⟨b,3,none⟩ v3).setCell ⟨b,4,none⟩ v4).setCell ⟨b,5,none⟩ v5).setCell ⟨b,6,none⟩ v6).setCell ⟨b,7,none⟩ v7).setCell ⟨b,8,none⟩ v8).setCell ⟨b,9,none⟩ v9).setCell ⟨b,10,none⟩ v10).setCell ⟨b,11,none⟩ v11).setCell ⟨b,12,none⟩ v12).setCell ⟨b,13,none⟩ v13).setCell ⟨b,14,none⟩ v14):=
 (((((((((((((((h.set hb 0 v0).set hb 1 v1).set hb 2 v2).set hb 3 v3).set hb 4 v4).set hb 5 v5).set hb 6 v6).set hb 7 v7).set hb 8 v8).set hb 9 v9).set hb 10 v10).set hb 11 v11).set hb 12 v12).set hb 13 v13).set hb 14 v14)
structure DX(rb g cap:Nat)(T:List Pu.Tok)(w0:World)(db:Nat)(t:Pu.Tok)(σ:St)(vv:Value)(vs:List Pu.Tok)(mv:Value)(xs:List NV)(L:List Nd)(P:Nat->Prop)(wr:World):Prop where
 ss:SS wr rb g cap T σ
 ke:Ke rb w0 wr
 zz:db+1<=wr.heap.size
 rs:Bx wr w0.heap.size zDecl
 bd:Bx wr db (declA t vv mv)
 vo:wr.ownsRow (db+1) 58 4 vv vs.length (qbu vs)
 mo:wr.ownsRow (db+1) 62 7 mv xs.length (flat xs)
 vm:∀q,vv.ownBlock=some q->mv.ownBlock≠some q
 pb:∀b,P b->db<b/\b<wr.heap.size
 pv:∀b,P b->vv.ownBlock≠some b
 pm:∀b,P b->mv.ownBlock≠some b
 nr:∀i(h:i<L.length)(h2:i<xs.length),NR wr P L[i] xs[i]
section
variable {rb g cap:Nat} {T:List Pu.Tok} {w0:World} {db:Nat} {t:Pu.Tok} {σ σ':St} {vv mv:Value} {vs:List Pu.Tok} {xs:List NV} {L:List Nd} {P:Nat->Prop} {wr w':World}
theorem DX.mov(h:DX rb g cap T w0 db t σ vv vs mv xs L P wr)(hd:w0.heap.size<db)(s:SS w' rb g cap T σ')(k:Ke rb w0 w')(hs:wr.heap.size<=w'.heap.size)(hb:∀b,w0.heap.size<=b->b<wr.heap.size->w'.heap[b]? =wr.heap[b]?):DX rb g cap T w0 db t σ' vv vs mv xs L P w':=
 ⟨s,k,Nat.le_trans h.zz hs,h.rs.same hs (hb _ (br _) h.rs.z),h.bd.same hs (hb _ (Nat.le_of_lt hd) h.bd.z),own_same h.vo (fun q hq=>by have:=qa3 h.vo q hq;exact hb q (by omega) this.2),own_same h.mo (fun q hq=>by have:=qa3 h.mo q hq;exact hb q (by omega) this.2),h.vm,fun b p=>⟨(h.pb b p).1,Nat.lt_of_lt_of_le (h.pb b p).2 hs⟩,h.pv,h.pm,fun i a b=>(h.nr i a b).move hs (fun c p z=>hb c (by have:=(h.pb c p).1;omega) z) (fun _ p _=>p)⟩
theorem DX.kee(h:DX rb g cap T w0 db t σ vv vs mv xs L P wr)(hr:rb<w0.heap.size)(hd:w0.heap.size<db)(k:Ke rb wr w')(s:SS w' rb g cap T σ'):DX rb g cap T w0 db t σ' vv vs mv xs L P w':=
 h.mov hd s (h.ke.trans k) k.size (fun b h1 h2=>k.block b h2 (by omega))
theorem DX.bel(h:DX rb g cap T w0 db t σ vv vs mv xs L P wr)(hd:w0.heap.size<db)(hb:Below wr.heap.size wr w'):DX rb g cap T w0 db t σ vv vs mv xs L P w':=
 h.mov hd (h.ss.below hb) (h.ke.trans (Ke.of hb)) hb.size (fun b _ h2=>hb.block b h2)
theorem DX.growV{W w3:World}{v3:Value}{a:Pu.Tok}(h:DX rb g cap T w0 db t σ vv vs mv xs L P W)(hr:rb<w0.heap.size)(hg0:g<w0.heap.size)(hd:w0.heap.size<db)(hg:W.grownBy w3 vv.ownBlock)(ho:w3.ownsRow (db+1) 58 4 v3 (vs.length+1) (qbu vs++[.int .i64 (a.kind:Int),.string a.text,.int .i64 (a.frm:Int),.int .i64 (a.to:Int)]))(ha:v3.ownBlock=vv.ownBlock\/v3.ownBlock=some W.heap.size):
 DX rb g cap T w0 db t σ v3 (vs++[a]) mv xs L P (w3.setCell ⟨db,6,none⟩ v3):=by
 have hq:∀q,vv.ownBlock=some q->db+1<=q/\q<W.heap.size:=qa3 h.vo
 have hm:∀q,mv.ownBlock=some q->db+1<=q/\q<W.heap.size:=qa3 h.mo
 have e1:(vs++[a]).length=vs.length+1:=by simp
 have e2:qbu (vs++[a])=qbu vs++[.int .i64 (a.kind:Int),.string a.text,.int .i64 (a.frm:Int),.int .i64 (a.to:Int)]:=by simp[qbu]
 have zs:(w3.setCell ⟨db,6,none⟩ v3).heap.size=w3.heap.size:=by simp[World.setCell]
 refine⟨(SS.grown hg h.ss (fun j hj=>by have:=hq j hj;omega)).set (by omega) (by omega) _ _,(Ke.grown hg h.ke (fun j hj=>by have:=hq j hj;omega)).setNew (Nat.le_of_lt hd) _ _,by rw[zs];exact Nat.le_trans h.zz hg.size,(Bx.grown hg h.rs (fun j hj=>by have:=hq j hj;omega)).setO (by omega) _ _,(Bx.grown hg h.bd (fun j hj=>by have:=hq j hj;omega)).setS 6 v3 _ rfl (by simp),by rw[e1,e2];exact qb4 ho (by omega) _ _,qb4 (own_same h.mo (fun q hj=>hg.block q (hm q hj).2 (fun e=>h.vm q e.symm hj))) (by omega) _ _,?_,fun b p=>⟨(h.pb b p).1,by rw[zs];exact Nat.lt_of_lt_of_le (h.pb b p).2 hg.size⟩,?_,h.pm,fun i u v=>(NR.grown hg (h.nr i u v) (fun j b hj p e=>h.pv b p (by rw[hj,e]))).set (fun b p _=>by have:=(h.pb b p).1;omega) _ _⟩
 .intro q hv
  rcases ha with e|e
  .rw[e]at hv;exact h.vm q hv
  .rw[e]at hv;cases hv;intro hj;have:=hm _ hj;omega
 .intro b p hv
  rcases ha with e|e
  .rw[e]at hv;exact h.pv b p hv
  .rw[e]at hv;cases hv;have:=(h.pb _ p).2;omega
theorem flat_one(xs:List NV)(y:NV):flat (xs++[y])=flat xs++y.l:=by simp[flat]
theorem DX.growE{W w3:World}{v3:Value}{y:NV}(h:DX rb g cap T w0 db t σ vv vs mv xs L P W)(hr:rb<w0.heap.size)(hg0:g<w0.heap.size)(hd:w0.heap.size<db)(hg:W.grownBy w3 mv.ownBlock)(ho:w3.ownsRow (db+1) 62 7 v3 (xs.length+1) (flat xs++y.l))(ha:v3.ownBlock=mv.ownBlock\/v3.ownBlock=some W.heap.size):
 DX rb g cap T w0 db t σ vv vs v3 (xs++[y]) [] (fun _=>False) (w3.setCell ⟨db,7,none⟩ v3):=by
 have hq:∀q,vv.ownBlock=some q->db+1<=q/\q<W.heap.size:=qa3 h.vo
 have hm:∀q,mv.ownBlock=some q->db+1<=q/\q<W.heap.size:=qa3 h.mo
 have e1:(xs++[y]).length=xs.length+1:=by simp
 have zs:(w3.setCell ⟨db,7,none⟩ v3).heap.size=w3.heap.size:=by simp[World.setCell]
 refine⟨(SS.grown hg h.ss (fun j hj=>by have:=hm j hj;omega)).set (by omega) (by omega) _ _,(Ke.grown hg h.ke (fun j hj=>by have:=hm j hj;omega)).setNew (Nat.le_of_lt hd) _ _,by rw[zs];exact Nat.le_trans h.zz hg.size,(Bx.grown hg h.rs (fun j hj=>by have:=hm j hj;omega)).setO (by omega) _ _,(Bx.grown hg h.bd (fun j hj=>by have:=hm j hj;omega)).setS 7 v3 _ rfl (by simp),qb4 (own_same h.vo (fun q hj=>hg.block q (hq q hj).2 (fun e=>h.vm q hj e.symm))) (by omega) _ _,by rw[e1,flat_one];exact qb4 ho (by omega) _ _,?_,fun b p=>p.elim,fun b p=>p.elim,fun b p=>p.elim,fun i hi=>absurd hi (Nat.not_lt_zero _)⟩
 intro q hv hj
 rcases ha with e|e
 .rw[e]at hj;exact h.vm q hv hj
 .rw[e]at hj;cases hj;have:=hq _ hv;omega
theorem DX.growM{W w3:World}{v3:Value}{y:NV}{p:Nd}{lo:Nat}(h:DX rb g cap T w0 db t σ vv vs mv xs L P W)(hr:rb<w0.heap.size)(hg0:g<w0.heap.size)(hd:w0.heap.size<db)(hg:W.grownBy w3 mv.ownBlock)(ho:w3.ownsRow (db+1) 62 7 v3 (xs.length+1) (flat xs++y.l))(ha:v3.ownBlock=mv.ownBlock\/v3.ownBlock=some W.heap.size)(hlo:db<lo)(hlv:∀q,vv.ownBlock=some q->q<lo)(hlm:∀q,mv.ownBlock=some q->q<lo)(hL:L.length=xs.length)(hp:NR W (fun b=>lo<=b/\b<W.heap.size) p y):
 DX rb g cap T w0 db t σ vv vs v3 (xs++[y]) (L++[p]) (fun b=>P b\/(lo<=b/\b<W.heap.size)) (w3.setCell ⟨db,7,none⟩ v3):=by
 have hE:=h.growE hr hg0 hd hg ho ha
 have zs:(w3.setCell ⟨db,7,none⟩ v3).heap.size=w3.heap.size:=by simp[World.setCell]
 refine⟨hE.ss,hE.ke,hE.zz,hE.rs,hE.bd,hE.vo,hE.mo,hE.vm,?_,?_,?_,?_⟩
 .rintro b(q|q)
  .exact⟨(h.pb b q).1,by rw[zs];exact Nat.lt_of_lt_of_le (h.pb b q).2 hg.size⟩
  .exact⟨by omega,by rw[zs];exact Nat.lt_of_lt_of_le q.2 hg.size⟩
 .rintro b(q|q)hv
  .exact h.pv b q hv
  .have:=hlv b hv;omega
 .rintro b pb hv
  rcases ha with e|e
  .rw[e]at hv
   rcases pb with q|q
   .exact h.pm b q hv
   .have:=hlm b hv;omega
  .rw[e]at hv
   cases hv
   rcases pb with q|q
   .have:=(h.pb _ q).2;omega
   .omega
 .have mv1:∀{nd:Nd}{x:NV}{Q:Nat->Prop},NR W Q nd x->(∀b,Q b->db<b/\mv.ownBlock≠some b)->(∀b,Q b->P b\/(lo<=b/\b<W.heap.size))->NR (w3.setCell ⟨db,7,none⟩ v3) (fun b=>P b\/(lo<=b/\b<W.heap.size)) nd x:=fun k h1 h2=>
   ((NR.grown hg k (fun j b hj q e=>(h1 b q).2 (by rw[hj,e]))).set (fun b q _=>by have:=(h1 b q).1;omega) _ _).move (br _) (fun _ _ _=>rfl) (fun b q _=>h2 b q)
  intro i hi h2
  by_cases hlt:i<xs.length
  .rw[List.getElem_append_left hlt,List.getElem_append_left (by omega)]
   exact mv1 (h.nr i (by omega) hlt) (fun b q=>⟨(h.pb b q).1,h.pm b q⟩) (fun b q=>Or.inl q)
  .rw[List.getElem_append_right (by omega),List.getElem_append_right (by omega)]
   have hi':i-xs.length=0:=by simp at h2;omega
   simp only[hL,hi',List.getElem_cons_zero]
   exact mv1 hp (fun b q=>⟨by omega,fun e=>by have:=hlm b e;omega⟩) (fun b q=>Or.inr q)
theorem DX.decl{Wf:World}{vp mp:Option Addr}{vc mc:Nat}(h:DX rb g cap T w0 db t σ (.slice vp vs.length vc) vs (.slice mp xs.length mc) xs L P wr)(hd:w0.heap.size<db)(hL:L.length=xs.length)(hF:Fr (fun b=>b=w0.heap.size) wr Wf):
 DR Wf (fun b=>w0.heap.size<=b) ⟨true,false,t,vp,vs.length,vc,mp,xs.length,mc,NV.no⟩ (.ty t vs L):=by
 have cel:∀b o,b<wr.heap.size->b≠w0.heap.size->Wf.cell? ⟨b,o,none⟩=wr.cell? ⟨b,o,none⟩:=fun b o hb hn=>World.cell?_of_block (a:=⟨b,o,none⟩) (hF.block b hb hn)
 refine⟨rfl,rfl,rfl,hL.symm,fun i hi=>?_,fun i hi=>?_⟩
 .obtain⟨q,c,e⟩:=qb6 h.vo (by omega)
  have hv:=h.vo
  rw[e]at hv
  cases e
  have hq:=qa3 h.vo q rfl
  refine⟨q,rfl,⟨Nat.lt_of_lt_of_le hq.2 hF.size,by omega⟩,?_⟩
  rw[cel q _ hq.2 (by omega),qfw hv _ (by omega)]
  exact(tokCells_at vs i hi).2.1
 .obtain⟨q,c,e⟩:=qb6 h.mo (by omega)
  have hv:=h.mo
  rw[e]at hv
  cases e
  have hq:=qa3 h.mo q rfl
  refine⟨q,xs[i]'(by omega),rfl,⟨Nat.lt_of_lt_of_le hq.2 hF.size,by omega⟩,fun j hj=>?_,(h.nr i hi (by omega)).move hF.size (fun b p z=>hF.block b z (by have:=(h.pb b p).1;intro e;have e:b=w0.heap.size:=e;omega)) (fun b p _=>by have:=(h.pb b p).1;omega)⟩
  rw[cel q _ hq.2 (by omega),qfw hv _ (by omega)]
  exact flat_at xs i j (by omega) hj
end
section
variable {T:List Pu.Tok} {mk sm:M Nd}
theorem vars_yes{f k:Nat}{l:List Pu.Tok}(h:(tk T k).kind=3):qdm T (f+1) l k=qdm T f (l++[tk T k]) (k+1):=by simp[qdm,h]
theorem vars_no{f k:Nat}{l:List Pu.Tok}(h:(tk T k).kind≠3):qdm T f l k=.ok (l,k):=by cases f<;>simp[qdm,h]
theorem makers_err{f k:Nat}{L:List Nd}{fl:Fl}(h:mk k=.error fl):qbj T mk (f+1) L k=.error fl:=by simp only[qbj,bnd,h]
theorem makers_ok{f k k7:Nat}{L:List Nd}{p:Nd}(h:mk k=.ok (p,k7)):qbj T mk (f+1) L k=(if isT (tk T k7) kBar=true then qbj T mk f (L++[p]) (k7+1)else .ok (L++[p],k7)):=by simp only[qbj,bnd,h,qe0]
theorem maker_head{k:Nat}(hsm:sm k=.ok (qb3 (tk T k),k+1))(h:(tk T k).kind=2):qbi T sm k=qdn T sm 1 k:=by
 unfold qbi qdn
 have h1:qa7 T 2 k=.ok (tk T k,k+1):=by simp[qa7,h]
 rw[qcd h1,if_pos (by simp[h]),qcd hsm]
 simp[qb3,qa6,qa9,h,qan]
theorem maker_no{k:Nat}(h:(tk T k).kind≠2):qbi T sm k=.error (flOf (tk T k)):=by
 unfold qbi
 have h1:qa7 T 2 k=.error (flOf (tk T k)):=by simp[qa7,h]
 rw[qb8 h1]
theorem type_nx(σ:St):nx σ (typeM T mk)=nx (nx (nx (nx (nx (nx σ (qag T qce)) (qa7 T 2)) (qdm T T.length [])) (qag T kEq)) (qbj T mk T.length [])) (qag T qeb):=by
 cases σ with
 |error f=>rfl|ok k=>
  simp only[nx,typeM,bnd]
  cases e0:qag T qce k with
  |error f=>rfl|ok p0=>
   simp only
   cases e1:qa7 T 2 p0.2 with
   |error f=>rfl|ok p1=>
    simp only
    cases e2:qdm T T.length [] p1.2 with
    |error f=>rfl|ok p2=>
     simp only
     cases e3:qag T kEq p2.2 with
     |error f=>rfl|ok p3=>
      simp only
      cases e4:qbj T mk T.length [] p3.2 with
      |error f=>rfl|ok p4=>
       simp only
       cases e5:qag T qeb p4.2 with
       |error f=>rfl|ok p5=>rfl
end
end
section
open Go Go.RowKit Un
section
variable {rb g cap:Nat} {T:List Pu.Tok} {mk:M Nd}
def DeclC(rb g cap:Nat)(T:List Pu.Tok)(F:FuncId)(m:M Dc):Prop:=
 ∀(w:World)(σ:St),SS w rb g cap T σ->
  Calls Tryz.prog F #[.pointer (some ⟨rb,0,none⟩)] w fun e w'=>∃x:DV,e=.returned x.v/\Ke rb w w'/\SS w' rb g cap T (nx σ m)/\∀k a k',σ=.ok k->m k=.ok (a,k')->DR w' (fun b=>w.heap.size<=b) x a
def VarR(rb g cap:Nat)(T:List Pu.Tok)(w0:World)(db:Nat)(t:Pu.Tok)(S1:St)(gk:Nat)(wr:World):Prop:=
 ∃(σr:St)(vv:Value)(vs:List Pu.Tok),DX rb g cap T w0 db t σr vv vs (.slice none 0 0) [] [] (fun _=>False) wr/\vs.length<=2000/\
  ((∃k1 k' f,S1=.ok k1/\σr=.ok k'/\Hid (gk=T.length-k')/\T.length<=k'+f/\vs.length<=k'/\Hid (qdm T T.length [] k1=qdm T f vs k'))\/(∃fl,S1=.error fl/\σr=.error fl))
def MakR(rb g cap:Nat)(T:List Pu.Tok)(mk:M Nd)(w0:World)(db:Nat)(t:Pu.Tok)(vv:Value)(vs:List Pu.Tok)(S3:St)(gk:Nat)(bv:Value)(wr:World):Prop:=
 ∃(σr:St)(mv:Value)(xs:List NV)(L:List Nd)(P:Nat->Prop)(mo:Bool),bv=.bool mo/\DX rb g cap T w0 db t σr vv vs mv xs L P wr/\xs.length<=2000/\
  ((∃k3 k' f,S3=.ok k3/\σr=.ok k'/\mo=true/\Hid (gk=T.length-k'+1)/\T.length<=k'+f/\L.length=xs.length/\xs.length<=k'/\Hid (qbj T mk T.length [] k3=qbj T mk f L k'))\/
   (Hid (σr=nx S3 (qbj T mk T.length []))/\(mo=false\/∃fl,σr=.error fl)/\∀k',σr=.ok k'->∃k3,S3=.ok k3/\L.length=xs.length/\qbj T mk T.length [] k3=.ok (L,k')))
theorem declared_C{n:Nat}{head:M Nd}(HH:NodeC rb g cap T 118 #[.pointer (some ⟨rb,0,none⟩),.int .i64 1] head n)(hn:T.length<=n)(hm:∀k a k',head k=.ok (a,k')->k<k')(hk2:∀k,(tk T k).kind=2->mk k=head k)(hkn:∀k,(tk T k).kind≠2->mk k=.error (flOf (tk T k))):
 DeclC rb g cap T 58 (typeM T mk):=by
 intro w σ h
 have hr:=h.hr
 have hg:=h.hg
 have hT:=mlen h
 have HH':=ai HH
 have hmo:=ai hm
 have hK2:=ai hk2
 have hKn:=ai hkn
 have ff:=qd4
 obtain⟨i0,hi0,hz0,hz1,hz2⟩:=info_parts nodeInfo
 obtain⟨j0,hj0,hy0,hy1,hy2⟩:=info_parts tokInfo
 rw[type_nx]
 have H0:=ai (h.alloc (.cells zDecl 64))
 have K0:=ai ((Ke.refl rb w).alloc (.cells zDecl 64))
 have B0:=ai (Bx.new w zDecl 64)
 clear h HH hm hk2 hkn
 go_enter Tryz.func58,Tryz.ntmps58
 go_wp2_with fail
 refine(qch (uh H0) qce).mono ?_
 rintro e w1⟨rfl,hb,hS⟩
 have H1:=ai hS
 have K1:=ai ((uh K0).trans hb)
 have B1:=ai ((uh B0).ke hb (by omega))
 have z1:=hb.size
 simp at z1
 clear hS hb H0 K0 B0
 go_wp2_with fail
 refine(name_S (uh H1) 2 (by decide)).mono ?_
 rintro e w2⟨t,rfl,hb,hS,ht⟩
 have Ht:=ai ht
 have z2:=hb.size
 have hb2:Below w2.heap.size w2 (w2.alloc (.cells (declA t (.slice none 0 0) (.slice none 0 0)) 64)):=bw _
 obtain⟨S1,HS1⟩:∃S,Hid (S=nx (nx σ (qag T qce)) (qa7 T 2)):=⟨_,ai rfl⟩
 rw[<-uh HS1]at hS
 have DX2:Hid (DX rb g cap T w w2.heap.size t S1 (.slice none 0 0) [] (.slice none 0 0) [] [] (fun _=>False) (w2.alloc (.cells (declA t (.slice none 0 0) (.slice none 0 0)) 64))):=
  ⟨hS.below hb2,((uh K1).trans hb).trans (Ke.of hb2),by simp,((uh B1).ke hb (by omega)).below hb2,Bx.new _ _ _,⟨rfl,Or.inl ⟨rfl,rfl⟩⟩,⟨rfl,Or.inl ⟨rfl,rfl⟩⟩,fun q h=>by simp[Value.ownBlock]at h,fun b p=>p.elim,fun b p=>p.elim,fun b p=>p.elim,fun i hi=>absurd hi (Nat.not_lt_zero _)⟩
 clear hS hb ht H1 K1 B1 hb2
 unfold tokV
 go_wp2_with fail
 obtain⟨gk0,HG0⟩:∃n,Hid (∀k3,S1=.ok k3->n=T.length-k3):=by
  cases S1 with
  |error fl=>exact⟨0,ai (fun _ h=>by cases h)⟩|ok k3=>exact⟨T.length-k3,ai (fun _ h=>by cases h;rfl)⟩
 go_loopg[] gk0 (fun gk wr=>VarR rb g cap T w w2.heap.size t S1 gk wr)
 case atStart=>
  refine⟨S1,_,[],uh DX2,by simp,?_⟩
  cases S1 with
  |error fl=>exact Or.inr ⟨fl,rfl,rfl⟩|ok k1=>exact Or.inl ⟨k1,k1,T.length,rfl,rfl,ai (uh HG0 k1 rfl),by omega,by simp,ai rfl⟩
 case round=>
  clear DX2 HG0
  obtain⟨σr,vv,vs,hDX,hvl,hk⟩:=hrel
  have DXr:=ai hDX
  clear hDX
  have HK:=ai hk
  clear hk
  go_wp2_with fail
  refine(of_S (uh DXr).ss 3).mono ?_
  rintro e w3⟨rfl,hb⟩
  have DX3:=ai ((uh DXr).bel (by omega) hb)
  have z3:=hb.size
  have zr:=(uh DXr).zz
  clear DXr hb
  cases hof:ofS T σr 3 with
  |true=>
   obtain⟨k',rfl,hk3⟩:=ofS_yes hof
   obtain⟨k1,k'',f,hS1,hσ,hgk,hfu,hvk,hA⟩:=(uh HK).resolve_right (by rintro⟨fl,_,q⟩;cases q)
   cases hσ
   have hkT:=mlt (uh DX3).ss
   have HS1':=ai hS1
   have hk7:(tk T k').kind≠7:=by omega
   have hk3':=ai hk3
   clear hS1 HK hk3 hof
   go_wp2_with fail
   refine(qcp (uh DX3).ss hk7).mono ?_
   rintro e w4⟨rfl,hb,hS⟩
   have hb4:Below w4.heap.size w4 ((w4.alloc (.cells #[.int .i64 ((tk T k').kind:Int),.string (tk T k').text,.int .i64 ((tk T k').frm:Int),.int .i64 ((tk T k').to:Int)] 58)).alloc (.cells #[.int .i64 ((tk T k').kind:Int),.string (tk T k').text,.int .i64 ((tk T k').frm:Int),.int .i64 ((tk T k').to:Int)] 58)):=(bw _).alloc (by simp) _
   have z4:=hb.size
   have hb4':Below w4.heap.size w4 (w4.alloc (.cells #[.int .i64 ((tk T k').kind:Int),.string (tk T k').text,.int .i64 ((tk T k').frm:Int),.int .i64 ((tk T k').to:Int)] 58)):=bw _
   have DX4:=ai (((uh DX3).kee hr (by omega) hb hS).bel (by omega) hb4)
   obtain⟨cd,fd,zd⟩:=(((uh DX3).kee hr (by omega) hb hS).bel (by omega) hb4').bd
   clear hb hS hb4 DX3 hb4'
   unfold tokV
   go_wp2_with(at_builtin;go_must(refine wpList_append_own_at _ rfl (.tmp 17) (.tmp 19) 59 rfl (w2.heap.size+1) 58 j0 _ 4 40 toksUnder hj0 hy0 hy1 hy2 rfl (by decide) _ _ _ rfl (uh DX4).vo ⟨w4.heap.size+1,0,none⟩ 1 1 [.int .i64 ((tk T k').kind:Int),.string (tk T k').text,.int .i64 ((tk T k').frm:Int),.int .i64 ((tk T k').to:Int)] rfl rfl (qbw _ _ _ _ (by simp)) (by intro u hu;simp at hu;rcases hu with rfl|rfl|rfl|rfl<;>rfl) (by unfold maxLen;omega) (by omega) (uh DX4).zz ?_);intro v3 w8 hown3 hg3 hnil3 hat3;obtain⟨q3,c3,rfl⟩:=qb6 hown3 (by omega);obtain⟨cg,fg,zg⟩:=Bx.grown hg3 (uh DX4).bd (fun j hj=>by have:=qa3 (uh DX4).vo j hj;omega))
   go_roundg(T.length-(k'+1))
   case measure=>rw[uh hgk];omega
   case rel=>
    obtain⟨f2,rfl⟩:∃f2,f=f2+1:=⟨f-1,by omega⟩
    refine⟨.ok (k'+1),_,vs++[tk T k'],(uh DX4).growV hr hg (by omega) hg3 hown3 hat3,by simp;omega,Or.inl ⟨k1,k'+1,f2,uh HS1',rfl,ai rfl,by omega,by simp;omega,ai ?_⟩⟩
    rw[uh hA,vars_yes (uh hk3')]
  |false=>
   have HSr2:Hid (σr=nx S1 (qdm T T.length [])):=by
    rcases uh HK with⟨k1,k',f,e1,e2,_,_,_,e6⟩|⟨fl,e1,e2⟩
    .have hne:(tk T k').kind≠3:=by rw[e2]at hof;simpa[ofS]using hof
     show _=_
     rw[e1,e2,qas ((uh e6).trans (vars_no hne))]
    .show _=_
     rw[e1,e2];rfl
   have HVs:Hid (∀k2 vs1 k3,nx (nx σ (qag T qce)) (qa7 T 2)=.ok k2->qdm T T.length [] k2=.ok (vs1,k3)->vs=vs1):=by
    intro k2 vs1 k3 e q
    rcases uh HK with⟨k1,k',f,e1,e2,_,_,_,e6⟩|⟨fl,e1,e2⟩
    .have hne:(tk T k').kind≠3:=by rw[e2]at hof;simpa[ofS]using hof
     rw[uh HS1,e]at e1
     cases e1
     have e6:=uh e6
     rw[q,vars_no hne]at e6
     cases e6
     rfl
    .rw[uh HS1,e]at e1
     cases e1
   clear HK
   go_wp2_with fail
   refine(qch (uh DX3).ss kEq).mono ?_
   rintro e w4⟨rfl,hb,hS⟩
   have DX4:=ai ((uh DX3).kee hr (by omega) hb hS)
   clear DX3 hb hS
   go_wp2_with fail
   obtain⟨S3,HS3⟩:∃S,Hid (S=nx (nx (nx (nx σ (qag T qce)) (qa7 T 2)) (qdm T T.length [])) (qag T kEq)):=⟨_,ai rfl⟩
   rw[uh HSr2,uh HS1,<-uh HS3]at DX4
   obtain⟨gk1,HG1⟩:∃n,Hid (∀k3,S3=.ok k3->n=T.length-k3+1):=by
    cases S3 with
    |error fl=>exact⟨0,ai (fun _ h=>by cases h)⟩|ok k3=>exact⟨T.length-k3+1,ai (fun _ h=>by cases h;rfl)⟩
   clear HSr2 hof
   go_loopg[5] gk1 (fun gk bv wr=>MakR rb g cap T mk w w2.heap.size t vv vs S3 gk bv wr)
   case atStart=>
    refine⟨S3,_,[],[],_,true,rfl,uh DX4,by simp,?_⟩
    cases S3 with
    |error fl=>exact Or.inr ⟨ai rfl,Or.inr ⟨fl,rfl⟩,fun k' q=>by cases q⟩|ok k3=>exact Or.inl ⟨k3,k3,T.length,rfl,rfl,rfl,ai (uh HG1 k3 rfl),by omega,rfl,by simp,ai rfl⟩
   case round=>
    clear DX4 HG1
    obtain⟨σr,mv,xs,L,P,mo,rfl,hDX,hxl,hk⟩:=hrel
    have DXr:=ai hDX
    clear hDX
    rcases hk with⟨k3,k',f,hS3,rfl,rfl,hgk,hfu,hLl,hxk,hA⟩|⟨HSr,hmo2,HLr⟩
    .have HA:=ai (uh hA)
     have hkT:=mlt (uh DXr).ss
     have HS3':=ai hS3
     have zr:=(uh DXr).zz
     clear hS3 hA
     go_wp2_with fail
     refine(ok_S (uh DXr).ss).mono ?_
     rintro e w9⟨rfl,rfl⟩
     go_wp2_with fail
     refine(of_S (uh DXr).ss 2).mono ?_
     rintro e w4⟨rfl,hb⟩
     have DX4:=ai ((uh DXr).bel (by omega) hb)
     have z4:=hb.size
     clear DXr hb
     cases hof:ofS T (.ok k') 2 with
     |true=>
      obtain⟨k'',ek,hkk⟩:=ofS_yes hof
      cases ek
      have hmk:=ai (uh hK2 k' hkk)
      clear hkk hof
      go_wp2_with fail
      refine(uh HH' _ _ (uh DX4).ss (by intro j hj;omega)).mono ?_
      rintro e w5⟨y,rfl,hb,hS,hN⟩
      have z5:=hb.size
      obtain⟨σ7,HS7⟩:∃s,Hid (s=nx (.ok k') head):=⟨_,ai rfl⟩
      rw[<-uh HS7]at hS
      have hb7:Below w5.heap.size w5 ((w5.alloc (.cells y.l.toArray 62)).alloc (.cells y.l.toArray 62)):=(bw _).alloc (by simp) _
      have hb7':Below w5.heap.size w5 (w5.alloc (.cells y.l.toArray 62)):=bw _
      have DX7:=ai (((uh DX4).kee hr (by omega) hb hS).bel (by omega) hb7)
      obtain⟨cd,fd,zd⟩:=(((uh DX4).kee hr (by omega) hb hS).bel (by omega) hb7').bd
      have HNy:=ai (fun a k5 (q:head k'=.ok (a,k5))=>(((hN k' a k5 rfl q).rng w4.heap.size (fun b hb=>hb)).bel hb7).move (Q:=fun b=>w4.heap.size<=b/\b<((w5.alloc (.cells y.l.toArray 62)).alloc (.cells y.l.toArray 62)).heap.size) (br _) (fun _ _ _=>rfl) (fun b p hz=>⟨p.1,hz⟩))
      have hrow:=ai (fun q hq=>(qa3 (uh DX4).mo q hq).2)
      have hrv:=ai (fun q hq=>(qa3 (uh DX4).vo q hq).2)
      clear hb hS hN DX4 hb7 hb7'
      unfold NV.v
      simp only[NV.l]at cd fd zd
      go_wp2_with(at_builtin;go_must(refine wpList_append_own_at _ rfl (.tmp 37) (.tmp 39) 60 rfl (w2.heap.size+1) 62 i0 _ 7 80 qfh hi0 hz0 hz1 hz2 rfl (by decide) _ _ _ rfl (uh DX7).mo ⟨w5.heap.size+1,0,none⟩ 1 1 y.l rfl rfl (qbw _ _ _ _ (by simp)) (by intro u hu;simp[NV.l]at hu;rcases hu with rfl|rfl|rfl|rfl|rfl|rfl|rfl<;>rfl) (by unfold maxLen;omega) (by omega) (uh DX7).zz ?_);intro v3 w8 hown3 hg3 hnil3 hat3;obtain⟨q3,c3,rfl⟩:=qb6 hown3 (by omega);obtain⟨cg,fg,zg⟩:=Bx.grown hg3 (uh DX7).bd (fun j hj=>by have:=qa3 (uh DX7).mo j hj;omega))
      obtain⟨f2,rfl⟩:∃f2,f=f2+1:=⟨f-1,by omega⟩
      clear cd fd zd hnil3
      cases σ7 with
      |error fl=>
       have HME:Hid (mk k'=.error fl):=by
        show _=_
        rw[uh hmk]
        have:=uh HS7
        cases e:head k' with
        |error g=>rw[qbn e]at this;cases this;rfl|ok p=>obtain⟨a,k1⟩:=p;rw[qas e]at this;cases this
       clear HNy hrow hrv
       have DX8:=ai ((uh DX7).growE hr hg (by omega) hg3 hown3 hat3)
       clear DX7 hg3 hown3 hat3 cg fg zg
       refine(is_S (uh DX8).ss kBar).mono ?_
       rintro e w10⟨rfl,hb⟩
       have DX9:=ai ((uh DX8).bel (by omega) hb)
       clear DX8 hb
       have hbar:isS T (.error fl) kBar=false:=rfl
       go_wp2_with fail
       go_roundg 0
       case measure=>rw[uh hgk];omega
       case rel=>
        refine⟨.error fl,_,xs++[y],[],_,false,rfl,uh DX9,by simp;omega,Or.inr ⟨ai ?_,Or.inl rfl,fun _ q=>by cases q⟩⟩
        rw[uh HS3']
        exact(qbn ((uh HA).trans (makers_err (uh HME)))).symm
      |ok k7=>
       obtain⟨p,mp⟩:∃p,head k'=.ok (p,k7):=by
        have:=uh HS7
        cases e:head k' with
        |error g=>rw[qbn e]at this;cases this|ok p=>obtain⟨a,k1⟩:=p;rw[qas e]at this;cases this;exact⟨a,rfl⟩
       have hlt:=uh hmo _ _ _ mp
       have HST:=ai (makers_ok (T:=T) (f:=f2) (L:=L) ((uh hmk).trans mp))
       have DX8:=ai ((uh DX7).growM hr hg (by omega) hg3 hown3 hat3 (lo:=w4.heap.size) (by omega) (uh hrv) (uh hrow) hLl (uh HNy p k7 mp))
       clear DX7 hg3 hown3 hat3 cg fg zg HNy hrow hrv mp hmk
       refine(is_S (uh DX8).ss kBar).mono ?_
       rintro e w10⟨rfl,hb⟩
       have DX9:=ai ((uh DX8).bel (by omega) hb)
       clear DX8 hb
       have hk7T:=mlt (uh DX9).ss
       cases hbar:isT (tk T k7) kBar with
       |true=>
        have hbs:isS T (.ok k7) kBar=true:=hbar
        have hkind:(tk T k7).kind≠7:=by
         intro q
         unfold isT at hbar
         rw[q]at hbar
         simp at hbar
        have HBR:=ai hbar
        clear hbar
        go_wp2_with fail
        refine(qcp (uh DX9).ss hkind).mono ?_
        rintro e w11⟨rfl,hb,hS⟩
        have DX10:=ai ((uh DX9).kee hr (by omega) hb hS)
        clear DX9 hb hS
        go_wp2_with fail
        go_roundg(T.length-(k7+1)+1)
        case measure=>rw[uh hgk];omega
        case rel=>
         refine⟨.ok (k7+1),_,xs++[y],L++[p],_,true,rfl,uh DX10,by simp;omega,Or.inl ⟨k3,k7+1,f2,uh HS3',rfl,rfl,ai rfl,by omega,by simp;omega,by simp;omega,ai ?_⟩⟩
         rw[uh HA,uh HST,if_pos (uh HBR)]
       |false=>
        have hbs:isS T (.ok k7) kBar=false:=hbar
        have HBR:=ai hbar
        clear hbar
        go_wp2_with fail
        go_roundg 0
        case measure=>rw[uh hgk];omega
        case rel=>
         have hA2:qbj T mk T.length [] k3=.ok (L++[p],k7):=by rw[uh HA,uh HST,if_neg (by rw[uh HBR];simp)]
         refine⟨.ok k7,_,xs++[y],L++[p],_,false,rfl,uh DX9,by simp;omega,Or.inr ⟨ai ?_,Or.inl rfl,fun k8 q=>?_⟩⟩
         .rw[uh HS3']
          exact(qas hA2).symm
         .cases q
          exact⟨k3,uh HS3',by simp;omega,hA2⟩
     |false=>
      have HME:=ai (uh hKn k' (by simpa[ofS]using hof))
      obtain⟨fl,hfl⟩:∃fl,fl=flOf (tk T k'):=⟨_,rfl⟩
      rw[<-hfl]at HME
      go_wp2_with fail
      refine(wrong_S (α:=Nd) (uh DX4).ss).mono ?_
      rintro e w6⟨rfl,hb,hS⟩
      rw[show nx (.ok k') (qb1 (α:=Nd) T)=.error fl by rw[hfl];rfl]at hS
      have DX6:=ai ((uh DX4).kee hr (by omega) hb hS)
      have z6:=hb.size
      clear DX4 hb hS hfl hof
      go_wp2_with fail
      refine(uh HH' _ _ (uh DX6).ss (by intro j hj;cases hj)).mono ?_
      rintro e w5⟨y,rfl,hb,hS,hN⟩
      have z5:=hb.size
      obtain⟨σ7,HS7⟩:∃s,Hid (s=nx (.error fl:St) head):=⟨_,ai rfl⟩
      rw[<-uh HS7]at hS
      have hb7:Below w5.heap.size w5 ((w5.alloc (.cells y.l.toArray 62)).alloc (.cells y.l.toArray 62)):=(bw _).alloc (by simp) _
      have hb7':Below w5.heap.size w5 (w5.alloc (.cells y.l.toArray 62)):=bw _
      have DX7:=ai (((uh DX6).kee hr (by omega) hb hS).bel (by omega) hb7)
      obtain⟨cd,fd,zd⟩:=(((uh DX6).kee hr (by omega) hb hS).bel (by omega) hb7').bd
      clear hb hS hN DX6 hb7 hb7'
      unfold NV.v
      simp only[NV.l]at cd fd zd
      go_wp2_with(at_builtin;go_must(refine wpList_append_own_at _ rfl (.tmp 37) (.tmp 39) 60 rfl (w2.heap.size+1) 62 i0 _ 7 80 qfh hi0 hz0 hz1 hz2 rfl (by decide) _ _ _ rfl (uh DX7).mo ⟨w5.heap.size+1,0,none⟩ 1 1 y.l rfl rfl (qbw _ _ _ _ (by simp)) (by intro u hu;simp[NV.l]at hu;rcases hu with rfl|rfl|rfl|rfl|rfl|rfl|rfl<;>rfl) (by unfold maxLen;omega) (by omega) (uh DX7).zz ?_);intro v3 w8 hown3 hg3 hnil3 hat3;obtain⟨q3,c3,rfl⟩:=qb6 hown3 (by omega);obtain⟨cg,fg,zg⟩:=Bx.grown hg3 (uh DX7).bd (fun j hj=>by have:=qa3 (uh DX7).mo j hj;omega))
      obtain⟨f2,rfl⟩:∃f2,f=f2+1:=⟨f-1,by omega⟩
      clear cd fd zd hnil3
      have e7:σ7=.error fl:=uh HS7
      subst e7
      have DX8:=ai ((uh DX7).growE hr hg (by omega) hg3 hown3 hat3)
      clear DX7 hg3 hown3 hat3 cg fg zg
      refine(is_S (uh DX8).ss kBar).mono ?_
      rintro e w10⟨rfl,hb⟩
      have DX9:=ai ((uh DX8).bel (by omega) hb)
      clear DX8 hb
      have hbar:isS T (.error fl) kBar=false:=rfl
      go_wp2_with fail
      go_roundg 0
      case measure=>rw[uh hgk];omega
      case rel=>
       refine⟨.error fl,_,xs++[y],[],_,false,rfl,uh DX9,by simp;omega,Or.inr ⟨ai ?_,Or.inl rfl,fun _ q=>by cases q⟩⟩
       rw[uh HS3']
       exact(qbn ((uh HA).trans (makers_err (uh HME)))).symm
    .by_cases hmf:mo=false
     .subst hmf
      clear hmo2
      go_wp2_with fail
      refine(qch (uh DXr).ss qeb).mono ?_
      rintro e w5⟨rfl,hb5,hS5⟩
      have DX5:=ai ((uh DXr).kee hr (by omega) hb5 hS5)
      clear hb5 hS5 DXr
      obtain⟨vp,vc,rfl⟩:=qfi (uh DX5).vo
      obtain⟨mp,mc,rfl⟩:=qfi (uh DX5).mo
      obtain⟨cr,fr,zr⟩:=(uh DX5).rs
      obtain⟨cd,fd,zd⟩:=(uh DX5).bd
      go_wp2_with fail
      have BF:=(uh DX5).rs.set15 rfl (.bool true) (.bool false) (.int .i64 (t.kind:Int)) (.string t.text) (.int .i64 (t.frm:Int)) (.int .i64 (t.to:Int)) (.slice vp vs.length vc) (.slice mp xs.length mc) (.int .i64 0) (.string ⟨#[]⟩) (.int .i64 0) (.slice none 0 0) (.int .i64 0) (.int .i64 0) (.int .i64 0)
      have F:=(Fr.refl (fun b=>b=w.heap.size) w5).s15 (b:=w.heap.size) (Or.inl rfl) (.bool true) (.bool false) (.int .i64 (t.kind:Int)) (.string t.text) (.int .i64 (t.frm:Int)) (.int .i64 (t.to:Int)) (.slice vp vs.length vc) (.slice mp xs.length mc) (.int .i64 0) (.string ⟨#[]⟩) (.int .i64 0) (.slice none 0 0) (.int .i64 0) (.int .i64 0) (.int .i64 0)
      obtain⟨cF,fF,zF⟩:=BF
      refine bodyPost_ret (v:=DV.v ⟨true,false,t,vp,vs.length,vc,mp,xs.length,mc,NV.no⟩) (by simp[results,Tryz.results58,go_sem,cF,DV.v,NV.no];try rfl) rfl ⟨_,rfl,?_,?_,?_⟩
      .exact⟨F.os.trans (uh DX5).ke.os,F.tape.trans (uh DX5).ke.tape,F.output.trans (uh DX5).ke.output,Nat.le_trans (uh DX5).ke.size F.size,fun k hk hn=>(F.block k (Nat.lt_of_lt_of_le hk (uh DX5).ke.size) (by intro e;have e:k=w.heap.size:=e;omega)).trans ((uh DX5).ke.block k hk hn)⟩
      .have hz:=(uh DX5).ss.hr
       have hgz:=(uh DX5).ss.hg
       rw[<-uh HS3,<-uh HSr]
       exact(uh DX5).ss.same F.size (F.block rb hz (by intro e;have e:rb=w.heap.size:=e;omega)) (F.block g hgz (by intro e;have e:g=w.heap.size:=e;omega))
      .intro k a k' hk hq
       unfold typeM at hq
       obtain⟨_,k1,q1,r1⟩:=qad hq
       obtain⟨t1,k2,q2,r2⟩:=qad r1
       obtain⟨vs1,k3,q3,r3⟩:=qad r2
       obtain⟨_,k4,q4,r4⟩:=qad r3
       obtain⟨ms,k5,q5,r5⟩:=qad r4
       obtain⟨_,k6,q6,r6⟩:=qad r5
       cases r6
       have s1:nx σ (qag T qce)=.ok k1:=by rw[hk];exact qas q1
       have s2:nx (nx σ (qag T qce)) (qa7 T 2)=.ok k2:=by rw[s1];exact qas q2
       have s3:nx (nx (nx σ (qag T qce)) (qa7 T 2)) (qdm T T.length [])=.ok k3:=by rw[s2];exact qas q3
       have s4:S3=.ok k4:=by rw[uh HS3,s3];exact qas q4
       have s5:σr=.ok k5:=by rw[uh HSr,s4];exact qas q5
       obtain⟨k4',e4,hLx,hA⟩:=HLr k5 s5
       rw[s4]at e4
       cases e4
       rw[q5]at hA
       cases hA
       have ht:t=t1:=uh Ht k1 t1 k2 s1 q2
       have hv:vs=vs1:=uh HVs k2 vs1 k3 s2 q3
       subst ht
       subst hv
       exact(uh DX5).decl (by omega) hLx F
     .have hm1:mo=true:=by cases mo<;>simp_all
      obtain⟨fl,hfl⟩:=hmo2.resolve_left hmf
      have hok:okS σr=false:=by rw[hfl];rfl
      subst hm1
      clear hfl hmo2 hmf
      go_wp2_with fail
      refine(ok_S (uh DXr).ss).mono ?_
      rintro e w9⟨rfl,rfl⟩
      go_wp2_with fail
      refine(qch (uh DXr).ss qeb).mono ?_
      rintro e w5⟨rfl,hb5,hS5⟩
      have DX5:=ai ((uh DXr).kee hr (by omega) hb5 hS5)
      clear hb5 hS5 DXr
      obtain⟨vp,vc,rfl⟩:=qfi (uh DX5).vo
      obtain⟨mp,mc,rfl⟩:=qfi (uh DX5).mo
      obtain⟨cr,fr,zr⟩:=(uh DX5).rs
      obtain⟨cd,fd,zd⟩:=(uh DX5).bd
      go_wp2_with fail
      have BF:=(uh DX5).rs.set15 rfl (.bool true) (.bool false) (.int .i64 (t.kind:Int)) (.string t.text) (.int .i64 (t.frm:Int)) (.int .i64 (t.to:Int)) (.slice vp vs.length vc) (.slice mp xs.length mc) (.int .i64 0) (.string ⟨#[]⟩) (.int .i64 0) (.slice none 0 0) (.int .i64 0) (.int .i64 0) (.int .i64 0)
      have F:=(Fr.refl (fun b=>b=w.heap.size) w5).s15 (b:=w.heap.size) (Or.inl rfl) (.bool true) (.bool false) (.int .i64 (t.kind:Int)) (.string t.text) (.int .i64 (t.frm:Int)) (.int .i64 (t.to:Int)) (.slice vp vs.length vc) (.slice mp xs.length mc) (.int .i64 0) (.string ⟨#[]⟩) (.int .i64 0) (.slice none 0 0) (.int .i64 0) (.int .i64 0) (.int .i64 0)
      obtain⟨cF,fF,zF⟩:=BF
      refine bodyPost_ret (v:=DV.v ⟨true,false,t,vp,vs.length,vc,mp,xs.length,mc,NV.no⟩) (by simp[results,Tryz.results58,go_sem,cF,DV.v,NV.no];try rfl) rfl ⟨_,rfl,?_,?_,?_⟩
      .exact⟨F.os.trans (uh DX5).ke.os,F.tape.trans (uh DX5).ke.tape,F.output.trans (uh DX5).ke.output,Nat.le_trans (uh DX5).ke.size F.size,fun k hk hn=>(F.block k (Nat.lt_of_lt_of_le hk (uh DX5).ke.size) (by intro e;have e:k=w.heap.size:=e;omega)).trans ((uh DX5).ke.block k hk hn)⟩
      .have hz:=(uh DX5).ss.hr
       have hgz:=(uh DX5).ss.hg
       rw[<-uh HS3,<-uh HSr]
       exact(uh DX5).ss.same F.size (F.block rb hz (by intro e;have e:rb=w.heap.size:=e;omega)) (F.block g hgz (by intro e;have e:g=w.heap.size:=e;omega))
      .intro k a k' hk hq
       unfold typeM at hq
       obtain⟨_,k1,q1,r1⟩:=qad hq
       obtain⟨t1,k2,q2,r2⟩:=qad r1
       obtain⟨vs1,k3,q3,r3⟩:=qad r2
       obtain⟨_,k4,q4,r4⟩:=qad r3
       obtain⟨ms,k5,q5,r5⟩:=qad r4
       obtain⟨_,k6,q6,r6⟩:=qad r5
       cases r6
       have s1:nx σ (qag T qce)=.ok k1:=by rw[hk];exact qas q1
       have s2:nx (nx σ (qag T qce)) (qa7 T 2)=.ok k2:=by rw[s1];exact qas q2
       have s3:nx (nx (nx σ (qag T qce)) (qa7 T 2)) (qdm T T.length [])=.ok k3:=by rw[s2];exact qas q3
       have s4:S3=.ok k4:=by rw[uh HS3,s3];exact qas q4
       have s5:σr=.ok k5:=by rw[uh HSr,s4];exact qas q5
       obtain⟨k4',e4,hLx,hA⟩:=HLr k5 s5
       rw[s4]at e4
       cases e4
       rw[q5]at hA
       cases hA
       have ht:t=t1:=uh Ht k1 t1 k2 s1 q2
       have hv:vs=vs1:=uh HVs k2 vs1 k3 s2 q3
       subst ht
       subst hv
       exact(uh DX5).decl (by omega) hLx F
end
end
section
open Go Go.RowKit Un
theorem DR.move{w w':World}{P Q:Nat->Prop}{x:DV}{d:Dc}(h:DR w P x d)(hs:w.heap.size<=w'.heap.size)(hb:∀b,P b->b<w.heap.size->w'.heap[b]? =w.heap[b]?)(hq:∀b,P b->b<w.heap.size->Q b):DR w' Q x d:=by
 cases d with
 |ty t vs ms=>
  obtain⟨a,b,c,d,e,f⟩:=h
  refine⟨a,b,c,d,fun i hi=>?_,fun i hi=>?_⟩
  .obtain⟨g,h1,⟨h2,hp⟩,h3⟩:=e i hi
   exact⟨g,h1,⟨Nat.lt_of_lt_of_le h2 hs,hq g hp h2⟩,(World.cell?_of_block (a:=⟨g,i*4+1,none⟩) (hb g hp h2)).trans h3⟩
  .obtain⟨g,y,h1,⟨h2,hp⟩,h3,h4⟩:=f i hi
   exact⟨g,y,h1,⟨Nat.lt_of_lt_of_le h2 hs,hq g hp h2⟩,fun j hj=>(World.cell?_of_block (a:=⟨g,i*7+j,none⟩) (hb g hp h2)).trans (h3 j hj),h4.move hs hb hq⟩
 |lt r t b=>obtain⟨a,b',c,d⟩:=h;exact⟨a,b',c,d.move hs hb hq⟩
theorem DR.rng{w:World}{P:Nat->Prop}{x:DV}{d:Dc}(h:DR w P x d)(lo:Nat)(hq:∀b,P b->lo<=b):DR w (fun b=>lo<=b/\b<w.heap.size) x d:=
 h.move (br _) (fun _ _ _=>rfl) (fun b p hz=>⟨hq b p,hz⟩)
def DV.al(x:DV):List Value:=[.bool x.ty,.bool x.rc,.int .i64 (x.nm.kind:Int),.string x.nm.text,.int .i64 (x.nm.frm:Int),.int .i64 (x.nm.to:Int),.slice x.vp x.vl x.vc,.slice x.mp x.ml x.mc,.int .i64 x.bd.k,.string x.bd.s,.int .i64 x.bd.n,.slice x.bd.la x.bd.ll x.bd.lc,.int .i64 x.bd.f,.int .i64 x.bd.t,.int .i64 x.bd.a]
theorem DV.al_len(x:DV):x.al.length=15:=rfl
def flatD(xs:List DV):List Value:=xs.flatMap DV.al
theorem flatD_one(xs:List DV)(y:DV):flatD (xs++[y])=flatD xs++y.al:=by simp[flatD]
theorem flatD_at(xs:List DV)(i j:Nat)(h:i<xs.length)(hj:j<15):(flatD xs)[i*15+j]? =(DV.a xs[i])[j]? :=by
 induction xs generalizing i with
 |nil=>simp at h|cons x xs ih=>
  have e:flatD (x::xs)=x.al++flatD xs:=rfl
  cases i with
  |zero=>
   rw[e,List.getElem?_append_left (by rw[DV.al_len];omega)]
   simp only[Nat.zero_mul,Nat.zero_add,List.getElem_cons_zero]
   show x.al[j]? =(x.al.toArray)[j]?
   simp
  |succ i=>
   rw[e,List.getElem?_append_right (by rw[DV.al_len];omega),DV.al_len,show(i+1)*15+j-15=i*15+j by omega]
   simpa using ih i (by simpa using h)
theorem declInfoD:(Tryz.prog.info? 64).map (fun i=>(i.zero,i.size,i.bytes))=some (some (.agg zDecl),15,176):=by kernel_rfl
theorem declsUnderD:Tryz.prog.underlying 53=some (.slice 64):=by kernel_rfl
structure PX(rb g cap:Nat)(T:List Pu.Tok)(w0:World)(σ:St)(v:Value)(xs:List DV)(L:List Dc)(P:Nat->Prop)(wr:World):Prop where
 ss:SS wr rb g cap T σ
 bl:Below w0.heap.size w0 wr
 rs:Bx wr w0.heap.size #[.int .i64 0,.int .i64 0,.int .i64 0]
 zz:rb+1<=wr.heap.size
 ow:wr.ownsRow (rb+1) 64 15 v xs.length (flatD xs)
 pb:∀b,P b->rb<b/\b<wr.heap.size
 pq:∀b,P b->v.ownBlock≠some b
 dr:∀i(h:i<L.length)(h2:i<xs.length),DR wr P xs[i] L[i]
section
variable {rb g cap:Nat} {T:List Pu.Tok} {w0:World} {σ σ':St} {v:Value} {xs:List DV} {L:List Dc} {P:Nat->Prop} {wr w':World}
theorem PX.kee(h:PX rb g cap T w0 σ v xs L P wr)(hr:w0.heap.size<rb)(k:Ke rb wr w')(s:SS w' rb g cap T σ'):PX rb g cap T w0 σ' v xs L P w':=
 ⟨s,h.bl.ke' k (by omega) h.bl.size,h.rs.ke k (by omega),Nat.le_trans h.zz k.size,own_ke h.ow k (by omega),fun b p=>⟨(h.pb b p).1,Nat.lt_of_lt_of_le (h.pb b p).2 k.size⟩,h.pq,fun i a b=>(h.dr i a b).move k.size (fun c p z=>k.block c z (by have:=(h.pb c p).1;omega)) (fun _ p _=>p)⟩
theorem PX.bel(h:PX rb g cap T w0 σ v xs L P wr)(hb:Below wr.heap.size wr w'):PX rb g cap T w0 σ v xs L P w':=
 ⟨h.ss.below hb,h.bl.trans (hb.mono h.bl.size),h.rs.below hb,Nat.le_trans h.zz hb.size,qcj h.ow hb,fun b p=>⟨(h.pb b p).1,Nat.lt_of_lt_of_le (h.pb b p).2 hb.size⟩,h.pq,fun i a b=>(h.dr i a b).bel hb⟩
theorem PX.growE{W w3:World}{v3:Value}{y:DV}(h:PX rb g cap T w0 σ v xs L P W)(hr:w0.heap.size<rb)(hgr:g<rb)(hg:W.grownBy w3 v.ownBlock)(ho:w3.ownsRow (rb+1) 64 15 v3 (xs.length+1) (flatD xs++y.al)):PX rb g cap T w0 σ v3 (xs++[y]) [] (fun _=>False) w3:=by
 have hq:∀q,v.ownBlock=some q->rb+1<=q/\q<W.heap.size:=qa3 h.ow
 have e1:(xs++[y]).length=xs.length+1:=by simp
 exact⟨SS.grown hg h.ss (fun j hj=>by have:=hq j hj;omega),h.bl.grown hg h.bl.size (fun j hj=>by have:=hq j hj;omega),Bx.grown hg h.rs (fun j hj=>by have:=hq j hj;omega),Nat.le_trans h.zz hg.size,by rw[e1,flatD_one];exact ho,fun b p=>p.elim,fun b p=>p.elim,fun i hi=>absurd hi (Nat.not_lt_zero _)⟩
theorem PX.grow{W w3:World}{v3:Value}{y:DV}{d:Dc}{lo:Nat}(h:PX rb g cap T w0 σ v xs L P W)(hr:w0.heap.size<rb)(hgr:g<rb)(hg:W.grownBy w3 v.ownBlock)(ho:w3.ownsRow (rb+1) 64 15 v3 (xs.length+1) (flatD xs++y.al))(ha:v3.ownBlock=v.ownBlock\/v3.ownBlock=some W.heap.size)(hlo:rb<lo)(hlv:∀q,v.ownBlock=some q->q<lo)(hL:L.length=xs.length)(hp:DR W (fun b=>lo<=b/\b<W.heap.size) y d):PX rb g cap T w0 σ v3 (xs++[y]) (L++[d]) (fun b=>P b\/(lo<=b/\b<W.heap.size)) w3:=by
 have hE:=h.growE hr hgr hg ho
 refine⟨hE.ss,hE.bl,hE.rs,hE.zz,hE.ow,?_,?_,?_⟩
 .rintro b(q|q)
  .exact⟨(h.pb b q).1,Nat.lt_of_lt_of_le (h.pb b q).2 hg.size⟩
  .exact⟨by omega,Nat.lt_of_lt_of_le q.2 hg.size⟩
 .rintro b pb hv
  rcases ha with e|e
  .rw[e]at hv
   rcases pb with q|q
   .exact h.pq b q hv
   .have:=hlv b hv;omega
  .rw[e]at hv
   cases hv
   rcases pb with q|q
   .have:=(h.pb _ q).2;omega
   .omega
 .intro i hi h2
  by_cases hlt:i<xs.length
  .rw[List.getElem_append_left hlt,List.getElem_append_left (by omega)]
   exact(h.dr i (by omega) hlt).move hg.size (fun b p z=>hg.block b z (fun e=>h.pq b p e.symm)) (fun b p _=>Or.inl p)
  .rw[List.getElem_append_right (by omega),List.getElem_append_right (by omega)]
   have hi':i-xs.length=0:=by simp at h2;omega
   simp only[hL,hi',List.getElem_cons_zero]
   exact hp.move hg.size (fun b p z=>hg.block b z (fun e=>by have:=hlv b e.symm;omega)) (fun b p _=>Or.inr p)
theorem PX.decls{Wf:World}{vp:Option Addr}{vc:Nat}(h:PX rb g cap T w0 σ (.slice vp xs.length vc) xs L P wr)(hr:w0.heap.size<rb)(hL:L.length=xs.length)(hF:Fr (fun b=>b=w0.heap.size) wr Wf):DeclsD Wf (fun b=>rb<b) vp L:=fun i hi=>by
 obtain⟨q,c,e⟩:=qb6 h.ow (by omega)
 have hv:=h.ow
 rw[e]at hv
 cases e
 have hq:=qa3 h.ow q rfl
 refine⟨q,xs[i]'(by omega),rfl,⟨Nat.lt_of_lt_of_le hq.2 hF.size,by omega⟩,fun j hj=>?_,(h.dr i hi (by omega)).move hF.size (fun b p z=>hF.block b z (by have:=(h.pb b p).1;intro e;have e:b=w0.heap.size:=e;omega)) (fun b p _=>(h.pb b p).1)⟩
 rw[World.cell?_of_block (a:=⟨q,i*15+j,none⟩) (hF.block q hq.2 (by intro e;have e:q=w0.heap.size:=e;omega)),qfw hv _ (by omega)]
 exact flatD_at xs i j (by omega) hj
end
section
variable {T:List Pu.Tok} {d:M Dc}
theorem decls_err{f k:Nat}{L:List Dc}{fl:Fl}(hc:isT (tk T k) qce=true\/isT (tk T k) kLet=true)(h:d k=.error fl):bnd (qbr T d (f+1) L) (endP T) k=.error fl:=by
 have:qbr T d (f+1) L k=.error fl:=by simp only[qbr,if_pos hc];rw[qb8 h]
 rw[qb8 this]
theorem decls_ok{f k k7:Nat}{L:List Dc}{x:Dc}(hc:isT (tk T k) qce=true\/isT (tk T k) kLet=true)(h:d k=.ok (x,k7)):bnd (qbr T d (f+1) L) (endP T) k=bnd (qbr T d f (L++[x])) (endP T) k7:=by
 have:qbr T d (f+1) L k=qbr T d f (L++[x]) k7:=by simp only[qbr,if_pos hc];rw[qcd h]
 simp only[bnd,this]
theorem decls_stop{f k:Nat}{L:List Dc}(h1:isT (tk T k) qce=false)(h2:isT (tk T k) kLet=false):bnd (qbr T d f L) (endP T) k=(if(tk T k).kind=7 then .ok (L,k)else .error (flOf (tk T k))):=by
 have:qbr T d f L k=.ok (L,k):=by cases f<;>simp[qbr,h1,h2]
 rw[qcd this];rfl
theorem isT_seven{k:Nat}(h:(tk T k).kind=7)(s:BA):isT (tk T k) s=false:=by simp[isT,h]
theorem letD_nx(σ:St)(e:M Nd):nx σ (letDM T e)=nx (nx σ (qbg T e)) (qag T qeb):=by
 cases σ with
 |error f=>rfl|ok k=>
  simp only[nx,letDM,bnd]
  cases e0:qbg T e k with
  |error f=>rfl|ok p0=>
   simp only
   cases e1:qag T qeb p0.2 with
   |error f=>rfl|ok p1=>rfl
theorem letD_no{k:Nat}{e:M Nd}(h:isT (tk T k) kLet=false):letDM T e k=.error (flOf (tk T k)):=by
 have h0:qag T kLet k=.error (flOf (tk T k)):=by simp[qag,h]
 have:qbg T e k=.error (flOf (tk T k)):=by unfold qbg;rw[qb8 h0]
 unfold letDM
 rw[qb8 this]
theorem nx_val{α:Type}{m:M α}{k:Nat}{fl:Fl}(h:nx (.ok k) m=.error fl):m k=.error fl:=by
 cases e:m k with
 |error g=>rw[qbn e]at h;cases h;rfl|ok p=>obtain⟨a,k1⟩:=p;rw[qas e]at h;cases h
end
end
section
open Go Go.RowKit Un
section
variable {T:List Pu.Tok}
theorem varsF_monoD:∀f l k a k',qdm T f l k=.ok (a,k')->k<=k'
 |0,l,k,a,k',h=>by cases h;omega|f+1,l,k,a,k',h=>by
  unfold qdm at h
  split at h
  .have:=varsF_monoD f _ _ _ _ h;omega
  .cases h;omega
theorem makersF_mono{mk:M Nd}(hm:∀k a k',mk k=.ok (a,k')->k<=k'):∀f l k a k',qbj T mk f l k=.ok (a,k')->k<=k'
 |0,l,k,a,k',h=>by cases h;omega|f+1,l,k,a,k',h=>by
  unfold qbj at h
  obtain⟨x,k1,h1,h2⟩:=qad h
  have:=hm _ _ _ h1
  unfold qe0 at h2
  split at h2
  .have:=makersF_mono hm f _ _ _ _ h2;omega
  .cases h2;omega
theorem type_lt{mk:M Nd}(hm:∀k a k',mk k=.ok (a,k')->k<=k'){k k':Nat}{a:Dc}(h:typeM T mk k=.ok (a,k')):k<k':=by
 unfold typeM at h
 obtain⟨_,k1,q1,r1⟩:=qad h
 obtain⟨t1,k2,q2,r2⟩:=qad r1
 obtain⟨vs1,k3,q3,r3⟩:=qad r2
 obtain⟨_,k4,q4,r4⟩:=qad r3
 obtain⟨ms,k5,q5,r5⟩:=qad r4
 obtain⟨_,k6,q6,r6⟩:=qad r5
 cases r6
 have:=qah _ _ _ _ q1
 have:=qbk _ _ _ _ q2
 have:=varsF_monoD _ _ _ _ _ q3
 have:=qah _ _ _ _ q4
 have:=makersF_mono hm _ _ _ _ _ q5
 have:=qah _ _ _ _ q6
 omega
theorem letD_lt{e:M Nd}(hm:Lts e){k k':Nat}{a:Dc}(h:letDM T e k=.ok (a,k')):k<k':=by
 unfold letDM at h
 obtain⟨b,k1,q1,r1⟩:=qad h
 obtain⟨_,k2,q2,r2⟩:=qad r1
 cases r2
 have:=bound_lts hm _ _ _ q1
 have:=qah _ _ _ _ q2
 omega
theorem eq11(n:Nat):((n:Int)==11)=(n==11):=by
 cases e:(n==11)with
 |true=>have:n=11:=by simpa using e
        subst this;rfl
 |false=>have:n≠11:=by simpa using e
         simp;omega
end
section
variable {w:World}
theorem prog_long(s:BA)(hs:400<s.size):Calls Tryz.prog 26 #[.string s] w (ProgDP s w):=by
 have h1:(400:Int)<(s.size:Int):=by omega
 have hp:Hid (qcq s=.error ⟨1,0,0⟩):=by show _=_;simp[qcq,hs]
 clear hs
 go_enter Tryz.func26,Tryz.ntmps26
 go_wp2_with fail
 refine bodyPost_ret (v:=.tuple #[.slice none 0 0,flV ⟨1,0,0⟩]) (by simp[results,Tryz.results26,go_sem,flV]) rfl ⟨none,0,0,⟨1,0,0⟩,rfl,(bw _),?_⟩
 rw[uh hp]
 exact⟨rfl,by simp⟩
def ProgRD(rb g cap:Nat)(T:List Pu.Tok)(d:M Dc)(w0:World)(gk:Nat)(v:Value)(wr:World):Prop:=
 ∃(σr:St)(xs:List DV)(L:List Dc)(P:Nat->Prop),PX rb g cap T w0 σr v xs L P wr/\xs.length<=2000/\
  ((∃k' f,σr=.ok k'/\Hid (gk=T.length-k')/\T.length<=k'+f/\L.length=xs.length/\xs.length<=k'/\Hid (bnd (qbr T d T.length []) (endP T) 0=bnd (qbr T d f L) (endP T) k'))\/(∃fl,σr=.error fl/\Hid (bnd (qbr T d T.length []) (endP T) 0=.error fl)))
theorem prog_short(s:BA)(hs:s.size<=400)(HD0:∀rb g cap T,DeclC rb g cap T 58 (typeM T (qbi T (qam T (typM T T.length) (typM T T.length) 1))))(HB0:∀rb g cap T,BoundC rb g cap T (qbg T (qaq T T.length)) (T.length+1))(hmk0:∀T k a k',qbi T (qam T (typM T T.length) (typM T T.length) 1) k=.ok (a,k')->k<=k'):
 Calls Tryz.prog 26 #[.string s] w (ProgDP s w):=by
 have h1:¬(400:Int)<(s.size:Int):=by omega
 have HB:=ai ((Below.refl w.heap.size w).alloc (br _) (.cells #[.int .i64 0,.int .i64 0,.int .i64 0] 34))
 have BF:=ai (Bx.new w #[.int .i64 0,.int .i64 0,.int .i64 0] 34)
 have ff:=qd4
 obtain⟨i0,hi0,hz0,hz1,hz2⟩:=info_parts declInfoD
 go_enter Tryz.func26,Tryz.ntmps26
 go_wp2_with fail
 refine(tokens_any s _ (by omega)).mono ?_
 rintro e w1⟨v,rfl,ho,hb⟩
 have hT4:(Pu.toks s 0).length<=401:=by obtain⟨l,hl,hll⟩:=toks_last s 0;rw[hl];simp;omega
 have hT:(Pu.toks s 0).length<=1001:=by omega
 have hpos:0<(Pu.toks s 0).length:=by obtain⟨l,hl,hll⟩:=toks_last s 0;rw[hl];simp
 have hen:=ai (toks_en s)
 have hrd:Hid (qcq s=match bnd (qbr (Pu.toks s 0) (qdz (Pu.toks s 0) (Pu.toks s 0).length) (Pu.toks s 0).length []) (endP (Pu.toks s 0)) 0 with
  |.error f=>.error f|.ok (l,_)=>.ok l):=by show _=_;rw[qcq,if_neg (by omega)];rfl
 generalize Pu.toks s 0=T at ho hT hT4 hpos hen hrd
 obtain⟨g,cap,rfl,zg,hcap⟩:=own_open ho hpos
 have hgb:=(qa3 ho g rfl).1
 simp at hgb
 have HS:=ai (SS.made ho hpos hT (uh hen) 142)
 have hs1:w.heap.size+1<=w1.heap.size:=by have:=hb.size;simp at this;omega
 have BF1:=ai (((uh BF).below hb).alloc (.cells #[.slice (some ⟨g,0,none⟩) T.length cap,.int .i64 0,.int .i64 0,.int .i64 0,.int .i64 0] 142))
 have HB1:=ai (((uh HB).trans (hb.mono (by simp))).alloc (by omega) (.cells #[.slice (some ⟨g,0,none⟩) T.length cap,.int .i64 0,.int .i64 0,.int .i64 0,.int .i64 0] 142))
 obtain⟨rb,hrb⟩:∃r,r=w1.heap.size:=⟨_,rfl⟩
 have PX0:Hid (PX rb g cap T w (.ok 0) (.slice none 0 0) [] [] (fun _=>False) (w1.alloc (.cells #[.slice (some ⟨g,0,none⟩) T.length cap,.int .i64 0,.int .i64 0,.int .i64 0,.int .i64 0] 142))):=by
  subst hrb
  exact⟨uh HS,uh HB1,uh BF1,by simp,⟨rfl,Or.inl ⟨rfl,rfl⟩⟩,fun b p=>p.elim,fun b p=>p.elim,fun i hi=>absurd hi (Nat.not_lt_zero _)⟩
 have hgr:g<rb:=by omega
 have hwr:w.heap.size<rb:=by omega
 have HD:=ai (HD0 rb g cap T)
 have HBd:=ai (HB0 rb g cap T)
 have hmk:=ai (hmk0 T)
 clear ho hb BF HB BF1 HB1 HS HD0 HB0 hmk0 hcap zg hgb
 go_wp2_with fail
 rw[<-hrb]
 clear hrb hs1
 obtain⟨d,Hd⟩:∃d,Hid (d=qdz T T.length):=⟨_,ai rfl⟩
 rw[<-uh Hd]at hrd
 go_loopg[5] T.length (fun gk v wr=>ProgRD rb g cap T d w gk v wr)
 case atStart=>exact⟨.ok 0,[],[],_,uh PX0,by simp,Or.inl ⟨0,T.length,rfl,ai (by omega),by omega,rfl,by simp,ai rfl⟩⟩
 case round=>
  clear PX0
  obtain⟨σr,xs,L,P,hPX,hxl,hk⟩:=hrel
  have PXr:=ai hPX
  have zr:=hPX.zz
  clear hPX
  rcases hk with⟨k',f,rfl,hgk,hfu,hLl,hxk,hA⟩|⟨fl,rfl,hA⟩
  .have HA:=ai (uh hA)
   have hkT:=mlt (uh PXr).ss
   clear hA
   go_wp2_with fail
   refine(ok_S (uh PXr).ss).mono ?_
   rintro e w9⟨rfl,rfl⟩
   go_wp2_with fail
   refine(of_S (uh PXr).ss 7).mono ?_
   rintro e w3⟨rfl,hb⟩
   have PX3:=ai ((uh PXr).bel hb)
   have z3:=hb.size
   clear PXr hb
   cases hof:ofS T (.ok k') 7 with
   |true=>
    have hk7:(tk T k').kind=7:=by simpa[ofS]using hof
    have R3:RS w3 rb g cap T k' noFl:=(uh PX3).ss
    have HR:Hid (qcq s=.ok L):=by
     show _=_
     rw[uh hrd,uh HA,decls_stop (isT_seven hk7 _) (isT_seven hk7 _),if_pos hk7]
    clear hof hk7
    obtain⟨vp,vc,rfl⟩:=qfi (uh PX3).ow
    obtain⟨cr,fr,zr⟩:=(uh PX3).rs
    have c2:=R3.c2
    have c3:=R3.c3
    have c4:=R3.c4
    have hrb:=R3.hr
    have BF:=ai (((uh PX3).rs.set3' rfl (.int .i64 (noFl.kind:Int)) (.int .i64 (noFl.frm:Int)) (.int .i64 (noFl.to:Int))).drew')
    have F:=ai (((Fr.refl (fun b=>b=w.heap.size) w3).set3 (b:=w.heap.size) (Or.inl rfl) (.int .i64 (noFl.kind:Int)) (.int .i64 (noFl.frm:Int)) (.int .i64 (noFl.to:Int))).drew)
    clear R3
    go_wp2_with fail
    go_region
    go_wp2_with fail
    obtain⟨cF,fF,zF⟩:=uh BF
    refine bodyPost_ret (v:=.tuple #[.slice vp xs.length vc,flV noFl]) (by simp[results,Tryz.results26,go_sem,cF,flV];try rfl) rfl ⟨vp,xs.length,vc,noFl,rfl,?_,?_⟩
    .have q:=uh F
     have b:=(uh PX3).bl
     exact⟨q.os.trans b.os,q.tape.trans b.tape,q.output.trans b.output,Nat.le_trans b.size q.size,fun k hk=>(q.block k (Nat.lt_of_lt_of_le hk b.size) (by intro e;have e:k=w.heap.size:=e;omega)).trans (b.block k hk)⟩
    .rw[uh HR]
     exact⟨rfl,hLl.symm,_,(uh PX3).decls hwr hLl (uh F)⟩
   |false=>
    have hk7:(tk T k').kind≠7:=by simpa[ofS]using hof
    clear hof
    go_wp2_with fail
    refine(is_S (uh PX3).ss qce).mono ?_
    rintro e w4⟨rfl,hb⟩
    have PX4:=ai ((uh PX3).bel hb)
    have z4:=hb.size
    clear PX3 hb
    cases hty:isT (tk T k') qce with
    |true=>
     have hbs:isS T (.ok k') qce=true:=hty
     have hdk:Hid (d k'=typeM T (qbi T (qam T (typM T T.length) (typM T T.length) 1)) k'):=by show _=_;rw[uh Hd];simp only[qdz,hty,if_true]
     have HTY:=ai hty
     clear hty
     go_wp2_with fail
     refine(uh HD _ _ (uh PX4).ss).mono ?_
     rintro e w5⟨x,rfl,hb,hS,hN⟩
     have z5:=hb.size
     obtain⟨σ7,HS7⟩:∃s,Hid (s=nx (.ok k') (typeM T (qbi T (qam T (typM T T.length) (typM T T.length) 1)))):=⟨_,ai rfl⟩
     rw[<-uh HS7]at hS
     have hb7:Below w5.heap.size w5 ((w5.alloc (.cells x.al.toArray 64)).alloc (.cells x.al.toArray 64)):=(bw _).alloc (by simp) _
     have PX7:=ai (((uh PX4).kee hwr hb hS).bel hb7)
     have HNy:=ai (fun a k5 (q:typeM T (qbi T (qam T (typM T T.length) (typM T T.length) 1)) k'=.ok (a,k5))=>(((hN k' a k5 rfl q).rng w4.heap.size (fun b hb=>hb)).bel hb7).move (Q:=fun b=>w4.heap.size<=b/\b<((w5.alloc (.cells x.al.toArray 64)).alloc (.cells x.al.toArray 64)).heap.size) (br _) (fun _ _ _=>rfl) (fun b p hz=>⟨p.1,hz⟩))
     have hrv:=ai (fun q hq=>(qa3 (uh PX4).ow q hq).2)
     clear hb hS hN PX4 hb7
     unfold DV.v DV.a
     go_wp2_with(at_builtin;go_must(refine wpList_append_own_at _ rfl (.tmp 29) (.tmp 31) 53 rfl (rb+1) 64 i0 _ 15 176 declsUnderD hi0 hz0 hz1 hz2 rfl (by decide) _ _ _ rfl (uh PX7).ow ⟨w5.heap.size+1,0,none⟩ 1 1 x.al rfl rfl (qbw _ _ _ _ (by simp)) (by intro u hu;simp[DV.al]at hu;rcases hu with rfl|rfl|rfl|rfl|rfl|rfl|rfl|rfl|rfl|rfl|rfl|rfl|rfl|rfl|rfl<;>rfl) (by unfold maxLen;omega) (by omega) (uh PX7).zz ?_);intro v3 w8 hown3 hg3 hnil3 hat3)
     obtain⟨f2,rfl⟩:∃f2,f=f2+1:=⟨f-1,by omega⟩
     clear hnil3
     cases σ7 with
     |error fl=>
      have HME:=ai ((uh hdk).trans (nx_val (uh HS7).symm))
      have PX8:=ai ((uh PX7).growE hwr hgr hg3 hown3)
      clear PX7 hg3 hown3 hat3 HNy hrv
      go_roundg 0
      case measure=>rw[uh hgk];omega
      case rel=>exact⟨.error fl,xs++[x],[],_,uh PX8,by simp;omega,Or.inr ⟨fl,rfl,ai ((uh HA).trans (decls_err (Or.inl (uh HTY)) (uh HME)))⟩⟩
     |ok k7=>
      obtain⟨j,a,ej,hm7⟩:=qbf (uh HS7).symm
      cases ej
      have hlt:=type_lt (uh hmk) hm7
      have HST:=ai (decls_ok (T:=T) (f:=f2) (L:=L) (Or.inl (uh HTY)) ((uh hdk).trans hm7))
      have PX8:=ai ((uh PX7).grow hwr hgr hg3 hown3 hat3 (lo:=w4.heap.size) (by omega) (uh hrv) hLl (uh HNy a k7 hm7))
      clear PX7 hg3 hown3 hat3 HNy hrv hm7
      have hk7T:=mlt (uh PX8).ss
      go_roundg(T.length-k7)
      case measure=>rw[uh hgk];omega
      case rel=>exact⟨.ok k7,xs++[x],L++[a],_,uh PX8,by simp;omega,Or.inl ⟨k7,f2,rfl,ai rfl,by omega,by simp;omega,by simp;omega,ai ((uh HA).trans (uh HST))⟩⟩
    |false=>
     have hbs:isS T (.ok k') qce=false:=hty
     have hdk:Hid (d k'=letDM T (qaq T T.length) k'):=by show _=_;rw[uh Hd];simp[qdz,hty]
     have HTY:=ai hty
     clear hty
     go_wp2_with fail
     refine(uh HBd _ _ (uh PX4).ss (by intro j hj;omega)).mono ?_
     rintro e w5⟨kd,t,y,rfl,hb,hS,hN⟩
     have z5:=hb.size
     have hb5:Below w5.heap.size w5 ((w5.alloc (.cells #[.int .i64 (t.kind:Int),.string t.text,.int .i64 (t.frm:Int),.int .i64 (t.to:Int)] 58)).alloc (.cells y.l.toArray 62)):=(bw _).alloc (by simp) _
     have PX5:=ai (((uh PX4).kee hwr hb hS).bel hb5)
     have HNy:=ai (fun a k5 (q:qbg T (qaq T T.length) k'=.ok (a,k5))=>(show kd=a.1/\t=a.2.1/\NR _ _ _ _ from⟨(hN k' a k5 rfl q).1,(hN k' a k5 rfl q).2.1,((hN k' a k5 rfl q).2.2.rng w4.heap.size (fun b hb=>hb)).bel hb5⟩))
     have hrv:=ai (fun q hq=>(qa3 (uh PX4).ow q hq).2)
     have BT:=ai ((Bx.new w5 #[.int .i64 (t.kind:Int),.string t.text,.int .i64 (t.frm:Int),.int .i64 (t.to:Int)] 58).alloc (.cells y.l.toArray 62))
     have BY:=ai (Bx.at (w5.alloc (.cells #[.int .i64 (t.kind:Int),.string t.text,.int .i64 (t.frm:Int),.int .i64 (t.to:Int)] 58)) #[.int .i64 y.k,.string y.s,.int .i64 y.n,.slice y.la y.ll y.lc,.int .i64 y.f,.int .i64 y.t,.int .i64 y.a] 62 (w5.heap.size+1) (by simp))
     clear hb hS hN PX4 hb5
     unfold tokV NV.v
     go_wp2_with fail
     refine(qch (uh PX5).ss qeb).mono ?_
     rintro e w6⟨rfl,hb,hS⟩
     have z6:=hb.size
     simp at z6
     obtain⟨σ7,HS7⟩:∃s,Hid (s=nx (nx (.ok k') (qbg T (qaq T T.length))) (qag T qeb)):=⟨_,ai rfl⟩
     rw[<-uh HS7]at hS
     obtain⟨x,hx⟩:∃x:DV,x=⟨false,((kd:Int)==11),t,none,0,0,none,0,0,y⟩:=⟨_,rfl⟩
     have hb7:Below w6.heap.size w6 (w6.alloc (.cells x.al.toArray 64)):=bw _
     have PX7:=ai (((uh PX5).kee hwr hb hS).bel hb7)
     have HNy:=ai (fun a k5 (q:qbg T (qaq T T.length) k'=.ok (a,k5))=>(show kd=a.1/\t=a.2.1/\NR (w6.alloc (.cells x.al.toArray 64)) (fun b=>w4.heap.size<=b/\b<(w6.alloc (.cells x.al.toArray 64)).heap.size) a.2.2 y from⟨(uh HNy a k5 q).1,(uh HNy a k5 q).2.1,(((uh HNy a k5 q).2.2.ke hb (fun b p=>by omega)).bel hb7).move (br _) (fun _ _ _=>rfl) (fun b p hz=>⟨p.1,hz⟩)⟩))
     obtain⟨ct,ft,zt⟩:=(uh BT).ke hb (by omega)
     obtain⟨cy,fy,zy⟩:=(uh BY).ke hb (by omega)
     clear hb hS PX5 hb7 BT BY
     subst hx
     go_wp2_with(at_builtin;go_must(refine wpList_append_own_at _ rfl (.tmp 41) (.tmp 47) 53 rfl (rb+1) 64 i0 _ 15 176 declsUnderD hi0 hz0 hz1 hz2 rfl (by decide) _ _ _ rfl (uh PX7).ow ⟨w6.heap.size,0,none⟩ 1 1 (DV.al ⟨false,((kd:Int)==11),t,none,0,0,none,0,0,y⟩) rfl rfl (qbw _ _ _ _ (by simp)) (by intro u hu;simp[DV.al]at hu;rcases hu with rfl|rfl|rfl|rfl|rfl|rfl|rfl|rfl|rfl|rfl|rfl|rfl|rfl|rfl|rfl<;>rfl) (by unfold maxLen;omega) (by omega) (uh PX7).zz ?_);intro v3 w8 hown3 hg3 hnil3 hat3)
     obtain⟨f2,rfl⟩:∃f2,f=f2+1:=⟨f-1,by omega⟩
     clear hnil3 ct ft zt cy fy zy
     cases σ7 with
     |error fl=>
      have HME:=ai ((uh hdk).trans (nx_val ((letD_nx (.ok k') (qaq T T.length)).trans (uh HS7).symm)))
      have PX8:=ai ((uh PX7).growE (y:=⟨false,((kd:Int)==11),t,none,0,0,none,0,0,y⟩) hwr hgr hg3 hown3)
      clear PX7 hg3 hown3 hat3 HNy hrv
      go_roundg 0
      case measure=>rw[uh hgk];omega
      case rel=>
       refine⟨.error fl,xs++[_],[],_,uh PX8,by simp;omega,Or.inr ⟨fl,rfl,ai ((uh HA).trans ?_)⟩⟩
       cases hlet:isT (tk T k') kLet with
       |true=>exact decls_err (Or.inr hlet) (uh HME)|false=>
        rw[decls_stop (uh HTY) hlet,if_neg hk7]
        have:=(uh hdk).symm.trans (uh HME)
        rw[letD_no hlet]at this
        cases this;rfl
     |ok k7=>
      have hnx:nx (.ok k') (letDM T (qaq T T.length))=.ok k7:=(letD_nx (.ok k') (qaq T T.length)).trans (uh HS7).symm
      obtain⟨j,a,ej,hm7⟩:=qbf hnx
      cases ej
      have hlt:=letD_lt (qci T.length) hm7
      have hlet:isT (tk T k') kLet=true:=by
       cases hlet:isT (tk T k') kLet with
       |true=>rfl|false=>rw[letD_no hlet]at hm7;cases hm7
      have HST:=ai (decls_ok (T:=T) (f:=f2) (L:=L) (Or.inr hlet) ((uh hdk).trans hm7))
      have hm8:=hm7
      unfold letDM at hm8
      obtain⟨b,k5,q5,r5⟩:=qad hm8
      obtain⟨_,k6,q6,r6⟩:=qad r5
      cases r6
      obtain⟨u1,u2,u3⟩:=uh HNy b k5 q5
      have hdr:DR _ _ (⟨false,((kd:Int)==11),t,none,0,0,none,0,0,y⟩:DV) (.lt (b.1==11) b.2.1 b.2.2):=⟨rfl,by rw[<-u1];exact eq11 kd,u2,u3⟩
      have PX8:=ai ((uh PX7).grow hwr hgr hg3 hown3 hat3 (lo:=w4.heap.size) (by omega) (uh hrv) hLl hdr)
      clear PX7 hg3 hown3 hat3 HNy hrv hm7 hnx hlet hm8 q5 q6 r5 u1 u2 u3 hdr
      have hk7T:=mlt (uh PX8).ss
      go_roundg(T.length-k7)
      case measure=>rw[uh hgk];omega
      case rel=>exact⟨.ok k7,xs++[_],L++[_],_,uh PX8,by simp;omega,Or.inl ⟨k7,f2,rfl,ai rfl,by omega,by simp;omega,by simp;omega,ai ((uh HA).trans (uh HST))⟩⟩
  .have hok:okS (.error fl)=false:=rfl
   have R3:Hid (fl.kind≠0/\∃k,RS wr rb g cap T k fl):=(uh PXr).ss
   obtain⟨hkd,k3,R3⟩:=uh R3
   have HKD:=ai hkd
   have HR:Hid (qcq s=.error fl):=by show _=_;rw[uh hrd,uh hA]
   clear hA hkd
   have R3':=ai R3
   clear R3
   go_wp2_with fail
   refine(ok_S (uh PXr).ss).mono ?_
   rintro e w9⟨rfl,rfl⟩
   have R3:=uh R3'
   obtain⟨vp,vc,rfl⟩:=qfi (uh PXr).ow
   obtain⟨cr,fr,zr⟩:=(uh PXr).rs
   have c2:=R3.c2
   have c3:=R3.c3
   have c4:=R3.c4
   have hrb:=R3.hr
   have BF:=ai (((uh PXr).rs.set3' rfl (.int .i64 (fl.kind:Int)) (.int .i64 (fl.frm:Int)) (.int .i64 (fl.to:Int))).drew')
   have F:=ai (((Fr.refl (fun b=>b=w.heap.size) w9).set3 (b:=w.heap.size) (Or.inl rfl) (.int .i64 (fl.kind:Int)) (.int .i64 (fl.frm:Int)) (.int .i64 (fl.to:Int))).drew)
   clear R3
   go_wp2_with fail
   go_region
   go_wp2_with fail
   obtain⟨cF,fF,zF⟩:=uh BF
   refine bodyPost_ret (v:=.tuple #[.slice vp xs.length vc,flV fl]) (by simp[results,Tryz.results26,go_sem,cF,flV];try rfl) rfl ⟨vp,xs.length,vc,fl,rfl,?_,?_⟩
   .have q:=uh F
    have b:=(uh PXr).bl
    exact⟨q.os.trans b.os,q.tape.trans b.tape,q.output.trans b.output,Nat.le_trans b.size q.size,fun k hk=>(q.block k (Nat.lt_of_lt_of_le hk b.size) (by intro e;have e:k=w.heap.size:=e;omega)).trans (b.block k hk)⟩
   .rw[uh HR]
    exact⟨rfl,uh HKD⟩
end
end
end Go.Proofs.YtoceemjbcgmojaaGreatDoor

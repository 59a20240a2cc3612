import Derived.Test.YtoceemjbcgmojaaGreatDoorQTo
import Derived.Test.YtoceemjbcgmojaaGreatDoorQSa
set_option linter.all false
set_option maxRecDepth 100000
set_option maxHeartbeats 2000000
namespace Go.Proofs.YtoceemjbcgmojaaGreatDoor
section
open Go Go.RowKit Un
abbrev z8:Value:=.int .u8 0
def smTb:BA:=⟨#[48,48,48,49,48,50,48,51,48,52,48,53,48,54,48,55,48,56,48,57,49,48,49,49,49,50,49,51,49,52,49,53,49,54,49,55,49,56,49,57,50,48,50,49,50,50,50,51,50,52,50,53,50,54,50,55,50,56,50,57,51,48,51,49,51,50,51,51,51,52,51,53,51,54,51,55,51,56,51,57,52,48,52,49,52,50,52,51,52,52,52,53,52,54,52,55,52,56,52,57,53,48,53,49,53,50,53,51,53,52,53,53,53,54,53,55,53,56,53,57,54,48,54,49,54,50,54,51,54,52,54,53,54,54,54,55,54,56,54,57,55,48,55,49,55,50,55,51,55,52,55,53,55,54,55,55,55,56,55,57,56,48,56,49,56,50,56,51,56,52,56,53,56,54,56,55,56,56,56,57,57,48,57,49,57,50,57,51,57,52,57,53,57,54,57,55,57,56,57,57]⟩
def smTbN(i:Nat):Nat:=(smTb.data.getD i 0).toNat
theorem smTb_all:(List.range 100).all (fun q=>decide (smTbN (q*2)=48+q/10)&&decide (smTbN (q*2+1)=48+q%10))=true:=by kernel_rfl
theorem smTb_get(i:Nat)(h:i<smTb.size):smTb[i].toNat=smTbN i:=by
 unfold smTbN
 have h':i<smTb.data.size:=h
 rw[Array.getD_eq_getD_getElem?,Array.getElem?_eq_getElem h']
 rfl
theorem smTb_hi(q:Nat)(h:q*2<smTb.size)(hq:q<100):smTb[q*2].toNat=48+q/10:=by
 rw[smTb_get]
 have:=List.all_eq_true.1 smTb_all q (List.mem_range.2 hq)
 simp only[Bool.and_eq_true,decide_eq_true_eq]at this
 exact this.1
theorem smTb_lo(q:Nat)(h:q*2+1<smTb.size)(hq:q<100):smTb[q*2+1].toNat=48+q%10:=by
 rw[smTb_get]
 have:=List.all_eq_true.1 smTb_all q (List.mem_range.2 hq)
 simp only[Bool.and_eq_true,decide_eq_true_eq]at this
 exact this.2
def dgV(n k:Nat):Value:=.int .u8 ((48+n/10^k%10:Nat):Int)
theorem qde(n k q:Nat)(h:q*2<smTb.size)(hq:q<100)(e:q/10=n/10^k%10):Value.int .u8 ((smTb[q*2].toNat:Nat):Int)=dgV n k:=by
 rw[smTb_hi q h hq,e];rfl
theorem qdf(n k q:Nat)(h:q*2+1<smTb.size)(hq:q<100)(e:q%10=n/10^k%10):Value.int .u8 ((smTb[q*2+1].toNat:Nat):Int)=dgV n k:=by
 rw[smTb_lo q h hq,e];rfl
theorem dgV_one(n k:Nat)(x:Int)(e:x=((48+n/10^k%10:Nat):Int)):Value.int .u8 x=dgV n k:=by
 rw[e];rfl
def FbP(b m:Nat)(C:Array Value)(w:World)(e:Ending)(w':World):Prop:=e=.returned (.tuple #[])/\Bx w' b C/\Ke b w w'
section
variable {w:World} {b:Nat}
theorem fb_3(n:Nat)(h0:100<=n)(h:n<1000)(hB:Bx w b #[z8,z8,z8,z8,z8,z8,z8,z8,z8,z8,z8,z8,z8,z8,z8,z8,z8,z8,z8,z8,z8,z8,z8,z8]):Calls Tryz.prog 358 #[.slice (some ⟨b,1,none⟩) 3 23,.int .u64 (n:Int)] w (FbP b 3 #[z8,(dgV n 2),(dgV n 1),(dgV n 0),z8,z8,z8,z8,z8,z8,z8,z8,z8,z8,z8,z8,z8,z8,z8,z8,z8,z8,z8,z8] w):=by
 have HB:=ai hB
 obtain⟨c,f,z⟩:=hB
 go_enter Tryz.func358,Tryz.ntmps358
 go_wp2_with fail
 go_loopg[1,4] 0 (fun g u v wr=>u=.int .u64 (n:Int)/\v=.int .i64 3/\wr=w)
 case atStart=>exact⟨rfl,rfl,rfl⟩
 case round=>
  obtain⟨rfl,rfl,rfl⟩:=hrel
  have x0a:(0:Int)<=(n:Int)%100*2:=by omega
  have x0b:(n:Int)%100*2<200:=by omega
  have x0c:(n:Int)%100*2+1<200:=by omega
  have x0d:(0:Int)<=(n:Int)%100*2+1:=by omega
  go_wp2_with fail
  go_region
  go_wp2_with fail
  have v0h:=qde n 1 (n%100) (show(n%100)*2<200 by omega) (by omega) (by simp only[Nat.reducePow];omega)
  have v0l:=qdf n 0 (n%100) (show(n%100)*2+1<200 by omega) (by omega) (by simp only[Nat.reducePow];omega)
  have vo:=dgV_one n 2 (48+(n:Int)/100) (by simp only[Nat.reducePow];omega)
  go_end0
  refine⟨rfl,?_,((((Ke.refl _ _).set 3 _).set 2 _).set 1 _).drew⟩
  rw[<-v0l,<-v0h,<-vo]
  exact((((uh HB).setS 3 _ _ rfl (by simp)).setS 2 _ _ rfl (by simp)).setS 1 _ _ rfl (by simp)).drew
theorem fb_4(n:Nat)(h0:1000<=n)(h:n<10000)(hB:Bx w b #[z8,z8,z8,z8,z8,z8,z8,z8,z8,z8,z8,z8,z8,z8,z8,z8,z8,z8,z8,z8,z8,z8,z8,z8]):Calls Tryz.prog 358 #[.slice (some ⟨b,1,none⟩) 4 23,.int .u64 (n:Int)] w (FbP b 4 #[z8,(dgV n 3),(dgV n 2),(dgV n 1),(dgV n 0),z8,z8,z8,z8,z8,z8,z8,z8,z8,z8,z8,z8,z8,z8,z8,z8,z8,z8,z8] w):=by
 have HB:=ai hB
 obtain⟨c,f,z⟩:=hB
 go_enter Tryz.func358,Tryz.ntmps358
 go_wp2_with fail
 go_loopg[1,4] 0 (fun g u v wr=>u=.int .u64 (n:Int)/\v=.int .i64 4/\wr=w)
 case atStart=>exact⟨rfl,rfl,rfl⟩
 case round=>
  obtain⟨rfl,rfl,rfl⟩:=hrel
  have x0a:(0:Int)<=(n:Int)%100*2:=by omega
  have x0b:(n:Int)%100*2<200:=by omega
  have x0c:(n:Int)%100*2+1<200:=by omega
  have x0d:(0:Int)<=(n:Int)%100*2+1:=by omega
  have x1a:(0:Int)<=(n:Int)%10000/100*2:=by omega
  have x1b:(n:Int)%10000/100*2<200:=by omega
  have x1c:(n:Int)%10000/100*2+1<200:=by omega
  have x1d:(0:Int)<=(n:Int)%10000/100*2+1:=by omega
  go_wp2_with fail
  go_region
  go_wp2_with fail
  go_region
  go_wp2_with fail
  have v0h:=qde n 1 (n%100) (show(n%100)*2<200 by omega) (by omega) (by simp only[Nat.reducePow];omega)
  have v0l:=qdf n 0 (n%100) (show(n%100)*2+1<200 by omega) (by omega) (by simp only[Nat.reducePow];omega)
  have v1h:=qde n 3 (n%10000/100) (show(n%10000/100)*2<200 by omega) (by omega) (by simp only[Nat.reducePow];omega)
  have v1l:=qdf n 2 (n%10000/100) (show(n%10000/100)*2+1<200 by omega) (by omega) (by simp only[Nat.reducePow];omega)
  go_end0
  refine⟨rfl,?_,(((((Ke.refl _ _).set 4 _).set 3 _).set 2 _).set 1 _).drew.drew⟩
  rw[<-v0l,<-v0h,<-v1l,<-v1h]
  exact(((((uh HB).setS 4 _ _ rfl (by simp)).setS 3 _ _ rfl (by simp)).setS 2 _ _ rfl (by simp)).setS 1 _ _ rfl (by simp)).drew.drew
theorem fb_5(n:Nat)(h0:10000<=n)(h:n<100000)(hB:Bx w b #[z8,z8,z8,z8,z8,z8,z8,z8,z8,z8,z8,z8,z8,z8,z8,z8,z8,z8,z8,z8,z8,z8,z8,z8]):Calls Tryz.prog 358 #[.slice (some ⟨b,1,none⟩) 5 23,.int .u64 (n:Int)] w (FbP b 5 #[z8,(dgV n 4),(dgV n 3),(dgV n 2),(dgV n 1),(dgV n 0),z8,z8,z8,z8,z8,z8,z8,z8,z8,z8,z8,z8,z8,z8,z8,z8,z8,z8] w):=by
 have HB:=ai hB
 obtain⟨c,f,z⟩:=hB
 go_enter Tryz.func358,Tryz.ntmps358
 go_wp2_with fail
 go_loopg[1,4] 0 (fun g u v wr=>u=.int .u64 (n:Int)/\v=.int .i64 5/\wr=w)
 case atStart=>exact⟨rfl,rfl,rfl⟩
 case round=>
  obtain⟨rfl,rfl,rfl⟩:=hrel
  have x0a:(0:Int)<=(n:Int)%100*2:=by omega
  have x0b:(n:Int)%100*2<200:=by omega
  have x0c:(n:Int)%100*2+1<200:=by omega
  have x0d:(0:Int)<=(n:Int)%100*2+1:=by omega
  have x1a:(0:Int)<=(n:Int)%10000/100*2:=by omega
  have x1b:(n:Int)%10000/100*2<200:=by omega
  have x1c:(n:Int)%10000/100*2+1<200:=by omega
  have x1d:(0:Int)<=(n:Int)%10000/100*2+1:=by omega
  go_wp2_with fail
  go_region
  go_wp2_with fail
  go_region
  go_wp2_with fail
  have v0h:=qde n 1 (n%100) (show(n%100)*2<200 by omega) (by omega) (by simp only[Nat.reducePow];omega)
  have v0l:=qdf n 0 (n%100) (show(n%100)*2+1<200 by omega) (by omega) (by simp only[Nat.reducePow];omega)
  have v1h:=qde n 3 (n%10000/100) (show(n%10000/100)*2<200 by omega) (by omega) (by simp only[Nat.reducePow];omega)
  have v1l:=qdf n 2 (n%10000/100) (show(n%10000/100)*2+1<200 by omega) (by omega) (by simp only[Nat.reducePow];omega)
  have vo:=dgV_one n 4 (48+(n:Int)/10000) (by simp only[Nat.reducePow];omega)
  go_end0
  refine⟨rfl,?_,((((((Ke.refl _ _).set 5 _).set 4 _).set 3 _).set 2 _).set 1 _).drew.drew⟩
  rw[<-v0l,<-v0h,<-v1l,<-v1h,<-vo]
  exact((((((uh HB).setS 5 _ _ rfl (by simp)).setS 4 _ _ rfl (by simp)).setS 3 _ _ rfl (by simp)).setS 2 _ _ rfl (by simp)).setS 1 _ _ rfl (by simp)).drew.drew
theorem fb_6(n:Nat)(h0:100000<=n)(h:n<1000000)(hB:Bx w b #[z8,z8,z8,z8,z8,z8,z8,z8,z8,z8,z8,z8,z8,z8,z8,z8,z8,z8,z8,z8,z8,z8,z8,z8]):Calls Tryz.prog 358 #[.slice (some ⟨b,1,none⟩) 6 23,.int .u64 (n:Int)] w (FbP b 6 #[z8,(dgV n 5),(dgV n 4),(dgV n 3),(dgV n 2),(dgV n 1),(dgV n 0),z8,z8,z8,z8,z8,z8,z8,z8,z8,z8,z8,z8,z8,z8,z8,z8,z8] w):=by
 have HB:=ai hB
 obtain⟨c,f,z⟩:=hB
 go_enter Tryz.func358,Tryz.ntmps358
 go_wp2_with fail
 go_loopg[1,4] 0 (fun g u v wr=>u=.int .u64 (n:Int)/\v=.int .i64 6/\wr=w)
 case atStart=>exact⟨rfl,rfl,rfl⟩
 case round=>
  obtain⟨rfl,rfl,rfl⟩:=hrel
  have x0a:(0:Int)<=(n:Int)%100*2:=by omega
  have x0b:(n:Int)%100*2<200:=by omega
  have x0c:(n:Int)%100*2+1<200:=by omega
  have x0d:(0:Int)<=(n:Int)%100*2+1:=by omega
  have x1a:(0:Int)<=(n:Int)%10000/100*2:=by omega
  have x1b:(n:Int)%10000/100*2<200:=by omega
  have x1c:(n:Int)%10000/100*2+1<200:=by omega
  have x1d:(0:Int)<=(n:Int)%10000/100*2+1:=by omega
  have x2a:(0:Int)<=(n:Int)/10000%100*2:=by omega
  have x2b:(n:Int)/10000%100*2<200:=by omega
  have x2c:(n:Int)/10000%100*2+1<200:=by omega
  have x2d:(0:Int)<=(n:Int)/10000%100*2+1:=by omega
  go_wp2_with fail
  go_region
  go_wp2_with fail
  go_region
  go_wp2_with fail
  go_region
  go_wp2_with fail
  have v0h:=qde n 1 (n%100) (show(n%100)*2<200 by omega) (by omega) (by simp only[Nat.reducePow];omega)
  have v0l:=qdf n 0 (n%100) (show(n%100)*2+1<200 by omega) (by omega) (by simp only[Nat.reducePow];omega)
  have v1h:=qde n 3 (n%10000/100) (show(n%10000/100)*2<200 by omega) (by omega) (by simp only[Nat.reducePow];omega)
  have v1l:=qdf n 2 (n%10000/100) (show(n%10000/100)*2+1<200 by omega) (by omega) (by simp only[Nat.reducePow];omega)
  have v2h:=qde n 5 (n/10000%100) (show(n/10000%100)*2<200 by omega) (by omega) (by simp only[Nat.reducePow];omega)
  have v2l:=qdf n 4 (n/10000%100) (show(n/10000%100)*2+1<200 by omega) (by omega) (by simp only[Nat.reducePow];omega)
  go_end0
  refine⟨rfl,?_,(((((((Ke.refl _ _).set 6 _).set 5 _).set 4 _).set 3 _).set 2 _).set 1 _).drew.drew.drew⟩
  rw[<-v0l,<-v0h,<-v1l,<-v1h,<-v2l,<-v2h]
  exact(((((((uh HB).setS 6 _ _ rfl (by simp)).setS 5 _ _ rfl (by simp)).setS 4 _ _ rfl (by simp)).setS 3 _ _ rfl (by simp)).setS 2 _ _ rfl (by simp)).setS 1 _ _ rfl (by simp)).drew.drew.drew
theorem fb_7(n:Nat)(h0:1000000<=n)(h:n<10000000)(hB:Bx w b #[z8,z8,z8,z8,z8,z8,z8,z8,z8,z8,z8,z8,z8,z8,z8,z8,z8,z8,z8,z8,z8,z8,z8,z8]):Calls Tryz.prog 358 #[.slice (some ⟨b,1,none⟩) 7 23,.int .u64 (n:Int)] w (FbP b 7 #[z8,(dgV n 6),(dgV n 5),(dgV n 4),(dgV n 3),(dgV n 2),(dgV n 1),(dgV n 0),z8,z8,z8,z8,z8,z8,z8,z8,z8,z8,z8,z8,z8,z8,z8,z8] w):=by
 have HB:=ai hB
 obtain⟨c,f,z⟩:=hB
 go_enter Tryz.func358,Tryz.ntmps358
 go_wp2_with fail
 go_loopg[1,4] 0 (fun g u v wr=>u=.int .u64 (n:Int)/\v=.int .i64 7/\wr=w)
 case atStart=>exact⟨rfl,rfl,rfl⟩
 case round=>
  obtain⟨rfl,rfl,rfl⟩:=hrel
  have x0a:(0:Int)<=(n:Int)%100*2:=by omega
  have x0b:(n:Int)%100*2<200:=by omega
  have x0c:(n:Int)%100*2+1<200:=by omega
  have x0d:(0:Int)<=(n:Int)%100*2+1:=by omega
  have x1a:(0:Int)<=(n:Int)%10000/100*2:=by omega
  have x1b:(n:Int)%10000/100*2<200:=by omega
  have x1c:(n:Int)%10000/100*2+1<200:=by omega
  have x1d:(0:Int)<=(n:Int)%10000/100*2+1:=by omega
  have x2a:(0:Int)<=(n:Int)/10000%100*2:=by omega
  have x2b:(n:Int)/10000%100*2<200:=by omega
  have x2c:(n:Int)/10000%100*2+1<200:=by omega
  have x2d:(0:Int)<=(n:Int)/10000%100*2+1:=by omega
  go_wp2_with fail
  go_region
  go_wp2_with fail
  go_region
  go_wp2_with fail
  go_region
  go_wp2_with fail
  have v0h:=qde n 1 (n%100) (show(n%100)*2<200 by omega) (by omega) (by simp only[Nat.reducePow];omega)
  have v0l:=qdf n 0 (n%100) (show(n%100)*2+1<200 by omega) (by omega) (by simp only[Nat.reducePow];omega)
  have v1h:=qde n 3 (n%10000/100) (show(n%10000/100)*2<200 by omega) (by omega) (by simp only[Nat.reducePow];omega)
  have v1l:=qdf n 2 (n%10000/100) (show(n%10000/100)*2+1<200 by omega) (by omega) (by simp only[Nat.reducePow];omega)
  have v2h:=qde n 5 (n/10000%100) (show(n/10000%100)*2<200 by omega) (by omega) (by simp only[Nat.reducePow];omega)
  have v2l:=qdf n 4 (n/10000%100) (show(n/10000%100)*2+1<200 by omega) (by omega) (by simp only[Nat.reducePow];omega)
  have vo:=dgV_one n 6 (48+(n:Int)/10000/100) (by simp only[Nat.reducePow];omega)
  go_end0
  refine⟨rfl,?_,((((((((Ke.refl _ _).set 7 _).set 6 _).set 5 _).set 4 _).set 3 _).set 2 _).set 1 _).drew.drew.drew⟩
  rw[<-v0l,<-v0h,<-v1l,<-v1h,<-v2l,<-v2h,<-vo]
  exact((((((((uh HB).setS 7 _ _ rfl (by simp)).setS 6 _ _ rfl (by simp)).setS 5 _ _ rfl (by simp)).setS 4 _ _ rfl (by simp)).setS 3 _ _ rfl (by simp)).setS 2 _ _ rfl (by simp)).setS 1 _ _ rfl (by simp)).drew.drew.drew
theorem fb_8(n:Nat)(h0:10000000<=n)(h:n<100000000)(hB:Bx w b #[z8,z8,z8,z8,z8,z8,z8,z8,z8,z8,z8,z8,z8,z8,z8,z8,z8,z8,z8,z8,z8,z8,z8,z8]):Calls Tryz.prog 358 #[.slice (some ⟨b,1,none⟩) 8 23,.int .u64 (n:Int)] w (FbP b 8 #[z8,(dgV n 7),(dgV n 6),(dgV n 5),(dgV n 4),(dgV n 3),(dgV n 2),(dgV n 1),(dgV n 0),z8,z8,z8,z8,z8,z8,z8,z8,z8,z8,z8,z8,z8,z8,z8] w):=by
 have HB:=ai hB
 obtain⟨c,f,z⟩:=hB
 go_enter Tryz.func358,Tryz.ntmps358
 go_wp2_with fail
 go_loopg[1,4] 1 (fun g u v wr=>(g=1/\u=.int .u64 (n:Int)/\v=.int .i64 8/\wr=w)\/(g=0/\u=.int .u64 ((n:Int)/100000000)/\v=.int .i64 0/\Bx wr b #[z8,(dgV n 7),(dgV n 6),(dgV n 5),(dgV n 4),(dgV n 3),(dgV n 2),(dgV n 1),(dgV n 0),z8,z8,z8,z8,z8,z8,z8,z8,z8,z8,z8,z8,z8,z8,z8]/\Ke b w wr))
 case atStart=>exact Or.inl ⟨rfl,rfl,rfl,rfl⟩
 case round=>
  rcases hrel with⟨rfl,rfl,rfl,rfl⟩|⟨rfl,rfl,rfl,hB1,hK1⟩
  ·
   have x0a:(0:Int)<=(n:Int)%100*2:=by omega
   have x0b:(n:Int)%100*2<200:=by omega
   have x0c:(n:Int)%100*2+1<200:=by omega
   have x0d:(0:Int)<=(n:Int)%100*2+1:=by omega
   have x1a:(0:Int)<=(n:Int)%10000/100*2:=by omega
   have x1b:(n:Int)%10000/100*2<200:=by omega
   have x1c:(n:Int)%10000/100*2+1<200:=by omega
   have x1d:(0:Int)<=(n:Int)%10000/100*2+1:=by omega
   have x2a:(0:Int)<=(n:Int)%100000000/10000%100*2:=by omega
   have x2b:(n:Int)%100000000/10000%100*2<200:=by omega
   have x2c:(n:Int)%100000000/10000%100*2+1<200:=by omega
   have x2d:(0:Int)<=(n:Int)%100000000/10000%100*2+1:=by omega
   have x3a:(0:Int)<=(n:Int)%100000000/10000/100*2:=by omega
   have x3b:(n:Int)%100000000/10000/100*2<200:=by omega
   have x3c:(n:Int)%100000000/10000/100*2+1<200:=by omega
   have x3d:(0:Int)<=(n:Int)%100000000/10000/100*2+1:=by omega
   go_wp2_with fail
   go_region
   go_wp2_with fail
   go_region
   go_wp2_with fail
   go_region
   go_wp2_with fail
   go_region
   go_wp2_with fail
   have v0h:=qde n 1 (n%100) (show(n%100)*2<200 by omega) (by omega) (by simp only[Nat.reducePow];omega)
   have v0l:=qdf n 0 (n%100) (show(n%100)*2+1<200 by omega) (by omega) (by simp only[Nat.reducePow];omega)
   have v1h:=qde n 3 (n%10000/100) (show(n%10000/100)*2<200 by omega) (by omega) (by simp only[Nat.reducePow];omega)
   have v1l:=qdf n 2 (n%10000/100) (show(n%10000/100)*2+1<200 by omega) (by omega) (by simp only[Nat.reducePow];omega)
   have v2h:=qde n 5 (n%100000000/10000%100) (show(n%100000000/10000%100)*2<200 by omega) (by omega) (by simp only[Nat.reducePow];omega)
   have v2l:=qdf n 4 (n%100000000/10000%100) (show(n%100000000/10000%100)*2+1<200 by omega) (by omega) (by simp only[Nat.reducePow];omega)
   have v3h:=qde n 7 (n%100000000/10000/100) (show(n%100000000/10000/100)*2<200 by omega) (by omega) (by simp only[Nat.reducePow];omega)
   have v3l:=qdf n 6 (n%100000000/10000/100) (show(n%100000000/10000/100)*2+1<200 by omega) (by omega) (by simp only[Nat.reducePow];omega)
   go_roundg 0
   case rel=>
    refine Or.inr ⟨rfl,rfl,rfl,?_,(((((((((Ke.refl _ _).set 8 _).set 7 _).set 6 _).set 5 _).set 4 _).set 3 _).set 2 _).set 1 _).drew.drew.drew.drew⟩
    rw[<-v0l,<-v0h,<-v1l,<-v1h,<-v2l,<-v2h,<-v3l,<-v3h]
    exact(((((((((uh HB).setS 8 _ _ rfl (by simp)).setS 7 _ _ rfl (by simp)).setS 6 _ _ rfl (by simp)).setS 5 _ _ rfl (by simp)).setS 4 _ _ rfl (by simp)).setS 3 _ _ rfl (by simp)).setS 2 _ _ rfl (by simp)).setS 1 _ _ rfl (by simp)).drew.drew.drew.drew
   case measure=>omega
  .clear HB c f z
   have HB:=ai hB1
   obtain⟨c,f,z⟩:=hB1
   go_wp2_with fail
   go_end0
   refine⟨rfl,?_,hK1⟩
   exact(uh HB)
theorem fb_9(n:Nat)(h0:100000000<=n)(h:n<1000000000)(hB:Bx w b #[z8,z8,z8,z8,z8,z8,z8,z8,z8,z8,z8,z8,z8,z8,z8,z8,z8,z8,z8,z8,z8,z8,z8,z8]):Calls Tryz.prog 358 #[.slice (some ⟨b,1,none⟩) 9 23,.int .u64 (n:Int)] w (FbP b 9 #[z8,(dgV n 8),(dgV n 7),(dgV n 6),(dgV n 5),(dgV n 4),(dgV n 3),(dgV n 2),(dgV n 1),(dgV n 0),z8,z8,z8,z8,z8,z8,z8,z8,z8,z8,z8,z8,z8,z8] w):=by
 have HB:=ai hB
 obtain⟨c,f,z⟩:=hB
 go_enter Tryz.func358,Tryz.ntmps358
 go_wp2_with fail
 go_loopg[1,4] 1 (fun g u v wr=>(g=1/\u=.int .u64 (n:Int)/\v=.int .i64 9/\wr=w)\/(g=0/\u=.int .u64 ((n:Int)/100000000)/\v=.int .i64 1/\Bx wr b #[z8,z8,(dgV n 7),(dgV n 6),(dgV n 5),(dgV n 4),(dgV n 3),(dgV n 2),(dgV n 1),(dgV n 0),z8,z8,z8,z8,z8,z8,z8,z8,z8,z8,z8,z8,z8,z8]/\Ke b w wr))
 case atStart=>exact Or.inl ⟨rfl,rfl,rfl,rfl⟩
 case round=>
  rcases hrel with⟨rfl,rfl,rfl,rfl⟩|⟨rfl,rfl,rfl,hB1,hK1⟩
  ·
   have x0a:(0:Int)<=(n:Int)%100*2:=by omega
   have x0b:(n:Int)%100*2<200:=by omega
   have x0c:(n:Int)%100*2+1<200:=by omega
   have x0d:(0:Int)<=(n:Int)%100*2+1:=by omega
   have x1a:(0:Int)<=(n:Int)%10000/100*2:=by omega
   have x1b:(n:Int)%10000/100*2<200:=by omega
   have x1c:(n:Int)%10000/100*2+1<200:=by omega
   have x1d:(0:Int)<=(n:Int)%10000/100*2+1:=by omega
   have x2a:(0:Int)<=(n:Int)%100000000/10000%100*2:=by omega
   have x2b:(n:Int)%100000000/10000%100*2<200:=by omega
   have x2c:(n:Int)%100000000/10000%100*2+1<200:=by omega
   have x2d:(0:Int)<=(n:Int)%100000000/10000%100*2+1:=by omega
   have x3a:(0:Int)<=(n:Int)%100000000/10000/100*2:=by omega
   have x3b:(n:Int)%100000000/10000/100*2<200:=by omega
   have x3c:(n:Int)%100000000/10000/100*2+1<200:=by omega
   have x3d:(0:Int)<=(n:Int)%100000000/10000/100*2+1:=by omega
   go_wp2_with fail
   go_region
   go_wp2_with fail
   go_region
   go_wp2_with fail
   go_region
   go_wp2_with fail
   go_region
   go_wp2_with fail
   have v0h:=qde n 1 (n%100) (show(n%100)*2<200 by omega) (by omega) (by simp only[Nat.reducePow];omega)
   have v0l:=qdf n 0 (n%100) (show(n%100)*2+1<200 by omega) (by omega) (by simp only[Nat.reducePow];omega)
   have v1h:=qde n 3 (n%10000/100) (show(n%10000/100)*2<200 by omega) (by omega) (by simp only[Nat.reducePow];omega)
   have v1l:=qdf n 2 (n%10000/100) (show(n%10000/100)*2+1<200 by omega) (by omega) (by simp only[Nat.reducePow];omega)
   have v2h:=qde n 5 (n%100000000/10000%100) (show(n%100000000/10000%100)*2<200 by omega) (by omega) (by simp only[Nat.reducePow];omega)
   have v2l:=qdf n 4 (n%100000000/10000%100) (show(n%100000000/10000%100)*2+1<200 by omega) (by omega) (by simp only[Nat.reducePow];omega)
   have v3h:=qde n 7 (n%100000000/10000/100) (show(n%100000000/10000/100)*2<200 by omega) (by omega) (by simp only[Nat.reducePow];omega)
   have v3l:=qdf n 6 (n%100000000/10000/100) (show(n%100000000/10000/100)*2+1<200 by omega) (by omega) (by simp only[Nat.reducePow];omega)
   go_roundg 0
   case rel=>
    refine Or.inr ⟨rfl,rfl,rfl,?_,(((((((((Ke.refl _ _).set 9 _).set 8 _).set 7 _).set 6 _).set 5 _).set 4 _).set 3 _).set 2 _).drew.drew.drew.drew⟩
    rw[<-v0l,<-v0h,<-v1l,<-v1h,<-v2l,<-v2h,<-v3l,<-v3h]
    exact(((((((((uh HB).setS 9 _ _ rfl (by simp)).setS 8 _ _ rfl (by simp)).setS 7 _ _ rfl (by simp)).setS 6 _ _ rfl (by simp)).setS 5 _ _ rfl (by simp)).setS 4 _ _ rfl (by simp)).setS 3 _ _ rfl (by simp)).setS 2 _ _ rfl (by simp)).drew.drew.drew.drew
   case measure=>omega
  .clear HB c f z
   have HB:=ai hB1
   obtain⟨c,f,z⟩:=hB1
   go_wp2_with fail
   have vo:=dgV_one n 8 (48+(n:Int)/100000000) (by simp only[Nat.reducePow];omega)
   go_end0
   refine⟨rfl,?_,(hK1.set 1 _)⟩
   rw[<-vo]
   exact((uh HB).setS 1 _ _ rfl (by simp))
end
end
end Go.Proofs.YtoceemjbcgmojaaGreatDoor

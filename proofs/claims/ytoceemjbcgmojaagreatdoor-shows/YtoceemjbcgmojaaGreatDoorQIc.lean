import Derived.Test.YtoceemjbcgmojaaGreatDoorQIb
import Derived.Test.YtoceemjbcgmojaaGreatDoorQPq
set_option linter.all false
set_option maxRecDepth 100000
set_option maxHeartbeats 2000000
namespace Go.Proofs.YtoceemjbcgmojaaGreatDoor
section
open Go Go.RowKit Un
theorem dg_V(n k:Nat):dgV n k=.int .u8 ((dg (n/10^k)).toNat:Int):=by
 have e:(dg (n/10^k)).toNat=48+n/10^k%10:=by
  generalize n/10^k=x
  rw[dg,UInt8.toNat_ofNat',Nat.mod_eq_of_lt (a:=48+x%10) (by omega)]
 rw[e]
 rfl
theorem qaz(n:Nat)(h:10<=n):dec n=dec (n/10)++[dg n]:=by rw[dec,if_neg (by omega)]
theorem qei(n:Nat)(h:n<10):dec n=[dg n]:=by rw[dec,if_pos h]
section
variable {w:World}
theorem dec_is3(n:Nat)(h0:100<=n)(h:n<1000):dec n=[dg (n/10^2),dg (n/10^1),dg (n/10^0)]:=by
 rw[qaz (n) (by omega),qaz (n/10) (by omega),qei (n/10/10) (by omega)]
 simp[Nat.div_div_eq_div_mul]
theorem conv_3{b:Nat}(n:Nat)(h0:100<=n)(h:n<1000)(hB:Bx w b #[z8,(dgV n 2),(dgV n 1),(dgV n 0),z8,z8,z8,z8,z8,z8,z8,z8,z8,z8,z8,z8,z8,z8,z8,z8,z8,z8,z8,z8]):(convert 132 9 (.slice (some ⟨b,1,none⟩) 3 23)).run Tryz.prog w=.ok (.string (bs (dec n))) w:=by
 have hl:(dec n).length=3:=by rw[dec_is3 n h0 h];rfl
 have:=run_convert_bytes_back w 132 9 5 ⟨b,1,none⟩ 23 (dec n) qdc qdy qcs (fun j hj=>?_)
 .rw[hl]at this
  exact this
 .have e:(⟨b,1,none⟩:Addr).add j=⟨b,1+j,none⟩:=by unfold Addr.add;split<;>simp_all
  rw[e,hB.c (1+j)]
  have hj':j<3:=by omega
  have hc:j=0\/j=1\/j=2:=by omega
  simp only[dec_is3 n h0 h]
  rcases hc with rfl|rfl|rfl<;>simp[dg_V]
theorem fi_3(n:Nat)(h0:100<=n)(h:n<1000)(hp:P10 w):Calls Tryz.prog 311 #[.int .i64 (n:Int),.int .i64 10] w fun e w'=>e=.returned (.string (bs (dec n)))/\Below w.heap.size w w':=by
 have hd:=ai (dec_dl 2 n (Or.inr h0) h)
 have hb1:Below w.heap.size w (w.alloc (.cells #[z8,z8,z8,z8,z8,z8,z8,z8,z8,z8,z8,z8,z8,z8,z8,z8,z8,z8,z8,z8,z8,z8,z8,z8] 522)):=bw _
 have HN:=ai (qda (w:=w.alloc (.cells #[z8,z8,z8,z8,z8,z8,z8,z8,z8,z8,z8,z8,z8,z8,z8,z8,z8,z8,z8,z8,z8,z8,z8,z8] 522)) n (by omega) (by omega) (hp.bel hb1))
 rw[uh hd]at HN
 have HF:=ai (fb_3 (b:=w.heap.size) n h0 h (Bx.new w #[z8,z8,z8,z8,z8,z8,z8,z8,z8,z8,z8,z8,z8,z8,z8,z8,z8,z8,z8,z8,z8,z8,z8,z8] 522))
 clear hp
 go_enter Tryz.func311,Tryz.ntmps311
 go_wp2_with fail
 refine(uh HN).mono ?_
 rintro e w1⟨rfl,rfl⟩
 go_wp2_with fail
 refine(uh HF).mono ?_
 rintro e w2⟨rfl,hB,hK⟩
 have hcv:=conv_3 n h0 h hB
 have HK:=ai hK
 clear HF HN hK hB
 go_wp2_with fail
 go_ret
 exact⟨rfl,(uh HK).low hb1 hb1.size (br _)⟩
theorem dec_is4(n:Nat)(h0:1000<=n)(h:n<10000):dec n=[dg (n/10^3),dg (n/10^2),dg (n/10^1),dg (n/10^0)]:=by
 rw[qaz (n) (by omega),qaz (n/10) (by omega),qaz (n/10/10) (by omega),qei (n/10/10/10) (by omega)]
 simp[Nat.div_div_eq_div_mul]
theorem conv_4{b:Nat}(n:Nat)(h0:1000<=n)(h:n<10000)(hB:Bx w b #[z8,(dgV n 3),(dgV n 2),(dgV n 1),(dgV n 0),z8,z8,z8,z8,z8,z8,z8,z8,z8,z8,z8,z8,z8,z8,z8,z8,z8,z8,z8]):(convert 132 9 (.slice (some ⟨b,1,none⟩) 4 23)).run Tryz.prog w=.ok (.string (bs (dec n))) w:=by
 have hl:(dec n).length=4:=by rw[dec_is4 n h0 h];rfl
 have:=run_convert_bytes_back w 132 9 5 ⟨b,1,none⟩ 23 (dec n) qdc qdy qcs (fun j hj=>?_)
 .rw[hl]at this
  exact this
 .have e:(⟨b,1,none⟩:Addr).add j=⟨b,1+j,none⟩:=by unfold Addr.add;split<;>simp_all
  rw[e,hB.c (1+j)]
  have hj':j<4:=by omega
  have hc:j=0\/j=1\/j=2\/j=3:=by omega
  simp only[dec_is4 n h0 h]
  rcases hc with rfl|rfl|rfl|rfl<;>simp[dg_V]
theorem fi_4(n:Nat)(h0:1000<=n)(h:n<10000)(hp:P10 w):Calls Tryz.prog 311 #[.int .i64 (n:Int),.int .i64 10] w fun e w'=>e=.returned (.string (bs (dec n)))/\Below w.heap.size w w':=by
 have hd:=ai (dec_dl 3 n (Or.inr h0) h)
 have hb1:Below w.heap.size w (w.alloc (.cells #[z8,z8,z8,z8,z8,z8,z8,z8,z8,z8,z8,z8,z8,z8,z8,z8,z8,z8,z8,z8,z8,z8,z8,z8] 522)):=bw _
 have HN:=ai (qda (w:=w.alloc (.cells #[z8,z8,z8,z8,z8,z8,z8,z8,z8,z8,z8,z8,z8,z8,z8,z8,z8,z8,z8,z8,z8,z8,z8,z8] 522)) n (by omega) (by omega) (hp.bel hb1))
 rw[uh hd]at HN
 have HF:=ai (fb_4 (b:=w.heap.size) n h0 h (Bx.new w #[z8,z8,z8,z8,z8,z8,z8,z8,z8,z8,z8,z8,z8,z8,z8,z8,z8,z8,z8,z8,z8,z8,z8,z8] 522))
 clear hp
 go_enter Tryz.func311,Tryz.ntmps311
 go_wp2_with fail
 refine(uh HN).mono ?_
 rintro e w1⟨rfl,rfl⟩
 go_wp2_with fail
 refine(uh HF).mono ?_
 rintro e w2⟨rfl,hB,hK⟩
 have hcv:=conv_4 n h0 h hB
 have HK:=ai hK
 clear HF HN hK hB
 go_wp2_with fail
 go_ret
 exact⟨rfl,(uh HK).low hb1 hb1.size (br _)⟩
theorem dec_is5(n:Nat)(h0:10000<=n)(h:n<100000):dec n=[dg (n/10^4),dg (n/10^3),dg (n/10^2),dg (n/10^1),dg (n/10^0)]:=by
 rw[qaz (n) (by omega),qaz (n/10) (by omega),qaz (n/10/10) (by omega),qaz (n/10/10/10) (by omega),qei (n/10/10/10/10) (by omega)]
 simp[Nat.div_div_eq_div_mul]
theorem conv_5{b:Nat}(n:Nat)(h0:10000<=n)(h:n<100000)(hB:Bx w b #[z8,(dgV n 4),(dgV n 3),(dgV n 2),(dgV n 1),(dgV n 0),z8,z8,z8,z8,z8,z8,z8,z8,z8,z8,z8,z8,z8,z8,z8,z8,z8,z8]):(convert 132 9 (.slice (some ⟨b,1,none⟩) 5 23)).run Tryz.prog w=.ok (.string (bs (dec n))) w:=by
 have hl:(dec n).length=5:=by rw[dec_is5 n h0 h];rfl
 have:=run_convert_bytes_back w 132 9 5 ⟨b,1,none⟩ 23 (dec n) qdc qdy qcs (fun j hj=>?_)
 .rw[hl]at this
  exact this
 .have e:(⟨b,1,none⟩:Addr).add j=⟨b,1+j,none⟩:=by unfold Addr.add;split<;>simp_all
  rw[e,hB.c (1+j)]
  have hj':j<5:=by omega
  have hc:j=0\/j=1\/j=2\/j=3\/j=4:=by omega
  simp only[dec_is5 n h0 h]
  rcases hc with rfl|rfl|rfl|rfl|rfl<;>simp[dg_V]
theorem fi_5(n:Nat)(h0:10000<=n)(h:n<100000)(hp:P10 w):Calls Tryz.prog 311 #[.int .i64 (n:Int),.int .i64 10] w fun e w'=>e=.returned (.string (bs (dec n)))/\Below w.heap.size w w':=by
 have hd:=ai (dec_dl 4 n (Or.inr h0) h)
 have hb1:Below w.heap.size w (w.alloc (.cells #[z8,z8,z8,z8,z8,z8,z8,z8,z8,z8,z8,z8,z8,z8,z8,z8,z8,z8,z8,z8,z8,z8,z8,z8] 522)):=bw _
 have HN:=ai (qda (w:=w.alloc (.cells #[z8,z8,z8,z8,z8,z8,z8,z8,z8,z8,z8,z8,z8,z8,z8,z8,z8,z8,z8,z8,z8,z8,z8,z8] 522)) n (by omega) (by omega) (hp.bel hb1))
 rw[uh hd]at HN
 have HF:=ai (fb_5 (b:=w.heap.size) n h0 h (Bx.new w #[z8,z8,z8,z8,z8,z8,z8,z8,z8,z8,z8,z8,z8,z8,z8,z8,z8,z8,z8,z8,z8,z8,z8,z8] 522))
 clear hp
 go_enter Tryz.func311,Tryz.ntmps311
 go_wp2_with fail
 refine(uh HN).mono ?_
 rintro e w1⟨rfl,rfl⟩
 go_wp2_with fail
 refine(uh HF).mono ?_
 rintro e w2⟨rfl,hB,hK⟩
 have hcv:=conv_5 n h0 h hB
 have HK:=ai hK
 clear HF HN hK hB
 go_wp2_with fail
 go_ret
 exact⟨rfl,(uh HK).low hb1 hb1.size (br _)⟩
theorem dec_is6(n:Nat)(h0:100000<=n)(h:n<1000000):dec n=[dg (n/10^5),dg (n/10^4),dg (n/10^3),dg (n/10^2),dg (n/10^1),dg (n/10^0)]:=by
 rw[qaz (n) (by omega),qaz (n/10) (by omega),qaz (n/10/10) (by omega),qaz (n/10/10/10) (by omega),qaz (n/10/10/10/10) (by omega),qei (n/10/10/10/10/10) (by omega)]
 simp[Nat.div_div_eq_div_mul]
theorem conv_6{b:Nat}(n:Nat)(h0:100000<=n)(h:n<1000000)(hB:Bx w b #[z8,(dgV n 5),(dgV n 4),(dgV n 3),(dgV n 2),(dgV n 1),(dgV n 0),z8,z8,z8,z8,z8,z8,z8,z8,z8,z8,z8,z8,z8,z8,z8,z8,z8]):(convert 132 9 (.slice (some ⟨b,1,none⟩) 6 23)).run Tryz.prog w=.ok (.string (bs (dec n))) w:=by
 have hl:(dec n).length=6:=by rw[dec_is6 n h0 h];rfl
 have:=run_convert_bytes_back w 132 9 5 ⟨b,1,none⟩ 23 (dec n) qdc qdy qcs (fun j hj=>?_)
 .rw[hl]at this
  exact this
 .have e:(⟨b,1,none⟩:Addr).add j=⟨b,1+j,none⟩:=by unfold Addr.add;split<;>simp_all
  rw[e,hB.c (1+j)]
  have hj':j<6:=by omega
  have hc:j=0\/j=1\/j=2\/j=3\/j=4\/j=5:=by omega
  simp only[dec_is6 n h0 h]
  rcases hc with rfl|rfl|rfl|rfl|rfl|rfl<;>simp[dg_V]
theorem fi_6(n:Nat)(h0:100000<=n)(h:n<1000000)(hp:P10 w):Calls Tryz.prog 311 #[.int .i64 (n:Int),.int .i64 10] w fun e w'=>e=.returned (.string (bs (dec n)))/\Below w.heap.size w w':=by
 have hd:=ai (dec_dl 5 n (Or.inr h0) h)
 have hb1:Below w.heap.size w (w.alloc (.cells #[z8,z8,z8,z8,z8,z8,z8,z8,z8,z8,z8,z8,z8,z8,z8,z8,z8,z8,z8,z8,z8,z8,z8,z8] 522)):=bw _
 have HN:=ai (qda (w:=w.alloc (.cells #[z8,z8,z8,z8,z8,z8,z8,z8,z8,z8,z8,z8,z8,z8,z8,z8,z8,z8,z8,z8,z8,z8,z8,z8] 522)) n (by omega) (by omega) (hp.bel hb1))
 rw[uh hd]at HN
 have HF:=ai (fb_6 (b:=w.heap.size) n h0 h (Bx.new w #[z8,z8,z8,z8,z8,z8,z8,z8,z8,z8,z8,z8,z8,z8,z8,z8,z8,z8,z8,z8,z8,z8,z8,z8] 522))
 clear hp
 go_enter Tryz.func311,Tryz.ntmps311
 go_wp2_with fail
 refine(uh HN).mono ?_
 rintro e w1⟨rfl,rfl⟩
 go_wp2_with fail
 refine(uh HF).mono ?_
 rintro e w2⟨rfl,hB,hK⟩
 have hcv:=conv_6 n h0 h hB
 have HK:=ai hK
 clear HF HN hK hB
 go_wp2_with fail
 go_ret
 exact⟨rfl,(uh HK).low hb1 hb1.size (br _)⟩
theorem dec_is7(n:Nat)(h0:1000000<=n)(h:n<10000000):dec n=[dg (n/10^6),dg (n/10^5),dg (n/10^4),dg (n/10^3),dg (n/10^2),dg (n/10^1),dg (n/10^0)]:=by
 rw[qaz (n) (by omega),qaz (n/10) (by omega),qaz (n/10/10) (by omega),qaz (n/10/10/10) (by omega),qaz (n/10/10/10/10) (by omega),qaz (n/10/10/10/10/10) (by omega),qei (n/10/10/10/10/10/10) (by omega)]
 simp[Nat.div_div_eq_div_mul]
theorem conv_7{b:Nat}(n:Nat)(h0:1000000<=n)(h:n<10000000)(hB:Bx w b #[z8,(dgV n 6),(dgV n 5),(dgV n 4),(dgV n 3),(dgV n 2),(dgV n 1),(dgV n 0),z8,z8,z8,z8,z8,z8,z8,z8,z8,z8,z8,z8,z8,z8,z8,z8]):(convert 132 9 (.slice (some ⟨b,1,none⟩) 7 23)).run Tryz.prog w=.ok (.string (bs (dec n))) w:=by
 have hl:(dec n).length=7:=by rw[dec_is7 n h0 h];rfl
 have:=run_convert_bytes_back w 132 9 5 ⟨b,1,none⟩ 23 (dec n) qdc qdy qcs (fun j hj=>?_)
 .rw[hl]at this
  exact this
 .have e:(⟨b,1,none⟩:Addr).add j=⟨b,1+j,none⟩:=by unfold Addr.add;split<;>simp_all
  rw[e,hB.c (1+j)]
  have hj':j<7:=by omega
  have hc:j=0\/j=1\/j=2\/j=3\/j=4\/j=5\/j=6:=by omega
  simp only[dec_is7 n h0 h]
  rcases hc with rfl|rfl|rfl|rfl|rfl|rfl|rfl<;>simp[dg_V]
theorem fi_7(n:Nat)(h0:1000000<=n)(h:n<10000000)(hp:P10 w):Calls Tryz.prog 311 #[.int .i64 (n:Int),.int .i64 10] w fun e w'=>e=.returned (.string (bs (dec n)))/\Below w.heap.size w w':=by
 have hd:=ai (dec_dl 6 n (Or.inr h0) h)
 have hb1:Below w.heap.size w (w.alloc (.cells #[z8,z8,z8,z8,z8,z8,z8,z8,z8,z8,z8,z8,z8,z8,z8,z8,z8,z8,z8,z8,z8,z8,z8,z8] 522)):=bw _
 have HN:=ai (qda (w:=w.alloc (.cells #[z8,z8,z8,z8,z8,z8,z8,z8,z8,z8,z8,z8,z8,z8,z8,z8,z8,z8,z8,z8,z8,z8,z8,z8] 522)) n (by omega) (by omega) (hp.bel hb1))
 rw[uh hd]at HN
 have HF:=ai (fb_7 (b:=w.heap.size) n h0 h (Bx.new w #[z8,z8,z8,z8,z8,z8,z8,z8,z8,z8,z8,z8,z8,z8,z8,z8,z8,z8,z8,z8,z8,z8,z8,z8] 522))
 clear hp
 go_enter Tryz.func311,Tryz.ntmps311
 go_wp2_with fail
 refine(uh HN).mono ?_
 rintro e w1⟨rfl,rfl⟩
 go_wp2_with fail
 refine(uh HF).mono ?_
 rintro e w2⟨rfl,hB,hK⟩
 have hcv:=conv_7 n h0 h hB
 have HK:=ai hK
 clear HF HN hK hB
 go_wp2_with fail
 go_ret
 exact⟨rfl,(uh HK).low hb1 hb1.size (br _)⟩
theorem dec_is8(n:Nat)(h0:10000000<=n)(h:n<100000000):dec n=[dg (n/10^7),dg (n/10^6),dg (n/10^5),dg (n/10^4),dg (n/10^3),dg (n/10^2),dg (n/10^1),dg (n/10^0)]:=by
 rw[qaz (n) (by omega),qaz (n/10) (by omega),qaz (n/10/10) (by omega),qaz (n/10/10/10) (by omega),qaz (n/10/10/10/10) (by omega),qaz (n/10/10/10/10/10) (by omega),qaz (n/10/10/10/10/10/10) (by omega),qei (n/10/10/10/10/10/10/10) (by omega)]
 simp[Nat.div_div_eq_div_mul]
theorem conv_8{b:Nat}(n:Nat)(h0:10000000<=n)(h:n<100000000)(hB:Bx w b #[z8,(dgV n 7),(dgV n 6),(dgV n 5),(dgV n 4),(dgV n 3),(dgV n 2),(dgV n 1),(dgV n 0),z8,z8,z8,z8,z8,z8,z8,z8,z8,z8,z8,z8,z8,z8,z8]):(convert 132 9 (.slice (some ⟨b,1,none⟩) 8 23)).run Tryz.prog w=.ok (.string (bs (dec n))) w:=by
 have hl:(dec n).length=8:=by rw[dec_is8 n h0 h];rfl
 have:=run_convert_bytes_back w 132 9 5 ⟨b,1,none⟩ 23 (dec n) qdc qdy qcs (fun j hj=>?_)
 .rw[hl]at this
  exact this
 .have e:(⟨b,1,none⟩:Addr).add j=⟨b,1+j,none⟩:=by unfold Addr.add;split<;>simp_all
  rw[e,hB.c (1+j)]
  have hj':j<8:=by omega
  have hc:j=0\/j=1\/j=2\/j=3\/j=4\/j=5\/j=6\/j=7:=by omega
  simp only[dec_is8 n h0 h]
  rcases hc with rfl|rfl|rfl|rfl|rfl|rfl|rfl|rfl<;>simp[dg_V]
theorem fi_8(n:Nat)(h0:10000000<=n)(h:n<100000000)(hp:P10 w):Calls Tryz.prog 311 #[.int .i64 (n:Int),.int .i64 10] w fun e w'=>e=.returned (.string (bs (dec n)))/\Below w.heap.size w w':=by
 have hd:=ai (dec_dl 7 n (Or.inr h0) h)
 have hb1:Below w.heap.size w (w.alloc (.cells #[z8,z8,z8,z8,z8,z8,z8,z8,z8,z8,z8,z8,z8,z8,z8,z8,z8,z8,z8,z8,z8,z8,z8,z8] 522)):=bw _
 have HN:=ai (qda (w:=w.alloc (.cells #[z8,z8,z8,z8,z8,z8,z8,z8,z8,z8,z8,z8,z8,z8,z8,z8,z8,z8,z8,z8,z8,z8,z8,z8] 522)) n (by omega) (by omega) (hp.bel hb1))
 rw[uh hd]at HN
 have HF:=ai (fb_8 (b:=w.heap.size) n h0 h (Bx.new w #[z8,z8,z8,z8,z8,z8,z8,z8,z8,z8,z8,z8,z8,z8,z8,z8,z8,z8,z8,z8,z8,z8,z8,z8] 522))
 clear hp
 go_enter Tryz.func311,Tryz.ntmps311
 go_wp2_with fail
 refine(uh HN).mono ?_
 rintro e w1⟨rfl,rfl⟩
 go_wp2_with fail
 refine(uh HF).mono ?_
 rintro e w2⟨rfl,hB,hK⟩
 have hcv:=conv_8 n h0 h hB
 have HK:=ai hK
 clear HF HN hK hB
 go_wp2_with fail
 go_ret
 exact⟨rfl,(uh HK).low hb1 hb1.size (br _)⟩
theorem dec_is9(n:Nat)(h0:100000000<=n)(h:n<1000000000):dec n=[dg (n/10^8),dg (n/10^7),dg (n/10^6),dg (n/10^5),dg (n/10^4),dg (n/10^3),dg (n/10^2),dg (n/10^1),dg (n/10^0)]:=by
 rw[qaz (n) (by omega),qaz (n/10) (by omega),qaz (n/10/10) (by omega),qaz (n/10/10/10) (by omega),qaz (n/10/10/10/10) (by omega),qaz (n/10/10/10/10/10) (by omega),qaz (n/10/10/10/10/10/10) (by omega),qaz (n/10/10/10/10/10/10/10) (by omega),qei (n/10/10/10/10/10/10/10/10) (by omega)]
 simp[Nat.div_div_eq_div_mul]
theorem conv_9{b:Nat}(n:Nat)(h0:100000000<=n)(h:n<1000000000)(hB:Bx w b #[z8,(dgV n 8),(dgV n 7),(dgV n 6),(dgV n 5),(dgV n 4),(dgV n 3),(dgV n 2),(dgV n 1),(dgV n 0),z8,z8,z8,z8,z8,z8,z8,z8,z8,z8,z8,z8,z8,z8]):(convert 132 9 (.slice (some ⟨b,1,none⟩) 9 23)).run Tryz.prog w=.ok (.string (bs (dec n))) w:=by
 have hl:(dec n).length=9:=by rw[dec_is9 n h0 h];rfl
 have:=run_convert_bytes_back w 132 9 5 ⟨b,1,none⟩ 23 (dec n) qdc qdy qcs (fun j hj=>?_)
 .rw[hl]at this
  exact this
 .have e:(⟨b,1,none⟩:Addr).add j=⟨b,1+j,none⟩:=by unfold Addr.add;split<;>simp_all
  rw[e,hB.c (1+j)]
  have hj':j<9:=by omega
  have hc:j=0\/j=1\/j=2\/j=3\/j=4\/j=5\/j=6\/j=7\/j=8:=by omega
  simp only[dec_is9 n h0 h]
  rcases hc with rfl|rfl|rfl|rfl|rfl|rfl|rfl|rfl|rfl<;>simp[dg_V]
theorem fi_9(n:Nat)(h0:100000000<=n)(h:n<1000000000)(hp:P10 w):Calls Tryz.prog 311 #[.int .i64 (n:Int),.int .i64 10] w fun e w'=>e=.returned (.string (bs (dec n)))/\Below w.heap.size w w':=by
 have hd:=ai (dec_dl 8 n (Or.inr h0) h)
 have hb1:Below w.heap.size w (w.alloc (.cells #[z8,z8,z8,z8,z8,z8,z8,z8,z8,z8,z8,z8,z8,z8,z8,z8,z8,z8,z8,z8,z8,z8,z8,z8] 522)):=bw _
 have HN:=ai (qda (w:=w.alloc (.cells #[z8,z8,z8,z8,z8,z8,z8,z8,z8,z8,z8,z8,z8,z8,z8,z8,z8,z8,z8,z8,z8,z8,z8,z8] 522)) n (by omega) (by omega) (hp.bel hb1))
 rw[uh hd]at HN
 have HF:=ai (fb_9 (b:=w.heap.size) n h0 h (Bx.new w #[z8,z8,z8,z8,z8,z8,z8,z8,z8,z8,z8,z8,z8,z8,z8,z8,z8,z8,z8,z8,z8,z8,z8,z8] 522))
 clear hp
 go_enter Tryz.func311,Tryz.ntmps311
 go_wp2_with fail
 refine(uh HN).mono ?_
 rintro e w1⟨rfl,rfl⟩
 go_wp2_with fail
 refine(uh HF).mono ?_
 rintro e w2⟨rfl,hB,hK⟩
 have hcv:=conv_9 n h0 h hB
 have HK:=ai hK
 clear HF HN hK hB
 go_wp2_with fail
 go_ret
 exact⟨rfl,(uh HK).low hb1 hb1.size (br _)⟩
theorem fi_any(n:Nat)(h0:100<=n)(h:n<1000000000)(hp:P10 w):Calls Tryz.prog 311 #[.int .i64 (n:Int),.int .i64 10] w fun e w'=>e=.returned (.string (bs (dec n)))/\Below w.heap.size w w':=by
 by_cases h3:n<1000
 .exact fi_3 n (by omega) h3 hp
 by_cases h4:n<10000
 .exact fi_4 n (by omega) h4 hp
 by_cases h5:n<100000
 .exact fi_5 n (by omega) h5 hp
 by_cases h6:n<1000000
 .exact fi_6 n (by omega) h6 hp
 by_cases h7:n<10000000
 .exact fi_7 n (by omega) h7 hp
 by_cases h8:n<100000000
 .exact fi_8 n (by omega) h8 hp
 exact fi_9 n (by omega) h hp
end
end
end Go.Proofs.YtoceemjbcgmojaaGreatDoor

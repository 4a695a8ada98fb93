/- Parts of the proof, packed: TaChk, MaMap, MaM, MaCol, MaRRw, TaBld, TaTb, IdRsM, IdCnt, IdSeek, IdChk, IdFre, IdCon, IdLen, IdLay, IdSrt, IdEdg, IdRes, IdRsW. -/
import Derived.Test.YtahafijpcmphaaaGreatQr14
import Derived.Test.YtahafijpcmphaaaGreatQr1
import Derived.Maps.OwnSet
import Derived.Maps.OwnOps
import Derived.Test.YtahafijpcmphaaaGreatQr12
import Derived.Test.YtahafijpcmphaaaGreatQr2
import Derived.Lib.SliceRun
/- table: Check. -/
namespace Go.Proofs.YtahafijpcmphaaaGreat
open Go.RowKit Bs
set_option maxRecDepth 100000 in
theorem row4T {w : World} {b : Nat} {x0 x1 x2 x3 : Value} {t : TypeId} (h : w.heap[b]? = some (.cells #[x0, x1, x2, x3] t (0, 0))) :
    w.cell? ⟨b, 0, none⟩ = some x0 ∧ w.cell? ⟨b, 1, none⟩ = some x1 ∧ w.cell? ⟨b, 2, none⟩ = some x2 ∧ w.cell? ⟨b, 3, none⟩ = some x3 :=
  ⟨cell_of_row _ _ _ _ _ _ h, cell_of_row _ _ _ _ _ _ h, cell_of_row _ _ _ _ _ _ h, cell_of_row _ _ _ _ _ _ h⟩
set_option maxRecDepth 100000 in
theorem tbwithin_any (n m : Int) (b : Bool) (h : inV n 1 m = b) (w : World) : Calls Tryz.prog 95 #[.int .i64 n, .int .i64 m] w fun e w' => e = .returned (.bool b) ∧ w = w' := by
  subst h
  unfold inV
  go_enter Tryz.func95, Tryz.ntmps95
  by_cases h1 : (1 : Int) ≤ n
  · by_cases h2 : n ≤ m
    · rw [decide_eq_true (show 1 ≤ n ∧ n ≤ m from ⟨h1, h2⟩)]
      go_wp2_with fail
      go_ret
      exact ⟨rfl, rfl⟩
    · rw [decide_eq_false (show ¬ (1 ≤ n ∧ n ≤ m) from fun h => h2 h.2)]
      go_wp2_with fail
      go_ret
      exact ⟨rfl, rfl⟩
  · rw [decide_eq_false (show ¬ (1 ≤ n ∧ n ≤ m) from fun h => h1 h.1)]
    go_wp2_with fail
    go_ret
    exact ⟨rfl, rfl⟩
set_option maxRecDepth 100000 in
theorem tvlen_any (n : Int) (b : Bool) (h : vl n = b) (w : World) : Calls Tryz.prog 96 #[.int .i64 n] w fun e w' => e = .returned (.bool b) ∧ w.grownBy w' none := by
  have HP : Hid (plOk 1 n = b) := Lib.hid (by unfold plOk; rw [h]; simp [inV])
  go_enter Tryz.func96, Tryz.ntmps96
  go_wp2_with fail
  refine (iplc_any 1 n w).mono ?_
  rintro e w1 ⟨rfl, hg⟩
  rw [HP.out]
  have G := Lib.hid hg
  clear hg
  go_wp2_with fail
  go_ret
  exact ⟨rfl, G.out⟩
set_option maxRecDepth 100000 in
theorem twr1_any (z : Int) (w : World) : Calls Tryz.prog 98 #[.int .i64 z] w fun e w' => e = .returned (.bool (!inV z 1 99)) ∧ w.grownBy w' none := by
  obtain ⟨b, hb⟩ : ∃ b, inV z 1 99 = b := ⟨_, rfl⟩
  have HB := Lib.hid hb
  rw [hb]
  clear hb
  go_enter Tryz.func98, Tryz.ntmps98
  go_wp2_with fail
  refine (tbwithin_any z 99 b HB.out w).mono ?_
  rintro e w1 ⟨rfl, rfl⟩
  go_wp2_with fail
  go_ret
  exact ⟨rfl, grown_refl _ _⟩
set_option maxRecDepth 100000 in
theorem twr_any (x : Rw) (q : Nat → Prop) (w : World) (hx : RwOk w q x) : Calls Tryz.prog 49 #[.agg #[.int .i64 x.id, .slice x.p x.nx.length x.c]] w fun e w' => e = .returned (.bool (wrW x)) ∧ w.grownBy w' none := by
  have eg : EnterF 98 := enters_of Tryz.func98 (by kernel_rfl) rfl
  have EG := Lib.hid eg
  obtain ⟨k1, k2⟩ := tone_box w #[.int .i64 x.id, .slice x.p x.nx.length x.c] 36
  have HB := Lib.hid (And.intro k1 (And.intro k2 (hx.keep k2)))
  obtain ⟨b, hb⟩ : ∃ b, inV x.id 1 256 = b := ⟨_, rfl⟩
  have HI := Lib.hid hb
  clear k1 k2 hx eg hb
  go_enter Tryz.func49, Tryz.ntmps49
  go_upto_region 1 with fail
  generalize w.alloc _ = w1 at *
  have c0 : w1.cell? ⟨w.heap.size, 0, none⟩ = some (.int .i64 x.id) := cell_of_row _ _ _ _ _ _ HB.out.1
  have c1 : w1.cell? ⟨w.heap.size, 1, none⟩ = some (.slice x.p x.nx.length x.c) := cell_of_row _ _ _ _ _ _ HB.out.1
  go_wp2_with fail
  refine (tbwithin_any x.id 256 b HI.out w1).mono ?_
  rintro e w' ⟨rfl, rfl⟩
  cases b
  case false =>
    have HO : Hid (wrW x = true) := Lib.hid (by unfold wrW; rw [HI.out]; rfl)
    go_wp2_with fail
    go_ret
    rw [HO.out]
    exact ⟨rfl, HB.out.2.1⟩
  have HO : Hid (wrW x = x.nx.any fun z => !inV z 1 99) := Lib.hid (by unfold wrW; rw [HI.out]; rfl)
  have hm : x.nx.length ≤ 9223372036854775807 := Nat.le_trans HB.out.2.2.hc.1 HB.out.2.2.hc.2
  go_wp2_with fail
  refine (tcontI_any 98 #[] (fun z => !inV z 1 99) EG.out x.nx x.p x.c q w1 HB.out.2.2.rd hm (fun r w' _ => twr1_any r w')).mono ?_
  rintro e w2 ⟨rfl, hg⟩
  have G := Lib.hid (grown_trans HB.out.2.1 hg)
  clear hg
  go_wp2_with fail
  go_ret
  rw [HO.out]
  exact ⟨rfl, G.out⟩
set_option maxRecDepth 100000 in
theorem tlg_any (x : Rw) (w : World) : Calls Tryz.prog 50 #[.agg #[.int .i64 x.id, .slice x.p x.nx.length x.c]] w fun e w' => e = .returned (.bool (lgW x)) ∧ w.grownBy w' none := by
  obtain ⟨k1, k2⟩ := tone_box w #[.int .i64 x.id, .slice x.p x.nx.length x.c] 36
  have HB := Lib.hid (And.intro k1 k2)
  have HO : Hid (decide ((24 : Int) < (x.nx.length : Int)) = lgW x) := Lib.hid (by unfold lgW; rw [decide_eq_decide]; omega)
  clear k1 k2
  go_enter Tryz.func50, Tryz.ntmps50
  go_upto_region 1 with fail
  generalize w.alloc _ = w1 at *
  have c1 : w1.cell? ⟨w.heap.size, 1, none⟩ = some (.slice x.p x.nx.length x.c) := cell_of_row _ _ _ _ _ _ HB.out.1
  go_wp2_with fail
  go_ret
  rw [← HO.out]
  exact ⟨rfl, HB.out.2⟩
set_option maxRecDepth 100000 in
theorem tds_any (x : Rw) (q : Nat → Prop) (w : World) (hx : RwOk w q x) : Calls Tryz.prog 53 #[.agg #[.int .i64 x.id, .slice x.p x.nx.length x.c]] w fun e w' => e = .returned (.bool (dsW x)) ∧ w.grownBy w' none := by
  obtain ⟨k1, k2⟩ := tone_box w #[.int .i64 x.id, .slice x.p x.nx.length x.c] 36
  have HB := Lib.hid (And.intro k1 (And.intro k2 (hx.keep k2)))
  clear k1 k2 hx
  go_enter Tryz.func53, Tryz.ntmps53
  go_upto_region 1 with fail
  generalize w.alloc _ = w1 at *
  have c1 : w1.cell? ⟨w.heap.size, 1, none⟩ = some (.slice x.p x.nx.length x.c) := cell_of_row _ _ _ _ _ _ HB.out.1
  have hm : x.nx.length ≤ 9223372036854775807 := Nat.le_trans HB.out.2.2.hc.1 HB.out.2.2.hc.2
  go_wp2_with fail
  refine (tascI_any x.nx x.p x.c q w1 HB.out.2.2.rd hm).mono ?_
  rintro e w2 ⟨rfl, hg⟩
  have G := Lib.hid (grown_trans HB.out.2.1 hg)
  clear hg
  go_wp2_with fail
  go_ret
  exact ⟨rfl, G.out⟩
set_option maxRecDepth 100000 in
theorem tck1_any (g : Nat) (r s n : Int) (v3 : Value) (x : Rw) (q : Nat → Prop) (w : World) (hb : w.heap[g]? = some (.cells #[.int .i64 r, .int .i64 s, .int .i64 n, v3] 25 (0, 0))) (hx : RwOk w q x) :
    Calls Tryz.prog 54 #[.agg #[.int .i64 x.id, .slice x.p x.nx.length x.c], .pointer (some ⟨g, 0, none⟩)] w fun e w' => e = .returned (.bool (cfW r x)) ∧ w.grownBy w' none := by
  obtain ⟨k1, k2⟩ := tone_box w #[.int .i64 x.id, .slice x.p x.nx.length x.c] 36
  have HB := Lib.hid (And.intro k1 (And.intro k2 (And.intro (hx.keep k2) (kept_row hb k2 (by simp)))))
  clear k1 k2 hx hb
  go_enter Tryz.func54, Tryz.ntmps54
  go_upto_region 1 with fail
  generalize w.alloc _ = w1 at *
  have c1 : w1.cell? ⟨w.heap.size, 1, none⟩ = some (.slice x.p x.nx.length x.c) := cell_of_row _ _ _ _ _ _ HB.out.1
  have d0 := (row4T HB.out.2.2.2).1
  have hm : x.nx.length ≤ 9223372036854775807 := Nat.le_trans HB.out.2.2.1.hc.1 HB.out.2.2.1.hc.2
  by_cases h1 : 1 < x.nx.length
  · have h1' : (1 : Int) < (x.nx.length : Int) := by omega
    have HO : Hid (cfW r x = hasI x.nx r) := Lib.hid (by unfold cfW; rw [decide_eq_true h1]; rfl)
    go_wp2_with fail
    refine (tcont_any x.nx r x.p x.c q w1 HB.out.2.2.1.rd hm).mono ?_
    rintro e w2 ⟨rfl, rfl⟩
    go_wp2_with fail
    go_ret
    rw [HO.out]
    exact ⟨rfl, HB.out.2.1⟩
  · have h1' : ¬ (1 : Int) < (x.nx.length : Int) := by omega
    have HO : Hid (cfW r x = false) := Lib.hid (by unfold cfW; rw [decide_eq_false h1]; rfl)
    go_wp2_with fail
    go_ret
    rw [HO.out]
    exact ⟨rfl, HB.out.2.1⟩
set_option maxRecDepth 100000 in
set_option maxHeartbeats 1600000 in
theorem thd_any (r s n : Int) (p : Option Addr) (c : Nat) (L : List Rw) (w : World) : Calls Tryz.prog 47 #[.agg #[.int .i64 r, .int .i64 s, .int .i64 n, .slice p L.length c]] w fun e w' => e = .returned (.bool (hdT r s n L)) ∧ w.grownBy w' none := by
  obtain ⟨k1, k2⟩ := tone_box w #[.int .i64 r, .int .i64 s, .int .i64 n, .slice p L.length c] 25
  have HB := Lib.hid (And.intro k1 k2)
  clear k1 k2
  go_enter Tryz.func47, Tryz.ntmps47
  go_upto_region 1 with fail
  generalize w.alloc _ = w1 at *
  obtain ⟨d0, d1, d2, d3⟩ := row4T HB.out.1
  obtain ⟨b1, hb1⟩ : ∃ b, inV r 1 99 = b := ⟨_, rfl⟩
  obtain ⟨b2, hb2⟩ : ∃ b, vl n = b := ⟨_, rfl⟩
  have H1 := Lib.hid hb1
  have H2 := Lib.hid hb2
  obtain ⟨b3, hb3⟩ : ∃ b, inV s 0 7 = b := ⟨_, rfl⟩
  have H3 := Lib.hid hb3
  go_cut [3] from 5 to 12 (fun v wx => v = .bool (!b3) ∧ w1 = wx)
  case first =>
    clear H3
    by_cases s0 : s < 0
    · obtain rfl : b3 = false := by rw [← hb3]; exact decide_eq_false (by omega)
      clear hb3
      go_wp2_with fail
      go_meet
      exact ⟨rfl, rfl⟩
    · by_cases s7 : 7 < s
      · obtain rfl : b3 = false := by rw [← hb3]; exact decide_eq_false (by omega)
        clear hb3
        go_wp2_with fail
        go_meet
        exact ⟨rfl, rfl⟩
      · obtain rfl : b3 = true := by rw [← hb3]; exact decide_eq_true (by omega)
        clear hb3
        go_wp2_with fail
        go_meet
        exact ⟨rfl, rfl⟩
  case rest =>
  obtain ⟨rfl, rfl⟩ := hcut
  obtain ⟨b4, hb4⟩ : ∃ b, (decide (n = 0) && decide (L.length = 0)) = b := ⟨_, rfl⟩
  have H4 := Lib.hid hb4
  have HO : Hid (hdT r s n L = !(b1 && b3 && (b2 || b4))) := Lib.hid (by unfold hdT; rw [hb1, hb2, hb3, hb4])
  clear hb1 hb2 hb3
  go_upto_region 2 with fail
  go_cut [4] from 13 to 21 (fun v wx => v = .bool b4 ∧ w1 = wx)
  case first =>
    clear H4 HO
    by_cases n0 : n = 0
    · have n0' : (n == 0) = true := by simpa using n0
      by_cases l0 : L.length = 0
      · have l0' : ((L.length : Int) == 0) = true := beq_iff_eq.2 (by omega)
        obtain rfl : b4 = true := by rw [← hb4, decide_eq_true n0, decide_eq_true l0]; rfl
        clear hb4 n0 l0
        go_wp2_with fail
        go_meet
        exact ⟨rfl, rfl⟩
      · have l0' : ((L.length : Int) == 0) = false := beq_eq_false_iff_ne.2 (by omega)
        obtain rfl : b4 = false := by rw [← hb4, decide_eq_false l0]; simp
        clear hb4 n0 l0
        go_wp2_with fail
        go_meet
        exact ⟨rfl, rfl⟩
    · have n0' : (n == 0) = false := by simpa using n0
      obtain rfl : b4 = false := by rw [← hb4, decide_eq_false n0]; rfl
      clear hb4 n0
      go_wp2_with fail
      go_meet
      exact ⟨rfl, rfl⟩
  case rest =>
  obtain ⟨rfl, rfl⟩ := hcut
  clear hb4
  go_wp2_with fail
  refine (tbwithin_any r 99 b1 H1.out w1).mono ?_
  rintro e w2 ⟨rfl, rfl⟩
  cases b1
  case false =>
    go_wp2_with fail
    go_ret
    rw [HO.out]
    exact ⟨rfl, HB.out.2⟩
  cases b3
  case false =>
    go_wp2_with fail
    go_ret
    rw [HO.out]
    exact ⟨rfl, HB.out.2⟩
  cases b4
  case true =>
    go_wp2_with fail
    go_ret
    rw [HO.out]
    exact ⟨by cases b2 <;> rfl, HB.out.2⟩
  go_wp2_with fail
  refine (tvlen_any n b2 H2.out w1).mono ?_
  rintro e w3 ⟨rfl, hg⟩
  have G := Lib.hid (grown_trans HB.out.2 hg)
  clear hg
  go_wp2_with fail
  go_ret
  rw [HO.out]
  exact ⟨by cases b2 <;> rfl, G.out⟩
/-- While Check looks at a table. -/
structure TC (W : World) (r s n : Int) (p : Option Addr) (c : Nat) (L : List Rw) (w : World) : Prop where
  bx : w.heap[W.heap.size]? = some (.cells #[.int .i64 r, .int .i64 s, .int .i64 n, .slice p L.length c] 25 (0, 0))
  rd : ∃ q, RdW w q p c L
  gr : W.grownBy w none
set_option maxRecDepth 100000 in
theorem TC.keep {W w w1 : World} {r s n : Int} {p : Option Addr} {c : Nat} {L : List Rw} (h : TC W r s n p c L w) (g : w.grownBy w1 none) : TC W r s n p c L w1 :=
  ⟨kept_row h.bx g (by simp), by obtain ⟨q, hq⟩ := h.rd; exact ⟨q, hq.keep g⟩, grown_trans h.gr g⟩
set_option maxRecDepth 100000 in
set_option maxHeartbeats 3200000 in
theorem tcheckT_any (r s n : Int) (p : Option Addr) (c : Nat) (L : List Rw) (q : Nat → Prop) (w : World) (hR : RdW w q p c L) (hm : L.length ≤ 9223372036854775807) :
    Calls Tryz.prog 13 #[.agg #[.int .i64 r, .int .i64 s, .int .i64 n, .slice p L.length c]] w fun e w' => e = .returned (.int .i64 (ckT r s n L)) ∧ w.grownBy w' none := by
  have e1 : EnterF 49 := enters_of Tryz.func49 (by kernel_rfl) rfl
  have e2 : EnterF 50 := enters_of Tryz.func50 (by kernel_rfl) rfl
  have e3 : EnterF 53 := enters_of Tryz.func53 (by kernel_rfl) rfl
  have e4 : EnterF 54 := enters_of Tryz.func54 (by kernel_rfl) rfl
  have EG := Lib.hid (And.intro e1 (And.intro e2 (And.intro e3 e4)))
  obtain ⟨k1, k2⟩ := tone_box w #[.int .i64 r, .int .i64 s, .int .i64 n, .slice p L.length c] 25
  have H0 : Hid (TC w r s n p c L _) := Lib.hid ⟨k1, ⟨q, hR.keep k2⟩, k2⟩
  have HC : Hid (ckT r s n L = if hdT r s n L = true then 2 else if L.any wrW = true then 2 else if 256 < L.length then 3 else if L.any lgW = true then 3 else if ascB ltW L = false then 25 else if L.any dsW = true then 25 else if L.any (cfW r) = true then 8 else 0) := Lib.hid rfl
  clear k1 k2 hR e1 e2 e3 e4
  go_enter Tryz.func13, Tryz.ntmps13
  go_upto_region 1 with fail
  generalize w.alloc _ = w1 at *
  obtain ⟨q1, hq1⟩ := H0.out.rd
  obtain ⟨d0, d1, d2, d3⟩ := row4T H0.out.bx
  go_wp2_with fail
  refine (thd_any r s n p c L w1).mono ?_
  rintro e w2 ⟨rfl, hg⟩
  have H1 := Lib.hid (H0.out.keep hg)
  clear hg d0 d1 d2 d3 hq1
  cases f1 : hdT r s n L
  case true =>
    have F := Lib.hid f1
    clear f1
    go_wp2_with fail
    go_ret
    rw [HC.out, if_pos F.out]
    exact ⟨rfl, H1.out.gr⟩
  have F1 := Lib.hid f1
  clear f1 H0
  obtain ⟨q2, hq2⟩ := H1.out.rd
  obtain ⟨d0, d1, d2, d3⟩ := row4T H1.out.bx
  go_wp2_with fail
  refine (tcontW_any 49 #[] wrW EG.out.1 L p c q2 w2 hq2.rd hm (fun x w' hx g => twr_any x _ w' ((hq2.ok x hx).keep g))).mono ?_
  rintro e w3 ⟨rfl, hg⟩
  have H2 := Lib.hid (H1.out.keep hg)
  clear hg d0 d1 d2 d3 hq2
  cases f2 : L.any wrW
  case true =>
    have F := Lib.hid f2
    clear f2
    go_wp2_with fail
    go_ret
    rw [HC.out, if_neg (by rw [F1.out]; decide), if_pos F.out]
    exact ⟨rfl, H2.out.gr⟩
  have F2 := Lib.hid f2
  clear f2 H1
  by_cases h256 : 256 < L.length
  case pos =>
    have h256' : (256 : Int) < (L.length : Int) := by omega
    obtain ⟨d0, d1, d2, d3⟩ := row4T H2.out.bx
    go_wp2_with fail
    go_ret
    rw [HC.out, if_neg (by rw [F1.out]; decide), if_neg (by rw [F2.out]; decide), if_pos h256]
    exact ⟨rfl, H2.out.gr⟩
  have h256' : ¬ (256 : Int) < (L.length : Int) := by omega
  obtain ⟨q3, hq3⟩ := H2.out.rd
  obtain ⟨d0, d1, d2, d3⟩ := row4T H2.out.bx
  go_wp2_with fail
  refine (tcontW_any 50 #[] lgW EG.out.2.1 L p c q3 w3 hq3.rd hm (fun x w' _ _ => tlg_any x w')).mono ?_
  rintro e w4 ⟨rfl, hg⟩
  have H3 := Lib.hid (H2.out.keep hg)
  clear hg d0 d1 d2 d3 hq3
  cases f3 : L.any lgW
  case true =>
    have F := Lib.hid f3
    clear f3
    go_wp2_with fail
    go_ret
    rw [HC.out, if_neg (by rw [F1.out]; decide), if_neg (by rw [F2.out]; decide), if_neg h256, if_pos F.out]
    exact ⟨rfl, H3.out.gr⟩
  have F3 := Lib.hid f3
  clear f3 H2
  obtain ⟨q4, hq4⟩ := H3.out.rd
  obtain ⟨d0, d1, d2, d3⟩ := row4T H3.out.bx
  go_wp2_with fail
  refine (tascW_any L p c q4 w4 hq4.rd hm).mono ?_
  rintro e w5 ⟨rfl, hg⟩
  have H4 := Lib.hid (H3.out.keep hg)
  clear hg d0 d1 d2 d3 hq4
  cases f4 : ascB ltW L
  case false =>
    have F := Lib.hid f4
    clear f4
    go_wp2_with fail
    go_ret
    rw [HC.out, if_neg (by rw [F1.out]; decide), if_neg (by rw [F2.out]; decide), if_neg h256, if_neg (by rw [F3.out]; decide), if_pos F.out]
    exact ⟨rfl, H4.out.gr⟩
  have F4 := Lib.hid f4
  clear f4 H3
  obtain ⟨q5, hq5⟩ := H4.out.rd
  obtain ⟨d0, d1, d2, d3⟩ := row4T H4.out.bx
  go_wp2_with fail
  refine (tcontW_any 53 #[] dsW EG.out.2.2.1 L p c q5 w5 hq5.rd hm (fun x w' hx g => tds_any x _ w' ((hq5.ok x hx).keep g))).mono ?_
  rintro e w6 ⟨rfl, hg⟩
  have H5 := Lib.hid (H4.out.keep hg)
  clear hg d0 d1 d2 d3 hq5
  cases f5 : L.any dsW
  case true =>
    have F := Lib.hid f5
    clear f5
    go_wp2_with fail
    go_ret
    rw [HC.out, if_neg (by rw [F1.out]; decide), if_neg (by rw [F2.out]; decide), if_neg h256, if_neg (by rw [F3.out]; decide), if_neg (by rw [F4.out]; decide), if_pos F.out]
    exact ⟨rfl, H5.out.gr⟩
  have F5 := Lib.hid f5
  clear f5 H4
  obtain ⟨q6, hq6⟩ := H5.out.rd
  obtain ⟨d0, d1, d2, d3⟩ := row4T H5.out.bx
  go_wp2_with fail
  refine (tcontW_any 54 #[.pointer (some ⟨w.heap.size, 0, none⟩)] (cfW r) EG.out.2.2.2 L p c q6 w6 hq6.rd hm (fun x w' hx g => tck1_any w.heap.size r s n _ x _ w' (kept_row H5.out.bx g (by simp)) ((hq6.ok x hx).keep g))).mono ?_
  rintro e w7 ⟨rfl, hg⟩
  have H6 := Lib.hid (H5.out.keep hg)
  clear hg d0 d1 d2 d3 hq6
  cases f6 : L.any (cfW r)
  case true =>
    have F := Lib.hid f6
    clear f6
    go_wp2_with fail
    go_ret
    rw [HC.out, if_neg (by rw [F1.out]; decide), if_neg (by rw [F2.out]; decide), if_neg h256, if_neg (by rw [F3.out]; decide), if_neg (by rw [F4.out]; decide), if_neg (by rw [F5.out]; decide), if_pos F.out]
    exact ⟨rfl, H6.out.gr⟩
  have F6 := Lib.hid f6
  clear f6 H5
  go_wp2_with fail
  go_ret
  rw [HC.out, if_neg (by rw [F1.out]; decide), if_neg (by rw [F2.out]; decide), if_neg h256, if_neg (by rw [F3.out]; decide), if_neg (by rw [F4.out]; decide), if_neg (by rw [F5.out]; decide), if_neg (by rw [F6.out]; decide)]
  exact ⟨rfl, H6.out.gr⟩
end Go.Proofs.YtahafijpcmphaaaGreat

/- empty -/
namespace Go.Proofs.YtahafijpcmphaaaGreat
end Go.Proofs.YtahafijpcmphaaaGreat

/- masks: the mathematics. -/
namespace Go.Proofs.YtahafijpcmphaaaGreat
open Go.RowKit Go.Maps Bs
end Go.Proofs.YtahafijpcmphaaaGreat

/- masks: valid, nextIn, collect. -/
namespace Go.Proofs.YtahafijpcmphaaaGreat
open Go.RowKit Go.Maps Bs
end Go.Proofs.YtahafijpcmphaaaGreat

/- tables, the reference's functions: inside, plane, Row, Hop. -/
namespace Go.Proofs.YtahafijpcmphaaaGreat
open Go.RowKit Go.Maps Bs
end Go.Proofs.YtahafijpcmphaaaGreat

/- tables, the reference's functions: build. -/
namespace Go.Proofs.YtahafijpcmphaaaGreat
open Go.RowKit Bs
set_option maxRecDepth 100000 in
theorem row3B {w : World} {b : Nat} {x y z : Value} {t : TypeId} (h : w.heap[b]? = some (.cells #[x, y, z] t (0, 0))) : w.cell? ⟨b, 0, none⟩ = some x ∧ w.cell? ⟨b, 1, none⟩ = some y ∧ w.cell? ⟨b, 2, none⟩ = some z :=
  ⟨cell_of_row _ _ _ _ _ _ h, cell_of_row _ _ _ _ _ _ h, cell_of_row _ _ _ _ _ _ h⟩
set_option maxRecDepth 100000 in
theorem RdX.over {lo : Nat} {w w1 : World} {v : Value} {p : Option Addr} {c : Nat} {X : List Int} {r : Nat} (h : RdX lo w v p c X) (g : w.grownBy w1 (some r)) (hr : ∀ b, lo ≤ b → b ≠ r) : RdX lo w1 v p c X :=
  ⟨(h.1.grown g (fun b hb e => hr b hb.1 (Option.some.inj e))).mono (fun b hb => ⟨hb.1, Nat.lt_of_lt_of_le hb.2.1 g.size, hb.2.2⟩), h.2⟩
/-- What build keeps in memory. -/
structure BD (W : World) (T : Tg) (s n ro : Int) (E : List Ed) (pE : Option Addr) (cE : Nat) (v : Value) (L : List Rw) (w : World) : Prop where
  bT : w.heap[W.heap.size]? = some (.cells #[.slice T.pR T.R.length T.cR, .slice T.pL T.L.length T.cL] 45 (0, 0))
  bP : w.heap[W.heap.size + 1]? = some (.cells #[.int .i64 s, .int .i64 n, .slice pE E.length cE] 48 (0, 0))
  bR : w.heap[W.heap.size + 1 + 1]? = some (.cells #[.int .i64 0, .int .i64 0, .int .i64 0, .slice none 0 0] 25 (0, 0))
  bB : w.heap[W.heap.size + 1 + 1 + 1]? = some (.cells #[.int .i64 ro, .int .i64 s, .int .i64 n, v] 25 (0, 0))
  t : TgOk w (· < W.heap.size) T
  e : RdF w (· < W.heap.size) (.slice pE E.length cE) E.length (E.flatMap edC)
  own : w.ownsRow (W.heap.size + 4) 36 2 v L.length (L.flatMap rwC)
  rows : ∀ x ∈ L, RdX (W.heap.size + 4) w v x.p x.c x.nx
  gr : W.grownBy w none
  lo : W.heap.size + 4 ≤ w.heap.size
set_option maxRecDepth 100000 in
theorem BD.keep {W : World} {T : Tg} {s n ro : Int} {E : List Ed} {pE : Option Addr} {cE : Nat} {v : Value} {L : List Rw} {w w1 : World} (h : BD W T s n ro E pE cE v L w) (g : w.grownBy w1 none) : BD W T s n ro E pE cE v L w1 :=
  ⟨kept_row h.bT g (by simp), kept_row h.bP g (by simp), kept_row h.bR g (by simp), kept_row h.bB g (by simp), h.t.keep g, h.e.keep g, h.own.kept g (by cases v.ownBlock <;> simp), fun x hx => (h.rows x hx).keep g, grown_trans h.gr g, Nat.le_trans h.lo g.size⟩
set_option maxRecDepth 100000 in
theorem edT_cells {w : World} {q : Nat → Prop} {p : Option Addr} {n c : Nat} {E : List Ed} (h : RdF w q (.slice p n c) E.length (E.flatMap edC)) (hn : 0 < E.length) :
    ∃ b off, p = some ⟨b, off, none⟩ ∧ ∀ i x, E[i]? = some x → w.cell? ⟨b, off + i * 2, none⟩ = some (.int .i64 x.r) ∧ w.cell? ⟨b, off + i * 2 + 1, none⟩ = some (.int .i64 x.i) := by
  obtain ⟨-, b, off, hp, -, hc⟩ := RdF.cells (f := edC) (k := 2) (fun _ => rfl) (by decide) h hn
  exact ⟨b, off, hp, fun i x hi => ⟨hc i x hi 0 _ rfl, hc i x hi 1 _ rfl⟩⟩
set_option maxRecDepth 100000 in
theorem alloc_row {w : World} (A : Array Value) (t : TypeId) {n : Nat} (hn : w.heap.size = n) : (w.alloc (.cells A t)).heap[n]? = some (.cells A t (0, 0)) ∧ w.grownBy (w.alloc (.cells A t)) none ∧ (w.alloc (.cells A t)).heap.size = n + 1 := by
  subst hn
  exact ⟨heap_alloc_new w _, World.grownBy_alloc w _ _, by simp⟩
set_option maxRecDepth 100000 in
theorem bd_start {w : World} {T : Tg} {q q2 : Nat → Prop} (s n ro : Int) {E : List Ed} {pE : Option Addr} {cE : Nat} (hT : TgOk w q T) (hE : RdF w q2 (.slice pE E.length cE) E.length (E.flatMap edC)) :
    BD w T s n ro E pE cE (.slice none 0 0) [] ((((w.alloc (.cells #[.slice T.pR T.R.length T.cR, .slice T.pL T.L.length T.cL] 45)).alloc (.cells #[.int .i64 s, .int .i64 n, .slice pE E.length cE] 48)).alloc (.cells #[.int .i64 0, .int .i64 0, .int .i64 0, .slice none 0 0] 25)).alloc (.cells #[.int .i64 ro, .int .i64 s, .int .i64 n, .slice none 0 0] 25)) := by
  obtain ⟨a1, g1, z1⟩ := alloc_row (w := w) #[.slice T.pR T.R.length T.cR, .slice T.pL T.L.length T.cL] 45 rfl
  generalize w.alloc _ = w1 at *
  obtain ⟨a2, g2, z2⟩ := alloc_row (w := w1) #[.int .i64 s, .int .i64 n, .slice pE E.length cE] 48 z1
  generalize w1.alloc _ = w2 at *
  obtain ⟨a3, g3, z3⟩ := alloc_row (w := w2) #[.int .i64 0, .int .i64 0, .int .i64 0, .slice none 0 0] 25 z2
  generalize w2.alloc _ = w3 at *
  obtain ⟨a4, g4, z4⟩ := alloc_row (w := w3) #[.int .i64 ro, .int .i64 s, .int .i64 n, .slice none 0 0] 25 z3
  generalize w3.alloc _ = w4 at *
  have gg := grown_trans (grown_trans (grown_trans g1 g2) g3) g4
  exact ⟨kept_row (kept_row (kept_row a1 g2 (by simp)) g3 (by simp)) g4 (by simp), kept_row (kept_row a2 g3 (by simp)) g4 (by simp), kept_row a3 g4 (by simp), a4, hT.old.keep gg, hE.old.keep gg, World.ownsRow_nil _ _ _ _, fun x hx => (by cases hx), gg, by omega⟩
set_option maxRecDepth 100000 in
theorem store4B {w : World} {b : Nat} {t : TypeId} {z0 z1 z2 z3 : Value} (u0 u1 u2 u3 : Value) (h : w.heap[b]? = some (.cells #[z0, z1, z2, z3] t (0, 0))) :
    ((((w.setCell ⟨b, 0, none⟩ u0).setCell ⟨b, 1, none⟩ u1).setCell ⟨b, 2, none⟩ u2).setCell ⟨b, 3, none⟩ u3).heap[b]? = some (.cells #[u0, u1, u2, u3] t (0, 0)) ∧ w.grownBy ((((w.setCell ⟨b, 0, none⟩ u0).setCell ⟨b, 1, none⟩ u1).setCell ⟨b, 2, none⟩ u2).setCell ⟨b, 3, none⟩ u3) (some b) := by
  have h1 := heap_setCell_same w b 0 _ _ u0 h
  have h2 := heap_setCell_same _ b 1 _ _ u1 h1
  have h3 := heap_setCell_same _ b 2 _ _ u2 h2
  have h4 := heap_setCell_same _ b 3 _ _ u3 h3
  exact ⟨h4, grown_trans (grown_trans (grown_trans (grown_setCell w ⟨b, 0, none⟩ u0) (grown_setCell _ ⟨b, 1, none⟩ u1)) (grown_setCell _ ⟨b, 2, none⟩ u2)) (grown_setCell _ ⟨b, 3, none⟩ u3)⟩
set_option maxRecDepth 100000 in
theorem tab_sizeB : (Tryz.prog.info? 25).map (·.size) = some 4 := by kernel_rfl
set_option maxRecDepth 100000 in
theorem res_tabB {fn : Func} {p : Tmp} (h : fn.results = #[.cell p 25]) (tmps : Array Value) (w : World) (g : Nat) (x y z u : Value) (hp : tmps.getD p undef = .pointer (some ⟨g, 0, none⟩)) (hg : w.heap[g]? = some (.cells #[x, y, z, u] 25 (0, 0))) :
    (results fn tmps).run Tryz.prog w = .ok (.agg #[x, y, z, u]) w :=
  results_cell_row h tmps w g _ _ _ _ hp hg Tryz.underlying25 rfl tab_sizeB
set_option maxRecDepth 100000 in
theorem BD.push {W : World} {T : Tg} {s n ro : Int} {E : List Ed} {pE : Option Addr} {cE : Nat} {v v' : Value} {L : List Rw} {w w1 : World} {x : Rw} (h : BD W T s n ro E pE cE v L w) (hx : RdX (W.heap.size + 4) w v x.p x.c x.nx) (hown : w1.ownsRow (W.heap.size + 4) 36 2 v' (L ++ [x]).length ((L ++ [x]).flatMap rwC)) (g : w.grownBy w1 v.ownBlock) (hv : v'.ownBlock = v.ownBlock ∨ ∀ b, some b = v'.ownBlock → w.heap.size ≤ b) :
    w1.heap[W.heap.size + 1 + 1 + 1]? = some (.cells #[.int .i64 ro, .int .i64 s, .int .i64 n, v] 25 (0, 0)) ∧ BD W T s n ro E pE cE v' (L ++ [x]) (w1.setCell ⟨W.heap.size + 1 + 1 + 1, 3, none⟩ v') := by
  have hne : ∀ b, b < W.heap.size + 4 → some b ≠ v.ownBlock := fun b hb e => by have := (h.own.lt b e.symm).1; omega
  have hB := kept_row h.bB g (hne _ (by omega))
  have g2 : w1.grownBy (w1.setCell ⟨W.heap.size + 1 + 1 + 1, 3, none⟩ v') (some (W.heap.size + 1 + 1 + 1)) := grown_setCell w1 ⟨W.heap.size + 1 + 1 + 1, 3, none⟩ v'
  have hn2 : ∀ b, b ≠ W.heap.size + 1 + 1 + 1 → some b ≠ some (W.heap.size + 1 + 1 + 1) := fun b hb e => hb (Option.some.inj e)
  refine ⟨hB, kept_row (kept_row h.bT g (hne _ (by omega))) g2 (hn2 _ (by omega)), kept_row (kept_row h.bP g (hne _ (by omega))) g2 (hn2 _ (by omega)), kept_row (kept_row h.bR g (hne _ (by omega))) g2 (hn2 _ (by omega)), heap_setCell_same w1 _ 3 _ _ v' hB, (h.t.grown g (fun b hb => hne b (by omega))).grown g2 (fun b hb => hn2 b (by omega)), (h.e.grown g (fun b hb => hne b (by omega))).grown g2 (fun b hb => hn2 b (by omega)), hown.kept g2 ?_, fun y hy => ?_, grown_any (grown_any h.gr g (fun b hb => hne b (by omega))) g2 (fun b hb => hn2 b (by omega)), Nat.le_trans (Nat.le_trans h.lo g.size) g2.size⟩
  · cases hvo : v'.ownBlock with
    | none => exact Or.inl rfl
    | some b => exact Or.inr (fun e => by have := (hown.lt b hvo).1; have := Option.some.inj e; omega)
  · have hy1 : RdX (W.heap.size + 4) w v y.p y.c y.nx := by
      rcases List.mem_append.1 hy with hm | hm
      · exact h.rows y hm
      · rw [List.mem_singleton.1 hm]; exact hx
    exact (hy1.put g hv).over g2 (fun b hb => by omega)
set_option maxRecDepth 100000 in
theorem rwB_row (w : World) (x : Rw) (t : TypeId) : ∀ j u, (rwC x)[j]? = some u → (w.alloc (.cells #[.int .i64 x.id, .slice x.p x.nx.length x.c] t)).cell? ((⟨w.heap.size, 0, none⟩ : Addr).add j) = some u := by
  intro j u hu
  rw [add_plain]
  have hb := heap_alloc_new w (.cells #[.int .i64 x.id, .slice x.p x.nx.length x.c] t)
  rcases j with _ | _ | j
  · cases hu; exact cell_of_row _ _ _ _ _ _ hb
  · cases hu; exact cell_of_row _ _ _ _ _ _ hb
  · simp [rwC] at hu
/-- What is known of the rows that build makes. -/
def NxB (R : List Rt) (L0 : List Lk) (ro r : Int) (X : List Int) : Prop := if r = ro then X = [ro] else if capV R L0 r = true then (X.Pairwise (· < ·) ∧ (∀ y ∈ X, y ∈ ids R) ∧ HopsIs R L0 ro r X) else X = []
def BldM (R : List Rt) (L0 : List Lk) (ro : Int) (E : List Ed) (L : List Rw) : Prop := L.length = E.length ∧ ∀ (i : Nat) (e : Ed) (x : Rw), E[i]? = some e → L[i]? = some x → x.id = e.i ∧ NxB R L0 ro e.r x.nx
set_option maxRecDepth 100000 in
theorem BldM.push {R : List Rt} {L0 : List Lk} {ro : Int} {E : List Ed} {L : List Rw} {k : Nat} {e : Ed} (h : BldM R L0 ro (E.take k) L) (he : E[k]? = some e) {X : List Int} (hx : NxB R L0 ro e.r X) (p : Option Addr) (c : Nat) : BldM R L0 ro (E.take (k + 1)) (L ++ [⟨e.i, X, p, c⟩]) := by
  have hk : k < E.length := (List.getElem?_eq_some_iff.1 he).1
  have hl : L.length = k := by rw [h.1, List.length_take]; omega
  refine ⟨by rw [List.length_append, List.length_take, hl]; show k + 1 = _; omega, fun i f x hi hx2 => ?_⟩
  rcases Nat.lt_or_ge i k with hlt | hge
  · rw [List.getElem?_append_left (by omega)] at hx2
    rw [List.getElem?_take_of_lt (by omega)] at hi
    exact h.2 i f x (by rw [List.getElem?_take_of_lt hlt]; exact hi) hx2
  · have hik : i = k := by
      have := (List.getElem?_eq_some_iff.1 hx2).1
      rw [List.length_append, hl] at this
      have h1 : ([⟨e.i, X, p, c⟩] : List Rw).length = 1 := rfl
      omega
    subst hik
    rw [List.getElem?_take_of_lt (by omega), he] at hi
    obtain rfl := Option.some.inj hi
    rw [List.getElem?_append_right (by omega), hl, Nat.sub_self] at hx2
    obtain rfl := Option.some.inj hx2
    exact ⟨rfl, hx⟩
/-- What build returns. -/
def BldPost (R : List Rt) (L0 : List Lk) (ro s n : Int) (E : List Ed) (w : World) (e : Ending) (w' : World) : Prop :=
  ∃ (L : List Rw) (p : Option Addr) (c : Nat), e = .returned (.agg #[.int .i64 ro, .int .i64 s, .int .i64 n, .slice p L.length c]) ∧ w'.ownsRow w.heap.size 36 2 (.slice p L.length c) L.length (L.flatMap rwC) ∧ (∀ x ∈ L, RdX w.heap.size w' (.slice p L.length c) x.p x.c x.nx) ∧ BldM R L0 ro E L ∧ w.grownBy w' none
set_option maxRecDepth 100000 in
theorem info_rowT : (Tryz.prog.info? 36).map (fun i => (i.zero, i.size, i.bytes)) = some (some (.agg #[.int .i64 0, .slice none 0 0]), 2, 32) := by kernel_rfl
end Go.Proofs.YtahafijpcmphaaaGreat

/- tables: lists of tables in memory. -/
namespace Go.Proofs.YtahafijpcmphaaaGreat
open Go.RowKit Bs
/-- A table, and where its rows lie. -/
structure Tb where
  r : Int
  s : Int
  n : Int
  L : List Rw
  p : Option Addr
  c : Nat
def tbC (x : Tb) : List Value := [.int .i64 x.r, .int .i64 x.s, .int .i64 x.n, .slice x.p x.L.length x.c]
set_option maxRecDepth 100000 in
theorem tb_one (x : Tb) : ∀ u ∈ tbC x, u.oneCell' = true := by
  intro u hu
  simp [tbC] at hu
  rcases hu with rfl | rfl | rfl | rfl <;> rfl
/-- The rows of a table lie in blocks that are there and not v's own. -/
structure TbX (lo : Nat) (w : World) (v : Value) (x : Tb) : Prop where
  rd : RdW w (fun b => lo ≤ b ∧ b < w.heap.size ∧ some b ≠ v.ownBlock) x.p x.c x.L
  hn : x.p = none → x.c = 0
  hc : x.L.length ≤ x.c ∧ x.c ≤ 9223372036854775807
  hy : ∀ y ∈ x.L, y.p = none → y.c = 0
set_option maxRecDepth 100000 in
theorem TbX.keep {lo : Nat} {w w1 : World} {v : Value} {x : Tb} (h : TbX lo w v x) (g : w.grownBy w1 none) : TbX lo w1 v x :=
  ⟨(h.rd.keep g).mono (fun b hb => ⟨hb.1, Nat.lt_of_lt_of_le hb.2.1 g.size, hb.2.2⟩), h.hn, h.hc, h.hy⟩
set_option maxRecDepth 100000 in
theorem TbX.put {lo : Nat} {w w1 : World} {v v' : Value} {x : Tb} (h : TbX lo w v x) (g : w.grownBy w1 v.ownBlock) (hv : v'.ownBlock = v.ownBlock ∨ ∀ b, some b = v'.ownBlock → w.heap.size ≤ b) : TbX lo w1 v' x :=
  ⟨(h.rd.grown g (fun b hb => hb.2.2)).mono (fun b hb => ⟨hb.1, Nat.lt_of_lt_of_le hb.2.1 g.size, fun e => by
    rcases hv with hv | hv
    · rw [hv] at e; exact hb.2.2 e
    · have := hv b e; have := hb.2.1; omega⟩), h.hn, h.hc, h.hy⟩
set_option maxRecDepth 100000 in
theorem TbX.over {lo : Nat} {w w1 : World} {v : Value} {x : Tb} {r : Nat} (h : TbX lo w v x) (g : w.grownBy w1 (some r)) (hr : ∀ b, lo ≤ b → b ≠ r) : TbX lo w1 v x :=
  ⟨(h.rd.grown g (fun b hb e => hr b hb.1 (Option.some.inj e))).mono (fun b hb => ⟨hb.1, Nat.lt_of_lt_of_le hb.2.1 g.size, hb.2.2⟩), h.hn, h.hc, h.hy⟩
set_option maxRecDepth 100000 in
/-- What build gives is such a table. -/
theorem tbx_of_bld {lo base : Nat} {w : World} {v : Value} {L : List Rw} {p : Option Addr} {c : Nat} (r s n : Int) (hown : w.ownsRow base 36 2 (.slice p L.length c) L.length (L.flatMap rwC)) (hr : ∀ x ∈ L, RdX base w (.slice p L.length c) x.p x.c x.nx) (hv : ∀ b, v.ownBlock = some b → b < base) (hlo : lo ≤ base) : TbX lo w v ⟨r, s, n, L, p, c⟩ := by
  have hq : ∀ b, base ≤ b → some b ≠ v.ownBlock := fun b hb e => by have := hv b e.symm; omega
  refine ⟨⟨(rdf_of_own2 hown).mono (fun b hb => ⟨by omega, hb.2, hq b hb.1⟩), fun x hx => ⟨(hr x hx).1.mono (fun b hb => ⟨by have := hb.1; omega, hb.2.1, hq b hb.1⟩), (hr x hx).2.2⟩⟩, ?_, ?_, fun x hx => (hr x hx).2.1⟩
  · intro hp
    rcases own_formF hown with ⟨e, h0⟩ | ⟨g, cap, e, -⟩
    · injection e
    · injection e with e1; subst hp; cases e1
  · rcases own_formF hown with ⟨e, h0⟩ | ⟨g, cap, e, h1, h2⟩
    · injection e with e1 e2 e3; subst e3; exact ⟨by show L.length ≤ 0; omega, by show (0 : Nat) ≤ _; omega⟩
    · injection e with e1 e2 e3; subst e3; exact ⟨h1, h2⟩
set_option maxRecDepth 100000 in
theorem tb_cells {w : World} {q : Nat → Prop} {p : Option Addr} {n c : Nat} {Ts : List Tb} (h : RdF w q (.slice p n c) Ts.length (Ts.flatMap tbC)) (hn : 0 < Ts.length) :
    n = Ts.length ∧ ∃ b off, p = some ⟨b, off, none⟩ ∧ q b ∧ ∀ i x, Ts[i]? = some x → w.cell? ⟨b, off + i * 4, none⟩ = some (.int .i64 x.r) ∧ w.cell? ⟨b, off + i * 4 + 1, none⟩ = some (.int .i64 x.s) ∧ w.cell? ⟨b, off + i * 4 + 2, none⟩ = some (.int .i64 x.n) ∧ w.cell? ⟨b, off + i * 4 + 3, none⟩ = some (.slice x.p x.L.length x.c) := by
  obtain ⟨h0, b, off, hp, hq, hc⟩ := RdF.cells (f := tbC) (k := 4) (fun _ => rfl) (by decide) h hn
  exact ⟨h0, b, off, hp, hq, fun i x hi => ⟨hc i x hi 0 _ rfl, hc i x hi 1 _ rfl, hc i x hi 2 _ rfl, hc i x hi 3 _ rfl⟩⟩
/-- What All keeps in memory. -/
structure AlT (W : World) (T : Tg) (s n : Int) (E : List Ed) (pE : Option Addr) (cE : Nat) (v : Value) (Ts : List Tb) (w : World) : Prop where
  bT : w.heap[W.heap.size]? = some (.cells #[.slice T.pR T.R.length T.cR, .slice T.pL T.L.length T.cL] 45 (0, 0))
  bP : w.heap[W.heap.size + 1]? = some (.cells #[.int .i64 s, .int .i64 n, .slice pE E.length cE] 48 (0, 0))
  t : TgOk w (· < W.heap.size) T
  e : RdF w (· < W.heap.size) (.slice pE E.length cE) E.length (E.flatMap edC)
  own : w.ownsRow (W.heap.size + 2) 25 4 v Ts.length (Ts.flatMap tbC)
  tabs : ∀ x ∈ Ts, TbX (W.heap.size + 2) w v x
  gr : W.grownBy w none
  lo : W.heap.size + 2 ≤ w.heap.size
set_option maxRecDepth 100000 in
theorem AlT.keep {W : World} {T : Tg} {s n : Int} {E : List Ed} {pE : Option Addr} {cE : Nat} {v : Value} {Ts : List Tb} {w w1 : World} (h : AlT W T s n E pE cE v Ts w) (g : w.grownBy w1 none) : AlT W T s n E pE cE v Ts w1 :=
  ⟨kept_row h.bT g (by simp), kept_row h.bP g (by simp), h.t.keep g, h.e.keep g, h.own.kept g (by cases v.ownBlock <;> simp), fun x hx => (h.tabs x hx).keep g, grown_trans h.gr g, Nat.le_trans h.lo g.size⟩
set_option maxRecDepth 100000 in
theorem AlT.push {W : World} {T : Tg} {s n : Int} {E : List Ed} {pE : Option Addr} {cE : Nat} {v v' : Value} {Ts : List Tb} {x : Tb} {w w1 : World} (h : AlT W T s n E pE cE v Ts w) (hx : TbX (W.heap.size + 2) w v x) (hown : w1.ownsRow (W.heap.size + 2) 25 4 v' (Ts ++ [x]).length ((Ts ++ [x]).flatMap tbC)) (g : w.grownBy w1 v.ownBlock) (hv : v'.ownBlock = v.ownBlock ∨ ∀ b, some b = v'.ownBlock → w.heap.size ≤ b) : AlT W T s n E pE cE v' (Ts ++ [x]) w1 := by
  have hne : ∀ b, b < W.heap.size + 2 → some b ≠ v.ownBlock := fun b hb e => by have := (h.own.lt b e.symm).1; omega
  refine ⟨kept_row h.bT g (hne _ (by omega)), kept_row h.bP g (hne _ (by omega)), h.t.grown g (fun b hb => hne b (by omega)), h.e.grown g (fun b hb => hne b (by omega)), hown, fun y hy => ?_, grown_any h.gr g (fun b hb => hne b (by omega)), Nat.le_trans h.lo g.size⟩
  rcases List.mem_append.1 hy with hm | hm
  · exact (h.tabs y hm).put g hv
  · rw [List.mem_singleton.1 hm]; exact hx.put g hv
set_option maxRecDepth 100000 in
theorem alT_start {w : World} {T : Tg} {q q2 : Nat → Prop} (s n : Int) {E : List Ed} {pE : Option Addr} {cE : Nat} (hT : TgOk w q T) (hE : RdF w q2 (.slice pE E.length cE) E.length (E.flatMap edC)) :
    AlT w T s n E pE cE (.slice none 0 0) [] ((w.alloc (.cells #[.slice T.pR T.R.length T.cR, .slice T.pL T.L.length T.cL] 45)).alloc (.cells #[.int .i64 s, .int .i64 n, .slice pE E.length cE] 48)) := by
  obtain ⟨a1, g1, z1⟩ := alloc_row (w := w) #[.slice T.pR T.R.length T.cR, .slice T.pL T.L.length T.cL] 45 rfl
  generalize w.alloc _ = w1 at *
  obtain ⟨a2, g2, z2⟩ := alloc_row (w := w1) #[.int .i64 s, .int .i64 n, .slice pE E.length cE] 48 z1
  generalize w1.alloc _ = w2 at *
  have gg := grown_trans g1 g2
  exact ⟨kept_row a1 g2 (by simp), a2, hT.old.keep gg, hE.old.keep gg, World.ownsRow_nil _ _ _ _, fun x hx => (by cases hx), gg, by omega⟩
set_option maxRecDepth 100000 in
theorem tb_row (w : World) (x : Tb) (t : TypeId) : ∀ j u, (tbC x)[j]? = some u → (w.alloc (.cells #[.int .i64 x.r, .int .i64 x.s, .int .i64 x.n, .slice x.p x.L.length x.c] t)).cell? ((⟨w.heap.size, 0, none⟩ : Addr).add j) = some u := by
  intro j u hu
  rw [add_plain]
  have hb := heap_alloc_new w (.cells #[.int .i64 x.r, .int .i64 x.s, .int .i64 x.n, .slice x.p x.L.length x.c] t)
  rcases j with _ | _ | _ | _ | j
  · cases hu; exact cell_of_row _ _ _ _ _ _ hb
  · cases hu; exact cell_of_row _ _ _ _ _ _ hb
  · cases hu; exact cell_of_row _ _ _ _ _ _ hb
  · cases hu; exact cell_of_row _ _ _ _ _ _ hb
  · simp [tbC] at hu
/-- What is known of the tables that All makes. -/
def AllM (R : List Rt) (Lk0 : List Lk) (s n : Int) (E : List Ed) (rs : List Rt) (Ts : List Tb) : Prop := Ts.map (·.r) = (rs.filter (·.cap)).map (·.id) ∧ ∀ x ∈ Ts, x.s = s ∧ x.n = n ∧ BldM R Lk0 x.r E x.L
set_option maxRecDepth 100000 in
theorem AllM.nil {R : List Rt} {Lk0 : List Lk} {s n : Int} {E : List Ed} : AllM R Lk0 s n E [] [] := ⟨rfl, fun x hx => (by cases hx)⟩
set_option maxRecDepth 100000 in
theorem AllM.skip {R : List Rt} {Lk0 : List Lk} {s n : Int} {E : List Ed} {k : Nat} {y : Rt} {Ts : List Tb} (h : AllM R Lk0 s n E (R.take k) Ts) (hy : R[k]? = some y) (hc : y.cap = false) : AllM R Lk0 s n E (R.take (k + 1)) Ts := by
  refine ⟨?_, h.2⟩
  rw [List.take_add_one, hy, List.filter_append, List.map_append, ← h.1]
  simp [hc]
set_option maxRecDepth 100000 in
theorem AllM.push {R : List Rt} {Lk0 : List Lk} {s n : Int} {E : List Ed} {k : Nat} {y : Rt} {Ts : List Tb} (h : AllM R Lk0 s n E (R.take k) Ts) (hy : R[k]? = some y) (hc : y.cap = true) {L : List Rw} (hL : BldM R Lk0 y.id E L) (p : Option Addr) (c : Nat) : AllM R Lk0 s n E (R.take (k + 1)) (Ts ++ [⟨y.id, s, n, L, p, c⟩]) := by
  refine ⟨?_, fun x hx => ?_⟩
  · rw [List.take_add_one, hy, List.filter_append, List.map_append, List.map_append, ← h.1]
    simp [hc]
  · rcases List.mem_append.1 hx with hx | hx
    · exact h.2 x hx
    · rw [List.mem_singleton.1 hx]; exact ⟨rfl, rfl, hL⟩
set_option maxRecDepth 100000 in
theorem AllM.len {R : List Rt} {Lk0 : List Lk} {s n : Int} {E : List Ed} {rs : List Rt} {Ts : List Tb} (h : AllM R Lk0 s n E rs Ts) : Ts.length ≤ rs.length := by
  have := congrArg List.length h.1
  rw [List.length_map, List.length_map] at this
  rw [this]
  exact List.length_filter_le _ _
/-- What All returns. -/
def RAllPost (R : List Rt) (Lk0 : List Lk) (s n : Int) (E : List Ed) (w : World) (e : Ending) (w' : World) : Prop :=
  ∃ (Ts : List Tb) (p : Option Addr) (c : Nat) (er : Int), e = .returned (.tuple #[.slice p Ts.length c, .int .i64 er]) ∧ ((er = 0 ∧ okT R Lk0 = true ∧ vPl s n E = true ∧ AllM R Lk0 s n E R Ts) ∨ (er = 1 ∧ ¬ (okT R Lk0 = true ∧ vPl s n E = true) ∧ Ts = [])) ∧ w'.ownsRow w.heap.size 25 4 (.slice p Ts.length c) Ts.length (Ts.flatMap tbC) ∧ (∀ x ∈ Ts, TbX w.heap.size w' (.slice p Ts.length c) x) ∧ w.grownBy w' none
set_option maxRecDepth 100000 in
theorem info_tabT : (Tryz.prog.info? 25).map (fun i => (i.zero, i.size, i.bytes)) = some (some (.agg #[.int .i64 0, .int .i64 0, .int .i64 0, .slice none 0 0]), 4, 48) := by kernel_rfl
end Go.Proofs.YtahafijpcmphaaaGreat

/- empty -/
namespace Go.Proofs.YtahafijpcmphaaaGreat
end Go.Proofs.YtahafijpcmphaaaGreat

/- empty -/
namespace Go.Proofs.YtahafijpcmphaaaGreat
end Go.Proofs.YtahafijpcmphaaaGreat

/- identify: IndexFunc, ContainsFunc and ascending at claims and at edges. -/
namespace Go.Proofs.YtahafijpcmphaaaGreat
open Go.RowKit Bs
set_option maxRecDepth 100000 in
theorem icmpe2_any (r s : Ed) (w : World) :
    Calls Tryz.prog 150 #[.agg #[.int .i64 r.r, .int .i64 r.i], .agg #[.int .i64 s.r, .int .i64 s.i]] w fun e w' => e = .returned (.int .i64 (cmpV r.i s.i)) ∧ w.grownBy w' none := by
  refine (icmpe_any r s w).mono ?_
  rintro e w' ⟨rfl, rfl⟩
  exact ⟨rfl, grown_trans (World.grownBy_alloc w _ _) (World.grownBy_alloc _ _ _)⟩
set_option maxRecDepth 100000 in
set_option maxHeartbeats 1600000 in
theorem iidxE_any (g : Nat) (lb : Array Value) (P : Ed → Bool) (eg : EnterF g) (R : List Ed) (p : Option Addr) (c : Nat) (q : Nat → Prop) (w : World) (hR : RdF w q (.slice p R.length c) R.length (R.flatMap edC)) (hm : R.length ≤ 9223372036854775807)
    (hP : ∀ (r : Ed) (w' : World), w.grownBy w' none → Calls Tryz.prog g (#[.agg #[.int .i64 r.r, .int .i64 r.i]] ++ lb) w' fun e w2 => e = .returned (.bool (P r)) ∧ w'.grownBy w2 none) :
    Calls Tryz.prog 166 #[.slice p R.length c, .func (.func g) #[] lb] w fun e w' => ∃ i : Int, e = .returned (.int .i64 i) ∧ decide (0 ≤ i) = R.any P ∧ w.grownBy w' none := by
  have HR := Lib.hid hR
  have HP := Lib.hid hP
  clear hR hP
  go_enter Tryz.func166, Tryz.ntmps166
  go_wp2_with fail
  go_loopw [8] (fun a wr => ∃ k : Nat, k ≤ R.length ∧ a = .int .i64 (k : Int) ∧ Hid (w.grownBy wr none) ∧ Hid ((R.take k).any P = false)) (fun a _ => R.length - (RowKit.intOf a).toNat)
  case atStart => exact ⟨0, Nat.zero_le _, rfl, Lib.hid (grown_refl _ _), Lib.hid rfl⟩
  case round =>
    obtain ⟨k, hk, rfl, G, HN⟩ := hrel
    by_cases hlt : k < R.length
    · obtain ⟨-, b, off, rfl, hq, hc⟩ := ed_cells (HR.out.keep G.out) (by omega)
      obtain ⟨x, hx⟩ : ∃ x, R[k]? = some x := ⟨_, List.getElem?_eq_getElem hlt⟩
      obtain ⟨a0, a1⟩ := hc k x hx
      have HX := Lib.hid hx
      clear hc hx
      have hcall := HP.out x wr G.out
      cases hp : P x
      · rw [hp] at hcall
        have HY := Lib.hid hp
        clear hp
        go_wp2_with (go_at_fn g; refine hcall.mono ?_; rintro e w' ⟨rfl, hg⟩; have HG := Lib.hid (grown_trans G.out hg); clear hg)
        exact ⟨⟨k + 1, by omega, congrArg _ (by omega), HG, Lib.hid (any_take HN.out HX.out HY.out)⟩, by simp only [RowKit.intOf]; omega⟩
      · rw [hp] at hcall
        have HY := Lib.hid hp
        clear hp
        go_wp2_with (go_at_fn g; refine hcall.mono ?_; rintro e w' ⟨rfl, hg⟩; have HG := Lib.hid (grown_trans G.out hg); clear hg)
        go_ret
        refine ⟨_, rfl, ?_, HG.out⟩
        rw [any_at HX.out HY.out, decide_eq_true_eq]; omega
    · obtain rfl : k = R.length := by omega
      go_wp2_with fail
      go_ret
      refine ⟨_, rfl, ?_, G.out⟩
      rw [any_end HN.out (Nat.le_refl _)]; decide
set_option maxRecDepth 100000 in
set_option maxHeartbeats 1600000 in
theorem icontE_any (g : Nat) (lb : Array Value) (P : Ed → Bool) (eg : EnterF g) (R : List Ed) (p : Option Addr) (c : Nat) (q : Nat → Prop) (w : World) (hR : RdF w q (.slice p R.length c) R.length (R.flatMap edC)) (hm : R.length ≤ 9223372036854775807)
    (hP : ∀ (r : Ed) (w' : World), w.grownBy w' none → Calls Tryz.prog g (#[.agg #[.int .i64 r.r, .int .i64 r.i]] ++ lb) w' fun e w2 => e = .returned (.bool (P r)) ∧ w'.grownBy w2 none) :
    Calls Tryz.prog 147 #[.slice p R.length c, .func (.func g) #[] lb] w fun e w' => e = .returned (.bool (R.any P)) ∧ w.grownBy w' none := by
  have HR := Lib.hid hR
  have HP := Lib.hid hP
  clear hR hP
  go_enter Tryz.func147, Tryz.ntmps147
  go_wp2_with (go_at_call 166; refine (iidxE_any g lb P eg R p c q w HR.out hm HP.out).mono ?_; rintro e w' ⟨i, rfl, hi, hg⟩; have HI := Lib.hid (And.intro hi hg); clear hi hg)
  go_ret
  rw [← HI.out.1]
  exact ⟨rfl, HI.out.2⟩
set_option maxRecDepth 100000 in
theorem ascE_end {R : List Ed} (h : ∀ i x y, i + 1 < R.length → R[i]? = some x → R[i + 1]? = some y → ltE x y = true) : ascB ltE R = true :=
  (ascB_iff _ _).2 fun i x y hx hy => h i x y ((List.getElem?_eq_some_iff.1 hy).1) hx hy
set_option maxRecDepth 100000 in
theorem ascE_hit {R : List Ed} {i : Nat} {x y : Ed} (hx : R[i]? = some x) (hy : R[i + 1]? = some y) (h : ltE x y = false) : ascB ltE R = false := by
  rw [Bool.eq_false_iff]
  intro h2
  have := (ascB_iff _ _).1 h2 i x y hx hy
  rw [h] at this; cases this
set_option maxRecDepth 100000 in
theorem ltE_of_ge {x y : Ed} (h : 0 ≤ cmpV x.i y.i) : ltE x y = false := by
  exact (by have := cmpV_ge.1 h; unfold ltE; rw [decide_eq_false_iff_not]; omega)
set_option maxRecDepth 100000 in
theorem ltE_of_lt {x y : Ed} (h : ¬ 0 ≤ cmpV x.i y.i) : ltE x y = true := by
  exact (by have : ¬ y.i ≤ x.i := fun e => h (cmpV_ge.2 e); unfold ltE; rw [decide_eq_true_eq]; omega)
set_option maxRecDepth 100000 in
theorem keepAE {wr w' : World} {b i j : Nat} {x y : Ed} (h : wr.cell? ⟨b, i, none⟩ = some (.int .i64 x.r) ∧ wr.cell? ⟨b, i + 1, none⟩ = some (.int .i64 x.i) ∧ wr.cell? ⟨b, j, none⟩ = some (.int .i64 y.r) ∧ wr.cell? ⟨b, j + 1, none⟩ = some (.int .i64 y.i)) (hg : Hid (wr.grownBy w' none)) : w'.cell? ⟨b, i, none⟩ = some (.int .i64 x.r) ∧ w'.cell? ⟨b, i + 1, none⟩ = some (.int .i64 x.i) ∧ w'.cell? ⟨b, j, none⟩ = some (.int .i64 y.r) ∧ w'.cell? ⟨b, j + 1, none⟩ = some (.int .i64 y.i) ∧ Hid (wr.grownBy w' none) := by
  obtain ⟨h0, h1, h2, h3⟩ := h
  exact ⟨hg.out.cell h0 (by simp), hg.out.cell h1 (by simp), hg.out.cell h2 (by simp), hg.out.cell h3 (by simp), hg⟩
set_option maxRecDepth 100000 in
set_option maxHeartbeats 3200000 in
theorem iascE_any (R : List Ed) (p : Option Addr) (c : Nat) (q : Nat → Prop) (w : World) (hR : RdF w q (.slice p R.length c) R.length (R.flatMap edC)) (hm : R.length ≤ 9223372036854775807) :
    Calls Tryz.prog 149 #[.slice p R.length c, .func (.func 150) #[] #[]] w fun e w' => e = .returned (.bool (ascB ltE R)) ∧ w.grownBy w' none := by
  have eg : EnterF 150 := enters_of Tryz.func150 (by kernel_rfl) rfl
  have HR := Lib.hid hR
  clear hR
  go_enter Tryz.func149, Tryz.ntmps149
  go_wp2_with fail
  go_loopw [5] (fun a wr => ∃ k : Nat, 1 ≤ k ∧ (k ≤ R.length ∨ k = 1) ∧ a = .int .i64 (k : Int) ∧ Hid (w.grownBy wr none) ∧ Hid (∀ i x y, i + 1 < k → R[i]? = some x → R[i + 1]? = some y → ltE x y = true)) (fun a _ => R.length - (RowKit.intOf a).toNat)
  case atStart => exact ⟨1, by omega, Or.inr rfl, rfl, Lib.hid (grown_refl _ _), Lib.hid (fun i x y h => by omega)⟩
  case round =>
    obtain ⟨k, hk1, hk, rfl, G, HN⟩ := hrel
    by_cases hlt : k < R.length
    · obtain ⟨j, rfl⟩ : ∃ j, k = j + 1 := ⟨k - 1, by omega⟩
      obtain ⟨-, b, off, rfl, hq, hc⟩ := ed_cells (HR.out.keep G.out) (by omega)
      obtain ⟨x, hx⟩ : ∃ x, R[j]? = some x := ⟨_, List.getElem?_eq_getElem (by omega)⟩
      obtain ⟨y, hy⟩ : ∃ y, R[j + 1]? = some y := ⟨_, List.getElem?_eq_getElem hlt⟩
      obtain ⟨a0, a1⟩ := hc j x hx
      obtain ⟨b0, b1⟩ := hc (j + 1) y hy
      have HXY := Lib.hid (And.intro hx hy)
      have ew1 : ((j : Int) + 1 - 1) = (j : Int) := by omega
      have ew2 : IntKind.i64.wrap ((j : Int) + 1 - 1) = (j : Int) := by rw [ew1, IntWalk.i64_in _ (by omega)]
      have ew3 : IntKind.i64.wrap (j : Int) = (j : Int) := IntWalk.i64_in _ (by omega)
      have j0 : (0 : Int) ≤ (j : Int) := by omega
      have j1 : (0 : Int) ≤ (j : Int) + 1 := by omega
      have j2 : (j : Int) < (R.length : Int) := by omega
      have j3 : (j : Int) + 1 < (R.length : Int) := by omega
      have j4 : ((j : Int) + 1).toNat = j + 1 := by omega
      clear hc hx hy
      have hcast : ((j + 1 : Nat) : Int) = (j : Int) + 1 := by omega
      rw [hcast]
      have HF := Lib.hid (show wr.cell? ⟨b, off + j * 2, none⟩ = some (.int .i64 x.r) ∧ wr.cell? ⟨b, off + j * 2 + 1, none⟩ = some (.int .i64 x.i) ∧ wr.cell? ⟨b, off + (j + 1) * 2, none⟩ = some (.int .i64 y.r) ∧ wr.cell? ⟨b, off + (j + 1) * 2 + 1, none⟩ = some (.int .i64 y.i) from ⟨a0, a1, b0, b1⟩)
      have GZ : Hid (wr.grownBy wr none) := Lib.hid (grown_refl _ _)
      go_upto_region 4 with fail
      cases hlt2 : ltE x y
      · have hge : 0 ≤ cmpV x.i y.i := by
          by_cases h : 0 ≤ cmpV x.i y.i
          · exact h
          · rw [ltE_of_lt h] at hlt2; cases hlt2
        have HL := Lib.hid hlt2
        clear hlt2
        go_region_held3 (fun w' => w'.cell? ⟨b, off + j * 2, none⟩ = some (.int .i64 x.r) ∧ w'.cell? ⟨b, off + j * 2 + 1, none⟩ = some (.int .i64 x.i) ∧ w'.cell? ⟨b, off + (j + 1) * 2, none⟩ = some (.int .i64 y.r) ∧ w'.cell? ⟨b, off + (j + 1) * 2 + 1, none⟩ = some (.int .i64 y.i) ∧ Hid (wr.grownBy w' none))
          (first | with_reducible exact keepAE HF.out (hid_drew GZ) | (with_reducible exact keepAE HF.out (hid_drew (hid_more GZ hg))) | (go_split_ands; with_reducible refine keepAE HF.out ?_; with_reducible assumption) | (go_split_ands; with_reducible refine keepAE HF.out (hid_more ?_ hg); with_reducible assumption))
          ((go_at_call 150; refine (icmpe2_any x y _).mono ?_; rintro e w' ⟨rfl, hg⟩))
        all_goals
          go_split_ands
          go_wp2_with fail
          go_ret
          rw [ascE_hit HXY.out.1 HXY.out.2 HL.out]
          exact ⟨rfl, grown_trans G.out (Hid.out (by assumption))⟩
      · have hge : ¬ 0 ≤ cmpV x.i y.i := by
          intro h
          rw [ltE_of_ge h] at hlt2; cases hlt2
        have HL := Lib.hid hlt2
        clear hlt2
        go_region_held3 (fun w' => w'.cell? ⟨b, off + j * 2, none⟩ = some (.int .i64 x.r) ∧ w'.cell? ⟨b, off + j * 2 + 1, none⟩ = some (.int .i64 x.i) ∧ w'.cell? ⟨b, off + (j + 1) * 2, none⟩ = some (.int .i64 y.r) ∧ w'.cell? ⟨b, off + (j + 1) * 2 + 1, none⟩ = some (.int .i64 y.i) ∧ Hid (wr.grownBy w' none))
          (first | with_reducible exact keepAE HF.out (hid_drew GZ) | (with_reducible exact keepAE HF.out (hid_drew (hid_more GZ hg))) | (go_split_ands; with_reducible refine keepAE HF.out ?_; with_reducible assumption) | (go_split_ands; with_reducible refine keepAE HF.out (hid_more ?_ hg); with_reducible assumption))
          ((go_at_call 150; refine (icmpe2_any x y _).mono ?_; rintro e w' ⟨rfl, hg⟩))
        all_goals
          go_split_ands
          have HGW := Lib.hid (grown_trans G.out (Hid.out (by assumption)))
          go_wp2_with fail
          refine ⟨⟨j + 1 + 1, by omega, Or.inl (by omega), congrArg _ (by omega), HGW, Lib.hid fun i x2 y2 hi hx2 hy2 => ?_⟩, by simp only [RowKit.intOf]; omega⟩
          by_cases hij : i = j
          · subst hij
            have e1 := HXY.out.1.symm.trans hx2
            have e2 := HXY.out.2.symm.trans hy2
            injection e1 with e1
            injection e2 with e2
            subst e1
            subst e2
            exact HL.out
          · exact HN.out i x2 y2 (by omega) hx2 hy2
    · have h1 : ¬ (k : Int) < (R.length : Int) := by omega
      go_wp2_with fail
      go_ret
      rw [ascE_end fun i x y hi hx hy => HN.out i x y (by omega) hx hy]
      exact ⟨rfl, G.out⟩
end Go.Proofs.YtahafijpcmphaaaGreat

/- empty -/
namespace Go.Proofs.YtahafijpcmphaaaGreat
end Go.Proofs.YtahafijpcmphaaaGreat

/- empty -/
namespace Go.Proofs.YtahafijpcmphaaaGreat
end Go.Proofs.YtahafijpcmphaaaGreat

/- identify: Conflicts, Length, Free. -/
namespace Go.Proofs.YtahafijpcmphaaaGreat
open Go.RowKit Bs
end Go.Proofs.YtahafijpcmphaaaGreat

/- empty -/
namespace Go.Proofs.YtahafijpcmphaaaGreat
end Go.Proofs.YtahafijpcmphaaaGreat

/- empty -/
namespace Go.Proofs.YtahafijpcmphaaaGreat
end Go.Proofs.YtahafijpcmphaaaGreat

/- empty -/
namespace Go.Proofs.YtahafijpcmphaaaGreat
end Go.Proofs.YtahafijpcmphaaaGreat

/- empty -/
namespace Go.Proofs.YtahafijpcmphaaaGreat
end Go.Proofs.YtahafijpcmphaaaGreat

/- empty -/
namespace Go.Proofs.YtahafijpcmphaaaGreat
end Go.Proofs.YtahafijpcmphaaaGreat

/- empty -/
namespace Go.Proofs.YtahafijpcmphaaaGreat
end Go.Proofs.YtahafijpcmphaaaGreat

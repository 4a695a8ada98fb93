/- BitioAppends: the walk. -/
import Derived.Test.YthnjiknmlakkkaaIoValidLaw
namespace Go.Proofs.Ythnjiknmlakkkaa
open Go.RowKit Bs
section
variable {w0 w1 w2 : World} {p p' : Option Addr} {c c' : Nat} {l l' : List Nat} {n n' : Int}
theorem appendp_at (g : Hid (w0.grownBy w1 none)) (n : Int) (v : Nat) (k : Int) (hv : U64 v) (h : Hid (Std w0 p c l)) : Calls Try.prog 18 #[.agg #[.slice p l.length c, .int .i64 n], .int .u64 (v : Int), .int .i64 k] w1 fun e w' => SPost (apV l n v k) w1 e w' :=
  appendp_any l n v k _ p c h.out.2.2 hv w1 (fun _ hb => Nat.lt_of_lt_of_le hb g.out.size) (Std.rd h g)
theorem appendr_at (g : Hid (w0.grownBy w1 none)) (n : Int) (v : Nat) (k : Int) (hv : U64 v) (h : Hid (Std w0 p c l)) : Calls Try.prog 19 #[.agg #[.slice p l.length c, .int .i64 n], .int .u64 (v : Int), .int .i64 k] w1 fun e w' => RPost (apV l n v k) w1 e w' :=
  appendr_any l n v k _ p c h.out.2.2 hv h.out.2.1 w1 (fun _ hb => Nat.lt_of_lt_of_le hb g.out.size) (Std.rd h g)
theorem same_at (h : Hid (Std w1 p c l)) (h' : Hid (Std w1 p' c' l)) (n : Int) :
    Calls Try.prog 20 #[.agg #[.slice p l.length c, .int .i64 n], .agg #[.slice p' l.length c', .int .i64 n]] w1 fun e w' => e = .returned (.bool true) ∧ w1.grownBy w' none := by
  have := same_any l l n n _ _ p p' c c' h.out.2.2 h'.out.2.2 h.out.2.1 h'.out.2.1 w1 h.out.1 h'.out.1
  rw [same_self] at this
  exact this
/-- What a call of the program gave: the stream stands, the world has grown. -/
theorem SPost.std {l : List Nat} {n x : Int} {w w' : World} {e : Ending} (h : SPost (l, n, x) w e w') : ∃ p c, e = .returned (.tuple #[.agg #[.slice p l.length c, .int .i64 n], .int .i64 x]) ∧ Hid (Std w' p c l) ∧ w.grownBy w' none := by
  obtain ⟨p, c, he, h1, h2, h3, h4⟩ := h.op rfl rfl
  exact ⟨p, c, he, Lib.hid ⟨h1.bound, h2, h3⟩, h4⟩
theorem RPost.std {l : List Nat} {n x : Int} {w w' : World} {e : Ending} (h : RPost (l, n, x) w e w') : ∃ p c, e = .returned (.tuple #[.agg #[.slice p l.length c, .int .i64 n], .int .i64 x]) ∧ Hid (Std w' p c l) ∧ w.grownBy w' none := by
  obtain ⟨p, c, he, h1, h2, h3, h4⟩ := h.op rfl rfl
  exact ⟨p, c, he, Lib.hid ⟨h1.bound, h2, h3⟩, h4⟩
end
/-- Row b holds x and y. -/
def Row2 (w : World) (b : Nat) (x y : Value) : Prop := w.heap[b]? = some (.cells #[x, y] 25 (0, 0))
theorem Row2.keep {w w' : World} {b : Nat} {x y : Value} (h : Hid (Row2 w b x y)) (g : w.grownBy w' none) : Hid (Row2 w' b x y) := Lib.hid (kept_row h.out g (by simp))
theorem Row2.cells {w : World} {b : Nat} {x y : Value} (h : Hid (Row2 w b x y)) : w.cell? ⟨b, 0, none⟩ = some x ∧ w.cell? ⟨b, 1, none⟩ = some y := row_cells h.out
/-- A stream is laid into a block of its own. -/
theorem box_new (w : World) (x y : Value) : Hid (Row2 (w.alloc (.cells #[x, y] 25)) w.heap.size x y) ∧ w.grownBy (w.alloc (.cells #[x, y] 25)) none := ⟨Lib.hid (heap_alloc_new w _), World.grownBy_alloc w _ _⟩
set_option maxHeartbeats 3200000 in
theorem appends_walk (v : Value) (b : Nat) (n1 : Int) (hb : U64 b) (w : World) (hv : IntsIn w v) :
    Calls Try.prog 4 #[v, .int .u64 (b : Int), .int .i64 n1] w fun e w' => e = .returned (.bool true) ∧ w.grownBy w' none := by
  go_enter Try.func4, Try.ntmps4
  go_wp2_with fail
  refine (new_any v w hv).mono ?_
  rintro e w2 ⟨rfl, hg1, hT1⟩
  go_wp2_with fail
  refine (stream1_any _ 30 5 (by omega) (by unfold I64; omega) (by omega) _ hT1).mono ?_
  rintro e w3 ⟨l, n, ⟨p, c, rfl, hown⟩, hP, hs⟩
  obtain ⟨r1, r2⟩ := box_new w3 (.slice p l.length c) (.int .i64 n)
  have hlt : w.heap.size < w3.heap.size := by have := hg1.size; have := hs.1.size; have := hT1.lt; omega
  have hT3 := hs.2.keep r2
  have g13 := Lib.hid (grown_trans (grown_tape hg1 hs.1) r2)
  have O1 := hown.keep r2
  have hsz2 : w.heap.size < w2.heap.size := hT1.lt
  clear hP hs hg1 hT1 hv r2 hown
  go_wp2_with fail
  generalize w3.alloc (.cells #[.slice p l.length c, .int .i64 n] 25) = w4 at *
  refine (next_any _ 66 (by unfold I64; omega) _ hT3).mono ?_
  rintro e w5 ⟨k, rfl, hk, hs5⟩
  obtain ⟨K, rfl⟩ := Int.eq_ofNat_of_zero_le hk.1
  have hK : K < 66 := by have := hk.2.1 (by omega); omega
  clear hk hT3
  have hs5T := hs5.2
  go_wp2_with fail
  refine (next_any _ 3 (by unfold I64; omega) _ hs5T).mono ?_
  rintro e w6 ⟨r, rfl, hr, hs6⟩
  have S46 := hs5.trans hs6
  have G6 := Lib.hid (grown_tape g13.out S46.1)
  have ST6 : Hid (Std w6 p c l) := Lib.hid ⟨((O1.rd.grown S46.1 (by intro b hb e; have := Option.some.inj e; omega))).bound, O1.pc, O1.by_⟩
  have RW6 : Hid (Row2 w6 w3.heap.size (.slice p l.length c) (.int .i64 n)) := Lib.hid (kept_row r1.out S46.1 (by intro e; have := Option.some.inj e; omega))
  clear hs5 hs5T hs6 S46 O1 r1 g13
  obtain ⟨c0, c1⟩ := Row2.cells RW6
  have hr0 : 0 ≤ r := hr.1
  clear hr
  by_cases h0 : 0 < r
  · by_cases hk64 : K < 64
    · obtain ⟨z, hz, hzB⟩ : ∃ z : Nat, U64 z ∧ bits .and .u64 (b : Int) (IntKind.u64.wrap (((b2 K : Nat) : Int) - 1)) = (z : Int) := bitsU _ _ _
      go_wp2_with (go_at_call 17; refine (bit_any K hk64 _).mono ?_; rintro e w' ⟨rfl, rfl⟩)
      refine (appendp_at (w0 := w6) (hid_refl w6) n z (K : Int) hz ST6).mono ?_
      intro e w7 h
      generalize hr1 : apV l n z (K : Int) = q1 at h
      obtain ⟨L1, N1, E1⟩ := q1
      obtain ⟨px, cx, rfl, SX, hx⟩ := h.std
      have HR1 := Lib.hid hr1
      obtain ⟨bx, gx⟩ := box_new w7 (.slice px L1.length cx) (.int .i64 N1)
      have G8 := Lib.hid (grown_trans hx gx)
      have RW8 := Row2.keep RW6 G8.out
      have SX8 := Std.keep SX gx
      clear h hr1 SX hx gx c0 c1
      obtain ⟨c0, c1⟩ := Row2.cells RW8
      go_wp2_with fail
      generalize w7.alloc (.cells #[.slice px L1.length cx, .int .i64 N1] 25) = w8 at *
      refine (appendr_at (w0 := w6) G8 n z (K : Int) hz ST6).mono ?_
      intro e w9 h
      rw [HR1.out] at h
      obtain ⟨py, cy, rfl, SY, hy⟩ := h.std
      obtain ⟨by_, gy⟩ := box_new w9 (.slice py L1.length cy) (.int .i64 N1)
      have g810 := grown_trans hy gy
      have G10 := Lib.hid (grown_trans G8.out g810)
      have RW10 := Row2.keep RW8 g810
      have BX10 := Row2.keep bx g810
      have SX10 := Std.keep SX8 g810
      have SY10 := Std.keep SY gy
      clear h SY hy gy g810 c0 c1 SX8 bx RW8 HR1
      obtain ⟨c0, c1⟩ := Row2.cells RW10
      go_wp2_with fail
      generalize w9.alloc (.cells #[.slice py L1.length cy, .int .i64 N1] 25) = w10 at *
      refine (appendp_at (w0 := w6) G10 n b n1 hb ST6).mono ?_
      intro e w11 h
      generalize hr2 : apV l n b n1 = q2 at h
      obtain ⟨L2, N2, E2⟩ := q2
      obtain ⟨pu, cu, rfl, SU, hu⟩ := h.std
      have HR2 := Lib.hid hr2
      obtain ⟨bu, gu⟩ := box_new w11 (.slice pu L2.length cu) (.int .i64 N2)
      have g1012 := grown_trans hu gu
      have G12 := Lib.hid (grown_trans G10.out g1012)
      have RW12 := Row2.keep RW10 g1012
      have BX12 := Row2.keep BX10 g1012
      have BY12 := Row2.keep by_ g1012
      have SX12 := Std.keep SX10 g1012
      have SY12 := Std.keep SY10 g1012
      have SU12 := Std.keep SU gu
      clear h hr2 SU hu gu g1012 c0 c1 BX10 by_ SX10 SY10 RW10
      obtain ⟨c0, c1⟩ := Row2.cells RW12
      go_wp2_with fail
      generalize w11.alloc (.cells #[.slice pu L2.length cu, .int .i64 N2] 25) = w12 at *
      refine (appendr_at (w0 := w6) G12 n b n1 hb ST6).mono ?_
      intro e w13 h
      rw [HR2.out] at h
      obtain ⟨pw, cw, rfl, SW, hw⟩ := h.std
      obtain ⟨bw_, gw⟩ := box_new w13 (.slice pw L2.length cw) (.int .i64 N2)
      have g1214 := grown_trans hw gw
      have G14 := Lib.hid (grown_trans G12.out g1214)
      have BX14 := Row2.keep BX12 g1214
      have BY14 := Row2.keep BY12 g1214
      have BU14 := Row2.keep bu g1214
      have SX14 := Std.keep SX12 g1214
      have SY14 := Std.keep SY12 g1214
      have SU14 := Std.keep SU12 g1214
      have SW14 := Std.keep SW gw
      clear h SW hw gw g1214 c0 c1 BX12 BY12 bu SX12 SY12 SU12 HR2 RW12 RW6
      obtain ⟨c0, c1⟩ := Row2.cells BX14
      obtain ⟨d0, d1⟩ := Row2.cells BY14
      go_wp2_with fail
      generalize w13.alloc (.cells #[.slice pw L2.length cw, .int .i64 N2] 25) = w14 at *
      refine (same_at SX14 SY14 N1).mono ?_
      rintro e w15 ⟨rfl, h15⟩
      have BU15 := Row2.keep BU14 h15
      have BW15 := Row2.keep bw_ h15
      have SU15 := Std.keep SU14 h15
      have SW15 := Std.keep SW14 h15
      have G15 := Lib.hid (grown_trans G14.out h15)
      clear h15 c0 c1 d0 d1 SX14 SY14 BX14 BY14 BU14 bw_ SU14 SW14
      obtain ⟨c0, c1⟩ := Row2.cells BU15
      obtain ⟨d0, d1⟩ := Row2.cells BW15
      go_wp2_with fail
      refine (same_at SU15 SW15 N2).mono ?_
      rintro e w16 ⟨rfl, h16⟩
      have G16 := Lib.hid (grown_trans G15.out h16)
      clear h16 c0 c1 d0 d1 SU15 SW15 BU15 BW15
      go_wp2_with fail
      refine (awake_any _).mono ?_
      rintro e w17 ⟨rfl, h17⟩
      have G17 := Lib.hid (grown_trans G6.out (grown_trans G16.out h17))
      clear h17
      go_wp2_with fail
      go_ret
      exact ⟨rfl, G17.out⟩
    · skip
      go_wp2_with fail
      refine (appendp_at (w0 := w6) (hid_refl w6) n b (K : Int) hb ST6).mono ?_
      intro e w7 h
      generalize hr1 : apV l n b (K : Int) = q1 at h
      obtain ⟨L1, N1, E1⟩ := q1
      obtain ⟨px, cx, rfl, SX, hx⟩ := h.std
      have HR1 := Lib.hid hr1
      obtain ⟨bx, gx⟩ := box_new w7 (.slice px L1.length cx) (.int .i64 N1)
      have G8 := Lib.hid (grown_trans hx gx)
      have RW8 := Row2.keep RW6 G8.out
      have SX8 := Std.keep SX gx
      clear h hr1 SX hx gx c0 c1
      obtain ⟨c0, c1⟩ := Row2.cells RW8
      go_wp2_with fail
      generalize w7.alloc (.cells #[.slice px L1.length cx, .int .i64 N1] 25) = w8 at *
      refine (appendr_at (w0 := w6) G8 n b (K : Int) hb ST6).mono ?_
      intro e w9 h
      rw [HR1.out] at h
      obtain ⟨py, cy, rfl, SY, hy⟩ := h.std
      obtain ⟨by_, gy⟩ := box_new w9 (.slice py L1.length cy) (.int .i64 N1)
      have g810 := grown_trans hy gy
      have G10 := Lib.hid (grown_trans G8.out g810)
      have RW10 := Row2.keep RW8 g810
      have BX10 := Row2.keep bx g810
      have SX10 := Std.keep SX8 g810
      have SY10 := Std.keep SY gy
      clear h SY hy gy g810 c0 c1 SX8 bx RW8 HR1
      obtain ⟨c0, c1⟩ := Row2.cells RW10
      go_wp2_with fail
      generalize w9.alloc (.cells #[.slice py L1.length cy, .int .i64 N1] 25) = w10 at *
      refine (appendp_at (w0 := w6) G10 n b n1 hb ST6).mono ?_
      intro e w11 h
      generalize hr2 : apV l n b n1 = q2 at h
      obtain ⟨L2, N2, E2⟩ := q2
      obtain ⟨pu, cu, rfl, SU, hu⟩ := h.std
      have HR2 := Lib.hid hr2
      obtain ⟨bu, gu⟩ := box_new w11 (.slice pu L2.length cu) (.int .i64 N2)
      have g1012 := grown_trans hu gu
      have G12 := Lib.hid (grown_trans G10.out g1012)
      have RW12 := Row2.keep RW10 g1012
      have BX12 := Row2.keep BX10 g1012
      have BY12 := Row2.keep by_ g1012
      have SX12 := Std.keep SX10 g1012
      have SY12 := Std.keep SY10 g1012
      have SU12 := Std.keep SU gu
      clear h hr2 SU hu gu g1012 c0 c1 BX10 by_ SX10 SY10 RW10
      obtain ⟨c0, c1⟩ := Row2.cells RW12
      go_wp2_with fail
      generalize w11.alloc (.cells #[.slice pu L2.length cu, .int .i64 N2] 25) = w12 at *
      refine (appendr_at (w0 := w6) G12 n b n1 hb ST6).mono ?_
      intro e w13 h
      rw [HR2.out] at h
      obtain ⟨pw, cw, rfl, SW, hw⟩ := h.std
      obtain ⟨bw_, gw⟩ := box_new w13 (.slice pw L2.length cw) (.int .i64 N2)
      have g1214 := grown_trans hw gw
      have G14 := Lib.hid (grown_trans G12.out g1214)
      have BX14 := Row2.keep BX12 g1214
      have BY14 := Row2.keep BY12 g1214
      have BU14 := Row2.keep bu g1214
      have SX14 := Std.keep SX12 g1214
      have SY14 := Std.keep SY12 g1214
      have SU14 := Std.keep SU12 g1214
      have SW14 := Std.keep SW gw
      clear h SW hw gw g1214 c0 c1 BX12 BY12 bu SX12 SY12 SU12 HR2 RW12 RW6
      obtain ⟨c0, c1⟩ := Row2.cells BX14
      obtain ⟨d0, d1⟩ := Row2.cells BY14
      go_wp2_with fail
      generalize w13.alloc (.cells #[.slice pw L2.length cw, .int .i64 N2] 25) = w14 at *
      refine (same_at SX14 SY14 N1).mono ?_
      rintro e w15 ⟨rfl, h15⟩
      have BU15 := Row2.keep BU14 h15
      have BW15 := Row2.keep bw_ h15
      have SU15 := Std.keep SU14 h15
      have SW15 := Std.keep SW14 h15
      have G15 := Lib.hid (grown_trans G14.out h15)
      clear h15 c0 c1 d0 d1 SX14 SY14 BX14 BY14 BU14 bw_ SU14 SW14
      obtain ⟨c0, c1⟩ := Row2.cells BU15
      obtain ⟨d0, d1⟩ := Row2.cells BW15
      go_wp2_with fail
      refine (same_at SU15 SW15 N2).mono ?_
      rintro e w16 ⟨rfl, h16⟩
      have G16 := Lib.hid (grown_trans G15.out h16)
      clear h16 c0 c1 d0 d1 SU15 SW15 BU15 BW15
      go_wp2_with fail
      refine (awake_any _).mono ?_
      rintro e w17 ⟨rfl, h17⟩
      have G17 := Lib.hid (grown_trans G6.out (grown_trans G16.out h17))
      clear h17
      go_wp2_with fail
      go_ret
      exact ⟨rfl, G17.out⟩
  · skip
    go_wp2_with fail
    refine (appendp_at (w0 := w6) (hid_refl w6) n b (K : Int) hb ST6).mono ?_
    intro e w7 h
    generalize hr1 : apV l n b (K : Int) = q1 at h
    obtain ⟨L1, N1, E1⟩ := q1
    obtain ⟨px, cx, rfl, SX, hx⟩ := h.std
    have HR1 := Lib.hid hr1
    obtain ⟨bx, gx⟩ := box_new w7 (.slice px L1.length cx) (.int .i64 N1)
    have G8 := Lib.hid (grown_trans hx gx)
    have RW8 := Row2.keep RW6 G8.out
    have SX8 := Std.keep SX gx
    clear h hr1 SX hx gx c0 c1
    obtain ⟨c0, c1⟩ := Row2.cells RW8
    go_wp2_with fail
    generalize w7.alloc (.cells #[.slice px L1.length cx, .int .i64 N1] 25) = w8 at *
    refine (appendr_at (w0 := w6) G8 n b (K : Int) hb ST6).mono ?_
    intro e w9 h
    rw [HR1.out] at h
    obtain ⟨py, cy, rfl, SY, hy⟩ := h.std
    obtain ⟨by_, gy⟩ := box_new w9 (.slice py L1.length cy) (.int .i64 N1)
    have g810 := grown_trans hy gy
    have G10 := Lib.hid (grown_trans G8.out g810)
    have RW10 := Row2.keep RW8 g810
    have BX10 := Row2.keep bx g810
    have SX10 := Std.keep SX8 g810
    have SY10 := Std.keep SY gy
    clear h SY hy gy g810 c0 c1 SX8 bx RW8 HR1
    obtain ⟨c0, c1⟩ := Row2.cells RW10
    go_wp2_with fail
    generalize w9.alloc (.cells #[.slice py L1.length cy, .int .i64 N1] 25) = w10 at *
    refine (appendp_at (w0 := w6) G10 n b n1 hb ST6).mono ?_
    intro e w11 h
    generalize hr2 : apV l n b n1 = q2 at h
    obtain ⟨L2, N2, E2⟩ := q2
    obtain ⟨pu, cu, rfl, SU, hu⟩ := h.std
    have HR2 := Lib.hid hr2
    obtain ⟨bu, gu⟩ := box_new w11 (.slice pu L2.length cu) (.int .i64 N2)
    have g1012 := grown_trans hu gu
    have G12 := Lib.hid (grown_trans G10.out g1012)
    have RW12 := Row2.keep RW10 g1012
    have BX12 := Row2.keep BX10 g1012
    have BY12 := Row2.keep by_ g1012
    have SX12 := Std.keep SX10 g1012
    have SY12 := Std.keep SY10 g1012
    have SU12 := Std.keep SU gu
    clear h hr2 SU hu gu g1012 c0 c1 BX10 by_ SX10 SY10 RW10
    obtain ⟨c0, c1⟩ := Row2.cells RW12
    go_wp2_with fail
    generalize w11.alloc (.cells #[.slice pu L2.length cu, .int .i64 N2] 25) = w12 at *
    refine (appendr_at (w0 := w6) G12 n b n1 hb ST6).mono ?_
    intro e w13 h
    rw [HR2.out] at h
    obtain ⟨pw, cw, rfl, SW, hw⟩ := h.std
    obtain ⟨bw_, gw⟩ := box_new w13 (.slice pw L2.length cw) (.int .i64 N2)
    have g1214 := grown_trans hw gw
    have G14 := Lib.hid (grown_trans G12.out g1214)
    have BX14 := Row2.keep BX12 g1214
    have BY14 := Row2.keep BY12 g1214
    have BU14 := Row2.keep bu g1214
    have SX14 := Std.keep SX12 g1214
    have SY14 := Std.keep SY12 g1214
    have SU14 := Std.keep SU12 g1214
    have SW14 := Std.keep SW gw
    clear h SW hw gw g1214 c0 c1 BX12 BY12 bu SX12 SY12 SU12 HR2 RW12 RW6
    obtain ⟨c0, c1⟩ := Row2.cells BX14
    obtain ⟨d0, d1⟩ := Row2.cells BY14
    go_wp2_with fail
    generalize w13.alloc (.cells #[.slice pw L2.length cw, .int .i64 N2] 25) = w14 at *
    refine (same_at SX14 SY14 N1).mono ?_
    rintro e w15 ⟨rfl, h15⟩
    have BU15 := Row2.keep BU14 h15
    have BW15 := Row2.keep bw_ h15
    have SU15 := Std.keep SU14 h15
    have SW15 := Std.keep SW14 h15
    have G15 := Lib.hid (grown_trans G14.out h15)
    clear h15 c0 c1 d0 d1 SX14 SY14 BX14 BY14 BU14 bw_ SU14 SW14
    obtain ⟨c0, c1⟩ := Row2.cells BU15
    obtain ⟨d0, d1⟩ := Row2.cells BW15
    go_wp2_with fail
    refine (same_at SU15 SW15 N2).mono ?_
    rintro e w16 ⟨rfl, h16⟩
    have G16 := Lib.hid (grown_trans G15.out h16)
    clear h16 c0 c1 d0 d1 SU15 SW15 BU15 BW15
    go_wp2_with fail
    refine (awake_any _).mono ?_
    rintro e w17 ⟨rfl, h17⟩
    have G17 := Lib.hid (grown_trans G6.out (grown_trans G16.out h17))
    clear h17
    go_wp2_with fail
    go_ret
    exact ⟨rfl, G17.out⟩
end Go.Proofs.Ythnjiknmlakkkaa

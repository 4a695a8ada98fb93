/- BitioChecks: the walk. -/
import Derived.Test.YthnjiknmlakkkaaIoBurstsLaw
import Derived.Test.YthnjiknmlakkkaaIoOrder
namespace Go.Proofs.Ythnjiknmlakkkaa
open Go.RowKit Bs
section
variable {w : World} {p : Option Addr} {c : Nat} {l : List Nat}
theorem checkr_st (h : Hid (Std w p c l)) (n : Int) : Calls Try.prog 32 #[.agg #[.slice p l.length c, .int .i64 n]] w fun e w' => CheckPost l n w e w' := checkr_any l n _ p c h.out.2.2 w (fun _ hb => hb) h.out.1
end
theorem chkV_zero {l : List Nat} {n : Int} {x : Nat} (h : chkV l n = (x, 0)) : ∃ N : Nat, n = (N : Int) ∧ vs l (N : Int) = true ∧ x = chk (bt l) N := by
  cases hv : vs l n with
  | false => rw [chkV_inv hv] at h; simp at h
  | true =>
    obtain ⟨N, rfl⟩ := vs_nat hv
    rw [chkV_ok hv] at h
    simp only [Prod.mk.injEq, and_true] at h
    exact ⟨N, rfl, hv, h.symm⟩
/-- The place that the i-th number of an order of m means, among N bits. -/
def plc (l : List Nat) (N m i : Nat) : Nat := l.getD i 0 * N / m
theorem plc_lt {l : List Nat} {N m i : Nat} (h : Ord l m) (hi : i < m) (hN : 0 < N) : plc l N m i < N := by
  have hm : l.getD i 0 < m := by
    rw [List.getD_eq_getElem?_getD, List.getElem?_eq_getElem (by rw [h.1]; exact hi)]
    exact h.2.2 _ (List.getElem_mem _)
  unfold plc
  rw [Nat.div_lt_iff_lt_mul (by omega), Nat.mul_comm N m]
  exact Nat.mul_lt_mul_of_pos_right hm hN
theorem plc_ne {l : List Nat} {N m i j : Nat} (h : Ord l m) (hi : i < m) (hj : j < m) (hij : i ≠ j) (hN : m ≤ N) : plc l N m i ≠ plc l N m j := by
  have key : ∀ x y : Nat, x < y → x * N / m < y * N / m := by
    intro x y hxy
    have h1 : x * N / m + 1 ≤ y * N / m := by
      rw [Nat.le_div_iff_mul_le (by omega), Nat.add_mul, Nat.one_mul]
      have h2 := Nat.div_mul_le_self (x * N) m
      have h3 : (x + 1) * N ≤ y * N := Nat.mul_le_mul_right _ hxy
      rw [Nat.add_mul, Nat.one_mul] at h3
      omega
    omega
  have hne : l.getD i 0 ≠ l.getD j 0 := by
    rw [List.getD_eq_getElem?_getD, List.getD_eq_getElem?_getD, List.getElem?_eq_getElem (by rw [h.1]; exact hi), List.getElem?_eq_getElem (by rw [h.1]; exact hj)]
    intro e
    exact hij ((List.getElem_inj h.2.1).1 e)
  unfold plc
  rcases Nat.lt_or_ge (l.getD i 0) (l.getD j 0) with h1 | h1
  · have := key _ _ h1; omega
  · have := key _ _ (show l.getD j 0 < l.getD i 0 by omega); omega
/-- l2 is l with the first j places of the order turned. -/
def Turned (l l2 : List Nat) (N : Nat) (o : List Nat) (m j : Nat) : Prop := l2.length = l.length ∧ By l2 ∧ vs l2 (N : Int) = true ∧ ∀ i, i < N → (bt l i != bt l2 i) = ((decide (1 ≤ j ∧ i = plc o N m 0) != decide (2 ≤ j ∧ i = plc o N m 1)) != decide (3 ≤ j ∧ i = plc o N m 2))
theorem turned_zero {l : List Nat} {N : Nat} (hl : By l) (h : vs l (N : Int) = true) (o : List Nat) (m : Nat) : Turned l l N o m 0 := ⟨rfl, hl, h, fun i _ => by simp⟩
theorem turned_next {l l2 o : List Nat} {N m j : Nat} (h : Turned l l2 N o m j) (hj : j < 3) (hp : plc o N m j < N) : Turned l (flp l2 (plc o N m j)) N o m (j + 1) := by
  obtain ⟨h1, h2, h3, h4⟩ := h
  have hlen := (vs_bits h3).2
  refine ⟨by rw [flp_len, h1], flp_by h2 (by omega), flp_vs h3 hp, fun i hi => ?_⟩
  have h5 := h4 i hi
  rw [flp_bt (by omega)]
  have k1 : ∀ a b d e : Bool, (a != b) = e → (a != (b != d)) = (e != d) := by decide
  have k2 : ∀ a b d e f : Bool, (a != b) = (e != f) → (a != (b != d)) = (e != (f != d)) := by decide
  rcases (show j = 0 ∨ j = 1 ∨ j = 2 by omega) with rfl | rfl | rfl
  · simp at h5 ⊢; rw [h5]; cases bt l2 i <;> simp
  · simp at h5 ⊢; exact k1 _ _ _ _ h5
  · simp at h5 ⊢; exact k2 _ _ _ _ _ h5
theorem turned_ne {l l2 o : List Nat} {N m j : Nat} (h : Turned l l2 N o m j) (ho : Ord o m) (hm : 3 ≤ m) (hmN : m ≤ N) (hN : N ≤ 300) (h1 : 1 ≤ j) (h3 : j ≤ 3) : chk (bt l) N ≠ chk (bt l2) N := by
  have hp := fun i (hi : i < 3) => plc_lt (i := i) ho (by omega) (show 0 < N by omega)
  refine chk_ne ?_
  rcases (show j = 1 ∨ j = 2 ∨ j = 3 by omega) with rfl | rfl | rfl
  · exact dif_one (hp 0 (by omega)) fun i hi => by rw [h.2.2.2 i hi]; simp
  · exact dif_two (plc_ne ho (i := 0) (j := 1) (by omega) (by omega) (by omega) hmN) (hp 0 (by omega)) (hp 1 (by omega)) hN fun i hi => by rw [h.2.2.2 i hi]; simp
  · exact dif_three (hp 0 (by omega)) (hp 1 (by omega)) (hp 2 (by omega)) fun i hi => by rw [h.2.2.2 i hi]; simp
/-- The rows of the first stream, of the turned one, of the order. -/
structure TurnAt (W : World) (base A B : Nat) (p0 : Option Addr) (k0 : Nat) (l : List Nat) (N g cap m : Nat) (o : List Nat) (j : Nat) (p : Option Addr) (c : Nat) (l2 : List Nat) (w' : World) : Prop where
  rowa : Row2 w' A (.slice p0 l.length k0) (.int .i64 (N : Int))
  rowb : Row2 w' B (.slice p l2.length c) (.int .i64 (N : Int))
  own : Own w' base p c l2
  ord : w'.ownsRow W.heap.size 3 1 (.slice (some ⟨g, 0, none⟩) m cap) m (o.map zv)
  tn : Turned l l2 N o m j
  gr : W.grownBy w' none
  sz : B < w'.heap.size
section
variable {W : World} {base A B : Nat} {p0 : Option Addr} {k0 : Nat} {l : List Nat} {N g cap m : Nat} {o : List Nat} {j : Nat} {p : Option Addr} {c : Nat} {l2 : List Nat} {w' : World}
theorem TurnAt.keep {w2 : World} (h : TurnAt W base A B p0 k0 l N g cap m o j p c l2 w') (k : w'.grownBy w2 none) : TurnAt W base A B p0 k0 l N g cap m o j p c l2 w2 :=
  ⟨kept_row h.rowa k (by simp), kept_row h.rowb k (by simp), h.own.keep k, h.ord.kept k (.inr (fun e => by have e2 : some g = none := e; cases e2)), h.tn, grown_trans h.gr k, Nat.lt_of_lt_of_le h.sz k.size⟩
theorem TurnAt.store {base' c' j' : Nat} {p' : Option Addr} {l3 : List Nat} (h : TurnAt W base A B p0 k0 l N g cap m o j p c l2 w') (hA : A < B) (hg : g < B) (hW : W.heap.size ≤ B) (q : Own w' base' p' c' l3) (hb : B < base') (hb2 : base ≤ base') (hr : Turned l l3 N o m j') :
    TurnAt W base A B p0 k0 l N g cap m o j' p' c' l3 ((w'.setCell ⟨B, 0, none⟩ (.slice p' l3.length c')).setCell ⟨B, 1, none⟩ (.int .i64 (N : Int))) := by
  have k := grown_store2 w' B (.slice p' l3.length c') (.int .i64 (N : Int))
  refine ⟨kept_row h.rowa k (by intro e; have := Option.some.inj e; omega), store2 h.rowb, (q.other k hb).mono hb2, h.ord.kept k (.inr ?_), hr, grown_new h.gr k hW, Nat.lt_of_lt_of_le h.sz k.size⟩
  intro e
  have e2 : some g = some B := e
  have := Option.some.inj e2
  omega
theorem TurnAt.cell (h : TurnAt W base A B p0 k0 l N g cap m o j p c l2 w') (ho : Ord o m) {i : Nat} (hi : i < m) : w'.cell? ⟨g, i, none⟩ = some (.int .i64 ((o.getD i 0 : Nat) : Int)) := by
  have hl : i < o.length := by rw [ho.1]; exact hi
  have := h.ord.cells rfl i (zv (o.getD i 0)) (by rw [List.getElem?_map, List.getElem?_eq_getElem hl, List.getD_eq_getElem?_getD, List.getElem?_eq_getElem hl]; rfl)
  rw [add_plain, Nat.zero_add] at this
  exact this
end
theorem ord_lt {o : List Nat} {m i : Nat} (ho : Ord o m) (hi : i < m) : o.getD i 0 < m := by
  rw [List.getD_eq_getElem?_getD, List.getElem?_eq_getElem (by rw [ho.1]; exact hi)]
  exact ho.2.2 _ (List.getElem_mem _)
theorem flip_at {w0 w : World} {p : Option Addr} {c : Nat} {l : List Nat} (g : Hid (w0.grownBy w none)) (h : Hid (Std w0 p c l)) (N a : Nat) (hll : l.length ≤ 2000) (ha : a < 8 * l.length) (hN : N ≤ 100000) : Calls Try.prog 34 #[.agg #[.slice p l.length c, .int .i64 (N : Int)], .int .i64 (a : Int)] w fun e w' => StreamPost (flp l a) (N : Int) w e w' := flip_st (Std.keep h g.out) N a hll ha hN
set_option maxRecDepth 100000 in
set_option maxHeartbeats 6400000 in
/-- The two streams are boxed, checked by program and reference; a stream's bits are turned one by one. -/
theorem checks_walk (v : Value) (raw : List Nat) (nr : Int) (pr : Option Addr) (cr : Nat) (hb : By raw) (hpc : pr = none → cr = 0) (w : World) (hv : IntsIn w v) (hR : Rd w (· < w.heap.size) (.slice pr raw.length cr) (raw.map nv)) :
    Calls Try.prog 9 #[v, .agg #[.slice pr raw.length cr, .int .i64 nr]] w fun e w' => e = .returned (.bool true) ∧ w.grownBy w' none := by
  obtain ⟨RR, k2⟩ := box_new w (.slice pr raw.length cr) (.int .i64 nr)
  have hv1 := hv.keep k2
  have SR : Hid (Std (w.alloc (.cells #[.slice pr raw.length cr, .int .i64 nr] 25)) pr cr raw) := Lib.hid ⟨(hR.keep k2).bound, hpc, hb⟩
  have K2 := Lib.hid k2
  clear k2 hv hR
  go_enter Try.func9, Try.ntmps9
  go_wp2_with fail
  generalize w.alloc (.cells #[.slice pr raw.length cr, .int .i64 nr] 25) = w1 at *
  refine (new_any v w1 hv1).mono ?_
  rintro e w2 ⟨rfl, hg1, hT1⟩
  have hlt := hT1.lt
  go_wp2_with fail
  refine (stream1_any _ 200 8 (by omega) (by unfold I64; omega) (by omega) _ hT1).mono ?_
  rintro e w3 ⟨l, n, ⟨p, c, rfl, hown⟩, hP, hs⟩
  obtain ⟨RA, r2⟩ := box_new w3 (.slice p l.length c) (.int .i64 n)
  have hT := hs.2.keep r2
  have g13 := grown_trans (grown_tape hg1 hs.1) r2
  have SR := Std.keep SR g13
  have RR := Row2.keep RR g13
  have G := Lib.hid (grown_trans K2.out g13)
  have OA := Lib.hid (hown.keep r2)
  have SA := OA.out.std
  have hlt3 : w1.heap.size < w3.heap.size := by have := hs.1.size; omega
  have hw1 := K2.out.size
  have hw23 := hs.1.size
  have HP := Lib.hid hP.1
  obtain ⟨x, y, hxy⟩ : ∃ x y, chkV l n = (x, y) := ⟨_, _, rfl⟩
  have HX := Lib.hid hxy
  obtain ⟨u, z, huz⟩ : ∃ u z, chkV raw nr = (u, z) := ⟨_, _, rfl⟩
  have HU := Lib.hid huz
  clear hs hg1 hT1 hv1 r2 hown hxy huz g13 hP K2
  obtain ⟨c0, c1⟩ := Row2.cells RA
  obtain ⟨d0, d1⟩ := Row2.cells RR
  go_wp2_with fail
  generalize w3.alloc (.cells #[.slice p l.length c, .int .i64 n] 25) = w4 at *
  refine (checkp_st SA n).mono ?_
  intro e w5 h
  obtain ⟨rfl, h5⟩ := h.op HX.out
  have SR := Std.keep SR h5
  have RR := Row2.keep RR h5
  have SA := Std.keep SA h5
  have RA := Row2.keep RA h5
  have G := Lib.hid (grown_trans G.out h5)
  have OA := Lib.hid (OA.out.keep h5)
  have hT := hT.keep h5
  clear h h5 c0 c1 d0 d1
  obtain ⟨c0, c1⟩ := Row2.cells RA
  obtain ⟨d0, d1⟩ := Row2.cells RR
  go_wp2_with fail
  refine (checkr_st SA n).mono ?_
  intro e w6 h
  obtain ⟨rfl, h6⟩ := h.op HX.out
  have SR := Std.keep SR h6
  have RR := Row2.keep RR h6
  have SA := Std.keep SA h6
  have RA := Row2.keep RA h6
  have G := Lib.hid (grown_trans G.out h6)
  have OA := Lib.hid (OA.out.keep h6)
  have hT := hT.keep h6
  clear h h6 c0 c1 d0 d1
  obtain ⟨c0, c1⟩ := Row2.cells RA
  obtain ⟨d0, d1⟩ := Row2.cells RR
  by_cases hbig : raw.length ≤ 1024
  · have hb1 : (raw.length : Int) ≤ 1024 := by omega
    go_wp2_with fail
    refine (checkp_st SR nr).mono ?_
    intro e w7 h
    obtain ⟨rfl, h7⟩ := h.op HU.out
    have SR := Std.keep SR h7
    have RR := Row2.keep RR h7
    have SA := Std.keep SA h7
    have RA := Row2.keep RA h7
    have G := Lib.hid (grown_trans G.out h7)
    have OA := Lib.hid (OA.out.keep h7)
    have hT := hT.keep h7
    clear h h7 c0 c1 d0 d1
    obtain ⟨c0, c1⟩ := Row2.cells RA
    obtain ⟨d0, d1⟩ := Row2.cells RR
    go_wp2_with fail
    refine (checkr_st SR nr).mono ?_
    intro e w8 h
    obtain ⟨rfl, h8⟩ := h.op HU.out
    have SR := Std.keep SR h8
    have RR := Row2.keep RR h8
    have SA := Std.keep SA h8
    have RA := Row2.keep RA h8
    have G := Lib.hid (grown_trans G.out h8)
    have OA := Lib.hid (OA.out.keep h8)
    have hT := hT.keep h8
    clear h h8 c0 c1 d0 d1
    obtain ⟨c0, c1⟩ := Row2.cells RA
    obtain ⟨d0, d1⟩ := Row2.cells RR
    by_cases hy : y = 0
    · subst hy
      obtain ⟨N, rfl, hV, hxe⟩ := chkV_zero HX.out
      have HV := Lib.hid hV
      have HXE := Lib.hid hxe
      clear HX hV hxe
      by_cases hN3 : N < 3
      · have hn3 : (N : Int) < 3 := by omega
        go_wp2_with fail
        refine (awake_any _).mono ?_
        rintro e wz ⟨rfl, hz⟩
        have G := Lib.hid (grown_trans G.out hz)
        clear hz
        go_wp2_with fail
        go_ret
        exact ⟨rfl, G.out⟩
      · have hn3 : ¬ (N : Int) < 3 := by omega
        by_cases h40 : N ≤ 40
        · have hi40 : (N : Int) ≤ 40 := by omega
          have hj40 : ¬ 40 < (N : Int) := by omega
          have HM := Lib.hid (order_any w1.heap.size N (by omega) _ hT)
          have HMN : Hid (3 ≤ N ∧ N ≤ N ∧ N ≤ 300 ∧ N ≤ 40) := Lib.hid (by have := vs_bits HV.out; have := HP.out; omega)
          go_wp2_with fail
          refine HM.out.mono ?_
          rintro e w9 ⟨vo, rfl, o, ho, hown, -, hs9⟩
          have hown := hown.mono G.out.size
          obtain ⟨g, cap, rfl, hgb⟩ := own_form hown (by omega)
          have HO := Lib.hid ho
          have HSZ := Lib.hid (hown.lt g rfl).2
          obtain ⟨b1, b2⟩ := box_new w9 (.slice p l.length c) (.int .i64 (N : Int))
          have hz9 : w3.heap.size < w9.heap.size := (Array.getElem?_eq_some_iff.1 (kept_row RA.out hs9.1 (by intro e; have := Option.some.inj e; omega))).1
          have T0 : Hid (TurnAt w w2.heap.size w3.heap.size w9.heap.size p c l N g cap N o 0 p c l (w9.alloc (.cells #[.slice p l.length c, .int .i64 (N : Int)] 25))) := Lib.hid
            ⟨kept_row (kept_row RA.out hs9.1 (by intro e; have := Option.some.inj e; omega)) b2 (by simp), b1.out, (OA.out.other hs9.1 hlt).keep b2, hown.kept b2 (.inr (fun e => by have e2 : some g = none := e; cases e2)), turned_zero OA.out.by_ HV.out _ _, grown_trans (grown_new G.out hs9.1 hw1) b2, by simp⟩
          have HLW := Lib.hid (Nat.lt_of_le_of_lt hw1 hlt)
          have HW3 := Lib.hid (Nat.le_of_lt (Nat.lt_of_le_of_lt hw1 hlt3))
          have HB2 : Hid (w2.heap.size ≤ w9.heap.size) := Lib.hid (Nat.le_trans hw23 (Nat.le_of_lt hz9))
          have c0 := (row_cells (kept_row RA.out hs9.1 (by intro e; have := Option.some.inj e; omega))).1
          have c1 := (row_cells (kept_row RA.out hs9.1 (by intro e; have := Option.some.inj e; omega))).2
          have HC := Lib.hid (And.intro hz9 hlt3)
          clear hw23 ho hown hgb HM hs9 hT G OA SA SR RR RA d0 d1 b1 b2 hz9 hlt3 hlt hw1 HU hb hpc
          go_wp2_with fail
          generalize w9.alloc (.cells #[.slice p l.length c, .int .i64 (N : Int)] 25) = w10 at *
          generalize hBB : w9.heap.size = B at *
          clear hBB
          go_loopw [17] (fun i wr => ∃ j : Nat, j ≤ 3 ∧ i = .int .i64 (j : Int) ∧ ∃ p3 c3 l3, TurnAt w w2.heap.size w3.heap.size B p c l N g cap N o j p3 c3 l3 wr) (fun i _ => (3 - (intOf i).toNat))
          case atStart => exact ⟨0, Nat.zero_le _, rfl, p, c, l, T0.out⟩
          case round =>
            obtain ⟨j, hj, rfl, p3, c3, l3, hA⟩ := hrel
            have HA := Lib.hid hA
            clear hA T0 c0 c1
            by_cases hlt : j < 3
            · obtain ⟨c0, c1⟩ := row_cells HA.out.rowb
              have a1 := (row_cells HA.out.rowa).2
              have hjm : j < N := by have := HMN.out; omega
              have hjI : (j : Int) < (N : Int) := by omega
              obtain ⟨r, hr⟩ : ∃ r, r = o.getD j 0 := ⟨_, rfl⟩
              have q1 := HA.out.cell HO.out hjm
              rw [← hr] at q1
              have hrm : r < N := by rw [hr]; exact ord_lt HO.out hjm
              obtain ⟨P, hP⟩ : ∃ P, P = r * N := ⟨_, rfl⟩
              have hPi : (r : Int) * (N : Int) = (P : Int) := by rw [hP, Int.natCast_mul]
              have hPb : P ≤ 12000 := by rw [hP]; exact Nat.le_trans (Nat.mul_le_mul (show r ≤ 40 by have := HMN.out; omega) (show N ≤ 300 from HMN.out.2.2.1)) (by decide)
              obtain ⟨A, hA⟩ : ∃ A, A = P / N := ⟨_, rfl⟩
              have hAi : (P : Int) / ((N : Nat) : Int) = (A : Int) := by rw [hA, Int.natCast_ediv]
              have hAt : Int.tdiv (P : Int) ((N : Nat) : Int) = (A : Int) := by rw [hA]; exact Int.ofNat_tdiv P N
              have HAN : Hid (A = plc o N N j) := Lib.hid (by rw [hA, hP, hr]; rfl)
              have hAN : A < N := by rw [HAN.out]; exact plc_lt HO.out hjm (by have := HMN.out; omega)
              have hrb : r ≤ 40 := by have := HMN.out; omega
              have hAb : A ≤ 12000 := by rw [hA]; exact Nat.le_trans (Nat.div_le_self _ _) hPb
              have HLEN := Lib.hid (vs_bits HA.out.tn.2.2.1)
              have hm0 : ¬ N = 0 := by have := HMN.out; omega
              obtain ⟨l4, hl4⟩ : ∃ l4, l4 = flp l3 A := ⟨_, rfl⟩
              have HF : Hid (∀ w', Hid (wr.grownBy w' none) → Calls Try.prog 34 #[.agg #[.slice p3 l3.length c3, .int .i64 (N : Int)], .int .i64 (A : Int)] w' fun e w'' => StreamPost l4 (N : Int) w' e w'') := Lib.hid (by
                intro w' hw'
                rw [hl4]
                exact flip_at hw' HA.out.own.std N A (by have := HLEN.out; have := HMN.out; omega) (by have := HLEN.out; omega) (by have := HMN.out; omega))
              have HB4 : Hid (Turned l l4 N o N (j + 1)) := Lib.hid (by rw [hl4, HAN.out]; exact turned_next HA.out.tn hlt (by rw [← HAN.out]; exact hAN))
              have HR := Lib.hid hr
              have HW : Hid (w.heap.size ≤ B) := Lib.hid (by have := HW3.out; have := HC.out; omega)
              have HAB : Hid (w3.heap.size < B) := Lib.hid HC.out.1
              have HW1 : Hid (IntKind.i64.wrap (P : Int) = (P : Int)) := Lib.hid (by rw [IntKind.wrap_i64]; omega)
              have HW2 : Hid (IntKind.i64.wrap (A : Int) = (A : Int)) := Lib.hid (by rw [IntKind.wrap_i64]; omega)
              have HAT : Hid (Int.tdiv (P : Int) (N : Int) = (A : Int)) := Lib.hid hAt
              clear hr hP hA hrm hl4
              go_wp2_with fail
              go_region_law (first
                | (go_simp; go_at_call 34; (try simp only [HW1.out, HAT.out, HW2.out]); refine (HF.out _ ?_).mono ?_; (focus (refine Lib.hid ?_; repeat (first | (with_reducible exact grown_refl _ _) | apply grown_drew))); rintro e w11 ⟨p4, c4, rfl, hown4, hap⟩; have GC : Hid (wr.grownBy w11 none) := (by refine Lib.hid (grown_trans ?_ hap); repeat (first | (with_reducible exact grown_refl _ _) | apply grown_drew)); have HX := Lib.hid ((HA.out.keep GC.out).store HAB.out HSZ.out HW.out hown4 HA.out.sz (Nat.le_trans HB2.out (Nat.le_of_lt HA.out.sz)) HB4.out); have f0 := frozen_of_row _ _ 0 _ _ ((HA.out.keep GC.out).rowb); have f1 := frozen_of_row _ _ 1 _ _ ((HA.out.keep GC.out).rowb); obtain ⟨e0, e1⟩ := row_cells ((HA.out.keep GC.out).rowb); clear hown4 hap GC))
              all_goals
                clear f0 f1 e0 e1 c0 c1 a1 q1 HF
                generalize (w11.setCell ⟨B, 0, none⟩ (.slice p4 l4.length c4)).setCell ⟨B, 1, none⟩ (.int .i64 (N : Int)) = w12 at *
                obtain ⟨c0, c1⟩ := row_cells HX.out.rowb
                have hne := turned_ne HX.out.tn HO.out HMN.out.1 HMN.out.2.1 HMN.out.2.2.1 (by omega) (by omega)
                have hn1 : (((chk (bt l4) N : Nat) : Int) == (x : Int)) = false := by rw [HXE.out]; exact nat_ne_beq hne.symm
                have HC4 := Lib.hid (checkp_st HX.out.own.std (N : Int))
                have HV4 := Lib.hid (chkV_ok HX.out.tn.2.2.1)
                clear hne
                generalize hx2 : chk (bt l4) N = x2 at *
                clear hx2
                go_wp2_with fail
                refine HC4.out.mono ?_
                intro e w13 h
                obtain ⟨rfl, h13⟩ := h.op HV4.out
                have HX := Lib.hid (HX.out.keep h13)
                clear h h13 c0 c1
                go_wp2_with fail
                go_roundw
                case rel => exact ⟨j + 1, by omega, by go_num, p4, c4, l4, HX.out⟩
                case measure => simp [intOf]; omega
            · obtain rfl : j = 3 := by omega
              have G := Lib.hid HA.out.gr
              go_wp2_with fail
              refine (awake_any _).mono ?_
              rintro e wz ⟨rfl, hz⟩
              have G := Lib.hid (grown_trans G.out hz)
              clear hz
              go_wp2_with fail
              go_ret
              exact ⟨rfl, G.out⟩
        · have hi40 : ¬ (N : Int) ≤ 40 := by omega
          have hj40 : 40 < (N : Int) := by omega
          have hk40 : ¬ (N : Int) < 40 := by omega
          have HM := Lib.hid (order_any w1.heap.size 40 (by omega) _ hT)
          have HMN : Hid (3 ≤ 40 ∧ 40 ≤ N ∧ N ≤ 300 ∧ 40 ≤ 40) := Lib.hid (by have := vs_bits HV.out; have := HP.out; omega)
          go_wp2_with fail
          refine HM.out.mono ?_
          rintro e w9 ⟨vo, rfl, o, ho, hown, -, hs9⟩
          have hown := hown.mono G.out.size
          obtain ⟨g, cap, rfl, hgb⟩ := own_form hown (by omega)
          have HO := Lib.hid ho
          have HSZ := Lib.hid (hown.lt g rfl).2
          obtain ⟨b1, b2⟩ := box_new w9 (.slice p l.length c) (.int .i64 (N : Int))
          have hz9 : w3.heap.size < w9.heap.size := (Array.getElem?_eq_some_iff.1 (kept_row RA.out hs9.1 (by intro e; have := Option.some.inj e; omega))).1
          have T0 : Hid (TurnAt w w2.heap.size w3.heap.size w9.heap.size p c l N g cap 40 o 0 p c l (w9.alloc (.cells #[.slice p l.length c, .int .i64 (N : Int)] 25))) := Lib.hid
            ⟨kept_row (kept_row RA.out hs9.1 (by intro e; have := Option.some.inj e; omega)) b2 (by simp), b1.out, (OA.out.other hs9.1 hlt).keep b2, hown.kept b2 (.inr (fun e => by have e2 : some g = none := e; cases e2)), turned_zero OA.out.by_ HV.out _ _, grown_trans (grown_new G.out hs9.1 hw1) b2, by simp⟩
          have HLW := Lib.hid (Nat.lt_of_le_of_lt hw1 hlt)
          have HW3 := Lib.hid (Nat.le_of_lt (Nat.lt_of_le_of_lt hw1 hlt3))
          have HB2 : Hid (w2.heap.size ≤ w9.heap.size) := Lib.hid (Nat.le_trans hw23 (Nat.le_of_lt hz9))
          have c0 := (row_cells (kept_row RA.out hs9.1 (by intro e; have := Option.some.inj e; omega))).1
          have c1 := (row_cells (kept_row RA.out hs9.1 (by intro e; have := Option.some.inj e; omega))).2
          have HC := Lib.hid (And.intro hz9 hlt3)
          clear hw23 ho hown hgb HM hs9 hT G OA SA SR RR RA d0 d1 b1 b2 hz9 hlt3 hlt hw1 HU hb hpc
          go_wp2_with fail
          generalize w9.alloc (.cells #[.slice p l.length c, .int .i64 (N : Int)] 25) = w10 at *
          generalize hBB : w9.heap.size = B at *
          clear hBB
          go_loopw [17] (fun i wr => ∃ j : Nat, j ≤ 3 ∧ i = .int .i64 (j : Int) ∧ ∃ p3 c3 l3, TurnAt w w2.heap.size w3.heap.size B p c l N g cap 40 o j p3 c3 l3 wr) (fun i _ => (3 - (intOf i).toNat))
          case atStart => exact ⟨0, Nat.zero_le _, rfl, p, c, l, T0.out⟩
          case round =>
            obtain ⟨j, hj, rfl, p3, c3, l3, hA⟩ := hrel
            have HA := Lib.hid hA
            clear hA T0 c0 c1
            by_cases hlt : j < 3
            · obtain ⟨c0, c1⟩ := row_cells HA.out.rowb
              have a1 := (row_cells HA.out.rowa).2
              have hjm : j < 40 := by have := HMN.out; omega
              have hjI : (j : Int) < (40 : Int) := by omega
              obtain ⟨r, hr⟩ : ∃ r, r = o.getD j 0 := ⟨_, rfl⟩
              have q1 := HA.out.cell HO.out hjm
              rw [← hr] at q1
              have hrm : r < 40 := by rw [hr]; exact ord_lt HO.out hjm
              obtain ⟨P, hP⟩ : ∃ P, P = r * N := ⟨_, rfl⟩
              have hPi : (r : Int) * (N : Int) = (P : Int) := by rw [hP, Int.natCast_mul]
              have hPb : P ≤ 12000 := by rw [hP]; exact Nat.le_trans (Nat.mul_le_mul (show r ≤ 40 by have := HMN.out; omega) (show N ≤ 300 from HMN.out.2.2.1)) (by decide)
              obtain ⟨A, hA⟩ : ∃ A, A = P / 40 := ⟨_, rfl⟩
              have hAi : (P : Int) / ((40 : Nat) : Int) = (A : Int) := by rw [hA, Int.natCast_ediv]
              have hAt : Int.tdiv (P : Int) ((40 : Nat) : Int) = (A : Int) := by rw [hA]; exact Int.ofNat_tdiv P 40
              have HAN : Hid (A = plc o N 40 j) := Lib.hid (by rw [hA, hP, hr]; rfl)
              have hAN : A < N := by rw [HAN.out]; exact plc_lt HO.out hjm (by have := HMN.out; omega)
              have hrb : r ≤ 40 := by have := HMN.out; omega
              have hAb : A ≤ 12000 := by rw [hA]; exact Nat.le_trans (Nat.div_le_self _ _) hPb
              have HLEN := Lib.hid (vs_bits HA.out.tn.2.2.1)
              have hm0 : ¬ 40 = 0 := by have := HMN.out; omega
              obtain ⟨l4, hl4⟩ : ∃ l4, l4 = flp l3 A := ⟨_, rfl⟩
              have HF : Hid (∀ w', Hid (wr.grownBy w' none) → Calls Try.prog 34 #[.agg #[.slice p3 l3.length c3, .int .i64 (N : Int)], .int .i64 (A : Int)] w' fun e w'' => StreamPost l4 (N : Int) w' e w'') := Lib.hid (by
                intro w' hw'
                rw [hl4]
                exact flip_at hw' HA.out.own.std N A (by have := HLEN.out; have := HMN.out; omega) (by have := HLEN.out; omega) (by have := HMN.out; omega))
              have HB4 : Hid (Turned l l4 N o 40 (j + 1)) := Lib.hid (by rw [hl4, HAN.out]; exact turned_next HA.out.tn hlt (by rw [← HAN.out]; exact hAN))
              have HR := Lib.hid hr
              have HW : Hid (w.heap.size ≤ B) := Lib.hid (by have := HW3.out; have := HC.out; omega)
              have HAB : Hid (w3.heap.size < B) := Lib.hid HC.out.1
              have HW1 : Hid (IntKind.i64.wrap (P : Int) = (P : Int)) := Lib.hid (by rw [IntKind.wrap_i64]; omega)
              have HW2 : Hid (IntKind.i64.wrap (A : Int) = (A : Int)) := Lib.hid (by rw [IntKind.wrap_i64]; omega)
              have HAT : Hid (Int.tdiv (P : Int) (40 : Int) = (A : Int)) := Lib.hid hAt
              clear hr hP hA hrm hl4
              go_wp2_with fail
              go_region_law (first
                | (go_simp; go_at_call 34; (try simp only [HW1.out, HAT.out, HW2.out]); refine (HF.out _ ?_).mono ?_; (focus (refine Lib.hid ?_; repeat (first | (with_reducible exact grown_refl _ _) | apply grown_drew))); rintro e w11 ⟨p4, c4, rfl, hown4, hap⟩; have GC : Hid (wr.grownBy w11 none) := (by refine Lib.hid (grown_trans ?_ hap); repeat (first | (with_reducible exact grown_refl _ _) | apply grown_drew)); have HX := Lib.hid ((HA.out.keep GC.out).store HAB.out HSZ.out HW.out hown4 HA.out.sz (Nat.le_trans HB2.out (Nat.le_of_lt HA.out.sz)) HB4.out); have f0 := frozen_of_row _ _ 0 _ _ ((HA.out.keep GC.out).rowb); have f1 := frozen_of_row _ _ 1 _ _ ((HA.out.keep GC.out).rowb); obtain ⟨e0, e1⟩ := row_cells ((HA.out.keep GC.out).rowb); clear hown4 hap GC))
              all_goals
                clear f0 f1 e0 e1 c0 c1 a1 q1 HF
                generalize (w11.setCell ⟨B, 0, none⟩ (.slice p4 l4.length c4)).setCell ⟨B, 1, none⟩ (.int .i64 (N : Int)) = w12 at *
                obtain ⟨c0, c1⟩ := row_cells HX.out.rowb
                have hne := turned_ne HX.out.tn HO.out HMN.out.1 HMN.out.2.1 HMN.out.2.2.1 (by omega) (by omega)
                have hn1 : (((chk (bt l4) N : Nat) : Int) == (x : Int)) = false := by rw [HXE.out]; exact nat_ne_beq hne.symm
                have HC4 := Lib.hid (checkp_st HX.out.own.std (N : Int))
                have HV4 := Lib.hid (chkV_ok HX.out.tn.2.2.1)
                clear hne
                generalize hx2 : chk (bt l4) N = x2 at *
                clear hx2
                go_wp2_with fail
                refine HC4.out.mono ?_
                intro e w13 h
                obtain ⟨rfl, h13⟩ := h.op HV4.out
                have HX := Lib.hid (HX.out.keep h13)
                clear h h13 c0 c1
                go_wp2_with fail
                go_roundw
                case rel => exact ⟨j + 1, by omega, by go_num, p4, c4, l4, HX.out⟩
                case measure => simp [intOf]; omega
            · obtain rfl : j = 3 := by omega
              have G := Lib.hid HA.out.gr
              go_wp2_with fail
              refine (awake_any _).mono ?_
              rintro e wz ⟨rfl, hz⟩
              have G := Lib.hid (grown_trans G.out hz)
              clear hz
              go_wp2_with fail
              go_ret
              exact ⟨rfl, G.out⟩
    · have hy1 : (y == 0) = false := by simpa using hy
      have hy2 : (y != 0) = true := by simpa using hy
      go_wp2_with fail
      refine (awake_any _).mono ?_
      rintro e wz ⟨rfl, hz⟩
      have G := Lib.hid (grown_trans G.out hz)
      clear hz
      go_wp2_with fail
      go_ret
      exact ⟨rfl, G.out⟩
  · have hb2 : ¬ (raw.length : Int) ≤ 1024 := by omega
    by_cases hy : y = 0
    · subst hy
      obtain ⟨N, rfl, hV, hxe⟩ := chkV_zero HX.out
      have HV := Lib.hid hV
      have HXE := Lib.hid hxe
      clear HX hV hxe
      by_cases hN3 : N < 3
      · have hn3 : (N : Int) < 3 := by omega
        go_wp2_with fail
        refine (awake_any _).mono ?_
        rintro e wz ⟨rfl, hz⟩
        have G := Lib.hid (grown_trans G.out hz)
        clear hz
        go_wp2_with fail
        go_ret
        exact ⟨rfl, G.out⟩
      · have hn3 : ¬ (N : Int) < 3 := by omega
        by_cases h40 : N ≤ 40
        · have hi40 : (N : Int) ≤ 40 := by omega
          have hj40 : ¬ 40 < (N : Int) := by omega
          have HM := Lib.hid (order_any w1.heap.size N (by omega) _ hT)
          have HMN : Hid (3 ≤ N ∧ N ≤ N ∧ N ≤ 300 ∧ N ≤ 40) := Lib.hid (by have := vs_bits HV.out; have := HP.out; omega)
          go_wp2_with fail
          refine HM.out.mono ?_
          rintro e w9 ⟨vo, rfl, o, ho, hown, -, hs9⟩
          have hown := hown.mono G.out.size
          obtain ⟨g, cap, rfl, hgb⟩ := own_form hown (by omega)
          have HO := Lib.hid ho
          have HSZ := Lib.hid (hown.lt g rfl).2
          obtain ⟨b1, b2⟩ := box_new w9 (.slice p l.length c) (.int .i64 (N : Int))
          have hz9 : w3.heap.size < w9.heap.size := (Array.getElem?_eq_some_iff.1 (kept_row RA.out hs9.1 (by intro e; have := Option.some.inj e; omega))).1
          have T0 : Hid (TurnAt w w2.heap.size w3.heap.size w9.heap.size p c l N g cap N o 0 p c l (w9.alloc (.cells #[.slice p l.length c, .int .i64 (N : Int)] 25))) := Lib.hid
            ⟨kept_row (kept_row RA.out hs9.1 (by intro e; have := Option.some.inj e; omega)) b2 (by simp), b1.out, (OA.out.other hs9.1 hlt).keep b2, hown.kept b2 (.inr (fun e => by have e2 : some g = none := e; cases e2)), turned_zero OA.out.by_ HV.out _ _, grown_trans (grown_new G.out hs9.1 hw1) b2, by simp⟩
          have HLW := Lib.hid (Nat.lt_of_le_of_lt hw1 hlt)
          have HW3 := Lib.hid (Nat.le_of_lt (Nat.lt_of_le_of_lt hw1 hlt3))
          have HB2 : Hid (w2.heap.size ≤ w9.heap.size) := Lib.hid (Nat.le_trans hw23 (Nat.le_of_lt hz9))
          have c0 := (row_cells (kept_row RA.out hs9.1 (by intro e; have := Option.some.inj e; omega))).1
          have c1 := (row_cells (kept_row RA.out hs9.1 (by intro e; have := Option.some.inj e; omega))).2
          have HC := Lib.hid (And.intro hz9 hlt3)
          clear hw23 ho hown hgb HM hs9 hT G OA SA SR RR RA d0 d1 b1 b2 hz9 hlt3 hlt hw1 HU hb hpc
          go_wp2_with fail
          generalize w9.alloc (.cells #[.slice p l.length c, .int .i64 (N : Int)] 25) = w10 at *
          generalize hBB : w9.heap.size = B at *
          clear hBB
          go_loopw [17] (fun i wr => ∃ j : Nat, j ≤ 3 ∧ i = .int .i64 (j : Int) ∧ ∃ p3 c3 l3, TurnAt w w2.heap.size w3.heap.size B p c l N g cap N o j p3 c3 l3 wr) (fun i _ => (3 - (intOf i).toNat))
          case atStart => exact ⟨0, Nat.zero_le _, rfl, p, c, l, T0.out⟩
          case round =>
            obtain ⟨j, hj, rfl, p3, c3, l3, hA⟩ := hrel
            have HA := Lib.hid hA
            clear hA T0 c0 c1
            by_cases hlt : j < 3
            · obtain ⟨c0, c1⟩ := row_cells HA.out.rowb
              have a1 := (row_cells HA.out.rowa).2
              have hjm : j < N := by have := HMN.out; omega
              have hjI : (j : Int) < (N : Int) := by omega
              obtain ⟨r, hr⟩ : ∃ r, r = o.getD j 0 := ⟨_, rfl⟩
              have q1 := HA.out.cell HO.out hjm
              rw [← hr] at q1
              have hrm : r < N := by rw [hr]; exact ord_lt HO.out hjm
              obtain ⟨P, hP⟩ : ∃ P, P = r * N := ⟨_, rfl⟩
              have hPi : (r : Int) * (N : Int) = (P : Int) := by rw [hP, Int.natCast_mul]
              have hPb : P ≤ 12000 := by rw [hP]; exact Nat.le_trans (Nat.mul_le_mul (show r ≤ 40 by have := HMN.out; omega) (show N ≤ 300 from HMN.out.2.2.1)) (by decide)
              obtain ⟨A, hA⟩ : ∃ A, A = P / N := ⟨_, rfl⟩
              have hAi : (P : Int) / ((N : Nat) : Int) = (A : Int) := by rw [hA, Int.natCast_ediv]
              have hAt : Int.tdiv (P : Int) ((N : Nat) : Int) = (A : Int) := by rw [hA]; exact Int.ofNat_tdiv P N
              have HAN : Hid (A = plc o N N j) := Lib.hid (by rw [hA, hP, hr]; rfl)
              have hAN : A < N := by rw [HAN.out]; exact plc_lt HO.out hjm (by have := HMN.out; omega)
              have hrb : r ≤ 40 := by have := HMN.out; omega
              have hAb : A ≤ 12000 := by rw [hA]; exact Nat.le_trans (Nat.div_le_self _ _) hPb
              have HLEN := Lib.hid (vs_bits HA.out.tn.2.2.1)
              have hm0 : ¬ N = 0 := by have := HMN.out; omega
              obtain ⟨l4, hl4⟩ : ∃ l4, l4 = flp l3 A := ⟨_, rfl⟩
              have HF : Hid (∀ w', Hid (wr.grownBy w' none) → Calls Try.prog 34 #[.agg #[.slice p3 l3.length c3, .int .i64 (N : Int)], .int .i64 (A : Int)] w' fun e w'' => StreamPost l4 (N : Int) w' e w'') := Lib.hid (by
                intro w' hw'
                rw [hl4]
                exact flip_at hw' HA.out.own.std N A (by have := HLEN.out; have := HMN.out; omega) (by have := HLEN.out; omega) (by have := HMN.out; omega))
              have HB4 : Hid (Turned l l4 N o N (j + 1)) := Lib.hid (by rw [hl4, HAN.out]; exact turned_next HA.out.tn hlt (by rw [← HAN.out]; exact hAN))
              have HR := Lib.hid hr
              have HW : Hid (w.heap.size ≤ B) := Lib.hid (by have := HW3.out; have := HC.out; omega)
              have HAB : Hid (w3.heap.size < B) := Lib.hid HC.out.1
              have HW1 : Hid (IntKind.i64.wrap (P : Int) = (P : Int)) := Lib.hid (by rw [IntKind.wrap_i64]; omega)
              have HW2 : Hid (IntKind.i64.wrap (A : Int) = (A : Int)) := Lib.hid (by rw [IntKind.wrap_i64]; omega)
              have HAT : Hid (Int.tdiv (P : Int) (N : Int) = (A : Int)) := Lib.hid hAt
              clear hr hP hA hrm hl4
              go_wp2_with fail
              go_region_law (first
                | (go_simp; go_at_call 34; (try simp only [HW1.out, HAT.out, HW2.out]); refine (HF.out _ ?_).mono ?_; (focus (refine Lib.hid ?_; repeat (first | (with_reducible exact grown_refl _ _) | apply grown_drew))); rintro e w11 ⟨p4, c4, rfl, hown4, hap⟩; have GC : Hid (wr.grownBy w11 none) := (by refine Lib.hid (grown_trans ?_ hap); repeat (first | (with_reducible exact grown_refl _ _) | apply grown_drew)); have HX := Lib.hid ((HA.out.keep GC.out).store HAB.out HSZ.out HW.out hown4 HA.out.sz (Nat.le_trans HB2.out (Nat.le_of_lt HA.out.sz)) HB4.out); have f0 := frozen_of_row _ _ 0 _ _ ((HA.out.keep GC.out).rowb); have f1 := frozen_of_row _ _ 1 _ _ ((HA.out.keep GC.out).rowb); obtain ⟨e0, e1⟩ := row_cells ((HA.out.keep GC.out).rowb); clear hown4 hap GC))
              all_goals
                clear f0 f1 e0 e1 c0 c1 a1 q1 HF
                generalize (w11.setCell ⟨B, 0, none⟩ (.slice p4 l4.length c4)).setCell ⟨B, 1, none⟩ (.int .i64 (N : Int)) = w12 at *
                obtain ⟨c0, c1⟩ := row_cells HX.out.rowb
                have hne := turned_ne HX.out.tn HO.out HMN.out.1 HMN.out.2.1 HMN.out.2.2.1 (by omega) (by omega)
                have hn1 : (((chk (bt l4) N : Nat) : Int) == (x : Int)) = false := by rw [HXE.out]; exact nat_ne_beq hne.symm
                have HC4 := Lib.hid (checkp_st HX.out.own.std (N : Int))
                have HV4 := Lib.hid (chkV_ok HX.out.tn.2.2.1)
                clear hne
                generalize hx2 : chk (bt l4) N = x2 at *
                clear hx2
                go_wp2_with fail
                refine HC4.out.mono ?_
                intro e w13 h
                obtain ⟨rfl, h13⟩ := h.op HV4.out
                have HX := Lib.hid (HX.out.keep h13)
                clear h h13 c0 c1
                go_wp2_with fail
                go_roundw
                case rel => exact ⟨j + 1, by omega, by go_num, p4, c4, l4, HX.out⟩
                case measure => simp [intOf]; omega
            · obtain rfl : j = 3 := by omega
              have G := Lib.hid HA.out.gr
              go_wp2_with fail
              refine (awake_any _).mono ?_
              rintro e wz ⟨rfl, hz⟩
              have G := Lib.hid (grown_trans G.out hz)
              clear hz
              go_wp2_with fail
              go_ret
              exact ⟨rfl, G.out⟩
        · have hi40 : ¬ (N : Int) ≤ 40 := by omega
          have hj40 : 40 < (N : Int) := by omega
          have hk40 : ¬ (N : Int) < 40 := by omega
          have HM := Lib.hid (order_any w1.heap.size 40 (by omega) _ hT)
          have HMN : Hid (3 ≤ 40 ∧ 40 ≤ N ∧ N ≤ 300 ∧ 40 ≤ 40) := Lib.hid (by have := vs_bits HV.out; have := HP.out; omega)
          go_wp2_with fail
          refine HM.out.mono ?_
          rintro e w9 ⟨vo, rfl, o, ho, hown, -, hs9⟩
          have hown := hown.mono G.out.size
          obtain ⟨g, cap, rfl, hgb⟩ := own_form hown (by omega)
          have HO := Lib.hid ho
          have HSZ := Lib.hid (hown.lt g rfl).2
          obtain ⟨b1, b2⟩ := box_new w9 (.slice p l.length c) (.int .i64 (N : Int))
          have hz9 : w3.heap.size < w9.heap.size := (Array.getElem?_eq_some_iff.1 (kept_row RA.out hs9.1 (by intro e; have := Option.some.inj e; omega))).1
          have T0 : Hid (TurnAt w w2.heap.size w3.heap.size w9.heap.size p c l N g cap 40 o 0 p c l (w9.alloc (.cells #[.slice p l.length c, .int .i64 (N : Int)] 25))) := Lib.hid
            ⟨kept_row (kept_row RA.out hs9.1 (by intro e; have := Option.some.inj e; omega)) b2 (by simp), b1.out, (OA.out.other hs9.1 hlt).keep b2, hown.kept b2 (.inr (fun e => by have e2 : some g = none := e; cases e2)), turned_zero OA.out.by_ HV.out _ _, grown_trans (grown_new G.out hs9.1 hw1) b2, by simp⟩
          have HLW := Lib.hid (Nat.lt_of_le_of_lt hw1 hlt)
          have HW3 := Lib.hid (Nat.le_of_lt (Nat.lt_of_le_of_lt hw1 hlt3))
          have HB2 : Hid (w2.heap.size ≤ w9.heap.size) := Lib.hid (Nat.le_trans hw23 (Nat.le_of_lt hz9))
          have c0 := (row_cells (kept_row RA.out hs9.1 (by intro e; have := Option.some.inj e; omega))).1
          have c1 := (row_cells (kept_row RA.out hs9.1 (by intro e; have := Option.some.inj e; omega))).2
          have HC := Lib.hid (And.intro hz9 hlt3)
          clear hw23 ho hown hgb HM hs9 hT G OA SA SR RR RA d0 d1 b1 b2 hz9 hlt3 hlt hw1 HU hb hpc
          go_wp2_with fail
          generalize w9.alloc (.cells #[.slice p l.length c, .int .i64 (N : Int)] 25) = w10 at *
          generalize hBB : w9.heap.size = B at *
          clear hBB
          go_loopw [17] (fun i wr => ∃ j : Nat, j ≤ 3 ∧ i = .int .i64 (j : Int) ∧ ∃ p3 c3 l3, TurnAt w w2.heap.size w3.heap.size B p c l N g cap 40 o j p3 c3 l3 wr) (fun i _ => (3 - (intOf i).toNat))
          case atStart => exact ⟨0, Nat.zero_le _, rfl, p, c, l, T0.out⟩
          case round =>
            obtain ⟨j, hj, rfl, p3, c3, l3, hA⟩ := hrel
            have HA := Lib.hid hA
            clear hA T0 c0 c1
            by_cases hlt : j < 3
            · obtain ⟨c0, c1⟩ := row_cells HA.out.rowb
              have a1 := (row_cells HA.out.rowa).2
              have hjm : j < 40 := by have := HMN.out; omega
              have hjI : (j : Int) < (40 : Int) := by omega
              obtain ⟨r, hr⟩ : ∃ r, r = o.getD j 0 := ⟨_, rfl⟩
              have q1 := HA.out.cell HO.out hjm
              rw [← hr] at q1
              have hrm : r < 40 := by rw [hr]; exact ord_lt HO.out hjm
              obtain ⟨P, hP⟩ : ∃ P, P = r * N := ⟨_, rfl⟩
              have hPi : (r : Int) * (N : Int) = (P : Int) := by rw [hP, Int.natCast_mul]
              have hPb : P ≤ 12000 := by rw [hP]; exact Nat.le_trans (Nat.mul_le_mul (show r ≤ 40 by have := HMN.out; omega) (show N ≤ 300 from HMN.out.2.2.1)) (by decide)
              obtain ⟨A, hA⟩ : ∃ A, A = P / 40 := ⟨_, rfl⟩
              have hAi : (P : Int) / ((40 : Nat) : Int) = (A : Int) := by rw [hA, Int.natCast_ediv]
              have hAt : Int.tdiv (P : Int) ((40 : Nat) : Int) = (A : Int) := by rw [hA]; exact Int.ofNat_tdiv P 40
              have HAN : Hid (A = plc o N 40 j) := Lib.hid (by rw [hA, hP, hr]; rfl)
              have hAN : A < N := by rw [HAN.out]; exact plc_lt HO.out hjm (by have := HMN.out; omega)
              have hrb : r ≤ 40 := by have := HMN.out; omega
              have hAb : A ≤ 12000 := by rw [hA]; exact Nat.le_trans (Nat.div_le_self _ _) hPb
              have HLEN := Lib.hid (vs_bits HA.out.tn.2.2.1)
              have hm0 : ¬ 40 = 0 := by have := HMN.out; omega
              obtain ⟨l4, hl4⟩ : ∃ l4, l4 = flp l3 A := ⟨_, rfl⟩
              have HF : Hid (∀ w', Hid (wr.grownBy w' none) → Calls Try.prog 34 #[.agg #[.slice p3 l3.length c3, .int .i64 (N : Int)], .int .i64 (A : Int)] w' fun e w'' => StreamPost l4 (N : Int) w' e w'') := Lib.hid (by
                intro w' hw'
                rw [hl4]
                exact flip_at hw' HA.out.own.std N A (by have := HLEN.out; have := HMN.out; omega) (by have := HLEN.out; omega) (by have := HMN.out; omega))
              have HB4 : Hid (Turned l l4 N o 40 (j + 1)) := Lib.hid (by rw [hl4, HAN.out]; exact turned_next HA.out.tn hlt (by rw [← HAN.out]; exact hAN))
              have HR := Lib.hid hr
              have HW : Hid (w.heap.size ≤ B) := Lib.hid (by have := HW3.out; have := HC.out; omega)
              have HAB : Hid (w3.heap.size < B) := Lib.hid HC.out.1
              have HW1 : Hid (IntKind.i64.wrap (P : Int) = (P : Int)) := Lib.hid (by rw [IntKind.wrap_i64]; omega)
              have HW2 : Hid (IntKind.i64.wrap (A : Int) = (A : Int)) := Lib.hid (by rw [IntKind.wrap_i64]; omega)
              have HAT : Hid (Int.tdiv (P : Int) (40 : Int) = (A : Int)) := Lib.hid hAt
              clear hr hP hA hrm hl4
              go_wp2_with fail
              go_region_law (first
                | (go_simp; go_at_call 34; (try simp only [HW1.out, HAT.out, HW2.out]); refine (HF.out _ ?_).mono ?_; (focus (refine Lib.hid ?_; repeat (first | (with_reducible exact grown_refl _ _) | apply grown_drew))); rintro e w11 ⟨p4, c4, rfl, hown4, hap⟩; have GC : Hid (wr.grownBy w11 none) := (by refine Lib.hid (grown_trans ?_ hap); repeat (first | (with_reducible exact grown_refl _ _) | apply grown_drew)); have HX := Lib.hid ((HA.out.keep GC.out).store HAB.out HSZ.out HW.out hown4 HA.out.sz (Nat.le_trans HB2.out (Nat.le_of_lt HA.out.sz)) HB4.out); have f0 := frozen_of_row _ _ 0 _ _ ((HA.out.keep GC.out).rowb); have f1 := frozen_of_row _ _ 1 _ _ ((HA.out.keep GC.out).rowb); obtain ⟨e0, e1⟩ := row_cells ((HA.out.keep GC.out).rowb); clear hown4 hap GC))
              all_goals
                clear f0 f1 e0 e1 c0 c1 a1 q1 HF
                generalize (w11.setCell ⟨B, 0, none⟩ (.slice p4 l4.length c4)).setCell ⟨B, 1, none⟩ (.int .i64 (N : Int)) = w12 at *
                obtain ⟨c0, c1⟩ := row_cells HX.out.rowb
                have hne := turned_ne HX.out.tn HO.out HMN.out.1 HMN.out.2.1 HMN.out.2.2.1 (by omega) (by omega)
                have hn1 : (((chk (bt l4) N : Nat) : Int) == (x : Int)) = false := by rw [HXE.out]; exact nat_ne_beq hne.symm
                have HC4 := Lib.hid (checkp_st HX.out.own.std (N : Int))
                have HV4 := Lib.hid (chkV_ok HX.out.tn.2.2.1)
                clear hne
                generalize hx2 : chk (bt l4) N = x2 at *
                clear hx2
                go_wp2_with fail
                refine HC4.out.mono ?_
                intro e w13 h
                obtain ⟨rfl, h13⟩ := h.op HV4.out
                have HX := Lib.hid (HX.out.keep h13)
                clear h h13 c0 c1
                go_wp2_with fail
                go_roundw
                case rel => exact ⟨j + 1, by omega, by go_num, p4, c4, l4, HX.out⟩
                case measure => simp [intOf]; omega
            · obtain rfl : j = 3 := by omega
              have G := Lib.hid HA.out.gr
              go_wp2_with fail
              refine (awake_any _).mono ?_
              rintro e wz ⟨rfl, hz⟩
              have G := Lib.hid (grown_trans G.out hz)
              clear hz
              go_wp2_with fail
              go_ret
              exact ⟨rfl, G.out⟩
    · have hy1 : (y == 0) = false := by simpa using hy
      have hy2 : (y != 0) = true := by simpa using hy
      go_wp2_with fail
      refine (awake_any _).mono ?_
      rintro e wz ⟨rfl, hz⟩
      have G := Lib.hid (grown_trans G.out hz)
      clear hz
      go_wp2_with fail
      go_ret
      exact ⟨rfl, G.out⟩
end Go.Proofs.Ythnjiknmlakkkaa

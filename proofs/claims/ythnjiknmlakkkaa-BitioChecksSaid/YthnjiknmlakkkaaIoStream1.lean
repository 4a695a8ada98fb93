/- The tape's streams of bits with a mistake. -/
import Derived.Test.YthnjiknmlakkkaaIoStream
namespace Go.Proofs.Ythnjiknmlakkkaa
open Go.RowKit Bs
section
variable {W w' w5 w6 : World} {a : Nat} {p : Option Addr} {c : Nat} {l : List Nat} {n : Int}
theorem StAt.bits (h : Hid (StAt W a p c l n w')) (ha : a < W.heap.size) (n' : Int) : Hid (StAt W a p c l n' (w'.setCell ⟨W.heap.size + 1, 1, none⟩ (.int .i64 n'))) := by
  have g := grown_setCell w' ⟨W.heap.size + 1, 1, none⟩ (.int .i64 n')
  exact Lib.hid ⟨heap_setCell_same _ _ 1 _ _ _ h.out.row, kept_row h.out.res g (by intro e; have := Option.some.inj e; simp at this), h.out.own.other g (by simp), ⟨grown_newa h.out.st.1 g (by simp), tp_new h.out.st.2 g (by simp; omega)⟩, Nat.le_trans h.out.sz g.size⟩
theorem stAt_data {p' : Option Addr} {c' : Nat} {l' : List Nat} {x : Value} (row : w'.heap[W.heap.size + 1]? = some (.cells #[x, .int .i64 n] 25 (0, 0))) (res : w'.heap[W.heap.size]? = some (.cells #[.slice none 0 0, .int .i64 0] 25 (0, 0)))
    (own : Own w' (W.heap.size + 2) p' c' l') (st : St a W w') (sz : W.heap.size + 2 ≤ w'.heap.size) (ha : a < W.heap.size) : Hid (StAt W a p' c' l' n (w'.setCell ⟨W.heap.size + 1, 0, none⟩ (.slice p' l'.length c'))) := by
  have g := grown_setCell w' ⟨W.heap.size + 1, 0, none⟩ (.slice p' l'.length c')
  exact Lib.hid ⟨heap_setCell_same _ _ 0 _ _ _ row, kept_row res g (by intro e; have := Option.some.inj e; simp at this), own.other g (by simp), ⟨grown_newa st.1 g (by simp), tp_new st.2 g (by simp; omega)⟩, Nat.le_trans sz g.size⟩
theorem StAt.appended {o : Obj} {g cap b : Nat} (h : Hid (StAt W a p c l n w5)) (ha : a < W.heap.size) (hb : b < 256) (hown : w6.ownsRow (W.heap.size + 2) 5 1 (.slice (some ⟨g, 0, none⟩) (l.length + 1) cap) (l.length + 1) (l.map nv ++ [nv b]))
    (hgrow : (w5.alloc o).grownBy w6 (Value.slice p l.length c).ownBlock) :
    w6.heap[W.heap.size + 1]? = some (.cells #[.slice p l.length c, .int .i64 n] 25 (0, 0)) ∧ w6.heap[W.heap.size]? = some (.cells #[.slice none 0 0, .int .i64 0] 25 (0, 0)) ∧
      Own w6 (W.heap.size + 2) (some ⟨g, 0, none⟩) cap (l ++ [b]) ∧ St a W w6 ∧ W.heap.size + 2 ≤ w6.heap.size := by
  have k := grown_trans (World.grownBy_alloc w5 o _) hgrow
  have hst : St a W w6 := st_append h.out.st ha (h.out.own.own.mono (by omega)) hgrow
  refine ⟨kept_row h.out.row k (own_ne h.out.own.own (by omega)), kept_row h.out.res k (own_ne h.out.own.own (by omega)), ⟨?_, (by intro e; cases e), ?_⟩, hst, Nat.le_trans h.out.sz k.size⟩
  · rw [List.map_append, List.length_append]; exact hown
  · intro x hx
    rcases List.mem_append.1 hx with hx | hx
    · exact h.out.own.by_ x hx
    · obtain rfl : x = b := by simpa using hx
      exact hb
theorem StAt.byte {g j y : Nat} (h : Hid (StAt W a (some ⟨g, 0, none⟩) c l n w')) (ha : a < W.heap.size) (hg : W.heap.size + 2 ≤ g) (hy : y < 256) : Hid (StAt W a (some ⟨g, 0, none⟩) c (l.set j y) n (w'.setCell ⟨g, j, none⟩ (.int .u8 (y : Int)))) := by
  obtain ⟨k1, k2⟩ := h.out.own.own.stored j (nv y)
  have k2' : w'.grownBy (w'.setCell ⟨g, j, none⟩ (.int .u8 (y : Int))) (some g) := k2
  have hl : (l.set j y).length = l.length := List.length_set
  refine Lib.hid ⟨?_, kept_row h.out.res k2' (by intro e; have := Option.some.inj e; omega), ⟨?_, (by intro e; cases e), ?_⟩, ⟨grown_newa h.out.st.1 k2' (by omega), tp_new h.out.st.2 k2' (by omega)⟩, Nat.le_trans h.out.sz k2'.size⟩
  · rw [hl]; exact kept_row h.out.row k2' (by intro e; have := Option.some.inj e; omega)
  · rw [hl, List.map_set]; exact k1
  · intro x hx
    rcases List.mem_or_eq_of_mem_set hx with hx | rfl
    · exact h.out.own.by_ x hx
    · exact hy
end
set_option maxHeartbeats 1600000 in
theorem stream1_any (a most : Nat) (n0 : Int) (hm : most ≤ 1000) (hn : I64 n0) (hn0 : 0 < n0) (w : World) (hT : Tp w a) :
    Calls Try.prog 12 #[.pointer (some ⟨a, 0, none⟩), .int .i64 (most : Int), .int .i64 n0] w fun e w' => DrawnPost (fun l n => l.length ≤ most / 8 + 2 ∧ I64 n) a w e w' := by
  have ha := hT.lt
  obtain ⟨k1, k2, k3, k4⟩ := two_boxes w #[.slice none 0 0, .int .i64 0] #[.slice none 0 0, .int .i64 0] 25 25
  have S0 : StAt w a none 0 [] 0 ((w.alloc (.cells #[.slice none 0 0, .int .i64 0] 25)).alloc (.cells #[.slice none 0 0, .int .i64 0] 25)) :=
    ⟨k2, k1, ⟨World.ownsRow_nil _ _ _ _, fun _ => rfl, fun x hx => by cases hx⟩, ⟨grown_none k3 _, hT.keep k3⟩, by rw [k4]; exact Nat.le_refl _⟩
  have H0 := Lib.hid S0
  clear k1 k2 k3 k4 S0
  go_enter Try.func12, Try.ntmps12
  go_wp2_with fail
  generalize (w.alloc (.cells #[.slice none 0 0, .int .i64 0] 25)).alloc (.cells #[.slice none 0 0, .int .i64 0] 25) = w1 at *
  refine (range_any a 0 (most : Int) (by omega) (by omega) (by omega) (by omega) _ H0.out.st.2).mono ?_
  rintro e w2 ⟨r, rfl, hr, hs1⟩
  obtain ⟨K, rfl⟩ := Int.eq_ofNat_of_zero_le hr.1
  have hK : K ≤ most := by unfold RangeOf at hr; omega
  have M0 : Hid (MadeRel w a 0 w2) := Lib.hid ⟨fun _ => false, none, 0, H0.out.turn ha hs1⟩
  clear hr hs1
  go_wp2_with fail
  go_loopw [8] (fun i wr => ∃ j k : Nat, j + k ≤ most ∧ i = .int .i64 (k : Int) ∧ MadeRel w a j wr) (fun i _ => (intOf i).toNat)
  case atStart => exact ⟨0, K, by omega, rfl, M0.out⟩
  case round =>
    obtain ⟨j, k, hjk, rfl, hM⟩ := hrel
    obtain ⟨f, p, c, l, HL, hS⟩ := hM.open_
    have HM := Lib.hid hM
    have HS := Lib.hid hS
    obtain ⟨c0, c1, f0, f1, _⟩ := hS.limbs
    obtain ⟨r0, r1⟩ := row_cells hS.res
    have g0 := frozen_of_row _ _ 0 _ _ hS.res
    have g1 := frozen_of_row _ _ 1 _ _ hS.res
    clear hM hS H0 M0
    have I2 : I64 2 := by unfold I64; omega
    have HJ : j ≤ 9000 := by omega
    by_cases hk : 1 ≤ k
    · go_wp2_with fail
      have HSd := Lib.hid HS.out.drew
      go_region_law (first
        | (go_simp; go_at_call 16; refine (next_any a 2 I2 _ (StAt.tp HSd)).mono ?_; rintro e w3 ⟨r, rfl, hr, hsk⟩; obtain ⟨b, rfl⟩ := Int.eq_ofNat_of_zero_le hr.1; have hb : b ≤ 1 := (by have := hr.2.1 (by omega); omega); obtain ⟨c3, c4, f3, f4, HS3⟩ := StAt.limbs_turn HSd ha hsk; have hbw := wrapU b (u64_mk (by omega)))
        | (go_simp; go_at_call 35; refine (put_bit f j b l (w.heap.size + 2 ≤ ·) p c HJ hb HL.out HS.out.own.pc _ (StAt.rd HS3)).mono ?_; rintro e w4 ⟨f', p', c', rfl, hown', hap⟩; obtain ⟨c5, c6, f5, f6, HS4⟩ := StAt.limbs_keep HS3 hap))
      all_goals
        have hn8 : j / 8 + 1 = (j + 8) / 8 := by omega
        rw [← hn8] at hown'
        have R := made_next (j := j) (N := j / 8 + 1) HS4 ha hn8 hown' HS3.out.sz
        clear hn8
        clear hown' hap HS4 HS3 hsk
        go_wp2_with fail
        go_roundw
        case rel => exact ⟨j + 1, k - 1, by omega, by congr 1; omega, R.out⟩
        case measure => simp [intOf]; omega
    · obtain rfl : k = 0 := by omega
      have hll : l.length ≤ most / 8 + 1 := by rw [HL.out, pz_len]; omega
      have hj9 : j ≤ 1000 := by omega
      clear hjk HM c0 c1 f0 f1 r0 r1 g0 g1 HJ
      go_wp2_with fail
      refine (one_any a n0 hn _ (StAt.tp HS)).mono ?_
      rintro e w3 ⟨b, rfl, hs3⟩
      have HS3 := Lib.hid (HS.out.turn ha hs3)
      clear HS hs3
      cases b
      · obtain ⟨r0, r1⟩ := row_cells HS3.out.res
        obtain ⟨c0, c1, f0, f1, _⟩ := HS3.out.limbs
        have g0 := frozen_of_row _ _ 0 _ _ HS3.out.res
        have g1 := frozen_of_row _ _ 1 _ _ HS3.out.res
        obtain ⟨b1, b2, b3⟩ := stAt_fin HS3 ha
        have HB := Lib.hid (And.intro b1 (And.intro b2 b3))
        clear b1 b2 b3
        go_wp2_with fail
        refine bodyPost_ret (res_stream rfl _ _ w.heap.size _ _ rfl HB.out.1) rfl ?_
        exact ⟨l, (j : Int), ⟨p, c, rfl, HB.out.2.1⟩, ⟨by omega, by unfold I64; omega⟩, HB.out.2.2⟩
      · go_wp2_with fail
        refine (next_any a 4 (by unfold I64; omega) _ (StAt.tp HS3)).mono ?_
        rintro e w4 ⟨r, rfl, hr, hs4⟩
        have HS4 := Lib.hid (HS3.out.turn ha hs4)
        have hr0 : 0 ≤ r := hr.1
        have hr4 : r < 4 := hr.2.1 (by omega)
        clear HS3 hs4 hr
        obtain ⟨r0, r1⟩ := row_cells HS4.out.res
        obtain ⟨c0, c1, f0, f1, _⟩ := HS4.out.limbs
        have g0 := frozen_of_row _ _ 0 _ _ HS4.out.res
        have g1 := frozen_of_row _ _ 1 _ _ HS4.out.res
        by_cases e0 : r = 0
        · subst e0
          go_wp2_with fail
          have HSd := Lib.hid HS4.out.drew
          clear r0 r1 g0 g1
          go_region_law (first
            | (go_simp; go_at_call 21; refine (range_any a (-2) 9 (by omega) (by omega) (by omega) (by omega) _ (StAt.tp HSd)).mono ?_; rintro e w5 ⟨x, rfl, hx, hsk⟩; obtain ⟨c3, c4, f3, f4, HS5⟩ := StAt.limbs_turn HSd ha hsk; have hx1 : -2 ≤ x := hx.1; have hx2 : x ≤ 9 := hx.2.1 (by omega)))
          all_goals
            have hwr : IntKind.i64.wrap ((j : Int) + x) = (j : Int) + x := by rw [IntKind.wrap_i64]; omega
            rw [hwr]
            have HF := StAt.bits HS5 ha ((j : Int) + x)
            obtain ⟨r0, r1⟩ := row_cells HF.out.res
            obtain ⟨c5, c6, f5, f6, _⟩ := HF.out.limbs
            have g0 := frozen_of_row _ _ 0 _ _ HF.out.res
            have g1 := frozen_of_row _ _ 1 _ _ HF.out.res
            obtain ⟨b1, b2, b3⟩ := stAt_fin HF ha
            have HB := Lib.hid (And.intro b1 (And.intro b2 b3))
            clear b1 b2 b3
            generalize w5.setCell ⟨w.heap.size + 1, 1, none⟩ (.int .i64 ((j : Int) + x)) = wf at *
            go_wp2_with fail
            refine bodyPost_ret (res_stream rfl _ _ w.heap.size _ _ rfl HB.out.1) rfl ?_
            exact ⟨_, _, ⟨_, _, rfl, HB.out.2.1⟩, ⟨by omega, by unfold I64; omega⟩, HB.out.2.2⟩
        · by_cases e1 : r = 1
          · subst e1
            go_wp2_with fail
            have HSd := Lib.hid HS4.out.drew
            obtain ⟨i0, hi, hz0, hz1, hz2⟩ := info_parts info_u8
            have hown0 := HS4.out.own.own
            have hsz0 := HS4.out.sz
            go_region_law (first
              | (go_simp; go_at_call 16; refine (next_any a 2 I2 _ (StAt.tp HSd)).mono ?_; rintro e w5 ⟨x, rfl, hx, hsk⟩; obtain ⟨b, rfl⟩ := Int.eq_ofNat_of_zero_le hx.1; have hb : b ≤ 1 := (by have := hx.2.1 (by omega); omega); obtain ⟨c3, c4, f3, f4, HS5⟩ := StAt.limbs_turn HSd ha hsk; have hbw : IntKind.u8.wrap (b : Int) = (b : Int) := (by rw [IntKind.wrap_u8']; omega); have hbv : (b : Int) % 256 = (b : Int) := (by omega); have hl5 := HS5.out.sz; have c9 := (World.grownBy_alloc w5 (.cells #[.int .u8 (b : Int)] 5) none).cell c3 (by simp); have n1 : ¬ w.heap.size + 1 = w5.heap.size := (by omega); have n2 : w.heap.size + 1 ≠ w5.heap.size := (by omega); have n3 : w.heap.size + 1 < w5.heap.size := (by omega))
              | (refine step_append_lies _ rfl _ _ 23 rfl (w.heap.size + 2) 5 i0 (.int .u8 0) 1 1 Try.underlying23 hi hz0 hz1 hz2 rfl (by decide) _ l.length (l.map nv) (by rfl) (HS5.out.own.own.alloc _) ⟨w5.heap.size, 0, none⟩ 1 1 [.int .u8 (b : Int)] (by rfl) (by rfl) (cell_one _ _ _) (by intro u hu; simp at hu; subst hu; rfl) (by omega) (by unfold maxLen; omega) (by omega) (by have := HS5.out.sz; simp; omega) _ rfl ?_; intro g cap w6 hown hgrow hat hlt; obtain ⟨a1, a2, a3, a4, a5⟩ := HS5.out |> fun h => StAt.appended (b := b) (Lib.hid h) ha (by omega) hown hgrow; obtain ⟨c7, c8⟩ := row_cells a1; have f7 := frozen_of_row _ _ 0 _ _ a1; have f8 := frozen_of_row _ _ 1 _ _ a1))
            all_goals
              have HF := stAt_data a1 a2 a3 a4 a5 ha
              have hlen : (l ++ [b]).length = l.length + 1 := by simp
              obtain ⟨b1, b2, b3⟩ := stAt_fin HF ha
              rw [hlen] at b1 b2 b3
              have HB := Lib.hid (And.intro b1 (And.intro b2 b3))
              obtain ⟨r0, r1⟩ := row_cells a2
              have g0 := frozen_of_row _ _ 0 _ _ a2
              have g1 := frozen_of_row _ _ 1 _ _ a2
              clear b1 b2 b3 a1 a2 a3 a4 a5 hown hgrow hat hlt HF
              go_wp2_with fail
              refine bodyPost_ret (res_stream rfl _ _ w.heap.size _ _ rfl HB.out.1) rfl ?_
              exact ⟨_, _, ⟨_, cap, by rw [hlen], HB.out.2.1⟩, ⟨by rw [hlen]; omega, by unfold I64; omega⟩, HB.out.2.2⟩
          · by_cases e2 : r = 2
            · subst e2
              go_wp2_with fail
              refine (wild_any a _ (StAt.tp HS4)).mono ?_
              rintro e w5 ⟨x, rfl, hx, hsk⟩
              obtain ⟨c3, c4, f3, f4, HS5⟩ := StAt.limbs_turn HS4 ha hsk
              have HF := StAt.bits HS5 ha x
              clear r0 r1 g0 g1
              obtain ⟨r0, r1⟩ := row_cells HF.out.res
              obtain ⟨c5, c6, f5, f6, _⟩ := HF.out.limbs
              have g0 := frozen_of_row _ _ 0 _ _ HF.out.res
              have g1 := frozen_of_row _ _ 1 _ _ HF.out.res
              obtain ⟨b1, b2, b3⟩ := stAt_fin HF ha
              have HB := Lib.hid (And.intro b1 (And.intro b2 b3))
              clear b1 b2 b3
              go_wp2_with fail
              refine bodyPost_ret (res_stream rfl _ _ w.heap.size _ _ rfl HB.out.1) rfl ?_
              exact ⟨_, _, ⟨_, _, rfl, HB.out.2.1⟩, ⟨by omega, hx⟩, HB.out.2.2⟩
            · obtain rfl : r = 3 := by omega
              by_cases hl0 : 0 < l.length
              · obtain ⟨g, cap, hv, hgb⟩ := own_form HS4.out.own.own hl0
                injection hv with hv1 hv2 hv3
                subst hv1
                subst hv3
                obtain ⟨K2, hK2⟩ : ∃ K2 : Nat, K2 = l.length - 1 := ⟨_, rfl⟩
                have hK3 : (l.length : Int) - 1 = (K2 : Int) := by omega
                have hK4 : K2 < l.length := by omega
                have hK5 : K2 ≤ 1000 := by omega
                have hcell : w4.cell? ⟨g, K2, none⟩ = some (.int .u8 ((l.getD K2 0 : Nat) : Int)) := by
                  rw [HS4.out.own.own.cellAt K2 (by omega)]; exact nv_at hK4
                have hfz := HS4.out.own.own.frozenAt K2
                have hx := HS4.out.own.by_.at_ hK4
                generalize l.getD K2 0 = x at *
                have O : Hid (bits .or .u8 (x : Int) 1 = ((x ||| 1 : Nat) : Int)) := Lib.hid (u8_or_nat x 1 hx (by omega))
                have hy : x ||| 1 < 256 := Nat.or_lt_two_pow (n := 8) hx (by decide)
                have HF := StAt.byte (j := K2) HS4 ha hgb hy
                have hlen : (l.set K2 (x ||| 1)).length = l.length := List.length_set
                generalize x ||| 1 = y at *
                have q1 : ¬ g = w.heap.size := by omega
                have q2 : ¬ g = w.heap.size + 1 := by omega
                have q3 : ¬ w.heap.size = g := by omega
                have q4 : ¬ w.heap.size + 1 = g := by omega
                obtain ⟨b1, b2, b3⟩ := stAt_fin HF ha
                rw [hlen] at b1 b2 b3
                have HB := Lib.hid (And.intro b1 (And.intro b2 b3))
                clear b1 b2 b3 hK2
                go_wp2_with fail
                rw [O.out]
                refine bodyPost_ret (res_stream rfl _ _ w.heap.size _ _ rfl HB.out.1) rfl ?_
                exact ⟨_, _, ⟨_, _, by rw [hlen], HB.out.2.1⟩, ⟨by rw [hlen]; omega, by unfold I64; omega⟩, HB.out.2.2⟩
              · obtain ⟨b1, b2, b3⟩ := stAt_fin HS4 ha
                have HB := Lib.hid (And.intro b1 (And.intro b2 b3))
                clear b1 b2 b3
                go_wp2_with fail
                refine bodyPost_ret (res_stream rfl _ _ w.heap.size _ _ rfl HB.out.1) rfl ?_
                exact ⟨_, _, ⟨_, _, rfl, HB.out.2.1⟩, ⟨by omega, by unfold I64; omega⟩, HB.out.2.2⟩
end Go.Proofs.Ythnjiknmlakkkaa

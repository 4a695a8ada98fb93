/- BitioBack: the walk. -/
import Derived.Test.YtokolidakcfopaaIoBack
namespace Go.Proofs.Ytokolidakcfopaa
open Go.RowKit Bs
def BRel (a0 : Nat) (W : World) (j : Nat) (ws vv : Value) (w : World) : Prop :=
  ∃ L V p c l N, Fld l N L V ∧ L.length + j ≤ 7 ∧ vs l (N : Int) = true ∧ (p = none → c = 0) ∧ By l ∧ BK a0 W ws vv L.length V.length (L.map zv) (V.map uv) p c l (N : Int) w
theorem mask_lt (y K : Nat) (hy : U64 y) (hK : K < 64) : ∃ z : Nat, bits .and .u64 (y : Int) (IntKind.u64.wrap (((b2 K : Nat) : Int) - 1)) = (z : Int) ∧ z < 2 ^ K := by
  have h1 : b2 K = 2 ^ K := rfl
  have h2 : 0 < 2 ^ K := Nat.two_pow_pos K
  have h3 : 2 ^ K < 2 ^ 64 := Nat.pow_lt_pow_right (by decide) hK
  have e : IntKind.u64.wrap (((b2 K : Nat) : Int) - 1) = ((2 ^ K - 1 : Nat) : Int) := by
    rw [h1, IntKind.wrap_u64]; generalize 2 ^ K = z at *; omega
  rw [e, andU y (2 ^ K - 1) hy (by unfold U64; omega)]
  exact ⟨_, rfl, by rw [Nat.and_two_pow_sub_one_eq_mod]; exact Nat.mod_lt _ h2⟩
theorem wrap_nat (z : Int) : ∃ y0 : Nat, IntKind.u64.wrap z = (y0 : Int) ∧ U64 y0 := by
  refine ⟨(IntKind.u64.wrap z).toNat, ?_, ?_⟩
  · rw [IntKind.wrap_u64]; omega
  · unfold U64; rw [IntKind.wrap_u64]; omega
set_option maxRecDepth 100000 in
set_option maxHeartbeats 3200000 in
theorem back_walk (v : Value) (w : World) (hv : IntsIn w v) :
    Calls Try.prog 4 #[v] w fun e w' => e = .returned (.bool true) ∧ w.grownBy w' none := by
  go_enter Try.func4, Try.ntmps4
  go_wp2_with fail
  refine (new_any v w hv).mono ?_
  rintro e w2 ⟨rfl, hg1, hT1⟩
  have hlt := hT1.lt
  have hB0 : BK w.heap.size w2 (.slice none 0 0) (.slice none 0 0) 0 0 [] [] none 0 [] 0 (w2.alloc (.cells #[.slice none 0 0, .int .i64 0] 25)) :=
    ⟨World.ownsRow_nil _ _ _ _, World.ownsRow_nil _ _ _ _, Rd.nil_ _ _ _ _, heap_alloc_new w2 _, ⟨World.grownBy_alloc w2 _ _, hT1.keep (World.grownBy_alloc w2 _ none)⟩⟩
  have HG1 := Lib.hid hg1
  clear hg1 hv hT1
  go_wp2_with fail
  generalize w2.alloc (.cells #[.slice none 0 0, .int .i64 0] 25) = w3 at *
  refine (next_any _ 8 (by unfold I64; omega) _ hB0.st.2).mono ?_
  rintro e w4 ⟨r, rfl, hr, hs⟩
  obtain ⟨j0, rfl⟩ := Int.eq_ofNat_of_zero_le hr.1
  have hj0 : j0 ≤ 7 := by have := hr.2.1 (by omega); omega
  have hB1 : Hid (BRel w.heap.size w2 j0 (.slice none 0 0) (.slice none 0 0) w4) := Lib.hid ⟨[], [], none, 0, [], 0, fld_nil, by simp; exact hj0, by rfl, fun _ => rfl, (fun _ h => by cases h), hB0.tape hlt hs⟩
  clear hr hs hB0
  go_wp2_with fail
  go_loopw [5, 6, 7] (fun ws vv i wr => ∃ j : Nat, i = .int .i64 (j : Int) ∧ j ≤ 7 ∧ Hid (BRel w.heap.size w2 j ws vv wr)) (fun _ _ i _ => (intOf i).toNat)
  case atStart => exact ⟨j0, rfl, hj0, hB1⟩
  case round =>
    obtain ⟨j, rfl, hj, hR⟩ := hrel
    clear hB1
    by_cases h0 : 0 < j
    · obtain ⟨L, V, p, c, l, N, hF, hLj, hvs, hpc, hby, hB⟩ := hR.out
      have HF := Lib.hid hF
      have HV := Lib.hid (And.intro hvs (And.intro hpc hby))
      have HB := Lib.hid hB
      have hT := hB.st.2
      clear hF hvs hpc hby hB hR
      go_wp2_with fail
      refine (next_any _ 65 (by unfold I64; omega) _ hT).mono ?_
      rintro e w5 ⟨k, rfl, hk, hs⟩
      obtain ⟨K, rfl⟩ := Int.eq_ofNat_of_zero_le hk.1
      have hK : K ≤ 64 := by have := hk.2.1 (by omega); omega
      have HB5 := Lib.hid (HB.out.tape hlt hs)
      have hT5 := HB5.out.st.2
      clear hk hs hT HB
      go_wp2_with fail
      refine (raw_any _ _ hT5).mono ?_
      rintro e w6 ⟨x, rfl, hx, hs⟩
      have HB6 := Lib.hid (HB5.out.tape hlt hs)
      obtain ⟨y0, hy0, hU⟩ := wrap_nat (IntKind.u64.wrap x * 11400714819323198485)
      clear hs hT5 HB5
      obtain ⟨c0, c1⟩ := row_cells HB6.out.row
      by_cases hK64 : K < 64
      · go_wp2_with fail
        refine (bit_any K hK64 _).mono ?_
        rintro e w7 ⟨rfl, rfl⟩
        go_wp2_with fail
        obtain ⟨y, hy, hyK⟩ := mask_lt y0 K hU hK64
        simp only [hy]
        have hyU : U64 y := Nat.lt_of_lt_of_le hyK (Nat.pow_le_pow_right (n := 2) (by decide) (Nat.le_of_lt hK64))
        clear hy hy0 hU hx
        refine (appendp_any l (N : Int) y (K : Int) _ p c HV.out.2.2 hyU _ (fun b hb => hb) HB6.out.rd.bound).mono ?_
        intro e w7 h
        have hNK : ¬ 8192 < N + K := by
          have h1 := fld_sum HF.out.2.1
          have h2 := HF.out.1
          omega
        have hok := apV_ok (l := l) (N := N) (K := K) (v := y) HV.out.1 (by unfold vw; first | (simp; done) | (simp; omega)) (Nat.not_le.2 hyK) hNK
        have hF2 := fld_snoc HF.out hK hyK
        have hv2 := pz_vs' (f := apf l N y K) (N := N + K) (Nat.not_lt.1 hNK)
        obtain ⟨p2, c2, he, hR2, hp2, hb2, hg⟩ := h.op hok rfl
        rw [Int.natCast_add] at he
        subst he
        generalize pz (apf l N y K) (N + K) ((N + K + 7) / 8) = l2 at *
        obtain ⟨k1, k2⟩ := one_box w7 #[.slice p2 l2.length c2, .int .i64 ((N : Int) + (K : Int))] 25
        have HB8 := Lib.hid (HB6.out.keep (grown_trans hg k2))
        have R8 := Lib.hid ((hR2.keep k2).weaken (q' := fun b => w2.heap.size + 1 ≤ b ∧ some b ≠ u5.ownBlock ∧ some b ≠ u6.ownBlock) fun b hb _ => ⟨Nat.le_trans (World.lt_of_row HB6.out.row) hb, own_above HB6.out.ow hb, own_above HB6.out.ov hb⟩)
        have RX := Lib.hid k1
        have F2 := Lib.hid (And.intro hF2 (And.intro hv2 (And.intro hp2 hb2)))
        clear h hok hF2 hv2 hp2 hb2 k1 k2 hR2 hg c0 c1 HB6
        obtain ⟨c0, c1⟩ := row_cells HB8.out.row
        obtain ⟨d0, d1⟩ := row_cells RX.out
        have f0 := frozen_of_row _ _ 0 _ _ HB8.out.row
        have f1 := frozen_of_row _ _ 1 _ _ HB8.out.row
        go_wp2_with (first
          | (at_builtin; refine wpList_app_int rfl _ _ rfl (w2.heap.size + 1) u5 L.length (L.map zv) rfl (((HB8.out.turn (N' := (N : Int) + (K : Int)) hlt R8.out).keep (World.grownBy_alloc _ _ none)).ow) _ (K : Int) rfl (cell_at (by simp) _ _) (by omega) (World.lt_of_row ((HB8.out.turn (N' := (N : Int) + (K : Int)) hlt R8.out).keep (World.grownBy_alloc _ _ none)).row) ?_; intro g1 cap1 w9 ho9 hg9 hl9; have HB9 := Lib.hid (((HB8.out.turn (N' := (N : Int) + (K : Int)) hlt R8.out).keep (World.grownBy_alloc _ _ none)).app_ws hlt ho9 hg9 hl9); clear ho9 hg9 hl9)
          | (at_builtin; refine wpList_app_u64 rfl _ _ rfl (w2.heap.size + 1) u6 V.length (V.map uv) rfl ((HB9.out.keep (World.grownBy_alloc _ _ none)).ov) _ (y : Int) rfl (cell_at (by simp) _ _) (by have := HF.out.2.2.1; omega) (World.lt_of_row (HB9.out.keep (World.grownBy_alloc _ _ none)).row) ?_; intro g2 cap2 w10 ho10 hg10 hl10; have HB10 := Lib.hid ((HB9.out.keep (World.grownBy_alloc _ _ none)).app_vv hlt ho10 hg10 hl10); clear ho10 hg10 hl10))
        clear c0 c1 d0 d1 f0 f1 HB8 R8 RX HV
        go_wp2_with fail
        go_roundw
        case rel =>
          refine ⟨j - 1, by go_num, by omega, Lib.hid ⟨L ++ [K], V ++ [y], p2, c2, l2, N + K, F2.out.1, by rw [List.length_append, List.length_singleton]; omega, F2.out.2.1, F2.out.2.2.1, F2.out.2.2.2, ?_⟩⟩
          rw [List.length_append, List.length_append, List.map_append, List.map_append, Int.natCast_add]
          exact HB10.out
        case measure => simp [intOf]; omega
      · obtain rfl : K = 64 := by omega
        go_wp2_with fail
        have y64 : y0 < 2 ^ 64 := hU
        clear hy0 hx
        refine (appendp_any l (N : Int) y0 64 _ p c HV.out.2.2 hU _ (fun b hb => hb) HB6.out.rd.bound).mono ?_
        intro e w7 h
        have hNK : ¬ 8192 < N + 64 := by
          have h1 := fld_sum HF.out.2.1
          have h2 := HF.out.1
          omega
        have hok := apV_ok (l := l) (N := N) (K := 64) (v := y0) HV.out.1 (by unfold vw; first | (simp; done) | (simp; omega)) (Nat.not_le.2 y64) hNK
        have hF2 := fld_snoc HF.out (Nat.le_refl 64) y64
        have hv2 := pz_vs' (f := apf l N y0 64) (N := N + 64) (Nat.not_lt.1 hNK)
        obtain ⟨p2, c2, he, hR2, hp2, hb2, hg⟩ := h.op hok rfl
        rw [Int.natCast_add] at he
        subst he
        generalize pz (apf l N y0 64) (N + 64) ((N + 64 + 7) / 8) = l2 at *
        obtain ⟨k1, k2⟩ := one_box w7 #[.slice p2 l2.length c2, .int .i64 ((N : Int) + 64)] 25
        have HB8 := Lib.hid (HB6.out.keep (grown_trans hg k2))
        have R8 := Lib.hid ((hR2.keep k2).weaken (q' := fun b => w2.heap.size + 1 ≤ b ∧ some b ≠ u5.ownBlock ∧ some b ≠ u6.ownBlock) fun b hb _ => ⟨Nat.le_trans (World.lt_of_row HB6.out.row) hb, own_above HB6.out.ow hb, own_above HB6.out.ov hb⟩)
        have RX := Lib.hid k1
        have F2 := Lib.hid (And.intro hF2 (And.intro hv2 (And.intro hp2 hb2)))
        clear h hok hF2 hv2 hp2 hb2 k1 k2 hR2 hg c0 c1 HB6
        obtain ⟨c0, c1⟩ := row_cells HB8.out.row
        obtain ⟨d0, d1⟩ := row_cells RX.out
        have f0 := frozen_of_row _ _ 0 _ _ HB8.out.row
        have f1 := frozen_of_row _ _ 1 _ _ HB8.out.row
        go_wp2_with (first
          | (at_builtin; refine wpList_app_int rfl _ _ rfl (w2.heap.size + 1) u5 L.length (L.map zv) rfl (((HB8.out.turn (N' := (N : Int) + 64) hlt R8.out).keep (World.grownBy_alloc _ _ none)).ow) _ 64 rfl (cell_at (by simp) _ _) (by omega) (World.lt_of_row ((HB8.out.turn (N' := (N : Int) + 64) hlt R8.out).keep (World.grownBy_alloc _ _ none)).row) ?_; intro g1 cap1 w9 ho9 hg9 hl9; have HB9 := Lib.hid (((HB8.out.turn (N' := (N : Int) + 64) hlt R8.out).keep (World.grownBy_alloc _ _ none)).app_ws hlt ho9 hg9 hl9); clear ho9 hg9 hl9)
          | (at_builtin; refine wpList_app_u64 rfl _ _ rfl (w2.heap.size + 1) u6 V.length (V.map uv) rfl ((HB9.out.keep (World.grownBy_alloc _ _ none)).ov) _ (y0 : Int) rfl (cell_at (by simp) _ _) (by have := HF.out.2.2.1; omega) (World.lt_of_row (HB9.out.keep (World.grownBy_alloc _ _ none)).row) ?_; intro g2 cap2 w10 ho10 hg10 hl10; have HB10 := Lib.hid ((HB9.out.keep (World.grownBy_alloc _ _ none)).app_vv hlt ho10 hg10 hl10); clear ho10 hg10 hl10))
        clear c0 c1 d0 d1 f0 f1 HB8 R8 RX HV
        go_wp2_with fail
        go_roundw
        case rel =>
          refine ⟨j - 1, by go_num, by omega, Lib.hid ⟨L ++ [64], V ++ [y0], p2, c2, l2, N + 64, F2.out.1, by rw [List.length_append, List.length_singleton]; omega, F2.out.2.1, F2.out.2.2.1, F2.out.2.2.2, ?_⟩⟩
          rw [List.length_append, List.length_append, List.map_append, List.map_append, Int.natCast_add]
          exact HB10.out
        case measure => simp [intOf]; omega

    · obtain ⟨L, V, p, c, l, N, hF, _, hvs, hpc, hby, hB⟩ := hR.out
      obtain ⟨p5, c5, rfl, _⟩ := own_parts hB.ow
      obtain ⟨p6, c6, rfl, _⟩ := own_parts hB.ov
      have HF := Lib.hid hF
      have HV := Lib.hid (And.intro hvs (And.intro hpc hby))
      have HB := Lib.hid hB
      have hL7 : L.length ≤ 7 := by omega
      clear hF hvs hpc hby hB hR
      go_wp2_with fail
      go_loopw [12, 13] (fun at_ i wz => ∃ k : Nat, k ≤ L.length ∧ i = .int .i64 (k : Int) ∧ at_ = .int .i64 (((L.take k).sum : Nat) : Int) ∧ Hid (wr.grownBy wz none)) (fun _ i _ => (L.length - (intOf i).toNat))
      case atStart => exact ⟨0, Nat.zero_le _, rfl, rfl, Lib.hid (grown_refl _ _)⟩
      case round =>
        obtain ⟨k, hk, rfl, rfl, hg⟩ := hrel
        have HZ := Lib.hid (HB.out.keep hg.out)
        have GRZ := hg
        clear hg
        by_cases hk2 : k < L.length
        · obtain ⟨g5, cap5, e5, _⟩ := own_form HB.out.ow (by omega)
          injection e5 with e5 _ ec5
          subst e5 ec5
          obtain ⟨g6, cap6, e6, _⟩ := own_form HB.out.ov (by have := HF.out.2.2.1; omega)
          injection e6 with e6 _ ec6
          subst e6 ec6
          have hle := sum_take_le L k hk2
          have hsu := sum_take_succ L k hk2
          have hN1 := HF.out.1
          have hw := HF.out.2.1 (L.getD k 0) (by rw [List.getD_eq_getElem?_getD, List.getElem?_eq_getElem hk2]; exact List.getElem_mem _)
          have hN448 := fld_sum HF.out.2.1
          have hval := HF.out.2.2.2 k hk2
          have d5 := own_cell HZ.out.ow (map_at hk2)
          have d6 := own_cell HZ.out.ov (map_at (f := uv) (L := V) (k := k) (by have := HF.out.2.2.1; omega))
          generalize L.getD k 0 = x at *
          generalize V.getD k 0 = y at *
          unfold zv at d5
          unfold uv at d6
          generalize (L.take k).sum = s at *
          have hok := takeV_ok (l := l) (n := (N : Int)) (a := (s : Int)) (k := (x : Int)) HV.out.1 (by unfold vw; simp; omega) (by omega) (by omega)
          rw [Int.toNat_natCast, Int.toNat_natCast, hval] at hok
          have HT := Lib.hid fun (w' : World) (h : wr.grownBy w' none) => takep_any l (N : Int) (s : Int) (x : Int) _ p c HV.out.2.2 (by unfold I64; omega) w' (HZ.out.rd.keep h)
          obtain ⟨c0, c1⟩ := row_cells HZ.out.row
          have HOK := Lib.hid hok
          have HS := Lib.hid hsu
          have hs1 : s + x ≤ 1000 := by omega
          have hkV : k < V.length := by have := HF.out.2.2.1; omega
          clear hok hN448 hw hN1 hle hval hsu
          go_wp2_with fail
          go_region_law (first
            | (go_simp; go_at_call 12; refine (HT.out _ (grown_drew (grown_refl _ _))).mono ?_; rintro e wb h; unfold TakePost at h; rw [HOK.out] at h; obtain ⟨rfl, hap⟩ := h; have GW := Lib.hid (grown_trans (grown_drew (grown_refl wr none)) hap); clear hap))
          all_goals
            have e5 := GW.out.cell d5 (by simp)
            have e6 := GW.out.cell d6 (by simp)
            have GZ := Lib.hid (grown_trans GRZ.out GW.out)
            clear c0 c1 d5 d6 HT HOK GRZ
            go_wp2_with fail
            go_roundw
            case rel => exact ⟨k + 1, by omega, by go_num, by rw [HS.out]; go_num, GZ⟩
            case measure => simp [intOf]; omega
        · obtain rfl : k = L.length := by omega
          rw [List.take_length]
          have hN1 : (((L.sum : Nat) : Int) == (N : Int)) = true := by rw [HF.out.1]; simp
          obtain ⟨c0, c1⟩ := row_cells HZ.out.row
          go_wp2_with fail
          refine (validp_any l (N : Int) _ p c HV.out.2.2 _ HZ.out.rd).mono ?_
          rintro e wa ⟨rfl, hga⟩
          rw [HV.out.1]
          have GZ := Lib.hid (grown_trans GRZ.out hga)
          clear hga c0 c1 HZ GRZ
          go_wp2_with fail
          refine (awake_any _).mono ?_
          rintro e wb ⟨rfl, hgb⟩
          have GE := Lib.hid (grown_trans (grown_tape HG1.out HB.out.st.1) (grown_trans GZ.out hgb))
          clear hgb
          go_wp2_with fail
          go_ret
          exact ⟨rfl, GE.out⟩
end Go.Proofs.Ytokolidakcfopaa

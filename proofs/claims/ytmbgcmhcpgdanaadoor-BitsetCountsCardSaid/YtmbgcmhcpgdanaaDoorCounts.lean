/- BitsetCounts: the walk. -/
import Derived.Test.YtmbgcmhcpgdanaaDoorLengths
import Derived.Deep.RegionHeld3
namespace Go.Proofs.YtmbgcmhcpgdanaaDoor
open Go.RowKit Bs
theorem ints_bl (z : Nat) (q q' : Nat → Prop) (p p' : Option Addr) (c c' : Nat) (w : World) (h1 : Rd w q (.slice p (cnt z) c) ((bl z).map ival)) (h2 : Rd w q' (.slice p' (cnt z) c') ((bl z).map ival)) :
    Calls Tryd.prog 27 #[.slice p (cnt z) c, .slice p' (cnt z) c'] w fun e w' => Nw (.bool true) w e w' :=
  (ints_eq (bl z) (Nat.le_trans (bl_length_le z) (by decide)) q q' p p' c c' w h1 h2).mono fun _ _ ⟨he, _, hw⟩ => ⟨he, hw ▸ grown_drewN w _ none⟩
set_option maxRecDepth 100000 in
set_option maxHeartbeats 2000000 in
theorem counts_walk (v : Value) (b : Nat) (n : Int) (hb : U64 b) (hn : I64 n) (w : World) (hv : IntsIn w v) (hT : Tb w) :
    Calls Tryd.prog 4 #[v, .int .u64 (b : Int), .int .i64 n] w fun e w' => Nw (.bool true) w e w' := by
  have vl64 : vl 64 = true := by decide
  have vl16 : vl 16 = true := by decide
  go_enter Tryd.func4, Tryd.ntmps4
  go_wp2_with fail
  refine (new_any v w hv).mono ?_
  rintro e w1 ⟨rfl, hg1, hT1⟩
  go_wp2_with fail
  refine (bits_any _ 64 vl64 _ hT1).mono ?_
  rintro e w2 ⟨x1, rfl, hx1, hv1, hs2⟩
  go_wp2_with fail
  refine (bits_any _ 16 vl16 _ hs2.2).mono ?_
  rintro e w3 ⟨x2, rfl, hx2, hv2, hs3⟩
  have s3 := hs2.trans hs3
  go_wp2_with fail
  refine (range_any _ (-1) 65 (by omega) (by omega) (by omega) (by omega) _ (s3.2.alloc _)).mono ?_
  rintro e w4 ⟨r1, rfl, hr1, hs4⟩
  go_wp2_with fail
  refine (next_any _ 8 (by unfold I64; omega) _ hs4.2).mono ?_
  rintro e w5 ⟨r2, rfl, hr2, hs5⟩
  have i1 : I64 r1 := by unfold RangeOf at hr1; unfold I64; omega
  have i2 : I64 r2 := by unfold CutOf at hr2; unfold I64; omega
  have HX0 := words3 w3 hb hx1 hx2
  have k35 : (w3.alloc (.cells #[.int .u64 (b : Int), .int .u64 (x1 : Int), .int .u64 (x2 : Int)] 23)).grownBy (w5.alloc (.cells #[.int .i64 n, .int .i64 r1, .int .i64 r2] 3)) (some w.heap.size) :=
    grown_trans hs4.1 (hs5.grown_alloc _)
  have hB : w.heap.size < w3.heap.size := s3.2.lt
  have HX : ∀ j, j < 3 → ∃ z : Nat, U64 z ∧ (w5.alloc (.cells #[.int .i64 n, .int .i64 r1, .int .i64 r2] 3)).cell? ⟨w3.heap.size, j, none⟩ = some (.int .u64 (z : Int)) := fun j hj => by
    obtain ⟨z, hz, hc⟩ := HX0 j hj
    exact ⟨z, hz, k35.cell hc (by simp; omega)⟩
  have HL := ints3w w5 hn i1 i2
  have g5 : w.grownBy (w5.alloc (.cells #[.int .i64 n, .int .i64 r1, .int .i64 r2] 3)) none :=
    grown_tape hg1 (grown_trans (grown_trans s3.1 (World.grownBy_alloc w3 _ _)) k35)
  have T5 := hT.keep g5
  clear hr1 hr2 hv1 hv2 hs2 hs3 s3 hs4 hs5 hg1 hT1 vl64 vl16 hv hT HX0 k35 i1 i2 hB
  go_wp2_with fail
  generalize (w5.alloc (.cells #[.int .i64 n, .int .i64 r1, .int .i64 r2] 3)) = W at *
  generalize w5.heap.size = C at *
  generalize w3.heap.size = B at *
  have G := Lib.hid g5
  clear g5
  go_loopw [10] (fun i wr => ∃ j : Nat, j ≤ 3 ∧ i = .int .i64 (j : Int) ∧ W.grownBy wr none) (fun i _ => 3 - (intOf i).toNat)
  case atStart => exact ⟨0, by omega, rfl, grown_refl _ _⟩
  case round =>
    obtain ⟨j, hj, rfl, hgr⟩ := hrel
    have Tr := T5.keep hgr
    by_cases hlt : j < 3
    · obtain ⟨z, hz, hmc0⟩ := HX j hlt
      have hmc := hgr.cell hmc0 (by simp)
      have GR := Lib.hid hgr
      have j0 : (0 : Int) ≤ (j : Int) := by omega
      have j3 : (j : Int) < 3 := by omega
      clear hgr hmc0
      go_wp2_with fail
      go_region_held3 (fun w' => w'.cell? ⟨B, j, none⟩ = some (.int .u64 (z : Int)) ∧ Tb w' ∧ Hid (W.grownBy w' none))
        (first | exact ⟨hmc, Tb.drew Tr, hid_drew GR⟩ | (go_split_ands; exact ⟨hgk.cell (by assumption) (by simp), Tb.keep (by assumption) hgk, hid_more (by assumption) hgk⟩) | (go_split_ands; exact ⟨by assumption, by assumption, by assumption⟩))
        (first
          | (go_at_call 23; refine (countp_any z hz _).mono ?_; rintro e w' ⟨rfl, rfl⟩)
          | (go_at_call 24; refine (countr_any z hz _).mono ?_; rintro e w' ⟨rfl, hgk⟩)
          | (go_at_call 25; refine (firstp_any z hz _ ?_).mono ?_; (go_split_ands; assumption); rintro e w' ⟨rfl, rfl⟩)
          | (go_at_call 26; refine (firstr_any z hz _).mono ?_; rintro e w' ⟨rfl, hgk⟩)
          | (go_at_call 28; refine (listp_any z hz _ ?_).mono ?_; (go_split_ands; assumption); rintro e w' ⟨v1, rfl, hR1, hgk⟩; obtain ⟨p1, c1, rfl⟩ := hR1.form (bl_map_len z))
          | (go_at_call 29; refine (listr_any z hz _).mono ?_; rintro e w' ⟨v2, rfl, hR2, hgk⟩; obtain ⟨p2, c2, rfl⟩ := hR2.form (bl_map_len z); have hR3 := hR1.keep hgk)
          | (go_at_call 27; refine (ints_bl z _ _ _ _ _ _ _ hR3 hR2).mono ?_; rintro e w' ⟨rfl, hgk⟩))
      go_split_ands
      have GW : Hid (W.grownBy w' none) := by assumption
      clear hgk hR1 hR2 hR3
      go_wp2_with fail
      go_loopw [11] (fun i wr => ∃ k : Nat, k ≤ 3 ∧ i = .int .i64 (k : Int) ∧ W.grownBy wr none) (fun i _ => 3 - (intOf i).toNat)
      case atStart => exact ⟨0, by omega, rfl, GW.out⟩
      case round =>
        obtain ⟨k, hk, rfl, hgr2⟩ := hrel
        have Tr2 := T5.keep hgr2
        by_cases hlt2 : k < 3
        · obtain ⟨z', hz', hzc0⟩ := HX j hlt
          obtain ⟨y, hy, hyc0⟩ := HL k hlt2
          have hzc := hgr2.cell hzc0 (by simp)
          have hyc := hgr2.cell hyc0 (by simp)
          have GR2 := Lib.hid hgr2
          have k0 : (0 : Int) ≤ (k : Int) := by omega
          have k3 : (k : Int) < 3 := by omega
          clear hgr2 hzc0 hyc0
          go_wp2_with fail
          go_region_held3 (fun w' => w'.cell? ⟨B, j, none⟩ = some (.int .u64 (z' : Int)) ∧ w'.cell? ⟨C, k, none⟩ = some (.int .i64 y) ∧ Tb w' ∧ Hid (W.grownBy w' none))
            (first | exact ⟨hzc, hyc, Tb.drew Tr2, hid_drew GR2⟩ | (go_split_ands; exact ⟨hgk.cell (by assumption) (by simp), hgk.cell (by assumption) (by simp), Tb.keep (by assumption) hgk, hid_more (by assumption) hgk⟩) | (go_split_ands; exact ⟨by assumption, by assumption, by assumption, by assumption⟩))
            (first
              | (go_at_call 30; refine (nthp_any z' y hz' hy _ ?_).mono ?_; (go_split_ands; assumption); rintro e w' ⟨rfl, rfl⟩)
              | (go_at_call 31; refine (nthr_any z' y hz' _).mono ?_; rintro e w' ⟨rfl, hgk⟩)
              | (go_at_call 32; refine (rankp_any z' y hz' _).mono ?_; rintro e w' ⟨rfl, rfl⟩)
              | (go_at_call 33; refine (rankr_any z' y hz' _).mono ?_; rintro e w' ⟨rfl, rfl⟩))
          go_split_ands
          have GW2 : Hid (W.grownBy w' none) := by assumption
          clear hgk
          go_wp2_with fail
          go_roundw
          case rel => exact ⟨k + 1, by omega, by go_num, GW2.out⟩
          case measure => simp [intOf]; omega
        · have GR2 := Lib.hid hgr2
          clear hgr2
          go_wp2_with fail
          go_roundw
          case rel => exact ⟨j + 1, by omega, by go_num, GR2.out⟩
          case measure => simp [intOf]; omega
    · have GR := Lib.hid hgr
      clear hgr
      go_wp2_with fail
      refine (awake_any _ Tr).mono ?_
      rintro e w' ⟨rfl, hg⟩
      go_wp2_with fail
      go_ret
      exact ⟨rfl, grown_trans (grown_trans G.out GR.out) hg⟩
end Go.Proofs.YtmbgcmhcpgdanaaDoor

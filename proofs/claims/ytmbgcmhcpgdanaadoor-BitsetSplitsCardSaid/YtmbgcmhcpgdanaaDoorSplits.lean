/- BitsetSplits: the walk. -/
import Derived.Test.YtmbgcmhcpgdanaaDoorLengths
import Derived.Deep.RegionHeld3
import Derived.Deep.RegionLawGrows
namespace Go.Proofs.YtmbgcmhcpgdanaaDoor
open Go.RowKit Bs

def pt (b : Nat) (ms : List Nat) (j : Nat) : Nat := rst b ms j &&& mk ms j
theorem prts_at (b : Nat) (ms : List Nat) : ∀ n j, j < n → (prts b ms n)[j]? = some (pt b ms j)
  | 0, j, h => by omega
  | n + 1, j, h => by
    rw [prts]
    by_cases hj : j < n
    · rw [List.getElem?_append_left (by rw [prts_len]; exact hj), prts_at b ms n j hj]
    · obtain rfl : j = n := by omega
      rw [List.getElem?_append_right (by rw [prts_len]; omega), prts_len]
      simp [pt, mk]
/-- Everything so far, as the statement gathers it; what the parts so far have. -/
def al (b : Nat) (ms : List Nat) : Nat → Nat
  | 0 => rst b ms ms.length
  | j + 1 => al b ms j ||| pt b ms j
def orp (b : Nat) (ms : List Nat) : Nat → Nat
  | 0 => 0
  | j + 1 => orp b ms j ||| pt b ms j
theorem al_orp (b : Nat) (ms : List Nat) : ∀ j, al b ms j = rst b ms ms.length ||| orp b ms j
  | 0 => by simp [al, orp]
  | j + 1 => by rw [al, orp, al_orp b ms j, Nat.or_assoc]
theorem pt_u64 {b : Nat} (ms : List Nat) (hb : U64 b) (j : Nat) : U64 (pt b ms j) := u64_and_le _ _ (rst_u64 ms hb j)
theorem al_u64 {b : Nat} (ms : List Nat) (hb : U64 b) : ∀ j, U64 (al b ms j)
  | 0 => rst_u64 ms hb _
  | j + 1 => Bs.u64_or _ _ (al_u64 ms hb j) (pt_u64 ms hb j)
theorem test_lt {x : Nat} (h : U64 x) {i : Nat} (hi : x.testBit i = true) : i < 64 := by
  rcases Nat.lt_or_ge i 64 with h1 | h1
  · exact h1
  · have := Nat.testBit_lt_two_pow (Nat.lt_of_lt_of_le h.pow (Nat.pow_le_pow_right (by decide) h1))
    rw [this] at hi; cases hi
theorem rst_test {b : Nat} {ms : List Nat} (hb : U64 b) (hm : ∀ m ∈ ms, U64 m) (j i : Nat) : (rst b ms (j + 1)).testBit i = ((rst b ms j).testBit i && !(mk ms j).testBit i) := by
  rw [rst, Nat.testBit_and, compl_test (u64_getD hm j)]
  show _ = ((rst b ms j).testBit i && !(ms.getD j 0).testBit i)
  cases h : (rst b ms j).testBit i with
  | false => simp
  | true => simp [test_lt (rst_u64 ms hb j) h]
theorem rst_orp {b : Nat} {ms : List Nat} (hb : U64 b) (hm : ∀ m ∈ ms, U64 m) : ∀ j, rst b ms j ||| orp b ms j = b
  | 0 => by simp [rst, orp]
  | j + 1 => by
    have ih := rst_orp hb hm j
    apply Nat.eq_of_testBit_eq
    intro i
    have hi := congrArg (·.testBit i) ih
    simp only [Nat.testBit_or] at hi
    rw [orp, Nat.testBit_or, Nat.testBit_or, rst_test hb hm, pt, Nat.testBit_and, ← hi]
    cases (rst b ms j).testBit i <;> cases (mk ms j).testBit i <;> cases (orp b ms j).testBit i <;> rfl
theorem orp_rst {b : Nat} {ms : List Nat} (hb : U64 b) (hm : ∀ m ∈ ms, U64 m) (i : Nat) : ∀ j, ((orp b ms j).testBit i && (rst b ms j).testBit i) = false
  | 0 => by simp [orp]
  | j + 1 => by
    have ih := orp_rst hb hm i j
    rw [orp, Nat.testBit_or, rst_test hb hm, pt, Nat.testBit_and]
    cases h1 : (rst b ms j).testBit i <;> cases h2 : (mk ms j).testBit i <;> cases h3 : (orp b ms j).testBit i <;> simp_all
theorem rst_mono {b : Nat} {ms : List Nat} (hb : U64 b) (hm : ∀ m ∈ ms, U64 m) (i j : Nat) : ∀ d, (rst b ms (j + d)).testBit i = true → (rst b ms j).testBit i = true
  | 0, h => h
  | d + 1, h => by
    rw [show j + (d + 1) = (j + d) + 1 by omega, rst_test hb hm, Bool.and_eq_true] at h
    exact rst_mono hb hm i j d h.1
/-- A part has no bit of what was gathered before. -/
theorem pt_al {b : Nat} {ms : List Nat} (hb : U64 b) (hm : ∀ m ∈ ms, U64 m) (j : Nat) (hj : j < ms.length) : pt b ms j &&& al b ms j = 0 := by
  apply Nat.eq_of_testBit_eq
  intro i
  rw [al_orp, Nat.testBit_and, Nat.testBit_or, pt, Nat.testBit_and, Nat.zero_testBit]
  have h1 := orp_rst hb hm i j
  have h2 : (rst b ms ms.length).testBit i = true → (rst b ms (j + 1)).testBit i = true := fun h => by
    refine rst_mono hb hm i (j + 1) (ms.length - (j + 1)) ?_
    rw [show j + 1 + (ms.length - (j + 1)) = ms.length by omega]; exact h
  rw [rst_test hb hm] at h2
  cases h3 : (rst b ms j).testBit i <;> cases h4 : (mk ms j).testBit i <;> cases h5 : (orp b ms j).testBit i <;> cases h6 : (rst b ms ms.length).testBit i <;> simp_all
theorem al_all {b : Nat} {ms : List Nat} (hb : U64 b) (hm : ∀ m ∈ ms, U64 m) : al b ms ms.length = b := by
  rw [al_orp]; exact rst_orp hb hm ms.length

/-- The masks so far: a slice of numbers outside the tape's block. -/
def Masks (a : Nat) (w : World) (v : Value) (ms : List Nat) : Prop :=
  (∀ m ∈ ms, U64 m) ∧ Rd w (· ≠ a) v (ms.map uval) ∧ ∃ p c, v = .slice p ms.length c ∧ ms.length ≤ c ∧ c ≤ 9223372036854775807 ∧ (p = none → ms.length = 0)
theorem Masks.grown {a : Nat} {w w' : World} {v : Value} {ms : List Nat} (h : Masks a w v ms) (g : w.grownBy w' (some a)) : Masks a w' v ms :=
  ⟨h.1, h.2.1.grown g (fun b hb => by simpa using hb), h.2.2⟩
theorem Masks.take {a : Nat} {w : World} {p : Option Addr} {n c : Nat} {ms : List Nat} (h : Masks a w (.slice p n c) ms) (k : Nat) (hk : k ≤ ms.length) : Masks a w (.slice p k c) (ms.take k) := by
  obtain ⟨h1, ⟨p1, c1, e1, hx⟩, p2, c2, e2, h3, h4, h5⟩ := h
  injection e1 with a1 a2 a3
  injection e2 with b1 b2 b3
  subst a1; subst b1; subst b3
  have hl : (ms.take k).length = k := by rw [List.length_take]; omega
  refine ⟨fun m hm => h1 m (List.mem_of_mem_take hm), ⟨p, c, by rw [List.length_map, hl], fun hne => ?_⟩, p, c, by rw [hl], by rw [hl]; omega, h4, fun hp => by rw [hl]; have := h5 hp; omega⟩
  have hne' : ms.map uval ≠ [] := by
    intro e
    rw [List.map_take, e] at hne
    simp at hne
  obtain ⟨b, off, hp, hq, hcell⟩ := hx hne'
  refine ⟨b, off, hp, hq, fun i x hi => hcell i x ?_⟩
  rw [List.map_take, List.getElem?_take] at hi
  split at hi
  · exact hi
  · cases hi
theorem Masks.cells {a : Nat} {w : World} {p : Option Addr} {n c : Nat} {ms : List Nat} (h : Masks a w (.slice p n c) ms) : ∀ bb, p = some bb → ∀ j u, (ms.map uval)[j]? = some u → w.cell? (bb.add j) = some u := by
  obtain ⟨_, ⟨p1, c1, e1, hx⟩, _⟩ := h
  injection e1 with a1 a2 a3
  subst a1
  intro bb hp j u hu
  obtain ⟨b, off, hp2, _, hc⟩ := hx (by intro e; rw [e] at hu; simp at hu)
  rw [hp] at hp2
  obtain rfl := Option.some.inj hp2
  have hadd : (⟨b, off, none⟩ : Addr).add j = ⟨b, off + j, none⟩ := by unfold Addr.add; split <;> simp_all
  rw [hadd]; exact hc j u hu
theorem Masks.some_ {a : Nat} {w : World} {p : Option Addr} {n c : Nat} {ms : List Nat} (h : Masks a w (.slice p n c) ms) (hn : n = ms.length) (h0 : 0 < n) : ∃ b off, p = some ⟨b, off, none⟩ := by
  obtain ⟨_, ⟨p1, c1, e1, hx⟩, _⟩ := h
  injection e1 with a1 a2 a3
  subst a1
  obtain ⟨b, off, hp2, _⟩ := hx (by intro e; have := congrArg List.length e; simp at this; subst this; simp at hn; omega)
  exact ⟨b, off, hp2⟩
theorem Masks.none_zero {a : Nat} {w : World} {p : Option Addr} {n c : Nat} {ms : List Nat} (h : Masks a w (.slice p n c) ms) (hn : n = ms.length) : p = none → n = 0 ∧ n = 0 := fun e => by
  rcases Nat.eq_zero_or_pos n with h0 | h0
  · exact ⟨h0, h0⟩
  · obtain ⟨_, _, e2⟩ := h.some_ hn h0
    rw [e2] at e; cases e
theorem Masks.more {a base n : Nat} {w0 w : World} {v v' : Value} {ms : List Nat} {x : Nat} (h : Masks a w0 v ms) (hn : n = ms.length) (hx : U64 x) (ha : a < base)
    (hown : w.ownsRow base 23 1 v' (n + 1) (ms.map uval ++ [.int .u64 (x : Int)])) : Masks a w v' (ms ++ [x]) := by
  refine ⟨fun m hm => ?_, ?_, ?_⟩
  · rcases List.mem_append.1 hm with h1 | h1
    · exact h.1 m h1
    · simp at h1; subst h1; exact hx
  · have := rd_of_own hown
    rw [List.map_append]
    exact this.mono (fun b hb => by omega)
  · rcases hown.2 with ⟨_, h0⟩ | ⟨g, cap, cur, rfl, _, _, hcap, hm, _⟩
    · omega
    · exact ⟨_, cap, by rw [List.length_append, hn]; rfl, by rw [List.length_append]; simp; omega, by unfold maxLen at hm; exact hm, by simp⟩
/-- The loop that draws more masks: k more are to come. -/
def SplitLoop (a : Nat) (w1 : World) (v : Value) (k : Nat) (wr : World) : Prop := ∃ ms, ms.length + k ≤ 53 ∧ Masks a wr v ms ∧ St a w1 wr
theorem SplitLoop.open_ {a k : Nat} {w1 wr : World} {v : Value} (h : SplitLoop a w1 v k wr) : ∃ (ms : List Nat) (p : Option Addr) (n c : Nat), v = .slice p n c ∧ n = ms.length ∧ n + k ≤ 53 ∧ n ≤ c ∧ c ≤ 9223372036854775807 ∧ Masks a wr (.slice p n c) ms ∧ St a w1 wr := by
  obtain ⟨ms, h1, h2, h3⟩ := h
  obtain ⟨p, c, rfl, h5, h6, _⟩ := h2.2.2
  exact ⟨ms, p, _, c, rfl, rfl, h1, h5, h6, h2, h3⟩
set_option maxRecDepth 100000 in
set_option maxHeartbeats 2000000 in
theorem splits_big (v v2 : Value) (b : Nat) (ms0 : List Nat) (hb : U64 b) (w : World) (hv : IntsIn w v) (hM0 : Masks w.heap.size w v2 ms0) (hT : Tb w) (hbig : 50 < ms0.length) :
    Calls Tryd.prog 6 #[v, .int .u64 (b : Int), v2] w fun e w' => Nw (.bool true) w e w' := by
  have vl64 : vl 64 = true := by decide
  obtain ⟨p0, c0, rfl, hc1, hc2, hc3⟩ := hM0.2.2
  obtain ⟨i0, hi, hz0, hz1, hz2⟩ := info_parts info_u64
  go_enter Tryd.func6, Tryd.ntmps6
  go_wp2_with fail
  refine (new_any v w hv).mono ?_
  rintro e w1 ⟨rfl, hg1, hT1⟩
  have b50 : decide (50 < ms0.length) = true := by simpa using hbig
  have b50i : (50 : Int) ≤ (c0 : Int) := by omega
  go_wp2_with fail
  refine (next_any _ 4 (by unfold I64; omega) _ hT1).mono ?_
  rintro e w2 ⟨r, rfl, hr, hs2⟩
  obtain ⟨K, rfl⟩ := Int.eq_ofNat_of_zero_le hr.1
  have hK : K ≤ 3 := by unfold CutOf at hr; omega
  have L0 : Hid (SplitLoop w.heap.size w1 (.slice p0 50 c0) K w2) :=
    Lib.hid ⟨ms0.take 50, by rw [List.length_take]; omega, ((hM0.grown (grown_none hg1 _)).grown hs2.1).take 50 (by omega), hs2⟩
  clear hM0 hc1 hc2 hc3 hr hs2
  go_wp2_with fail
  go_loopw [2, 8] (fun mv i wr => ∃ k : Nat, k ≤ 3 ∧ i = .int .i64 (k : Int) ∧ SplitLoop w.heap.size w1 mv k wr) (fun _ i _ => (intOf i).toNat)
  case atStart => exact ⟨K, hK, rfl, L0.out⟩
  case round =>
    obtain ⟨k, hk3, rfl, hL⟩ := hrel
    obtain ⟨ms, p, n, c, rfl, hn, hnk, hnc, hcm, hM, hS⟩ := hL.open_
    have HN := Lib.hid hn
    clear hL L0 hn
    have HM := Lib.hid hM
    have HS := Lib.hid hS
    have hTp := hS.2
    clear hM hS
    by_cases hk : 1 ≤ k
    · have n0 : (0 : Int) ≤ (n : Int) := by omega
      have nc : (n : Int) ≤ (c : Int) := by omega
      have GR : Hid (wr.grownBy wr (some w.heap.size)) := Lib.hid (grown_refl _ _)
      have he : Option.map (fun x : Addr => x.add 0) p = p := by cases p <;> simp [Addr.add]
      have HPN := Lib.hid (HM.out.none_zero HN.out)
      go_wp2_with fail
      go_region_held3 (fun w' => Tp w' w.heap.size ∧ Hid (wr.grownBy w' (some w.heap.size)))
        (first | exact ⟨hTp.drew, hid_drew GR⟩ | (go_split_ands; refine ⟨Tp.keep ?_ hap, hid_more ?_ (grown_none hap _)⟩ <;> assumption) | (go_split_ands; refine ⟨hsk.2, hid_more ?_ hsk.1⟩; assumption) | (go_split_ands; refine ⟨Tp.alloc ?_ _, hid_more ?_ (World.grownBy_alloc _ _ _)⟩ <;> assumption) | (go_split_ands; refine ⟨?_, ?_⟩ <;> assumption))
        (first
          | (go_at_call 14; refine (bits_any _ 64 vl64 _ ?_).mono ?_; (go_split_ands; assumption); rintro e w' ⟨x, rfl, hx, hvx, hsk⟩)
          | (go_split_ands; refine step_append_grows (by rfl) _ _ _ (by rfl) 23 i0 (.int .u64 0) 1 8 Tryd.underlying29 hi hz0 hz1 hz2 rfl (by decide) p n n (ms.map uval) (by rfl) HPN.out (by rw [List.length_map]; have := HN.out; omega) ?hh ⟨w'.heap.size, 0, none⟩ 1 1 [.int .u64 (x : Int)] (by rfl) (by rfl) (cell_one _ _ _) (by intro u hu; simp at hu; subst hu; rfl) (by omega) (by unfold maxLen; omega) (by omega) ?_; (exact (HM.out.grown (Hid.out (by assumption))).cells); intro v' w2 hown hap))
      go_split_ands
      have TP : Tp w2 w.heap.size := by assumption
      have GW : Hid (wr.grownBy w2 (some w.heap.size)) := by assumption
      have R : Hid (SplitLoop w.heap.size w1 v' (k - 1) w2) :=
        Lib.hid ⟨ms ++ [x], by rw [List.length_append]; have := HN.out; simp; omega, HM.out.more HN.out hx (by have := hsk.2.lt; simp; omega) hown, grown_trans HS.out.1 GW.out, TP⟩
      clear hown hap hsk hvx
      go_wp2_with fail
      go_roundw
      case rel => exact ⟨k - 1, by omega, by congr 1; omega, R.out⟩
      case measure => simp [intOf]; omega
    · obtain rfl : k = 0 := by omega
      have hn := HN.out
      subst hn
      clear HN
      have hl : ms.length ≤ 1000 := by omega
      go_wp2_with fail
      refine (splitp_any b ms _ p c hb HM.out.1 hl _ HM.out.2.1).mono ?_
      rintro e wa ⟨lv, rfl, hL, hga⟩
      obtain ⟨pl, cl, rfl⟩ := hL.form (n := ms.length) (by rw [List.length_map, prts_len])
      go_wp2_with fail
      refine (splitr_any b ms _ p c hb HM.out.1 hl _ (HM.out.2.1.keep hga)).mono ?_
      rintro e W ⟨rv, rfl, hR, hgb⟩
      obtain ⟨pr, cr, rfl⟩ := hR.form (n := ms.length) (by rw [List.length_map, prts_len])
      have hL2 := hL.keep hgb
      have GW : Hid (w.grownBy W none) := Lib.hid (grown_tape hg1 (grown_trans HS.out.1 (grown_trans (grown_none hga _) (grown_none hgb _))))
      have TW := hT.keep GW.out
      clear hL hga hgb hTp
      go_wp2_with fail
      go_loopw [13, 14] (fun x i wr => ∃ j m : Nat, j ≤ ms.length ∧ i = .int .i64 (j : Int) ∧ x = .int .u64 ((al b ms j : Nat) : Int) ∧ wr = W.drewN m) (fun _ i _ => ms.length - (intOf i).toNat)
      case atStart => exact ⟨0, 0, Nat.zero_le _, rfl, rfl, rfl⟩
      case round =>
        obtain ⟨j, m, hj, rfl, rfl, rfl⟩ := hrel
        by_cases hlt : j < ms.length
        · have hx : ((prts b ms ms.length).map uval)[j]? = some (.int .u64 ((pt b ms j : Nat) : Int)) := by
            rw [List.getElem?_map, prts_at b ms _ _ hlt]; rfl
          obtain ⟨g, off, rfl, hc1⟩ := hL2.at_ hx
          obtain ⟨g', off', rfl, hc2⟩ := hR.at_ hx
          have Z : (bits .and .u64 ((pt b ms j : Nat) : Int) ((al b ms j : Nat) : Int) != 0) = false := by
            rw [andU _ _ (pt_u64 ms hb j) (al_u64 ms hb j), pt_al hb HM.out.1 j hlt]; rfl
          have O := Lib.hid (orU _ _ (al_u64 ms hb j) (pt_u64 ms hb j))
          clear hx hL2 hR
          go_wp2_with fail
          go_quiet (fail)
          go_wp2_with fail
          go_roundw
          case rel => exact ⟨j + 1, _, by omega, by go_num, by rw [O.out]; rfl, rfl⟩
          case measure => simp [intOf]; omega
        · obtain rfl : j = ms.length := by omega
          have E : (((al b ms ms.length : Nat) : Int) == (b : Int)) = true := by rw [al_all hb HM.out.1]; simp
          clear hL2 hR
          go_wp2_with fail
          refine (awake_any _ (TW.keep (grown_drewN W m none))).mono ?_
          rintro e w' ⟨rfl, hg⟩
          go_wp2_with fail
          go_ret
          exact ⟨rfl, grown_trans (grown_trans GW.out (grown_drewN W m none)) hg⟩
set_option maxRecDepth 100000 in
set_option maxHeartbeats 2000000 in
theorem splits_small (v v2 : Value) (b : Nat) (ms0 : List Nat) (hb : U64 b) (w : World) (hv : IntsIn w v) (hM0 : Masks w.heap.size w v2 ms0) (hT : Tb w) (hbig : ¬ 50 < ms0.length) :
    Calls Tryd.prog 6 #[v, .int .u64 (b : Int), v2] w fun e w' => Nw (.bool true) w e w' := by
  have vl64 : vl 64 = true := by decide
  obtain ⟨p0, c0, rfl, hc1, hc2, hc3⟩ := hM0.2.2
  obtain ⟨i0, hi, hz0, hz1, hz2⟩ := info_parts info_u64
  go_enter Tryd.func6, Tryd.ntmps6
  go_wp2_with fail
  refine (new_any v w hv).mono ?_
  rintro e w1 ⟨rfl, hg1, hT1⟩
  go_wp2_with fail
  refine (next_any _ 4 (by unfold I64; omega) _ hT1).mono ?_
  rintro e w2 ⟨r, rfl, hr, hs2⟩
  obtain ⟨K, rfl⟩ := Int.eq_ofNat_of_zero_le hr.1
  have hK : K ≤ 3 := by unfold CutOf at hr; omega
  have L0 : Hid (SplitLoop w.heap.size w1 (.slice p0 ms0.length c0) K w2) :=
    Lib.hid ⟨ms0, by omega, (hM0.grown (grown_none hg1 _)).grown hs2.1, hs2⟩
  clear hM0 hc1 hc2 hc3 hr hs2
  go_wp2_with fail
  go_loopw [2, 8] (fun mv i wr => ∃ k : Nat, k ≤ 3 ∧ i = .int .i64 (k : Int) ∧ SplitLoop w.heap.size w1 mv k wr) (fun _ i _ => (intOf i).toNat)
  case atStart => exact ⟨K, hK, rfl, L0.out⟩
  case round =>
    obtain ⟨k, hk3, rfl, hL⟩ := hrel
    obtain ⟨ms, p, n, c, rfl, hn, hnk, hnc, hcm, hM, hS⟩ := hL.open_
    have HN := Lib.hid hn
    clear hL L0 hn
    have HM := Lib.hid hM
    have HS := Lib.hid hS
    have hTp := hS.2
    clear hM hS
    by_cases hk : 1 ≤ k
    · have n0 : (0 : Int) ≤ (n : Int) := by omega
      have nc : (n : Int) ≤ (c : Int) := by omega
      have GR : Hid (wr.grownBy wr (some w.heap.size)) := Lib.hid (grown_refl _ _)
      have he : Option.map (fun x : Addr => x.add 0) p = p := by cases p <;> simp [Addr.add]
      have HPN := Lib.hid (HM.out.none_zero HN.out)
      go_wp2_with fail
      go_region_held3 (fun w' => Tp w' w.heap.size ∧ Hid (wr.grownBy w' (some w.heap.size)))
        (first | exact ⟨hTp.drew, hid_drew GR⟩ | (go_split_ands; refine ⟨Tp.keep ?_ hap, hid_more ?_ (grown_none hap _)⟩ <;> assumption) | (go_split_ands; refine ⟨hsk.2, hid_more ?_ hsk.1⟩; assumption) | (go_split_ands; refine ⟨Tp.alloc ?_ _, hid_more ?_ (World.grownBy_alloc _ _ _)⟩ <;> assumption) | (go_split_ands; refine ⟨?_, ?_⟩ <;> assumption))
        (first
          | (go_at_call 14; refine (bits_any _ 64 vl64 _ ?_).mono ?_; (go_split_ands; assumption); rintro e w' ⟨x, rfl, hx, hvx, hsk⟩)
          | (go_split_ands; refine step_append_grows (by rfl) _ _ _ (by rfl) 23 i0 (.int .u64 0) 1 8 Tryd.underlying29 hi hz0 hz1 hz2 rfl (by decide) p n n (ms.map uval) (by rfl) HPN.out (by rw [List.length_map]; have := HN.out; omega) ?hh ⟨w'.heap.size, 0, none⟩ 1 1 [.int .u64 (x : Int)] (by rfl) (by rfl) (cell_one _ _ _) (by intro u hu; simp at hu; subst hu; rfl) (by omega) (by unfold maxLen; omega) (by omega) ?_; (exact (HM.out.grown (Hid.out (by assumption))).cells); intro v' w2 hown hap))
      go_split_ands
      have TP : Tp w2 w.heap.size := by assumption
      have GW : Hid (wr.grownBy w2 (some w.heap.size)) := by assumption
      have R : Hid (SplitLoop w.heap.size w1 v' (k - 1) w2) :=
        Lib.hid ⟨ms ++ [x], by rw [List.length_append]; have := HN.out; simp; omega, HM.out.more HN.out hx (by have := hsk.2.lt; simp; omega) hown, grown_trans HS.out.1 GW.out, TP⟩
      clear hown hap hsk hvx
      go_wp2_with fail
      go_roundw
      case rel => exact ⟨k - 1, by omega, by congr 1; omega, R.out⟩
      case measure => simp [intOf]; omega
    · obtain rfl : k = 0 := by omega
      have hn := HN.out
      subst hn
      clear HN
      have hl : ms.length ≤ 1000 := by omega
      go_wp2_with fail
      refine (splitp_any b ms _ p c hb HM.out.1 hl _ HM.out.2.1).mono ?_
      rintro e wa ⟨lv, rfl, hL, hga⟩
      obtain ⟨pl, cl, rfl⟩ := hL.form (n := ms.length) (by rw [List.length_map, prts_len])
      go_wp2_with fail
      refine (splitr_any b ms _ p c hb HM.out.1 hl _ (HM.out.2.1.keep hga)).mono ?_
      rintro e W ⟨rv, rfl, hR, hgb⟩
      obtain ⟨pr, cr, rfl⟩ := hR.form (n := ms.length) (by rw [List.length_map, prts_len])
      have hL2 := hL.keep hgb
      have GW : Hid (w.grownBy W none) := Lib.hid (grown_tape hg1 (grown_trans HS.out.1 (grown_trans (grown_none hga _) (grown_none hgb _))))
      have TW := hT.keep GW.out
      clear hL hga hgb hTp
      go_wp2_with fail
      go_loopw [13, 14] (fun x i wr => ∃ j m : Nat, j ≤ ms.length ∧ i = .int .i64 (j : Int) ∧ x = .int .u64 ((al b ms j : Nat) : Int) ∧ wr = W.drewN m) (fun _ i _ => ms.length - (intOf i).toNat)
      case atStart => exact ⟨0, 0, Nat.zero_le _, rfl, rfl, rfl⟩
      case round =>
        obtain ⟨j, m, hj, rfl, rfl, rfl⟩ := hrel
        by_cases hlt : j < ms.length
        · have hx : ((prts b ms ms.length).map uval)[j]? = some (.int .u64 ((pt b ms j : Nat) : Int)) := by
            rw [List.getElem?_map, prts_at b ms _ _ hlt]; rfl
          obtain ⟨g, off, rfl, hc1⟩ := hL2.at_ hx
          obtain ⟨g', off', rfl, hc2⟩ := hR.at_ hx
          have Z : (bits .and .u64 ((pt b ms j : Nat) : Int) ((al b ms j : Nat) : Int) != 0) = false := by
            rw [andU _ _ (pt_u64 ms hb j) (al_u64 ms hb j), pt_al hb HM.out.1 j hlt]; rfl
          have O := Lib.hid (orU _ _ (al_u64 ms hb j) (pt_u64 ms hb j))
          clear hx hL2 hR
          go_wp2_with fail
          go_quiet (fail)
          go_wp2_with fail
          go_roundw
          case rel => exact ⟨j + 1, _, by omega, by go_num, by rw [O.out]; rfl, rfl⟩
          case measure => simp [intOf]; omega
        · obtain rfl : j = ms.length := by omega
          have E : (((al b ms ms.length : Nat) : Int) == (b : Int)) = true := by rw [al_all hb HM.out.1]; simp
          clear hL2 hR
          go_wp2_with fail
          refine (awake_any _ (TW.keep (grown_drewN W m none))).mono ?_
          rintro e w' ⟨rfl, hg⟩
          go_wp2_with fail
          go_ret
          exact ⟨rfl, grown_trans (grown_trans GW.out (grown_drewN W m none)) hg⟩
theorem splits_walk (v v2 : Value) (b : Nat) (ms0 : List Nat) (hb : U64 b) (w : World) (hv : IntsIn w v) (hM0 : Masks w.heap.size w v2 ms0) (hT : Tb w) :
    Calls Tryd.prog 6 #[v, .int .u64 (b : Int), v2] w fun e w' => Nw (.bool true) w e w' := by
  by_cases hbig : 50 < ms0.length
  · exact splits_big v v2 b ms0 hb w hv hM0 hT hbig
  · exact splits_small v v2 b ms0 hb w hv hM0 hT hbig
theorem masks_in {w : World} {v : Value} {zs : List Int} (hz : ∀ z ∈ zs, (Lit.int .u64 z).wf = true) (hr : Rd w (· < w.heap.size) v (zs.map fun z => .int .u64 z)) (hs : ∃ p c, v = .slice p zs.length c ∧ zs.length ≤ c ∧ c ≤ 9223372036854775807) :
    ∃ ms, Masks w.heap.size w v ms := by
  have hpos : ∀ z ∈ zs, 0 ≤ z ∧ z < 18446744073709551616 := fun z h => by
    have wf := hz z h
    simp [Lit.wf, IntKind.min, IntKind.max, IntKind.bits, IntKind.signed] at wf
    omega
  have e : zs.map (fun z => Value.int .u64 z) = (zs.map Int.toNat).map uval := by
    rw [List.map_map]
    apply List.map_congr_left
    intro z h
    show Value.int .u64 z = .int .u64 ((z.toNat : Nat) : Int)
    rw [Int.toNat_of_nonneg (hpos z h).1]
  rw [e] at hr
  obtain ⟨p, c, rfl, h1, h2⟩ := hs
  refine ⟨zs.map Int.toNat, fun m hm => ?_, hr.mono (fun b hb => by omega), p, c, by rw [List.length_map], by rw [List.length_map]; exact h1, h2, fun hp => ?_⟩
  · obtain ⟨z, h, rfl⟩ := List.mem_map.1 hm
    have := hpos z h
    exact u64_mk (by omega)
  · obtain ⟨p1, c1, e1, hx⟩ := hr
    injection e1 with a1 a2 a3
    subst a1
    rcases Nat.eq_zero_or_pos (zs.map Int.toNat).length with h0 | h0
    · exact h0
    · obtain ⟨_, _, e2, _⟩ := hx (by intro e; have := congrArg List.length e; simp at this; subst this; simp at h0)
      rw [hp] at e2; cases e2
end Go.Proofs.YtmbgcmhcpgdanaaDoor

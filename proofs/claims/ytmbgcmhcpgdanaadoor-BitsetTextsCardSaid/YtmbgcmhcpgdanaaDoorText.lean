/- Format of the reference; Parse, of the program and of the reference. -/
import Derived.Test.YtmbgcmhcpgdanaaDoorFmt
namespace Go.Proofs.YtmbgcmhcpgdanaaDoor
open Go.RowKit Bs

def fpre (b N j : Nat) : List UInt8 := (List.range j).map (fdig b N)
theorem fpre_snoc (b N j : Nat) : fpre b N (j + 1) = fpre b N j ++ [fdig b N j] := by unfold fpre; rw [List.range_succ, List.map_append]; rfl
theorem fpre_all (b N : Nat) : fpre b N N = fm b N := rfl
theorem fdig_t {b N j : Nat} (h : b.testBit (N - 1 - j) = true) : fdig b N j = 49 := by unfold fdig; rw [h]; rfl
theorem fdig_f {b N j : Nat} (h : b.testBit (N - 1 - j) = false) : fdig b N j = 48 := by unfold fdig; rw [h]; rfl
theorem fpre_len (b N j : Nat) : (fpre b N j).length = j := by unfold fpre; simp
theorem str_snoc (l : List UInt8) (c : UInt8) : (⟨l.toArray⟩ ++ ⟨#[c]⟩ : ByteArray) = ⟨(l ++ [c]).toArray⟩ := by
  apply ByteArray.ext
  simp
set_option maxHeartbeats 1600000 in
theorem formatr_core (b N : Nat) (hb : U64 b) (hN : 1 ≤ N) (hN2 : N ≤ 64) (hv : vb b (N : Int) = true) (w : World) :
    Calls Tryd.prog 53 #[.int .u64 (b : Int), .int .i64 (N : Int)] w fun e w' => e = .returned (.string ⟨(fm b N).toArray⟩) ∧ w = w' := by
  go_enter Tryd.func53, Tryd.ntmps53
  go_wp2_with (go_at_call 20; refine (validr_any _ _ hb _).mono ?_; rintro e w' ⟨rfl, rfl⟩)
  go_loop [5, 6] (fun s i => ∃ j : Nat, j ≤ N ∧ i = .int .i64 ((N : Int) - 1 - (j : Int)) ∧ s = .string ⟨(fpre b N j).toArray⟩) (fun _ i => (intOf i + 1).toNat)
  case atStart => exact ⟨0, Nat.zero_le _, by simp, rfl⟩
  case round =>
    obtain ⟨j, hj, rfl, rfl⟩ := hrel
    by_cases hlt : j < N
    · obtain ⟨k, hk⟩ : ∃ k : Nat, k = N - 1 - j := ⟨_, rfl⟩
      have hki : (N : Int) - 1 - (j : Int) = (k : Int) := by omega
      have hk64 : k < 64 := by omega
      have HKI := Lib.hid hki
      rw [hki]
      have hlen := fpre_len b N j
      by_cases ht : b.testBit k = true
      · have F : Hid ((⟨(fpre b N j).toArray⟩ ++ ⟨#[49]⟩ : ByteArray) = ⟨(fpre b N (j + 1)).toArray⟩) := by
          show _ = _
          rw [fpre_snoc, fdig_t (by rw [← hk]; exact ht)]; exact str_snoc _ _
        have hl64 : (fpre b N j).length ≤ 64 := by omega
        clear hki hk hlen
        go_wp2_with (go_at_call 56; refine (has_any b k hk64 hb _).mono ?_; rintro e w' ⟨rfl, rfl⟩)
        go_round
        case rel => exact ⟨j + 1, by omega, by congr 1; have := HKI.out; omega, by rw [F.out]⟩
        case measure => have := HKI.out; simp [intOf] <;> omega
      · have ht0 : b.testBit k = false := by simpa using ht
        have F : Hid ((⟨(fpre b N j).toArray⟩ ++ ⟨#[48]⟩ : ByteArray) = ⟨(fpre b N (j + 1)).toArray⟩) := by
          show _ = _
          rw [fpre_snoc, fdig_f (by rw [← hk]; exact ht0)]; exact str_snoc _ _
        have hl64 : (fpre b N j).length ≤ 64 := by omega
        clear hki hk hlen ht
        go_wp2_with (go_at_call 56; refine (has_any b k hk64 hb _).mono ?_; rintro e w' ⟨rfl, rfl⟩)
        go_round
        case rel => exact ⟨j + 1, by omega, by congr 1; have := HKI.out; omega, by rw [F.out]⟩
        case measure => have := HKI.out; simp [intOf] <;> omega
    · obtain rfl : j = N := by omega
      go_wp2_with fail
      go_ret
      exact ⟨rfl, rfl⟩

/-- The number of the first j characters. -/
def prn (l : List UInt8) : Nat → Nat
  | 0 => 0
  | j + 1 => prn l j * 2 + ((l.getD j 0).toNat - 48)
def dig01 (x : UInt8) : Bool := x == 48 || x == 49
/-- What Parse returns. -/
def prsV (l : List UInt8) : Nat × Int × Int := if vl (l.length : Int) = false then (0, 0, 2) else if l.all dig01 = false then (0, 0, 6) else (prn l l.length, (l.length : Int), 0)
def PrsPost (l : List UInt8) (w : World) (e : Ending) (w' : World) : Prop := e = .returned (.tuple #[.int .u64 (((prsV l).1 : Nat) : Int), .int .i64 (prsV l).2.1, .int .i64 (prsV l).2.2]) ∧ w = w'
theorem prn_lt {l : List UInt8} : ∀ {j : Nat}, (∀ k, k < j → dig01 (l.getD k 0) = true) → prn l j < 2 ^ j
  | 0, _ => by simp [prn]
  | j + 1, h => by
    have h1 := prn_lt (l := l) (j := j) fun k hk => h k (by omega)
    have h2 := h j (by omega)
    unfold dig01 at h2
    have h3 : (l.getD j 0).toNat = 48 ∨ (l.getD j 0).toNat = 49 := by
      rw [Bool.or_eq_true, beq_iff_eq, beq_iff_eq] at h2
      rcases h2 with h2 | h2 <;> rw [h2] <;> decide
    rw [prn, Nat.pow_succ]
    omega
theorem prn_half {l : List UInt8} {j : Nat} (h : ∀ k, k < j → dig01 (l.getD k 0) = true) (hj : j ≤ 63) : prn l j ≤ 9223372036854775807 := by
  have h1 := prn_lt h
  have h2 : 2 ^ j ≤ 2 ^ 63 := Nat.pow_le_pow_right (by decide) hj
  have h3 : (2 : Nat) ^ 63 = 9223372036854775808 := by decide
  omega
theorem prn_next0 {l : List UInt8} {j : Nat} (hx : (l.getD j 0).toNat = 48) : 2 * ((prn l j : Nat) : Int) = ((prn l (j + 1) : Nat) : Int) := by rw [prn, hx]; omega
theorem prn_next1 {l : List UInt8} {j : Nat} (hx : (l.getD j 0).toNat = 49) : 2 * ((prn l j : Nat) : Int) + 1 = ((prn l (j + 1) : Nat) : Int) := by rw [prn, hx]; omega
theorem prn_word0 {l : List UInt8} {j : Nat} (h : ∀ k, k < j → dig01 (l.getD k 0) = true) (hj : j ≤ 63) (hx : (l.getD j 0).toNat = 48) :
    bits .or .u64 (((prn l j : Nat) : Int) * 2) 0 = ((prn l (j + 1) : Nat) : Int) := by
  have h1 := prn_half h hj
  rw [show (((prn l j : Nat) : Int) * 2) = ((prn l j * 2 : Nat) : Int) by omega, show (0 : Int) = ((0 : Nat) : Int) from rfl, orU _ 0 (u64_mk (by omega)) (by unfold U64; decide), prn, hx]
  simp
theorem prn_word1 {l : List UInt8} {j : Nat} (h : ∀ k, k < j → dig01 (l.getD k 0) = true) (hj : j ≤ 63) (hx : (l.getD j 0).toNat = 49) :
    bits .or .u64 (((prn l j : Nat) : Int) * 2) 1 = ((prn l (j + 1) : Nat) : Int) := by
  have h1 := prn_half h hj
  rw [show (((prn l j : Nat) : Int) * 2) = ((prn l j * 2 : Nat) : Int) by omega, show (1 : Int) = ((1 : Nat) : Int) from rfl, orU _ 1 (u64_mk (by omega)) (by unfold U64; decide), prn, hx]
  rw [nat_join 1 (prn l j * 2) 1 (by omega) (by decide)]
theorem dig_48 {x : UInt8} (h : x.toNat = 48) : dig01 x = true := by
  have : x = 48 := UInt8.toNat_inj.1 h
  subst this; rfl
theorem dig_49 {x : UInt8} (h : x.toNat = 49) : dig01 x = true := by
  have : x = 49 := UInt8.toNat_inj.1 h
  subst this; rfl
theorem dig_no {x : UInt8} (h : ¬ x.toNat = 48) (h' : ¬ x.toNat = 49) : dig01 x = false := by
  unfold dig01
  rw [Bool.or_eq_false_iff, beq_eq_false_iff_ne, beq_eq_false_iff_ne]
  exact ⟨fun e => h (by rw [e]; rfl), fun e => h' (by rw [e]; rfl)⟩
theorem dig_next {l : List UInt8} {j : Nat} (h : ∀ k, k < j → dig01 (l.getD k 0) = true) (hj : dig01 (l.getD j 0) = true) : ∀ k, k < j + 1 → dig01 (l.getD k 0) = true := by
  intro k hk
  rcases Nat.lt_or_ge k j with h1 | h1
  · exact h k h1
  · obtain rfl : k = j := by omega
    exact hj
theorem str_get {s : ByteArray} {j : Nat} (h : j < s.size) : s.data.toList.getD j 0 = s[j] := by
  have h' : j < s.data.toList.length := by simpa using h
  rw [List.getD_eq_getElem?_getD, List.getElem?_eq_getElem h']; rfl
theorem prsV_len {l : List UInt8} (h : vl (l.length : Int) = false) : prsV l = (0, 0, 2) := by unfold prsV; rw [if_pos h]
theorem prsV_bad {l : List UInt8} {j : Nat} (h : vl (l.length : Int) = true) (hj : j < l.length) (hb : dig01 (l.getD j 0) = false) : prsV l = (0, 0, 6) := by
  unfold prsV
  rw [if_neg (by simp [h]), if_pos]
  rw [List.all_eq_false]
  refine ⟨l[j], List.getElem_mem hj, ?_⟩
  rw [List.getD_eq_getElem?_getD, List.getElem?_eq_getElem hj] at hb
  simpa using hb
theorem prsV_ok {l : List UInt8} (h : vl (l.length : Int) = true) (hg : ∀ k, k < l.length → dig01 (l.getD k 0) = true) : prsV l = (prn l l.length, (l.length : Int), 0) := by
  unfold prsV
  rw [if_neg (by simp [h]), if_neg]
  rw [Bool.not_eq_false, List.all_eq_true]
  intro x hx
  obtain ⟨j, hj, rfl⟩ := List.mem_iff_getElem.1 hx
  have := hg j hj
  rw [List.getD_eq_getElem?_getD, List.getElem?_eq_getElem hj] at this
  simpa using this
set_option maxHeartbeats 1600000 in
theorem prsp_any (s : ByteArray) (hs : s.size ≤ 9223372036854775807) (w : World) :
    Calls Tryd.prog 52 #[.string s] w fun e w' => PrsPost s.data.toList w e w' := by
  have hsz : s.data.toList.length = s.size := by simp
  by_cases hv : vl (s.size : Int) = true
  · have h64 : s.size ≤ 64 := by have := vl_cases hv; omega
    go_enter Tryd.func52, Tryd.ntmps52
    go_wp2_with (go_at_call 15; refine (vlp_any _ _).mono ?_; rintro e w' ⟨rfl, rfl⟩)
    go_loop [2, 12] (fun b i => ∃ j : Nat, j ≤ s.size ∧ i = .int .i64 (j : Int) ∧ b = .int .u64 ((prn s.data.toList j : Nat) : Int) ∧ Hid (∀ k, k < j → dig01 (s.data.toList.getD k 0) = true)) (fun _ i => s.size - (intOf i).toNat)
    case atStart => exact ⟨0, Nat.zero_le _, rfl, rfl, Lib.hid fun k hk => by omega⟩
    case round =>
      obtain ⟨j, hj, rfl, rfl, hD⟩ := hrel
      by_cases hlt : j < s.size
      · have hgl := str_get hlt
        have hp := prn_half (l := s.data.toList) hD.out (by omega)
        by_cases h48 : s[j].toNat = 48
        · have P := Lib.hid (prn_word0 hD.out (by omega) (show (s.data.toList.getD j 0).toNat = 48 by rw [hgl]; exact h48))
          have P2 := Lib.hid (prn_next0 (l := s.data.toList) (j := j) (show (s.data.toList.getD j 0).toNat = 48 by rw [hgl]; exact h48))
          have N := Lib.hid (dig_next hD.out (show dig01 (s.data.toList.getD j 0) = true by rw [hgl]; exact dig_48 h48))
          clear hgl
          go_wp2_with fail
          go_round
          case rel => exact ⟨j + 1, by omega, by go_num, by first | rw [P.out] | rw [P2.out], N⟩
          case measure => simp [intOf]; omega
        · by_cases h49 : s[j].toNat = 49
          · have P := Lib.hid (prn_word1 hD.out (by omega) (show (s.data.toList.getD j 0).toNat = 49 by rw [hgl]; exact h49))
            have P2 := Lib.hid (prn_next1 (l := s.data.toList) (j := j) (show (s.data.toList.getD j 0).toNat = 49 by rw [hgl]; exact h49))
            have N := Lib.hid (dig_next hD.out (show dig01 (s.data.toList.getD j 0) = true by rw [hgl]; exact dig_49 h49))
            clear hgl h48
            go_wp2_with fail
            go_round
            case rel => exact ⟨j + 1, by omega, by go_num, by first | rw [P.out] | rw [P2.out], N⟩
            case measure => simp [intOf]; omega
          · have V := Lib.hid (prsV_bad (l := s.data.toList) (j := j) (by rw [hsz]; exact hv) (by rw [hsz]; exact hlt) (by rw [hgl]; exact dig_no h48 h49))
            have c48 : (((s[j].toNat : Nat) : Int) != 48) = true := by simp; omega
            have c49 : (((s[j].toNat : Nat) : Int) != 49) = true := by simp; omega
            clear hgl h48 h49 hsz
            go_wp2_with fail
            go_ret3
            exact ⟨by rw [V.out]; rfl, rfl⟩
      · obtain rfl : j = s.size := by omega
        have V := Lib.hid (prsV_ok (l := s.data.toList) (by rw [hsz]; exact hv) (fun k hk => hD.out k (by omega)))
        have HS := Lib.hid hsz
        clear hsz
        go_wp2_with fail
        go_ret3
        exact ⟨by rw [V.out, HS.out]; rfl, rfl⟩
  · have hv0 : vl (s.size : Int) = false := by simpa using hv
    have V := Lib.hid (prsV_len (l := s.data.toList) (by rw [hsz]; exact hv0))
    clear hv hsz
    go_enter Tryd.func52, Tryd.ntmps52
    go_wp2_with (go_at_call 15; refine (vlp_any _ _).mono ?_; rintro e w' ⟨rfl, rfl⟩)
    go_ret3
    exact ⟨by rw [V.out]; rfl, rfl⟩
set_option maxHeartbeats 1600000 in
theorem prsr_any (s : ByteArray) (hs : s.size ≤ 9223372036854775807) (w : World) :
    Calls Tryd.prog 55 #[.string s] w fun e w' => PrsPost s.data.toList w e w' := by
  have hsz : s.data.toList.length = s.size := by simp
  by_cases hv : vl (s.size : Int) = true
  · have h64 : s.size ≤ 64 := by have := vl_cases hv; omega
    go_enter Tryd.func55, Tryd.ntmps55
    go_wp2_with (go_at_call 16; refine (vlr_any _ _).mono ?_; rintro e w' ⟨rfl, rfl⟩)
    go_loop [5, 6] (fun b i => ∃ j : Nat, j ≤ s.size ∧ i = .int .i64 (j : Int) ∧ b = .int .u64 ((prn s.data.toList j : Nat) : Int) ∧ Hid (∀ k, k < j → dig01 (s.data.toList.getD k 0) = true)) (fun _ i => s.size - (intOf i).toNat)
    case atStart => exact ⟨0, Nat.zero_le _, rfl, rfl, Lib.hid fun k hk => by omega⟩
    case round =>
      obtain ⟨j, hj, rfl, rfl, hD⟩ := hrel
      by_cases hlt : j < s.size
      · have hgl := str_get hlt
        have hp := prn_half (l := s.data.toList) hD.out (by omega)
        by_cases h48 : s[j].toNat = 48
        · have P := Lib.hid (prn_word0 hD.out (by omega) (show (s.data.toList.getD j 0).toNat = 48 by rw [hgl]; exact h48))
          have P2 := Lib.hid (prn_next0 (l := s.data.toList) (j := j) (show (s.data.toList.getD j 0).toNat = 48 by rw [hgl]; exact h48))
          have N := Lib.hid (dig_next hD.out (show dig01 (s.data.toList.getD j 0) = true by rw [hgl]; exact dig_48 h48))
          clear hgl
          go_wp2_with fail
          go_round
          case rel => exact ⟨j + 1, by omega, by go_num, by first | rw [P.out] | rw [P2.out], N⟩
          case measure => simp [intOf]; omega
        · by_cases h49 : s[j].toNat = 49
          · have P := Lib.hid (prn_word1 hD.out (by omega) (show (s.data.toList.getD j 0).toNat = 49 by rw [hgl]; exact h49))
            have P2 := Lib.hid (prn_next1 (l := s.data.toList) (j := j) (show (s.data.toList.getD j 0).toNat = 49 by rw [hgl]; exact h49))
            have N := Lib.hid (dig_next hD.out (show dig01 (s.data.toList.getD j 0) = true by rw [hgl]; exact dig_49 h49))
            clear hgl h48
            go_wp2_with fail
            go_round
            case rel => exact ⟨j + 1, by omega, by go_num, by first | rw [P.out] | rw [P2.out], N⟩
            case measure => simp [intOf]; omega
          · have V := Lib.hid (prsV_bad (l := s.data.toList) (j := j) (by rw [hsz]; exact hv) (by rw [hsz]; exact hlt) (by rw [hgl]; exact dig_no h48 h49))
            have c48 : (((s[j].toNat : Nat) : Int) != 48) = true := by simp; omega
            have c49 : (((s[j].toNat : Nat) : Int) != 49) = true := by simp; omega
            clear hgl h48 h49 hsz
            go_wp2_with fail
            go_ret3
            exact ⟨by rw [V.out]; rfl, rfl⟩
      · obtain rfl : j = s.size := by omega
        have V := Lib.hid (prsV_ok (l := s.data.toList) (by rw [hsz]; exact hv) (fun k hk => hD.out k (by omega)))
        have HS := Lib.hid hsz
        clear hsz
        go_wp2_with fail
        go_ret3
        exact ⟨by rw [V.out, HS.out]; rfl, rfl⟩
  · have hv0 : vl (s.size : Int) = false := by simpa using hv
    have V := Lib.hid (prsV_len (l := s.data.toList) (by rw [hsz]; exact hv0))
    clear hv hsz
    go_enter Tryd.func55, Tryd.ntmps55
    go_wp2_with (go_at_call 16; refine (vlr_any _ _).mono ?_; rintro e w' ⟨rfl, rfl⟩)
    go_ret3
    exact ⟨by rw [V.out]; rfl, rfl⟩
end Go.Proofs.YtmbgcmhcpgdanaaDoor

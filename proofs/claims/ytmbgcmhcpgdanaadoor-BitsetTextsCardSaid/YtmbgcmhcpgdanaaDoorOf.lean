/- Of, of the program and of the reference. -/
import Derived.Test.YtmbgcmhcpgdanaaDoorAwake
namespace Go.Proofs.YtmbgcmhcpgdanaaDoor
open Go.RowKit Bs

def zval (z : Int) : Value := .int .i64 z
/-- The bits of the first j numbers, none if one comes twice. -/
def ofr (l : List Int) : Nat → Option Nat
  | 0 => some 0
  | j + 1 => match ofr l j with
    | none => none
    | some b => if b.testBit (l.getD j 0).toNat then none else some (b ||| b2 (l.getD j 0).toNat)
theorem ofr_none (l : List Int) (j : Nat) (h : ofr l j = none) : ∀ d, ofr l (j + d) = none
  | 0 => h
  | d + 1 => by rw [show j + (d + 1) = (j + d) + 1 by omega, ofr, ofr_none l j h d]
theorem ofr_hit {l : List Int} {j b K : Nat} (h : ofr l j = some b) (hx : l.getD j 0 = (K : Int)) (ht : b.testBit K = true) : ofr l (j + 1) = none := by
  rw [ofr, h, hx]
  show (if b.testBit ((K : Nat) : Int).toNat then none else _) = none
  rw [Int.toNat_natCast, if_pos ht]
theorem ofr_miss {l : List Int} {j b K : Nat} (h : ofr l j = some b) (hx : l.getD j 0 = (K : Int)) (ht : b.testBit K = false) : ofr l (j + 1) = some (b ||| b2 K) := by
  rw [ofr, h, hx]
  show (if b.testBit ((K : Nat) : Int).toNat then none else some (b ||| b2 ((K : Nat) : Int).toNat)) = _
  rw [Int.toNat_natCast, if_neg (by simpa using ht)]
/-- What Of returns. -/
def ofV (l : List Int) (n : Int) : Nat × Int :=
  if vl n = false then (0, 1) else if l.all (fun x => decide (0 ≤ x ∧ x < n)) = false then (0, 2) else match ofr l l.length with
    | none => (0, 5)
    | some b => (b, 0)
theorem ofV_len {l : List Int} {n : Int} (h : vl n = false) : ofV l n = (0, 1) := by unfold ofV; rw [if_pos h]
theorem ofV_range {l : List Int} {n : Int} (h : vl n = true) {j : Nat} (hj : j < l.length) (hb : ¬ (0 ≤ l.getD j 0 ∧ l.getD j 0 < n)) : ofV l n = (0, 2) := by
  unfold ofV
  rw [if_neg (by simp [h]), if_pos]
  rw [List.all_eq_false]
  refine ⟨l[j], List.getElem_mem hj, ?_⟩
  rw [List.getD_eq_getElem?_getD, List.getElem?_eq_getElem hj] at hb
  simpa using hb
theorem ofV_good {l : List Int} {n : Int} (h : vl n = true) (hg : ∀ j, j < l.length → 0 ≤ l.getD j 0 ∧ l.getD j 0 < n) : ofV l n = match ofr l l.length with
    | none => (0, 5)
    | some b => (b, 0) := by
  unfold ofV
  rw [if_neg (by simp [h]), if_neg]
  rw [Bool.not_eq_false, List.all_eq_true]
  intro x hx
  obtain ⟨j, hj, rfl⟩ := List.mem_iff_getElem.1 hx
  have := hg j hj
  rw [List.getD_eq_getElem?_getD, List.getElem?_eq_getElem hj] at this
  simpa using this
theorem ofV_dup {l : List Int} {n : Int} (h : vl n = true) (hg : ∀ j, j < l.length → 0 ≤ l.getD j 0 ∧ l.getD j 0 < n) {j : Nat} (hj : j < l.length) (hn : ofr l (j + 1) = none) : ofV l n = (0, 5) := by
  rw [ofV_good h hg]
  have := ofr_none l (j + 1) hn (l.length - (j + 1))
  rw [show j + 1 + (l.length - (j + 1)) = l.length by omega] at this
  rw [this]
theorem ofV_ok {l : List Int} {n : Int} (h : vl n = true) (hg : ∀ j, j < l.length → 0 ≤ l.getD j 0 ∧ l.getD j 0 < n) {b : Nat} (hn : ofr l l.length = some b) : ofV l n = (b, 0) := by
  rw [ofV_good h hg, hn]
def OfPost (l : List Int) (n : Int) (w : World) (e : Ending) (w' : World) : Prop := e = .returned (.tuple #[.int .u64 (((ofV l n).1 : Nat) : Int), .int .i64 (ofV l n).2]) ∧ w = w'
theorem zv_at {l : List Int} {j : Nat} (h : j < l.length) : (l.map zval)[j]? = some (.int .i64 (l.getD j 0)) := by
  rw [List.getElem?_map, List.getElem?_eq_getElem h, List.getD_eq_getElem?_getD, List.getElem?_eq_getElem h]; rfl
theorem of_or (b K : Nat) (hb : U64 b) (hK : K < 64) : bits .or .u64 (b : Int) (IntKind.u64.wrap (2 ^ K)) = ((b ||| b2 K : Nat) : Int) := by
  rw [pow_word K hK]; exact orU b _ hb (b2_u64 hK)
set_option maxHeartbeats 1600000 in
theorem ofp_any (l : List Int) (n : Int) (q : Nat → Prop) (p : Option Addr) (c : Nat) (hl : l.length ≤ 9223372036854775807) (w : World) (hR : Rd w q (.slice p l.length c) (l.map zval)) :
    Calls Tryd.prog 38 #[.slice p l.length c, .int .i64 n] w fun e w' => OfPost l n w e w' := by
  by_cases hv : vl n = true
  · have hn64 : n ≤ 64 := by rcases vl_cases hv with h | h | h | h <;> omega
    go_enter Tryd.func38, Tryd.ntmps38
    go_wp2_with (go_at_call 15; refine (vlp_any _ _).mono ?_; rintro e w' ⟨rfl, rfl⟩)
    go_loop [16] (fun i => ∃ j : Nat, j ≤ l.length ∧ i = .int .i64 (j : Int) ∧ ∀ k, k < j → 0 ≤ l.getD k 0 ∧ l.getD k 0 < n) (fun i => l.length - (intOf i).toNat)
    case atStart => exact ⟨0, Nat.zero_le _, rfl, fun k hk => by omega⟩
    case round =>
      obtain ⟨j, hj, rfl, hg⟩ := hrel
      have HG := Lib.hid hg
      clear hg
      by_cases hlt : j < l.length
      · obtain ⟨g, off, rfl, hcell⟩ := hR.at_ (zv_at hlt)
        by_cases hneg : l.getD j 0 < 0
        · have V := Lib.hid (ofV_range hv hlt (by omega))
          generalize l.getD j 0 = x at *
          go_wp2_with fail
          go_ret2
          exact ⟨by rw [V.out]; rfl, rfl⟩
        · by_cases hbig : n ≤ l.getD j 0
          · have V := Lib.hid (ofV_range hv hlt (by omega))
            generalize l.getD j 0 = x at *
            go_wp2_with fail
            go_ret2
            exact ⟨by rw [V.out]; rfl, rfl⟩
          · have HN : Hid (∀ k, k < j + 1 → 0 ≤ l.getD k 0 ∧ l.getD k 0 < n) := by
              show ∀ k, k < j + 1 → 0 ≤ l.getD k 0 ∧ l.getD k 0 < n
              intro k hk
              rcases Nat.lt_or_ge k j with h | h
              · exact HG.out k h
              · obtain rfl : k = j := by omega
                omega
            generalize l.getD j 0 = x at *
            go_wp2_with fail
            go_round
            case rel => exact ⟨j + 1, by omega, by go_num, HN.out⟩
            case measure => simp [intOf]; omega
      · obtain rfl : j = l.length := by omega
        go_wp2_with fail
        go_loop [8, 30] (fun bv i => ∃ j b : Nat, j ≤ l.length ∧ i = .int .i64 (j : Int) ∧ bv = .int .u64 (b : Int) ∧ U64 b ∧ Hid (ofr l j = some b)) (fun _ i => l.length - (intOf i).toNat)
        case atStart => exact ⟨0, 0, Nat.zero_le _, rfl, rfl, by unfold U64; decide, Lib.hid rfl⟩
        case round =>
          obtain ⟨j, b, hj, rfl, rfl, hb, hO⟩ := hrel
          by_cases hlt2 : j < l.length
          · obtain ⟨g, off, rfl, hcell⟩ := hR.at_ (zv_at hlt2)
            have hx := HG.out j hlt2
            obtain ⟨K, hK⟩ := Int.eq_ofNat_of_zero_le hx.1
            have hK64 : K < 64 := by omega
            rw [hK] at hcell
            by_cases ht : b.testBit K = true
            · have V := Lib.hid (ofV_dup hv HG.out hlt2 (ofr_hit hO.out hK ht))
              have T : (bits .and .u64 ((b : Int) / 2 ^ K) 1 == 1) = true := by rw [testW b K hb, ht]
              clear hx hK ht
              go_wp2_with fail
              go_ret2
              exact ⟨by rw [V.out]; rfl, rfl⟩
            · have ht0 : b.testBit K = false := by simpa using ht
              have HM := Lib.hid (ofr_miss hO.out hK ht0)
              have T : (bits .and .u64 ((b : Int) / 2 ^ K) 1 == 1) = false := by rw [testW b K hb, ht0]
              have W1 := Lib.hid (of_or b K hb hK64)
              clear hx hK ht ht0
              go_wp2_with fail
              go_round
              case rel => exact ⟨j + 1, _, by omega, by go_num, by rw [W1.out], Bs.u64_or _ _ hb (b2_u64 hK64), HM⟩
              case measure => simp [intOf]; omega
          · obtain rfl : j = l.length := by omega
            have V := Lib.hid (ofV_ok hv HG.out hO.out)
            go_wp2_with fail
            go_ret2
            exact ⟨by rw [V.out]; rfl, rfl⟩
  · have hv0 : vl n = false := by simpa using hv
    have V := Lib.hid (ofV_len (l := l) hv0)
    clear hv
    go_enter Tryd.func38, Tryd.ntmps38
    go_wp2_with (go_at_call 15; refine (vlp_any _ _).mono ?_; rintro e w' ⟨rfl, rfl⟩)
    go_ret2
    exact ⟨by rw [V.out]; rfl, rfl⟩
set_option maxHeartbeats 1600000 in
theorem ofr_any (l : List Int) (n : Int) (q : Nat → Prop) (p : Option Addr) (c : Nat) (hl : l.length ≤ 9223372036854775807) (w : World) (hR : Rd w q (.slice p l.length c) (l.map zval)) :
    Calls Tryd.prog 39 #[.slice p l.length c, .int .i64 n] w fun e w' => OfPost l n w e w' := by
  by_cases hv : vl n = true
  · have hn64 : n ≤ 64 := by rcases vl_cases hv with h | h | h | h <;> omega
    go_enter Tryd.func39, Tryd.ntmps39
    go_wp2_with (go_at_call 16; refine (vlr_any _ _).mono ?_; rintro e w' ⟨rfl, rfl⟩)
    go_loop [6] (fun i => ∃ j : Nat, j ≤ l.length ∧ i = .int .i64 (j : Int) ∧ ∀ k, k < j → 0 ≤ l.getD k 0 ∧ l.getD k 0 < n) (fun i => l.length - (intOf i).toNat)
    case atStart => exact ⟨0, Nat.zero_le _, rfl, fun k hk => by omega⟩
    case round =>
      obtain ⟨j, hj, rfl, hg⟩ := hrel
      have HG := Lib.hid hg
      clear hg
      by_cases hlt : j < l.length
      · obtain ⟨g, off, rfl, hcell⟩ := hR.at_ (zv_at hlt)
        by_cases hneg : l.getD j 0 < 0
        · have V := Lib.hid (ofV_range hv hlt (by omega))
          generalize l.getD j 0 = x at *
          go_wp2_with fail
          go_ret2
          exact ⟨by rw [V.out]; rfl, rfl⟩
        · by_cases hbig : n ≤ l.getD j 0
          · have V := Lib.hid (ofV_range hv hlt (by omega))
            generalize l.getD j 0 = x at *
            go_wp2_with fail
            go_ret2
            exact ⟨by rw [V.out]; rfl, rfl⟩
          · have HN : Hid (∀ k, k < j + 1 → 0 ≤ l.getD k 0 ∧ l.getD k 0 < n) := by
              show ∀ k, k < j + 1 → 0 ≤ l.getD k 0 ∧ l.getD k 0 < n
              intro k hk
              rcases Nat.lt_or_ge k j with h | h
              · exact HG.out k h
              · obtain rfl : k = j := by omega
                omega
            generalize l.getD j 0 = x at *
            go_wp2_with fail
            go_round
            case rel => exact ⟨j + 1, by omega, by go_num, HN.out⟩
            case measure => simp [intOf]; omega
      · obtain rfl : j = l.length := by omega
        go_wp2_with fail
        go_loop [7, 8] (fun bv i => ∃ j b : Nat, j ≤ l.length ∧ i = .int .i64 (j : Int) ∧ bv = .int .u64 (b : Int) ∧ U64 b ∧ Hid (ofr l j = some b)) (fun _ i => l.length - (intOf i).toNat)
        case atStart => exact ⟨0, 0, Nat.zero_le _, rfl, rfl, by unfold U64; decide, Lib.hid rfl⟩
        case round =>
          obtain ⟨j, b, hj, rfl, rfl, hb, hO⟩ := hrel
          by_cases hlt2 : j < l.length
          · obtain ⟨g, off, rfl, hcell⟩ := hR.at_ (zv_at hlt2)
            have hx := HG.out j hlt2
            obtain ⟨K, hK⟩ := Int.eq_ofNat_of_zero_le hx.1
            have hK64 : K < 64 := by omega
            rw [hK] at hcell
            by_cases ht : b.testBit K = true
            · have V := Lib.hid (ofV_dup hv HG.out hlt2 (ofr_hit hO.out hK ht))
              clear hx hK
              go_wp2_with (go_at_call 56; refine (has_any b K hK64 hb _).mono ?_; rintro e w' ⟨rfl, rfl⟩)
              go_ret2
              exact ⟨by rw [V.out]; rfl, rfl⟩
            · have ht0 : b.testBit K = false := by simpa using ht
              have HM := Lib.hid (ofr_miss hO.out hK ht0)
              have W1 := Lib.hid (orU b (b2 K) hb (b2_u64 hK64))
              clear hx hK ht
              go_wp2_with (first
                | (go_at_call 56; refine (has_any b K hK64 hb _).mono ?_; rintro e w' ⟨rfl, rfl⟩)
                | (go_at_call 46; refine (bit_any K hK64 _).mono ?_; rintro e w' ⟨rfl, rfl⟩))
              go_round
              case rel => exact ⟨j + 1, _, by omega, by go_num, by rw [W1.out], Bs.u64_or _ _ hb (b2_u64 hK64), HM⟩
              case measure => simp [intOf]; omega
          · obtain rfl : j = l.length := by omega
            have V := Lib.hid (ofV_ok hv HG.out hO.out)
            go_wp2_with fail
            go_ret2
            exact ⟨by rw [V.out]; rfl, rfl⟩
  · have hv0 : vl n = false := by simpa using hv
    have V := Lib.hid (ofV_len (l := l) hv0)
    clear hv
    go_enter Tryd.func39, Tryd.ntmps39
    go_wp2_with (go_at_call 16; refine (vlr_any _ _).mono ?_; rintro e w' ⟨rfl, rfl⟩)
    go_ret2
    exact ⟨by rw [V.out]; rfl, rfl⟩
end Go.Proofs.YtmbgcmhcpgdanaaDoor

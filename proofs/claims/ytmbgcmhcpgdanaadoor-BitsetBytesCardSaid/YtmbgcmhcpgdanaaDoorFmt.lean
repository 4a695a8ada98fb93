/- The program's Format. -/
import Derived.Test.YtmbgcmhcpgdanaaDoorRef
import Derived.Lib.SlBytesRow
import Derived.Laws.IdiomStrings
namespace Go.Proofs.YtmbgcmhcpgdanaaDoor
open Go.RowKit Bs

/-- The i-th character of a bit string's text. -/
def fdig (b N i : Nat) : UInt8 := if b.testBit (N - 1 - i) then 49 else 48
def fm (b N : Nat) : List UInt8 := (List.range N).map (fdig b N)
theorem fm_len (b N : Nat) : (fm b N).length = N := by unfold fm; simp
def fval (b N i : Nat) : Value := .int .u8 ((fdig b N i).toNat : Int)
/-- The row after j characters. -/
def frow (b N j : Nat) : List Value := (List.range N).map fun i => if i < j then fval b N i else .int .u8 0
theorem frow_len (b N j : Nat) : (frow b N j).length = N := by unfold frow; simp
theorem frow_at (b N j i : Nat) (h : i < N) : (frow b N j)[i]? = some (if i < j then fval b N i else .int .u8 0) := by
  unfold frow
  rw [List.getElem?_map, List.getElem?_range h]; rfl
theorem frow_set (b N j : Nat) (h : j < N) : (frow b N j).set j (fval b N j) = frow b N (j + 1) := by
  apply List.ext_getElem?
  intro i
  rw [List.getElem?_set, frow_len]
  by_cases hi : i < N
  · rw [frow_at _ _ _ _ hi, frow_at _ _ _ _ hi]
    by_cases e : j = i
    · subst e
      rw [if_pos rfl, if_pos h, if_pos (by omega)]
    · rw [if_neg e]
      by_cases hlt : i < j
      · rw [if_pos hlt, if_pos (by omega)]
      · rw [if_neg hlt, if_neg (by omega)]
  · rw [if_neg (by omega), List.getElem?_eq_none (by rw [frow_len]; omega), List.getElem?_eq_none (by rw [frow_len]; omega)]
theorem fdig_word (b N j : Nat) (hb : U64 b) : (48 + bits .and .u64 ((b : Int) / 2 ^ (N - 1 - j)) 1) % 256 = ((fdig b N j).toNat : Int) := by
  rw [bitW b _ hb]
  unfold fdig
  rw [Nat.testBit_eq_decide_div_mod_eq]
  rcases (show b / 2 ^ (N - 1 - j) % 2 = 0 ∨ b / 2 ^ (N - 1 - j) % 2 = 1 by omega) with h | h
  · rw [h]; rfl
  · rw [h]; rfl
theorem made_one (z : Value) (N : Nat) : (madeCells #[z] N).toList = (List.range N).map fun _ => z := by
  unfold madeCells
  simp [Nat.mod_one]
theorem frow_zero (b N : Nat) : (madeCells #[Value.int .u8 0] N).toList = frow b N 0 := by
  rw [made_one]
  unfold frow
  apply List.map_congr_left
  intro i _
  rw [if_neg (by omega)]
theorem frow_all (b N : Nat) : frow b N N = (fm b N).map fun c => .int .u8 (c.toNat : Int) := by
  unfold frow fm
  rw [List.map_map]
  apply List.map_congr_left
  intro i hi
  rw [if_pos (List.mem_range.1 hi)]; rfl
def FmtRel (b N : Nat) (w : World) (j : Nat) (wr : World) : Prop :=
  wr.ownsRow w.heap.size 5 1 (.slice (some ⟨w.heap.size, 0, none⟩) N N) N (frow b N j) ∧ w.grownBy wr none
theorem FmtRel.cell {b N j : Nat} {w wr : World} (h : FmtRel b N w j wr) (hj : j < N) : wr.cell? ⟨w.heap.size, j, none⟩ = some (.int .u8 0) := by
  rw [h.1.cellAt j (by omega), frow_at _ _ _ _ hj, if_neg (by omega)]
theorem FmtRel.frozen {b N j : Nat} {w wr : World} (h : FmtRel b N w j wr) : wr.frozen? ⟨w.heap.size, j, none⟩ = false := h.1.frozenAt j
theorem FmtRel.next {b N j : Nat} {w wr : World} {x : Int} (h : FmtRel b N w j wr) (hj : j < N) (hx : x = ((fdig b N j).toNat : Int)) :
    FmtRel b N w (j + 1) (wr.setCell ⟨w.heap.size, j, none⟩ (.int .u8 x)) := by
  subst hx
  obtain ⟨h1, h2⟩ := h.1.stored j (fval b N j)
  rw [frow_set b N j hj] at h1
  refine ⟨h1, ⟨h2.os.trans h.2.os, h2.tape.trans h.2.tape, h2.output.trans h.2.output, Nat.le_trans h.2.size h2.size, fun k hk _ => ?_⟩⟩
  exact (h2.block k (Nat.lt_of_lt_of_le hk h.2.size) (by simp; omega)).trans (h.2.block k hk (by simp))
theorem FmtRel.text {b N : Nat} {w wr : World} (h : FmtRel b N w N wr) :
    (convert 49 9 (.slice (some ⟨w.heap.size, 0, none⟩) N N)).run Tryd.prog wr = .ok (.string ⟨(fm b N).toArray⟩) wr := by
  have hc : ∀ j (hj : j < (fm b N).length), wr.cell? ((⟨w.heap.size, 0, none⟩ : Addr).add j) = some (.int .u8 ((fm b N)[j].toNat : Int)) := by
    intro j hj
    have hj' : j < N := by rw [fm_len] at hj; exact hj
    have hadd : (⟨w.heap.size, 0, none⟩ : Addr).add j = ⟨w.heap.size, j, none⟩ := by unfold Addr.add; split <;> simp_all
    rw [hadd, h.1.cellAt j (by omega), frow_all, List.getElem?_map, List.getElem?_eq_getElem hj]; rfl
  have := run_convert_bytes_back (P := Tryd.prog) wr 49 9 5 ⟨w.heap.size, 0, none⟩ N (fm b N) Tryd.underlying49 Tryd.underlying5 Tryd.underlying9 hc
  rw [fm_len] at this
  exact this
set_option maxHeartbeats 800000 in
theorem formatp_core (b N : Nat) (hb : U64 b) (hN : 1 ≤ N) (hN2 : N ≤ 64) (hv : vb b (N : Int) = true) (w : World) :
    Calls Tryd.prog 51 #[.int .u64 (b : Int), .int .i64 (N : Int)] w fun e w' => Nw (.string ⟨(fm b N).toArray⟩) w e w' := by
  obtain ⟨i0, hi, hz0, hz1, hz2⟩ := info_parts info_u8
  go_enter Tryd.func51, Tryd.ntmps51
  go_wp2_with (first
    | (go_at_call 19; refine (validp_any _ _ hb _).mono ?_; rintro e w' ⟨rfl, rfl⟩)
    | (at_make; refine wpList_make_full _ rfl _ _ 49 rfl w.heap.size 5 i0 (.int .u8 0) 1 Tryd.underlying49 hi hz0 hz1 .i64 .i64 _ _ N rfl rfl rfl rfl ?c1 ?c2 ?c3 ?_))
  case c1 => rw [hz2]; omega
  case c2 => unfold maxLen; omega
  case c3 => exact Nat.le_refl _
  intro w1 hown1 hg1
  have R0 : Hid (FmtRel b N w 0 w1) := by
    show FmtRel _ _ _ _ _
    exact ⟨by rw [← frow_zero b N]; exact hown1, hg1⟩
  clear hown1 hg1
  go_wp2_with fail
  go_loopw [15] (fun i wr => ∃ j : Nat, j ≤ N ∧ i = .int .i64 (j : Int) ∧ FmtRel b N w j wr) (fun i _ => N - (intOf i).toNat)
  case atStart => exact ⟨0, Nat.zero_le _, rfl, R0.out⟩
  case round =>
    obtain ⟨j, hj, rfl, hR⟩ := hrel
    by_cases hlt : j < N
    · have hcell := hR.cell hlt
      have hfz := hR.frozen
      have R := Lib.hid hR
      have D := Lib.hid (fdig_word b N j hb)
      clear hR R0
      go_wp2_with fail
      go_roundw
      case rel => exact ⟨j + 1, by omega, by go_num, R.out.next hlt D.out⟩
      case measure => simp [intOf]; omega
    · obtain rfl : j = N := by omega
      have hconv := hR.text
      have R := Lib.hid hR
      clear hR R0
      go_wp2_with fail
      go_ret
      exact ⟨rfl, R.out.2⟩
/-- The text of a bit string: empty if it isn't valid for the length. -/
def fmt (b : Nat) (n : Int) : List UInt8 := if vb b n then fm b n.toNat else []
theorem vb_vl {b : Nat} {n : Int} (h : vb b n = true) : vl n = true := by unfold vb at h; simp at h; exact h.1
set_option maxHeartbeats 400000 in
theorem formatp_any (b : Nat) (n : Int) (hb : U64 b) (w : World) :
    Calls Tryd.prog 51 #[.int .u64 (b : Int), .int .i64 n] w fun e w' => Nw (.string ⟨(fmt b n).toArray⟩) w e w' := by
  by_cases h : vb b n = true
  · obtain ⟨N, rfl, h1, h2⟩ : ∃ N : Nat, n = (N : Int) ∧ 1 ≤ N ∧ N ≤ 64 := ⟨n.toNat, by rcases vl_cases (vb_vl h) with rfl | rfl | rfl | rfl <;> exact ⟨rfl, by decide, by decide⟩⟩
    have e : fmt b (N : Int) = fm b N := by unfold fmt; rw [h, Int.toNat_natCast]; rfl
    rw [e]
    exact formatp_core b N hb h1 h2 h w
  · have hv : vb b n = false := by simpa using h
    have V : Hid (fmt b n = []) := by show fmt b n = []; unfold fmt; rw [hv]; rfl
    clear h
    go_enter Tryd.func51, Tryd.ntmps51
    go_wp2_with (go_at_call 19; refine (validp_any _ _ hb _).mono ?_; rintro e w' ⟨rfl, rfl⟩)
    go_ret
    exact ⟨by rw [V.out]; rfl, grown_refl _ _⟩
end Go.Proofs.YtmbgcmhcpgdanaaDoor

/- Split, of the program and of the reference; the statements' own comparison of lists; the chapter's examples. -/
import Derived.Test.YtmbgcmhcpgdanaaDoorFmt
namespace Go.Proofs.YtmbgcmhcpgdanaaDoor
open Go.RowKit Bs

def uval (m : Nat) : Value := .int .u64 (m : Int)
/-- What is left of b behind the first j masks, and the parts so far. -/
def rst (b : Nat) (ms : List Nat) : Nat → Nat
  | 0 => b
  | j + 1 => rst b ms j &&& (18446744073709551615 - ms.getD j 0)
def prts (b : Nat) (ms : List Nat) : Nat → List Nat
  | 0 => []
  | j + 1 => prts b ms j ++ [rst b ms j &&& ms.getD j 0]
theorem prts_len (b : Nat) (ms : List Nat) : ∀ j, (prts b ms j).length = j
  | 0 => rfl
  | j + 1 => by rw [prts, List.length_append, prts_len b ms j]; rfl
theorem rst_u64 {b : Nat} (ms : List Nat) (hb : U64 b) : ∀ j, U64 (rst b ms j)
  | 0 => hb
  | j + 1 => u64_and_le _ _ (rst_u64 ms hb j)
theorem uv_at {ms : List Nat} {j : Nat} (h : j < ms.length) : (ms.map uval)[j]? = some (.int .u64 ((ms.getD j 0 : Nat) : Int)) := by
  rw [List.getElem?_map, List.getElem?_eq_getElem h, List.getD_eq_getElem?_getD, List.getElem?_eq_getElem h]; rfl
theorem u64_getD {ms : List Nat} (h : ∀ m ∈ ms, U64 m) (j : Nat) : U64 (ms.getD j 0) := by
  rw [List.getD_eq_getElem?_getD]
  cases hj : ms[j]? with
  | none => unfold U64; decide
  | some m => exact h m (List.mem_of_getElem? hj)
def mk (ms : List Nat) (j : Nat) : Nat := ms.getD j 0

def SplitRel (b : Nat) (ms : List Nat) (w : World) (v : Value) (j : Nat) (wr : World) : Prop :=
  wr.ownsRow w.heap.size 23 1 v (prts b ms j).length ((prts b ms j).map uval) ∧ w.grownBy wr none
theorem split_hit {b j : Nat} {ms : List Nat} {w wr w1 : World} {v v' : Value} {o : Obj} {x : Int} (h : SplitRel b ms w v j wr) (hx : x = ((rst b ms j &&& mk ms j : Nat) : Int))
    (hown' : w1.ownsRow w.heap.size 23 1 v' ((prts b ms j).length + 1) ((prts b ms j).map uval ++ [.int .u64 x])) (hg : (wr.alloc o).grownBy w1 v.ownBlock) : SplitRel b ms w v' (j + 1) w1 := by
  subst hx
  refine ⟨?_, own_step h.2 h.1 hg⟩
  rw [prts, List.length_append, List.map_append]
  exact hown'
def SplitPost (b : Nat) (ms : List Nat) (w : World) (e : Ending) (w' : World) : Prop :=
  ∃ v, e = .returned (.tuple #[v, .int .u64 ((rst b ms ms.length : Nat) : Int)]) ∧ Rd w' (w.heap.size ≤ ·) v ((prts b ms ms.length).map uval) ∧ w.grownBy w' none
theorem and_word {b m : Nat} (hb : U64 b) (hm : U64 m) : bits .and .u64 (b : Int) (m : Int) = ((b &&& m : Nat) : Int) := andU b m hb hm
theorem rst_word {b j : Nat} {ms : List Nat} (hb : U64 b) (hm : U64 (mk ms j)) : bits .andNot .u64 ((rst b ms j : Nat) : Int) ((mk ms j : Nat) : Int) = ((rst b ms (j + 1) : Nat) : Int) := by
  rw [andNotU _ _ (rst_u64 ms hb j) hm]; rfl
set_option maxHeartbeats 800000 in
theorem splitp_any (b : Nat) (ms : List Nat) (q : Nat → Prop) (p : Option Addr) (c : Nat) (hb : U64 b) (hms : ∀ m ∈ ms, U64 m) (hl : ms.length ≤ 1000) (w : World) (hR : Rd w q (.slice p ms.length c) (ms.map uval)) :
    Calls Tryd.prog 40 #[.int .u64 (b : Int), .slice p ms.length c] w fun e w' => SplitPost b ms w e w' := by
  obtain ⟨i0, hi, hz0, hz1, hz2⟩ := info_parts info_u64
  go_enter Tryd.func40, Tryd.ntmps40
  go_wp2_with (at_make; refine wpList_make_own _ rfl _ _ 29 rfl w.heap.size 23 i0 (.int .u64 0) 1 Tryd.underlying29 hi hz0 hz1 .i64 .i64 _ ms.length rfl rfl rfl ?c1 ?c2 ?c3 ?_)
  case c1 => rw [hz2]; omega
  case c2 => unfold maxLen; omega
  case c3 => exact Nat.le_refl _
  intro w1 hown1 hg1
  have R0 := Lib.hid (⟨hown1, hg1⟩ : SplitRel b ms w _ 0 w1)
  clear hown1 hg1
  go_wp2_with fail
  go_loopw [4, 5, 14] (fun v r i wr => ∃ j : Nat, j ≤ ms.length ∧ i = .int .i64 (j : Int) ∧ r = .int .u64 ((rst b ms j : Nat) : Int) ∧ SplitRel b ms w v j wr) (fun _ _ i _ => ms.length - (intOf i).toNat)
  case atStart => exact ⟨0, Nat.zero_le _, rfl, rfl, R0.out⟩
  case round =>
    obtain ⟨j, hj, rfl, rfl, hS⟩ := hrel
    have hsz := hS.2.size
    have hlen : (prts b ms j).length ≤ 1000 := by rw [prts_len]; omega
    by_cases hlt : j < ms.length
    · obtain ⟨g, off, rfl, hcell0⟩ := (hR.keep hS.2).at_ (uv_at hlt)
      have hcell : wr.cell? ⟨g, off + j, none⟩ = some (.int .u64 ((mk ms j : Nat) : Int)) := hcell0
      have hown := hS.1
      have hS' := Lib.hid hS
      have hm : U64 (mk ms j) := u64_getD hms j
      have W1 := Lib.hid (and_word (rst_u64 ms hb j) hm)
      have W2 := Lib.hid (rst_word (ms := ms) (j := j) hb hm)
      clear hS R0 hcell0
      go_wp2_with (at_builtin; refine wpList_append_own _ rfl _ _ 29 rfl w.heap.size 23 i0 (.int .u64 0) 1 8 Tryd.underlying29 hi hz0 hz1 hz2 rfl (by decide) _ _ _ rfl (hown.alloc _) ⟨wr.heap.size, 0, none⟩ 1 1 [.int .u64 (bits .and .u64 ((rst b ms j : Nat) : Int) ((mk ms j : Nat) : Int))] rfl rfl ?c1 ?c2 ?c3 ?c4 ?c5 ?_)
      case c1 => exact cell_one _ _ _
      case c2 => intro u hu; simp at hu; subst hu; rfl
      case c3 => unfold maxLen; omega
      case c4 => omega
      case c5 => simp; omega
      intro v' w2 hown' hg _
      have R := Lib.hid (split_hit hS'.out W1.out hown' hg)
      clear hown' hg hown hS'
      go_wp2_with fail
      go_roundw
      case rel => exact ⟨j + 1, by omega, by go_num, by rw [W2.out], R.out⟩
      case measure => simp [intOf]; omega
    · obtain rfl : j = ms.length := by omega
      have S := Lib.hid hS
      clear hS R0
      go_wp2_with fail
      go_ret2
      exact ⟨_, rfl, rd_of_own S.out.1, S.out.2⟩

set_option maxHeartbeats 800000 in
theorem splitr_any (b : Nat) (ms : List Nat) (q : Nat → Prop) (p : Option Addr) (c : Nat) (hb : U64 b) (hms : ∀ m ∈ ms, U64 m) (hl : ms.length ≤ 1000) (w : World) (hR : Rd w q (.slice p ms.length c) (ms.map uval)) :
    Calls Tryd.prog 41 #[.int .u64 (b : Int), .slice p ms.length c] w fun e w' => SplitPost b ms w e w' := by
  obtain ⟨i0, hi, hz0, hz1, hz2⟩ := info_parts info_u64
  go_enter Tryd.func41, Tryd.ntmps41
  go_wp2_with fail
  go_loopw [0, 6, 7] (fun r v i wr => ∃ j : Nat, j ≤ ms.length ∧ i = .int .i64 (j : Int) ∧ r = .int .u64 ((rst b ms j : Nat) : Int) ∧ SplitRel b ms w v j wr) (fun _ _ i _ => ms.length - (intOf i).toNat)
  case atStart => exact ⟨0, Nat.zero_le _, rfl, rfl, World.ownsRow_nil _ _ _ _, grown_refl _ _⟩
  case round =>
    obtain ⟨j, hj, rfl, rfl, hS⟩ := hrel
    have hsz := hS.2.size
    have hlen : (prts b ms j).length ≤ 1000 := by rw [prts_len]; omega
    by_cases hlt : j < ms.length
    · obtain ⟨g, off, rfl, hcell0⟩ := (hR.keep hS.2).at_ (uv_at hlt)
      have hcell : wr.cell? ⟨g, off + j, none⟩ = some (.int .u64 ((mk ms j : Nat) : Int)) := hcell0
      have hown := hS.1
      have hS' := Lib.hid hS
      have hm : U64 (mk ms j) := u64_getD hms j
      have W1 := Lib.hid (and_word (rst_u64 ms hb j) hm)
      have W2 := Lib.hid (rst_word (ms := ms) (j := j) hb hm)
      have hgw : g < wr.heap.size := World.block_lt_of_cell? wr _ hcell
      clear hS hcell0
      go_wp2_with (at_builtin; refine wpList_append_own _ rfl _ _ 29 rfl w.heap.size 23 i0 (.int .u64 0) 1 8 Tryd.underlying29 hi hz0 hz1 hz2 rfl (by decide) _ _ _ rfl (hown.alloc _) ⟨wr.heap.size, 0, none⟩ 1 1 [.int .u64 (bits .and .u64 ((rst b ms j : Nat) : Int) ((mk ms j : Nat) : Int))] rfl rfl ?c1 ?c2 ?c3 ?c4 ?c5 ?_)
      case c1 => exact cell_one _ _ _
      case c2 => intro u hu; simp at hu; subst hu; rfl
      case c3 => unfold maxLen; omega
      case c4 => omega
      case c5 => simp; omega
      intro v' w2 hown' hg _
      have hS2 := split_hit hS'.out W1.out hown' hg
      obtain ⟨_, _, e2, hcell2⟩ := (hR.keep hS2.2).at_ (uv_at hlt)
      injection e2 with e2
      injection e2 with e3 e4
      subst e3; subst e4
      have hcell3 : w2.cell? ⟨g, off + j, none⟩ = some (.int .u64 ((mk ms j : Nat) : Int)) := hcell2
      have R := Lib.hid hS2
      clear hown' hg hown hS' hS2 hcell2 hcell
      go_wp2_with fail
      go_roundw
      case rel => exact ⟨j + 1, by omega, by go_num, by rw [W2.out], R.out⟩
      case measure => simp [intOf]; omega
    · obtain rfl : j = ms.length := by omega
      have S := Lib.hid hS
      clear hS
      go_wp2_with fail
      go_ret2
      exact ⟨_, rfl, rd_of_own S.out.1, S.out.2⟩

set_option maxHeartbeats 800000 in
/-- The statements' comparison of two lists of ints: equal ones. -/
theorem ints_eq (xs : List Nat) (hl : xs.length ≤ 1000) (q q' : Nat → Prop) (p p' : Option Addr) (c c' : Nat) (w : World) (h1 : Rd w q (.slice p xs.length c) (xs.map ival)) (h2 : Rd w q' (.slice p' xs.length c') (xs.map ival)) :
    Calls Tryd.prog 27 #[.slice p xs.length c, .slice p' xs.length c'] w fun e w' => e = .returned (.bool true) ∧ ∃ n, w' = w.drewN n := by
  go_enter Tryd.func27, Tryd.ntmps27
  go_wp2_with fail
  go_loopw [5] (fun i wr => ∃ j n : Nat, j ≤ xs.length ∧ i = .int .i64 (j : Int) ∧ wr = w.drewN n) (fun i _ => xs.length - (intOf i).toNat)
  case atStart => exact ⟨0, 0, Nat.zero_le _, rfl, rfl⟩
  case round =>
    obtain ⟨j, n, hj, rfl, rfl⟩ := hrel
    by_cases hlt : j < xs.length
    · have hx : (xs.map ival)[j]? = some (.int .i64 ((xs.getD j 0 : Nat) : Int)) := by
        rw [List.getElem?_map, List.getElem?_eq_getElem hlt, List.getD_eq_getElem?_getD, List.getElem?_eq_getElem hlt]; rfl
      obtain ⟨g, off, rfl, hc1⟩ := h1.at_ hx
      obtain ⟨g', off', rfl, hc2⟩ := h2.at_ hx
      clear hx
      generalize xs.getD j 0 = x at hc1 hc2
      go_wp2_with fail
      go_quiet (fail)
      go_wp2_with fail
      go_roundw
      case rel => exact ⟨j + 1, _, by omega, by go_num, rfl⟩
      case measure => simp [intOf]; omega
    · go_wp2_with fail
      go_ret
      exact ⟨rfl, n, rfl⟩
end Go.Proofs.YtmbgcmhcpgdanaaDoor

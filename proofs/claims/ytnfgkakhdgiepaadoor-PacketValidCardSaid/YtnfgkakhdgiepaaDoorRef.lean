/- The reference's functions on bits: Count, Nth, First, Rank, Spread, Gather. -/
import Derived.Test.YtnfgkakhdgiepaaDoorFuns
namespace Go.Proofs.YtnfgkakhdgiepaaDoor
open Go.RowKit Bs

/-- The call returned v and made memory alone. -/
def Nw (v : Value) (w : World) (e : Ending) (w' : World) : Prop := e = .returned v ∧ w.grownBy w' none
set_option maxRecDepth 100000 in
theorem Rd.form {w : World} {q : Nat → Prop} {v : Value} {vs : List Value} {n : Nat} (h : Rd w q v vs) (hn : vs.length = n) : ∃ p c, v = .slice p n c := by
  obtain ⟨p, c, hv, _⟩ := h
  exact ⟨p, c, by rw [hv, hn]⟩
set_option maxRecDepth 100000 in
theorem Rd.at1_ {w : World} {q : Nat → Prop} {p : Option Addr} {n c : Nat} {vs : List Value} {i : Nat} {x : Value} (h : Rd w q (.slice p n c) vs) (hi : vs[i]? = some x) :
    ∃ b off, p = some ⟨b, off, none⟩ ∧ w.cell? ⟨b, off + i, none⟩ = some x := by
  obtain ⟨p', c', hv, hc⟩ := h
  injection hv with e1 e2 e3
  subst e1
  obtain ⟨b, off, hp, _, hx⟩ := hc (by intro e; rw [e] at hi; simp at hi)
  exact ⟨b, off, hp, hx i x hi⟩
set_option maxRecDepth 100000 in
theorem bl_map_len (b : Nat) : ((bl b).map ival).length = cnt b := by rw [List.length_map]; rfl
set_option maxRecDepth 100000 in
theorem bl_map_at {b i k : Nat} (h : (bl b)[i]? = some k) : ((bl b).map ival)[i]? = some (.int .i64 (k : Int)) := by rw [List.getElem?_map, h]; rfl
set_option maxRecDepth 100000 in
theorem bl_at {b i : Nat} (h : i < cnt b) : ∃ k, (bl b)[i]? = some k ∧ k < 64 := by
  have h' : i < (bl b).length := h
  exact ⟨(bl b)[i], List.getElem?_eq_getElem h', bl_lt (List.getElem_mem h')⟩

set_option maxRecDepth 100000 in
set_option maxHeartbeats 400000 in
theorem nthr_any (b : Nat) (n : Int) (hb : U64 b) (w : World) :
    Calls Tryd.prog 87 #[.int .u64 (b : Int), .int .i64 n] w fun e w' => Nw (.int .i64 (nth b n)) w e w' := by
  have hc64 := cnt_le b
  by_cases hneg : n < 0
  · have V := Lib.hid (nth_neg (b := b) hneg)
    go_enter Tryd.func87, Tryd.ntmps87
    go_wp2_with fail
    refine (listr_any b hb _).mono ?_
    rintro e w1 ⟨v, rfl, hR, hg⟩
    obtain ⟨p, c, rfl⟩ := hR.form (bl_map_len b)
    go_wp2_with fail
    go_ret
    exact ⟨ret_int (by rw [V.out]), hg⟩
  · by_cases hfar : (cnt b : Int) ≤ n
    · have V := Lib.hid (nth_far hfar)
      go_enter Tryd.func87, Tryd.ntmps87
      go_wp2_with fail
      refine (listr_any b hb _).mono ?_
      rintro e w1 ⟨v, rfl, hR, hg⟩
      obtain ⟨p, c, rfl⟩ := hR.form (bl_map_len b)
      go_wp2_with fail
      go_ret
      exact ⟨ret_int (by rw [V.out]), hg⟩
    · obtain ⟨N, rfl⟩ := Int.eq_ofNat_of_zero_le (show 0 ≤ n by omega)
      have hN : N < cnt b := by omega
      obtain ⟨k, hk, _⟩ := bl_at hN
      have V := Lib.hid (nth_at hk)
      have n1 : decide ((N : Int) < 0) = false := by simp
      have n2 : decide (cnt b ≤ N) = false := by simp; omega
      clear hfar hneg
      go_enter Tryd.func87, Tryd.ntmps87
      go_wp2_with fail
      refine (listr_any b hb _).mono ?_
      rintro e w1 ⟨v, rfl, hR, hg⟩
      obtain ⟨p, c, rfl⟩ := hR.form (bl_map_len b)
      obtain ⟨g, off, rfl, hcell⟩ := hR.at1_ (bl_map_at hk)
      go_wp2_with fail
      go_ret
      exact ⟨ret_int (by rw [V.out]), hg⟩

set_option maxRecDepth 100000 in
theorem nth_zero (b : Nat) (hb : U64 b) : nth b 0 = fst b := by
  by_cases h0 : b = 0
  · subst h0; decide +kernel
  · rw [fst_pos h0]; exact nth_at (bl_head h0 hb.lt)
set_option maxRecDepth 100000 in
set_option maxHeartbeats 400000 in
theorem firstr_any (b : Nat) (hb : U64 b) (w : World) :
    Calls Tryd.prog 30 #[.int .u64 (b : Int)] w fun e w' => Nw (.int .i64 (fst b)) w e w' := by
  have V := Lib.hid (nth_zero b hb)
  go_enter Tryd.func30, Tryd.ntmps30
  go_wp2_with fail
  refine (nthr_any b 0 hb _).mono ?_
  rintro e w1 ⟨rfl, hg⟩
  go_wp2_with fail
  go_ret
  exact ⟨ret_int (by rw [V.out]), hg⟩

set_option maxRecDepth 100000 in
theorem rk_step_t {b j : Nat} (h : b.testBit j = true) : (blN (j + 1) b).length = (blN j b).length + 1 := by rw [bl_snoc_t h]; simp
def rkN (j b : Nat) : Nat := (blN j b).length
set_option maxRecDepth 100000 in
theorem rkN_le (j b : Nat) : rkN j b ≤ j := blN_length_le j b
set_option maxRecDepth 100000 in
theorem rkN_t {b j : Nat} (h : b.testBit j = true) : rkN (j + 1) b = rkN j b + 1 := rk_step_t h
set_option maxRecDepth 100000 in
theorem rkN_f {b j : Nat} (h : b.testBit j = false) : rkN (j + 1) b = rkN j b := by unfold rkN; rw [bl_snoc_f h]
set_option maxRecDepth 100000 in
theorem put_t (k : Nat) : put true k = b2 k := rfl
set_option maxRecDepth 100000 in
theorem put_f (k : Nat) : put false k = 0 := rfl
set_option maxRecDepth 100000 in
theorem spr_hit {x b j k : Nat} (hk : (bl b)[j]? = some k) (ht : x.testBit j = true) (h64 : k < 64) :
    bits .or .u64 ((spr x (bl b) j : Nat) : Int) ((b2 k : Nat) : Int) = ((spr x (bl b) (j + 1) : Nat) : Int) := by
  rw [orU _ _ (spr_u64 x b j) (b2_u64 h64), spr_next hk, ht]; rfl
set_option maxRecDepth 100000 in
theorem spr_miss {x j : Nat} {l : List Nat} (ht : x.testBit j = false) : spr x l (j + 1) = spr x l j := by
  rw [spr, ht, put_f]; simp
set_option maxRecDepth 100000 in
theorem gat_hit {x b j k : Nat} (hk : (bl b)[j]? = some k) (ht : x.testBit k = true) (h64 : j < 64) :
    bits .or .u64 ((gat x (bl b) j : Nat) : Int) ((b2 j : Nat) : Int) = ((gat x (bl b) (j + 1) : Nat) : Int) := by
  rw [orU _ _ (gat_u64 x _ j (by omega)) (b2_u64 h64), gat_next hk, ht]; rfl
set_option maxRecDepth 100000 in
theorem gat_miss {x j k : Nat} {l : List Nat} (hk : l[j]? = some k) (ht : x.testBit k = false) : gat x l (j + 1) = gat x l j := by
  rw [gat_next hk, ht, put_f]; simp
end Go.Proofs.YtnfgkakhdgiepaaDoor

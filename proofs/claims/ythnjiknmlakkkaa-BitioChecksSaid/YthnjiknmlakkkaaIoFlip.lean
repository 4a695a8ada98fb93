/- A bit of a stream is turned. -/
import Derived.Test.YthnjiknmlakkkaaIoPut
namespace Go.Proofs.Ythnjiknmlakkkaa
open Go.RowKit Bs
/-- The bytes with bit a turned. -/
def flp (l : List Nat) (a : Nat) : List Nat := l.set (a / 8) (l.getD (a / 8) 0 ^^^ 2 ^ (7 - a % 8))
theorem flp_len (l : List Nat) (a : Nat) : (flp l a).length = l.length := by unfold flp; rw [List.length_set]
theorem flp_by {l : List Nat} {a : Nat} (h : By l) (ha : a / 8 < l.length) : By (flp l a) := by
  intro x hx
  rcases List.mem_or_eq_of_mem_set hx with hx | rfl
  · exact h x hx
  · exact Nat.xor_lt_two_pow (n := 8) (h.at_ ha) (Nat.pow_lt_pow_right (by decide) (by omega))
theorem flp_bt {l : List Nat} {a i : Nat} (ha : a / 8 < l.length) : bt (flp l a) i = (bt l i != decide (i = a)) := by
  unfold bt flp
  by_cases h : a / 8 = i / 8
  · rw [← h, List.getD_eq_getElem?_getD, List.getElem?_set_self ha, Option.getD_some, Nat.testBit_xor, Nat.testBit_two_pow]
    congr 1
    rw [decide_eq_decide]; omega
  · rw [List.getD_eq_getElem?_getD, List.getElem?_set_ne h, ← List.getD_eq_getElem?_getD]
    have : ¬ i = a := by rintro rfl; exact h rfl
    simp [this]
theorem shr128 (k : Nat) (h : k ≤ 7) : (128 : Int) / 2 ^ k = ((2 ^ (7 - k) : Nat) : Int) := by
  rcases (show k = 0 ∨ k = 1 ∨ k = 2 ∨ k = 3 ∨ k = 4 ∨ k = 5 ∨ k = 6 ∨ k = 7 by omega) with rfl | rfl | rfl | rfl | rfl | rfl | rfl | rfl <;> rfl
theorem flip_word {x k : Nat} (hx : x < 256) (h : k ≤ 7) : bits .xor .u8 (x : Int) ((128 : Int) / 2 ^ k) = ((x ^^^ 2 ^ (7 - k) : Nat) : Int) := by
  rw [shr128 k h, u8_xor_nat x _ hx (Nat.pow_lt_pow_right (n := 8) (by decide) (by omega))]
theorem PutAt.stored2 {w wr : World} {m : Nat} {v0 : Value} {L L' : List Nat} {g n cap j x : Nat} (h : PutAt w m v0 (.slice (some ⟨g, 0, none⟩) n cap) L wr) (hn : n = L.length) (hL : L' = L.set j x) :
    PutAt w m v0 (.slice (some ⟨g, 0, none⟩) n cap) L' (wr.setCell ⟨g, j, none⟩ (nv x)) := by
  subst hL
  subst hn
  obtain ⟨k1, k2⟩ := h.own.stored j (nv x)
  exact h.next k2 (L' := L.set j x) (v' := .slice (some ⟨g, 0, none⟩) L.length cap) (by rw [List.length_set]) (by rw [List.map_set]; exact k1)
set_option maxHeartbeats 1600000 in
theorem flip_any (l : List Nat) (N a : Nat) (q : Nat → Prop) (p : Option Addr) (c : Nat) (hl : By l) (hll : l.length ≤ 2000) (ha : a < 8 * l.length) (hN : N ≤ 100000) (hpc : p = none → c = 0) (w : World) (hR : Rd w q (.slice p l.length c) (l.map nv)) :
    Calls Try.prog 34 #[.agg #[.slice p l.length c, .int .i64 (N : Int)], .int .i64 (a : Int)] w fun e w' => StreamPost (flp l a) (N : Int) w e w' := by
  obtain ⟨i0, hi, hz0, hz1, hz2⟩ := info_parts info_u8
  obtain ⟨k1, k2, k3, k4⟩ := two_boxes w #[.slice p l.length c, .int .i64 (N : Int)] #[.slice none 0 0, .int .i64 0] 25 25
  have K := Lib.hid (And.intro k1 (And.intro k2 (And.intro k3 k4)))
  have hown0 := World.ownsRow_lit (w := ((w.alloc (.cells #[.slice p l.length c, .int .i64 (N : Int)] 25)).alloc (.cells #[.slice none 0 0, .int .i64 0] 25))) (base := w.heap.size + 2) (e := 5) (size := 1) #[] 0 (by rw [k4]; exact Nat.le_refl _) (by unfold maxLen; omega) rfl
  rw [k4] at hown0
  have hga := World.grownBy_alloc ((w.alloc (.cells #[.slice p l.length c, .int .i64 (N : Int)] 25)).alloc (.cells #[.slice none 0 0, .int .i64 0] 25)) (.cells #[] 5) none
  have hR2 := (hR.keep k3).keep hga
  have HOWN0 := Lib.hid hown0
  have HGA := Lib.hid hga
  clear hR k1 k2 k3 k4 hown0 hga
  go_enter Try.func34, Try.ntmps34
  go_wp2_with (at_builtin; refine wpList_append_rd rfl _ _ rfl (w.heap.size + 2) _ 0 [] rfl HOWN0.out p l.length c l rfl rfl q hR2 hpc ?c1 ?c2 ?_)
  case c1 => omega
  intro v1 w1 hown1 hg1
  have P0 : PutAt w N (.slice p l.length c) v1 l w1 := by
    obtain ⟨k1, k2, k3, k4⟩ := K.out
    have hg1' : World.grownBy _ w1 (some (w.heap.size + 2)) := hg1
    refine ⟨kept_row (kept_row k1 HGA.out (by exact nofun)) hg1' (by intro e; have := Option.some.inj e; omega), kept_row (kept_row k2 HGA.out (by exact nofun)) hg1' (by intro e; have := Option.some.inj e; omega), ?_, grown_new (grown_trans k3 HGA.out) hg1' (by omega), ?_⟩
    · simpa using hown1
    · have := HGA.out.size; rw [k4] at this; exact Nat.le_trans this hg1'.size
  clear hown1 hg1 hR2 K HOWN0 HGA
  obtain ⟨g, cap, rfl, hgb⟩ := own_form P0.own (by omega)
  obtain ⟨c0, c1⟩ := row_cells P0.b0
  obtain ⟨e0, e1⟩ := row_cells P0.b1
  have f0 := frozen_of_row _ _ 0 _ _ P0.b1
  have f1 := frozen_of_row _ _ 1 _ _ P0.b1
  have hal : a / 8 < l.length := by omega
  have hcell : w1.cell? ⟨g, a / 8, none⟩ = some (.int .u8 ((l.getD (a / 8) 0 : Nat) : Int)) := by
    rw [P0.own.cellAt (a / 8) (by omega)]; exact nv_at hal
  have hfz := P0.own.frozenAt (a / 8)
  have hx := hl.at_ hal
  obtain ⟨k, hk⟩ : ∃ k : Nat, a % 8 = k := ⟨_, rfl⟩
  have hk7 : k ≤ 7 := by omega
  have hki : (a : Int) % 8 = (k : Int) := by omega
  have ha9 : a ≤ 16000 := by omega
  obtain ⟨y, hy⟩ : ∃ y : Nat, y = l.getD (a / 8) 0 ^^^ 2 ^ (7 - a % 8) := ⟨_, rfl⟩
  have O : Hid (bits .xor .u8 ((l.getD (a / 8) 0 : Nat) : Int) ((128 : Int) / 2 ^ k) = (y : Int)) := by
    show _ = _
    rw [hy, hk]; exact flip_word hx hk7
  have P2 := P0.stored2 (x := y) (j := a / 8) (L' := flp l a) rfl (by rw [hy]; rfl)
  have H2 := Lib.hid P2
  have HBY := Lib.hid (flp_by hl hal)
  clear P0 P2 hk hy
  generalize l.getD (a / 8) 0 = x at *
  have q1 : ¬ g = w.heap.size := by omega
  have q2 : ¬ g = w.heap.size + 1 := by omega
  go_wp2_with fail
  rw [O.out]
  refine bodyPost_ret (res_stream rfl _ _ (w.heap.size + 1) _ _ rfl (store2 H2.out.b1)) rfl ?_
  exact H2.out.ends HBY.out
end Go.Proofs.Ythnjiknmlakkkaa

/- The program's functions on bits: List, Nth, Rank, Spread, Gather. -/
import Derived.Test.YtmbgcmhcpgdanaaDoorMem
import Derived.Test.YtmbgcmhcpgdanaaDoorFull
import Derived.OwnWalk
namespace Go.Proofs.YtmbgcmhcpgdanaaDoor
open Go.RowKit Bs

theorem Tb.grown {w w' : World} {r : Option Nat} (h : Tb w) (g : w.grownBy w' r) (hr : r ≠ some 0) : Tb w' := by
  intro j hj
  exact g.cell (h j hj) (fun e => hr e.symm)
theorem Tb.keep {w w' : World} (h : Tb w) (g : w.grownBy w' none) : Tb w' := h.grown g (by simp)

theorem fst_pos {c : Nat} (h : c ≠ 0) : fst c = ((Lib.ctz 64 c : Nat) : Int) := by unfold fst; rw [if_neg h]

/-- The j lowest bits. -/
def tk (b j : Nat) : List Nat := (bl b).take j
theorem tk_le (b j : Nat) : (tk b j).length ≤ 64 := by unfold tk; rw [List.length_take]; have := bl_length_le b; omega
def ListRel (b : Nat) (w : World) (v : Value) (c j : Nat) (wr : World) : Prop :=
  Strip b c j ∧ wr.ownsRow w.heap.size 3 1 v (tk b j).length ((tk b j).map ival) ∧ w.grownBy wr none
theorem list_hit {b c j : Nat} {w wr w1 : World} {v v' : Value} {o : Obj} (h : ListRel b w v c j wr) (h0 : c ≠ 0)
    (hown' : w1.ownsRow w.heap.size 3 1 v' ((tk b j).length + 1) ((tk b j).map ival ++ [.int .i64 (fst c)])) (hg : (wr.alloc o).grownBy w1 v.ownBlock) : ListRel b w v' (wo c) (j + 1) w1 := by
  obtain ⟨h1, h2⟩ := h.1.step h0
  refine ⟨h1, ?_, own_step h.2.2 h.2.1 hg⟩
  unfold tk at hown' ⊢
  rw [take_next h2, List.length_append, List.map_append]
  rw [fst_pos h0] at hown'
  exact hown'
set_option maxHeartbeats 800000 in
theorem listp_any (b : Nat) (hb : U64 b) (w : World) (hT : Tb w) :
    Calls Tryd.prog 28 #[.int .u64 (b : Int)] w fun e w' => ListPost ((bl b).map ival) w e w' := by
  obtain ⟨i0, hi, hz0, hz1, hz2⟩ := info_parts info_int
  have hle := cnt_le b
  go_enter Tryd.func28, Tryd.ntmps28
  go_wp2_with (first
    | (go_at_call 23; refine (countp_any _ hb _).mono ?_; rintro e w' ⟨rfl, rfl⟩)
    | (at_make; refine wpList_make_own _ rfl _ _ 22 rfl w.heap.size 3 i0 (.int .i64 0) 1 Tryd.underlying22 hi hz0 hz1 .i64 .i64 _ (cnt b) rfl rfl rfl ?c1 ?c2 ?c3 ?_))
  case c1 => rw [hz2]; omega
  case c2 => unfold maxLen; omega
  case c3 => exact Nat.le_refl _
  intro w1 hown1 hg1
  have R0 := Lib.hid (⟨Strip.start hb, hown1, hg1⟩ : ListRel b w _ b 0 w1)
  clear hown1 hg1
  go_wp2_with fail
  go_loopw [0, 3] (fun x v wr => ∃ c j : Nat, x = .int .u64 (c : Int) ∧ ListRel b w v c j wr) (fun x _ _ => (intOf x).toNat)
  case atStart => exact ⟨b, 0, rfl, R0.out⟩
  case round =>
    obtain ⟨c, j, rfl, hR⟩ := hrel
    have hTr : Tb wr := hT.keep hR.2.2
    have hcu := hR.1.1
    have hlen := tk_le b j
    have hsz := hR.2.2.size
    by_cases h0 : c = 0
    · subst h0
      have R := Lib.hid hR
      clear hR R0
      go_wp2_with fail
      go_ret
      have hd := R.out.1.done
      have ho := R.out.2.1
      unfold tk at ho
      rw [hd] at ho
      exact ⟨_, rfl, rd_of_own ho, R.out.2.2⟩
    · have hz : (((c : Nat) : Int) != 0) = true := by simp; omega
      have hown := hR.2.1
      have hR' := Lib.hid hR
      have h0' := Lib.hid h0
      have hlt := wo_lt h0
      clear hR h0 R0
      go_wp2_with (first
        | (go_at_call 25; refine (firstp_any _ hcu _ hTr).mono ?_; rintro e w' ⟨rfl, rfl⟩)
        | (at_builtin; refine wpList_append_own _ rfl _ _ 22 rfl w.heap.size 3 i0 (.int .i64 0) 1 8 Tryd.underlying22 hi hz0 hz1 hz2 rfl (by decide) _ _ _ rfl (hown.alloc _) ⟨wr.heap.size, 0, none⟩ 1 1 [.int .i64 (fst c)] rfl rfl ?c1 ?c2 ?c3 ?c4 ?c5 ?_))
      case c1 => exact cell_one _ _ _
      case c2 => intro u hu; simp at hu; subst hu; rfl
      case c3 => unfold maxLen; omega
      case c4 => omega
      case c5 => simp; omega
      intro v' w2 hown' hg _
      have R := Lib.hid (list_hit hR'.out h0'.out hown' hg)
      clear hown' hg hown hR' h0'
      go_wp2_with (go_at_call 62; refine (wo_any _ hcu _).mono ?_; rintro e w' ⟨rfl, rfl⟩)
      go_roundw
      case rel => exact ⟨_, j + 1, rfl, R.out⟩
      case measure => simp [intOf]; omega
set_option maxHeartbeats 400000 in
theorem firstp_pos (c : Nat) (hc : U64 c) (h0 : c ≠ 0) (w : World) (hT : Tb w) :
    Calls Tryd.prog 25 #[.int .u64 (c : Int)] w fun e w' => e = .returned (.int .i64 ((Lib.ctz 64 c : Nat) : Int)) ∧ w = w' := by
  have := firstp_any c hc w hT
  rwa [fst_pos h0] at this

set_option maxHeartbeats 800000 in
theorem nthp_any (b : Nat) (n : Int) (hb : U64 b) (hn : I64 n) (w : World) (hT : Tb w) :
    Calls Tryd.prog 30 #[.int .u64 (b : Int), .int .i64 n] w fun e w' => e = .returned (.int .i64 (nth b n)) ∧ w = w' := by
  by_cases hneg : n < 0
  · have V := Lib.hid (nth_neg (b := b) hneg)
    go_enter Tryd.func30, Tryd.ntmps30
    go_wp2_with fail
    go_ret
    exact ⟨ret_int (by rw [V.out]), rfl⟩
  · by_cases hfar : (cnt b : Int) ≤ n
    · have V := Lib.hid (nth_far hfar)
      go_enter Tryd.func30, Tryd.ntmps30
      go_wp2_with (go_at_call 23; refine (countp_any _ hb _).mono ?_; rintro e w' ⟨rfl, rfl⟩)
      go_ret
      exact ⟨ret_int (by rw [V.out]), rfl⟩
    · obtain ⟨N, rfl⟩ := Int.eq_ofNat_of_zero_le (show 0 ≤ n by omega)
      have hN : N < cnt b := by omega
      have hc64 := cnt_le b
      have n1 : decide ((N : Int) < 0) = false := by simp
      have n2 : decide (cnt b ≤ N) = false := by simp; omega
      clear hfar hn hneg
      go_enter Tryd.func30, Tryd.ntmps30
      go_wp2_with (go_at_call 23; refine (countp_any _ hb _).mono ?_; rintro e w' ⟨rfl, rfl⟩)
      go_loop [0, 14] (fun x i => ∃ c j : Nat, j ≤ N ∧ x = .int .u64 (c : Int) ∧ i = .int .i64 (j : Int) ∧ Strip b c j) (fun _ i => N - (intOf i).toNat)
      case atStart => exact ⟨b, 0, Nat.zero_le _, rfl, rfl, Strip.start hb⟩
      case round =>
        obtain ⟨c, j, hj, rfl, rfl, hR⟩ := hrel
        have hcu := hR.1
        have hne : c ≠ 0 := hR.more (by omega)
        obtain ⟨hS, hat⟩ := hR.step hne
        have HS := Lib.hid hS
        have HA := Lib.hid hat
        have HN := Lib.hid hne
        clear hR hS hat hne
        by_cases hlt : j < N
        · go_wp2_with (go_at_call 62; refine (wo_any _ hcu _).mono ?_; rintro e w' ⟨rfl, rfl⟩)
          go_round
          case rel => exact ⟨_, j + 1, by omega, rfl, by go_num, HS.out⟩
          case measure => simp [intOf]; omega
        · go_wp2_with (go_at_call 25; refine (firstp_pos _ hcu HN.out _ hT).mono ?_; rintro e w' ⟨rfl, rfl⟩)
          go_ret
          obtain rfl : j = N := by omega
          exact ⟨ret_int (nth_at HA.out).symm, rfl⟩

theorem lo_word (k : Nat) (hk : k ≤ 63) : IntKind.u64.wrap (IntKind.u64.wrap (2 ^ k) - 1) = ((lo k : Nat) : Int) := by
  rw [pow_word k (by omega)]
  have h := (b2_u64 (k := k) (by omega)).lt
  have h0 : 0 < 2 ^ k := Nat.pow_pos (by decide)
  unfold b2 at h ⊢
  unfold lo
  rw [IntKind.wrap_u64]; omega
set_option maxHeartbeats 800000 in
theorem rankp_any (b : Nat) (k : Int) (hb : U64 b) (w : World) :
    Calls Tryd.prog 32 #[.int .u64 (b : Int), .int .i64 k] w fun e w' => e = .returned (.int .i64 ((rk b k : Nat) : Int)) ∧ w = w' := by
  by_cases hneg : k < 0
  · have V := Lib.hid (rk_neg (b := b) hneg)
    go_enter Tryd.func32, Tryd.ntmps32
    go_wp2_with fail
    go_ret
    exact ⟨ret_int (by rw [V.out]; rfl), rfl⟩
  · by_cases hfar : 63 < k
    · have V := Lib.hid (rk_far (b := b) hfar)
      go_enter Tryd.func32, Tryd.ntmps32
      go_wp2_with (go_at_call 23; refine (countp_any _ hb _).mono ?_; rintro e w' ⟨rfl, rfl⟩)
      go_ret
      exact ⟨ret_int (by rw [V.out]), rfl⟩
    · obtain ⟨N, rfl⟩ := Int.eq_ofNat_of_zero_le (show 0 ≤ k by omega)
      have hN : N ≤ 63 := by omega
      have V := Lib.hid (rk_mid (b := b) hN)
      have W := Lib.hid (lo_word N hN)
      have A := Lib.hid (andU b (lo N) hb (lo_u64 (by omega)))
      clear hfar hneg
      go_enter Tryd.func32, Tryd.ntmps32
      go_wp2_with fail
      rw [W.out, A.out]
      refine (countp_any _ (u64_and_le b _ hb) _).mono ?_
      rintro e w' ⟨rfl, rfl⟩
      go_wp2_with fail
      go_ret
      exact ⟨ret_int (by rw [V.out]), rfl⟩

set_option maxHeartbeats 800000 in
theorem spreadp_any (x b : Nat) (hx : U64 x) (hb : U64 b) (w : World) (hT : Tb w) :
    Calls Tryd.prog 42 #[.int .u64 (x : Int), .int .u64 (b : Int)] w fun e w' => e = .returned (.int .u64 ((spread x b : Nat) : Int)) ∧ w = w' := by
  have Z := Lib.hid (sh_zero x)
  go_enter Tryd.func42, Tryd.ntmps42
  go_wp2_with fail
  go_loop [0, 1, 5] (fun y m r => ∃ c j : Nat, y = .int .u64 ((sh x j : Nat) : Int) ∧ m = .int .u64 (c : Int) ∧ r = .int .u64 ((spr x (bl b) j : Nat) : Int) ∧ Strip b c j) (fun _ m _ => (intOf m).toNat)
  case atStart => exact ⟨b, 0, by rw [Z.out], rfl, rfl, Strip.start hb⟩
  case round =>
    obtain ⟨c, j, rfl, rfl, rfl, hR⟩ := hrel
    have hcu := hR.1
    by_cases h0 : c = 0
    · subst h0
      have R := Lib.hid hR
      clear hR
      go_wp2_with fail
      go_ret
      exact ⟨ret_int (by rw [R.out.end_]; rfl), rfl⟩
    · have hz : (((c : Nat) : Int) != 0) = true := by simp; omega
      obtain ⟨hS, hat⟩ := hR.step h0
      have hk : Lib.ctz 64 c < 64 := bl_lt (List.mem_of_getElem? hat)
      have HW := Lib.hid (spread_word (spr x (bl b) j) x j _ (spr_u64 x b j) hx hk)
      have HS := Lib.hid hS
      have HA := Lib.hid hat
      have h0' := Lib.hid h0
      have hlt := wo_lt h0
      have H2 := Lib.hid (sh_half x j)
      clear hR hS hat h0
      go_wp2_with (first
        | (go_at_call 25; refine (firstp_pos _ hcu h0'.out _ hT).mono ?_; rintro e w' ⟨rfl, rfl⟩)
        | (go_at_call 62; refine (wo_any _ hcu _).mono ?_; rintro e w' ⟨rfl, rfl⟩))
      go_round
      case rel =>
        refine ⟨_, j + 1, ?_, rfl, ?_, HS.out⟩
        · rw [H2.out]
        · rw [HW.out, spr_next HA.out]
      case measure => simp [intOf]; omega
set_option maxHeartbeats 800000 in
theorem gatherp_any (x b : Nat) (hx : U64 x) (hb : U64 b) (w : World) (hT : Tb w) :
    Calls Tryd.prog 43 #[.int .u64 (x : Int), .int .u64 (b : Int)] w fun e w' => e = .returned (.int .u64 ((gather x b : Nat) : Int)) ∧ w = w' := by
  have hc64 := cnt_le b
  go_enter Tryd.func43, Tryd.ntmps43
  go_wp2_with fail
  go_loop [1, 5, 6] (fun m r i => ∃ c j : Nat, m = .int .u64 (c : Int) ∧ r = .int .u64 ((gat x (bl b) j : Nat) : Int) ∧ i = .int .i64 (j : Int) ∧ Strip b c j) (fun m _ _ => (intOf m).toNat)
  case atStart => exact ⟨b, 0, rfl, rfl, rfl, Strip.start hb⟩
  case round =>
    obtain ⟨c, j, rfl, rfl, rfl, hR⟩ := hrel
    have hcu := hR.1
    by_cases h0 : c = 0
    · subst h0
      have R := Lib.hid hR
      clear hR
      go_wp2_with fail
      go_ret
      exact ⟨ret_int (by rw [R.out.end_]; rfl), rfl⟩
    · have hz : (((c : Nat) : Int) != 0) = true := by simp; omega
      obtain ⟨hS, hat⟩ := hR.step h0
      have hk : Lib.ctz 64 c < 64 := bl_lt (List.mem_of_getElem? hat)
      have hj : j < 64 := by have := hS.2.2; omega
      have HW := Lib.hid (gather_word (gat x (bl b) j) x j (Lib.ctz 64 c) (gat_u64 x (bl b) j (by omega)) hx hj)
      have HS := Lib.hid hS
      have HA := Lib.hid hat
      have h0' := Lib.hid h0
      have hlt := wo_lt h0
      clear hR hS hat h0
      go_wp2_with (first
        | (go_at_call 25; refine (firstp_pos _ hcu h0'.out _ hT).mono ?_; rintro e w' ⟨rfl, rfl⟩)
        | (go_at_call 62; refine (wo_any _ hcu _).mono ?_; rintro e w' ⟨rfl, rfl⟩))
      go_round
      case rel => exact ⟨_, j + 1, rfl, by rw [HW.out, gat_next HA.out], by go_num, HS.out⟩
      case measure => simp [intOf]; omega
end Go.Proofs.YtmbgcmhcpgdanaaDoor

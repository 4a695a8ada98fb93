/- The tape's wild numbers, spoilt numbers, lists of numbers. -/
import Derived.Test.YtmbgcmhcpgdanaaDoorOf
import Derived.Test.YtmbgcmhcpgdanaaDoorDraw
namespace Go.Proofs.YtmbgcmhcpgdanaaDoor
open Go.RowKit Bs
def wilds : List Int := [-1, 0, 1, 7, 8, 23, 24, 31, 32, 63, 64, 99, 100, 255, 256, 257, 1000, 1001, 1023, 1024, 1000000, 1000001, 1099511627776, 9223372036854775807, -9223372036854775808]
theorem wilds_i64 : ∀ x ∈ wilds, I64 x := by unfold I64 wilds; decide +kernel
set_option maxRecDepth 100000 in
set_option maxHeartbeats 800000 in
theorem wild_any (a : Nat) (w : World) (hT : Tp w a) :
    Calls Tryd.prog 37 #[.pointer (some ⟨a, 0, none⟩)] w fun e w' => IntPost I64 a w e w' := by
  have HA := among_list I64 w a wilds (wilds.map fun x => Value.int .i64 x).toArray 3 hT.lt rfl wilds_i64
  have HA' := Lib.hid HA
  clear HA
  go_enter Tryd.func37, Tryd.ntmps37
  go_wp2_with fail
  refine (pick_any I64 a _ 0 25 25 (by omega) (by omega) _ (hT.alloc _) HA'.out).mono ?_
  rintro e w1 ⟨r, rfl, hr, hs⟩
  go_wp2_with fail
  go_ret
  exact ⟨_, rfl, hr, hs.alloc_left⟩
set_option maxHeartbeats 800000 in
theorem spoil_any (a : Nat) (x n : Int) (hx : I64 x) (hn : I64 n) (hn0 : 0 < n) (w : World) (hT : Tp w a) :
    Calls Tryd.prog 34 #[.pointer (some ⟨a, 0, none⟩), .int .i64 x, .int .i64 n] w fun e w' => IntPost I64 a w e w' := by
  go_enter Tryd.func34, Tryd.ntmps34
  go_wp2_with fail
  refine (one_any a n hn _ hT).mono ?_
  rintro e w1 ⟨b, rfl, hs⟩
  cases b
  · go_wp2_with fail
    go_ret
    exact ⟨_, rfl, hx, hs⟩
  · go_wp2_with fail
    refine (wild_any a _ hs.2).mono ?_
    rintro e w2 ⟨r, rfl, hr, hs2⟩
    go_wp2_with fail
    go_ret
    exact ⟨_, rfl, hr, hs.trans hs2⟩
def IntsRel (a most : Nat) (w : World) (v : Value) (k : Nat) (wr : World) : Prop :=
  ∃ l : List Int, l.length + k ≤ most ∧ wr.ownsRow w.heap.size 3 1 v l.length (l.map zval) ∧ St a w wr
theorem IntsRel.open_ {a most k : Nat} {w wr : World} {v : Value} (h : IntsRel a most w v k wr) : ∃ l : List Int, l.length + k ≤ most ∧ wr.ownsRow w.heap.size 3 1 v l.length (l.map zval) ∧ St a w wr := h
def IntsPost (a most : Nat) (w : World) (e : Ending) (w' : World) : Prop := ∃ v, e = .returned v ∧ IntsRel a most w v 0 w'
theorem own_block_ne {w wr : World} {e : TypeId} {v : Value} {n a : Nat} {xs : List Value} (h : wr.ownsRow w.heap.size e 1 v n xs) (ha : a < w.heap.size) : v.ownBlock = none ∨ v.ownBlock ≠ some a := by
  cases hv : v.ownBlock with
  | none => exact .inl rfl
  | some g =>
    right
    intro e2
    have e3 := Option.some.inj e2
    have := (h.lt g hv).1
    omega
/-- A row of the call's own is appended to: the tape stands. -/
theorem st_append {a : Nat} {w wr w1 : World} {o : Obj} {v : Value} {n : Nat} {e : TypeId} {xs : List Value} (hs : St a w wr) (ha : a < w.heap.size) (hown : wr.ownsRow w.heap.size e 1 v n xs) (hg : (wr.alloc o).grownBy w1 v.ownBlock) : St a w w1 := by
  have hT := hs.2.alloc o
  have hlt := hT.lt
  have hne : some a ≠ v.ownBlock := by
    rcases own_block_ne hown ha with h | h
    · rw [h]; simp
    · exact fun e => h e.symm
  refine ⟨⟨hg.os.trans hs.1.os, hg.tape.trans hs.1.tape, hg.output.trans hs.1.output, Nat.le_trans hs.1.size (Nat.le_trans (by simp) hg.size), fun k hk hka => ?_⟩, ?_⟩
  · have hks : k < wr.heap.size := Nat.lt_of_lt_of_le hk hs.1.size
    refine (hg.block k (by simp; omega) (fun e => ?_)).trans ((Below.heap_alloc wr o k hks).trans (hs.1.block k hk hka))
    have := (hown.lt k e.symm).1
    omega
  · have hb := hg.block a hlt hne
    have hal := hs.2.lt
    obtain ⟨lv, m, i, T⟩ := hT
    refine ⟨lv, m, i, (World.cell?_of_block (a := ⟨a, 0, none⟩) hb).trans T.l, (World.cell?_of_block (a := ⟨a, 1, none⟩) hb).trans T.p, (World.frozen?_of_block (a := ⟨a, 1, none⟩) hb).trans T.fr, ?_, T.le, T.len⟩
    obtain ⟨p, c, hv, hc⟩ := T.ints
    refine ⟨p, c, hv, fun hm => ?_⟩
    obtain ⟨b, off, hp, hba, hx⟩ := hc hm
    refine ⟨b, off, hp, hba, fun i hi => ?_⟩
    obtain ⟨x, hx, hcell⟩ := hx i hi
    refine ⟨x, hx, hg.cell hcell (fun e => ?_)⟩
    have := (hown.lt b e.symm).1
    omega
/-- A row of the call's own stands while the tape turns. -/
theorem own_kept {a : Nat} {w wr w1 : World} {v : Value} {n : Nat} {e : TypeId} {xs : List Value} (ha : a < w.heap.size) (hown : wr.ownsRow w.heap.size e 1 v n xs) (g : wr.grownBy w1 (some a)) : w1.ownsRow w.heap.size e 1 v n xs :=
  hown.kept g (own_block_ne hown ha)
set_option maxHeartbeats 1600000 in
theorem ints_any (a : Nat) (most : Nat) (low high : Int) (hm : most ≤ 1000) (h1 : -1099511627776 ≤ low) (h2 : low ≤ 1099511627776) (h3 : -1099511627776 ≤ high) (h4 : high ≤ 1099511627776) (w : World) (hT : Tp w a) :
    Calls Tryd.prog 35 #[.pointer (some ⟨a, 0, none⟩), .int .i64 (most : Int), .int .i64 low, .int .i64 high] w fun e w' => IntsPost a most w e w' := by
  obtain ⟨i0, hi, hz0, hz1, hz2⟩ := info_parts info_int
  have ha := hT.lt
  go_enter Tryd.func35, Tryd.ntmps35
  go_wp2_with fail
  refine (range_any a 0 (most : Int) (by omega) (by omega) (by omega) (by omega) _ hT).mono ?_
  rintro e w1 ⟨r, rfl, hr, hs1⟩
  obtain ⟨K, rfl⟩ := Int.eq_ofNat_of_zero_le hr.1
  have hK : K ≤ most := by unfold RangeOf at hr; omega
  have L0 : Hid (IntsRel a most w (.slice none 0 0) K w1) := Lib.hid ⟨[], by simpa using hK, World.ownsRow_nil _ _ _ _, hs1⟩
  clear hr hs1
  go_wp2_with fail
  go_loopw [9, 10] (fun v i wr => ∃ k : Nat, k ≤ most ∧ i = .int .i64 (k : Int) ∧ IntsRel a most w v k wr) (fun _ i _ => (intOf i).toNat)
  case atStart => exact ⟨K, hK, rfl, L0.out⟩
  case round =>
    obtain ⟨k, hk, rfl, hL⟩ := hrel
    by_cases hk1 : 1 ≤ k
    · obtain ⟨l, hlk, hown0, hs⟩ := hL.open_
      clear hL L0
      go_wp2_with fail
      refine (range_any a low high h1 h2 h3 h4 _ hs.2).mono ?_
      rintro e w2 ⟨x, rfl, hx, hs2⟩
      have hown := own_kept ha hown0 hs2.1
      have HS := Lib.hid (hs.trans hs2)
      have HO := Lib.hid hown
      have hsz := HS.out.1.size
      have hll : l.length ≤ 1000 := by omega
      have HLK := Lib.hid hlk
      clear hx hs hs2 hown0
      go_wp2_with (at_builtin; refine wpList_append_own _ rfl _ _ 22 rfl w.heap.size 3 i0 (.int .i64 0) 1 8 Tryd.underlying22 hi hz0 hz1 hz2 rfl (by decide) _ _ _ rfl (hown.alloc _) ⟨w2.heap.size, 0, none⟩ 1 1 [.int .i64 x] rfl rfl ?c1 ?c2 ?c3 ?c4 ?c5 ?_)
      case c1 => exact cell_one _ _ _
      case c2 => intro u hu; simp at hu; subst hu; rfl
      case c3 => unfold maxLen; omega
      case c4 => omega
      case c5 => simp; omega
      intro v' w3 hown' hg _
      have R : Hid (IntsRel a most w v' (k - 1) w3) := by
        have e1 := st_append HS.out ha HO.out hg
        exact Lib.hid ⟨l ++ [x], by rw [List.length_append]; have := HLK.out; simp; omega, by rw [List.length_append, List.map_append]; exact hown', e1⟩
      clear hown' hg hown
      go_wp2_with fail
      go_roundw
      case rel => exact ⟨k - 1, by omega, by congr 1; omega, R.out⟩
      case measure => simp [intOf]; omega
    · obtain rfl : k = 0 := by omega
      have HL := Lib.hid hL
      clear hL L0
      go_wp2_with fail
      go_ret
      exact ⟨_, rfl, HL.out⟩
end Go.Proofs.YtmbgcmhcpgdanaaDoor

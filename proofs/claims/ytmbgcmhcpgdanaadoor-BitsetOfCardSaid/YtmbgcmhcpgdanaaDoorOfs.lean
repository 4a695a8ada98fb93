/- BitsetOf: the walk. -/
import Derived.Test.YtmbgcmhcpgdanaaDoorWild
namespace Go.Proofs.YtmbgcmhcpgdanaaDoor
open Go.RowKit Bs
/-- A list that the statement has drawn: at most 7 numbers, in memory of the call's own. -/
def Drawn (a : Nat) (w : World) (v : Value) (wr : World) : Prop := ∃ l : List Int, l.length ≤ 7 ∧ Rd wr (a < ·) v (l.map zval) ∧ St a w wr
theorem drawn_of {a most : Nat} {w w0 wr : World} {v : Value} (h : IntsRel a most w v 0 wr) (hm : most ≤ 7) (ha : a < w.heap.size) (h0 : St a w0 w) : Drawn a w0 v wr := by
  obtain ⟨l, hl, hown, hs⟩ := h
  exact ⟨l, by omega, (rd_of_own hown).mono (fun b hb => by omega), h0.trans hs⟩
theorem OfPost.ends {l : List Int} {n : Int} {w w' : World} {e : Ending} (h : OfPost l n w e w') : ∃ (x : Nat) (y : Int), e = .returned (.tuple #[.int .u64 (x : Int), .int .i64 y]) ∧ Hid (ofV l n = (x, y)) ∧ w = w' :=
  ⟨(ofV l n).1, (ofV l n).2, h.1, Lib.hid rfl, h.2⟩
theorem OfPost.same {l : List Int} {n : Int} {w w' : World} {e : Ending} {x : Nat} {y : Int} (hv : Hid (ofV l n = (x, y))) (h : OfPost l n w e w') : e = .returned (.tuple #[.int .u64 (x : Int), .int .i64 y]) ∧ w = w' := by
  obtain ⟨h1, h2⟩ := h
  rw [hv.out] at h1
  exact ⟨h1, h2⟩
set_option maxRecDepth 100000 in
set_option maxHeartbeats 1600000 in
theorem ofs_walk (v : Value) (zs : List Int) (p2 : Option Addr) (c2 : Nat) (n : Int) (hl2 : zs.length ≤ 9223372036854775807) (w : World) (hv : IntsIn w v) (hR2 : Rd w (· < w.heap.size) (.slice p2 zs.length c2) (zs.map zval)) (hT : Tb w) :
    Calls Tryd.prog 5 #[v, .slice p2 zs.length c2, .int .i64 n] w fun e w' => Nw (.bool true) w e w' := by
  obtain ⟨i0, hi, hz0, hz1, hz2⟩ := info_parts info_int
  go_enter Tryd.func5, Tryd.ntmps5
  go_wp2_with fail
  refine (new_any v w hv).mono ?_
  rintro e w1 ⟨rfl, hg1, hT1⟩
  go_wp2_with fail
  refine (length_any _ _ hT1).mono ?_
  rintro e w2 ⟨r1, rfl, hr1, hs2⟩
  have hr1' : I64 r1 := by rcases vl_cases hr1 with rfl | rfl | rfl | rfl <;> (unfold I64; omega)
  clear hr1
  go_wp2_with fail
  refine (spoil_any _ r1 6 hr1' (by unfold I64; omega) (by omega) _ hs2.2).mono ?_
  rintro e w3 ⟨len, rfl, hlen, hs3⟩
  go_wp2_with fail
  refine (ints_any _ 6 0 9 (by omega) (by omega) (by omega) (by omega) (by omega) _ hs3.2).mono ?_
  rintro e w4 ⟨lv, rfl, hI4⟩
  have ha3 := hs3.2.lt
  have s13 := hs2.trans hs3
  obtain ⟨l0, hl0, hown4, hs4⟩ := hI4.open_
  go_wp2_with fail
  refine (one_any _ 4 (by unfold I64; omega) _ hs4.2).mono ?_
  rintro e w5 ⟨b5, rfl, hs5⟩
  have hown5 := own_kept ha3 hown4 hs5.1
  have s35 := hs4.trans hs5
  clear hs2 hs3 hI4 hown4 hs4 hs5 hr1' hlen
  have tail : ∀ (lv : Value) (W : World) (hD : Drawn w.heap.size w1 lv W), ∃ (l : List Int) (p : Option Addr) (c : Nat), lv = .slice p l.length c ∧ l.length ≤ 9223372036854775807 ∧ Rd W (w.heap.size < ·) (.slice p l.length c) (l.map zval) ∧ Hid (w.grownBy W none) ∧ Tb W ∧ Rd W (· < w.heap.size) (.slice p2 zs.length c2) (zs.map zval) := by
    rintro lv W ⟨l, hl, hR, hS⟩
    obtain ⟨p, c, rfl⟩ := hR.form (n := l.length) (by rw [List.length_map])
    have g := grown_tape hg1 hS.1
    exact ⟨l, p, c, rfl, by omega, hR, Lib.hid g, hT.keep g, hR2.keep g⟩
  cases b5
  · have D : Drawn w.heap.size w1 lv w5 := ⟨l0, by omega, (rd_of_own hown5).mono (fun b hb => by omega), s13.trans s35⟩
    obtain ⟨l, p, c, rfl, hll, hRl, HG, hTb, hRr⟩ := tail _ _ D
    clear D tail hown5 s13 s35 hT hR2
    go_wp2_with fail
    refine (ofp_any l len _ p c hll _ hRl).mono ?_
    intro e w' h
    obtain ⟨x, y, rfl, hxy, rfl⟩ := h.ends
    clear h
    go_wp2_with fail
    refine (ofr_any l len _ p c hll _ hRl).mono ?_
    intro e w' h
    obtain ⟨rfl, rfl⟩ := h.same hxy
    go_wp2_with fail
    refine (ofp_any zs n _ p2 c2 hl2 _ hRr).mono ?_
    intro e w' h
    obtain ⟨x2, y2, rfl, hxy2, rfl⟩ := h.ends
    clear h
    go_wp2_with fail
    refine (ofr_any zs n _ p2 c2 hl2 _ hRr).mono ?_
    intro e w' h
    obtain ⟨rfl, rfl⟩ := h.same hxy2
    by_cases hbig : 300 < zs.length
    · go_wp2_with fail
      refine (awake_any _ hTb).mono ?_
      rintro e w' ⟨rfl, hg⟩
      go_wp2_with fail
      go_ret
      exact ⟨rfl, grown_trans HG.out hg⟩
    · go_wp2_with fail
      refine (awake_any _ hTb).mono ?_
      rintro e w' ⟨rfl, hg⟩
      go_wp2_with fail
      go_ret
      exact ⟨rfl, grown_trans HG.out hg⟩
  · go_wp2_with fail
    refine (wild_any _ _ s35.2).mono ?_
    rintro e w6 ⟨x6, rfl, hx6, hs6⟩
    have hown6 := own_kept ha3 hown5 hs6.1
    have HO := Lib.hid hown6
    have s36 := s35.trans hs6
    have hsz := s36.1.size
    have hl6 : l0.length ≤ 6 := by omega
    clear hs6 hown5 s35 hx6
    go_wp2_with (at_builtin; refine wpList_append_own _ rfl _ _ 22 rfl w3.heap.size 3 i0 (.int .i64 0) 1 8 Tryd.underlying22 hi hz0 hz1 hz2 rfl (by decide) _ _ _ rfl (hown6.alloc _) ⟨w6.heap.size, 0, none⟩ 1 1 [.int .i64 x6] rfl rfl ?c1 ?c2 ?c3 ?c4 ?c5 ?_)
    case c1 => exact cell_one _ _ _
    case c2 => intro u hu; simp at hu; subst hu; rfl
    case c3 => unfold maxLen; omega
    case c4 => omega
    case c5 => simp; omega
    intro v7 w7 hown7 hg7 _
    have D : Drawn w.heap.size w1 v7 w7 := ⟨l0 ++ [x6], by rw [List.length_append]; simp; omega, by rw [List.map_append]; exact (rd_of_own hown7).mono (fun b hb => by omega), s13.trans (st_append s36 ha3 HO.out hg7)⟩
    obtain ⟨l, p, c, rfl, hll, hRl, HG, hTb, hRr⟩ := tail _ _ D
    clear D tail hown6 hown7 hg7 s13 s36 hT hR2
    go_wp2_with fail
    refine (ofp_any l len _ p c hll _ hRl).mono ?_
    intro e w' h
    obtain ⟨x, y, rfl, hxy, rfl⟩ := h.ends
    clear h
    go_wp2_with fail
    refine (ofr_any l len _ p c hll _ hRl).mono ?_
    intro e w' h
    obtain ⟨rfl, rfl⟩ := h.same hxy
    go_wp2_with fail
    refine (ofp_any zs n _ p2 c2 hl2 _ hRr).mono ?_
    intro e w' h
    obtain ⟨x2, y2, rfl, hxy2, rfl⟩ := h.ends
    clear h
    go_wp2_with fail
    refine (ofr_any zs n _ p2 c2 hl2 _ hRr).mono ?_
    intro e w' h
    obtain ⟨rfl, rfl⟩ := h.same hxy2
    by_cases hbig : 300 < zs.length
    · go_wp2_with fail
      refine (awake_any _ hTb).mono ?_
      rintro e w' ⟨rfl, hg⟩
      go_wp2_with fail
      go_ret
      exact ⟨rfl, grown_trans HG.out hg⟩
    · go_wp2_with fail
      refine (awake_any _ hTb).mono ?_
      rintro e w' ⟨rfl, hg⟩
      go_wp2_with fail
      go_ret
      exact ⟨rfl, grown_trans HG.out hg⟩
theorem ofs_all (v v2 : Value) (zs : List Int) (n : Int) (w : World) (hv : IntsIn w v) (hr : Rd w (· < w.heap.size) v2 (zs.map fun z => .int .i64 z)) (hs : ∃ p c, v2 = .slice p zs.length c ∧ zs.length ≤ c ∧ c ≤ 9223372036854775807) (hT : Tb w) :
    Calls Tryd.prog 5 #[v, v2, .int .i64 n] w fun e w' => Nw (.bool true) w e w' := by
  obtain ⟨p, c, rfl, h1, h2⟩ := hs
  exact ofs_walk v zs p c n (Nat.le_trans h1 h2) w hv hr hT
end Go.Proofs.YtmbgcmhcpgdanaaDoor

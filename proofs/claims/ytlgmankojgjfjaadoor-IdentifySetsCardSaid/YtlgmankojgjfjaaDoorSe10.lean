/- Parts of the proof, packed: Spread, Full, Funs, IoOrder, ToOrdM, ToTopK. -/
import Derived.Test.YtlgmankojgjfjaaDoorSe1
import Derived.Deep.LoopGhost
import Derived.OwnWalk
import Derived.Test.YtlgmankojgjfjaaDoorSe2
import Derived.Test.YtlgmankojgjfjaaDoorSe3
import Derived.Deep.AppendLies
import Derived.Deep.Onto
import Derived.Laws.OwnMore
/- Spread, Gather, Nth, Rank as plain functions of numbers. No program is named here. -/
namespace Go.Proofs.YtlgmankojgjfjaaDoor
open Go.RowKit
namespace Bs
def cnt (b : Nat) : Nat := (bl b).length
set_option maxRecDepth 100000 in
theorem cnt_le (b : Nat) : cnt b ≤ 64 := bl_length_le b
/-- A bit put to a place. -/
def put (t : Bool) (k : Nat) : Nat := if t then b2 k else 0
/-- c is b without its j lowest bits. -/
def Strip (b c j : Nat) : Prop := U64 c ∧ bl c = (bl b).drop j ∧ j ≤ cnt b
set_option maxRecDepth 100000 in
theorem Strip.start {b : Nat} (h : U64 b) : Strip b b 0 := ⟨h, rfl, Nat.zero_le _⟩
set_option maxRecDepth 100000 in
theorem Strip.step {b c j : Nat} (h : Strip b c j) (h0 : c ≠ 0) : Strip b (wo c) (j + 1) ∧ (bl b)[j]? = some (Lib.ctz 64 c) := by
  have hc := bl_wo h0 h.1.lt
  rw [h.2.1] at hc
  have h1 : (bl b)[j]? = some (Lib.ctz 64 c) := by
    have := congrArg (fun l => l[0]?) hc
    simpa using this
  refine ⟨⟨u64_wo c h.1, ?_, (List.getElem?_eq_some_iff.1 h1).1⟩, h1⟩
  have := congrArg List.tail hc
  rw [List.tail_drop] at this
  simpa using this.symm
set_option maxRecDepth 100000 in
theorem Strip.end_ {b j : Nat} (h : Strip b 0 j) : j = cnt b := by
  have h1 := h.2.1
  rw [bl_zero] at h1
  have := congrArg List.length h1
  rw [List.length_drop] at this
  have h2 := h.2.2
  unfold cnt at h2 ⊢
  simp at this
  omega
set_option maxRecDepth 100000 in
theorem Strip.more {b c j : Nat} (h : Strip b c j) (hj : j < cnt b) : c ≠ 0 := by
  rintro rfl
  have := h.end_
  omega
set_option maxRecDepth 100000 in
theorem Strip.done {b j : Nat} (h : Strip b 0 j) : (bl b).take j = bl b := by
  rw [h.end_]; exact List.take_length
set_option maxRecDepth 100000 in
theorem take_next {l : List Nat} {j x : Nat} (h : l[j]? = some x) : l.take (j + 1) = l.take j ++ [x] := by
  rw [List.take_add_one, h]; rfl
set_option maxRecDepth 100000 in
theorem compl_test {f : Nat} (h : U64 f) (i : Nat) : (18446744073709551615 - f).testBit i = (decide (i < 64) && !f.testBit i) := by
  have := Nat.testBit_two_pow_sub_succ h.pow i
  rw [← this]
  congr 1
  have := h.lt
  omega
set_option maxRecDepth 100000 in
theorem and_compl (z : Nat) {f : Nat} (h : U64 f) : (z &&& f) &&& (18446744073709551615 - f) = 0 := by
  apply Nat.eq_of_testBit_eq
  intro i
  rw [Nat.testBit_and, Nat.testBit_and, compl_test h, Nat.zero_testBit]
  cases f.testBit i <;> simp
end Bs
end Go.Proofs.YtlgmankojgjfjaaDoor

/- Full, Valid, Count, First, Rank of the program; Full, Valid of the reference. -/
namespace Go.Proofs.YtlgmankojgjfjaaDoor
open Go.RowKit Bs

/-- All bits below a valid length. -/
def full (n : Int) : Nat := if vl n then lo n.toNat else 0
set_option maxRecDepth 100000 in
theorem full_false {n : Int} (h : vl n = false) : full n = 0 := by unfold full; rw [h]; rfl
set_option maxRecDepth 100000 in
theorem full_true {n : Int} (h : vl n = true) : full n = lo n.toNat := by unfold full; rw [h]; rfl
set_option maxRecDepth 100000 in
theorem full_u64 (n : Int) : U64 (full n) := by
  by_cases h : vl n = true
  · rcases vl_cases h with rfl | rfl | rfl | rfl <;> (unfold U64; decide +kernel)
  · rw [full_false (by simpa using h)]; unfold U64; decide
set_option maxRecDepth 100000 in
set_option maxHeartbeats 400000 in
theorem fullr_any (n : Int) (w : World) :
    Calls Tryd.prog 36 #[.int .i64 n] w fun e w' => e = .returned (.int .u64 ((full n : Nat) : Int)) ∧ w = w' := by
  by_cases h : vl n = true
  · have hv := h
    obtain ⟨N, rfl⟩ : ∃ N : Nat, n = (N : Int) := ⟨n.toNat, by rcases vl_cases h with rfl | rfl | rfl | rfl <;> rfl⟩
    have hN : N ≤ 64 := by rcases vl_cases h with h | h | h | h <;> omega
    have V := Lib.hid (full_true h)
    clear h
    go_enter Tryd.func36, Tryd.ntmps36
    go_wp2_with (go_at_call 57; refine (vlr_any _ _).mono ?_; rintro e w' ⟨rfl, rfl⟩)
    go_loop [3, 4] (fun b k => ∃ j : Nat, j ≤ N ∧ k = .int .i64 (j : Int) ∧ b = .int .u64 ((lo j : Nat) : Int)) (fun _ k => N - (RowKit.intOf k).toNat)
    case atStart => exact ⟨0, Nat.zero_le _, rfl, rfl⟩
    case round =>
      obtain ⟨j, hj, rfl, rfl⟩ := hrel
      by_cases hlt : j < N
      · have hj64 : j < 64 := by omega
        have O := Lib.hid (or_lo j hj64)
        go_wp2_with (go_at_call 14; refine (bit_any _ hj64 _).mono ?_; rintro e w' ⟨rfl, rfl⟩)
        go_round
        case rel => exact ⟨j + 1, by omega, by go_num, by rw [O.out]⟩
        case measure => simp [RowKit.intOf]; omega
      · go_wp2_with fail
        go_ret
        have hjN : j = N := by omega
        exact ⟨ret_int (by rw [V.out, hjN]; rfl), rfl⟩
  · have hv : vl n = false := by simpa using h
    have V := Lib.hid (full_false hv)
    clear h
    go_enter Tryd.func36, Tryd.ntmps36
    go_wp2_with (go_at_call 57; refine (vlr_any _ _).mono ?_; rintro e w' ⟨rfl, rfl⟩)
    go_ret
    exact ⟨ret_int (by rw [V.out]; rfl), rfl⟩

/-- Is the bit string valid for the length? -/
def vb (b : Nat) (n : Int) : Bool := vl n && b &&& (18446744073709551615 - full n) == 0
set_option maxRecDepth 100000 in
set_option maxHeartbeats 400000 in
theorem countp_any (b : Nat) (hb : U64 b) (w : World) :
    Calls Tryd.prog 59 #[.int .u64 (b : Int)] w fun e w' => e = .returned (.int .i64 ((cnt b : Nat) : Int)) ∧ w = w' := by
  go_enter Tryd.func59, Tryd.ntmps59
  go_wp2_with (go_at_call 71; refine (ones_any _ hb _).mono ?_; rintro e w' ⟨rfl, rfl⟩)
  go_ret
  exact ⟨rfl, rfl⟩
/-- The lowest bit, -1 if there is none. -/
def fst (b : Nat) : Int := if b = 0 then -1 else ((Lib.ctz 64 b : Nat) : Int)
set_option maxRecDepth 100000 in
set_option maxHeartbeats 400000 in
theorem firstp_any (b : Nat) (hb : U64 b) (w : World) (hT : Tb w) :
    Calls Tryd.prog 61 #[.int .u64 (b : Int)] w fun e w' => e = .returned (.int .i64 (fst b)) ∧ w = w' := by
  by_cases h0 : b = 0
  · subst h0
    go_enter Tryd.func61, Tryd.ntmps61
    go_wp2
    go_ret
    exact ⟨rfl, rfl⟩
  · have hz : ((b : Int) == 0) = false := by simp; omega
    have F : Hid (fst b = ((Lib.ctz 64 b : Nat) : Int)) := by show fst b = _; unfold fst; rw [if_neg h0]
    clear h0
    go_enter Tryd.func61, Tryd.ntmps61
    go_wp2_with (go_at_call 72; refine (tz_any _ hb _ hT).mono ?_; rintro e w' ⟨rfl, rfl⟩)
    go_ret
    exact ⟨ret_int (by rw [F.out]), rfl⟩
end Go.Proofs.YtlgmankojgjfjaaDoor

/- The program's functions on bits: List, Nth, Rank, Spread, Gather. -/
namespace Go.Proofs.YtlgmankojgjfjaaDoor
open Go.RowKit Bs

set_option maxRecDepth 100000 in
theorem Tb.grown {w w' : World} {r : Option Nat} (h : Tb w) (g : w.grownBy w' r) (hr : r ≠ some 0) : Tb w' := by
  intro j hj
  exact g.cell (h j hj) (fun e => hr e.symm)
set_option maxRecDepth 100000 in
theorem Tb.keep {w w' : World} (h : Tb w) (g : w.grownBy w' none) : Tb w' := h.grown g (by simp)

set_option maxRecDepth 100000 in
theorem fst_pos {c : Nat} (h : c ≠ 0) : fst c = ((Lib.ctz 64 c : Nat) : Int) := by unfold fst; rw [if_neg h]

/-- The j lowest bits. -/
def tk (b j : Nat) : List Nat := (bl b).take j
set_option maxRecDepth 100000 in
theorem tk_le (b j : Nat) : (tk b j).length ≤ 64 := by unfold tk; rw [List.length_take]; have := bl_length_le b; omega
def ListRel (b : Nat) (w : World) (v : Value) (c j : Nat) (wr : World) : Prop :=
  Strip b c j ∧ wr.ownsRow w.heap.size 3 1 v (tk b j).length ((tk b j).map ival) ∧ w.grownBy wr none
set_option maxRecDepth 100000 in
theorem list_hit {b c j : Nat} {w wr w1 : World} {v v' : Value} {o : Obj} (h : ListRel b w v c j wr) (h0 : c ≠ 0)
    (hown' : w1.ownsRow w.heap.size 3 1 v' ((tk b j).length + 1) ((tk b j).map ival ++ [.int .i64 (fst c)])) (hg : (wr.alloc o).grownBy w1 v.ownBlock) : ListRel b w v' (wo c) (j + 1) w1 := by
  obtain ⟨h1, h2⟩ := h.1.step h0
  refine ⟨h1, ?_, own_step h.2.2 h.2.1 hg⟩
  unfold tk at hown' ⊢
  rw [take_next h2, List.length_append, List.map_append]
  rw [fst_pos h0] at hown'
  exact hown'
set_option maxRecDepth 100000 in
set_option maxHeartbeats 800000 in
theorem listp_any (b : Nat) (hb : U64 b) (w : World) (hT : Tb w) :
    Calls Tryd.prog 37 #[.int .u64 (b : Int)] w fun e w' => ListPost ((bl b).map ival) w e w' := by
  obtain ⟨i0, hi, hz0, hz1, hz2⟩ := info_parts info_int
  have hle := cnt_le b
  go_enter Tryd.func37, Tryd.ntmps37
  go_wp2_with (first
    | (go_at_call 59; refine (countp_any _ hb _).mono ?_; rintro e w' ⟨rfl, rfl⟩)
    | (at_make; refine wpList_make_own _ rfl _ _ 22 rfl w.heap.size 3 i0 (.int .i64 0) 1 Tryd.underlying22 hi hz0 hz1 .i64 .i64 _ (cnt b) rfl rfl rfl ?c1 ?c2 ?c3 ?_))
  case c1 => rw [hz2]; omega
  case c2 => unfold maxLen; omega
  case c3 => exact Nat.le_refl _
  intro w1 hown1 hg1
  have R0 := Lib.hid (⟨Strip.start hb, hown1, hg1⟩ : ListRel b w _ b 0 w1)
  clear hown1 hg1
  go_wp2_with fail
  go_loopw [0, 3] (fun x v wr => ∃ c j : Nat, x = .int .u64 (c : Int) ∧ ListRel b w v c j wr) (fun x _ _ => (RowKit.intOf x).toNat)
  case atStart => exact ⟨b, 0, rfl, R0.out⟩
  case round =>
    obtain ⟨c, j, rfl, hR⟩ := hrel
    have hTr : Tb wr := hT.keep hR.2.2
    have hcu := hR.1.1
    have hlen := tk_le b j
    have hsz := hR.2.2.size
    by_cases h0 : c = 0
    · subst h0
      have R := Lib.hid hR
      clear hR R0
      go_wp2_with fail
      go_ret
      have hd := R.out.1.done
      have ho := R.out.2.1
      unfold tk at ho
      rw [hd] at ho
      exact ⟨_, rfl, rd_of_own ho, R.out.2.2⟩
    · have hz : (((c : Nat) : Int) != 0) = true := by simp; omega
      have hown := hR.2.1
      have hR' := Lib.hid hR
      have h0' := Lib.hid h0
      have hlt := wo_lt h0
      clear hR h0 R0
      go_wp2_with (first
        | (go_at_call 61; refine (firstp_any _ hcu _ hTr).mono ?_; rintro e w' ⟨rfl, rfl⟩)
        | (at_builtin; refine wpList_append_own _ rfl _ _ 22 rfl w.heap.size 3 i0 (.int .i64 0) 1 8 Tryd.underlying22 hi hz0 hz1 hz2 rfl (by decide) _ _ _ rfl (hown.alloc _) ⟨wr.heap.size, 0, none⟩ 1 1 [.int .i64 (fst c)] rfl rfl ?c1 ?c2 ?c3 ?c4 ?c5 ?_))
      case c1 => exact cell_one _ _ _
      case c2 => intro u hu; simp at hu; subst hu; rfl
      case c3 => unfold maxLen; omega
      case c4 => omega
      case c5 => simp; omega
      intro v' w2 hown' hg _
      have R := Lib.hid (list_hit hR'.out h0'.out hown' hg)
      clear hown' hg hown hR' h0'
      go_wp2_with (go_at_call 60; refine (wo_any _ hcu _).mono ?_; rintro e w' ⟨rfl, rfl⟩)
      go_roundw
      case rel => exact ⟨_, j + 1, rfl, R.out⟩
      case measure => simp [RowKit.intOf]; omega
end Go.Proofs.YtlgmankojgjfjaaDoor

/- The tape's orders. -/
namespace Go.Proofs.YtlgmankojgjfjaaDoor
open Go.RowKit Bs
/-- An order of the first numbers. -/
def Ord (l : List Nat) (i : Nat) : Prop := l.length = i ∧ l.Nodup ∧ ∀ x ∈ l, x < i
set_option maxRecDepth 100000 in
theorem ord_next {l : List Nat} {i k : Nat} (h : Ord l i) : Ord (l.take k ++ [i] ++ l.drop k) (i + 1) := by
  obtain ⟨h1, h2, h3⟩ := h
  refine ⟨?_, ?_, ?_⟩
  · simp; omega
  · have e : (l.take k ++ [i] ++ l.drop k).Perm (i :: l) := by
      rw [List.append_assoc]
      have e2 : (l.take k ++ ([i] ++ l.drop k)).Perm (([i] ++ l.drop k) ++ l.take k) := List.perm_append_comm
      refine e2.trans ?_
      rw [List.append_assoc]
      show (i :: (l.drop k ++ l.take k)).Perm (i :: l)
      refine List.Perm.cons i ?_
      refine List.perm_append_comm.trans ?_
      rw [List.take_append_drop]
    rw [e.nodup_iff, List.nodup_cons]
    exact ⟨fun hm => by have := h3 i hm; omega, h2⟩
  · intro x hx
    rw [List.mem_append, List.mem_append] at hx
    rcases hx with (hx | hx) | hx
    · have := h3 x (List.mem_of_mem_take hx); omega
    · have : x = i := by simpa using hx
      omega
    · have := h3 x (List.mem_of_mem_drop hx); omega
/-- The slice v is an order of the first i numbers, in a row of the call's own. -/
def OrdRel (a : Nat) (W : World) (i : Nat) (v : Value) (w' : World) : Prop := ∃ l, Ord l i ∧ w'.ownsRow W.heap.size 3 1 v i (l.map zv) ∧ (i = 0 → v = .slice none 0 0) ∧ St a W w'
def OrdPost (a : Nat) (n : Nat) (W : World) (e : Ending) (w' : World) : Prop := ∃ v, e = .returned v ∧ OrdRel a W n v w'
set_option maxRecDepth 100000 in
set_option maxHeartbeats 3200000 in
theorem order_any (a n : Nat) (hn : n ≤ 1000) (w : World) (hT : Tp w a) :
    Calls Tryd.prog 20 #[.pointer (some ⟨a, 0, none⟩), .int .i64 (n : Int)] w fun e w' => OrdPost a n w e w' := by
  have ha := hT.lt
  have hS0 : Hid (OrdRel a w 0 (.slice none 0 0) w) := Lib.hid ⟨[], ⟨rfl, List.nodup_nil, fun x hx => by cases hx⟩, World.ownsRow_nil _ _ _ _, fun _ => rfl, grown_refl _ _, hT⟩
  clear hT
  go_enter Tryd.func20, Tryd.ntmps20
  go_wp2_with fail
  go_loopw [5, 6] (fun v i wr => ∃ j : Nat, j ≤ n ∧ i = .int .i64 (j : Int) ∧ OrdRel a w j v wr) (fun _ i _ => (n - (RowKit.intOf i).toNat))
  case atStart => exact ⟨0, Nat.zero_le _, rfl, hS0.out⟩
  case round =>
    obtain ⟨j, hj, rfl, hR⟩ := hrel
    have HR := Lib.hid hR
    clear hR hS0
    by_cases hlt : j < n
    · obtain ⟨l, hO, hown, hv0, hSt⟩ := HR.out
      have HO := Lib.hid hO
      have hT := hSt.2
      have HOWN := Lib.hid hown
      have HST := Lib.hid hSt
      clear hO hown hSt HR
      go_wp2_with fail
      refine (next_any a ((j : Int) + 1) (by unfold I64; omega) _ hT).mono ?_
      rintro e w3 ⟨r, rfl, hr, hs⟩
      obtain ⟨k, rfl⟩ := Int.eq_ofNat_of_zero_le hr.1
      have hkj : k ≤ j := by have := hr.2.1 (by omega); omega
      have HS3 := Lib.hid (HST.out.trans hs)
      have HOWN3 := Lib.hid (own_kept ha HOWN.out hs.1)
      clear hr hs hT HST HOWN
      by_cases hj0 : j = 0
      · subst hj0
        obtain rfl : k = 0 := by omega
        obtain rfl := hv0 rfl
        have hl : l = [] := List.eq_nil_of_length_eq_zero HO.out.1
        clear hv0
        obtain ⟨i0, hi, hz0, hz1, hz2⟩ := info_parts info_int
        have hsz3 := Lib.hid HS3.out.1.size
        go_wp2_with (first
          | (at_builtin; refine wpList_append_own_none rfl _ _ 22 rfl w3.heap.size 3 i0 1 Tryd.underlying22 hi (.slice none 0 0) 0 [] rfl (World.ownsRow_nil _ _ _ _) rfl ?_)
          | (at_builtin; refine wpList_append_ints rfl _ _ rfl w3.heap.size (.slice none 0 0) 0 [] rfl (World.ownsRow_nil _ _ _ _) (some ⟨w3.heap.size, 0, none⟩) 1 1 [0] rfl rfl (by intro h; cases h) (by intro ad h; obtain rfl := Option.some.inj h; exact cell_one _ _ _) (by simp) (by simp) ?_; intro v2 w5 hown2 hg2; have HOWN2 := Lib.hid hown2; have HG2 := Lib.hid (grown_trans (World.grownBy_alloc w3 _ none) hg2); clear hown2 hg2)
          | (at_builtin; refine wpList_append_own_none rfl _ _ 22 rfl w3.heap.size 3 i0 1 Tryd.underlying22 hi v2 1 [zv 0] rfl HOWN2.out rfl ?_))
        go_roundw
        case rel =>
          refine ⟨1, by omega, rfl, [0], ⟨rfl, by simp, by simp⟩, ?_, by omega, ?_⟩
          · exact HOWN2.out.mono hsz3.out
          · exact ⟨grown_trans HS3.out.1 (grown_none HG2.out _), HS3.out.2.keep HG2.out⟩
        case measure => simp [RowKit.intOf]; omega
      · have hj1 : 0 < j := by omega
        obtain ⟨g, cap, rfl, hgb⟩ := own_form HOWN3.out hj1
        obtain ⟨hcap1, hcap2⟩ := own_cap HOWN3.out
        have hcap3 : cap ≤ 9223372036854775807 := by unfold maxLen at hcap2; omega
        have hgl := (HOWN3.out.lt g rfl).2
        have hll := HO.out.1
        have HLL := Lib.hid hll
        have hkc : k ≤ cap := by omega
        have hkl : (l.take k).length = k := by rw [List.length_take]; omega
        have hdl : (l.drop k).length = j - k := by rw [List.length_drop]; omega
        have HKL := Lib.hid hkl
        have HDL := Lib.hid hdl
        have hj9 : j ≤ 1000 := by omega
        have hsz3 := Lib.hid HS3.out.1.size
        have N1 : Hid (∀ ad, some (⟨g, 0, none⟩ : Addr) = some ad → ∀ i u, ((l.take k).map zv)[i]? = some u → w3.cell? (ad.add i) = some u) := by
          refine Lib.hid ?_
          intro ad h i u hu
          obtain rfl := Option.some.inj h
          refine HOWN3.out.cells rfl i u ?_
          rw [List.map_take, List.getElem?_take] at hu
          split at hu
          · exact hu
          · cases hu
        clear hll hkl hdl hv0 hcap2
        generalize hT1 : l.take k = t1 at *
        generalize hT2 : l.drop k = t2 at *
        have HT1 := Lib.hid hT1
        have HT2 := Lib.hid hT2
        clear hT1
        by_cases hkj : k < j
        · have hkcap : k < cap := by omega
          have news : Hid (∀ (W : World) c, W.ownsRow w.heap.size 3 1 (.slice (some ⟨g, 0, none⟩) j c) j (l.map zv) → ∀ i u, (t2.map zv)[i]? = some u → W.cell? ⟨g, k + i, none⟩ = some u) := by
            refine Lib.hid ?_
            intro W c h i u hu
            rw [← hT2, List.map_drop, List.getElem?_drop] at hu
            have := h.cells rfl (k + i) u hu
            rw [add_plain, Nat.zero_add] at this
            exact this
          clear hT2
          go_wp2_with (first
            | (at_builtin; refine wpList_append_ints rfl _ _ rfl w3.heap.size (.slice none 0 0) 0 [] rfl (World.ownsRow_nil _ _ _ _) (some ⟨g, 0, none⟩) k cap t1 rfl HKL.out.symm (by intro h; cases h) N1.out (by rw [HKL.out]; omega) (Nat.le_refl _) ?_; intro v1 w4 hown1 hg1; rw [Nat.zero_add, List.nil_append, HKL.out] at hown1; have HOWN1 := Lib.hid hown1; have HO4 := Lib.hid (own_apart HOWN3.out (World.ownsRow_nil w3 w3.heap.size 3 1) hgl hg1); have HS4 := Lib.hid (HS3.out.own_grow (World.ownsRow_nil w3 w3.heap.size 3 1) hsz3.out ha hg1); have HZ4 := Lib.hid hg1.size; clear hown1 hg1)
            | (at_builtin; refine wpList_append_ints rfl _ _ rfl w3.heap.size v1 k t1 rfl (HOWN1.out.alloc _) (some ⟨w4.heap.size, 0, none⟩) 1 1 [j] rfl rfl (by intro h; cases h) (by intro ad h; obtain rfl := Option.some.inj h; exact cell_one _ _ _) (by simp; omega) (by have := HZ4.out; simp; omega) ?_; intro v2 w5 hown2 hg2; have HOWN2 : Hid (w5.ownsRow w3.heap.size 3 1 v2 (k + 1) ((t1 ++ [j]).map zv)) := Lib.hid hown2; have HO5 := Lib.hid (own_apart (HO4.out.alloc _) (HOWN1.out.alloc _) hgl hg2); have HS5 := Lib.hid ((HS4.out.none_ (World.grownBy_alloc w4 _ none)).own_grow (HOWN1.out.alloc _) hsz3.out ha hg2); have HZ5 : Hid (w3.heap.size ≤ w5.heap.size) := Lib.hid (Nat.le_trans HZ4.out (Nat.le_trans (by simp) hg2.size)); clear hown2 hg2)
            | (at_builtin; refine wpList_append_ints rfl _ _ rfl w3.heap.size v2 (k + 1) (t1 ++ [j]) rfl HOWN2.out _ _ _ t2 rfl (by have := HDL.out; omega) (by intro h; cases h) (by intro ad h; obtain rfl := Option.some.inj h; intro i u hu; rw [add_plain]; exact news.out w5 cap HO5.out i u hu) (by have := HDL.out; omega) HZ5.out ?_; intro v3 w6 hown3 hg3; have HOWN6 := Lib.hid hown3; have HS6 := Lib.hid (HS5.out.own_grow HOWN2.out hsz3.out ha hg3); clear hown3 hg3))
          go_roundw
          case rel =>
            refine ⟨j + 1, by omega, by go_num, l.take k ++ [j] ++ l.drop k, ord_next HO.out, ?_, by omega, HS6.out⟩
            have h6 := HOWN6.out.mono hsz3.out
            rw [← HT1.out, ← HT2.out, show k + 1 + (l.drop k).length = j + 1 by rw [List.length_drop, HLL.out]; omega] at h6
            exact h6
          case measure => simp [RowKit.intOf]; omega
        · obtain rfl : k = j := by omega
          have ht2 : t2 = [] := by
            rw [← hT2]
            exact List.drop_of_length_le (Nat.le_of_eq HLL.out)
          clear hT2
          have HN2 : Hid (∀ (i : Nat) (u : Value), (t2.map zv)[i]? = some u → False) := Lib.hid (by intro i u hu; rw [ht2] at hu; simp at hu)
          clear ht2
          by_cases hcj : k = cap
          · subst hcj
            go_wp2_with (first
              | (at_builtin; refine wpList_append_ints rfl _ _ rfl w3.heap.size (.slice none 0 0) 0 [] rfl (World.ownsRow_nil _ _ _ _) (some ⟨g, 0, none⟩) k k t1 rfl HKL.out.symm (by intro h; cases h) N1.out (by rw [HKL.out]; omega) (Nat.le_refl _) ?_; intro v1 w4 hown1 hg1; rw [Nat.zero_add, List.nil_append, HKL.out] at hown1; have HOWN1 := Lib.hid hown1; have HO4 := Lib.hid (own_apart HOWN3.out (World.ownsRow_nil w3 w3.heap.size 3 1) hgl hg1); have HS4 := Lib.hid (HS3.out.own_grow (World.ownsRow_nil w3 w3.heap.size 3 1) hsz3.out ha hg1); have HZ4 := Lib.hid hg1.size; clear hown1 hg1)
              | (at_builtin; refine wpList_append_ints rfl _ _ rfl w3.heap.size v1 k t1 rfl (HOWN1.out.alloc _) (some ⟨w4.heap.size, 0, none⟩) 1 1 [k] rfl rfl (by intro h; cases h) (by intro ad h; obtain rfl := Option.some.inj h; exact cell_one _ _ _) (by simp; omega) (by have := HZ4.out; simp; omega) ?_; intro v2 w5 hown2 hg2; have HOWN2 : Hid (w5.ownsRow w3.heap.size 3 1 v2 (k + 1) ((t1 ++ [k]).map zv)) := Lib.hid hown2; have HO5 := Lib.hid (own_apart (HO4.out.alloc _) (HOWN1.out.alloc _) hgl hg2); have HS5 := Lib.hid ((HS4.out.none_ (World.grownBy_alloc w4 _ none)).own_grow (HOWN1.out.alloc _) hsz3.out ha hg2); have HZ5 : Hid (w3.heap.size ≤ w5.heap.size) := Lib.hid (Nat.le_trans HZ4.out (Nat.le_trans (by simp) hg2.size)); clear hown2 hg2)
              | (at_builtin; refine wpList_append_ints rfl _ _ rfl w3.heap.size v2 (k + 1) (t1 ++ [k]) rfl HOWN2.out _ _ _ t2 rfl (by have := HDL.out; omega) (by intro h; cases h) (by intro ad h i u hu; exact (HN2.out i u hu).elim) (by have := HDL.out; omega) HZ5.out ?_; intro v3 w6 hown3 hg3; have HOWN6 := Lib.hid hown3; have HS6 := Lib.hid (HS5.out.own_grow HOWN2.out hsz3.out ha hg3); clear hown3 hg3))
            go_roundw
            case rel =>
              refine ⟨k + 1, by omega, by go_num, l.take k ++ [k] ++ l.drop k, ord_next HO.out, ?_, by omega, HS6.out⟩
              have h6 := HOWN6.out.mono hsz3.out
              rw [← HT1.out, ← HT2.out, show k + 1 + (l.drop k).length = k + 1 by rw [List.length_drop, HLL.out]; omega] at h6
              exact h6
            case measure => simp [RowKit.intOf]; omega
          · have hkcap : k < cap := by omega
            go_wp2_with (first
              | (at_builtin; refine wpList_append_ints rfl _ _ rfl w3.heap.size (.slice none 0 0) 0 [] rfl (World.ownsRow_nil _ _ _ _) (some ⟨g, 0, none⟩) k cap t1 rfl HKL.out.symm (by intro h; cases h) N1.out (by rw [HKL.out]; omega) (Nat.le_refl _) ?_; intro v1 w4 hown1 hg1; rw [Nat.zero_add, List.nil_append, HKL.out] at hown1; have HOWN1 := Lib.hid hown1; have HO4 := Lib.hid (own_apart HOWN3.out (World.ownsRow_nil w3 w3.heap.size 3 1) hgl hg1); have HS4 := Lib.hid (HS3.out.own_grow (World.ownsRow_nil w3 w3.heap.size 3 1) hsz3.out ha hg1); have HZ4 := Lib.hid hg1.size; clear hown1 hg1)
              | (at_builtin; refine wpList_append_ints rfl _ _ rfl w3.heap.size v1 k t1 rfl (HOWN1.out.alloc _) (some ⟨w4.heap.size, 0, none⟩) 1 1 [k] rfl rfl (by intro h; cases h) (by intro ad h; obtain rfl := Option.some.inj h; exact cell_one _ _ _) (by simp; omega) (by have := HZ4.out; simp; omega) ?_; intro v2 w5 hown2 hg2; have HOWN2 : Hid (w5.ownsRow w3.heap.size 3 1 v2 (k + 1) ((t1 ++ [k]).map zv)) := Lib.hid hown2; have HO5 := Lib.hid (own_apart (HO4.out.alloc _) (HOWN1.out.alloc _) hgl hg2); have HS5 := Lib.hid ((HS4.out.none_ (World.grownBy_alloc w4 _ none)).own_grow (HOWN1.out.alloc _) hsz3.out ha hg2); have HZ5 : Hid (w3.heap.size ≤ w5.heap.size) := Lib.hid (Nat.le_trans HZ4.out (Nat.le_trans (by simp) hg2.size)); clear hown2 hg2)
              | (at_builtin; refine wpList_append_ints rfl _ _ rfl w3.heap.size v2 (k + 1) (t1 ++ [k]) rfl HOWN2.out _ _ _ t2 rfl (by have := HDL.out; omega) (by intro h; cases h) (by intro ad h i u hu; exact (HN2.out i u hu).elim) (by have := HDL.out; omega) HZ5.out ?_; intro v3 w6 hown3 hg3; have HOWN6 := Lib.hid hown3; have HS6 := Lib.hid (HS5.out.own_grow HOWN2.out hsz3.out ha hg3); clear hown3 hg3))
            go_roundw
            case rel =>
              refine ⟨k + 1, by omega, by go_num, l.take k ++ [k] ++ l.drop k, ord_next HO.out, ?_, by omega, HS6.out⟩
              have h6 := HOWN6.out.mono hsz3.out
              rw [← HT1.out, ← HT2.out, show k + 1 + (l.drop k).length = k + 1 by rw [List.length_drop, HLL.out]; omega] at h6
              exact h6
            case measure => simp [RowKit.intOf]; omega
    · obtain rfl : j = n := by omega
      go_wp2_with fail
      go_ret
      exact ⟨_, rfl, HR.out⟩
end Go.Proofs.YtlgmankojgjfjaaDoor

/- Links in order, and the tape's topologies: the mathematics. -/
namespace Go.Proofs.YtlgmankojgjfjaaDoor
open Go.RowKit Bs
/-- A link laid where the lesser ones end. -/
def insL (O : List Lk) (y : Lk) : List Lk := O.takeWhile (fun x => ltL x y) ++ y :: O.dropWhile (fun x => ltL x y)
def ordL (L : List Lk) : List Lk := L.foldl insL []
set_option maxRecDepth 100000 in
theorem insL_cons (a : Lk) (t : List Lk) (y : Lk) : insL (a :: t) y = if ltL a y then a :: insL t y else y :: a :: t := by
  unfold insL
  rw [List.takeWhile_cons, List.dropWhile_cons]
  split <;> rfl
set_option maxRecDepth 100000 in
theorem insL_len (O : List Lk) (y : Lk) : (insL O y).length = O.length + 1 := by
  unfold insL
  rw [List.length_append, List.length_cons]
  have := congrArg List.length (List.takeWhile_append_dropWhile (p := fun x => ltL x y) (l := O))
  rw [List.length_append] at this
  omega
set_option maxRecDepth 100000 in
theorem ordL_take (L : List Lk) (k : Nat) (y : Lk) (h : L[k]? = some y) : ordL (L.take (k + 1)) = insL (ordL (L.take k)) y := by
  unfold ordL
  rw [List.take_add_one, h, List.foldl_append]
  rfl
set_option maxRecDepth 100000 in
theorem foldl_insL_len : ∀ (L O : List Lk), (L.foldl insL O).length = O.length + L.length
  | [], O => by simp
  | a :: t, O => by rw [List.foldl_cons, foldl_insL_len t, insL_len, List.length_cons]; omega
set_option maxRecDepth 100000 in
theorem ordL_len (L : List Lk) : (ordL L).length = L.length := by
  unfold ordL
  rw [foldl_insL_len]; simp
set_option maxRecDepth 100000 in
theorem insL_at (y : Lk) : ∀ (O : List Lk) (j : Nat), j ≤ O.length → (∀ i x, i < j → O[i]? = some x → ltL x y = true) → (∀ x, O[j]? = some x → ltL x y = false) → insL O y = O.take j ++ y :: O.drop j
  | [], j, hj, _, _ => by
    obtain rfl : j = 0 := by simpa using hj
    rfl
  | a :: t, 0, _, _, h2 => by
    rw [insL_cons, h2 a rfl]
    rfl
  | a :: t, j + 1, hj, h1, h2 => by
    rw [insL_cons, if_pos (h1 0 a (by omega) rfl), insL_at y t j (by simpa using hj) (fun i x hi hx => h1 (i + 1) x (by omega) (by simpa using hx)) (fun x hx => h2 x (by simpa using hx))]
    rfl
set_option maxRecDepth 100000 in
theorem mem_insL (y z : Lk) : ∀ O : List Lk, z ∈ insL O y ↔ z = y ∨ z ∈ O
  | [] => by simp [insL]
  | a :: t => by
    rw [insL_cons]
    split
    · rw [List.mem_cons, List.mem_cons, mem_insL y z t]
      constructor
      · rintro (h | h | h)
        · exact .inr (.inl h)
        · exact .inl h
        · exact .inr (.inr h)
      · rintro (h | h | h)
        · exact .inr (.inl h)
        · exact .inl h
        · exact .inr (.inr h)
    · simp
set_option maxRecDepth 100000 in
theorem ltL_trans {x y z : Lk} (h1 : ltL x y = true) (h2 : ltL y z = true) : ltL x z = true := by
  unfold ltL at *
  have h1 := of_decide_eq_true h1
  have h2 := of_decide_eq_true h2
  exact decide_eq_true (by omega)
/-- The ends differ. -/
def EndsNe (x y : Lk) : Prop := x.a ≠ y.a ∨ x.b ≠ y.b
set_option maxRecDepth 100000 in
theorem ltL_flip {x y : Lk} (h : ltL x y = false) (hn : EndsNe x y) : ltL y x = true := by
  unfold ltL at *
  have h := of_decide_eq_false h
  unfold EndsNe at hn
  exact decide_eq_true (by omega)
set_option maxRecDepth 100000 in
theorem insL_pair (y : Lk) : ∀ O : List Lk, O.Pairwise (fun x z => ltL x z = true) → (∀ x ∈ O, EndsNe x y) → (insL O y).Pairwise (fun x z => ltL x z = true)
  | [], _, _ => by simp [insL]
  | a :: t, hp, hn => by
    rw [insL_cons]
    obtain ⟨h1, h2⟩ := List.pairwise_cons.1 hp
    split
    · next hlt =>
      refine List.pairwise_cons.2 ⟨fun z hz => ?_, insL_pair y t h2 (fun x hx => hn x (List.mem_cons_of_mem _ hx))⟩
      rcases (mem_insL y z t).1 hz with rfl | hz
      · exact hlt
      · exact h1 z hz
    · next hlt =>
      have hya := ltL_flip (by simpa using hlt) (hn a (by simp))
      refine List.pairwise_cons.2 ⟨fun z hz => ?_, hp⟩
      rcases List.mem_cons.1 hz with rfl | hz
      · exact hya
      · exact ltL_trans hya (h1 z hz)
set_option maxRecDepth 100000 in
theorem foldl_insL_pair : ∀ (L O : List Lk), O.Pairwise (fun x z => ltL x z = true) → L.Pairwise EndsNe → (∀ x ∈ O, ∀ y ∈ L, EndsNe x y) → (L.foldl insL O).Pairwise (fun x z => ltL x z = true)
  | [], O, h, _, _ => h
  | a :: t, O, h, hL, hx => by
    obtain ⟨h1, h2⟩ := List.pairwise_cons.1 hL
    rw [List.foldl_cons]
    refine foldl_insL_pair t _ (insL_pair a O h (fun x hx1 => hx x hx1 a (by simp))) h2 (fun x hx1 y hy => ?_)
    rcases (mem_insL a x O).1 hx1 with rfl | h3
    · exact h1 y hy
    · exact hx x h3 y (List.mem_cons_of_mem _ hy)
set_option maxRecDepth 100000 in
theorem foldl_insL_mem (z : Lk) : ∀ (L O : List Lk), z ∈ L.foldl insL O ↔ z ∈ O ∨ z ∈ L
  | [], O => by simp
  | a :: t, O => by
    rw [List.foldl_cons, foldl_insL_mem z t, mem_insL, List.mem_cons]
    constructor
    · rintro ((h | h) | h)
      · exact .inr (.inl h)
      · exact .inl h
      · exact .inr (.inr h)
    · rintro (h | h | h)
      · exact .inl (.inr h)
      · exact .inl (.inl h)
      · exact .inr h
set_option maxRecDepth 100000 in
theorem ordL_mem (L : List Lk) (z : Lk) : z ∈ ordL L ↔ z ∈ L := by
  unfold ordL
  rw [foldl_insL_mem]
  simp
set_option maxRecDepth 100000 in
theorem ordL_pair (L : List Lk) (h : L.Pairwise EndsNe) : (ordL L).Pairwise (fun x z => ltL x z = true) :=
  foldl_insL_pair L [] List.Pairwise.nil h (fun x hx => by simp at hx)
set_option maxRecDepth 100000 in
theorem asc_of_pair {α : Type} (f : α → α → Bool) : ∀ l : List α, l.Pairwise (fun x z => f x z = true) → ascB f l = true
  | [], _ => rfl
  | [a], _ => rfl
  | a :: b :: t, h => by
    obtain ⟨h1, h2⟩ := List.pairwise_cons.1 h
    rw [ascB, h1 b (by simp), asc_of_pair f (b :: t) h2]
    rfl
/-- The routers 1 to k. -/
def rts (k : Nat) : List Rt := (List.range k).map fun (i : Nat) => (⟨(i : Int) + 1, true⟩ : Rt)
set_option maxRecDepth 100000 in
theorem rts_succ (k : Nat) : rts (k + 1) = rts k ++ [⟨(k : Int) + 1, true⟩] := by
  unfold rts
  rw [List.range_succ, List.map_append]
  rfl
set_option maxRecDepth 100000 in
theorem rts_len (k : Nat) : (rts k).length = k := by unfold rts; simp
set_option maxRecDepth 100000 in
theorem rts_mem (k : Nat) (r : Rt) : r ∈ rts k ↔ ∃ i : Nat, i < k ∧ r = ⟨(i : Int) + 1, true⟩ := by
  unfold rts
  rw [List.mem_map]
  constructor
  · rintro ⟨i, hi, rfl⟩; exact ⟨i, List.mem_range.1 hi, rfl⟩
  · rintro ⟨i, hi, rfl⟩; exact ⟨i, List.mem_range.2 hi, rfl⟩
/-- Links of the routers 1 to k, each before (b, a) in the order that the tape makes them, no two with the same ends. -/
structure GoodL (k b a : Int) (L : List Lk) : Prop where
  ok : ∀ l ∈ L, (1 ≤ l.a ∧ l.a < l.b ∧ l.b ≤ k) ∧ wrNum l = false
  lt : ∀ l ∈ L, l.b < b ∨ (l.b = b ∧ l.a < a)
  ne : L.Pairwise EndsNe
set_option maxRecDepth 100000 in
theorem GoodL.nil (k b a : Int) : GoodL k b a [] := ⟨by simp, by simp, List.Pairwise.nil⟩
set_option maxRecDepth 100000 in
theorem GoodL.next {k b a : Int} {L : List Lk} (h : GoodL k b a L) : GoodL k b (a + 1) L := ⟨h.ok, fun l hl => by rcases h.lt l hl with h1 | h1 <;> omega, h.ne⟩
set_option maxRecDepth 100000 in
theorem GoodL.row {k b a : Int} {L : List Lk} (h : GoodL k b a L) : GoodL k (b + 1) 1 L := ⟨h.ok, fun l hl => by rcases h.lt l hl with h1 | h1 <;> omega, h.ne⟩
set_option maxRecDepth 100000 in
theorem GoodL.add {k b a : Int} {L : List Lk} (h : GoodL k b a L) (y : Lk) (ha : y.a = a) (hb : y.b = b) (h1 : 1 ≤ a) (h2 : a < b) (h3 : b ≤ k) (hw : wrNum y = false) : GoodL k b (a + 1) (L ++ [y]) := by
  refine ⟨fun l hl => ?_, fun l hl => ?_, ?_⟩
  · rcases List.mem_append.1 hl with hl | hl
    · exact h.ok l hl
    · obtain rfl : l = y := by simpa using hl
      exact ⟨by omega, hw⟩
  · rcases List.mem_append.1 hl with hl | hl
    · rcases h.lt l hl with h4 | h4 <;> omega
    · obtain rfl : l = y := by simpa using hl
      omega
  · refine List.pairwise_append.2 ⟨h.ne, by simp, fun x hx z hz => ?_⟩
    obtain rfl : z = y := by simpa using hz
    unfold EndsNe
    rcases h.lt x hx with h4 | h4 <;> omega
set_option maxRecDepth 100000 in
theorem chk_good {k : Nat} {b a : Int} {L : List Lk} (h : GoodL k b a L) (hk : k ≤ 24) (hl : L.length ≤ 60) : chk (rts k) (ordL L) = 0 := by
  unfold chk
  rw [if_neg (by rw [rts_len, ordL_len]; omega), if_neg, if_neg, if_neg, if_neg, if_neg, if_neg]
  · rw [asc_of_pair ltL _ (ordL_pair L h.ne)]
    simp
  · rw [List.any_eq_true]
    rintro ⟨l, hl1, hw⟩
    have := (h.ok l ((ordL_mem L l).1 hl1)).1
    unfold wrEnd at hw
    have := of_decide_eq_true hw
    omega
  · rw [List.any_eq_true]
    rintro ⟨l, hl1, hw⟩
    have := (h.ok l ((ordL_mem L l).1 hl1)).1
    have hh : ∀ x : Int, 1 ≤ x → x ≤ k → hasR (rts k) x = true := fun x h1 h2 => by
      unfold hasR
      refine List.any_eq_true.2 ⟨⟨x, true⟩, (rts_mem k _).2 ⟨(x - 1).toNat, by omega, ?_⟩, by simp⟩
      congr 1
      omega
    unfold unk at hw
    rw [hh _ this.1 (by omega), hh _ (by omega) this.2.2] at hw
    simp at hw
  · rw [List.any_eq_true]
    rintro ⟨l, hl1, hw⟩
    rw [(h.ok l ((ordL_mem L l).1 hl1)).2] at hw
    cases hw
  · rw [asc_of_pair ltR (rts k)]
    · simp
    · unfold rts
      rw [List.pairwise_map]
      exact List.pairwise_lt_range.imp (fun {a b} hab => decide_eq_true (by show (a : Int) + 1 < (b : Int) + 1; omega))
  · rw [List.any_eq_true]
    rintro ⟨r, hr, hw⟩
    obtain ⟨i, hi, rfl⟩ := (rts_mem k r).1 hr
    have : wrId ⟨(i : Int) + 1, true⟩ = false := by
      unfold wrId
      rw [decide_eq_true (by constructor <;> (dsimp; omega))]
      rfl
    rw [this] at hw
    cases hw
/-- What the tape says of a topology of at most 'most' routers. -/
def TopOf (most : Nat) (n : Int) (R : List Rt) (L : List Lk) : Prop :=
  1 ≤ R.length ∧ (R.length ≤ most + 1 ∨ 25 ≤ R.length) ∧ R.length ≤ most + 25 ∧ L.length ≤ 60 ∧ (n ≤ 0 → chk R L = 0 ∧ R.length ≤ most)
end Go.Proofs.YtlgmankojgjfjaaDoor

/- While the tape makes a topology. -/
namespace Go.Proofs.YtlgmankojgjfjaaDoor
open Go.RowKit Bs
/-- While a topology is made: its block holds uR, uL; the routers and the links lie in rows of the call's own, vR and vL. -/
structure TK (a : Nat) (W : World) (uR uL vR vL : Value) (R : List Rt) (L : List Lk) (w : World) : Prop where
  gb : w.heap[W.heap.size + 1]? = some (.cells #[uR, uL] 35 (0, 0))
  rb : w.heap[W.heap.size]? = some (.cells #[.slice none 0 0, .slice none 0 0] 35 (0, 0))
  oR : w.ownsRow (W.heap.size + 2) 59 2 vR R.length (R.flatMap rtC)
  oL : w.ownsRow (W.heap.size + 2) 62 5 vL L.length (L.flatMap lkC)
  ap : ∀ g, vR.ownBlock = some g → vL.ownBlock ≠ some g
  st : St a W w
  sz : W.heap.size + 2 ≤ w.heap.size
set_option maxRecDepth 100000 in
theorem own_other {w w' : World} {base size n b : Nat} {e : TypeId} {v : Value} {xs : List Value} (h : w.ownsRow base e size v n xs) (g : w.grownBy w' (some b)) (hb : b < base) : w'.ownsRow base e size v n xs :=
  h.kept g (by
    cases hv : v.ownBlock with
    | none => exact .inl rfl
    | some k => exact .inr (fun e => by have e2 := Option.some.inj e; have := (h.lt k hv).1; omega))
set_option maxRecDepth 100000 in
theorem St.storeT {a b : Nat} {W w w1 : World} (h : St a W w) (g : w.grownBy w1 (some b)) (hb : W.heap.size ≤ b) (ha : a < W.heap.size) : St a W w1 := by
  refine ⟨⟨g.os.trans h.1.os, g.tape.trans h.1.tape, g.output.trans h.1.output, Nat.le_trans h.1.size g.size, fun i hi hia => (g.block i (Nat.lt_of_lt_of_le hi h.1.size) (fun e => by have := Option.some.inj e; omega)).trans (h.1.block i hi hia)⟩, ?_⟩
  obtain ⟨v, n, i, T⟩ := h.2
  have hlt : a < w.heap.size := Nat.lt_of_lt_of_le ha h.1.size
  have hk : w1.heap[a]? = w.heap[a]? := g.block a hlt (fun e => by have := Option.some.inj e; omega)
  refine ⟨v, n, i, (World.cell?_of_block (a := ⟨a, 0, none⟩) hk).trans T.l, (World.cell?_of_block (a := ⟨a, 1, none⟩) hk).trans T.p, (World.frozen?_of_block (a := ⟨a, 1, none⟩) hk).trans T.fr, ?_, T.le, T.len⟩
  obtain ⟨p, c, hv, hc⟩ := T.ints
  refine ⟨p, c, hv, fun hn => ?_⟩
  obtain ⟨b1, off, hp, hb1, hx⟩ := hc hn
  refine ⟨b1, off, hp, hb1, fun i hi => ?_⟩
  obtain ⟨x, hx1, hcell⟩ := hx i hi
  exact ⟨x, hx1, g.cell hcell (fun e => by have : b1 = b := Option.some.inj e; omega)⟩
section
variable {a : Nat} {W w w1 : World} {uR uL vR vL v' : Value} {R : List Rt} {L : List Lk}
set_option maxRecDepth 100000 in
theorem TK.keep (h : TK a W uR uL vR vL R L w) (g : w.grownBy w1 none) : TK a W uR uL vR vL R L w1 :=
  ⟨kept_row h.gb g (by simp), kept_row h.rb g (by simp), h.oR.kept g (by cases hv : vR.ownBlock <;> simp), h.oL.kept g (by cases hv : vL.ownBlock <;> simp), h.ap, h.st.trans ⟨grown_none g _, h.st.2.keep g⟩, Nat.le_trans h.sz g.size⟩
set_option maxRecDepth 100000 in
theorem TK.tape (h : TK a W uR uL vR vL R L w) (ha : a < W.heap.size) (k : St a w w1) : TK a W uR uL vR vL R L w1 :=
  ⟨kept_row h.gb k.1 (fun e => by have := Option.some.inj e; omega), kept_row h.rb k.1 (fun e => by have := Option.some.inj e; omega), own_other h.oR k.1 (by omega), own_other h.oL k.1 (by omega), h.ap, h.st.trans k, Nat.le_trans h.sz k.1.size⟩
set_option maxRecDepth 100000 in
theorem TK.start (hT : Tp w a) : TK a w (.slice none 0 0) (.slice none 0 0) (.slice none 0 0) (.slice none 0 0) [] [] ((w.alloc (.cells #[.slice none 0 0, .slice none 0 0] 35)).alloc (.cells #[.slice none 0 0, .slice none 0 0] 35)) := by
  obtain ⟨k1, k2, k3, _⟩ := two_boxes w #[.slice none 0 0, .slice none 0 0] #[.slice none 0 0, .slice none 0 0] 35 35
  exact ⟨k2, k1, World.ownsRow_nil _ _ _ _, World.ownsRow_nil _ _ _ _, fun g hg => (by cases hg), ⟨grown_none k3 _, hT.keep k3⟩, by simp⟩
set_option maxRecDepth 100000 in
theorem St.rowT {a base size n : Nat} {W w w1 : World} {e : TypeId} {v : Value} {xs : List Value} (h : St a W w) (ho : w.ownsRow base e size v n xs) (hb : W.heap.size ≤ base) (ha : a < W.heap.size) (k : w.grownBy w1 v.ownBlock) : St a W w1 := by
  cases hv : v.ownBlock with
  | none => rw [hv] at k; exact ⟨grown_trans h.1 (grown_none k _), h.2.keep k⟩
  | some g => rw [hv] at k; exact h.storeT k (Nat.le_trans hb (ho.lt g hv).1) ha
set_option maxRecDepth 100000 in
theorem TK.addR {g n cap : Nat} {y : Rt} (h : TK a W uR uL vR vL R L w) (ha : a < W.heap.size) (hown : w1.ownsRow (W.heap.size + 2) 59 2 (.slice (some ⟨g, 0, none⟩) n cap) (R.length + 1) (R.flatMap rtC ++ [.int .i64 y.id, .bool y.cap])) (hg : w.grownBy w1 vR.ownBlock) (hat : vR.ownBlock = some g ∨ g = w.heap.size) :
    TK a W uR uL (.slice (some ⟨g, 0, none⟩) n cap) vL (R ++ [y]) L w1 := by
  have hne : ∀ k, k < W.heap.size + 2 → some k ≠ vR.ownBlock := fun k hk e => by
    have := (h.oR.lt k e.symm).1
    omega
  refine ⟨kept_row h.gb hg (hne _ (by omega)), kept_row h.rb hg (hne _ (by omega)), ?_, h.oL.kept hg ?_, ?_, h.st.rowT h.oR (by omega) ha hg, Nat.le_trans h.sz hg.size⟩
  · rw [List.length_append, List.flatMap_append]; exact hown
  · cases hv : vL.ownBlock with
    | none => exact .inl rfl
    | some k => exact .inr (fun e => h.ap k e.symm hv)
  · intro g2 hg2 e
    obtain rfl : g = g2 := by simpa [Value.ownBlock] using hg2
    rcases hat with hat | hat
    · exact h.ap g hat e
    · have := (h.oL.lt g e).2
      omega
set_option maxRecDepth 100000 in
theorem TK.addL {g n cap : Nat} {y : Lk} (h : TK a W uR uL vR vL R L w) (ha : a < W.heap.size) (hown : w1.ownsRow (W.heap.size + 2) 62 5 (.slice (some ⟨g, 0, none⟩) n cap) (L.length + 1) (L.flatMap lkC ++ [.int .i64 y.a, .int .i64 y.b, .int .i64 y.ca, .int .i64 y.cb, .int .i64 y.cp])) (hg : w.grownBy w1 vL.ownBlock) (hat : vL.ownBlock = some g ∨ g = w.heap.size) :
    TK a W uR uL vR (.slice (some ⟨g, 0, none⟩) n cap) R (L ++ [y]) w1 := by
  have hne : ∀ k, k < W.heap.size + 2 → some k ≠ vL.ownBlock := fun k hk e => by
    have := (h.oL.lt k e.symm).1
    omega
  refine ⟨kept_row h.gb hg (hne _ (by omega)), kept_row h.rb hg (hne _ (by omega)), h.oR.kept hg ?_, ?_, ?_, h.st.rowT h.oL (by omega) ha hg, Nat.le_trans h.sz hg.size⟩
  · cases hv : vR.ownBlock with
    | none => exact .inl rfl
    | some k => exact .inr (fun e => h.ap k hv e.symm)
  · rw [List.length_append, List.flatMap_append]; exact hown
  · intro g2 hg2 e
    obtain rfl : g = g2 := by simpa [Value.ownBlock] using e
    rcases hat with hat | hat
    · exact h.ap g hg2 hat
    · have := (h.oR.lt g hg2).2
      omega
set_option maxRecDepth 100000 in
theorem TK.put0 (h : TK a W uR uL vR vL R L w) (ha : a < W.heap.size) : TK a W vR uL vR vL R L (w.setCell ⟨W.heap.size + 1, 0, none⟩ vR) := by
  have k : w.grownBy (w.setCell ⟨W.heap.size + 1, 0, none⟩ vR) (some (W.heap.size + 1)) := grown_setCell w ⟨W.heap.size + 1, 0, none⟩ vR
  exact ⟨heap_setCell_same w _ 0 _ _ vR h.gb, kept_row h.rb k (fun e => by have : W.heap.size = W.heap.size + 1 := Option.some.inj e; omega), own_other h.oR k (by omega), own_other h.oL k (by omega), h.ap, h.st.storeT k (by omega) ha, Nat.le_trans h.sz k.size⟩
set_option maxRecDepth 100000 in
theorem TK.put1 (h : TK a W uR uL vR vL R L w) (ha : a < W.heap.size) : TK a W uR vL vR vL R L (w.setCell ⟨W.heap.size + 1, 1, none⟩ vL) := by
  have k : w.grownBy (w.setCell ⟨W.heap.size + 1, 1, none⟩ vL) (some (W.heap.size + 1)) := grown_setCell w ⟨W.heap.size + 1, 1, none⟩ vL
  exact ⟨heap_setCell_same w _ 1 _ _ vL h.gb, kept_row h.rb k (fun e => by have : W.heap.size = W.heap.size + 1 := Option.some.inj e; omega), own_other h.oR k (by omega), own_other h.oL k (by omega), h.ap, h.st.storeT k (by omega) ha, Nat.le_trans h.sz k.size⟩
set_option maxRecDepth 100000 in
theorem TK.newL {O : List Lk} (h : TK a W uR uL vR vL R L w) (hown : w1.ownsRow w.heap.size 62 5 v' O.length (O.flatMap lkC)) (g : w.grownBy w1 none) : TK a W uR uL vR v' R O w1 := by
  have h1 := h.keep g
  refine ⟨h1.gb, h1.rb, h1.oR, hown.mono h.sz, fun k hk e => ?_, h1.st, h1.sz⟩
  have := (hown.lt k e).1
  have := (h.oR.lt k hk).2
  omega
set_option maxRecDepth 100000 in
theorem flat_set : ∀ (L : List Lk) (k j : Nat) (x : Int), k < L.length → j < 5 → ∃ L' : List Lk, L'.length = L.length ∧ L'.flatMap lkC = (L.flatMap lkC).set (k * 5 + j) (.int .i64 x)
  | [], k, _, _, hk, _ => absurd hk (Nat.not_lt_zero k)
  | m :: t, 0, j, x, _, hj => by
    rcases (show j = 0 ∨ j = 1 ∨ j = 2 ∨ j = 3 ∨ j = 4 by omega) with rfl | rfl | rfl | rfl | rfl
    · exact ⟨⟨x, m.b, m.ca, m.cb, m.cp⟩ :: t, rfl, rfl⟩
    · exact ⟨⟨m.a, x, m.ca, m.cb, m.cp⟩ :: t, rfl, rfl⟩
    · exact ⟨⟨m.a, m.b, x, m.cb, m.cp⟩ :: t, rfl, rfl⟩
    · exact ⟨⟨m.a, m.b, m.ca, x, m.cp⟩ :: t, rfl, rfl⟩
    · exact ⟨⟨m.a, m.b, m.ca, m.cb, x⟩ :: t, rfl, rfl⟩
  | m :: t, k + 1, j, x, hk, hj => by
    obtain ⟨L', h1, h2⟩ := flat_set t k j x (by simpa using hk) hj
    refine ⟨m :: L', by simp [h1], ?_⟩
    rw [List.flatMap_cons, h2, List.flatMap_cons]
    have e : (k + 1) * 5 + j = (lkC m).length + (k * 5 + j) := by
      show (k + 1) * 5 + j = 5 + (k * 5 + j)
      omega
    rw [e, List.set_append_right _ _ (Nat.le_add_right _ _), Nat.add_sub_cancel_left]
set_option maxRecDepth 100000 in
theorem TK.setL {g n cap k j : Nat} {x : Int} (h : TK a W uR uL vR (.slice (some ⟨g, 0, none⟩) n cap) R L w) (ha : a < W.heap.size) (hk : k < L.length) (hj : j < 5) :
    ∃ L', L'.length = L.length ∧ TK a W uR uL vR (.slice (some ⟨g, 0, none⟩) n cap) R L' (w.setCell ⟨g, k * 5 + j, none⟩ (.int .i64 x)) := by
  obtain ⟨L', hl, hf⟩ := flat_set L k j x hk hj
  obtain ⟨-, -, -⟩ : True ∧ True ∧ True := ⟨trivial, trivial, trivial⟩
  have hg0 := (h.oL.lt g rfl).1
  have hn : n = L.length := by
    obtain ⟨p, c, e, _⟩ := own_shape h.oL
    injection e
  subst hn
  obtain ⟨s1, s2⟩ := h.oL.stored (k * 5 + j) (.int .i64 x)
  refine ⟨L', hl, kept_row h.gb s2 (fun e => by have : W.heap.size + 1 = g := Option.some.inj e; omega), kept_row h.rb s2 (fun e => by have : W.heap.size = g := Option.some.inj e; omega), h.oR.kept s2 ?_, ?_, h.ap, h.st.storeT s2 (by omega) ha, Nat.le_trans h.sz s2.size⟩
  · cases hv : vR.ownBlock with
    | none => exact .inl rfl
    | some k => exact .inr (fun e => h.ap k hv (by rw [e]; rfl))
  · rw [hl, hf]; exact s1
end
/-- What returns a topology of the tape's. -/
def TopoPost (a : Nat) (most : Nat) (n : Int) (w : World) (e : Ending) (w' : World) : Prop :=
  ∃ (R : List Rt) (L : List Lk) (vR vL : Value), e = .returned (.agg #[vR, vL]) ∧ w'.ownsRow w.heap.size 59 2 vR R.length (R.flatMap rtC) ∧ w'.ownsRow w.heap.size 62 5 vL L.length (L.flatMap lkC) ∧ (∀ g, vR.ownBlock = some g → vL.ownBlock ≠ some g) ∧ TopOf most n R L ∧ St a w w'
end Go.Proofs.YtlgmankojgjfjaaDoor

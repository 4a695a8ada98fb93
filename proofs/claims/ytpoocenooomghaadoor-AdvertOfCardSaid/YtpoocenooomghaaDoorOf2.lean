/- Parts of the proof, packed: IoMem, IoRead, IoWild, IoKit, IoWrite, IoValid. -/
import Derived.Test.YtpoocenooomghaaDoorOf1
import Derived.WalkLawsBesides
import Derived.Test.YtpoocenooomghaaDoorCards
import Derived.Test.YtpoocenooomghaaDoorTie
import Derived.ProofKit
import Derived.OpenShut
import Derived.Deep.DeepHandedRow
import Derived.Lib.LaidTab
import Derived.Lib.SmallJoins
import Derived.BigRegion
import Derived.Deep.LoopGhost
/- Both. -/
namespace Go.Proofs.YtpoocenooomghaaDoor
open Go.RowKit Bs

set_option maxRecDepth 100000 in
theorem info_int : (Tryd.prog.info? 3).map (fun i => (i.zero, i.size, i.bytes)) = some (some (.int .i64 0), 1, 8) := by kernel_rfl
set_option maxRecDepth 100000 in
theorem info_u64 : (Tryd.prog.info? 50).map (fun i => (i.zero, i.size, i.bytes)) = some (some (.int .u64 0), 1, 8) := by kernel_rfl
set_option maxRecDepth 100000 in
theorem info_u8 : (Tryd.prog.info? 5).map (fun i => (i.zero, i.size, i.bytes)) = some (some (.int .u8 0), 1, 1) := by kernel_rfl

/-- The slice value v reads as vs; where it has elements, its block meets q. -/
def Rd (w : World) (q : Nat → Prop) (v : Value) (vs : List Value) : Prop :=
  ∃ p c, v = .slice p vs.length c ∧ (vs ≠ [] → ∃ b off, p = some ⟨b, off, none⟩ ∧ q b ∧ ∀ i x, vs[i]? = some x → w.cell? ⟨b, off + i, none⟩ = some x)
set_option maxRecDepth 100000 in
theorem Rd.grown {w w' : World} {q : Nat → Prop} {v : Value} {vs : List Value} {r : Option Nat} (h : Rd w q v vs) (g : w.grownBy w' r) (hq : ∀ b, q b → some b ≠ r) : Rd w' q v vs := by
  obtain ⟨p, c, hv, hc⟩ := h
  refine ⟨p, c, hv, fun hne => ?_⟩
  obtain ⟨b, off, hp, hb, hx⟩ := hc hne
  exact ⟨b, off, hp, hb, fun i x hi => g.cell (hx i x hi) (hq b hb)⟩
set_option maxRecDepth 100000 in
theorem Rd.mono {w : World} {q q' : Nat → Prop} {v : Value} {vs : List Value} (h : Rd w q v vs) (hq : ∀ b, q b → q' b) : Rd w q' v vs := by
  obtain ⟨p, c, hv, hc⟩ := h
  refine ⟨p, c, hv, fun hne => ?_⟩
  obtain ⟨b, off, hp, hb, hx⟩ := hc hne
  exact ⟨b, off, hp, hq b hb, hx⟩
set_option maxRecDepth 100000 in
theorem Rd.keep {w w' : World} {q : Nat → Prop} {v : Value} {vs : List Value} (h : Rd w q v vs) (g : w.grownBy w' none) : Rd w' q v vs := h.grown g (fun _ _ => by simp)
set_option maxRecDepth 100000 in
theorem Rd.nil_ (w : World) (q : Nat → Prop) (p : Option Addr) (c : Nat) : Rd w q (.slice p 0 c) [] := ⟨p, c, rfl, fun h => absurd rfl h⟩
set_option maxRecDepth 100000 in
theorem rd_of_own {w : World} {base : Nat} {e : TypeId} {v : Value} {n : Nat} {xs : List Value} (h : w.ownsRow base e 1 v n xs) : Rd w (base ≤ ·) v xs := by
  have hl : xs.length = n := by have := h.1; omega
  rcases h.2 with ⟨rfl, h0⟩ | ⟨g, cap, cur, rfl, hb, hg, _⟩
  · subst h0
    exact ⟨none, 0, by rw [hl], fun hne => absurd (List.eq_nil_of_length_eq_zero hl) hne⟩
  · refine ⟨some ⟨g, 0, none⟩, cap, by rw [hl], fun _ => ⟨g, 0, rfl, hb, fun i x hi => ?_⟩⟩
    have := h.cells (g := g) rfl i x hi
    have hadd : (⟨g, 0, none⟩ : Addr).add i = ⟨g, 0 + i, none⟩ := by unfold Addr.add; split <;> simp_all
    rw [hadd] at this
    exact this
set_option maxRecDepth 100000 in
theorem own_step {w wr w1 : World} {o : Obj} {e : TypeId} {size n : Nat} {v : Value} {xs : List Value} (h : w.grownBy wr none) (hown : wr.ownsRow w.heap.size e size v n xs) (hg : (wr.alloc o).grownBy w1 v.ownBlock) : w.grownBy w1 none := by
  refine ⟨hg.os.trans h.os, hg.tape.trans h.tape, hg.output.trans h.output, Nat.le_trans h.size (Nat.le_trans (by simp) hg.size), fun k hk _ => ?_⟩
  have hks : k < wr.heap.size := Nat.lt_of_lt_of_le hk h.size
  refine (hg.block k (by simp; omega) (fun e => ?_)).trans ((Below.heap_alloc wr o k hks).trans (h.block k hk (by simp)))
  have := (hown.lt k e.symm).1
  omega
set_option maxRecDepth 100000 in
theorem cell_one (w : World) (x : Value) (t : TypeId) : ∀ j u, [x][j]? = some u → (w.alloc (.cells #[x] t)).cell? ((⟨w.heap.size, 0, none⟩ : Addr).add j) = some u := by
  intro j u hj
  match j, hj with
  | 0, hj =>
    simp at hj; subst hj
    have hb : (w.alloc (.cells #[x] t)).heap[w.heap.size]? = some (.cells #[x] t (0, 0)) := heap_alloc_new w _
    have hadd : (⟨w.heap.size, 0, none⟩ : Addr).add 0 = ⟨w.heap.size, 0, none⟩ := by unfold Addr.add; split <;> simp_all
    rw [hadd, cell_of_row _ _ _ _ _ _ hb]; rfl
set_option maxRecDepth 100000 in
theorem Tb.drew {w : World} (h : Tb w) : Tb w.drew := h
set_option maxRecDepth 100000 in
theorem hid_drew {W w : World} {r : Option Nat} (h : Hid (W.grownBy w r)) : Hid (W.grownBy w.drew r) := Lib.hid ⟨h.out.os, h.out.tape, h.out.output, h.out.size, h.out.block⟩
set_option maxRecDepth 100000 in
theorem hid_more {W w w' : World} {r : Option Nat} (h : Hid (W.grownBy w r)) (k : w.grownBy w' r) : Hid (W.grownBy w' r) := Lib.hid (grown_trans h.out k)
/-- An int of Go's out of a number. -/
def ival (k : Nat) : Value := .int .i64 (k : Int)
def ListPost (vs : List Value) (w : World) (e : Ending) (w' : World) : Prop := ∃ v, e = .returned v ∧ Rd w' (w.heap.size ≤ ·) v vs ∧ w.grownBy w' none
set_option maxRecDepth 100000 in
theorem bl_snoc_t {n b : Nat} (h : b.testBit n = true) : blN (n + 1) b = blN n b ++ [n] := by rw [blN_snoc, h]; rfl
set_option maxRecDepth 100000 in
theorem bl_snoc_f {n b : Nat} (h : b.testBit n = false) : blN (n + 1) b = blN n b := by rw [blN_snoc, h]; simp

def RefListRel (b : Nat) (w : World) (v : Value) (j : Nat) (wr : World) : Prop := wr.ownsRow w.heap.size 3 1 v (blN j b).length ((blN j b).map ival) ∧ w.grownBy wr none
set_option maxRecDepth 100000 in
theorem reflist_hit {b j : Nat} {w wr w1 : World} {v v' : Value} {o : Obj} (h : RefListRel b w v j wr) (ht : b.testBit j = true)
    (hown' : w1.ownsRow w.heap.size 3 1 v' ((blN j b).length + 1) ((blN j b).map ival ++ [.int .i64 (j : Int)])) (hg : (wr.alloc o).grownBy w1 v.ownBlock) : RefListRel b w v' (j + 1) w1 := by
  refine ⟨?_, own_step h.2 h.1 hg⟩
  rw [bl_snoc_t ht, List.length_append, List.map_append]
  exact hown'
set_option maxRecDepth 100000 in
theorem reflist_miss {b j : Nat} {w wr : World} {v : Value} (h : RefListRel b w v j wr) (ht : b.testBit j = false) : RefListRel b w v (j + 1) wr := by
  unfold RefListRel
  rw [bl_snoc_f ht]; exact h
end Go.Proofs.YtpoocenooomghaaDoor

/- The program's small functions, and its reading of bits. -/
namespace Go.Proofs.YtpoocenooomghaaDoor
open Go.RowKit Bs

/-- A byte. -/
def nv (x : Nat) : Value := .int .u8 (x : Int)
/-- Bytes, each below 256. -/
def By (l : List Nat) : Prop := ∀ x ∈ l, x < 256
set_option maxRecDepth 100000 in
theorem By.at_ {l : List Nat} (h : By l) {j : Nat} (hj : j < l.length) : l.getD j 0 < 256 := by
  rw [List.getD_eq_getElem?_getD, List.getElem?_eq_getElem hj]
  exact h _ (List.getElem_mem hj)
set_option maxRecDepth 100000 in
theorem nv_at {l : List Nat} {j : Nat} (h : j < l.length) : (l.map nv)[j]? = some (.int .u8 ((l.getD j 0 : Nat) : Int)) := by
  rw [List.getElem?_map, List.getElem?_eq_getElem h, List.getD_eq_getElem?_getD, List.getElem?_eq_getElem h]; rfl
set_option maxRecDepth 100000 in
theorem Rd.at_ {w : World} {q : Nat → Prop} {p : Option Addr} {n c i : Nat} {vs : List Value} {x : Value} (h : Rd w q (.slice p n c) vs) (hi : vs[i]? = some x) :
    ∃ b off, p = some ⟨b, off, none⟩ ∧ q b ∧ w.cell? ⟨b, off + i, none⟩ = some x := by
  obtain ⟨p1, c1, e1, hx⟩ := h
  injection e1 with a1 a2 a3
  subst a1
  obtain ⟨b, off, hp, hq, hc⟩ := hx (by intro e; rw [e] at hi; simp at hi)
  exact ⟨b, off, hp, hq, hc i x hi⟩
set_option maxRecDepth 100000 in
set_option maxHeartbeats 400000 in
theorem bytesFor_any (n : Nat) (hn : n ≤ 100000) (w : World) :
    Calls Tryd.prog 88 #[.int .i64 (n : Int)] w fun e w' => e = .returned (.int .i64 (((n + 7) / 8 : Nat) : Int)) ∧ w = w' := by
  go_enter Tryd.func88, Tryd.ntmps88
  go_wp2
  go_ret
  exact ⟨ret_int (by omega), rfl⟩
def vw (n : Int) : Bool := decide (0 ≤ n) && decide (n ≤ 64)
set_option maxRecDepth 100000 in
set_option maxHeartbeats 400000 in
theorem width_any (n : Int) (w : World) :
    Calls Tryd.prog 85 #[.int .i64 n] w fun e w' => e = .returned (.bool (vw n)) ∧ w = w' := by
  go_enter Tryd.func85, Tryd.ntmps85
  go_wp2
  all_goals go_ret
  all_goals exact ⟨ret_bool (by unfold vw; simp [*] <;> omega), rfl⟩
set_option maxRecDepth 100000 in
/-- One round of reading: k bits of the byte at A. -/
theorem read_step {l : List Nat} {at0 j A x k s : Nat} (hA : at0 + j = A) (hX : l.getD (A / 8) 0 = x) (hs : s + k + A % 8 = 8) (hj : j + k ≤ 64) (hx : x < 256) :
    bits .or .u64 (IntKind.u64.wrap (((num (bt l) at0 j : Nat) : Int) * 2 ^ k)) (bits .and .u64 ((x : Int) / 2 ^ s) (IntKind.u64.wrap (IntKind.u64.wrap (2 ^ k) - 1))) = ((num (bt l) at0 (j + k) : Nat) : Int) := by
  have h1 := num_lt (bt l) at0 j
  have h2 : 2 ^ (j + k) ≤ 2 ^ 64 := Nat.pow_le_pow_right (by decide) hj
  have h3 : num (bt l) at0 j * 2 ^ k + 2 ^ k ≤ 2 ^ (j + k) := by
    rw [Nat.pow_add, ← Nat.succ_mul]
    exact Nat.mul_le_mul_right _ h1
  rw [rd_word _ x s k (by omega) hx (Nat.le_trans h3 h2), num_add, hA]
  rw [num_byte x s k A (A % 8) (bt l) hs]
  intro t ht
  unfold bt
  rw [show (A + t) / 8 = A / 8 by omega, hX, show (A + t) % 8 = A % 8 + t by omega]
set_option maxRecDepth 100000 in
set_option maxHeartbeats 1600000 in
theorem read_any (l : List Nat) (q : Nat → Prop) (p : Option Addr) (c at0 n0 : Nat) (hl : By l) (hll : l.length ≤ 4000) (h0 : at0 + n0 ≤ 8 * l.length) (hn : n0 ≤ 64) (w : World) (hR : Rd w q (.slice p l.length c) (l.map nv)) :
    Calls Tryd.prog 110 #[.slice p l.length c, .int .i64 (at0 : Int), .int .i64 (n0 : Int)] w fun e w' => e = .returned (.int .u64 ((num (bt l) at0 n0 : Nat) : Int)) ∧ ∃ m, w' = w.drewN m := by
  go_enter Tryd.func110, Tryd.ntmps110
  go_wp2_with fail
  go_loopw [1, 2, 7] (fun a n v wr => ∃ j N m : Nat, j + N = n0 ∧ a = .int .i64 ((at0 + j : Nat) : Int) ∧ n = .int .i64 (N : Int) ∧ v = .int .u64 ((num (bt l) at0 j : Nat) : Int) ∧ wr = w.drewN m) (fun _ n _ _ => (RowKit.intOf n).toNat)
  case atStart => exact ⟨0, n0, 0, by omega, rfl, rfl, rfl, rfl⟩
  case round =>
    obtain ⟨j, N, m, hj, rfl, rfl, rfl, hwr⟩ := hrel
    have HW := Lib.hid hwr
    generalize hA : at0 + j = A
    have HA := Lib.hid hA
    by_cases hlt : 0 < N
    · have hAl : A / 8 < l.length := by omega
      obtain ⟨g, off, rfl, _, hcell⟩ := hR.at_ (nv_at hAl)
      have hx := hl.at_ hAl
      generalize hX : l.getD (A / 8) 0 = x at *
      have HX := Lib.hid hX
      have hA4 : A ≤ 32000 := by omega
      obtain ⟨R, hr⟩ : ∃ R : Nat, R = 8 - A % 8 := ⟨_, rfl⟩
      have hroom : (8 - (A : Int) % 8) = (R : Int) := by omega
      have hR8 : R ≤ 8 := by omega
      have hR1 : 1 ≤ R := by omega
      have HR := Lib.hid hr
      have HJ := Lib.hid hj
      have hN : N ≤ 64 := by omega
      have hcell' : wr.cell? ⟨g, off + A / 8, none⟩ = some (.int .u8 (x : Int)) := by rw [hwr]; exact hcell
      clear hr hX hj hA hR hcell hwr
      by_cases hc : N < R
      · obtain ⟨s, hs⟩ : ∃ s : Nat, s = R - N := ⟨_, rfl⟩
        have hsub : (R : Int) - (N : Int) = (s : Int) := by omega
        have hs8 : s ≤ 8 := by omega
        have HS := Lib.hid (read_step (l := l) (k := N) (s := s) HA.out HX.out (by have := HR.out; omega) (by have := HJ.out; omega) hx)
        clear hs
        generalize hv : num (bt l) at0 j = v at *
        go_wp2_with fail
        go_quiet (fail)
        go_wp2_with fail
        go_roundw
        case rel => exact ⟨j + N, 0, m + nq, by have := HJ.out; omega, by congr 1; have := HA.out; omega, by simp, by rw [HS.out], by rw [HW.out, World.drewN_drewN]⟩
        case measure => simp [RowKit.intOf]; omega
      · have HS := Lib.hid (read_step (l := l) (k := R) (s := 0) HA.out HX.out (by have := HR.out; omega) (by have := HJ.out; omega) hx)
        generalize hv : num (bt l) at0 j = v at *
        have hmin : Min.min (R : Int) (N : Int) = (R : Int) := by omega
        go_wp2_with fail
        go_quiet (fail)
        go_wp2_with fail
        go_roundw
        case rel => exact ⟨j + R, N - R, m + nq, by have := HJ.out; omega, by congr 1; have := HA.out; omega, by congr 1; omega, by rw [← HS.out]; simp, by rw [HW.out, World.drewN_drewN]⟩
        case measure => simp [RowKit.intOf]; omega
    · obtain rfl : N = 0 := by omega
      obtain rfl : j = n0 := by omega
      clear hwr
      go_wp2_with fail
      go_ret
      exact ⟨rfl, _, HW.out⟩
end Go.Proofs.YtpoocenooomghaaDoor

/- The tape's wild numbers; rows of a call's own while the tape turns. -/
namespace Go.Proofs.YtpoocenooomghaaDoor
open Go.RowKit Bs
def wilds : List Int := [-1, 0, 1, 7, 8, 23, 24, 31, 32, 63, 64, 99, 100, 255, 256, 257, 1000, 1001, 1023, 1024, 1000000, 1000001, 1099511627776, 9223372036854775807, -9223372036854775808]
set_option maxRecDepth 100000 in
theorem wilds_i64 : ∀ x ∈ wilds, I64 x := by unfold I64 wilds; decide +kernel
set_option maxRecDepth 100000 in
set_option maxHeartbeats 800000 in
theorem wild_any (a : Nat) (w : World) (hT : Tp w a) :
    Calls Tryd.prog 37 #[.pointer (some ⟨a, 0, none⟩)] w fun e w' => IntPost I64 a w e w' := by
  have HA := among_list I64 w a wilds (wilds.map fun x => Value.int .i64 x).toArray 3 hT.lt rfl wilds_i64
  have HA' := Lib.hid HA
  clear HA
  go_enter Tryd.func37, Tryd.ntmps37
  go_wp2_with fail
  refine (pick_any I64 a _ 0 25 25 (by omega) (by omega) _ (hT.alloc _) HA'.out).mono ?_
  rintro e w1 ⟨r, rfl, hr, hs⟩
  go_wp2_with fail
  go_ret
  exact ⟨_, rfl, hr, hs.alloc_left⟩
set_option maxRecDepth 100000 in
theorem own_block_ne {w wr : World} {e : TypeId} {v : Value} {n a : Nat} {xs : List Value} (h : wr.ownsRow w.heap.size e 1 v n xs) (ha : a < w.heap.size) : v.ownBlock = none ∨ v.ownBlock ≠ some a := by
  cases hv : v.ownBlock with
  | none => exact .inl rfl
  | some g =>
    right
    intro e2
    have e3 := Option.some.inj e2
    have := (h.lt g hv).1
    omega
set_option maxRecDepth 100000 in
/-- A row of the call's own is appended to: the tape stands. -/
theorem st_append {a : Nat} {w wr w1 : World} {o : Obj} {v : Value} {n : Nat} {e : TypeId} {xs : List Value} (hs : St a w wr) (ha : a < w.heap.size) (hown : wr.ownsRow w.heap.size e 1 v n xs) (hg : (wr.alloc o).grownBy w1 v.ownBlock) : St a w w1 := by
  have hT := hs.2.alloc o
  have hlt := hT.lt
  have hne : some a ≠ v.ownBlock := by
    rcases own_block_ne hown ha with h | h
    · rw [h]; simp
    · exact fun e => h e.symm
  refine ⟨⟨hg.os.trans hs.1.os, hg.tape.trans hs.1.tape, hg.output.trans hs.1.output, Nat.le_trans hs.1.size (Nat.le_trans (by simp) hg.size), fun k hk hka => ?_⟩, ?_⟩
  · have hks : k < wr.heap.size := Nat.lt_of_lt_of_le hk hs.1.size
    refine (hg.block k (by simp; omega) (fun e => ?_)).trans ((Below.heap_alloc wr o k hks).trans (hs.1.block k hk hka))
    have := (hown.lt k e.symm).1
    omega
  · have hb := hg.block a hlt hne
    have hal := hs.2.lt
    obtain ⟨lv, m, i, T⟩ := hT
    refine ⟨lv, m, i, (World.cell?_of_block (a := ⟨a, 0, none⟩) hb).trans T.l, (World.cell?_of_block (a := ⟨a, 1, none⟩) hb).trans T.p, (World.frozen?_of_block (a := ⟨a, 1, none⟩) hb).trans T.fr, ?_, T.le, T.len⟩
    obtain ⟨p, c, hv, hc⟩ := T.ints
    refine ⟨p, c, hv, fun hm => ?_⟩
    obtain ⟨b, off, hp, hba, hx⟩ := hc hm
    refine ⟨b, off, hp, hba, fun i hi => ?_⟩
    obtain ⟨x, hx, hcell⟩ := hx i hi
    refine ⟨x, hx, hg.cell hcell (fun e => ?_)⟩
    have := (hown.lt b e.symm).1
    omega
set_option maxRecDepth 100000 in
/-- A row of the call's own stands while the tape turns. -/
theorem own_kept {a : Nat} {w wr w1 : World} {v : Value} {n : Nat} {e : TypeId} {xs : List Value} (ha : a < w.heap.size) (hown : wr.ownsRow w.heap.size e 1 v n xs) (g : wr.grownBy w1 (some a)) : w1.ownsRow w.heap.size e 1 v n xs :=
  hown.kept g (own_block_ne hown ha)
end Go.Proofs.YtpoocenooomghaaDoor

/- Both. -/
namespace Go.Proofs.YtpoocenooomghaaDoor
open Go.ChangeShapes Go.WideShapes Go.ChangeAt Go.RowKit Bs

set_option maxRecDepth 100000 in
theorem kit_own : ownKnob Tryd.prog.godebug = none := by kernel_rfl
set_option maxRecDepth 100000 in
theorem kit_laid : laidOutB Tryd.prog = true := by kernel_rfl
set_option maxRecDepth 100000 in
theorem kit_tab : Tryd.prog.globalNamed "math/bits.deBruijn64tab" = some 0 := by kernel_rfl
set_option maxRecDepth 100000 in
theorem kit_tabType : (Tryd.prog.globals[0]?).map (·.type) = some 130 := by kernel_rfl
set_option maxRecDepth 100000 in
theorem kit_cellsTab : Tryd.prog.cellsOf 130 = 64 := by kernel_rfl
set_option maxRecDepth 100000 in
theorem kit_cellsByte : Tryd.prog.cellsOf 5 = 1 := by kernel_rfl
set_option maxRecDepth 100000 in
theorem kit_cellsInt : Tryd.prog.cellsOf 3 = 1 := by kernel_rfl
set_option maxRecDepth 100000 in
theorem kit_cellsU64 : Tryd.prog.cellsOf 50 = 1 := by kernel_rfl
set_option maxRecDepth 100000 in
/-- The row's list gives the table. -/
theorem kit_table {W : World} (h : laidMetH Tryd.prog [("math/bits.deBruijn64tab", Rows.laid_math_bits_deBruijn64tab)] W) : Tb W := by
  have T : Lib.TabIs Tryd.prog W "math/bits.deBruijn64tab" .u8 (Lib.deBruijn64tab.map fun n : Nat => (n : Int)) :=
    Lib.tabIs_of_head (rest := []) kit_tab kit_tabType Tryd.underlying130 Tryd.underlying5 kit_cellsByte kit_cellsTab h
  intro j hj
  have := T.cell kit_tab j (by simpa using hj)
  rw [this]
  congr 2
  rw [List.getD_eq_getElem?_getD, List.getD_eq_getElem?_getD, List.getElem?_map]
  cases Lib.deBruijn64tab[j]? <;> rfl

section
variable {H : Type} {enc : TypeId × Value → H} {W W' : World}
set_option maxRecDepth 100000 in
/-- The types of these parameters can be read. -/
def Readable (P : Program) (ts : List TypeId) : Bool := ts.all fun t => P.readableRec t && decide (t < P.types.size)
set_option maxRecDepth 100000 in
theorem args_below {P : Program} (hl : laidOutB P = true) (hb : Below W.heap.size W W') {sp : Nat → Bool} : ∀ (ts : List TypeId) (vs : List Value) (ds : List (DataW H)) (ps : List MemPlace), Readable P ts = true →
    DataW.TrodAll enc P W 0 (fun _ => true) true ts vs ds ps → (∀ x ∈ ps, x.block < W.heap.size) → (∀ x ∈ ps, sp x.block = true) → DataW.TrodAll enc P W' 0 sp true ts vs ds ps := by
  intro ts
  induction ts with
  | nil =>
    intro vs ds ps _ h _ _
    cases vs with
    | nil => cases ds with
      | nil => exact h
      | cons _ _ => exact h.elim
    | cons _ _ => exact h.elim
  | cons t ts ih =>
    intro vs ds ps hr h hlt hs
    cases vs with
    | nil => exact h.elim
    | cons v vs => cases ds with
      | nil => exact h.elim
      | cons d ds =>
        obtain ⟨p, q, h1, h2, rfl⟩ := h
        have hr' : (P.readableRec t = true ∧ t < P.types.size) ∧ Readable P ts = true := by
          unfold Readable at hr ⊢
          rw [List.all_cons, Bool.and_eq_true, Bool.and_eq_true, decide_eq_true_eq] at hr
          exact hr
        exact ⟨p, q, WideElems.Trod_stays hl hr'.1.1 hr'.1.2 h1 (fun x hx => hb.same (hlt x (by simp [hx]))) (fun x hx => hs x (by simp [hx])),
          ih vs ds q hr'.2 h2 (fun x hx => hlt x (by simp [hx])) (fun x hx => hs x (by simp [hx])), rfl⟩
set_option maxRecDepth 100000 in
theorem below_of_grown (g : W.grownBy W' none) : Below W.heap.size W W' := ⟨g.os, g.tape, g.output, g.size, fun k hk => g.block k hk (by simp)⟩
set_option maxRecDepth 100000 in
/-- The end of a statement's call: it returned true, and made memory alone. -/
theorem law_post {f : Func} {s : ChangeSpec} {args : Array Value} {ds gs : List (DataW H)} {before : List MemPlace} (hr : Readable Tryd.prog f.params.toList = true) (hv : s.vars = [])
    (hres : f.resultTypes = #[4]) (hfn : (s.fn H (ds ++ gs)).results = [.lit (.bool true)] ∧ (s.fn H (ds ++ gs)).args = ds ∧ (s.fn H (ds ++ gs)).vars = [])
    (hW : DataW.Whole enc Tryd.prog f.params.toList s.vars false W args.toList ds gs before) (g : W.grownBy W' none) : s.post enc Tryd.prog f false true false false W args (.bool true) W' := by
  have hlt := hW.lt
  have hb := below_of_grown g
  obtain ⟨p, q, hA, hV, hp, _, _⟩ := id hW
  rw [hv] at hV
  obtain ⟨rfl, rfl⟩ := trodVars_none hV
  rw [List.append_nil] at hp
  subst hp
  refine ⟨ds, [], before, [], before, [], hW, ?_, ?_, ?_, hb.frame _, fun h => by cases h⟩
  · rw [hfn.1, hres]
    exact trodAll_mk1 (shut_bool Tryd.underlying4 _)
  · rw [hfn.2.1]
    exact args_below kit_laid hb _ _ _ _ hr hA hlt (fun x hx => by simpa using hlt x hx)
  · rw [hfn.2.2, hv]; rfl
end

section
variable {H : Type} {enc : TypeId × Value → H} {W : World} {base : Nat} {v : Value} {d : DataW H} {ps : List MemPlace}
set_option maxRecDepth 100000 in
theorem opn_u64 (hval : Value.okWide Tryd.prog W .any base 50 v) (h : DataW.Trod enc Tryd.prog W 0 (fun _ => true) true 50 v d ps) : ∃ b : Nat, v = .int .u64 (b : Int) ∧ U64 b := by
  obtain ⟨n, rfl, _, _, wf⟩ := open_int Tryd.underlying50 hval h
  have hb : 0 ≤ n ∧ n < 18446744073709551616 := by
    simp [Lit.wf, IntKind.min, IntKind.max, IntKind.bits, IntKind.signed] at wf
    omega
  obtain ⟨b, rfl⟩ := Int.eq_ofNat_of_zero_le hb.1
  exact ⟨b, rfl, u64_mk (by omega)⟩
set_option maxRecDepth 100000 in
theorem opn_i64 (hval : Value.okWide Tryd.prog W .any base 3 v) (h : DataW.Trod enc Tryd.prog W 0 (fun _ => true) true 3 v d ps) : ∃ n : Int, v = .int .i64 n ∧ I64 n := by
  obtain ⟨n, rfl, _, _, wf⟩ := open_int Tryd.underlying3 hval h
  refine ⟨n, rfl, ?_⟩
  simp [Lit.wf, IntKind.min, IntKind.max, IntKind.bits, IntKind.signed] at wf
  unfold I64; omega
set_option maxRecDepth 100000 in
theorem i64_wf {n : Int} (wf : (Lit.int .i64 n).wf = true) : I64 n := by
  simp [Lit.wf, IntKind.min, IntKind.max, IntKind.bits, IntKind.signed] at wf
  unfold I64; omega
set_option maxRecDepth 100000 in
theorem opn_slice {T E : TypeId} {k : IntKind} (ht : Tryd.prog.underlying T = some (.slice E)) (he : Tryd.prog.underlying E = some (.int k)) (hc : Tryd.prog.cellsOf E = 1)
    (hval : Value.okWide Tryd.prog W .any base T v) (h : DataW.Trod enc Tryd.prog W 0 (fun _ => true) true T v d ps) :
    ∃ zs : List Int, (∀ z ∈ zs, (Lit.int k z).wf = true) ∧ Rd W (· < W.heap.size) v (zs.map fun z => .int k z) ∧ ∃ p c, v = .slice p zs.length c ∧ zs.length ≤ c ∧ c ≤ 9223372036854775807 := by
  obtain ⟨p0, n0, c0, rfl⟩ := okWide_slice ht hval
  obtain ⟨fuel, hf⟩ := h
  rcases open_ints ht he hc hf with ⟨hcs, _⟩ | ⟨a, len, cap, zs, hcs, _, hl, hm, hz, _, hcell, hw⟩
  · simp [Value.cells] at hcs
    obtain ⟨rfl, rfl, rfl⟩ := hcs
    exact ⟨[], fun _ h => by simp at h, Rd.nil_ _ _ _ _, none, 0, rfl, Nat.le_refl _, Nat.zero_le _⟩
  · simp [Value.cells] at hcs
    obtain ⟨rfl, rfl, rfl⟩ := hcs
    rw [if_pos rfl] at hz
    have hlen : (zs.take n0).length = n0 := by rw [List.length_take]; omega
    refine ⟨zs.take n0, fun z hzm => hw z (List.mem_of_mem_take hzm), ?_, some a, c0, by rw [hlen], by omega, hm⟩
    refine ⟨some a, c0, by rw [List.length_map, hlen], fun hne => ?_⟩
    have hpos : 0 < zs.length := by
      rcases Nat.eq_zero_or_pos zs.length with h0 | h0
      · rw [List.eq_nil_of_length_eq_zero h0] at hne
        simp at hne
      · exact h0
    obtain ⟨b, off, rfl, hcc⟩ := ints_at hcell hpos
    refine ⟨b, off, rfl, World.block_lt_of_cell? W ⟨b, off + 0, none⟩ (hcc 0 hpos), fun i x hi => ?_⟩
    obtain ⟨hi1, hi2⟩ := List.getElem?_eq_some_iff.1 hi
    rw [List.length_map, hlen] at hi1
    rw [hcc i (by omega)]
    rw [List.getElem_map, List.getElem_take] at hi2
    rw [← hi2, List.getD_eq_getElem?_getD, List.getElem?_eq_getElem (by omega)]; rfl
set_option maxRecDepth 100000 in
theorem opn_ints (hval : Value.okWide Tryd.prog W .any base 22 v) (h : DataW.Trod enc Tryd.prog W 0 (fun _ => true) true 22 v d ps) :
    ∃ zs : List Int, (∀ z ∈ zs, I64 z) ∧ Rd W (· < W.heap.size) v (zs.map fun z => .int .i64 z) ∧ ∃ p c, v = .slice p zs.length c ∧ zs.length ≤ c ∧ c ≤ 9223372036854775807 := by
  obtain ⟨zs, hw, hr⟩ := opn_slice Tryd.underlying22 Tryd.underlying3 kit_cellsInt hval h
  exact ⟨zs, fun z hz => i64_wf (hw z hz), hr⟩
set_option maxRecDepth 100000 in
theorem ints_in {zs : List Int} (hz : ∀ z ∈ zs, I64 z) (h : Rd W (· < W.heap.size) v (zs.map fun z => .int .i64 z)) (hc : ∃ p c, v = .slice p zs.length c ∧ zs.length ≤ c ∧ c ≤ 9223372036854775807) : IntsIn W v := by
  obtain ⟨p, c, rfl, h1, h2⟩ := hc
  refine ⟨p, zs.length, c, rfl, h1, h2, fun hn => ?_⟩
  obtain ⟨p', c', hv, hx⟩ := h
  injection hv with e1 e2 e3
  subst e1
  obtain ⟨b, off, hp, hb, hcell⟩ := hx (by intro e; have := congrArg List.length e; simp at this; subst this; simp at hn)
  refine ⟨b, off, hp, hb, fun i hi => ⟨zs[i], hz _ (List.getElem_mem hi), hcell i _ ?_⟩⟩
  rw [List.getElem?_map, List.getElem?_eq_getElem hi]; rfl
end
section
variable {H : Type} {enc : TypeId × Value → H} {W : World} {base : Nat} {v : Value} {d : DataW H} {ps : List MemPlace}
set_option maxRecDepth 100000 in
theorem opn_bytes (hval : Value.okWide Tryd.prog W .any base 36 v) (h : DataW.Trod enc Tryd.prog W 0 (fun _ => true) true 36 v d ps) :
    ∃ zs : List Int, (∀ z ∈ zs, (Lit.int .u8 z).wf = true) ∧ Rd W (· < W.heap.size) v (zs.map fun z => .int .u8 z) ∧ ∃ p c, v = .slice p zs.length c ∧ zs.length ≤ c ∧ c ≤ 9223372036854775807 :=
  opn_slice Tryd.underlying36 Tryd.underlying5 kit_cellsByte hval h
set_option maxRecDepth 100000 in
theorem opn_string (hval : Value.okWide Tryd.prog W .any base 9 v) (h : DataW.Trod enc Tryd.prog W 0 (fun _ => true) true 9 v d ps) : ∃ s : ByteArray, v = .string s ∧ s.size ≤ maxLen := by
  obtain ⟨s, h1, _, _, h2⟩ := Go.ChangeMaps.open_string Tryd.underlying9 hval h
  exact ⟨s, h1, h2⟩
end
set_option maxRecDepth 100000 in
/-- A world for the witness: the table stands in its variable. -/
noncomputable def laidWorld (os : Os) : World :=
  { World.holding Tryd.prog os ⟨#[], #[], []⟩ with heap := (World.holding Tryd.prog os ⟨#[], #[], []⟩).heap.modify 0 fun
      | .cells _ t frozen => .cells (Lib.deBruijn64tab.map fun n : Nat => Value.int .u8 (n : Int)).toArray t frozen
      | o => o }
open Go.ChangeShapes Go.WideShapes Go.ChangeAt Go.RowKit Go.Joins Bs

section
variable {H : Type} {enc : TypeId × Value → H} {W W' : World}
end

section
variable {H : Type} {enc : TypeId × Value → H} {W : World} {base : Nat} {v : Value} {d : DataW H} {ps : List MemPlace}
end
section
variable {H : Type} {enc : TypeId × Value → H} {W : World} {base : Nat} {v : Value} {d : DataW H} {ps : List MemPlace}
set_option maxRecDepth 100000 in
theorem opn_u8 (hval : Value.okWide Tryd.prog W .any base 5 v) (h : DataW.Trod enc Tryd.prog W 0 (fun _ => true) true 5 v d ps) : ∃ b : Nat, v = .int .u8 (b : Int) ∧ b < 256 := by
  obtain ⟨n, rfl, _, _, wf⟩ := open_int Tryd.underlying5 hval h
  have hb : 0 ≤ n ∧ n < 256 := by
    simp [Lit.wf, IntKind.min, IntKind.max, IntKind.bits, IntKind.signed] at wf
    omega
  obtain ⟨b, rfl⟩ := Int.eq_ofNat_of_zero_le hb.1
  exact ⟨b, rfl, by omega⟩
set_option maxRecDepth 100000 in
theorem opn_stream (hval : Value.okWide Tryd.prog W .any base 47 v) (h : DataW.Trod enc Tryd.prog W 0 (fun _ => true) true 47 v d ps) :
    ∃ (l : List Nat) (n : Int) (p : Option Addr) (c : Nat), v = .agg #[.slice p l.length c, .int .i64 n] ∧ By l ∧ I64 n ∧ Rd W (· < W.heap.size) (.slice p l.length c) (l.map nv) ∧ (p = none → c = 0) ∧ l.length ≤ c ∧ c ≤ 9223372036854775807 := by
  obtain ⟨v0, v1, y0, y1, m, rfl, _, _, h0, h1⟩ := open_agg2 Tryd.underlying47 (by kernel_rfl) (by kernel_rfl) hval h
  obtain ⟨n, hn, _, wf⟩ := DataW.trod_int Tryd.underlying3 h1
  obtain rfl : v1 = .int .i64 n := by simpa using hn
  rcases open_ints Tryd.underlying36 Tryd.underlying5 kit_cellsByte h0 with ⟨hcs, _⟩ | ⟨a, len, cap, zs, hcs, _, hl, hm, hz, _, hcell, hw⟩
  · obtain rfl : v0 = .slice none 0 0 := by simpa using hcs
    exact ⟨[], n, none, 0, rfl, (fun x hx => by cases hx), i64_wf wf, Rd.nil_ _ _ _ _, fun _ => rfl, Nat.le_refl _, by omega⟩
  · obtain rfl : v0 = .slice (some a) len cap := by simpa using hcs
    rw [if_pos rfl] at hz
    have hwz : ∀ z ∈ zs, 0 ≤ z ∧ z < 256 := by
      intro z hzm
      have := hw z hzm
      simp [Lit.wf, IntKind.min, IntKind.max, IntKind.bits, IntKind.signed] at this
      omega
    have hlen : ((zs.take len).map Int.toNat).length = len := by rw [List.length_map, List.length_take]; omega
    refine ⟨(zs.take len).map Int.toNat, n, some a, cap, by rw [hlen], ?_, i64_wf wf, ?_, (by intro e; cases e), by rw [hlen]; exact hl, hm⟩
    · intro x hx
      obtain ⟨z, hzm, rfl⟩ := List.mem_map.1 hx
      have := hwz z (List.mem_of_mem_take hzm)
      omega
    · refine ⟨some a, cap, by simp, fun hne => ?_⟩
      have hpos : 0 < zs.length := by
        rcases Nat.eq_zero_or_pos zs.length with h0 | h0
        · rw [List.eq_nil_of_length_eq_zero h0] at hne
          simp at hne
        · exact h0
      obtain ⟨b, off, rfl, hcc⟩ := ints_at hcell hpos
      refine ⟨b, off, rfl, World.block_lt_of_cell? W ⟨b, off + 0, none⟩ (hcc 0 hpos), fun i x hi => ?_⟩
      obtain ⟨hi1, hi2⟩ := List.getElem?_eq_some_iff.1 hi
      rw [List.length_map, hlen] at hi1
      have hil : i < zs.length := by omega
      rw [hcc i hil]
      rw [List.getElem_map, List.getElem_map, List.getElem_take] at hi2
      rw [← hi2, List.getD_eq_getElem?_getD, List.getElem?_eq_getElem hil]
      have := hwz _ (List.getElem_mem hil)
      show some (Value.int .u8 zs[i]) = some (.int .u8 ((zs[i].toNat : Nat) : Int))
      rw [Int.toNat_of_nonneg this.1]
end
end Go.Proofs.YtpoocenooomghaaDoor

/- A block of bytes that a call has made; the program's writing and moving of bits. -/
namespace Go.Proofs.YtpoocenooomghaaDoor
open Go.RowKit Bs

/-- Block g holds the bytes l. -/
def Blk (w : World) (g : Nat) (l : List Nat) : Prop := w.heap[g]? = some (.cells (l.map nv).toArray 5 (0, 0))
section
variable {w w' : World} {g : Nat} {l : List Nat}
set_option maxRecDepth 100000 in
theorem Blk.cell (h : Blk w g l) {j : Nat} (hj : j < l.length) : w.cell? ⟨g, j, none⟩ = some (.int .u8 ((l.getD j 0 : Nat) : Int)) := by
  rw [cell_of_row w g j _ _ (0, 0) h]
  rw [List.getElem?_toArray]
  exact nv_at hj
set_option maxRecDepth 100000 in
theorem Blk.frozen (h : Blk w g l) (j : Nat) : w.frozen? ⟨g, j, none⟩ = false := frozen_of_row w g j _ _ h
set_option maxRecDepth 100000 in
theorem Blk.set (h : Blk w g l) (j x : Nat) : Blk (w.setCell ⟨g, j, none⟩ (nv x)) g (l.set j x) := by
  have e := heap_setCell_same w g j _ _ (nv x) h
  unfold Blk
  rw [e]
  congr 2
  rw [List.setIfInBounds_toArray, List.map_set]
set_option maxRecDepth 100000 in
theorem Blk.lt (h : Blk w g l) : g < w.heap.size := (Array.getElem?_eq_some_iff.1 h).1
set_option maxRecDepth 100000 in
theorem Blk.grown {r : Option Nat} (h : Blk w g l) (k : w.grownBy w' r) (hr : some g ≠ r) : Blk w' g l := (k.block g h.lt hr).trans h
set_option maxRecDepth 100000 in
theorem Blk.keep (h : Blk w g l) (k : w.grownBy w' none) : Blk w' g l := h.grown k (by simp)
set_option maxRecDepth 100000 in
theorem Blk.rd (h : Blk w g l) (q : Nat → Prop) (hq : q g) (c : Nat) : Rd w q (.slice (some ⟨g, 0, none⟩) l.length c) (l.map nv) := by
  refine ⟨some ⟨g, 0, none⟩, c, by rw [List.length_map], fun _ => ⟨g, 0, rfl, hq, fun i x hi => ?_⟩⟩
  rw [Nat.zero_add, cell_of_row w g i _ _ (0, 0) h, List.getElem?_toArray]
  exact hi
end
set_option maxRecDepth 100000 in
theorem set_grown {w0 w : World} {g j : Nat} {x : Value} (h : w0.grownBy w (some g)) : w0.grownBy (w.setCell ⟨g, j, none⟩ x) (some g) := grown_trans h (grown_setCell w ⟨g, j, none⟩ x)
set_option maxRecDepth 100000 in
theorem wr_word (x V d k s : Nat) (hx : x < 256) (hV : U64 V) (hs : s + k ≤ 8) :
    bits .or .u8 (x : Int) (IntKind.u8.wrap (IntKind.u8.wrap (bits .and .u64 ((V : Int) / 2 ^ d) (IntKind.u64.wrap (IntKind.u64.wrap (2 ^ k) - 1))) * 2 ^ s)) = ((x ||| (V / 2 ^ d % 2 ^ k * 2 ^ s) : Nat) : Int) := by
  have h1 := p2_le (show k ≤ 8 by omega)
  have h0 : 0 < 2 ^ k := Nat.pow_pos (by decide)
  rw [mask_word k (by omega), shrW, andU _ _ (u64_div _ _ hV) (u64_mk (by omega)), Nat.and_two_pow_sub_one_eq_mod]
  have hm := Nat.mod_lt (V / 2 ^ d) h0
  generalize V / 2 ^ d % 2 ^ k = z at *
  have e1 : IntKind.u8.wrap (z : Int) = (z : Int) := by rw [IntKind.wrap_u8']; omega
  have h2 : 2 ^ (s + k) ≤ 256 := p2_le hs
  have h3 : z * 2 ^ s < 2 ^ (s + k) := by
    rw [Nat.pow_add, Nat.mul_comm (2 ^ s)]
    exact Nat.mul_lt_mul_of_pos_right hm (Nat.pow_pos (by decide))
  rw [e1, powI, show ((z : Int) * ((2 ^ s : Nat) : Int)) = ((z * 2 ^ s : Nat) : Int) by simp]
  generalize z * 2 ^ s = y at *
  have e2 : IntKind.u8.wrap (y : Int) = (y : Int) := by rw [IntKind.wrap_u8']; omega
  rw [e2, u8_or_nat x y hx (by omega)]
set_option maxRecDepth 100000 in
/-- One round of writing: k bits at A, out of n bits that are left. -/
theorem write_step {f : Nat → Bool} {A n N V k s d x : Nat} (hx : (pz f A N).getD (A / 8) 0 = x) (hN : A / 8 < N) (hV : U64 V) (hs : s + k + A % 8 = 8) (hd : d + k = n) (hf : ∀ t, t < k → f (A + t) = V.testBit (n - 1 - t)) :
    bits .or .u8 (x : Int) (IntKind.u8.wrap (IntKind.u8.wrap (bits .and .u64 ((V : Int) / 2 ^ d) (IntKind.u64.wrap (IntKind.u64.wrap (2 ^ k) - 1))) * 2 ^ s)) = ((py f (A + k) (A / 8) : Nat) : Int) := by
  rw [pz_getD f A N _ hN] at hx
  subst hx
  rw [wr_word _ V d k s (py_lt _ _ _) hV (by omega), show d = n - k by omega, num_word V n k A f (by omega) hf, show s = 8 - A % 8 - k by omega, py_or f A k (by omega)]
set_option maxRecDepth 100000 in
theorem write_step1 {f : Nat → Bool} {A N V k s x : Nat} (hx : (pz f A N).getD (A / 8) 0 = x) (hN : A / 8 < N) (hV : U64 V) (hs : s + k + A % 8 = 8) (hf : ∀ t, t < k → f (A + t) = V.testBit (k - 1 - t)) :
    bits .or .u8 (x : Int) (bits .and .u64 (V : Int) (IntKind.u64.wrap (IntKind.u64.wrap (2 ^ k) - 1)) % 256 * 2 ^ s % 256) = ((py f (A + k) (A / 8) : Nat) : Int) := by
  rw [← write_step (d := 0) (n := k) hx hN hV hs (by omega) hf, IntKind.wrap_u8', IntKind.wrap_u8']
  simp
set_option maxRecDepth 100000 in
theorem write_step2 {f : Nat → Bool} {A n N V k d x : Nat} (hx : (pz f A N).getD (A / 8) 0 = x) (hN : A / 8 < N) (hV : U64 V) (hs : k + A % 8 = 8) (hd : d + k = n) (hf : ∀ t, t < k → f (A + t) = V.testBit (n - 1 - t)) :
    bits .or .u8 (x : Int) (bits .and .u64 ((V : Int) / 2 ^ d) (IntKind.u64.wrap (IntKind.u64.wrap (2 ^ k) - 1)) % 256) = ((py f (A + k) (A / 8) : Nat) : Int) := by
  rw [← write_step (s := 0) (n := n) hx hN hV (by omega) hd hf, IntKind.wrap_u8', IntKind.wrap_u8']
  simp
set_option maxRecDepth 100000 in
theorem write_set {f : Nat → Bool} {A k N g : Nat} {w wr : World} (h : Blk wr g (pz f A N)) (hg : w.grownBy wr (some g)) (hk : A % 8 + k ≤ 8) (hN : A / 8 < N) :
    Blk (wr.setCell ⟨g, A / 8, none⟩ (.int .u8 ((py f (A + k) (A / 8) : Nat) : Int))) g (pz f (A + k) N) ∧ w.grownBy (wr.setCell ⟨g, A / 8, none⟩ (.int .u8 ((py f (A + k) (A / 8) : Nat) : Int))) (some g) := by
  refine ⟨?_, set_grown hg⟩
  have := h.set (A / 8) (py f (A + k) (A / 8))
  rw [pz_set f A k N hk hN] at this
  exact this
def WriteRel (f : Nat → Bool) (N g : Nat) (w : World) (A : Nat) (wr : World) : Prop := Blk wr g (pz f A N) ∧ w.grownBy wr (some g)
set_option maxRecDepth 100000 in
theorem writeRel_next {f : Nat → Bool} {N g A k : Nat} {w wr : World} {x : Int} (h : WriteRel f N g w A wr) (hk : A % 8 + k ≤ 8) (hN : A / 8 < N) (hx : x = ((py f (A + k) (A / 8) : Nat) : Int)) :
    WriteRel f N g w (A + k) (wr.setCell ⟨g, A / 8, none⟩ (.int .u8 x)).drew := by
  subst hx
  have k := write_set h.1 h.2 hk hN
  exact ⟨k.1, k.2.os, k.2.tape, k.2.output, k.2.size, k.2.block⟩
set_option maxRecDepth 100000 in
set_option maxHeartbeats 1600000 in
theorem write_any (f : Nat → Bool) (N g c at0 n0 V : Nat) (hN : N ≤ 4000) (h0 : at0 + n0 ≤ 8 * N) (hn : n0 ≤ 64) (hV : U64 V) (hf : ∀ t, t < n0 → f (at0 + t) = V.testBit (n0 - 1 - t)) (w : World) (hB : Blk w g (pz f at0 N)) :
    Calls Tryd.prog 87 #[.slice (some ⟨g, 0, none⟩) N c, .int .i64 (at0 : Int), .int .u64 (V : Int), .int .i64 (n0 : Int)] w fun e w' => e = .returned (.tuple #[]) ∧ WriteRel f N g w (at0 + n0) w' := by
  have HF := Lib.hid hf
  clear hf
  go_enter Tryd.func87, Tryd.ntmps87
  go_wp2_with fail
  go_loopw [1, 3] (fun a n wr => ∃ A M : Nat, A + M = at0 + n0 ∧ at0 ≤ A ∧ a = .int .i64 (A : Int) ∧ n = .int .i64 (M : Int) ∧ WriteRel f N g w A wr) (fun _ n _ => (RowKit.intOf n).toNat)
  case atStart => exact ⟨at0, n0, rfl, Nat.le_refl _, rfl, rfl, hB, grown_refl _ _⟩
  case round =>
    obtain ⟨A, M, hj, hA, rfl, rfl, hR⟩ := hrel
    clear hB
    by_cases hlt : 0 < M
    · have hAl : A / 8 < N := by omega
      have hcell := hR.1.cell (j := A / 8) (by rw [pz_len]; exact hAl)
      have hfz := hR.1.frozen (A / 8)
      have hx : (pz f A N).getD (A / 8) 0 < 256 := by rw [pz_getD f A N _ hAl]; exact py_lt _ _ _
      generalize hX : (pz f A N).getD (A / 8) 0 = x at *
      have HX := Lib.hid hX
      have HR0 := Lib.hid hR
      have hA4 : A ≤ 32000 := by omega
      obtain ⟨R, hr⟩ : ∃ R : Nat, R = 8 - A % 8 := ⟨_, rfl⟩
      have hroom : (8 - (A : Int) % 8) = (R : Int) := by omega
      have hR8 : R ≤ 8 := by omega
      have hR1 : 1 ≤ R := by omega
      have HR := Lib.hid hr
      have HJ := Lib.hid hj
      have hM : M ≤ 64 := by omega
      have HA := Lib.hid hA
      have HN := Lib.hid h0
      have hfA : ∀ t, t < M → f (A + t) = V.testBit (M - 1 - t) := by
        intro t ht
        have := HF.out (A - at0 + t) (by omega)
        rw [show at0 + (A - at0 + t) = A + t by omega, show n0 - 1 - (A - at0 + t) = M - 1 - t by omega] at this
        exact this
      have HFA := Lib.hid hfA
      clear hr hX hj hA hR hfA
      by_cases hc : M < R
      · obtain ⟨s, hs⟩ : ∃ s : Nat, s = R - M := ⟨_, rfl⟩
        have hsub : (R : Int) - (M : Int) = (s : Int) := by omega
        have hs8 : s ≤ 8 := by omega
        have HW := Lib.hid (writeRel_next (k := M) HR0.out (by have := HR.out; omega) hAl (write_step1 (k := M) (s := s) HX.out hAl hV (by have := HR.out; omega) HFA.out))
        clear hs
        go_wp2_with fail
        go_region
        go_wp2_with fail
        go_roundw
        case rel => exact ⟨A + M, 0, HJ.out, by have := HA.out; omega, by simp, by simp, HW.out⟩
        case measure => simp [RowKit.intOf]; omega
      · obtain ⟨d, hd⟩ : ∃ d : Nat, d = M - R := ⟨_, rfl⟩
        have hsub : (M : Int) - (R : Int) = (d : Int) := by omega
        have hd8 : d ≤ 64 := by omega
        have hmin : Min.min (R : Int) (M : Int) = (R : Int) := by omega
        have HW := Lib.hid (writeRel_next (k := R) HR0.out (by have := HR.out; omega) hAl (write_step2 (n := M) (k := R) (d := d) HX.out hAl hV (by have := HR.out; omega) (by omega) (fun t ht => HFA.out t (by omega))))
        have HD := Lib.hid hd
        clear hd
        go_wp2_with fail
        go_region
        go_wp2_with fail
        go_roundw
        case rel => exact ⟨A + R, d, by have := HJ.out; have := HD.out; omega, by have := HA.out; omega, by simp, by simp, HW.out⟩
        case measure => simp [RowKit.intOf]; omega
    · obtain rfl : M = 0 := by omega
      have HR := Lib.hid hR
      have HJ := Lib.hid hj
      clear hR hj
      go_wp2_with fail
      go_end0
      exact ⟨rfl, by rw [← HJ.out]; exact HR.out⟩
set_option maxRecDepth 100000 in
/-- Bits moved: the k bits from place at on are those of the source from place fr on. -/
theorem writeRel_trans {f : Nat → Bool} {N g A B : Nat} {w w1 w2 : World} (h : WriteRel f N g w A w1) (k : WriteRel f N g w1 B w2) : WriteRel f N g w B w2 :=
  ⟨k.1, grown_trans h.2 k.2⟩
set_option maxRecDepth 100000 in
set_option maxHeartbeats 1600000 in
theorem move_any (f : Nat → Bool) (N g c at0 fr n0 : Nat) (l : List Nat) (q : Nat → Prop) (p : Option Addr) (cs : Nat) (hN : N ≤ 4000) (h0 : at0 + n0 ≤ 8 * N) (hl : By l) (hll : l.length ≤ 4000) (h1 : fr + n0 ≤ 8 * l.length)
    (hf : ∀ t, t < n0 → f (at0 + t) = bt l (fr + t)) (w : World) (hB : Blk w g (pz f at0 N)) (hR : Rd w q (.slice p l.length cs) (l.map nv)) (hq : ¬ q g) :
    Calls Tryd.prog 89 #[.slice (some ⟨g, 0, none⟩) N c, .int .i64 (at0 : Int), .slice p l.length cs, .int .i64 (fr : Int), .int .i64 (n0 : Int)] w fun e w' => e = .returned (.tuple #[]) ∧ WriteRel f N g w (at0 + n0) w' := by
  have HF := Lib.hid hf
  clear hf
  have hqg : ∀ b, q b → some b ≠ some g := fun b hb e => hq (by rw [← Option.some.inj e]; exact hb)
  have HQ := Lib.hid hqg
  clear hqg
  go_enter Tryd.func89, Tryd.ntmps89
  go_wp2_with fail
  go_loopw [1, 3, 4] (fun a b n wr => ∃ j M : Nat, j + M = n0 ∧ a = .int .i64 ((at0 + j : Nat) : Int) ∧ b = .int .i64 ((fr + j : Nat) : Int) ∧ n = .int .i64 (M : Int) ∧ WriteRel f N g w (at0 + j) wr) (fun _ _ n _ => (RowKit.intOf n).toNat)
  case atStart => exact ⟨0, n0, by omega, rfl, rfl, rfl, hB, grown_refl _ _⟩
  case round =>
    obtain ⟨j, M, hj, rfl, rfl, rfl, hW⟩ := hrel
    have HJ := Lib.hid hj
    have HW := Lib.hid hW
    by_cases hlt : 0 < M
    · have hRr := hR.grown hW.2 HQ.out
      have key : ∀ k, k ≤ M → k ≤ 8 → Hid (Calls Tryd.prog 110 #[.slice p l.length cs, .int .i64 ((fr + j : Nat) : Int), .int .i64 (k : Int)] wr fun e w' => e = .returned (.int .u64 ((num (bt l) (fr + j) k : Nat) : Int)) ∧ ∃ m, w' = wr.drewN m) ∧
          Hid (∀ m, Calls Tryd.prog 87 #[.slice (some ⟨g, 0, none⟩) N c, .int .i64 ((at0 + j : Nat) : Int), .int .u64 ((num (bt l) (fr + j) k : Nat) : Int), .int .i64 (k : Int)] (wr.drewN m) fun e w' => e = .returned (.tuple #[]) ∧ WriteRel f N g (wr.drewN m) (at0 + j + k) w') := by
        intro k hkM hk8
        refine ⟨Lib.hid (read_any l q p cs (fr + j) k hl hll (by omega) (by omega) wr hRr), Lib.hid fun m => write_any f N g c (at0 + j) k _ hN (by omega) (by omega) ?_ ?_ _ hW.1⟩
        · have e1 := num_lt (bt l) (fr + j) k
          have e2 := p2_le hk8
          exact u64_mk (by omega)
        · intro t ht
          rw [num_test, show k - 1 - (k - 1 - t) = t by omega, Nat.add_assoc, HF.out (j + t) (by omega), Nat.add_assoc]
          simp; omega
      have hN1 : at0 + j ≤ 32000 := by omega
      have hN2 : fr + j ≤ 32000 := by omega
      have hM3 : M ≤ 32000 := by omega
      clear hj hW hRr hR hB
      generalize hE1 : at0 + j = A1 at *
      generalize hE2 : fr + j = A2 at *
      have HE1 := Lib.hid hE1
      have HE2 := Lib.hid hE2
      clear hE1 hE2
      by_cases hc : M < 8
      · obtain ⟨H1, H2⟩ := key M (Nat.le_refl _) (by omega)
        clear key
        generalize num (bt l) A2 M = V at *
        go_wp2_with fail
        refine H1.out.mono ?_
        rintro e w' ⟨rfl, m, rfl⟩
        go_wp2_with fail
        refine (H2.out m).mono ?_
        rintro e w2 ⟨rfl, hr⟩
        have HR := Lib.hid (writeRel_trans (writeRel_trans HW.out (show WriteRel f N g wr A1 (wr.drewN m) from ⟨HW.out.1, grown_drewN _ _ _⟩)) hr)
        clear hr
        go_wp2_with fail
        go_roundw
        case rel => exact ⟨j + M, 0, HJ.out, by have := HE1.out; congr 1; omega, by have := HE2.out; congr 1; omega, by simp, by have := HE1.out; rw [show at0 + (j + M) = A1 + M by omega]; exact HR.out⟩
        case measure => simp [RowKit.intOf]; omega
      · obtain ⟨H1, H2⟩ := key 8 (by omega) (by omega)
        clear key
        generalize num (bt l) A2 8 = V at *
        have hmin : Min.min (8 : Int) (M : Int) = (8 : Int) := by omega
        go_wp2_with fail
        refine H1.out.mono ?_
        rintro e w' ⟨rfl, m, rfl⟩
        go_wp2_with fail
        refine (H2.out m).mono ?_
        rintro e w2 ⟨rfl, hr⟩
        have HR := Lib.hid (writeRel_trans (writeRel_trans HW.out (show WriteRel f N g wr A1 (wr.drewN m) from ⟨HW.out.1, grown_drewN _ _ _⟩)) hr)
        clear hr
        go_wp2_with fail
        go_roundw
        case rel => exact ⟨j + 8, M - 8, by have := HJ.out; omega, by have := HE1.out; congr 1; omega, by have := HE2.out; congr 1; omega, by congr 1; omega, by have := HE1.out; rw [show at0 + (j + 8) = A1 + 8 by omega]; exact HR.out⟩
        case measure => simp [RowKit.intOf]; omega
    · obtain rfl : M = 0 := by omega
      obtain rfl : j = n0 := by omega
      clear hW hj
      go_wp2_with fail
      go_end0
      exact ⟨rfl, HW.out⟩
end Go.Proofs.YtpoocenooomghaaDoor

/- Valid, of the program and of the reference. -/
namespace Go.Proofs.YtpoocenooomghaaDoor
open Go.RowKit Bs
set_option maxRecDepth 100000 in
theorem qt0 {P : Program} {f : FuncId} {args : Array Value} {w : World} {v : Value} (h : Calls P f args w fun e w' => e = .returned v ∧ w = w') :
    Calls P f args w fun e w'' => e = .returned v ∧ ∃ m, w'' = w.drewN m := h.mono fun _ _ ⟨he, hw⟩ => ⟨he, 0, hw.symm⟩
set_option maxRecDepth 100000 in
theorem qt1 {P : Program} {f : FuncId} {args : Array Value} {w : World} {n : Nat} {v : Value} (h : Calls P f args (w.drewN n) fun e w' => e = .returned v ∧ w.drewN n = w') :
    Calls P f args (w.drewN n) fun e w'' => e = .returned v ∧ ∃ m, w'' = w.drewN m := h.mono fun _ _ ⟨he, hw⟩ => ⟨he, n, hw.symm⟩
set_option maxRecDepth 100000 in
theorem qt2 {P : Program} {f : FuncId} {args : Array Value} {w : World} {a n : Nat} {v : Value} (h : Calls P f args (w.drewN (a + n)) fun e w' => e = .returned v ∧ w.drewN (a + n) = w') :
    Calls P f args (w.drewN (a + n)) fun e w'' => e = .returned v ∧ ∃ m, w'' = w.drewN (a + m) := h.mono fun _ _ ⟨he, hw⟩ => ⟨he, n, hw.symm⟩
/-- A stream is valid. -/
def vs (l : List Nat) (n : Int) : Bool := decide (0 ≤ n ∧ n ≤ 8192 ∧ l.length = (n.toNat + 7) / 8 ∧ ∀ i, i < 8 * l.length → n.toNat ≤ i → bt l i = false)
set_option maxRecDepth 100000 in
theorem vs_iff {l : List Nat} {N : Nat} : vs l (N : Int) = true ↔ N ≤ 8192 ∧ l.length = (N + 7) / 8 ∧ ∀ i, i < 8 * l.length → N ≤ i → bt l i = false := by
  unfold vs
  rw [decide_eq_true_eq, Int.toNat_natCast]
  constructor
  · rintro ⟨_, h1, h2⟩; exact ⟨by omega, h2⟩
  · rintro ⟨h1, h2⟩; exact ⟨by omega, by omega, h2⟩
set_option maxRecDepth 100000 in
theorem vs_neg {l : List Nat} {n : Int} (h : n < 0) : vs l n = false := by
  unfold vs; rw [decide_eq_false_iff_not]; rintro ⟨h1, _⟩; omega
set_option maxRecDepth 100000 in
theorem vs_big {l : List Nat} {n : Int} (h : 8192 < n) : vs l n = false := by
  unfold vs; rw [decide_eq_false_iff_not]; rintro ⟨_, h1, _⟩; omega
set_option maxRecDepth 100000 in
theorem vs_len {l : List Nat} {N : Nat} (h : l.length ≠ (N + 7) / 8) : vs l (N : Int) = false := by
  unfold vs; rw [decide_eq_false_iff_not, Int.toNat_natCast]; rintro ⟨_, _, h1, _⟩; exact h h1
set_option maxRecDepth 100000 in
theorem vs_full {l : List Nat} {N : Nat} (h0 : N ≤ 8192) (h : l.length = (N + 7) / 8) (h8 : N % 8 = 0) : vs l (N : Int) = true := by
  rw [vs_iff]; exact ⟨h0, h, fun i h1 h2 => by omega⟩
set_option maxRecDepth 100000 in
theorem vs_nat {l : List Nat} {n : Int} (h : vs l n = true) : ∃ N : Nat, n = (N : Int) := by
  unfold vs at h; rw [decide_eq_true_eq] at h
  exact ⟨n.toNat, by omega⟩
set_option maxRecDepth 100000 in
theorem vs_last {l : List Nat} {N r x : Nat} (h0 : N ≤ 8192) (h : l.length = (N + 7) / 8) (h8 : r ≠ 0) (hr : N % 8 = r) (hx : l.getD (N / 8) 0 = x) : vs l (N : Int) = decide (x * 2 ^ r % 256 = 0) := by
  have e8 : (256 : Nat) = 2 ^ 8 := rfl
  rw [Bool.eq_iff_iff, vs_iff, decide_eq_true_eq]
  constructor
  · rintro ⟨_, _, h2⟩
    apply Nat.eq_of_testBit_eq
    intro j
    rw [e8, Nat.testBit_mod_two_pow, ← Nat.shiftLeft_eq, Nat.testBit_shiftLeft, Nat.zero_testBit]
    by_cases hj : j < 8
    · by_cases hjr : r ≤ j
      · have := h2 (8 * (N / 8) + (7 - j + r)) (by omega) (by omega)
        unfold bt at this
        rw [show (8 * (N / 8) + (7 - j + r)) / 8 = N / 8 by omega, hx, show 7 - (8 * (N / 8) + (7 - j + r)) % 8 = j - r by omega] at this
        rw [this]; simp
      · simp [hjr]
    · simp [hj]
  · intro h2
    refine ⟨h0, h, fun i h3 h4 => ?_⟩
    have h5 : (x * 2 ^ r % 256).testBit (7 - i % 8 + r) = false := by rw [h2]; exact Nat.zero_testBit _
    rw [e8, Nat.testBit_mod_two_pow, ← Nat.shiftLeft_eq, Nat.testBit_shiftLeft] at h5
    have h6 : 7 - i % 8 + r < 8 := by omega
    have h7 : 7 - i % 8 + r ≥ r := by omega
    rw [Nat.add_sub_cancel] at h5
    simp only [h6, h7, decide_true, Bool.true_and] at h5
    unfold bt
    rw [show i / 8 = N / 8 by omega, hx]; exact h5
set_option maxRecDepth 100000 in
theorem shl_zero (x r : Nat) : ((x : Int) * 2 ^ r % 256 == 0) = decide (x * 2 ^ r % 256 = 0) := by
  rw [powI, show (x : Int) * ((2 ^ r : Nat) : Int) = ((x * 2 ^ r : Nat) : Int) by simp]
  generalize x * 2 ^ r = y
  rw [Bool.eq_iff_iff, beq_iff_eq, decide_eq_true_eq]
  omega
/-- The value of a stream. -/
def sval (p : Option Addr) (k c : Nat) (n : Int) : Value := .agg #[.slice p k c, .int .i64 n]
def ValidPost (l : List Nat) (n : Int) (w : World) (e : Ending) (w' : World) : Prop := e = .returned (.bool (vs l n)) ∧ w.grownBy w' none
set_option maxRecDepth 100000 in
theorem grown_alloc_drewN (w : World) (o : Obj) (n : Nat) : w.grownBy ((w.alloc o).drewN n) none := grown_trans (World.grownBy_alloc w o _) (grown_drewN _ _ _)
set_option maxRecDepth 100000 in
/-- A block of two cells. -/
theorem box2 (w : World) (v0 v1 : Value) (t : TypeId) : (w.alloc (.cells #[v0, v1] t)).cell? ⟨w.heap.size, 0, none⟩ = some v0 ∧ (w.alloc (.cells #[v0, v1] t)).cell? ⟨w.heap.size, 1, none⟩ = some v1 := by
  have hb : (w.alloc (.cells #[v0, v1] t)).heap[w.heap.size]? = some (.cells #[v0, v1] t (0, 0)) := heap_alloc_new w _
  refine ⟨?_, ?_⟩
  · rw [cell_of_row _ _ _ _ _ _ hb]; rfl
  · rw [cell_of_row _ _ _ _ _ _ hb]; rfl
set_option maxRecDepth 100000 in
set_option maxHeartbeats 800000 in
theorem valid_last (l : List Nat) (N : Nat) (q : Nat → Prop) (p : Option Addr) (c : Nat) (hl : By l) (hN : N ≤ 8192) (hM : (N + 7) / 8 = l.length) (h8 : ¬ N % 8 = 0) (w : World) (hR : Rd w q (.slice p l.length c) (l.map nv)) :
    Calls Tryd.prog 84 #[.agg #[.slice p l.length c, .int .i64 (N : Int)]] w fun e w' => ValidPost l (N : Int) w e w' := by
  have h1 : ¬ ((N : Int) < 0) := by omega
  have h2 : ¬ (8192 < (N : Int)) := by omega
  have d1 : decide ((N : Int) < 0) = false := by simp
  have d2 : decide (8192 < (N : Int)) = false := by simp; omega
  have hB := fun w => bytesFor_any N (by omega) w
  rw [hM] at hB
  obtain ⟨r, hr⟩ : ∃ r : Nat, N % 8 = r := ⟨_, rfl⟩
  have hr0 : r ≠ 0 := by omega
  have hr8 : r < 8 := by omega
  have z8 : (N : Int) % 8 = (r : Int) := by omega
  have z9 : ((r : Int) == 0) = false := by simp; omega
  obtain ⟨K, hK⟩ : ∃ K : Nat, N / 8 = K := ⟨_, rfl⟩
  have hKl : K < l.length := by omega
  have hK2 : K ≤ 1024 := by omega
  have hKe : (l.length : Int) - 1 = (K : Int) := by omega
  obtain ⟨g, off, rfl, _, hcell⟩ := hR.at_ (nv_at hKl)
  have hx := hl.at_ hKl
  generalize hX : l.getD K 0 = x at *
  have hX' : l.getD (N / 8) 0 = x := by rw [hK]; exact hX
  have V := Lib.hid (vs_last (l := l) hN (by omega) hr0 hr hX' )
  have hc2 : (w.alloc (.cells #[.slice (some ⟨g, off, none⟩) l.length c, .int .i64 (N : Int)] 47)).cell? ⟨g, off + K, none⟩ = some (.int .u8 (x : Int)) := (World.grownBy_alloc w _ none).cell hcell (by simp)
  clear hM hK hX hX' hcell hR h8
  go_enter Tryd.func84, Tryd.ntmps84
  go_wp2_with fail
  obtain ⟨c0, c1⟩ := box2 w (.slice (some ⟨g, off, none⟩) l.length c) (.int .i64 (N : Int)) 47
  have HG := Lib.hid (World.grownBy_alloc w (.cells #[.slice (some ⟨g, off, none⟩) l.length c, .int .i64 (N : Int)] 47) none)
  generalize w.alloc (.cells #[.slice (some ⟨g, off, none⟩) l.length c, .int .i64 (N : Int)] 47) = w1 at *
  generalize w.heap.size = b at *
  go_quiet (first | (go_at_call 88; first | exact qt0 (hB _) | exact qt1 (hB _) | exact qt2 (hB _)))
  go_wp2_with fail
  go_ret
  exact ⟨ret_bool (by rw [V.out]; exact shl_zero x r), grown_trans HG.out (grown_drewN _ _ _)⟩
set_option maxRecDepth 100000 in
set_option maxHeartbeats 800000 in
theorem validp_any (l : List Nat) (n : Int) (q : Nat → Prop) (p : Option Addr) (c : Nat) (hl : By l) (w : World) (hR : Rd w q (.slice p l.length c) (l.map nv)) :
    Calls Tryd.prog 84 #[.agg #[.slice p l.length c, .int .i64 n]] w fun e w' => ValidPost l n w e w' := by
  by_cases h1 : n < 0
  · have V := Lib.hid (vs_neg (l := l) h1)
    go_enter Tryd.func84, Tryd.ntmps84
    go_wp2_with fail
    go_quiet (fail)
    go_wp2_with fail
    go_ret
    exact ⟨ret_bool (by rw [V.out]), grown_alloc_drewN _ _ _⟩
  · by_cases h2 : 8192 < n
    · have V := Lib.hid (vs_big (l := l) h2)
      go_enter Tryd.func84, Tryd.ntmps84
      go_wp2_with fail
      go_quiet (fail)
      go_wp2_with fail
      go_ret
      exact ⟨ret_bool (by rw [V.out]), grown_alloc_drewN _ _ _⟩
    · obtain ⟨N, rfl⟩ := Int.eq_ofNat_of_zero_le (show 0 ≤ n by omega)
      have hN : N ≤ 8192 := by omega
      obtain ⟨M, hM⟩ : ∃ M : Nat, M = (N + 7) / 8 := ⟨_, rfl⟩
      have hB := fun w => bytesFor_any N (by omega) w
      rw [← hM] at hB
      have d1 : decide ((N : Int) < 0) = false := by simp
      have d2 : decide (8192 < (N : Int)) = false := by simp; omega
      by_cases h3 : l.length = M
      · subst h3
        by_cases h8 : N % 8 = 0
        · have V := Lib.hid (vs_full (l := l) hN (by omega) h8)
          have z8 : (N : Int) % 8 = 0 := by omega
          clear hM
          go_enter Tryd.func84, Tryd.ntmps84
          go_wp2_with fail
          obtain ⟨c0, c1⟩ := box2 w (.slice p l.length c) (.int .i64 (N : Int)) 47
          have HG := Lib.hid (World.grownBy_alloc w (.cells #[.slice p l.length c, .int .i64 (N : Int)] 47) none)
          generalize w.alloc (.cells #[.slice p l.length c, .int .i64 (N : Int)] 47) = w1 at *
          generalize w.heap.size = b at *
          go_quiet (first | (go_at_call 88; first | exact qt0 (hB _) | exact qt1 (hB _) | exact qt2 (hB _)))
          go_wp2_with fail
          go_ret
          exact ⟨ret_bool (by rw [V.out]), grown_trans HG.out (grown_drewN _ _ _)⟩
        · exact valid_last l N q p c hl hN hM.symm h8 w hR
      · have V := Lib.hid (vs_len (l := l) (N := N) (by omega))
        have d3 : ((l.length : Int) == (M : Int)) = false := by simp; omega
        have d4 : ¬ ((l.length : Int) = (M : Int)) := by omega
        clear hM
        go_enter Tryd.func84, Tryd.ntmps84
        go_wp2_with fail
        obtain ⟨c0, c1⟩ := box2 w (.slice p l.length c) (.int .i64 (N : Int)) 47
        have HG := Lib.hid (World.grownBy_alloc w (.cells #[.slice p l.length c, .int .i64 (N : Int)] 47) none)
        generalize w.alloc (.cells #[.slice p l.length c, .int .i64 (N : Int)] 47) = w1 at *
        generalize w.heap.size = b at *
        go_quiet (first | (go_at_call 88; first | exact qt0 (hB _) | exact qt1 (hB _) | exact qt2 (hB _)))
        go_wp2_with fail
        go_ret
        exact ⟨ret_bool (by rw [V.out]), grown_trans HG.out (grown_drewN _ _ _)⟩
end Go.Proofs.YtpoocenooomghaaDoor

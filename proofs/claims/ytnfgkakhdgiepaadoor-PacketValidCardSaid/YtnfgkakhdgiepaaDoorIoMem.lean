/- Both. -/
import Derived.Test.YtnfgkakhdgiepaaDoorIoTape
namespace Go.Proofs.YtnfgkakhdgiepaaDoor
open Go.RowKit Bs

set_option maxRecDepth 100000 in
theorem info_int : (Tryd.prog.info? 3).map (fun i => (i.zero, i.size, i.bytes)) = some (some (.int .i64 0), 1, 8) := by kernel_rfl
set_option maxRecDepth 100000 in
theorem info_u64 : (Tryd.prog.info? 23).map (fun i => (i.zero, i.size, i.bytes)) = some (some (.int .u64 0), 1, 8) := by kernel_rfl
set_option maxRecDepth 100000 in
theorem info_u8 : (Tryd.prog.info? 5).map (fun i => (i.zero, i.size, i.bytes)) = some (some (.int .u8 0), 1, 1) := by kernel_rfl

/-- The slice value v reads as vs; where it has elements, its block meets q. -/
def Rd (w : World) (q : Nat → Prop) (v : Value) (vs : List Value) : Prop :=
  ∃ p c, v = .slice p vs.length c ∧ (vs ≠ [] → ∃ b off, p = some ⟨b, off, none⟩ ∧ q b ∧ ∀ i x, vs[i]? = some x → w.cell? ⟨b, off + i, none⟩ = some x)
set_option maxRecDepth 100000 in
theorem Rd.grown {w w' : World} {q : Nat → Prop} {v : Value} {vs : List Value} {r : Option Nat} (h : Rd w q v vs) (g : w.grownBy w' r) (hq : ∀ b, q b → some b ≠ r) : Rd w' q v vs := by
  obtain ⟨p, c, hv, hc⟩ := h
  refine ⟨p, c, hv, fun hne => ?_⟩
  obtain ⟨b, off, hp, hb, hx⟩ := hc hne
  exact ⟨b, off, hp, hb, fun i x hi => g.cell (hx i x hi) (hq b hb)⟩
set_option maxRecDepth 100000 in
theorem Rd.mono {w : World} {q q' : Nat → Prop} {v : Value} {vs : List Value} (h : Rd w q v vs) (hq : ∀ b, q b → q' b) : Rd w q' v vs := by
  obtain ⟨p, c, hv, hc⟩ := h
  refine ⟨p, c, hv, fun hne => ?_⟩
  obtain ⟨b, off, hp, hb, hx⟩ := hc hne
  exact ⟨b, off, hp, hq b hb, hx⟩
set_option maxRecDepth 100000 in
theorem Rd.keep {w w' : World} {q : Nat → Prop} {v : Value} {vs : List Value} (h : Rd w q v vs) (g : w.grownBy w' none) : Rd w' q v vs := h.grown g (fun _ _ => by simp)
set_option maxRecDepth 100000 in
theorem Rd.nil_ (w : World) (q : Nat → Prop) (p : Option Addr) (c : Nat) : Rd w q (.slice p 0 c) [] := ⟨p, c, rfl, fun h => absurd rfl h⟩
set_option maxRecDepth 100000 in
theorem rd_of_own {w : World} {base : Nat} {e : TypeId} {v : Value} {n : Nat} {xs : List Value} (h : w.ownsRow base e 1 v n xs) : Rd w (base ≤ ·) v xs := by
  have hl : xs.length = n := by have := h.1; omega
  rcases h.2 with ⟨rfl, h0⟩ | ⟨g, cap, cur, rfl, hb, hg, _⟩
  · subst h0
    exact ⟨none, 0, by rw [hl], fun hne => absurd (List.eq_nil_of_length_eq_zero hl) hne⟩
  · refine ⟨some ⟨g, 0, none⟩, cap, by rw [hl], fun _ => ⟨g, 0, rfl, hb, fun i x hi => ?_⟩⟩
    have := h.cells (g := g) rfl i x hi
    have hadd : (⟨g, 0, none⟩ : Addr).add i = ⟨g, 0 + i, none⟩ := by unfold Addr.add; split <;> simp_all
    rw [hadd] at this
    exact this
set_option maxRecDepth 100000 in
theorem own_step {w wr w1 : World} {o : Obj} {e : TypeId} {size n : Nat} {v : Value} {xs : List Value} (h : w.grownBy wr none) (hown : wr.ownsRow w.heap.size e size v n xs) (hg : (wr.alloc o).grownBy w1 v.ownBlock) : w.grownBy w1 none := by
  refine ⟨hg.os.trans h.os, hg.tape.trans h.tape, hg.output.trans h.output, Nat.le_trans h.size (Nat.le_trans (by simp) hg.size), fun k hk _ => ?_⟩
  have hks : k < wr.heap.size := Nat.lt_of_lt_of_le hk h.size
  refine (hg.block k (by simp; omega) (fun e => ?_)).trans ((Below.heap_alloc wr o k hks).trans (h.block k hk (by simp)))
  have := (hown.lt k e.symm).1
  omega
set_option maxRecDepth 100000 in
theorem cell_one (w : World) (x : Value) (t : TypeId) : ∀ j u, [x][j]? = some u → (w.alloc (.cells #[x] t)).cell? ((⟨w.heap.size, 0, none⟩ : Addr).add j) = some u := by
  intro j u hj
  match j, hj with
  | 0, hj =>
    simp at hj; subst hj
    have hb : (w.alloc (.cells #[x] t)).heap[w.heap.size]? = some (.cells #[x] t (0, 0)) := heap_alloc_new w _
    have hadd : (⟨w.heap.size, 0, none⟩ : Addr).add 0 = ⟨w.heap.size, 0, none⟩ := by unfold Addr.add; split <;> simp_all
    rw [hadd, cell_of_row _ _ _ _ _ _ hb]; rfl
set_option maxRecDepth 100000 in
theorem Tb.drew {w : World} (h : Tb w) : Tb w.drew := h
set_option maxRecDepth 100000 in
theorem hid_drew {W w : World} {r : Option Nat} (h : Hid (W.grownBy w r)) : Hid (W.grownBy w.drew r) := Lib.hid ⟨h.out.os, h.out.tape, h.out.output, h.out.size, h.out.block⟩
set_option maxRecDepth 100000 in
theorem hid_more {W w w' : World} {r : Option Nat} (h : Hid (W.grownBy w r)) (k : w.grownBy w' r) : Hid (W.grownBy w' r) := Lib.hid (grown_trans h.out k)
/-- An int of Go's out of a number. -/
def ival (k : Nat) : Value := .int .i64 (k : Int)
def ListPost (vs : List Value) (w : World) (e : Ending) (w' : World) : Prop := ∃ v, e = .returned v ∧ Rd w' (w.heap.size ≤ ·) v vs ∧ w.grownBy w' none
set_option maxRecDepth 100000 in
theorem bl_snoc_t {n b : Nat} (h : b.testBit n = true) : blN (n + 1) b = blN n b ++ [n] := by rw [blN_snoc, h]; rfl
set_option maxRecDepth 100000 in
theorem bl_snoc_f {n b : Nat} (h : b.testBit n = false) : blN (n + 1) b = blN n b := by rw [blN_snoc, h]; simp

def RefListRel (b : Nat) (w : World) (v : Value) (j : Nat) (wr : World) : Prop := wr.ownsRow w.heap.size 3 1 v (blN j b).length ((blN j b).map ival) ∧ w.grownBy wr none
set_option maxRecDepth 100000 in
theorem reflist_hit {b j : Nat} {w wr w1 : World} {v v' : Value} {o : Obj} (h : RefListRel b w v j wr) (ht : b.testBit j = true)
    (hown' : w1.ownsRow w.heap.size 3 1 v' ((blN j b).length + 1) ((blN j b).map ival ++ [.int .i64 (j : Int)])) (hg : (wr.alloc o).grownBy w1 v.ownBlock) : RefListRel b w v' (j + 1) w1 := by
  refine ⟨?_, own_step h.2 h.1 hg⟩
  rw [bl_snoc_t ht, List.length_append, List.map_append]
  exact hown'
set_option maxRecDepth 100000 in
theorem reflist_miss {b j : Nat} {w wr : World} {v : Value} (h : RefListRel b w v j wr) (ht : b.testBit j = false) : RefListRel b w v (j + 1) wr := by
  unfold RefListRel
  rw [bl_snoc_f ht]; exact h
set_option maxRecDepth 100000 in
set_option maxHeartbeats 800000 in
theorem listr_any (b : Nat) (hb : U64 b) (w : World) :
    Calls Tryd.prog 121 #[.int .u64 (b : Int)] w fun e w' => ListPost ((bl b).map ival) w e w' := by
  obtain ⟨i0, hi, hz0, hz1, hz2⟩ := info_parts info_int
  go_enter Tryd.func121, Tryd.ntmps121
  go_wp2_with fail
  go_loopw [3, 4] (fun v k wr => ∃ j : Nat, j ≤ 64 ∧ k = .int .i64 (j : Int) ∧ RefListRel b w v j wr) (fun _ k _ => 64 - (intOf k).toNat)
  case atStart => exact ⟨0, by omega, rfl, World.ownsRow_nil _ _ _ _, grown_refl _ _⟩
  case round =>
    obtain ⟨j, hj, rfl, hR⟩ := hrel
    have hlen : (blN j b).length ≤ j := blN_length_le j b
    have hsz := hR.2.size
    by_cases hlt : j < 64
    · by_cases ht : b.testBit j = true
      · have hown := hR.1
        have hR' := Lib.hid hR
        have ht' := Lib.hid ht
        clear hR
        go_wp2_with (first
          | (go_at_call 89; refine (has_any b j hlt hb _).mono ?_; rintro e w' ⟨rfl, rfl⟩)
          | (at_builtin; refine wpList_append_own _ rfl _ _ 22 rfl w.heap.size 3 i0 (.int .i64 0) 1 8 Tryd.underlying22 hi hz0 hz1 hz2 rfl (by decide) _ _ _ rfl (hown.alloc _) ⟨wr.heap.size, 0, none⟩ 1 1 [.int .i64 (j : Int)] rfl rfl ?c1 ?c2 ?c3 ?c4 ?c5 ?_))
        case c1 => exact cell_one _ _ _
        case c2 => intro u hu; simp at hu; subst hu; rfl
        case c3 => unfold maxLen; omega
        case c4 => omega
        case c5 => simp; omega
        intro v' w1 hown' hg _
        have R := Lib.hid (reflist_hit hR'.out ht'.out hown' hg)
        clear hown' hg hown hR'
        go_wp2_with fail
        go_roundw
        case rel => exact ⟨j + 1, by omega, by go_num, R.out⟩
        case measure => simp [intOf]; omega
      · have ht0 : b.testBit j = false := by simpa using ht
        have R := Lib.hid (reflist_miss hR ht0)
        clear hR ht
        go_wp2_with (go_at_call 89; refine (has_any b j hlt hb _).mono ?_; rintro e w' ⟨rfl, rfl⟩)
        go_roundw
        case rel => exact ⟨j + 1, by omega, by go_num, R.out⟩
        case measure => simp [intOf]; omega
    · have hj64 : j = 64 := by omega
      subst hj64
      have R := Lib.hid hR
      clear hR
      go_wp2_with fail
      go_ret
      exact ⟨_, rfl, rd_of_own R.out.1, R.out.2⟩

end Go.Proofs.YtnfgkakhdgiepaaDoor

/- Memory: slices that are read, slices that a call has made. -/
import Derived.Test.YtokolidakcfopaaIoTape
namespace Go.Proofs.Ytokolidakcfopaa
open Go.RowKit Bs

theorem info_int : (Try.prog.info? 3).map (fun i => (i.zero, i.size, i.bytes)) = some (some (.int .i64 0), 1, 8) := by kernel_rfl
theorem info_u64 : (Try.prog.info? 22).map (fun i => (i.zero, i.size, i.bytes)) = some (some (.int .u64 0), 1, 8) := by kernel_rfl
theorem info_u8 : (Try.prog.info? 5).map (fun i => (i.zero, i.size, i.bytes)) = some (some (.int .u8 0), 1, 1) := by kernel_rfl

/-- The slice value v reads as vs; where it has elements, its block meets q. -/
def Rd (w : World) (q : Nat → Prop) (v : Value) (vs : List Value) : Prop :=
  ∃ p c, v = .slice p vs.length c ∧ (vs ≠ [] → ∃ b off, p = some ⟨b, off, none⟩ ∧ q b ∧ ∀ i x, vs[i]? = some x → w.cell? ⟨b, off + i, none⟩ = some x)
theorem Rd.grown {w w' : World} {q : Nat → Prop} {v : Value} {vs : List Value} {r : Option Nat} (h : Rd w q v vs) (g : w.grownBy w' r) (hq : ∀ b, q b → some b ≠ r) : Rd w' q v vs := by
  obtain ⟨p, c, hv, hc⟩ := h
  refine ⟨p, c, hv, fun hne => ?_⟩
  obtain ⟨b, off, hp, hb, hx⟩ := hc hne
  exact ⟨b, off, hp, hb, fun i x hi => g.cell (hx i x hi) (hq b hb)⟩
theorem Rd.mono {w : World} {q q' : Nat → Prop} {v : Value} {vs : List Value} (h : Rd w q v vs) (hq : ∀ b, q b → q' b) : Rd w q' v vs := by
  obtain ⟨p, c, hv, hc⟩ := h
  refine ⟨p, c, hv, fun hne => ?_⟩
  obtain ⟨b, off, hp, hb, hx⟩ := hc hne
  exact ⟨b, off, hp, hq b hb, hx⟩
theorem Rd.keep {w w' : World} {q : Nat → Prop} {v : Value} {vs : List Value} (h : Rd w q v vs) (g : w.grownBy w' none) : Rd w' q v vs := h.grown g (fun _ _ => by simp)
theorem Rd.nil_ (w : World) (q : Nat → Prop) (p : Option Addr) (c : Nat) : Rd w q (.slice p 0 c) [] := ⟨p, c, rfl, fun h => absurd rfl h⟩
theorem rd_of_own {w : World} {base : Nat} {e : TypeId} {v : Value} {n : Nat} {xs : List Value} (h : w.ownsRow base e 1 v n xs) : Rd w (base ≤ ·) v xs := by
  have hl : xs.length = n := by have := h.1; omega
  rcases h.2 with ⟨rfl, h0⟩ | ⟨g, cap, cur, rfl, hb, hg, _⟩
  · subst h0
    exact ⟨none, 0, by rw [hl], fun hne => absurd (List.eq_nil_of_length_eq_zero hl) hne⟩
  · refine ⟨some ⟨g, 0, none⟩, cap, by rw [hl], fun _ => ⟨g, 0, rfl, hb, fun i x hi => ?_⟩⟩
    have := h.cells (g := g) rfl i x hi
    have hadd : (⟨g, 0, none⟩ : Addr).add i = ⟨g, 0 + i, none⟩ := by unfold Addr.add; split <;> simp_all
    rw [hadd] at this
    exact this
theorem own_step {w wr w1 : World} {o : Obj} {e : TypeId} {size n : Nat} {v : Value} {xs : List Value} (h : w.grownBy wr none) (hown : wr.ownsRow w.heap.size e size v n xs) (hg : (wr.alloc o).grownBy w1 v.ownBlock) : w.grownBy w1 none := by
  refine ⟨hg.os.trans h.os, hg.tape.trans h.tape, hg.output.trans h.output, Nat.le_trans h.size (Nat.le_trans (by simp) hg.size), fun k hk _ => ?_⟩
  have hks : k < wr.heap.size := Nat.lt_of_lt_of_le hk h.size
  refine (hg.block k (by simp; omega) (fun e => ?_)).trans ((Below.heap_alloc wr o k hks).trans (h.block k hk (by simp)))
  have := (hown.lt k e.symm).1
  omega
theorem cell_one (w : World) (x : Value) (t : TypeId) : ∀ j u, [x][j]? = some u → (w.alloc (.cells #[x] t)).cell? ((⟨w.heap.size, 0, none⟩ : Addr).add j) = some u := by
  intro j u hj
  match j, hj with
  | 0, hj =>
    simp at hj; subst hj
    have hb : (w.alloc (.cells #[x] t)).heap[w.heap.size]? = some (.cells #[x] t (0, 0)) := heap_alloc_new w _
    have hadd : (⟨w.heap.size, 0, none⟩ : Addr).add 0 = ⟨w.heap.size, 0, none⟩ := by unfold Addr.add; split <;> simp_all
    rw [hadd, cell_of_row _ _ _ _ _ _ hb]; rfl
theorem hid_drew {W w : World} {r : Option Nat} (h : Hid (W.grownBy w r)) : Hid (W.grownBy w.drew r) := Lib.hid ⟨h.out.os, h.out.tape, h.out.output, h.out.size, h.out.block⟩
theorem hid_more {W w w' : World} {r : Option Nat} (h : Hid (W.grownBy w r)) (k : w.grownBy w' r) : Hid (W.grownBy w' r) := Lib.hid (grown_trans h.out k)
/-- An int of Go's out of a number. -/
def ival (k : Nat) : Value := .int .i64 (k : Int)
def ListPost (vs : List Value) (w : World) (e : Ending) (w' : World) : Prop := ∃ v, e = .returned v ∧ Rd w' (w.heap.size ≤ ·) v vs ∧ w.grownBy w' none
end Go.Proofs.Ytokolidakcfopaa

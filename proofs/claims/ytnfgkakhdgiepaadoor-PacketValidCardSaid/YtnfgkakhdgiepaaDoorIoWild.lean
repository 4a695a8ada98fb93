/- The tape's wild numbers; rows of a call's own while the tape turns. -/
import Derived.Test.YtnfgkakhdgiepaaDoorIoMem
namespace Go.Proofs.YtnfgkakhdgiepaaDoor
open Go.RowKit Bs
def wilds : List Int := [-1, 0, 1, 7, 8, 23, 24, 31, 32, 63, 64, 99, 100, 255, 256, 257, 1000, 1001, 1023, 1024, 1000000, 1000001, 1099511627776, 9223372036854775807, -9223372036854775808]
set_option maxRecDepth 100000 in
theorem wilds_i64 : ∀ x ∈ wilds, I64 x := by unfold I64 wilds; decide +kernel
set_option maxRecDepth 100000 in
set_option maxHeartbeats 800000 in
theorem wild_any (a : Nat) (w : World) (hT : Tp w a) :
    Calls Tryd.prog 55 #[.pointer (some ⟨a, 0, none⟩)] w fun e w' => IntPost I64 a w e w' := by
  have HA := among_list I64 w a wilds (wilds.map fun x => Value.int .i64 x).toArray 3 hT.lt rfl wilds_i64
  have HA' := Lib.hid HA
  clear HA
  go_enter Tryd.func55, Tryd.ntmps55
  go_wp2_with fail
  refine (pick_any I64 a _ 0 25 25 (by omega) (by omega) _ (hT.alloc _) HA'.out).mono ?_
  rintro e w1 ⟨r, rfl, hr, hs⟩
  go_wp2_with fail
  go_ret
  exact ⟨_, rfl, hr, hs.alloc_left⟩
set_option maxRecDepth 100000 in
theorem own_block_ne {w wr : World} {e : TypeId} {v : Value} {n a : Nat} {xs : List Value} (h : wr.ownsRow w.heap.size e 1 v n xs) (ha : a < w.heap.size) : v.ownBlock = none ∨ v.ownBlock ≠ some a := by
  cases hv : v.ownBlock with
  | none => exact .inl rfl
  | some g =>
    right
    intro e2
    have e3 := Option.some.inj e2
    have := (h.lt g hv).1
    omega
set_option maxRecDepth 100000 in
/-- A row of the call's own is appended to: the tape stands. -/
theorem st_append {a : Nat} {w wr w1 : World} {o : Obj} {v : Value} {n : Nat} {e : TypeId} {xs : List Value} (hs : St a w wr) (ha : a < w.heap.size) (hown : wr.ownsRow w.heap.size e 1 v n xs) (hg : (wr.alloc o).grownBy w1 v.ownBlock) : St a w w1 := by
  have hT := hs.2.alloc o
  have hlt := hT.lt
  have hne : some a ≠ v.ownBlock := by
    rcases own_block_ne hown ha with h | h
    · rw [h]; simp
    · exact fun e => h e.symm
  refine ⟨⟨hg.os.trans hs.1.os, hg.tape.trans hs.1.tape, hg.output.trans hs.1.output, Nat.le_trans hs.1.size (Nat.le_trans (by simp) hg.size), fun k hk hka => ?_⟩, ?_⟩
  · have hks : k < wr.heap.size := Nat.lt_of_lt_of_le hk hs.1.size
    refine (hg.block k (by simp; omega) (fun e => ?_)).trans ((Below.heap_alloc wr o k hks).trans (hs.1.block k hk hka))
    have := (hown.lt k e.symm).1
    omega
  · have hb := hg.block a hlt hne
    have hal := hs.2.lt
    obtain ⟨lv, m, i, T⟩ := hT
    refine ⟨lv, m, i, (World.cell?_of_block (a := ⟨a, 0, none⟩) hb).trans T.l, (World.cell?_of_block (a := ⟨a, 1, none⟩) hb).trans T.p, (World.frozen?_of_block (a := ⟨a, 1, none⟩) hb).trans T.fr, ?_, T.le, T.len⟩
    obtain ⟨p, c, hv, hc⟩ := T.ints
    refine ⟨p, c, hv, fun hm => ?_⟩
    obtain ⟨b, off, hp, hba, hx⟩ := hc hm
    refine ⟨b, off, hp, hba, fun i hi => ?_⟩
    obtain ⟨x, hx, hcell⟩ := hx i hi
    refine ⟨x, hx, hg.cell hcell (fun e => ?_)⟩
    have := (hown.lt b e.symm).1
    omega
set_option maxRecDepth 100000 in
/-- A row of the call's own stands while the tape turns. -/
theorem own_kept {a : Nat} {w wr w1 : World} {v : Value} {n : Nat} {e : TypeId} {xs : List Value} (ha : a < w.heap.size) (hown : wr.ownsRow w.heap.size e 1 v n xs) (g : wr.grownBy w1 (some a)) : w1.ownsRow w.heap.size e 1 v n xs :=
  hown.kept g (own_block_ne hown ha)
end Go.Proofs.YtnfgkakhdgiepaaDoor

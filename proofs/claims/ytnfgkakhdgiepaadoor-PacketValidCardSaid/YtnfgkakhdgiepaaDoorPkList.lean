/- A list of three packets that a statement draws, and its members. -/
import Derived.Test.YtnfgkakhdgiepaaDoorPkTapeN
import Derived.Deep.RegionHeld3
namespace Go.Proofs.YtnfgkakhdgiepaaDoor
open Go.RowKit Bs
set_option maxRecDepth 100000 in
theorem ints_keep {w w1 : World} {v : Value} (h : IntsIn w v) (g : w.grownBy w1 none) : IntsIn w1 v := by
  obtain ⟨p, n, c, hv, h1, h2, h3⟩ := h
  refine ⟨p, n, c, hv, h1, h2, fun hn => ?_⟩
  obtain ⟨b, off, hp, hb, hx⟩ := h3 hn
  refine ⟨b, off, hp, Nat.lt_of_lt_of_le hb g.size, fun i hi => ?_⟩
  obtain ⟨x, hx1, hx2⟩ := hx i hi
  exact ⟨x, hx1, g.cell hx2 (by simp)⟩
set_option maxRecDepth 100000 in
theorem grown_undrew_some {a : Nat} {w w1 : World} (g : w.drew.grownBy w1 (some a)) : w.grownBy w1 (some a) := ⟨g.os, g.tape, g.output, g.size, g.block⟩
set_option maxRecDepth 100000 in
theorem St.tp {a : Nat} {w w1 : World} (h : St a w w1) : Tp w1 a := h.2
set_option maxRecDepth 100000 in
theorem St.gr {a : Nat} {w w1 : World} (h : St a w w1) : w.grownBy w1 (some a) := h.1
/-- A packet comes back, cell by cell. -/
def AggPost (a : Nat) (w : World) (e : Ending) (w' : World) : Prop := ∃ P : Pk, e = .returned (.agg #[.int .i64 P.mode, .int .i64 P.sub, .int .i64 P.set, .int .i64 P.len, .int .i64 P.ttl, .int .i64 P.ent, .int .i64 P.ing, .int .i64 P.pro, .int .u64 (P.bits : Int), .string P.pay]) ∧ P.Wf ∧ St a w w'
set_option maxRecDepth 100000 in
theorem packetN_agg (a : Nat) (n : Int) (hn : 1 ≤ n) (hn2 : n ≤ 1000) (w : World) (hT : Tp w a) :
    Calls Tryd.prog 15 #[.pointer (some ⟨a, 0, none⟩), .int .i64 n] w fun e w' => AggPost a w e w' := by
  refine (packetN_any a n hn hn2 w hT).mono ?_
  rintro e w' ⟨P, rfl, h1, _, h2⟩
  exact ⟨P, rfl, h1, h2⟩
set_option maxRecDepth 100000 in
theorem packet1_agg (a : Nat) (w : World) (hT : Tp w a) :
    Calls Tryd.prog 15 #[.pointer (some ⟨a, 0, none⟩), .int .i64 1] w fun e w' => AggPost a w e w' := packetN_agg a 1 (by decide) (by decide) w hT
set_option maxRecDepth 100000 in
theorem packet2_agg (a : Nat) (w : World) (hT : Tp w a) :
    Calls Tryd.prog 15 #[.pointer (some ⟨a, 0, none⟩), .int .i64 2] w fun e w' => AggPost a w e w' := packetN_agg a 2 (by decide) (by decide) w hT
set_option maxRecDepth 100000 in
theorem packet4_agg (a : Nat) (w : World) (hT : Tp w a) :
    Calls Tryd.prog 15 #[.pointer (some ⟨a, 0, none⟩), .int .i64 4] w fun e w' => AggPost a w e w' := packetN_agg a 4 (by decide) (by decide) w hT
set_option maxRecDepth 100000 in
theorem packet0_agg (a : Nat) (w : World) (hT : Tp w a) :
    Calls Tryd.prog 15 #[.pointer (some ⟨a, 0, none⟩), .int .i64 0] w fun e w' => AggPost a w e w' := by
  refine (packet0_any a w hT).mono ?_
  rintro e w' ⟨P, rfl, h1, _, h2⟩
  exact ⟨P, rfl, h1, h2⟩
set_option maxRecDepth 100000 in
theorem keep12 {w0 w' : World} {a b : Nat} {P : Pk} (h : w0.heap[b]? = some (.cells (pcells P) 25 (0, 0))) (hab : b ≠ a) (hT : Tp w' a) (hg : Hid (w0.grownBy w' (some a))) :
    w'.cell? ⟨b, 0, none⟩ = some (.int .i64 P.mode) ∧ w'.cell? ⟨b, 1, none⟩ = some (.int .i64 P.sub) ∧ w'.cell? ⟨b, 2, none⟩ = some (.int .i64 P.set) ∧ w'.cell? ⟨b, 3, none⟩ = some (.int .i64 P.len) ∧ w'.cell? ⟨b, 4, none⟩ = some (.int .i64 P.ttl) ∧ w'.cell? ⟨b, 5, none⟩ = some (.int .i64 P.ent) ∧ w'.cell? ⟨b, 6, none⟩ = some (.int .i64 P.ing) ∧ w'.cell? ⟨b, 7, none⟩ = some (.int .i64 P.pro) ∧ w'.cell? ⟨b, 8, none⟩ = some (.int .u64 (P.bits : Int)) ∧ w'.cell? ⟨b, 9, none⟩ = some (.string P.pay) ∧ Tp w' a ∧ Hid (w0.grownBy w' (some a)) := by
  obtain ⟨h0, h1, h2, h3, h4, h5, h6, h7, h8, h9⟩ := p_facts (kept_row h hg.out (fun e => hab (Option.some.inj e)))
  exact ⟨h0, h1, h2, h3, h4, h5, h6, h7, h8, h9, hT, hg⟩
/-- The cells of three packets. -/
def c30 (P Q R : Pk) : Array Value := #[.int .i64 P.mode, .int .i64 P.sub, .int .i64 P.set, .int .i64 P.len, .int .i64 P.ttl, .int .i64 P.ent, .int .i64 P.ing, .int .i64 P.pro, .int .u64 (P.bits : Int), .string P.pay,
  .int .i64 Q.mode, .int .i64 Q.sub, .int .i64 Q.set, .int .i64 Q.len, .int .i64 Q.ttl, .int .i64 Q.ent, .int .i64 Q.ing, .int .i64 Q.pro, .int .u64 (Q.bits : Int), .string Q.pay,
  .int .i64 R.mode, .int .i64 R.sub, .int .i64 R.set, .int .i64 R.len, .int .i64 R.ttl, .int .i64 R.ent, .int .i64 R.ing, .int .i64 R.pro, .int .u64 (R.bits : Int), .string R.pay]
def sel3 (P Q R : Pk) (j : Nat) : Pk := match j with | 0 => P | 1 => Q | _ => R
/-- Member j of the list. -/
def At10 (w : World) (b j : Nat) (P : Pk) : Prop :=
  w.cell? ⟨b, j * 10, none⟩ = some (.int .i64 P.mode) ∧ w.cell? ⟨b, j * 10 + 1, none⟩ = some (.int .i64 P.sub) ∧ w.cell? ⟨b, j * 10 + 2, none⟩ = some (.int .i64 P.set) ∧ w.cell? ⟨b, j * 10 + 3, none⟩ = some (.int .i64 P.len) ∧ w.cell? ⟨b, j * 10 + 4, none⟩ = some (.int .i64 P.ttl) ∧ w.cell? ⟨b, j * 10 + 5, none⟩ = some (.int .i64 P.ent) ∧ w.cell? ⟨b, j * 10 + 6, none⟩ = some (.int .i64 P.ing) ∧ w.cell? ⟨b, j * 10 + 7, none⟩ = some (.int .i64 P.pro) ∧ w.cell? ⟨b, j * 10 + 8, none⟩ = some (.int .u64 (P.bits : Int)) ∧ w.cell? ⟨b, j * 10 + 9, none⟩ = some (.string P.pay)
set_option maxRecDepth 100000 in
theorem c30_at {w : World} {b : Nat} {P Q R : Pk} (hr : w.heap[b]? = some (.cells (c30 P Q R) 25 (0, 0))) (j : Nat) (hj : j < 3) : At10 w b j (sel3 P Q R j) := by
  rcases (show j = 0 ∨ j = 1 ∨ j = 2 by omega) with rfl | rfl | rfl
  · exact ⟨cell_of_row _ _ _ _ _ _ hr, cell_of_row _ _ _ _ _ _ hr, cell_of_row _ _ _ _ _ _ hr, cell_of_row _ _ _ _ _ _ hr, cell_of_row _ _ _ _ _ _ hr, cell_of_row _ _ _ _ _ _ hr, cell_of_row _ _ _ _ _ _ hr, cell_of_row _ _ _ _ _ _ hr, cell_of_row _ _ _ _ _ _ hr, cell_of_row _ _ _ _ _ _ hr⟩
  · exact ⟨cell_of_row _ _ _ _ _ _ hr, cell_of_row _ _ _ _ _ _ hr, cell_of_row _ _ _ _ _ _ hr, cell_of_row _ _ _ _ _ _ hr, cell_of_row _ _ _ _ _ _ hr, cell_of_row _ _ _ _ _ _ hr, cell_of_row _ _ _ _ _ _ hr, cell_of_row _ _ _ _ _ _ hr, cell_of_row _ _ _ _ _ _ hr, cell_of_row _ _ _ _ _ _ hr⟩
  · exact ⟨cell_of_row _ _ _ _ _ _ hr, cell_of_row _ _ _ _ _ _ hr, cell_of_row _ _ _ _ _ _ hr, cell_of_row _ _ _ _ _ _ hr, cell_of_row _ _ _ _ _ _ hr, cell_of_row _ _ _ _ _ _ hr, cell_of_row _ _ _ _ _ _ hr, cell_of_row _ _ _ _ _ _ hr, cell_of_row _ _ _ _ _ _ hr, cell_of_row _ _ _ _ _ _ hr⟩
set_option maxRecDepth 100000 in
theorem At10.keep {w w' : World} {b j : Nat} {P : Pk} (h : At10 w b j P) (g : w.grownBy w' none) : At10 w' b j P := by
  obtain ⟨h0, h1, h2, h3, h4, h5, h6, h7, h8, h9⟩ := h
  exact ⟨g.cell h0 (by simp), g.cell h1 (by simp), g.cell h2 (by simp), g.cell h3 (by simp), g.cell h4 (by simp), g.cell h5 (by simp), g.cell h6 (by simp), g.cell h7 (by simp), g.cell h8 (by simp), g.cell h9 (by simp)⟩
set_option maxRecDepth 100000 in
theorem sel3_wf {P Q R : Pk} (h1 : P.Wf) (h2 : Q.Wf) (h3 : R.Wf) (j : Nat) : (sel3 P Q R j).Wf := by
  unfold sel3
  split <;> assumption
end Go.Proofs.YtnfgkakhdgiepaaDoor

/- Parts of the proof, packed: PkBox, PkTape, PkTapeN, PkList, PkSize, PkRefs, PkRefs2, Fmt, Of, PkOnly, FwD, FwB, FwC, PkRest, PkMask, MaPln, MaLay, MaSrt. -/
import Derived.Test.YtpogblengagpaaaDoorSi8
import Derived.Test.YtpogblengagpaaaDoorSi1
import Derived.Deep.CutRange
import Derived.Deep.RegionHeld3
import Derived.Lib.SlBytesRow
import Derived.Laws.IdiomStrings
import Derived.Test.YtpogblengagpaaaDoorSi7
import Derived.Lib.TrailingZeros
import Derived.Shelf.SlIterI.Sorted
import Derived.Shelf.SlLaysM
import Derived.Shelf.SortM.Plain
import Derived.Shelf.SortM.SortNone
/- packet: a packet's block. -/
namespace Go.Proofs.YtpogblengagpaaaDoor
set_option maxRecDepth 100000
open Go.RowKit Bs
def zpk : Array Value := #[.int .i64 0, .int .i64 0, .int .i64 0, .int .i64 0, .int .i64 0, .int .i64 0, .int .i64 0, .int .i64 0, .int .u64 0, .string ⟨#[]⟩]
theorem pput_row {w : World} {h : Nat} (v0 v1 v2 v3 v4 v5 v6 v7 v8 v9 : Value) (hr : w.heap[h]? = some (.cells zpk 30 (0, 0))) :
  ((((((((((w.setCell ⟨h, 0, none⟩ v0).setCell ⟨h, 1, none⟩ v1).setCell ⟨h, 2, none⟩ v2).setCell ⟨h, 3, none⟩ v3).setCell ⟨h, 4, none⟩ v4).setCell ⟨h, 5, none⟩ v5).setCell ⟨h, 6, none⟩ v6).setCell ⟨h, 7, none⟩ v7).setCell ⟨h, 8, none⟩ v8).setCell ⟨h, 9, none⟩ v9).heap[h]? = some (.cells #[v0, v1, v2, v3, v4, v5, v6, v7, v8, v9] 30 (0, 0)) := by
 have e0 := heap_setCell_same _ h 0 _ _ v0 hr
 generalize w.setCell ⟨h, 0, none⟩ v0 = w0 at *
 replace e0 : w0.heap[h]? = some (.cells #[v0, .int .i64 0, .int .i64 0, .int .i64 0, .int .i64 0, .int .i64 0, .int .i64 0, .int .i64 0, .int .u64 0, .string ⟨#[]⟩] 30 (0, 0)) := e0
 have e1 := heap_setCell_same _ h 1 _ _ v1 e0
 generalize w0.setCell ⟨h, 1, none⟩ v1 = w1 at *
 replace e1 : w1.heap[h]? = some (.cells #[v0, v1, .int .i64 0, .int .i64 0, .int .i64 0, .int .i64 0, .int .i64 0, .int .i64 0, .int .u64 0, .string ⟨#[]⟩] 30 (0, 0)) := e1
 have e2 := heap_setCell_same _ h 2 _ _ v2 e1
 generalize w1.setCell ⟨h, 2, none⟩ v2 = w2 at *
 replace e2 : w2.heap[h]? = some (.cells #[v0, v1, v2, .int .i64 0, .int .i64 0, .int .i64 0, .int .i64 0, .int .i64 0, .int .u64 0, .string ⟨#[]⟩] 30 (0, 0)) := e2
 have e3 := heap_setCell_same _ h 3 _ _ v3 e2
 generalize w2.setCell ⟨h, 3, none⟩ v3 = w3 at *
 replace e3 : w3.heap[h]? = some (.cells #[v0, v1, v2, v3, .int .i64 0, .int .i64 0, .int .i64 0, .int .i64 0, .int .u64 0, .string ⟨#[]⟩] 30 (0, 0)) := e3
 have e4 := heap_setCell_same _ h 4 _ _ v4 e3
 generalize w3.setCell ⟨h, 4, none⟩ v4 = w4 at *
 replace e4 : w4.heap[h]? = some (.cells #[v0, v1, v2, v3, v4, .int .i64 0, .int .i64 0, .int .i64 0, .int .u64 0, .string ⟨#[]⟩] 30 (0, 0)) := e4
 have e5 := heap_setCell_same _ h 5 _ _ v5 e4
 generalize w4.setCell ⟨h, 5, none⟩ v5 = w5 at *
 replace e5 : w5.heap[h]? = some (.cells #[v0, v1, v2, v3, v4, v5, .int .i64 0, .int .i64 0, .int .u64 0, .string ⟨#[]⟩] 30 (0, 0)) := e5
 have e6 := heap_setCell_same _ h 6 _ _ v6 e5
 generalize w5.setCell ⟨h, 6, none⟩ v6 = w6 at *
 replace e6 : w6.heap[h]? = some (.cells #[v0, v1, v2, v3, v4, v5, v6, .int .i64 0, .int .u64 0, .string ⟨#[]⟩] 30 (0, 0)) := e6
 have e7 := heap_setCell_same _ h 7 _ _ v7 e6
 generalize w6.setCell ⟨h, 7, none⟩ v7 = w7 at *
 replace e7 : w7.heap[h]? = some (.cells #[v0, v1, v2, v3, v4, v5, v6, v7, .int .u64 0, .string ⟨#[]⟩] 30 (0, 0)) := e7
 have e8 := heap_setCell_same _ h 8 _ _ v8 e7
 generalize w7.setCell ⟨h, 8, none⟩ v8 = w8 at *
 replace e8 : w8.heap[h]? = some (.cells #[v0, v1, v2, v3, v4, v5, v6, v7, v8, .string ⟨#[]⟩] 30 (0, 0)) := e8
 have e9 := heap_setCell_same _ h 9 _ _ v9 e8
 generalize w8.setCell ⟨h, 9, none⟩ v9 = w9 at *
 replace e9 : w9.heap[h]? = some (.cells #[v0, v1, v2, v3, v4, v5, v6, v7, v8, v9] 30 (0, 0)) := e9
 exact e9
theorem pput_grown (w : World) (h : Nat) (v0 v1 v2 v3 v4 v5 v6 v7 v8 v9 : Value) : w.grownBy ((((((((((w.setCell ⟨h, 0, none⟩ v0).setCell ⟨h, 1, none⟩ v1).setCell ⟨h, 2, none⟩ v2).setCell ⟨h, 3, none⟩ v3).setCell ⟨h, 4, none⟩ v4).setCell ⟨h, 5, none⟩ v5).setCell ⟨h, 6, none⟩ v6).setCell ⟨h, 7, none⟩ v7).setCell ⟨h, 8, none⟩ v8).setCell ⟨h, 9, none⟩ v9) (some h) := by
 exact grown_trans (grown_trans (grown_trans (grown_trans (grown_trans (grown_trans (grown_trans (grown_trans (grown_trans (grown_setCell _ ⟨h, 0, none⟩ _) (grown_setCell _ ⟨h, 1, none⟩ _)) (grown_setCell _ ⟨h, 2, none⟩ _)) (grown_setCell _ ⟨h, 3, none⟩ _)) (grown_setCell _ ⟨h, 4, none⟩ _)) (grown_setCell _ ⟨h, 5, none⟩ _)) (grown_setCell _ ⟨h, 6, none⟩ _)) (grown_setCell _ ⟨h, 7, none⟩ _)) (grown_setCell _ ⟨h, 8, none⟩ _)) (grown_setCell _ ⟨h, 9, none⟩ _)
theorem zp_cells {w : World} {h : Nat} (hr : w.heap[h]? = some (.cells zpk 30 (0, 0))) :
  (w.cell? ⟨h, 0, none⟩ = some (.int .i64 0) ∧ w.cell? ⟨h, 1, none⟩ = some (.int .i64 0) ∧ w.cell? ⟨h, 2, none⟩ = some (.int .i64 0) ∧ w.cell? ⟨h, 3, none⟩ = some (.int .i64 0) ∧ w.cell? ⟨h, 4, none⟩ = some (.int .i64 0) ∧ w.cell? ⟨h, 5, none⟩ = some (.int .i64 0) ∧ w.cell? ⟨h, 6, none⟩ = some (.int .i64 0) ∧ w.cell? ⟨h, 7, none⟩ = some (.int .i64 0) ∧ w.cell? ⟨h, 8, none⟩ = some (.int .u64 0) ∧ w.cell? ⟨h, 9, none⟩ = some (.string ⟨#[]⟩)) ∧ w.frozen? ⟨h, 0, none⟩ = false ∧ w.frozen? ⟨h, 1, none⟩ = false ∧ w.frozen? ⟨h, 2, none⟩ = false ∧ w.frozen? ⟨h, 3, none⟩ = false ∧ w.frozen? ⟨h, 4, none⟩ = false ∧ w.frozen? ⟨h, 5, none⟩ = false ∧ w.frozen? ⟨h, 6, none⟩ = false ∧ w.frozen? ⟨h, 7, none⟩ = false ∧ w.frozen? ⟨h, 8, none⟩ = false ∧ w.frozen? ⟨h, 9, none⟩ = false :=
 ⟨⟨cell_of_row _ _ _ _ _ _ hr, cell_of_row _ _ _ _ _ _ hr, cell_of_row _ _ _ _ _ _ hr, cell_of_row _ _ _ _ _ _ hr, cell_of_row _ _ _ _ _ _ hr, cell_of_row _ _ _ _ _ _ hr, cell_of_row _ _ _ _ _ _ hr, cell_of_row _ _ _ _ _ _ hr, cell_of_row _ _ _ _ _ _ hr, cell_of_row _ _ _ _ _ _ hr⟩, frozen_of_row _ _ _ _ _ hr, frozen_of_row _ _ _ _ _ hr, frozen_of_row _ _ _ _ _ hr, frozen_of_row _ _ _ _ _ hr, frozen_of_row _ _ _ _ _ hr, frozen_of_row _ _ _ _ _ hr, frozen_of_row _ _ _ _ _ hr, frozen_of_row _ _ _ _ _ hr, frozen_of_row _ _ _ _ _ hr, frozen_of_row _ _ _ _ _ hr⟩
theorem packet_size : (Tryd.prog.info? 30).map (·.size) = some 10 := by kernel_rfl
end Go.Proofs.YtpogblengagpaaaDoor

/- The tape's packets. -/
namespace Go.Proofs.YtpogblengagpaaaDoor
set_option maxRecDepth 100000
open Go.RowKit Bs
def PacketPost (a : Nat) (w : World) (e : Ending) (w' : World) : Prop := ∃ P : Pk, e = .returned P.val ∧ P.Wf ∧ vpk P = true ∧ St a w w'
theorem tp_store {w1 w2 : World} {a b : Nat} (h : Tp w1 a) (k : w1.grownBy w2 (some b)) (hb : a < b) : Tp w2 a := tp_new2 h k hb
theorem St.store {a b : Nat} {W w w1 : World} (h : St a W w) (k : w.grownBy w1 (some b)) (hb : W.heap.size ≤ b) (ha : a < W.heap.size) : St a W w1 :=
 ⟨⟨k.os.trans h.1.os, k.tape.trans h.1.tape, k.output.trans h.1.output, Nat.le_trans h.1.size k.size, fun i hi hia => (k.block i (Nat.lt_of_lt_of_le hi h.1.size) (fun e => by have := Option.some.inj e; omega)).trans (h.1.block i hi hia)⟩, by
  exact tp_store h.2 k (by omega)⟩
theorem res_packet {fn : Func} {p : Tmp} (h : fn.results = #[.cell p 30]) (tmps : Array Value) (w : World) (g : Nat) (xs : Array Value) (hp : tmps.getD p undef = .pointer (some ⟨g, 0, none⟩)) (hn : xs.size = 10) (hg : w.heap[g]? = some (.cells xs 30 (0, 0))) :
  (results fn tmps).run Tryd.prog w = .ok (.agg xs) w := by
 exact results_cell_row h tmps w g _ _ _ _ hp hg Tryd.underlying30 rfl (by rw [hn]; exact packet_size)
theorem i64_small {x : Int} (h1 : -2000 ≤ x) (h2 : x ≤ 2000) : I64 x := by unfold I64; omega
set_option maxHeartbeats 3200000 in
theorem packet0_any (a : Nat) (w : World) (hT : Tp w a) :
  Calls Tryd.prog 38 #[.pointer (some ⟨a, 0, none⟩), .int .i64 0] w fun e w' => PacketPost a w e w' := by
 have ha := hT.lt
 obtain ⟨k1, k2⟩ := one_box w zpk 30
 have HB := Lib.hid k1
 have S0 : St a w (w.alloc (.cells zpk 30)) := ⟨grown_none k2 _, hT.keep k2⟩
 clear k1 k2
 unfold zpk at HB S0
 go_enter Tryd.func38, Tryd.ntmps38
 go_wp2_with fail
 generalize w.alloc _ = wa at *
 change Hid (wa.heap[w.heap.size]? = some (.cells zpk 30 (0, 0))) at HB
 refine (length_any a _ S0.2).mono ?_
 rintro e w1 ⟨len, rfl, hlen, hs1⟩
 have S1 := S0.trans hs1
 go_wp2_with fail
 refine (range_any a 1 3 (by decide) (by decide) (by decide) (by decide) _ S1.2).mono ?_
 rintro e w2 ⟨mode, rfl, hmode, hs2⟩
 go_wp2_with fail
 refine (range_any a 0 7 (by decide) (by decide) (by decide) (by decide) _ hs2.2).mono ?_
 rintro e w3 ⟨sub, rfl, hsub, hs3⟩
 go_wp2_with fail
 refine (pick_any (fun r => 0 ≤ r ∧ r ≤ 31) a _ 0 5 5 (by omega) (by omega) _ (hs3.2.alloc _) (among_list _ w3 a [0, 0, 1, 2, 31] _ _ hs3.2.lt rfl (by decide))).mono ?_
 rintro e w4 ⟨set, rfl, hset, hs4⟩
 go_wp2_with fail
 refine (pick_any (fun r => 0 ≤ r ∧ r ≤ 63) a _ 0 5 5 (by omega) (by omega) _ (hs4.2.alloc _) (among_list _ w4 a [0, 1, 2, 5, 63] _ _ hs4.2.lt rfl (by decide))).mono ?_
 rintro e w5 ⟨ttl, rfl, httl, hs5⟩
 go_wp2_with fail
 refine (next_any a 1024 (by unfold I64; omega) _ hs5.2).mono ?_
 rintro e w6 ⟨ent, rfl, hent, hs6⟩
 go_wp2_with fail
 refine (pick_any (fun r => 0 ≤ r ∧ r ≤ 256) a _ 0 5 5 (by omega) (by omega) _ (hs6.2.alloc _) (among_list _ w6 a [0, 1, 8, 255, 256] _ _ hs6.2.lt rfl (by decide))).mono ?_
 rintro e w7 ⟨ing, rfl, hing, hs7⟩
 go_wp2_with fail
 refine (next_any a 8 (by unfold I64; omega) _ hs7.2).mono ?_
 rintro e w8 ⟨pro, rfl, hpro, hs8⟩
 go_wp2_with fail
 refine (bits_any a len hlen _ hs8.2).mono ?_
 rintro e w9 ⟨bits, rfl, hbu, hbv, hs9⟩
 go_wp2_with fail
 refine (text_any a 6 (by decide) _ hs9.2).mono ?_
 rintro e w10 ⟨pay, rfl, hpay, hs10⟩
 have S' := ((((((((hs1.trans hs2).trans hs3).trans hs4.alloc_left).trans hs5.alloc_left).trans hs6).trans hs7.alloc_left).trans hs8).trans hs9).trans hs10
 have S := Lib.hid (S0.trans S')
 have HR := Lib.hid (kept_row HB.out S'.1 (fun e => by have := Option.some.inj e; omega))
 have hV : Hid (vpk ⟨mode, sub, set, len, ttl, ent, ing, pro, bits, pay⟩ = true ∧ (⟨mode, sub, set, len, ttl, ent, ing, pro, bits, pay⟩ : Pk).Wf) := by
  have r1 := hmode.1
  have r2 := hmode.2.1 (by decide)
  have r3 := hsub.1
  have r4 := hsub.2.1 (by decide)
  have r5 := hent.1
  have r6 := hent.2.1 (by decide)
  have r7 := hpro.1
  have r8 := hpro.2.1 (by decide)
  refine Lib.hid ⟨decide_eq_true ⟨⟨r1, r2⟩, ⟨r3, r4⟩, hset, httl, ⟨r5, by show ent ≤ 1023; omega⟩, hing, ⟨r7, by show pro ≤ 7; omega⟩, Nat.le_trans hpay (by decide), hbv⟩, ?_⟩
  have hl : I64 len := by rcases vl_cases hlen with h | h | h | h <;> rw [h] <;> (unfold I64; decide)
  obtain ⟨q1, q2⟩ := hset
  obtain ⟨q3, q4⟩ := httl
  obtain ⟨q5, q6⟩ := hing
  exact ⟨i64_small (x := mode) (by omega) (by omega), i64_small (x := sub) (by omega) (by omega), i64_small (x := set) (by omega) (by omega), hl, i64_small (x := ttl) (by omega) (by omega), i64_small (x := ent) (by omega) (by omega), i64_small (x := ing) (by omega) (by omega), i64_small (x := pro) (by omega) (by omega), hbu, Nat.le_trans hpay (by decide)⟩
 have g11 := World.grownBy_alloc w10 (.cells #[.int .i64 mode, .int .i64 sub, .int .i64 set, .int .i64 len, .int .i64 ttl, .int .i64 ent, .int .i64 ing, .int .i64 pro, .int .u64 (bits : Int), .string pay] 30) none
 have HR2 := Lib.hid (kept_row HR.out g11 (by simp))
 have S2 := Lib.hid (S.out.none_ g11)
 obtain ⟨⟨r0, r1, r2, r3, r4, r5, r6, r7, r8, r9⟩, f0, f1, f2, f3, f4, f5, f6, f7, f8, f9⟩ := zp_cells HR2.out
 clear S' S HR HB S0 S1 hs1 hs2 hs3 hs4 hs5 hs6 hs7 hs8 hs9 hs10 hmode hsub hset httl hent hing hpro hbu hbv hpay hlen g11
 go_wp2_with fail
 refine bodyPost_ret (res_packet rfl _ _ w.heap.size _ rfl rfl (pput_row _ _ _ _ _ _ _ _ _ _ HR2.out)) rfl ?_
 exact ⟨⟨mode, sub, set, len, ttl, ent, ing, pro, bits, pay⟩, rfl, hV.out.2, hV.out.1, S2.out.store (pput_grown _ w.heap.size _ _ _ _ _ _ _ _ _ _) (Nat.le_refl _) ha⟩
end Go.Proofs.YtpogblengagpaaaDoor

/- The tape's packets, also with a mistake. -/
namespace Go.Proofs.YtpogblengagpaaaDoor
set_option maxRecDepth 100000
open Go.RowKit Bs
section
variable {a B : Nat} {W w w1 : World} {P P' : Pk}
end
end Go.Proofs.YtpogblengagpaaaDoor

/- A list of three packets that a statement draws, and its members. -/
namespace Go.Proofs.YtpogblengagpaaaDoor
set_option maxRecDepth 100000
open Go.RowKit Bs
theorem grown_undrew_some {a : Nat} {w w1 : World} (g : w.drew.grownBy w1 (some a)) : w.grownBy w1 (some a) := ⟨g.os, g.tape, g.output, g.size, g.block⟩
theorem St.tp {a : Nat} {w w1 : World} (h : St a w w1) : Tp w1 a := h.2
theorem St.gr {a : Nat} {w w1 : World} (h : St a w w1) : w.grownBy w1 (some a) := h.1
end Go.Proofs.YtpogblengagpaaaDoor

/- packet: Size and Plane. -/
namespace Go.Proofs.YtpogblengagpaaaDoor
set_option maxRecDepth 100000
open Go.RowKit Bs
def planeV (P : Pk) : Int := if vpk P = true then P.ent % 8 else 0
theorem vpk_len {P : Pk} (h : vpk P = true) : P.len = ((P.len.toNat : Nat) : Int) ∧ P.len.toNat ≤ 64 := by
 rcases vl_cases (vb_vl (vpk_parts h).2.2.2.2.2.2.2.2) with h | h | h | h <;> rw [h] <;> decide
theorem pplane_any (P : Pk) (hP : P.Wf) (w : World) :
  Calls Tryd.prog 25 #[P.val] w fun e w' => e = .returned (.int .i64 (planeV P)) ∧ w.grownBy w' none := by
 have hval : P.val = .agg #[.int .i64 P.mode, .int .i64 P.sub, .int .i64 P.set, .int .i64 P.len, .int .i64 P.ttl, .int .i64 P.ent, .int .i64 P.ing, .int .i64 P.pro, .int .u64 (P.bits : Int), .string P.pay] := rfl
 rw [hval]
 go_enter Tryd.func25, Tryd.ntmps25
 go_wp2_with fail
 obtain ⟨k1, k2⟩ := one_box w (pcells P) 30
 have HP := Lib.hid (And.intro k1 k2)
 clear k1 k2
 unfold pcells at HP
 generalize w.alloc _ = wa at *
 change Hid (wa.heap[w.heap.size]? = some (.cells (pcells P) 30 (0, 0)) ∧ w.grownBy wa none) at HP
 rw [← hval]
 refine (pvalid_any P hP _).mono ?_
 rintro e w1 ⟨rfl, hg⟩
 have HQ := Lib.hid (And.intro (kept_row HP.out.1 hg (by simp)) (grown_trans HP.out.2 hg))
 clear hg HP
 by_cases hv : vpk P = true
 ·have hE : Hid (planeV P = P.ent % 8) := Lib.hid (by unfold planeV; rw [if_pos hv])
  have he := (vpk_parts hv).2.2.2.2.1
  obtain ⟨he1, he2⟩ := he
  rw [hv]
  clear hv
  obtain ⟨_, _, _, _, _, a5, _⟩ := p_facts HQ.out.1
  go_wp2_with fail
  go_ret
  exact ⟨by rw [hE.out]; rfl, HQ.out.2⟩
 ·have hf : vpk P = false := by simpa using hv
  have hE : Hid (planeV P = 0) := Lib.hid (by unfold planeV; rw [if_neg hv])
  rw [hf]
  clear hf hv
  go_wp2_with fail
  go_ret
  exact ⟨by rw [hE.out]; rfl, HQ.out.2⟩
end Go.Proofs.YtpogblengagpaaaDoor

/- packet: the reference's Valid, Size, Plane. -/
namespace Go.Proofs.YtpogblengagpaaaDoor
set_option maxRecDepth 100000
open Go.RowKit Bs
def ins (n m : Int) : Bool := decide (0 ≤ n ∧ n ≤ m)
theorem inside_any (n m : Int) (w : World) :
  Calls Tryd.prog 48 #[.int .i64 n, .int .i64 m] w fun e w' => e = .returned (.bool (ins n m)) ∧ w = w' := by
 by_cases h : 0 ≤ n
 ·by_cases h2 : n ≤ m
  ·have hi : Hid (ins n m = true) := Lib.hid (decide_eq_true ⟨h, h2⟩)
   go_enter Tryd.func48, Tryd.ntmps48
   go_wp2
   all_goals (go_ret; exact ⟨by rw [hi.out]; first | rfl | (simp; omega), rfl⟩)
  ·have hi : Hid (ins n m = false) := Lib.hid (decide_eq_false (by omega))
   go_enter Tryd.func48, Tryd.ntmps48
   go_wp2
   all_goals (go_ret; exact ⟨by rw [hi.out]; first | rfl | (simp; omega), rfl⟩)
 ·have hi : Hid (ins n m = false) := Lib.hid (decide_eq_false (by omega))
  go_enter Tryd.func48, Tryd.ntmps48
  go_wp2
  all_goals (go_ret; exact ⟨by rw [hi.out]; first | rfl | (simp; omega), rfl⟩)
theorem vpk_iff (P : Pk) : vpk P = (decide (1 ≤ P.mode) && (decide (P.mode ≤ 3) && (ins P.sub 7 && (ins P.set 31 && (vb P.bits P.len && (ins P.ttl 63 && (ins P.ent 1023 && (ins P.ing 256 && (ins P.pro 7 && decide (P.pay.size ≤ 64)))))))))) := by
 unfold vpk ins
 rw [Bool.eq_iff_iff]
 simp only [decide_eq_true_eq, Bool.and_eq_true]
 constructor
 ·rintro ⟨⟨h1, h2⟩, h3, h4, h5, h6, h7, h8, h9, h10⟩
  exact ⟨h1, h2, h3, h4, h10, h5, h6, h7, h8, h9⟩
 ·rintro ⟨h1, h2, h3, h4, h10, h5, h6, h7, h8, h9⟩
  exact ⟨⟨h1, h2⟩, h3, h4, h5, h6, h7, h8, h9, h10⟩
set_option maxHeartbeats 3200000 in
theorem rvalid_any (P : Pk) (hP : P.Wf) (w : World) :
  Calls Tryd.prog 30 #[P.val] w fun e w' => e = .returned (.bool (vpk P)) ∧ w.grownBy w' none := by
 have hval : P.val = .agg #[.int .i64 P.mode, .int .i64 P.sub, .int .i64 P.set, .int .i64 P.len, .int .i64 P.ttl, .int .i64 P.ent, .int .i64 P.ing, .int .i64 P.pro, .int .u64 (P.bits : Int), .string P.pay] := rfl
 rw [hval]
 go_enter Tryd.func30, Tryd.ntmps30
 obtain ⟨k1, k2⟩ := one_box w (pcells P) 30
 have HA := Lib.hid (And.intro k1 k2)
 unfold pcells at HA
 clear k1 k2
 by_cases hs : P.pay.size ≤ 64
 ·have hsi : ((P.pay.size : Nat) : Int) ≤ 64 := by omega
  go_wp2_with (first
   | (go_at_call 48; refine (inside_any _ _ _).mono ?_; rintro e w' ⟨rfl, rfl⟩)
   | (go_at_call 49; refine (bvalidr_any P.bits P.len hP.bits _).mono ?_; rintro e w' ⟨rfl, rfl⟩))
  all_goals
   go_ret
   refine ⟨?_, HA.out.2⟩
   first
    | (rw [show vpk P = false by (rw [vpk_iff]; first | (simp [*]; done) | (rw [decide_eq_false (show ¬ 1 ≤ P.mode by omega)]; rfl) | (rw [decide_eq_false (show ¬ P.mode ≤ 3 by omega), Bool.false_and, Bool.and_false]))]; rfl)
    | (rw [show vpk P = true by rw [vpk_iff]; simp [*]]; rfl)
 ·have hsi : ¬ ((P.pay.size : Nat) : Int) ≤ 64 := by omega
  go_wp2_with (first
   | (go_at_call 48; refine (inside_any _ _ _).mono ?_; rintro e w' ⟨rfl, rfl⟩)
   | (go_at_call 49; refine (bvalidr_any P.bits P.len hP.bits _).mono ?_; rintro e w' ⟨rfl, rfl⟩))
  all_goals
   go_ret
   refine ⟨?_, HA.out.2⟩
   first
    | (rw [show vpk P = false by (rw [vpk_iff]; first | (simp [*]; done) | (rw [decide_eq_false (show ¬ 1 ≤ P.mode by omega)]; rfl) | (rw [decide_eq_false (show ¬ P.mode ≤ 3 by omega), Bool.false_and, Bool.and_false]))]; rfl)
    | (rw [show vpk P = false by (rw [vpk_iff]; simp [*]), decide_eq_false (show ¬ ((P.pay.size : Nat) : Int) ≤ 64 by omega)]; rfl)
end Go.Proofs.YtpogblengagpaaaDoor

/- empty -/
namespace Go.Proofs.YtpogblengagpaaaDoor
set_option maxRecDepth 100000
end Go.Proofs.YtpogblengagpaaaDoor

/- The program's Format. -/
namespace Go.Proofs.YtpogblengagpaaaDoor
set_option maxRecDepth 100000
open Go.RowKit Bs

end Go.Proofs.YtpogblengagpaaaDoor

/- Of, of the program and of the reference. -/
namespace Go.Proofs.YtpogblengagpaaaDoor
set_option maxRecDepth 100000
open Go.RowKit Bs

end Go.Proofs.YtpogblengagpaaaDoor

/- packet: Only and Masked, of the program and of the reference. -/
namespace Go.Proofs.YtpogblengagpaaaDoor
set_option maxRecDepth 100000
open Go.RowKit Bs
def zP : Pk := ⟨0, 0, 0, 0, 0, 0, 0, 0, 0, ⟨#[]⟩⟩
def onlyP (P : Pk) (k : Int) : Pk := if vpk P = true ∧ 0 ≤ k ∧ k < 64 ∧ P.bits.testBit k.toNat = true then { P with bits := b2 k.toNat } else zP
def mskP (P : Pk) (m : Nat) : Pk × Bool := if vpk P = true ∧ P.ttl ≠ 0 ∧ P.bits &&& m ≠ 0 then ({ P with bits := P.bits &&& m, ttl := P.ttl - 1 }, true) else (zP, false)
structure TB (W : World) (P : Pk) (w : World) : Prop where
 pb : w.heap[W.heap.size]? = some (.cells (pcells P) 30 (0, 0))
 zb : w.heap[W.heap.size + 1]? = some (.cells zpk 30 (0, 0))
 gr : W.grownBy w none
theorem TB.keep {W w w1 : World} {P : Pk} (H : TB W P w) (g : w.grownBy w1 none) : TB W P w1 := ⟨kept_row H.pb g (by simp), kept_row H.zb g (by simp), grown_trans H.gr g⟩
theorem TB.at_bits {W w : World} {P : Pk} (H : TB W P w) (b : Nat) : TB W { P with bits := b } (w.setCell ⟨W.heap.size, 8, none⟩ (.int .u64 (b : Int))) := by
 have j := grown_setCell w ⟨W.heap.size, 8, none⟩ (.int .u64 (b : Int))
 refine ⟨heap_setCell_same w _ 8 _ _ _ H.pb, kept_row H.zb j (fun e => by have : W.heap.size + 1 = W.heap.size := Option.some.inj e; omega), grown_new H.gr j (Nat.le_refl _)⟩
theorem TB.at_ttl {W w : World} {P : Pk} (H : TB W P w) (x : Int) : TB W { P with ttl := x } (w.setCell ⟨W.heap.size, 4, none⟩ (.int .i64 x)) := by
 have j := grown_setCell w ⟨W.heap.size, 4, none⟩ (.int .i64 x)
 refine ⟨heap_setCell_same w _ 4 _ _ _ H.pb, kept_row H.zb j (fun e => by have : W.heap.size + 1 = W.heap.size := Option.some.inj e; omega), grown_new H.gr j (Nat.le_refl _)⟩
set_option maxHeartbeats 400000 in
theorem hasz_any (b : Nat) (k : Int) (hk : ¬ (0 ≤ k ∧ k < 64)) (w : World) :
  Calls Tryd.prog 29 #[.int .u64 (b : Int), .int .i64 k] w fun e w' => e = .returned (.bool false) ∧ w = w' := by
 by_cases h0 : 0 ≤ k
 ·have h1 : 64 ≤ k := by omega
  go_enter Tryd.func29, Tryd.ntmps29
  go_wp2
  go_ret
  exact ⟨rfl, rfl⟩
 ·have h1 : k < 0 := by omega
  go_enter Tryd.func29, Tryd.ntmps29
  go_wp2
  go_ret
  exact ⟨rfl, rfl⟩
set_option maxHeartbeats 800000 in
theorem hasi_any (b : Nat) (k : Int) (hb : U64 b) (w : World) :
  Calls Tryd.prog 29 #[.int .u64 (b : Int), .int .i64 k] w fun e w' => e = .returned (.bool (decide (0 ≤ k ∧ k < 64 ∧ b.testBit k.toNat = true))) ∧ w = w' := by
 by_cases hk : 0 ≤ k ∧ k < 64
 ·have h := has_any b k.toNat (by omega) hb w
  rw [show ((k.toNat : Nat) : Int) = k by omega] at h
  refine h.mono ?_
  rintro e w' ⟨rfl, rfl⟩
  exact ⟨ret_bool (by rw [Bool.eq_iff_iff]; simp [hk]), rfl⟩
 ·refine (hasz_any b k hk w).mono ?_
  rintro e w' ⟨rfl, rfl⟩
  exact ⟨ret_bool (by rw [Bool.eq_iff_iff]; simp; omega), rfl⟩
set_option maxHeartbeats 3200000 in
theorem onlyr_any (P : Pk) (hP : P.Wf) (k : Int) (w : World) :
  Calls Tryd.prog 14 #[P.val, .int .i64 k] w fun e w' => e = .returned (onlyP P k).val ∧ w.grownBy w' none := by
 have hval : P.val = .agg #[.int .i64 P.mode, .int .i64 P.sub, .int .i64 P.set, .int .i64 P.len, .int .i64 P.ttl, .int .i64 P.ent, .int .i64 P.ing, .int .i64 P.pro, .int .u64 (P.bits : Int), .string P.pay] := rfl
 rw [hval]
 go_enter Tryd.func14, Tryd.ntmps14
 go_wp2_with fail
 obtain ⟨k1, k2, k3, _⟩ := two_boxes w (pcells P) zpk 30 30
 have H0 := Lib.hid (TB.mk k1 k2 k3)
 clear k1 k2 k3
 unfold pcells zpk at H0
 generalize (w.alloc _).alloc _ = wa at *
 rw [← hval]
 refine (rvalid_any P hP _).mono ?_
 rintro e w1 ⟨rfl, hg⟩
 have H1 := Lib.hid (H0.out.keep hg)
 clear H0 hg
 obtain ⟨a0, a1, a2, a3, a4, a5, a6, a7, a8, a9⟩ := p_facts H1.out.pb
 obtain ⟨⟨z0, z1, z2, z3, z4, z5, z6, z7, z8, z9⟩, f0, f1, f2, f3, f4, f5, f6, f7, f8, f9⟩ := zp_cells H1.out.zb
 obtain ⟨q, hq⟩ : ∃ q, q = vpk P := ⟨_, rfl⟩
 rw [← hq]
 have HQ := Lib.hid hq
 clear hq
 cases q with
 | false =>
  have hE : Hid (onlyP P k = zP) := Lib.hid (by unfold onlyP; rw [if_neg (by simp [← HQ.out])])
  go_wp2_with fail
  refine bodyPost_ret (res_packet rfl _ _ (w.heap.size + 1) _ rfl rfl (pput_row _ _ _ _ _ _ _ _ _ _ H1.out.zb)) rfl ?_
  exact ⟨by rw [hE.out]; rfl, grown_new H1.out.gr (pput_grown _ (w.heap.size + 1) _ _ _ _ _ _ _ _ _ _) (Nat.le_succ _)⟩
 | true =>
  go_wp2_with fail
  refine (hasi_any P.bits k hP.bits _).mono ?_
  rintro e w' ⟨rfl, rfl⟩
  obtain ⟨r, hr⟩ : ∃ r, r = decide (0 ≤ k ∧ k < 64 ∧ P.bits.testBit k.toNat = true) := ⟨_, rfl⟩
  rw [← hr]
  have HR := Lib.hid hr
  clear hr
  cases r with
  | false =>
   have hE : Hid (onlyP P k = zP) := Lib.hid (by unfold onlyP; rw [if_neg (by have := HR.out; simp at this; intro h; have := this h.2.1 h.2.2.1; simp [h.2.2.2] at this)])
   go_wp2_with fail
   refine bodyPost_ret (res_packet rfl _ _ (w.heap.size + 1) _ rfl rfl (pput_row _ _ _ _ _ _ _ _ _ _ H1.out.zb)) rfl ?_
   exact ⟨by rw [hE.out]; rfl, grown_new H1.out.gr (pput_grown _ (w.heap.size + 1) _ _ _ _ _ _ _ _ _ _) (Nat.le_succ _)⟩
  | true =>
   have hk3 : 0 ≤ k ∧ k < 64 ∧ P.bits.testBit k.toNat = true := by have := HR.out; simpa using this.symm
   have hE : Hid (onlyP P k = { P with bits := b2 k.toNat }) := Lib.hid (by unfold onlyP; rw [if_pos ⟨HQ.out.symm, hk3⟩])
   have hB := bit_any k.toNat (by omega) w1
   rw [show ((k.toNat : Nat) : Int) = k by omega] at hB
   have HB := Lib.hid hB
   clear hB hk3
   obtain ⟨b, hb⟩ : ∃ b, b = b2 k.toNat := ⟨_, rfl⟩
   rw [← hb] at HB hE
   clear hb
   go_wp2_with fail
   refine HB.out.mono ?_
   rintro e w' ⟨rfl, rfl⟩
   have H2 := Lib.hid (H1.out.at_bits b)
   have c8 := frozen_of_row _ _ 8 _ _ H1.out.pb
   go_upto_region 4 with fail
   clear a0 a1 a2 a3 a4 a5 a6 a7 a8 a9 z0 z1 z2 z3 z4 z5 z6 z7 z8 z9 f0 f1 f2 f3 f4 f5 f6 f7 f8 f9 c8 H1
   generalize w1.setCell _ _ = w2 at *
   obtain ⟨a0, a1, a2, a3, a4, a5, a6, a7, a8, a9⟩ := p_facts H2.out.pb
   obtain ⟨⟨z0, z1, z2, z3, z4, z5, z6, z7, z8, z9⟩, f0, f1, f2, f3, f4, f5, f6, f7, f8, f9⟩ := zp_cells H2.out.zb
   go_wp2_with fail
   refine bodyPost_ret (res_packet rfl _ _ (w.heap.size + 1) _ rfl rfl (pput_row _ _ _ _ _ _ _ _ _ _ H2.out.zb)) rfl ?_
   exact ⟨by rw [hE.out]; rfl, grown_new H2.out.gr (pput_grown _ (w.heap.size + 1) _ _ _ _ _ _ _ _ _ _) (Nat.le_succ _)⟩
end Go.Proofs.YtpogblengagpaaaDoor

/- forward, the mathematics: what an outcome divides. -/
namespace Go.Proofs.YtpogblengagpaaaDoor
set_option maxRecDepth 100000
open Go.RowKit Bs
structure FwD (M : Int → Nat) (h : Nat → Int) (r : Int) (t : Bool) (P loc lost : Nat) (cs : List (Int × Nat)) : Prop where
 hloc : ∀ j, loc.testBit j = (P.testBit j && decide (h j = r))
 hlost : ∀ j, lost.testBit j = (P.testBit j && lzB h r t j)
 hcs : cs = cpB M h (fltB (czB h r t) P)
theorem FwI.fin {M : Int → Nat} {h : Nat → Int} {r : Int} {t : Bool} {P loc lost : Nat} {cs : List (Int × Nat)} (I : FwI M h r t P 0 loc lost cs) : FwD M h r t P loc lost cs := ⟨I.done.1, I.done.2.1, I.done.2.2⟩
def orC (l : List (Int × Nat)) (a : Nat) : Nat := l.foldl (fun acc y => acc ||| y.2) a
theorem orC_bit : ∀ (l : List (Int × Nat)) (a j : Nat), (orC l a).testBit j = (a.testBit j || l.any (fun y => y.2.testBit j))
 | [], a, j => by simp [orC]
 | y :: l, a, j => by
  have := orC_bit l (a ||| y.2) j
  unfold orC at this ⊢
  rw [List.foldl_cons, this, Nat.testBit_or, List.any_cons, Bool.or_assoc]
variable {M : Int → Nat} {h : Nat → Int} {r : Int} {t : Bool} {P loc lost : Nat} {cs : List (Int × Nat)}
theorem cz_ne {j : Nat} (hc : czB h r t j = true) : t = false ∧ h j ≠ 0 ∧ h j ≠ r := by
 unfold czB at hc
 simp at hc
 exact ⟨hc.1.1, hc.1.2, hc.2⟩
theorem cz_of {j : Nat} (h1 : t = false) (h2 : h j ≠ 0) (h3 : h j ≠ r) : czB h r t j = true := by
 unfold czB
 simp [h1, h2, h3]
theorem FwD.zs (hP : U64 P) : ∀ j, (fltB (czB h r t) P).testBit j = true → h j ≠ 0 := fun j hj => by
 rw [fltB_bit hP] at hj
 simp only [Bool.and_eq_true] at hj
 exact (cz_ne hj.2).2.1
theorem FwD.mem (D : FwD M h r t P loc lost cs) (hM : Ms M h) (hP : U64 P) {y : Int × Nat} (hy : y ∈ cs) : t = false ∧ y.1 ≠ 0 ∧ y.1 ≠ r ∧ y.2 = P &&& M y.1 ∧ y.2 ≠ 0 ∧ U64 y.2 ∧ (∃ j, j < 64 ∧ P.testBit j = true ∧ h j = y.1) ∧ (∀ j, y.2.testBit j = true → P.testBit j = true ∧ h j = y.1) := by
 rw [D.hcs] at hy
 obtain ⟨h1, j, h2, h3⟩ := cpB_mem hM _ (fltB_u _ hP) (FwD.zs hP) y hy
 rw [fltB_bit hP] at h2
 simp only [Bool.and_eq_true] at h2
 obtain ⟨c1, c2, c3⟩ := cz_ne h2.2
 rw [h3] at c2 c3
 have e : y.2 = P &&& M y.1 := h1.trans (Nat.eq_of_testBit_eq (fun k => by
  rw [Nat.testBit_and, Nat.testBit_and, fltB_bit hP]
  cases hk : (M y.1).testBit k with
  | false => simp
  | true =>
   have e1 := (((hM _ c2).2 k).1 hk).1
   rw [cz_of c1 (e1 ▸ c2) (e1 ▸ c3)]
   simp))
 have hj64 := u64_bit hP h2.1
 have hb : y.2.testBit j = true := by
  rw [e, Nat.testBit_and, h2.1, Bool.true_and]
  exact ((hM _ c2).2 j).2 ⟨h3, hj64⟩
 refine ⟨c1, c2, c3, e, fun e0 => ?_, by rw [e]; exact u64_andl _ _ hP, ⟨j, hj64, h2.1, h3⟩, fun k hk => ?_⟩
 ·rw [e0, Nat.zero_testBit] at hb
  cases hb
 ·rw [e, Nat.testBit_and] at hk
  simp only [Bool.and_eq_true] at hk
  exact ⟨hk.1, (((hM _ c2).2 k).1 hk.2).1⟩
theorem FwD.once (D : FwD M h r t P loc lost cs) (hM : Ms M h) (hP : U64 P) {i : Nat} {y : Int × Nat} (hy : cs[i]? = some y) : ∀ z ∈ cs.take i, z.1 ≠ y.1 := by
 have hp := cpB_once hM _ (fltB_u (czB h r t) hP) (FwD.zs hP)
 rw [← D.hcs] at hp
 intro z hz e
 obtain ⟨k, hk⟩ := List.mem_iff_getElem?.1 hz
 rw [List.getElem?_take] at hk
 split at hk
 ·rename_i hki
  obtain ⟨hil, hyi⟩ := List.getElem?_eq_some_iff.1 hy
  obtain ⟨hkl, hzk⟩ := List.getElem?_eq_some_iff.1 hk
  have := List.pairwise_iff_getElem.1 hp k i hkl hil hki
  rw [hzk, hyi] at this
  exact this e
 ·cases hk
theorem FwD.apart (D : FwD M h r t P loc lost cs) (hr : r ≠ 0) : loc &&& lost = 0 := Nat.eq_of_testBit_eq (fun j => by
 rw [Nat.testBit_and, Nat.zero_testBit, D.hloc, D.hlost]
 by_cases e : h j = r
 ·have : lzB h r t j = false := by unfold lzB; simp [e, hr]
  simp [this]
 ·simp [e])
theorem FwD.new (D : FwD M h r t P loc lost cs) (hM : Ms M h) (hP : U64 P) {i : Nat} {y : Int × Nat} (hy : cs[i]? = some y) : orC (cs.take i) (loc ||| lost) &&& y.2 = 0 := Nat.eq_of_testBit_eq (fun j => by
 rw [Nat.testBit_and, Nat.zero_testBit]
 cases hb : y.2.testBit j with
 | false => simp
 | true =>
  obtain ⟨c1, c2, c3, -, -, -, -, c4⟩ := D.mem hM hP (List.mem_of_getElem? hy)
  obtain ⟨-, hu⟩ := c4 j hb
  rw [orC_bit, Nat.testBit_or, D.hloc, D.hlost]
  have h1 : decide (h j = r) = false := decide_eq_false (by rw [hu]; exact c3)
  have h2 : lzB h r t j = false := by
   unfold lzB
   rw [c1, decide_eq_false (by rw [hu]; exact c2)]
   rfl
  have h3 : (cs.take i).any (fun z => z.2.testBit j) = false := by
   rw [List.any_eq_false]
   intro z hz hzb
   have := (D.mem hM hP (List.mem_of_mem_take hz)).2.2.2.2.2.2.2 j (by simpa using hzb)
   exact D.once hM hP hy z hz (this.2.symm.trans hu)
  rw [h1, h2, h3]
  simp)
theorem FwD.full (D : FwD M h r t P loc lost cs) (hM : Ms M h) (hP : U64 P) : orC cs (loc ||| lost) = P := Nat.eq_of_testBit_eq (fun j => by
 rw [orC_bit, Nat.testBit_or, D.hloc, D.hlost]
 cases hp : P.testBit j with
 | false =>
  have h3 : cs.any (fun z => z.2.testBit j) = false := by
   rw [List.any_eq_false]
   intro z hz hzb
   have := ((D.mem hM hP hz).2.2.2.2.2.2.2 j (by simpa using hzb)).1
   rw [hp] at this
   cases this
  rw [h3]
  rfl
 | true =>
  by_cases e : czB h r t j = true
  ·have hx : (fltB (czB h r t) P).testBit j = true := by rw [fltB_bit hP, hp, e]; rfl
   have hin := cpB_full hM _ (fltB_u (czB h r t) hP) (FwD.zs hP) j hx
   rw [← D.hcs] at hin
   have hb : (fltB (czB h r t) P &&& M (h j)).testBit j = true := by
    rw [Nat.testBit_and, hx, Bool.true_and]
    exact ((hM _ (cz_ne e).2.1).2 j).2 ⟨rfl, u64_bit hP hp⟩
   have h3 : cs.any (fun z => z.2.testBit j) = true := List.any_eq_true.2 ⟨_, hin, hb⟩
   rw [h3]
   simp
  ·have h4 : (decide (h j = r) || lzB h r t j) = true := by
    unfold czB at e
    unfold lzB
    revert e
    cases t <;> cases decide (h j = 0) <;> cases decide (h j = r) <;> simp
   revert h4
   cases decide (h j = r) <;> cases lzB h r t j <;> simp)
/-! A packet with a single bit of the packet. -/
theorem FwD.oneLoc {loc1 lost1 : Nat} {cs1 : List (Int × Nat)} (D : FwD M h r t P loc lost cs) {j : Nat} (hj : P.testBit j = true) (D1 : FwD M h r t (2 ^ j) loc1 lost1 cs1) : loc1 = loc &&& 2 ^ j ∧ lost1 = lost &&& 2 ^ j := by
 constructor
 ·refine Nat.eq_of_testBit_eq (fun k => ?_)
  rw [Nat.testBit_and, D1.hloc, D.hloc]
  cases hk : (2 ^ j).testBit k with
  | false => simp
  | true =>
   obtain rfl := two_bit hk
   rw [hj]
   simp
 ·refine Nat.eq_of_testBit_eq (fun k => ?_)
  rw [Nat.testBit_and, D1.hlost, D.hlost]
  cases hk : (2 ^ j).testBit k with
  | false => simp
  | true =>
   obtain rfl := two_bit hk
   rw [hj]
   simp
theorem FwD.oneCs {loc1 lost1 : Nat} {cs1 : List (Int × Nat)} (hM : Ms M h) {j : Nat} (hj : j < 64) (D1 : FwD M h r t (2 ^ j) loc1 lost1 cs1) : cs1 = if czB h r t j = true then [(h j, 2 ^ j)] else [] := by
 rw [D1.hcs, flt_one _ hj]
 by_cases e : czB h r t j = true
 ·rw [if_pos e, if_pos e, cpB_one hM hj (cz_ne e).2.1]
 ·rw [if_neg e, if_neg e]
  rfl
theorem FwD.has (D : FwD M h r t P loc lost cs) (hM : Ms M h) (hP : U64 P) {j : Nat} (hj : P.testBit j = true) {y : Int × Nat} (hy : y ∈ cs) : y.2.testBit j = true ↔ y.1 = h j := by
 obtain ⟨c1, c2, c3, c4, -, -, -, c5⟩ := D.mem hM hP hy
 constructor
 ·intro hb
  exact (c5 j hb).2.symm
 ·intro e
  rw [c4, Nat.testBit_and, hj, Bool.true_and]
  exact ((hM _ c2).2 j).2 ⟨e.symm, u64_bit hP hj⟩
theorem FwD.goes (D : FwD M h r t P loc lost cs) (hM : Ms M h) (hP : U64 P) {j : Nat} (hj : P.testBit j = true) : (∃ y ∈ cs, y.1 = h j) ↔ czB h r t j = true := by
 constructor
 ·rintro ⟨y, hy, e⟩
  obtain ⟨c1, c2, c3, -⟩ := D.mem hM hP hy
  exact cz_of c1 (e ▸ c2) (e ▸ c3)
 ·intro e
  have hx : (fltB (czB h r t) P).testBit j = true := by rw [fltB_bit hP, hj, e]; rfl
  have hin := cpB_full hM _ (fltB_u (czB h r t) hP) (FwD.zs hP) j hx
  rw [← D.hcs] at hin
  exact ⟨_, hin, rfl⟩
end Go.Proofs.YtpogblengagpaaaDoor

/- forward, the mathematics: the next hop of each bit and the masks. -/
namespace Go.Proofs.YtpogblengagpaaaDoor
set_option maxRecDepth 100000
open Go.RowKit Go.Maps Bs
def hpF (n set : Int) (k : Nat) (L : List Rw) (j : Nat) : Int := if atOk set (j : Int) n = true then hopI L (atI set (j : Int) n) k else 0
theorem hop_pos {r s n : Int} {L : List Rw} (h : ckT r s n L = 0) {id : Int} {k : Nat} (h0 : hopI L id k ≠ 0) : 1 ≤ hopI L id k ∧ hopI L id k ≤ 99 := by
 have ho := ck_ok h
 unfold hopI at h0 ⊢
 cases hf : fdW L id with
 | none =>
  rw [hf] at h0
  exact absurd rfl h0
 | some x =>
  rw [hf, Option.getD_some] at h0
  rw [Option.getD_some]
  exact nx_in (any_memT ho.2.1 (List.mem_of_find?_eq_some hf)) h0
theorem ms_fw {r s n : Int} {L : List Rw} (h : ckT r s n L = 0) {N : Nat} (hN : n = (N : Int)) (k : Nat) (set : Int) : Ms (fun u => (colL n set k L u).getD 0) (hpF n set k L) := by
 have ho := ck_ok h
 have hok : ColOk (colL n set k L) := by
  have := colL_ok (n := n) (set := set) (k := k) ho.2.1 L.length
  rwa [List.take_length] at this
 intro u hu
 refine ⟨hok.getD u, fun j => ?_⟩
 by_cases hp : 0 < u
 ·show ((colL n set k L u).getD 0).testBit j = true ↔ _
  have h64 : ((colL n set k L u).getD 0).testBit j = true → j < 64 := u64_bit (hok.getD u)
  rw [← mask_eq h hN hp] at h64 ⊢
  rw [btA_bit] at h64 ⊢
  unfold btP at h64 ⊢
  unfold hpF
  simp only [Bool.and_eq_true, decide_eq_true_eq] at h64 ⊢
  constructor
  ·rintro ⟨h1, ⟨h2, h3⟩, h4⟩
   exact ⟨by rw [if_pos h2]; exact h4, h64 ⟨h1, ⟨h2, h3⟩, h4⟩⟩
  ·rintro ⟨h1, h2⟩
   by_cases ha : atOk set (j : Int) n = true
   ·rw [if_pos ha] at h1
    refine ⟨?_, ⟨ha, hp⟩, h1⟩
    unfold atOk inV at ha
    simp only [Bool.and_eq_true, decide_eq_true_eq] at ha
    omega
   ·rw [if_neg ha] at h1
    exact absurd h1.symm hu
 ·constructor
  ·intro hb
   obtain ⟨x, hx, -, h2, -, -⟩ := (colL_bit L u j).1 hb
   have := nx_in (k := k) (any_memT ho.2.1 hx) (by rw [h2]; exact hu)
   omega
  ·rintro ⟨h1, -⟩
   unfold hpF at h1
   by_cases ha : atOk set (j : Int) n = true
   ·rw [if_pos ha] at h1
    have := hop_pos h (id := atI set (j : Int) n) (k := k) (by rw [h1]; exact hu)
    omega
   ·rw [if_neg ha] at h1
    exact absurd h1.symm hu
end Go.Proofs.YtpogblengagpaaaDoor

/- forward, the mathematics: the least bit as bitset.First says it. -/
namespace Go.Proofs.YtpogblengagpaaaDoor
set_option maxRecDepth 100000
open Go.RowKit Bs
theorem lst_ctz {b : Nat} (hb : U64 b) (h0 : b ≠ 0) : Lst b (Lib.ctz 64 b) := by
 have hc : Lib.ctz 64 b = Lib.ctzFrom 64 b := by unfold Lib.ctz; rw [if_neg h0]
 obtain ⟨m, hm, -⟩ := Lib.ctzFrom_spec 64 b (Nat.pos_of_ne_zero h0) hb
 rw [hc]
 generalize Lib.ctzFrom 64 b = c at hm
 refine ⟨?_, fun i hi => ?_⟩
 ·rw [hm, Nat.testBit_two_pow_mul]
  simp
 ·rcases Nat.lt_or_ge i c with h | h
  ·rw [hm, Nat.testBit_two_pow_mul] at hi
   simp at hi
   omega
  ·exact h
theorem and_two {a j : Nat} : (a &&& 2 ^ j = 0) ↔ a.testBit j = false := by
 constructor
 ·intro e
  have := congrArg (fun x => x.testBit j) e
  simp only [Nat.testBit_and, Nat.testBit_two_pow_self, Bool.and_true, Nat.zero_testBit] at this
  exact this
 ·intro e
  refine Nat.eq_of_testBit_eq (fun k => ?_)
  rw [Nat.testBit_and, Nat.zero_testBit]
  cases hk : (2 ^ j).testBit k with
  | false => simp
  | true =>
   obtain rfl := two_bit hk
   rw [e]
   rfl
end Go.Proofs.YtpogblengagpaaaDoor

/- packet: the rest of a packet is read. -/
namespace Go.Proofs.YtpogblengagpaaaDoor
set_option maxRecDepth 100000
open Go.RowKit Bs
theorem res_packet_err {fn : Func} {p u : Tmp} (h : fn.results = #[.cell p 30, .tmp u]) (tmps : Array Value) (w : World) (g : Nat) (xs : Array Value) (hp : tmps.getD p undef = .pointer (some ⟨g, 0, none⟩)) (hn : xs.size = 10) (hg : w.heap[g]? = some (.cells xs 30 (0, 0))) :
  (results fn tmps).run Tryd.prog w = .ok (.tuple #[.agg xs, tmps.getD u undef]) w := by
 have hp' : tmps[p]?.getD undef = .pointer (some ⟨g, 0, none⟩) := by simpa using hp
 rw [results_cell_tmp h]
 simp [hp', asAddr, run_loadVar_row w g _ _ _ _ _ hg Tryd.underlying30 rfl (by rw [hn]; exact packet_size), Result.andThen]
section
variable {W w w1 : World} {V : Nat → Nat} {n b : Nat} {s : ByteArray} {l : List Nat} {p : Option Addr} {c : Nat}
end
section
variable {w : World} {q : Nat → Prop} {l : List Nat} {p : Option Addr} {c : Nat}
end
end Go.Proofs.YtpogblengagpaaaDoor

/- packet: Masked, of the program and of the reference. -/
namespace Go.Proofs.YtpogblengagpaaaDoor
set_option maxRecDepth 100000
open Go.RowKit Bs
set_option maxHeartbeats 3200000 in
theorem maskp_any (P : Pk) (hP : P.Wf) (m : Nat) (hm : U64 m) (w : World) :
  Calls Tryd.prog 47 #[P.val, .int .u64 (m : Int)] w fun e w' => e = .returned (.tuple #[(mskP P m).1.val, .bool (mskP P m).2]) ∧ w.grownBy w' none := by
 have hval : P.val = .agg #[.int .i64 P.mode, .int .i64 P.sub, .int .i64 P.set, .int .i64 P.len, .int .i64 P.ttl, .int .i64 P.ent, .int .i64 P.ing, .int .i64 P.pro, .int .u64 (P.bits : Int), .string P.pay] := rfl
 rw [hval]
 go_enter Tryd.func47, Tryd.ntmps47
 go_wp2_with fail
 obtain ⟨k1, k2, k3, _⟩ := two_boxes w (pcells P) zpk 30 30
 have H0 := Lib.hid (TB.mk k1 k2 k3)
 clear k1 k2 k3
 unfold pcells zpk at H0
 generalize (w.alloc _).alloc _ = wa at *
 rw [← hval]
 refine (pvalid_any P hP _).mono ?_
 rintro e w1 ⟨rfl, hg⟩
 have H1 := Lib.hid (H0.out.keep hg)
 clear H0 hg
 obtain ⟨a0, a1, a2, a3, a4, a5, a6, a7, a8, a9⟩ := p_facts H1.out.pb
 obtain ⟨⟨z0, z1, z2, z3, z4, z5, z6, z7, z8, z9⟩, f0, f1, f2, f3, f4, f5, f6, f7, f8, f9⟩ := zp_cells H1.out.zb
 by_cases hv : vpk P = true
 ·rw [hv]
  by_cases ht : P.ttl = 0
  ·have hE : Hid (mskP P m = (zP, false)) := Lib.hid (by unfold mskP; rw [if_neg (fun h => h.2.1 ht)])
   clear hv hval
   go_wp2_with fail
   refine bodyPost_ret (res_packet_err rfl _ _ (w.heap.size + 1) _ rfl rfl (pput_row _ _ _ _ _ _ _ _ _ _ H1.out.zb)) rfl ?_
   exact ⟨by rw [hE.out]; rfl, grown_new H1.out.gr (pput_grown _ (w.heap.size + 1) _ _ _ _ _ _ _ _ _ _) (Nat.le_succ _)⟩
  ·have hand := andU P.bits m hP.bits hm
   by_cases hb : P.bits &&& m = 0
   ·have hE : Hid (mskP P m = (zP, false)) := Lib.hid (by unfold mskP; rw [if_neg (fun h => h.2.2 hb)])
    rw [hb] at hand
    clear hv hval hb
    go_wp2_with fail
    refine bodyPost_ret (res_packet_err rfl _ _ (w.heap.size + 1) _ rfl rfl (pput_row _ _ _ _ _ _ _ _ _ _ H1.out.zb)) rfl ?_
    exact ⟨by rw [hE.out]; rfl, grown_new H1.out.gr (pput_grown _ (w.heap.size + 1) _ _ _ _ _ _ _ _ _ _) (Nat.le_succ _)⟩
   ·have hE : Hid (mskP P m = ({ P with bits := P.bits &&& m, ttl := P.ttl - 1 }, true)) := Lib.hid (by unfold mskP; rw [if_pos ⟨hv, ht, hb⟩])
    have hne : ((P.bits &&& m : Nat) : Int) ≠ 0 := by omega
    have hw : IntKind.i64.wrap (P.ttl - 1) = P.ttl - 1 := by
     have h1 := (vpk_parts hv).2.2.2.1
     exact IntWalk.i64_in _ (by omega)
    generalize P.bits &&& m = b at *
    have e1 : (P.ttl == 0) = false := by simp [ht]
    have e2 : ((b : Int) == 0) = false := by simpa using hne
    have H2 := Lib.hid (H1.out.at_bits b)
    have c8 := frozen_of_row _ _ 8 _ _ H1.out.pb
    clear hv hval hb
    go_upto_region 4 with fail
    clear a0 a1 a2 a3 a4 a5 a6 a7 a8 a9 z0 z1 z2 z3 z4 z5 z6 z7 z8 z9 f0 f1 f2 f3 f4 f5 f6 f7 f8 f9 c8 H1 hand hne e1 e2 ht
    generalize w1.setCell _ _ = w2 at *
    have a4 : w2.cell? ⟨w.heap.size, 4, none⟩ = some (.int .i64 P.ttl) := cell_of_row _ _ _ _ _ _ H2.out.pb
    have c4 := frozen_of_row _ _ 4 _ _ H2.out.pb
    have H3 := Lib.hid (H2.out.at_ttl (P.ttl - 1))
    go_upto_region 5 with fail
    clear H2 a4 c4
    generalize w2.setCell _ _ = w3 at *
    obtain ⟨a0, a1, a2, a3, a4, a5, a6, a7, a8, a9⟩ := p_facts H3.out.pb
    obtain ⟨⟨z0, z1, z2, z3, z4, z5, z6, z7, z8, z9⟩, f0, f1, f2, f3, f4, f5, f6, f7, f8, f9⟩ := zp_cells H3.out.zb
    go_wp2_with fail
    refine bodyPost_ret (res_packet_err rfl _ _ (w.heap.size + 1) _ rfl rfl (pput_row _ _ _ _ _ _ _ _ _ _ H3.out.zb)) rfl ?_
    exact ⟨by rw [hE.out]; rfl, grown_new H3.out.gr (pput_grown _ (w.heap.size + 1) _ _ _ _ _ _ _ _ _ _) (Nat.le_succ _)⟩
 ·have hE : Hid (mskP P m = (zP, false)) := Lib.hid (by unfold mskP; rw [if_neg (fun h => hv h.1)])
  have hf : vpk P = false := by simpa using hv
  rw [hf]
  clear hv hf hval
  go_wp2_with fail
  refine bodyPost_ret (res_packet_err rfl _ _ (w.heap.size + 1) _ rfl rfl (pput_row _ _ _ _ _ _ _ _ _ _ H1.out.zb)) rfl ?_
  exact ⟨by rw [hE.out]; rfl, grown_new H1.out.gr (pput_grown _ (w.heap.size + 1) _ _ _ _ _ _ _ _ _ _) (Nat.le_succ _)⟩
end Go.Proofs.YtpogblengagpaaaDoor

/- empty -/
namespace Go.Proofs.YtpogblengagpaaaDoor
set_option maxRecDepth 100000
end Go.Proofs.YtpogblengagpaaaDoor

/- The library's contracts on maps.Keys, slices.Sorted and slices.Sort, laid at this program. -/
namespace Go.Proofs.YtpogblengagpaaaDoor
set_option maxRecDepth 100000
open Go.Shelf
def keysU_ren : Go.Shelf.Ren := ⟨fun | 7 => 45 | 10 => 69 | n => n, fun | 23 => 95 | 26 => 3 | 3 => 28 | 28 => 99 | 0 => 0 | 27 => 98 | 33 => 71 | 4 => 4 | n => n, fun | n => n⟩
theorem keysU : Go.Proofs.SlLaysZI.n7 Tryd.prog keysU_ren where
 mixed := by kernel_rfl
 f7 := ⟨ "maps.Keys[map[int]uint64,int,uint64]", by decide, Tryd.func45.trans (congrArg some (by kernel_rfl))⟩
 f10 := ⟨ "maps.Keys[map[int]uint64,int,uint64]$1", by decide, Tryd.func69.trans (congrArg some (by kernel_rfl))⟩
 t0 := Tryd.underlying0
 a0 := Tryd.isAgg0
 z0 := Tryd.sizeOf0
 v0 := Tryd.zeroValue0
 t4 := Tryd.underlying4
 a4 := Tryd.isAgg4
 z4 := Tryd.sizeOf4
 v4 := Tryd.zeroValue4
 t23 := Tryd.underlying95
 a23 := Tryd.isAgg95
 z23 := Tryd.sizeOf95
 v23 := Tryd.zeroValue95
 t26 := Tryd.underlying3
 a26 := Tryd.isAgg3
 z26 := Tryd.sizeOf3
 v26 := Tryd.zeroValue3
 t27 := Tryd.underlying98
 a27 := Tryd.isAgg98
 z27 := Tryd.sizeOf98
 v27 := Tryd.zeroValue98
 t28 := Tryd.underlying99
 a28 := Tryd.isAgg99
 z28 := Tryd.sizeOf99
 v28 := Tryd.zeroValue99
 t33 := Tryd.underlying71
 a33 := Tryd.isAgg71
 z33 := Tryd.sizeOf71
 v33 := Tryd.zeroValue71
def sortedU_ren : Go.Shelf.Ren := ⟨fun | 6 => 44 | 8 => 67 | 9 => 68 | 11 => 81 | 13 => 83 | 12 => 82 | 23 => 94 | 24 => 95 | 14 => 85 | 15 => 86 | 16 => 87 | 17 => 88 | 18 => 89 | 19 => 90 | 20 => 91 | 21 => 92 | 22 => 93 | 25 => 96 | 26 => 97 | 27 => 98 | 28 => 99 | 29 => 100 | 30 => 101 | 31 => 102 | n => n, fun | 26 => 3 | 28 => 99 | 24 => 22 | 0 => 0 | 3 => 3 | 37 => 82 | 48 => 136 | 50 => 28 | 4 => 4 | 40 => 129 | 39 => 128 | 45 => 133 | 5 => 5 | 9 => 9 | 51 => 137 | 55 => 141 | 57 => 143 | 58 => 144 | 33 => 71 | n => n, fun | n => n⟩
theorem sortedU : Go.Proofs.SlLaysZI.n6 Tryd.prog sortedU_ren where
 mixed := by kernel_rfl
 f6 := ⟨ "slices.Sorted[int]", by decide, Tryd.func44.trans (congrArg some (by kernel_rfl))⟩
 f8 := ⟨ "slices.Collect[int]", by decide, Tryd.func67.trans (congrArg some (by kernel_rfl))⟩
 f11 := ⟨ "slices.AppendSeq[[]int,int]", by decide, Tryd.func81.trans (congrArg some (by kernel_rfl))⟩
 t0 := Tryd.underlying0
 a0 := Tryd.isAgg0
 z0 := Tryd.sizeOf0
 v0 := Tryd.zeroValue0
 t24 := Tryd.underlying22
 a24 := Tryd.isAgg22
 z24 := Tryd.sizeOf22
 v24 := Tryd.zeroValue22
 t26 := Tryd.underlying3
 a26 := Tryd.isAgg3
 z26 := Tryd.sizeOf3
 v26 := Tryd.zeroValue3
 t28 := Tryd.underlying99
 a28 := Tryd.isAgg99
 z28 := Tryd.sizeOf99
 v28 := Tryd.zeroValue99
 i26 := by kernel_rfl
def sortU_ren : Go.Shelf.Ren := ⟨fun | 5 => 68 | 8 => 83 | 7 => 82 | 19 => 94 | 20 => 95 | 10 => 85 | 11 => 86 | 12 => 87 | 13 => 88 | 14 => 89 | 15 => 90 | 16 => 91 | 17 => 92 | 18 => 93 | 30 => 96 | 31 => 97 | 32 => 98 | 33 => 99 | 34 => 100 | 35 => 101 | 40 => 102 | n => n, fun | 23 => 22 | 25 => 3 | 3 => 3 | 32 => 82 | 22 => 22 | 0 => 0 | 44 => 136 | 46 => 28 | 4 => 4 | 36 => 129 | 35 => 128 | 41 => 133 | 5 => 5 | 9 => 9 | 53 => 137 | 57 => 141 | 63 => 143 | 64 => 144 | n => n, fun | n => n⟩
theorem sortU : Go.Proofs.SlLaysM.n5 Tryd.prog sortU_ren where
 mixed := by kernel_rfl
 f5 := ⟨ "slices.Sort[[]int,int]", by decide, Tryd.func68.trans (congrArg some (by kernel_rfl))⟩
 f7 := ⟨ "slices.pdqsortOrdered[int]", by decide, Tryd.func82.trans (congrArg some (by kernel_rfl))⟩
 f8 := Tryd.func83.trans (congrArg some (by kernel_rfl))
 f10 := ⟨ "slices.insertionSortOrdered[int]", by decide, Tryd.func85.trans (congrArg some (by kernel_rfl))⟩
 f11 := ⟨ "slices.heapSortOrdered[int]", by decide, Tryd.func86.trans (congrArg some (by kernel_rfl))⟩
 f12 := ⟨ "slices.breakPatternsOrdered[int]", by decide, Tryd.func87.trans (congrArg some (by kernel_rfl))⟩
 f13 := ⟨ "slices.choosePivotOrdered[int]", by decide, Tryd.func88.trans (congrArg some (by kernel_rfl))⟩
 f14 := ⟨ "slices.reverseRangeOrdered[int]", by decide, Tryd.func89.trans (congrArg some (by kernel_rfl))⟩
 f15 := ⟨ "slices.partialInsertionSortOrdered[int]", by decide, Tryd.func90.trans (congrArg some (by kernel_rfl))⟩
 f16 := ⟨ "cmp.Less[int]", by decide, Tryd.func91.trans (congrArg some (by kernel_rfl))⟩
 f17 := ⟨ "slices.partitionEqualOrdered[int]", by decide, Tryd.func92.trans (congrArg some (by kernel_rfl))⟩
 f18 := ⟨ "slices.partitionOrdered[int]", by decide, Tryd.func93.trans (congrArg some (by kernel_rfl))⟩
 f19 := Tryd.func94.trans (congrArg some (by kernel_rfl))
 f20 := Tryd.func95.trans (congrArg some (by kernel_rfl))
 f30 := ⟨ "slices.siftDownOrdered[int]", by decide, Tryd.func96.trans (congrArg some (by kernel_rfl))⟩
 f31 := Tryd.func97.trans (congrArg some (by kernel_rfl))
 f32 := Tryd.func98.trans (congrArg some (by kernel_rfl))
 f33 := ⟨ "slices.medianAdjacentOrdered[int]", by decide, Tryd.func99.trans (congrArg some (by kernel_rfl))⟩
 f34 := ⟨ "slices.medianOrdered[int]", by decide, Tryd.func100.trans (congrArg some (by kernel_rfl))⟩
 f35 := ⟨ "cmp.isNaN[int]", by decide, Tryd.func101.trans (congrArg some (by kernel_rfl))⟩
 f40 := ⟨ "slices.order2Ordered[int]", by decide, Tryd.func102.trans (congrArg some (by kernel_rfl))⟩
 t0 := Tryd.underlying0
 a0 := Tryd.isAgg0
 z0 := Tryd.sizeOf0
 v0 := Tryd.zeroValue0
 t3 := Tryd.underlying3
 a3 := Tryd.isAgg3
 z3 := Tryd.sizeOf3
 v3 := Tryd.zeroValue3
 t4 := Tryd.underlying4
 a4 := Tryd.isAgg4
 z4 := Tryd.sizeOf4
 v4 := Tryd.zeroValue4
 t5 := Tryd.underlying5
 a5 := Tryd.isAgg5
 z5 := Tryd.sizeOf5
 v5 := Tryd.zeroValue5
 t9 := Tryd.underlying9
 a9 := Tryd.isAgg9
 z9 := Tryd.sizeOf9
 v9 := Tryd.zeroValue9
 t22 := Tryd.underlying22
 a22 := Tryd.isAgg22
 z22 := Tryd.sizeOf22
 v22 := Tryd.zeroValue22
 t23 := Tryd.underlying22
 a23 := Tryd.isAgg22
 z23 := Tryd.sizeOf22
 v23 := Tryd.zeroValue22
 t25 := Tryd.underlying3
 a25 := Tryd.isAgg3
 z25 := Tryd.sizeOf3
 v25 := Tryd.zeroValue3
 t32 := Tryd.underlying82
 a32 := Tryd.isAgg82
 z32 := Tryd.sizeOf82
 v32 := Tryd.zeroValue82
 t35 := Tryd.underlying128
 a35 := Tryd.isAgg128
 z35 := Tryd.sizeOf128
 v35 := Tryd.zeroValue128
 t36 := Tryd.underlying129
 a36 := Tryd.isAgg129
 z36 := Tryd.sizeOf129
 v36 := Tryd.zeroValue129
 t41 := Tryd.underlying133
 a41 := Tryd.isAgg133
 z41 := Tryd.sizeOf133
 v41 := Tryd.zeroValue133
 t44 := Tryd.underlying136
 a44 := Tryd.isAgg136
 z44 := Tryd.sizeOf136
 v44 := Tryd.zeroValue136
 t46 := Tryd.underlying28
 a46 := Tryd.isAgg28
 z46 := Tryd.sizeOf28
 v46 := Tryd.zeroValue28
 t53 := Tryd.underlying137
 a53 := Tryd.isAgg137
 z53 := Tryd.sizeOf137
 v53 := Tryd.zeroValue137
 t57 := Tryd.underlying141
 a57 := Tryd.isAgg141
 z57 := Tryd.sizeOf141
 v57 := Tryd.zeroValue141
 t63 := Tryd.underlying143
 a63 := Tryd.isAgg143
 z63 := Tryd.sizeOf143
 v63 := Tryd.zeroValue143
 t64 := Tryd.underlying144
 a64 := Tryd.isAgg144
 z64 := Tryd.sizeOf144
 v64 := Tryd.zeroValue144
end Go.Proofs.YtpogblengagpaaaDoor

/- slices.Sorted(maps.Keys(masks)). -/
namespace Go.Proofs.YtpogblengagpaaaDoor
set_option maxRecDepth 100000
open Go.RowKit Go.Maps Bs
theorem sortsU (m : Nat) : AnyZI.SortsIn Tryd.prog sortedU_ren Fence.wide m :=
 ⟨fun blk off cap ss W hH hblk hsz => callsIn_wide.2 (AnyM.slices_Sort_int sortU blk off cap ss W hH hblk hsz),
  fun p cap W => callsIn_wide.2 (AnyM.slices_Sort_int_none sortU p cap W)⟩
structure AscM (f : Int → Option Nat) (ts : List Int) : Prop where
 asc : ts.Pairwise (· < ·)
 mem : ∀ x, x ∈ ts ↔ (f x).isSome = true
theorem ascM_of {ss : List Int} (h : ss.Nodup) : (ss.mergeSort (fun x y => decide (x ≤ y))).Pairwise (· < ·) := by
 have h1 : (ss.mergeSort (fun x y => decide (x ≤ y))).Pairwise (fun x y => decide (x ≤ y) = true) :=
  List.pairwise_mergeSort (fun a b c h1 h2 => by have := of_decide_eq_true h1; have := of_decide_eq_true h2; exact decide_eq_true (by omega)) (fun a b => by
   by_cases hab : a ≤ b
   ·simp [hab]
   ·have : b ≤ a := by omega
    simp [this]) ss
 have h2 : (ss.mergeSort (fun x y => decide (x ≤ y))).Nodup := (List.mergeSort_perm ss _).nodup_iff.2 h
 have h3 := List.Pairwise.and h1 h2
 exact h3.imp (fun {a b} h => by have := of_decide_eq_true h.1; have := h.2; omega)
theorem below_grownU {w w' : World} (h : Go.RowKit.Below w.heap.size w w') : w.grownBy w' none := ⟨h.os, h.tape, h.output, h.size, fun b hb _ => h.block b hb⟩
theorem mkeys_any (mb : Option Nat) (w : World) :
  Calls Tryd.prog 45 #[.map mb] w fun e w' => e = .returned (.func (.func 69) #[] #[.pointer (some ⟨w.heap.size, 0, none⟩)]) ∧ w' = w.alloc (.cells #[.map mb] 95) :=
 callsIn_wide.1 (AnyZI.keys_in keysU Fence.wide 5 trivial rfl mb w)
set_option maxHeartbeats 1600000 in
theorem mkz_any (f : Int → Option Nat) (b n : Nat) (hn : n ≤ 1000000) (Bk : Nat) (w : World) (hk : w.cell? ⟨Bk, 0, none⟩ = some (.map (some b))) (hBk : Bk < w.heap.size) (hm : OMu w b n f) :
  Calls Tryd.prog 44 #[.func (.func 69) #[] #[.pointer (some ⟨Bk, 0, none⟩)]] w fun e w' =>
   ∃ v ts, e = .returned v ∧ AscM f ts ∧ w'.ownsRow w.heap.size 3 1 v ts.length (ts.map tv) ∧ w.grownBy w' none := by
 obtain ⟨D, hown, hmf⟩ := hm
 have hsz := hown.size_le
 have hseq := AnyZI.keys_gives (ρ := keysU_ren) { keysU with } Fence.wide 2 trivial rfl (by omega) Bk b n D w hBk hk hown
 have cS := callsIn_wide.1 (AnyZI.sorted_in sortedU Fence.wide 5 trivial trivial trivial trivial rfl (by omega) (sortsU _) (enters_of Tryd.func68 (by kernel_rfl) rfl) 69 #[.pointer (some ⟨Bk, 0, none⟩)] trivial (enters_of Tryd.func69 (by kernel_rfl) rfl) _ (Maps.size D) (by unfold maxLen; omega) (by omega) w hseq)
 change Calls Tryd.prog 44 _ _ _ at cS
 refine cS.mono ?_
 rintro e w1 ⟨v, ss, rfl, hS, hrow, hnil, hb⟩
 obtain ⟨hnd, hmem⟩ := OMu.keys hown hmf hS
 refine ⟨v, ss.mergeSort (fun x y => decide (x ≤ y)), rfl, ⟨ascM_of hnd, fun x => ?_⟩, ?_, below_grownU hb⟩
 ·rw [(List.mergeSort_perm ss _).mem_iff]
  exact hmem x
 ·rw [List.length_mergeSort]
  exact hrow
end Go.Proofs.YtpogblengagpaaaDoor

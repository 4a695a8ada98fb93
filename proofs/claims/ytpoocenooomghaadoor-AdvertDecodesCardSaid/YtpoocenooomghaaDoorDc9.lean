/- Parts of the proof, packed: AdTake, PkValid, PkRes, PkRead, PkMis, PkSize, PkRefs, PkRefs2, PkWrite, PkAlign, PkEncode, IoCheckR, IoSliceR, IoJoinR, PkText, PkBox, Ref, Draw, PkTape, PkTapeN, PkList. -/
import Derived.Test.YtpoocenooomghaaDoorDc8
import Derived.Test.YtpoocenooomghaaDoorDc7
import Derived.Deep.RegionHeld3
import Derived.Deep.CutRange
import Derived.Lib.BufferRead
import Derived.Test.YtpoocenooomghaaDoorDc2
import Derived.Test.YtpoocenooomghaaDoorDc1
import Derived.Test.YtpoocenooomghaaDoorDc3
/- advert: the reader takes a field. -/
namespace Go.Proofs.YtpoocenooomghaaDoor
open Go.RowKit Bs
/-- The reader's box. -/
structure RX (w : World) (S : Nat) (l : List Nat) (a : Nat) (sh : Bool) (p : Option Addr) (c : Nat) : Prop where
  bx : w.heap[S]? = some (.cells #[.slice p l.length c, .int .i64 (8 * (l.length : Int)), .int .i64 (a : Int), .bool sh] 82 (0, 0))
  rd : Rd w (· ≠ S) (.slice p l.length c) (l.map nv)
set_option maxRecDepth 100000 in
theorem RX.keep {w w' : World} {S : Nat} {l : List Nat} {a : Nat} {sh : Bool} {p : Option Addr} {c : Nat} (h : RX w S l a sh p c) (g : w.grownBy w' none) : RX w' S l a sh p c := ⟨kept_row h.bx g (by simp), h.rd.grown g (fun _ _ => by simp)⟩
/-- No field lies there. -/
def tkS (l : List Nat) (a : Nat) (sh : Bool) (k : Nat) : Bool := sh || decide (8 * l.length < a + k)
def tkA (l : List Nat) (a : Nat) (sh : Bool) (k : Nat) : Nat := if tkS l a sh k = true then a else a + k
def tkV (l : List Nat) (a : Nat) (sh : Bool) (k : Nat) : Nat := if tkS l a sh k = true then 0 else num (bt l) a k
set_option maxRecDepth 100000 in
theorem store_at2 {w : World} {b : Nat} {t : TypeId} {x0 x1 x2 x3 : Value} (u : Value) (h : w.heap[b]? = some (.cells #[x0, x1, x2, x3] t (0, 0))) :
    (w.setCell ⟨b, 2, none⟩ u).heap[b]? = some (.cells #[x0, x1, u, x3] t (0, 0)) ∧ w.grownBy (w.setCell ⟨b, 2, none⟩ u) (some b) := by
  refine ⟨?_, grown_setCell w ⟨b, 2, none⟩ u⟩
  have h1 := heap_setCell_same w b 2 _ _ u h
  rw [h1]; rfl
set_option maxRecDepth 100000 in
theorem store_at3 {w : World} {b : Nat} {t : TypeId} {x0 x1 x2 x3 : Value} (u : Value) (h : w.heap[b]? = some (.cells #[x0, x1, x2, x3] t (0, 0))) :
    (w.setCell ⟨b, 3, none⟩ u).heap[b]? = some (.cells #[x0, x1, x2, u] t (0, 0)) ∧ w.grownBy (w.setCell ⟨b, 3, none⟩ u) (some b) := by
  refine ⟨?_, grown_setCell w ⟨b, 3, none⟩ u⟩
  have h1 := heap_setCell_same w b 3 _ _ u h
  rw [h1]; rfl
set_option maxRecDepth 100000 in
theorem row4 {w : World} {b : Nat} {t : TypeId} {x0 x1 x2 x3 : Value} (h : w.heap[b]? = some (.cells #[x0, x1, x2, x3] t (0, 0))) :
    (w.cell? ⟨b, 0, none⟩ = some x0 ∧ w.cell? ⟨b, 1, none⟩ = some x1 ∧ w.cell? ⟨b, 2, none⟩ = some x2 ∧ w.cell? ⟨b, 3, none⟩ = some x3) ∧ w.frozen? ⟨b, 2, none⟩ = false ∧ w.frozen? ⟨b, 3, none⟩ = false := by
  refine ⟨⟨?_, ?_, ?_, ?_⟩, frozen_of_row _ _ _ _ _ h, frozen_of_row _ _ _ _ _ h⟩ <;> (rw [cell_of_row _ _ _ _ _ _ h]; rfl)
set_option maxRecDepth 100000 in
theorem keep3A {w0 w1 w2 : World} {a1 a2 a3 : Addr} {v1 v2 v3 : Value} (h : Hid (w0.grownBy w1 none)) (k : w1.grownBy w2 none) (c1 : w0.cell? a1 = some v1) (c2 : w0.cell? a2 = some v2) (c3 : w0.cell? a3 = some v3) :
    w2.cell? a1 = some v1 ∧ w2.cell? a2 = some v2 ∧ w2.cell? a3 = some v3 ∧ Hid (w0.grownBy w2 none) :=
  have g := grown_trans h.out k
  ⟨g.cell c1 (by simp), g.cell c2 (by simp), g.cell c3 (by simp), Lib.hid g⟩
set_option maxRecDepth 100000 in
theorem hid_drewA (w : World) : Hid (w.grownBy w.drew none) := Lib.hid (grown_drew (grown_refl _ _))
set_option maxRecDepth 100000 in
theorem atk_at {w0 w : World} {S : Nat} {l : List Nat} {a k : Nat} {sh : Bool} {p : Option Addr} {c : Nat} (h : Hid (w0.grownBy w none)) (HX : Hid (RX w0 S l a sh p c)) (hl : By l) (ha : a ≤ 8192) :
    Calls Tryd.prog 90 #[.agg #[.slice p l.length c, .int .i64 (8 * (l.length : Int))], .int .i64 (a : Int), .int .i64 (k : Int)] w fun e w' => TakePost l (8 * (l.length : Int)) (a : Int) (k : Int) w e w' :=
  takep_any l (8 * (l.length : Int)) (a : Int) (k : Int) _ p c hl (by unfold I64; omega) w (HX.out.keep h.out).rd
set_option maxRecDepth 100000 in
set_option maxHeartbeats 3200000 in
theorem atake_any (l : List Nat) (hl : By l) (h1 : l.length ≤ 1024) (S a k : Nat) (sh : Bool) (p : Option Addr) (c : Nat) (w : World) (h : RX w S l a sh p c) (ha : a ≤ 8192) (hk : k ≤ 20) :
    Calls Tryd.prog 52 #[.pointer (some ⟨S, 0, none⟩), .int .i64 (k : Int)] w fun e w' => e = .returned (.int .i64 ((tkV l a sh k : Nat) : Int)) ∧ RX w' S l (tkA l a sh k) (tkS l a sh k) p c ∧ w.grownBy w' (some S) := by
  have HX := Lib.hid h
  obtain ⟨⟨c0, c1, c2, c3⟩, f2, f3⟩ := row4 h.bx
  have hx : num (bt l) a k < 1048576 := Nat.lt_of_lt_of_le (num_lt _ _ _) (Nat.pow_le_pow_right (n := 2) (by decide) hk)
  have hT : takeV l (8 * (l.length : Int)) (a : Int) (k : Int) = if 8 * l.length < a + k then (0, 20) else (num (bt l) a k, 0) := by
    have hv := vs_whole (l := l) (by omega)
    rw [Int.natCast_mul] at hv
    change vs l (8 * (l.length : Int)) = true at hv
    split
    · exact takeV_short hv (by unfold vw; simp; omega) (by omega) (by omega)
    · rw [takeV_ok hv (by unfold vw; simp; omega) (by omega) (by omega), Int.toNat_natCast, Int.toNat_natCast]
  obtain ⟨V, E, hTE⟩ : ∃ V E, takeV l (8 * (l.length : Int)) (a : Int) (k : Int) = (V, E) := ⟨_, _, rfl⟩
  have HC : Hid ((8 * l.length < a + k ∧ V = 0 ∧ E = 20) ∨ (¬ 8 * l.length < a + k ∧ num (bt l) a k = V ∧ E = 0)) := Lib.hid (by
    rw [hTE] at hT
    by_cases hlt : 8 * l.length < a + k
    · rw [if_pos hlt] at hT
      exact .inl ⟨hlt, (Prod.mk.inj hT).1, (Prod.mk.inj hT).2⟩
    · rw [if_neg hlt] at hT
      exact .inr ⟨hlt, (Prod.mk.inj hT).1.symm, (Prod.mk.inj hT).2⟩)
  have HV : Hid (V < 1048576) := Lib.hid (by rcases HC.out with ⟨-, h, -⟩ | ⟨-, h, -⟩ <;> omega)
  have HT := Lib.hid hTE
  clear h hT hTE hx
  go_enter Tryd.func52, Tryd.ntmps52
  go_wp2_with fail
  go_region_held3 (fun w' => w'.cell? ⟨S, 0, none⟩ = some (.slice p l.length c) ∧ w'.cell? ⟨S, 1, none⟩ = some (.int .i64 (8 * (l.length : Int))) ∧ w'.cell? ⟨S, 2, none⟩ = some (.int .i64 (a : Int)) ∧ Hid (w.grownBy w' none))
    (first | exact ⟨c0, c1, c2, hid_drewA w⟩ | (go_split_ands; refine keep3A (w0 := w) ?_ hap c0 c1 c2; assumption))
    ((go_at_call 90; go_split_ands; refine (atk_at (w0 := w) (k := k) ?_ HX hl ha).mono ?_; assumption; intro e w1 h; unfold TakePost at h; rw [HT.out] at h; obtain ⟨rfl, hap⟩ := h))
  go_split_ands
  have hg : Hid (w.grownBy w1 none) := by assumption
  have H1 := Lib.hid (And.intro (HX.out.keep hg.out) hg.out)
  clear hap c0 c1 c2 c3 f2 f3 hg HX HT
  obtain ⟨⟨c0, c1, c2, c3⟩, f2, f3⟩ := row4 H1.out.1.bx
  have hx := HV.out
  rcases HC.out with ⟨hlt, rfl, rfl⟩ | ⟨hlt, hV, rfl⟩
  · clear hx HC HV
    have hs : tkS l a sh k = true := by unfold tkS; rw [decide_eq_true hlt, Bool.or_true]
    have HS := Lib.hid hs
    obtain ⟨t1, t2⟩ := store_at3 (.bool true) H1.out.1.bx
    have HO : Hid (RX _ S l a true p c ∧ w.grownBy _ (some S)) := Lib.hid ⟨⟨t1, H1.out.1.rd.grown t2 (fun b hb e => hb (Option.some.inj e))⟩, grown_trans (grown_none H1.out.2 _) t2⟩
    clear t1 t2 hs hlt
    cases sh with
    | true =>
      go_wp2_with fail
      go_ret
      refine ⟨by unfold tkV; rw [if_pos HS.out]; rfl, ?_⟩
      rw [show tkA l a true k = a by unfold tkA; rw [if_pos HS.out], HS.out]
      exact HO.out
    | false =>
      go_wp2_with fail
      go_ret
      refine ⟨by unfold tkV; rw [if_pos HS.out]; rfl, ?_⟩
      rw [show tkA l a false k = a by unfold tkA; rw [if_pos HS.out], HS.out]
      exact HO.out
  · have HV := Lib.hid hV
    clear hV HC
    cases sh with
    | true =>
      have hs : tkS l a true k = true := rfl
      have HS := Lib.hid hs
      obtain ⟨t1, t2⟩ := store_at3 (.bool true) H1.out.1.bx
      have HO : Hid (RX _ S l a true p c ∧ w.grownBy _ (some S)) := Lib.hid ⟨⟨t1, H1.out.1.rd.grown t2 (fun b hb e => hb (Option.some.inj e))⟩, grown_trans (grown_none H1.out.2 _) t2⟩
      clear t1 t2 hs hlt
      go_wp2_with fail
      go_ret
      refine ⟨by unfold tkV; rw [if_pos HS.out]; rfl, ?_⟩
      rw [show tkA l a true k = a by unfold tkA; rw [if_pos HS.out], HS.out]
      exact HO.out
    | false =>
      have hs : tkS l a false k = false := by unfold tkS; rw [decide_eq_false hlt]; rfl
      have HS := Lib.hid hs
      obtain ⟨t1, t2⟩ := store_at2 (.int .i64 ((a : Int) + (k : Int))) H1.out.1.bx
      have HO : Hid (RX _ S l (a + k) false p c ∧ w.grownBy _ (some S)) := Lib.hid ⟨⟨by rw [Int.natCast_add]; exact t1, H1.out.1.rd.grown t2 (fun b hb e => hb (Option.some.inj e))⟩, grown_trans (grown_none H1.out.2 _) t2⟩
      clear t1 t2 hs hlt
      go_wp2_with fail
      go_ret
      refine ⟨by unfold tkV; rw [if_neg (by rw [HS.out]; decide), HV.out]; rfl, ?_⟩
      rw [show tkA l a false k = a + k by unfold tkA; rw [if_neg (by rw [HS.out]; decide)], HS.out]
      exact HO.out
end Go.Proofs.YtpoocenooomghaaDoor

/- packet: Valid. -/
namespace Go.Proofs.YtpoocenooomghaaDoor
open Go.RowKit Bs
def vrows (P : Pk) : List (Int × Int × Int) := [(P.mode, 1, 3), (P.sub, 0, 7), (P.set, 0, 31), (P.ttl, 0, 63), (P.ent, 0, 1023), (P.ing, 0, 256), (P.pro, 0, 7), ((P.pay.size : Int), 0, 64)]
def vcells (P : Pk) : Array Value := #[.int .i64 P.mode, .int .i64 1, .int .i64 3, .int .i64 P.sub, .int .i64 0, .int .i64 7, .int .i64 P.set, .int .i64 0, .int .i64 31, .int .i64 P.ttl, .int .i64 0, .int .i64 63,
  .int .i64 P.ent, .int .i64 0, .int .i64 1023, .int .i64 P.ing, .int .i64 0, .int .i64 256, .int .i64 P.pro, .int .i64 0, .int .i64 7, .int .i64 (P.pay.size : Int), .int .i64 0, .int .i64 64]
set_option maxRecDepth 100000 in
theorem vrow_at (P : Pk) (k : Nat) (hk : k < 8) : ∃ x lo hi : Int, (vcells P)[k * 3]? = some (.int .i64 x) ∧ (vcells P)[k * 3 + 1]? = some (.int .i64 lo) ∧ (vcells P)[k * 3 + 2]? = some (.int .i64 hi) ∧ (vrows P)[k]? = some (x, lo, hi) := by
  rcases (show k = 0 ∨ k = 1 ∨ k = 2 ∨ k = 3 ∨ k = 4 ∨ k = 5 ∨ k = 6 ∨ k = 7 by omega) with rfl | rfl | rfl | rfl | rfl | rfl | rfl | rfl <;> exact ⟨_, _, _, rfl, rfl, rfl, rfl⟩
/-- The first k rows are kept. -/
def Kept (P : Pk) (k : Nat) : Prop := ∀ j x lo hi, j < k → (vrows P)[j]? = some (x, lo, hi) → lo ≤ x ∧ x ≤ hi
set_option maxRecDepth 100000 in
theorem vpk_kept {P : Pk} (h : Kept P 8) : vpk P = vb P.bits P.len := by
  have h0 := h 0 _ _ _ (by decide) rfl
  have h1 := h 1 _ _ _ (by decide) rfl
  have h2 := h 2 _ _ _ (by decide) rfl
  have h3 := h 3 _ _ _ (by decide) rfl
  have h4 := h 4 _ _ _ (by decide) rfl
  have h5 := h 5 _ _ _ (by decide) rfl
  have h6 := h 6 _ _ _ (by decide) rfl
  have h7 := h 7 _ _ _ (by decide) rfl
  unfold vpk
  by_cases hb : vb P.bits P.len = true
  · rw [hb]; exact decide_eq_true ⟨h0, h1, h2, h3, h4, h5, h6, by omega, rfl⟩
  · rw [Bool.not_eq_true] at hb
    rw [hb]; exact decide_eq_false fun h => by cases h.2.2.2.2.2.2.2.2
set_option maxRecDepth 100000 in
theorem vpk_row {P : Pk} (h : vpk P = true) {k : Nat} {x lo hi : Int} (hk : k < 8) (hr : (vrows P)[k]? = some (x, lo, hi)) : lo ≤ x ∧ x ≤ hi := by
  obtain ⟨h0, h1, h2, h3, h4, h5, h6, h7, _⟩ := vpk_parts h
  rcases (show k = 0 ∨ k = 1 ∨ k = 2 ∨ k = 3 ∨ k = 4 ∨ k = 5 ∨ k = 6 ∨ k = 7 by omega) with rfl | rfl | rfl | rfl | rfl | rfl | rfl | rfl <;> cases hr
  · exact h0
  · exact h1
  · exact h2
  · exact h3
  · exact h4
  · exact h5
  · exact h6
  · exact ⟨by omega, by omega⟩
set_option maxRecDepth 100000 in
theorem vpk_not {P : Pk} {k : Nat} {x lo hi : Int} (hk : k < 8) (hr : (vrows P)[k]? = some (x, lo, hi)) (hn : ¬ (lo ≤ x ∧ x ≤ hi)) : vpk P = false := by
  cases h : vpk P with
  | false => rfl
  | true => exact absurd (vpk_row h hk hr) hn
end Go.Proofs.YtpoocenooomghaaDoor

/- packet: a header's value comes back. -/
namespace Go.Proofs.YtpoocenooomghaaDoor
open Go.RowKit Bs
set_option maxRecDepth 100000 in
theorem three_new (w : World) (A B C : Obj) : (((w.alloc A).alloc B).alloc C).heap[w.heap.size]? = some A ∧ (((w.alloc A).alloc B).alloc C).heap[w.heap.size + 1]? = some B ∧ (((w.alloc A).alloc B).alloc C).heap[w.heap.size + 2]? = some C ∧ w.grownBy (((w.alloc A).alloc B).alloc C) none ∧ (((w.alloc A).alloc B).alloc C).heap.size = w.heap.size + 3 := by
  have g1 := World.grownBy_alloc w A none
  have g2 := World.grownBy_alloc (w.alloc A) B none
  have g3 := World.grownBy_alloc ((w.alloc A).alloc B) C none
  have s1 : (w.alloc A).heap.size = w.heap.size + 1 := by simp
  have s2 : ((w.alloc A).alloc B).heap.size = w.heap.size + 2 := by simp
  have h1 := heap_alloc_new w A
  have h2 := heap_alloc_new (w.alloc A) B
  have h3 := heap_alloc_new ((w.alloc A).alloc B) C
  rw [s1] at h2
  rw [s2] at h3
  exact ⟨kept_row (kept_row h1 g2 (by simp)) g3 (by simp), kept_row h2 g3 (by simp), h3, grown_trans g1 (grown_trans g2 g3), by simp⟩
set_option maxRecDepth 100000 in
theorem hput_grown (w : World) (h : Nat) (v0 v1 v2 v3 v4 v5 v6 v7 v8 v9 v10 v11 v12 : Value) : w.grownBy (((((((((((((w.setCell ⟨h, 0, none⟩ v0).setCell ⟨h, 1, none⟩ v1).setCell ⟨h, 2, none⟩ v2).setCell ⟨h, 3, none⟩ v3).setCell ⟨h, 4, none⟩ v4).setCell ⟨h, 5, none⟩ v5).setCell ⟨h, 6, none⟩ v6).setCell ⟨h, 7, none⟩ v7).setCell ⟨h, 8, none⟩ v8).setCell ⟨h, 9, none⟩ v9).setCell ⟨h, 10, none⟩ v10).setCell ⟨h, 11, none⟩ v11).setCell ⟨h, 12, none⟩ v12) (some h) := by
  exact grown_trans (grown_trans (grown_trans (grown_trans (grown_trans (grown_trans (grown_trans (grown_trans (grown_trans (grown_trans (grown_trans (grown_trans (grown_setCell _ ⟨h, 0, none⟩ _) (grown_setCell _ ⟨h, 1, none⟩ _)) (grown_setCell _ ⟨h, 2, none⟩ _)) (grown_setCell _ ⟨h, 3, none⟩ _)) (grown_setCell _ ⟨h, 4, none⟩ _)) (grown_setCell _ ⟨h, 5, none⟩ _)) (grown_setCell _ ⟨h, 6, none⟩ _)) (grown_setCell _ ⟨h, 7, none⟩ _)) (grown_setCell _ ⟨h, 8, none⟩ _)) (grown_setCell _ ⟨h, 9, none⟩ _)) (grown_setCell _ ⟨h, 10, none⟩ _)) (grown_setCell _ ⟨h, 11, none⟩ _)) (grown_setCell _ ⟨h, 12, none⟩ _)
/-- A header's value. -/
def hval (V : Nat → Nat) (n : Int) : Value := .agg (hdc V 10 n)
end Go.Proofs.YtpoocenooomghaaDoor

/- packet: the header of a packet is read. -/
namespace Go.Proofs.YtpoocenooomghaaDoor
open Go.RowKit Bs
end Go.Proofs.YtpoocenooomghaaDoor

/- packet: sizes; the mistakes of a header. -/
namespace Go.Proofs.YtpoocenooomghaaDoor
open Go.RowKit Bs
/-- The first mistake of a header. -/
def misV (V : Nat → Nat) : Int := if V 0 ≠ 2 then 22 else if V 1 = 0 then 1 else if 256 < V 7 ∨ 64 < V 9 then 2 else 0
end Go.Proofs.YtpoocenooomghaaDoor

/- packet: Size and Plane. -/
namespace Go.Proofs.YtpoocenooomghaaDoor
open Go.RowKit Bs
def sizeV (P : Pk) : Nat := if vpk P = true then (49 + P.len.toNat + 8 * P.pay.size + 16 + 7) / 8 else 0
def planeV (P : Pk) : Int := if vpk P = true then P.ent % 8 else 0
set_option maxRecDepth 100000 in
theorem vpk_len {P : Pk} (h : vpk P = true) : P.len = ((P.len.toNat : Nat) : Int) ∧ P.len.toNat ≤ 64 := by
  rcases vl_cases (vb_vl (vpk_parts h).2.2.2.2.2.2.2.2) with h | h | h | h <;> rw [h] <;> decide
end Go.Proofs.YtpoocenooomghaaDoor

/- packet: the reference's Valid, Size, Plane. -/
namespace Go.Proofs.YtpoocenooomghaaDoor
open Go.RowKit Bs
def ins (n m : Int) : Bool := decide (0 ≤ n ∧ n ≤ m)
set_option maxRecDepth 100000 in
theorem vpk_iff (P : Pk) : vpk P = (decide (1 ≤ P.mode) && (decide (P.mode ≤ 3) && (ins P.sub 7 && (ins P.set 31 && (vb P.bits P.len && (ins P.ttl 63 && (ins P.ent 1023 && (ins P.ing 256 && (ins P.pro 7 && decide (P.pay.size ≤ 64)))))))))) := by
  unfold vpk ins
  rw [Bool.eq_iff_iff]
  simp only [decide_eq_true_eq, Bool.and_eq_true]
  constructor
  · rintro ⟨⟨h1, h2⟩, h3, h4, h5, h6, h7, h8, h9, h10⟩
    exact ⟨h1, h2, h3, h4, h10, h5, h6, h7, h8, h9⟩
  · rintro ⟨h1, h2, h3, h4, h10, h5, h6, h7, h8, h9⟩
    exact ⟨⟨h1, h2⟩, h3, h4, h5, h6, h7, h8, h9, h10⟩
end Go.Proofs.YtpoocenooomghaaDoor

/- packet: the reference's Size and Plane. -/
namespace Go.Proofs.YtpoocenooomghaaDoor
open Go.RowKit Bs
end Go.Proofs.YtpoocenooomghaaDoor

/- packet: the header of a packet is written. -/
namespace Go.Proofs.YtpoocenooomghaaDoor
open Go.RowKit Bs
end Go.Proofs.YtpoocenooomghaaDoor

/- Align of the program: the result lies in a block of its own. -/
namespace Go.Proofs.YtpoocenooomghaaDoor
open Go.RowKit Bs
set_option maxRecDepth 100000 in
set_option maxHeartbeats 3200000 in
theorem alignp_own (l : List Nat) (n : Int) (hv : vs l n = true) (q : Nat → Prop) (p : Option Addr) (c : Nat) (hl : By l) (w : World) (hR : Rd w q (.slice p l.length c) (l.map nv)) :
    Calls Tryd.prog 47 #[.agg #[.slice p l.length c, .int .i64 n]] w fun e w' =>
      ∃ g, e = .returned (.tuple #[.agg #[.slice (some ⟨g, 0, none⟩) l.length l.length, .int .i64 ((8 * l.length : Nat) : Int)], .int .i64 0]) ∧ Blk w' g l ∧ w.heap.size ≤ g ∧ w.grownBy w' none := by
  obtain ⟨k1, k2, k3, k4⟩ := two_boxes w #[.slice p l.length c, .int .i64 n] #[.slice none 0 0, .int .i64 0] 47 47
  have H0 := Lib.hid (And.intro k1 (And.intro k2 (And.intro k3 k4)))
  have hR1 := hR.keep k3
  clear k1 k2 k3 k4 hR
  go_enter Tryd.func47, Tryd.ntmps47
  go_wp2_with fail
  generalize (w.alloc (.cells #[.slice p l.length c, .int .i64 n] 47)).alloc (.cells #[.slice none 0 0, .int .i64 0] 47) = w1 at *
  refine (validp_any l n q p c hl _ hR1).mono ?_
  rintro e w2 ⟨rfl, hg⟩
  have hrow := kept_row H0.out.1 hg (by simp)
  have hres := kept_row H0.out.2.1 hg (by simp)
  obtain ⟨c0, c1⟩ := row_cells hrow
  obtain ⟨r0, r1⟩ := row_cells hres
  have g0 := frozen_of_row _ _ 0 _ _ hres
  have g1 := frozen_of_row _ _ 1 _ _ hres
  have HG := Lib.hid (grown_trans H0.out.2.2.1 hg)
  have HRES := Lib.hid hres
  have HROW := Lib.hid hrow
  have HSZ : Hid (w.heap.size + 2 ≤ w2.heap.size) := Lib.hid (by rw [← H0.out.2.2.2]; exact hg.size)
  have hR2 := hR1.keep hg
  clear hrow hres hg hR1 H0
  obtain ⟨N, rfl⟩ := vs_nat hv
  obtain ⟨hN, hlen⟩ := vs_bits hv
  rw [hv]
  have hB := bytesFor_any N (by omega) w2
  rw [← hlen] at hB
  have H2 := Lib.hid hB
  have hl2 : l.length ≤ 1024 := by omega
  have hTi : 8 * (l.length : Int) = ((8 * l.length : Nat) : Int) := by omega
  have C := zeros_any (8 * l.length) (by omega) w2
  unfold ZerosPost at C
  rw [show (8 * l.length + 7) / 8 = l.length by omega] at C
  obtain ⟨T, hT⟩ : ∃ T : Nat, T = 8 * l.length := ⟨_, rfl⟩
  rw [← hT] at hTi C
  have H1 := Lib.hid C
  have HT := Lib.hid hT
  have hT8 : T ≤ 8192 := by omega
  clear hv hlen C hB hT
  go_wp2_with (first | (go_at_call 88; refine H2.out.mono ?_; rintro e w' ⟨rfl, rfl⟩))
  refine H1.out.mono ?_
  rintro e w3 ⟨g, rfl, hgg, hB3, hg3⟩
  have hrow := kept_row HROW.out hg3 (by simp)
  have hres := kept_row HRES.out hg3 (by simp)
  clear c0 c1 r0 r1 g0 g1
  obtain ⟨c0, c1⟩ := row_cells hrow
  have M4 := Lib.hid (made_of (W := w) (M := l.length) (T := (T : Int)) hB3 (by have := HG.out.size; omega) (grown_trans HG.out hg3))
  have HR4 := Lib.hid ((hR2.keep hg3).keep (World.grownBy_alloc w3 (.cells #[.slice (some ⟨g, 0, none⟩) l.length l.length, .int .i64 (T : Int)] 47) none))
  have n1 : ¬ w.heap.size = w3.heap.size := by have := HSZ.out; have := hg3.size; omega
  have n2 : w.heap.size ≠ w3.heap.size := n1
  have n3 : w.heap.size < w3.heap.size := by have := HSZ.out; have := hg3.size; omega
  have hgw : w.heap.size + 2 ≤ g := by have := HSZ.out; omega
  have HRES3 := Lib.hid (kept_row hres (World.grownBy_alloc w3 (.cells #[.slice (some ⟨g, 0, none⟩) l.length l.length, .int .i64 (T : Int)] 47) none) (by simp))
  clear hB3 hrow hres H1 hR2
  go_wp2_with (refine wpList_copy_into rfl _ _ rfl g l.length l.length rfl p l.length c rfl (List.replicate l.length 0) M4.out.blk (by simp) l rfl q HR4.out (Nat.le_refl _) ?_; intro w5 hB5 hg5; rw [List.drop_of_length_le (by simp), List.append_nil] at hB5; have M5 := Lib.hid (M4.out.next hg5 hB5); have HR5 := Lib.hid (kept_row HRES3.out hg5 (by intro e; have := Option.some.inj e; omega)); obtain ⟨e0, e1⟩ := row_cells M5.out.row; obtain ⟨r0, r1⟩ := row_cells HR5.out; have g0 := frozen_of_row _ _ 0 _ _ HR5.out; have g1 := frozen_of_row _ _ 1 _ _ HR5.out; clear hB5 hg5)
  refine bodyPost_ret (res_stream_err rfl _ _ (w.heap.size + 1) _ _ rfl (store2 HR5.out)) rfl ?_
  have gr := grown_store2 w5 (w.heap.size + 1) (.slice (some ⟨g, 0, none⟩) l.length l.length) (.int .i64 (T : Int))
  exact ⟨g, by rw [← HT.out]; rfl, M5.out.blk.grown gr (by intro e; have := Option.some.inj e; omega), M5.out.lo, grown_new M5.out.gr gr (by omega)⟩
end Go.Proofs.YtpoocenooomghaaDoor

/- packet: Encode. -/
namespace Go.Proofs.YtpoocenooomghaaDoor
open Go.RowKit Bs
set_option maxRecDepth 100000 in
theorem mask_bit {b n i : Nat} (hb : b < 2 ^ 64) (hi : n ≤ i) (hbi : b.testBit i = true) (h : b &&& ((2 ^ (64 - n) - 1) * 2 ^ n) = 0) : False := by
  have hi2 : i < 64 := by
    refine Nat.lt_of_not_le fun h64 => ?_
    rw [Nat.testBit_lt_two_pow (Nat.lt_of_lt_of_le hb (Nat.pow_le_pow_right (by decide) h64))] at hbi
    cases hbi
  have e := congrArg (fun x : Nat => x.testBit i) h
  simp only [Nat.testBit_and, hbi, Nat.zero_testBit, Bool.true_and, Nat.testBit_mul_two_pow, Nat.testBit_two_pow_sub_one] at e
  simp at e
  omega
set_option maxRecDepth 100000 in
theorem vb_lt {b : Nat} {n : Int} (h : vb b n = true) (hb : U64 b) : b < 2 ^ n.toNat := by
  refine Nat.lt_of_not_le fun hge => ?_
  obtain ⟨i, hi, hbi⟩ := Nat.exists_ge_and_testBit_of_ge_two_pow hge
  have hl := vb_vl h
  unfold vb at h
  have hm := (Bool.and_eq_true _ _ ▸ h).2
  have hm := eq_of_beq hm
  rcases vl_cases hl with rfl | rfl | rfl | rfl
  · exact mask_bit hb hi hbi (by rw [full_val.1] at hm; exact hm)
  · exact mask_bit hb hi hbi (by rw [full_val.2.1] at hm; exact hm)
  · exact mask_bit hb hi hbi (by rw [full_val.2.2.1] at hm; exact hm)
  · exact mask_bit hb hi hbi (by rw [full_val.2.2.2] at hm; exact hm)
section
variable {W w w1 : World} {P : Pk} {S n : Nat} {B B2 : List Bool} {p : Option Addr} {c : Nat}
end
/-- What Encode returns: the bytes of a valid packet lie in a block of their own. -/
def EncPost (P : Pk) (w : World) (e : Ending) (w' : World) : Prop :=
  (vpk P = true ∧ ∃ g, e = .returned (.tuple #[.slice (some ⟨g, 0, none⟩) (enc P).length (enc P).length, .int .i64 0]) ∧ Blk w' g (enc P) ∧ w.heap.size ≤ g ∧ w.grownBy w' none) ∨
  (vpk P = false ∧ e = .returned (.tuple #[.slice none 0 0, .int .i64 1]) ∧ w.grownBy w' none)
end Go.Proofs.YtpoocenooomghaaDoor

/- The reference's check number; Same. -/
namespace Go.Proofs.YtpoocenooomghaaDoor
open Go.RowKit Bs
set_option maxRecDepth 100000 in
theorem diff64 {r : Nat} {b : Bool} (hr : r < 65536) : ((r : Int) / 32768 != ((b.toNat : Nat) : Int)) = (r.testBit 15 != b) := by
  have e1 : ((r : Int) / 32768) = (((r.testBit 15).toNat : Nat) : Int) := by rw [← bit15 hr]; omega
  rw [e1, ne_bits]
set_option maxRecDepth 100000 in
theorem shift64 {r : Nat} (hr : r < 65536) : bits .and .u64 ((r : Int) * 2) 65535 = ((2 * r % 65536 : Nat) : Int) := by
  rw [show ((r : Int) * 2) = ((2 * r : Nat) : Int) by omega, show (65535 : Int) = ((2 ^ 16 - 1 : Nat) : Int) from rfl, andU _ _ (u64_mk (by omega)) (u64_mk (by decide)), Nat.and_two_pow_sub_one_eq_mod]
set_option maxRecDepth 100000 in
theorem xor64 {r : Nat} (hr : r < 65536) : bits .xor .u64 (bits .and .u64 ((r : Int) * 2) 65535) 4129 = (((2 * r % 65536) ^^^ 4129 : Nat) : Int) := by
  rw [shift64 hr, show (4129 : Int) = ((4129 : Nat) : Int) from rfl, u64_xor_nat _ _ (by omega) (by decide)]
set_option maxRecDepth 100000 in
set_option maxHeartbeats 3200000 in
theorem checkr_any (l : List Nat) (n : Int) (q : Nat → Prop) (p : Option Addr) (c : Nat) (hl : By l) (w : World) (hq : ∀ b, q b → b < w.heap.size) (hR : Rd w q (.slice p l.length c) (l.map nv)) :
    Calls Tryd.prog 26 #[.agg #[.slice p l.length c, .int .i64 n]] w fun e w' => CheckPost l n w e w' := by
  obtain ⟨k1, k2⟩ := one_box w #[.slice p l.length c, .int .i64 n] 47
  have H0 := Lib.hid (And.intro k1 k2)
  have hR1 := hR.keep k2
  have hq1 : ∀ b, q b → b < (w.alloc (.cells #[.slice p l.length c, .int .i64 n] 47)).heap.size := fun b hb => Nat.lt_of_lt_of_le (hq b hb) k2.size
  clear k1 k2 hR
  go_enter Tryd.func26, Tryd.ntmps26
  go_wp2_with fail
  generalize w.alloc (.cells #[.slice p l.length c, .int .i64 n] 47) = w1 at *
  refine (validr_any l n q p c hl _ hq1 hR1).mono ?_
  rintro e w2 ⟨rfl, hg⟩
  have hrow := kept_row H0.out.1 hg (by simp)
  obtain ⟨c0, c1⟩ := row_cells hrow
  have HG := Lib.hid (grown_trans H0.out.2 hg)
  have hR2 := hR1.keep hg
  clear hrow hg hR1 H0 hq1
  by_cases hv : vs l n = true
  · obtain ⟨N, rfl⟩ := vs_nat hv
    obtain ⟨hN, hlen⟩ := vs_bits hv
    rw [hv]
    have V := Lib.hid (chkV_ok hv)
    have HLEN := Lib.hid hlen
    clear hv hlen
    go_wp2_with fail
    go_loop [4, 5] (fun r i => ∃ j : Nat, j ≤ N ∧ i = .int .i64 (j : Int) ∧ r = .int .u64 ((crcB (bt l) j : Nat) : Int)) (fun _ i => (N - (RowKit.intOf i).toNat))
    case atStart => exact ⟨0, Nat.zero_le _, rfl, rfl⟩
    case round =>
      obtain ⟨j, hj, rfl, rfl⟩ := hrel
      have hrlt := chk_lt (bt l) j
      generalize hrr : crcB (bt l) j = r at *
      have HRR := Lib.hid hrr
      clear hrr
      by_cases hlt : j < N
      · have C := bitr_any l j q p c hl (by have := HLEN.out; omega) (by omega) w2 hR2
        unfold bw at C
        have D := diff64 (b := bt l j) hrlt
        have HC : Hid (crcB (bt l) (j + 1) = stp r (bt l j)) := by
          show crcB (bt l) (j + 1) = _
          rw [crcB, HRR.out]
        have H1 := Lib.hid C
        clear C
        generalize hbb : bt l j = b at *
        clear hbb
        by_cases hd : (r.testBit 15 != b) = true
        · rw [hd] at D
          have S : Hid (bits .xor .u64 (bits .and .u64 ((r : Int) * 2) 65535) 4129 = ((crcB (bt l) (j + 1) : Nat) : Int)) := by
            show _ = _
            rw [HC.out, stp_diff hd, xor64 hrlt]
          generalize b.toNat = bn at *
          go_wp2_with (go_at_call 60; refine H1.out.mono ?_; rintro e w' ⟨rfl, rfl⟩)
          go_round
          case rel => exact ⟨j + 1, by omega, by go_num, by rw [S.out]⟩
          case measure => simp [RowKit.intOf]; omega
        · have hd0 : (r.testBit 15 != b) = false := by simpa using hd
          rw [hd0] at D
          have S : Hid (bits .and .u64 ((r : Int) * 2) 65535 = ((crcB (bt l) (j + 1) : Nat) : Int)) := by
            show _ = _
            rw [HC.out, stp_same hd0, shift64 hrlt]
          clear hd
          generalize b.toNat = bn at *
          go_wp2_with (go_at_call 60; refine H1.out.mono ?_; rintro e w' ⟨rfl, rfl⟩)
          go_round
          case rel => exact ⟨j + 1, by omega, by go_num, by rw [S.out]⟩
          case measure => simp [RowKit.intOf]; omega
      · obtain rfl : j = N := by omega
        go_wp2_with fail
        go_ret2
        exact check_end (by rw [V.out, HRR.out]) HG.out
  · have hv0 : vs l n = false := by simpa using hv
    have V := Lib.hid (chkV_inv hv0)
    rw [hv0]
    go_wp2_with fail
    go_ret2
    exact check_end V.out HG.out
/-- Bytes as a string of the model. -/
def bs (l : List Nat) : ByteArray := ⟨(l.map fun x => UInt8.ofNat x).toArray⟩
set_option maxRecDepth 100000 in
theorem conv_nv {w : World} {q : Nat → Prop} {p : Option Addr} {k c : Nat} {l : List Nat} (hl : By l) (hk : k = l.length) (hR : Rd w q (.slice p k c) (l.map nv)) (hpc : p = none → c = 0) :
    (convert 36 9 (.slice p k c)).run Tryd.prog w = .ok (.string (bs l)) w := by
  subst hk
  have hmap : ∀ x ∈ l, nv x = .int .u8 (((UInt8.ofNat x).toNat : Nat) : Int) := by
    intro x hx
    have := hl x hx
    unfold nv
    rw [UInt8.toNat_ofNat', Nat.mod_eq_of_lt this]
  cases p with
  | none =>
    obtain rfl := hpc rfl
    obtain rfl : l = [] := by
      obtain ⟨p1, c1, e1, hx⟩ := hR
      injection e1 with a1 a2 a3
      subst a1
      cases l with
      | nil => rfl
      | cons y r => obtain ⟨b, off, hp, _⟩ := hx (by simp); cases hp
    exact Lib.run_convert_nil_bytes (P := Tryd.prog) w 36 9 5 0 Tryd.underlying36 Tryd.underlying5 Tryd.underlying9
  | some ad =>
    have e : l.length = (l.map fun x => UInt8.ofNat x).length := by simp
    rw [e]
    refine run_convert_bytes_back (P := Tryd.prog) w 36 9 5 ad c (l.map fun x => UInt8.ofNat x) Tryd.underlying36 Tryd.underlying5 Tryd.underlying9 (fun j hj => ?_)
    have hj' : j < l.length := by simpa using hj
    have := hR.news j (nv (l[j])) (by rw [List.getElem?_map, List.getElem?_eq_getElem hj']; rfl)
    rw [this, hmap _ (List.getElem_mem hj')]
    simp
/-- Whether two streams are one. -/
def same (l : List Nat) (n : Int) (l' : List Nat) (n' : Int) : Bool := n == n' && (bs l).toList == (bs l').toList
set_option maxRecDepth 100000 in
theorem same_self (l : List Nat) (n : Int) : same l n l n = true := by unfold same; simp
end Go.Proofs.YtpoocenooomghaaDoor

/- The reference's Slice. -/
namespace Go.Proofs.YtpoocenooomghaaDoor
open Go.RowKit Bs
set_option maxRecDepth 100000 in
theorem put_val {f : Nat → Bool} {m : Nat} {x : Value} (hx : bw (f m) = x) (l : List Nat) (q : Nat → Prop) (p : Option Addr) (c : Nat) (hm : m ≤ 9000) (hl : l = pz f m ((m + 7) / 8)) (hpc : p = none → c = 0) (w : World) (hR : Rd w q (.slice p l.length c) (l.map nv)) :
    Calls Tryd.prog 61 #[.agg #[.slice p l.length c, .int .i64 (m : Int)], x] w fun e w' => StreamPost (pz f (m + 1) ((m + 8) / 8)) ((m + 1 : Nat) : Int) w e w' := by
  subst hx
  exact put_any f m l q p c hm hl hpc w hR
set_option maxRecDepth 100000 in
theorem BoxAt.drew {W w' : World} {b r : Nat} {p : Option Addr} {c : Nat} {l : List Nat} {n : Int} (h : BoxAt W b r p c l n w') : BoxAt W b r p c l n w'.drew := h.keep (grown_drew (grown_refl _ _))
set_option maxRecDepth 100000 in
set_option maxHeartbeats 3200000 in
theorem slicer_any (l : List Nat) (n a b : Int) (q : Nat → Prop) (p : Option Addr) (c : Nat) (hl : By l) (ha : I64 a) (hb : I64 b) (w : World) (hq : ∀ b, q b → b < w.heap.size) (hR : Rd w q (.slice p l.length c) (l.map nv)) :
    Calls Tryd.prog 57 #[.agg #[.slice p l.length c, .int .i64 n], .int .i64 a, .int .i64 b] w fun e w' => RPost (slV l n a b) w e w' := by
  obtain ⟨k1, k2, k3, k4⟩ := two_boxes w #[.slice p l.length c, .int .i64 n] #[.slice none 0 0, .int .i64 0] 47 47
  have H0 := Lib.hid (And.intro k1 (And.intro k2 (And.intro k3 k4)))
  have hR1 := hR.keep k3
  have hq1 : ∀ b, q b → b < ((w.alloc (.cells #[.slice p l.length c, .int .i64 n] 47)).alloc (.cells #[.slice none 0 0, .int .i64 0] 47)).heap.size := fun b hb => Nat.lt_of_lt_of_le (hq b hb) k3.size
  unfold I64 at ha hb
  clear k1 k2 k3 k4
  go_enter Tryd.func57, Tryd.ntmps57
  go_wp2_with fail
  generalize (w.alloc (.cells #[.slice p l.length c, .int .i64 n] 47)).alloc (.cells #[.slice none 0 0, .int .i64 0] 47) = w1 at *
  refine (validr_any l n q p c hl _ hq1 hR1).mono ?_
  rintro e w2 ⟨rfl, hg⟩
  have HROW := Lib.hid (kept_row H0.out.1 hg (by simp))
  have HRES := Lib.hid (kept_row H0.out.2.1 hg (by simp))
  obtain ⟨c0, c1⟩ := row_cells HROW.out
  obtain ⟨r0, r1⟩ := row_cells HRES.out
  have g0 := frozen_of_row _ _ 0 _ _ HRES.out
  have g1 := frozen_of_row _ _ 1 _ _ HRES.out
  have HG := Lib.hid (grown_trans H0.out.2.2.1 hg)
  have HSZ : Hid (w.heap.size + 2 ≤ w2.heap.size) := Lib.hid (by rw [← H0.out.2.2.2]; exact hg.size)
  clear hg hR1 H0 hq1
  by_cases hv : vs l n = true
  · obtain ⟨N, rfl⟩ := vs_nat hv
    obtain ⟨hN, hlen⟩ := vs_bits hv
    rw [hv]
    by_cases h1 : a < 0
    · have V := Lib.hid (slV_range (b := b) hv (.inl h1))
      clear hv hlen
      go_wp2_with fail
      refine bodyPost_ret (res_stream_err rfl _ _ (w.heap.size + 1) _ _ rfl (store2 HRES.out)) rfl ?_
      exact RPost.err V.out HG.out (by omega)
    · by_cases h2 : b < a
      · have V := Lib.hid (slV_range hv (.inr (.inl h2)))
        clear hv hlen
        go_wp2_with fail
        refine bodyPost_ret (res_stream_err rfl _ _ (w.heap.size + 1) _ _ rfl (store2 HRES.out)) rfl ?_
        exact RPost.err V.out HG.out (by omega)
      · by_cases h3 : (N : Int) < b
        · have V := Lib.hid (slV_range (a := a) hv (.inr (.inr h3)))
          clear hv hlen
          go_wp2_with fail
          refine bodyPost_ret (res_stream_err rfl _ _ (w.heap.size + 1) _ _ rfl (store2 HRES.out)) rfl ?_
          exact RPost.err V.out HG.out (by omega)
        · obtain ⟨A, rfl⟩ := Int.eq_ofNat_of_zero_le (show 0 ≤ a by omega)
          obtain ⟨B, rfl⟩ := Int.eq_ofNat_of_zero_le (show 0 ≤ b by omega)
          obtain ⟨T, hB⟩ : ∃ T : Nat, A + T = B := ⟨B - A, by omega⟩
          have hBN : B ≤ N := by omega
          have V := Lib.hid (slV_ok hv hB hBN)
          have HL := Lib.hid hlen
          have hA8 : A ≤ 8192 := by omega
          have hT8 : T ≤ 8192 := by omega
          have hBA : ¬ B < A := by omega
          have hNB : ¬ N < B := by omega
          have dBA : decide (B < A) = false := by simpa using hBA
          have dNB : decide (N < B) = false := by simpa using hNB
          have dA0 : decide ((A : Int) < 0) = false := by simp
          have hB8 : B ≤ 8192 := by omega
          obtain ⟨t1, t2⟩ := one_box w2 #[.slice none 0 0, .int .i64 0] 47
          obtain ⟨D, hD⟩ : ∃ D : Nat, D = w2.heap.size := ⟨_, rfl⟩
          have P0 : Hid (PutsRel (fun i => bt l (A + i)) w D (w.heap.size + 1) 0 0 (w2.alloc (.cells #[.slice none 0 0, .int .i64 0] 47))) := by
            refine Lib.hid ⟨none, 0, ?_⟩
            rw [hD]
            exact ⟨t1, kept_row HRES.out t2 (by simp), Rd.nil_ _ _ _ _, fun _ => rfl, (fun x hx => by cases hx), grown_trans HG.out t2⟩
          have Q0 := Lib.hid (kept_row HROW.out t2 (by simp))
          have S0 : Hid (D + 1 ≤ (w2.alloc (.cells #[.slice none 0 0, .int .i64 0] 47)).heap.size) := Lib.hid (by rw [hD]; simp)
          have hWD : w.heap.size + 2 ≤ D := by rw [hD]; exact HSZ.out
          have HB := Lib.hid hB
          have HRR := Lib.hid hR
          clear hv hlen t1 t2 hB r0 r1 g0 g1 hR
          have hDs : w2.heap.size = D := hD.symm
          clear hD
          go_wp2_with fail
          go_loopw [9] (fun i wr => ∃ j : Nat, j ≤ T ∧ i = .int .i64 ((A + j : Nat) : Int) ∧ PutsRel (fun i => bt l (A + i)) w D (w.heap.size + 1) 0 j wr ∧ D + 1 ≤ wr.heap.size ∧ wr.heap[w.heap.size]? = some (.cells #[.slice p l.length c, .int .i64 (N : Int)] 47 (0, 0))) (fun i _ => (B - (RowKit.intOf i).toNat))
          case atStart => exact ⟨0, Nat.zero_le _, rfl, P0.out, S0.out, Q0.out⟩
          case round =>
            obtain ⟨j, hj, rfl, hP, hsz, hrow⟩ := hrel
            obtain ⟨p1, c1, l1, HL1, hB1⟩ := hP.open_
            have HZ := Lib.hid hsz
            have HRW := Lib.hid hrow
            obtain ⟨m, hm⟩ : ∃ m : Nat, 0 + j = m := ⟨_, rfl⟩
            rw [hm] at HL1 hB1
            have HB1 := Lib.hid hB1
            clear hP hB1 P0 S0 Q0 hsz hrow
            by_cases hlt : j < T
            · have hmj : m = j := by omega
              obtain ⟨xv, hxv⟩ : ∃ xv : Value, bw (bt l (A + j)) = xv := ⟨_, rfl⟩
              have HRd := HRR.out.keep HB1.out.drew.gr
              have C1 := bitr_any l (A + j) q p c hl (by have := HL.out; have := HB.out; omega) (by omega) wr.drew HRd
              rw [hxv] at C1
              have C2 := put_val (f := fun i => bt l (A + i)) (m := m) (x := xv) (by rw [← hxv, hmj]) l1 _ p1 c1 (by omega) HL1.out HB1.out.pc wr.drew HB1.out.drew.rd
              obtain ⟨l3, hl3⟩ : ∃ l3, l3 = pz (fun i => bt l (A + i)) (m + 1) ((m + 8) / 8) := ⟨_, rfl⟩
              rw [← hl3] at C2
              have H1 := Lib.hid C1
              have H2 := Lib.hid C2
              have HL3 := Lib.hid hl3
              have HM := Lib.hid hm
              obtain ⟨b0, b1, f0, f1, r0, r1, g0, g1⟩ := HB1.out.limbs
              obtain ⟨c0, c2⟩ := row_cells HRW.out
              have hAj : A + j ≤ 8192 := by have := HB.out; omega
              have hAjB : A + j < B := by have := HB.out; omega
              have hm9 : m ≤ 8192 := by omega
              clear C1 C2 hl3 hm hxv HRd hmj
              generalize hE : A + j = E at *
              have HE := Lib.hid hE
              clear hE
              go_wp2_with fail
              go_region_law (first
                | (go_simp; go_at_call 60; refine H1.out.mono ?_; rintro e w' ⟨rfl, rfl⟩)
                | (go_simp; go_at_call 61; refine H2.out.mono ?_; rintro e w3 ⟨p3, c3, rfl, hown3, hg3⟩; obtain ⟨x0, x1, y0, y1, z0, z1, u0, u1⟩ := (HB1.out.drew.keep hg3).limbs))
              all_goals
                have HB3 := Lib.hid (HB1.out.drew.keep hg3)
                have hD3 : D < wr.drew.heap.size := by have := HZ.out; show D < wr.heap.size; omega
                have R := puts_next (f := fun i => bt l (A + i)) (N := 0) (j := j) HB3 HM.out HL3.out hown3 (by omega) (by omega) hD3 (by omega)
                have R2 : Hid (D + 1 ≤ w3.heap.size) := Lib.hid (Nat.le_trans HZ.out hg3.size)
                have R3 := Lib.hid (kept_row (kept_row HRW.out (grown_trans (grown_drew (grown_refl _ none)) hg3) (by simp)) (grown_store2 w3 D (.slice p3 l3.length c3) (.int .i64 ((m : Int) + 1))) (by intro e; have := Option.some.inj e; omega))
                clear hown3 hg3 HB3 hD3
                go_wp2_with fail
                go_roundw
                case rel => exact ⟨j + 1, by omega, by congr 1; have := HE.out; omega, R.out, by simpa using R2.out, R3.out⟩
                case measure => simp [RowKit.intOf]; omega
            · obtain rfl : j = T := by omega
              obtain ⟨b0, b1, f0, f1, r0, r1, g0, g1⟩ := HB1.out.limbs
              have F := Lib.hid (HB1.out.fin (V := slV l (N : Int) (A : Int) (B : Int)) (by rw [V.out, HL1.out, show m = j by omega]) (by omega))
              have hE : A + j = B := HB.out
              rw [hE]
              clear HB1 hE hm
              go_wp2_with fail
              refine bodyPost_ret (res_stream_err rfl _ _ (w.heap.size + 1) _ _ rfl F.out.1) rfl ?_
              exact F.out.2
  · have hv0 : vs l n = false := by simpa using hv
    have V := Lib.hid (slV_inv (a := a) (b := b) hv0)
    rw [hv0]
    go_wp2_with fail
    refine bodyPost_ret (res_stream_err rfl _ _ (w.heap.size + 1) _ _ rfl (store2 HRES.out)) rfl ?_
    exact RPost.err V.out HG.out (by omega)
end Go.Proofs.YtpoocenooomghaaDoor

/- The reference's Join and Align. -/
namespace Go.Proofs.YtpoocenooomghaaDoor
open Go.RowKit Bs
set_option maxRecDepth 100000 in
theorem pz_valid {l : List Nat} {N : Nat} {f : Nat → Bool} (hl : By l) (hv : vs l (N : Int) = true) (hf : ∀ i, i < N → f i = bt l i) : l = pz f N ((N + 7) / 8) := by
  have e := pz_copy (M := l.length) hl hv (Nat.le_refl _) hf
  rw [List.drop_of_length_le (by simp), List.append_nil, (vs_bits hv).2] at e
  exact e
set_option maxRecDepth 100000 in
set_option maxHeartbeats 3200000 in
theorem alignr_any (l : List Nat) (n : Int) (q : Nat → Prop) (p : Option Addr) (c : Nat) (hl : By l) (hpc : p = none → c = 0) (w : World) (hq : ∀ b, q b → b < w.heap.size) (hR : Rd w q (.slice p l.length c) (l.map nv)) :
    Calls Tryd.prog 27 #[.agg #[.slice p l.length c, .int .i64 n]] w fun e w' => RPost (alV l n) w e w' := by
  obtain ⟨k1, k2, k3, k4⟩ := two_boxes w #[.slice p l.length c, .int .i64 n] #[.slice none 0 0, .int .i64 0] 47 47
  have hR1 := hR.keep k3
  have H0 := Lib.hid (show BoxAt w w.heap.size (w.heap.size + 1) p c l n _ from ⟨k1, k2, hR1.mono fun x hx => by have := hq x hx; exact ⟨by omega, by omega⟩, hpc, hl, k3⟩)
  have HZ0 := Lib.hid k4
  have hq1 : ∀ b, q b → b < ((w.alloc (.cells #[.slice p l.length c, .int .i64 n] 47)).alloc (.cells #[.slice none 0 0, .int .i64 0] 47)).heap.size := fun b hb => Nat.lt_of_lt_of_le (hq b hb) k3.size
  clear k1 k2 k3 k4 hR
  go_enter Tryd.func27, Tryd.ntmps27
  go_wp2_with fail
  generalize (w.alloc (.cells #[.slice p l.length c, .int .i64 n] 47)).alloc (.cells #[.slice none 0 0, .int .i64 0] 47) = w1 at *
  refine (validr_any l n q p c hl _ hq1 hR1).mono ?_
  rintro e w2 ⟨rfl, hg⟩
  have HB := Lib.hid (H0.out.keep hg)
  have HSZ2 : Hid (w.heap.size + 2 ≤ w2.heap.size) := Lib.hid (by rw [← HZ0.out]; exact hg.size)
  clear hg hR1 H0 hq1 HZ0
  obtain ⟨c0, c1, f0, f1, r0, r1, g0, g1⟩ := HB.out.limbs
  by_cases hv : vs l n = true
  · have V := Lib.hid (alV_ok hv)
    obtain ⟨N, rfl⟩ := vs_nat hv
    obtain ⟨hN, hlen⟩ := vs_bits hv
    rw [hv]
    have P0 : Hid (PutsRel (bt l) w w.heap.size (w.heap.size + 1) N 0 w2) := by
      refine Lib.hid ⟨p, c, ?_⟩
      show BoxAt w w.heap.size (w.heap.size + 1) p c (pz (bt l) N ((N + 7) / 8)) (N : Int) w2
      rw [← pz_valid hl hv fun _ _ => rfl]
      exact HB.out
    have HV := Lib.hid hv
    have HL := Lib.hid hlen
    clear hv hlen HB f0 f1 r0 r1 g0 g1 c0 c1
    go_wp2_with fail
    go_loopg [] (8 * l.length - N) (fun g wr => ∃ j : Nat, N + j + g = 8 * l.length ∧ PutsRel (bt l) w w.heap.size (w.heap.size + 1) N j wr ∧ w.heap.size + 2 ≤ wr.heap.size)
    case atStart => exact ⟨0, by have := HL.out; omega, P0.out, HSZ2.out⟩
    case round =>
      obtain ⟨j, hjg, hP, hsz⟩ := hrel
      obtain ⟨p1, c1, l1, HL1, hB1⟩ := hP.open_
      have HZ := Lib.hid hsz
      have HJG := Lib.hid hjg
      obtain ⟨m, hm⟩ : ∃ m : Nat, N + j = m := ⟨_, rfl⟩
      rw [hm] at HL1 hB1
      have HB1 := Lib.hid hB1
      have hm8 : m ≤ 8 * l.length := by omega
      have hll : l.length ≤ 1025 := by have := HL.out; omega
      obtain ⟨b0, b1, f0, f1, r0, r1, g0, g1⟩ := HB1.out.limbs
      clear hP hB1 P0 hsz
      cases gk with
      | zero =>
        have hz8 : (m : Int) % 8 = 0 := by omega
        have hml : m = 8 * l.length := by omega
        have hl1 : l1 = l := by
          rw [HL1.out, hml, show (8 * l.length + 7) / 8 = l.length by omega]
          exact (pz_bt l (8 * l.length) hl fun i h1 h2 => by omega).symm
        have F := Lib.hid (HB1.out.fin (V := alV l (N : Int)) (by rw [V.out, hl1, hml]) (by omega))
        clear HB1 hm hml hl1 hjg
        go_wp2_with fail
        refine bodyPost_ret (res_stream_err rfl _ _ (w.heap.size + 1) _ _ rfl F.out.1) rfl ?_
        exact F.out.2
      | succ g =>
        have hz8 : ¬ ((m : Int) % 8 = 0) := by have := HL.out; omega
        have hfm : bt l m = false := (vs_iff.1 HV.out).2.2 m (by omega) (by omega)
        have C2 := put_val (f := bt l) (m := m) (x := .int .u64 0) (by rw [bw_false hfm]) l1 _ p1 c1 (by omega) HL1.out HB1.out.pc wr HB1.out.rd
        obtain ⟨l3, hl3⟩ : ∃ l3, l3 = pz (bt l) (m + 1) ((m + 8) / 8) := ⟨_, rfl⟩
        rw [← hl3] at C2
        have H2 := Lib.hid C2
        have HL3 := Lib.hid hl3
        have HM := Lib.hid hm
        have hm9 : m ≤ 9000 := by omega
        clear C2 hl3 hm hfm hjg
        go_wp2_with fail
        refine H2.out.mono ?_
        rintro e w3 ⟨p3, c3, rfl, hown3, hg3⟩
        have HB3 := Lib.hid (HB1.out.keep hg3)
        have R := puts_next (f := bt l) (N := N) (j := j) HB3 HM.out HL3.out hown3 (by omega) (by omega) (by have := HZ.out; omega) (by have := HZ.out; omega)
        have R2 : Hid (w.heap.size + 2 ≤ w3.heap.size) := Lib.hid (Nat.le_trans HZ.out hg3.size)
        clear b0 b1 f0 f1 r0 r1 g0 g1
        obtain ⟨b0, b1, f0, f1, r0, r1, g0, g1⟩ := HB3.out.limbs
        clear hown3 hg3 HB1
        go_wp2_with fail
        go_roundg g
        case measure => omega
        case rel => exact ⟨j + 1, by have := HJG.out; omega, R.out, by simpa using R2.out⟩
  · have hv0 : vs l n = false := by simpa using hv
    have V := Lib.hid (alV_inv hv0)
    rw [hv0]
    clear hv
    go_wp2_with fail
    refine bodyPost_ret (res_stream_err rfl _ _ (w.heap.size + 1) _ _ rfl (store2 HB.out.res)) rfl ?_
    exact RPost.err V.out HB.out.gr (by omega)
end Go.Proofs.YtpoocenooomghaaDoor

/- The tape's texts. -/
namespace Go.Proofs.YtpoocenooomghaaDoor
open Go.RowKit Bs
def bval (x : UInt8) : Value := .int .u8 (x.toNat : Int)
set_option maxRecDepth 100000 in
theorem conv_bytes {w : World} {q : Nat → Prop} {v : Value} {l : List UInt8} (hR : Rd w q v (l.map bval)) (h0 : l = [] → v = .slice none 0 0) :
    (convert 36 9 v).run Tryd.prog w = .ok (.string ⟨l.toArray⟩) w := by
  by_cases hl : l = []
  · rw [h0 hl, hl]
    exact Lib.run_convert_nil_bytes (P := Tryd.prog) w 36 9 5 0 Tryd.underlying36 Tryd.underlying5 Tryd.underlying9
  · obtain ⟨p, c, rfl, hc⟩ := hR
    obtain ⟨b, off, rfl, _, hcell⟩ := hc (by simpa using hl)
    rw [List.length_map]
    refine run_convert_bytes_back (P := Tryd.prog) w 36 9 5 ⟨b, off, none⟩ c l Tryd.underlying36 Tryd.underlying5 Tryd.underlying9 (fun j hj => ?_)
    have hadd : (⟨b, off, none⟩ : Addr).add j = ⟨b, off + j, none⟩ := by unfold Addr.add; split <;> simp_all
    rw [hadd]
    exact hcell j _ (by rw [List.getElem?_map, List.getElem?_eq_getElem hj]; rfl)
/-- A drawn text. -/
def TextRel (a most : Nat) (w : World) (v : Value) (k : Nat) (wr : World) : Prop :=
  ∃ l : List UInt8, l.length + k ≤ most ∧ wr.ownsRow w.heap.size 5 1 v l.length (l.map bval) ∧ (l = [] → v = .slice none 0 0) ∧ St a w wr
set_option maxRecDepth 100000 in
theorem TextRel.open_ {a most k : Nat} {w wr : World} {v : Value} (h : TextRel a most w v k wr) : ∃ l : List UInt8, l.length + k ≤ most ∧ wr.ownsRow w.heap.size 5 1 v l.length (l.map bval) ∧ (l = [] → v = .slice none 0 0) ∧ St a w wr := h
def TextPost (a most : Nat) (w : World) (e : Ending) (w' : World) : Prop := ∃ s : ByteArray, e = .returned (.string s) ∧ s.size ≤ most ∧ St a w w'
end Go.Proofs.YtpoocenooomghaaDoor

/- packet: a packet's block. -/
namespace Go.Proofs.YtpoocenooomghaaDoor
open Go.RowKit Bs
def zpk : Array Value := #[.int .i64 0, .int .i64 0, .int .i64 0, .int .i64 0, .int .i64 0, .int .i64 0, .int .i64 0, .int .i64 0, .int .u64 0, .string ⟨#[]⟩]
set_option maxRecDepth 100000 in
theorem pput_grown (w : World) (h : Nat) (v0 v1 v2 v3 v4 v5 v6 v7 v8 v9 : Value) : w.grownBy ((((((((((w.setCell ⟨h, 0, none⟩ v0).setCell ⟨h, 1, none⟩ v1).setCell ⟨h, 2, none⟩ v2).setCell ⟨h, 3, none⟩ v3).setCell ⟨h, 4, none⟩ v4).setCell ⟨h, 5, none⟩ v5).setCell ⟨h, 6, none⟩ v6).setCell ⟨h, 7, none⟩ v7).setCell ⟨h, 8, none⟩ v8).setCell ⟨h, 9, none⟩ v9) (some h) := by
  exact grown_trans (grown_trans (grown_trans (grown_trans (grown_trans (grown_trans (grown_trans (grown_trans (grown_trans (grown_setCell _ ⟨h, 0, none⟩ _) (grown_setCell _ ⟨h, 1, none⟩ _)) (grown_setCell _ ⟨h, 2, none⟩ _)) (grown_setCell _ ⟨h, 3, none⟩ _)) (grown_setCell _ ⟨h, 4, none⟩ _)) (grown_setCell _ ⟨h, 5, none⟩ _)) (grown_setCell _ ⟨h, 6, none⟩ _)) (grown_setCell _ ⟨h, 7, none⟩ _)) (grown_setCell _ ⟨h, 8, none⟩ _)) (grown_setCell _ ⟨h, 9, none⟩ _)
/-- The packet of a header, with these bits and this payload. -/
def rcells (V : Nat → Nat) (n : Int) (b : Nat) (s : ByteArray) : Array Value := #[.int .i64 (V 1 : Int), .int .i64 (V 2 : Int), .int .i64 (V 3 : Int), .int .i64 n, .int .i64 (V 5 : Int), .int .i64 (V 6 : Int), .int .i64 (V 7 : Int), .int .i64 (V 8 : Int), .int .u64 (b : Int), .string s]
set_option maxRecDepth 100000 in
theorem four_new (w : World) (A B C D : Obj) : ((((w.alloc A).alloc B).alloc C).alloc D).heap[w.heap.size]? = some A ∧ ((((w.alloc A).alloc B).alloc C).alloc D).heap[w.heap.size + 1]? = some B ∧ ((((w.alloc A).alloc B).alloc C).alloc D).heap[w.heap.size + 2]? = some C ∧ ((((w.alloc A).alloc B).alloc C).alloc D).heap[w.heap.size + 3]? = some D ∧
    w.grownBy ((((w.alloc A).alloc B).alloc C).alloc D) none ∧ ((((w.alloc A).alloc B).alloc C).alloc D).heap.size = w.heap.size + 4 := by
  obtain ⟨h1, h2, h3, g, s⟩ := three_new w A B C
  have g4 := World.grownBy_alloc (((w.alloc A).alloc B).alloc C) D none
  have h4 := heap_alloc_new (((w.alloc A).alloc B).alloc C) D
  rw [s] at h4
  exact ⟨kept_row h1 g4 (by simp), kept_row h2 g4 (by simp), kept_row h3 g4 (by simp), h4, grown_trans g g4, by simp⟩
end Go.Proofs.YtpoocenooomghaaDoor

/- The reference's functions on bits: Count, Nth, First, Rank, Spread, Gather. -/
namespace Go.Proofs.YtpoocenooomghaaDoor
open Go.RowKit Bs

/-- The call returned v and made memory alone. -/
def Nw (v : Value) (w : World) (e : Ending) (w' : World) : Prop := e = .returned v ∧ w.grownBy w' none
set_option maxRecDepth 100000 in
theorem Rd.form {w : World} {q : Nat → Prop} {v : Value} {vs : List Value} {n : Nat} (h : Rd w q v vs) (hn : vs.length = n) : ∃ p c, v = .slice p n c := by
  obtain ⟨p, c, hv, _⟩ := h
  exact ⟨p, c, by rw [hv, hn]⟩
set_option maxRecDepth 100000 in
theorem Rd.at1_ {w : World} {q : Nat → Prop} {p : Option Addr} {n c : Nat} {vs : List Value} {i : Nat} {x : Value} (h : Rd w q (.slice p n c) vs) (hi : vs[i]? = some x) :
    ∃ b off, p = some ⟨b, off, none⟩ ∧ w.cell? ⟨b, off + i, none⟩ = some x := by
  obtain ⟨p', c', hv, hc⟩ := h
  injection hv with e1 e2 e3
  subst e1
  obtain ⟨b, off, hp, _, hx⟩ := hc (by intro e; rw [e] at hi; simp at hi)
  exact ⟨b, off, hp, hx i x hi⟩
set_option maxRecDepth 100000 in
theorem bl_map_len (b : Nat) : ((bl b).map ival).length = cnt b := by rw [List.length_map]; rfl
set_option maxRecDepth 100000 in
theorem bl_map_at {b i k : Nat} (h : (bl b)[i]? = some k) : ((bl b).map ival)[i]? = some (.int .i64 (k : Int)) := by rw [List.getElem?_map, h]; rfl
set_option maxRecDepth 100000 in
theorem bl_at {b i : Nat} (h : i < cnt b) : ∃ k, (bl b)[i]? = some k ∧ k < 64 := by
  have h' : i < (bl b).length := h
  exact ⟨(bl b)[i], List.getElem?_eq_getElem h', bl_lt (List.getElem_mem h')⟩

set_option maxRecDepth 100000 in
theorem nth_zero (b : Nat) (hb : U64 b) : nth b 0 = fst b := by
  by_cases h0 : b = 0
  · subst h0; decide +kernel
  · rw [fst_pos h0]; exact nth_at (bl_head h0 hb.lt)
set_option maxRecDepth 100000 in
theorem rk_step_t {b j : Nat} (h : b.testBit j = true) : (blN (j + 1) b).length = (blN j b).length + 1 := by rw [bl_snoc_t h]; simp
def rkN (j b : Nat) : Nat := (blN j b).length
set_option maxRecDepth 100000 in
theorem rkN_le (j b : Nat) : rkN j b ≤ j := blN_length_le j b
set_option maxRecDepth 100000 in
theorem rkN_t {b j : Nat} (h : b.testBit j = true) : rkN (j + 1) b = rkN j b + 1 := rk_step_t h
set_option maxRecDepth 100000 in
theorem rkN_f {b j : Nat} (h : b.testBit j = false) : rkN (j + 1) b = rkN j b := by unfold rkN; rw [bl_snoc_f h]
set_option maxRecDepth 100000 in
theorem put_t (k : Nat) : put true k = b2 k := rfl
set_option maxRecDepth 100000 in
theorem put_f (k : Nat) : put false k = 0 := rfl
set_option maxRecDepth 100000 in
theorem spr_hit {x b j k : Nat} (hk : (bl b)[j]? = some k) (ht : x.testBit j = true) (h64 : k < 64) :
    bits .or .u64 ((spr x (bl b) j : Nat) : Int) ((b2 k : Nat) : Int) = ((spr x (bl b) (j + 1) : Nat) : Int) := by
  rw [orU _ _ (spr_u64 x b j) (b2_u64 h64), spr_next hk, ht]; rfl
set_option maxRecDepth 100000 in
theorem spr_miss {x j : Nat} {l : List Nat} (ht : x.testBit j = false) : spr x l (j + 1) = spr x l j := by
  rw [spr, ht, put_f]; simp
set_option maxRecDepth 100000 in
theorem gat_hit {x b j k : Nat} (hk : (bl b)[j]? = some k) (ht : x.testBit k = true) (h64 : j < 64) :
    bits .or .u64 ((gat x (bl b) j : Nat) : Int) ((b2 j : Nat) : Int) = ((gat x (bl b) (j + 1) : Nat) : Int) := by
  rw [orU _ _ (gat_u64 x _ j (by omega)) (b2_u64 h64), gat_next hk, ht]; rfl
set_option maxRecDepth 100000 in
theorem gat_miss {x j k : Nat} {l : List Nat} (hk : l[j]? = some k) (ht : x.testBit k = false) : gat x l (j + 1) = gat x l j := by
  rw [gat_next hk, ht, put_f]; simp
end Go.Proofs.YtpoocenooomghaaDoor

/- The tape's bit strings. -/
namespace Go.Proofs.YtpoocenooomghaaDoor
open Go.RowKit Bs

set_option maxRecDepth 100000 in
theorem vb_full {n : Int} (h : vl n = true) (z : Nat) : vb (z &&& full n) n = true := by
  unfold vb
  rw [h, and_compl z (full_u64 n)]; rfl
/-- A bit string drawn for a length. -/
def BitsPost (n : Int) (a : Nat) (w : World) (e : Ending) (w' : World) : Prop := ∃ x : Nat, e = .returned (.int .u64 (x : Int)) ∧ U64 x ∧ vb x n = true ∧ St a w w'
set_option maxRecDepth 100000 in
theorem bits_end {n : Int} (h : vl n = true) (z : Nat) (hz : U64 z) : ∃ x : Nat, bits .and .u64 (z : Int) ((full n : Nat) : Int) = (x : Int) ∧ U64 x ∧ vb x n = true :=
  ⟨z &&& full n, andU z _ hz (full_u64 n), u64_and_le z _ hz, vb_full h z⟩
set_option maxRecDepth 100000 in
theorem all_ones : (18446744073709551615 : Int) = ((lo 64 : Nat) : Int) := by decide +kernel
end Go.Proofs.YtpoocenooomghaaDoor

/- The tape's packets. -/
namespace Go.Proofs.YtpoocenooomghaaDoor
open Go.RowKit Bs
/-- A drawn packet with no mistake is valid. -/
def PacketPost (a : Nat) (w : World) (e : Ending) (w' : World) : Prop := ∃ P : Pk, e = .returned P.val ∧ P.Wf ∧ vpk P = true ∧ St a w w'
set_option maxRecDepth 100000 in
theorem tp_store {w1 w2 : World} {a b : Nat} (h : Tp w1 a) (k : w1.grownBy w2 (some b)) (hb : a < b) : Tp w2 a := tp_new2 h k hb
set_option maxRecDepth 100000 in
theorem St.store {a b : Nat} {W w w1 : World} (h : St a W w) (k : w.grownBy w1 (some b)) (hb : W.heap.size ≤ b) (ha : a < W.heap.size) : St a W w1 :=
  ⟨⟨k.os.trans h.1.os, k.tape.trans h.1.tape, k.output.trans h.1.output, Nat.le_trans h.1.size k.size, fun i hi hia => (k.block i (Nat.lt_of_lt_of_le hi h.1.size) (fun e => by have := Option.some.inj e; omega)).trans (h.1.block i hi hia)⟩, by
    exact tp_store h.2 k (by omega)⟩
set_option maxRecDepth 100000 in
theorem i64_small {x : Int} (h1 : -2000 ≤ x) (h2 : x ≤ 2000) : I64 x := by unfold I64; omega
end Go.Proofs.YtpoocenooomghaaDoor

/- The tape's packets, also with a mistake. -/
namespace Go.Proofs.YtpoocenooomghaaDoor
open Go.RowKit Bs
def AnyPacketPost (a : Nat) (w : World) (e : Ending) (w' : World) : Prop := ∃ P : Pk, e = .returned P.val ∧ P.Wf ∧ P.pay.size ≤ 100 ∧ St a w w'
section
variable {a B : Nat} {W w w1 : World} {P P' : Pk}
end
/-- How much the payload lacks. -/
def payLeft (w : World) (B : Nat) : Nat := match w.cell? ⟨B, 9, none⟩ with | some (.string s) => 62 - s.size | _ => 0
end Go.Proofs.YtpoocenooomghaaDoor

/- A list of three packets that a statement draws, and its members. -/
namespace Go.Proofs.YtpoocenooomghaaDoor
open Go.RowKit Bs
set_option maxRecDepth 100000 in
theorem ints_keep {w w1 : World} {v : Value} (h : IntsIn w v) (g : w.grownBy w1 none) : IntsIn w1 v := by
  obtain ⟨p, n, c, hv, h1, h2, h3⟩ := h
  refine ⟨p, n, c, hv, h1, h2, fun hn => ?_⟩
  obtain ⟨b, off, hp, hb, hx⟩ := h3 hn
  refine ⟨b, off, hp, Nat.lt_of_lt_of_le hb g.size, fun i hi => ?_⟩
  obtain ⟨x, hx1, hx2⟩ := hx i hi
  exact ⟨x, hx1, g.cell hx2 (by simp)⟩
set_option maxRecDepth 100000 in
theorem grown_undrew_some {a : Nat} {w w1 : World} (g : w.drew.grownBy w1 (some a)) : w.grownBy w1 (some a) := ⟨g.os, g.tape, g.output, g.size, g.block⟩
set_option maxRecDepth 100000 in
theorem St.tp {a : Nat} {w w1 : World} (h : St a w w1) : Tp w1 a := h.2
set_option maxRecDepth 100000 in
theorem St.gr {a : Nat} {w w1 : World} (h : St a w w1) : w.grownBy w1 (some a) := h.1
/-- A packet comes back, cell by cell. -/
def AggPost (a : Nat) (w : World) (e : Ending) (w' : World) : Prop := ∃ P : Pk, e = .returned (.agg #[.int .i64 P.mode, .int .i64 P.sub, .int .i64 P.set, .int .i64 P.len, .int .i64 P.ttl, .int .i64 P.ent, .int .i64 P.ing, .int .i64 P.pro, .int .u64 (P.bits : Int), .string P.pay]) ∧ P.Wf ∧ St a w w'
/-- The cells of three packets. -/
def c30 (P Q R : Pk) : Array Value := #[.int .i64 P.mode, .int .i64 P.sub, .int .i64 P.set, .int .i64 P.len, .int .i64 P.ttl, .int .i64 P.ent, .int .i64 P.ing, .int .i64 P.pro, .int .u64 (P.bits : Int), .string P.pay,
  .int .i64 Q.mode, .int .i64 Q.sub, .int .i64 Q.set, .int .i64 Q.len, .int .i64 Q.ttl, .int .i64 Q.ent, .int .i64 Q.ing, .int .i64 Q.pro, .int .u64 (Q.bits : Int), .string Q.pay,
  .int .i64 R.mode, .int .i64 R.sub, .int .i64 R.set, .int .i64 R.len, .int .i64 R.ttl, .int .i64 R.ent, .int .i64 R.ing, .int .i64 R.pro, .int .u64 (R.bits : Int), .string R.pay]
def sel3 (P Q R : Pk) (j : Nat) : Pk := match j with | 0 => P | 1 => Q | _ => R
/-- Member j of the list. -/
def At10 (w : World) (b j : Nat) (P : Pk) : Prop :=
  w.cell? ⟨b, j * 10, none⟩ = some (.int .i64 P.mode) ∧ w.cell? ⟨b, j * 10 + 1, none⟩ = some (.int .i64 P.sub) ∧ w.cell? ⟨b, j * 10 + 2, none⟩ = some (.int .i64 P.set) ∧ w.cell? ⟨b, j * 10 + 3, none⟩ = some (.int .i64 P.len) ∧ w.cell? ⟨b, j * 10 + 4, none⟩ = some (.int .i64 P.ttl) ∧ w.cell? ⟨b, j * 10 + 5, none⟩ = some (.int .i64 P.ent) ∧ w.cell? ⟨b, j * 10 + 6, none⟩ = some (.int .i64 P.ing) ∧ w.cell? ⟨b, j * 10 + 7, none⟩ = some (.int .i64 P.pro) ∧ w.cell? ⟨b, j * 10 + 8, none⟩ = some (.int .u64 (P.bits : Int)) ∧ w.cell? ⟨b, j * 10 + 9, none⟩ = some (.string P.pay)
set_option maxRecDepth 100000 in
theorem At10.keep {w w' : World} {b j : Nat} {P : Pk} (h : At10 w b j P) (g : w.grownBy w' none) : At10 w' b j P := by
  obtain ⟨h0, h1, h2, h3, h4, h5, h6, h7, h8, h9⟩ := h
  exact ⟨g.cell h0 (by simp), g.cell h1 (by simp), g.cell h2 (by simp), g.cell h3 (by simp), g.cell h4 (by simp), g.cell h5 (by simp), g.cell h6 (by simp), g.cell h7 (by simp), g.cell h8 (by simp), g.cell h9 (by simp)⟩
set_option maxRecDepth 100000 in
theorem sel3_wf {P Q R : Pk} (h1 : P.Wf) (h2 : Q.Wf) (h3 : R.Wf) (j : Nat) : (sel3 P Q R j).Wf := by
  unfold sel3
  split <;> assumption
end Go.Proofs.YtpoocenooomghaaDoor

/- Parts of the proof, packed: AdPut, PkRd, AdTake, PkValid, PkRes, PkRead, PkMis, PkSize, PkRefs, PkRefs2, PkWrite, PkAlign, PkEncode, IoCheckR, IoSliceR, IoJoinR, PkText, PkBox, Ref, Draw, PkTape, PkTapeN, PkList, PkEncR, PkEncR2, AdWrA, AdWr, AdEnc, AdCmp, AdCf, AdLs, AdCpA, AdNew, AdOrd, AdOrd2, AdDecM, AdGrow, AdRdr, AdTapB, DbM. -/
import Derived.Test.YtnpkihioklpnmaaDo5
import Derived.Deep.CutRange
import Derived.Deep.RegionHeld3
import Derived.Lib.BufferRead
import Derived.Test.YtnpkihioklpnmaaDo1
import Derived.Test.YtnpkihioklpnmaaDo2
import Derived.Laws.OwnMore
import Derived.Deep.CutBlock
/- advert.write: what its closure does to the stream. -/
namespace Go.Proofs.Ytnpkihioklpnmaa
open Go.RowKit Bs
set_option maxRecDepth 100000 in
theorem store2c {w : World} {b : Nat} {t : TypeId} {z0 z1 : Value} (u0 u1 : Value) (h : w.heap[b]? = some (.cells #[z0, z1] t (0, 0))) :
    ((w.setCell ⟨b, 0, none⟩ u0).setCell ⟨b, 1, none⟩ u1).heap[b]? = some (.cells #[u0, u1] t (0, 0)) ∧ w.grownBy ((w.setCell ⟨b, 0, none⟩ u0).setCell ⟨b, 1, none⟩ u1) (some b) := ⟨store2 h, grown_store2 w b u0 u1⟩
end Go.Proofs.Ytnpkihioklpnmaa

/- packet: the header of a packet is read. -/
namespace Go.Proofs.Ytnpkihioklpnmaa
open Go.RowKit Bs
/-- A header's cells behind k fields. -/
def hdc (V : Nat → Nat) (k : Nat) (n : Int) : Array Value := #[.int .i64 ((if 0 < k then V 0 else 0 : Nat) : Int), .int .i64 ((if 1 < k then V 1 else 0 : Nat) : Int), .int .i64 ((if 2 < k then V 2 else 0 : Nat) : Int), .int .i64 ((if 3 < k then V 3 else 0 : Nat) : Int), .int .i64 n, .int .i64 ((if 5 < k then V 5 else 0 : Nat) : Int), .int .i64 ((if 6 < k then V 6 else 0 : Nat) : Int), .int .i64 ((if 7 < k then V 7 else 0 : Nat) : Int), .int .i64 ((if 8 < k then V 8 else 0 : Nat) : Int), .int .u64 0, .string ⟨#[]⟩, .int .i64 ((if 4 < k then V 4 else 0 : Nat) : Int), .int .i64 ((if 9 < k then V 9 else 0 : Nat) : Int)]
section
variable {W w w1 : World} {l : List Nat} {p : Option Addr} {c : Nat} {V : Nat → Nat} {g k : Nat}
end
end Go.Proofs.Ytnpkihioklpnmaa

/- advert: the reader takes a field. -/
namespace Go.Proofs.Ytnpkihioklpnmaa
open Go.RowKit Bs
end Go.Proofs.Ytnpkihioklpnmaa

/- packet: Valid. -/
namespace Go.Proofs.Ytnpkihioklpnmaa
open Go.RowKit Bs
end Go.Proofs.Ytnpkihioklpnmaa

/- packet: a header's value comes back. -/
namespace Go.Proofs.Ytnpkihioklpnmaa
open Go.RowKit Bs
/-- A header's value. -/
def hval (V : Nat → Nat) (n : Int) : Value := .agg (hdc V 10 n)
end Go.Proofs.Ytnpkihioklpnmaa

/- packet: the header of a packet is read. -/
namespace Go.Proofs.Ytnpkihioklpnmaa
open Go.RowKit Bs
end Go.Proofs.Ytnpkihioklpnmaa

/- packet: sizes; the mistakes of a header. -/
namespace Go.Proofs.Ytnpkihioklpnmaa
open Go.RowKit Bs
end Go.Proofs.Ytnpkihioklpnmaa

/- packet: Size and Plane. -/
namespace Go.Proofs.Ytnpkihioklpnmaa
open Go.RowKit Bs
end Go.Proofs.Ytnpkihioklpnmaa

/- packet: the reference's Valid, Size, Plane. -/
namespace Go.Proofs.Ytnpkihioklpnmaa
open Go.RowKit Bs
def ins (n m : Int) : Bool := decide (0 ≤ n ∧ n ≤ m)
end Go.Proofs.Ytnpkihioklpnmaa

/- packet: the reference's Size and Plane. -/
namespace Go.Proofs.Ytnpkihioklpnmaa
open Go.RowKit Bs
end Go.Proofs.Ytnpkihioklpnmaa

/- packet: the header of a packet is written. -/
namespace Go.Proofs.Ytnpkihioklpnmaa
open Go.RowKit Bs
end Go.Proofs.Ytnpkihioklpnmaa

/- Align of the program: the result lies in a block of its own. -/
namespace Go.Proofs.Ytnpkihioklpnmaa
open Go.RowKit Bs
end Go.Proofs.Ytnpkihioklpnmaa

/- packet: Encode. -/
namespace Go.Proofs.Ytnpkihioklpnmaa
open Go.RowKit Bs
section
variable {W w w1 : World} {P : Pk} {S n : Nat} {B B2 : List Bool} {p : Option Addr} {c : Nat}
end
end Go.Proofs.Ytnpkihioklpnmaa

/- The reference's check number; Same. -/
namespace Go.Proofs.Ytnpkihioklpnmaa
open Go.RowKit Bs
/-- Bytes as a string of the model. -/
def bs (l : List Nat) : ByteArray := ⟨(l.map fun x => UInt8.ofNat x).toArray⟩
/-- Whether two streams are one. -/
def same (l : List Nat) (n : Int) (l' : List Nat) (n' : Int) : Bool := n == n' && (bs l).toList == (bs l').toList
end Go.Proofs.Ytnpkihioklpnmaa

/- The reference's Slice. -/
namespace Go.Proofs.Ytnpkihioklpnmaa
open Go.RowKit Bs
end Go.Proofs.Ytnpkihioklpnmaa

/- The reference's Join and Align. -/
namespace Go.Proofs.Ytnpkihioklpnmaa
open Go.RowKit Bs
end Go.Proofs.Ytnpkihioklpnmaa

/- The tape's texts. -/
namespace Go.Proofs.Ytnpkihioklpnmaa
open Go.RowKit Bs
end Go.Proofs.Ytnpkihioklpnmaa

/- packet: a packet's block. -/
namespace Go.Proofs.Ytnpkihioklpnmaa
open Go.RowKit Bs
end Go.Proofs.Ytnpkihioklpnmaa

/- The reference's functions on bits: Count, Nth, First, Rank, Spread, Gather. -/
namespace Go.Proofs.Ytnpkihioklpnmaa
open Go.RowKit Bs

set_option maxRecDepth 100000 in
theorem Rd.form {w : World} {q : Nat → Prop} {v : Value} {vs : List Value} {n : Nat} (h : Rd w q v vs) (hn : vs.length = n) : ∃ p c, v = .slice p n c := by
  obtain ⟨p, c, hv, _⟩ := h
  exact ⟨p, c, by rw [hv, hn]⟩
set_option maxRecDepth 100000 in
theorem Rd.at1_ {w : World} {q : Nat → Prop} {p : Option Addr} {n c : Nat} {vs : List Value} {i : Nat} {x : Value} (h : Rd w q (.slice p n c) vs) (hi : vs[i]? = some x) :
    ∃ b off, p = some ⟨b, off, none⟩ ∧ w.cell? ⟨b, off + i, none⟩ = some x := by
  obtain ⟨p', c', hv, hc⟩ := h
  injection hv with e1 e2 e3
  subst e1
  obtain ⟨b, off, hp, _, hx⟩ := hc (by intro e; rw [e] at hi; simp at hi)
  exact ⟨b, off, hp, hx i x hi⟩
end Go.Proofs.Ytnpkihioklpnmaa

/- The tape's bit strings. -/
namespace Go.Proofs.Ytnpkihioklpnmaa
open Go.RowKit Bs

end Go.Proofs.Ytnpkihioklpnmaa

/- The tape's packets. -/
namespace Go.Proofs.Ytnpkihioklpnmaa
open Go.RowKit Bs
set_option maxRecDepth 100000 in
theorem tp_store {w1 w2 : World} {a b : Nat} (h : Tp w1 a) (k : w1.grownBy w2 (some b)) (hb : a < b) : Tp w2 a := tp_new2 h k hb
set_option maxRecDepth 100000 in
theorem St.store {a b : Nat} {W w w1 : World} (h : St a W w) (k : w.grownBy w1 (some b)) (hb : W.heap.size ≤ b) (ha : a < W.heap.size) : St a W w1 :=
  ⟨⟨k.os.trans h.1.os, k.tape.trans h.1.tape, k.output.trans h.1.output, Nat.le_trans h.1.size k.size, fun i hi hia => (k.block i (Nat.lt_of_lt_of_le hi h.1.size) (fun e => by have := Option.some.inj e; omega)).trans (h.1.block i hi hia)⟩, by
    exact tp_store h.2 k (by omega)⟩
end Go.Proofs.Ytnpkihioklpnmaa

/- The tape's packets, also with a mistake. -/
namespace Go.Proofs.Ytnpkihioklpnmaa
open Go.RowKit Bs
section
variable {a B : Nat} {W w w1 : World} {P P' : Pk}
end
end Go.Proofs.Ytnpkihioklpnmaa

/- A list of three packets that a statement draws, and its members. -/
namespace Go.Proofs.Ytnpkihioklpnmaa
open Go.RowKit Bs
set_option maxRecDepth 100000 in
theorem St.tp {a : Nat} {w w1 : World} (h : St a w w1) : Tp w1 a := h.2
set_option maxRecDepth 100000 in
theorem St.gr {a : Nat} {w w1 : World} (h : St a w w1) : w.grownBy w1 (some a) := h.1
end Go.Proofs.Ytnpkihioklpnmaa

/- packet: the reference's Encode. -/
namespace Go.Proofs.Ytnpkihioklpnmaa
open Go.RowKit Bs
end Go.Proofs.Ytnpkihioklpnmaa

/- packet: the reference's Encode, the walk. -/
namespace Go.Proofs.Ytnpkihioklpnmaa
open Go.RowKit Bs
section
variable {W w w1 : World} {P : Pk} {F D S n : Nat} {B B2 : List Bool} {p : Option Addr} {c : Nat} {q : Nat → Prop}
end
end Go.Proofs.Ytnpkihioklpnmaa

/- advert.write. -/
namespace Go.Proofs.Ytnpkihioklpnmaa
open Go.RowKit Bs
set_option maxRecDepth 100000 in
theorem vRe_all {r : Int} : ∀ (l : List T3) (last : Int), 0 ≤ last → vRe r last l = true → ∀ x ∈ l, (1 ≤ x.a ∧ x.a ≤ 99) ∧ (1 ≤ x.b ∧ x.b ≤ 1000) ∧ 0 ≤ x.c ∧ x.c ≤ 1000
  | [], _, _, _, x, hx => by cases hx
  | a :: t, last, h0, h, x, hx => by
    rw [vRe, Bool.and_eq_true] at h
    have h1 := of_decide_eq_true h.1
    rcases List.mem_cons.1 hx with rfl | hx
    · exact ⟨⟨by omega, h1.2.1⟩, h1.2.2.2.1, h1.2.2.2.2⟩
    · exact vRe_all t a.a (by omega) h.2 x hx
set_option maxRecDepth 100000 in
theorem vCm_all : ∀ (l : List T3) (last : Int), -1 ≤ last → vCm last l = true → ∀ x ∈ l, (0 ≤ x.a ∧ x.a ≤ 7) ∧ (1 ≤ x.b ∧ x.b ≤ 256) ∧ (x.c = 8 ∨ x.c = 16 ∨ x.c = 32 ∨ x.c = 64)
  | [], _, _, _, x, hx => by cases hx
  | a :: t, last, h0, h, x, hx => by
    rw [vCm, Bool.and_eq_true] at h
    have h1 := of_decide_eq_true h.1
    rcases List.mem_cons.1 hx with rfl | hx
    · exact ⟨⟨by omega, h1.2.1⟩, h1.2.2.1, h1.2.2.2⟩
    · exact vCm_all t a.a (by omega) h.2 x hx
/-- What a valid advert keeps within. -/
structure VA (A : Ad) : Prop where
  r : 1 ≤ A.r ∧ A.r ≤ 99
  q : 1 ≤ A.q ∧ A.q ≤ 1000000
  ll : A.L.length ≤ 23
  cl : A.C.length ≤ 8
  L : ∀ x ∈ A.L, (1 ≤ x.a ∧ x.a ≤ 99) ∧ (1 ≤ x.b ∧ x.b ≤ 1000) ∧ 0 ≤ x.c ∧ x.c ≤ 1000
  C : ∀ x ∈ A.C, (0 ≤ x.a ∧ x.a ≤ 7) ∧ (1 ≤ x.b ∧ x.b ≤ 256) ∧ (x.c = 8 ∨ x.c = 16 ∨ x.c = 32 ∨ x.c = 64)
set_option maxRecDepth 100000 in
theorem VA.of {A : Ad} (h : vAd A = true) : VA A := by
  unfold vAd vHd vClaims at h
  simp only [Bool.and_eq_true, decide_eq_true_eq] at h
  obtain ⟨⟨h1, h2, h3⟩, h4, h5, h6⟩ := h
  exact ⟨h1, h2, h3, h5, vRe_all _ _ (by decide) h4, vCm_all _ _ (by decide) h6⟩
set_option maxRecDepth 100000 in
theorem abit_any (b : Bool) (w : World) :
    Calls Try.prog 113 #[.bool b] w fun e w' => e = .returned (.int .i64 ((b.toNat : Nat) : Int)) ∧ w = w' := by
  cases b with
  | false =>
    go_enter Try.func113, Try.ntmps113
    go_wp2_with fail
    go_ret
    exact ⟨rfl, rfl⟩
  | true =>
    go_enter Try.func113, Try.ntmps113
    go_wp2_with fail
    go_ret
    exact ⟨rfl, rfl⟩
set_option maxRecDepth 100000 in
theorem rdfA_old {w : World} {q : Nat → Prop} {v : Value} {n : Nat} {xs : List Value} (h : RdF w q v n xs) : RdF w (· < w.heap.size) v n xs := by
  obtain ⟨p, c, hv, hc⟩ := h
  refine ⟨p, c, hv, fun hne => ?_⟩
  obtain ⟨b, off, hp, hb, hx⟩ := hc hne
  obtain ⟨x, hx0⟩ : ∃ x, xs[0]? = some x := by
    cases xs with
    | nil => exact absurd rfl hne
    | cons a t => exact ⟨a, rfl⟩
  exact ⟨b, off, hp, World.block_lt_of_cell? w ⟨b, off + 0, none⟩ (hx 0 x hx0), hx⟩
set_option maxRecDepth 100000 in
theorem AdOk.old {w : World} {q : Nat → Prop} {A : Ad} (h : AdOk w q A) : AdOk w (· < w.heap.size) A := ⟨rdfA_old h.l, rdfA_old h.c, h.hl, h.hc⟩
end Go.Proofs.Ytnpkihioklpnmaa

/- advert.write. -/
namespace Go.Proofs.Ytnpkihioklpnmaa
open Go.RowKit Bs
end Go.Proofs.Ytnpkihioklpnmaa

/- advert.Encode. -/
namespace Go.Proofs.Ytnpkihioklpnmaa
open Go.RowKit Bs
end Go.Proofs.Ytnpkihioklpnmaa

/- advert: the orders of links and of claims. -/
namespace Go.Proofs.Ytnpkihioklpnmaa
open Go.RowKit Bs
def cmp3 (x y : T3) : Int := orV [cmpV x.a y.a, cmpV x.b y.b, cmpV x.c y.c]
set_option maxRecDepth 100000 in
theorem keep6A {t : TypeId} {w5 w' : World} {b g : Nat} {x y : T3} (h : w5.heap[b]? = some (.cells #[.int .i64 x.a, .int .i64 x.b, .int .i64 x.c] t (0, 0)) ∧ w5.heap[g]? = some (.cells #[.int .i64 y.a, .int .i64 y.b, .int .i64 y.c] t (0, 0))) (hg : Hid (w5.grownBy w' none)) :
    w'.cell? ⟨b, 0, none⟩ = some (.int .i64 x.a) ∧ w'.cell? ⟨b, 1, none⟩ = some (.int .i64 x.b) ∧ w'.cell? ⟨b, 2, none⟩ = some (.int .i64 x.c) ∧ w'.cell? ⟨g, 0, none⟩ = some (.int .i64 y.a) ∧ w'.cell? ⟨g, 1, none⟩ = some (.int .i64 y.b) ∧ w'.cell? ⟨g, 2, none⟩ = some (.int .i64 y.c) ∧ Hid (w5.grownBy w' none) := by
  obtain ⟨a0, a1, a2⟩ := row3 (kept_row h.1 hg.out (by simp))
  obtain ⟨b0, b1, b2⟩ := row3 (kept_row h.2 hg.out (by simp))
  exact ⟨a0, a1, a2, b0, b1, b2, hg⟩
set_option maxRecDepth 100000 in
theorem rd_trip (w : World) (x y z : Int) (q : Nat → Prop) (hq : q w.heap.size) : Rd (w.alloc (.cells #[.int .i64 x, .int .i64 y, .int .i64 z] 3)) q (.slice (some ⟨w.heap.size, 0, none⟩) 3 3) ([x, y, z].map (fun z => Value.int .i64 z)) := by
  have hb : (w.alloc (.cells #[.int .i64 x, .int .i64 y, .int .i64 z] 3)).heap[w.heap.size]? = some (.cells #[.int .i64 x, .int .i64 y, .int .i64 z] 3 (0, 0)) := heap_alloc_new w _
  refine ⟨_, 3, rfl, fun _ => ⟨_, _, rfl, hq, fun i u hi => ?_⟩⟩
  rw [Nat.zero_add, cell_of_row _ _ _ _ _ _ hb]
  simpa using hi
set_option maxRecDepth 100000 in
theorem two_boxesA (w : World) (x y : T3) (t : TypeId) :
    (((w.alloc (.cells #[.int .i64 x.a, .int .i64 x.b, .int .i64 x.c] t)).alloc (.cells #[.int .i64 y.a, .int .i64 y.b, .int .i64 y.c] t)).heap[w.heap.size]? = some (.cells #[.int .i64 x.a, .int .i64 x.b, .int .i64 x.c] t (0, 0)) ∧
     ((w.alloc (.cells #[.int .i64 x.a, .int .i64 x.b, .int .i64 x.c] t)).alloc (.cells #[.int .i64 y.a, .int .i64 y.b, .int .i64 y.c] t)).heap[w.heap.size + 1]? = some (.cells #[.int .i64 y.a, .int .i64 y.b, .int .i64 y.c] t (0, 0))) ∧
    w.grownBy ((w.alloc (.cells #[.int .i64 x.a, .int .i64 x.b, .int .i64 x.c] t)).alloc (.cells #[.int .i64 y.a, .int .i64 y.b, .int .i64 y.c] t)) none := by
  have g1 := World.grownBy_alloc w (.cells #[.int .i64 x.a, .int .i64 x.b, .int .i64 x.c] t) none
  have g2 := World.grownBy_alloc (w.alloc (.cells #[.int .i64 x.a, .int .i64 x.b, .int .i64 x.c] t)) (.cells #[.int .i64 y.a, .int .i64 y.b, .int .i64 y.c] t) none
  have b1 := kept_row (heap_alloc_new w (.cells #[.int .i64 x.a, .int .i64 x.b, .int .i64 x.c] t)) g2 (by simp)
  have b2 := heap_alloc_new (w.alloc (.cells #[.int .i64 x.a, .int .i64 x.b, .int .i64 x.c] t)) (.cells #[.int .i64 y.a, .int .i64 y.b, .int .i64 y.c] t)
  have s1 : (w.alloc (.cells #[.int .i64 x.a, .int .i64 x.b, .int .i64 x.c] t)).heap.size = w.heap.size + 1 := by simp
  rw [s1] at b2
  exact ⟨⟨b1, b2⟩, grown_trans g1 g2⟩
set_option maxRecDepth 100000 in
set_option maxHeartbeats 3200000 in
theorem acmpR_any (x y : T3) (w : World) :
    Calls Try.prog 115 #[.agg #[.int .i64 x.a, .int .i64 x.b, .int .i64 x.c], .agg #[.int .i64 y.a, .int .i64 y.b, .int .i64 y.c]] w fun e w' => e = .returned (.int .i64 (cmp3 x y)) ∧ w.grownBy w' none := by
  have HZ := Lib.hid (two_boxesA w x y 73)
  have HB := Lib.hid HZ.out.1
  have K := Lib.hid HZ.out.2
  clear HZ
  go_enter Try.func115, Try.ntmps115
  go_upto_region 1 with fail
  generalize (w.alloc _).alloc _ = wa at *
  have GZ : Hid (wa.grownBy wa none) := Lib.hid (grown_refl _ _)
  obtain ⟨a0, a1, a2, b0, b1, b2, -⟩ := keep6A HB.out GZ
  go_region_held3 (fun w' => w'.cell? ⟨w.heap.size, 0, none⟩ = some (.int .i64 x.a) ∧ w'.cell? ⟨w.heap.size, 1, none⟩ = some (.int .i64 x.b) ∧ w'.cell? ⟨w.heap.size, 2, none⟩ = some (.int .i64 x.c) ∧ w'.cell? ⟨w.heap.size + 1, 0, none⟩ = some (.int .i64 y.a) ∧ w'.cell? ⟨w.heap.size + 1, 1, none⟩ = some (.int .i64 y.b) ∧ w'.cell? ⟨w.heap.size + 1, 2, none⟩ = some (.int .i64 y.c) ∧ Hid (wa.grownBy w' none))
    (first | with_reducible exact keep6A HB.out (hid_drew GZ) | with_reducible exact keep6A HB.out (hid_drew (hid_more GZ (World.grownBy_alloc _ _ _))) | (go_split_ands; with_reducible refine keep6A HB.out ?_; with_reducible assumption) | (go_split_ands; with_reducible refine keep6A HB.out (hid_more ?_ (World.grownBy_alloc _ _ _)); with_reducible assumption))
    (first
      | (go_at_call 112; refine (tcmp_any _ _ _).mono ?_; rintro e w' ⟨rfl, rfl⟩)
      | (go_at_call 111; refine (tor_any [cmpV x.a y.a, cmpV x.b y.b, cmpV x.c y.c] _ _ (fun _ => True) _ ?_ (by simp)).mono ?_; exact (rd_trip _ _ _ _ _ trivial).keep (grown_drew (grown_refl _ _)); rintro e w' ⟨rfl, rfl⟩))
  all_goals
    go_split_ands
    go_wp2_with fail
    go_ret
    exact ⟨rfl, grown_trans K.out (Hid.out (by assumption))⟩
set_option maxRecDepth 100000 in
set_option maxHeartbeats 3200000 in
theorem acmpC_any (x y : T3) (w : World) :
    Calls Try.prog 117 #[.agg #[.int .i64 x.a, .int .i64 x.b, .int .i64 x.c], .agg #[.int .i64 y.a, .int .i64 y.b, .int .i64 y.c]] w fun e w' => e = .returned (.int .i64 (cmp3 x y)) ∧ w.grownBy w' none := by
  have HZ := Lib.hid (two_boxesA w x y 62)
  have HB := Lib.hid HZ.out.1
  have K := Lib.hid HZ.out.2
  clear HZ
  go_enter Try.func117, Try.ntmps117
  go_upto_region 1 with fail
  generalize (w.alloc _).alloc _ = wa at *
  have GZ : Hid (wa.grownBy wa none) := Lib.hid (grown_refl _ _)
  obtain ⟨a0, a1, a2, b0, b1, b2, -⟩ := keep6A HB.out GZ
  go_region_held3 (fun w' => w'.cell? ⟨w.heap.size, 0, none⟩ = some (.int .i64 x.a) ∧ w'.cell? ⟨w.heap.size, 1, none⟩ = some (.int .i64 x.b) ∧ w'.cell? ⟨w.heap.size, 2, none⟩ = some (.int .i64 x.c) ∧ w'.cell? ⟨w.heap.size + 1, 0, none⟩ = some (.int .i64 y.a) ∧ w'.cell? ⟨w.heap.size + 1, 1, none⟩ = some (.int .i64 y.b) ∧ w'.cell? ⟨w.heap.size + 1, 2, none⟩ = some (.int .i64 y.c) ∧ Hid (wa.grownBy w' none))
    (first | with_reducible exact keep6A HB.out (hid_drew GZ) | with_reducible exact keep6A HB.out (hid_drew (hid_more GZ (World.grownBy_alloc _ _ _))) | (go_split_ands; with_reducible refine keep6A HB.out ?_; with_reducible assumption) | (go_split_ands; with_reducible refine keep6A HB.out (hid_more ?_ (World.grownBy_alloc _ _ _)); with_reducible assumption))
    (first
      | (go_at_call 112; refine (tcmp_any _ _ _).mono ?_; rintro e w' ⟨rfl, rfl⟩)
      | (go_at_call 111; refine (tor_any [cmpV x.a y.a, cmpV x.b y.b, cmpV x.c y.c] _ _ (fun _ => True) _ ?_ (by simp)).mono ?_; exact (rd_trip _ _ _ _ _ trivial).keep (grown_drew (grown_refl _ _)); rintro e w' ⟨rfl, rfl⟩))
  all_goals
    go_split_ands
    go_wp2_with fail
    go_ret
    exact ⟨rfl, grown_trans K.out (Hid.out (by assumption))⟩
end Go.Proofs.Ytnpkihioklpnmaa

/- advert: slices.CompareFunc of links and of claims. -/
namespace Go.Proofs.Ytnpkihioklpnmaa
open Go.RowKit Bs
def cfL : List T3 → List T3 → Int
  | [], [] => 0
  | [], _ :: _ => -1
  | _ :: _, [] => 1
  | x :: s, y :: t => if cmp3 x y = 0 then cfL s t else cmp3 x y
set_option maxRecDepth 100000 in
theorem cfL_step {L M : List T3} {k : Nat} {x y : T3} (hx : L[k]? = some x) (hy : M[k]? = some y) : cfL (L.drop k) (M.drop k) = if cmp3 x y = 0 then cfL (L.drop (k + 1)) (M.drop (k + 1)) else cmp3 x y := by
  rw [drop_at hx, drop_at hy, cfL]
set_option maxRecDepth 100000 in
theorem cfL_more {L M : List T3} {k : Nat} {x : T3} (hx : L[k]? = some x) (hy : M.length ≤ k) : cfL (L.drop k) (M.drop k) = 1 := by
  rw [drop_at hx, List.drop_eq_nil_of_le hy, cfL]
set_option maxRecDepth 100000 in
theorem cfL_end {L M : List T3} : cfL (L.drop L.length) (M.drop L.length) = if L.length < M.length then -1 else 0 := by
  rw [List.drop_length]
  by_cases h : L.length < M.length
  · rw [if_pos h, drop_at (List.getElem?_eq_getElem h), cfL]
  · rw [if_neg h, List.drop_eq_nil_of_le (by omega), cfL]
set_option maxRecDepth 100000 in
set_option maxHeartbeats 6400000 in
theorem acfR_any (L M : List T3) (p p2 : Option Addr) (c c2 : Nat) (q q2 : Nat → Prop) (w : World) (hL : Rd3 w q (.slice p L.length c) L) (hM : Rd3 w q2 (.slice p2 M.length c2) M) (hm : L.length ≤ 9223372036854775807) (hm2 : M.length ≤ 9223372036854775807) :
    Calls Try.prog 131 #[.slice p L.length c, .slice p2 M.length c2, .func (.func 115) #[] #[]] w fun e w' => e = .returned (.int .i64 (cfL L M)) ∧ w.grownBy w' none := by
  have HR := Lib.hid hL
  have HR2 := Lib.hid hM
  clear hL hM
  obtain ⟨X, hX⟩ : ∃ X, cfL L M = X := ⟨_, rfl⟩
  rw [hX]
  have I0 : Hid (cfL (L.drop 0) (M.drop 0) = X) := Lib.hid hX
  have G0 : Hid (w.grownBy w none) := Lib.hid (grown_refl _ _)
  clear hX
  go_enter Try.func131, Try.ntmps131
  go_wp2_with fail
  go_loopw [13] (fun a wr => ∃ k : Nat, k ≤ L.length ∧ a = .int .i64 (k : Int) ∧ Hid (cfL (L.drop k) (M.drop k) = X) ∧ Hid (w.grownBy wr none)) (fun a _ => L.length - (RowKit.intOf a).toNat)
  case atStart => exact ⟨0, Nat.zero_le _, rfl, I0, G0⟩
  case round =>
    obtain ⟨w2, rfl⟩ : ∃ w2, w2 = wr := ⟨_, rfl⟩
    obtain ⟨k, hk, rfl, HI, HG⟩ := hrel
    clear I0 G0
    by_cases hlt : k < L.length
    · obtain ⟨-, b, off, rfl, -, hc⟩ := rd3_cells (HR.out.keep HG.out) (by omega)
      obtain ⟨x, hx⟩ : ∃ x, L[k]? = some x := ⟨_, List.getElem?_eq_getElem hlt⟩
      obtain ⟨a0, a1, a2⟩ := hc k x hx
      have HXK := Lib.hid hx
      have HBX := Lib.hid (heap_alloc_new w2 (.cells #[.int .i64 x.a, .int .i64 x.b, .int .i64 x.c] 73))
      have HGA := Lib.hid (World.grownBy_alloc w2 (.cells #[.int .i64 x.a, .int .i64 x.b, .int .i64 x.c] 73) none)
      clear hc hx
      go_upto_region 4 with fail
      clear a0 a1 a2
      generalize w2.alloc _ = w3 at *
      have HG3 := Lib.hid (grown_trans HG.out HGA.out)
      clear HG HGA
      by_cases hl2 : k < M.length
      · have hl2' : ¬ ((M.length : Int) ≤ (k : Int)) := by omega
        obtain ⟨-, b2, off2, rfl, -, hc⟩ := rd3_cells (HR2.out.keep HG3.out) (by omega)
        obtain ⟨y, hy⟩ : ∃ y, M[k]? = some y := ⟨_, List.getElem?_eq_getElem hl2⟩
        obtain ⟨a0, a1, a2⟩ := hc k y hy
        have HS := Lib.hid (HI.out.symm.trans (cfL_step HXK.out hy))
        have HBY := Lib.hid (heap_alloc_new w3 (.cells #[.int .i64 y.a, .int .i64 y.b, .int .i64 y.c] 73))
        have HGB := Lib.hid (World.grownBy_alloc w3 (.cells #[.int .i64 y.a, .int .i64 y.b, .int .i64 y.c] 73) none)
        clear hc hy HI HXK
        go_upto_region 7 with fail
        clear a0 a1 a2
        generalize w3.alloc _ = w4 at *
        have HG4 := Lib.hid (grown_trans HG3.out HGB.out)
        have HBX4 := Lib.hid (kept_row HBX.out HGB.out (by simp))
        clear HG3 HGB HBX
        obtain ⟨d0, d1, d2⟩ := row3 HBX4.out
        obtain ⟨e0, e1, e2⟩ := row3 HBY.out
        go_wp2_with fail
        refine (acmpR_any x y _).mono ?_
        rintro e w5 ⟨rfl, hg⟩
        have HG5 := Lib.hid (grown_trans HG4.out hg)
        clear hg HG4 d0 d1 d2 e0 e1 e2 HBX4 HBY
        obtain ⟨z, hz⟩ : ∃ z, cmp3 x y = z := ⟨_, rfl⟩
        rw [hz] at HS ⊢
        clear hz
        by_cases h0 : z = 0
        · subst h0
          have HI2 : Hid (cfL (L.drop (k + 1)) (M.drop (k + 1)) = X) := Lib.hid (by rw [HS.out, if_pos rfl])
          clear HS
          go_wp2_with fail
          exact ⟨⟨k + 1, by omega, congrArg _ (by omega), HI2, HG5⟩, by simp only [RowKit.intOf]; omega⟩
        · have hX : X = z := by rw [HS.out, if_neg h0]
          have h0' : (z == 0) = false := by simpa using h0
          subst hX
          clear h0 HS
          go_wp2_with fail
          go_ret
          exact ⟨rfl, HG5.out⟩
      · have hl2' : (M.length : Int) ≤ (k : Int) := by omega
        have hX : X = 1 := by rw [← HI.out, cfL_more HXK.out (by omega)]
        subst hX
        go_wp2_with fail
        go_ret
        exact ⟨rfl, HG3.out⟩
    · obtain rfl : k = L.length := by omega
      have HE := Lib.hid (HI.out.symm.trans cfL_end)
      by_cases h : L.length < M.length
      · have h' : (L.length : Int) < (M.length : Int) := by omega
        have hX : X = -1 := by rw [HE.out, if_pos h]
        subst hX
        go_wp2_with fail
        go_ret
        exact ⟨rfl, HG.out⟩
      · have h' : ¬ (L.length : Int) < (M.length : Int) := by omega
        have hX : X = 0 := by rw [HE.out, if_neg h]
        subst hX
        go_wp2_with fail
        go_ret
        exact ⟨rfl, HG.out⟩
set_option maxRecDepth 100000 in
set_option maxHeartbeats 6400000 in
theorem acfC_any (L M : List T3) (p p2 : Option Addr) (c c2 : Nat) (q q2 : Nat → Prop) (w : World) (hL : Rd3 w q (.slice p L.length c) L) (hM : Rd3 w q2 (.slice p2 M.length c2) M) (hm : L.length ≤ 9223372036854775807) (hm2 : M.length ≤ 9223372036854775807) :
    Calls Try.prog 132 #[.slice p L.length c, .slice p2 M.length c2, .func (.func 117) #[] #[]] w fun e w' => e = .returned (.int .i64 (cfL L M)) ∧ w.grownBy w' none := by
  have HR := Lib.hid hL
  have HR2 := Lib.hid hM
  clear hL hM
  obtain ⟨X, hX⟩ : ∃ X, cfL L M = X := ⟨_, rfl⟩
  rw [hX]
  have I0 : Hid (cfL (L.drop 0) (M.drop 0) = X) := Lib.hid hX
  have G0 : Hid (w.grownBy w none) := Lib.hid (grown_refl _ _)
  clear hX
  go_enter Try.func132, Try.ntmps132
  go_wp2_with fail
  go_loopw [13] (fun a wr => ∃ k : Nat, k ≤ L.length ∧ a = .int .i64 (k : Int) ∧ Hid (cfL (L.drop k) (M.drop k) = X) ∧ Hid (w.grownBy wr none)) (fun a _ => L.length - (RowKit.intOf a).toNat)
  case atStart => exact ⟨0, Nat.zero_le _, rfl, I0, G0⟩
  case round =>
    obtain ⟨w2, rfl⟩ : ∃ w2, w2 = wr := ⟨_, rfl⟩
    obtain ⟨k, hk, rfl, HI, HG⟩ := hrel
    clear I0 G0
    by_cases hlt : k < L.length
    · obtain ⟨-, b, off, rfl, -, hc⟩ := rd3_cells (HR.out.keep HG.out) (by omega)
      obtain ⟨x, hx⟩ : ∃ x, L[k]? = some x := ⟨_, List.getElem?_eq_getElem hlt⟩
      obtain ⟨a0, a1, a2⟩ := hc k x hx
      have HXK := Lib.hid hx
      have HBX := Lib.hid (heap_alloc_new w2 (.cells #[.int .i64 x.a, .int .i64 x.b, .int .i64 x.c] 62))
      have HGA := Lib.hid (World.grownBy_alloc w2 (.cells #[.int .i64 x.a, .int .i64 x.b, .int .i64 x.c] 62) none)
      clear hc hx
      go_upto_region 4 with fail
      clear a0 a1 a2
      generalize w2.alloc _ = w3 at *
      have HG3 := Lib.hid (grown_trans HG.out HGA.out)
      clear HG HGA
      by_cases hl2 : k < M.length
      · have hl2' : ¬ ((M.length : Int) ≤ (k : Int)) := by omega
        obtain ⟨-, b2, off2, rfl, -, hc⟩ := rd3_cells (HR2.out.keep HG3.out) (by omega)
        obtain ⟨y, hy⟩ : ∃ y, M[k]? = some y := ⟨_, List.getElem?_eq_getElem hl2⟩
        obtain ⟨a0, a1, a2⟩ := hc k y hy
        have HS := Lib.hid (HI.out.symm.trans (cfL_step HXK.out hy))
        have HBY := Lib.hid (heap_alloc_new w3 (.cells #[.int .i64 y.a, .int .i64 y.b, .int .i64 y.c] 62))
        have HGB := Lib.hid (World.grownBy_alloc w3 (.cells #[.int .i64 y.a, .int .i64 y.b, .int .i64 y.c] 62) none)
        clear hc hy HI HXK
        go_upto_region 7 with fail
        clear a0 a1 a2
        generalize w3.alloc _ = w4 at *
        have HG4 := Lib.hid (grown_trans HG3.out HGB.out)
        have HBX4 := Lib.hid (kept_row HBX.out HGB.out (by simp))
        clear HG3 HGB HBX
        obtain ⟨d0, d1, d2⟩ := row3 HBX4.out
        obtain ⟨e0, e1, e2⟩ := row3 HBY.out
        go_wp2_with fail
        refine (acmpC_any x y _).mono ?_
        rintro e w5 ⟨rfl, hg⟩
        have HG5 := Lib.hid (grown_trans HG4.out hg)
        clear hg HG4 d0 d1 d2 e0 e1 e2 HBX4 HBY
        obtain ⟨z, hz⟩ : ∃ z, cmp3 x y = z := ⟨_, rfl⟩
        rw [hz] at HS ⊢
        clear hz
        by_cases h0 : z = 0
        · subst h0
          have HI2 : Hid (cfL (L.drop (k + 1)) (M.drop (k + 1)) = X) := Lib.hid (by rw [HS.out, if_pos rfl])
          clear HS
          go_wp2_with fail
          exact ⟨⟨k + 1, by omega, congrArg _ (by omega), HI2, HG5⟩, by simp only [RowKit.intOf]; omega⟩
        · have hX : X = z := by rw [HS.out, if_neg h0]
          have h0' : (z == 0) = false := by simpa using h0
          subst hX
          clear h0 HS
          go_wp2_with fail
          go_ret
          exact ⟨rfl, HG5.out⟩
      · have hl2' : (M.length : Int) ≤ (k : Int) := by omega
        have hX : X = 1 := by rw [← HI.out, cfL_more HXK.out (by omega)]
        subst hX
        go_wp2_with fail
        go_ret
        exact ⟨rfl, HG3.out⟩
    · obtain rfl : k = L.length := by omega
      have HE := Lib.hid (HI.out.symm.trans cfL_end)
      by_cases h : L.length < M.length
      · have h' : (L.length : Int) < (M.length : Int) := by omega
        have hX : X = -1 := by rw [HE.out, if_pos h]
        subst hX
        go_wp2_with fail
        go_ret
        exact ⟨rfl, HG.out⟩
      · have h' : ¬ (L.length : Int) < (M.length : Int) := by omega
        have hX : X = 0 := by rw [HE.out, if_neg h]
        subst hX
        go_wp2_with fail
        go_ret
        exact ⟨rfl, HG.out⟩
end Go.Proofs.Ytnpkihioklpnmaa

/- advert: compareLists, compare. -/
namespace Go.Proofs.Ytnpkihioklpnmaa
open Go.RowKit Bs
def cLs (L M : List T3) : Int := orV [cmpV (L.length : Int) (M.length : Int), cfL L M]
set_option maxRecDepth 100000 in
set_option maxHeartbeats 3200000 in
theorem aclR_any (L M : List T3) (p p2 : Option Addr) (c c2 : Nat) (q q2 : Nat → Prop) (w : World) (hL : Rd3 w q (.slice p L.length c) L) (hM : Rd3 w q2 (.slice p2 M.length c2) M) (hm : L.length ≤ 9223372036854775807) (hm2 : M.length ≤ 9223372036854775807) :
    Calls Try.prog 114 #[.slice p L.length c, .slice p2 M.length c2, .func (.func 115) #[] #[]] w fun e w' => e = .returned (.int .i64 (cLs L M)) ∧ w.grownBy w' none := by
  have HR := Lib.hid (And.intro hL hM)
  clear hL hM
  go_enter Try.func114, Try.ntmps114
  go_wp2_with fail
  refine (tcmp_any _ _ _).mono ?_
  rintro e w' ⟨rfl, rfl⟩
  go_wp2_with fail
  refine (acfR_any L M p p2 c c2 q q2 _ HR.out.1 HR.out.2 hm hm2).mono ?_
  rintro e w1 ⟨rfl, hg⟩
  have HG := Lib.hid hg
  clear hg HR
  go_wp2_with fail
  refine (tor_any [cmpV (L.length : Int) (M.length : Int), cfL L M] _ _ (fun _ => True) _ (rd_pair _ _ _ _ trivial) (by simp)).mono ?_
  rintro e w' ⟨rfl, rfl⟩
  go_wp2_with fail
  go_ret
  exact ⟨rfl, grown_trans HG.out (World.grownBy_alloc _ _ _)⟩
set_option maxRecDepth 100000 in
set_option maxHeartbeats 3200000 in
theorem aclC_any (L M : List T3) (p p2 : Option Addr) (c c2 : Nat) (q q2 : Nat → Prop) (w : World) (hL : Rd3 w q (.slice p L.length c) L) (hM : Rd3 w q2 (.slice p2 M.length c2) M) (hm : L.length ≤ 9223372036854775807) (hm2 : M.length ≤ 9223372036854775807) :
    Calls Try.prog 116 #[.slice p L.length c, .slice p2 M.length c2, .func (.func 117) #[] #[]] w fun e w' => e = .returned (.int .i64 (cLs L M)) ∧ w.grownBy w' none := by
  have HR := Lib.hid (And.intro hL hM)
  clear hL hM
  go_enter Try.func116, Try.ntmps116
  go_wp2_with fail
  refine (tcmp_any _ _ _).mono ?_
  rintro e w' ⟨rfl, rfl⟩
  go_wp2_with fail
  refine (acfC_any L M p p2 c c2 q q2 _ HR.out.1 HR.out.2 hm hm2).mono ?_
  rintro e w1 ⟨rfl, hg⟩
  have HG := Lib.hid hg
  clear hg HR
  go_wp2_with fail
  refine (tor_any [cmpV (L.length : Int) (M.length : Int), cfL L M] _ _ (fun _ => True) _ (rd_pair _ _ _ _ trivial) (by simp)).mono ?_
  rintro e w' ⟨rfl, rfl⟩
  go_wp2_with fail
  go_ret
  exact ⟨rfl, grown_trans HG.out (World.grownBy_alloc _ _ _)⟩
end Go.Proofs.Ytnpkihioklpnmaa

/- advert: compare. -/
namespace Go.Proofs.Ytnpkihioklpnmaa
open Go.RowKit Bs
/-- The order of adverts. -/
def cmpA (A B : Ad) : Int := orV [cmpV A.r B.r, cmpV A.q B.q, cmpV ((A.cp.toNat : Nat) : Int) ((B.cp.toNat : Nat) : Int), cLs A.L B.L, cLs A.C B.C]
set_option maxRecDepth 100000 in
theorem keepTA {w5 w' : World} {b g : Nat} {A B : Ad} (h : w5.heap[b]? = some (.cells (adC A) 38 (0, 0)) ∧ w5.heap[g]? = some (.cells (adC B) 38 (0, 0))) (hg : Hid (w5.grownBy w' none)) :
    w'.cell? ⟨b, 0, none⟩ = some (.int .i64 A.r) ∧ w'.cell? ⟨b, 1, none⟩ = some (.int .i64 A.q) ∧ w'.cell? ⟨b, 2, none⟩ = some (.bool A.cp) ∧ w'.cell? ⟨b, 3, none⟩ = some (.slice A.pL A.L.length A.cL) ∧ w'.cell? ⟨b, 4, none⟩ = some (.slice A.pC A.C.length A.cC) ∧
    w'.cell? ⟨g, 0, none⟩ = some (.int .i64 B.r) ∧ w'.cell? ⟨g, 1, none⟩ = some (.int .i64 B.q) ∧ w'.cell? ⟨g, 2, none⟩ = some (.bool B.cp) ∧ w'.cell? ⟨g, 3, none⟩ = some (.slice B.pL B.L.length B.cL) ∧ w'.cell? ⟨g, 4, none⟩ = some (.slice B.pC B.C.length B.cC) ∧ Hid (w5.grownBy w' none) := by
  obtain ⟨a0, a1, a2, a3, a4⟩ := ad_facts (kept_row h.1 hg.out (by simp))
  obtain ⟨b0, b1, b2, b3, b4⟩ := ad_facts (kept_row h.2 hg.out (by simp))
  exact ⟨a0, a1, a2, a3, a4, b0, b1, b2, b3, b4, hg⟩
set_option maxRecDepth 100000 in
theorem rd_five (w : World) (x y z u v : Int) (q : Nat → Prop) (hq : q w.heap.size) : Rd (w.alloc (.cells #[.int .i64 x, .int .i64 y, .int .i64 z, .int .i64 u, .int .i64 v] 3)) q (.slice (some ⟨w.heap.size, 0, none⟩) 5 5) ([x, y, z, u, v].map (fun z => Value.int .i64 z)) := by
  have hb : (w.alloc (.cells #[.int .i64 x, .int .i64 y, .int .i64 z, .int .i64 u, .int .i64 v] 3)).heap[w.heap.size]? = some (.cells #[.int .i64 x, .int .i64 y, .int .i64 z, .int .i64 u, .int .i64 v] 3 (0, 0)) := heap_alloc_new w _
  refine ⟨_, 5, rfl, fun _ => ⟨_, _, rfl, hq, fun i u hi => ?_⟩⟩
  rw [Nat.zero_add, cell_of_row _ _ _ _ _ _ hb]
  simpa using hi
structure TwoA (w : World) (A B : Ad) (q q2 : Nat → Prop) : Prop where
  a : AdOk w q A
  b : AdOk w q2 B
set_option maxRecDepth 100000 in
theorem aclR_at {w0 w : World} {A B : Ad} {q q2 : Nat → Prop} (h : Hid (w0.grownBy w none)) (H : Hid (TwoA w0 A B q q2)) :
    Calls Try.prog 114 #[.slice A.pL A.L.length A.cL, .slice B.pL B.L.length B.cL, .func (.func 115) #[] #[]] w fun e w' => e = .returned (.int .i64 (cLs A.L B.L)) ∧ w.grownBy w' none :=
  aclR_any A.L B.L _ _ _ _ _ _ w (H.out.a.keep h.out).l (H.out.b.keep h.out).l (Nat.le_trans H.out.a.hl.1 H.out.a.hl.2) (Nat.le_trans H.out.b.hl.1 H.out.b.hl.2)
set_option maxRecDepth 100000 in
theorem aclC_at {w0 w : World} {A B : Ad} {q q2 : Nat → Prop} (h : Hid (w0.grownBy w none)) (H : Hid (TwoA w0 A B q q2)) :
    Calls Try.prog 116 #[.slice A.pC A.C.length A.cC, .slice B.pC B.C.length B.cC, .func (.func 117) #[] #[]] w fun e w' => e = .returned (.int .i64 (cLs A.C B.C)) ∧ w.grownBy w' none :=
  aclC_any A.C B.C _ _ _ _ _ _ w (H.out.a.keep h.out).c (H.out.b.keep h.out).c (Nat.le_trans H.out.a.hc.1 H.out.a.hc.2) (Nat.le_trans H.out.b.hc.1 H.out.b.hc.2)
set_option maxRecDepth 100000 in
theorem two_ads (w : World) (A B : Ad) : (((w.alloc (.cells (adC A) 38)).alloc (.cells (adC B) 38)).heap[w.heap.size]? = some (.cells (adC A) 38 (0, 0)) ∧ ((w.alloc (.cells (adC A) 38)).alloc (.cells (adC B) 38)).heap[w.heap.size + 1]? = some (.cells (adC B) 38 (0, 0))) ∧ w.grownBy ((w.alloc (.cells (adC A) 38)).alloc (.cells (adC B) 38)) none := by
  have g1 := World.grownBy_alloc w (.cells (adC A) 38) none
  have g2 := World.grownBy_alloc (w.alloc (.cells (adC A) 38)) (.cells (adC B) 38) none
  have b1 := kept_row (heap_alloc_new w (.cells (adC A) 38)) g2 (by simp)
  have b2 := heap_alloc_new (w.alloc (.cells (adC A) 38)) (.cells (adC B) 38)
  have s1 : (w.alloc (.cells (adC A) 38)).heap.size = w.heap.size + 1 := by simp
  rw [s1] at b2
  exact ⟨⟨b1, b2⟩, grown_trans g1 g2⟩
set_option maxRecDepth 100000 in
set_option maxHeartbeats 6400000 in
theorem acmpA_any (A B : Ad) (q q2 : Nat → Prop) (w : World) (hA : AdOk w q A) (hB : AdOk w q2 B) :
    Calls Try.prog 84 #[A.val, B.val] w fun e w' => e = .returned (.int .i64 (cmpA A B)) ∧ w.grownBy w' none := by
  have HZ := Lib.hid (two_ads w A B)
  have HOK : Hid (TwoA _ A B q q2) := Lib.hid ⟨hA.keep HZ.out.2, hB.keep HZ.out.2⟩
  have HB := Lib.hid HZ.out.1
  have K := Lib.hid HZ.out.2
  clear HZ hA hB
  unfold Ad.val
  go_enter Try.func84, Try.ntmps84
  go_upto_region 1 with fail
  unfold adC at HB K HOK
  generalize (w.alloc _).alloc _ = wa at *
  have HB : Hid (wa.heap[w.heap.size]? = some (.cells (adC A) 38 (0, 0)) ∧ wa.heap[w.heap.size + 1]? = some (.cells (adC B) 38 (0, 0))) := HB
  have GZ : Hid (wa.grownBy wa none) := Lib.hid (grown_refl _ _)
  obtain ⟨a0, a1, a2, a3, a4, b0, b1, b2, b3, b4, -⟩ := keepTA HB.out GZ
  go_region_held3 (fun w' => w'.cell? ⟨w.heap.size, 0, none⟩ = some (.int .i64 A.r) ∧ w'.cell? ⟨w.heap.size, 1, none⟩ = some (.int .i64 A.q) ∧ w'.cell? ⟨w.heap.size, 2, none⟩ = some (.bool A.cp) ∧ w'.cell? ⟨w.heap.size, 3, none⟩ = some (.slice A.pL A.L.length A.cL) ∧ w'.cell? ⟨w.heap.size, 4, none⟩ = some (.slice A.pC A.C.length A.cC) ∧ w'.cell? ⟨w.heap.size + 1, 0, none⟩ = some (.int .i64 B.r) ∧ w'.cell? ⟨w.heap.size + 1, 1, none⟩ = some (.int .i64 B.q) ∧ w'.cell? ⟨w.heap.size + 1, 2, none⟩ = some (.bool B.cp) ∧ w'.cell? ⟨w.heap.size + 1, 3, none⟩ = some (.slice B.pL B.L.length B.cL) ∧ w'.cell? ⟨w.heap.size + 1, 4, none⟩ = some (.slice B.pC B.C.length B.cC) ∧ Hid (wa.grownBy w' none))
    (first | with_reducible exact keepTA HB.out (hid_drew GZ) | with_reducible exact keepTA HB.out (hid_drew (hid_more GZ (World.grownBy_alloc _ _ _))) | (go_split_ands; with_reducible refine keepTA HB.out ?_; with_reducible assumption) | (go_split_ands; with_reducible refine keepTA HB.out (hid_more ?_ hap); with_reducible assumption) | (go_split_ands; with_reducible refine keepTA HB.out (hid_more ?_ (World.grownBy_alloc _ _ _)); with_reducible assumption))
    (first
      | (go_at_call 112; refine (tcmp_any _ _ _).mono ?_; rintro e w' ⟨rfl, rfl⟩)
      | (go_at_call 113; refine (abit_any _ _).mono ?_; rintro e w' ⟨rfl, rfl⟩)
      | (go_at_call 114; go_split_ands; refine (aclR_at (w0 := wa) ?_ HOK).mono ?_; assumption; rintro e wb ⟨rfl, hap⟩)
      | (go_at_call 116; go_split_ands; refine (aclC_at (w0 := wa) ?_ HOK).mono ?_; assumption; rintro e wc ⟨rfl, hap⟩)
      | (go_at_call 111; refine (tor_any [cmpV A.r B.r, cmpV A.q B.q, cmpV ((A.cp.toNat : Nat) : Int) ((B.cp.toNat : Nat) : Int), cLs A.L B.L, cLs A.C B.C] _ _ (fun _ => True) _ ?_ (by simp)).mono ?_; (first | exact rd_five _ _ _ _ _ _ _ trivial | exact (rd_five _ _ _ _ _ _ _ trivial).keep (grown_drew (grown_refl _ _))); rintro e w' ⟨rfl, rfl⟩))
  all_goals
    go_split_ands
    go_wp2_with fail
    go_ret
    exact ⟨rfl, grown_trans K.out (Hid.out (by assumption))⟩
end Go.Proofs.Ytnpkihioklpnmaa

/- advert: Same, Newer. -/
namespace Go.Proofs.Ytnpkihioklpnmaa
open Go.RowKit Bs
/-- Newer. -/
def nwA (A B : Ad) : Bool := vAd A && (vAd B && (decide (A.r = B.r) && decide (0 < cmpA A B)))
set_option maxRecDepth 100000 in
theorem TwoA.keep {w w' : World} {A B : Ad} {q q2 : Nat → Prop} (h : TwoA w A B q q2) (g : w.grownBy w' none) : TwoA w' A B q q2 := ⟨h.a.keep g, h.b.keep g⟩
set_option maxRecDepth 100000 in
set_option maxHeartbeats 6400000 in
theorem anewer_any (A B : Ad) (q q2 : Nat → Prop) (w : World) (hA : AdOk w q A) (hB : AdOk w q2 B) :
    Calls Try.prog 90 #[A.val, B.val] w fun e w' => e = .returned (.bool (nwA A B)) ∧ w.grownBy w' none := by
  have HZ := Lib.hid (two_ads w A B)
  have HOK : Hid (TwoA _ A B q q2) := Lib.hid ⟨hA.keep HZ.out.2, hB.keep HZ.out.2⟩
  have HB := Lib.hid HZ.out.1
  have K := Lib.hid HZ.out.2
  clear HZ hA hB
  obtain ⟨X, hX⟩ : ∃ X, nwA A B = X := ⟨_, rfl⟩
  rw [hX]
  have HX := Lib.hid hX
  clear hX
  unfold Ad.val
  go_enter Try.func90, Try.ntmps90
  go_upto_region 1 with fail
  unfold adC at HB K HOK
  generalize (w.alloc _).alloc _ = wa at *
  have HB : Hid (wa.heap[w.heap.size]? = some (.cells (adC A) 38 (0, 0)) ∧ wa.heap[w.heap.size + 1]? = some (.cells (adC B) 38 (0, 0))) := HB
  have GZ : Hid (wa.grownBy wa none) := Lib.hid (grown_refl _ _)
  obtain ⟨a0, a1, a2, a3, a4, b0, b1, b2, b3, b4, -⟩ := keepTA HB.out GZ
  go_wp2_with fail
  refine (avalid_any A q _ HOK.out.a).mono ?_
  rintro e w1 ⟨rfl, hg⟩
  have G1 := Lib.hid hg
  clear hg a0 a1 a2 a3 a4 b0 b1 b2 b3 b4
  obtain ⟨a0, a1, a2, a3, a4, b0, b1, b2, b3, b4, -⟩ := keepTA HB.out G1
  obtain ⟨v1, hv1⟩ : ∃ v, vAd A = v := ⟨_, rfl⟩
  have HV1 := Lib.hid hv1
  rw [hv1]
  clear hv1
  cases v1 with
  | false =>
    obtain rfl : X = false := by rw [← HX.out]; unfold nwA; rw [HV1.out]; rfl
    go_wp2_with fail
    go_ret
    exact ⟨rfl, grown_trans K.out G1.out⟩
  | true =>
    go_wp2_with fail
    refine (avalid_any B q2 _ (HOK.out.b.keep G1.out)).mono ?_
    rintro e w2 ⟨rfl, hg⟩
    have G2 := Lib.hid (grown_trans G1.out hg)
    clear hg a0 a1 a2 a3 a4 b0 b1 b2 b3 b4
    obtain ⟨a0, a1, a2, a3, a4, b0, b1, b2, b3, b4, -⟩ := keepTA HB.out G2
    obtain ⟨v2, hv2⟩ : ∃ v, vAd B = v := ⟨_, rfl⟩
    have HV2 := Lib.hid hv2
    rw [hv2]
    clear hv2
    cases v2 with
    | false =>
      obtain rfl : X = false := by rw [← HX.out]; unfold nwA; rw [HV1.out, HV2.out]; rfl
      go_wp2_with fail
      go_ret
      exact ⟨rfl, grown_trans K.out G2.out⟩
    | true =>
      by_cases h : A.r = B.r
      · have h' : (A.r == B.r) = true := by simpa using h
        have HH := Lib.hid h
        clear h
        go_wp2_with fail
        refine (acmpA_any A B q q2 _ (HOK.out.a.keep G2.out) (HOK.out.b.keep G2.out)).mono ?_
        rintro e w3 ⟨rfl, hg⟩
        have G3 := Lib.hid (grown_trans G2.out hg)
        obtain ⟨z, hz⟩ : ∃ z, cmpA A B = z := ⟨_, rfl⟩
        have HZ := Lib.hid hz
        rw [hz]
        clear hz hg a0 a1 a2 a3 a4 b0 b1 b2 b3 b4
        obtain rfl : X = decide (0 < z) := by rw [← HX.out]; unfold nwA; rw [HV1.out, HV2.out, HZ.out, decide_eq_true HH.out]; rfl
        go_wp2_with fail
        go_ret
        exact ⟨rfl, grown_trans K.out G3.out⟩
      · have h' : (A.r == B.r) = false := by simpa using h
        obtain rfl : X = false := by rw [← HX.out]; unfold nwA; rw [HV1.out, HV2.out, decide_eq_false h]; rfl
        clear h
        go_wp2_with fail
        go_ret
        exact ⟨rfl, grown_trans K.out G2.out⟩
end Go.Proofs.Ytnpkihioklpnmaa

/- advert: the order is total. -/
namespace Go.Proofs.Ytnpkihioklpnmaa
open Go.RowKit Bs
end Go.Proofs.Ytnpkihioklpnmaa

/- advert: equal adverts, newer adverts. -/
namespace Go.Proofs.Ytnpkihioklpnmaa
open Go.RowKit Bs
/-- Two adverts are equal. -/
def smA (A B : Ad) : Prop := A.r = B.r ∧ A.q = B.q ∧ A.cp = B.cp ∧ A.L = B.L ∧ A.C = B.C
end Go.Proofs.Ytnpkihioklpnmaa

/- advert: what bytes say; Decode undoes Encode, the mathematics. -/
namespace Go.Proofs.Ytnpkihioklpnmaa
open Go.RowKit Bs
end Go.Proofs.Ytnpkihioklpnmaa

/- advert: an advert while its lists grow; the reader while fields are taken. -/
namespace Go.Proofs.Ytnpkihioklpnmaa
open Go.RowKit Bs
section
variable {W w w1 : World} {Z B : Nat} {r q : Int} {cp : Bool} {uL uC vL vC v' : Value} {L C : List T3}
end
section
variable {W w w1 : World} {S : Nat} {l : List Nat} {p : Option Addr} {c pos : Nat}
end
end Go.Proofs.Ytnpkihioklpnmaa

/- advert: the reader's advert: the fields that the bytes say. -/
namespace Go.Proofs.Ytnpkihioklpnmaa
open Go.RowKit Bs
set_option maxRecDepth 100000 in
theorem adv_size : (Try.prog.info? 38).map (·.size) = some 5 := by kernel_rfl
set_option maxRecDepth 100000 in
theorem res_adv {fn : Func} {p : Tmp} (h : fn.results = #[.cell p 38]) (tmps : Array Value) (w : World) (g : Nat) (x y z u v : Value) (hp : tmps.getD p undef = .pointer (some ⟨g, 0, none⟩)) (hg : w.heap[g]? = some (.cells #[x, y, z, u, v] 38 (0, 0))) :
    (results fn tmps).run Try.prog w = .ok (.agg #[x, y, z, u, v]) w :=
  results_cell_row h tmps w g _ _ _ _ hp hg Try.underlying38 rfl adv_size
set_option maxRecDepth 100000 in
theorem row5 {w : World} {b : Nat} {t : TypeId} {x0 x1 x2 x3 x4 : Value} (h : w.heap[b]? = some (.cells #[x0, x1, x2, x3, x4] t (0, 0))) :
    w.cell? ⟨b, 0, none⟩ = some x0 ∧ w.cell? ⟨b, 1, none⟩ = some x1 ∧ w.cell? ⟨b, 2, none⟩ = some x2 ∧ w.cell? ⟨b, 3, none⟩ = some x3 ∧ w.cell? ⟨b, 4, none⟩ = some x4 := by
  refine ⟨?_, ?_, ?_, ?_, ?_⟩ <;> (rw [cell_of_row _ _ _ _ _ _ h]; rfl)
set_option maxRecDepth 100000 in
theorem store5 {w : World} {b : Nat} {t : TypeId} {x0 x1 x2 x3 x4 : Value} (u0 u1 u2 u3 u4 : Value) (h : w.heap[b]? = some (.cells #[x0, x1, x2, x3, x4] t (0, 0))) :
    (((((w.setCell ⟨b, 0, none⟩ u0).setCell ⟨b, 1, none⟩ u1).setCell ⟨b, 2, none⟩ u2).setCell ⟨b, 3, none⟩ u3).setCell ⟨b, 4, none⟩ u4).heap[b]? = some (.cells #[u0, u1, u2, u3, u4] t (0, 0)) ∧
    w.grownBy (((((w.setCell ⟨b, 0, none⟩ u0).setCell ⟨b, 1, none⟩ u1).setCell ⟨b, 2, none⟩ u2).setCell ⟨b, 3, none⟩ u3).setCell ⟨b, 4, none⟩ u4) (some b) := by
  have h1 := heap_setCell_same w b 0 _ _ u0 h
  have h2 := heap_setCell_same _ b 1 _ _ u1 h1
  have h3 := heap_setCell_same _ b 2 _ _ u2 h2
  have h4 := heap_setCell_same _ b 3 _ _ u3 h3
  have h5 := heap_setCell_same _ b 4 _ _ u4 h4
  refine ⟨by rw [h5]; rfl, ?_⟩
  have g1 := grown_setCell w ⟨b, 0, none⟩ u0
  have g2 := grown_setCell (w.setCell ⟨b, 0, none⟩ u0) ⟨b, 1, none⟩ u1
  have g3 := grown_setCell ((w.setCell ⟨b, 0, none⟩ u0).setCell ⟨b, 1, none⟩ u1) ⟨b, 2, none⟩ u2
  have g4 := grown_setCell (((w.setCell ⟨b, 0, none⟩ u0).setCell ⟨b, 1, none⟩ u1).setCell ⟨b, 2, none⟩ u2) ⟨b, 3, none⟩ u3
  have g5 := grown_setCell ((((w.setCell ⟨b, 0, none⟩ u0).setCell ⟨b, 1, none⟩ u1).setCell ⟨b, 2, none⟩ u2).setCell ⟨b, 3, none⟩ u3) ⟨b, 4, none⟩ u4
  exact grown_trans (grown_trans (grown_trans (grown_trans g1 g2) g3) g4) g5
end Go.Proofs.Ytnpkihioklpnmaa

/- While the tape makes an advert. -/
namespace Go.Proofs.Ytnpkihioklpnmaa
open Go.RowKit Bs
/-! What a list of the tape's keeps. -/
section
variable {a : Nat} {W w w1 : World} {Z B : Nat} {r q : Int} {cp : Bool} {uL uC vL vC v' : Value} {L C : List T3}
end
/-- Lists that are nil have no room. -/
def AdNl (A : Ad) : Prop := (A.pL = none → A.cL = 0) ∧ (A.pC = none → A.cC = 0)
end Go.Proofs.Ytnpkihioklpnmaa

/- Databases: rows of adverts; when a database is valid. -/
namespace Go.Proofs.Ytnpkihioklpnmaa
open Go.RowKit Bs
def adL (A : Ad) : List Value := [.int .i64 A.r, .int .i64 A.q, .bool A.cp, .slice A.pL A.L.length A.cL, .slice A.pC A.C.length A.cC]
set_option maxRecDepth 100000 in
theorem adL_len (A : Ad) : (adL A).length = 5 := rfl
set_option maxRecDepth 100000 in
theorem ad_one (x : Ad) : ∀ u ∈ adL x, u.oneCell' = true := by
  intro u hu
  simp [adL] at hu
  rcases hu with rfl | rfl | rfl | rfl | rfl <;> rfl
/-- Adverts in a row, which can be read with their lists. -/
structure RdA (w : World) (q : Nat → Prop) (v : Value) (l : List Ad) : Prop where
  row : RdF w q v l.length (l.flatMap adL)
  ok : ∀ A ∈ l, AdOk w q A
  nl : ∀ A ∈ l, AdNl A
set_option maxRecDepth 100000 in
theorem RdA.grown {w w' : World} {q : Nat → Prop} {v : Value} {l : List Ad} {r : Option Nat} (h : RdA w q v l) (g : w.grownBy w' r) (hq : ∀ b, q b → some b ≠ r) : RdA w' q v l := ⟨h.row.grown g hq, fun A hA => (h.ok A hA).grown g hq, h.nl⟩
set_option maxRecDepth 100000 in
theorem RdA.keep {w w' : World} {q : Nat → Prop} {v : Value} {l : List Ad} (h : RdA w q v l) (g : w.grownBy w' none) : RdA w' q v l := h.grown g (fun _ _ => by simp)
set_option maxRecDepth 100000 in
theorem RdA.mono {w : World} {q q' : Nat → Prop} {v : Value} {l : List Ad} (h : RdA w q v l) (hq : ∀ b, q b → q' b) : RdA w q' v l := ⟨h.row.mono hq, fun A hA => (h.ok A hA).mono hq, h.nl⟩
set_option maxRecDepth 100000 in
theorem RdA.old {w : World} {q : Nat → Prop} {v : Value} {l : List Ad} (h : RdA w q v l) : RdA w (· < w.heap.size) v l := ⟨rdfA_old h.row, fun A hA => (h.ok A hA).old, h.nl⟩
set_option maxRecDepth 100000 in
/-- The cells of adverts, whatever world has grown out of this one. -/
theorem rda_cells {w : World} {q : Nat → Prop} {p : Option Addr} {n c : Nat} {l : List Ad} (h : RdA w q (.slice p n c) l) (hn : 0 < l.length) :
    n = l.length ∧ ∃ b off, p = some ⟨b, off, none⟩ ∧ q b ∧ ∀ i x, l[i]? = some x → w.cell? ⟨b, off + i * 5, none⟩ = some (.int .i64 x.r) ∧ w.cell? ⟨b, off + i * 5 + 1, none⟩ = some (.int .i64 x.q) ∧ w.cell? ⟨b, off + i * 5 + 2, none⟩ = some (.bool x.cp) ∧ w.cell? ⟨b, off + i * 5 + 3, none⟩ = some (.slice x.pL x.L.length x.cL) ∧ w.cell? ⟨b, off + i * 5 + 4, none⟩ = some (.slice x.pC x.C.length x.cC) := by
  obtain ⟨h0, b, off, hp, hq, hc⟩ := RdF.cells (f := adL) (k := 5) adL_len (by decide) h.row hn
  exact ⟨h0, b, off, hp, hq, fun i x hi => ⟨hc i x hi 0 _ rfl, hc i x hi 1 _ rfl, hc i x hi 2 _ rfl, hc i x hi 3 _ rfl, hc i x hi 4 _ rfl⟩⟩
set_option maxRecDepth 100000 in
theorem rda_at {w : World} {q : Nat → Prop} {b off n c k : Nat} {l : List Ad} {x : Ad} (h : RdA w q (.slice (some ⟨b, off, none⟩) n c) l) (hx : l[k]? = some x) :
    w.cell? ⟨b, off + k * 5, none⟩ = some (.int .i64 x.r) ∧ w.cell? ⟨b, off + k * 5 + 1, none⟩ = some (.int .i64 x.q) ∧ w.cell? ⟨b, off + k * 5 + 2, none⟩ = some (.bool x.cp) ∧ w.cell? ⟨b, off + k * 5 + 3, none⟩ = some (.slice x.pL x.L.length x.cL) ∧ w.cell? ⟨b, off + k * 5 + 4, none⟩ = some (.slice x.pC x.C.length x.cC) := by
  obtain ⟨-, b', o', e, -, hc⟩ := rda_cells h (by have := (List.getElem?_eq_some_iff.1 hx).1; omega)
  injection e with e
  injection e with e1 e2
  subst e1
  subst e2
  exact hc k x hx
set_option maxRecDepth 100000 in
theorem rda_nil (w : World) (q : Nat → Prop) : RdA w q (.slice none 0 0) [] := ⟨⟨none, 0, rfl, fun h => absurd rfl h⟩, (fun _ h => by cases h), fun _ h => by cases h⟩
/-- Are the routers ascending, behind one? -/
def ascD : Int → List Ad → Bool
  | _, [] => true
  | last, A :: t => decide (last < A.r) && ascD A.r t
def notV (A : Ad) : Bool := !vAd A
/-- What Check returns. -/
def chkD (l : List Ad) : Int := if 99 < l.length then 3 else if l.any notV then 1 else if ascD 0 l = false then 25 else 0
def okD (l : List Ad) : Bool := chkD l == 0
def lastD (l : List Ad) (k : Nat) : Int := match (l.take k).getLast? with
  | some x => x.r
  | none => 0
set_option maxRecDepth 100000 in
theorem lastD_succ {l : List Ad} {k : Nat} {x : Ad} (h : l[k]? = some x) : lastD l (k + 1) = x.r := by
  unfold lastD
  rw [List.take_add_one, h]
  simp
set_option maxRecDepth 100000 in
theorem lastD_zero (l : List Ad) : lastD l 0 = 0 := by unfold lastD; simp
set_option maxRecDepth 100000 in
theorem dropA_at {l : List Ad} {k : Nat} {x : Ad} (h : l[k]? = some x) : l.drop k = x :: l.drop (k + 1) := by
  obtain ⟨hk, he⟩ := List.getElem?_eq_some_iff.1 h
  rw [← he, ← List.drop_eq_getElem_cons hk]
set_option maxRecDepth 100000 in
theorem ascD_step {l : List Ad} {k : Nat} {x : Ad} (hx : l[k]? = some x) : ascD (lastD l k) (l.drop k) = (decide (lastD l k < x.r) && ascD (lastD l (k + 1)) (l.drop (k + 1))) := by
  rw [dropA_at hx, ascD, lastD_succ hx]
/-- What a valid database meets. -/
structure OkD (l : List Ad) : Prop where
  len : l.length ≤ 99
  v : ∀ A ∈ l, vAd A = true
  asc : ascD 0 l = true
set_option maxRecDepth 100000 in
theorem chk_OkD {l : List Ad} (h : chkD l = 0) : OkD l := by
  unfold chkD at h
  by_cases h1 : 99 < l.length
  · rw [if_pos h1] at h; cases h
  rw [if_neg h1] at h
  cases h2 : l.any notV with
  | true => rw [h2] at h; cases h
  | false =>
    rw [h2, if_neg (by decide)] at h
    cases h3 : ascD 0 l with
    | false => rw [h3, if_pos rfl] at h; cases h
    | true =>
      refine ⟨by omega, fun A hA => ?_, h3⟩
      have := List.any_eq_false.1 h2 A hA
      unfold notV at this
      simpa using this
set_option maxRecDepth 100000 in
theorem asc_pair : ∀ (l : List Ad) (last : Int), ascD last l = true → (∀ A ∈ l, last < A.r) ∧ l.Pairwise (fun A B => A.r < B.r)
  | [], _, _ => ⟨(fun _ h => by cases h), List.Pairwise.nil⟩
  | A :: t, last, h => by
    rw [ascD, Bool.and_eq_true] at h
    have h1 := of_decide_eq_true h.1
    obtain ⟨h2, h3⟩ := asc_pair t A.r h.2
    refine ⟨fun B hB => ?_, List.pairwise_cons.2 ⟨h2, h3⟩⟩
    rcases List.mem_cons.1 hB with rfl | hB
    · exact h1
    · have := h2 B hB; omega
set_option maxRecDepth 100000 in
theorem OkD.pair {l : List Ad} (h : OkD l) : l.Pairwise (fun A B => A.r < B.r) := (asc_pair l 0 h.asc).2
end Go.Proofs.Ytnpkihioklpnmaa

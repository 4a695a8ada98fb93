/- Parts of the proof, packed: IdPlc, ToHasF, TaM, TaSk, TaChk. -/
import Derived.Test.YtpogblengagpaaaGreatDoorPa3
import Derived.BigQuiet
import Derived.Test.YtpogblengagpaaaGreatDoorPa2
/- identify: Place and At, of the program and of the reference. -/
namespace Go.Proofs.YtpogblengagpaaaGreatDoor
set_option maxRecDepth 100000
open Go.RowKit Bs
def plOk (id len : Int) : Bool := vl len && inV id 1 256
def plS (id len : Int) : Int := if plOk id len = true then (id - 1).tdiv len else 0
def plB (id len : Int) : Int := if plOk id len = true then (id - 1) % len else 0
theorem pl_fields {id len : Int} (h : plOk id len = true) : (len = 8 ∨ len = 16 ∨ len = 32 ∨ len = 64) ∧ 1 ≤ id ∧ id ≤ 256 := by
 unfold plOk inV at h
 rw [Bool.and_eq_true, decide_eq_true_eq] at h
 exact ⟨vl_cases h.1, h.2⟩
def atOk (s b len : Int) : Bool := vl len && inV b 0 (len - 1) && inV s 0 31 && decide (s * len + b + 1 ≤ 256)
def atI (s b len : Int) : Int := if atOk s b len = true then s * len + b + 1 else 0
set_option maxHeartbeats 3200000 in
theorem iplc_any (id len : Int) (w : World) :
  Calls Tryz.prog 104 #[.int .i64 id, .int .i64 len] w fun e w' => e = .returned (.tuple #[.int .i64 (plS id len), .int .i64 (plB id len), .bool (plOk id len)]) ∧ w.grownBy w' none := by
 obtain ⟨b1, h1⟩ : ∃ b, vl len = b := ⟨_, rfl⟩
 obtain ⟨b2, h2⟩ : ∃ b, inV id 1 256 = b := ⟨_, rfl⟩
 have HO : Hid (plOk id len = (b1 && b2)) := Lib.hid (by unfold plOk; rw [h1, h2])
 have HL := Lib.hid h1
 have HI := Lib.hid h2
 clear h1 h2
 go_enter Tryz.func104, Tryz.ntmps104
 cases b1
 case false =>
  go_wp2_with (go_at_call 111; refine (vlp_lit _ _ HL.out _).mono ?_; rintro e w' ⟨rfl, rfl⟩)
  go_ret3
  have h0 : plOk id len = false := HO.out
  exact ⟨by unfold plS plB; rw [h0]; rfl, grown_refl _ _⟩
 cases b2
 case false =>
  go_wp2_with (first | (go_at_call 111; refine (vlp_lit _ _ HL.out _).mono ?_; rintro e w' ⟨rfl, rfl⟩) | (go_at_call 125; refine (ivi_lit _ _ HI.out _).mono ?_; rintro e w' ⟨rfl, rfl⟩))
  go_ret3
  have h0 : plOk id len = false := HO.out
  exact ⟨by unfold plS plB; rw [h0]; rfl, grown_refl _ _⟩
 have h0 : plOk id len = true := HO.out
 obtain ⟨hl, hi1, hi2⟩ := pl_fields h0
 have hS : plS id len = (id - 1).tdiv len := by unfold plS; rw [if_pos h0]
 have hB : plB id len = (id - 1) % len := by unfold plB; rw [if_pos h0]
 rw [h0, hS, hB]
 clear hS hB h0
 obtain ⟨m, rfl⟩ : ∃ m : Int, id = m + 1 := ⟨id - 1, by omega⟩
 rw [show m + 1 - 1 = m by omega]
 have e1 : m + 1 - 1 = m := by omega
 have e2 : IntKind.i64.wrap (m + 1 - 1) = m := by rw [e1, IntWalk.i64_in _ (by omega)]
 have e3 : IntKind.i64.wrap m = m := IntWalk.i64_in _ (by omega)
 have hm0 : 0 ≤ m := by omega
 have hm1 : m ≤ 255 := by omega
 have d0 : IntKind.i64.wrap (m.tdiv len) = m.tdiv len := IntWalk.i64_in _ (by
  rw [Int.tdiv_eq_ediv_of_nonneg hm0]
  rcases hl with rfl | rfl | rfl | rfl <;> omega)
 have d1 : IntKind.i64.wrap (m % len) = m % len := IntWalk.i64_in _ (by
  rcases hl with rfl | rfl | rfl | rfl <;> omega)
 have hn0 : (len == 0) = false := by rcases hl with rfl | rfl | rfl | rfl <;> rfl
 have hn1 : ¬ len = 0 := by rcases hl with rfl | rfl | rfl | rfl <;> decide
 clear hi1 hi2 hl
 go_wp2_with (first | (go_at_call 111; refine (vlp_lit _ _ HL.out _).mono ?_; rintro e w' ⟨rfl, rfl⟩) | (go_at_call 125; refine (ivi_lit _ _ HI.out _).mono ?_; rintro e w' ⟨rfl, rfl⟩))
 go_region
 all_goals
  go_wp2_with fail
  go_ret3
  exact ⟨rfl, grown_drew (grown_refl _ _)⟩
set_option maxHeartbeats 3200000 in
theorem irplc_any (id len : Int) (w : World) :
  Calls Tryz.prog 59 #[.int .i64 id, .int .i64 len] w fun e w' => e = .returned (.tuple #[.int .i64 (plS id len), .int .i64 (plB id len), .bool (plOk id len)]) ∧ w.grownBy w' none := by
 obtain ⟨b1, h1⟩ : ∃ b, vl len = b := ⟨_, rfl⟩
 obtain ⟨b2, h2⟩ : ∃ b, inV id 1 256 = b := ⟨_, rfl⟩
 have HO : Hid (plOk id len = (b1 && b2)) := Lib.hid (by unfold plOk; rw [h1, h2])
 have HL := Lib.hid h1
 have HI := Lib.hid h2
 clear h1 h2
 go_enter Tryz.func59, Tryz.ntmps59
 cases b1
 case false =>
  go_wp2_with (go_at_call 72; refine (vlr10_lit _ _ HL.out _).mono ?_; rintro e w' ⟨rfl, rfl⟩)
  go_ret3
  have h0 : plOk id len = false := HO.out
  exact ⟨by unfold plS plB; rw [h0]; rfl, grown_refl _ _⟩
 cases b2
 case false =>
  go_wp2_with (first | (go_at_call 72; refine (vlr10_lit _ _ HL.out _).mono ?_; rintro e w' ⟨rfl, rfl⟩) | (go_at_call 86; refine (rin10_lit _ 1 256 _ HI.out _).mono ?_; rintro e w' ⟨rfl, rfl⟩))
  go_ret3
  have h0 : plOk id len = false := HO.out
  exact ⟨by unfold plS plB; rw [h0]; rfl, grown_refl _ _⟩
 have h0 : plOk id len = true := HO.out
 obtain ⟨hl, hi1, hi2⟩ := pl_fields h0
 have hS : plS id len = (id - 1).tdiv len := by unfold plS; rw [if_pos h0]
 have hB : plB id len = (id - 1) % len := by unfold plB; rw [if_pos h0]
 rw [h0, hS, hB]
 clear hS hB h0
 obtain ⟨m, rfl⟩ : ∃ m : Int, id = m + 1 := ⟨id - 1, by omega⟩
 rw [show m + 1 - 1 = m by omega]
 have e1 : m + 1 - 1 = m := by omega
 have e2 : IntKind.i64.wrap (m + 1 - 1) = m := by rw [e1, IntWalk.i64_in _ (by omega)]
 have e3 : IntKind.i64.wrap m = m := IntWalk.i64_in _ (by omega)
 have hm0 : 0 ≤ m := by omega
 have hm1 : m ≤ 255 := by omega
 have d0 : IntKind.i64.wrap (m.tdiv len) = m.tdiv len := IntWalk.i64_in _ (by
  rw [Int.tdiv_eq_ediv_of_nonneg hm0]
  rcases hl with rfl | rfl | rfl | rfl <;> omega)
 have d1 : IntKind.i64.wrap (m % len) = m % len := IntWalk.i64_in _ (by
  rcases hl with rfl | rfl | rfl | rfl <;> omega)
 have hn0 : (len == 0) = false := by rcases hl with rfl | rfl | rfl | rfl <;> rfl
 have hn1 : ¬ len = 0 := by rcases hl with rfl | rfl | rfl | rfl <;> decide
 clear hi1 hi2 hl
 go_wp2_with (first | (go_at_call 72; refine (vlr10_lit _ _ HL.out _).mono ?_; rintro e w' ⟨rfl, rfl⟩) | (go_at_call 86; refine (rin10_lit _ 1 256 _ HI.out _).mono ?_; rintro e w' ⟨rfl, rfl⟩))
 go_region
 all_goals
  go_wp2_with fail
  go_ret3
  exact ⟨rfl, grown_drew (grown_refl _ _)⟩
set_option maxHeartbeats 3200000 in
theorem irat_any (s b len : Int) (w : World) :
  Calls Tryz.prog 77 #[.int .i64 s, .int .i64 b, .int .i64 len] w fun e w' => e = .returned (.tuple #[.int .i64 (atI s b len), .bool (atOk s b len)]) ∧ w.grownBy w' none := by
 obtain ⟨b1, h1⟩ : ∃ b, vl len = b := ⟨_, rfl⟩
 obtain ⟨b2, h2⟩ : ∃ q, inV b 0 (len - 1) = q := ⟨_, rfl⟩
 obtain ⟨b3, h3⟩ : ∃ q, inV s 0 31 = q := ⟨_, rfl⟩
 obtain ⟨b4, h4⟩ : ∃ q, decide (s * len + b + 1 ≤ 256) = q := ⟨_, rfl⟩
 have HO : Hid (atOk s b len = (b1 && b2 && b3 && b4)) := Lib.hid (by unfold atOk; rw [h1, h2, h3, h4])
 have HL := Lib.hid h1
 have HB := Lib.hid h2
 have HS := Lib.hid h3
 have H4 := Lib.hid h4
 clear h1 h2 h3 h4
 go_enter Tryz.func77, Tryz.ntmps77
 cases b1
 case false =>
  go_wp2_with (go_at_call 72; refine (vlr10_lit _ _ HL.out _).mono ?_; rintro e w' ⟨rfl, rfl⟩)
  go_ret2
  have h0 : atOk s b len = false := HO.out
  exact ⟨by unfold atI; rw [h0]; rfl, grown_refl _ _⟩
 have hl := vl_cases HL.out
 have ew : IntKind.i64.wrap (len - 1) = len - 1 := IntWalk.i64_in _ (by rcases hl with rfl | rfl | rfl | rfl <;> omega)
 clear hl
 cases b2
 case false =>
  go_wp2_with (first | (go_at_call 72; refine (vlr10_lit _ _ HL.out _).mono ?_; rintro e w' ⟨rfl, rfl⟩) | (go_at_call 86; (first | with_reducible refine (rin10_lit b 0 (len - 1) _ HB.out _).mono ?_ | with_reducible refine (rin10_lit s 0 31 _ HS.out _).mono ?_); rintro e w' ⟨rfl, rfl⟩))
  go_ret2
  have h0 : atOk s b len = false := HO.out
  exact ⟨by unfold atI; rw [h0]; rfl, grown_refl _ _⟩
 cases b3
 case false =>
  go_wp2_with (first | (go_at_call 72; refine (vlr10_lit _ _ HL.out _).mono ?_; rintro e w' ⟨rfl, rfl⟩) | (go_at_call 86; (first | with_reducible refine (rin10_lit b 0 (len - 1) _ HB.out _).mono ?_ | with_reducible refine (rin10_lit s 0 31 _ HS.out _).mono ?_); rintro e w' ⟨rfl, rfl⟩))
  go_ret2
  have h0 : atOk s b len = false := HO.out
  exact ⟨by unfold atI; rw [h0]; rfl, grown_refl _ _⟩
 obtain ⟨z1, z2⟩ : 0 ≤ b ∧ b ≤ len - 1 := of_decide_eq_true HB.out
 obtain ⟨z3, z4⟩ : 0 ≤ s ∧ s ≤ 31 := of_decide_eq_true HS.out
 have hl := vl_cases HL.out
 have z5 : ¬ s < 0 := by omega
 have z6 : ¬ 31 < s := by omega
 have w1 : IntKind.i64.wrap (s * len) = s * len := IntWalk.i64_in _ (by rcases hl with rfl | rfl | rfl | rfl <;> omega)
 have w2 : IntKind.i64.wrap (s * len + b) = s * len + b := IntWalk.i64_in _ (by rcases hl with rfl | rfl | rfl | rfl <;> omega)
 have w3 : IntKind.i64.wrap (s * len + b + 1) = s * len + b + 1 := IntWalk.i64_in _ (by rcases hl with rfl | rfl | rfl | rfl <;> omega)
 clear hl z1 z2 z3 z4
 cases b4
 case false =>
  have z7 : 256 < s * len + b + 1 := by have := of_decide_eq_false H4.out; omega
  go_wp2_with (first | (go_at_call 72; refine (vlr10_lit _ _ HL.out _).mono ?_; rintro e w' ⟨rfl, rfl⟩) | (go_at_call 86; (first | with_reducible refine (rin10_lit b 0 (len - 1) _ HB.out _).mono ?_ | with_reducible refine (rin10_lit s 0 31 _ HS.out _).mono ?_); rintro e w' ⟨rfl, rfl⟩))
  go_ret2
  have h0 : atOk s b len = false := HO.out
  exact ⟨by unfold atI; rw [h0]; rfl, grown_refl _ _⟩
 have z7 : ¬ 256 < s * len + b + 1 := by have := of_decide_eq_true H4.out; omega
 go_wp2_with (first | (go_at_call 72; refine (vlr10_lit _ _ HL.out _).mono ?_; rintro e w' ⟨rfl, rfl⟩) | (go_at_call 86; (first | with_reducible refine (rin10_lit b 0 (len - 1) _ HB.out _).mono ?_ | with_reducible refine (rin10_lit s 0 31 _ HS.out _).mono ?_); rintro e w' ⟨rfl, rfl⟩))
 go_ret2
 have h0 : atOk s b len = true := HO.out
 exact ⟨by unfold atI; rw [h0]; rfl, grown_refl _ _⟩
theorem at_place {id len : Int} (h : plOk id len = true) : atOk (plS id len) (plB id len) len = true ∧ atI (plS id len) (plB id len) len = id := by
 obtain ⟨hl, h1, h2⟩ := pl_fields h
 have e1 : plS id len = (id - 1) / len := by unfold plS; rw [if_pos h, Int.tdiv_eq_ediv_of_nonneg (by omega)]
 have e2 : plB id len = (id - 1) % len := by unfold plB; rw [if_pos h]
 have hv : vl len = true := by unfold plOk at h; rw [Bool.and_eq_true] at h; exact h.1
 have h3 : atOk (plS id len) (plB id len) len = true := by
  unfold atOk inV
  rw [hv, e1, e2]
  simp only [Bool.true_and, Bool.and_eq_true, decide_eq_true_eq]
  rcases hl with rfl | rfl | rfl | rfl <;> omega
 refine ⟨h3, ?_⟩
 unfold atI
 rw [if_pos h3, e1, e2]
 rcases hl with rfl | rfl | rfl | rfl <;> omega
end Go.Proofs.YtpogblengagpaaaGreatDoor

/- The reference's Has and Named; Same of equal topologies. -/
namespace Go.Proofs.YtpogblengagpaaaGreatDoor
set_option maxRecDepth 100000
open Go.RowKit Bs
set_option maxHeartbeats 1600000 in
theorem rhas4_any (X : List Int) (x : Int) (p : Option Addr) (c : Nat) (q : Nat → Prop) (w : World) (hR : Rd w q (.slice p X.length c) (X.map tv)) (hm : X.length ≤ 9223372036854775807) :
  Calls Tryz.prog 73 #[.slice p X.length c, .int .i64 x] w fun e w' => e = .returned (.bool (hasI X x)) ∧ w = w' := by
 have HR := Lib.hid hR
 have HN0 : Hid ((X.take 0).any (fun y => decide (y = x)) = false) := Lib.hid rfl
 clear hR
 go_enter Tryz.func73, Tryz.ntmps73
 go_wp2_with fail
 go_loopw [5] (fun a wr => ∃ k : Nat, k ≤ X.length ∧ a = .int .i64 (k : Int) ∧ Hid ((X.take k).any (fun y => decide (y = x)) = false) ∧ wr = w) (fun a _ => X.length - (RowKit.intOf a).toNat)
 case atStart => exact ⟨0, Nat.zero_le _, rfl, HN0, rfl⟩
 case round =>
  obtain ⟨k, hk, rfl, HN, rfl⟩ := hrel
  by_cases hlt : k < X.length
  ·obtain ⟨-, b, off, rfl, -, hc⟩ := rdi_at HR.out (by omega)
   obtain ⟨y, hy⟩ : ∃ y, X[k]? = some y := ⟨_, List.getElem?_eq_getElem hlt⟩
   have d0 := hc k y hy
   have HY := Lib.hid hy
   clear hc hy HN0
   by_cases hyx : y = x
   ·have HT : Hid (hasI X x = true) := Lib.hid (any_at HY.out (decide_eq_true hyx))
    subst hyx
    go_wp2_with fail
    go_ret
    rw [HT.out]
    exact ⟨rfl, rfl⟩
   ·have HN2 := Lib.hid (any_take HN.out HY.out (decide_eq_false hyx))
    have h' : (y == x) = false := by simpa using hyx
    go_wp2_with fail
    exact ⟨⟨k + 1, by omega, congrArg _ (by omega), HN2, (by first | rfl | trivial)⟩, by simp only [RowKit.intOf]; omega⟩
  ·have HT : Hid (hasI X x = false) := Lib.hid (any_end HN.out (by omega))
   obtain rfl : k = X.length := by omega
   go_wp2_with fail
   go_ret
   rw [HT.out]
   exact ⟨rfl, rfl⟩
end Go.Proofs.YtpogblengagpaaaGreatDoor

/- Tables: the mathematics, and how they lie in memory. -/
namespace Go.Proofs.YtpogblengagpaaaGreatDoor
set_option maxRecDepth 100000
open Go.RowKit Bs
structure Rw where
 id : Int
 nx : List Int
 p : Option Addr
 c : Nat
def rwC (x : Rw) : List Value := [.int .i64 x.id, .slice x.p x.nx.length x.c]
theorem rw_one (x : Rw) : ∀ u ∈ rwC x, u.oneCell' = true := by
 intro u hu
 simp [rwC] at hu
 rcases hu with rfl | rfl <;> rfl
structure RwOk (w : World) (q : Nat → Prop) (x : Rw) : Prop where
 rd : Rd w q (.slice x.p x.nx.length x.c) (x.nx.map tv)
 hc : x.nx.length ≤ x.c ∧ x.c ≤ 9223372036854775807
theorem RwOk.grown {w w1 : World} {q : Nat → Prop} {r : Option Nat} {x : Rw} (h : RwOk w q x) (g : w.grownBy w1 r) (hq : ∀ b, q b → some b ≠ r) : RwOk w1 q x := ⟨h.rd.grown g hq, h.hc⟩
theorem RwOk.keep {w w1 : World} {q : Nat → Prop} {x : Rw} (h : RwOk w q x) (g : w.grownBy w1 none) : RwOk w1 q x := h.grown g (fun _ _ => by simp)
theorem RwOk.mono {w : World} {q q' : Nat → Prop} {x : Rw} (h : RwOk w q x) (hq : ∀ b, q b → q' b) : RwOk w q' x := ⟨h.rd.mono hq, h.hc⟩
structure RdW (w : World) (q : Nat → Prop) (p : Option Addr) (c : Nat) (L : List Rw) : Prop where
 rd : RdF w q (.slice p L.length c) L.length (L.flatMap rwC)
 ok : ∀ x ∈ L, RwOk w q x
theorem RdW.grown {w w1 : World} {q : Nat → Prop} {r : Option Nat} {p : Option Addr} {c : Nat} {L : List Rw} (h : RdW w q p c L) (g : w.grownBy w1 r) (hq : ∀ b, q b → some b ≠ r) : RdW w1 q p c L := ⟨h.rd.grown g hq, fun x hx => (h.ok x hx).grown g hq⟩
theorem RdW.keep {w w1 : World} {q : Nat → Prop} {p : Option Addr} {c : Nat} {L : List Rw} (h : RdW w q p c L) (g : w.grownBy w1 none) : RdW w1 q p c L := h.grown g (fun _ _ => by simp)
theorem RdW.mono {w : World} {q q' : Nat → Prop} {p : Option Addr} {c : Nat} {L : List Rw} (h : RdW w q p c L) (hq : ∀ b, q b → q' b) : RdW w q' p c L := ⟨h.rd.mono hq, fun x hx => (h.ok x hx).mono hq⟩
theorem rw_cells {w : World} {q : Nat → Prop} {p : Option Addr} {n c : Nat} {L : List Rw} (h : RdF w q (.slice p n c) L.length (L.flatMap rwC)) (hn : 0 < L.length) :
  n = L.length ∧ ∃ b off, p = some ⟨b, off, none⟩ ∧ q b ∧ ∀ i x, L[i]? = some x → w.cell? ⟨b, off + i * 2, none⟩ = some (.int .i64 x.id) ∧ w.cell? ⟨b, off + i * 2 + 1, none⟩ = some (.slice x.p x.nx.length x.c) := by
 obtain ⟨h0, b, off, hp, hq, hc⟩ := RdF.cells (f := rwC) (k := 2) (fun _ => rfl) (by decide) h hn
 exact ⟨h0, b, off, hp, hq, fun i x hi => ⟨hc i x hi 0 _ rfl, hc i x hi 1 _ rfl⟩⟩
def ltI (x y : Int) : Bool := decide (x < y)
def wrW (x : Rw) : Bool := !inV x.id 1 256 || x.nx.any fun z => !inV z 1 99
def lgW (x : Rw) : Bool := decide (24 < x.nx.length)
def ltW (x y : Rw) : Bool := decide (x.id < y.id)
def dsW (x : Rw) : Bool := !ascB ltI x.nx
def cfW (r : Int) (x : Rw) : Bool := decide (1 < x.nx.length) && x.nx.any fun z => decide (z = r)
def hdT (r s n : Int) (L : List Rw) : Bool := !(inV r 1 99 && inV s 0 7 && (vl n || (decide (n = 0) && decide (L.length = 0))))
def ckT (r s n : Int) (L : List Rw) : Int :=
 if hdT r s n L = true then 2 else if L.any wrW = true then 2 else if 256 < L.length then 3 else if L.any lgW = true then 3 else if ascB ltW L = false then 25 else if L.any dsW = true then 25 else if L.any (cfW r) = true then 8 else 0
theorem ck_ok {r s n : Int} {L : List Rw} (h : ckT r s n L = 0) : hdT r s n L = false ∧ L.any wrW = false ∧ L.length ≤ 256 ∧ L.any lgW = false ∧ ascB ltW L = true ∧ L.any dsW = false ∧ L.any (cfW r) = false := by
 unfold ckT at h
 split at h
 ·cases h
 ·rename_i h1
  split at h
  ·cases h
  ·rename_i h2
   split at h
   ·cases h
   ·rename_i h3
    split at h
    ·cases h
    ·rename_i h4
     split at h
     ·cases h
     ·rename_i h5
      split at h
      ·cases h
      ·rename_i h6
       split at h
       ·cases h
       ·rename_i h7
        refine ⟨by simpa using h1, by simpa using h2, by omega, by simpa using h4, by simpa using h5, by simpa using h6, by simpa using h7⟩
theorem tvT_at {w : World} {q : Nat → Prop} {p : Option Addr} {n c i : Nat} {x : Int} {X : List Int} (h : Rd w q (.slice p n c) (X.map tv)) (hi : X[i]? = some x) :
  n = X.length ∧ ∃ b off, p = some ⟨b, off, none⟩ ∧ q b ∧ ∀ j y, X[j]? = some y → w.cell? ⟨b, off + j, none⟩ = some (.int .i64 y) := by
 obtain ⟨p1, c1, e1, hx⟩ := h
 injection e1 with a1 a2 a3
 subst a1
 have hne : X.map tv ≠ [] := by
  intro e
  have := List.map_eq_nil_iff.1 e
  subst this
  simp at hi
 obtain ⟨b, off, hp, hq, hc⟩ := hx hne
 exact ⟨by rw [a2, List.length_map], b, off, hp, hq, fun j y hj => hc j (tv y) (by rw [List.getElem?_map, hj]; rfl)⟩
end Go.Proofs.YtpogblengagpaaaGreatDoor

/- table: ContainsFunc, Contains, ascending at rows and at numbers. -/
namespace Go.Proofs.YtpogblengagpaaaGreatDoor
set_option maxRecDepth 100000
open Go.RowKit Bs
theorem tdis1_any (x : Int) (w : World) : Calls Tryz.prog 122 #[.int .i64 x] w fun e w' => e = .returned (.int .i64 x) ∧ w = w' := by
 go_enter Tryz.func122, Tryz.ntmps122
 go_wp2_with fail
 go_ret
 exact ⟨rfl, rfl⟩
theorem trid_any (x : Rw) (w : World) : Calls Tryz.prog 97 #[.agg #[.int .i64 x.id, .slice x.p x.nx.length x.c]] w fun e w' => e = .returned (.int .i64 x.id) ∧ w.grownBy w' none := by
 obtain ⟨k1, k2⟩ := tone_box w #[.int .i64 x.id, .slice x.p x.nx.length x.c] 80
 have HB := Lib.hid (And.intro k1 k2)
 clear k1 k2
 go_enter Tryz.func97, Tryz.ntmps97
 go_upto_region 1 with fail
 generalize w.alloc _ = w1 at *
 have c0 : w1.cell? ⟨w.heap.size, 0, none⟩ = some (.int .i64 x.id) := cell_of_row _ _ _ _ _ _ HB.out.1
 go_wp2_with fail
 go_ret
 exact ⟨rfl, HB.out.2⟩
theorem keepTW {wr w' : World} {b i j : Nat} {x y : Rw} (h : wr.cell? ⟨b, i, none⟩ = some (.int .i64 x.id) ∧ wr.cell? ⟨b, i + 1, none⟩ = some (.slice x.p x.nx.length x.c) ∧ wr.cell? ⟨b, j, none⟩ = some (.int .i64 y.id) ∧ wr.cell? ⟨b, j + 1, none⟩ = some (.slice y.p y.nx.length y.c)) (hg : Hid (wr.grownBy w' none)) : w'.cell? ⟨b, i, none⟩ = some (.int .i64 x.id) ∧ w'.cell? ⟨b, i + 1, none⟩ = some (.slice x.p x.nx.length x.c) ∧ w'.cell? ⟨b, j, none⟩ = some (.int .i64 y.id) ∧ w'.cell? ⟨b, j + 1, none⟩ = some (.slice y.p y.nx.length y.c) ∧ Hid (wr.grownBy w' none) := by
 obtain ⟨h0, h1, h2, h3⟩ := h
 exact ⟨hg.out.cell h0 (by simp), hg.out.cell h1 (by simp), hg.out.cell h2 (by simp), hg.out.cell h3 (by simp), hg⟩
set_option maxHeartbeats 1600000 in
theorem tidxI_any (g : Nat) (lb : Array Value) (P : Int → Bool) (eg : EnterF g) (R : List Int) (p : Option Addr) (c : Nat) (q : Nat → Prop) (w : World) (hR : Rd w q (.slice p R.length c) (R.map tv)) (hm : R.length ≤ 9223372036854775807)
  (hP : ∀ (r : Int) (w' : World), w.grownBy w' none → Calls Tryz.prog g (#[.int .i64 r] ++ lb) w' fun e w2 => e = .returned (.bool (P r)) ∧ w'.grownBy w2 none) :
  Calls Tryz.prog 133 #[.slice p R.length c, .func (.func g) #[] lb] w fun e w' => ∃ i : Int, e = .returned (.int .i64 i) ∧ decide (0 ≤ i) = R.any P ∧ w.grownBy w' none := by
 have HR := Lib.hid hR
 have HP := Lib.hid hP
 clear hR hP
 go_enter Tryz.func133, Tryz.ntmps133
 go_wp2_with fail
 go_loopw [8] (fun a wr => ∃ k : Nat, k ≤ R.length ∧ a = .int .i64 (k : Int) ∧ Hid (w.grownBy wr none) ∧ Hid ((R.take k).any P = false)) (fun a _ => R.length - (RowKit.intOf a).toNat)
 case atStart => exact ⟨0, Nat.zero_le _, rfl, Lib.hid (grown_refl _ _), Lib.hid rfl⟩
 case round =>
  obtain ⟨k, hk, rfl, G, HN⟩ := hrel
  by_cases hlt : k < R.length
  ·obtain ⟨x, hx⟩ : ∃ x, R[k]? = some x := ⟨_, List.getElem?_eq_getElem hlt⟩
   obtain ⟨-, b, off, rfl, hq, hc⟩ := tvT_at (HR.out.keep G.out) hx
   have a0 := hc k x hx
   have HX := Lib.hid hx
   clear hc hx
   have hcall := HP.out x wr G.out
   cases hp : P x
   ·rw [hp] at hcall
    have HY := Lib.hid hp
    clear hp
    go_wp2_with (go_at_fn g; refine hcall.mono ?_; rintro e w' ⟨rfl, hg⟩; have HG := Lib.hid (grown_trans G.out hg); clear hg)
    exact ⟨⟨k + 1, by omega, congrArg _ (by omega), HG, Lib.hid (any_take HN.out HX.out HY.out)⟩, by simp only [RowKit.intOf]; omega⟩
   ·rw [hp] at hcall
    have HY := Lib.hid hp
    clear hp
    go_wp2_with (go_at_fn g; refine hcall.mono ?_; rintro e w' ⟨rfl, hg⟩; have HG := Lib.hid (grown_trans G.out hg); clear hg)
    go_ret
    refine ⟨_, rfl, ?_, HG.out⟩
    rw [any_at HX.out HY.out, decide_eq_true_eq]; omega
  ·obtain rfl : k = R.length := by omega
   go_wp2_with fail
   go_ret
   refine ⟨_, rfl, ?_, G.out⟩
   rw [any_end HN.out (Nat.le_refl _)]; decide
set_option maxHeartbeats 1600000 in
theorem tcontI_any (g : Nat) (lb : Array Value) (P : Int → Bool) (eg : EnterF g) (R : List Int) (p : Option Addr) (c : Nat) (q : Nat → Prop) (w : World) (hR : Rd w q (.slice p R.length c) (R.map tv)) (hm : R.length ≤ 9223372036854775807)
  (hP : ∀ (r : Int) (w' : World), w.grownBy w' none → Calls Tryz.prog g (#[.int .i64 r] ++ lb) w' fun e w2 => e = .returned (.bool (P r)) ∧ w'.grownBy w2 none) :
  Calls Tryz.prog 119 #[.slice p R.length c, .func (.func g) #[] lb] w fun e w' => e = .returned (.bool (R.any P)) ∧ w.grownBy w' none := by
 have HR := Lib.hid hR
 have HP := Lib.hid hP
 clear hR hP
 go_enter Tryz.func119, Tryz.ntmps119
 go_wp2_with (go_at_call 133; refine (tidxI_any g lb P eg R p c q w HR.out hm HP.out).mono ?_; rintro e w' ⟨i, rfl, hi, hg⟩; have HI := Lib.hid (And.intro hi hg); clear hi hg)
 go_ret
 rw [← HI.out.1]
 exact ⟨rfl, HI.out.2⟩
set_option maxHeartbeats 1600000 in
theorem tidxW_any (g : Nat) (lb : Array Value) (P : Rw → Bool) (eg : EnterF g) (R : List Rw) (p : Option Addr) (c : Nat) (q : Nat → Prop) (w : World) (hR : RdF w q (.slice p R.length c) R.length (R.flatMap rwC)) (hm : R.length ≤ 9223372036854775807)
  (hP : ∀ (r : Rw) (w' : World), r ∈ R → w.grownBy w' none → Calls Tryz.prog g (#[.agg #[.int .i64 r.id, .slice r.p r.nx.length r.c]] ++ lb) w' fun e w2 => e = .returned (.bool (P r)) ∧ w'.grownBy w2 none) :
  Calls Tryz.prog 118 #[.slice p R.length c, .func (.func g) #[] lb] w fun e w' => ∃ i : Int, e = .returned (.int .i64 i) ∧ decide (0 ≤ i) = R.any P ∧ w.grownBy w' none := by
 have HR := Lib.hid hR
 have HP := Lib.hid hP
 clear hR hP
 go_enter Tryz.func118, Tryz.ntmps118
 go_wp2_with fail
 go_loopw [8] (fun a wr => ∃ k : Nat, k ≤ R.length ∧ a = .int .i64 (k : Int) ∧ Hid (w.grownBy wr none) ∧ Hid ((R.take k).any P = false)) (fun a _ => R.length - (RowKit.intOf a).toNat)
 case atStart => exact ⟨0, Nat.zero_le _, rfl, Lib.hid (grown_refl _ _), Lib.hid rfl⟩
 case round =>
  obtain ⟨k, hk, rfl, G, HN⟩ := hrel
  by_cases hlt : k < R.length
  ·obtain ⟨x, hx⟩ : ∃ x, R[k]? = some x := ⟨_, List.getElem?_eq_getElem hlt⟩
   obtain ⟨-, b, off, rfl, hq, hc⟩ := rw_cells (HR.out.keep G.out) (by omega)
   obtain ⟨a0, a1⟩ := hc k x hx
   have HX := Lib.hid hx
   clear hc hx
   have hcall := HP.out x wr (List.mem_of_getElem? HX.out) G.out
   cases hp : P x
   ·rw [hp] at hcall
    have HY := Lib.hid hp
    clear hp
    go_wp2_with (go_at_fn g; refine hcall.mono ?_; rintro e w' ⟨rfl, hg⟩; have HG := Lib.hid (grown_trans G.out hg); clear hg)
    exact ⟨⟨k + 1, by omega, congrArg _ (by omega), HG, Lib.hid (any_take HN.out HX.out HY.out)⟩, by simp only [RowKit.intOf]; omega⟩
   ·rw [hp] at hcall
    have HY := Lib.hid hp
    clear hp
    go_wp2_with (go_at_fn g; refine hcall.mono ?_; rintro e w' ⟨rfl, hg⟩; have HG := Lib.hid (grown_trans G.out hg); clear hg)
    go_ret
    refine ⟨_, rfl, ?_, HG.out⟩
    rw [any_at HX.out HY.out, decide_eq_true_eq]; omega
  ·obtain rfl : k = R.length := by omega
   go_wp2_with fail
   go_ret
   refine ⟨_, rfl, ?_, G.out⟩
   rw [any_end HN.out (Nat.le_refl _)]; decide
set_option maxHeartbeats 1600000 in
theorem tcontW_any (g : Nat) (lb : Array Value) (P : Rw → Bool) (eg : EnterF g) (R : List Rw) (p : Option Addr) (c : Nat) (q : Nat → Prop) (w : World) (hR : RdF w q (.slice p R.length c) R.length (R.flatMap rwC)) (hm : R.length ≤ 9223372036854775807)
  (hP : ∀ (r : Rw) (w' : World), r ∈ R → w.grownBy w' none → Calls Tryz.prog g (#[.agg #[.int .i64 r.id, .slice r.p r.nx.length r.c]] ++ lb) w' fun e w2 => e = .returned (.bool (P r)) ∧ w'.grownBy w2 none) :
  Calls Tryz.prog 93 #[.slice p R.length c, .func (.func g) #[] lb] w fun e w' => e = .returned (.bool (R.any P)) ∧ w.grownBy w' none := by
 have HR := Lib.hid hR
 have HP := Lib.hid hP
 clear hR hP
 go_enter Tryz.func93, Tryz.ntmps93
 go_wp2_with (go_at_call 118; refine (tidxW_any g lb P eg R p c q w HR.out hm HP.out).mono ?_; rintro e w' ⟨i, rfl, hi, hg⟩; have HI := Lib.hid (And.intro hi hg); clear hi hg)
 go_ret
 rw [← HI.out.1]
 exact ⟨rfl, HI.out.2⟩
theorem ascJ_end {R : List Int} (h : ∀ i x y, i + 1 < R.length → R[i]? = some x → R[i + 1]? = some y → ltI x y = true) : ascB ltI R = true :=
 (ascB_iff _ _).2 fun i x y hx hy => h i x y ((List.getElem?_eq_some_iff.1 hy).1) hx hy
theorem ascJ_hit {R : List Int} {i : Nat} {x y : Int} (hx : R[i]? = some x) (hy : R[i + 1]? = some y) (h : ltI x y = false) : ascB ltI R = false := by
 rw [Bool.eq_false_iff]
 intro h2
 have := (ascB_iff _ _).1 h2 i x y hx hy
 rw [h] at this; cases this
set_option maxHeartbeats 3200000 in
theorem tascI_any (R : List Int) (p : Option Addr) (c : Nat) (q : Nat → Prop) (w : World) (hR : Rd w q (.slice p R.length c) (R.map tv)) (hm : R.length ≤ 9223372036854775807) :
  Calls Tryz.prog 121 #[.slice p R.length c, .func (.func 122) #[] #[]] w fun e w' => e = .returned (.bool (ascB ltI R)) ∧ w.grownBy w' none := by
 have eg : EnterF 122 := enters_of Tryz.func122 (by kernel_rfl) rfl
 have HR := Lib.hid hR
 clear hR
 go_enter Tryz.func121, Tryz.ntmps121
 go_wp2_with fail
 go_loopw [5] (fun a wr => ∃ k : Nat, 1 ≤ k ∧ (k ≤ R.length ∨ k = 1) ∧ a = .int .i64 (k : Int) ∧ Hid (w.grownBy wr none) ∧ Hid (∀ i x y, i + 1 < k → R[i]? = some x → R[i + 1]? = some y → ltI x y = true)) (fun a _ => R.length - (RowKit.intOf a).toNat)
 case atStart => exact ⟨1, by omega, Or.inr rfl, rfl, Lib.hid (grown_refl _ _), Lib.hid (fun i x y h => by omega)⟩
 case round =>
  obtain ⟨k, hk1, hk, rfl, G, HN⟩ := hrel
  by_cases hlt : k < R.length
  ·obtain ⟨j, rfl⟩ : ∃ j, k = j + 1 := ⟨k - 1, by omega⟩
   obtain ⟨x, hx⟩ : ∃ x, R[j]? = some x := ⟨_, List.getElem?_eq_getElem (by omega)⟩
   obtain ⟨y, hy⟩ : ∃ y, R[j + 1]? = some y := ⟨_, List.getElem?_eq_getElem hlt⟩
   obtain ⟨-, b, off, rfl, hq, hc⟩ := tvT_at (HR.out.keep G.out) hx
   have a0 := hc j x hx
   have b0 := hc (j + 1) y hy
   have HXY := Lib.hid (And.intro hx hy)
   have ew1 : ((j : Int) + 1 - 1) = (j : Int) := by omega
   have ew2 : IntKind.i64.wrap ((j : Int) + 1 - 1) = (j : Int) := by rw [ew1, IntWalk.i64_in _ (by omega)]
   have ew3 : IntKind.i64.wrap (j : Int) = (j : Int) := IntWalk.i64_in _ (by omega)
   have j0 : (0 : Int) ≤ (j : Int) := by omega
   have j1 : (0 : Int) ≤ (j : Int) + 1 := by omega
   have j2 : (j : Int) < (R.length : Int) := by omega
   have j3 : (j : Int) + 1 < (R.length : Int) := by omega
   have j4 : ((j : Int) + 1).toNat = j + 1 := by omega
   clear hc hx hy
   have hcast : ((j + 1 : Nat) : Int) = (j : Int) + 1 := by omega
   rw [hcast]
   have HF := Lib.hid (And.intro a0 b0)
   have GZ : Hid (wr.grownBy wr none) := Lib.hid (grown_refl _ _)
   go_upto_region 4 with fail
   cases hlt2 : ltI x y
   ·have hge : y ≤ x := (by have := of_decide_eq_false hlt2; omega)
    have HL := Lib.hid hlt2
    clear hlt2
    go_region_held3 (fun w' => w'.cell? ⟨b, off + j, none⟩ = some (.int .i64 x) ∧ w'.cell? ⟨b, off + (j + 1), none⟩ = some (.int .i64 y) ∧ Hid (wr.grownBy w' none))
     (first | with_reducible exact ⟨(hid_drew GZ).out.cell HF.out.1 (by simp), (hid_drew GZ).out.cell HF.out.2 (by simp), hid_drew GZ⟩ | (go_split_ands; with_reducible refine ⟨?_, ?_, ?_⟩ <;> with_reducible assumption))
     ((go_at_call 122; (first | with_reducible refine (tdis1_any x _).mono ?_ | with_reducible refine (tdis1_any y _).mono ?_); rintro e w' ⟨rfl, rfl⟩))
    all_goals
     go_split_ands
     go_wp2_with fail
     go_ret
     rw [ascJ_hit HXY.out.1 HXY.out.2 HL.out]
     exact ⟨rfl, grown_trans G.out (Hid.out (by assumption))⟩
   ·have hge : ¬ y ≤ x := fun h => by have := of_decide_eq_true hlt2; omega
    have HL := Lib.hid hlt2
    clear hlt2
    go_region_held3 (fun w' => w'.cell? ⟨b, off + j, none⟩ = some (.int .i64 x) ∧ w'.cell? ⟨b, off + (j + 1), none⟩ = some (.int .i64 y) ∧ Hid (wr.grownBy w' none))
     (first | with_reducible exact ⟨(hid_drew GZ).out.cell HF.out.1 (by simp), (hid_drew GZ).out.cell HF.out.2 (by simp), hid_drew GZ⟩ | (go_split_ands; with_reducible refine ⟨?_, ?_, ?_⟩ <;> with_reducible assumption))
     ((go_at_call 122; (first | with_reducible refine (tdis1_any x _).mono ?_ | with_reducible refine (tdis1_any y _).mono ?_); rintro e w' ⟨rfl, rfl⟩))
    all_goals
     go_split_ands
     have HGW := Lib.hid (grown_trans G.out (Hid.out (by assumption)))
     go_wp2_with fail
     refine ⟨⟨j + 1 + 1, by omega, Or.inl (by omega), congrArg _ (by omega), HGW, Lib.hid fun i x2 y2 hi hx2 hy2 => ?_⟩, by simp only [RowKit.intOf]; omega⟩
     by_cases hij : i = j
     ·subst hij
      have e1 := HXY.out.1.symm.trans hx2
      have e2 := HXY.out.2.symm.trans hy2
      injection e1 with e1
      injection e2 with e2
      subst e1
      subst e2
      exact HL.out
     ·exact HN.out i x2 y2 (by omega) hx2 hy2
  ·have h1 : ¬ (k : Int) < (R.length : Int) := by omega
   go_wp2_with fail
   go_ret
   rw [ascJ_end fun i x y hi hx hy => HN.out i x y (by omega) hx hy]
   exact ⟨rfl, G.out⟩
theorem ascW_end {R : List Rw} (h : ∀ i x y, i + 1 < R.length → R[i]? = some x → R[i + 1]? = some y → ltW x y = true) : ascB ltW R = true :=
 (ascB_iff _ _).2 fun i x y hx hy => h i x y ((List.getElem?_eq_some_iff.1 hy).1) hx hy
theorem ascW_hit {R : List Rw} {i : Nat} {x y : Rw} (hx : R[i]? = some x) (hy : R[i + 1]? = some y) (h : ltW x y = false) : ascB ltW R = false := by
 rw [Bool.eq_false_iff]
 intro h2
 have := (ascB_iff _ _).1 h2 i x y hx hy
 rw [h] at this; cases this
set_option maxHeartbeats 3200000 in
theorem tascW_any (R : List Rw) (p : Option Addr) (c : Nat) (q : Nat → Prop) (w : World) (hR : RdF w q (.slice p R.length c) R.length (R.flatMap rwC)) (hm : R.length ≤ 9223372036854775807) :
  Calls Tryz.prog 96 #[.slice p R.length c, .func (.func 97) #[] #[]] w fun e w' => e = .returned (.bool (ascB ltW R)) ∧ w.grownBy w' none := by
 have eg : EnterF 97 := enters_of Tryz.func97 (by kernel_rfl) rfl
 have HR := Lib.hid hR
 clear hR
 go_enter Tryz.func96, Tryz.ntmps96
 go_wp2_with fail
 go_loopw [5] (fun a wr => ∃ k : Nat, 1 ≤ k ∧ (k ≤ R.length ∨ k = 1) ∧ a = .int .i64 (k : Int) ∧ Hid (w.grownBy wr none) ∧ Hid (∀ i x y, i + 1 < k → R[i]? = some x → R[i + 1]? = some y → ltW x y = true)) (fun a _ => R.length - (RowKit.intOf a).toNat)
 case atStart => exact ⟨1, by omega, Or.inr rfl, rfl, Lib.hid (grown_refl _ _), Lib.hid (fun i x y h => by omega)⟩
 case round =>
  obtain ⟨k, hk1, hk, rfl, G, HN⟩ := hrel
  by_cases hlt : k < R.length
  ·obtain ⟨j, rfl⟩ : ∃ j, k = j + 1 := ⟨k - 1, by omega⟩
   obtain ⟨x, hx⟩ : ∃ x, R[j]? = some x := ⟨_, List.getElem?_eq_getElem (by omega)⟩
   obtain ⟨y, hy⟩ : ∃ y, R[j + 1]? = some y := ⟨_, List.getElem?_eq_getElem hlt⟩
   obtain ⟨-, b, off, rfl, hq, hc⟩ := rw_cells (HR.out.keep G.out) (by omega)
   obtain ⟨a0, a1⟩ := hc j x hx
   obtain ⟨b0, b1⟩ := hc (j + 1) y hy
   have HXY := Lib.hid (And.intro hx hy)
   have ew1 : ((j : Int) + 1 - 1) = (j : Int) := by omega
   have ew2 : IntKind.i64.wrap ((j : Int) + 1 - 1) = (j : Int) := by rw [ew1, IntWalk.i64_in _ (by omega)]
   have ew3 : IntKind.i64.wrap (j : Int) = (j : Int) := IntWalk.i64_in _ (by omega)
   have j0 : (0 : Int) ≤ (j : Int) := by omega
   have j1 : (0 : Int) ≤ (j : Int) + 1 := by omega
   have j2 : (j : Int) < (R.length : Int) := by omega
   have j3 : (j : Int) + 1 < (R.length : Int) := by omega
   have j4 : ((j : Int) + 1).toNat = j + 1 := by omega
   clear hc hx hy
   have hcast : ((j + 1 : Nat) : Int) = (j : Int) + 1 := by omega
   rw [hcast]
   have HF := Lib.hid (And.intro a0 (And.intro a1 (And.intro b0 b1)))
   have GZ : Hid (wr.grownBy wr none) := Lib.hid (grown_refl _ _)
   go_upto_region 4 with fail
   cases hlt2 : ltW x y
   ·have hge : y.id ≤ x.id := (by have := of_decide_eq_false hlt2; omega)
    have HL := Lib.hid hlt2
    clear hlt2
    go_region_held3 (fun w' => w'.cell? ⟨b, off + j * 2, none⟩ = some (.int .i64 x.id) ∧ w'.cell? ⟨b, off + j * 2 + 1, none⟩ = some (.slice x.p x.nx.length x.c) ∧ w'.cell? ⟨b, off + (j + 1) * 2, none⟩ = some (.int .i64 y.id) ∧ w'.cell? ⟨b, off + (j + 1) * 2 + 1, none⟩ = some (.slice y.p y.nx.length y.c) ∧ Hid (wr.grownBy w' none))
     (first | with_reducible exact keepTW HF.out (hid_drew GZ) | (with_reducible exact keepTW HF.out (hid_drew (hid_more GZ hg))) | (go_split_ands; with_reducible refine keepTW HF.out ?_; with_reducible assumption) | (go_split_ands; with_reducible refine keepTW HF.out (hid_more ?_ hg); with_reducible assumption) | (go_split_ands; with_reducible refine keepTW HF.out (hid_more (hid_more ?_ hg) hg2); with_reducible assumption))
     ((go_at_call 97; (first | with_reducible refine (trid_any x _).mono ?_ | with_reducible refine (trid_any y _).mono ?_); rintro e w' ⟨rfl, hg⟩))
    all_goals
     go_split_ands
     go_wp2_with fail
     go_ret
     rw [ascW_hit HXY.out.1 HXY.out.2 HL.out]
     exact ⟨rfl, grown_trans G.out (Hid.out (by assumption))⟩
   ·have hge : ¬ y.id ≤ x.id := fun h => by have := of_decide_eq_true hlt2; omega
    have HL := Lib.hid hlt2
    clear hlt2
    go_region_held3 (fun w' => w'.cell? ⟨b, off + j * 2, none⟩ = some (.int .i64 x.id) ∧ w'.cell? ⟨b, off + j * 2 + 1, none⟩ = some (.slice x.p x.nx.length x.c) ∧ w'.cell? ⟨b, off + (j + 1) * 2, none⟩ = some (.int .i64 y.id) ∧ w'.cell? ⟨b, off + (j + 1) * 2 + 1, none⟩ = some (.slice y.p y.nx.length y.c) ∧ Hid (wr.grownBy w' none))
     (first | with_reducible exact keepTW HF.out (hid_drew GZ) | (with_reducible exact keepTW HF.out (hid_drew (hid_more GZ hg))) | (go_split_ands; with_reducible refine keepTW HF.out ?_; with_reducible assumption) | (go_split_ands; with_reducible refine keepTW HF.out (hid_more ?_ hg); with_reducible assumption) | (go_split_ands; with_reducible refine keepTW HF.out (hid_more (hid_more ?_ hg) hg2); with_reducible assumption))
     ((go_at_call 97; (first | with_reducible refine (trid_any x _).mono ?_ | with_reducible refine (trid_any y _).mono ?_); rintro e w' ⟨rfl, hg⟩))
    all_goals
     go_split_ands
     have HGW := Lib.hid (grown_trans G.out (Hid.out (by assumption)))
     go_wp2_with fail
     refine ⟨⟨j + 1 + 1, by omega, Or.inl (by omega), congrArg _ (by omega), HGW, Lib.hid fun i x2 y2 hi hx2 hy2 => ?_⟩, by simp only [RowKit.intOf]; omega⟩
     by_cases hij : i = j
     ·subst hij
      have e1 := HXY.out.1.symm.trans hx2
      have e2 := HXY.out.2.symm.trans hy2
      injection e1 with e1
      injection e2 with e2
      subst e1
      subst e2
      exact HL.out
     ·exact HN.out i x2 y2 (by omega) hx2 hy2
  ·have h1 : ¬ (k : Int) < (R.length : Int) := by omega
   go_wp2_with fail
   go_ret
   rw [ascW_end fun i x y hi hx hy => HN.out i x y (by omega) hx hy]
   exact ⟨rfl, G.out⟩
theorem hasI_at {X : List Int} {r x : Int} {k : Nat} (hx : X[k]? = some x) (h : x = r) : hasI X r = true := List.any_eq_true.2 ⟨x, List.mem_of_getElem? hx, decide_eq_true h⟩
set_option maxHeartbeats 1600000 in
theorem tidx_any (X : List Int) (r : Int) (p : Option Addr) (c : Nat) (q : Nat → Prop) (w : World) (hR : Rd w q (.slice p X.length c) (X.map tv)) (hm : X.length ≤ 9223372036854775807) :
  Calls Tryz.prog 123 #[.slice p X.length c, .int .i64 r] w fun e w' => ∃ i : Int, e = .returned (.int .i64 i) ∧ decide (0 ≤ i) = hasI X r ∧ w = w' := by
 have HR := Lib.hid hR
 clear hR
 go_enter Tryz.func123, Tryz.ntmps123
 go_wp2_with fail
 go_loopw [8] (fun a wr => ∃ k : Nat, k ≤ X.length ∧ a = .int .i64 (k : Int) ∧ wr = w ∧ Hid ((X.take k).any (fun y => decide (y = r)) = false)) (fun a _ => X.length - (RowKit.intOf a).toNat)
 case atStart => exact ⟨0, Nat.zero_le _, rfl, rfl, Lib.hid rfl⟩
 case round =>
  obtain ⟨k, hk, rfl, rfl, HN⟩ := hrel
  by_cases hlt : k < X.length
  ·obtain ⟨x, hx⟩ : ∃ x, X[k]? = some x := ⟨_, List.getElem?_eq_getElem hlt⟩
   obtain ⟨-, b, off, rfl, hq, hc⟩ := tvT_at HR.out hx
   have a0 := hc k x hx
   have HX := Lib.hid hx
   clear hc hx
   by_cases hr : x = r
   ·have hr' : (r == x) = true := by simpa using hr.symm
    have HH := Lib.hid (hasI_at HX.out hr)
    clear hr
    go_wp2_with fail
    go_ret
    refine ⟨_, rfl, ?_, rfl⟩
    rw [HH.out, decide_eq_true_eq]; omega
   ·have hr' : (r == x) = false := by simpa using fun h => hr h.symm
    have HN2 : Hid ((X.take (k + 1)).any (fun y => decide (y = r)) = false) := Lib.hid (any_take HN.out HX.out (decide_eq_false hr))
    clear hr
    go_wp2_with fail
    exact ⟨⟨k + 1, by omega, congrArg _ (by omega), (by first | rfl | trivial), HN2⟩, by simp only [RowKit.intOf]; omega⟩
  ·obtain rfl : k = X.length := by omega
   have hnl : ¬ (X.length : Int) < (X.length : Int) := by omega
   have HE : Hid (hasI X r = false) := Lib.hid (any_end HN.out (Nat.le_refl _))
   go_wp2_with fail
   go_ret
   refine ⟨_, rfl, ?_, rfl⟩
   rw [HE.out]; decide
theorem tcont_any (X : List Int) (r : Int) (p : Option Addr) (c : Nat) (q : Nat → Prop) (w : World) (hR : Rd w q (.slice p X.length c) (X.map tv)) (hm : X.length ≤ 9223372036854775807) :
  Calls Tryz.prog 100 #[.slice p X.length c, .int .i64 r] w fun e w' => e = .returned (.bool (hasI X r)) ∧ w = w' := by
 have HR := Lib.hid hR
 clear hR
 go_enter Tryz.func100, Tryz.ntmps100
 go_wp2_with fail
 refine (tidx_any X r p c q w HR.out hm).mono ?_
 rintro e w' ⟨i, rfl, hi, rfl⟩
 have HI := Lib.hid hi
 clear hi
 go_wp2_with fail
 go_ret
 rw [← HI.out]
 exact ⟨rfl, rfl⟩
end Go.Proofs.YtpogblengagpaaaGreatDoor

/- table: Check. -/
namespace Go.Proofs.YtpogblengagpaaaGreatDoor
set_option maxRecDepth 100000
open Go.RowKit Bs
theorem row4T {w : World} {b : Nat} {x0 x1 x2 x3 : Value} {t : TypeId} (h : w.heap[b]? = some (.cells #[x0, x1, x2, x3] t (0, 0))) :
  w.cell? ⟨b, 0, none⟩ = some x0 ∧ w.cell? ⟨b, 1, none⟩ = some x1 ∧ w.cell? ⟨b, 2, none⟩ = some x2 ∧ w.cell? ⟨b, 3, none⟩ = some x3 :=
 ⟨cell_of_row _ _ _ _ _ _ h, cell_of_row _ _ _ _ _ _ h, cell_of_row _ _ _ _ _ _ h, cell_of_row _ _ _ _ _ _ h⟩
theorem tbwithin_any (n m : Int) (b : Bool) (h : inV n 1 m = b) (w : World) : Calls Tryz.prog 116 #[.int .i64 n, .int .i64 m] w fun e w' => e = .returned (.bool b) ∧ w = w' := by
 subst h
 unfold inV
 go_enter Tryz.func116, Tryz.ntmps116
 by_cases h1 : (1 : Int) ≤ n
 ·by_cases h2 : n ≤ m
  ·rw [decide_eq_true (show 1 ≤ n ∧ n ≤ m from ⟨h1, h2⟩)]
   go_wp2_with fail
   go_ret
   exact ⟨rfl, rfl⟩
  ·rw [decide_eq_false (show ¬ (1 ≤ n ∧ n ≤ m) from fun h => h2 h.2)]
   go_wp2_with fail
   go_ret
   exact ⟨rfl, rfl⟩
 ·rw [decide_eq_false (show ¬ (1 ≤ n ∧ n ≤ m) from fun h => h1 h.1)]
  go_wp2_with fail
  go_ret
  exact ⟨rfl, rfl⟩
theorem tvlen_any (n : Int) (b : Bool) (h : vl n = b) (w : World) : Calls Tryz.prog 117 #[.int .i64 n] w fun e w' => e = .returned (.bool b) ∧ w.grownBy w' none := by
 have HP : Hid (plOk 1 n = b) := Lib.hid (by unfold plOk; rw [h]; simp [inV])
 go_enter Tryz.func117, Tryz.ntmps117
 go_wp2_with fail
 refine (iplc_any 1 n w).mono ?_
 rintro e w1 ⟨rfl, hg⟩
 rw [HP.out]
 have G := Lib.hid hg
 clear hg
 go_wp2_with fail
 go_ret
 exact ⟨rfl, G.out⟩
theorem twr1_any (z : Int) (w : World) : Calls Tryz.prog 120 #[.int .i64 z] w fun e w' => e = .returned (.bool (!inV z 1 99)) ∧ w.grownBy w' none := by
 obtain ⟨b, hb⟩ : ∃ b, inV z 1 99 = b := ⟨_, rfl⟩
 have HB := Lib.hid hb
 rw [hb]
 clear hb
 go_enter Tryz.func120, Tryz.ntmps120
 go_wp2_with fail
 refine (tbwithin_any z 99 b HB.out w).mono ?_
 rintro e w1 ⟨rfl, rfl⟩
 go_wp2_with fail
 go_ret
 exact ⟨rfl, grown_refl _ _⟩
theorem twr_any (x : Rw) (q : Nat → Prop) (w : World) (hx : RwOk w q x) : Calls Tryz.prog 94 #[.agg #[.int .i64 x.id, .slice x.p x.nx.length x.c]] w fun e w' => e = .returned (.bool (wrW x)) ∧ w.grownBy w' none := by
 have eg : EnterF 120 := enters_of Tryz.func120 (by kernel_rfl) rfl
 have EG := Lib.hid eg
 obtain ⟨k1, k2⟩ := tone_box w #[.int .i64 x.id, .slice x.p x.nx.length x.c] 80
 have HB := Lib.hid (And.intro k1 (And.intro k2 (hx.keep k2)))
 obtain ⟨b, hb⟩ : ∃ b, inV x.id 1 256 = b := ⟨_, rfl⟩
 have HI := Lib.hid hb
 clear k1 k2 hx eg hb
 go_enter Tryz.func94, Tryz.ntmps94
 go_upto_region 1 with fail
 generalize w.alloc _ = w1 at *
 have c0 : w1.cell? ⟨w.heap.size, 0, none⟩ = some (.int .i64 x.id) := cell_of_row _ _ _ _ _ _ HB.out.1
 have c1 : w1.cell? ⟨w.heap.size, 1, none⟩ = some (.slice x.p x.nx.length x.c) := cell_of_row _ _ _ _ _ _ HB.out.1
 go_wp2_with fail
 refine (tbwithin_any x.id 256 b HI.out w1).mono ?_
 rintro e w' ⟨rfl, rfl⟩
 cases b
 case false =>
  have HO : Hid (wrW x = true) := Lib.hid (by unfold wrW; rw [HI.out]; rfl)
  go_wp2_with fail
  go_ret
  rw [HO.out]
  exact ⟨rfl, HB.out.2.1⟩
 have HO : Hid (wrW x = x.nx.any fun z => !inV z 1 99) := Lib.hid (by unfold wrW; rw [HI.out]; rfl)
 have hm : x.nx.length ≤ 9223372036854775807 := Nat.le_trans HB.out.2.2.hc.1 HB.out.2.2.hc.2
 go_wp2_with fail
 refine (tcontI_any 120 #[] (fun z => !inV z 1 99) EG.out x.nx x.p x.c q w1 HB.out.2.2.rd hm (fun r w' _ => twr1_any r w')).mono ?_
 rintro e w2 ⟨rfl, hg⟩
 have G := Lib.hid (grown_trans HB.out.2.1 hg)
 clear hg
 go_wp2_with fail
 go_ret
 rw [HO.out]
 exact ⟨rfl, G.out⟩
theorem tlg_any (x : Rw) (w : World) : Calls Tryz.prog 95 #[.agg #[.int .i64 x.id, .slice x.p x.nx.length x.c]] w fun e w' => e = .returned (.bool (lgW x)) ∧ w.grownBy w' none := by
 obtain ⟨k1, k2⟩ := tone_box w #[.int .i64 x.id, .slice x.p x.nx.length x.c] 80
 have HB := Lib.hid (And.intro k1 k2)
 have HO : Hid (decide ((24 : Int) < (x.nx.length : Int)) = lgW x) := Lib.hid (by unfold lgW; rw [decide_eq_decide]; omega)
 clear k1 k2
 go_enter Tryz.func95, Tryz.ntmps95
 go_upto_region 1 with fail
 generalize w.alloc _ = w1 at *
 have c1 : w1.cell? ⟨w.heap.size, 1, none⟩ = some (.slice x.p x.nx.length x.c) := cell_of_row _ _ _ _ _ _ HB.out.1
 go_wp2_with fail
 go_ret
 rw [← HO.out]
 exact ⟨rfl, HB.out.2⟩
theorem tds_any (x : Rw) (q : Nat → Prop) (w : World) (hx : RwOk w q x) : Calls Tryz.prog 98 #[.agg #[.int .i64 x.id, .slice x.p x.nx.length x.c]] w fun e w' => e = .returned (.bool (dsW x)) ∧ w.grownBy w' none := by
 obtain ⟨k1, k2⟩ := tone_box w #[.int .i64 x.id, .slice x.p x.nx.length x.c] 80
 have HB := Lib.hid (And.intro k1 (And.intro k2 (hx.keep k2)))
 clear k1 k2 hx
 go_enter Tryz.func98, Tryz.ntmps98
 go_upto_region 1 with fail
 generalize w.alloc _ = w1 at *
 have c1 : w1.cell? ⟨w.heap.size, 1, none⟩ = some (.slice x.p x.nx.length x.c) := cell_of_row _ _ _ _ _ _ HB.out.1
 have hm : x.nx.length ≤ 9223372036854775807 := Nat.le_trans HB.out.2.2.hc.1 HB.out.2.2.hc.2
 go_wp2_with fail
 refine (tascI_any x.nx x.p x.c q w1 HB.out.2.2.rd hm).mono ?_
 rintro e w2 ⟨rfl, hg⟩
 have G := Lib.hid (grown_trans HB.out.2.1 hg)
 clear hg
 go_wp2_with fail
 go_ret
 exact ⟨rfl, G.out⟩
theorem tck1_any (g : Nat) (r s n : Int) (v3 : Value) (x : Rw) (q : Nat → Prop) (w : World) (hb : w.heap[g]? = some (.cells #[.int .i64 r, .int .i64 s, .int .i64 n, v3] 25 (0, 0))) (hx : RwOk w q x) :
  Calls Tryz.prog 99 #[.agg #[.int .i64 x.id, .slice x.p x.nx.length x.c], .pointer (some ⟨g, 0, none⟩)] w fun e w' => e = .returned (.bool (cfW r x)) ∧ w.grownBy w' none := by
 obtain ⟨k1, k2⟩ := tone_box w #[.int .i64 x.id, .slice x.p x.nx.length x.c] 80
 have HB := Lib.hid (And.intro k1 (And.intro k2 (And.intro (hx.keep k2) (kept_row hb k2 (by simp)))))
 clear k1 k2 hx hb
 go_enter Tryz.func99, Tryz.ntmps99
 go_upto_region 1 with fail
 generalize w.alloc _ = w1 at *
 have c1 : w1.cell? ⟨w.heap.size, 1, none⟩ = some (.slice x.p x.nx.length x.c) := cell_of_row _ _ _ _ _ _ HB.out.1
 have d0 := (row4T HB.out.2.2.2).1
 have hm : x.nx.length ≤ 9223372036854775807 := Nat.le_trans HB.out.2.2.1.hc.1 HB.out.2.2.1.hc.2
 by_cases h1 : 1 < x.nx.length
 ·have h1' : (1 : Int) < (x.nx.length : Int) := by omega
  have HO : Hid (cfW r x = hasI x.nx r) := Lib.hid (by unfold cfW; rw [decide_eq_true h1]; rfl)
  go_wp2_with fail
  refine (tcont_any x.nx r x.p x.c q w1 HB.out.2.2.1.rd hm).mono ?_
  rintro e w2 ⟨rfl, rfl⟩
  go_wp2_with fail
  go_ret
  rw [HO.out]
  exact ⟨rfl, HB.out.2.1⟩
 ·have h1' : ¬ (1 : Int) < (x.nx.length : Int) := by omega
  have HO : Hid (cfW r x = false) := Lib.hid (by unfold cfW; rw [decide_eq_false h1]; rfl)
  go_wp2_with fail
  go_ret
  rw [HO.out]
  exact ⟨rfl, HB.out.2.1⟩
set_option maxHeartbeats 1600000 in
theorem thd_any (r s n : Int) (p : Option Addr) (c : Nat) (L : List Rw) (w : World) : Calls Tryz.prog 92 #[.agg #[.int .i64 r, .int .i64 s, .int .i64 n, .slice p L.length c]] w fun e w' => e = .returned (.bool (hdT r s n L)) ∧ w.grownBy w' none := by
 obtain ⟨k1, k2⟩ := tone_box w #[.int .i64 r, .int .i64 s, .int .i64 n, .slice p L.length c] 25
 have HB := Lib.hid (And.intro k1 k2)
 clear k1 k2
 go_enter Tryz.func92, Tryz.ntmps92
 go_upto_region 1 with fail
 generalize w.alloc _ = w1 at *
 obtain ⟨d0, d1, d2, d3⟩ := row4T HB.out.1
 obtain ⟨b1, hb1⟩ : ∃ b, inV r 1 99 = b := ⟨_, rfl⟩
 obtain ⟨b2, hb2⟩ : ∃ b, vl n = b := ⟨_, rfl⟩
 have H1 := Lib.hid hb1
 have H2 := Lib.hid hb2
 obtain ⟨b3, hb3⟩ : ∃ b, inV s 0 7 = b := ⟨_, rfl⟩
 have H3 := Lib.hid hb3
 go_cut [3] from 5 to 12 (fun v wx => v = .bool (!b3) ∧ w1 = wx)
 case first =>
  clear H3
  by_cases s0 : s < 0
  ·obtain rfl : b3 = false := by rw [← hb3]; exact decide_eq_false (by omega)
   clear hb3
   go_wp2_with fail
   go_meet
   exact ⟨rfl, rfl⟩
  ·by_cases s7 : 7 < s
   ·obtain rfl : b3 = false := by rw [← hb3]; exact decide_eq_false (by omega)
    clear hb3
    go_wp2_with fail
    go_meet
    exact ⟨rfl, rfl⟩
   ·obtain rfl : b3 = true := by rw [← hb3]; exact decide_eq_true (by omega)
    clear hb3
    go_wp2_with fail
    go_meet
    exact ⟨rfl, rfl⟩
 case rest =>
 obtain ⟨rfl, rfl⟩ := hcut
 obtain ⟨b4, hb4⟩ : ∃ b, (decide (n = 0) && decide (L.length = 0)) = b := ⟨_, rfl⟩
 have H4 := Lib.hid hb4
 have HO : Hid (hdT r s n L = !(b1 && b3 && (b2 || b4))) := Lib.hid (by unfold hdT; rw [hb1, hb2, hb3, hb4])
 clear hb1 hb2 hb3
 go_upto_region 2 with fail
 go_cut [4] from 13 to 21 (fun v wx => v = .bool b4 ∧ w1 = wx)
 case first =>
  clear H4 HO
  by_cases n0 : n = 0
  ·have n0' : (n == 0) = true := by simpa using n0
   by_cases l0 : L.length = 0
   ·have l0' : ((L.length : Int) == 0) = true := beq_iff_eq.2 (by omega)
    obtain rfl : b4 = true := by rw [← hb4, decide_eq_true n0, decide_eq_true l0]; rfl
    clear hb4 n0 l0
    go_wp2_with fail
    go_meet
    exact ⟨rfl, rfl⟩
   ·have l0' : ((L.length : Int) == 0) = false := beq_eq_false_iff_ne.2 (by omega)
    obtain rfl : b4 = false := by rw [← hb4, decide_eq_false l0]; simp
    clear hb4 n0 l0
    go_wp2_with fail
    go_meet
    exact ⟨rfl, rfl⟩
  ·have n0' : (n == 0) = false := by simpa using n0
   obtain rfl : b4 = false := by rw [← hb4, decide_eq_false n0]; rfl
   clear hb4 n0
   go_wp2_with fail
   go_meet
   exact ⟨rfl, rfl⟩
 case rest =>
 obtain ⟨rfl, rfl⟩ := hcut
 clear hb4
 go_wp2_with fail
 refine (tbwithin_any r 99 b1 H1.out w1).mono ?_
 rintro e w2 ⟨rfl, rfl⟩
 cases b1
 case false =>
  go_wp2_with fail
  go_ret
  rw [HO.out]
  exact ⟨rfl, HB.out.2⟩
 cases b3
 case false =>
  go_wp2_with fail
  go_ret
  rw [HO.out]
  exact ⟨rfl, HB.out.2⟩
 cases b4
 case true =>
  go_wp2_with fail
  go_ret
  rw [HO.out]
  exact ⟨by cases b2 <;> rfl, HB.out.2⟩
 go_wp2_with fail
 refine (tvlen_any n b2 H2.out w1).mono ?_
 rintro e w3 ⟨rfl, hg⟩
 have G := Lib.hid (grown_trans HB.out.2 hg)
 clear hg
 go_wp2_with fail
 go_ret
 rw [HO.out]
 exact ⟨by cases b2 <;> rfl, G.out⟩
structure TC (W : World) (r s n : Int) (p : Option Addr) (c : Nat) (L : List Rw) (w : World) : Prop where
 bx : w.heap[W.heap.size]? = some (.cells #[.int .i64 r, .int .i64 s, .int .i64 n, .slice p L.length c] 25 (0, 0))
 rd : ∃ q, RdW w q p c L
 gr : W.grownBy w none
theorem TC.keep {W w w1 : World} {r s n : Int} {p : Option Addr} {c : Nat} {L : List Rw} (h : TC W r s n p c L w) (g : w.grownBy w1 none) : TC W r s n p c L w1 :=
 ⟨kept_row h.bx g (by simp), by obtain ⟨q, hq⟩ := h.rd; exact ⟨q, hq.keep g⟩, grown_trans h.gr g⟩
set_option maxHeartbeats 3200000 in
theorem tcheckT_any (r s n : Int) (p : Option Addr) (c : Nat) (L : List Rw) (q : Nat → Prop) (w : World) (hR : RdW w q p c L) (hm : L.length ≤ 9223372036854775807) :
  Calls Tryz.prog 64 #[.agg #[.int .i64 r, .int .i64 s, .int .i64 n, .slice p L.length c]] w fun e w' => e = .returned (.int .i64 (ckT r s n L)) ∧ w.grownBy w' none := by
 have e1 : EnterF 94 := enters_of Tryz.func94 (by kernel_rfl) rfl
 have e2 : EnterF 95 := enters_of Tryz.func95 (by kernel_rfl) rfl
 have e3 : EnterF 98 := enters_of Tryz.func98 (by kernel_rfl) rfl
 have e4 : EnterF 99 := enters_of Tryz.func99 (by kernel_rfl) rfl
 have EG := Lib.hid (And.intro e1 (And.intro e2 (And.intro e3 e4)))
 obtain ⟨k1, k2⟩ := tone_box w #[.int .i64 r, .int .i64 s, .int .i64 n, .slice p L.length c] 25
 have H0 : Hid (TC w r s n p c L _) := Lib.hid ⟨k1, ⟨q, hR.keep k2⟩, k2⟩
 have HC : Hid (ckT r s n L = if hdT r s n L = true then 2 else if L.any wrW = true then 2 else if 256 < L.length then 3 else if L.any lgW = true then 3 else if ascB ltW L = false then 25 else if L.any dsW = true then 25 else if L.any (cfW r) = true then 8 else 0) := Lib.hid rfl
 clear k1 k2 hR e1 e2 e3 e4
 go_enter Tryz.func64, Tryz.ntmps64
 go_upto_region 1 with fail
 generalize w.alloc _ = w1 at *
 obtain ⟨q1, hq1⟩ := H0.out.rd
 obtain ⟨d0, d1, d2, d3⟩ := row4T H0.out.bx
 go_wp2_with fail
 refine (thd_any r s n p c L w1).mono ?_
 rintro e w2 ⟨rfl, hg⟩
 have H1 := Lib.hid (H0.out.keep hg)
 clear hg d0 d1 d2 d3 hq1
 cases f1 : hdT r s n L
 case true =>
  have F := Lib.hid f1
  clear f1
  go_wp2_with fail
  go_ret
  rw [HC.out, if_pos F.out]
  exact ⟨rfl, H1.out.gr⟩
 have F1 := Lib.hid f1
 clear f1 H0
 obtain ⟨q2, hq2⟩ := H1.out.rd
 obtain ⟨d0, d1, d2, d3⟩ := row4T H1.out.bx
 go_wp2_with fail
 refine (tcontW_any 94 #[] wrW EG.out.1 L p c q2 w2 hq2.rd hm (fun x w' hx g => twr_any x _ w' ((hq2.ok x hx).keep g))).mono ?_
 rintro e w3 ⟨rfl, hg⟩
 have H2 := Lib.hid (H1.out.keep hg)
 clear hg d0 d1 d2 d3 hq2
 cases f2 : L.any wrW
 case true =>
  have F := Lib.hid f2
  clear f2
  go_wp2_with fail
  go_ret
  rw [HC.out, if_neg (by rw [F1.out]; decide), if_pos F.out]
  exact ⟨rfl, H2.out.gr⟩
 have F2 := Lib.hid f2
 clear f2 H1
 by_cases h256 : 256 < L.length
 case pos =>
  have h256' : (256 : Int) < (L.length : Int) := by omega
  obtain ⟨d0, d1, d2, d3⟩ := row4T H2.out.bx
  go_wp2_with fail
  go_ret
  rw [HC.out, if_neg (by rw [F1.out]; decide), if_neg (by rw [F2.out]; decide), if_pos h256]
  exact ⟨rfl, H2.out.gr⟩
 have h256' : ¬ (256 : Int) < (L.length : Int) := by omega
 obtain ⟨q3, hq3⟩ := H2.out.rd
 obtain ⟨d0, d1, d2, d3⟩ := row4T H2.out.bx
 go_wp2_with fail
 refine (tcontW_any 95 #[] lgW EG.out.2.1 L p c q3 w3 hq3.rd hm (fun x w' _ _ => tlg_any x w')).mono ?_
 rintro e w4 ⟨rfl, hg⟩
 have H3 := Lib.hid (H2.out.keep hg)
 clear hg d0 d1 d2 d3 hq3
 cases f3 : L.any lgW
 case true =>
  have F := Lib.hid f3
  clear f3
  go_wp2_with fail
  go_ret
  rw [HC.out, if_neg (by rw [F1.out]; decide), if_neg (by rw [F2.out]; decide), if_neg h256, if_pos F.out]
  exact ⟨rfl, H3.out.gr⟩
 have F3 := Lib.hid f3
 clear f3 H2
 obtain ⟨q4, hq4⟩ := H3.out.rd
 obtain ⟨d0, d1, d2, d3⟩ := row4T H3.out.bx
 go_wp2_with fail
 refine (tascW_any L p c q4 w4 hq4.rd hm).mono ?_
 rintro e w5 ⟨rfl, hg⟩
 have H4 := Lib.hid (H3.out.keep hg)
 clear hg d0 d1 d2 d3 hq4
 cases f4 : ascB ltW L
 case false =>
  have F := Lib.hid f4
  clear f4
  go_wp2_with fail
  go_ret
  rw [HC.out, if_neg (by rw [F1.out]; decide), if_neg (by rw [F2.out]; decide), if_neg h256, if_neg (by rw [F3.out]; decide), if_pos F.out]
  exact ⟨rfl, H4.out.gr⟩
 have F4 := Lib.hid f4
 clear f4 H3
 obtain ⟨q5, hq5⟩ := H4.out.rd
 obtain ⟨d0, d1, d2, d3⟩ := row4T H4.out.bx
 go_wp2_with fail
 refine (tcontW_any 98 #[] dsW EG.out.2.2.1 L p c q5 w5 hq5.rd hm (fun x w' hx g => tds_any x _ w' ((hq5.ok x hx).keep g))).mono ?_
 rintro e w6 ⟨rfl, hg⟩
 have H5 := Lib.hid (H4.out.keep hg)
 clear hg d0 d1 d2 d3 hq5
 cases f5 : L.any dsW
 case true =>
  have F := Lib.hid f5
  clear f5
  go_wp2_with fail
  go_ret
  rw [HC.out, if_neg (by rw [F1.out]; decide), if_neg (by rw [F2.out]; decide), if_neg h256, if_neg (by rw [F3.out]; decide), if_neg (by rw [F4.out]; decide), if_pos F.out]
  exact ⟨rfl, H5.out.gr⟩
 have F5 := Lib.hid f5
 clear f5 H4
 obtain ⟨q6, hq6⟩ := H5.out.rd
 obtain ⟨d0, d1, d2, d3⟩ := row4T H5.out.bx
 go_wp2_with fail
 refine (tcontW_any 99 #[.pointer (some ⟨w.heap.size, 0, none⟩)] (cfW r) EG.out.2.2.2 L p c q6 w6 hq6.rd hm (fun x w' hx g => tck1_any w.heap.size r s n _ x _ w' (kept_row H5.out.bx g (by simp)) ((hq6.ok x hx).keep g))).mono ?_
 rintro e w7 ⟨rfl, hg⟩
 have H6 := Lib.hid (H5.out.keep hg)
 clear hg d0 d1 d2 d3 hq6
 cases f6 : L.any (cfW r)
 case true =>
  have F := Lib.hid f6
  clear f6
  go_wp2_with fail
  go_ret
  rw [HC.out, if_neg (by rw [F1.out]; decide), if_neg (by rw [F2.out]; decide), if_neg h256, if_neg (by rw [F3.out]; decide), if_neg (by rw [F4.out]; decide), if_neg (by rw [F5.out]; decide), if_pos F.out]
  exact ⟨rfl, H6.out.gr⟩
 have F6 := Lib.hid f6
 clear f6 H5
 go_wp2_with fail
 go_ret
 rw [HC.out, if_neg (by rw [F1.out]; decide), if_neg (by rw [F2.out]; decide), if_neg h256, if_neg (by rw [F3.out]; decide), if_neg (by rw [F4.out]; decide), if_neg (by rw [F5.out]; decide), if_neg (by rw [F6.out]; decide)]
 exact ⟨rfl, H6.out.gr⟩
end Go.Proofs.YtpogblengagpaaaGreatDoor

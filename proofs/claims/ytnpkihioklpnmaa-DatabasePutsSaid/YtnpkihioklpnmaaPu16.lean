/- Parts of the proof, packed: DbRef, DbRk, DbRf, AdNwM, IoOwnR, IoOwnA, AdROw. -/
import Derived.Test.YtnpkihioklpnmaaPu11
import Derived.Test.YtnpkihioklpnmaaPu15
import Derived.Test.YtnpkihioklpnmaaPu6
import Derived.Sort.Walk0
import Derived.Test.YtnpkihioklpnmaaPu5
/- The reference's Find, Same, Check of databases; big. -/
namespace Go.Proofs.Ytnpkihioklpnmaa
open Go.RowKit Bs
structure D1 (W : World) (l : List Ad) (p : Option Addr) (c : Nat) (w : World) : Prop where
  db : RdA w (· < W.heap.size) (.slice p l.length c) l
  d : w.heap[W.heap.size]? = some (.cells #[.slice p l.length c] 25 (0, 0))
  gr : W.grownBy w none
set_option maxRecDepth 100000 in
theorem D1.keep {W w w1 : World} {l : List Ad} {p : Option Addr} {c : Nat} (h : D1 W l p c w) (g : w.grownBy w1 none) : D1 W l p c w1 := ⟨h.db.keep g, kept_row h.d g (by simp), grown_trans h.gr g⟩
set_option maxRecDepth 100000 in
theorem d1_start {w : World} {l : List Ad} {p : Option Addr} {c : Nat} {q : Nat → Prop} (hR : RdA w q (.slice p l.length c) l) : D1 w l p c (w.alloc (.cells #[.slice p l.length c] 25)) := by
  obtain ⟨k1, k2⟩ := tone_box w #[.slice p l.length c] 25
  exact ⟨(RdA.old hR).keep k2, k1, k2⟩
/-- Has an advert too long lists? -/
def bg1 (A : Ad) : Bool := decide (60 < A.L.length ∨ 60 < A.C.length)
def bigD (l : List Ad) : Bool := if l.any bg1 = true then true else decide (120 < l.length)
set_option maxRecDepth 100000 in
theorem big_sm {l : List Ad} (h : bigD l = false) : l.length ≤ 120 ∧ ∀ A ∈ l, A.L.length ≤ 60 ∧ A.C.length ≤ 60 := by
  unfold bigD at h
  by_cases e : l.any bg1 = true
  · rw [if_pos e] at h; cases h
  · rw [if_neg e] at h
    refine ⟨by have := of_decide_eq_false h; omega, fun A hA => ?_⟩
    have h2 := List.any_eq_false.1 (by simpa using e) A hA
    unfold bg1 at h2
    have h4 : ¬ (60 < A.L.length ∨ 60 < A.C.length) := fun h3 => h2 (decide_eq_true h3)
    omega
set_option maxRecDepth 100000 in
theorem anyD_take {l : List Ad} {P : Ad → Bool} {k : Nat} {x : Ad} (h : (l.take k).any P = false) (hx : l[k]? = some x) (hp : P x = false) : (l.take (k + 1)).any P = false := by
  rw [List.take_add_one, hx, List.any_append, h]
  simp [hp]
set_option maxRecDepth 100000 in
theorem anyD_hit {l : List Ad} {P : Ad → Bool} {k : Nat} {x : Ad} (hx : l[k]? = some x) (hp : P x = true) : l.any P = true := List.any_eq_true.2 ⟨x, List.mem_of_getElem? hx, hp⟩
set_option maxRecDepth 100000 in
set_option maxHeartbeats 3200000 in
theorem dbig_any (l : List Ad) (p : Option Addr) (c : Nat) (q : Nat → Prop) (w : World) (hR : RdA w q (.slice p l.length c) l) (hm : l.length ≤ 9223372036854775807) :
    Calls Try.prog 13 #[.agg #[.slice p l.length c]] w fun e w' => e = .returned (.bool (bigD l)) ∧ w.grownBy w' none := by
  have H0 := Lib.hid (d1_start hR)
  clear hR
  obtain ⟨X, hX⟩ : ∃ X, bigD l = X := ⟨_, rfl⟩
  have HX := Lib.hid hX
  rw [hX]
  clear hX
  go_enter Try.func13, Try.ntmps13
  go_upto_region 1 with fail
  generalize w.alloc _ = wa at *
  go_wp2_with fail
  go_loopw [3] (fun a wr => ∃ k : Nat, k ≤ l.length ∧ a = .int .i64 (k : Int) ∧ Hid ((l.take k).any bg1 = false) ∧ Hid (D1 w l p c wr)) (fun a _ => l.length - (RowKit.intOf a).toNat)
  case atStart => exact ⟨0, Nat.zero_le _, rfl, Lib.hid rfl, H0⟩
  case round =>
  obtain ⟨k, hk, rfl, HN, K⟩ := hrel
  clear H0
  have c0 : wr.cell? ⟨w.heap.size, 0, none⟩ = some (.slice p l.length c) := cell_of_row _ _ _ _ _ _ K.out.d
  by_cases hlt : k < l.length
  · have hltI : (k : Int) < (l.length : Int) := by omega
    obtain ⟨-, b, off, rfl, -, -⟩ := rda_cells K.out.db (by omega)
    obtain ⟨A, hA⟩ : ∃ A, l[k]? = some A := ⟨_, List.getElem?_eq_getElem hlt⟩
    obtain ⟨a0, a1, a2, a3, a4⟩ := rda_at K.out.db hA
    have HA := Lib.hid hA
    clear hA
    by_cases e1 : 60 < A.L.length
    · have e1' : (60 : Int) < (A.L.length : Int) := by omega
      obtain rfl : true = X := by rw [← HX.out]; unfold bigD; rw [if_pos (anyD_hit HA.out (decide_eq_true (Or.inl e1)))]
      clear e1
      go_wp2_with fail
      go_ret
      exact ⟨rfl, K.out.gr⟩
    · have e1' : ¬ (60 : Int) < (A.L.length : Int) := by omega
      by_cases e2 : 60 < A.C.length
      · have e2' : (60 : Int) < (A.C.length : Int) := by omega
        obtain rfl : true = X := by rw [← HX.out]; unfold bigD; rw [if_pos (anyD_hit HA.out (decide_eq_true (Or.inr e2)))]
        clear e1 e2
        go_wp2_with fail
        go_ret
        exact ⟨rfl, K.out.gr⟩
      · have e2' : ¬ (60 : Int) < (A.C.length : Int) := by omega
        have HN2 := Lib.hid (anyD_take HN.out HA.out (decide_eq_false (by omega)))
        clear e1 e2
        go_wp2_with fail
        exact ⟨⟨k + 1, by omega, congrArg _ (by omega), HN2, K⟩, by simp only [RowKit.intOf]; omega⟩
  · obtain rfl : k = l.length := by omega
    have hN := HN.out
    rw [List.take_length] at hN
    have HXX : Hid (X = decide ((120 : Int) < (l.length : Int))) := Lib.hid (by rw [← HX.out]; unfold bigD; rw [hN, if_neg (by decide)]; exact decide_eq_decide.2 (by omega))
    clear hN
    by_cases e3 : (120 : Int) < (l.length : Int)
    · obtain rfl : X = true := by rw [HXX.out, decide_eq_true e3]
      go_wp2_with fail
      go_ret
      exact ⟨rfl, K.out.gr⟩
    · obtain rfl : X = false := by rw [HXX.out, decide_eq_false e3]
      go_wp2_with fail
      go_ret
      exact ⟨rfl, K.out.gr⟩
end Go.Proofs.Ytnpkihioklpnmaa

/- The reference's Check of databases. -/
namespace Go.Proofs.Ytnpkihioklpnmaa
open Go.RowKit Bs
set_option maxRecDepth 100000 in
theorem asc_start {l : List Ad} (hv : ∀ A ∈ l, vAd A = true) (h : 1 ≤ l.length) : ascD (lastD l 1) (l.drop 1) = ascD 0 l := by
  cases l with
  | nil => simp at h
  | cons A t =>
    have h1 := (VA.of (hv A List.mem_cons_self)).r.1
    show ascD (lastD (A :: t) 1) t = _
    rw [lastD_succ (k := 0) (x := A) rfl, ascD, decide_eq_true (show (0 : Int) < A.r by omega), Bool.true_and]
set_option maxRecDepth 100000 in
set_option maxHeartbeats 6400000 in
theorem rcheck8_any (l : List Ad) (p : Option Addr) (c : Nat) (q : Nat → Prop) (w : World) (hR : RdA w q (.slice p l.length c) l) (hm : l.length ≤ 9223372036854775807) :
    Calls Try.prog 15 #[.agg #[.slice p l.length c]] w fun e w' => e = .returned (.int .i64 (chkD l)) ∧ w.grownBy w' none := by
  have H0 := Lib.hid (d1_start hR)
  clear hR
  obtain ⟨X, hX⟩ : ∃ X, chkD l = X := ⟨_, rfl⟩
  have HX := Lib.hid hX
  rw [hX]
  clear hX
  go_enter Try.func15, Try.ntmps15
  go_upto_region 1 with fail
  generalize w.alloc _ = wa at *
  have c0 : wa.cell? ⟨w.heap.size, 0, none⟩ = some (.slice p l.length c) := cell_of_row _ _ _ _ _ _ H0.out.d
  by_cases h99 : (99 : Int) < (l.length : Int)
  · obtain rfl : X = 3 := by rw [← HX.out]; unfold chkD; rw [if_pos (by omega)]
    go_wp2_with fail
    go_ret
    exact ⟨rfl, H0.out.gr⟩
  have h99n : ¬ 99 < l.length := by omega
  have H99 := Lib.hid h99n
  clear h99n
  go_wp2_with fail
  clear c0
  go_loopw [3] (fun a wr => ∃ k : Nat, k ≤ l.length ∧ a = .int .i64 (k : Int) ∧ Hid ((l.take k).any notV = false) ∧ Hid (D1 w l p c wr)) (fun a _ => l.length - (RowKit.intOf a).toNat)
  case atStart => exact ⟨0, Nat.zero_le _, rfl, Lib.hid rfl, H0⟩
  case round =>
  obtain ⟨k, hk, rfl, HN, K⟩ := hrel
  clear H0
  have c0 : wr.cell? ⟨w.heap.size, 0, none⟩ = some (.slice p l.length c) := cell_of_row _ _ _ _ _ _ K.out.d
  by_cases hlt : k < l.length
  · have hltI : (k : Int) < (l.length : Int) := by omega
    obtain ⟨-, b, off, rfl, -, -⟩ := rda_cells K.out.db (by omega)
    obtain ⟨A, hA⟩ : ∃ A, l[k]? = some A := ⟨_, List.getElem?_eq_getElem hlt⟩
    obtain ⟨a0, a1, a2, a3, a4⟩ := rda_at K.out.db hA
    have HA := Lib.hid (And.intro hA (List.mem_of_getElem? hA))
    clear hA
    go_wp2_with fail
    refine (rvalidA_any A _ wr (K.out.db.ok A HA.out.2)).mono ?_
    rintro e w1 ⟨rfl, hg⟩
    have K2 := Lib.hid (K.out.keep hg)
    obtain ⟨v, hv⟩ : ∃ v, vAd A = v := ⟨_, rfl⟩
    rw [hv]
    cases v with
    | false =>
      obtain rfl : X = 1 := by rw [← HX.out]; unfold chkD; rw [if_neg H99.out, if_pos (anyD_hit HA.out.1 (by unfold notV; rw [hv]; rfl))]
      clear hv hg K a0 a1 a2 a3 a4 c0
      go_wp2_with fail
      go_ret
      exact ⟨rfl, K2.out.gr⟩
    | true =>
      have HN2 := Lib.hid (anyD_take HN.out HA.out.1 (P := notV) (by unfold notV; rw [hv]; rfl))
      clear hv hg K a0 a1 a2 a3 a4 c0
      go_wp2_with fail
      exact ⟨⟨k + 1, by omega, congrArg _ (by omega), HN2, K2⟩, by simp only [RowKit.intOf]; omega⟩
  · obtain rfl : k = l.length := by omega
    have hN := HN.out
    rw [List.take_length] at hN
    have HVV : Hid (∀ A ∈ l, vAd A = true) := Lib.hid (fun A hA => by have := List.any_eq_false.1 hN A hA; unfold notV at this; simpa using this)
    have HXX : Hid (X = if ascD 0 l = false then 25 else 0) := Lib.hid (by rw [← HX.out]; unfold chkD; rw [if_neg H99.out, hN, if_neg (by decide)])
    clear hN HN hlt hk
    go_wp2_with fail
    clear c0
    go_loopw [4] (fun a wr => ∃ k : Nat, 1 ≤ k ∧ (k ≤ l.length ∨ k = 1) ∧ a = .int .i64 (k : Int) ∧ Hid (1 ≤ l.length → ascD (lastD l k) (l.drop k) = ascD 0 l) ∧ Hid (D1 w l p c wr)) (fun a _ => l.length - (RowKit.intOf a).toNat)
    case atStart => exact ⟨1, by omega, Or.inr rfl, rfl, Lib.hid (asc_start HVV.out), K⟩
    case round =>
    clear K
    obtain ⟨k, hk1, hk, rfl, HI, K⟩ := hrel
    have c0 : wr.cell? ⟨w.heap.size, 0, none⟩ = some (.slice p l.length c) := cell_of_row _ _ _ _ _ _ K.out.d
    by_cases hlt : k < l.length
    · obtain ⟨j, rfl⟩ : ∃ j, k = j + 1 := ⟨k - 1, by omega⟩
      obtain ⟨-, b, off, rfl, -, -⟩ := rda_cells K.out.db (by omega)
      obtain ⟨x, hx⟩ : ∃ x, l[j]? = some x := ⟨_, List.getElem?_eq_getElem (by omega)⟩
      obtain ⟨y, hy⟩ : ∃ y, l[j + 1]? = some y := ⟨_, List.getElem?_eq_getElem hlt⟩
      obtain ⟨a0, a1, a2, a3, a4⟩ := rda_at K.out.db hx
      obtain ⟨b0, b1, b2, b3, b4⟩ := rda_at K.out.db hy
      have HS : Hid (ascD 0 l = (decide (x.r < y.r) && ascD (lastD l (j + 1 + 1)) (l.drop (j + 1 + 1)))) := Lib.hid (by
        rw [← HI.out (by omega), ascD_step hy, lastD_succ hx])
      have ew1 : ((j : Int) + 1 - 1) = (j : Int) := by omega
      have ew2 : IntKind.i64.wrap ((j : Int) + 1 - 1) = (j : Int) := by rw [ew1, IntWalk.i64_in _ (by omega)]
      have ew3 : IntKind.i64.wrap (j : Int) = (j : Int) := IntWalk.i64_in _ (by omega)
      have j0 : (0 : Int) ≤ (j : Int) := by omega
      have j1 : (0 : Int) ≤ (j : Int) + 1 := by omega
      have j2 : (j : Int) < (l.length : Int) := by omega
      have j3 : (j : Int) + 1 < (l.length : Int) := by omega
      have j4 : ((j : Int) + 1).toNat = j + 1 := by omega
      have hcast : ((j + 1 : Nat) : Int) = (j : Int) + 1 := by omega
      clear hx hy HI
      rw [hcast]
      by_cases hge : y.r ≤ x.r
      · obtain rfl : X = 25 := by rw [HXX.out, HS.out, decide_eq_false (by omega), Bool.false_and, if_pos rfl]
        go_wp2_with fail
        go_region
        go_wp2_with fail
        go_ret
        exact ⟨rfl, (K.out.keep (grown_drew (grown_refl _ none))).gr⟩
      · have HI2 : Hid (1 ≤ l.length → ascD (lastD l (j + 1 + 1)) (l.drop (j + 1 + 1)) = ascD 0 l) := Lib.hid (fun _ => by rw [HS.out, decide_eq_true (by omega), Bool.true_and])
        go_wp2_with fail
        go_region
        have K2 := Lib.hid (K.out.keep (grown_drew (grown_refl wr none)))
        go_wp2_with fail
        exact ⟨⟨j + 1 + 1, by omega, Or.inl (by omega), congrArg _ (by omega), HI2, K2⟩, by simp only [RowKit.intOf]; omega⟩
    · have hltI : ¬ (k : Int) < (l.length : Int) := by omega
      obtain rfl : X = 0 := by
        rw [HXX.out]
        by_cases h0 : l.length = 0
        · rw [List.eq_nil_of_length_eq_zero h0]; rfl
        · rw [← HI.out (by omega), List.drop_of_length_le (by omega)]; rfl
      go_wp2_with fail
      go_ret
      exact ⟨rfl, K.out.gr⟩
end Go.Proofs.Ytnpkihioklpnmaa

/- The reference's Find of databases. -/
namespace Go.Proofs.Ytnpkihioklpnmaa
open Go.RowKit Bs
set_option maxRecDepth 100000 in
set_option maxHeartbeats 3200000 in
theorem rfind_any (l : List Ad) (r : Int) (p : Option Addr) (c : Nat) (q : Nat → Prop) (w : World) (hR : RdA w q (.slice p l.length c) l) (hm : l.length ≤ 9223372036854775807) :
    Calls Try.prog 20 #[.agg #[.slice p l.length c], .int .i64 r] w fun e w' => FinPost l r q w e w' := by
  have H0 := Lib.hid (fb_start hR)
  have HR := Lib.hid hR
  clear hR
  go_enter Try.func20, Try.ntmps20
  go_upto_region 1 with fail
  generalize (w.alloc _).alloc _ = wa at *
  go_wp2_with fail
  go_loopw [6] (fun a wr => ∃ k : Nat, k ≤ l.length ∧ a = .int .i64 (k : Int) ∧ Hid ((l.take k).find? (isR r) = none) ∧ Hid (FB w l p c wr)) (fun a _ => l.length - (RowKit.intOf a).toNat)
  case atStart => exact ⟨0, Nat.zero_le _, rfl, Lib.hid rfl, H0⟩
  case round =>
  obtain ⟨k, hk, rfl, HN, K⟩ := hrel
  clear H0
  have c0 : wr.cell? ⟨w.heap.size, 0, none⟩ = some (.slice p l.length c) := cell_of_row _ _ _ _ _ _ K.out.d
  obtain ⟨z0, z1, z2, z3, z4⟩ := row5 K.out.z
  have f0 := frozen_of_row _ _ 0 _ _ K.out.z
  have f1 := frozen_of_row _ _ 1 _ _ K.out.z
  have f2 := frozen_of_row _ _ 2 _ _ K.out.z
  have f3 := frozen_of_row _ _ 3 _ _ K.out.z
  have f4 := frozen_of_row _ _ 4 _ _ K.out.z
  by_cases hlt : k < l.length
  · have hltI : (k : Int) < (l.length : Int) := by omega
    obtain ⟨-, b, off, rfl, -, -⟩ := rda_cells K.out.db (by omega)
    obtain ⟨A, hA⟩ : ∃ A, l[k]? = some A := ⟨_, List.getElem?_eq_getElem hlt⟩
    obtain ⟨a0, a1, a2, a3, a4⟩ := rda_at K.out.db hA
    have HA := Lib.hid (And.intro hA (List.mem_of_getElem? hA))
    clear hA
    by_cases e : A.r = r
    · have e' : (A.r == r) = true := by simpa using e
      have HF := Lib.hid (fn_hit HN.out HA.out.1 e)
      obtain ⟨t1, t2⟩ := store5 (.int .i64 A.r) (.int .i64 A.q) (.bool A.cp) (.slice A.pL A.L.length A.cL) (.slice A.pC A.C.length A.cC) K.out.z
      have HT := Lib.hid (And.intro t1 (And.intro (grown_new K.out.gr t2 (by omega)) (((((HR.out.ok A HA.out.2).and.keep K.out.gr).grown t2 (fun b hb e => by have := Option.some.inj e; have := hb.2; omega))).mono (fun _ hb => hb.1))))
      clear t1 t2 K e
      go_wp2_with fail
      refine bodyPost_ret (res_adv_b rfl _ _ (w.heap.size + 1) _ _ _ _ _ rfl HT.out.1) rfl ?_
      exact ⟨A, by rw [HF.out]; rfl, by rw [HF.out]; exact ⟨rfl, rfl, rfl, rfl, rfl⟩, HT.out.2.2, HT.out.2.1⟩
    · have e' : (A.r == r) = false := by simpa using e
      have HN2 : Hid ((l.take (k + 1)).find? (isR r) = none) := Lib.hid (by rw [fn_take HN.out HA.out.1, if_neg e])
      clear e HN
      go_wp2_with fail
      exact ⟨⟨k + 1, by omega, congrArg _ (by omega), HN2, K⟩, by simp only [RowKit.intOf]; omega⟩
  · obtain rfl : k = l.length := by omega
    have HF := Lib.hid (fn_end HN.out)
    obtain ⟨t1, t2⟩ := store5 (.int .i64 0) (.int .i64 0) (.bool false) (.slice none 0 0) (.slice none 0 0) K.out.z
    have HT := Lib.hid (And.intro t1 (grown_new K.out.gr t2 (by omega)))
    clear t1 t2 K HN
    go_wp2_with fail
    refine bodyPost_ret (res_adv_b rfl _ _ (w.heap.size + 1) _ _ _ _ _ rfl HT.out.1) rfl ?_
    exact ⟨zAd, by rw [HF.out]; rfl, by rw [HF.out]; exact ⟨rfl, rfl, rfl, rfl, rfl⟩, zAd_ok _ _, HT.out.2⟩
end Go.Proofs.Ytnpkihioklpnmaa

/- advert: the order of the encodings of valid adverts is that of their fields. -/
namespace Go.Proofs.Ytnpkihioklpnmaa
open Go.RowKit Bs
/-- Below j two lists of bits agree; there the one has 0 and the other 1. -/
structure DfB (X Y : List Bool) (j : Nat) : Prop where
  l : j < X.length
  r : j < Y.length
  eq : ∀ i, i < j → bf X i = bf Y i
  f : bf X j = false
  t : bf Y j = true
set_option maxRecDepth 100000 in
theorem nb_dif : ∀ (k x y : Nat), x < y → y < 2 ^ k → ∃ t, t < k ∧ (∀ i, i < t → x.testBit (k - 1 - i) = y.testBit (k - 1 - i)) ∧ x.testBit (k - 1 - t) = false ∧ y.testBit (k - 1 - t) = true
  | 0, x, y, h1, h2 => by simp at h2; omega
  | k + 1, x, y, h1, h2 => by
    have hs : ∀ (z i : Nat), i < k → z.testBit (k + 1 - 1 - i) = (z / 2).testBit (k - 1 - i) := fun z i hi => by
      rw [show k + 1 - 1 - i = (k - 1 - i) + 1 by omega, Nat.testBit_succ]
    rw [Nat.pow_succ] at h2
    rcases Nat.lt_or_ge (x / 2) (y / 2) with h | h
    · obtain ⟨t, ht, he, hf, hg⟩ := nb_dif k (x / 2) (y / 2) h (by omega)
      exact ⟨t, by omega, fun i hi => by rw [hs x i (by omega), hs y i (by omega)]; exact he i hi, by rw [hs x t ht]; exact hf, by rw [hs y t ht]; exact hg⟩
    · have e : x / 2 = y / 2 := by omega
      refine ⟨k, by omega, fun i hi => by rw [hs x i hi, hs y i hi, e], ?_, ?_⟩
      · rw [show k + 1 - 1 - k = 0 by omega, Nat.testBit_zero]; simp; omega
      · rw [show k + 1 - 1 - k = 0 by omega, Nat.testBit_zero]; simp; omega
set_option maxRecDepth 100000 in
theorem dif_mid {X Y : List Bool} (P R S : List Bool) (x y k : Nat) (hX : X = P ++ nb x k ++ R) (hY : Y = P ++ nb y k ++ S) (hxy : x < y) (hy : y < 2 ^ k) : ∃ j, DfB X Y j := by
  obtain ⟨t, ht, he, hf, hg⟩ := nb_dif k x y hxy hy
  have hb : ∀ (z : Nat) (Q : List Bool) (s : Nat), s < k → bf (P ++ nb z k ++ Q) (P.length + s) = z.testBit (k - 1 - s) := fun z Q s hs => by
    rw [bf_left _ _ _ (by rw [List.length_append, nb_len]; omega), bf_right, bf_nb _ _ _ hs]
  refine ⟨P.length + t, ?_, ?_, fun i hi => ?_, ?_, ?_⟩
  · rw [hX]; simp only [List.length_append, nb_len]; omega
  · rw [hY]; simp only [List.length_append, nb_len]; omega
  · rcases Nat.lt_or_ge i P.length with h | h
    · rw [hX, hY, bf_left _ _ _ (by rw [List.length_append]; omega), bf_left _ _ _ h, bf_left _ _ _ (by rw [List.length_append]; omega), bf_left _ _ _ h]
    · obtain ⟨s, rfl⟩ : ∃ s, i = P.length + s := ⟨i - P.length, by omega⟩
      rw [hX, hY, hb x R s (by omega), hb y S s (by omega)]
      exact he s (by omega)
  · rw [hX, hb x R t ht]; exact hf
  · rw [hY, hb y S t ht]; exact hg
/-! The order of bytes. -/
def LtB (l m : List Nat) : Prop := ∃ b, b < l.length ∧ b < m.length ∧ (∀ i, i < b → l.getD i 0 = m.getD i 0) ∧ l.getD b 0 < m.getD b 0
set_option maxRecDepth 100000 in
theorem By.tail {a : Nat} {l : List Nat} (h : By (a :: l)) : By l := fun x hx => h x (List.mem_cons_of_mem _ hx)
set_option maxRecDepth 100000 in
theorem ltB_less : ∀ (b : Nat) (l m : List Nat), By l → By m → b < l.length → b < m.length → (∀ i, i < b → l.getD i 0 = m.getD i 0) → l.getD b 0 < m.getD b 0 → Op.bytesLess (l.map fun x => UInt8.ofNat x) (m.map fun x => UInt8.ofNat x) = true
  | _, [], _, _, _, h, _, _, _ => by simp at h
  | _, _ :: _, [], _, _, _, h, _, _ => by simp at h
  | 0, a :: l, c :: m, hl, hm, _, _, _, h => by
    have h1 : a < c := by simpa using h
    have ha := hl a List.mem_cons_self
    have hc := hm c List.mem_cons_self
    rw [List.map_cons, List.map_cons, Op.bytesLess]
    have : UInt8.ofNat a < UInt8.ofNat c := by
      rw [UInt8.lt_iff_toNat_lt, UInt8.toNat_ofNat', UInt8.toNat_ofNat', Nat.mod_eq_of_lt ha, Nat.mod_eq_of_lt hc]
      exact h1
    rw [decide_eq_true this]; rfl
  | b + 1, a :: l, c :: m, hl, hm, h1, h2, he, h => by
    have e0 : a = c := by have := he 0 (by omega); simpa using this
    subst e0
    rw [List.map_cons, List.map_cons, Op.bytesLess, ltB_less b l m (By.tail hl) (By.tail hm) (by simpa using h1) (by simpa using h2) (fun i hi => by have := he (i + 1) (by omega); simpa using this) (by simpa using h)]
    simp
set_option maxRecDepth 100000 in
theorem pk_bit (X : List Bool) (b i : Nat) (hb : b < (X.length + 7) / 8) (hi : i < 8) : ((pk X).getD b 0).testBit i = bf X (8 * b + (7 - i)) := by
  have h := bt_pk X (8 * b + (7 - i)) (by omega)
  unfold bt at h
  rw [show (8 * b + (7 - i)) / 8 = b by omega, show 7 - (8 * b + (7 - i)) % 8 = i by omega] at h
  exact h
set_option maxRecDepth 100000 in
theorem pk_big (X : List Bool) (b i : Nat) (hi : 8 ≤ i) : ((pk X).getD b 0).testBit i = false := by
  refine Nat.testBit_lt_two_pow (Nat.lt_of_lt_of_le (m := 256) ?_ (Nat.pow_le_pow_right (n := 2) (by decide) hi))
  rw [List.getD_eq_getElem?_getD]
  cases h : (pk X)[b]? with
  | none => simp
  | some v => exact pk_by X v (List.mem_of_getElem? h)
set_option maxRecDepth 100000 in
theorem lt_testBit {n m i : Nat} (hn : n.testBit i = false) (hm : m.testBit i = true) (h : ∀ j, i < j → n.testBit j = m.testBit j) : n < m := by
  have e : n / 2 ^ (i + 1) = m / 2 ^ (i + 1) := Nat.eq_of_testBit_eq fun j => by
    rw [Nat.testBit_div_two_pow, Nat.testBit_div_two_pow]; exact h _ (by omega)
  have h1 : n % 2 ^ (i + 1) < 2 ^ i := Nat.lt_pow_two_of_testBit _ fun j hj => by
    rw [Nat.testBit_mod_two_pow]
    rcases Nat.lt_or_ge j (i + 1) with h2 | h2
    · obtain rfl : j = i := by omega
      rw [hn, Bool.and_false]
    · rw [decide_eq_false (by omega), Bool.false_and]
  have h2 : 2 ^ i ≤ m % 2 ^ (i + 1) := Nat.ge_two_pow_of_testBit (by rw [Nat.testBit_mod_two_pow, hm, decide_eq_true (by omega)]; rfl)
  have a := Nat.div_add_mod n (2 ^ (i + 1))
  have b := Nat.div_add_mod m (2 ^ (i + 1))
  rw [e] at a
  omega
set_option maxRecDepth 100000 in
theorem dif_ltB {X Y : List Bool} {j : Nat} (h : DfB X Y j) : LtB (pk X) (pk Y) := by
  have h1 := h.l
  have h2 := h.r
  refine ⟨j / 8, by rw [pk_len]; omega, by rw [pk_len]; omega, fun b hb => ?_, ?_⟩
  · refine Nat.eq_of_testBit_eq fun i => ?_
    rcases Nat.lt_or_ge i 8 with hi | hi
    · rw [pk_bit _ _ _ (by omega) hi, pk_bit _ _ _ (by omega) hi]
      exact h.eq _ (by omega)
    · rw [pk_big _ _ _ hi, pk_big _ _ _ hi]
  · refine lt_testBit (i := 7 - j % 8) ?_ ?_ fun i hi => ?_
    · rw [pk_bit _ _ _ (by omega) (by omega), show 8 * (j / 8) + (7 - (7 - j % 8)) = j by omega]; exact h.f
    · rw [pk_bit _ _ _ (by omega) (by omega), show 8 * (j / 8) + (7 - (7 - j % 8)) = j by omega]; exact h.t
    · rcases Nat.lt_or_ge i 8 with h8 | h8
      · rw [pk_bit _ _ _ (by omega) h8, pk_bit _ _ _ (by omega) h8]
        exact h.eq _ (by omega)
      · rw [pk_big _ _ _ h8, pk_big _ _ _ h8]
set_option maxRecDepth 100000 in
theorem dif_less {X Y : List Bool} {j : Nat} (h : DfB X Y j) : Op.bytesLess (bs (pk X)).toList (bs (pk Y)).toList = true := by
  obtain ⟨b, h1, h2, h3, h4⟩ := dif_ltB h
  have := ltB_less b _ _ (pk_by X) (pk_by Y) h1 h2 h3 h4
  unfold bs
  rw [Lib.toList_data, Lib.toList_data]
  exact this
/-- Is the one string greater than the other? -/
def gtS (l m : List Nat) : Bool := !(Op.bytesLess (bs l).toList (bs m).toList || (bs l).toList == (bs m).toList)
set_option maxRecDepth 100000 in
theorem less_asymm {x y : List UInt8} (h : Op.bytesLess x y = true) : Op.bytesLess y x = false ∧ (y == x) = false := by
  rw [bytesLess_eq] at h ⊢
  have h := of_decide_eq_true h
  refine ⟨decide_eq_false (List.lt_asymm h), ?_⟩
  rw [beq_eq_false_iff_ne]
  rintro rfl
  exact List.lt_irrefl _ h
/-! Adverts. -/
set_option maxRecDepth 100000 in
theorem orV_lt {a : Int} {r : List Int} (h : orV (a :: r) < 0) : a < 0 ∨ (a = 0 ∧ orV r < 0) := by
  rw [orV_cons] at h
  by_cases e : a = 0
  · rw [if_pos e] at h; exact .inr ⟨e, h⟩
  · rw [if_neg e] at h; exact .inl h
set_option maxRecDepth 100000 in
theorem orV_nlt (h : orV [] < 0) : False := by unfold orV at h; omega
set_option maxRecDepth 100000 in
theorem cfL_lt : ∀ {L M : List T3}, L.length = M.length → cfL L M < 0 → ∃ i x y, L[i]? = some x ∧ M[i]? = some y ∧ L.take i = M.take i ∧ cmp3 x y < 0
  | [], [], _, h => by rw [cfL] at h; omega
  | [], _ :: _, h, _ => by simp at h
  | _ :: _, [], h, _ => by simp at h
  | x :: s, y :: t, hl, h => by
    rw [cfL] at h
    by_cases e : cmp3 x y = 0
    · rw [if_pos e] at h
      obtain ⟨i, u, v, h1, h2, h3, h4⟩ := cfL_lt (L := s) (M := t) (by simpa using hl) h
      exact ⟨i + 1, u, v, by simpa using h1, by simpa using h2, by rw [List.take_succ_cons, List.take_succ_cons, h3, cmp3_zero.1 e], h4⟩
    · rw [if_neg e] at h
      exact ⟨0, x, y, rfl, rfl, rfl, h⟩
set_option maxRecDepth 100000 in
theorem alB_hd (A : Ad) : ∃ T, alB A = nb A.r.toNat 7 ++ nb A.q.toNat 20 ++ nb A.cp.toNat 1 ++ nb A.L.length 5 ++ T := by
  refine ⟨(A.L.take A.L.length).flatMap encR ++ nb A.C.length 4 ++ (A.C.take A.C.length).flatMap encK ++ nb (ck (adB A)) 16, ?_⟩
  unfold alB
  generalize nb (ck (adB A)) 16 = T
  unfold adB cmB mdB lkB hdB
  simp only [List.append_assoc]
set_option maxRecDepth 100000 in
theorem alB_md (A : Ad) : ∃ T, alB A = lkB A A.L.length ++ nb A.C.length 4 ++ T := by
  refine ⟨(A.C.take A.C.length).flatMap encK ++ nb (ck (adB A)) 16, ?_⟩
  unfold alB
  generalize nb (ck (adB A)) 16 = T
  unfold adB cmB mdB
  simp only [List.append_assoc]
set_option maxRecDepth 100000 in
theorem code_lt {a b : Int} (ha : a = 8 ∨ a = 16 ∨ a = 32 ∨ a = 64) (hb : b = 8 ∨ b = 16 ∨ b = 32 ∨ b = 64) (h : a < b) : codeN a < codeN b ∧ codeN b < 2 ^ 2 := by
  rcases ha with rfl | rfl | rfl | rfl <;> rcases hb with rfl | rfl | rfl | rfl <;> first | omega | decide
set_option maxRecDepth 100000 in
theorem dif_assoc {X : List Bool} {P a b c Q : List Bool} (h : X = P ++ a ++ b ++ c ++ Q) : X = P ++ a ++ (b ++ c ++ Q) ∧ X = (P ++ a) ++ b ++ (c ++ Q) := by
  rw [h]
  simp only [List.append_assoc, and_self]
set_option maxRecDepth 100000 in
theorem cmp_dif {A B : Ad} (hA : VA A) (hB : VA B) (h : cmpA A B < 0) : ∃ j, DfB (alB A) (alB B) j := by
  obtain ⟨T, hT⟩ := alB_hd A
  obtain ⟨U, hU⟩ := alB_hd B
  have a1 := hA.r
  have a2 := hA.q
  have a3 := hA.ll
  have a4 := hA.cl
  have b1 := hB.r
  have b2 := hB.q
  have b3 := hB.ll
  have b4 := hB.cl
  unfold cmpA at h
  rcases orV_lt h with h | ⟨e1, h⟩
  · have h := cmpV_lt.1 h
    exact dif_mid [] (nb A.q.toNat 20 ++ nb A.cp.toNat 1 ++ nb A.L.length 5 ++ T) (nb B.q.toNat 20 ++ nb B.cp.toNat 1 ++ nb B.L.length 5 ++ U) A.r.toNat B.r.toNat 7 (by rw [hT]; simp only [List.append_assoc, List.nil_append]) (by rw [hU]; simp only [List.append_assoc, List.nil_append]) (by omega) (by omega)
  have e1 := cmpV_eq.1 e1
  rcases orV_lt h with h | ⟨e2, h⟩
  · have h := cmpV_lt.1 h
    exact dif_mid (nb A.r.toNat 7) (nb A.cp.toNat 1 ++ nb A.L.length 5 ++ T) (nb B.cp.toNat 1 ++ nb B.L.length 5 ++ U) A.q.toNat B.q.toNat 20 (by rw [hT]; simp only [List.append_assoc]) (by rw [hU, e1]; simp only [List.append_assoc]) (by omega) (by omega)
  have e2 := cmpV_eq.1 e2
  rcases orV_lt h with h | ⟨e3, h⟩
  · have h := cmpV_lt.1 h
    exact dif_mid (nb A.r.toNat 7 ++ nb A.q.toNat 20) (nb A.L.length 5 ++ T) (nb B.L.length 5 ++ U) A.cp.toNat B.cp.toNat 1 (by rw [hT]; simp only [List.append_assoc]) (by rw [hU, e1, e2]; simp only [List.append_assoc]) (by omega) (by cases B.cp <;> decide)
  have e3 := cmpV_eq.1 e3
  have e3 : A.cp.toNat = B.cp.toNat := by omega
  have hd : ∀ hL : A.L.length = B.L.length, hdB A = hdB B := fun hL => by unfold hdB; rw [e1, e2, e3, hL]
  rcases orV_lt h with h | ⟨e4, h⟩
  · rcases orV_lt h with h | ⟨e4, h⟩
    · have h := cmpV_lt.1 h
      exact dif_mid (nb A.r.toNat 7 ++ nb A.q.toNat 20 ++ nb A.cp.toNat 1) T U A.L.length B.L.length 5 hT (by rw [hU, e1, e2, e3]) (by omega) (by omega)
    have e4 := cmpV_eq.1 e4
    have hL : A.L.length = B.L.length := by omega
    rcases orV_lt h with h | ⟨_, h⟩
    · obtain ⟨i, x, y, hx, hy, ht, h⟩ := cfL_lt hL h
      obtain ⟨Q, hQ⟩ := alB_lk hx
      obtain ⟨R, hR⟩ := alB_lk hy
      have hp : lkB B i = lkB A i := by unfold lkB; rw [hd hL, ht]
      rw [hp] at hR
      have c1 := hA.L x (List.mem_of_getElem? hx)
      have c2 := hB.L y (List.mem_of_getElem? hy)
      unfold cmp3 at h
      rcases orV_lt h with h | ⟨f1, h⟩
      · have h := cmpV_lt.1 h
        exact dif_mid _ _ _ _ _ _ (dif_assoc hQ).1 (dif_assoc hR).1 (by omega) (by omega)
      have f1 := cmpV_eq.1 f1
      rcases orV_lt h with h | ⟨f2, h⟩
      · have h := cmpV_lt.1 h
        exact dif_mid _ _ _ _ _ _ (dif_assoc hQ).2 (by rw [f1]; exact (dif_assoc hR).2) (by omega) (by omega)
      have f2 := cmpV_eq.1 f2
      rcases orV_lt h with h | ⟨_, h⟩
      · have h := cmpV_lt.1 h
        exact dif_mid _ _ _ _ _ _ hQ (by rw [f1, f2]; exact hR) (by omega) (by omega)
      · exact (orV_nlt h).elim
    · exact (orV_nlt h).elim
  have e4 := cLs_zero.1 e4
  have hL : A.L.length = B.L.length := by rw [e4]
  have hk : ∀ n, lkB A n = lkB B n := fun n => by unfold lkB; rw [hd hL, e4]
  rcases orV_lt h with h | ⟨_, h⟩
  · rcases orV_lt h with h | ⟨e5, h⟩
    · have h := cmpV_lt.1 h
      obtain ⟨Q, hQ⟩ := alB_md A
      obtain ⟨R, hR⟩ := alB_md B
      exact dif_mid _ _ _ _ _ _ hQ (by rw [hk, hL]; exact hR) (by omega) (by omega)
    have e5 := cmpV_eq.1 e5
    have hC : A.C.length = B.C.length := by omega
    rcases orV_lt h with h | ⟨_, h⟩
    · obtain ⟨i, x, y, hx, hy, ht, h⟩ := cfL_lt hC h
      obtain ⟨Q, hQ⟩ := alB_cm hx
      obtain ⟨R, hR⟩ := alB_cm hy
      have hp : cmB B i = cmB A i := by unfold cmB mdB; rw [hk, hL, hC, ht]
      rw [hp] at hR
      have c1 := hA.C x (List.mem_of_getElem? hx)
      have c2 := hB.C y (List.mem_of_getElem? hy)
      unfold cmp3 at h
      rcases orV_lt h with h | ⟨f1, h⟩
      · have h := cmpV_lt.1 h
        exact dif_mid _ _ _ _ _ _ (dif_assoc hQ).1 (dif_assoc hR).1 (by omega) (by omega)
      have f1 := cmpV_eq.1 f1
      rcases orV_lt h with h | ⟨f2, h⟩
      · have h := cmpV_lt.1 h
        exact dif_mid _ _ _ _ _ _ (dif_assoc hQ).2 (by rw [f1]; exact (dif_assoc hR).2) (by omega) (by omega)
      have f2 := cmpV_eq.1 f2
      rcases orV_lt h with h | ⟨_, h⟩
      · have h := code_lt c1.2.2 c2.2.2 (cmpV_lt.1 h)
        exact dif_mid _ _ _ _ _ _ hQ (by rw [f1, f2]; exact hR) h.1 h.2
      · exact (orV_nlt h).elim
    · exact (orV_nlt h).elim
  · exact (orV_nlt h).elim
set_option maxRecDepth 100000 in
theorem adB_same {A B : Ad} (h : smA A B) : adB A = adB B := by
  obtain ⟨h1, h2, h3, h4, h5⟩ := h
  unfold adB cmB mdB lkB hdB
  rw [h1, h2, h3, h4, h5]
set_option maxRecDepth 100000 in
/-- The greater advert has the greater encoding. -/
theorem gtS_cmp {A B : Ad} (hA : VA A) (hB : VA B) : gtS (encA A) (encA B) = decide (0 < cmpA A B) := by
  unfold gtS
  rcases Int.lt_trichotomy (cmpA A B) 0 with h | h | h
  · obtain ⟨j, hj⟩ := cmp_dif hA hB h
    rw [encA_al, encA_al, dif_less hj, decide_eq_false (by omega)]; rfl
  · have e : encA A = encA B := by unfold encA; rw [adB_same (cmpA_zero.1 h)]
    rw [e, decide_eq_false (by omega)]
    simp
  · have h2 := cmpA_cmp.anti A B
    obtain ⟨j, hj⟩ := cmp_dif hB hA (by omega)
    have := less_asymm (dif_less hj)
    rw [encA_al, encA_al, this.1, this.2, decide_eq_true h]; rfl
set_option maxRecDepth 100000 in
/-- What the reference's Newer says. -/
theorem nwA_ref {A B : Ad} (hA : vAd A = true) (hB : vAd B = true) (hr : A.r = B.r) : nwA A B = (decide (B.q < A.q) || (decide (A.q = B.q) && gtS (encA A) (encA B))) := by
  unfold nwA
  rw [hA, hB, decide_eq_true hr, gtS_cmp (VA.of hA) (VA.of hB)]
  simp only [Bool.true_and]
  unfold cmpA
  rw [orV_cons, if_pos (cmpV_eq.2 hr), orV_cons]
  by_cases e : A.q = B.q
  · rw [if_pos (cmpV_eq.2 e), decide_eq_true e, decide_eq_false (show ¬ B.q < A.q by omega)]
    simp
  · rw [if_neg (fun h => e (cmpV_eq.1 h)), decide_eq_false e]
    simp only [Bool.false_and, Bool.or_false, decide_eq_decide]
    unfold cmpV
    repeat' split
    all_goals omega
end Go.Proofs.Ytnpkihioklpnmaa

/- What the reference's Append gives lies in memory of the call's own. -/
namespace Go.Proofs.Ytnpkihioklpnmaa
open Go.RowKit Bs
def PutsOwn (f : Nat → Bool) (W : World) (b r N j : Nat) (w' : World) : Prop := ∃ p c, BoxAt W b r p c (pz f (N + j) ((N + j + 7) / 8)) ((N + j : Nat) : Int) w' ∧ (1 ≤ j → Own w' (W.heap.size + 2) p c (pz f (N + j) ((N + j + 7) / 8)))
set_option maxRecDepth 100000 in
theorem PutsOwn.open_ {f : Nat → Bool} {W w' : World} {b r N j : Nat} (h : PutsOwn f W b r N j w') : ∃ p c l, Hid (l = pz f (N + j) ((N + j + 7) / 8)) ∧ BoxAt W b r p c l ((N + j : Nat) : Int) w' ∧ (1 ≤ j → Own w' (W.heap.size + 2) p c l) := by
  obtain ⟨p, c, h, h2⟩ := h
  exact ⟨p, c, _, Lib.hid rfl, h, h2⟩
set_option maxRecDepth 100000 in
theorem puts_own_next {f : Nat → Bool} {W w2 : World} {b r N j m base : Nat} {p p' : Option Addr} {c c' : Nat} {l l' : List Nat} {n : Int} (h : Hid (BoxAt W b r p c l n w2)) (hm : N + j = m) (hl : l' = pz f (m + 1) ((m + 8) / 8)) (o : Own w2 base p' c' l')
    (hb : W.heap.size ≤ b) (hbr : b ≠ r) (hb2 : b < base) (hr2 : r < base) (hW : W.heap.size + 2 ≤ base) :
    Hid (PutsOwn f W b r N (j + 1) ((w2.setCell ⟨b, 0, none⟩ (.slice p' l'.length c')).setCell ⟨b, 1, none⟩ (.int .i64 ((m : Int) + 1)))) := by
  subst hm
  subst hl
  exact Lib.hid ⟨p', c', h.out.store o hb hbr hb2 hr2, fun _ => (o.other (grown_store2 w2 b _ _) hb2).mono hW⟩
set_option maxRecDepth 100000 in
set_option maxHeartbeats 3200000 in
theorem appendo_any (l : List Nat) (N : Nat) (v K : Nat) (q : Nat → Prop) (p : Option Addr) (c : Nat) (hl : By l) (hv64 : U64 v) (hpc : p = none → c = 0) (hv : vs l (N : Int) = true) (hk1 : 1 ≤ K) (h : K < 64) (h3 : ¬ 2 ^ K ≤ v) (h4 : ¬ 8192 < N + K) (w : World) (hq : ∀ b, q b → b < w.heap.size) (hR : Rd w q (.slice p l.length c) (l.map nv)) :
    Calls Try.prog 122 #[.agg #[.slice p l.length c, .int .i64 (N : Int)], .int .u64 (v : Int), .int .i64 (K : Int)] w fun e w' =>
      ∃ p2 c2, e = .returned (.tuple #[.agg #[.slice p2 (apV l (N : Int) v (K : Int)).1.length c2, .int .i64 (apV l (N : Int) v (K : Int)).2.1], .int .i64 0]) ∧ Own w' (w.heap.size + 2) p2 c2 (apV l (N : Int) v (K : Int)).1 ∧ w.grownBy w' none := by
  have HVS := Lib.hid hv
  clear hv
  obtain ⟨k1, k2, k3, k4⟩ := two_boxes w #[.slice p l.length c, .int .i64 (N : Int)] #[.slice none 0 0, .int .i64 0] 123 123
  have hR1 := hR.keep k3
  have H0 := Lib.hid (show BoxAt w w.heap.size (w.heap.size + 1) p c l (N : Int) _ from ⟨k1, k2, hR1.mono fun x hx => by have := hq x hx; exact ⟨by omega, by omega⟩, hpc, hl, k3⟩)
  have hq1 : ∀ b, q b → b < ((w.alloc (.cells #[.slice p l.length c, .int .i64 (N : Int)] 123)).alloc (.cells #[.slice none 0 0, .int .i64 0] 123)).heap.size := fun b hb => Nat.lt_of_lt_of_le (hq b hb) k3.size
  have HSZ : Hid (w.heap.size + 2 ≤ ((w.alloc (.cells #[.slice p l.length c, .int .i64 (N : Int)] 123)).alloc (.cells #[.slice none 0 0, .int .i64 0] 123)).heap.size) := Lib.hid (Nat.le_of_eq k4.symm)
  clear k1 k2 k3 k4 hR
  go_enter Try.func122, Try.ntmps122
  go_wp2_with fail
  generalize (w.alloc (.cells #[.slice p l.length c, .int .i64 (N : Int)] 123)).alloc (.cells #[.slice none 0 0, .int .i64 0] 123) = w1 at *
  refine (validr_any l (N : Int) q p c hl _ hq1 hR1).mono ?_
  rintro e w2 ⟨rfl, hg⟩
  have HB := Lib.hid (H0.out.keep hg)
  have HSZ2 : Hid (w.heap.size + 2 ≤ w2.heap.size) := Lib.hid (Nat.le_trans HSZ.out hg.size)
  obtain ⟨c0, c1, f0, f1, r0, r1, g0, g1⟩ := HB.out.limbs
  clear hg hR1 H0 hq1 HSZ
  have hv := HVS.out
  obtain ⟨hN, hlen⟩ := vs_bits hv
  have hw : vw (K : Int) = true := by unfold vw; simp; omega
  have hK : K ≤ 64 := by omega
  rw [hv]
  have hz : (v : Int) / 2 ^ K = 0 := by
    rw [shrW, Nat.div_eq_of_lt (by omega)]; rfl
  have HL : Hid (l = pz (apf l N v K) N ((N + 7) / 8)) := by
    have e := pz_copy (M := l.length) hl hv (Nat.le_refl _) (apf_low (v := v) (K := K))
    rw [hlen] at e
    refine Lib.hid ?_
    rw [← e]; simp [hlen]
  have V := Lib.hid (apV_ok hv hw h3 h4)
  have h4' : ¬ (8192 : Int) < (N : Int) + (K : Int) := by omega
  have P0 : Hid (PutsOwn (apf l N v K) w w.heap.size (w.heap.size + 1) N 0 w2) := by
    refine Lib.hid ⟨p, c, ?_, fun h => by omega⟩
    show BoxAt w w.heap.size (w.heap.size + 1) p c (pz (apf l N v K) N ((N + 7) / 8)) (N : Int) w2
    rw [← HL.out]
    exact HB.out
  have dk1 : decide ((K : Int) < 0) = false := by simp
  have dk2 : decide (64 < (K : Int)) = false := by simp; omega
  clear hv hlen hw HL
  go_wp2_with fail
  go_loopw [8] (fun i wr => ∃ j : Nat, j ≤ K ∧ i = .int .i64 ((K : Int) - 1 - (j : Int)) ∧ PutsOwn (apf l N v K) w w.heap.size (w.heap.size + 1) N j wr ∧ w.heap.size + 2 ≤ wr.heap.size) (fun i _ => (RowKit.intOf i + 1).toNat)
  case atStart => exact ⟨0, Nat.zero_le _, by simp, P0.out, HSZ2.out⟩
  case round =>
    obtain ⟨j, hj, rfl, hP, hsz⟩ := hrel
    obtain ⟨p1, c1, l1, HL1, hB1, hO1⟩ := hP.open_
    have HB1 := Lib.hid hB1
    have HO1 := Lib.hid hO1
    have HZ := Lib.hid hsz
    clear hP hB1 P0 hsz hO1
    by_cases hlt : j < K
    · obtain ⟨i, hi⟩ : ∃ i : Nat, i = K - 1 - j := ⟨_, rfl⟩
      have hii : (K : Int) - 1 - (j : Int) = (i : Int) := by omega
      have hi64 : i < 64 := by omega
      obtain ⟨m, hm⟩ : ∃ m : Nat, N + j = m := ⟨_, rfl⟩
      have hbit : bits .and .u64 ((v : Int) / 2 ^ i) 1 = (((apf l N v K m).toNat : Nat) : Int) := by
        rw [and_one v i hv64, ← hm, apf_high j hlt, hi]
      have hbl := Bool.toNat_le (apf l N v K m)
      have C : ∀ (l1 : List Nat) (p1 : Option Addr) (c1 : Nat), l1 = pz (apf l N v K) m ((m + 7) / 8) → (p1 = none → c1 = 0) → Rd wr (fun x => x ≠ w.heap.size ∧ x ≠ w.heap.size + 1) (.slice p1 l1.length c1) (l1.map nv) → Calls Try.prog 125 #[.agg #[.slice p1 l1.length c1, .int .i64 (m : Int)], .int .u64 (((apf l N v K m).toNat : Nat) : Int)] wr fun e w' => StreamPost (pz (apf l N v K) (m + 1) ((m + 8) / 8)) ((m + 1 : Nat) : Int) wr e w' :=
        fun l1 p1 c1 h1 h2 h3 => put_any (apf l N v K) m l1 _ p1 c1 (by omega) h1 h2 wr h3
      rw [hm] at HL1 HB1
      clear HO1
      have H1 := Lib.hid (C l1 p1 c1 HL1.out HB1.out.pc HB1.out.rd)
      obtain ⟨c0, c2, f0, f1, r0, r1, g0, g1⟩ := HB1.out.limbs
      have HI := Lib.hid hi
      have HM := Lib.hid hm
      have hm9 : m ≤ 8192 := by omega
      clear C hi hm
      generalize (apf l N v K m).toNat = bb at *
      rw [hii]
      have HII := Lib.hid hii
      clear hii
      go_wp2_with fail
      refine H1.out.mono ?_
      rintro e w3 ⟨p3, c3, rfl, hown3, hg3⟩
      have hm8 : m / 8 + 1 = (m + 8) / 8 := by omega
      obtain ⟨l3, hl3⟩ : ∃ l3, l3 = pz (apf l N v K) (m + 1) ((m + 8) / 8) := ⟨_, rfl⟩
      rw [← hl3] at hown3
      rw [← hl3]
      have HB3 := Lib.hid (HB1.out.keep hg3)
      have R := puts_own_next (f := apf l N v K) (N := N) (j := j) HB3 HM.out hl3 hown3 (by omega) (by omega) (by have := HZ.out; omega) (by have := HZ.out; omega) HZ.out
      have R2 := Nat.le_trans HZ.out hg3.size
      have R3 := Lib.hid R2
      obtain ⟨c0, c2, f0, f1, r0, r1, g0, g1⟩ := HB3.out.limbs
      clear hown3 hg3 hm8 hl3 R2
      go_wp2_with fail
      go_roundw
      case rel => exact ⟨j + 1, by omega, by congr 1; have := HI.out; omega, R.out, by simpa using R3.out⟩
      case measure => have := HI.out; simp [RowKit.intOf] <;> omega
    · obtain rfl : j = K := by omega
      obtain ⟨c0, c2, f0, f1, r0, r1, g0, g1⟩ := HB1.out.limbs
      have F := Lib.hid (HB1.out.fin (V := apV l (N : Int) v (j : Int)) (by rw [V.out, HL1.out]) (by omega))
      have hoo := ((HO1.out hk1).other (grown_store2 wr (w.heap.size + 1) (.slice p1 l1.length c1) (.int .i64 ((N + j : Nat) : Int))) (by omega))
      have HOO := Lib.hid hoo
      have HLL : Hid (l1 = (apV l (N : Int) v (j : Int)).1) := Lib.hid (by rw [V.out, HL1.out])
      have HGG := Lib.hid (grown_new HB1.out.gr (grown_store2 wr (w.heap.size + 1) (.slice p1 l1.length c1) (.int .i64 ((N + j : Nat) : Int))) (by omega))
      have HNN : Hid (((N + j : Nat) : Int) = (apV l (N : Int) v (j : Int)).2.1) := Lib.hid (by rw [V.out])
      clear HB1 HO1 hoo
      go_wp2_with fail
      refine bodyPost_ret (res_stream_err rfl _ _ (w.heap.size + 1) _ _ rfl F.out.1) rfl ?_
      refine ⟨p1, c1, ?_, ?_, HGG.out⟩
      · rw [← HLL.out, ← HNN.out]; rfl
      · rw [← HLL.out]; exact HOO.out

end Go.Proofs.Ytnpkihioklpnmaa

/- What the reference's Align gives back, where its argument lies in memory of the call's own. -/
namespace Go.Proofs.Ytnpkihioklpnmaa
open Go.RowKit Bs
/-- The bytes lie outside the two boxes. -/
def NB (W : World) (p : Option Addr) (n c : Nat) : Prop := ∀ x, (Value.slice p n c).ownBlock = some x → x ≠ W.heap.size ∧ x ≠ W.heap.size + 1
set_option maxRecDepth 100000 in
theorem own_nb {w : World} {base c : Nat} {p : Option Addr} {l : List Nat} (h : Own w base p c l) : NB w p l.length c := fun x hx => by have := (h.own.lt x hx).2; omega
set_option maxRecDepth 100000 in
theorem Own.apart {w w' : World} {base b c : Nat} {p : Option Addr} {l : List Nat} (h : Own w base p c l) (g : w.grownBy w' (some b)) (hne : (Value.slice p l.length c).ownBlock ≠ some b) : Own w' base p c l := ⟨h.own.kept g (.inr hne), h.pc, h.by_⟩
def AlOwn (f : Nat → Bool) (W : World) (base0 N j : Nat) (w' : World) : Prop := ∃ p c, BoxAt W W.heap.size (W.heap.size + 1) p c (pz f (N + j) ((N + j + 7) / 8)) ((N + j : Nat) : Int) w' ∧ Own w' base0 p c (pz f (N + j) ((N + j + 7) / 8)) ∧ NB W p (pz f (N + j) ((N + j + 7) / 8)).length c
set_option maxRecDepth 100000 in
theorem AlOwn.open_ {f : Nat → Bool} {W w' : World} {base0 N j : Nat} (h : AlOwn f W base0 N j w') : ∃ p c l, Hid (l = pz f (N + j) ((N + j + 7) / 8)) ∧ BoxAt W W.heap.size (W.heap.size + 1) p c l ((N + j : Nat) : Int) w' ∧ Own w' base0 p c l ∧ NB W p l.length c := by
  obtain ⟨p, c, h, h2, h3⟩ := h
  exact ⟨p, c, _, Lib.hid rfl, h, h2, h3⟩
set_option maxRecDepth 100000 in
theorem al_next {f : Nat → Bool} {W w2 : World} {base0 N j m base : Nat} {p p' : Option Addr} {c c' : Nat} {l l' : List Nat} {n : Int} (h : Hid (BoxAt W W.heap.size (W.heap.size + 1) p c l n w2)) (hm : N + j = m) (hl : l' = pz f (m + 1) ((m + 8) / 8)) (o : Own w2 base p' c' l')
    (hW : W.heap.size + 2 ≤ base) (hb0 : base0 ≤ W.heap.size) :
    Hid (AlOwn f W base0 N (j + 1) ((w2.setCell ⟨W.heap.size, 0, none⟩ (.slice p' l'.length c')).setCell ⟨W.heap.size, 1, none⟩ (.int .i64 ((m : Int) + 1)))) := by
  subst hm
  subst hl
  exact Lib.hid ⟨p', c', h.out.store o (Nat.le_refl _) (by omega) (by omega) (by omega), (o.other (grown_store2 w2 W.heap.size _ _) (by omega)).mono (by omega), fun x hx => by have := (o.own.lt x hx).1; omega⟩
set_option maxRecDepth 100000 in
set_option maxHeartbeats 3200000 in
theorem aligno_any (l : List Nat) (N : Nat) (q : Nat → Prop) (p : Option Addr) (c base0 : Nat) (hl : By l) (hpc : p = none → c = 0) (hv : vs l (N : Int) = true) (w : World) (hb0 : base0 ≤ w.heap.size) (ho : Own w base0 p c l) (hq : ∀ b, q b → b < w.heap.size) (hR : Rd w q (.slice p l.length c) (l.map nv)) :
    Calls Try.prog 94 #[.agg #[.slice p l.length c, .int .i64 (N : Int)]] w fun e w' =>
      ∃ p2 c2, e = .returned (.tuple #[.agg #[.slice p2 l.length c2, .int .i64 ((8 * l.length : Nat) : Int)], .int .i64 0]) ∧ Own w' base0 p2 c2 l ∧ w.grownBy w' none := by
  obtain ⟨k1, k2, k3, k4⟩ := two_boxes w #[.slice p l.length c, .int .i64 (N : Int)] #[.slice none 0 0, .int .i64 0] 123 123
  have hR1 := hR.keep k3
  have HOI := Lib.hid (And.intro (ho.keep k3) (own_nb ho))
  have HVS := Lib.hid hv
  clear hv ho
  have H0 := Lib.hid (show BoxAt w w.heap.size (w.heap.size + 1) p c l (N : Int) _ from ⟨k1, k2, hR1.mono fun x hx => by have := hq x hx; exact ⟨by omega, by omega⟩, hpc, hl, k3⟩)
  have HZ0 := Lib.hid k4
  have hq1 : ∀ b, q b → b < ((w.alloc (.cells #[.slice p l.length c, .int .i64 (N : Int)] 123)).alloc (.cells #[.slice none 0 0, .int .i64 0] 123)).heap.size := fun b hb => Nat.lt_of_lt_of_le (hq b hb) k3.size
  clear k1 k2 k3 k4 hR
  go_enter Try.func94, Try.ntmps94
  go_wp2_with fail
  generalize (w.alloc (.cells #[.slice p l.length c, .int .i64 (N : Int)] 123)).alloc (.cells #[.slice none 0 0, .int .i64 0] 123) = w1 at *
  refine (validr_any l (N : Int) q p c hl _ hq1 hR1).mono ?_
  rintro e w2 ⟨rfl, hg⟩
  have hg' := hg
  have HB := Lib.hid (H0.out.keep hg)
  have HSZ2 : Hid (w.heap.size + 2 ≤ w2.heap.size) := Lib.hid (by rw [← HZ0.out]; exact hg.size)
  clear hg hR1 H0 hq1 HZ0
  obtain ⟨c0, c1, f0, f1, r0, r1, g0, g1⟩ := HB.out.limbs
  have HO2 := Lib.hid (And.intro (HOI.out.1.keep hg') HOI.out.2)
  clear HOI hg'
  have hv := HVS.out
  have V := Lib.hid (alV_ok hv)
  obtain ⟨hN, hlen⟩ := vs_bits hv
  rw [hv]
  have P0 : Hid (AlOwn (bt l) w base0 N 0 w2) := by
    refine Lib.hid ⟨p, c, ?_⟩
    show BoxAt w w.heap.size (w.heap.size + 1) p c (pz (bt l) N ((N + 7) / 8)) (N : Int) w2 ∧ Own w2 base0 p c (pz (bt l) N ((N + 7) / 8)) ∧ NB w p (pz (bt l) N ((N + 7) / 8)).length c
    rw [← pz_valid hl hv fun _ _ => rfl]
    exact ⟨HB.out, HO2.out.1, HO2.out.2⟩
  have HV := Lib.hid hv
  have HL := Lib.hid hlen
  clear hv hlen HB f0 f1 r0 r1 g0 g1 c0 c1
  go_wp2_with fail
  go_loopg [] (8 * l.length - N) (fun g wr => ∃ j : Nat, N + j + g = 8 * l.length ∧ AlOwn (bt l) w base0 N j wr ∧ w.heap.size + 2 ≤ wr.heap.size)
  case atStart => exact ⟨0, by have := HL.out; omega, P0.out, HSZ2.out⟩
  case round =>
    obtain ⟨j, hjg, hP, hsz⟩ := hrel
    obtain ⟨p1, c1, l1, HL1, hB1, hO1, hN1⟩ := hP.open_
    have HZ := Lib.hid hsz
    have HJG := Lib.hid hjg
    obtain ⟨m, hm⟩ : ∃ m : Nat, N + j = m := ⟨_, rfl⟩
    rw [hm] at HL1 hB1
    have HO1 := Lib.hid (And.intro hO1 hN1)
    clear hO1 hN1
    have HB1 := Lib.hid hB1
    have hm8 : m ≤ 8 * l.length := by omega
    have hll : l.length ≤ 1025 := by have := HL.out; omega
    obtain ⟨b0, b1, f0, f1, r0, r1, g0, g1⟩ := HB1.out.limbs
    clear hP hB1 P0 hsz
    cases gk with
    | zero =>
      have hz8 : (m : Int) % 8 = 0 := by omega
      have hml : m = 8 * l.length := by omega
      have hl1 : l1 = l := by
        rw [HL1.out, hml, show (8 * l.length + 7) / 8 = l.length by omega]
        exact (pz_bt l (8 * l.length) hl fun i h1 h2 => by omega).symm
      have F := Lib.hid (HB1.out.fin (V := alV l (N : Int)) (by rw [V.out, hl1, hml]) (by omega))
      have gst := grown_store2 wr (w.heap.size + 1) (.slice p1 l1.length c1) (.int .i64 (m : Int))
      have HOO := Lib.hid (Own.apart HO1.out.1 gst (fun e => (HO1.out.2 _ e).2 rfl))
      have HGG := Lib.hid (grown_new HB1.out.gr gst (by omega))
      have HL1e := Lib.hid hl1
      have HMl := Lib.hid hml
      clear HB1 hm hml hl1 hjg gst HO1
      go_wp2_with fail
      refine bodyPost_ret (res_stream_err rfl _ _ (w.heap.size + 1) _ _ rfl F.out.1) rfl ?_
      refine ⟨p1, c1, ?_, ?_, HGG.out⟩
      · rw [← HL1e.out, HMl.out]; rw [HL1e.out]; rfl
      · have := HOO.out
        rw [HL1e.out] at this ⊢
        exact this
    | succ g =>
      have hz8 : ¬ ((m : Int) % 8 = 0) := by have := HL.out; omega
      have hfm : bt l m = false := (vs_iff.1 HV.out).2.2 m (by omega) (by omega)
      have C2 := put_val (f := bt l) (m := m) (x := .int .u64 0) (by rw [bw_false hfm]) l1 _ p1 c1 (by omega) HL1.out HB1.out.pc wr HB1.out.rd
      obtain ⟨l3, hl3⟩ : ∃ l3, l3 = pz (bt l) (m + 1) ((m + 8) / 8) := ⟨_, rfl⟩
      rw [← hl3] at C2
      have H2 := Lib.hid C2
      have HL3 := Lib.hid hl3
      have HM := Lib.hid hm
      have hm9 : m ≤ 9000 := by omega
      clear C2 hl3 hm hfm hjg
      go_wp2_with fail
      refine H2.out.mono ?_
      rintro e w3 ⟨p3, c3, rfl, hown3, hg3⟩
      have HB3 := Lib.hid (HB1.out.keep hg3)
      have R := al_next (f := bt l) (N := N) (j := j) (base0 := base0) HB3 HM.out HL3.out hown3 HZ.out hb0
      have R2 : Hid (w.heap.size + 2 ≤ w3.heap.size) := Lib.hid (Nat.le_trans HZ.out hg3.size)
      clear b0 b1 f0 f1 r0 r1 g0 g1
      obtain ⟨b0, b1, f0, f1, r0, r1, g0, g1⟩ := HB3.out.limbs
      clear hown3 hg3 HB1 HO1
      go_wp2_with fail
      go_roundg g
      case measure => omega
      case rel => exact ⟨j + 1, by have := HJG.out; omega, R.out, by simpa using R2.out⟩
end Go.Proofs.Ytnpkihioklpnmaa

/- The reference's put of adverts: its bytes are new; Align of bytes of one's own. -/
namespace Go.Proofs.Ytnpkihioklpnmaa
open Go.RowKit Bs
set_option maxRecDepth 100000 in
theorem res_strm {fn : Func} {p : Tmp} (h : fn.results = #[.cell p 123]) (tmps : Array Value) (w : World) (g : Nat) (x y : Value) (hp : tmps.getD p undef = .pointer (some ⟨g, 0, none⟩)) (hg : w.heap[g]? = some (.cells #[x, y] 123 (0, 0))) :
    (results fn tmps).run Try.prog w = .ok (.agg #[x, y]) w :=
  results_cell_row h tmps w g _ _ _ _ hp hg Try.underlying123 rfl stream_size
/-- A stream of these bits is returned, its bytes new. -/
def SPO (B : List Bool) (w : World) (e : Ending) (w' : World) : Prop := ∃ p c, e = .returned (.agg #[.slice p (pk B).length c, .int .i64 (B.length : Int)]) ∧ Own w' w.heap.size p c (pk B) ∧ w.grownBy w' none
set_option maxRecDepth 100000 in
theorem own_rdA {w : World} {base : Nat} {p : Option Addr} {c : Nat} {l : List Nat} (h : Own w base p c l) : Rd w (base ≤ ·) (.slice p l.length c) (l.map nv) := by
  obtain ⟨p1, c1, e1, hx⟩ := rdf_of_own h.own
  exact ⟨p1, c1, by rw [e1, List.length_map], hx⟩
set_option maxRecDepth 100000 in
set_option maxHeartbeats 3200000 in
theorem rputo_any (B : List Bool) (n : Int) (k : Nat) (p : Option Addr) (c : Nat) (q : Nat → Prop) (w : World) (h0 : 0 ≤ n) (hn : n.toNat < 2 ^ k) (hk1 : 1 ≤ k) (hk : k ≤ 20) (hl : B.length + k ≤ 8192) (hpc : p = none → c = 0) (hR : Rd w q (.slice p (pk B).length c) ((pk B).map nv)) :
    Calls Try.prog 91 #[.agg #[.slice p (pk B).length c, .int .i64 (B.length : Int)], .int .i64 n, .int .i64 (k : Int)] w fun e w' => SPO (B ++ nb n.toNat k) w e w' := by
  obtain ⟨m, rfl⟩ := Int.eq_ofNat_of_zero_le h0
  rw [Int.toNat_natCast] at hn ⊢
  obtain ⟨k1, k2, k3, k4⟩ := two_boxes w #[.slice p (pk B).length c, .int .i64 (B.length : Int)] #[.slice none 0 0, .int .i64 0] 123 123
  have hm20 : m < 1048576 := Nat.lt_of_lt_of_le hn (Nat.pow_le_pow_right (n := 2) (by decide) hk)
  have HX : Hid (IntKind.u64.wrap (m : Int) = (m : Int)) := Lib.hid (by rw [IntKind.wrap_u64]; omega)
  have hA := appendo_any (pk B) B.length m k _ p c (pk_by B) (by unfold U64; omega) hpc (pk_vs B (by omega)) hk1 (by omega) (Nat.not_le.2 hn) (by omega) _ (fun _ h => h) (hR.keep k3).bound
  rw [apV_pk B m k (by omega) hn hl] at hA
  have HA := Lib.hid hA
  have H0 := Lib.hid (And.intro k1 (And.intro k2 (And.intro k3 k4)))
  clear k1 k2 k3 k4 hR hpc hn h0 hA
  obtain ⟨B2, hB2⟩ : ∃ B2, B ++ nb m k = B2 := ⟨_, rfl⟩
  rw [hB2] at HA ⊢
  clear hB2
  go_enter Try.func91, Try.ntmps91
  go_upto_region 1 with fail
  generalize ((w.alloc _).alloc _) = wa at *
  obtain ⟨c0, c1⟩ := row_cells H0.out.1
  go_wp2_with fail
  refine HA.out.mono ?_
  rintro e w1 ⟨p2, c2, rfl, hO, hg⟩
  have HO := Lib.hid hO
  have hk1 := World.grownBy_alloc w1 (.cells #[.slice p2 (pk B2).length c2, .int .i64 (B2.length : Int)] 123) none
  have hsz := (grown_trans H0.out.2.2.1 hg).size
  have hsa := H0.out.2.2.1.size
  have H1 := Lib.hid (And.intro (kept_row H0.out.2.1 (grown_trans hg hk1) (by simp)) (And.intro (heap_alloc_new w1 (.cells #[.slice p2 (pk B2).length c2, .int .i64 (B2.length : Int)] 123)) (And.intro hk1 (And.intro trivial (grown_trans H0.out.2.2.1 (grown_trans hg hk1))))))
  have hwa : w.heap.size + 2 = wa.heap.size := H0.out.2.2.2.symm
  clear hg hk1 H0 HA c0 c1 hO hsz hsa
  go_upto_region 2 with fail
  generalize w1.alloc _ = w2 at *
  generalize w1.heap.size = T at *
  obtain ⟨c0, c1⟩ := row_cells H1.out.2.1
  obtain ⟨r0, r1⟩ := row_cells H1.out.1
  have f0 := frozen_of_row _ _ 0 _ _ H1.out.1
  have f1 := frozen_of_row _ _ 1 _ _ H1.out.1
  obtain ⟨t1, t2⟩ := store2c (.slice p2 (pk B2).length c2) (.int .i64 (B2.length : Int)) H1.out.1
  have HT := Lib.hid (And.intro t1 (And.intro (show World.ownsRow _ w.heap.size 5 1 (.slice p2 (pk B2).length c2) (pk B2).length ((pk B2).map nv) from (own_otherA (base := wa.heap.size + 2) (HO.out.own.kept H1.out.2.2.1 (by cases (Value.slice p2 (pk B2).length c2).ownBlock <;> simp)) t2 (by omega)).mono (by omega)) (grown_new H1.out.2.2.2.2 t2 (by omega))))
  clear t1 t2 H1
  go_wp2_with fail
  refine bodyPost_ret (res_strm rfl _ _ (w.heap.size + 1) _ _ rfl HT.out.1) rfl ?_
  exact ⟨p2, c2, rfl, ⟨HT.out.2.1, HO.out.pc, HO.out.by_⟩, HT.out.2.2⟩
set_option maxRecDepth 100000 in
theorem aalign_own {w : World} {B : List Bool} {p : Option Addr} {c base0 : Nat} (h : B.length ≤ 8192) (h0 : 1 ≤ B.length) (ho : Own w base0 p c (pk B)) :
    Calls Try.prog 94 #[.agg #[.slice p (pk B).length c, .int .i64 (B.length : Int)]] w fun e w' =>
      ∃ p2 c2, e = .returned (.tuple #[.agg #[.slice p2 (pk B).length c2, .int .i64 ((8 * (pk B).length : Nat) : Int)], .int .i64 0]) ∧ Own w' base0 p2 c2 (pk B) ∧ w.grownBy w' none := by
  have hb : base0 ≤ w.heap.size := by
    obtain ⟨g, cap, he, hg⟩ := own_form ho.own (by rw [pk_len]; omega)
    have h2 := (ho.own.lt g (by rw [he]; rfl)).2
    omega
  exact aligno_any (pk B) B.length _ p c base0 (pk_by B) ho.pc (pk_vs B h) w hb ho (fun _ h => h) ho.rd.bound
end Go.Proofs.Ytnpkihioklpnmaa

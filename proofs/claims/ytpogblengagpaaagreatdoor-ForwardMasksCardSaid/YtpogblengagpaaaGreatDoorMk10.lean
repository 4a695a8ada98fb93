/- Parts of the proof, packed: FwM, FwForM, IoCheckR, PkText, PkHead, PkCalls, PkRd, PkRes, PkRead, PkValid, PkMis, PkBox, PkTape, PkTapeN, PkList, PkSize, PkRefs. -/
import Derived.Test.YtpogblengagpaaaGreatDoorMk1
import Derived.Test.YtpogblengagpaaaGreatDoorMk5
import Derived.Test.YtpogblengagpaaaGreatDoorMk9
import Derived.Lib.BufferRead
import Derived.Lib.ConvBytes
import Derived.Deep.CutRange
import Derived.Deep.RegionHeld3
/- forward, the mathematics: what a walk over the bits of a packet leaves, whether it takes the own bits one by one or at once. -/
namespace Go.Proofs.YtpogblengagpaaaGreatDoor
set_option maxRecDepth 100000
open Go.RowKit Bs
def selB (P : Nat → Bool) : Nat → Nat
 | 0 => 0
 | n + 1 => if P n = true then selB P n ||| 2 ^ n else selB P n
theorem selB_bit (P : Nat → Bool) : ∀ n j, (selB P n).testBit j = (decide (j < n) && P j)
 | 0, j => by simp [selB]
 | n + 1, j => by
  have ih := selB_bit P n j
  unfold selB
  rcases Nat.lt_trichotomy j n with h | rfl | h
  ·have h1 : decide (j < n + 1) = true := decide_eq_true (by omega)
   have h2 : decide (j < n) = true := decide_eq_true h
   split
   ·rw [Nat.testBit_or, ih, Nat.testBit_two_pow, h1, h2, decide_eq_false (by omega : ¬ n = j)]
    simp
   ·rw [ih, h1, h2]
  ·have h1 : decide (j < j + 1) = true := decide_eq_true (by omega)
   have h2 : decide (j < j) = false := decide_eq_false (by omega)
   split
   ·rename_i hp
    rw [Nat.testBit_or, ih, Nat.testBit_two_pow, h1, h2, hp]
    simp
   ·rename_i hp
    rw [ih, h1, h2]
    simpa using hp
  ·have h1 : decide (j < n + 1) = false := decide_eq_false (by omega)
   have h2 : decide (j < n) = false := decide_eq_false (by omega)
   split
   ·rw [Nat.testBit_or, ih, Nat.testBit_two_pow, h1, h2, decide_eq_false (by omega : ¬ n = j)]
    simp
   ·rw [ih, h1, h2]
def fltB (P : Nat → Bool) (x : Nat) : Nat := selB (fun j => x.testBit j && P j) 64
theorem u64_bit {x : Nat} (h : U64 x) {j : Nat} (hj : x.testBit j = true) : j < 64 := by
 rcases Nat.lt_or_ge j 64 with h1 | h1
 ·exact h1
 ·rw [Nat.testBit_lt_two_pow (Nat.lt_of_lt_of_le h (Nat.pow_le_pow_right (n := 2) (by decide) h1))] at hj
  cases hj
theorem fltB_bit {x : Nat} (h : U64 x) (P : Nat → Bool) (j : Nat) : (fltB P x).testBit j = (x.testBit j && P j) := by
 unfold fltB
 rw [selB_bit]
 by_cases h1 : j < 64
 ·simp [h1]
 ·have : x.testBit j = false := by
   cases hx : x.testBit j with
   | false => rfl
   | true => exact absurd (u64_bit h hx) h1
  simp [h1, this]
structure Lst (x j : Nat) : Prop where
 on : x.testBit j = true
 le : ∀ i, x.testBit i = true → j ≤ i
def lstB (x : Nat) : Nat := ((List.range 64).find? (fun j => x.testBit j)).getD 0
theorem lstB_eq {x j : Nat} (hx : U64 x) (h : Lst x j) : lstB x = j := by
 unfold lstB
 cases e : (List.range 64).find? (fun j => x.testBit j) with
 | none =>
  have := List.find?_eq_none.1 e j (List.mem_range.2 (u64_bit hx h.on))
  exact absurd h.on this
 | some i =>
  obtain ⟨h1, us, vs, h2, h3⟩ := List.find?_eq_some_iff_append.1 e
  show i = j
  have hij := h.le i (by simpa using h1)
  refine Nat.le_antisymm ?_ hij
  rcases Nat.lt_or_ge j i with hlt | hge
  ·have hi : us.length = i := by
    have hl : (List.range 64)[us.length]? = some i := by rw [h2]; simp
    rw [List.getElem?_range] at hl
    ·exact Option.some.inj hl
    ·have := congrArg List.length h2
     simp at this
     omega
   have hj : (List.range 64)[j]? = some j := List.getElem?_range (u64_bit hx h.on)
   rw [h2, List.getElem?_append_left (by omega)] at hj
   have := h3 j (List.mem_of_getElem? hj)
   rw [h.on] at this
   simp at this
  ·exact hge
def ntB (a b : Nat) : Nat := a &&& (18446744073709551615 - b)
theorem ntB_bit {a b : Nat} (ha : U64 a) (hb : U64 b) (j : Nat) : (ntB a b).testBit j = (a.testBit j && !b.testBit j) := by
 unfold ntB
 have e : 18446744073709551615 - b = 2 ^ 64 - (b + 1) := by
  show _ = 18446744073709551616 - (b + 1)
  omega
 rw [Nat.testBit_and, e, Nat.testBit_two_pow_sub_succ hb]
 by_cases h1 : j < 64
 ·simp [h1]
 ·have : a.testBit j = false := by
   cases hx : a.testBit j with
   | false => rfl
   | true => exact absurd (u64_bit ha hx) h1
  simp [this]
theorem ntB_u {a b : Nat} (ha : U64 a) : U64 (ntB a b) := Nat.lt_of_le_of_lt Nat.and_le_left ha
def cpF (M : Int → Nat) (h : Nat → Int) : Nat → Nat → List (Int × Nat)
 | 0, _ => []
 | n + 1, x => if x = 0 then [] else (h (lstB x), x &&& M (h (lstB x))) :: cpF M h n (ntB x (M (h (lstB x))))
def cpB (M : Int → Nat) (h : Nat → Int) (x : Nat) : List (Int × Nat) := cpF M h (x + 1) x
def Ms (M : Int → Nat) (h : Nat → Int) : Prop := ∀ u, u ≠ 0 → U64 (M u) ∧ ∀ j, (M u).testBit j = true ↔ (h j = u ∧ j < 64)
theorem ntB_lt {a b j : Nat} (ha : U64 a) (hb : U64 b) (h1 : a.testBit j = true) (h2 : b.testBit j = true) : ntB a b < a := by
 refine Nat.lt_of_le_of_ne Nat.and_le_left (fun e => ?_)
 have := ntB_bit ha hb j
 rw [show ntB a b = a from e, h1, h2] at this
 cases this
theorem u64_some {x : Nat} (h : x ≠ 0) : ∃ j, Lst x j := by
 obtain ⟨j, hj⟩ : ∃ j, x.testBit j = true := by
  rcases Classical.em (∃ j, x.testBit j = true) with h1 | h1
  ·exact h1
  ·refine absurd (Nat.eq_of_testBit_eq (fun j => ?_)) h
   rw [Nat.zero_testBit]
   cases hx : x.testBit j with
   | false => rfl
   | true => exact absurd ⟨j, hx⟩ h1
 have step : ∀ n, (∃ i, i ≤ n ∧ x.testBit i = true) → ∃ j, Lst x j := by
  intro n
  induction n with
  | zero =>
   rintro ⟨i, hi, h1⟩
   obtain rfl : i = 0 := by omega
   exact ⟨0, h1, fun i _ => Nat.zero_le i⟩
  | succ n ih =>
   rintro ⟨i, hi, h1⟩
   rcases Classical.em (∃ i, i ≤ n ∧ x.testBit i = true) with h2 | h2
   ·exact ih h2
   ·refine ⟨i, h1, fun k hk => ?_⟩
    rcases Nat.lt_or_ge k i with h3 | h3
    ·exact absurd ⟨k, by omega, hk⟩ h2
    ·exact h3
 exact step j ⟨j, Nat.le_refl _, hj⟩
theorem cpF_fuel {M : Int → Nat} {h : Nat → Int} (hM : Ms M h) : ∀ n m x, U64 x → (∀ j, x.testBit j = true → h j ≠ 0) → x < n → x < m → cpF M h n x = cpF M h m x := by
 intro n
 induction n with
 | zero => intro m x _ _ h1; omega
 | succ n ih =>
  intro m x hu hz h1 h2
  obtain ⟨m, rfl⟩ : ∃ k, m = k + 1 := ⟨m - 1, by omega⟩
  unfold cpF
  by_cases h0 : x = 0
  ·rw [if_pos h0, if_pos h0]
  ·rw [if_neg h0, if_neg h0]
   obtain ⟨j, hj⟩ := u64_some h0
   rw [lstB_eq hu hj]
   have hne := hz j hj.on
   have hlt := ntB_lt hu (hM _ hne).1 hj.on (((hM _ hne).2 j).2 ⟨rfl, u64_bit hu hj.on⟩)
   rw [ih m _ (ntB_u hu) (fun i hi => hz i (by rw [ntB_bit hu (hM _ hne).1] at hi; simp at hi; exact hi.1)) (by omega) (by omega)]
theorem cpB_step {M : Int → Nat} {h : Nat → Int} (hM : Ms M h) {x j : Nat} (hu : U64 x) (hz : ∀ j, x.testBit j = true → h j ≠ 0) (hj : Lst x j) : cpB M h x = (h j, x &&& M (h j)) :: cpB M h (ntB x (M (h j))) := by
 have hne := hz j hj.on
 have hlt := ntB_lt hu (hM _ hne).1 hj.on (((hM _ hne).2 j).2 ⟨rfl, u64_bit hu hj.on⟩)
 have h0 : x ≠ 0 := fun e => by
  have := hj.on
  rw [e, Nat.zero_testBit] at this
  cases this
 have hf := cpF_fuel hM x (ntB x (M (h j)) + 1) _ (ntB_u (b := M (h j)) hu) (fun i hi => hz i (by rw [ntB_bit hu (hM _ hne).1] at hi; simp at hi; exact hi.1)) hlt (by omega)
 unfold cpB
 rw [cpF, if_neg h0, lstB_eq hu hj, hf]
def lzB (h : Nat → Int) (r : Int) (t : Bool) (j : Nat) : Bool := decide (h j = 0) || (t && !decide (h j = r))
def czB (h : Nat → Int) (r : Int) (t : Bool) (j : Nat) : Bool := !t && !decide (h j = 0) && !decide (h j = r)
structure FwI (M : Int → Nat) (h : Nat → Int) (r : Int) (t : Bool) (P left loc lost : Nat) (cs : List (Int × Nat)) : Prop where
 hu : U64 left ∧ U64 loc ∧ U64 lost
 sub : ∀ j, left.testBit j = true → P.testBit j = true
 whole : ∀ i j, h i = h j → h i ≠ 0 → h i ≠ r → P.testBit i = true → left.testBit j = true → left.testBit i = true
 hloc : ∀ j, (loc.testBit j || (left.testBit j && decide (h j = r))) = (P.testBit j && decide (h j = r))
 hlost : ∀ j, (lost.testBit j || (left.testBit j && lzB h r t j)) = (P.testBit j && lzB h r t j)
 hcs : cs ++ cpB M h (fltB (czB h r t) left) = cpB M h (fltB (czB h r t) P)
variable {M : Int → Nat} {h : Nat → Int} {r : Int} {t : Bool} {P left loc lost : Nat} {cs : List (Int × Nat)}
theorem u64_zero : U64 0 := by
 unfold U64
 decide
theorem fwI_start (hP : U64 P) : FwI M h r t P P 0 0 [] :=
 ⟨⟨hP, u64_zero, u64_zero⟩, fun _ h => h, fun _ _ _ _ _ h _ => h, fun j => by rw [Nat.zero_testBit, Bool.false_or], fun j => by rw [Nat.zero_testBit, Bool.false_or], rfl⟩
theorem fltB_u (P : Nat → Bool) {x : Nat} (hx : U64 x) : U64 (fltB P x) := by
 have : fltB P x ≤ x := by
  have e : fltB P x = fltB P x &&& x := Nat.eq_of_testBit_eq (fun j => by rw [Nat.testBit_and, fltB_bit hx]; cases x.testBit j <;> simp)
  rw [e]
  exact Nat.and_le_right
 exact Nat.lt_of_le_of_lt this hx
theorem fltB_same (Q : Nat → Bool) {x y : Nat} (hx : U64 x) (hy : U64 y) (he : ∀ j, Q j = true → x.testBit j = y.testBit j) : fltB Q x = fltB Q y := Nat.eq_of_testBit_eq (fun j => by
 rw [fltB_bit hx, fltB_bit hy]
 cases hq : Q j with
 | false => simp
 | true => rw [he j hq])
theorem FwI.done (I : FwI M h r t P 0 loc lost cs) : (∀ j, loc.testBit j = (P.testBit j && decide (h j = r))) ∧ (∀ j, lost.testBit j = (P.testBit j && lzB h r t j)) ∧ cs = cpB M h (fltB (czB h r t) P) := by
 refine ⟨fun j => ?_, fun j => ?_, ?_⟩
 ·have := I.hloc j
  rwa [Nat.zero_testBit, Bool.false_and, Bool.or_false] at this
 ·have := I.hlost j
  rwa [Nat.zero_testBit, Bool.false_and, Bool.or_false] at this
 ·have := I.hcs
  have e : fltB (czB h r t) 0 = 0 := Nat.eq_of_testBit_eq (fun j => by rw [fltB_bit u64_zero, Nat.zero_testBit, Bool.false_and])
  rw [e] at this
  have e2 : cpB M h 0 = [] := rfl
  rw [e2, List.append_nil] at this
  exact this
theorem u64_two {j : Nat} (hj : j < 64) : U64 (2 ^ j) := Nat.pow_lt_pow_right (n := 64) (by decide) hj
theorem u64_andl (a b : Nat) (h : U64 a) : U64 (a &&& b) := Nat.lt_of_le_of_lt Nat.and_le_left h
theorem u64_orl (a b : Nat) (h : U64 a) (k : U64 b) : U64 (a ||| b) := Nat.or_lt_two_pow (n := 64) h k
theorem FwI.same (I : FwI M h r t P left loc lost cs) (hM : Ms M h) {j : Nat} (hj : Lst left j) (h0 : h j ≠ 0) (h1 : h j ≠ r) : P &&& M (h j) = left &&& M (h j) := Nat.eq_of_testBit_eq (fun i => by
 rw [Nat.testBit_and, Nat.testBit_and]
 cases hm : (M (h j)).testBit i with
 | false => simp
 | true =>
  have hi := (((hM _ h0).2 i).1 hm).1
  rw [Bool.and_true, Bool.and_true]
  rw [Bool.eq_iff_iff]
  exact ⟨fun hp => I.whole i j hi (hi ▸ h0) (hi ▸ h1) hp hj.on, I.sub i⟩)
theorem FwI.step (I : FwI M h r t P left loc lost cs) {X loc' lost' : Nat} {cs' : List (Int × Nat)} (hX : U64 X) (hl : U64 loc') (hl2 : U64 lost')
  (hw : ∀ i k, i < 64 → k < 64 → h i = h k → h i ≠ 0 → h i ≠ r → X.testBit i = X.testBit k)
  (h1 : ∀ j, (loc'.testBit j || (left.testBit j && !X.testBit j && decide (h j = r))) = (loc.testBit j || (left.testBit j && decide (h j = r))))
  (h2 : ∀ j, (lost'.testBit j || (left.testBit j && !X.testBit j && lzB h r t j)) = (lost.testBit j || (left.testBit j && lzB h r t j)))
  (h3 : cs' ++ cpB M h (fltB (czB h r t) (ntB left X)) = cs ++ cpB M h (fltB (czB h r t) left)) (hP : U64 P) :
  FwI M h r t P (ntB left X) loc' lost' cs' := by
 refine ⟨⟨ntB_u I.hu.1, hl, hl2⟩, fun j hj => ?_, fun i k e e0 e1 hp hk => ?_, fun j => ?_, fun j => ?_, h3.trans I.hcs⟩
 ·rw [ntB_bit I.hu.1 hX] at hj
  simp at hj
  exact I.sub j hj.1
 ·rw [ntB_bit I.hu.1 hX] at hk ⊢
  simp at hk ⊢
  have hli := I.whole i k e e0 e1 hp hk.1
  exact ⟨hli, (hw i k (u64_bit hP hp) (u64_bit I.hu.1 hk.1) e e0 e1).trans hk.2⟩
 ·rw [ntB_bit I.hu.1 hX, h1, I.hloc]
 ·rw [ntB_bit I.hu.1 hX, h2, I.hlost]
theorem FwI.skip (I : FwI M h r t P left loc lost cs) {X : Nat} (hX : U64 X) (hz : ∀ j, X.testBit j = true → left.testBit j = true → czB h r t j = false) : fltB (czB h r t) (ntB left X) = fltB (czB h r t) left :=
 fltB_same _ (ntB_u I.hu.1) I.hu.1 (fun j hq => by
  rw [ntB_bit I.hu.1 hX]
  cases hx : X.testBit j with
  | false => simp
  | true =>
   cases hl : left.testBit j with
   | false => rfl
   | true =>
    rw [hz j hx hl] at hq
    cases hq)
theorem FwI.allLoc (I : FwI M h r t P left loc lost cs) (hM : Ms M h) (hP : U64 P) (hr : r ≠ 0) : FwI M h r t P (ntB left (M r)) (loc ||| (P &&& M r)) lost cs := by
 obtain ⟨hu, hb⟩ := hM r hr
 have hb2 : ∀ i, i < 64 → (M r).testBit i = decide (h i = r) := fun i hi => by
  rw [Bool.eq_iff_iff, hb i]
  simp [hi]
 refine I.step hu (u64_orl _ _ I.hu.2.1 (u64_andl _ _ hP)) I.hu.2.2 (fun i k hi hk e2 _ e1 => ?_) (fun i => ?_) (fun i => ?_) ?_ hP
 ·rw [hb2 i hi, hb2 k hk, e2]
 ·have hL := I.hloc i
  have hS := I.sub i
  rw [Nat.testBit_or, Nat.testBit_and]
  by_cases h64 : i < 64
  ·rw [hb2 i h64]
   revert hL hS
   cases P.testBit i <;> cases left.testBit i <;> cases loc.testBit i <;> cases decide (h i = r) <;> simp
  ·have h1 : P.testBit i = false := by
    cases x : P.testBit i with
    | false => rfl
    | true => exact absurd (u64_bit hP x) h64
   have h2 : left.testBit i = false := by
    cases x : left.testBit i with
    | false => rfl
    | true => exact absurd (u64_bit I.hu.1 x) h64
   simp [h1, h2]
 ·by_cases h64 : i < 64
  ·rw [hb2 i h64]
   by_cases x : h i = r
   ·have : lzB h r t i = false := by unfold lzB; simp [x, hr]
    simp [this]
   ·simp [x]
  ·have h2 : left.testBit i = false := by
    cases x : left.testBit i with
    | false => rfl
    | true => exact absurd (u64_bit I.hu.1 x) h64
   simp [h2]
 ·rw [I.skip hu (fun i hi _ => by
   have := ((hb i).1 hi).1
   unfold czB
   simp [this])]
theorem FwI.oneLost (I : FwI M h r t P left loc lost cs) (hP : U64 P) (hr : r ≠ 0) {j : Nat} (hj : Lst left j) (e : h j = 0) : FwI M h r t P (ntB left (2 ^ j)) loc (lost ||| 2 ^ j) cs := by
 have h64 := u64_bit I.hu.1 hj.on
 refine I.step (u64_two h64) I.hu.2.1 (u64_orl _ _ I.hu.2.2 (u64_two h64)) (fun i k _ _ e2 e0 _ => ?_) (fun i => ?_) (fun i => ?_) ?_ hP
 ·rw [Nat.testBit_two_pow, Nat.testBit_two_pow, decide_eq_false (fun x : j = i => e0 (x ▸ e)), decide_eq_false (fun x : j = k => e0 (e2.trans (x ▸ e)))]
 ·rw [Nat.testBit_two_pow]
  by_cases x : j = i
  ·subst x
   simp [e, Ne.symm hr]
  ·simp [x]
 ·rw [Nat.testBit_or, Nat.testBit_two_pow]
  by_cases x : j = i
  ·subst x
   have : lzB h r t j = true := by unfold lzB; simp [e]
   simp [this, hj.on]
  ·simp [x]
 ·rw [I.skip (u64_two h64) (fun i hi _ => by
   rw [Nat.testBit_two_pow] at hi
   obtain rfl : j = i := by simpa using hi
   unfold czB
   simp [e])]
theorem FwI.allLost (I : FwI M h r true P left loc lost cs) (hM : Ms M h) (hP : U64 P) {u : Int} (h0 : u ≠ 0) (h1 : u ≠ r) : FwI M h r true P (ntB left (M u)) loc (lost ||| (left &&& M u)) cs := by
 obtain ⟨hu, hb⟩ := hM u h0
 have hb2 : ∀ i, i < 64 → (M u).testBit i = decide (h i = u) := fun i hi => by
  rw [Bool.eq_iff_iff, hb i]
  simp [hi]
 refine I.step hu I.hu.2.1 (u64_orl _ _ I.hu.2.2 (u64_andl _ _ I.hu.1)) (fun i k hi hk e2 _ _ => ?_) (fun i => ?_) (fun i => ?_) ?_ hP
 ·rw [hb2 i hi, hb2 k hk, e2]
 ·cases hm : (M u).testBit i with
  | false => simp
  | true =>
   have := ((hb i).1 hm).1
   simp [this, h1]
 ·rw [Nat.testBit_or, Nat.testBit_and]
  cases hm : (M u).testBit i with
  | false => simp
  | true =>
   have h2 := ((hb i).1 hm).1
   have : lzB h r true i = true := by unfold lzB; simp [h2, h1]
   simp [this]
 ·rw [I.skip hu (fun i _ _ => by unfold czB; simp)]
theorem FwI.copy (I : FwI M h r false P left loc lost cs) (hM : Ms M h) (hP : U64 P) {j : Nat} (hj : Lst left j) (h0 : h j ≠ 0) (h1 : h j ≠ r) : FwI M h r false P (ntB left (M (h j))) loc lost (cs ++ [(h j, left &&& M (h j))]) := by
 obtain ⟨hu, hb⟩ := hM _ h0
 have hcz : ∀ i, (M (h j)).testBit i = true → czB h r false i = true := fun i hi => by
  have h2 := ((hb i).1 hi).1
  unfold czB
  simp [h2, h0, h1]
 refine I.step hu I.hu.2.1 I.hu.2.2 (fun i k hi hk e2 _ _ => ?_) (fun i => ?_) (fun i => ?_) ?_ hP
 ·rw [Bool.eq_iff_iff, hb i, hb k, e2]
  simp [hi, hk]
 ·cases hm : (M (h j)).testBit i with
  | false => simp
  | true =>
   have := ((hb i).1 hm).1
   simp [this, h1]
 ·cases hm : (M (h j)).testBit i with
  | false => simp
  | true =>
   have h2 := ((hb i).1 hm).1
   have : lzB h r false i = false := by unfold lzB; simp [h2, h0]
   simp [this]
 ·have hLs : Lst (fltB (czB h r false) left) j := ⟨by
    rw [fltB_bit I.hu.1, hj.on, Bool.true_and]
    exact hcz j ((hb j).2 ⟨rfl, u64_bit I.hu.1 hj.on⟩), fun i hi => hj.le i (by
    rw [fltB_bit I.hu.1] at hi
    simp at hi
    exact hi.1)⟩
  rw [cpB_step hM (fltB_u _ I.hu.1) (fun i hi => by
   rw [fltB_bit I.hu.1] at hi
   unfold czB at hi
   simp at hi
   exact hi.2.1) hLs]
  have e1 : fltB (czB h r false) left &&& M (h j) = left &&& M (h j) := Nat.eq_of_testBit_eq (fun i => by
   rw [Nat.testBit_and, Nat.testBit_and, fltB_bit I.hu.1]
   cases hm : (M (h j)).testBit i with
   | false => simp
   | true => simp [hcz i hm])
  have e2 : ntB (fltB (czB h r false) left) (M (h j)) = fltB (czB h r false) (ntB left (M (h j))) := Nat.eq_of_testBit_eq (fun i => by
   rw [ntB_bit (fltB_u _ I.hu.1) hu, fltB_bit I.hu.1, fltB_bit (ntB_u I.hu.1), ntB_bit I.hu.1 hu]
   cases left.testBit i <;> cases (M (h j)).testBit i <;> simp)
  rw [e1, e2, List.append_assoc]
  rfl
theorem FwI.both {loc2 lost2 : Nat} {cs2 : List (Int × Nat)} (I : FwI M h r t P 0 loc lost cs) (K : FwI M h r t P 0 loc2 lost2 cs2) : loc = loc2 ∧ lost = lost2 ∧ cs = cs2 := by
 obtain ⟨a1, a2, a3⟩ := I.done
 obtain ⟨b1, b2, b3⟩ := K.done
 exact ⟨Nat.eq_of_testBit_eq (fun j => (a1 j).trans (b1 j).symm), Nat.eq_of_testBit_eq (fun j => (a2 j).trans (b2 j).symm), a3.trans b3.symm⟩
theorem cpB_zero (M : Int → Nat) (h : Nat → Int) : cpB M h 0 = [] := rfl
theorem cpB_mem (hM : Ms M h) : ∀ x, U64 x → (∀ j, x.testBit j = true → h j ≠ 0) → ∀ y ∈ cpB M h x, y.2 = x &&& M y.1 ∧ ∃ j, x.testBit j = true ∧ h j = y.1 := by
 intro x
 induction x using Nat.strongRecOn with
 | ind x ih =>
  intro hu hz y hy
  by_cases h0 : x = 0
  ·subst h0
   rw [cpB_zero] at hy
   cases hy
  ·obtain ⟨j, hj⟩ := u64_some h0
   have hne := hz j hj.on
   obtain ⟨hmu, hmb⟩ := hM _ hne
   rw [cpB_step hM hu hz hj] at hy
   rcases List.mem_cons.1 hy with rfl | hy
   ·exact ⟨rfl, j, hj.on, rfl⟩
   ·have hb := fun i => ntB_bit (j := i) hu hmu
    obtain ⟨h1, i, h2, h3⟩ := ih _ (ntB_lt hu hmu hj.on ((hmb j).2 ⟨rfl, u64_bit hu hj.on⟩)) (ntB_u hu) (fun i hi => hz i (by
     rw [hb i] at hi
     simp at hi
     exact hi.1)) y hy
    rw [hb i] at h2
    simp only [Bool.and_eq_true, Bool.not_eq_true'] at h2
    have hd : y.1 ≠ h j := fun e => by
     have := (hmb i).2 ⟨h3.trans e, u64_bit hu h2.1⟩
     rw [h2.2] at this
     cases this
    have hy0 : y.1 ≠ 0 := fun e => hz i h2.1 (h3.trans e)
    refine ⟨h1.trans (Nat.eq_of_testBit_eq (fun k => ?_)), i, h2.1, h3⟩
    rw [Nat.testBit_and, Nat.testBit_and, hb k]
    cases hk : (M y.1).testBit k with
    | false => simp
    | true =>
     have e1 := (((hM _ hy0).2 k).1 hk).1
     have e2 : (M (h j)).testBit k = false := by
      cases x2 : (M (h j)).testBit k with
      | false => rfl
      | true => exact absurd (e1.symm.trans ((hmb k).1 x2).1) hd
     rw [e2]
     simp
theorem cpB_once (hM : Ms M h) : ∀ x, U64 x → (∀ j, x.testBit j = true → h j ≠ 0) → (cpB M h x).Pairwise (fun y z => y.1 ≠ z.1) := by
 intro x
 induction x using Nat.strongRecOn with
 | ind x ih =>
  intro hu hz
  by_cases h0 : x = 0
  ·subst h0
   rw [cpB_zero]
   exact List.Pairwise.nil
  ·obtain ⟨j, hj⟩ := u64_some h0
   have hne := hz j hj.on
   obtain ⟨hmu, hmb⟩ := hM _ hne
   have hb := fun i => ntB_bit (j := i) hu hmu
   have hz2 : ∀ i, (ntB x (M (h j))).testBit i = true → h i ≠ 0 := fun i hi => hz i (by
    rw [hb i] at hi
    simp at hi
    exact hi.1)
   rw [cpB_step hM hu hz hj]
   refine List.Pairwise.cons (fun z hz3 e => ?_) (ih _ (ntB_lt hu hmu hj.on ((hmb j).2 ⟨rfl, u64_bit hu hj.on⟩)) (ntB_u hu) hz2)
   obtain ⟨-, i, h2, h3⟩ := cpB_mem hM _ (ntB_u hu) hz2 z hz3
   rw [hb i] at h2
   simp only [Bool.and_eq_true, Bool.not_eq_true'] at h2
   have := (hmb i).2 ⟨h3.trans e.symm, u64_bit hu h2.1⟩
   rw [h2.2] at this
   cases this
theorem cpB_full (hM : Ms M h) : ∀ x, U64 x → (∀ j, x.testBit j = true → h j ≠ 0) → ∀ j, x.testBit j = true → (h j, x &&& M (h j)) ∈ cpB M h x := by
 intro x
 induction x using Nat.strongRecOn with
 | ind x ih =>
  intro hu hz i hi
  obtain ⟨j, hj⟩ := u64_some (x := x) (fun e => by
   rw [e, Nat.zero_testBit] at hi
   cases hi)
  have hne := hz j hj.on
  obtain ⟨hmu, hmb⟩ := hM _ hne
  have hb := fun i => ntB_bit (j := i) hu hmu
  rw [cpB_step hM hu hz hj]
  by_cases e : h i = h j
  ·rw [e]
   exact List.mem_cons_self
  ·have hm : (M (h j)).testBit i = false := by
    cases x2 : (M (h j)).testBit i with
    | false => rfl
    | true => exact absurd ((hmb i).1 x2).1 e
   have h1 := ih _ (ntB_lt hu hmu hj.on ((hmb j).2 ⟨rfl, u64_bit hu hj.on⟩)) (ntB_u hu) (fun k hk => hz k (by
    rw [hb k] at hk
    simp at hk
    exact hk.1)) i (by rw [hb i, hi, hm]; rfl)
   have e2 : ntB x (M (h j)) &&& M (h i) = x &&& M (h i) := Nat.eq_of_testBit_eq (fun k => by
    rw [Nat.testBit_and, Nat.testBit_and, hb k]
    cases hk : (M (h i)).testBit k with
    | false => simp
    | true =>
     have e1 := (((hM _ (hz i hi)).2 k).1 hk).1
     have e3 : (M (h j)).testBit k = false := by
      cases x2 : (M (h j)).testBit k with
      | false => rfl
      | true => exact absurd (e1.symm.trans ((hmb k).1 x2).1) e
     rw [e3]
     simp)
   rw [e2] at h1
   exact List.mem_cons_of_mem _ h1
theorem two_bit {j k : Nat} (hk : (2 ^ j).testBit k = true) : j = k := by
 rw [Nat.testBit_two_pow] at hk
 simpa using hk
end Go.Proofs.YtpogblengagpaaaGreatDoor

/- The tape's For: what is known of its packet. -/
namespace Go.Proofs.YtpogblengagpaaaGreatDoor
set_option maxRecDepth 100000
open Go.RowKit Bs
structure ForOk (s n : Int) (Q : Pk) : Prop where
 v : vpk Q = true
 mode : Q.mode = 1
 sub : Q.sub = s
 len : Q.len = n
 wf : Q.Wf
theorem vb_or {a b : Nat} {n : Int} (h : vb a n = true) (k : vb b n = true) : vb (a ||| b) n = true := by
 unfold vb at h k ⊢
 simp only [Bool.and_eq_true, beq_iff_eq] at h k ⊢
 refine ⟨h.1, ?_⟩
 rw [Nat.and_or_distrib_right, h.2, k.2]
 rfl
theorem vb_zero {n : Int} (h : vl n = true) : vb 0 n = true := by
 unfold vb
 rw [h, Nat.zero_and]
 rfl
theorem vb_pl {id n : Int} (h : plOk id n = true) : 0 ≤ plB id n ∧ plB id n < 64 ∧ vb (b2 (plB id n).toNat) n = true := by
 obtain ⟨hl, h1, h2⟩ := pl_fields h
 have hn : 0 < n := by omega
 have e : plB id n = (id - 1) % n := by unfold plB; rw [if_pos h]
 have h3 : 0 ≤ plB id n := by rw [e]; exact Int.emod_nonneg _ (by omega)
 have h4 : plB id n < n := by rw [e]; exact Int.emod_lt_of_pos _ hn
 refine ⟨h3, by omega, ?_⟩
 obtain ⟨k, hk⟩ := Int.eq_ofNat_of_zero_le h3
 rw [hk] at h4 ⊢
 rw [Int.toNat_natCast]
 unfold vb
 rcases hl with rfl | rfl | rfl | rfl
 ·rw [show vl 8 = true by decide, show full 8 = 255 from full_val.1]
  have : k < 8 := by omega
  clear hk h4 e h3 hn
  revert k
  decide
 ·rw [show vl 16 = true by decide, show full 16 = 65535 from full_val.2.1]
  have : k < 16 := by omega
  clear hk h4 e h3 hn
  revert k
  decide
 ·rw [show vl 32 = true by decide, show full 32 = 4294967295 from full_val.2.2.1]
  have : k < 32 := by omega
  clear hk h4 e h3 hn
  revert k
  decide
 ·rw [show vl 64 = true by decide, show full 64 = 18446744073709551615 from full_val.2.2.2]
  simp
theorem ForOk.bits {s n : Int} {Q : Pk} (h : ForOk s n Q) {b : Nat} (hu : U64 b) (hb : vb b n = true) : ForOk s n { Q with bits := b } := by
 have hw := h.wf
 refine ⟨?_, h.mode, h.sub, h.len, ⟨hw.mode, hw.sub, hw.set, hw.len, hw.ttl, hw.ent, hw.ing, hw.pro, hu, hw.pay⟩⟩
 have hv := h.v
 unfold vpk at hv ⊢
 simp only [decide_eq_true_eq] at hv ⊢
 have hl := h.len
 exact ⟨hv.1, hv.2.1, hv.2.2.1, hv.2.2.2.1, hv.2.2.2.2.1, hv.2.2.2.2.2.1, hv.2.2.2.2.2.2.1, hv.2.2.2.2.2.2.2.1, by rw [hl]; exact hb⟩
theorem ForOk.set_ {s n : Int} {Q : Pk} (h : ForOk s n Q) {x : Int} (hx : 0 ≤ x ∧ x ≤ 31) : ForOk s n { Q with set := x } := by
 have hw := h.wf
 refine ⟨?_, h.mode, h.sub, h.len, ⟨hw.mode, hw.sub, by show I64 x; unfold I64; omega, hw.len, hw.ttl, hw.ent, hw.ing, hw.pro, hw.bits, hw.pay⟩⟩
 have hv := h.v
 unfold vpk at hv ⊢
 simp only [decide_eq_true_eq] at hv ⊢
 exact ⟨hv.1, hv.2.1, hx, hv.2.2.2⟩
theorem ForOk.ttl_ {s n : Int} {Q : Pk} (h : ForOk s n Q) {x : Int} (hx : 0 ≤ x ∧ x ≤ 63) : ForOk s n { Q with ttl := x } := by
 have hw := h.wf
 refine ⟨?_, h.mode, h.sub, h.len, ⟨hw.mode, hw.sub, hw.set, hw.len, by show I64 x; unfold I64; omega, hw.ent, hw.ing, hw.pro, hw.bits, hw.pay⟩⟩
 have hv := h.v
 unfold vpk at hv ⊢
 simp only [decide_eq_true_eq] at hv ⊢
 exact ⟨hv.1, hv.2.1, hv.2.2.1, hx, hv.2.2.2.2⟩
theorem forOk_start {s n : Int} {Q : Pk} (hv : vpk Q = true) (hw : Q.Wf) (hs : 0 ≤ s ∧ s ≤ 7) (hn : vl n = true) : ForOk s n { Q with mode := 1, sub := s, len := n, set := 0, bits := 0 } := by
 have hl : 0 ≤ n ∧ n ≤ 64 := by rcases vl_cases hn with rfl | rfl | rfl | rfl <;> omega
 refine ⟨?_, rfl, rfl, rfl, ⟨by show I64 1; unfold I64; omega, by show I64 s; unfold I64; omega, by show I64 0; unfold I64; omega, by show I64 n; unfold I64; omega, hw.ttl, hw.ent, hw.ing, hw.pro, u64_zero, hw.pay⟩⟩
 unfold vpk at hv ⊢
 simp only [decide_eq_true_eq] at hv ⊢
 exact ⟨by omega, hs, by omega, hv.2.2.2.1, hv.2.2.2.2.1, hv.2.2.2.2.2.1, hv.2.2.2.2.2.2.1, hv.2.2.2.2.2.2.2.1, vb_zero hn⟩
theorem plS_inF {id n : Int} : 0 ≤ plS id n ∧ plS id n ≤ 31 := by
 unfold plS
 split
 ·rename_i h
  obtain ⟨hl, h1, h2⟩ := pl_fields h
  rw [Int.tdiv_eq_ediv_of_nonneg (by omega)]
  rcases hl with rfl | rfl | rfl | rfl <;> omega
 ·omega
end Go.Proofs.YtpogblengagpaaaGreatDoor

/- The reference's check number; Same. -/
namespace Go.Proofs.YtpogblengagpaaaGreatDoor
set_option maxRecDepth 100000
open Go.RowKit Bs
def bs (l : List Nat) : ByteArray := ⟨(l.map fun x => UInt8.ofNat x).toArray⟩
def same (l : List Nat) (n : Int) (l' : List Nat) (n' : Int) : Bool := n == n' && (bs l).toList == (bs l').toList
end Go.Proofs.YtpogblengagpaaaGreatDoor

/- The tape's texts. -/
namespace Go.Proofs.YtpogblengagpaaaGreatDoor
set_option maxRecDepth 100000
open Go.RowKit Bs
def bval (x : UInt8) : Value := .int .u8 (x.toNat : Int)
theorem conv_bytes {w : World} {q : Nat → Prop} {v : Value} {l : List UInt8} (hR : Rd w q v (l.map bval)) (h0 : l = [] → v = .slice none 0 0) :
  (convert 109 9 v).run Tryz.prog w = .ok (.string ⟨l.toArray⟩) w := by
 by_cases hl : l = []
 ·rw [h0 hl, hl]
  exact Lib.run_convert_nil_bytes (P := Tryz.prog) w 109 9 5 0 Tryz.underlying109 Tryz.underlying5 Tryz.underlying9
 ·obtain ⟨p, c, rfl, hc⟩ := hR
  obtain ⟨b, off, rfl, _, hcell⟩ := hc (by simpa using hl)
  rw [List.length_map]
  refine run_convert_bytes_back (P := Tryz.prog) w 109 9 5 ⟨b, off, none⟩ c l Tryz.underlying109 Tryz.underlying5 Tryz.underlying9 (fun j hj => ?_)
  have hadd : (⟨b, off, none⟩ : Addr).add j = ⟨b, off + j, none⟩ := by unfold Addr.add; split <;> simp_all
  rw [hadd]
  exact hcell j _ (by rw [List.getElem?_map, List.getElem?_eq_getElem hj]; rfl)
def TextRel (a most : Nat) (w : World) (v : Value) (k : Nat) (wr : World) : Prop :=
 ∃ l : List UInt8, l.length + k ≤ most ∧ wr.ownsRow w.heap.size 5 1 v l.length (l.map bval) ∧ (l = [] → v = .slice none 0 0) ∧ St a w wr
theorem TextRel.open_ {a most k : Nat} {w wr : World} {v : Value} (h : TextRel a most w v k wr) : ∃ l : List UInt8, l.length + k ≤ most ∧ wr.ownsRow w.heap.size 5 1 v l.length (l.map bval) ∧ (l = [] → v = .slice none 0 0) ∧ St a w wr := h
def TextPost (a most : Nat) (w : World) (e : Ending) (w' : World) : Prop := ∃ s : ByteArray, e = .returned (.string s) ∧ s.size ≤ most ∧ St a w w'
set_option maxHeartbeats 1600000 in
theorem text_any (a : Nat) (most : Nat) (hm : most ≤ 1000) (w : World) (hT : Tp w a) :
  Calls Tryz.prog 32 #[.pointer (some ⟨a, 0, none⟩), .int .i64 (most : Int)] w fun e w' => TextPost a most w e w' := by
 obtain ⟨i0, hi, hz0, hz1, hz2⟩ := info_parts info_u8
 have ha := hT.lt
 go_enter Tryz.func32, Tryz.ntmps32
 go_wp2_with fail
 refine (range_any a 0 (most : Int) (by omega) (by omega) (by omega) (by omega) _ hT).mono ?_
 rintro e w1 ⟨r, rfl, hr, hs1⟩
 obtain ⟨K, rfl⟩ := Int.eq_ofNat_of_zero_le hr.1
 have hK : K ≤ most := by unfold RangeOf at hr; omega
 have L0 : Hid (TextRel a most w (.slice none 0 0) K w1) :=
  Lib.hid ⟨[], by simpa using hK, World.ownsRow_nil _ _ _ _, fun _ => rfl, hs1⟩
 clear hr hs1
 go_wp2_with fail
 go_loopw [5, 6] (fun v i wr => ∃ k : Nat, k ≤ most ∧ i = .int .i64 (k : Int) ∧ TextRel a most w v k wr) (fun _ i _ => (RowKit.intOf i).toNat)
 case atStart => exact ⟨K, hK, rfl, L0.out⟩
 case round =>
  obtain ⟨k, hk, rfl, hL⟩ := hrel
  obtain ⟨l, hlk, hown0, hnil, hs⟩ := hL.open_
  clear hL L0
  by_cases hk1 : 1 ≤ k
  ·clear hnil
   go_wp2_with fail
   refine (next_any a 256 (by unfold I64; omega) _ hs.2).mono ?_
   rintro e w2 ⟨x, rfl, hx, hs2⟩
   obtain ⟨X, rfl⟩ := Int.eq_ofNat_of_zero_le hx.1
   have hX : X < 256 := by have := hx.2.1 (by omega); omega
   have hown := own_kept ha hown0 hs2.1
   have HS := Lib.hid (hs.trans hs2)
   have HO := Lib.hid hown
   have hsz := HS.out.1.size
   have hll : l.length ≤ 1000 := by omega
   have HLK := Lib.hid hlk
   clear hx hs hs2 hown0
   go_wp2_with (at_builtin; refine wpList_append_own _ rfl _ _ 109 rfl w.heap.size 5 i0 (.int .u8 0) 1 1 Tryz.underlying109 hi hz0 hz1 hz2 rfl (by decide) _ _ _ rfl (hown.alloc _) ⟨w2.heap.size, 0, none⟩ 1 1 [.int .u8 (X : Int)] rfl rfl ?c1 ?c2 ?c3 ?c4 ?c5 ?_)
   case c1 => exact cell_one _ _ _
   case c2 => intro u hu; simp at hu; subst hu; rfl
   case c3 => unfold maxLen; omega
   case c4 => omega
   case c5 => simp; omega
   intro v' w3 hown' hg _
   have R : Hid (TextRel a most w v' (k - 1) w3) := by
    have e1 := st_append HS.out ha HO.out hg
    have ex : bval (UInt8.ofNat X) = .int .u8 (X : Int) := by
     show Value.int .u8 (((UInt8.ofNat X).toNat : Nat) : Int) = _
     rw [UInt8.toNat_ofNat', Nat.mod_eq_of_lt hX]
    exact Lib.hid ⟨l ++ [UInt8.ofNat X], by rw [List.length_append]; have := HLK.out; simp; omega, by rw [List.length_append, List.map_append, List.map_cons, List.map_nil, ex]; exact hown', fun e => by simp at e, e1⟩
   clear hown' hg hown
   go_wp2_with fail
   go_roundw
   case rel => exact ⟨k - 1, by omega, by congr 1; omega, R.out⟩
   case measure => simp [RowKit.intOf]; omega
  ·obtain rfl : k = 0 := by omega
   have hconv := conv_bytes (rd_of_own hown0) hnil
   have HS := Lib.hid hs
   have HL := Lib.hid hlk
   clear hown0 hnil hs hlk
   go_wp2_with fail
   go_ret
   exact ⟨_, rfl, by have := HL.out; show l.toArray.size ≤ most; simp; omega, HS.out⟩
end Go.Proofs.YtpogblengagpaaaGreatDoor

/- packet: a header's block. -/
namespace Go.Proofs.YtpogblengagpaaaGreatDoor
set_option maxRecDepth 100000
open Go.RowKit Bs
def pcells (P : Pk) : Array Value := #[.int .i64 P.mode, .int .i64 P.sub, .int .i64 P.set, .int .i64 P.len, .int .i64 P.ttl, .int .i64 P.ent, .int .i64 P.ing, .int .i64 P.pro, .int .u64 (P.bits : Int), .string P.pay]
theorem p_facts {w : World} {b : Nat} {P : Pk} (h : w.heap[b]? = some (.cells (pcells P) 28 (0, 0))) :
  w.cell? ⟨b, 0, none⟩ = some (.int .i64 P.mode) ∧ w.cell? ⟨b, 1, none⟩ = some (.int .i64 P.sub) ∧ w.cell? ⟨b, 2, none⟩ = some (.int .i64 P.set) ∧ w.cell? ⟨b, 3, none⟩ = some (.int .i64 P.len) ∧ w.cell? ⟨b, 4, none⟩ = some (.int .i64 P.ttl) ∧ w.cell? ⟨b, 5, none⟩ = some (.int .i64 P.ent) ∧ w.cell? ⟨b, 6, none⟩ = some (.int .i64 P.ing) ∧ w.cell? ⟨b, 7, none⟩ = some (.int .i64 P.pro) ∧ w.cell? ⟨b, 8, none⟩ = some (.int .u64 (P.bits : Int)) ∧ w.cell? ⟨b, 9, none⟩ = some (.string P.pay) :=
 ⟨cell_of_row _ _ _ _ _ _ h, cell_of_row _ _ _ _ _ _ h, cell_of_row _ _ _ _ _ _ h, cell_of_row _ _ _ _ _ _ h, cell_of_row _ _ _ _ _ _ h, cell_of_row _ _ _ _ _ _ h, cell_of_row _ _ _ _ _ _ h, cell_of_row _ _ _ _ _ _ h, cell_of_row _ _ _ _ _ _ h, cell_of_row _ _ _ _ _ _ h⟩
section
variable {W w w1 : World} {P : Pk} {h g S : Nat} {B B2 : List Bool}
end
end Go.Proofs.YtpogblengagpaaaGreatDoor

/- empty -/
namespace Go.Proofs.YtpogblengagpaaaGreatDoor
set_option maxRecDepth 100000
end Go.Proofs.YtpogblengagpaaaGreatDoor

/- packet: the header of a packet is read. -/
namespace Go.Proofs.YtpogblengagpaaaGreatDoor
set_option maxRecDepth 100000
open Go.RowKit Bs
def hdc (V : Nat → Nat) (k : Nat) (n : Int) : Array Value := #[.int .i64 ((if 0 < k then V 0 else 0 : Nat) : Int), .int .i64 ((if 1 < k then V 1 else 0 : Nat) : Int), .int .i64 ((if 2 < k then V 2 else 0 : Nat) : Int), .int .i64 ((if 3 < k then V 3 else 0 : Nat) : Int), .int .i64 n, .int .i64 ((if 5 < k then V 5 else 0 : Nat) : Int), .int .i64 ((if 6 < k then V 6 else 0 : Nat) : Int), .int .i64 ((if 7 < k then V 7 else 0 : Nat) : Int), .int .i64 ((if 8 < k then V 8 else 0 : Nat) : Int), .int .u64 0, .string ⟨#[]⟩, .int .i64 ((if 4 < k then V 4 else 0 : Nat) : Int), .int .i64 ((if 9 < k then V 9 else 0 : Nat) : Int)]
section
variable {W w w1 : World} {l : List Nat} {p : Option Addr} {c : Nat} {V : Nat → Nat} {g k : Nat}
end
end Go.Proofs.YtpogblengagpaaaGreatDoor

/- packet: a header's value comes back. -/
namespace Go.Proofs.YtpogblengagpaaaGreatDoor
set_option maxRecDepth 100000
open Go.RowKit Bs
def hval (V : Nat → Nat) (n : Int) : Value := .agg (hdc V 10 n)
end Go.Proofs.YtpogblengagpaaaGreatDoor

/- empty -/
namespace Go.Proofs.YtpogblengagpaaaGreatDoor
set_option maxRecDepth 100000
end Go.Proofs.YtpogblengagpaaaGreatDoor

/- packet: Valid. -/
namespace Go.Proofs.YtpogblengagpaaaGreatDoor
set_option maxRecDepth 100000
open Go.RowKit Bs
def vrows (P : Pk) : List (Int × Int × Int) := [(P.mode, 1, 3), (P.sub, 0, 7), (P.set, 0, 31), (P.ttl, 0, 63), (P.ent, 0, 1023), (P.ing, 0, 256), (P.pro, 0, 7), ((P.pay.size : Int), 0, 64)]
def vcells (P : Pk) : Array Value := #[.int .i64 P.mode, .int .i64 1, .int .i64 3, .int .i64 P.sub, .int .i64 0, .int .i64 7, .int .i64 P.set, .int .i64 0, .int .i64 31, .int .i64 P.ttl, .int .i64 0, .int .i64 63,
 .int .i64 P.ent, .int .i64 0, .int .i64 1023, .int .i64 P.ing, .int .i64 0, .int .i64 256, .int .i64 P.pro, .int .i64 0, .int .i64 7, .int .i64 (P.pay.size : Int), .int .i64 0, .int .i64 64]
theorem vrow_at (P : Pk) (k : Nat) (hk : k < 8) : ∃ x lo hi : Int, (vcells P)[k * 3]? = some (.int .i64 x) ∧ (vcells P)[k * 3 + 1]? = some (.int .i64 lo) ∧ (vcells P)[k * 3 + 2]? = some (.int .i64 hi) ∧ (vrows P)[k]? = some (x, lo, hi) := by
 rcases (show k = 0 ∨ k = 1 ∨ k = 2 ∨ k = 3 ∨ k = 4 ∨ k = 5 ∨ k = 6 ∨ k = 7 by omega) with rfl | rfl | rfl | rfl | rfl | rfl | rfl | rfl <;> exact ⟨_, _, _, rfl, rfl, rfl, rfl⟩
def Kept (P : Pk) (k : Nat) : Prop := ∀ j x lo hi, j < k → (vrows P)[j]? = some (x, lo, hi) → lo ≤ x ∧ x ≤ hi
theorem vpk_kept {P : Pk} (h : Kept P 8) : vpk P = vb P.bits P.len := by
 have h0 := h 0 _ _ _ (by decide) rfl
 have h1 := h 1 _ _ _ (by decide) rfl
 have h2 := h 2 _ _ _ (by decide) rfl
 have h3 := h 3 _ _ _ (by decide) rfl
 have h4 := h 4 _ _ _ (by decide) rfl
 have h5 := h 5 _ _ _ (by decide) rfl
 have h6 := h 6 _ _ _ (by decide) rfl
 have h7 := h 7 _ _ _ (by decide) rfl
 unfold vpk
 by_cases hb : vb P.bits P.len = true
 ·rw [hb]; exact decide_eq_true ⟨h0, h1, h2, h3, h4, h5, h6, by omega, rfl⟩
 ·rw [Bool.not_eq_true] at hb
  rw [hb]; exact decide_eq_false fun h => by cases h.2.2.2.2.2.2.2.2
theorem vpk_row {P : Pk} (h : vpk P = true) {k : Nat} {x lo hi : Int} (hk : k < 8) (hr : (vrows P)[k]? = some (x, lo, hi)) : lo ≤ x ∧ x ≤ hi := by
 obtain ⟨h0, h1, h2, h3, h4, h5, h6, h7, _⟩ := vpk_parts h
 rcases (show k = 0 ∨ k = 1 ∨ k = 2 ∨ k = 3 ∨ k = 4 ∨ k = 5 ∨ k = 6 ∨ k = 7 by omega) with rfl | rfl | rfl | rfl | rfl | rfl | rfl | rfl <;> cases hr
 ·exact h0
 ·exact h1
 ·exact h2
 ·exact h3
 ·exact h4
 ·exact h5
 ·exact h6
 ·exact ⟨by omega, by omega⟩
theorem vpk_not {P : Pk} {k : Nat} {x lo hi : Int} (hk : k < 8) (hr : (vrows P)[k]? = some (x, lo, hi)) (hn : ¬ (lo ≤ x ∧ x ≤ hi)) : vpk P = false := by
 cases h : vpk P with
 | false => rfl
 | true => exact absurd (vpk_row h hk hr) hn
set_option maxHeartbeats 3200000 in
theorem pvalid_any (P : Pk) (hP : P.Wf) (w : World) :
  Calls Tryz.prog 65 #[P.val] w fun e w' => e = .returned (.bool (vpk P)) ∧ w.grownBy w' none := by
 unfold Pk.val
 go_enter Tryz.func65, Tryz.ntmps65
 go_wp2_with fail
 obtain ⟨k1, k2, k3, k4⟩ := two_boxes w (pcells P) (vcells P) 28 144
 have HA := Lib.hid (And.intro k1 (And.intro k2 k3))
 clear k1 k2 k3 k4
 unfold pcells vcells at HA
 generalize ((w.alloc (.cells #[.int .i64 P.mode, .int .i64 P.sub, .int .i64 P.set, .int .i64 P.len, .int .i64 P.ttl, .int .i64 P.ent, .int .i64 P.ing, .int .i64 P.pro, .int .u64 (P.bits : Int), .string P.pay] 28)).alloc _) = wa at *
 change Hid (wa.heap[w.heap.size]? = some (.cells (pcells P) 28 (0, 0)) ∧ wa.heap[w.heap.size + 1]? = some (.cells (vcells P) 144 (0, 0)) ∧ w.grownBy wa none) at HA
 have hK0 : Hid (Kept P 0) := Lib.hid fun j x lo hi hj => absurd hj (Nat.not_lt_zero j)
 go_loopw [32] (fun i wr => ∃ k : Nat, k ≤ 8 ∧ i = .int .i64 (k : Int) ∧ Hid (Kept P k) ∧ Hid (wa.grownBy wr none)) (fun i _ => (8 - (RowKit.intOf i).toNat))
 case atStart => exact ⟨0, Nat.zero_le _, rfl, hK0, Lib.hid (grown_refl _ _)⟩
 case round =>
  obtain ⟨k, hk, rfl, hK, hG⟩ := hrel
  clear hK0
  have GE := Lib.hid (grown_trans HA.out.2.2 hG.out)
  by_cases hk2 : k < 8
  ·obtain ⟨x, lo, hi, c0, c1, c2, hr⟩ := vrow_at P k hk2
   have hrow := kept_row HA.out.2.1 hG.out (by simp)
   have d0 := (cell_of_row _ _ _ _ _ _ hrow).trans c0
   have d1 := (cell_of_row _ _ _ _ _ _ hrow).trans c1
   have d2 := (cell_of_row _ _ _ _ _ _ hrow).trans c2
   have HR := Lib.hid hr
   clear c0 c1 c2 hr hrow
   by_cases h1 : x < lo
   ·have hn := Lib.hid (vpk_not hk2 HR.out (by omega))
    go_wp2_with fail
    go_ret
    exact ⟨by rw [hn.out]; rfl, grown_trans GE.out (World.grownBy_alloc _ _ none)⟩
   ·by_cases h2 : hi < x
    ·have hn := Lib.hid (vpk_not hk2 HR.out (by omega))
     go_wp2_with fail
     go_ret
     exact ⟨by rw [hn.out]; rfl, grown_trans GE.out (World.grownBy_alloc _ _ none)⟩
    ·go_wp2_with fail
     go_roundw
     case rel =>
      refine ⟨k + 1, by omega, by go_num, Lib.hid fun j y lo' hi' hj hr => ?_, Lib.hid (grown_trans hG.out (World.grownBy_alloc _ _ none))⟩
      by_cases hjk : j < k
      ·exact hK.out j y lo' hi' hjk hr
      ·obtain rfl : j = k := by omega
       rw [HR.out] at hr
       cases hr
       exact ⟨by omega, by omega⟩
     case measure => simp [RowKit.intOf]; omega
  ·obtain rfl : k = 8 := by omega
   obtain ⟨a0, a1, a2, a3, a4, a5, a6, a7, a8, a9⟩ := p_facts (kept_row HA.out.1 hG.out (by simp))
   have hv := Lib.hid (vpk_kept hK.out)
   go_wp2_with fail
   refine (bvalidp_any P.bits P.len hP.bits _).mono ?_
   rintro e w9 ⟨rfl, rfl⟩
   go_wp2_with fail
   go_ret
   exact ⟨by rw [hv.out]; rfl, GE.out⟩
end Go.Proofs.YtpogblengagpaaaGreatDoor

/- empty -/
namespace Go.Proofs.YtpogblengagpaaaGreatDoor
set_option maxRecDepth 100000
end Go.Proofs.YtpogblengagpaaaGreatDoor

/- packet: a packet's block. -/
namespace Go.Proofs.YtpogblengagpaaaGreatDoor
set_option maxRecDepth 100000
open Go.RowKit Bs
def zpk : Array Value := #[.int .i64 0, .int .i64 0, .int .i64 0, .int .i64 0, .int .i64 0, .int .i64 0, .int .i64 0, .int .i64 0, .int .u64 0, .string ⟨#[]⟩]
theorem pput_row {w : World} {h : Nat} (v0 v1 v2 v3 v4 v5 v6 v7 v8 v9 : Value) (hr : w.heap[h]? = some (.cells zpk 28 (0, 0))) :
  ((((((((((w.setCell ⟨h, 0, none⟩ v0).setCell ⟨h, 1, none⟩ v1).setCell ⟨h, 2, none⟩ v2).setCell ⟨h, 3, none⟩ v3).setCell ⟨h, 4, none⟩ v4).setCell ⟨h, 5, none⟩ v5).setCell ⟨h, 6, none⟩ v6).setCell ⟨h, 7, none⟩ v7).setCell ⟨h, 8, none⟩ v8).setCell ⟨h, 9, none⟩ v9).heap[h]? = some (.cells #[v0, v1, v2, v3, v4, v5, v6, v7, v8, v9] 28 (0, 0)) := by
 have e0 := heap_setCell_same _ h 0 _ _ v0 hr
 generalize w.setCell ⟨h, 0, none⟩ v0 = w0 at *
 replace e0 : w0.heap[h]? = some (.cells #[v0, .int .i64 0, .int .i64 0, .int .i64 0, .int .i64 0, .int .i64 0, .int .i64 0, .int .i64 0, .int .u64 0, .string ⟨#[]⟩] 28 (0, 0)) := e0
 have e1 := heap_setCell_same _ h 1 _ _ v1 e0
 generalize w0.setCell ⟨h, 1, none⟩ v1 = w1 at *
 replace e1 : w1.heap[h]? = some (.cells #[v0, v1, .int .i64 0, .int .i64 0, .int .i64 0, .int .i64 0, .int .i64 0, .int .i64 0, .int .u64 0, .string ⟨#[]⟩] 28 (0, 0)) := e1
 have e2 := heap_setCell_same _ h 2 _ _ v2 e1
 generalize w1.setCell ⟨h, 2, none⟩ v2 = w2 at *
 replace e2 : w2.heap[h]? = some (.cells #[v0, v1, v2, .int .i64 0, .int .i64 0, .int .i64 0, .int .i64 0, .int .i64 0, .int .u64 0, .string ⟨#[]⟩] 28 (0, 0)) := e2
 have e3 := heap_setCell_same _ h 3 _ _ v3 e2
 generalize w2.setCell ⟨h, 3, none⟩ v3 = w3 at *
 replace e3 : w3.heap[h]? = some (.cells #[v0, v1, v2, v3, .int .i64 0, .int .i64 0, .int .i64 0, .int .i64 0, .int .u64 0, .string ⟨#[]⟩] 28 (0, 0)) := e3
 have e4 := heap_setCell_same _ h 4 _ _ v4 e3
 generalize w3.setCell ⟨h, 4, none⟩ v4 = w4 at *
 replace e4 : w4.heap[h]? = some (.cells #[v0, v1, v2, v3, v4, .int .i64 0, .int .i64 0, .int .i64 0, .int .u64 0, .string ⟨#[]⟩] 28 (0, 0)) := e4
 have e5 := heap_setCell_same _ h 5 _ _ v5 e4
 generalize w4.setCell ⟨h, 5, none⟩ v5 = w5 at *
 replace e5 : w5.heap[h]? = some (.cells #[v0, v1, v2, v3, v4, v5, .int .i64 0, .int .i64 0, .int .u64 0, .string ⟨#[]⟩] 28 (0, 0)) := e5
 have e6 := heap_setCell_same _ h 6 _ _ v6 e5
 generalize w5.setCell ⟨h, 6, none⟩ v6 = w6 at *
 replace e6 : w6.heap[h]? = some (.cells #[v0, v1, v2, v3, v4, v5, v6, .int .i64 0, .int .u64 0, .string ⟨#[]⟩] 28 (0, 0)) := e6
 have e7 := heap_setCell_same _ h 7 _ _ v7 e6
 generalize w6.setCell ⟨h, 7, none⟩ v7 = w7 at *
 replace e7 : w7.heap[h]? = some (.cells #[v0, v1, v2, v3, v4, v5, v6, v7, .int .u64 0, .string ⟨#[]⟩] 28 (0, 0)) := e7
 have e8 := heap_setCell_same _ h 8 _ _ v8 e7
 generalize w7.setCell ⟨h, 8, none⟩ v8 = w8 at *
 replace e8 : w8.heap[h]? = some (.cells #[v0, v1, v2, v3, v4, v5, v6, v7, v8, .string ⟨#[]⟩] 28 (0, 0)) := e8
 have e9 := heap_setCell_same _ h 9 _ _ v9 e8
 generalize w8.setCell ⟨h, 9, none⟩ v9 = w9 at *
 replace e9 : w9.heap[h]? = some (.cells #[v0, v1, v2, v3, v4, v5, v6, v7, v8, v9] 28 (0, 0)) := e9
 exact e9
theorem pput_grown (w : World) (h : Nat) (v0 v1 v2 v3 v4 v5 v6 v7 v8 v9 : Value) : w.grownBy ((((((((((w.setCell ⟨h, 0, none⟩ v0).setCell ⟨h, 1, none⟩ v1).setCell ⟨h, 2, none⟩ v2).setCell ⟨h, 3, none⟩ v3).setCell ⟨h, 4, none⟩ v4).setCell ⟨h, 5, none⟩ v5).setCell ⟨h, 6, none⟩ v6).setCell ⟨h, 7, none⟩ v7).setCell ⟨h, 8, none⟩ v8).setCell ⟨h, 9, none⟩ v9) (some h) := by
 exact grown_trans (grown_trans (grown_trans (grown_trans (grown_trans (grown_trans (grown_trans (grown_trans (grown_trans (grown_setCell _ ⟨h, 0, none⟩ _) (grown_setCell _ ⟨h, 1, none⟩ _)) (grown_setCell _ ⟨h, 2, none⟩ _)) (grown_setCell _ ⟨h, 3, none⟩ _)) (grown_setCell _ ⟨h, 4, none⟩ _)) (grown_setCell _ ⟨h, 5, none⟩ _)) (grown_setCell _ ⟨h, 6, none⟩ _)) (grown_setCell _ ⟨h, 7, none⟩ _)) (grown_setCell _ ⟨h, 8, none⟩ _)) (grown_setCell _ ⟨h, 9, none⟩ _)
theorem zp_cells {w : World} {h : Nat} (hr : w.heap[h]? = some (.cells zpk 28 (0, 0))) :
  (w.cell? ⟨h, 0, none⟩ = some (.int .i64 0) ∧ w.cell? ⟨h, 1, none⟩ = some (.int .i64 0) ∧ w.cell? ⟨h, 2, none⟩ = some (.int .i64 0) ∧ w.cell? ⟨h, 3, none⟩ = some (.int .i64 0) ∧ w.cell? ⟨h, 4, none⟩ = some (.int .i64 0) ∧ w.cell? ⟨h, 5, none⟩ = some (.int .i64 0) ∧ w.cell? ⟨h, 6, none⟩ = some (.int .i64 0) ∧ w.cell? ⟨h, 7, none⟩ = some (.int .i64 0) ∧ w.cell? ⟨h, 8, none⟩ = some (.int .u64 0) ∧ w.cell? ⟨h, 9, none⟩ = some (.string ⟨#[]⟩)) ∧ w.frozen? ⟨h, 0, none⟩ = false ∧ w.frozen? ⟨h, 1, none⟩ = false ∧ w.frozen? ⟨h, 2, none⟩ = false ∧ w.frozen? ⟨h, 3, none⟩ = false ∧ w.frozen? ⟨h, 4, none⟩ = false ∧ w.frozen? ⟨h, 5, none⟩ = false ∧ w.frozen? ⟨h, 6, none⟩ = false ∧ w.frozen? ⟨h, 7, none⟩ = false ∧ w.frozen? ⟨h, 8, none⟩ = false ∧ w.frozen? ⟨h, 9, none⟩ = false :=
 ⟨⟨cell_of_row _ _ _ _ _ _ hr, cell_of_row _ _ _ _ _ _ hr, cell_of_row _ _ _ _ _ _ hr, cell_of_row _ _ _ _ _ _ hr, cell_of_row _ _ _ _ _ _ hr, cell_of_row _ _ _ _ _ _ hr, cell_of_row _ _ _ _ _ _ hr, cell_of_row _ _ _ _ _ _ hr, cell_of_row _ _ _ _ _ _ hr, cell_of_row _ _ _ _ _ _ hr⟩, frozen_of_row _ _ _ _ _ hr, frozen_of_row _ _ _ _ _ hr, frozen_of_row _ _ _ _ _ hr, frozen_of_row _ _ _ _ _ hr, frozen_of_row _ _ _ _ _ hr, frozen_of_row _ _ _ _ _ hr, frozen_of_row _ _ _ _ _ hr, frozen_of_row _ _ _ _ _ hr, frozen_of_row _ _ _ _ _ hr, frozen_of_row _ _ _ _ _ hr⟩
theorem packet_size : (Tryz.prog.info? 28).map (·.size) = some 10 := by kernel_rfl
end Go.Proofs.YtpogblengagpaaaGreatDoor

/- The tape's packets. -/
namespace Go.Proofs.YtpogblengagpaaaGreatDoor
set_option maxRecDepth 100000
open Go.RowKit Bs
def PacketPost (a : Nat) (w : World) (e : Ending) (w' : World) : Prop := ∃ P : Pk, e = .returned P.val ∧ P.Wf ∧ vpk P = true ∧ St a w w'
theorem tp_store {w1 w2 : World} {a b : Nat} (h : Tp w1 a) (k : w1.grownBy w2 (some b)) (hb : a < b) : Tp w2 a := tp_new2 h k hb
theorem St.store {a b : Nat} {W w w1 : World} (h : St a W w) (k : w.grownBy w1 (some b)) (hb : W.heap.size ≤ b) (ha : a < W.heap.size) : St a W w1 :=
 ⟨⟨k.os.trans h.1.os, k.tape.trans h.1.tape, k.output.trans h.1.output, Nat.le_trans h.1.size k.size, fun i hi hia => (k.block i (Nat.lt_of_lt_of_le hi h.1.size) (fun e => by have := Option.some.inj e; omega)).trans (h.1.block i hi hia)⟩, by
  exact tp_store h.2 k (by omega)⟩
theorem res_packet {fn : Func} {p : Tmp} (h : fn.results = #[.cell p 28]) (tmps : Array Value) (w : World) (g : Nat) (xs : Array Value) (hp : tmps.getD p undef = .pointer (some ⟨g, 0, none⟩)) (hn : xs.size = 10) (hg : w.heap[g]? = some (.cells xs 28 (0, 0))) :
  (results fn tmps).run Tryz.prog w = .ok (.agg xs) w := by
 exact results_cell_row h tmps w g _ _ _ _ hp hg Tryz.underlying28 rfl (by rw [hn]; exact packet_size)
theorem i64_small {x : Int} (h1 : -2000 ≤ x) (h2 : x ≤ 2000) : I64 x := by unfold I64; omega
set_option maxHeartbeats 3200000 in
theorem packet0_any (a : Nat) (w : World) (hT : Tp w a) :
  Calls Tryz.prog 9 #[.pointer (some ⟨a, 0, none⟩), .int .i64 0] w fun e w' => PacketPost a w e w' := by
 have ha := hT.lt
 obtain ⟨k1, k2⟩ := one_box w zpk 28
 have HB := Lib.hid k1
 have S0 : St a w (w.alloc (.cells zpk 28)) := ⟨grown_none k2 _, hT.keep k2⟩
 clear k1 k2
 unfold zpk at HB S0
 go_enter Tryz.func9, Tryz.ntmps9
 go_wp2_with fail
 generalize w.alloc _ = wa at *
 change Hid (wa.heap[w.heap.size]? = some (.cells zpk 28 (0, 0))) at HB
 refine (length_any a _ S0.2).mono ?_
 rintro e w1 ⟨len, rfl, hlen, hs1⟩
 have S1 := S0.trans hs1
 go_wp2_with fail
 refine (range_any a 1 3 (by decide) (by decide) (by decide) (by decide) _ S1.2).mono ?_
 rintro e w2 ⟨mode, rfl, hmode, hs2⟩
 go_wp2_with fail
 refine (range_any a 0 7 (by decide) (by decide) (by decide) (by decide) _ hs2.2).mono ?_
 rintro e w3 ⟨sub, rfl, hsub, hs3⟩
 go_wp2_with fail
 refine (pick_any (fun r => 0 ≤ r ∧ r ≤ 31) a _ 0 5 5 (by omega) (by omega) _ (hs3.2.alloc _) (among_list _ w3 a [0, 0, 1, 2, 31] _ _ hs3.2.lt rfl (by decide))).mono ?_
 rintro e w4 ⟨set, rfl, hset, hs4⟩
 go_wp2_with fail
 refine (pick_any (fun r => 0 ≤ r ∧ r ≤ 63) a _ 0 5 5 (by omega) (by omega) _ (hs4.2.alloc _) (among_list _ w4 a [0, 1, 2, 5, 63] _ _ hs4.2.lt rfl (by decide))).mono ?_
 rintro e w5 ⟨ttl, rfl, httl, hs5⟩
 go_wp2_with fail
 refine (next_any a 1024 (by unfold I64; omega) _ hs5.2).mono ?_
 rintro e w6 ⟨ent, rfl, hent, hs6⟩
 go_wp2_with fail
 refine (pick_any (fun r => 0 ≤ r ∧ r ≤ 256) a _ 0 5 5 (by omega) (by omega) _ (hs6.2.alloc _) (among_list _ w6 a [0, 1, 8, 255, 256] _ _ hs6.2.lt rfl (by decide))).mono ?_
 rintro e w7 ⟨ing, rfl, hing, hs7⟩
 go_wp2_with fail
 refine (next_any a 8 (by unfold I64; omega) _ hs7.2).mono ?_
 rintro e w8 ⟨pro, rfl, hpro, hs8⟩
 go_wp2_with fail
 refine (bits_any a len hlen _ hs8.2).mono ?_
 rintro e w9 ⟨bits, rfl, hbu, hbv, hs9⟩
 go_wp2_with fail
 refine (text_any a 6 (by decide) _ hs9.2).mono ?_
 rintro e w10 ⟨pay, rfl, hpay, hs10⟩
 have S' := ((((((((hs1.trans hs2).trans hs3).trans hs4.alloc_left).trans hs5.alloc_left).trans hs6).trans hs7.alloc_left).trans hs8).trans hs9).trans hs10
 have S := Lib.hid (S0.trans S')
 have HR := Lib.hid (kept_row HB.out S'.1 (fun e => by have := Option.some.inj e; omega))
 have hV : Hid (vpk ⟨mode, sub, set, len, ttl, ent, ing, pro, bits, pay⟩ = true ∧ (⟨mode, sub, set, len, ttl, ent, ing, pro, bits, pay⟩ : Pk).Wf) := by
  have r1 := hmode.1
  have r2 := hmode.2.1 (by decide)
  have r3 := hsub.1
  have r4 := hsub.2.1 (by decide)
  have r5 := hent.1
  have r6 := hent.2.1 (by decide)
  have r7 := hpro.1
  have r8 := hpro.2.1 (by decide)
  refine Lib.hid ⟨decide_eq_true ⟨⟨r1, r2⟩, ⟨r3, r4⟩, hset, httl, ⟨r5, by show ent ≤ 1023; omega⟩, hing, ⟨r7, by show pro ≤ 7; omega⟩, Nat.le_trans hpay (by decide), hbv⟩, ?_⟩
  have hl : I64 len := by rcases vl_cases hlen with h | h | h | h <;> rw [h] <;> (unfold I64; decide)
  obtain ⟨q1, q2⟩ := hset
  obtain ⟨q3, q4⟩ := httl
  obtain ⟨q5, q6⟩ := hing
  exact ⟨i64_small (x := mode) (by omega) (by omega), i64_small (x := sub) (by omega) (by omega), i64_small (x := set) (by omega) (by omega), hl, i64_small (x := ttl) (by omega) (by omega), i64_small (x := ent) (by omega) (by omega), i64_small (x := ing) (by omega) (by omega), i64_small (x := pro) (by omega) (by omega), hbu, Nat.le_trans hpay (by decide)⟩
 have g11 := World.grownBy_alloc w10 (.cells #[.int .i64 mode, .int .i64 sub, .int .i64 set, .int .i64 len, .int .i64 ttl, .int .i64 ent, .int .i64 ing, .int .i64 pro, .int .u64 (bits : Int), .string pay] 28) none
 have HR2 := Lib.hid (kept_row HR.out g11 (by simp))
 have S2 := Lib.hid (S.out.none_ g11)
 obtain ⟨⟨r0, r1, r2, r3, r4, r5, r6, r7, r8, r9⟩, f0, f1, f2, f3, f4, f5, f6, f7, f8, f9⟩ := zp_cells HR2.out
 clear S' S HR HB S0 S1 hs1 hs2 hs3 hs4 hs5 hs6 hs7 hs8 hs9 hs10 hmode hsub hset httl hent hing hpro hbu hbv hpay hlen g11
 go_wp2_with fail
 refine bodyPost_ret (res_packet rfl _ _ w.heap.size _ rfl rfl (pput_row _ _ _ _ _ _ _ _ _ _ HR2.out)) rfl ?_
 exact ⟨⟨mode, sub, set, len, ttl, ent, ing, pro, bits, pay⟩, rfl, hV.out.2, hV.out.1, S2.out.store (pput_grown _ w.heap.size _ _ _ _ _ _ _ _ _ _) (Nat.le_refl _) ha⟩
end Go.Proofs.YtpogblengagpaaaGreatDoor

/- The tape's packets, also with a mistake. -/
namespace Go.Proofs.YtpogblengagpaaaGreatDoor
set_option maxRecDepth 100000
open Go.RowKit Bs
section
variable {a B : Nat} {W w w1 : World} {P P' : Pk}
end
end Go.Proofs.YtpogblengagpaaaGreatDoor

/- A list of three packets that a statement draws, and its members. -/
namespace Go.Proofs.YtpogblengagpaaaGreatDoor
set_option maxRecDepth 100000
open Go.RowKit Bs
theorem grown_undrew_some {a : Nat} {w w1 : World} (g : w.drew.grownBy w1 (some a)) : w.grownBy w1 (some a) := ⟨g.os, g.tape, g.output, g.size, g.block⟩
theorem St.tp {a : Nat} {w w1 : World} (h : St a w w1) : Tp w1 a := h.2
theorem St.gr {a : Nat} {w w1 : World} (h : St a w w1) : w.grownBy w1 (some a) := h.1
end Go.Proofs.YtpogblengagpaaaGreatDoor

/- packet: Size and Plane. -/
namespace Go.Proofs.YtpogblengagpaaaGreatDoor
set_option maxRecDepth 100000
open Go.RowKit Bs
def planeV (P : Pk) : Int := if vpk P = true then P.ent % 8 else 0
theorem vpk_len {P : Pk} (h : vpk P = true) : P.len = ((P.len.toNat : Nat) : Int) ∧ P.len.toNat ≤ 64 := by
 rcases vl_cases (vb_vl (vpk_parts h).2.2.2.2.2.2.2.2) with h | h | h | h <;> rw [h] <;> decide
theorem pplane_any (P : Pk) (hP : P.Wf) (w : World) :
  Calls Tryz.prog 39 #[P.val] w fun e w' => e = .returned (.int .i64 (planeV P)) ∧ w.grownBy w' none := by
 have hval : P.val = .agg #[.int .i64 P.mode, .int .i64 P.sub, .int .i64 P.set, .int .i64 P.len, .int .i64 P.ttl, .int .i64 P.ent, .int .i64 P.ing, .int .i64 P.pro, .int .u64 (P.bits : Int), .string P.pay] := rfl
 rw [hval]
 go_enter Tryz.func39, Tryz.ntmps39
 go_wp2_with fail
 obtain ⟨k1, k2⟩ := one_box w (pcells P) 28
 have HP := Lib.hid (And.intro k1 k2)
 clear k1 k2
 unfold pcells at HP
 generalize w.alloc _ = wa at *
 change Hid (wa.heap[w.heap.size]? = some (.cells (pcells P) 28 (0, 0)) ∧ w.grownBy wa none) at HP
 rw [← hval]
 refine (pvalid_any P hP _).mono ?_
 rintro e w1 ⟨rfl, hg⟩
 have HQ := Lib.hid (And.intro (kept_row HP.out.1 hg (by simp)) (grown_trans HP.out.2 hg))
 clear hg HP
 by_cases hv : vpk P = true
 ·have hE : Hid (planeV P = P.ent % 8) := Lib.hid (by unfold planeV; rw [if_pos hv])
  have he := (vpk_parts hv).2.2.2.2.1
  obtain ⟨he1, he2⟩ := he
  rw [hv]
  clear hv
  obtain ⟨_, _, _, _, _, a5, _⟩ := p_facts HQ.out.1
  go_wp2_with fail
  go_ret
  exact ⟨by rw [hE.out]; rfl, HQ.out.2⟩
 ·have hf : vpk P = false := by simpa using hv
  have hE : Hid (planeV P = 0) := Lib.hid (by unfold planeV; rw [if_neg hv])
  rw [hf]
  clear hf hv
  go_wp2_with fail
  go_ret
  exact ⟨by rw [hE.out]; rfl, HQ.out.2⟩
end Go.Proofs.YtpogblengagpaaaGreatDoor

/- packet: the reference's Valid, Size, Plane. -/
namespace Go.Proofs.YtpogblengagpaaaGreatDoor
set_option maxRecDepth 100000
open Go.RowKit Bs
def ins (n m : Int) : Bool := decide (0 ≤ n ∧ n ≤ m)
theorem inside_any (n m : Int) (w : World) :
  Calls Tryz.prog 74 #[.int .i64 n, .int .i64 m] w fun e w' => e = .returned (.bool (ins n m)) ∧ w = w' := by
 by_cases h : 0 ≤ n
 ·by_cases h2 : n ≤ m
  ·have hi : Hid (ins n m = true) := Lib.hid (decide_eq_true ⟨h, h2⟩)
   go_enter Tryz.func74, Tryz.ntmps74
   go_wp2
   all_goals (go_ret; exact ⟨by rw [hi.out]; first | rfl | (simp; omega), rfl⟩)
  ·have hi : Hid (ins n m = false) := Lib.hid (decide_eq_false (by omega))
   go_enter Tryz.func74, Tryz.ntmps74
   go_wp2
   all_goals (go_ret; exact ⟨by rw [hi.out]; first | rfl | (simp; omega), rfl⟩)
 ·have hi : Hid (ins n m = false) := Lib.hid (decide_eq_false (by omega))
  go_enter Tryz.func74, Tryz.ntmps74
  go_wp2
  all_goals (go_ret; exact ⟨by rw [hi.out]; first | rfl | (simp; omega), rfl⟩)
theorem vpk_iff (P : Pk) : vpk P = (decide (1 ≤ P.mode) && (decide (P.mode ≤ 3) && (ins P.sub 7 && (ins P.set 31 && (vb P.bits P.len && (ins P.ttl 63 && (ins P.ent 1023 && (ins P.ing 256 && (ins P.pro 7 && decide (P.pay.size ≤ 64)))))))))) := by
 unfold vpk ins
 rw [Bool.eq_iff_iff]
 simp only [decide_eq_true_eq, Bool.and_eq_true]
 constructor
 ·rintro ⟨⟨h1, h2⟩, h3, h4, h5, h6, h7, h8, h9, h10⟩
  exact ⟨h1, h2, h3, h4, h10, h5, h6, h7, h8, h9⟩
 ·rintro ⟨h1, h2, h3, h4, h10, h5, h6, h7, h8, h9⟩
  exact ⟨⟨h1, h2⟩, h3, h4, h5, h6, h7, h8, h9, h10⟩
set_option maxHeartbeats 3200000 in
theorem rvalid_any (P : Pk) (hP : P.Wf) (w : World) :
  Calls Tryz.prog 43 #[P.val] w fun e w' => e = .returned (.bool (vpk P)) ∧ w.grownBy w' none := by
 have hval : P.val = .agg #[.int .i64 P.mode, .int .i64 P.sub, .int .i64 P.set, .int .i64 P.len, .int .i64 P.ttl, .int .i64 P.ent, .int .i64 P.ing, .int .i64 P.pro, .int .u64 (P.bits : Int), .string P.pay] := rfl
 rw [hval]
 go_enter Tryz.func43, Tryz.ntmps43
 obtain ⟨k1, k2⟩ := one_box w (pcells P) 28
 have HA := Lib.hid (And.intro k1 k2)
 unfold pcells at HA
 clear k1 k2
 by_cases hs : P.pay.size ≤ 64
 ·have hsi : ((P.pay.size : Nat) : Int) ≤ 64 := by omega
  go_wp2_with (first
   | (go_at_call 74; refine (inside_any _ _ _).mono ?_; rintro e w' ⟨rfl, rfl⟩)
   | (go_at_call 75; refine (bvalidr_any P.bits P.len hP.bits _).mono ?_; rintro e w' ⟨rfl, rfl⟩))
  all_goals
   go_ret
   refine ⟨?_, HA.out.2⟩
   first
    | (rw [show vpk P = false by (rw [vpk_iff]; first | (simp [*]; done) | (rw [decide_eq_false (show ¬ 1 ≤ P.mode by omega)]; rfl) | (rw [decide_eq_false (show ¬ P.mode ≤ 3 by omega), Bool.false_and, Bool.and_false]))]; rfl)
    | (rw [show vpk P = true by rw [vpk_iff]; simp [*]]; rfl)
 ·have hsi : ¬ ((P.pay.size : Nat) : Int) ≤ 64 := by omega
  go_wp2_with (first
   | (go_at_call 74; refine (inside_any _ _ _).mono ?_; rintro e w' ⟨rfl, rfl⟩)
   | (go_at_call 75; refine (bvalidr_any P.bits P.len hP.bits _).mono ?_; rintro e w' ⟨rfl, rfl⟩))
  all_goals
   go_ret
   refine ⟨?_, HA.out.2⟩
   first
    | (rw [show vpk P = false by (rw [vpk_iff]; first | (simp [*]; done) | (rw [decide_eq_false (show ¬ 1 ≤ P.mode by omega)]; rfl) | (rw [decide_eq_false (show ¬ P.mode ≤ 3 by omega), Bool.false_and, Bool.and_false]))]; rfl)
    | (rw [show vpk P = false by (rw [vpk_iff]; simp [*]), decide_eq_false (show ¬ ((P.pay.size : Nat) : Int) ≤ 64 by omega)]; rfl)
end Go.Proofs.YtpogblengagpaaaGreatDoor

/- Parts of the proof, packed: ToOrdM, ToWoM, ToLkM, ToLook, ToCln, ToDel, ShMath, ShDij, ShNear, ShMap, ToWiW, ToSort, ToSrt2, ShNst, ShDel, ShStp, ToDfs, ToDfsK, ToDfsW, ToComp, ToComp2, ShCfM, ShCf, ShDst, ShCst, ShNxt, ToApM, ShCto, ShPass, ShUse, ShRt, ShLay, ShSrt, ShCnt, ShPts, ShSrn, ShPtw, ShExm, ToCompW, ToConn, ToBri, ToCuts, ToAwake, ShAwk. -/
import Derived.Test.YtpogblengagpaaaGreatDoorLo3
import Derived.Test.YtpogblengagpaaaGreatDoorLo4
import Derived.Test.YtpogblengagpaaaGreatDoorLo7
import Derived.Lib.SliceRun
import Derived.Maps.OwnSet
import Derived.Maps.OwnOps
import Derived.Test.YtpogblengagpaaaGreatDoorLo5
import Derived.WalkMore
import Derived.Deep.AppendLies
import Derived.Deep.LoopGhost
import Derived.BigQuiet
/- Links in order, and the tape's topologies: the mathematics. -/
namespace Go.Proofs.YtpogblengagpaaaGreatDoor
set_option maxRecDepth 100000
open Go.RowKit Bs
def insL (O : List Lk) (y : Lk) : List Lk := O.takeWhile (fun x => ltL x y) ++ y :: O.dropWhile (fun x => ltL x y)
def ordL (L : List Lk) : List Lk := L.foldl insL []
theorem insL_cons (a : Lk) (t : List Lk) (y : Lk) : insL (a :: t) y = if ltL a y then a :: insL t y else y :: a :: t := by
 unfold insL
 rw [List.takeWhile_cons, List.dropWhile_cons]
 split <;> rfl
theorem insL_len (O : List Lk) (y : Lk) : (insL O y).length = O.length + 1 := by
 unfold insL
 rw [List.length_append, List.length_cons]
 have := congrArg List.length (List.takeWhile_append_dropWhile (p := fun x => ltL x y) (l := O))
 rw [List.length_append] at this
 omega
theorem ordL_take (L : List Lk) (k : Nat) (y : Lk) (h : L[k]? = some y) : ordL (L.take (k + 1)) = insL (ordL (L.take k)) y := by
 unfold ordL
 rw [List.take_add_one, h, List.foldl_append]
 rfl
theorem foldl_insL_len : ∀ (L O : List Lk), (L.foldl insL O).length = O.length + L.length
 | [], O => by simp
 | a :: t, O => by rw [List.foldl_cons, foldl_insL_len t, insL_len, List.length_cons]; omega
theorem ordL_len (L : List Lk) : (ordL L).length = L.length := by
 unfold ordL
 rw [foldl_insL_len]; simp
theorem insL_at (y : Lk) : ∀ (O : List Lk) (j : Nat), j ≤ O.length → (∀ i x, i < j → O[i]? = some x → ltL x y = true) → (∀ x, O[j]? = some x → ltL x y = false) → insL O y = O.take j ++ y :: O.drop j
 | [], j, hj, _, _ => by
  obtain rfl : j = 0 := by simpa using hj
  rfl
 | a :: t, 0, _, _, h2 => by
  rw [insL_cons, h2 a rfl]
  rfl
 | a :: t, j + 1, hj, h1, h2 => by
  rw [insL_cons, if_pos (h1 0 a (by omega) rfl), insL_at y t j (by simpa using hj) (fun i x hi hx => h1 (i + 1) x (by omega) (by simpa using hx)) (fun x hx => h2 x (by simpa using hx))]
  rfl
theorem mem_insL (y z : Lk) : ∀ O : List Lk, z ∈ insL O y ↔ z = y ∨ z ∈ O
 | [] => by simp [insL]
 | a :: t => by
  rw [insL_cons]
  split
  ·rw [List.mem_cons, List.mem_cons, mem_insL y z t]
   constructor
   ·rintro (h | h | h)
    ·exact .inr (.inl h)
    ·exact .inl h
    ·exact .inr (.inr h)
   ·rintro (h | h | h)
    ·exact .inr (.inl h)
    ·exact .inl h
    ·exact .inr (.inr h)
  ·simp
theorem ltL_trans {x y z : Lk} (h1 : ltL x y = true) (h2 : ltL y z = true) : ltL x z = true := by
 unfold ltL at *
 have h1 := of_decide_eq_true h1
 have h2 := of_decide_eq_true h2
 exact decide_eq_true (by omega)
def EndsNe (x y : Lk) : Prop := x.a ≠ y.a ∨ x.b ≠ y.b
theorem ltL_flip {x y : Lk} (h : ltL x y = false) (hn : EndsNe x y) : ltL y x = true := by
 unfold ltL at *
 have h := of_decide_eq_false h
 unfold EndsNe at hn
 exact decide_eq_true (by omega)
theorem insL_pair (y : Lk) : ∀ O : List Lk, O.Pairwise (fun x z => ltL x z = true) → (∀ x ∈ O, EndsNe x y) → (insL O y).Pairwise (fun x z => ltL x z = true)
 | [], _, _ => by simp [insL]
 | a :: t, hp, hn => by
  rw [insL_cons]
  obtain ⟨h1, h2⟩ := List.pairwise_cons.1 hp
  split
  ·next hlt =>
   refine List.pairwise_cons.2 ⟨fun z hz => ?_, insL_pair y t h2 (fun x hx => hn x (List.mem_cons_of_mem _ hx))⟩
   rcases (mem_insL y z t).1 hz with rfl | hz
   ·exact hlt
   ·exact h1 z hz
  ·next hlt =>
   have hya := ltL_flip (by simpa using hlt) (hn a (by simp))
   refine List.pairwise_cons.2 ⟨fun z hz => ?_, hp⟩
   rcases List.mem_cons.1 hz with rfl | hz
   ·exact hya
   ·exact ltL_trans hya (h1 z hz)
theorem foldl_insL_pair : ∀ (L O : List Lk), O.Pairwise (fun x z => ltL x z = true) → L.Pairwise EndsNe → (∀ x ∈ O, ∀ y ∈ L, EndsNe x y) → (L.foldl insL O).Pairwise (fun x z => ltL x z = true)
 | [], O, h, _, _ => h
 | a :: t, O, h, hL, hx => by
  obtain ⟨h1, h2⟩ := List.pairwise_cons.1 hL
  rw [List.foldl_cons]
  refine foldl_insL_pair t _ (insL_pair a O h (fun x hx1 => hx x hx1 a (by simp))) h2 (fun x hx1 y hy => ?_)
  rcases (mem_insL a x O).1 hx1 with rfl | h3
  ·exact h1 y hy
  ·exact hx x h3 y (List.mem_cons_of_mem _ hy)
theorem foldl_insL_mem (z : Lk) : ∀ (L O : List Lk), z ∈ L.foldl insL O ↔ z ∈ O ∨ z ∈ L
 | [], O => by simp
 | a :: t, O => by
  rw [List.foldl_cons, foldl_insL_mem z t, mem_insL, List.mem_cons]
  constructor
  ·rintro ((h | h) | h)
   ·exact .inr (.inl h)
   ·exact .inl h
   ·exact .inr (.inr h)
  ·rintro (h | h | h)
   ·exact .inl (.inr h)
   ·exact .inl (.inl h)
   ·exact .inr h
theorem ordL_mem (L : List Lk) (z : Lk) : z ∈ ordL L ↔ z ∈ L := by
 unfold ordL
 rw [foldl_insL_mem]
 simp
theorem ordL_pair (L : List Lk) (h : L.Pairwise EndsNe) : (ordL L).Pairwise (fun x z => ltL x z = true) :=
 foldl_insL_pair L [] List.Pairwise.nil h (fun x hx => by simp at hx)
theorem asc_of_pair {α : Type} (f : α → α → Bool) : ∀ l : List α, l.Pairwise (fun x z => f x z = true) → ascB f l = true
 | [], _ => rfl
 | [a], _ => rfl
 | a :: b :: t, h => by
  obtain ⟨h1, h2⟩ := List.pairwise_cons.1 h
  rw [ascB, h1 b (by simp), asc_of_pair f (b :: t) h2]
  rfl
def rts (k : Nat) : List Rt := (List.range k).map fun (i : Nat) => (⟨(i : Int) + 1, true⟩ : Rt)
theorem rts_succ (k : Nat) : rts (k + 1) = rts k ++ [⟨(k : Int) + 1, true⟩] := by
 unfold rts
 rw [List.range_succ, List.map_append]
 rfl
theorem rts_len (k : Nat) : (rts k).length = k := by unfold rts; simp
theorem rts_mem (k : Nat) (r : Rt) : r ∈ rts k ↔ ∃ i : Nat, i < k ∧ r = ⟨(i : Int) + 1, true⟩ := by
 unfold rts
 rw [List.mem_map]
 constructor
 ·rintro ⟨i, hi, rfl⟩; exact ⟨i, List.mem_range.1 hi, rfl⟩
 ·rintro ⟨i, hi, rfl⟩; exact ⟨i, List.mem_range.2 hi, rfl⟩
structure GoodL (k b a : Int) (L : List Lk) : Prop where
 ok : ∀ l ∈ L, (1 ≤ l.a ∧ l.a < l.b ∧ l.b ≤ k) ∧ wrNum l = false
 lt : ∀ l ∈ L, l.b < b ∨ (l.b = b ∧ l.a < a)
 ne : L.Pairwise EndsNe
theorem GoodL.nil (k b a : Int) : GoodL k b a [] := ⟨by simp, by simp, List.Pairwise.nil⟩
theorem GoodL.next {k b a : Int} {L : List Lk} (h : GoodL k b a L) : GoodL k b (a + 1) L := ⟨h.ok, fun l hl => by rcases h.lt l hl with h1 | h1 <;> omega, h.ne⟩
theorem GoodL.row {k b a : Int} {L : List Lk} (h : GoodL k b a L) : GoodL k (b + 1) 1 L := ⟨h.ok, fun l hl => by rcases h.lt l hl with h1 | h1 <;> omega, h.ne⟩
theorem GoodL.add {k b a : Int} {L : List Lk} (h : GoodL k b a L) (y : Lk) (ha : y.a = a) (hb : y.b = b) (h1 : 1 ≤ a) (h2 : a < b) (h3 : b ≤ k) (hw : wrNum y = false) : GoodL k b (a + 1) (L ++ [y]) := by
 refine ⟨fun l hl => ?_, fun l hl => ?_, ?_⟩
 ·rcases List.mem_append.1 hl with hl | hl
  ·exact h.ok l hl
  ·obtain rfl : l = y := by simpa using hl
   exact ⟨by omega, hw⟩
 ·rcases List.mem_append.1 hl with hl | hl
  ·rcases h.lt l hl with h4 | h4 <;> omega
  ·obtain rfl : l = y := by simpa using hl
   omega
 ·refine List.pairwise_append.2 ⟨h.ne, by simp, fun x hx z hz => ?_⟩
  obtain rfl : z = y := by simpa using hz
  unfold EndsNe
  rcases h.lt x hx with h4 | h4 <;> omega
theorem chk_good {k : Nat} {b a : Int} {L : List Lk} (h : GoodL k b a L) (hk : k ≤ 24) (hl : L.length ≤ 60) : chk (rts k) (ordL L) = 0 := by
 unfold chk
 rw [if_neg (by rw [rts_len, ordL_len]; omega), if_neg, if_neg, if_neg, if_neg, if_neg, if_neg]
 ·rw [asc_of_pair ltL _ (ordL_pair L h.ne)]
  simp
 ·rw [List.any_eq_true]
  rintro ⟨l, hl1, hw⟩
  have := (h.ok l ((ordL_mem L l).1 hl1)).1
  unfold wrEnd at hw
  have := of_decide_eq_true hw
  omega
 ·rw [List.any_eq_true]
  rintro ⟨l, hl1, hw⟩
  have := (h.ok l ((ordL_mem L l).1 hl1)).1
  have hh : ∀ x : Int, 1 ≤ x → x ≤ k → hasR (rts k) x = true := fun x h1 h2 => by
   unfold hasR
   refine List.any_eq_true.2 ⟨⟨x, true⟩, (rts_mem k _).2 ⟨(x - 1).toNat, by omega, ?_⟩, by simp⟩
   congr 1
   omega
  unfold unk at hw
  rw [hh _ this.1 (by omega), hh _ (by omega) this.2.2] at hw
  simp at hw
 ·rw [List.any_eq_true]
  rintro ⟨l, hl1, hw⟩
  rw [(h.ok l ((ordL_mem L l).1 hl1)).2] at hw
  cases hw
 ·rw [asc_of_pair ltR (rts k)]
  ·simp
  ·unfold rts
   rw [List.pairwise_map]
   exact List.pairwise_lt_range.imp (fun {a b} hab => decide_eq_true (by show (a : Int) + 1 < (b : Int) + 1; omega))
 ·rw [List.any_eq_true]
  rintro ⟨r, hr, hw⟩
  obtain ⟨i, hi, rfl⟩ := (rts_mem k r).1 hr
  have : wrId ⟨(i : Int) + 1, true⟩ = false := by
   unfold wrId
   rw [decide_eq_true (by constructor <;> (dsimp; omega))]
   rfl
  rw [this] at hw
  cases hw
def TopOf (most : Nat) (n : Int) (R : List Rt) (L : List Lk) : Prop :=
 1 ≤ R.length ∧ (R.length ≤ most + 1 ∨ 25 ≤ R.length) ∧ R.length ≤ most + 25 ∧ L.length ≤ 60 ∧ (n ≤ 0 → chk R L = 0 ∧ R.length ≤ most)
end Go.Proofs.YtpogblengagpaaaGreatDoor

/- What is left of a valid topology is valid. -/
namespace Go.Proofs.YtpogblengagpaaaGreatDoor
set_option maxRecDepth 100000
open Go.RowKit Bs
theorem pair_of_asc {α : Type} (f : α → α → Bool) (ht : ∀ x y z, f x y = true → f y z = true → f x z = true) : ∀ l : List α, ascB f l = true → l.Pairwise (fun x z => f x z = true)
 | [], _ => List.Pairwise.nil
 | [a], _ => by simp
 | a :: b :: t, h => by
  rw [ascB, Bool.and_eq_true] at h
  have hp := pair_of_asc f ht (b :: t) h.2
  refine List.pairwise_cons.2 ⟨fun z hz => ?_, hp⟩
  rcases List.mem_cons.1 hz with rfl | hz
  ·exact h.1
  ·exact ht a b z h.1 ((List.pairwise_cons.1 hp).1 z hz)
structure OkAll (R : List Rt) (L : List Lk) : Prop where
 l1 : R.length ≤ 24
 l2 : L.length ≤ 60
 id : R.any wrId = false
 rs : ascB ltR R = true
 nm : L.any wrNum = false
 un : L.any (unk R) = false
 en : L.any wrEnd = false
 ls : ascB ltL L = true
theorem chk_okAll {R : List Rt} {L : List Lk} (h : chk R L = 0) : OkAll R L := by
 unfold chk at h
 by_cases h1 : 24 < R.length ∨ 60 < L.length
 ·rw [if_pos h1] at h; cases h
 rw [if_neg h1] at h
 cases h2 : R.any wrId
 case true => rw [h2] at h; cases h
 cases h3 : ascB ltR R
 case false => rw [h2, h3] at h; cases h
 cases h4 : L.any wrNum
 case true => rw [h2, h3, h4] at h; cases h
 cases h5 : L.any (unk R)
 case true => rw [h2, h3, h4, h5] at h; cases h
 cases h6 : L.any wrEnd
 case true => rw [h2, h3, h4, h5, h6] at h; cases h
 cases h7 : ascB ltL L
 case false => rw [h2, h3, h4, h5, h6, h7] at h; cases h
 exact ⟨by omega, by omega, h2, h3, h4, h5, h6, h7⟩
theorem ltR_trans (x y z : Rt) (h1 : ltR x y = true) (h2 : ltR y z = true) : ltR x z = true := by
 unfold ltR at *
 have h1 := of_decide_eq_true h1
 have h2 := of_decide_eq_true h2
 exact decide_eq_true (by omega)
end Go.Proofs.YtpogblengagpaaaGreatDoor

/- What is looked up in a valid topology: the mathematics. -/
namespace Go.Proofs.YtpogblengagpaaaGreatDoor
set_option maxRecDepth 100000
open Go.RowKit Bs
def capR (R : List Rt) (x : Int) : Bool := match R.find? (fun r => decide (r.id = x)) with
 | some r => r.cap
 | none => false
def priceB (a b : Int) (l : Lk) : Option Int := if l.a = a ∧ l.b = b then some l.ca else if l.b = a ∧ l.a = b then some l.cb else none
def priceV (L : List Lk) (a b : Int) : Int × Bool := match L.findSome? (priceB a b) with
 | some c => (c, true)
 | none => (0, false)
theorem ends_lt {R : List Rt} {L : List Lk} (ho : OkAll R L) : ∀ l ∈ L, l.a < l.b := by
 intro l hl
 have h := List.any_eq_false.1 ho.en l hl
 unfold wrEnd at h
 have h2 : ¬ l.b ≤ l.a := fun hc => h (decide_eq_true hc)
 omega
def nearR (R : List Rt) (L : List Lk) (x : Int) : List Int := (R.filter fun r => (priceV L x r.id).2).map (·.id)
theorem eq_of_asc : ∀ {l m : List Int}, l.Pairwise (· < ·) → m.Pairwise (· < ·) → (∀ x, x ∈ l ↔ x ∈ m) → l = m
 | [], [], _, _, _ => rfl
 | [], b :: m, _, _, h => by have := (h b).2 (by simp); cases this
 | a :: l, [], _, _, h => by have := (h a).1 (by simp); cases this
 | a :: l, b :: m, hl, hm, h => by
  obtain ⟨h1, h2⟩ := List.pairwise_cons.1 hl
  obtain ⟨h3, h4⟩ := List.pairwise_cons.1 hm
  have e : a = b := by
   have ha := (h a).1 (by simp)
   have hb := (h b).2 (by simp)
   rcases List.mem_cons.1 ha with ha | ha
   ·exact ha
   rcases List.mem_cons.1 hb with hb | hb
   ·exact hb.symm
   have := h1 b hb
   have := h3 a ha
   omega
  subst e
  congr 1
  refine eq_of_asc h2 h4 fun x => ?_
  constructor
  ·intro hx
   rcases List.mem_cons.1 ((h x).1 (List.mem_cons_of_mem _ hx)) with rfl | hx2
   ·have := h1 x hx; omega
   ·exact hx2
  ·intro hx
   rcases List.mem_cons.1 ((h x).2 (List.mem_cons_of_mem _ hx)) with rfl | hx2
   ·have := h3 x hx; omega
   ·exact hx2
theorem nb1_mem (x y : Int) (l : Lk) : y ∈ nb1 x l ↔ (l.b = x ∧ y = l.a) ∨ (l.a = x ∧ y = l.b) := by
 unfold nb1
 rw [List.mem_append]
 by_cases h1 : l.b = x <;> by_cases h2 : l.a = x <;> simp [h1, h2]
theorem price_ok (L : List Lk) (x y : Int) : (priceV L x y).2 = true ↔ ∃ l ∈ L, (l.b = x ∧ y = l.a) ∨ (l.a = x ∧ y = l.b) := by
 unfold priceV
 cases hf : L.findSome? (priceB x y) with
 | none =>
  simp only
  constructor
  ·intro h; cases h
  ·rintro ⟨l, hl, h⟩
   have := List.findSome?_eq_none_iff.1 hf l hl
   unfold priceB at this
   by_cases k1 : l.a = x ∧ l.b = y
   ·rw [if_pos k1] at this; cases this
   ·rw [if_neg k1] at this
    by_cases k2 : l.b = x ∧ l.a = y
    ·rw [if_pos k2] at this; cases this
    ·omega
 | some c =>
  simp only
  refine ⟨fun _ => ?_, fun _ => by trivial⟩
  obtain ⟨m, hm, hmc⟩ := List.exists_of_findSome?_eq_some hf
  refine ⟨m, hm, ?_⟩
  unfold priceB at hmc
  by_cases k1 : m.a = x ∧ m.b = y
  ·exact .inr ⟨k1.1, k1.2.symm⟩
  ·rw [if_neg k1] at hmc
   by_cases k2 : m.b = x ∧ m.a = y
   ·exact .inl ⟨k2.1, k2.2.symm⟩
   ·rw [if_neg k2] at hmc; cases hmc
theorem near_eq {R : List Rt} {L : List Lk} (ho : OkAll R L) (x : Int) : nbL L x = nearR R L x := by
 have he := ends_lt ho
 have hp := pair_of_asc ltL (fun _ _ _ => ltL_trans) L ho.ls
 have hr := pair_of_asc ltR ltR_trans R ho.rs
 refine eq_of_asc ?_ ?_ fun y => ?_
 ·unfold nbL
  rw [List.pairwise_flatMap]
  refine ⟨fun l hl => ?_, ?_⟩
  ·have := he l hl
   unfold nb1
   by_cases h1 : l.b = x <;> by_cases h2 : l.a = x <;> simp [h1, h2]
   omega
  ·refine List.Pairwise.imp_of_mem ?_ hp
   intro l m hl hm hlm u hu v hv
   have h1 := he l hl
   have h2 := he m hm
   unfold ltL at hlm
   have h3 := of_decide_eq_true hlm
   rcases (nb1_mem x u l).1 hu with hu | hu <;> rcases (nb1_mem x v m).1 hv with hv | hv <;> omega
 ·unfold nearR
  rw [List.pairwise_map]
  exact (hr.sublist List.filter_sublist).imp (fun h => of_decide_eq_true h)
 ·unfold nbL nearR
  rw [List.mem_flatMap, List.mem_map]
  constructor
  ·rintro ⟨l, hl, hy⟩
   have hy := (nb1_mem x y l).1 hy
   have hk := List.any_eq_false.1 ho.un l hl
   unfold unk at hk
   have hak : hasR R l.a = true ∧ hasR R l.b = true := by
    cases e1 : hasR R l.a <;> cases e2 : hasR R l.b <;> rw [e1, e2] at hk <;> simp at hk ⊢
   have hyr : hasR R y = true := by
    rcases hy with hy | hy
    ·rw [hy.2]; exact hak.1
    ·rw [hy.2]; exact hak.2
   obtain ⟨r, hr2, hid⟩ := List.any_eq_true.1 hyr
   have hid := of_decide_eq_true hid
   refine ⟨r, List.mem_filter.2 ⟨hr2, ?_⟩, hid⟩
   rw [hid]
   exact (price_ok L x y).2 ⟨l, hl, hy⟩
  ·rintro ⟨r, hr2, rfl⟩
   obtain ⟨l, hl, h⟩ := (price_ok L x r.id).1 (List.mem_filter.1 hr2).2
   exact ⟨l, hl, (nb1_mem x r.id l).2 h⟩
end Go.Proofs.YtpogblengagpaaaGreatDoor

/- topology: routerAt, linkAt, Has, Capable, Cost, Neighbours. -/
namespace Go.Proofs.YtpogblengagpaaaGreatDoor
set_option maxRecDepth 100000
open Go.RowKit Bs
def hasV (R : List Rt) (L : List Lk) (x : Int) : Bool := okT R L && hasR R x
def capV (R : List Rt) (L : List Lk) (x : Int) : Bool := okT R L && capR R x
theorem capR_has {R : List Rt} {x : Int} (h : hasR R x = false) : capR R x = false := by
 unfold capR
 cases hf : R.find? (fun r => decide (r.id = x)) with
 | none => rfl
 | some r =>
  have h2 := List.find?_some hf
  have : hasR R x = true := List.any_eq_true.2 ⟨r, List.mem_of_find?_eq_some hf, h2⟩
  rw [h] at this; cases this
theorem okT_all {R : List Rt} {L : List Lk} (h : okT R L = true) : OkAll R L := chk_okAll (by unfold okT at h; simpa using h)
end Go.Proofs.YtpogblengagpaaaGreatDoor

/- empty -/
namespace Go.Proofs.YtpogblengagpaaaGreatDoor
set_option maxRecDepth 100000
end Go.Proofs.YtpogblengagpaaaGreatDoor

/- empty -/
namespace Go.Proofs.YtpogblengagpaaaGreatDoor
set_option maxRecDepth 100000
end Go.Proofs.YtpogblengagpaaaGreatDoor

/- Least costs: walks, what a closed table of costs says, what rounds of relaxing give. -/
namespace Go.Proofs.YtpogblengagpaaaGreatDoor
set_option maxRecDepth 100000
def edg (L : List Lk) (u v c : Int) : Prop := ∃ l ∈ L, (l.a = u ∧ l.b = v ∧ l.ca = c) ∨ (l.b = u ∧ l.a = v ∧ l.cb = c)
def Wk (L : List Lk) (s v n : Int) : Prop := ∀ P : Int → Int → Prop, P s 0 → (∀ u m v c, P u m → edg L u v c → P v (m + c)) → P v n
theorem Wk.nil (L : List Lk) (s : Int) : Wk L s s 0 := fun _ h _ => h
theorem Wk.step {L : List Lk} {s u m v c : Int} (h : Wk L s u m) (e : edg L u v c) : Wk L s v (m + c) := fun P h0 hs => hs u m v c (h P h0 hs) e
theorem Wk.ind {L : List Lk} {s : Int} {Q : Int → Int → Prop} (h0 : Q s 0) (hs : ∀ u m v c, Wk L s u m → Q u m → edg L u v c → Q v (m + c)) {v n : Int} (h : Wk L s v n) : Q v n :=
 (h (fun v n => Wk L s v n ∧ Q v n) ⟨Wk.nil L s, h0⟩ (fun u m v c hu e => ⟨hu.1.step e, hs u m v c hu.1 hu.2 e⟩)).2
theorem Wk.last {L : List Lk} {s v n : Int} (h : Wk L s v n) : (v = s ∧ n = 0) ∨ ∃ u m c, Wk L s u m ∧ edg L u v c ∧ n = m + c :=
 Wk.ind (Q := fun v n => (v = s ∧ n = 0) ∨ ∃ u m c, Wk L s u m ∧ edg L u v c ∧ n = m + c) (.inl ⟨rfl, rfl⟩) (fun u m _ c hu _ e => .inr ⟨u, m, c, hu, e, rfl⟩) h
def Pos (L : List Lk) : Prop := ∀ l ∈ L, 1 ≤ l.ca ∧ 1 ≤ l.cb
theorem Pos.edg {L : List Lk} (hp : Pos L) {u v c : Int} (e : edg L u v c) : 1 ≤ c := by
 obtain ⟨l, hl, h | h⟩ := e
 ·have := (hp l hl).1; omega
 ·have := (hp l hl).2; omega
theorem Wk.ge {L : List Lk} (hp : Pos L) {s v n : Int} (h : Wk L s v n) : 0 ≤ n :=
 Wk.ind (Q := fun _ n => 0 ≤ n) (Int.le_refl _) (fun u m v c _ h e => by have := hp.edg e; omega) h
def IsD (L : List Lk) (s v d : Int) : Prop := Wk L s v d ∧ ∀ n, Wk L s v n → d ≤ n
theorem IsD.uniq {L : List Lk} {s v d e : Int} (h : IsD L s v d) (k : IsD L s v e) : d = e := by
 have := h.2 e k.1
 have := k.2 d h.1
 omega
theorem IsD.pred {L : List Lk} {s v d : Int} (h : IsD L s v d) : (v = s ∧ d = 0) ∨ ∃ u e c, IsD L s u e ∧ edg L u v c ∧ d = e + c := by
 rcases h.1.last with h1 | ⟨u, m, c, hu, e, rfl⟩
 ·exact .inl h1
 ·refine .inr ⟨u, m, c, ⟨hu, fun n hn => ?_⟩, e, rfl⟩
  have := h.2 _ (hn.step e)
  omega
def farN : Int := 1073741824
def updF (d : Int → Int) (v x : Int) : Int → Int := fun u => if u = v then x else d u
def rlx1 (d : Int → Int) (u v c : Int) : Int → Int := if d u < farN then updF d v (min (d v) (c + d u)) else d
def rlx (d : Int → Int) (l : Lk) : Int → Int := rlx1 (rlx1 d l.b l.a l.cb) l.a l.b l.ca
def pass (L : List Lk) (d : Int → Int) : Int → Int := L.foldl rlx d
def passes (L : List Lk) : Nat → (Int → Int) → Int → Int
 | 0, d => d
 | k + 1, d => pass L (passes L k d)
def startF (s : Int) : Int → Int := fun u => if u = s then 0 else farN
def Snd (L : List Lk) (s : Int) (d : Int → Int) : Prop := ∀ v, d v = farN ∨ (d v < farN ∧ Wk L s v (d v))
theorem snd_rlx1 {L : List Lk} {s u v c : Int} {d : Int → Int} (h : Snd L s d) (e : edg L u v c) : Snd L s (rlx1 d u v c) := by
 unfold rlx1
 by_cases hu : d u < farN
 ·rw [if_pos hu]
  intro x
  unfold updF
  by_cases hx : x = v
  ·subst hx
   rw [if_pos rfl]
   have hwu : Wk L s u (d u) := by
    rcases h u with h1 | h1
    ·omega
    ·exact h1.2
   have hst := hwu.step e
   rcases h x with h1 | h1
   ·rcases Int.lt_or_le (c + d u) farN with h2 | h2
    ·refine .inr ⟨by omega, ?_⟩
     rw [show min (d x) (c + d u) = d u + c by omega]
     exact hst
    ·exact .inl (by omega)
   ·refine .inr ⟨by omega, ?_⟩
    rcases Int.lt_or_le (c + d u) (d x) with h2 | h2
    ·rw [show min (d x) (c + d u) = d u + c by omega]
     exact hst
    ·rw [show min (d x) (c + d u) = d x by omega]
     exact h1.2
  ·rw [if_neg hx]
   exact h x
 ·rw [if_neg hu]
  exact h
theorem le_rlx1 (d : Int → Int) (u v c x : Int) : rlx1 d u v c x ≤ d x := by
 unfold rlx1
 by_cases hu : d u < farN
 ·rw [if_pos hu]
  unfold updF
  by_cases hx : x = v
  ·subst hx
   rw [if_pos rfl]
   omega
  ·rw [if_neg hx]
   omega
 ·rw [if_neg hu]
  omega
theorem le_rlx (d : Int → Int) (l : Lk) (x : Int) : rlx d l x ≤ d x := Int.le_trans (le_rlx1 _ _ _ _ _) (le_rlx1 _ _ _ _ _)
theorem snd_rlx {L : List Lk} {s : Int} {d : Int → Int} (h : Snd L s d) {l : Lk} (hl : l ∈ L) : Snd L s (rlx d l) :=
 snd_rlx1 (snd_rlx1 h ⟨l, hl, .inr ⟨rfl, rfl, rfl⟩⟩) ⟨l, hl, .inl ⟨rfl, rfl, rfl⟩⟩
theorem fold_rlx {L : List Lk} {s : Int} : ∀ (M : List Lk) (d : Int → Int), (∀ l ∈ M, l ∈ L) → Snd L s d → Snd L s (M.foldl rlx d) ∧ ∀ x, M.foldl rlx d x ≤ d x
 | [], d, _, h => ⟨h, fun _ => Int.le_refl _⟩
 | l :: t, d, hm, h => by
  obtain ⟨i1, i2⟩ := fold_rlx t (rlx d l) (fun m hm2 => hm m (by simp [hm2])) (snd_rlx h (hm l (by simp)))
  exact ⟨i1, fun x => Int.le_trans (i2 x) (le_rlx d l x)⟩
theorem snd_pass {L : List Lk} {s : Int} {d : Int → Int} (h : Snd L s d) : Snd L s (pass L d) ∧ ∀ x, pass L d x ≤ d x := fold_rlx L d (fun _ h => h) h
theorem snd_start (L : List Lk) (s : Int) : Snd L s (startF s) := by
 intro v
 unfold startF
 by_cases h : v = s
 ·subst h
  rw [if_pos rfl]
  exact .inr ⟨by decide, Wk.nil L v⟩
 ·rw [if_neg h]
  exact .inl rfl
theorem snd_passes (L : List Lk) (s : Int) : ∀ k, Snd L s (passes L k (startF s))
 | 0 => snd_start L s
 | k + 1 => (snd_pass (snd_passes L s k)).1
theorem Snd.low {L : List Lk} {s v e : Int} {d : Int → Int} (h : Snd L s d) (hD : IsD L s v e) (he : e < farN) : e ≤ d v := by
 rcases h v with h1 | h1
 ·omega
 ·exact hD.2 _ h1.2
theorem Snd.none {L : List Lk} {s v : Int} {d : Int → Int} (h : Snd L s d) (hn : ∀ n, ¬ Wk L s v n) : d v = farN := by
 rcases h v with h1 | h1
 ·exact h1
 ·exact absurd h1.2 (hn _)
open Classical in
noncomputable def rnk (L : List Lk) (s : Int) (V : List Int) (e : Int) : Nat := (V.filter (fun u => decide (∃ x, IsD L s u x ∧ x < e))).length
open Classical in
theorem rnk_lt {L : List Lk} {s : Int} {V : List Int} {u e d : Int} (hu : u ∈ V) (hD : IsD L s u e) (h : e < d) : rnk L s V e < rnk L s V d := by
 unfold rnk
 have hsub : ∀ (W : List Int), u ∈ W → (W.filter (fun u => decide (∃ x, IsD L s u x ∧ x < e))).length < (W.filter (fun u => decide (∃ x, IsD L s u x ∧ x < d))).length := by
  have hle : ∀ (W : List Int), (W.filter (fun u => decide (∃ x, IsD L s u x ∧ x < e))).length ≤ (W.filter (fun u => decide (∃ x, IsD L s u x ∧ x < d))).length := by
   intro W
   induction W with
   | nil => exact Nat.le_refl _
   | cons a t ih =>
    rw [List.filter_cons, List.filter_cons]
    by_cases h1 : ∃ x, IsD L s a x ∧ x < e
    ·obtain ⟨x, hx, hxe⟩ := h1
     rw [if_pos (decide_eq_true ⟨x, hx, hxe⟩), if_pos (decide_eq_true ⟨x, hx, by omega⟩), List.length_cons, List.length_cons]
     omega
    ·rw [if_neg (by simpa using h1)]
     by_cases h2 : ∃ x, IsD L s a x ∧ x < d
     ·rw [if_pos (decide_eq_true h2), List.length_cons]; omega
     ·rw [if_neg (by simpa using h2)]; exact ih
  intro W
  induction W with
  | nil => intro h; cases h
  | cons a t ih =>
   intro hm
   rw [List.filter_cons, List.filter_cons]
   by_cases ha : a = u
   ·subst ha
    have h1 : ¬ ∃ x, IsD L s a x ∧ x < e := fun ⟨x, hx, hxe⟩ => by have := hx.uniq hD; omega
    rw [if_neg (by simpa using h1), if_pos (decide_eq_true ⟨e, hD, h⟩), List.length_cons]
    have := hle t
    omega
   ·have hm2 : u ∈ t := by
     rcases List.mem_cons.1 hm with h1 | h1
     ·exact absurd h1.symm ha
     ·exact h1
    have i1 := ih hm2
    by_cases h1 : ∃ x, IsD L s a x ∧ x < e
    ·obtain ⟨x, hx, hxe⟩ := h1
     rw [if_pos (decide_eq_true ⟨x, hx, hxe⟩), if_pos (decide_eq_true ⟨x, hx, by omega⟩), List.length_cons, List.length_cons]
     omega
    ·rw [if_neg (by simpa using h1)]
     by_cases h2 : ∃ x, IsD L s a x ∧ x < d
     ·rw [if_pos (decide_eq_true h2), List.length_cons]; omega
     ·rw [if_neg (by simpa using h2)]; exact i1
 exact hsub V hu
def Ends (L : List Lk) (V : List Int) : Prop := ∀ l ∈ L, l.a ∈ V ∧ l.b ∈ V
theorem Ends.edg {L : List Lk} {V : List Int} (h : Ends L V) {u v c : Int} (e : edg L u v c) : u ∈ V ∧ v ∈ V := by
 obtain ⟨l, hl, ⟨rfl, rfl, -⟩ | ⟨rfl, rfl, -⟩⟩ := e
 ·exact h l hl
 ·exact ⟨(h l hl).2, (h l hl).1⟩
theorem D_le {L : List Lk} (hp : Pos L) {V : List Int} (hV : Ends L V) {C : Int} (hC : ∀ l ∈ L, l.ca ≤ C ∧ l.cb ≤ C) (h0 : 0 ≤ C) {s : Int} : ∀ (k : Nat) (v e : Int), IsD L s v e → rnk L s V e ≤ k → e ≤ C * k := by
 intro k
 induction k with
 | zero =>
  intro v e hD hr
  rcases hD.pred with ⟨-, rfl⟩ | ⟨u, x, c, hu, he, rfl⟩
  ·simp
  ·have := rnk_lt (hV.edg he).1 hu (show x < x + c by have := hp.edg he; omega)
   omega
 | succ k ih =>
  intro v e hD hr
  rcases hD.pred with ⟨-, rfl⟩ | ⟨u, x, c, hu, he, rfl⟩
  ·exact Int.mul_nonneg h0 (by omega)
  ·have h1 := rnk_lt (hV.edg he).1 hu (show x < x + c by have := hp.edg he; omega)
   have h2 := ih u x hu (by omega)
   have h3 : c ≤ C := by
    obtain ⟨l, hl, ⟨-, -, rfl⟩ | ⟨-, -, rfl⟩⟩ := he
    ·exact (hC l hl).1
    ·exact (hC l hl).2
   rw [show C * ((k + 1 : Nat) : Int) = C * (k : Int) + C by rw [Int.natCast_succ, Int.mul_add, Int.mul_one]]
   omega
end Go.Proofs.YtpogblengagpaaaGreatDoor

/- The program's way to the least costs: the nearest open router first. -/
namespace Go.Proofs.YtpogblengagpaaaGreatDoor
set_option maxRecDepth 100000
def nbD (L : List Lk) (r : Int) : List (Int × Int) := L.flatMap fun l => (if l.b = r then [(l.a, l.cb)] else []) ++ (if l.a = r then [(l.b, l.ca)] else [])
theorem nbD_mem {L : List Lk} {r v c : Int} : (v, c) ∈ nbD L r ↔ edg L r v c := by
 unfold nbD edg
 rw [List.mem_flatMap]
 constructor
 ·rintro ⟨l, hl, h⟩
  refine ⟨l, hl, ?_⟩
  rcases List.mem_append.1 h with h1 | h1
  ·by_cases e : l.b = r
   ·rw [if_pos e] at h1
    have := List.mem_singleton.1 h1
    injection this with e1 e2
    exact .inr ⟨e, e1.symm, e2.symm⟩
   ·rw [if_neg e] at h1; cases h1
  ·by_cases e : l.a = r
   ·rw [if_pos e] at h1
    have := List.mem_singleton.1 h1
    injection this with e1 e2
    exact .inl ⟨e, e1.symm, e2.symm⟩
   ·rw [if_neg e] at h1; cases h1
 ·rintro ⟨l, hl, ⟨e1, e2, e3⟩ | ⟨e1, e2, e3⟩⟩
  ·refine ⟨l, hl, List.mem_append.2 (.inr ?_)⟩
   rw [if_pos e1, e2, e3]
   exact List.mem_singleton.2 rfl
  ·refine ⟨l, hl, List.mem_append.2 (.inl ?_)⟩
   rw [if_pos e1, e2, e3]
   exact List.mem_singleton.2 rfl
end Go.Proofs.YtpogblengagpaaaGreatDoor

/- empty -/
namespace Go.Proofs.YtpogblengagpaaaGreatDoor
set_option maxRecDepth 100000
end Go.Proofs.YtpogblengagpaaaGreatDoor

/- empty -/
namespace Go.Proofs.YtpogblengagpaaaGreatDoor
set_option maxRecDepth 100000
end Go.Proofs.YtpogblengagpaaaGreatDoor

/- empty -/
namespace Go.Proofs.YtpogblengagpaaaGreatDoor
set_option maxRecDepth 100000
end Go.Proofs.YtpogblengagpaaaGreatDoor

/- empty -/
namespace Go.Proofs.YtpogblengagpaaaGreatDoor
set_option maxRecDepth 100000
end Go.Proofs.YtpogblengagpaaaGreatDoor

/- empty -/
namespace Go.Proofs.YtpogblengagpaaaGreatDoor
set_option maxRecDepth 100000
end Go.Proofs.YtpogblengagpaaaGreatDoor

/- empty -/
namespace Go.Proofs.YtpogblengagpaaaGreatDoor
set_option maxRecDepth 100000
end Go.Proofs.YtpogblengagpaaaGreatDoor

/- empty -/
namespace Go.Proofs.YtpogblengagpaaaGreatDoor
set_option maxRecDepth 100000
end Go.Proofs.YtpogblengagpaaaGreatDoor

/- The neighbours with which least walks go on; flipped links. -/
namespace Go.Proofs.YtpogblengagpaaaGreatDoor
set_option maxRecDepth 100000
def flipL (L : List Lk) : List Lk := L.map fun l => ⟨l.a, l.b, l.cb, l.ca, l.cp⟩
theorem edg_flip {L : List Lk} {u v c : Int} : edg (flipL L) u v c ↔ edg L v u c := by
 unfold edg flipL
 constructor
 ·rintro ⟨m, hm, h⟩
  obtain ⟨l, hl, rfl⟩ := List.mem_map.1 hm
  rcases h with ⟨e1, e2, e3⟩ | ⟨e1, e2, e3⟩
  ·exact ⟨l, hl, .inr ⟨e2, e1, e3⟩⟩
  ·exact ⟨l, hl, .inl ⟨e2, e1, e3⟩⟩
 ·rintro ⟨l, hl, h⟩
  refine ⟨_, List.mem_map.2 ⟨l, hl, rfl⟩, ?_⟩
  rcases h with ⟨e1, e2, e3⟩ | ⟨e1, e2, e3⟩
  ·exact .inr ⟨e2, e1, e3⟩
  ·exact .inl ⟨e2, e1, e3⟩
theorem Pos.flip {L : List Lk} (h : Pos L) : Pos (flipL L) := fun m hm => by
 obtain ⟨l, hl, rfl⟩ := List.mem_map.1 hm
 exact ⟨(h l hl).2, (h l hl).1⟩
theorem Ends.flip {L : List Lk} {V : List Int} (h : Ends L V) : Ends (flipL L) V := fun m hm => by
 obtain ⟨l, hl, rfl⟩ := List.mem_map.1 hm
 exact h l hl
def nextV (L : List Lk) (f : Int → Option Int) (r : Int) : List Int :=
 ((nbD L r).filter fun n => match f n.1 with
  | some x => decide (n.2 + x = (f r).getD 0)
  | none => false).map (·.1)
theorem nbD_fst (L : List Lk) (r : Int) : (nbD L r).map (·.1) = nbL L r := by
 unfold nbD nbL
 rw [List.map_flatMap]
 refine congrArg (fun g => List.flatMap g L) (funext fun l => ?_)
 unfold nb1
 rw [List.map_append]
 by_cases h1 : l.b = r <;> by_cases h2 : l.a = r <;> simp [h1, h2]
theorem next_lt {L : List Lk} (hp : Pos L) {f : Int → Option Int} {r d u : Int} (hr : f r = some d) (hu : u ∈ nextV L f r) : ∃ x c, f u = some x ∧ edg L r u c ∧ c + x = d ∧ x < d := by
 unfold nextV at hu
 obtain ⟨⟨v, c⟩, hm, rfl⟩ := List.mem_map.1 hu
 obtain ⟨h1, h2⟩ := List.mem_filter.1 hm
 simp only at h2 ⊢
 cases hv : f v with
 | none => rw [hv] at h2; cases h2
 | some x =>
  rw [hv, hr] at h2
  have h3 := of_decide_eq_true h2
  have he := nbD_mem.1 h1
  have hc := hp.edg he
  simp only [Option.getD_some] at h3
  exact ⟨x, c, rfl, he, h3, by omega⟩
theorem next_none {L : List Lk} (hp : Pos L) {f : Int → Option Int} (hf0 : ∀ v x, f v = some x → 0 ≤ x) {r : Int} (hr : f r = none) : nextV L f r = [] := by
 unfold nextV
 rw [List.filter_eq_nil_iff.2]
 ·rfl
 ·rintro ⟨v, c⟩ hm h
  simp only at h
  cases hv : f v with
  | none => rw [hv] at h; cases h
  | some x =>
   rw [hv, hr] at h
   have h3 := of_decide_eq_true h
   have hc := hp.edg (nbD_mem.1 hm)
   have := hf0 v x hv
   simp only [Option.getD_none] at h3
   omega
end Go.Proofs.YtpogblengagpaaaGreatDoor

/- empty -/
namespace Go.Proofs.YtpogblengagpaaaGreatDoor
set_option maxRecDepth 100000
end Go.Proofs.YtpogblengagpaaaGreatDoor

/- empty -/
namespace Go.Proofs.YtpogblengagpaaaGreatDoor
set_option maxRecDepth 100000
end Go.Proofs.YtpogblengagpaaaGreatDoor

/- empty -/
namespace Go.Proofs.YtpogblengagpaaaGreatDoor
set_option maxRecDepth 100000
end Go.Proofs.YtpogblengagpaaaGreatDoor

/- topology: Components: the mathematics; what memory holds while it runs. -/
namespace Go.Proofs.YtpogblengagpaaaGreatDoor
set_option maxRecDepth 100000
open Go.RowKit Bs
theorem Rd.lt {w : World} {q : Nat → Prop} {v : Value} {vs : List Value} (h : Rd w q v vs) : Rd w (fun b => q b ∧ b < w.heap.size) v vs := by
 obtain ⟨p, c, hv, hc⟩ := h
 refine ⟨p, c, hv, fun hne => ?_⟩
 obtain ⟨b, off, hp, hb, hx⟩ := hc hne
 refine ⟨b, off, hp, ⟨hb, ?_⟩, hx⟩
 cases vs with
 | nil => exact absurd rfl hne
 | cons x vs =>
  have hcell := hx 0 x rfl
  rcases Nat.lt_or_ge b w.heap.size with h1 | h1
  ·exact h1
  ·unfold World.cell? at hcell
   rw [Array.getElem?_eq_none h1] at hcell
   cases hcell
end Go.Proofs.YtpogblengagpaaaGreatDoor

/- topology: Components: a component is appended; the beginning; a valid topology. -/
namespace Go.Proofs.YtpogblengagpaaaGreatDoor
set_option maxRecDepth 100000
open Go.RowKit Bs
theorem unk_not {R : List Rt} {L : List Lk} (h : L.any (unk R) = false) : ∀ l ∈ L, hasR R l.a = true ∧ hasR R l.b = true := by
 intro l hl
 have := List.any_eq_false.1 h l hl
 unfold unk at this
 simpa using this
end Go.Proofs.YtpogblengagpaaaGreatDoor

/- shortest.costsFrom: what its loops keep. -/
namespace Go.Proofs.YtpogblengagpaaaGreatDoor
set_option maxRecDepth 100000
open Go.RowKit Go.Maps Bs
def ids (R : List Rt) : List Int := R.map (·.id)
theorem ids_has {R : List Rt} {x : Int} : x ∈ ids R ↔ hasR R x = true := by
 unfold ids hasR
 rw [List.any_eq_true, List.mem_map]
 constructor
 ·rintro ⟨r, hr, e⟩; exact ⟨r, hr, decide_eq_true e⟩
 ·rintro ⟨r, hr, e⟩; exact ⟨r, hr, of_decide_eq_true e⟩
structure GOk (R : List Rt) (L : List Lk) : Prop where
 pos : Pos L
 ends : Ends L (ids R)
 le : ∀ l ∈ L, l.ca ≤ 1000 ∧ l.cb ≤ 1000
 len : (ids R).length ≤ 24 ∧ L.length ≤ 60
 rng : ∀ x ∈ ids R, 1 ≤ x ∧ x ≤ 99
theorem okT_g {R : List Rt} {L : List Lk} (h : okT R L = true) : GOk R L := by
 have ho := okT_all h
 have hn : ∀ l ∈ L, (1 ≤ l.ca ∧ l.ca ≤ 1000) ∧ (1 ≤ l.cb ∧ l.cb ≤ 1000) := fun l hl => by
  have := List.any_eq_false.1 ho.nm l hl
  unfold wrNum at this
  simp only [Bool.not_eq_true, Bool.not_eq_false', decide_eq_true_eq] at this
  exact ⟨this.1, this.2.1⟩
 have hu := unk_not ho.un
 refine ⟨fun l hl => ⟨(hn l hl).1.1, (hn l hl).2.1⟩, fun l hl => ⟨ids_has.2 (hu l hl).1, ids_has.2 (hu l hl).2⟩, fun l hl => ⟨(hn l hl).1.2, (hn l hl).2.2⟩, ⟨by unfold ids; rw [List.length_map]; exact ho.l1, ho.l2⟩, fun x hx => hasR_range ho.id (ids_has.1 hx)⟩
theorem GOk.edg {R : List Rt} {L : List Lk} (h : GOk R L) {u v c : Int} (e : edg L u v c) : (1 ≤ c ∧ c ≤ 1000) ∧ (1 ≤ u ∧ u ≤ 99) ∧ 1 ≤ v ∧ v ≤ 99 := by
 refine ⟨⟨h.pos.edg e, ?_⟩, h.rng u (h.ends.edg e).1, h.rng v (h.ends.edg e).2⟩
 obtain ⟨l, hl, ⟨-, -, rfl⟩ | ⟨-, -, rfl⟩⟩ := e
 ·exact (h.le l hl).1
 ·exact (h.le l hl).2
end Go.Proofs.YtpogblengagpaaaGreatDoor

/- empty -/
namespace Go.Proofs.YtpogblengagpaaaGreatDoor
set_option maxRecDepth 100000
end Go.Proofs.YtpogblengagpaaaGreatDoor

/- The least costs as a function; both directions. -/
namespace Go.Proofs.YtpogblengagpaaaGreatDoor
set_option maxRecDepth 100000
open Go.RowKit Go.Maps Bs
theorem Wk.front {L : List Lk} {v u s c m : Int} (e : edg L v u c) (h : Wk L u s m) : Wk L v s (c + m) :=
 Wk.ind (Q := fun x n => Wk L v x (c + n)) (by have := (Wk.nil L v).step e; rw [Int.zero_add] at this; rw [Int.add_zero]; exact this) (fun a n b d _ hq he => by rw [← Int.add_assoc]; exact hq.step he) h
theorem Wk.flip {L : List Lk} {s v n : Int} (h : Wk L s v n) : Wk (flipL L) v s n :=
 Wk.ind (Q := fun x n => Wk (flipL L) x s n) (Wk.nil _ _) (fun a n b d _ hq he => by rw [Int.add_comm]; exact Wk.front (edg_flip.2 he) hq) h
theorem flipL_flipL (L : List Lk) : flipL (flipL L) = L := by
 unfold flipL
 rw [List.map_map]
 conv => rhs; rw [← List.map_id L]
 rfl
theorem IsD.flip {L : List Lk} {s v d : Int} : IsD (flipL L) s v d ↔ IsD L v s d := by
 constructor
 ·rintro ⟨h1, h2⟩
  have h3 := h1.flip
  rw [flipL_flipL] at h3
  exact ⟨h3, fun n hn => h2 n hn.flip⟩
 ·rintro ⟨h1, h2⟩
  refine ⟨h1.flip, fun n hn => h2 n ?_⟩
  have h3 := hn.flip
  rwa [flipL_flipL] at h3
theorem Wk.ids {L : List Lk} {V : List Int} (hV : Ends L V) {s v n : Int} (h : Wk L s v n) : v = s ∨ (s ∈ V ∧ v ∈ V) := by
 rcases h.last with ⟨e, -⟩ | ⟨u, m, c, hu, e, -⟩
 ·exact .inl e
 ·refine .inr ⟨?_, (hV.edg e).2⟩
  have key : u = s ∨ s ∈ V := Wk.ind (Q := fun x _ => x = s ∨ s ∈ V) (.inl rfl) (fun a n b d _ hq he => by
   rcases hq with rfl | hq
   ·exact .inr (hV.edg he).1
   ·exact .inr hq) hu
  rcases key with rfl | h1
  ·exact (hV.edg e).1
  ·exact h1
theorem hasV_iff {R : List Rt} {L : List Lk} {x : Int} : hasV R L x = true ↔ okT R L = true ∧ x ∈ ids R := by
 unfold hasV
 rw [Bool.and_eq_true, ids_has]
open Classical in
noncomputable def dst (R : List Rt) (L : List Lk) (a b : Int) : Option Int := if h : hasV R L a = true ∧ ∃ d, IsD L a b d then some h.2.choose else none
theorem dst_some {R : List Rt} {L : List Lk} {a b d : Int} : dst R L a b = some d ↔ hasV R L a = true ∧ IsD L a b d := by
 unfold dst
 constructor
 ·intro h
  split at h
  ·rename_i hc
   rw [← Option.some.inj h]
   exact ⟨hc.1, hc.2.choose_spec⟩
  ·cases h
 ·rintro ⟨h1, h2⟩
  rw [dif_pos ⟨h1, d, h2⟩]
  have := (⟨h1, d, h2⟩ : hasV R L a = true ∧ ∃ d, IsD L a b d)
  exact congrArg some (this.2.choose_spec.uniq h2)
theorem dst_both {R : List Rt} {L : List Lk} {a b d : Int} (h : dst R L a b = some d) : okT R L = true ∧ a ∈ ids R ∧ b ∈ ids R := by
 obtain ⟨h1, h2⟩ := dst_some.1 h
 obtain ⟨ho, ha⟩ := hasV_iff.1 h1
 refine ⟨ho, ha, ?_⟩
 rcases h2.1.ids (okT_g ho).ends with rfl | h3
 ·exact ha
 ·exact h3.2
theorem dst_bd {R : List Rt} {L : List Lk} {a b d : Int} (h : dst R L a b = some d) : (0 ≤ d ∧ d ≤ 24000) ∧ (1 ≤ a ∧ a ≤ 99) ∧ (1 ≤ b ∧ b ≤ 99) := by
 obtain ⟨h1, h2⟩ := dst_some.1 h
 obtain ⟨h3, h4, h5⟩ := dst_both h
 have hg := okT_g h3
 refine ⟨⟨h2.1.ge hg.pos, ?_⟩, hg.rng a h4, hg.rng b h5⟩
 have h6 := D_le hg.pos hg.ends hg.le (by decide) (ids R).length b d h2 (by unfold rnk; exact List.length_filter_le _ _)
 have := hg.len.1
 omega
end Go.Proofs.YtpogblengagpaaaGreatDoor

/- empty -/
namespace Go.Proofs.YtpogblengagpaaaGreatDoor
set_option maxRecDepth 100000
end Go.Proofs.YtpogblengagpaaaGreatDoor

/- shortest.nextTo. -/
namespace Go.Proofs.YtpogblengagpaaaGreatDoor
set_option maxRecDepth 100000
open Go.RowKit Go.Maps Bs
def nxP (f : Int → Option Int) (r : Int) (n : Int × Int) : Bool := match f n.1 with
  | some x => decide (n.2 + x = (f r).getD 0)
  | none => false
def nxM (f : Int → Option Int) (r : Int) (M : List (Int × Int)) : List Int := (M.filter (nxP f r)).map (·.1)
theorem nxM_next (L : List Lk) (f : Int → Option Int) (r : Int) : nextV L f r = nxM f r (nbD L r) := rfl
theorem NK.base {w w1 wr : World} {v : Value} {l : List Int} (h : NK w1 v l wr) (g : w.grownBy w1 none) : NK w v l wr := ⟨h.own.mono g.size, grown_trans g h.gr⟩
end Go.Proofs.YtpogblengagpaaaGreatDoor

/- empty -/
namespace Go.Proofs.YtpogblengagpaaaGreatDoor
set_option maxRecDepth 100000
end Go.Proofs.YtpogblengagpaaaGreatDoor

/- empty -/
namespace Go.Proofs.YtpogblengagpaaaGreatDoor
set_option maxRecDepth 100000
end Go.Proofs.YtpogblengagpaaaGreatDoor

/- shortest.passes and Avoids. -/
namespace Go.Proofs.YtpogblengagpaaaGreatDoor
set_option maxRecDepth 100000
open Go.RowKit Go.Maps Bs
theorem getD_bd {R : List Rt} {L : List Lk} {a b : Int} : 0 ≤ (dst R L a b).getD 0 ∧ (dst R L a b).getD 0 ≤ 24000 := by
 cases h : dst R L a b with
 | none => exact ⟨Int.le_refl _, by decide⟩
 | some d => exact (dst_bd h).1
end Go.Proofs.YtpogblengagpaaaGreatDoor

/- shortest.Next and Uses. -/
namespace Go.Proofs.YtpogblengagpaaaGreatDoor
set_option maxRecDepth 100000
open Go.RowKit Go.Maps Bs
noncomputable def nxt (R : List Rt) (L : List Lk) (r z : Int) : List Int := nextV L (fun x => dst R L x z) r
end Go.Proofs.YtpogblengagpaaaGreatDoor

/- shortest.Route. -/
namespace Go.Proofs.YtpogblengagpaaaGreatDoor
set_option maxRecDepth 100000
open Go.RowKit Go.Maps Bs
theorem hasV_end {R : List Rt} {L : List Lk} {r z d : Int} (h : dst R L r z = some d) : hasV R L z = true := by
 obtain ⟨h1, -, h3⟩ := dst_both h
 exact hasV_iff.2 ⟨h1, h3⟩
theorem nxt_step {R : List Rt} {L : List Lk} {r z u : Int} (h : u ∈ nxt R L r z) : ∃ d x c, dst R L r z = some d ∧ dst R L u z = some x ∧ c + x = d ∧ 1 ≤ c ∧ edg L r u c := by
 have h0 := h
 unfold nxt at h
 have hz : hasV R L z = true := by
  unfold nextV at h
  obtain ⟨⟨v, c⟩, hm, rfl⟩ := List.mem_map.1 h
  obtain ⟨-, h2⟩ := List.mem_filter.1 hm
  simp only at h2
  cases hv : dst R L v z with
  | none => rw [hv] at h2; cases h2
  | some x => exact hasV_end hv
 have hp := (okT_g (hasV_iff.1 hz).1).pos
 cases hr : dst R L r z with
 | none =>
  have := next_none (f := fun x => dst R L x z) hp (fun v x hx => (dst_bd hx).1.1) hr
  rw [this] at h
  cases h
 | some d =>
  obtain ⟨x, c, h1, h2, h3, -⟩ := next_lt (f := fun x => dst R L x z) hp hr h
  exact ⟨d, x, c, rfl, h1, h3, hp.edg h2, h2⟩
noncomputable def far (R : List Rt) (L : List Lk) (z r : Int) : Nat := ((dst R L r z).getD 0).toNat
theorem far_step {R : List Rt} {L : List Lk} {r z u : Int} (h : u ∈ nxt R L r z) : far R L z u < far R L z r := by
 obtain ⟨d, x, c, h1, h2, h3, h4, -⟩ := nxt_step h
 unfold far
 rw [h1, h2]
 simp only [Option.getD_some]
 have := (dst_bd h2).1
 omega
theorem far_le (R : List Rt) (L : List Lk) (z r : Int) : far R L z r ≤ 24000 := by
 unfold far
 have := getD_bd (R := R) (L := L) (a := r) (b := z)
 omega
end Go.Proofs.YtpogblengagpaaaGreatDoor

/- empty -/
namespace Go.Proofs.YtpogblengagpaaaGreatDoor
set_option maxRecDepth 100000
end Go.Proofs.YtpogblengagpaaaGreatDoor

/- empty -/
namespace Go.Proofs.YtpogblengagpaaaGreatDoor
set_option maxRecDepth 100000
end Go.Proofs.YtpogblengagpaaaGreatDoor

/- Counting least walks: one table for both sides. -/
namespace Go.Proofs.YtpogblengagpaaaGreatDoor
set_option maxRecDepth 100000
def cntS (next : Int → List Int) (z : Int) (g : Int → Int) (r : Int) : Int := if r = z then 1 else (next r).foldl (fun a u => min (a + g u) 1000000) 0
theorem cntS_congr {next : Int → List Int} {z : Int} {g h : Int → Int} {r : Int} (e : ∀ u ∈ next r, g u = h u) : cntS next z g r = cntS next z h r := by
 unfold cntS
 by_cases hr : r = z
 ·rw [if_pos hr, if_pos hr]
 ·rw [if_neg hr, if_neg hr]
  have key : ∀ (l : List Int) (a : Int), (∀ u ∈ l, g u = h u) → l.foldl (fun a u => min (a + g u) 1000000) a = l.foldl (fun a u => min (a + h u) 1000000) a := by
   intro l
   induction l with
   | nil => intro a _; rfl
   | cons u t ih =>
    intro a hl
    rw [List.foldl_cons, List.foldl_cons, hl u (by simp)]
    exact ih _ (fun v hv => hl v (by simp [hv]))
  exact key _ 0 e
def itC (next : Int → List Int) (z : Int) : Nat → Int → Int
 | 0 => fun _ => 0
 | k + 1 => cntS next z (itC next z k)
theorem itC_stable {next : Int → List Int} {z : Int} {m : Int → Nat} (hm : ∀ r, ∀ u ∈ next r, m u < m r) : ∀ (k : Nat) (r : Int), m r ≤ k → itC next z (k + 1) r = itC next z (k + 2) r := by
 intro k
 induction k with
 | zero =>
  intro r hr
  exact cntS_congr (fun u hu => by have := hm r u hu; omega)
 | succ k ih =>
  intro r hr
  exact cntS_congr (fun u hu => ih u (by have := hm r u hu; omega))
theorem itC_fix {next : Int → List Int} {z : Int} {m : Int → Nat} (hm : ∀ r, ∀ u ∈ next r, m u < m r) {N : Nat} (hN : ∀ r, m r < N) (r : Int) : itC next z N r = cntS next z (itC next z N) r := by
 obtain ⟨k, rfl⟩ : ∃ k, N = k + 1 := ⟨N - 1, by have := hN r; omega⟩
 exact itC_stable hm k r (by have := hN r; omega)
end Go.Proofs.YtpogblengagpaaaGreatDoor

/- shortest.pathsTo and Paths. -/
namespace Go.Proofs.YtpogblengagpaaaGreatDoor
set_option maxRecDepth 100000
open Go.RowKit Go.Maps Bs
noncomputable def cnt (R : List Rt) (L : List Lk) (z r : Int) : Int := itC (fun r => nxt R L r z) z 24001 r
theorem cnt_rule (R : List Rt) (L : List Lk) (z r : Int) : cnt R L z r = cntS (fun r => nxt R L r z) z (cnt R L z) r :=
 itC_fix (m := far R L z) (fun r u hu => far_step hu) (fun r => by have := far_le R L z r; omega) r
theorem fold_bd {c : Int → Int} (hc : ∀ u, 0 ≤ c u ∧ c u ≤ 1000000) : ∀ (l : List Int) (a : Int), 0 ≤ a ∧ a ≤ 1000000 → 0 ≤ l.foldl (fun a u => min (a + c u) 1000000) a ∧ l.foldl (fun a u => min (a + c u) 1000000) a ≤ 1000000
 | [], a, h => h
 | u :: t, a, h => fold_bd hc t _ (by have := hc u; show 0 ≤ min (a + c u) 1000000 ∧ min (a + c u) 1000000 ≤ 1000000; omega)
theorem cntS_bd {next : Int → List Int} {z : Int} {c : Int → Int} (hc : ∀ u, 0 ≤ c u ∧ c u ≤ 1000000) (r : Int) : 0 ≤ cntS next z c r ∧ cntS next z c r ≤ 1000000 := by
 unfold cntS
 by_cases h : r = z
 ·rw [if_pos h]; omega
 ·rw [if_neg h]; exact fold_bd hc _ 0 (by omega)
theorem itC_bd (next : Int → List Int) (z : Int) : ∀ (k : Nat) (r : Int), 0 ≤ itC next z k r ∧ itC next z k r ≤ 1000000
 | 0, r => ⟨Int.le_refl _, by show (0 : Int) ≤ 1000000; omega⟩
 | k + 1, r => cntS_bd (itC_bd next z k) r
theorem cnt_bd (R : List Rt) (L : List Lk) (z r : Int) : 0 ≤ cnt R L z r ∧ cnt R L z r ≤ 1000000 := itC_bd _ _ _ _
end Go.Proofs.YtpogblengagpaaaGreatDoor

/- empty -/
namespace Go.Proofs.YtpogblengagpaaaGreatDoor
set_option maxRecDepth 100000
end Go.Proofs.YtpogblengagpaaaGreatDoor

/- shortest.pathsTo and Paths: the walks. -/
namespace Go.Proofs.YtpogblengagpaaaGreatDoor
set_option maxRecDepth 100000
open Go.RowKit Go.Maps Bs
theorem nodup_le : ∀ (l V : List Int), l.Nodup → (∀ x ∈ l, x ∈ V) → l.length ≤ V.length
 | [], _, _, _ => Nat.zero_le _
 | a :: t, V, hn, hs => by
  have h1 := List.nodup_cons.1 hn
  have ha := hs a (by simp)
  have h2 := nodup_le t (V.erase a) h1.2 (fun x hx => (List.mem_erase_of_ne (fun e => h1.1 (by rw [← e]; exact hx))).2 (hs x (by simp [hx])))
  rw [List.length_erase_of_mem ha] at h2
  have := List.length_pos_of_mem ha
  rw [List.length_cons]
  omega
end Go.Proofs.YtpogblengagpaaaGreatDoor

/- empty -/
namespace Go.Proofs.YtpogblengagpaaaGreatDoor
set_option maxRecDepth 100000
end Go.Proofs.YtpogblengagpaaaGreatDoor

/- empty -/
namespace Go.Proofs.YtpogblengagpaaaGreatDoor
set_option maxRecDepth 100000
end Go.Proofs.YtpogblengagpaaaGreatDoor

/- topology: Connected. -/
namespace Go.Proofs.YtpogblengagpaaaGreatDoor
set_option maxRecDepth 100000
open Go.RowKit Bs
def both (a b : Int) (C : List Int) : Bool := hasI C a && hasI C b
end Go.Proofs.YtpogblengagpaaaGreatDoor

/- empty -/
namespace Go.Proofs.YtpogblengagpaaaGreatDoor
set_option maxRecDepth 100000
end Go.Proofs.YtpogblengagpaaaGreatDoor

/- empty -/
namespace Go.Proofs.YtpogblengagpaaaGreatDoor
set_option maxRecDepth 100000
end Go.Proofs.YtpogblengagpaaaGreatDoor

/- empty -/
namespace Go.Proofs.YtpogblengagpaaaGreatDoor
set_option maxRecDepth 100000
end Go.Proofs.YtpogblengagpaaaGreatDoor

/- empty -/
namespace Go.Proofs.YtpogblengagpaaaGreatDoor
set_option maxRecDepth 100000
end Go.Proofs.YtpogblengagpaaaGreatDoor

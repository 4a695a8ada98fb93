/- Parts of the proof, packed: ToWoM, ToLkM, ToLook, ToCln, MaNxt, MaOpn, FwM, FwD, FwB, FwC, PkFields, Funs, PkHead, PkValid. -/
import Derived.Test.YtpogblengagpaaaGreatDoorPa6
import Derived.Test.YtpogblengagpaaaGreatDoorPa3
import Derived.Lib.SliceRun
import Derived.Test.YtpogblengagpaaaGreatDoorPa5
import Derived.Test.YtpogblengagpaaaGreatDoorPa1
import Derived.Lib.TrailingZeros
import Derived.Test.YtpogblengagpaaaGreatDoorPa2
import Derived.OwnWalk
/- What is left of a valid topology is valid. -/
namespace Go.Proofs.YtpogblengagpaaaGreatDoor
set_option maxRecDepth 100000
open Go.RowKit Bs
theorem pair_of_asc {α : Type} (f : α → α → Bool) (ht : ∀ x y z, f x y = true → f y z = true → f x z = true) : ∀ l : List α, ascB f l = true → l.Pairwise (fun x z => f x z = true)
 | [], _ => List.Pairwise.nil
 | [a], _ => by simp
 | a :: b :: t, h => by
  rw [ascB, Bool.and_eq_true] at h
  have hp := pair_of_asc f ht (b :: t) h.2
  refine List.pairwise_cons.2 ⟨fun z hz => ?_, hp⟩
  rcases List.mem_cons.1 hz with rfl | hz
  ·exact h.1
  ·exact ht a b z h.1 ((List.pairwise_cons.1 hp).1 z hz)
structure OkAll (R : List Rt) (L : List Lk) : Prop where
 l1 : R.length ≤ 24
 l2 : L.length ≤ 60
 id : R.any wrId = false
 rs : ascB ltR R = true
 nm : L.any wrNum = false
 un : L.any (unk R) = false
 en : L.any wrEnd = false
 ls : ascB ltL L = true
theorem chk_okAll {R : List Rt} {L : List Lk} (h : chk R L = 0) : OkAll R L := by
 unfold chk at h
 by_cases h1 : 24 < R.length ∨ 60 < L.length
 ·rw [if_pos h1] at h; cases h
 rw [if_neg h1] at h
 cases h2 : R.any wrId
 case true => rw [h2] at h; cases h
 cases h3 : ascB ltR R
 case false => rw [h2, h3] at h; cases h
 cases h4 : L.any wrNum
 case true => rw [h2, h3, h4] at h; cases h
 cases h5 : L.any (unk R)
 case true => rw [h2, h3, h4, h5] at h; cases h
 cases h6 : L.any wrEnd
 case true => rw [h2, h3, h4, h5, h6] at h; cases h
 cases h7 : ascB ltL L
 case false => rw [h2, h3, h4, h5, h6, h7] at h; cases h
 exact ⟨by omega, by omega, h2, h3, h4, h5, h6, h7⟩
theorem ltR_trans (x y z : Rt) (h1 : ltR x y = true) (h2 : ltR y z = true) : ltR x z = true := by
 unfold ltR at *
 have h1 := of_decide_eq_true h1
 have h2 := of_decide_eq_true h2
 exact decide_eq_true (by omega)
end Go.Proofs.YtpogblengagpaaaGreatDoor

/- What is looked up in a valid topology: the mathematics. -/
namespace Go.Proofs.YtpogblengagpaaaGreatDoor
set_option maxRecDepth 100000
open Go.RowKit Bs
def capR (R : List Rt) (x : Int) : Bool := match R.find? (fun r => decide (r.id = x)) with
 | some r => r.cap
 | none => false
def priceB (a b : Int) (l : Lk) : Option Int := if l.a = a ∧ l.b = b then some l.ca else if l.b = a ∧ l.a = b then some l.cb else none
def priceV (L : List Lk) (a b : Int) : Int × Bool := match L.findSome? (priceB a b) with
 | some c => (c, true)
 | none => (0, false)
theorem ends_lt {R : List Rt} {L : List Lk} (ho : OkAll R L) : ∀ l ∈ L, l.a < l.b := by
 intro l hl
 have h := List.any_eq_false.1 ho.en l hl
 unfold wrEnd at h
 have h2 : ¬ l.b ≤ l.a := fun hc => h (decide_eq_true hc)
 omega
def nearR (R : List Rt) (L : List Lk) (x : Int) : List Int := (R.filter fun r => (priceV L x r.id).2).map (·.id)
theorem eq_of_asc : ∀ {l m : List Int}, l.Pairwise (· < ·) → m.Pairwise (· < ·) → (∀ x, x ∈ l ↔ x ∈ m) → l = m
 | [], [], _, _, _ => rfl
 | [], b :: m, _, _, h => by have := (h b).2 (by simp); cases this
 | a :: l, [], _, _, h => by have := (h a).1 (by simp); cases this
 | a :: l, b :: m, hl, hm, h => by
  obtain ⟨h1, h2⟩ := List.pairwise_cons.1 hl
  obtain ⟨h3, h4⟩ := List.pairwise_cons.1 hm
  have e : a = b := by
   have ha := (h a).1 (by simp)
   have hb := (h b).2 (by simp)
   rcases List.mem_cons.1 ha with ha | ha
   ·exact ha
   rcases List.mem_cons.1 hb with hb | hb
   ·exact hb.symm
   have := h1 b hb
   have := h3 a ha
   omega
  subst e
  congr 1
  refine eq_of_asc h2 h4 fun x => ?_
  constructor
  ·intro hx
   rcases List.mem_cons.1 ((h x).1 (List.mem_cons_of_mem _ hx)) with rfl | hx2
   ·have := h1 x hx; omega
   ·exact hx2
  ·intro hx
   rcases List.mem_cons.1 ((h x).2 (List.mem_cons_of_mem _ hx)) with rfl | hx2
   ·have := h3 x hx; omega
   ·exact hx2
theorem nb1_mem (x y : Int) (l : Lk) : y ∈ nb1 x l ↔ (l.b = x ∧ y = l.a) ∨ (l.a = x ∧ y = l.b) := by
 unfold nb1
 rw [List.mem_append]
 by_cases h1 : l.b = x <;> by_cases h2 : l.a = x <;> simp [h1, h2]
theorem price_ok (L : List Lk) (x y : Int) : (priceV L x y).2 = true ↔ ∃ l ∈ L, (l.b = x ∧ y = l.a) ∨ (l.a = x ∧ y = l.b) := by
 unfold priceV
 cases hf : L.findSome? (priceB x y) with
 | none =>
  simp only
  constructor
  ·intro h; cases h
  ·rintro ⟨l, hl, h⟩
   have := List.findSome?_eq_none_iff.1 hf l hl
   unfold priceB at this
   by_cases k1 : l.a = x ∧ l.b = y
   ·rw [if_pos k1] at this; cases this
   ·rw [if_neg k1] at this
    by_cases k2 : l.b = x ∧ l.a = y
    ·rw [if_pos k2] at this; cases this
    ·omega
 | some c =>
  simp only
  refine ⟨fun _ => ?_, fun _ => by trivial⟩
  obtain ⟨m, hm, hmc⟩ := List.exists_of_findSome?_eq_some hf
  refine ⟨m, hm, ?_⟩
  unfold priceB at hmc
  by_cases k1 : m.a = x ∧ m.b = y
  ·exact .inr ⟨k1.1, k1.2.symm⟩
  ·rw [if_neg k1] at hmc
   by_cases k2 : m.b = x ∧ m.a = y
   ·exact .inl ⟨k2.1, k2.2.symm⟩
   ·rw [if_neg k2] at hmc; cases hmc
theorem near_eq {R : List Rt} {L : List Lk} (ho : OkAll R L) (x : Int) : nbL L x = nearR R L x := by
 have he := ends_lt ho
 have hp := pair_of_asc ltL (fun _ _ _ => ltL_trans) L ho.ls
 have hr := pair_of_asc ltR ltR_trans R ho.rs
 refine eq_of_asc ?_ ?_ fun y => ?_
 ·unfold nbL
  rw [List.pairwise_flatMap]
  refine ⟨fun l hl => ?_, ?_⟩
  ·have := he l hl
   unfold nb1
   by_cases h1 : l.b = x <;> by_cases h2 : l.a = x <;> simp [h1, h2]
   omega
  ·refine List.Pairwise.imp_of_mem ?_ hp
   intro l m hl hm hlm u hu v hv
   have h1 := he l hl
   have h2 := he m hm
   unfold ltL at hlm
   have h3 := of_decide_eq_true hlm
   rcases (nb1_mem x u l).1 hu with hu | hu <;> rcases (nb1_mem x v m).1 hv with hv | hv <;> omega
 ·unfold nearR
  rw [List.pairwise_map]
  exact (hr.sublist List.filter_sublist).imp (fun h => of_decide_eq_true h)
 ·unfold nbL nearR
  rw [List.mem_flatMap, List.mem_map]
  constructor
  ·rintro ⟨l, hl, hy⟩
   have hy := (nb1_mem x y l).1 hy
   have hk := List.any_eq_false.1 ho.un l hl
   unfold unk at hk
   have hak : hasR R l.a = true ∧ hasR R l.b = true := by
    cases e1 : hasR R l.a <;> cases e2 : hasR R l.b <;> rw [e1, e2] at hk <;> simp at hk ⊢
   have hyr : hasR R y = true := by
    rcases hy with hy | hy
    ·rw [hy.2]; exact hak.1
    ·rw [hy.2]; exact hak.2
   obtain ⟨r, hr2, hid⟩ := List.any_eq_true.1 hyr
   have hid := of_decide_eq_true hid
   refine ⟨r, List.mem_filter.2 ⟨hr2, ?_⟩, hid⟩
   rw [hid]
   exact (price_ok L x y).2 ⟨l, hl, hy⟩
  ·rintro ⟨r, hr2, rfl⟩
   obtain ⟨l, hl, h⟩ := (price_ok L x r.id).1 (List.mem_filter.1 hr2).2
   exact ⟨l, hl, (nb1_mem x r.id l).2 h⟩
end Go.Proofs.YtpogblengagpaaaGreatDoor

/- topology: routerAt, linkAt, Has, Capable, Cost, Neighbours. -/
namespace Go.Proofs.YtpogblengagpaaaGreatDoor
set_option maxRecDepth 100000
open Go.RowKit Bs
def hasV (R : List Rt) (L : List Lk) (x : Int) : Bool := okT R L && hasR R x
def capV (R : List Rt) (L : List Lk) (x : Int) : Bool := okT R L && capR R x
theorem capR_has {R : List Rt} {x : Int} (h : hasR R x = false) : capR R x = false := by
 unfold capR
 cases hf : R.find? (fun r => decide (r.id = x)) with
 | none => rfl
 | some r =>
  have h2 := List.find?_some hf
  have : hasR R x = true := List.any_eq_true.2 ⟨r, List.mem_of_find?_eq_some hf, h2⟩
  rw [h] at this; cases this
theorem okT_all {R : List Rt} {L : List Lk} (h : okT R L = true) : OkAll R L := chk_okAll (by unfold okT at h; simpa using h)
end Go.Proofs.YtpogblengagpaaaGreatDoor

/- empty -/
namespace Go.Proofs.YtpogblengagpaaaGreatDoor
set_option maxRecDepth 100000
end Go.Proofs.YtpogblengagpaaaGreatDoor

/- tables: Row; masks: Next. -/
namespace Go.Proofs.YtpogblengagpaaaGreatDoor
set_option maxRecDepth 100000
open Go.RowKit Go.Maps Bs
def ivF (x : Int) : List Value := [tv x]
theorem ivF_one (x : Int) : ∀ u ∈ ivF x, u.oneCell' = true := by
 intro u hu
 simp [ivF, tv] at hu
 subst hu; rfl
theorem flat_ivF : ∀ X : List Int, X.flatMap ivF = X.map tv
 | [] => rfl
 | a :: t => by rw [List.flatMap_cons, flat_ivF t]; rfl
theorem rdf_ints {w : World} {q : Nat → Prop} {v : Value} {X : List Int} (h : Rd w q v (X.map tv)) : RdF w q v X.length (X.flatMap ivF) := by
 obtain ⟨p, c, h1, h2⟩ := h
 rw [List.length_map] at h1
 exact ⟨p, c, h1, fun hne => by
  rw [flat_ivF] at hne ⊢
  exact h2 hne⟩
end Go.Proofs.YtpogblengagpaaaGreatDoor

/- A table that comes in as an argument. -/
namespace Go.Proofs.YtpogblengagpaaaGreatDoor
set_option maxRecDepth 100000
open Go.ChangeShapes Go.WideShapes Go.ChangeAt Go.RowKit Go.Joins Bs
theorem kit_cellsrwT : Tryz.prog.cellsOf 80 = 2 := by kernel_rfl
theorem kit_cellsrwsT : Tryz.prog.cellsOf 23 = 1 := by kernel_rfl
theorem kit_cellsisT : Tryz.prog.cellsOf 22 = 1 := by kernel_rfl
theorem kit_cellstbT : Tryz.prog.cellsOf 25 = 4 := by kernel_rfl
theorem tlistT2 {A : Type} {xs : List A} (h : xs.length = 2) : ∃ x0 x1, xs = [x0, x1] := by
 match xs, h with
 | [x0, x1], _ => exact ⟨x0, x1, rfl⟩
theorem tlistT4 {A : Type} {xs : List A} (h : xs.length = 4) : ∃ x0 x1 x2 x3, xs = [x0, x1, x2, x3] := by
 match xs, h with
 | [x0, x1, x2, x3], _ => exact ⟨x0, x1, x2, x3, rfl⟩
section
variable {H : Type} {enc : TypeId × Value → H} {W : World} {base : Nat} {v : Value} {d : DataW H} {ps : List MemPlace}
theorem rowsT_trod {α : Type} (f : α → List Value) (P : α → Prop) (k : Nat) (hk : 0 < k) (hf : ∀ x, (f x).length = k) (x0 : α) {E T : TypeId} (hT : Tryz.prog.underlying T = some (.slice E)) (hc : Tryz.prog.cellsOf E = k)
  (hE : ∀ {fuel : Nat} {cs : List Value} {y : DataW H × List MemPlace}, DataW.trod enc Tryz.prog W 0 (fun _ => true) true fuel E cs = some y → ∃ r : α, cs = f r ∧ P r)
  {fuel : Nat} {c0 : Value} {y : DataW H × List MemPlace} (h : DataW.trod enc Tryz.prog W 0 (fun _ => true) true fuel T [c0] = some y) :
  ∃ (l : List α) (p : Option Addr) (c : Nat), c0 = .slice p l.length c ∧ RdF W (· < W.heap.size) (.slice p l.length c) l.length (l.flatMap f) ∧ l.length ≤ c ∧ c ≤ 9223372036854775807 ∧ (p = none → c = 0) ∧ ∀ x ∈ l, P x := by
 rcases DataW.trod_slice hT h with ⟨hcs, _⟩ | ⟨a, len, cap, elems, rest, n, _, hcs, _, _, hl, hm, hlen, hel, _, _⟩
 ·obtain rfl : c0 = .slice none 0 0 := by simpa using hcs
  exact ⟨[], none, 0, rfl, rdf_nil _ _ _ _, Nat.le_refl _, by omega, fun _ => rfl, fun x h => by cases h⟩
 ·obtain rfl : c0 = .slice (some a) len cap := by simpa using hcs
  rw [hc] at hel
  have each : ∀ i, ∃ l : α, i < len → (∀ j, j < k → W.cell? ((a.add (i * k)).add j) = (f l)[j]?) ∧ P l := by
   intro i
   by_cases hi : i < len
   ·have h1 := hel i hi
    rw [List.getElem?_eq_getElem (by omega)] at h1
    obtain ⟨cs, hc1, hc2⟩ := Option.bind_eq_some_iff.1 h1
    obtain ⟨l, rfl, hPl⟩ := hE hc2
    obtain ⟨_, _, hc3⟩ := World.cells?_some hc1
    exact ⟨l, fun _ => ⟨fun j hj => hc3 j hj, hPl⟩⟩
   ·exact ⟨x0, fun h => absurd h hi⟩
  obtain ⟨g, hfn2⟩ := Classical.axiomOfChoice each
  have hfn : ∀ i, i < len → ∀ j, j < k → W.cell? ((a.add (i * k)).add j) = (f (g i))[j]? := fun i hi => (hfn2 i hi).1
  have hll : ((List.range len).map g).length = len := by simp
  refine ⟨(List.range len).map g, some a, cap, by rw [hll], ?_, by rw [hll]; exact hl, hm, (fun e => by cases e), fun x hx => by
   obtain ⟨i, hi, rfl⟩ := List.mem_map.1 hx
   exact (hfn2 i (List.mem_range.1 hi)).2⟩
  rw [hll]
  refine ⟨some a, cap, rfl, fun hne => ?_⟩
  have hpos : 0 < len := by
   rcases Nat.eq_zero_or_pos len with h0 | h0
   ·subst h0
    exact absurd rfl hne
   ·exact h0
  obtain ⟨b, off, spot⟩ := a
  have hget : ∀ i, i < len → ∀ j, j < k → ∃ u, (f (g i))[j]? = some u := fun i _ j hj => ⟨_, List.getElem?_eq_getElem (by rw [hf]; exact hj)⟩
  have hspot : spot = none := by
   obtain ⟨u, hu⟩ := hget 0 hpos 0 hk
   have := (hfn 0 hpos 0 hk).trans hu
   simpa [Addr.add] using World.cell?_spot this
  subst hspot
  have hcell : ∀ i j, i < len → j < k → W.cell? ⟨b, off + (i * k + j), none⟩ = (f (g i))[j]? := by
   intro i j hi hj
   have := hfn i hi j hj
   rw [Go.WideShapes.add_plain, Go.WideShapes.add_plain] at this
   rw [← this]
   congr 2
   omega
  refine ⟨b, off, rfl, ?_, fun j x hj => ?_⟩
  ·obtain ⟨u, hu⟩ := hget 0 hpos 0 hk
   exact World.block_lt_of_cell? W ⟨b, off + (0 * k + 0), none⟩ ((hcell 0 0 hpos hk).trans hu)
  have hj2 : j < len * k := by
   have := (List.getElem?_eq_some_iff.1 hj).1
   rw [flat_len f k hf, hll] at this
   exact this
  have hm1 : j / k < len := (Nat.div_lt_iff_lt_mul hk).2 hj2
  have hm2 : j % k < k := Nat.mod_lt _ hk
  have hd : j = j / k * k + j % k := by rw [Nat.mul_comm]; exact (Nat.div_add_mod j k).symm
  have hat : ((List.range len).map g)[j / k]? = some (g (j / k)) := by
   rw [List.getElem?_map, List.getElem?_range hm1]; rfl
  rw [hd] at hj ⊢
  rw [flat_at f k hf _ _ _ _ hat hm2] at hj
  rw [hcell _ _ hm1 hm2]
  exact hj
theorem rd_of_rdfO {w : World} {q : Nat → Prop} {v : Value} {X : List Int} (h : RdF w q v X.length (X.flatMap ivF)) : Rd w q v (X.map tv) := by
 obtain ⟨p, c, h1, h2⟩ := h
 rw [flat_ivF] at h2
 exact ⟨p, c, by rw [List.length_map]; exact h1, h2⟩
theorem iT_trod {fuel : Nat} {cs : List Value} {y : DataW H × List MemPlace} (h : DataW.trod enc Tryz.prog W 0 (fun _ => true) true fuel 3 cs = some y) : ∃ x : Int, cs = ivF x ∧ True := by
 obtain ⟨m0, e0, _, w0⟩ := DataW.trod_int Tryz.underlying3 h
 exact ⟨m0, e0, trivial⟩
theorem rw_trod {fuel : Nat} {cs : List Value} {y : DataW H × List MemPlace} (h : DataW.trod enc Tryz.prog W 0 (fun _ => true) true fuel 80 cs = some y) : ∃ x : Rw, cs = rwC x ∧ (RwOk W (· < W.heap.size) x ∧ (x.p = none → x.c = 0)) := by
 have hs := Tryz.underlying80
 obtain ⟨xs, n, _, _, hl, hlen, hf⟩ := DataW.trod_struct hs h
 rw [kit_cellsrwT] at hl
 obtain ⟨c0, c1, rfl⟩ := tlistT2 hl
 obtain ⟨x0, x1, rfl⟩ := tlistT2 hlen
 have h0 : DataW.trod enc Tryz.prog W 0 (fun _ => true) true n 3 [c0] = some x0 := by simpa [Value.cells, kit_cellsInt] using hf 0 _ rfl
 have h1 : DataW.trod enc Tryz.prog W 0 (fun _ => true) true n 22 [c1] = some x1 := by simpa [Value.cells, kit_cellsInt, kit_cellsisT] using hf 1 _ rfl
 obtain ⟨m0, e0, _, w0⟩ := DataW.trod_int Tryz.underlying3 h0
 obtain rfl : c0 = .int .i64 m0 := by simpa using e0
 obtain ⟨X, p, c, rfl, r1, r2, r3, r4, -⟩ := rowsT_trod ivF (fun _ => True) 1 (by decide) (fun _ => rfl) 0 Tryz.underlying22 kit_cellsInt iT_trod h1
 exact ⟨⟨m0, X, p, c⟩, rfl, ⟨rd_of_rdfO r1, ⟨r2, r3⟩⟩, r4⟩
theorem opn_table (hval : Value.okWide Tryz.prog W .any base 25 v) (h : DataW.Trod enc Tryz.prog W 0 (fun _ => true) true 25 v d ps) :
  ∃ (r s n : Int) (L : List Rw) (p : Option Addr) (c : Nat), v = .agg #[.int .i64 r, .int .i64 s, .int .i64 n, .slice p L.length c] ∧ I64 r ∧ RdW W (· < W.heap.size) p c L ∧ (∀ x ∈ L, x.p = none → x.c = 0) ∧ (p = none → c = 0) ∧ L.length ≤ c ∧ c ≤ 9223372036854775807 := by
 have hs := Tryz.underlying25
 obtain ⟨cs, rfl, hcs⟩ := okWide_struct hs hval
 obtain ⟨fuel, hf0⟩ := h
 obtain ⟨xs, n, _, _, hl, hlen, hf⟩ := DataW.trod_struct hs hf0
 rw [kit_cellstbT] at hl
 obtain ⟨c0, c1, c2, c3, hl3⟩ := tlistT4 hl
 obtain ⟨x0, x1, x2, x3, rfl⟩ := tlistT4 hlen
 obtain rfl : cs = #[c0, c1, c2, c3] := by
  apply Array.ext'
  simpa [Value.cells] using hl3
 have h0 : DataW.trod enc Tryz.prog W 0 (fun _ => true) true n 3 [c0] = some x0 := by simpa [Value.cells, kit_cellsInt] using hf 0 _ rfl
 have h1 : DataW.trod enc Tryz.prog W 0 (fun _ => true) true n 3 [c1] = some x1 := by simpa [Value.cells, kit_cellsInt] using hf 1 _ rfl
 have h2 : DataW.trod enc Tryz.prog W 0 (fun _ => true) true n 3 [c2] = some x2 := by simpa [Value.cells, kit_cellsInt] using hf 2 _ rfl
 have h3 : DataW.trod enc Tryz.prog W 0 (fun _ => true) true n 23 [c3] = some x3 := by simpa [Value.cells, kit_cellsInt, kit_cellsrwsT] using hf 3 _ rfl
 obtain ⟨m0, e0, _, w0⟩ := DataW.trod_int Tryz.underlying3 h0
 obtain rfl : c0 = .int .i64 m0 := by simpa using e0
 obtain ⟨m1, e1, _, w1⟩ := DataW.trod_int Tryz.underlying3 h1
 obtain rfl : c1 = .int .i64 m1 := by simpa using e1
 obtain ⟨m2, e2, _, w2⟩ := DataW.trod_int Tryz.underlying3 h2
 obtain rfl : c2 = .int .i64 m2 := by simpa using e2
 obtain ⟨L, p, c, rfl, r1, r2, r3, r4, hP⟩ := rowsT_trod rwC (fun x => RwOk W (· < W.heap.size) x ∧ (x.p = none → x.c = 0)) 2 (by decide) (fun _ => rfl) ⟨0, [], none, 0⟩ Tryz.underlying23 kit_cellsrwT rw_trod h3
 exact ⟨m0, m1, m2, L, p, c, rfl, i64_wf w0, ⟨r1, fun x hx => (hP x hx).1⟩, fun x hx => (hP x hx).2, r4, r2, r3⟩
end
end Go.Proofs.YtpogblengagpaaaGreatDoor

/- forward, the mathematics: what a walk over the bits of a packet leaves, whether it takes the own bits one by one or at once. -/
namespace Go.Proofs.YtpogblengagpaaaGreatDoor
set_option maxRecDepth 100000
open Go.RowKit Bs
def selB (P : Nat → Bool) : Nat → Nat
 | 0 => 0
 | n + 1 => if P n = true then selB P n ||| 2 ^ n else selB P n
theorem selB_bit (P : Nat → Bool) : ∀ n j, (selB P n).testBit j = (decide (j < n) && P j)
 | 0, j => by simp [selB]
 | n + 1, j => by
  have ih := selB_bit P n j
  unfold selB
  rcases Nat.lt_trichotomy j n with h | rfl | h
  ·have h1 : decide (j < n + 1) = true := decide_eq_true (by omega)
   have h2 : decide (j < n) = true := decide_eq_true h
   split
   ·rw [Nat.testBit_or, ih, Nat.testBit_two_pow, h1, h2, decide_eq_false (by omega : ¬ n = j)]
    simp
   ·rw [ih, h1, h2]
  ·have h1 : decide (j < j + 1) = true := decide_eq_true (by omega)
   have h2 : decide (j < j) = false := decide_eq_false (by omega)
   split
   ·rename_i hp
    rw [Nat.testBit_or, ih, Nat.testBit_two_pow, h1, h2, hp]
    simp
   ·rename_i hp
    rw [ih, h1, h2]
    simpa using hp
  ·have h1 : decide (j < n + 1) = false := decide_eq_false (by omega)
   have h2 : decide (j < n) = false := decide_eq_false (by omega)
   split
   ·rw [Nat.testBit_or, ih, Nat.testBit_two_pow, h1, h2, decide_eq_false (by omega : ¬ n = j)]
    simp
   ·rw [ih, h1, h2]
def fltB (P : Nat → Bool) (x : Nat) : Nat := selB (fun j => x.testBit j && P j) 64
theorem u64_bit {x : Nat} (h : U64 x) {j : Nat} (hj : x.testBit j = true) : j < 64 := by
 rcases Nat.lt_or_ge j 64 with h1 | h1
 ·exact h1
 ·rw [Nat.testBit_lt_two_pow (Nat.lt_of_lt_of_le h (Nat.pow_le_pow_right (n := 2) (by decide) h1))] at hj
  cases hj
theorem fltB_bit {x : Nat} (h : U64 x) (P : Nat → Bool) (j : Nat) : (fltB P x).testBit j = (x.testBit j && P j) := by
 unfold fltB
 rw [selB_bit]
 by_cases h1 : j < 64
 ·simp [h1]
 ·have : x.testBit j = false := by
   cases hx : x.testBit j with
   | false => rfl
   | true => exact absurd (u64_bit h hx) h1
  simp [h1, this]
structure Lst (x j : Nat) : Prop where
 on : x.testBit j = true
 le : ∀ i, x.testBit i = true → j ≤ i
theorem Lst.uniq {x i j : Nat} (h : Lst x i) (k : Lst x j) : i = j := Nat.le_antisymm (h.le j k.on) (k.le i h.on)
def lstB (x : Nat) : Nat := ((List.range 64).find? (fun j => x.testBit j)).getD 0
theorem lstB_eq {x j : Nat} (hx : U64 x) (h : Lst x j) : lstB x = j := by
 unfold lstB
 cases e : (List.range 64).find? (fun j => x.testBit j) with
 | none =>
  have := List.find?_eq_none.1 e j (List.mem_range.2 (u64_bit hx h.on))
  exact absurd h.on this
 | some i =>
  obtain ⟨h1, us, vs, h2, h3⟩ := List.find?_eq_some_iff_append.1 e
  show i = j
  have hij := h.le i (by simpa using h1)
  refine Nat.le_antisymm ?_ hij
  rcases Nat.lt_or_ge j i with hlt | hge
  ·have hi : us.length = i := by
    have hl : (List.range 64)[us.length]? = some i := by rw [h2]; simp
    rw [List.getElem?_range] at hl
    ·exact Option.some.inj hl
    ·have := congrArg List.length h2
     simp at this
     omega
   have hj : (List.range 64)[j]? = some j := List.getElem?_range (u64_bit hx h.on)
   rw [h2, List.getElem?_append_left (by omega)] at hj
   have := h3 j (List.mem_of_getElem? hj)
   rw [h.on] at this
   simp at this
  ·exact hge
def ntB (a b : Nat) : Nat := a &&& (18446744073709551615 - b)
theorem ntB_bit {a b : Nat} (ha : U64 a) (hb : U64 b) (j : Nat) : (ntB a b).testBit j = (a.testBit j && !b.testBit j) := by
 unfold ntB
 have e : 18446744073709551615 - b = 2 ^ 64 - (b + 1) := by
  show _ = 18446744073709551616 - (b + 1)
  omega
 rw [Nat.testBit_and, e, Nat.testBit_two_pow_sub_succ hb]
 by_cases h1 : j < 64
 ·simp [h1]
 ·have : a.testBit j = false := by
   cases hx : a.testBit j with
   | false => rfl
   | true => exact absurd (u64_bit ha hx) h1
  simp [this]
theorem ntB_u {a b : Nat} (ha : U64 a) : U64 (ntB a b) := Nat.lt_of_le_of_lt Nat.and_le_left ha
def cpF (M : Int → Nat) (h : Nat → Int) : Nat → Nat → List (Int × Nat)
 | 0, _ => []
 | n + 1, x => if x = 0 then [] else (h (lstB x), x &&& M (h (lstB x))) :: cpF M h n (ntB x (M (h (lstB x))))
def cpB (M : Int → Nat) (h : Nat → Int) (x : Nat) : List (Int × Nat) := cpF M h (x + 1) x
def Ms (M : Int → Nat) (h : Nat → Int) : Prop := ∀ u, u ≠ 0 → U64 (M u) ∧ ∀ j, (M u).testBit j = true ↔ (h j = u ∧ j < 64)
theorem ntB_lt {a b j : Nat} (ha : U64 a) (hb : U64 b) (h1 : a.testBit j = true) (h2 : b.testBit j = true) : ntB a b < a := by
 refine Nat.lt_of_le_of_ne Nat.and_le_left (fun e => ?_)
 have := ntB_bit ha hb j
 rw [show ntB a b = a from e, h1, h2] at this
 cases this
theorem u64_some {x : Nat} (h : x ≠ 0) : ∃ j, Lst x j := by
 obtain ⟨j, hj⟩ : ∃ j, x.testBit j = true := by
  rcases Classical.em (∃ j, x.testBit j = true) with h1 | h1
  ·exact h1
  ·refine absurd (Nat.eq_of_testBit_eq (fun j => ?_)) h
   rw [Nat.zero_testBit]
   cases hx : x.testBit j with
   | false => rfl
   | true => exact absurd ⟨j, hx⟩ h1
 have step : ∀ n, (∃ i, i ≤ n ∧ x.testBit i = true) → ∃ j, Lst x j := by
  intro n
  induction n with
  | zero =>
   rintro ⟨i, hi, h1⟩
   obtain rfl : i = 0 := by omega
   exact ⟨0, h1, fun i _ => Nat.zero_le i⟩
  | succ n ih =>
   rintro ⟨i, hi, h1⟩
   rcases Classical.em (∃ i, i ≤ n ∧ x.testBit i = true) with h2 | h2
   ·exact ih h2
   ·refine ⟨i, h1, fun k hk => ?_⟩
    rcases Nat.lt_or_ge k i with h3 | h3
    ·exact absurd ⟨k, by omega, hk⟩ h2
    ·exact h3
 exact step j ⟨j, Nat.le_refl _, hj⟩
theorem cpF_fuel {M : Int → Nat} {h : Nat → Int} (hM : Ms M h) : ∀ n m x, U64 x → (∀ j, x.testBit j = true → h j ≠ 0) → x < n → x < m → cpF M h n x = cpF M h m x := by
 intro n
 induction n with
 | zero => intro m x _ _ h1; omega
 | succ n ih =>
  intro m x hu hz h1 h2
  obtain ⟨m, rfl⟩ : ∃ k, m = k + 1 := ⟨m - 1, by omega⟩
  unfold cpF
  by_cases h0 : x = 0
  ·rw [if_pos h0, if_pos h0]
  ·rw [if_neg h0, if_neg h0]
   obtain ⟨j, hj⟩ := u64_some h0
   rw [lstB_eq hu hj]
   have hne := hz j hj.on
   have hlt := ntB_lt hu (hM _ hne).1 hj.on (((hM _ hne).2 j).2 ⟨rfl, u64_bit hu hj.on⟩)
   rw [ih m _ (ntB_u hu) (fun i hi => hz i (by rw [ntB_bit hu (hM _ hne).1] at hi; simp at hi; exact hi.1)) (by omega) (by omega)]
theorem cpB_step {M : Int → Nat} {h : Nat → Int} (hM : Ms M h) {x j : Nat} (hu : U64 x) (hz : ∀ j, x.testBit j = true → h j ≠ 0) (hj : Lst x j) : cpB M h x = (h j, x &&& M (h j)) :: cpB M h (ntB x (M (h j))) := by
 have hne := hz j hj.on
 have hlt := ntB_lt hu (hM _ hne).1 hj.on (((hM _ hne).2 j).2 ⟨rfl, u64_bit hu hj.on⟩)
 have h0 : x ≠ 0 := fun e => by
  have := hj.on
  rw [e, Nat.zero_testBit] at this
  cases this
 have hf := cpF_fuel hM x (ntB x (M (h j)) + 1) _ (ntB_u (b := M (h j)) hu) (fun i hi => hz i (by rw [ntB_bit hu (hM _ hne).1] at hi; simp at hi; exact hi.1)) hlt (by omega)
 unfold cpB
 rw [cpF, if_neg h0, lstB_eq hu hj, hf]
def lzB (h : Nat → Int) (r : Int) (t : Bool) (j : Nat) : Bool := decide (h j = 0) || (t && !decide (h j = r))
def czB (h : Nat → Int) (r : Int) (t : Bool) (j : Nat) : Bool := !t && !decide (h j = 0) && !decide (h j = r)
structure FwI (M : Int → Nat) (h : Nat → Int) (r : Int) (t : Bool) (P left loc lost : Nat) (cs : List (Int × Nat)) : Prop where
 hu : U64 left ∧ U64 loc ∧ U64 lost
 sub : ∀ j, left.testBit j = true → P.testBit j = true
 whole : ∀ i j, h i = h j → h i ≠ 0 → h i ≠ r → P.testBit i = true → left.testBit j = true → left.testBit i = true
 hloc : ∀ j, (loc.testBit j || (left.testBit j && decide (h j = r))) = (P.testBit j && decide (h j = r))
 hlost : ∀ j, (lost.testBit j || (left.testBit j && lzB h r t j)) = (P.testBit j && lzB h r t j)
 hcs : cs ++ cpB M h (fltB (czB h r t) left) = cpB M h (fltB (czB h r t) P)
variable {M : Int → Nat} {h : Nat → Int} {r : Int} {t : Bool} {P left loc lost : Nat} {cs : List (Int × Nat)}
theorem u64_zero : U64 0 := by
 unfold U64
 decide
theorem fwI_start (hP : U64 P) : FwI M h r t P P 0 0 [] :=
 ⟨⟨hP, u64_zero, u64_zero⟩, fun _ h => h, fun _ _ _ _ _ h _ => h, fun j => by rw [Nat.zero_testBit, Bool.false_or], fun j => by rw [Nat.zero_testBit, Bool.false_or], rfl⟩
theorem fltB_u (P : Nat → Bool) {x : Nat} (hx : U64 x) : U64 (fltB P x) := by
 have : fltB P x ≤ x := by
  have e : fltB P x = fltB P x &&& x := Nat.eq_of_testBit_eq (fun j => by rw [Nat.testBit_and, fltB_bit hx]; cases x.testBit j <;> simp)
  rw [e]
  exact Nat.and_le_right
 exact Nat.lt_of_le_of_lt this hx
theorem fltB_same (Q : Nat → Bool) {x y : Nat} (hx : U64 x) (hy : U64 y) (he : ∀ j, Q j = true → x.testBit j = y.testBit j) : fltB Q x = fltB Q y := Nat.eq_of_testBit_eq (fun j => by
 rw [fltB_bit hx, fltB_bit hy]
 cases hq : Q j with
 | false => simp
 | true => rw [he j hq])
theorem FwI.done (I : FwI M h r t P 0 loc lost cs) : (∀ j, loc.testBit j = (P.testBit j && decide (h j = r))) ∧ (∀ j, lost.testBit j = (P.testBit j && lzB h r t j)) ∧ cs = cpB M h (fltB (czB h r t) P) := by
 refine ⟨fun j => ?_, fun j => ?_, ?_⟩
 ·have := I.hloc j
  rwa [Nat.zero_testBit, Bool.false_and, Bool.or_false] at this
 ·have := I.hlost j
  rwa [Nat.zero_testBit, Bool.false_and, Bool.or_false] at this
 ·have := I.hcs
  have e : fltB (czB h r t) 0 = 0 := Nat.eq_of_testBit_eq (fun j => by rw [fltB_bit u64_zero, Nat.zero_testBit, Bool.false_and])
  rw [e] at this
  have e2 : cpB M h 0 = [] := rfl
  rw [e2, List.append_nil] at this
  exact this
theorem u64_two {j : Nat} (hj : j < 64) : U64 (2 ^ j) := Nat.pow_lt_pow_right (n := 64) (by decide) hj
theorem u64_andl (a b : Nat) (h : U64 a) : U64 (a &&& b) := Nat.lt_of_le_of_lt Nat.and_le_left h
theorem u64_orl (a b : Nat) (h : U64 a) (k : U64 b) : U64 (a ||| b) := Nat.or_lt_two_pow (n := 64) h k
theorem FwI.same (I : FwI M h r t P left loc lost cs) (hM : Ms M h) {j : Nat} (hj : Lst left j) (h0 : h j ≠ 0) (h1 : h j ≠ r) : P &&& M (h j) = left &&& M (h j) := Nat.eq_of_testBit_eq (fun i => by
 rw [Nat.testBit_and, Nat.testBit_and]
 cases hm : (M (h j)).testBit i with
 | false => simp
 | true =>
  have hi := (((hM _ h0).2 i).1 hm).1
  rw [Bool.and_true, Bool.and_true]
  rw [Bool.eq_iff_iff]
  exact ⟨fun hp => I.whole i j hi (hi ▸ h0) (hi ▸ h1) hp hj.on, I.sub i⟩)
theorem ntB_and {a b : Nat} (ha : U64 a) (hb : U64 b) : ntB a (a &&& b) = ntB a b := Nat.eq_of_testBit_eq (fun i => by
 rw [ntB_bit ha (u64_andl a b ha), ntB_bit ha hb, Nat.testBit_and]
 cases a.testBit i <;> simp)
theorem FwI.step (I : FwI M h r t P left loc lost cs) {X loc' lost' : Nat} {cs' : List (Int × Nat)} (hX : U64 X) (hl : U64 loc') (hl2 : U64 lost')
  (hw : ∀ i k, i < 64 → k < 64 → h i = h k → h i ≠ 0 → h i ≠ r → X.testBit i = X.testBit k)
  (h1 : ∀ j, (loc'.testBit j || (left.testBit j && !X.testBit j && decide (h j = r))) = (loc.testBit j || (left.testBit j && decide (h j = r))))
  (h2 : ∀ j, (lost'.testBit j || (left.testBit j && !X.testBit j && lzB h r t j)) = (lost.testBit j || (left.testBit j && lzB h r t j)))
  (h3 : cs' ++ cpB M h (fltB (czB h r t) (ntB left X)) = cs ++ cpB M h (fltB (czB h r t) left)) (hP : U64 P) :
  FwI M h r t P (ntB left X) loc' lost' cs' := by
 refine ⟨⟨ntB_u I.hu.1, hl, hl2⟩, fun j hj => ?_, fun i k e e0 e1 hp hk => ?_, fun j => ?_, fun j => ?_, h3.trans I.hcs⟩
 ·rw [ntB_bit I.hu.1 hX] at hj
  simp at hj
  exact I.sub j hj.1
 ·rw [ntB_bit I.hu.1 hX] at hk ⊢
  simp at hk ⊢
  have hli := I.whole i k e e0 e1 hp hk.1
  exact ⟨hli, (hw i k (u64_bit hP hp) (u64_bit I.hu.1 hk.1) e e0 e1).trans hk.2⟩
 ·rw [ntB_bit I.hu.1 hX, h1, I.hloc]
 ·rw [ntB_bit I.hu.1 hX, h2, I.hlost]
theorem FwI.skip (I : FwI M h r t P left loc lost cs) {X : Nat} (hX : U64 X) (hz : ∀ j, X.testBit j = true → left.testBit j = true → czB h r t j = false) : fltB (czB h r t) (ntB left X) = fltB (czB h r t) left :=
 fltB_same _ (ntB_u I.hu.1) I.hu.1 (fun j hq => by
  rw [ntB_bit I.hu.1 hX]
  cases hx : X.testBit j with
  | false => simp
  | true =>
   cases hl : left.testBit j with
   | false => rfl
   | true =>
    rw [hz j hx hl] at hq
    cases hq)
theorem FwI.oneLoc (I : FwI M h r t P left loc lost cs) (hP : U64 P) (hr : r ≠ 0) {j : Nat} (hj : Lst left j) (e : h j = r) : FwI M h r t P (ntB left (2 ^ j)) (loc ||| 2 ^ j) lost cs := by
 have h64 := u64_bit I.hu.1 hj.on
 refine I.step (u64_two h64) (u64_orl _ _ I.hu.2.1 (u64_two h64)) I.hu.2.2 (fun i k _ _ e2 _ e1 => ?_) (fun i => ?_) (fun i => ?_) ?_ hP
 ·rw [Nat.testBit_two_pow, Nat.testBit_two_pow, decide_eq_false (fun x : j = i => e1 (x ▸ e)), decide_eq_false (fun x : j = k => e1 (e2.trans (x ▸ e)))]
 ·rw [Nat.testBit_or, Nat.testBit_two_pow]
  by_cases x : j = i
  ·subst x
   simp [hj.on, e]
  ·simp [x]
 ·rw [Nat.testBit_two_pow]
  by_cases x : j = i
  ·subst x
   have : lzB h r t j = false := by unfold lzB; simp [e, hr]
   simp [this]
  ·simp [x]
 ·rw [I.skip (u64_two h64) (fun i hi _ => by
   rw [Nat.testBit_two_pow] at hi
   obtain rfl : j = i := by simpa using hi
   unfold czB
   simp [e])]
theorem FwI.allLoc (I : FwI M h r t P left loc lost cs) (hM : Ms M h) (hP : U64 P) (hr : r ≠ 0) : FwI M h r t P (ntB left (M r)) (loc ||| (P &&& M r)) lost cs := by
 obtain ⟨hu, hb⟩ := hM r hr
 have hb2 : ∀ i, i < 64 → (M r).testBit i = decide (h i = r) := fun i hi => by
  rw [Bool.eq_iff_iff, hb i]
  simp [hi]
 refine I.step hu (u64_orl _ _ I.hu.2.1 (u64_andl _ _ hP)) I.hu.2.2 (fun i k hi hk e2 _ e1 => ?_) (fun i => ?_) (fun i => ?_) ?_ hP
 ·rw [hb2 i hi, hb2 k hk, e2]
 ·have hL := I.hloc i
  have hS := I.sub i
  rw [Nat.testBit_or, Nat.testBit_and]
  by_cases h64 : i < 64
  ·rw [hb2 i h64]
   revert hL hS
   cases P.testBit i <;> cases left.testBit i <;> cases loc.testBit i <;> cases decide (h i = r) <;> simp
  ·have h1 : P.testBit i = false := by
    cases x : P.testBit i with
    | false => rfl
    | true => exact absurd (u64_bit hP x) h64
   have h2 : left.testBit i = false := by
    cases x : left.testBit i with
    | false => rfl
    | true => exact absurd (u64_bit I.hu.1 x) h64
   simp [h1, h2]
 ·by_cases h64 : i < 64
  ·rw [hb2 i h64]
   by_cases x : h i = r
   ·have : lzB h r t i = false := by unfold lzB; simp [x, hr]
    simp [this]
   ·simp [x]
  ·have h2 : left.testBit i = false := by
    cases x : left.testBit i with
    | false => rfl
    | true => exact absurd (u64_bit I.hu.1 x) h64
   simp [h2]
 ·rw [I.skip hu (fun i hi _ => by
   have := ((hb i).1 hi).1
   unfold czB
   simp [this])]
theorem FwI.oneLost (I : FwI M h r t P left loc lost cs) (hP : U64 P) (hr : r ≠ 0) {j : Nat} (hj : Lst left j) (e : h j = 0) : FwI M h r t P (ntB left (2 ^ j)) loc (lost ||| 2 ^ j) cs := by
 have h64 := u64_bit I.hu.1 hj.on
 refine I.step (u64_two h64) I.hu.2.1 (u64_orl _ _ I.hu.2.2 (u64_two h64)) (fun i k _ _ e2 e0 _ => ?_) (fun i => ?_) (fun i => ?_) ?_ hP
 ·rw [Nat.testBit_two_pow, Nat.testBit_two_pow, decide_eq_false (fun x : j = i => e0 (x ▸ e)), decide_eq_false (fun x : j = k => e0 (e2.trans (x ▸ e)))]
 ·rw [Nat.testBit_two_pow]
  by_cases x : j = i
  ·subst x
   simp [e, Ne.symm hr]
  ·simp [x]
 ·rw [Nat.testBit_or, Nat.testBit_two_pow]
  by_cases x : j = i
  ·subst x
   have : lzB h r t j = true := by unfold lzB; simp [e]
   simp [this, hj.on]
  ·simp [x]
 ·rw [I.skip (u64_two h64) (fun i hi _ => by
   rw [Nat.testBit_two_pow] at hi
   obtain rfl : j = i := by simpa using hi
   unfold czB
   simp [e])]
theorem FwI.allLost (I : FwI M h r true P left loc lost cs) (hM : Ms M h) (hP : U64 P) {u : Int} (h0 : u ≠ 0) (h1 : u ≠ r) : FwI M h r true P (ntB left (M u)) loc (lost ||| (left &&& M u)) cs := by
 obtain ⟨hu, hb⟩ := hM u h0
 have hb2 : ∀ i, i < 64 → (M u).testBit i = decide (h i = u) := fun i hi => by
  rw [Bool.eq_iff_iff, hb i]
  simp [hi]
 refine I.step hu I.hu.2.1 (u64_orl _ _ I.hu.2.2 (u64_andl _ _ I.hu.1)) (fun i k hi hk e2 _ _ => ?_) (fun i => ?_) (fun i => ?_) ?_ hP
 ·rw [hb2 i hi, hb2 k hk, e2]
 ·cases hm : (M u).testBit i with
  | false => simp
  | true =>
   have := ((hb i).1 hm).1
   simp [this, h1]
 ·rw [Nat.testBit_or, Nat.testBit_and]
  cases hm : (M u).testBit i with
  | false => simp
  | true =>
   have h2 := ((hb i).1 hm).1
   have : lzB h r true i = true := by unfold lzB; simp [h2, h1]
   simp [this]
 ·rw [I.skip hu (fun i _ _ => by unfold czB; simp)]
theorem FwI.copy (I : FwI M h r false P left loc lost cs) (hM : Ms M h) (hP : U64 P) {j : Nat} (hj : Lst left j) (h0 : h j ≠ 0) (h1 : h j ≠ r) : FwI M h r false P (ntB left (M (h j))) loc lost (cs ++ [(h j, left &&& M (h j))]) := by
 obtain ⟨hu, hb⟩ := hM _ h0
 have hcz : ∀ i, (M (h j)).testBit i = true → czB h r false i = true := fun i hi => by
  have h2 := ((hb i).1 hi).1
  unfold czB
  simp [h2, h0, h1]
 refine I.step hu I.hu.2.1 I.hu.2.2 (fun i k hi hk e2 _ _ => ?_) (fun i => ?_) (fun i => ?_) ?_ hP
 ·rw [Bool.eq_iff_iff, hb i, hb k, e2]
  simp [hi, hk]
 ·cases hm : (M (h j)).testBit i with
  | false => simp
  | true =>
   have := ((hb i).1 hm).1
   simp [this, h1]
 ·cases hm : (M (h j)).testBit i with
  | false => simp
  | true =>
   have h2 := ((hb i).1 hm).1
   have : lzB h r false i = false := by unfold lzB; simp [h2, h0]
   simp [this]
 ·have hLs : Lst (fltB (czB h r false) left) j := ⟨by
    rw [fltB_bit I.hu.1, hj.on, Bool.true_and]
    exact hcz j ((hb j).2 ⟨rfl, u64_bit I.hu.1 hj.on⟩), fun i hi => hj.le i (by
    rw [fltB_bit I.hu.1] at hi
    simp at hi
    exact hi.1)⟩
  rw [cpB_step hM (fltB_u _ I.hu.1) (fun i hi => by
   rw [fltB_bit I.hu.1] at hi
   unfold czB at hi
   simp at hi
   exact hi.2.1) hLs]
  have e1 : fltB (czB h r false) left &&& M (h j) = left &&& M (h j) := Nat.eq_of_testBit_eq (fun i => by
   rw [Nat.testBit_and, Nat.testBit_and, fltB_bit I.hu.1]
   cases hm : (M (h j)).testBit i with
   | false => simp
   | true => simp [hcz i hm])
  have e2 : ntB (fltB (czB h r false) left) (M (h j)) = fltB (czB h r false) (ntB left (M (h j))) := Nat.eq_of_testBit_eq (fun i => by
   rw [ntB_bit (fltB_u _ I.hu.1) hu, fltB_bit I.hu.1, fltB_bit (ntB_u I.hu.1), ntB_bit I.hu.1 hu]
   cases left.testBit i <;> cases (M (h j)).testBit i <;> simp)
  rw [e1, e2, List.append_assoc]
  rfl
theorem FwI.both {loc2 lost2 : Nat} {cs2 : List (Int × Nat)} (I : FwI M h r t P 0 loc lost cs) (K : FwI M h r t P 0 loc2 lost2 cs2) : loc = loc2 ∧ lost = lost2 ∧ cs = cs2 := by
 obtain ⟨a1, a2, a3⟩ := I.done
 obtain ⟨b1, b2, b3⟩ := K.done
 exact ⟨Nat.eq_of_testBit_eq (fun j => (a1 j).trans (b1 j).symm), Nat.eq_of_testBit_eq (fun j => (a2 j).trans (b2 j).symm), a3.trans b3.symm⟩
theorem cpB_zero (M : Int → Nat) (h : Nat → Int) : cpB M h 0 = [] := rfl
theorem cpB_mem (hM : Ms M h) : ∀ x, U64 x → (∀ j, x.testBit j = true → h j ≠ 0) → ∀ y ∈ cpB M h x, y.2 = x &&& M y.1 ∧ ∃ j, x.testBit j = true ∧ h j = y.1 := by
 intro x
 induction x using Nat.strongRecOn with
 | ind x ih =>
  intro hu hz y hy
  by_cases h0 : x = 0
  ·subst h0
   rw [cpB_zero] at hy
   cases hy
  ·obtain ⟨j, hj⟩ := u64_some h0
   have hne := hz j hj.on
   obtain ⟨hmu, hmb⟩ := hM _ hne
   rw [cpB_step hM hu hz hj] at hy
   rcases List.mem_cons.1 hy with rfl | hy
   ·exact ⟨rfl, j, hj.on, rfl⟩
   ·have hb := fun i => ntB_bit (j := i) hu hmu
    obtain ⟨h1, i, h2, h3⟩ := ih _ (ntB_lt hu hmu hj.on ((hmb j).2 ⟨rfl, u64_bit hu hj.on⟩)) (ntB_u hu) (fun i hi => hz i (by
     rw [hb i] at hi
     simp at hi
     exact hi.1)) y hy
    rw [hb i] at h2
    simp only [Bool.and_eq_true, Bool.not_eq_true'] at h2
    have hd : y.1 ≠ h j := fun e => by
     have := (hmb i).2 ⟨h3.trans e, u64_bit hu h2.1⟩
     rw [h2.2] at this
     cases this
    have hy0 : y.1 ≠ 0 := fun e => hz i h2.1 (h3.trans e)
    refine ⟨h1.trans (Nat.eq_of_testBit_eq (fun k => ?_)), i, h2.1, h3⟩
    rw [Nat.testBit_and, Nat.testBit_and, hb k]
    cases hk : (M y.1).testBit k with
    | false => simp
    | true =>
     have e1 := (((hM _ hy0).2 k).1 hk).1
     have e2 : (M (h j)).testBit k = false := by
      cases x2 : (M (h j)).testBit k with
      | false => rfl
      | true => exact absurd (e1.symm.trans ((hmb k).1 x2).1) hd
     rw [e2]
     simp
theorem cpB_once (hM : Ms M h) : ∀ x, U64 x → (∀ j, x.testBit j = true → h j ≠ 0) → (cpB M h x).Pairwise (fun y z => y.1 ≠ z.1) := by
 intro x
 induction x using Nat.strongRecOn with
 | ind x ih =>
  intro hu hz
  by_cases h0 : x = 0
  ·subst h0
   rw [cpB_zero]
   exact List.Pairwise.nil
  ·obtain ⟨j, hj⟩ := u64_some h0
   have hne := hz j hj.on
   obtain ⟨hmu, hmb⟩ := hM _ hne
   have hb := fun i => ntB_bit (j := i) hu hmu
   have hz2 : ∀ i, (ntB x (M (h j))).testBit i = true → h i ≠ 0 := fun i hi => hz i (by
    rw [hb i] at hi
    simp at hi
    exact hi.1)
   rw [cpB_step hM hu hz hj]
   refine List.Pairwise.cons (fun z hz3 e => ?_) (ih _ (ntB_lt hu hmu hj.on ((hmb j).2 ⟨rfl, u64_bit hu hj.on⟩)) (ntB_u hu) hz2)
   obtain ⟨-, i, h2, h3⟩ := cpB_mem hM _ (ntB_u hu) hz2 z hz3
   rw [hb i] at h2
   simp only [Bool.and_eq_true, Bool.not_eq_true'] at h2
   have := (hmb i).2 ⟨h3.trans e.symm, u64_bit hu h2.1⟩
   rw [h2.2] at this
   cases this
theorem cpB_full (hM : Ms M h) : ∀ x, U64 x → (∀ j, x.testBit j = true → h j ≠ 0) → ∀ j, x.testBit j = true → (h j, x &&& M (h j)) ∈ cpB M h x := by
 intro x
 induction x using Nat.strongRecOn with
 | ind x ih =>
  intro hu hz i hi
  obtain ⟨j, hj⟩ := u64_some (x := x) (fun e => by
   rw [e, Nat.zero_testBit] at hi
   cases hi)
  have hne := hz j hj.on
  obtain ⟨hmu, hmb⟩ := hM _ hne
  have hb := fun i => ntB_bit (j := i) hu hmu
  rw [cpB_step hM hu hz hj]
  by_cases e : h i = h j
  ·rw [e]
   exact List.mem_cons_self
  ·have hm : (M (h j)).testBit i = false := by
    cases x2 : (M (h j)).testBit i with
    | false => rfl
    | true => exact absurd ((hmb i).1 x2).1 e
   have h1 := ih _ (ntB_lt hu hmu hj.on ((hmb j).2 ⟨rfl, u64_bit hu hj.on⟩)) (ntB_u hu) (fun k hk => hz k (by
    rw [hb k] at hk
    simp at hk
    exact hk.1)) i (by rw [hb i, hi, hm]; rfl)
   have e2 : ntB x (M (h j)) &&& M (h i) = x &&& M (h i) := Nat.eq_of_testBit_eq (fun k => by
    rw [Nat.testBit_and, Nat.testBit_and, hb k]
    cases hk : (M (h i)).testBit k with
    | false => simp
    | true =>
     have e1 := (((hM _ (hz i hi)).2 k).1 hk).1
     have e3 : (M (h j)).testBit k = false := by
      cases x2 : (M (h j)).testBit k with
      | false => rfl
      | true => exact absurd (e1.symm.trans ((hmb k).1 x2).1) e
     rw [e3]
     simp)
   rw [e2] at h1
   exact List.mem_cons_of_mem _ h1
theorem two_bit {j k : Nat} (hk : (2 ^ j).testBit k = true) : j = k := by
 rw [Nat.testBit_two_pow] at hk
 simpa using hk
end Go.Proofs.YtpogblengagpaaaGreatDoor

/- forward, the mathematics: what an outcome divides. -/
namespace Go.Proofs.YtpogblengagpaaaGreatDoor
set_option maxRecDepth 100000
open Go.RowKit Bs
structure FwD (M : Int → Nat) (h : Nat → Int) (r : Int) (t : Bool) (P loc lost : Nat) (cs : List (Int × Nat)) : Prop where
 hloc : ∀ j, loc.testBit j = (P.testBit j && decide (h j = r))
 hlost : ∀ j, lost.testBit j = (P.testBit j && lzB h r t j)
 hcs : cs = cpB M h (fltB (czB h r t) P)
theorem FwI.fin {M : Int → Nat} {h : Nat → Int} {r : Int} {t : Bool} {P loc lost : Nat} {cs : List (Int × Nat)} (I : FwI M h r t P 0 loc lost cs) : FwD M h r t P loc lost cs := ⟨I.done.1, I.done.2.1, I.done.2.2⟩
def orC (l : List (Int × Nat)) (a : Nat) : Nat := l.foldl (fun acc y => acc ||| y.2) a
theorem orC_bit : ∀ (l : List (Int × Nat)) (a j : Nat), (orC l a).testBit j = (a.testBit j || l.any (fun y => y.2.testBit j))
 | [], a, j => by simp [orC]
 | y :: l, a, j => by
  have := orC_bit l (a ||| y.2) j
  unfold orC at this ⊢
  rw [List.foldl_cons, this, Nat.testBit_or, List.any_cons, Bool.or_assoc]
theorem orC_take {l : List (Int × Nat)} {a i : Nat} {y : Int × Nat} (hy : l[i]? = some y) : orC (l.take (i + 1)) a = orC (l.take i) a ||| y.2 := by
 unfold orC
 rw [List.take_add_one, hy, List.foldl_append]
 rfl
variable {M : Int → Nat} {h : Nat → Int} {r : Int} {t : Bool} {P loc lost : Nat} {cs : List (Int × Nat)}
theorem cz_ne {j : Nat} (hc : czB h r t j = true) : t = false ∧ h j ≠ 0 ∧ h j ≠ r := by
 unfold czB at hc
 simp at hc
 exact ⟨hc.1.1, hc.1.2, hc.2⟩
theorem cz_of {j : Nat} (h1 : t = false) (h2 : h j ≠ 0) (h3 : h j ≠ r) : czB h r t j = true := by
 unfold czB
 simp [h1, h2, h3]
theorem FwD.zs (hP : U64 P) : ∀ j, (fltB (czB h r t) P).testBit j = true → h j ≠ 0 := fun j hj => by
 rw [fltB_bit hP] at hj
 simp only [Bool.and_eq_true] at hj
 exact (cz_ne hj.2).2.1
theorem FwD.mem (D : FwD M h r t P loc lost cs) (hM : Ms M h) (hP : U64 P) {y : Int × Nat} (hy : y ∈ cs) : t = false ∧ y.1 ≠ 0 ∧ y.1 ≠ r ∧ y.2 = P &&& M y.1 ∧ y.2 ≠ 0 ∧ U64 y.2 ∧ (∃ j, j < 64 ∧ P.testBit j = true ∧ h j = y.1) ∧ (∀ j, y.2.testBit j = true → P.testBit j = true ∧ h j = y.1) := by
 rw [D.hcs] at hy
 obtain ⟨h1, j, h2, h3⟩ := cpB_mem hM _ (fltB_u _ hP) (FwD.zs hP) y hy
 rw [fltB_bit hP] at h2
 simp only [Bool.and_eq_true] at h2
 obtain ⟨c1, c2, c3⟩ := cz_ne h2.2
 rw [h3] at c2 c3
 have e : y.2 = P &&& M y.1 := h1.trans (Nat.eq_of_testBit_eq (fun k => by
  rw [Nat.testBit_and, Nat.testBit_and, fltB_bit hP]
  cases hk : (M y.1).testBit k with
  | false => simp
  | true =>
   have e1 := (((hM _ c2).2 k).1 hk).1
   rw [cz_of c1 (e1 ▸ c2) (e1 ▸ c3)]
   simp))
 have hj64 := u64_bit hP h2.1
 have hb : y.2.testBit j = true := by
  rw [e, Nat.testBit_and, h2.1, Bool.true_and]
  exact ((hM _ c2).2 j).2 ⟨h3, hj64⟩
 refine ⟨c1, c2, c3, e, fun e0 => ?_, by rw [e]; exact u64_andl _ _ hP, ⟨j, hj64, h2.1, h3⟩, fun k hk => ?_⟩
 ·rw [e0, Nat.zero_testBit] at hb
  cases hb
 ·rw [e, Nat.testBit_and] at hk
  simp only [Bool.and_eq_true] at hk
  exact ⟨hk.1, (((hM _ c2).2 k).1 hk.2).1⟩
theorem FwD.once (D : FwD M h r t P loc lost cs) (hM : Ms M h) (hP : U64 P) {i : Nat} {y : Int × Nat} (hy : cs[i]? = some y) : ∀ z ∈ cs.take i, z.1 ≠ y.1 := by
 have hp := cpB_once hM _ (fltB_u (czB h r t) hP) (FwD.zs hP)
 rw [← D.hcs] at hp
 intro z hz e
 obtain ⟨k, hk⟩ := List.mem_iff_getElem?.1 hz
 rw [List.getElem?_take] at hk
 split at hk
 ·rename_i hki
  obtain ⟨hil, hyi⟩ := List.getElem?_eq_some_iff.1 hy
  obtain ⟨hkl, hzk⟩ := List.getElem?_eq_some_iff.1 hk
  have := List.pairwise_iff_getElem.1 hp k i hkl hil hki
  rw [hzk, hyi] at this
  exact this e
 ·cases hk
theorem FwD.apart (D : FwD M h r t P loc lost cs) (hr : r ≠ 0) : loc &&& lost = 0 := Nat.eq_of_testBit_eq (fun j => by
 rw [Nat.testBit_and, Nat.zero_testBit, D.hloc, D.hlost]
 by_cases e : h j = r
 ·have : lzB h r t j = false := by unfold lzB; simp [e, hr]
  simp [this]
 ·simp [e])
theorem FwD.new (D : FwD M h r t P loc lost cs) (hM : Ms M h) (hP : U64 P) {i : Nat} {y : Int × Nat} (hy : cs[i]? = some y) : orC (cs.take i) (loc ||| lost) &&& y.2 = 0 := Nat.eq_of_testBit_eq (fun j => by
 rw [Nat.testBit_and, Nat.zero_testBit]
 cases hb : y.2.testBit j with
 | false => simp
 | true =>
  obtain ⟨c1, c2, c3, -, -, -, -, c4⟩ := D.mem hM hP (List.mem_of_getElem? hy)
  obtain ⟨-, hu⟩ := c4 j hb
  rw [orC_bit, Nat.testBit_or, D.hloc, D.hlost]
  have h1 : decide (h j = r) = false := decide_eq_false (by rw [hu]; exact c3)
  have h2 : lzB h r t j = false := by
   unfold lzB
   rw [c1, decide_eq_false (by rw [hu]; exact c2)]
   rfl
  have h3 : (cs.take i).any (fun z => z.2.testBit j) = false := by
   rw [List.any_eq_false]
   intro z hz hzb
   have := (D.mem hM hP (List.mem_of_mem_take hz)).2.2.2.2.2.2.2 j (by simpa using hzb)
   exact D.once hM hP hy z hz (this.2.symm.trans hu)
  rw [h1, h2, h3]
  simp)
theorem FwD.full (D : FwD M h r t P loc lost cs) (hM : Ms M h) (hP : U64 P) : orC cs (loc ||| lost) = P := Nat.eq_of_testBit_eq (fun j => by
 rw [orC_bit, Nat.testBit_or, D.hloc, D.hlost]
 cases hp : P.testBit j with
 | false =>
  have h3 : cs.any (fun z => z.2.testBit j) = false := by
   rw [List.any_eq_false]
   intro z hz hzb
   have := ((D.mem hM hP hz).2.2.2.2.2.2.2 j (by simpa using hzb)).1
   rw [hp] at this
   cases this
  rw [h3]
  rfl
 | true =>
  by_cases e : czB h r t j = true
  ·have hx : (fltB (czB h r t) P).testBit j = true := by rw [fltB_bit hP, hp, e]; rfl
   have hin := cpB_full hM _ (fltB_u (czB h r t) hP) (FwD.zs hP) j hx
   rw [← D.hcs] at hin
   have hb : (fltB (czB h r t) P &&& M (h j)).testBit j = true := by
    rw [Nat.testBit_and, hx, Bool.true_and]
    exact ((hM _ (cz_ne e).2.1).2 j).2 ⟨rfl, u64_bit hP hp⟩
   have h3 : cs.any (fun z => z.2.testBit j) = true := List.any_eq_true.2 ⟨_, hin, hb⟩
   rw [h3]
   simp
  ·have h4 : (decide (h j = r) || lzB h r t j) = true := by
    unfold czB at e
    unfold lzB
    revert e
    cases t <;> cases decide (h j = 0) <;> cases decide (h j = r) <;> simp
   revert h4
   cases decide (h j = r) <;> cases lzB h r t j <;> simp)
/-! A packet with a single bit of the packet. -/
theorem FwD.oneLoc {loc1 lost1 : Nat} {cs1 : List (Int × Nat)} (D : FwD M h r t P loc lost cs) {j : Nat} (hj : P.testBit j = true) (D1 : FwD M h r t (2 ^ j) loc1 lost1 cs1) : loc1 = loc &&& 2 ^ j ∧ lost1 = lost &&& 2 ^ j := by
 constructor
 ·refine Nat.eq_of_testBit_eq (fun k => ?_)
  rw [Nat.testBit_and, D1.hloc, D.hloc]
  cases hk : (2 ^ j).testBit k with
  | false => simp
  | true =>
   obtain rfl := two_bit hk
   rw [hj]
   simp
 ·refine Nat.eq_of_testBit_eq (fun k => ?_)
  rw [Nat.testBit_and, D1.hlost, D.hlost]
  cases hk : (2 ^ j).testBit k with
  | false => simp
  | true =>
   obtain rfl := two_bit hk
   rw [hj]
   simp
theorem FwD.has (D : FwD M h r t P loc lost cs) (hM : Ms M h) (hP : U64 P) {j : Nat} (hj : P.testBit j = true) {y : Int × Nat} (hy : y ∈ cs) : y.2.testBit j = true ↔ y.1 = h j := by
 obtain ⟨c1, c2, c3, c4, -, -, -, c5⟩ := D.mem hM hP hy
 constructor
 ·intro hb
  exact (c5 j hb).2.symm
 ·intro e
  rw [c4, Nat.testBit_and, hj, Bool.true_and]
  exact ((hM _ c2).2 j).2 ⟨e.symm, u64_bit hP hj⟩
end Go.Proofs.YtpogblengagpaaaGreatDoor

/- forward, the mathematics: the next hop of each bit and the masks. -/
namespace Go.Proofs.YtpogblengagpaaaGreatDoor
set_option maxRecDepth 100000
open Go.RowKit Go.Maps Bs
def hpF (n set : Int) (k : Nat) (L : List Rw) (j : Nat) : Int := if atOk set (j : Int) n = true then hopI L (atI set (j : Int) n) k else 0
theorem hop_pos {r s n : Int} {L : List Rw} (h : ckT r s n L = 0) {id : Int} {k : Nat} (h0 : hopI L id k ≠ 0) : 1 ≤ hopI L id k ∧ hopI L id k ≤ 99 := by
 have ho := ck_ok h
 unfold hopI at h0 ⊢
 cases hf : fdW L id with
 | none =>
  rw [hf] at h0
  exact absurd rfl h0
 | some x =>
  rw [hf, Option.getD_some] at h0
  rw [Option.getD_some]
  exact nx_in (any_memT ho.2.1 (List.mem_of_find?_eq_some hf)) h0
theorem ms_fw {r s n : Int} {L : List Rw} (h : ckT r s n L = 0) {N : Nat} (hN : n = (N : Int)) (k : Nat) (set : Int) : Ms (fun u => (colL n set k L u).getD 0) (hpF n set k L) := by
 have ho := ck_ok h
 have hok : ColOk (colL n set k L) := by
  have := colL_ok (n := n) (set := set) (k := k) ho.2.1 L.length
  rwa [List.take_length] at this
 intro u hu
 refine ⟨hok.getD u, fun j => ?_⟩
 by_cases hp : 0 < u
 ·show ((colL n set k L u).getD 0).testBit j = true ↔ _
  have h64 : ((colL n set k L u).getD 0).testBit j = true → j < 64 := u64_bit (hok.getD u)
  rw [← mask_eq h hN hp] at h64 ⊢
  rw [btA_bit] at h64 ⊢
  unfold btP at h64 ⊢
  unfold hpF
  simp only [Bool.and_eq_true, decide_eq_true_eq] at h64 ⊢
  constructor
  ·rintro ⟨h1, ⟨h2, h3⟩, h4⟩
   exact ⟨by rw [if_pos h2]; exact h4, h64 ⟨h1, ⟨h2, h3⟩, h4⟩⟩
  ·rintro ⟨h1, h2⟩
   by_cases ha : atOk set (j : Int) n = true
   ·rw [if_pos ha] at h1
    refine ⟨?_, ⟨ha, hp⟩, h1⟩
    unfold atOk inV at ha
    simp only [Bool.and_eq_true, decide_eq_true_eq] at ha
    omega
   ·rw [if_neg ha] at h1
    exact absurd h1.symm hu
 ·constructor
  ·intro hb
   obtain ⟨x, hx, -, h2, -, -⟩ := (colL_bit L u j).1 hb
   have := nx_in (k := k) (any_memT ho.2.1 hx) (by rw [h2]; exact hu)
   omega
  ·rintro ⟨h1, -⟩
   unfold hpF at h1
   by_cases ha : atOk set (j : Int) n = true
   ·rw [if_pos ha] at h1
    have := hop_pos h (id := atI set (j : Int) n) (k := k) (by rw [h1]; exact hu)
    omega
   ·rw [if_neg ha] at h1
    exact absurd h1.symm hu
end Go.Proofs.YtpogblengagpaaaGreatDoor

/- forward, the mathematics: the least bit as bitset.First says it. -/
namespace Go.Proofs.YtpogblengagpaaaGreatDoor
set_option maxRecDepth 100000
open Go.RowKit Bs
theorem lst_ctz {b : Nat} (hb : U64 b) (h0 : b ≠ 0) : Lst b (Lib.ctz 64 b) := by
 have hc : Lib.ctz 64 b = Lib.ctzFrom 64 b := by unfold Lib.ctz; rw [if_neg h0]
 obtain ⟨m, hm, -⟩ := Lib.ctzFrom_spec 64 b (Nat.pos_of_ne_zero h0) hb
 rw [hc]
 generalize Lib.ctzFrom 64 b = c at hm
 refine ⟨?_, fun i hi => ?_⟩
 ·rw [hm, Nat.testBit_two_pow_mul]
  simp
 ·rcases Nat.lt_or_ge i c with h | h
  ·rw [hm, Nat.testBit_two_pow_mul] at hi
   simp at hi
   omega
  ·exact h
theorem and_two {a j : Nat} : (a &&& 2 ^ j = 0) ↔ a.testBit j = false := by
 constructor
 ·intro e
  have := congrArg (fun x => x.testBit j) e
  simp only [Nat.testBit_and, Nat.testBit_two_pow_self, Bool.and_true, Nat.zero_testBit] at this
  exact this
 ·intro e
  refine Nat.eq_of_testBit_eq (fun k => ?_)
  rw [Nat.testBit_and, Nat.zero_testBit]
  cases hk : (2 ^ j).testBit k with
  | false => simp
  | true =>
   obtain rfl := two_bit hk
   rw [e]
   rfl
end Go.Proofs.YtpogblengagpaaaGreatDoor

/- packet: the table of the fields. -/
namespace Go.Proofs.YtpogblengagpaaaGreatDoor
set_option maxRecDepth 100000
open Go.RowKit Bs
theorem vpk_parts {P : Pk} (h : vpk P = true) : ((1 ≤ P.mode ∧ P.mode ≤ 3) ∧ (0 ≤ P.sub ∧ P.sub ≤ 7) ∧ (0 ≤ P.set ∧ P.set ≤ 31) ∧ (0 ≤ P.ttl ∧ P.ttl ≤ 63) ∧ (0 ≤ P.ent ∧ P.ent ≤ 1023) ∧ (0 ≤ P.ing ∧ P.ing ≤ 256) ∧ (0 ≤ P.pro ∧ P.pro ≤ 7) ∧ P.pay.size ≤ 64 ∧ vb P.bits P.len = true) := of_decide_eq_true h
theorem vb_vl {b : Nat} {n : Int} (h : vb b n = true) : vl n = true := by
 unfold vb at h
 exact (Bool.and_eq_true _ _ ▸ h).1
end Go.Proofs.YtpogblengagpaaaGreatDoor

/- The program's functions on bits: List, Nth, Rank, Spread, Gather. -/
namespace Go.Proofs.YtpogblengagpaaaGreatDoor
set_option maxRecDepth 100000
open Go.RowKit Bs

theorem Tb.grown {w w' : World} {r : Option Nat} (h : Tb w) (g : w.grownBy w' r) (hr : r ≠ some 0) : Tb w' := by
 intro j hj
 exact g.cell (h j hj) (fun e => hr e.symm)
theorem Tb.keep {w w' : World} (h : Tb w) (g : w.grownBy w' none) : Tb w' := h.grown g (by simp)

theorem fst_pos {c : Nat} (h : c ≠ 0) : fst c = ((Lib.ctz 64 c : Nat) : Int) := by unfold fst; rw [if_neg h]

end Go.Proofs.YtpogblengagpaaaGreatDoor

/- packet: a header's block. -/
namespace Go.Proofs.YtpogblengagpaaaGreatDoor
set_option maxRecDepth 100000
open Go.RowKit Bs
theorem World.lt_of_row' {w : World} {b : Nat} {o : Obj} (h : w.heap[b]? = some o) : b < w.heap.size := (Array.getElem?_eq_some_iff.1 h).1
def pcells (P : Pk) : Array Value := #[.int .i64 P.mode, .int .i64 P.sub, .int .i64 P.set, .int .i64 P.len, .int .i64 P.ttl, .int .i64 P.ent, .int .i64 P.ing, .int .i64 P.pro, .int .u64 (P.bits : Int), .string P.pay]
theorem p_facts {w : World} {b : Nat} {P : Pk} (h : w.heap[b]? = some (.cells (pcells P) 28 (0, 0))) :
  w.cell? ⟨b, 0, none⟩ = some (.int .i64 P.mode) ∧ w.cell? ⟨b, 1, none⟩ = some (.int .i64 P.sub) ∧ w.cell? ⟨b, 2, none⟩ = some (.int .i64 P.set) ∧ w.cell? ⟨b, 3, none⟩ = some (.int .i64 P.len) ∧ w.cell? ⟨b, 4, none⟩ = some (.int .i64 P.ttl) ∧ w.cell? ⟨b, 5, none⟩ = some (.int .i64 P.ent) ∧ w.cell? ⟨b, 6, none⟩ = some (.int .i64 P.ing) ∧ w.cell? ⟨b, 7, none⟩ = some (.int .i64 P.pro) ∧ w.cell? ⟨b, 8, none⟩ = some (.int .u64 (P.bits : Int)) ∧ w.cell? ⟨b, 9, none⟩ = some (.string P.pay) :=
 ⟨cell_of_row _ _ _ _ _ _ h, cell_of_row _ _ _ _ _ _ h, cell_of_row _ _ _ _ _ _ h, cell_of_row _ _ _ _ _ _ h, cell_of_row _ _ _ _ _ _ h, cell_of_row _ _ _ _ _ _ h, cell_of_row _ _ _ _ _ _ h, cell_of_row _ _ _ _ _ _ h, cell_of_row _ _ _ _ _ _ h, cell_of_row _ _ _ _ _ _ h⟩
section
variable {W w w1 : World} {P : Pk} {h g S : Nat} {B B2 : List Bool}
end
end Go.Proofs.YtpogblengagpaaaGreatDoor

/- packet: Valid. -/
namespace Go.Proofs.YtpogblengagpaaaGreatDoor
set_option maxRecDepth 100000
open Go.RowKit Bs
def vrows (P : Pk) : List (Int × Int × Int) := [(P.mode, 1, 3), (P.sub, 0, 7), (P.set, 0, 31), (P.ttl, 0, 63), (P.ent, 0, 1023), (P.ing, 0, 256), (P.pro, 0, 7), ((P.pay.size : Int), 0, 64)]
def vcells (P : Pk) : Array Value := #[.int .i64 P.mode, .int .i64 1, .int .i64 3, .int .i64 P.sub, .int .i64 0, .int .i64 7, .int .i64 P.set, .int .i64 0, .int .i64 31, .int .i64 P.ttl, .int .i64 0, .int .i64 63,
 .int .i64 P.ent, .int .i64 0, .int .i64 1023, .int .i64 P.ing, .int .i64 0, .int .i64 256, .int .i64 P.pro, .int .i64 0, .int .i64 7, .int .i64 (P.pay.size : Int), .int .i64 0, .int .i64 64]
theorem vrow_at (P : Pk) (k : Nat) (hk : k < 8) : ∃ x lo hi : Int, (vcells P)[k * 3]? = some (.int .i64 x) ∧ (vcells P)[k * 3 + 1]? = some (.int .i64 lo) ∧ (vcells P)[k * 3 + 2]? = some (.int .i64 hi) ∧ (vrows P)[k]? = some (x, lo, hi) := by
 rcases (show k = 0 ∨ k = 1 ∨ k = 2 ∨ k = 3 ∨ k = 4 ∨ k = 5 ∨ k = 6 ∨ k = 7 by omega) with rfl | rfl | rfl | rfl | rfl | rfl | rfl | rfl <;> exact ⟨_, _, _, rfl, rfl, rfl, rfl⟩
def Kept (P : Pk) (k : Nat) : Prop := ∀ j x lo hi, j < k → (vrows P)[j]? = some (x, lo, hi) → lo ≤ x ∧ x ≤ hi
theorem vpk_kept {P : Pk} (h : Kept P 8) : vpk P = vb P.bits P.len := by
 have h0 := h 0 _ _ _ (by decide) rfl
 have h1 := h 1 _ _ _ (by decide) rfl
 have h2 := h 2 _ _ _ (by decide) rfl
 have h3 := h 3 _ _ _ (by decide) rfl
 have h4 := h 4 _ _ _ (by decide) rfl
 have h5 := h 5 _ _ _ (by decide) rfl
 have h6 := h 6 _ _ _ (by decide) rfl
 have h7 := h 7 _ _ _ (by decide) rfl
 unfold vpk
 by_cases hb : vb P.bits P.len = true
 ·rw [hb]; exact decide_eq_true ⟨h0, h1, h2, h3, h4, h5, h6, by omega, rfl⟩
 ·rw [Bool.not_eq_true] at hb
  rw [hb]; exact decide_eq_false fun h => by cases h.2.2.2.2.2.2.2.2
theorem vpk_row {P : Pk} (h : vpk P = true) {k : Nat} {x lo hi : Int} (hk : k < 8) (hr : (vrows P)[k]? = some (x, lo, hi)) : lo ≤ x ∧ x ≤ hi := by
 obtain ⟨h0, h1, h2, h3, h4, h5, h6, h7, _⟩ := vpk_parts h
 rcases (show k = 0 ∨ k = 1 ∨ k = 2 ∨ k = 3 ∨ k = 4 ∨ k = 5 ∨ k = 6 ∨ k = 7 by omega) with rfl | rfl | rfl | rfl | rfl | rfl | rfl | rfl <;> cases hr
 ·exact h0
 ·exact h1
 ·exact h2
 ·exact h3
 ·exact h4
 ·exact h5
 ·exact h6
 ·exact ⟨by omega, by omega⟩
theorem vpk_not {P : Pk} {k : Nat} {x lo hi : Int} (hk : k < 8) (hr : (vrows P)[k]? = some (x, lo, hi)) (hn : ¬ (lo ≤ x ∧ x ≤ hi)) : vpk P = false := by
 cases h : vpk P with
 | false => rfl
 | true => exact absurd (vpk_row h hk hr) hn
set_option maxHeartbeats 3200000 in
theorem pvalid_any (P : Pk) (hP : P.Wf) (w : World) :
  Calls Tryz.prog 65 #[P.val] w fun e w' => e = .returned (.bool (vpk P)) ∧ w.grownBy w' none := by
 unfold Pk.val
 go_enter Tryz.func65, Tryz.ntmps65
 go_wp2_with fail
 obtain ⟨k1, k2, k3, k4⟩ := two_boxes w (pcells P) (vcells P) 28 144
 have HA := Lib.hid (And.intro k1 (And.intro k2 k3))
 clear k1 k2 k3 k4
 unfold pcells vcells at HA
 generalize ((w.alloc (.cells #[.int .i64 P.mode, .int .i64 P.sub, .int .i64 P.set, .int .i64 P.len, .int .i64 P.ttl, .int .i64 P.ent, .int .i64 P.ing, .int .i64 P.pro, .int .u64 (P.bits : Int), .string P.pay] 28)).alloc _) = wa at *
 change Hid (wa.heap[w.heap.size]? = some (.cells (pcells P) 28 (0, 0)) ∧ wa.heap[w.heap.size + 1]? = some (.cells (vcells P) 144 (0, 0)) ∧ w.grownBy wa none) at HA
 have hK0 : Hid (Kept P 0) := Lib.hid fun j x lo hi hj => absurd hj (Nat.not_lt_zero j)
 go_loopw [32] (fun i wr => ∃ k : Nat, k ≤ 8 ∧ i = .int .i64 (k : Int) ∧ Hid (Kept P k) ∧ Hid (wa.grownBy wr none)) (fun i _ => (8 - (RowKit.intOf i).toNat))
 case atStart => exact ⟨0, Nat.zero_le _, rfl, hK0, Lib.hid (grown_refl _ _)⟩
 case round =>
  obtain ⟨k, hk, rfl, hK, hG⟩ := hrel
  clear hK0
  have GE := Lib.hid (grown_trans HA.out.2.2 hG.out)
  by_cases hk2 : k < 8
  ·obtain ⟨x, lo, hi, c0, c1, c2, hr⟩ := vrow_at P k hk2
   have hrow := kept_row HA.out.2.1 hG.out (by simp)
   have d0 := (cell_of_row _ _ _ _ _ _ hrow).trans c0
   have d1 := (cell_of_row _ _ _ _ _ _ hrow).trans c1
   have d2 := (cell_of_row _ _ _ _ _ _ hrow).trans c2
   have HR := Lib.hid hr
   clear c0 c1 c2 hr hrow
   by_cases h1 : x < lo
   ·have hn := Lib.hid (vpk_not hk2 HR.out (by omega))
    go_wp2_with fail
    go_ret
    exact ⟨by rw [hn.out]; rfl, grown_trans GE.out (World.grownBy_alloc _ _ none)⟩
   ·by_cases h2 : hi < x
    ·have hn := Lib.hid (vpk_not hk2 HR.out (by omega))
     go_wp2_with fail
     go_ret
     exact ⟨by rw [hn.out]; rfl, grown_trans GE.out (World.grownBy_alloc _ _ none)⟩
    ·go_wp2_with fail
     go_roundw
     case rel =>
      refine ⟨k + 1, by omega, by go_num, Lib.hid fun j y lo' hi' hj hr => ?_, Lib.hid (grown_trans hG.out (World.grownBy_alloc _ _ none))⟩
      by_cases hjk : j < k
      ·exact hK.out j y lo' hi' hjk hr
      ·obtain rfl : j = k := by omega
       rw [HR.out] at hr
       cases hr
       exact ⟨by omega, by omega⟩
     case measure => simp [RowKit.intOf]; omega
  ·obtain rfl : k = 8 := by omega
   obtain ⟨a0, a1, a2, a3, a4, a5, a6, a7, a8, a9⟩ := p_facts (kept_row HA.out.1 hG.out (by simp))
   have hv := Lib.hid (vpk_kept hK.out)
   go_wp2_with fail
   refine (bvalidp_any P.bits P.len hP.bits _).mono ?_
   rintro e w9 ⟨rfl, rfl⟩
   go_wp2_with fail
   go_ret
   exact ⟨by rw [hv.out]; rfl, GE.out⟩
end Go.Proofs.YtpogblengagpaaaGreatDoor

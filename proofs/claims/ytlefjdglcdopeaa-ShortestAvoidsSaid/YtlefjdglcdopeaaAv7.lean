/- Parts of the proof, packed: ToLkM, ToLook, ToCln, ToDel, ShMath, ShDij. -/
import Derived.Test.YtlefjdglcdopeaaAv6
import Derived.Test.YtlefjdglcdopeaaAv5
import Derived.Lib.SliceRun
import Derived.Test.YtlefjdglcdopeaaAv2
/- What is looked up in a valid topology: the mathematics. -/
namespace Go.Proofs.Ytlefjdglcdopeaa
open Go.RowKit Bs
set_option maxRecDepth 100000 in
theorem pair_get {α : Type} {f : α → α → Bool} {l : List α} (h : l.Pairwise (fun x z => f x z = true)) {i j : Nat} {x y : α} (hij : i < j) (hx : l[i]? = some x) (hy : l[j]? = some y) : f x y = true := by
  obtain ⟨hi, rfl⟩ := List.getElem?_eq_some_iff.1 hx
  obtain ⟨hj, rfl⟩ := List.getElem?_eq_some_iff.1 hy
  exact List.pairwise_iff_getElem.1 h i j hi hj hij
/-- The router with a number, the first. -/
def capR (R : List Rt) (x : Int) : Bool := match R.find? (fun r => decide (r.id = x)) with
  | some r => r.cap
  | none => false
set_option maxRecDepth 100000 in
theorem bs_router {R : List Rt} {L : List Lk} (ho : OkAll R L) {x : Int} {c b : Bool} {i : Nat} (h : BsP cvR R ⟨x, c⟩ i b) :
    b = hasR R x ∧ (b = true → ∃ r, R[i]? = some r ∧ r.id = x ∧ r.cap = capR R x) := by
  have hp := pair_of_asc ltR ltR_trans R ho.rs
  have key : ∀ j y, R[j]? = some y → y.id = x → i = j := by
    intro j y hy hyx
    have hlt := (List.getElem?_eq_some_iff.1 hy).1
    by_cases h1 : i < j
    · obtain ⟨z, hz⟩ : ∃ z, R[i]? = some z := ⟨_, List.getElem?_eq_getElem (by omega)⟩
      have h2 := h.hi z hz
      have h3 := of_decide_eq_true (show decide (z.id < y.id) = true from pair_get hp h1 hz hy)
      unfold cvR at h2
      have h4 := cmpV_ge.1 h2
      simp only at h4
      omega
    · by_cases h1' : j < i
      · obtain ⟨z, hz⟩ : ∃ z, R[i - 1]? = some z := ⟨_, List.getElem?_eq_getElem (by have := h.le; omega)⟩
        have h2 := h.lo z (by omega) hz
        unfold cvR at h2
        have h4 := cmpV_lt.1 h2
        simp only at h4
        by_cases hj : j = i - 1
        · subst hj
          rw [hz] at hy
          obtain rfl := Option.some.inj hy
          omega
        · have h3 := of_decide_eq_true (show decide (y.id < z.id) = true from pair_get hp (by omega) hy hz)
          omega
      · omega
  have hb : b = true → ∃ r, R[i]? = some r ∧ r.id = x := by
    intro hb
    have he := h.eq
    rw [hb] at he
    cases hr : R[i]? with
    | none => rw [hr] at he; cases he
    | some r =>
      rw [hr] at he
      refine ⟨r, rfl, ?_⟩
      have he2 : cvR r ⟨x, c⟩ = 0 := by simpa using he.symm
      exact cmpV_eq.1 he2
  constructor
  · cases hh : hasR R x
    · cases hbb : b
      · rfl
      · obtain ⟨r, hr, he⟩ := hb hbb
        have : hasR R x = true := List.any_eq_true.2 ⟨r, List.mem_of_getElem? hr, decide_eq_true he⟩
        rw [hh] at this
        cases this
    · obtain ⟨r, hr, he⟩ := List.any_eq_true.1 hh
      obtain ⟨j, hj, hje⟩ := List.mem_iff_getElem.1 hr
      have hjs : R[j]? = some r := by rw [List.getElem?_eq_getElem hj, hje]
      obtain rfl := key j r hjs (of_decide_eq_true he)
      rw [h.eq, hjs]
      have : cvR r ⟨x, c⟩ = 0 := cmpV_eq.2 (of_decide_eq_true he)
      simp [this]
  · intro hbt
    obtain ⟨r, hr, he⟩ := hb hbt
    refine ⟨r, hr, he, ?_⟩
    unfold capR
    cases hf : R.find? (fun r => decide (r.id = x)) with
    | none =>
      have := List.find?_eq_none.1 hf r (List.mem_of_getElem? hr)
      rw [decide_eq_true he] at this
      exact absurd rfl this
    | some r2 =>
      have h2 := List.find?_some hf
      obtain ⟨j, hj, hje⟩ := List.mem_iff_getElem.1 (List.mem_of_find?_eq_some hf)
      have hjs : R[j]? = some r2 := by rw [List.getElem?_eq_getElem hj, hje]
      obtain rfl := key j r2 hjs (of_decide_eq_true h2)
      rw [hr] at hjs
      obtain rfl := Option.some.inj hjs
      rfl
/-- The cost from one router to another, of the first link that joins them. -/
def priceB (a b : Int) (l : Lk) : Option Int := if l.a = a ∧ l.b = b then some l.ca else if l.b = a ∧ l.a = b then some l.cb else none
def priceV (L : List Lk) (a b : Int) : Int × Bool := match L.findSome? (priceB a b) with
  | some c => (c, true)
  | none => (0, false)
set_option maxRecDepth 100000 in
theorem bs_link {R : List Rt} {L : List Lk} (ho : OkAll R L) {x y : Int} {b : Bool} {i : Nat} (h : BsP cvL L ⟨x, y, 0, 0, 0⟩ i b) :
    (b = true → ∃ l, L[i]? = some l ∧ l.a = x ∧ l.b = y) ∧ ∀ l ∈ L, l.a = x → l.b = y → b = true ∧ L[i]? = some l := by
  have hp := pair_of_asc ltL (fun _ _ _ => ltL_trans) L ho.ls
  have hb : b = true → ∃ r, L[i]? = some r ∧ r.a = x ∧ r.b = y := by
    intro hb
    have he := h.eq
    rw [hb] at he
    cases hr : L[i]? with
    | none => rw [hr] at he; cases he
    | some r =>
      rw [hr] at he
      have he2 : cvL r ⟨x, y, 0, 0, 0⟩ = 0 := by simpa using he.symm
      exact ⟨r, rfl, cmpL_eq.1 he2⟩
  refine ⟨hb, ?_⟩
  intro l hl hx hy
  obtain ⟨j, hj, hje⟩ := List.mem_iff_getElem.1 hl
  have hjs : L[j]? = some l := by rw [List.getElem?_eq_getElem hj, hje]
  have e : i = j := by
    by_cases h1 : i < j
    · obtain ⟨z, hz⟩ : ∃ z, L[i]? = some z := ⟨_, List.getElem?_eq_getElem (by omega)⟩
      have h2 := cmpL_ge.1 (show 0 ≤ cmpL z ⟨x, y, 0, 0, 0⟩ from h.hi z hz)
      have h3 := pair_get hp h1 hz hjs
      unfold ltL at h2 h3
      have h2 := of_decide_eq_false h2
      have h3 := of_decide_eq_true h3
      simp only at h2
      omega
    · by_cases h1' : j < i
      · obtain ⟨z, hz⟩ : ∃ z, L[i - 1]? = some z := ⟨_, List.getElem?_eq_getElem (by have := h.le; omega)⟩
        have h2 : ltL z ⟨x, y, 0, 0, 0⟩ = true := by
          cases hl2 : ltL z ⟨x, y, 0, 0, 0⟩ with
          | true => rfl
          | false =>
            have := cmpL_ge.2 hl2
            have h5 : cmpL z ⟨x, y, 0, 0, 0⟩ < 0 := h.lo z (by omega) hz
            omega
        unfold ltL at h2
        have h2 := of_decide_eq_true h2
        simp only at h2
        by_cases hj2 : j = i - 1
        · subst hj2
          rw [hz] at hjs
          obtain rfl := Option.some.inj hjs
          omega
        · have h3 := pair_get hp (show j < i - 1 by omega) hjs hz
          unfold ltL at h3
          have h3 := of_decide_eq_true h3
          omega
      · omega
  subst e
  refine ⟨?_, hjs⟩
  rw [h.eq, hjs]
  have : cvL l ⟨x, y, 0, 0, 0⟩ = 0 := cmpL_eq.2 ⟨hx, hy⟩
  simp [this]
set_option maxRecDepth 100000 in
theorem ends_lt {R : List Rt} {L : List Lk} (ho : OkAll R L) : ∀ l ∈ L, l.a < l.b := by
  intro l hl
  have h := List.any_eq_false.1 ho.en l hl
  unfold wrEnd at h
  have h2 : ¬ l.b ≤ l.a := fun hc => h (decide_eq_true hc)
  omega
set_option maxRecDepth 100000 in
/-- What Cost returns, by where the binary search has ended. -/
theorem bs_cost {R : List Rt} {L : List Lk} (ho : OkAll R L) {x y : Int} {b : Bool} {i : Nat} (h : BsP cvL L ⟨min x y, max x y, 0, 0, 0⟩ i b) :
    (b = false → priceV L x y = (0, false)) ∧ (b = true → ∃ l, L[i]? = some l ∧ priceV L x y = (if x < y then l.ca else l.cb, true)) := by
  obtain ⟨h1, h2⟩ := bs_link ho h
  have he := ends_lt ho
  constructor
  · intro hb
    unfold priceV
    have : L.findSome? (priceB x y) = none := by
      rw [List.findSome?_eq_none_iff]
      intro l hl
      have hlt := he l hl
      unfold priceB
      have n1 : ¬ (l.a = x ∧ l.b = y) := fun hc => by
        have := (h2 l hl (by omega) (by omega)).1
        rw [hb] at this; cases this
      have n2 : ¬ (l.b = x ∧ l.a = y) := fun hc => by
        have := (h2 l hl (by omega) (by omega)).1
        rw [hb] at this; cases this
      rw [if_neg n1, if_neg n2]
    rw [this]
  · intro hb
    obtain ⟨l, hl, ha, hbb⟩ := h1 hb
    refine ⟨l, hl, ?_⟩
    have hlt := he l (List.mem_of_getElem? hl)
    have hxy : x ≠ y := by omega
    have hall : ∀ m ∈ L, ∀ c, priceB x y m = some c → m = l := by
      intro m hm c hc
      unfold priceB at hc
      have hmlt := he m hm
      have hends : m.a = min x y ∧ m.b = max x y := by
        by_cases k1 : m.a = x ∧ m.b = y
        · omega
        · rw [if_neg k1] at hc
          by_cases k2 : m.b = x ∧ m.a = y
          · omega
          · rw [if_neg k2] at hc; cases hc
      have := (h2 m hm hends.1 hends.2).2
      rw [hl] at this
      exact (Option.some.inj this).symm
    have hval : priceB x y l = some (if x < y then l.ca else l.cb) := by
      unfold priceB
      by_cases hlt2 : x < y
      · rw [if_pos (by omega), if_pos hlt2]
      · rw [if_neg (by omega), if_pos (by omega), if_neg hlt2]
    unfold priceV
    cases hf : L.findSome? (priceB x y) with
    | none =>
      have := List.findSome?_eq_none_iff.1 hf l (List.mem_of_getElem? hl)
      rw [hval] at this; cases this
    | some c =>
      obtain ⟨m, hm, hmc⟩ := List.exists_of_findSome?_eq_some hf
      obtain rfl := hall m hm c hmc
      rw [hval] at hmc
      obtain rfl := Option.some.inj hmc
      rfl
/-- The neighbours of a router, in the order of the routers. -/
def nearR (R : List Rt) (L : List Lk) (x : Int) : List Int := (R.filter fun r => (priceV L x r.id).2).map (·.id)
set_option maxRecDepth 100000 in
theorem eq_of_asc : ∀ {l m : List Int}, l.Pairwise (· < ·) → m.Pairwise (· < ·) → (∀ x, x ∈ l ↔ x ∈ m) → l = m
  | [], [], _, _, _ => rfl
  | [], b :: m, _, _, h => by have := (h b).2 (by simp); cases this
  | a :: l, [], _, _, h => by have := (h a).1 (by simp); cases this
  | a :: l, b :: m, hl, hm, h => by
    obtain ⟨h1, h2⟩ := List.pairwise_cons.1 hl
    obtain ⟨h3, h4⟩ := List.pairwise_cons.1 hm
    have e : a = b := by
      have ha := (h a).1 (by simp)
      have hb := (h b).2 (by simp)
      rcases List.mem_cons.1 ha with ha | ha
      · exact ha
      rcases List.mem_cons.1 hb with hb | hb
      · exact hb.symm
      have := h1 b hb
      have := h3 a ha
      omega
    subst e
    congr 1
    refine eq_of_asc h2 h4 fun x => ?_
    constructor
    · intro hx
      rcases List.mem_cons.1 ((h x).1 (List.mem_cons_of_mem _ hx)) with rfl | hx2
      · have := h1 x hx; omega
      · exact hx2
    · intro hx
      rcases List.mem_cons.1 ((h x).2 (List.mem_cons_of_mem _ hx)) with rfl | hx2
      · have := h3 x hx; omega
      · exact hx2
set_option maxRecDepth 100000 in
theorem nb1_mem (x y : Int) (l : Lk) : y ∈ nb1 x l ↔ (l.b = x ∧ y = l.a) ∨ (l.a = x ∧ y = l.b) := by
  unfold nb1
  rw [List.mem_append]
  by_cases h1 : l.b = x <;> by_cases h2 : l.a = x <;> simp [h1, h2]
set_option maxRecDepth 100000 in
theorem price_ok (L : List Lk) (x y : Int) : (priceV L x y).2 = true ↔ ∃ l ∈ L, (l.b = x ∧ y = l.a) ∨ (l.a = x ∧ y = l.b) := by
  unfold priceV
  cases hf : L.findSome? (priceB x y) with
  | none =>
    simp only
    constructor
    · intro h; cases h
    · rintro ⟨l, hl, h⟩
      have := List.findSome?_eq_none_iff.1 hf l hl
      unfold priceB at this
      by_cases k1 : l.a = x ∧ l.b = y
      · rw [if_pos k1] at this; cases this
      · rw [if_neg k1] at this
        by_cases k2 : l.b = x ∧ l.a = y
        · rw [if_pos k2] at this; cases this
        · omega
  | some c =>
    simp only
    refine ⟨fun _ => ?_, fun _ => by trivial⟩
    obtain ⟨m, hm, hmc⟩ := List.exists_of_findSome?_eq_some hf
    refine ⟨m, hm, ?_⟩
    unfold priceB at hmc
    by_cases k1 : m.a = x ∧ m.b = y
    · exact .inr ⟨k1.1, k1.2.symm⟩
    · rw [if_neg k1] at hmc
      by_cases k2 : m.b = x ∧ m.a = y
      · exact .inl ⟨k2.1, k2.2.symm⟩
      · rw [if_neg k2] at hmc; cases hmc
set_option maxRecDepth 100000 in
theorem near_eq {R : List Rt} {L : List Lk} (ho : OkAll R L) (x : Int) : nbL L x = nearR R L x := by
  have he := ends_lt ho
  have hp := pair_of_asc ltL (fun _ _ _ => ltL_trans) L ho.ls
  have hr := pair_of_asc ltR ltR_trans R ho.rs
  refine eq_of_asc ?_ ?_ fun y => ?_
  · unfold nbL
    rw [List.pairwise_flatMap]
    refine ⟨fun l hl => ?_, ?_⟩
    · have := he l hl
      unfold nb1
      by_cases h1 : l.b = x <;> by_cases h2 : l.a = x <;> simp [h1, h2]
      omega
    · refine List.Pairwise.imp_of_mem ?_ hp
      intro l m hl hm hlm u hu v hv
      have h1 := he l hl
      have h2 := he m hm
      unfold ltL at hlm
      have h3 := of_decide_eq_true hlm
      rcases (nb1_mem x u l).1 hu with hu | hu <;> rcases (nb1_mem x v m).1 hv with hv | hv <;> omega
  · unfold nearR
    rw [List.pairwise_map]
    exact (hr.sublist List.filter_sublist).imp (fun h => of_decide_eq_true h)
  · unfold nbL nearR
    rw [List.mem_flatMap, List.mem_map]
    constructor
    · rintro ⟨l, hl, hy⟩
      have hy := (nb1_mem x y l).1 hy
      have hk := List.any_eq_false.1 ho.un l hl
      unfold unk at hk
      have hak : hasR R l.a = true ∧ hasR R l.b = true := by
        cases e1 : hasR R l.a <;> cases e2 : hasR R l.b <;> rw [e1, e2] at hk <;> simp at hk ⊢
      have hyr : hasR R y = true := by
        rcases hy with hy | hy
        · rw [hy.2]; exact hak.1
        · rw [hy.2]; exact hak.2
      obtain ⟨r, hr2, hid⟩ := List.any_eq_true.1 hyr
      have hid := of_decide_eq_true hid
      refine ⟨r, List.mem_filter.2 ⟨hr2, ?_⟩, hid⟩
      rw [hid]
      exact (price_ok L x y).2 ⟨l, hl, hy⟩
    · rintro ⟨r, hr2, rfl⟩
      obtain ⟨l, hl, h⟩ := (price_ok L x r.id).1 (List.mem_filter.1 hr2).2
      exact ⟨l, hl, (nb1_mem x r.id l).2 h⟩
end Go.Proofs.Ytlefjdglcdopeaa

/- topology: routerAt, linkAt, Has, Capable, Cost, Neighbours. -/
namespace Go.Proofs.Ytlefjdglcdopeaa
open Go.RowKit Bs
set_option maxRecDepth 100000 in
set_option maxHeartbeats 1600000 in
theorem trat_any (T : Tg) (x : Int) (q : Nat → Prop) (w : World) (hT : TgOk w q T) (h1 : T.R.length ≤ 1000000) :
    Calls Try.prog 92 #[.agg #[.slice T.pR T.R.length T.cR, .slice T.pL T.L.length T.cL], .int .i64 x] w fun e w' => BsPost cvR T.R ⟨x, false⟩ w e w' := by
  obtain ⟨R, L, pR, cR, pL, cL⟩ := T
  simp only at h1 ⊢
  obtain ⟨k1, k2⟩ := tone_box w #[.slice pR R.length cR, .slice pL L.length cL] 28
  have HB := Lib.hid (And.intro k1 (And.intro k2 (hT.keep k2)))
  clear k1 k2 hT
  go_enter Try.func92, Try.ntmps92
  go_upto_region 1 with fail
  generalize w.alloc _ = wa at *
  obtain ⟨c0, c1⟩ := row_cells HB.out.1
  go_wp2_with fail
  refine (bsR_any R ⟨x, false⟩ pR cR _ wa HB.out.2.2.r h1).mono ?_
  rintro e w1 ⟨i, b, rfl, hb, hg⟩
  have HG := Lib.hid hg
  clear hg
  go_wp2_with fail
  go_ret2
  exact ⟨i, b, rfl, hb, grown_trans HB.out.2.1 HG.out⟩
/-- The results of Has, Capable, Cost, Neighbours. -/
def hasV (R : List Rt) (L : List Lk) (x : Int) : Bool := okT R L && hasR R x
def capV (R : List Rt) (L : List Lk) (x : Int) : Bool := okT R L && capR R x
def costV (R : List Rt) (L : List Lk) (x y : Int) : Int × Bool := if okT R L = true then priceV L x y else (0, false)
def nearV (R : List Rt) (L : List Lk) (x : Int) : List Int := if okT R L = true then nearR R L x else []
set_option maxRecDepth 100000 in
theorem capR_has {R : List Rt} {x : Int} (h : hasR R x = false) : capR R x = false := by
  unfold capR
  cases hf : R.find? (fun r => decide (r.id = x)) with
  | none => rfl
  | some r =>
    have h2 := List.find?_some hf
    have : hasR R x = true := List.any_eq_true.2 ⟨r, List.mem_of_find?_eq_some hf, h2⟩
    rw [h] at this; cases this
set_option maxRecDepth 100000 in
theorem okT_all {R : List Rt} {L : List Lk} (h : okT R L = true) : OkAll R L := chk_okAll (by unfold okT at h; simpa using h)
set_option maxRecDepth 100000 in
set_option maxHeartbeats 1600000 in
theorem thas_any (T : Tg) (x : Int) (q : Nat → Prop) (w : World) (hT : TgOk w q T) (h1 : T.R.length ≤ 1000000) :
    Calls Try.prog 80 #[.agg #[.slice T.pR T.R.length T.cR, .slice T.pL T.L.length T.cL], .int .i64 x] w fun e w' => e = .returned (.bool (hasV T.R T.L x)) ∧ w.grownBy w' none := by
  obtain ⟨R, L, pR, cR, pL, cL⟩ := T
  simp only at h1 ⊢
  obtain ⟨k1, k2⟩ := tone_box w #[.slice pR R.length cR, .slice pL L.length cL] 28
  have HB := Lib.hid (And.intro k1 (And.intro k2 (hT.keep k2)))
  clear k1 k2 hT
  obtain ⟨z, hz⟩ : ∃ z, hasV R L x = z := ⟨_, rfl⟩
  rw [hz]
  have HZ := Lib.hid hz
  clear hz
  go_enter Try.func80, Try.ntmps80
  go_upto_region 1 with fail
  generalize w.alloc _ = wa at *
  obtain ⟨c0, c1⟩ := row_cells HB.out.1
  go_wp2_with fail
  refine (trat_any ⟨R, L, pR, cR, pL, cL⟩ x _ wa HB.out.2.2 h1).mono ?_
  rintro e w1 ⟨i, b, rfl, hb, hg⟩
  have HG := Lib.hid hg
  clear hg c0 c1
  obtain ⟨c0, c1⟩ := row_cells (kept_row HB.out.1 HG.out (by simp))
  cases hv : okT R L
  · obtain rfl : false = z := by have := HZ.out; unfold hasV at this; rw [hv] at this; simpa using this
    go_wp2_with fail
    refine (tvalid_any ⟨R, L, pR, cR, pL, cL⟩ _ w1 (HB.out.2.2.keep HG.out)).mono ?_
    rintro e w2 ⟨rfl, hg⟩
    simp only
    rw [hv]
    have HG2 := Lib.hid (grown_trans HG.out hg)
    clear hg hv
    go_wp2_with fail
    go_ret
    exact ⟨rfl, grown_trans HB.out.2.1 HG2.out⟩
  · obtain rfl : b = z := by have := HZ.out; unfold hasV at this; rw [hv] at this; rw [← this]; exact (bs_router (okT_all hv) hb.out).1
    go_wp2_with fail
    refine (tvalid_any ⟨R, L, pR, cR, pL, cL⟩ _ w1 (HB.out.2.2.keep HG.out)).mono ?_
    rintro e w2 ⟨rfl, hg⟩
    simp only
    rw [hv]
    have HG2 := Lib.hid (grown_trans HG.out hg)
    clear hg hv
    go_wp2_with fail
    go_ret
    exact ⟨rfl, grown_trans HB.out.2.1 HG2.out⟩
end Go.Proofs.Ytlefjdglcdopeaa

/- slices.Clone of links and of routers; linkOf; what Apply makes (the values). -/
namespace Go.Proofs.Ytlefjdglcdopeaa
open Go.RowKit Bs
set_option maxRecDepth 100000 in
theorem info_lk2 : (Try.prog.info? 44).map (fun i => (i.zero, i.size, i.bytes)) = some (some (.agg #[.int .i64 0, .int .i64 0, .int .i64 0, .int .i64 0, .int .i64 0]), 5, 40) := by kernel_rfl
set_option maxRecDepth 100000 in
theorem info_rt2 : (Try.prog.info? 63).map (fun i => (i.zero, i.size, i.bytes)) = some (some (.agg #[.int .i64 0, .bool false]), 2, 16) := by kernel_rfl
set_option maxRecDepth 100000 in
set_option maxHeartbeats 1600000 in
theorem tcloneL_any (L : List Lk) (p : Option Addr) (c : Nat) (q : Nat → Prop) (w : World) (hR : RdL5 w q (.slice p L.length c) L) (hn : p = none → c = 0) (hc : L.length ≤ c ∧ c ≤ 9223372036854775807) (hm : L.length ≤ 1000) :
    Calls Try.prog 61 #[.slice p L.length c] w fun e w' => ∃ v, e = .returned v ∧ w'.ownsRow w.heap.size 44 5 v L.length (L.flatMap lkC) ∧ w.grownBy w' none := by
  obtain ⟨ii, hii, hi0, hi1, hi2⟩ := info_parts info_lk2
  cases p with
  | none =>
    obtain rfl := hn rfl
    have h0 : L.length = 0 := by omega
    obtain rfl := List.eq_nil_of_length_eq_zero h0
    clear hR
    have heq : ∀ w : World, (binOp .eql 26 (.slice none 0 0) (.slice none 0 0)).run Try.prog w = .ok (.bool true) w := fun w => Lib.run_eql_slice_nil w _ _ none 0 0 0 0 Try.underlying26
    go_enter Try.func61, Try.ntmps61
    go_wp2_with fail
    go_ret
    exact ⟨_, rfl, World.ownsRow_nil _ _ _ _, grown_refl _ _⟩
  | some ad =>
    have k0 := World.grownBy_alloc w (.cells #[] 44) none
    have hlit : (w.alloc (.cells #[] 44)).ownsRow w.heap.size 44 5 (.slice (some ⟨w.heap.size, 0, none⟩) 0 0) 0 (([] : List Lk).flatMap lkC) := World.ownsRow_lit w #[] 0 (Nat.le_refl _) (by decide) rfl
    have HL := Lib.hid (And.intro hlit (And.intro k0 (hR.keep k0)))
    clear hlit k0 hR
    have heq : ∀ w : World, (binOp .eql 26 (.slice (some ad) L.length c) (.slice none 0 0)).run Try.prog w = .ok (.bool false) w := fun w => Lib.run_eql_slice_nil w _ _ (some ad) L.length c 0 0 Try.underlying26
    go_enter Try.func61, Try.ntmps61
    go_wp2_with (at_builtin; refine hold_on ?_)
    refine Lib.hid ?_
    refine wpList_append_f lkC 5 40 (by decide) (fun _ => rfl) lk_one 44 26 ii _ Try.underlying26 hii hi0 hi1 hi2 rfl (by decide) rfl _ _ rfl w.heap.size _ [] 0 rfl rfl HL.out.1 _ _ _ L rfl rfl (fun h => by cases h) q HL.out.2.2 hc.1 (by omega) (by simp) ?_
    intro v' w1 hown hg
    rw [List.nil_append] at hown
    have HO := Lib.hid (And.intro hown (old_grow HL.out.2.1 HL.out.1 (Nat.le_refl _) hg))
    clear hown hg
    go_wp2_with fail
    go_ret
    exact ⟨v', rfl, HO.out.1, HO.out.2⟩
/-- A change. -/
structure Ch where
  a : Int
  b : Int
  ca : Int
  cb : Int
def lkOf (c : Ch) : Lk := if c.b < c.a then ⟨c.b, c.a, c.cb, c.ca, 0⟩ else ⟨c.a, c.b, c.ca, c.cb, 0⟩
set_option maxRecDepth 100000 in
theorem ch_facts {w : World} {b : Nat} {x0 x1 x2 x3 : Value} {t : TypeId} (h : w.heap[b]? = some (.cells #[x0, x1, x2, x3] t (0, 0))) :
    w.cell? ⟨b, 0, none⟩ = some x0 ∧ w.cell? ⟨b, 1, none⟩ = some x1 ∧ w.cell? ⟨b, 2, none⟩ = some x2 ∧ w.cell? ⟨b, 3, none⟩ = some x3 := by
  refine ⟨?_, ?_, ?_, ?_⟩ <;> (rw [cell_of_row _ _ _ _ _ _ h]; rfl)
set_option maxRecDepth 100000 in
theorem link_size : (Try.prog.info? 44).map (·.size) = some 5 := by kernel_rfl
set_option maxRecDepth 100000 in
theorem res_link {fn : Func} {p : Tmp} (h : fn.results = #[.cell p 44]) (tmps : Array Value) (w : World) (g : Nat) (xs : Array Value) (hp : tmps.getD p undef = .pointer (some ⟨g, 0, none⟩)) (hn : xs.size = 5) (hg : w.heap[g]? = some (.cells xs 44 (0, 0))) :
    (results fn tmps).run Try.prog w = .ok (.agg xs) w := by
  exact results_cell_row h tmps w g _ _ _ _ hp hg Try.underlying44 rfl (by rw [hn]; exact link_size)
set_option maxRecDepth 100000 in
theorem store5 {w : World} {b : Nat} {x0 x1 x2 x3 x4 y0 y1 y2 y3 y4 : Value} {t : TypeId} (h : w.heap[b]? = some (.cells #[x0, x1, x2, x3, x4] t (0, 0))) :
    (((((w.setCell ⟨b, 0, none⟩ y0).setCell ⟨b, 1, none⟩ y1).setCell ⟨b, 2, none⟩ y2).setCell ⟨b, 3, none⟩ y3).setCell ⟨b, 4, none⟩ y4).heap[b]? = some (.cells #[y0, y1, y2, y3, y4] t (0, 0)) ∧ w.grownBy (((((w.setCell ⟨b, 0, none⟩ y0).setCell ⟨b, 1, none⟩ y1).setCell ⟨b, 2, none⟩ y2).setCell ⟨b, 3, none⟩ y3).setCell ⟨b, 4, none⟩ y4) (some b) := by
  refine ⟨?_, grown_trans (grown_trans (grown_trans (grown_trans (grown_setCell w ⟨b, 0, none⟩ y0) (grown_setCell _ ⟨b, 1, none⟩ y1)) (grown_setCell _ ⟨b, 2, none⟩ y2)) (grown_setCell _ ⟨b, 3, none⟩ y3)) (grown_setCell _ ⟨b, 4, none⟩ y4)⟩
  have e1 := heap_setCell_same w b 0 _ _ y0 h
  have e2 := heap_setCell_same _ b 1 _ _ y1 e1
  have e3 := heap_setCell_same _ b 2 _ _ y2 e2
  have e4 := heap_setCell_same _ b 3 _ _ y3 e3
  have e5 := heap_setCell_same _ b 4 _ _ y4 e4
  rw [e5]; rfl
end Go.Proofs.Ytlefjdglcdopeaa

/- slices.Delete of one link. -/
namespace Go.Proofs.Ytlefjdglcdopeaa
open Go.RowKit Bs
set_option maxRecDepth 100000 in
theorem lk_flat (L : List Lk) : (L.flatMap lkC).length = L.length * 5 := flat_len lkC 5 (fun _ => rfl) L
set_option maxRecDepth 100000 in
theorem zero_lk : (Builtin.zeroCells (Value.agg #[.int .i64 0, .int .i64 0, .int .i64 0, .int .i64 0, .int .i64 0]).cells 1).toList = [.int .i64 0, .int .i64 0, .int .i64 0, .int .i64 0, .int .i64 0] := by kernel_rfl
set_option maxRecDepth 100000 in
theorem list_eq {xs ys : List Value} (hl : xs.length = ys.length) (h : ∀ j, j < xs.length → xs[j]? = ys[j]?) : xs = ys := by
  apply List.ext_getElem?
  intro j
  by_cases hj : j < xs.length
  · exact h j hj
  · rw [List.getElem?_eq_none (by omega), List.getElem?_eq_none (by omega)]
set_option maxRecDepth 100000 in
/-- The cells of a list without one element. -/
theorem flat_erase (L : List Lk) (i : Nat) (_ : i < L.length) : (L.eraseIdx i).flatMap lkC = (L.flatMap lkC).take (i * 5) ++ (L.flatMap lkC).drop ((i + 1) * 5) := by
  rw [List.eraseIdx_eq_take_drop_succ, List.flatMap_append, flat_take lkC 5 (fun _ => rfl), flat_drop lkC 5 (fun _ => rfl)]
set_option maxRecDepth 100000 in
theorem del_cells (xs zs : List Value) (N i : Nat) (hx : xs.length = N * 5) (hz : zs.length = 5) (hi : i < N) : (setAt (setAt xs (i * 5) (xs.drop ((i + 1) * 5))) ((N - 1) * 5) zs).take ((N - 1) * 5) = xs.take (i * 5) ++ xs.drop ((i + 1) * 5) := by
  have hd : (xs.drop ((i + 1) * 5)).length = N * 5 - (i + 1) * 5 := by rw [List.length_drop, hx]
  have hl1 : (setAt xs (i * 5) (xs.drop ((i + 1) * 5))).length = N * 5 := by rw [setAt_len, hx]
  refine list_eq ?_ (fun j hj => ?_)
  · rw [List.length_take, setAt_len, hl1, List.length_append, List.length_take, hd, hx]
    omega
  · rw [List.length_take, setAt_len, hl1] at hj
    rw [List.getElem?_take_of_lt (by omega), setAt_get _ _ _ _ (by rw [hl1, hz]; omega), if_neg (by omega), setAt_get _ _ _ _ (by rw [hd, hx]; omega)]
    by_cases h1 : j < i * 5
    · rw [if_neg (by omega), List.getElem?_append_left (by rw [List.length_take, hx]; omega), List.getElem?_take_of_lt h1]
    · rw [if_pos (by rw [hd]; omega), List.getElem?_append_right (by rw [List.length_take, hx]; omega), List.length_take, hx, Nat.min_eq_left (by omega)]
end Go.Proofs.Ytlefjdglcdopeaa

/- Least costs: walks, what a closed table of costs says, what rounds of relaxing give. -/
namespace Go.Proofs.Ytlefjdglcdopeaa
/-- A link from u to v costs c. -/
def edg (L : List Lk) (u v c : Int) : Prop := ∃ l ∈ L, (l.a = u ∧ l.b = v ∧ l.ca = c) ∨ (l.b = u ∧ l.a = v ∧ l.cb = c)
/-- Some walk from s to v costs n. -/
def Wk (L : List Lk) (s v n : Int) : Prop := ∀ P : Int → Int → Prop, P s 0 → (∀ u m v c, P u m → edg L u v c → P v (m + c)) → P v n
set_option maxRecDepth 100000 in
theorem Wk.nil (L : List Lk) (s : Int) : Wk L s s 0 := fun _ h _ => h
set_option maxRecDepth 100000 in
theorem Wk.step {L : List Lk} {s u m v c : Int} (h : Wk L s u m) (e : edg L u v c) : Wk L s v (m + c) := fun P h0 hs => hs u m v c (h P h0 hs) e
set_option maxRecDepth 100000 in
theorem Wk.ind {L : List Lk} {s : Int} {Q : Int → Int → Prop} (h0 : Q s 0) (hs : ∀ u m v c, Wk L s u m → Q u m → edg L u v c → Q v (m + c)) {v n : Int} (h : Wk L s v n) : Q v n :=
  (h (fun v n => Wk L s v n ∧ Q v n) ⟨Wk.nil L s, h0⟩ (fun u m v c hu e => ⟨hu.1.step e, hs u m v c hu.1 hu.2 e⟩)).2
set_option maxRecDepth 100000 in
theorem Wk.last {L : List Lk} {s v n : Int} (h : Wk L s v n) : (v = s ∧ n = 0) ∨ ∃ u m c, Wk L s u m ∧ edg L u v c ∧ n = m + c :=
  Wk.ind (Q := fun v n => (v = s ∧ n = 0) ∨ ∃ u m c, Wk L s u m ∧ edg L u v c ∧ n = m + c) (.inl ⟨rfl, rfl⟩) (fun u m _ c hu _ e => .inr ⟨u, m, c, hu, e, rfl⟩) h
/-- Every link costs something. -/
def Pos (L : List Lk) : Prop := ∀ l ∈ L, 1 ≤ l.ca ∧ 1 ≤ l.cb
set_option maxRecDepth 100000 in
theorem Pos.edg {L : List Lk} (hp : Pos L) {u v c : Int} (e : edg L u v c) : 1 ≤ c := by
  obtain ⟨l, hl, h | h⟩ := e
  · have := (hp l hl).1; omega
  · have := (hp l hl).2; omega
set_option maxRecDepth 100000 in
theorem Wk.ge {L : List Lk} (hp : Pos L) {s v n : Int} (h : Wk L s v n) : 0 ≤ n :=
  Wk.ind (Q := fun _ n => 0 ≤ n) (Int.le_refl _) (fun u m v c _ h e => by have := hp.edg e; omega) h
/-- d is the least cost from s to v. -/
def IsD (L : List Lk) (s v d : Int) : Prop := Wk L s v d ∧ ∀ n, Wk L s v n → d ≤ n
set_option maxRecDepth 100000 in
theorem IsD.uniq {L : List Lk} {s v d e : Int} (h : IsD L s v d) (k : IsD L s v e) : d = e := by
  have := h.2 e k.1
  have := k.2 d h.1
  omega
set_option maxRecDepth 100000 in
theorem exists_D {L : List Lk} (hp : Pos L) {s v : Int} : ∀ (k : Nat) (n : Int), n.toNat ≤ k → Wk L s v n → ∃ d, IsD L s v d ∧ d ≤ n := by
  intro k
  induction k with
  | zero =>
    intro n hn h
    have h0 := h.ge hp
    exact ⟨n, ⟨h, fun m hm => by have := hm.ge hp; omega⟩, Int.le_refl _⟩
  | succ k ih =>
    intro n hn h
    rcases Classical.em (∃ m, Wk L s v m ∧ m < n) with ⟨m, hm, hmn⟩ | h1
    · have h0 := hm.ge hp
      obtain ⟨d, hd, hdm⟩ := ih m (by omega) hm
      exact ⟨d, hd, by omega⟩
    · refine ⟨n, ⟨h, fun m hm => ?_⟩, Int.le_refl _⟩
      rcases Int.lt_or_le m n with h2 | h2
      · exact absurd ⟨m, hm, h2⟩ h1
      · exact h2
set_option maxRecDepth 100000 in
theorem IsD.self {L : List Lk} (hp : Pos L) (s : Int) : IsD L s s 0 := ⟨Wk.nil L s, fun _ h => h.ge hp⟩
set_option maxRecDepth 100000 in
/-- A least walk ends with a link behind a least walk. -/
theorem IsD.pred {L : List Lk} {s v d : Int} (h : IsD L s v d) : (v = s ∧ d = 0) ∨ ∃ u e c, IsD L s u e ∧ edg L u v c ∧ d = e + c := by
  rcases h.1.last with h1 | ⟨u, m, c, hu, e, rfl⟩
  · exact .inl h1
  · refine .inr ⟨u, m, c, ⟨hu, fun n hn => ?_⟩, e, rfl⟩
    have := h.2 _ (hn.step e)
    omega
set_option maxRecDepth 100000 in
/-- A table of walks' costs that every link keeps is the table of the least costs. -/
theorem closed_D {L : List Lk} {s : Int} {f : Int → Option Int} (h0 : f s = some 0) (hw : ∀ v d, f v = some d → Wk L s v d) (hc : ∀ u d v c, f u = some d → edg L u v c → ∃ e, f v = some e ∧ e ≤ d + c) (v d : Int) : f v = some d ↔ IsD L s v d := by
  have low : ∀ {v n}, Wk L s v n → ∃ e, f v = some e ∧ e ≤ n := fun {v n} h =>
    Wk.ind (Q := fun v n => ∃ e, f v = some e ∧ e ≤ n) ⟨0, h0, Int.le_refl _⟩ (fun u m v c _ hq e => by
      obtain ⟨x, hx, hxm⟩ := hq
      obtain ⟨y, hy, hyx⟩ := hc u x v c hx e
      exact ⟨y, hy, by omega⟩) h
  constructor
  · intro h
    refine ⟨hw v d h, fun n hn => ?_⟩
    obtain ⟨e, he, hen⟩ := low hn
    rw [h] at he
    obtain rfl := Option.some.inj he
    exact hen
  · intro h
    obtain ⟨e, he, hen⟩ := low h.1
    have := h.2 e (hw v e he)
    rw [he, show e = d by omega]
/-! Relaxing. -/
/-- far: no walk is known. -/
def farN : Int := 1073741824
def updF (d : Int → Int) (v x : Int) : Int → Int := fun u => if u = v then x else d u
def rlx1 (d : Int → Int) (u v c : Int) : Int → Int := if d u < farN then updF d v (min (d v) (c + d u)) else d
/-- One link, both ways: first from its b to its a. -/
def rlx (d : Int → Int) (l : Lk) : Int → Int := rlx1 (rlx1 d l.b l.a l.cb) l.a l.b l.ca
def pass (L : List Lk) (d : Int → Int) : Int → Int := L.foldl rlx d
def passes (L : List Lk) : Nat → (Int → Int) → Int → Int
  | 0, d => d
  | k + 1, d => pass L (passes L k d)
def startF (s : Int) : Int → Int := fun u => if u = s then 0 else farN
/-- Whatever is known is some walk's cost. -/
def Snd (L : List Lk) (s : Int) (d : Int → Int) : Prop := ∀ v, d v = farN ∨ (d v < farN ∧ Wk L s v (d v))
set_option maxRecDepth 100000 in
theorem snd_rlx1 {L : List Lk} {s u v c : Int} {d : Int → Int} (h : Snd L s d) (e : edg L u v c) : Snd L s (rlx1 d u v c) := by
  unfold rlx1
  by_cases hu : d u < farN
  · rw [if_pos hu]
    intro x
    unfold updF
    by_cases hx : x = v
    · subst hx
      rw [if_pos rfl]
      have hwu : Wk L s u (d u) := by
        rcases h u with h1 | h1
        · omega
        · exact h1.2
      have hst := hwu.step e
      rcases h x with h1 | h1
      · rcases Int.lt_or_le (c + d u) farN with h2 | h2
        · refine .inr ⟨by omega, ?_⟩
          rw [show min (d x) (c + d u) = d u + c by omega]
          exact hst
        · exact .inl (by omega)
      · refine .inr ⟨by omega, ?_⟩
        rcases Int.lt_or_le (c + d u) (d x) with h2 | h2
        · rw [show min (d x) (c + d u) = d u + c by omega]
          exact hst
        · rw [show min (d x) (c + d u) = d x by omega]
          exact h1.2
    · rw [if_neg hx]
      exact h x
  · rw [if_neg hu]
    exact h
set_option maxRecDepth 100000 in
theorem le_rlx1 (d : Int → Int) (u v c x : Int) : rlx1 d u v c x ≤ d x := by
  unfold rlx1
  by_cases hu : d u < farN
  · rw [if_pos hu]
    unfold updF
    by_cases hx : x = v
    · subst hx
      rw [if_pos rfl]
      omega
    · rw [if_neg hx]
      omega
  · rw [if_neg hu]
    omega
set_option maxRecDepth 100000 in
theorem le_rlx (d : Int → Int) (l : Lk) (x : Int) : rlx d l x ≤ d x := Int.le_trans (le_rlx1 _ _ _ _ _) (le_rlx1 _ _ _ _ _)
set_option maxRecDepth 100000 in
theorem snd_rlx {L : List Lk} {s : Int} {d : Int → Int} (h : Snd L s d) {l : Lk} (hl : l ∈ L) : Snd L s (rlx d l) :=
  snd_rlx1 (snd_rlx1 h ⟨l, hl, .inr ⟨rfl, rfl, rfl⟩⟩) ⟨l, hl, .inl ⟨rfl, rfl, rfl⟩⟩
set_option maxRecDepth 100000 in
theorem fold_rlx {L : List Lk} {s : Int} : ∀ (M : List Lk) (d : Int → Int), (∀ l ∈ M, l ∈ L) → Snd L s d → Snd L s (M.foldl rlx d) ∧ ∀ x, M.foldl rlx d x ≤ d x
  | [], d, _, h => ⟨h, fun _ => Int.le_refl _⟩
  | l :: t, d, hm, h => by
    obtain ⟨i1, i2⟩ := fold_rlx t (rlx d l) (fun m hm2 => hm m (by simp [hm2])) (snd_rlx h (hm l (by simp)))
    exact ⟨i1, fun x => Int.le_trans (i2 x) (le_rlx d l x)⟩
set_option maxRecDepth 100000 in
theorem snd_pass {L : List Lk} {s : Int} {d : Int → Int} (h : Snd L s d) : Snd L s (pass L d) ∧ ∀ x, pass L d x ≤ d x := fold_rlx L d (fun _ h => h) h
set_option maxRecDepth 100000 in
theorem snd_start (L : List Lk) (s : Int) : Snd L s (startF s) := by
  intro v
  unfold startF
  by_cases h : v = s
  · subst h
    rw [if_pos rfl]
    exact .inr ⟨by decide, Wk.nil L v⟩
  · rw [if_neg h]
    exact .inl rfl
set_option maxRecDepth 100000 in
theorem snd_passes (L : List Lk) (s : Int) : ∀ k, Snd L s (passes L k (startF s))
  | 0 => snd_start L s
  | k + 1 => (snd_pass (snd_passes L s k)).1
set_option maxRecDepth 100000 in
/-- What is known is never below the least cost. -/
theorem Snd.low {L : List Lk} {s v e : Int} {d : Int → Int} (h : Snd L s d) (hD : IsD L s v e) (he : e < farN) : e ≤ d v := by
  rcases h v with h1 | h1
  · omega
  · exact hD.2 _ h1.2
set_option maxRecDepth 100000 in
theorem Snd.none {L : List Lk} {s v : Int} {d : Int → Int} (h : Snd L s d) (hn : ∀ n, ¬ Wk L s v n) : d v = farN := by
  rcases h v with h1 | h1
  · exact h1
  · exact absurd h1.2 (hn _)
set_option maxRecDepth 100000 in
/-- Relaxing a link behind a vertex that has its least cost. -/
theorem rlx1_hit {d : Int → Int} {u v c e : Int} (hu : d u = e) (he : e < farN) : rlx1 d u v c v ≤ e + c := by
  unfold rlx1
  rw [if_pos (by omega)]
  unfold updF
  rw [if_pos rfl]
  omega
set_option maxRecDepth 100000 in
theorem fold_hit {L : List Lk} {s u v c e : Int} (hDu : IsD L s u e) (he : e < farN) : ∀ (M : List Lk) (d : Int → Int), (∀ l ∈ M, l ∈ L) → Snd L s d → d u = e → (∃ l ∈ M, (l.a = u ∧ l.b = v ∧ l.ca = c) ∨ (l.b = u ∧ l.a = v ∧ l.cb = c)) → M.foldl rlx d v ≤ e + c
  | [], _, _, _, _, h => by obtain ⟨l, hl, _⟩ := h; cases hl
  | l :: t, d, hm, hs, hd, h => by
    have hl := hm l (by simp)
    have ht : ∀ m ∈ t, m ∈ L := fun m hm2 => hm m (by simp [hm2])
    have hs1 := snd_rlx hs hl
    have h1 : rlx d l u = e := by
      have := le_rlx d l u
      have := hs1.low hDu he
      omega
    obtain ⟨m, hmm, hme⟩ := h
    rcases List.mem_cons.1 hmm with rfl | hmt
    · refine Int.le_trans ((fold_rlx t (rlx d m) ht hs1).2 v) ?_
      have hs0 : Snd L s (rlx1 d m.b m.a m.cb) := snd_rlx1 hs ⟨m, hl, .inr ⟨rfl, rfl, rfl⟩⟩
      rcases hme with ⟨e1, e2, e3⟩ | ⟨e1, e2, e3⟩
      · have hu : rlx1 d m.b m.a m.cb u = e := by
          have := le_rlx1 d m.b m.a m.cb u
          have := hs0.low hDu he
          omega
        unfold rlx
        rw [← e3, ← e2]
        exact rlx1_hit (by rw [← e1] at hu; exact hu) he
      · refine Int.le_trans (le_rlx1 _ _ _ _ _) ?_
        rw [← e3, ← e2]
        exact rlx1_hit (by rw [e1]; exact hd) he
    · exact fold_hit hDu he t _ ht hs1 h1 ⟨m, hmt, hme⟩
open Classical in
/-- How many of V are nearer than e. -/
noncomputable def rnk (L : List Lk) (s : Int) (V : List Int) (e : Int) : Nat := (V.filter (fun u => decide (∃ x, IsD L s u x ∧ x < e))).length
open Classical in
set_option maxRecDepth 100000 in
theorem rnk_lt {L : List Lk} {s : Int} {V : List Int} {u e d : Int} (hu : u ∈ V) (hD : IsD L s u e) (h : e < d) : rnk L s V e < rnk L s V d := by
  unfold rnk
  have hsub : ∀ (W : List Int), u ∈ W → (W.filter (fun u => decide (∃ x, IsD L s u x ∧ x < e))).length < (W.filter (fun u => decide (∃ x, IsD L s u x ∧ x < d))).length := by
    have hle : ∀ (W : List Int), (W.filter (fun u => decide (∃ x, IsD L s u x ∧ x < e))).length ≤ (W.filter (fun u => decide (∃ x, IsD L s u x ∧ x < d))).length := by
      intro W
      induction W with
      | nil => exact Nat.le_refl _
      | cons a t ih =>
        rw [List.filter_cons, List.filter_cons]
        by_cases h1 : ∃ x, IsD L s a x ∧ x < e
        · obtain ⟨x, hx, hxe⟩ := h1
          rw [if_pos (decide_eq_true ⟨x, hx, hxe⟩), if_pos (decide_eq_true ⟨x, hx, by omega⟩), List.length_cons, List.length_cons]
          omega
        · rw [if_neg (by simpa using h1)]
          by_cases h2 : ∃ x, IsD L s a x ∧ x < d
          · rw [if_pos (decide_eq_true h2), List.length_cons]; omega
          · rw [if_neg (by simpa using h2)]; exact ih
    intro W
    induction W with
    | nil => intro h; cases h
    | cons a t ih =>
      intro hm
      rw [List.filter_cons, List.filter_cons]
      by_cases ha : a = u
      · subst ha
        have h1 : ¬ ∃ x, IsD L s a x ∧ x < e := fun ⟨x, hx, hxe⟩ => by have := hx.uniq hD; omega
        rw [if_neg (by simpa using h1), if_pos (decide_eq_true ⟨e, hD, h⟩), List.length_cons]
        have := hle t
        omega
      · have hm2 : u ∈ t := by
          rcases List.mem_cons.1 hm with h1 | h1
          · exact absurd h1.symm ha
          · exact h1
        have i1 := ih hm2
        by_cases h1 : ∃ x, IsD L s a x ∧ x < e
        · obtain ⟨x, hx, hxe⟩ := h1
          rw [if_pos (decide_eq_true ⟨x, hx, hxe⟩), if_pos (decide_eq_true ⟨x, hx, by omega⟩), List.length_cons, List.length_cons]
          omega
        · rw [if_neg (by simpa using h1)]
          by_cases h2 : ∃ x, IsD L s a x ∧ x < d
          · rw [if_pos (decide_eq_true h2), List.length_cons]; omega
          · rw [if_neg (by simpa using h2)]; exact i1
  exact hsub V hu
/-- Every end of a link is one of V. -/
def Ends (L : List Lk) (V : List Int) : Prop := ∀ l ∈ L, l.a ∈ V ∧ l.b ∈ V
set_option maxRecDepth 100000 in
theorem Ends.edg {L : List Lk} {V : List Int} (h : Ends L V) {u v c : Int} (e : edg L u v c) : u ∈ V ∧ v ∈ V := by
  obtain ⟨l, hl, ⟨rfl, rfl, -⟩ | ⟨rfl, rfl, -⟩⟩ := e
  · exact h l hl
  · exact ⟨(h l hl).2, (h l hl).1⟩
set_option maxRecDepth 100000 in
/-- Least costs are at most as many times the greatest cost as there are nearer vertices. -/
theorem D_le {L : List Lk} (hp : Pos L) {V : List Int} (hV : Ends L V) {C : Int} (hC : ∀ l ∈ L, l.ca ≤ C ∧ l.cb ≤ C) (h0 : 0 ≤ C) {s : Int} : ∀ (k : Nat) (v e : Int), IsD L s v e → rnk L s V e ≤ k → e ≤ C * k := by
  intro k
  induction k with
  | zero =>
    intro v e hD hr
    rcases hD.pred with ⟨-, rfl⟩ | ⟨u, x, c, hu, he, rfl⟩
    · simp
    · have := rnk_lt (hV.edg he).1 hu (show x < x + c by have := hp.edg he; omega)
      omega
  | succ k ih =>
    intro v e hD hr
    rcases hD.pred with ⟨-, rfl⟩ | ⟨u, x, c, hu, he, rfl⟩
    · exact Int.mul_nonneg h0 (by omega)
    · have h1 := rnk_lt (hV.edg he).1 hu (show x < x + c by have := hp.edg he; omega)
      have h2 := ih u x hu (by omega)
      have h3 : c ≤ C := by
        obtain ⟨l, hl, ⟨-, -, rfl⟩ | ⟨-, -, rfl⟩⟩ := he
        · exact (hC l hl).1
        · exact (hC l hl).2
      rw [show C * ((k + 1 : Nat) : Int) = C * (k : Int) + C by rw [Int.natCast_succ, Int.mul_add, Int.mul_one]]
      omega
set_option maxRecDepth 100000 in
/-- After k rounds whatever has at most k nearer vertices has its least cost. -/
theorem passes_hit {L : List Lk} (hp : Pos L) {V : List Int} (hV : Ends L V) {s : Int} : ∀ (k : Nat) (v e : Int), IsD L s v e → e < farN → rnk L s V e ≤ k → passes L k (startF s) v = e := by
  intro k
  induction k with
  | zero =>
    intro v e hD he hr
    rcases hD.pred with ⟨rfl, rfl⟩ | ⟨u, x, c, hu, hc, rfl⟩
    · show startF v v = 0
      unfold startF
      rw [if_pos rfl]
    · have := rnk_lt (hV.edg hc).1 hu (show x < x + c by have := hp.edg hc; omega)
      omega
  | succ k ih =>
    intro v e hD he hr
    have hs := snd_passes L s k
    have hlow := (snd_passes L s (k + 1)).low hD he
    have hup := (snd_pass hs).2 v
    show pass L (passes L k (startF s)) v = e
    have hlow' : e ≤ pass L (passes L k (startF s)) v := hlow
    rcases hD.pred with ⟨rfl, rfl⟩ | ⟨u, x, c, hu, hc, rfl⟩
    · have := ih v 0 hD he (by
        have : rnk L v V 0 = 0 := by
          unfold rnk
          rw [List.filter_eq_nil_iff.2]
          · rfl
          · intro a _
            have : ¬ ∃ y, IsD L v a y ∧ y < 0 := fun ⟨y, hy, hy0⟩ => by have := hy.1.ge hp; omega
            simpa using this
        omega)
      omega
    · have hcp := hp.edg hc
      have hx0 := hu.1.ge hp
      have h1 := rnk_lt (hV.edg hc).1 hu (show x < x + c by omega)
      have h2 := ih u x hu (by omega) (by omega)
      have h3 := fold_hit (v := v) (c := c) hu (by omega) L (passes L k (startF s)) (fun _ h => h) hs h2 hc
      have h4 : pass L (passes L k (startF s)) v ≤ x + c := h3
      omega
set_option maxRecDepth 100000 in
/-- As many rounds as vertices give the least costs. -/
theorem passes_D {L : List Lk} (hp : Pos L) {V : List Int} (hV : Ends L V) {C : Int} (hC : ∀ l ∈ L, l.ca ≤ C ∧ l.cb ≤ C) (h0 : 0 ≤ C) (hsm : C * (V.length : Int) < farN) {s : Int} (v e : Int) : (passes L V.length (startF s) v = e ∧ e < farN) ↔ IsD L s v e := by
  have hle : ∀ e, rnk L s V e ≤ V.length := fun e => by
    unfold rnk
    exact List.length_filter_le _ _
  have hsmall : ∀ v e, IsD L s v e → e < farN := fun v e hD => by
    have := D_le hp hV hC h0 V.length v e hD (hle e)
    omega
  constructor
  · rintro ⟨rfl, h2⟩
    rcases snd_passes L s V.length v with h3 | h3
    · omega
    · obtain ⟨d, hd, -⟩ := exists_D hp _ _ (Nat.le_refl _) h3.2
      rw [passes_hit hp hV V.length v d hd (hsmall v d hd) (hle d)]
      exact hd
  · intro hD
    exact ⟨passes_hit hp hV V.length v e hD (hsmall v e hD) (hle e), hsmall v e hD⟩
end Go.Proofs.Ytlefjdglcdopeaa

/- The program's way to the least costs: the nearest open router first. -/
namespace Go.Proofs.Ytlefjdglcdopeaa
/-- The neighbours of a router, with the costs of the links to them. -/
def nbD (L : List Lk) (r : Int) : List (Int × Int) := L.flatMap fun l => (if l.b = r then [(l.a, l.cb)] else []) ++ (if l.a = r then [(l.b, l.ca)] else [])
set_option maxRecDepth 100000 in
theorem nbD_mem {L : List Lk} {r v c : Int} : (v, c) ∈ nbD L r ↔ edg L r v c := by
  unfold nbD edg
  rw [List.mem_flatMap]
  constructor
  · rintro ⟨l, hl, h⟩
    refine ⟨l, hl, ?_⟩
    rcases List.mem_append.1 h with h1 | h1
    · by_cases e : l.b = r
      · rw [if_pos e] at h1
        have := List.mem_singleton.1 h1
        injection this with e1 e2
        exact .inr ⟨e, e1.symm, e2.symm⟩
      · rw [if_neg e] at h1; cases h1
    · by_cases e : l.a = r
      · rw [if_pos e] at h1
        have := List.mem_singleton.1 h1
        injection this with e1 e2
        exact .inl ⟨e, e1.symm, e2.symm⟩
      · rw [if_neg e] at h1; cases h1
  · rintro ⟨l, hl, ⟨e1, e2, e3⟩ | ⟨e1, e2, e3⟩⟩
    · refine ⟨l, hl, List.mem_append.2 (.inr ?_)⟩
      rw [if_pos e1, e2, e3]
      exact List.mem_singleton.2 rfl
    · refine ⟨l, hl, List.mem_append.2 (.inl ?_)⟩
      rw [if_pos e1, e2, e3]
      exact List.mem_singleton.2 rfl
/-- One neighbour of router r is looked at: the open routers, the costs. -/
def rlxD (r : Int) (st : List Int × (Int → Option Int)) (n : Int × Int) : List Int × (Int → Option Int) :=
  match st.2 n.1 with
  | none => (st.1 ++ [n.1], fun u => if u = n.1 then some ((st.2 r).getD 0 + n.2) else st.2 u)
  | some x => if (st.2 r).getD 0 + n.2 < x then (st.1, fun u => if u = n.1 then some ((st.2 r).getD 0 + n.2) else st.2 u) else st
/-- How many routers have no cost. -/
def unkD (V : List Int) (f : Int → Option Int) : Nat := (V.filter (fun v => (f v).isNone)).length
/-- Between two routers. -/
structure DI (L : List Lk) (V : List Int) (s : Int) (o : List Int) (f : Int → Option Int) : Prop where
  s0 : f s = some 0
  wk : ∀ v d, f v = some d → Wk L s v d ∧ v ∈ V
  nd : o.Nodup
  dm : ∀ x ∈ o, ∃ e, f x = some e
  cl : ∀ v d, v ∉ o → f v = some d → ∀ u c, edg L v u c → ∃ e, f u = some e ∧ e ≤ d + c
  le : ∀ v d, v ∉ o → f v = some d → ∀ x ∈ o, ∀ e, f x = some e → d ≤ e
/-- While the neighbours of r are looked at: those of 'done' have been. -/
structure DJ (L : List Lk) (V : List Int) (s r dr : Int) (done : List (Int × Int)) (o : List Int) (f : Int → Option Int) : Prop where
  s0 : f s = some 0
  wk : ∀ v d, f v = some d → Wk L s v d ∧ v ∈ V
  nd : o.Nodup
  dm : ∀ x ∈ o, ∃ e, f x = some e
  fr : f r = some dr ∧ r ∉ o
  cl : ∀ v d, v ∉ o → v ≠ r → f v = some d → ∀ u c, edg L v u c → ∃ e, f u = some e ∧ e ≤ d + c
  clr : ∀ n ∈ done, ∃ e, f n.1 = some e ∧ e ≤ dr + n.2
  lo : ∀ v d, v ∉ o → f v = some d → d ≤ dr
  hi : ∀ x ∈ o, ∀ e, f x = some e → dr ≤ e
set_option maxRecDepth 100000 in
theorem DI.start (L : List Lk) (V : List Int) (s : Int) (hs : s ∈ V) : DI L V s [s] (fun u => if u = s then some 0 else none) := by
  have key : ∀ v d, (if v = s then some (0 : Int) else none) = some d → v = s ∧ d = 0 := fun v d h => by
    by_cases e : v = s
    · rw [if_pos e] at h; exact ⟨e, (Option.some.inj h).symm⟩
    · rw [if_neg e] at h; cases h
  refine ⟨by simp, fun v d h => ?_, by simp, fun x hx => ⟨0, by rw [List.mem_singleton.1 hx]; simp⟩, fun v d hv h => ?_, fun v d hv h => ?_⟩
  · obtain ⟨rfl, rfl⟩ := key v d h
    exact ⟨Wk.nil L v, hs⟩
  · obtain ⟨rfl, rfl⟩ := key v d h
    exact absurd (List.mem_singleton.2 rfl) hv
  · obtain ⟨rfl, rfl⟩ := key v d h
    exact absurd (List.mem_singleton.2 rfl) hv
set_option maxRecDepth 100000 in
theorem unkD_le {V : List Int} {f g : Int → Option Int} (h : ∀ v, f v ≠ none → g v ≠ none) : unkD V g ≤ unkD V f := by
  unfold unkD
  induction V with
  | nil => exact Nat.le_refl _
  | cons a t ih =>
    rw [List.filter_cons, List.filter_cons]
    cases hg : g a with
    | some x =>
      rw [if_neg (by simp)]
      cases hf : f a with
      | some y => rw [if_neg (by simp)]; exact ih
      | none => rw [if_pos (by simp), List.length_cons]; omega
    | none =>
      have hf : f a = none := by
        cases hf : f a with
        | none => rfl
        | some y => exact absurd hg (h a (by rw [hf]; simp))
      rw [hf, if_pos (by simp), if_pos (by simp), List.length_cons, List.length_cons]
      omega
set_option maxRecDepth 100000 in
theorem unkD_lt {V : List Int} {f g : Int → Option Int} (h : ∀ v, f v ≠ none → g v ≠ none) {x : Int} (hx : x ∈ V) (hf : f x = none) (hg : g x ≠ none) : unkD V g < unkD V f := by
  induction V with
  | nil => cases hx
  | cons a t ih =>
    have hle := unkD_le (V := t) h
    unfold unkD at hle ih ⊢
    rw [List.filter_cons, List.filter_cons]
    by_cases ha : a = x
    · subst ha
      rw [if_neg (by cases hga : g a with | none => exact absurd hga hg | some y => simp), if_pos (by rw [hf]; rfl), List.length_cons]
      omega
    · have hxt : x ∈ t := by
        rcases List.mem_cons.1 hx with h1 | h1
        · exact absurd h1.symm ha
        · exact h1
      have i1 := ih hxt
      cases hga : g a with
      | some y =>
        rw [if_neg (by simp)]
        cases hfa : f a with
        | some z => rw [if_neg (by simp)]; exact i1
        | none => rw [if_pos (by simp), List.length_cons]; omega
      | none =>
        have hfa : f a = none := by
          cases hfa : f a with
          | none => rfl
          | some y => exact absurd hga (h a (by rw [hfa]; simp))
        rw [hfa, if_pos (by simp), if_pos (by simp), List.length_cons, List.length_cons]
        omega
set_option maxRecDepth 100000 in
/-- One neighbour. -/
theorem DJ.step {L : List Lk} (hp : Pos L) {V : List Int} (hV : Ends L V) {s r dr : Int} {done : List (Int × Int)} {o : List Int} {f : Int → Option Int} (h : DJ L V s r dr done o f) {n : Int × Int} (e : edg L r n.1 n.2) :
    DJ L V s r dr (done ++ [n]) (rlxD r (o, f) n).1 (rlxD r (o, f) n).2 ∧ 2 * unkD V (rlxD r (o, f) n).2 + (rlxD r (o, f) n).1.length ≤ 2 * unkD V f + o.length := by
  obtain ⟨v, c⟩ := n
  have hc := hp.edg e
  have hcr : (f r).getD 0 = dr := by rw [h.fr.1]; rfl
  have hwr := (h.wk r dr h.fr.1).1.step e
  have hvV := (hV.edg e).2
  simp only at e hc hwr hvV
  -- what setting v to dr + c keeps
  have set : ∀ (g : Int → Option Int), g = (fun u => if u = v then some (dr + c) else f u) → (∀ x, f v = some x → dr + c < x) →
      g s = some 0 ∧ (∀ u d, g u = some d → Wk L s u d ∧ u ∈ V) ∧ g r = some dr ∧ (∀ u d, f u = some d → ∃ d', g u = some d' ∧ d' ≤ d) ∧ (∀ u, u ≠ v → g u = f u) ∧ g v = some (dr + c) := by
    intro g hg hlt
    have hvr : v ≠ r := fun e1 => by
      have := hlt dr (by rw [e1]; exact h.fr.1)
      omega
    have hvs : v ≠ s := fun e1 => by
      have h1 := hlt 0 (by rw [e1]; exact h.s0)
      have h2 := (h.wk r dr h.fr.1).1.ge hp
      omega
    have gne : ∀ u, u ≠ v → g u = f u := fun u hu => by rw [hg]; show (if u = v then _ else _) = _; rw [if_neg hu]
    have gv : g v = some (dr + c) := by rw [hg]; show (if v = v then _ else _) = _; rw [if_pos rfl]
    refine ⟨by rw [gne s (Ne.symm hvs)]; exact h.s0, fun u d hu => ?_, by rw [gne r (Ne.symm hvr)]; exact h.fr.1, fun u d hu => ?_, gne, gv⟩
    · by_cases e1 : u = v
      · subst e1
        rw [gv] at hu
        obtain rfl := Option.some.inj hu
        exact ⟨hwr, hvV⟩
      · rw [gne u e1] at hu
        exact h.wk u d hu
    · by_cases e1 : u = v
      · subst e1
        exact ⟨dr + c, gv, by have := hlt d hu; omega⟩
      · exact ⟨d, by rw [gne u e1]; exact hu, Int.le_refl _⟩
  unfold rlxD
  simp only
  rw [hcr]
  cases hfv : f v with
  | none =>
    simp only
    obtain ⟨g, hg⟩ : ∃ g : Int → Option Int, g = (fun u => if u = v then some (dr + c) else f u) := ⟨_, rfl⟩
    obtain ⟨k1, k2, k3, k4, k5, k6⟩ := set g hg (fun x hx => by rw [hfv] at hx; cases hx)
    rw [← hg]
    have hvo : v ∉ o := fun hv => by obtain ⟨x, hx⟩ := h.dm v hv; rw [hfv] at hx; cases hx
    have hvr : r ≠ v := fun e1 => by have := h.fr.1; rw [e1, hfv] at this; cases this
    have hnv : ∀ u, u ∉ o ++ [v] → u ∉ o ∧ u ≠ v := fun u hu => ⟨fun h1 => hu (List.mem_append.2 (.inl h1)), fun h1 => hu (List.mem_append.2 (.inr (List.mem_singleton.2 h1)))⟩
    refine ⟨⟨k1, k2, ?_, fun x hx => ?_, ⟨k3, fun hr => ?_⟩, fun u d hu hur hd u2 c2 e2 => ?_, fun m hm => ?_, fun u d hu hd => ?_, fun x hx y hy => ?_⟩, ?_⟩
    · rw [List.nodup_append]
      refine ⟨h.nd, by simp, fun a ha b hb => ?_⟩
      rw [List.mem_singleton.1 hb]
      exact fun e1 => hvo (e1 ▸ ha)
    · rcases List.mem_append.1 hx with h1 | h1
      · obtain ⟨y, hy⟩ := h.dm x h1
        obtain ⟨y2, hy2, -⟩ := k4 x y hy
        exact ⟨y2, hy2⟩
      · rw [List.mem_singleton.1 h1]
        exact ⟨_, k6⟩
    · rcases List.mem_append.1 hr with h1 | h1
      · exact h.fr.2 h1
      · exact hvr (List.mem_singleton.1 h1)
    · obtain ⟨h1, h2⟩ := hnv u hu
      rw [k5 u h2] at hd
      obtain ⟨y, hy, hyl⟩ := h.cl u d h1 hur hd u2 c2 e2
      obtain ⟨y2, hy2, hle⟩ := k4 u2 y hy
      exact ⟨y2, hy2, by omega⟩
    · rcases List.mem_append.1 hm with h1 | h1
      · obtain ⟨y, hy, hyl⟩ := h.clr m h1
        obtain ⟨y2, hy2, hle⟩ := k4 _ y hy
        exact ⟨y2, hy2, by omega⟩
      · rw [List.mem_singleton.1 h1]
        exact ⟨_, k6, Int.le_refl _⟩
    · obtain ⟨h1, h2⟩ := hnv u hu
      rw [k5 u h2] at hd
      exact h.lo u d h1 hd
    · rcases List.mem_append.1 hx with h1 | h1
      · have h2 : x ≠ v := fun e1 => hvo (e1 ▸ h1)
        rw [k5 x h2] at hy
        exact h.hi x h1 y hy
      · rw [List.mem_singleton.1 h1, k6] at hy
        have := Option.some.inj hy
        omega
    · have h1 := unkD_lt (V := V) (f := f) (g := g) (fun u hu => by
        cases hfu : f u with
        | none => exact absurd hfu hu
        | some d => obtain ⟨y, hy, -⟩ := k4 u d hfu; rw [hy]; simp) hvV hfv (by rw [k6]; simp)
      rw [List.length_append, List.length_singleton]
      omega
  | some x =>
    simp only
    by_cases hlt : dr + c < x
    · rw [if_pos hlt]
      simp only
      obtain ⟨g, hg⟩ : ∃ g : Int → Option Int, g = (fun u => if u = v then some (dr + c) else f u) := ⟨_, rfl⟩
      obtain ⟨k1, k2, k3, k4, k5, k6⟩ := set g hg (fun y hy => by rw [hfv] at hy; have := Option.some.inj hy; omega)
      rw [← hg]
      -- v is open
      have hvo : v ∈ o := Classical.byContradiction fun hv => by have := h.lo v x hv hfv; omega
      have hnv : ∀ u, u ∉ o → u ≠ v := fun u hu e1 => hu (e1 ▸ hvo)
      refine ⟨⟨k1, k2, h.nd, fun y hy => ?_, ⟨k3, h.fr.2⟩, fun u d hu hur hd u2 c2 e2 => ?_, fun m hm => ?_, fun u d hu hd => ?_, fun y hy z hz => ?_⟩, ?_⟩
      · obtain ⟨z, hz⟩ := h.dm y hy
        obtain ⟨z2, hz2, -⟩ := k4 y z hz
        exact ⟨z2, hz2⟩
      · rw [k5 u (hnv u hu)] at hd
        obtain ⟨y, hy, hyl⟩ := h.cl u d hu hur hd u2 c2 e2
        obtain ⟨y2, hy2, hle⟩ := k4 u2 y hy
        exact ⟨y2, hy2, by omega⟩
      · rcases List.mem_append.1 hm with h1 | h1
        · obtain ⟨y, hy, hyl⟩ := h.clr m h1
          obtain ⟨y2, hy2, hle⟩ := k4 _ y hy
          exact ⟨y2, hy2, by omega⟩
        · rw [List.mem_singleton.1 h1]
          exact ⟨_, k6, Int.le_refl _⟩
      · rw [k5 u (hnv u hu)] at hd
        exact h.lo u d hu hd
      · by_cases e1 : y = v
        · rw [e1, k6] at hz
          have := Option.some.inj hz
          omega
        · rw [k5 y e1] at hz
          exact h.hi y hy z hz
      · have h1 := unkD_le (V := V) (f := f) (g := g) (fun u hu => by
          cases hfu : f u with
          | none => exact absurd hfu hu
          | some d => obtain ⟨y, hy, -⟩ := k4 u d hfu; rw [hy]; simp)
        omega
    · rw [if_neg hlt]
      refine ⟨⟨h.s0, h.wk, h.nd, h.dm, h.fr, h.cl, fun m hm => ?_, h.lo, h.hi⟩, Nat.le_refl _⟩
      rcases List.mem_append.1 hm with h1 | h1
      · exact h.clr m h1
      · rw [List.mem_singleton.1 h1]
        exact ⟨x, hfv, by simp only; omega⟩
set_option maxRecDepth 100000 in
/-- The nearest open router is taken out. -/
theorem DI.take {L : List Lk} {V : List Int} {s : Int} {o : List Int} {f : Int → Option Int} (h : DI L V s o f) {i : Nat} {r dr : Int} (hr : o[i]? = some r) (hd : f r = some dr) (hmin : ∀ x ∈ o, ∀ e, f x = some e → dr ≤ e) : DJ L V s r dr [] (o.eraseIdx i) f := by
  have hi := (List.getElem?_eq_some_iff.1 hr).1
  have hro : r ∈ o := List.mem_of_getElem? hr
  have hmem : ∀ x, x ∈ o.eraseIdx i ↔ x ∈ o ∧ x ≠ r := fun x => by
    have e1 : o[i] = r := (List.getElem?_eq_some_iff.1 hr).2
    rw [List.mem_eraseIdx_iff_getElem?]
    constructor
    · rintro ⟨j, hj, hx⟩
      refine ⟨List.mem_of_getElem? hx, fun e2 => hj ?_⟩
      obtain ⟨hjl, hje⟩ := List.getElem?_eq_some_iff.1 hx
      have hq := List.pairwise_iff_getElem.1 h.nd
      rcases Nat.lt_trichotomy j i with h1 | h1 | h1
      · exact absurd (hje.trans (e2.trans e1.symm)) (hq j i hjl hi h1)
      · exact h1
      · exact absurd ((e1.trans e2.symm).trans hje.symm) (hq i j hi hjl h1)
    · rintro ⟨h1, h2⟩
      obtain ⟨j, hjl, hje⟩ := List.mem_iff_getElem.1 h1
      exact ⟨j, fun e2 => h2 (by subst e2; rw [← hje, e1]), by rw [List.getElem?_eq_getElem hjl, hje]⟩
  have hnot : ∀ v, v ∉ o.eraseIdx i → v ∉ o ∨ v = r := fun v hv => by
    rcases Classical.em (v ∈ o) with h1 | h1
    · rcases Classical.em (v = r) with h2 | h2
      · exact .inr h2
      · exact absurd ((hmem v).2 ⟨h1, h2⟩) hv
    · exact .inl h1
  refine ⟨h.s0, h.wk, h.nd.sublist (List.eraseIdx_sublist _ _), fun x hx => h.dm x ((hmem x).1 hx).1, ⟨hd, fun hx => ((hmem r).1 hx).2 rfl⟩, fun v d hv hvr hf => ?_, fun n hn => (by cases hn), fun v d hv hf => ?_, fun x hx e he => hmin x ((hmem x).1 hx).1 e he⟩
  · rcases hnot v hv with h1 | h1
    · exact h.cl v d h1 hf
    · exact absurd h1 hvr
  · rcases hnot v hv with h1 | h1
    · exact h.le v d h1 hf r hro dr hd
    · subst h1
      rw [hd] at hf
      have := Option.some.inj hf
      omega
set_option maxRecDepth 100000 in
/-- All neighbours have been looked at. -/
theorem DJ.fin {L : List Lk} {V : List Int} {s r dr : Int} {o : List Int} {f : Int → Option Int} (h : DJ L V s r dr (nbD L r) o f) : DI L V s o f := by
  refine ⟨h.s0, h.wk, h.nd, h.dm, fun v d hv hf u c e => ?_, fun v d hv hf x hx y hy => ?_⟩
  · by_cases e1 : v = r
    · subst e1
      rw [h.fr.1] at hf
      obtain rfl := Option.some.inj hf
      exact h.clr (u, c) (nbD_mem.2 e)
    · exact h.cl v d hv e1 hf u c e
  · have := h.lo v d hv hf
    have := h.hi x hx y hy
    omega
set_option maxRecDepth 100000 in
/-- Nothing is open: the costs are the least. -/
theorem DI.done {L : List Lk} {V : List Int} {s : Int} {f : Int → Option Int} (h : DI L V s [] f) (v d : Int) : f v = some d ↔ IsD L s v d :=
  closed_D h.s0 (fun v d hf => (h.wk v d hf).1) (fun u d v c hf e => h.cl u d (by simp) hf v c e) v d
end Go.Proofs.Ytlefjdglcdopeaa

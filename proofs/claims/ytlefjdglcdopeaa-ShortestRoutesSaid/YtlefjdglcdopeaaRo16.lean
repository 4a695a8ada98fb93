/- Parts of the proof, packed: ShCtM, ShNxM, ToLookR. -/
import Derived.Test.YtlefjdglcdopeaaRo15
import Derived.Test.YtlefjdglcdopeaaRo10
import Derived.Test.YtlefjdglcdopeaaRo7
import Derived.Test.YtlefjdglcdopeaaRo5
/- Counting without the limit: at most eight routers. -/
namespace Go.Proofs.Ytlefjdglcdopeaa
open Go.RowKit Go.Maps Bs
set_option maxRecDepth 100000 in
theorem ids_pair {R : List Rt} {L : List Lk} (h : okT R L = true) : (ids R).Pairwise (· < ·) := by
  have hr := pair_of_asc ltR ltR_trans R (okT_all h).rs
  unfold ids
  rw [List.pairwise_map]
  exact hr.imp (fun {a b} h => of_decide_eq_true h)
set_option maxRecDepth 100000 in
theorem nodup_of_lt {l : List Int} (h : l.Pairwise (· < ·)) : l.Nodup := h.imp (fun {a b} h e => by omega)
set_option maxRecDepth 100000 in
theorem nbL_pair {R : List Rt} {L : List Lk} (h : okT R L = true) (r : Int) : (nbL L r).Pairwise (· < ·) := by
  rw [near_eq (okT_all h) r]
  unfold nearR
  have hr := pair_of_asc ltR ltR_trans R (okT_all h).rs
  rw [List.pairwise_map]
  exact (hr.filter _).imp (fun {a b} h => of_decide_eq_true h)
set_option maxRecDepth 100000 in
theorem nxt_sub (R : List Rt) (L : List Lk) (r z : Int) : (nxt R L r z).Sublist (nbL L r) := by
  unfold nxt
  rw [nxM_next, ← nbD_fst]
  unfold nxM
  exact (List.filter_sublist).map _
set_option maxRecDepth 100000 in
theorem nxt_pair {R : List Rt} {L : List Lk} (h : okT R L = true) (r z : Int) : (nxt R L r z).Pairwise (· < ·) := (nbL_pair h r).sublist (nxt_sub R L r z)
/-- v is nearer to z than r. -/
noncomputable def nearB (R : List Rt) (L : List Lk) (z r v : Int) : Bool := match dst R L v z, dst R L r z with
  | some x, some d => decide (x < d)
  | _, _ => false
set_option maxRecDepth 100000 in
theorem nearB_iff {R : List Rt} {L : List Lk} {z r v : Int} : nearB R L z r v = true ↔ ∃ x d, dst R L v z = some x ∧ dst R L r z = some d ∧ x < d := by
  unfold nearB
  cases h1 : dst R L v z with
  | none => simp
  | some x =>
    cases h2 : dst R L r z with
    | none => simp
    | some d => simp
/-- How many routers are nearer to z than r. -/
noncomputable def rkN (R : List Rt) (L : List Lk) (z r : Int) : Nat := ((ids R).filter (nearB R L z r)).length
set_option maxRecDepth 100000 in
theorem rkN_self {R : List Rt} {L : List Lk} {z r : Int} (h : okT R L = true) (hr : r ∈ ids R) : rkN R L z r + 1 ≤ (ids R).length := by
  have hn : ¬ nearB R L z r r = true := fun e => by
    obtain ⟨x, d, h1, h2, h3⟩ := nearB_iff.1 e
    rw [h1] at h2
    have := Option.some.inj h2
    omega
  have := nodup_le (r :: (ids R).filter (nearB R L z r)) (ids R) (List.nodup_cons.2 ⟨fun hm => hn (List.mem_filter.1 hm).2, (nodup_of_lt (ids_pair h)).sublist List.filter_sublist⟩) (fun x hx => by
    rcases List.mem_cons.1 hx with rfl | hx
    · exact hr
    · exact (List.mem_filter.1 hx).1)
  exact this
set_option maxRecDepth 100000 in
theorem nxt_near {R : List Rt} {L : List Lk} {z r u : Int} (hu : u ∈ nxt R L r z) : u ∈ ids R ∧ nearB R L z r u = true := by
  obtain ⟨d, x, c, h1, h2, h3, h4, -⟩ := nxt_step hu
  exact ⟨(dst_both h2).2.1, nearB_iff.2 ⟨x, d, h2, h1, by omega⟩⟩
set_option maxRecDepth 100000 in
theorem rkN_step {R : List Rt} {L : List Lk} {z r u : Int} (hu : u ∈ nxt R L r z) : rkN R L z u < rkN R L z r := by
  obtain ⟨d, x, c, h1, h2, h3, h4, -⟩ := nxt_step hu
  have hok := (dst_both h1).1
  obtain ⟨m1, m2⟩ := nxt_near hu
  have hn : ¬ nearB R L z u u = true := fun e => by
    obtain ⟨x, d, h1, h2, h3⟩ := nearB_iff.1 e
    rw [h1] at h2
    have := Option.some.inj h2
    omega
  have := nodup_le (u :: (ids R).filter (nearB R L z u)) ((ids R).filter (nearB R L z r)) (List.nodup_cons.2 ⟨fun hm => hn (List.mem_filter.1 hm).2, (nodup_of_lt (ids_pair hok)).sublist List.filter_sublist⟩) (fun v hv => by
    rcases List.mem_cons.1 hv with rfl | hv
    · exact List.mem_filter.2 ⟨m1, m2⟩
    · obtain ⟨k1, k2⟩ := List.mem_filter.1 hv
      obtain ⟨y, d', k3, k4, k5⟩ := nearB_iff.1 k2
      rw [h2] at k4
      have := Option.some.inj k4
      exact List.mem_filter.2 ⟨k1, nearB_iff.2 ⟨y, d, k3, h1, by omega⟩⟩)
  exact this
set_option maxRecDepth 100000 in
theorem nxt_rk {R : List Rt} {L : List Lk} (h : okT R L = true) (z r : Int) : (nxt R L r z).length ≤ rkN R L z r :=
  nodup_le _ _ (nodup_of_lt (nxt_pair h r z)) (fun _ hu => List.mem_filter.2 (nxt_near hu))
def sumI (c : Int → Int) (l : List Int) : Int := l.foldl (fun a u => a + c u) 0
set_option maxRecDepth 100000 in
theorem sum_from (c : Int → Int) : ∀ (l : List Int) (a : Int), l.foldl (fun a u => a + c u) a = a + sumI c l
  | [], a => by unfold sumI; simp
  | u :: t, a => by
    have h1 := sum_from c t (a + c u)
    have h2 := sum_from c t (0 + c u)
    unfold sumI
    rw [List.foldl_cons, List.foldl_cons, h1, h2]
    omega
set_option maxRecDepth 100000 in
theorem sumI_cons (c : Int → Int) (u : Int) (t : List Int) : sumI c (u :: t) = c u + sumI c t := by
  have := sum_from c t (0 + c u)
  unfold sumI at *
  rw [List.foldl_cons, this]
  omega
set_option maxRecDepth 100000 in
theorem sumI_snoc (c : Int → Int) (l : List Int) (u : Int) : sumI c (l ++ [u]) = sumI c l + c u := by
  unfold sumI
  rw [List.foldl_append]
  rfl
set_option maxRecDepth 100000 in
theorem sumI_bd {c : Int → Int} {B : Int} : ∀ (l : List Int), (∀ u ∈ l, 0 ≤ c u ∧ c u ≤ B) → 0 ≤ sumI c l ∧ sumI c l ≤ (l.length : Int) * B
  | [], _ => by unfold sumI; simp
  | u :: t, h => by
    have h1 := sumI_bd t (fun v hv => h v (by simp [hv]))
    have h2 := h u (by simp)
    rw [sumI_cons, List.length_cons]
    have : ((t.length + 1 : Nat) : Int) * B = (t.length : Int) * B + B := by rw [Int.natCast_succ, Int.add_mul, Int.one_mul]
    omega
set_option maxRecDepth 100000 in
theorem sumI_congr {c d : Int → Int} : ∀ (l : List Int), (∀ u ∈ l, c u = d u) → sumI c l = sumI d l
  | [], _ => rfl
  | u :: t, h => by rw [sumI_cons, sumI_cons, h u (by simp), sumI_congr t (fun v hv => h v (by simp [hv]))]
set_option maxRecDepth 100000 in
/-- Without the limit. -/
theorem fold_sum {c : Int → Int} : ∀ (l : List Int) (a : Int), (∀ u ∈ l, 0 ≤ c u) → a + sumI c l ≤ 1000000 → l.foldl (fun a u => min (a + c u) 1000000) a = a + sumI c l
  | [], a, _, _ => by unfold sumI; simp
  | u :: t, a, h, hb => by
    rw [sumI_cons] at hb ⊢
    have h0 : 0 ≤ sumI c t := by
      have : ∀ (l : List Int), (∀ v ∈ l, 0 ≤ c v) → 0 ≤ sumI c l := by
        intro l
        induction l with
        | nil => intro _; unfold sumI; simp
        | cons v s ih => intro hv; rw [sumI_cons]; have := hv v (by simp); have := ih (fun x hx => hv x (by simp [hx])); omega
      exact this t (fun v hv => h v (by simp [hv]))
    rw [List.foldl_cons, show min (a + c u) 1000000 = a + c u by omega, fold_sum t (a + c u) (fun v hv => h v (by simp [hv])) (by omega)]
    omega
set_option maxRecDepth 100000 in
theorem fold_le {c : Int → Int} : ∀ (l : List Int) (a : Int), l.foldl (fun a u => min (a + c u) 1000000) a ≤ a + sumI c l
  | [], a => by unfold sumI; simp
  | u :: t, a => by
    rw [sumI_cons, List.foldl_cons]
    have := fold_le (c := c) t (min (a + c u) 1000000)
    omega
def fctN : Nat → Nat
  | 0 => 1
  | k + 1 => (k + 1) * fctN k
set_option maxRecDepth 100000 in
theorem fctN_mono : ∀ {a b : Nat}, a ≤ b → fctN a ≤ fctN b := by
  intro a b h
  induction h with
  | refl => exact Nat.le_refl _
  | step _ ih =>
    refine Nat.le_trans ih ?_
    show _ ≤ (_ + 1) * fctN _
    rw [Nat.add_mul, Nat.one_mul]
    exact Nat.le_add_left _ _
set_option maxRecDepth 100000 in
theorem cnt_le {R : List Rt} {L : List Lk} (h : okT R L = true) (z : Int) : ∀ (k : Nat) (r : Int), rkN R L z r ≤ k → cnt R L z r ≤ ((fctN k : Nat) : Int) := by
  intro k
  induction k with
  | zero =>
    intro r hr
    rw [cnt_rule]
    unfold cntS
    by_cases hz : r = z
    · rw [if_pos hz]; decide
    · rw [if_neg hz]
      have := nxt_rk h z r
      simp only
      rw [List.eq_nil_of_length_eq_zero (l := nxt R L r z) (by omega)]
      exact (show (0 : Int) ≤ ((fctN 0 : Nat) : Int) by decide)
  | succ k ih =>
    intro r hr
    have h1 : (1 : Int) ≤ ((fctN (k + 1) : Nat) : Int) := by
      have := fctN_mono (Nat.zero_le (k + 1))
      have h2 : fctN 0 = 1 := rfl
      omega
    rw [cnt_rule]
    unfold cntS
    by_cases hz : r = z
    · rw [if_pos hz]; exact h1
    · rw [if_neg hz]
      simp only
      refine Int.le_trans (fold_le _ _) ?_
      have h3 := (sumI_bd (c := cnt R L z) (B := ((fctN k : Nat) : Int)) (nxt R L r z) (fun u hu => ⟨(cnt_bd R L z u).1, ih u (by have := rkN_step hu; omega)⟩)).2
      have h4 := nxt_rk h z r
      have h5 : ((nxt R L r z).length : Int) * ((fctN k : Nat) : Int) ≤ ((k + 1 : Nat) : Int) * ((fctN k : Nat) : Int) := Int.mul_le_mul_of_nonneg_right (by omega) (by omega)
      have h6 : ((fctN (k + 1) : Nat) : Int) = ((k + 1 : Nat) : Int) * ((fctN k : Nat) : Int) := by
        rw [← Int.natCast_mul]
        rfl
      omega
set_option maxRecDepth 100000 in
/-- With at most eight routers the numbers are plain sums. -/
theorem cnt_sum {R : List Rt} {L : List Lk} (h : okT R L = true) (h8 : R.length ≤ 8) {z r : Int} (hr : r ∈ ids R) (hz : r ≠ z) : cnt R L z r = sumI (cnt R L z) (nxt R L r z) := by
  have hl : (ids R).length ≤ 8 := by unfold ids; rw [List.length_map]; exact h8
  have hk := rkN_self (z := z) h hr
  have h1 := nxt_rk h z r
  have h3 := (sumI_bd (c := cnt R L z) (B := ((fctN 7 : Nat) : Int)) (nxt R L r z) (fun u hu => ⟨(cnt_bd R L z u).1, cnt_le h z 7 u (by have := rkN_step hu; omega)⟩)).2
  have h7 : ((fctN 7 : Nat) : Int) = 5040 := by decide
  rw [h7] at h3
  rw [cnt_rule]
  unfold cntS
  rw [if_neg hz]
  simp only
  rw [fold_sum _ _ (fun u _ => (cnt_bd R L z u).1) (by omega)]
  omega
set_option maxRecDepth 100000 in
theorem pV_sum {R : List Rt} {L : List Lk} (h8 : R.length ≤ 8) {z r : Int} (hr : hasV R L r = true) (hz : r ≠ z) : pV R L r z = sumI (fun u => pV R L u z) (nxt R L r z) := by
  obtain ⟨hok, hm⟩ := hasV_iff.1 hr
  have h1 : sumI (fun u => pV R L u z) (nxt R L r z) = sumI (cnt R L z) (nxt R L r z) := sumI_congr _ (fun u hu => by
    obtain ⟨d, x, c, -, h2, -⟩ := nxt_step hu
    unfold pV
    rw [h2]
    rfl)
  rw [h1]
  unfold pV
  cases hd : dst R L r z with
  | some d =>
    rw [if_pos (by rfl), cnt_sum hok h8 hm hz]
  | none =>
    rw [if_neg (by simp)]
    cases hn : nxt R L r z with
    | nil => rfl
    | cons u t =>
      obtain ⟨d, x, c, h3, -⟩ := nxt_step (R := R) (L := L) (z := z) (r := r) (u := u) (by rw [hn]; simp)
      rw [hd] at h3
      cases h3
set_option maxRecDepth 100000 in
theorem pV_self {R : List Rt} {L : List Lk} {z : Int} (h : hasV R L z = true) : pV R L z z = 1 := by
  unfold pV
  rw [dst_self h, if_pos (by rfl), cnt_self]
set_option maxRecDepth 100000 in
theorem pV_bd (R : List Rt) (L : List Lk) (r z : Int) : 0 ≤ pV R L r z ∧ pV R L r z ≤ 1000000 := by
  unfold pV
  split
  · exact cnt_bd R L z r
  · omega
end Go.Proofs.Ytlefjdglcdopeaa

/- The law ShortestNexts: its mathematics. -/
namespace Go.Proofs.Ytlefjdglcdopeaa
open Go.RowKit Go.Maps Bs
set_option maxRecDepth 100000 in
theorem priceB_edg {u v c : Int} {l : Lk} (h : priceB u v l = some c) : (l.a = u ∧ l.b = v ∧ l.ca = c) ∨ (l.b = u ∧ l.a = v ∧ l.cb = c) := by
  unfold priceB at h
  split at h
  · rename_i h1
    exact .inl ⟨h1.1, h1.2, Option.some.inj h⟩
  · split at h
    · rename_i h1
      first
        | exact .inr ⟨h1.2, h1.1, Option.some.inj h⟩
        | exact .inr ⟨h1.1, h1.2, Option.some.inj h⟩
    · cases h
set_option maxRecDepth 100000 in
theorem edg_uniq {R : List Rt} {L : List Lk} (h : okT R L = true) {u v c d : Int} (h1 : edg L u v c) (h2 : edg L u v d) : c = d := by
  have ho := okT_all h
  have he := ends_lt ho
  obtain ⟨l, hl, k1⟩ := h1
  obtain ⟨m, hm, k2⟩ := h2
  have e1 := he l hl
  have e2 := he m hm
  obtain ⟨i, hi⟩ := List.mem_iff_getElem?.1 hl
  obtain ⟨j, hj⟩ := List.mem_iff_getElem?.1 hm
  have key : l.a = m.a → l.b = m.b → l = m := fun ea eb => by
    have := ends_inj ho hi hj ea eb
    rw [this, hj] at hi
    exact (Option.some.inj hi).symm
  rcases k1 with ⟨p1, p2, p3⟩ | ⟨p1, p2, p3⟩ <;> rcases k2 with ⟨q1, q2, q3⟩ | ⟨q1, q2, q3⟩
  · rw [← p3, ← q3, key (p1.trans q1.symm) (p2.trans q2.symm)]
  · omega
  · omega
  · rw [← p3, ← q3, key (p2.trans q2.symm) (p1.trans q1.symm)]
set_option maxRecDepth 100000 in
theorem price_edg {R : List Rt} {L : List Lk} (h : okT R L = true) {u v c : Int} (he : edg L u v c) : priceV L u v = (c, true) := by
  have h2 : (priceV L u v).2 = true := by
    rw [price_ok]
    obtain ⟨l, hl, ⟨rfl, rfl, -⟩ | ⟨rfl, rfl, -⟩⟩ := he
    · exact ⟨l, hl, .inr ⟨rfl, rfl⟩⟩
    · exact ⟨l, hl, .inl ⟨rfl, rfl⟩⟩
  unfold priceV at h2 ⊢
  cases hf : L.findSome? (priceB u v) with
  | none => rw [hf] at h2; cases h2
  | some d =>
    obtain ⟨l, hl, hp⟩ := List.exists_of_findSome?_eq_some hf
    have : edg L u v d := ⟨l, hl, priceB_edg hp⟩
    rw [edg_uniq h he this]
set_option maxRecDepth 100000 in
theorem price_ed2 {R : List Rt} {L : List Lk} (_ : okT R L = true) {u v c : Int} (hp : priceV L u v = (c, true)) : edg L u v c := by
  unfold priceV at hp
  cases hf : L.findSome? (priceB u v) with
  | none => rw [hf] at hp; cases hp
  | some d =>
    rw [hf] at hp
    obtain ⟨l, hl, h1⟩ := List.exists_of_findSome?_eq_some hf
    have : d = c := congrArg Prod.fst hp
    exact ⟨l, hl, priceB_edg (this ▸ h1)⟩
set_option maxRecDepth 100000 in
theorem near_edg {R : List Rt} {L : List Lk} (h : okT R L = true) {a u : Int} (hu : u ∈ nearR R L a) : ∃ c, priceV L a u = (c, true) ∧ edg L a u c ∧ (1 ≤ c ∧ c ≤ 1000) ∧ 1 ≤ u ∧ u ≤ 99 := by
  rw [← near_eq (okT_all h), ← nbD_fst] at hu
  obtain ⟨⟨v, c⟩, hm, rfl⟩ := List.mem_map.1 hu
  have he := nbD_mem.1 hm
  have hg := (okT_g h).edg he
  exact ⟨c, price_edg h he, he, hg.1, hg.2.2⟩
set_option maxRecDepth 100000 in
theorem hasI_mq {l : List Int} {x : Int} : hasI l x = true ↔ x ∈ l := by
  unfold hasI
  rw [List.any_eq_true]
  constructor
  · rintro ⟨y, hy, e⟩
    rw [← of_decide_eq_true e]
    exact hy
  · intro h
    exact ⟨x, h, decide_eq_true rfl⟩
set_option maxRecDepth 100000 in
theorem nxt_mem {R : List Rt} {L : List Lk} {a b u : Int} : u ∈ nxt R L a b ↔ ∃ c x, edg L a u c ∧ dst R L u b = some x ∧ c + x = (dst R L a b).getD 0 := by
  unfold nxt nextV
  rw [List.mem_map]
  constructor
  · rintro ⟨⟨v, c⟩, hm, rfl⟩
    obtain ⟨h1, h2⟩ := List.mem_filter.1 hm
    simp only at h2 ⊢
    cases hv : dst R L v b with
    | none => rw [hv] at h2; cases h2
    | some x =>
      rw [hv] at h2
      exact ⟨c, x, nbD_mem.1 h1, rfl, of_decide_eq_true h2⟩
  · rintro ⟨c, x, h1, h2, h3⟩
    refine ⟨(u, c), List.mem_filter.2 ⟨nbD_mem.2 h1, ?_⟩, rfl⟩
    simp only
    rw [h2]
    exact decide_eq_true h3
set_option maxRecDepth 100000 in
/-- When a neighbour comes next. -/
theorem has_nxt {R : List Rt} {L : List Lk} (h : okT R L = true) {a b u c : Int} (he : edg L a u c) : hasI (nxt R L a b) u = true ↔ ∃ d x, dst R L a b = some d ∧ dst R L u b = some x ∧ a ≠ b ∧ c + x = d := by
  rw [hasI_mq]
  constructor
  · intro hm
    have hab : a ≠ b := fun e => by rw [e, nxt_self] at hm; cases hm
    obtain ⟨d, x, c', h1, h2, h3, -, h5⟩ := nxt_step hm
    have := edg_uniq h he h5
    exact ⟨d, x, h1, h2, hab, by omega⟩
  · rintro ⟨d, x, h1, h2, -, h4⟩
    exact nxt_mem.2 ⟨c, x, he, h2, by rw [h1]; exact h4⟩
set_option maxRecDepth 100000 in
theorem nxt_avoid {R : List Rt} {L : List Lk} {a b u : Int} (hu : u ∈ nxt R L a b) : avV R L u b a = true := by
  obtain ⟨d, x, c, h1, h2, h3, h4, -⟩ := nxt_step hu
  unfold avV psV
  rw [h1, h2]
  cases h5 : dst R L u a with
  | none => rfl
  | some y =>
    have := (dst_bd h5).1
    simp only [Option.getD_some, Option.isSome_some, Bool.true_and, Bool.not_eq_true']
    exact decide_eq_false (by omega)
set_option maxRecDepth 100000 in
theorem nxt_near_len {R : List Rt} {L : List Lk} (h : okT R L = true) (a b : Int) : (nxt R L a b).length ≤ (nearR R L a).length := by
  rw [← near_eq (okT_all h)]
  exact (nxt_sub R L a b).length_le
end Go.Proofs.Ytlefjdglcdopeaa

/- The reference's Has, Capable, Price, Cost, Near, Neighbours. -/
namespace Go.Proofs.Ytlefjdglcdopeaa
open Go.RowKit Bs
set_option maxRecDepth 100000 in
theorem find_hit {α : Type} {p : α → Bool} : ∀ {l : List α} {k : Nat} {x : α}, (l.take k).any p = false → l[k]? = some x → p x = true → l.find? p = some x
  | [], k, x, _, h, _ => by cases h
  | a :: t, 0, x, _, h, hp => by
    obtain rfl : a = x := by simpa using h
    rw [List.find?_cons, hp]
  | a :: t, k + 1, x, hn, h, hp => by
    rw [List.take_succ_cons, List.any_cons, Bool.or_eq_false_iff] at hn
    rw [List.find?_cons, hn.1]
    exact find_hit hn.2 (by simpa using h) hp
set_option maxRecDepth 100000 in
theorem some_hit {α β : Type} {f : α → Option β} {l : List α} {k : Nat} {x : α} {y : β} (hn : (l.take k).findSome? f = none) (h : l[k]? = some x) (hy : f x = some y) : l.findSome? f = some y := by
  have hlt := (List.getElem?_eq_some_iff.1 h).1
  have e : l = l.take k ++ (x :: l.drop (k + 1)) := by
    have h2 := (List.getElem?_eq_some_iff.1 h).2
    rw [← h2, List.getElem_cons_drop, List.take_append_drop]
  rw [e, List.findSome?_append, hn, List.findSome?_cons, hy]
  rfl
set_option maxRecDepth 100000 in
theorem some_take {α β : Type} {f : α → Option β} {l : List α} {k : Nat} {x : α} (hn : (l.take k).findSome? f = none) (h : l[k]? = some x) (hy : f x = none) : (l.take (k + 1)).findSome? f = none := by
  rw [List.take_add_one, h, List.findSome?_append, hn]
  simp [hy]
set_option maxRecDepth 100000 in
set_option maxHeartbeats 1600000 in
theorem rhasV_any (T : Tg) (x : Int) (q : Nat → Prop) (w : World) (hT : TgOk w q T) :
    Calls Try.prog 44 #[.agg #[.slice T.pR T.R.length T.cR, .slice T.pL T.L.length T.cL], .int .i64 x] w fun e w' => e = .returned (.bool (hasV T.R T.L x)) ∧ w.grownBy w' none := by
  obtain ⟨R, L, pR, cR, pL, cL⟩ := T
  have hm1 := Nat.le_trans hT.cr.1 hT.cr.2
  have hm2 := Nat.le_trans hT.cl.1 hT.cl.2
  simp only at hm1 hm2 ⊢
  obtain ⟨k1, k2⟩ := tone_box w #[.slice pR R.length cR, .slice pL L.length cL] 28
  have HB := Lib.hid (And.intro k1 (And.intro k2 (hT.keep k2)))
  clear k1 k2 hT
  obtain ⟨z, hz⟩ : ∃ z, hasV R L x = z := ⟨_, rfl⟩
  rw [hz]
  have HZ := Lib.hid hz
  clear hz
  go_enter Try.func44, Try.ntmps44
  go_upto_region 1 with fail
  generalize w.alloc _ = wa at *
  obtain ⟨c0, c1⟩ := row_cells HB.out.1
  obtain ⟨X, hX⟩ : ∃ X, chk R L = X := ⟨_, rfl⟩
  have HX := Lib.hid hX
  have HO : Hid (okT R L = (X == 0)) := Lib.hid (by unfold okT; rw [hX])
  clear hX
  by_cases hx : X = 0
  · obtain rfl : hasR R x = z := by have := HZ.out; unfold hasV at this; rw [HO.out, hx] at this; simpa using this
    subst hx
    go_wp2_with fail
    refine (rcheck_any ⟨R, L, pR, cR, pL, cL⟩ _ wa HB.out.2.2).mono ?_
    rintro e w1 ⟨rfl, hg⟩
    simp only
    rw [HX.out]
    have HG := Lib.hid hg
    clear hg c0 c1
    obtain ⟨c0, c1⟩ := row_cells (kept_row HB.out.1 HG.out (by simp))
    go_wp2_with fail
    refine (rhas_any ⟨R, L, pR, cR, pL, cL⟩ x _ w1 (HB.out.2.2.keep HG.out)).mono ?_
    rintro e w2 ⟨rfl, hg⟩
    simp only
    have HG2 := Lib.hid (grown_trans HG.out hg)
    clear hg
    go_wp2_with fail
    go_ret
    exact ⟨rfl, grown_trans HB.out.2.1 HG2.out⟩
  · have hx1 : (X == 0) = false := by simpa using hx
    obtain rfl : false = z := by have := HZ.out; unfold hasV at this; rw [HO.out, hx1] at this; simpa using this
    go_wp2_with fail
    refine (rcheck_any ⟨R, L, pR, cR, pL, cL⟩ _ wa HB.out.2.2).mono ?_
    rintro e w1 ⟨rfl, hg⟩
    simp only
    rw [HX.out]
    have HG := Lib.hid hg
    clear hg c0 c1
    go_wp2_with fail
    go_ret
    exact ⟨rfl, grown_trans HB.out.2.1 HG.out⟩
set_option maxRecDepth 100000 in
set_option maxHeartbeats 1600000 in
theorem rprice_any (T : Tg) (x y : Int) (q : Nat → Prop) (w : World) (hT : TgOk w q T) :
    Calls Try.prog 32 #[.agg #[.slice T.pR T.R.length T.cR, .slice T.pL T.L.length T.cL], .int .i64 x, .int .i64 y] w fun e w' => e = .returned (.tuple #[.int .i64 (priceV T.L x y).1, .bool (priceV T.L x y).2]) ∧ w.grownBy w' none := by
  obtain ⟨R, L, pR, cR, pL, cL⟩ := T
  have hm1 := Nat.le_trans hT.cr.1 hT.cr.2
  have hm2 := Nat.le_trans hT.cl.1 hT.cl.2
  simp only at hm1 hm2 ⊢
  obtain ⟨k1, k2⟩ := tone_box w #[.slice pR R.length cR, .slice pL L.length cL] 28
  have HB := Lib.hid (And.intro k1 (And.intro k2 (hT.keep k2)))
  clear k1 k2 hT
  obtain ⟨z, hz⟩ : ∃ z, priceV L x y = z := ⟨_, rfl⟩
  rw [hz]
  have HZ := Lib.hid hz
  clear hz
  go_enter Try.func32, Try.ntmps32
  go_upto_region 1 with fail
  generalize w.alloc _ = wa at *
  obtain ⟨c0, c1⟩ := row_cells HB.out.1
  go_wp2_with fail
  go_loopw [8] (fun a wr => ∃ k : Nat, k ≤ L.length ∧ a = .int .i64 (k : Int) ∧ Hid ((L.take k).findSome? (priceB x y) = none) ∧ Hid (wa.grownBy wr none)) (fun a _ => L.length - (RowKit.intOf a).toNat)
  case atStart => exact ⟨0, Nat.zero_le _, rfl, Lib.hid rfl, Lib.hid (grown_refl _ _)⟩
  case round =>
    obtain ⟨k, hk, rfl, HN, G⟩ := hrel
    clear c0 c1
    obtain ⟨c0, c1⟩ := row_cells (kept_row HB.out.1 G.out (by simp))
    by_cases hlt : k < L.length
    · obtain ⟨-, b, off, rfl, -, hc⟩ := rdl_cells (L := L) (HB.out.2.2.keep G.out).l (by omega)
      obtain ⟨m, hm⟩ : ∃ m, L[k]? = some m := ⟨_, List.getElem?_eq_getElem hlt⟩
      obtain ⟨a0, a1, a2, a3, a4⟩ := hc k m hm
      have HM := Lib.hid hm
      have i0 : (0 : Int) ≤ (k : Int) := by omega
      have i1 : (k : Int) < (L.length : Int) := by omega
      have gal := World.grownBy_alloc wr (.cells #[.int .i64 m.a, .int .i64 m.b, .int .i64 m.ca, .int .i64 m.cb, .int .i64 m.cp] 44) none
      have HL := Lib.hid (And.intro (heap_alloc_new wr (.cells #[.int .i64 m.a, .int .i64 m.b, .int .i64 m.ca, .int .i64 m.cb, .int .i64 m.cp] 44)) (grown_trans G.out gal))
      clear hc hm gal
      go_upto_region 5 with fail
      clear a0 a1 a2 a3 a4 c0 c1
      generalize wr.alloc _ = wy at *
      obtain ⟨d0, d1, d2, d3, d4⟩ := lk_facts HL.out.1
      by_cases k1 : m.a = x ∧ m.b = y
      · obtain rfl : (m.ca, true) = z := by
          rw [← HZ.out]; unfold priceV
          rw [some_hit HN.out HM.out (show priceB x y m = some m.ca by unfold priceB; rw [if_pos k1])]
        have e1 : (m.a == x) = true := by simpa using k1.1
        have e2 : (m.b == y) = true := by simpa using k1.2
        clear k1
        go_wp2_with fail
        go_ret2
        exact ⟨rfl, grown_trans HB.out.2.1 HL.out.2⟩
      · by_cases k2 : m.b = x ∧ m.a = y
        · obtain rfl : (m.cb, true) = z := by
            rw [← HZ.out]; unfold priceV
            rw [some_hit HN.out HM.out (show priceB x y m = some m.cb by unfold priceB; rw [if_neg k1, if_pos k2])]
          have e3 : (m.b == x) = true := by simpa using k2.1
          have e4 : (m.a == y) = true := by simpa using k2.2
          have e12 : ((m.a == x) && (m.b == y)) = false := by
            cases h1 : (m.a == x) <;> cases h2 : (m.b == y) <;> simp at h1 h2 ⊢
            exact k1 ⟨h1, h2⟩
          cases h1 : (m.a == x)
          · clear k1 k2 e12
            go_wp2_with fail
            go_ret2
            exact ⟨rfl, grown_trans HB.out.2.1 HL.out.2⟩
          · have h2 : (m.b == y) = false := by rw [h1] at e12; simpa using e12
            clear k1 k2 e12
            go_wp2_with fail
            go_ret2
            exact ⟨rfl, grown_trans HB.out.2.1 HL.out.2⟩
        · have HN2 : Hid ((L.take (k + 1)).findSome? (priceB x y) = none) := Lib.hid (some_take HN.out HM.out (by unfold priceB; rw [if_neg k1, if_neg k2]))
          have G2 := Lib.hid HL.out.2
          have e12 : ((m.a == x) && (m.b == y)) = false := by
            cases h1 : (m.a == x) <;> cases h2 : (m.b == y) <;> simp at h1 h2 ⊢
            exact k1 ⟨h1, h2⟩
          have e34 : ((m.b == x) && (m.a == y)) = false := by
            cases h1 : (m.b == x) <;> cases h2 : (m.a == y) <;> simp at h1 h2 ⊢
            exact k2 ⟨h1, h2⟩
          clear k1 k2
          cases h1 : (m.a == x) <;> cases h3 : (m.b == x)
          · clear e12 e34
            go_wp2_with fail
            exact ⟨⟨k + 1, by omega, congrArg _ (by omega), HN2, G2⟩, by simp only [RowKit.intOf]; omega⟩
          · have h4 : (m.a == y) = false := by rw [h3] at e34; simpa using e34
            clear e12 e34
            go_wp2_with fail
            exact ⟨⟨k + 1, by omega, congrArg _ (by omega), HN2, G2⟩, by simp only [RowKit.intOf]; omega⟩
          · have h2 : (m.b == y) = false := by rw [h1] at e12; simpa using e12
            clear e12 e34
            go_wp2_with fail
            exact ⟨⟨k + 1, by omega, congrArg _ (by omega), HN2, G2⟩, by simp only [RowKit.intOf]; omega⟩
          · have h2 : (m.b == y) = false := by rw [h1] at e12; simpa using e12
            have h4 : (m.a == y) = false := by rw [h3] at e34; simpa using e34
            clear e12 e34
            go_wp2_with fail
            exact ⟨⟨k + 1, by omega, congrArg _ (by omega), HN2, G2⟩, by simp only [RowKit.intOf]; omega⟩
    · obtain rfl : k = L.length := by omega
      obtain rfl : (0, false) = z := by
        rw [← HZ.out]; unfold priceV
        have := HN.out
        rw [List.take_length] at this
        rw [this]
      go_wp2_with fail
      go_ret2
      exact ⟨rfl, grown_trans HB.out.2.1 G.out⟩
set_option maxRecDepth 100000 in
set_option maxHeartbeats 1600000 in
theorem rcostV_any (T : Tg) (x y : Int) (q : Nat → Prop) (w : World) (hT : TgOk w q T) :
    Calls Try.prog 55 #[.agg #[.slice T.pR T.R.length T.cR, .slice T.pL T.L.length T.cL], .int .i64 x, .int .i64 y] w fun e w' => e = .returned (.tuple #[.int .i64 (costV T.R T.L x y).1, .bool (costV T.R T.L x y).2]) ∧ w.grownBy w' none := by
  obtain ⟨R, L, pR, cR, pL, cL⟩ := T
  have hm1 := Nat.le_trans hT.cr.1 hT.cr.2
  have hm2 := Nat.le_trans hT.cl.1 hT.cl.2
  simp only at hm1 hm2 ⊢
  obtain ⟨k1, k2⟩ := tone_box w #[.slice pR R.length cR, .slice pL L.length cL] 28
  have HB := Lib.hid (And.intro k1 (And.intro k2 (hT.keep k2)))
  clear k1 k2 hT
  obtain ⟨z, hz⟩ : ∃ z, costV R L x y = z := ⟨_, rfl⟩
  rw [hz]
  have HZ := Lib.hid hz
  clear hz
  go_enter Try.func55, Try.ntmps55
  go_upto_region 1 with fail
  generalize w.alloc _ = wa at *
  obtain ⟨c0, c1⟩ := row_cells HB.out.1
  obtain ⟨X, hX⟩ : ∃ X, chk R L = X := ⟨_, rfl⟩
  have HX := Lib.hid hX
  have HO : Hid (okT R L = (X == 0)) := Lib.hid (by unfold okT; rw [hX])
  clear hX
  by_cases hx : X = 0
  rotate_left 1
  · have hx1 : (X == 0) = false := by simpa using hx
    obtain rfl : (0, false) = z := by have := HZ.out; unfold costV at this; rw [HO.out, hx1] at this; exact this
    go_wp2_with fail
    refine (rcheck_any ⟨R, L, pR, cR, pL, cL⟩ _ wa HB.out.2.2).mono ?_
    rintro e w1 ⟨rfl, hg⟩
    simp only
    rw [HX.out]
    have HG := Lib.hid hg
    clear hg c0 c1
    go_wp2_with fail
    go_ret2
    exact ⟨rfl, grown_trans HB.out.2.1 HG.out⟩
  obtain rfl : priceV L x y = z := by have := HZ.out; unfold costV at this; rw [HO.out, hx] at this; exact this
  subst hx
  go_wp2_with fail
  refine (rcheck_any ⟨R, L, pR, cR, pL, cL⟩ _ wa HB.out.2.2).mono ?_
  rintro e w1 ⟨rfl, hg⟩
  simp only
  rw [HX.out]
  have HG := Lib.hid hg
  clear hg c0 c1
  obtain ⟨c0, c1⟩ := row_cells (kept_row HB.out.1 HG.out (by simp))
  go_wp2_with fail
  refine (rprice_any ⟨R, L, pR, cR, pL, cL⟩ x y _ w1 (HB.out.2.2.keep HG.out)).mono ?_
  rintro e w2 ⟨rfl, hg⟩
  simp only
  have HG2 := Lib.hid (grown_trans HG.out hg)
  clear hg
  go_wp2_with fail
  go_ret2
  exact ⟨rfl, grown_trans HB.out.2.1 HG2.out⟩
set_option maxRecDepth 100000 in
set_option maxHeartbeats 1600000 in
theorem rnear_any (T : Tg) (x : Int) (q : Nat → Prop) (w : World) (hT : TgOk w q T) (h1 : T.R.length ≤ 1000) :
    Calls Try.prog 34 #[.agg #[.slice T.pR T.R.length T.cR, .slice T.pL T.L.length T.cL], .int .i64 x] w fun e w' => TRet (nearR T.R T.L x) w e w' := by
  obtain ⟨R, L, pR, cR, pL, cL⟩ := T
  have hm1 := Nat.le_trans hT.cr.1 hT.cr.2
  have hm2 := Nat.le_trans hT.cl.1 hT.cl.2
  simp only at hm1 hm2 h1 ⊢
  obtain ⟨k1, k2⟩ := tone_box w #[.slice pR R.length cR, .slice pL L.length cL] 28
  have HB := Lib.hid (And.intro k1 (And.intro k2 (hT.keep k2)))
  clear k1 k2 hT
  go_enter Try.func34, Try.ntmps34
  go_upto_region 1 with fail
  generalize w.alloc _ = wa at *
  obtain ⟨c0, c1⟩ := row_cells HB.out.1
  obtain ⟨ii, hii, hi0, hi1, hi2⟩ := info_parts info_int
  have N0 : Hid (NK wa (.slice none 0 0) (nearR (R.take 0) L x) wa) := Lib.hid ⟨World.ownsRow_nil _ _ _ _, grown_refl _ _⟩
  go_wp2_with fail
  go_loopw [5, 6] (fun v a wr => ∃ k : Nat, k ≤ R.length ∧ a = .int .i64 (k : Int) ∧ Hid (NK wa v (nearR (R.take k) L x) wr)) (fun _ a _ => R.length - (RowKit.intOf a).toNat)
  case atStart => exact ⟨0, Nat.zero_le _, rfl, N0⟩
  case round =>
  obtain ⟨k, hk, rfl, N⟩ := hrel
  clear N0 c0 c1
  have HBR := Lib.hid (kept_row HB.out.1 N.out.gr (by simp))
  have HT := Lib.hid (HB.out.2.2.keep N.out.gr)
  by_cases hlt : k < R.length
  · obtain ⟨-, b, off, rfl, -, -⟩ := rdr_cells (R := R) HT.out.r (by omega)
    obtain ⟨m, hm⟩ : ∃ m, R[k]? = some m := ⟨_, List.getElem?_eq_getElem hlt⟩
    have HC : ∀ u, Hid (wr.grownBy u none) → u.cell? ⟨b, off + k * 2, none⟩ = some (.int .i64 m.id) ∧ u.cell? ⟨b, off + k * 2 + 1, none⟩ = some (.bool m.cap) := fun u hu => by
      obtain ⟨-, b', off', e, -, hc⟩ := rdr_cells (R := R) (HT.out.keep hu.out).r (by omega)
      injection e with e
      injection e with e4 e5
      subst e4
      subst e5
      exact hc k m hm
    have HCH := Lib.hid HC
    have i0 : (0 : Int) ≤ (k : Int) := by omega
    have i1 : (k : Int) < (R.length : Int) := by omega
    have hln : (nearR (R.take k) L x).length ≤ 1000 := by
      unfold nearR
      rw [List.length_map]
      exact Nat.le_trans (List.length_filter_le _ _) (Nat.le_trans (List.length_take_le _ _) (by omega))
    have HL0 : Hid (nearR (R.take (k + 1)) L x = nearR (R.take k) L x ++ (if (priceV L x m.id).2 then [m.id] else [])) := Lib.hid (by
      unfold nearR
      rw [filter_snoc hm, List.map_append]
      cases (priceV L x m.id).2 <;> rfl)
    obtain ⟨M, hM⟩ : ∃ M, nearR (R.take k) L x = M := ⟨_, rfl⟩
    rw [hM] at HL0 N hln
    have HL := HL0
    obtain ⟨c0, c1⟩ := row_cells HBR.out
    clear HC hm hM HL0
    go_upto_region 5 with fail
    clear c0 c1
    cases hp : (priceV L x m.id).2
    · have HP := Lib.hid hp
      clear hp
      refine wp_region_held_drew (S := fun w' => Hid (wr.grownBy w' none)) (by kernel_rfl) (Lib.hid (grown_drew (grown_refl _ _))) (fun hHeld => ?_)
      refine wpAnyH_take (i := 0) (oi := { dst := some 17, op := Op.load 28 (Operand.tmp 2), type := 28, pos := "ref.go:114", after := #[], guard := none }) (v := ?_) rfl (by kernel_rfl) (by kernel_rfl) (by kernel_rfl) (fun _ _ _ h => h) (Or.inl ⟨by rfl, ?_⟩) hHeld ?_
      rotate_left 1
      · intro u hSu
        obtain ⟨q0, q1⟩ := row_cells (kept_row HBR.out hSu.out (by simp))
        obtain ⟨q2, q3⟩ := HCH.out _ hSu
        go_simp
        first | done | with_reducible rfl
      (try simp only [Act.put, List.setIfInBounds_toArray, List.set_cons_zero, List.set_cons_succ])
      refine wpAnyH_take (i := 1) (oi := { dst := some 18, op := Op.move (Operand.tmp 1), type := 3, pos := "ref.go:114", after := #[], guard := none }) (v := ?_) rfl (by kernel_rfl) (by kernel_rfl) (by kernel_rfl) (fun _ _ _ h => h) (Or.inl ⟨by rfl, ?_⟩) hHeld ?_
      rotate_left 1
      · intro u hSu
        obtain ⟨q0, q1⟩ := row_cells (kept_row HBR.out hSu.out (by simp))
        obtain ⟨q2, q3⟩ := HCH.out _ hSu
        go_simp
        first | done | with_reducible rfl
      (try simp only [Act.put, List.setIfInBounds_toArray, List.set_cons_zero, List.set_cons_succ])
      refine wpAnyH_take (i := 2) (oi := { dst := some 19, op := Op.fieldAddr 28 (Operand.tmp 2) 0, type := 0, pos := "ref.go:114", after := #[], guard := none }) (v := ?_) rfl (by kernel_rfl) (by kernel_rfl) (by kernel_rfl) (fun _ _ _ h => h) (Or.inl ⟨by rfl, ?_⟩) hHeld ?_
      rotate_left 1
      · intro u hSu
        obtain ⟨q0, q1⟩ := row_cells (kept_row HBR.out hSu.out (by simp))
        obtain ⟨q2, q3⟩ := HCH.out _ hSu
        go_simp
        first | done | with_reducible rfl
      (try simp only [Act.put, List.setIfInBounds_toArray, List.set_cons_zero, List.set_cons_succ])
      refine wpAnyH_take (i := 3) (oi := { dst := some 20, op := Op.load 25 (Operand.tmp 19), type := 25, pos := "ref.go:114", after := #[{ on := 2, ground := Ground.data }], guard := none }) (v := ?_) rfl (by kernel_rfl) (by kernel_rfl) (by kernel_rfl) (fun _ _ _ h => h) (Or.inl ⟨by rfl, ?_⟩) hHeld ?_
      rotate_left 1
      · intro u hSu
        obtain ⟨q0, q1⟩ := row_cells (kept_row HBR.out hSu.out (by simp))
        obtain ⟨q2, q3⟩ := HCH.out _ hSu
        go_simp
        first | done | with_reducible rfl
      (try simp only [Act.put, List.setIfInBounds_toArray, List.set_cons_zero, List.set_cons_succ])
      refine wpAnyH_take (i := 4) (oi := { dst := some 21, op := Op.move (Operand.tmp 6), type := 3, pos := "ref.go:114", after := #[], guard := none }) (v := ?_) rfl (by kernel_rfl) (by kernel_rfl) (by kernel_rfl) (fun _ _ _ h => h) (Or.inl ⟨by rfl, ?_⟩) hHeld ?_
      rotate_left 1
      · intro u hSu
        obtain ⟨q0, q1⟩ := row_cells (kept_row HBR.out hSu.out (by simp))
        obtain ⟨q2, q3⟩ := HCH.out _ hSu
        go_simp
        first | done | with_reducible rfl
      (try simp only [Act.put, List.setIfInBounds_toArray, List.set_cons_zero, List.set_cons_succ])
      refine wpAnyH_take (i := 5) (oi := { dst := some 22, op := Op.indexAddr 25 (Operand.tmp 20) (Operand.tmp 21), type := 0, pos := "ref.go:114", after := #[{ on := 3, ground := Ground.data }, { on := 4, ground := Ground.data }], guard := none }) (v := ?_) rfl (by kernel_rfl) (by kernel_rfl) (by kernel_rfl) (fun _ _ _ h => h) (Or.inl ⟨by rfl, ?_⟩) hHeld ?_
      rotate_left 1
      · intro u hSu
        obtain ⟨q0, q1⟩ := row_cells (kept_row HBR.out hSu.out (by simp))
        obtain ⟨q2, q3⟩ := HCH.out _ hSu
        go_simp
        first | done | with_reducible rfl
      (try simp only [Act.put, List.setIfInBounds_toArray, List.set_cons_zero, List.set_cons_succ])
      refine wpAnyH_take (i := 6) (oi := { dst := some 23, op := Op.fieldAddr 63 (Operand.tmp 22) 0, type := 0, pos := "ref.go:114", after := #[{ on := 5, ground := Ground.data }], guard := none }) (v := ?_) rfl (by kernel_rfl) (by kernel_rfl) (by kernel_rfl) (fun _ _ _ h => h) (Or.inl ⟨by rfl, ?_⟩) hHeld ?_
      rotate_left 1
      · intro u hSu
        obtain ⟨q0, q1⟩ := row_cells (kept_row HBR.out hSu.out (by simp))
        obtain ⟨q2, q3⟩ := HCH.out _ hSu
        go_simp
        first | done | with_reducible rfl
      (try simp only [Act.put, List.setIfInBounds_toArray, List.set_cons_zero, List.set_cons_succ])
      refine wpAnyH_take (i := 7) (oi := { dst := some 24, op := Op.load 3 (Operand.tmp 23), type := 3, pos := "ref.go:114", after := #[{ on := 6, ground := Ground.data }], guard := none }) (v := ?_) rfl (by kernel_rfl) (by kernel_rfl) (by kernel_rfl) (fun _ _ _ h => h) (Or.inl ⟨by rfl, ?_⟩) hHeld ?_
      rotate_left 1
      · intro u hSu
        obtain ⟨q0, q1⟩ := row_cells (kept_row HBR.out hSu.out (by simp))
        obtain ⟨q2, q3⟩ := HCH.out _ hSu
        go_simp
        first | done | with_reducible rfl
      (try simp only [Act.put, List.setIfInBounds_toArray, List.set_cons_zero, List.set_cons_succ])
      refine wpAnyH_ready (rs := [8]) (by kernel_rfl) (by simp) ?_
      refine AllReadyH.cons (o := { dst := some 25, op := Op.call { callee := Callee.value (Operand.func 32), args := #[Operand.tmp 17, Operand.tmp 18, Operand.tmp 24], argTypes := #[28, 3, 3] }, type := 49, pos := "ref.go:114", after := #[{ on := 0, ground := Ground.data }, { on := 1, ground := Ground.data }, { on := 7, ground := Ground.data }], guard := none }) rfl (fun Kz hK => ?_) AllReadyH.nil
      go_simp
      go_at_call 32
      refine (rprice_any ⟨R, L, some ⟨b, off, none⟩, cR, pL, cL⟩ x m.id _ _ (HT.out.keep hHeld.out)).mono ?_
      rintro e w5 ⟨rfl, hg⟩
      simp only
      rw [HP.out]
      refine hK.out _ _ (Lib.hid (grown_trans hHeld.out hg)) (fun hH2 => ?_)
      clear hK Kz hHeld
      have hHeld := hH2
      clear hH2
      (try simp only [Act.put, List.setIfInBounds_toArray, List.set_cons_zero, List.set_cons_succ])
      refine wpAnyH_take (i := 9) (oi := { dst := some 16, op := Op.move (Operand.tmp 25), type := 49, pos := "ref.go:114", after := #[{ on := 8, ground := Ground.data }], guard := none }) (v := ?_) rfl (by kernel_rfl) (by kernel_rfl) (by kernel_rfl) (fun _ _ _ h => h) (Or.inl ⟨by rfl, ?_⟩) hHeld ?_
      rotate_left 1
      · intro u hSu
        obtain ⟨q0, q1⟩ := row_cells (kept_row HBR.out hSu.out (by simp))
        obtain ⟨q2, q3⟩ := HCH.out _ hSu
        go_simp
        first | done | with_reducible rfl
      (try simp only [Act.put, List.setIfInBounds_toArray, List.set_cons_zero, List.set_cons_succ])
      refine wpAnyH_take (i := 10) (oi := { dst := some 26, op := Op.extract (Operand.tmp 16) 0, type := 3, pos := "ref.go:114", after := #[{ on := 9, ground := Ground.data }], guard := none }) (v := ?_) rfl (by kernel_rfl) (by kernel_rfl) (by kernel_rfl) (fun _ _ _ h => h) (Or.inl ⟨by rfl, ?_⟩) hHeld ?_
      rotate_left 1
      · intro u hSu
        obtain ⟨q0, q1⟩ := row_cells (kept_row HBR.out hSu.out (by simp))
        obtain ⟨q2, q3⟩ := HCH.out _ hSu
        go_simp
        first | done | with_reducible rfl
      (try simp only [Act.put, List.setIfInBounds_toArray, List.set_cons_zero, List.set_cons_succ])
      refine wpAnyH_take (i := 11) (oi := { dst := some 27, op := Op.extract (Operand.tmp 16) 1, type := 4, pos := "ref.go:114", after := #[{ on := 9, ground := Ground.data }, { on := 12, ground := Ground.gcOnly Departure.lateStores }], guard := none }) (v := ?_) rfl (by kernel_rfl) (by kernel_rfl) (by kernel_rfl) (fun _ _ _ h => h) (Or.inl ⟨by rfl, ?_⟩) hHeld ?_
      rotate_left 1
      · intro u hSu
        obtain ⟨q0, q1⟩ := row_cells (kept_row HBR.out hSu.out (by simp))
        obtain ⟨q2, q3⟩ := HCH.out _ hSu
        go_simp
        first | done | with_reducible rfl
      (try simp only [Act.put, List.setIfInBounds_toArray, List.set_cons_zero, List.set_cons_succ])
      refine wpAnyH_take (i := 12) (oi := { dst := some 7, op := Op.assign (Operand.tmp 26), type := 3, pos := "ref.go:114", after := #[{ on := 10, ground := Ground.data }, { on := 8, ground := Ground.chain }, { on := 0, ground := Ground.phase }, { on := 1, ground := Ground.phase }, { on := 2, ground := Ground.phase }, { on := 3, ground := Ground.phase }, { on := 4, ground := Ground.phase }, { on := 5, ground := Ground.phase }, { on := 6, ground := Ground.phase }, { on := 7, ground := Ground.phase }, { on := 8, ground := Ground.phase }, { on := 9, ground := Ground.phase }, { on := 10, ground := Ground.phase }, { on := 11, ground := Ground.textOnly Departure.lateStores }], guard := none }) (v := ?_) rfl (by kernel_rfl) (by kernel_rfl) (by kernel_rfl) (fun _ _ _ h => h) (Or.inl ⟨by rfl, ?_⟩) hHeld ?_
      rotate_left 1
      · intro u hSu
        obtain ⟨q0, q1⟩ := row_cells (kept_row HBR.out hSu.out (by simp))
        obtain ⟨q2, q3⟩ := HCH.out _ hSu
        go_simp
        first | done | with_reducible rfl
      (try simp only [Act.put, List.setIfInBounds_toArray, List.set_cons_zero, List.set_cons_succ])
      refine wpAnyH_take (i := 13) (oi := { dst := some 8, op := Op.assign (Operand.tmp 27), type := 4, pos := "ref.go:114", after := #[{ on := 11, ground := Ground.data }, { on := 12, ground := Ground.chain }, { on := 0, ground := Ground.phase }, { on := 1, ground := Ground.phase }, { on := 2, ground := Ground.phase }, { on := 3, ground := Ground.phase }, { on := 4, ground := Ground.phase }, { on := 5, ground := Ground.phase }, { on := 6, ground := Ground.phase }, { on := 7, ground := Ground.phase }, { on := 8, ground := Ground.phase }, { on := 9, ground := Ground.phase }, { on := 10, ground := Ground.phase }, { on := 11, ground := Ground.phase }, { on := 12, ground := Ground.phase }], guard := none }) (v := ?_) rfl (by kernel_rfl) (by kernel_rfl) (by kernel_rfl) (fun _ _ _ h => h) (Or.inl ⟨by rfl, ?_⟩) hHeld ?_
      rotate_left 1
      · intro u hSu
        obtain ⟨q0, q1⟩ := row_cells (kept_row HBR.out hSu.out (by simp))
        obtain ⟨q2, q3⟩ := HCH.out _ hSu
        go_simp
        first | done | with_reducible rfl
      (try simp only [Act.put, List.setIfInBounds_toArray, List.set_cons_zero, List.set_cons_succ])
      refine wpAnyH_done (by kernel_rfl) ?_ _
      have H9 := Lib.hid (N.out.keep hHeld.out)
      clear hHeld
      have HN2 : Hid (NK wa _ (nearR (R.take (k + 1)) L x) w5) := Lib.hid (by rw [HL.out, HP.out]; show NK wa _ (M ++ []) w5; rw [List.append_nil]; exact H9.out)
      go_wp2_with fail
      exact ⟨⟨k + 1, by omega, congrArg _ (by omega), HN2⟩, by simp only [RowKit.intOf]; omega⟩
    · have HP := Lib.hid hp
      clear hp
      refine wp_region_held_drew (S := fun w' => Hid (wr.grownBy w' none)) (by kernel_rfl) (Lib.hid (grown_drew (grown_refl _ _))) (fun hHeld => ?_)
      refine wpAnyH_take (i := 0) (oi := { dst := some 17, op := Op.load 28 (Operand.tmp 2), type := 28, pos := "ref.go:114", after := #[], guard := none }) (v := ?_) rfl (by kernel_rfl) (by kernel_rfl) (by kernel_rfl) (fun _ _ _ h => h) (Or.inl ⟨by rfl, ?_⟩) hHeld ?_
      rotate_left 1
      · intro u hSu
        obtain ⟨q0, q1⟩ := row_cells (kept_row HBR.out hSu.out (by simp))
        obtain ⟨q2, q3⟩ := HCH.out _ hSu
        go_simp
        first | done | with_reducible rfl
      (try simp only [Act.put, List.setIfInBounds_toArray, List.set_cons_zero, List.set_cons_succ])
      refine wpAnyH_take (i := 1) (oi := { dst := some 18, op := Op.move (Operand.tmp 1), type := 3, pos := "ref.go:114", after := #[], guard := none }) (v := ?_) rfl (by kernel_rfl) (by kernel_rfl) (by kernel_rfl) (fun _ _ _ h => h) (Or.inl ⟨by rfl, ?_⟩) hHeld ?_
      rotate_left 1
      · intro u hSu
        obtain ⟨q0, q1⟩ := row_cells (kept_row HBR.out hSu.out (by simp))
        obtain ⟨q2, q3⟩ := HCH.out _ hSu
        go_simp
        first | done | with_reducible rfl
      (try simp only [Act.put, List.setIfInBounds_toArray, List.set_cons_zero, List.set_cons_succ])
      refine wpAnyH_take (i := 2) (oi := { dst := some 19, op := Op.fieldAddr 28 (Operand.tmp 2) 0, type := 0, pos := "ref.go:114", after := #[], guard := none }) (v := ?_) rfl (by kernel_rfl) (by kernel_rfl) (by kernel_rfl) (fun _ _ _ h => h) (Or.inl ⟨by rfl, ?_⟩) hHeld ?_
      rotate_left 1
      · intro u hSu
        obtain ⟨q0, q1⟩ := row_cells (kept_row HBR.out hSu.out (by simp))
        obtain ⟨q2, q3⟩ := HCH.out _ hSu
        go_simp
        first | done | with_reducible rfl
      (try simp only [Act.put, List.setIfInBounds_toArray, List.set_cons_zero, List.set_cons_succ])
      refine wpAnyH_take (i := 3) (oi := { dst := some 20, op := Op.load 25 (Operand.tmp 19), type := 25, pos := "ref.go:114", after := #[{ on := 2, ground := Ground.data }], guard := none }) (v := ?_) rfl (by kernel_rfl) (by kernel_rfl) (by kernel_rfl) (fun _ _ _ h => h) (Or.inl ⟨by rfl, ?_⟩) hHeld ?_
      rotate_left 1
      · intro u hSu
        obtain ⟨q0, q1⟩ := row_cells (kept_row HBR.out hSu.out (by simp))
        obtain ⟨q2, q3⟩ := HCH.out _ hSu
        go_simp
        first | done | with_reducible rfl
      (try simp only [Act.put, List.setIfInBounds_toArray, List.set_cons_zero, List.set_cons_succ])
      refine wpAnyH_take (i := 4) (oi := { dst := some 21, op := Op.move (Operand.tmp 6), type := 3, pos := "ref.go:114", after := #[], guard := none }) (v := ?_) rfl (by kernel_rfl) (by kernel_rfl) (by kernel_rfl) (fun _ _ _ h => h) (Or.inl ⟨by rfl, ?_⟩) hHeld ?_
      rotate_left 1
      · intro u hSu
        obtain ⟨q0, q1⟩ := row_cells (kept_row HBR.out hSu.out (by simp))
        obtain ⟨q2, q3⟩ := HCH.out _ hSu
        go_simp
        first | done | with_reducible rfl
      (try simp only [Act.put, List.setIfInBounds_toArray, List.set_cons_zero, List.set_cons_succ])
      refine wpAnyH_take (i := 5) (oi := { dst := some 22, op := Op.indexAddr 25 (Operand.tmp 20) (Operand.tmp 21), type := 0, pos := "ref.go:114", after := #[{ on := 3, ground := Ground.data }, { on := 4, ground := Ground.data }], guard := none }) (v := ?_) rfl (by kernel_rfl) (by kernel_rfl) (by kernel_rfl) (fun _ _ _ h => h) (Or.inl ⟨by rfl, ?_⟩) hHeld ?_
      rotate_left 1
      · intro u hSu
        obtain ⟨q0, q1⟩ := row_cells (kept_row HBR.out hSu.out (by simp))
        obtain ⟨q2, q3⟩ := HCH.out _ hSu
        go_simp
        first | done | with_reducible rfl
      (try simp only [Act.put, List.setIfInBounds_toArray, List.set_cons_zero, List.set_cons_succ])
      refine wpAnyH_take (i := 6) (oi := { dst := some 23, op := Op.fieldAddr 63 (Operand.tmp 22) 0, type := 0, pos := "ref.go:114", after := #[{ on := 5, ground := Ground.data }], guard := none }) (v := ?_) rfl (by kernel_rfl) (by kernel_rfl) (by kernel_rfl) (fun _ _ _ h => h) (Or.inl ⟨by rfl, ?_⟩) hHeld ?_
      rotate_left 1
      · intro u hSu
        obtain ⟨q0, q1⟩ := row_cells (kept_row HBR.out hSu.out (by simp))
        obtain ⟨q2, q3⟩ := HCH.out _ hSu
        go_simp
        first | done | with_reducible rfl
      (try simp only [Act.put, List.setIfInBounds_toArray, List.set_cons_zero, List.set_cons_succ])
      refine wpAnyH_take (i := 7) (oi := { dst := some 24, op := Op.load 3 (Operand.tmp 23), type := 3, pos := "ref.go:114", after := #[{ on := 6, ground := Ground.data }], guard := none }) (v := ?_) rfl (by kernel_rfl) (by kernel_rfl) (by kernel_rfl) (fun _ _ _ h => h) (Or.inl ⟨by rfl, ?_⟩) hHeld ?_
      rotate_left 1
      · intro u hSu
        obtain ⟨q0, q1⟩ := row_cells (kept_row HBR.out hSu.out (by simp))
        obtain ⟨q2, q3⟩ := HCH.out _ hSu
        go_simp
        first | done | with_reducible rfl
      (try simp only [Act.put, List.setIfInBounds_toArray, List.set_cons_zero, List.set_cons_succ])
      refine wpAnyH_ready (rs := [8]) (by kernel_rfl) (by simp) ?_
      refine AllReadyH.cons (o := { dst := some 25, op := Op.call { callee := Callee.value (Operand.func 32), args := #[Operand.tmp 17, Operand.tmp 18, Operand.tmp 24], argTypes := #[28, 3, 3] }, type := 49, pos := "ref.go:114", after := #[{ on := 0, ground := Ground.data }, { on := 1, ground := Ground.data }, { on := 7, ground := Ground.data }], guard := none }) rfl (fun Kz hK => ?_) AllReadyH.nil
      go_simp
      go_at_call 32
      refine (rprice_any ⟨R, L, some ⟨b, off, none⟩, cR, pL, cL⟩ x m.id _ _ (HT.out.keep hHeld.out)).mono ?_
      rintro e w5 ⟨rfl, hg⟩
      simp only
      rw [HP.out]
      refine hK.out _ _ (Lib.hid (grown_trans hHeld.out hg)) (fun hH2 => ?_)
      clear hK Kz hHeld
      have hHeld := hH2
      clear hH2
      (try simp only [Act.put, List.setIfInBounds_toArray, List.set_cons_zero, List.set_cons_succ])
      refine wpAnyH_take (i := 9) (oi := { dst := some 16, op := Op.move (Operand.tmp 25), type := 49, pos := "ref.go:114", after := #[{ on := 8, ground := Ground.data }], guard := none }) (v := ?_) rfl (by kernel_rfl) (by kernel_rfl) (by kernel_rfl) (fun _ _ _ h => h) (Or.inl ⟨by rfl, ?_⟩) hHeld ?_
      rotate_left 1
      · intro u hSu
        obtain ⟨q0, q1⟩ := row_cells (kept_row HBR.out hSu.out (by simp))
        obtain ⟨q2, q3⟩ := HCH.out _ hSu
        go_simp
        first | done | with_reducible rfl
      (try simp only [Act.put, List.setIfInBounds_toArray, List.set_cons_zero, List.set_cons_succ])
      refine wpAnyH_take (i := 10) (oi := { dst := some 26, op := Op.extract (Operand.tmp 16) 0, type := 3, pos := "ref.go:114", after := #[{ on := 9, ground := Ground.data }], guard := none }) (v := ?_) rfl (by kernel_rfl) (by kernel_rfl) (by kernel_rfl) (fun _ _ _ h => h) (Or.inl ⟨by rfl, ?_⟩) hHeld ?_
      rotate_left 1
      · intro u hSu
        obtain ⟨q0, q1⟩ := row_cells (kept_row HBR.out hSu.out (by simp))
        obtain ⟨q2, q3⟩ := HCH.out _ hSu
        go_simp
        first | done | with_reducible rfl
      (try simp only [Act.put, List.setIfInBounds_toArray, List.set_cons_zero, List.set_cons_succ])
      refine wpAnyH_take (i := 11) (oi := { dst := some 27, op := Op.extract (Operand.tmp 16) 1, type := 4, pos := "ref.go:114", after := #[{ on := 9, ground := Ground.data }, { on := 12, ground := Ground.gcOnly Departure.lateStores }], guard := none }) (v := ?_) rfl (by kernel_rfl) (by kernel_rfl) (by kernel_rfl) (fun _ _ _ h => h) (Or.inl ⟨by rfl, ?_⟩) hHeld ?_
      rotate_left 1
      · intro u hSu
        obtain ⟨q0, q1⟩ := row_cells (kept_row HBR.out hSu.out (by simp))
        obtain ⟨q2, q3⟩ := HCH.out _ hSu
        go_simp
        first | done | with_reducible rfl
      (try simp only [Act.put, List.setIfInBounds_toArray, List.set_cons_zero, List.set_cons_succ])
      refine wpAnyH_take (i := 12) (oi := { dst := some 7, op := Op.assign (Operand.tmp 26), type := 3, pos := "ref.go:114", after := #[{ on := 10, ground := Ground.data }, { on := 8, ground := Ground.chain }, { on := 0, ground := Ground.phase }, { on := 1, ground := Ground.phase }, { on := 2, ground := Ground.phase }, { on := 3, ground := Ground.phase }, { on := 4, ground := Ground.phase }, { on := 5, ground := Ground.phase }, { on := 6, ground := Ground.phase }, { on := 7, ground := Ground.phase }, { on := 8, ground := Ground.phase }, { on := 9, ground := Ground.phase }, { on := 10, ground := Ground.phase }, { on := 11, ground := Ground.textOnly Departure.lateStores }], guard := none }) (v := ?_) rfl (by kernel_rfl) (by kernel_rfl) (by kernel_rfl) (fun _ _ _ h => h) (Or.inl ⟨by rfl, ?_⟩) hHeld ?_
      rotate_left 1
      · intro u hSu
        obtain ⟨q0, q1⟩ := row_cells (kept_row HBR.out hSu.out (by simp))
        obtain ⟨q2, q3⟩ := HCH.out _ hSu
        go_simp
        first | done | with_reducible rfl
      (try simp only [Act.put, List.setIfInBounds_toArray, List.set_cons_zero, List.set_cons_succ])
      refine wpAnyH_take (i := 13) (oi := { dst := some 8, op := Op.assign (Operand.tmp 27), type := 4, pos := "ref.go:114", after := #[{ on := 11, ground := Ground.data }, { on := 12, ground := Ground.chain }, { on := 0, ground := Ground.phase }, { on := 1, ground := Ground.phase }, { on := 2, ground := Ground.phase }, { on := 3, ground := Ground.phase }, { on := 4, ground := Ground.phase }, { on := 5, ground := Ground.phase }, { on := 6, ground := Ground.phase }, { on := 7, ground := Ground.phase }, { on := 8, ground := Ground.phase }, { on := 9, ground := Ground.phase }, { on := 10, ground := Ground.phase }, { on := 11, ground := Ground.phase }, { on := 12, ground := Ground.phase }], guard := none }) (v := ?_) rfl (by kernel_rfl) (by kernel_rfl) (by kernel_rfl) (fun _ _ _ h => h) (Or.inl ⟨by rfl, ?_⟩) hHeld ?_
      rotate_left 1
      · intro u hSu
        obtain ⟨q0, q1⟩ := row_cells (kept_row HBR.out hSu.out (by simp))
        obtain ⟨q2, q3⟩ := HCH.out _ hSu
        go_simp
        first | done | with_reducible rfl
      (try simp only [Act.put, List.setIfInBounds_toArray, List.set_cons_zero, List.set_cons_succ])
      refine wpAnyH_done (by kernel_rfl) ?_ _
      have H9 := Lib.hid (N.out.keep hHeld.out)
      obtain ⟨c2, c3⟩ := row_cells (kept_row HBR.out hHeld.out (by simp))
      obtain ⟨a2, a3⟩ := HCH.out _ hHeld
      have hsz := H9.out.gr.size
      have hown := H9.out.own
      clear hHeld
      go_wp2_with (at_builtin; refine hold_on ?_)
      refine Lib.hid ?_
      refine wpList_append_own _ rfl _ _ 22 rfl wa.heap.size 3 ii (.int .i64 0) 1 8 Try.underlying22 hii hi0 hi1 hi2 rfl (by decide) _ _ _ rfl (hown.alloc _) ⟨w5.heap.size, 0, none⟩ 1 1 [.int .i64 m.id] rfl rfl (cell_one _ _ _) (by intro u hu; simp at hu; subst hu; rfl) (by unfold maxLen; omega) (by omega) (by simp; omega) ?_
      intro v' w6 hown' hg _
      have hn := (H9.out.more (grown_refl _ none) hown' hg).1
      have HN2 : Hid (NK wa v' (nearR (R.take (k + 1)) L x) w6) := Lib.hid (by rw [HL.out, HP.out]; exact hn)
      clear hown' hg hn hown H9 c2 c3 a2 a3
      go_wp2_with fail
      exact ⟨⟨k + 1, by omega, congrArg _ (by omega), HN2⟩, by simp only [RowKit.intOf]; omega⟩
  · obtain rfl : k = R.length := by omega
    rw [List.take_length] at N
    obtain ⟨p, c, rfl, hR, hlen, hp, hg⟩ := N.out.ret
    have HR := Lib.hid (And.intro hR (And.intro hlen (And.intro hp hg)))
    obtain ⟨c0, c1⟩ := row_cells HBR.out
    clear hR hlen hp hg N
    go_wp2_with fail
    go_ret
    exact ⟨p, c, rfl, HR.out.1.mono (fun b hb => Nat.le_trans HB.out.2.1.size hb), HR.out.2.1, HR.out.2.2.1, grown_trans HB.out.2.1 HR.out.2.2.2⟩
end Go.Proofs.Ytlefjdglcdopeaa

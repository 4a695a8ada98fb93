/- Parts of the proof, packed: ShCtM, ShNxM, ToReach, ToStep, ToOpn, ToOpnF. -/
import Derived.Test.YtlefjdglcdopeaaAv15
import Derived.Test.YtlefjdglcdopeaaAv10
import Derived.Test.YtlefjdglcdopeaaAv12
import Derived.Test.YtlefjdglcdopeaaAv7
import Derived.Maps.AppendAt
import Derived.Test.YtlefjdglcdopeaaAv1
import Derived.Test.YtlefjdglcdopeaaAv5
/- Counting without the limit: at most eight routers. -/
namespace Go.Proofs.Ytlefjdglcdopeaa
open Go.RowKit Go.Maps Bs
set_option maxRecDepth 100000 in
theorem ids_pair {R : List Rt} {L : List Lk} (h : okT R L = true) : (ids R).Pairwise (· < ·) := by
  have hr := pair_of_asc ltR ltR_trans R (okT_all h).rs
  unfold ids
  rw [List.pairwise_map]
  exact hr.imp (fun {a b} h => of_decide_eq_true h)
set_option maxRecDepth 100000 in
theorem nodup_of_lt {l : List Int} (h : l.Pairwise (· < ·)) : l.Nodup := h.imp (fun {a b} h e => by omega)
set_option maxRecDepth 100000 in
theorem nbL_pair {R : List Rt} {L : List Lk} (h : okT R L = true) (r : Int) : (nbL L r).Pairwise (· < ·) := by
  rw [near_eq (okT_all h) r]
  unfold nearR
  have hr := pair_of_asc ltR ltR_trans R (okT_all h).rs
  rw [List.pairwise_map]
  exact (hr.filter _).imp (fun {a b} h => of_decide_eq_true h)
set_option maxRecDepth 100000 in
theorem nxt_sub (R : List Rt) (L : List Lk) (r z : Int) : (nxt R L r z).Sublist (nbL L r) := by
  unfold nxt
  rw [nxM_next, ← nbD_fst]
  unfold nxM
  exact (List.filter_sublist).map _
set_option maxRecDepth 100000 in
theorem nxt_pair {R : List Rt} {L : List Lk} (h : okT R L = true) (r z : Int) : (nxt R L r z).Pairwise (· < ·) := (nbL_pair h r).sublist (nxt_sub R L r z)
/-- v is nearer to z than r. -/
noncomputable def nearB (R : List Rt) (L : List Lk) (z r v : Int) : Bool := match dst R L v z, dst R L r z with
  | some x, some d => decide (x < d)
  | _, _ => false
set_option maxRecDepth 100000 in
theorem nearB_iff {R : List Rt} {L : List Lk} {z r v : Int} : nearB R L z r v = true ↔ ∃ x d, dst R L v z = some x ∧ dst R L r z = some d ∧ x < d := by
  unfold nearB
  cases h1 : dst R L v z with
  | none => simp
  | some x =>
    cases h2 : dst R L r z with
    | none => simp
    | some d => simp
/-- How many routers are nearer to z than r. -/
noncomputable def rkN (R : List Rt) (L : List Lk) (z r : Int) : Nat := ((ids R).filter (nearB R L z r)).length
set_option maxRecDepth 100000 in
theorem rkN_self {R : List Rt} {L : List Lk} {z r : Int} (h : okT R L = true) (hr : r ∈ ids R) : rkN R L z r + 1 ≤ (ids R).length := by
  have hn : ¬ nearB R L z r r = true := fun e => by
    obtain ⟨x, d, h1, h2, h3⟩ := nearB_iff.1 e
    rw [h1] at h2
    have := Option.some.inj h2
    omega
  have := nodup_le (r :: (ids R).filter (nearB R L z r)) (ids R) (List.nodup_cons.2 ⟨fun hm => hn (List.mem_filter.1 hm).2, (nodup_of_lt (ids_pair h)).sublist List.filter_sublist⟩) (fun x hx => by
    rcases List.mem_cons.1 hx with rfl | hx
    · exact hr
    · exact (List.mem_filter.1 hx).1)
  exact this
set_option maxRecDepth 100000 in
theorem nxt_near {R : List Rt} {L : List Lk} {z r u : Int} (hu : u ∈ nxt R L r z) : u ∈ ids R ∧ nearB R L z r u = true := by
  obtain ⟨d, x, c, h1, h2, h3, h4, -⟩ := nxt_step hu
  exact ⟨(dst_both h2).2.1, nearB_iff.2 ⟨x, d, h2, h1, by omega⟩⟩
set_option maxRecDepth 100000 in
theorem rkN_step {R : List Rt} {L : List Lk} {z r u : Int} (hu : u ∈ nxt R L r z) : rkN R L z u < rkN R L z r := by
  obtain ⟨d, x, c, h1, h2, h3, h4, -⟩ := nxt_step hu
  have hok := (dst_both h1).1
  obtain ⟨m1, m2⟩ := nxt_near hu
  have hn : ¬ nearB R L z u u = true := fun e => by
    obtain ⟨x, d, h1, h2, h3⟩ := nearB_iff.1 e
    rw [h1] at h2
    have := Option.some.inj h2
    omega
  have := nodup_le (u :: (ids R).filter (nearB R L z u)) ((ids R).filter (nearB R L z r)) (List.nodup_cons.2 ⟨fun hm => hn (List.mem_filter.1 hm).2, (nodup_of_lt (ids_pair hok)).sublist List.filter_sublist⟩) (fun v hv => by
    rcases List.mem_cons.1 hv with rfl | hv
    · exact List.mem_filter.2 ⟨m1, m2⟩
    · obtain ⟨k1, k2⟩ := List.mem_filter.1 hv
      obtain ⟨y, d', k3, k4, k5⟩ := nearB_iff.1 k2
      rw [h2] at k4
      have := Option.some.inj k4
      exact List.mem_filter.2 ⟨k1, nearB_iff.2 ⟨y, d, k3, h1, by omega⟩⟩)
  exact this
set_option maxRecDepth 100000 in
theorem nxt_rk {R : List Rt} {L : List Lk} (h : okT R L = true) (z r : Int) : (nxt R L r z).length ≤ rkN R L z r :=
  nodup_le _ _ (nodup_of_lt (nxt_pair h r z)) (fun _ hu => List.mem_filter.2 (nxt_near hu))
def sumI (c : Int → Int) (l : List Int) : Int := l.foldl (fun a u => a + c u) 0
set_option maxRecDepth 100000 in
theorem sum_from (c : Int → Int) : ∀ (l : List Int) (a : Int), l.foldl (fun a u => a + c u) a = a + sumI c l
  | [], a => by unfold sumI; simp
  | u :: t, a => by
    have h1 := sum_from c t (a + c u)
    have h2 := sum_from c t (0 + c u)
    unfold sumI
    rw [List.foldl_cons, List.foldl_cons, h1, h2]
    omega
set_option maxRecDepth 100000 in
theorem sumI_cons (c : Int → Int) (u : Int) (t : List Int) : sumI c (u :: t) = c u + sumI c t := by
  have := sum_from c t (0 + c u)
  unfold sumI at *
  rw [List.foldl_cons, this]
  omega
set_option maxRecDepth 100000 in
theorem sumI_snoc (c : Int → Int) (l : List Int) (u : Int) : sumI c (l ++ [u]) = sumI c l + c u := by
  unfold sumI
  rw [List.foldl_append]
  rfl
set_option maxRecDepth 100000 in
theorem sumI_bd {c : Int → Int} {B : Int} : ∀ (l : List Int), (∀ u ∈ l, 0 ≤ c u ∧ c u ≤ B) → 0 ≤ sumI c l ∧ sumI c l ≤ (l.length : Int) * B
  | [], _ => by unfold sumI; simp
  | u :: t, h => by
    have h1 := sumI_bd t (fun v hv => h v (by simp [hv]))
    have h2 := h u (by simp)
    rw [sumI_cons, List.length_cons]
    have : ((t.length + 1 : Nat) : Int) * B = (t.length : Int) * B + B := by rw [Int.natCast_succ, Int.add_mul, Int.one_mul]
    omega
set_option maxRecDepth 100000 in
theorem sumI_congr {c d : Int → Int} : ∀ (l : List Int), (∀ u ∈ l, c u = d u) → sumI c l = sumI d l
  | [], _ => rfl
  | u :: t, h => by rw [sumI_cons, sumI_cons, h u (by simp), sumI_congr t (fun v hv => h v (by simp [hv]))]
set_option maxRecDepth 100000 in
/-- Without the limit. -/
theorem fold_sum {c : Int → Int} : ∀ (l : List Int) (a : Int), (∀ u ∈ l, 0 ≤ c u) → a + sumI c l ≤ 1000000 → l.foldl (fun a u => min (a + c u) 1000000) a = a + sumI c l
  | [], a, _, _ => by unfold sumI; simp
  | u :: t, a, h, hb => by
    rw [sumI_cons] at hb ⊢
    have h0 : 0 ≤ sumI c t := by
      have : ∀ (l : List Int), (∀ v ∈ l, 0 ≤ c v) → 0 ≤ sumI c l := by
        intro l
        induction l with
        | nil => intro _; unfold sumI; simp
        | cons v s ih => intro hv; rw [sumI_cons]; have := hv v (by simp); have := ih (fun x hx => hv x (by simp [hx])); omega
      exact this t (fun v hv => h v (by simp [hv]))
    rw [List.foldl_cons, show min (a + c u) 1000000 = a + c u by omega, fold_sum t (a + c u) (fun v hv => h v (by simp [hv])) (by omega)]
    omega
set_option maxRecDepth 100000 in
theorem fold_le {c : Int → Int} : ∀ (l : List Int) (a : Int), l.foldl (fun a u => min (a + c u) 1000000) a ≤ a + sumI c l
  | [], a => by unfold sumI; simp
  | u :: t, a => by
    rw [sumI_cons, List.foldl_cons]
    have := fold_le (c := c) t (min (a + c u) 1000000)
    omega
def fctN : Nat → Nat
  | 0 => 1
  | k + 1 => (k + 1) * fctN k
set_option maxRecDepth 100000 in
theorem fctN_mono : ∀ {a b : Nat}, a ≤ b → fctN a ≤ fctN b := by
  intro a b h
  induction h with
  | refl => exact Nat.le_refl _
  | step _ ih =>
    refine Nat.le_trans ih ?_
    show _ ≤ (_ + 1) * fctN _
    rw [Nat.add_mul, Nat.one_mul]
    exact Nat.le_add_left _ _
set_option maxRecDepth 100000 in
theorem cnt_le {R : List Rt} {L : List Lk} (h : okT R L = true) (z : Int) : ∀ (k : Nat) (r : Int), rkN R L z r ≤ k → cnt R L z r ≤ ((fctN k : Nat) : Int) := by
  intro k
  induction k with
  | zero =>
    intro r hr
    rw [cnt_rule]
    unfold cntS
    by_cases hz : r = z
    · rw [if_pos hz]; decide
    · rw [if_neg hz]
      have := nxt_rk h z r
      simp only
      rw [List.eq_nil_of_length_eq_zero (l := nxt R L r z) (by omega)]
      exact (show (0 : Int) ≤ ((fctN 0 : Nat) : Int) by decide)
  | succ k ih =>
    intro r hr
    have h1 : (1 : Int) ≤ ((fctN (k + 1) : Nat) : Int) := by
      have := fctN_mono (Nat.zero_le (k + 1))
      have h2 : fctN 0 = 1 := rfl
      omega
    rw [cnt_rule]
    unfold cntS
    by_cases hz : r = z
    · rw [if_pos hz]; exact h1
    · rw [if_neg hz]
      simp only
      refine Int.le_trans (fold_le _ _) ?_
      have h3 := (sumI_bd (c := cnt R L z) (B := ((fctN k : Nat) : Int)) (nxt R L r z) (fun u hu => ⟨(cnt_bd R L z u).1, ih u (by have := rkN_step hu; omega)⟩)).2
      have h4 := nxt_rk h z r
      have h5 : ((nxt R L r z).length : Int) * ((fctN k : Nat) : Int) ≤ ((k + 1 : Nat) : Int) * ((fctN k : Nat) : Int) := Int.mul_le_mul_of_nonneg_right (by omega) (by omega)
      have h6 : ((fctN (k + 1) : Nat) : Int) = ((k + 1 : Nat) : Int) * ((fctN k : Nat) : Int) := by
        rw [← Int.natCast_mul]
        rfl
      omega
set_option maxRecDepth 100000 in
/-- With at most eight routers the numbers are plain sums. -/
theorem cnt_sum {R : List Rt} {L : List Lk} (h : okT R L = true) (h8 : R.length ≤ 8) {z r : Int} (hr : r ∈ ids R) (hz : r ≠ z) : cnt R L z r = sumI (cnt R L z) (nxt R L r z) := by
  have hl : (ids R).length ≤ 8 := by unfold ids; rw [List.length_map]; exact h8
  have hk := rkN_self (z := z) h hr
  have h1 := nxt_rk h z r
  have h3 := (sumI_bd (c := cnt R L z) (B := ((fctN 7 : Nat) : Int)) (nxt R L r z) (fun u hu => ⟨(cnt_bd R L z u).1, cnt_le h z 7 u (by have := rkN_step hu; omega)⟩)).2
  have h7 : ((fctN 7 : Nat) : Int) = 5040 := by decide
  rw [h7] at h3
  rw [cnt_rule]
  unfold cntS
  rw [if_neg hz]
  simp only
  rw [fold_sum _ _ (fun u _ => (cnt_bd R L z u).1) (by omega)]
  omega
set_option maxRecDepth 100000 in
theorem pV_sum {R : List Rt} {L : List Lk} (h8 : R.length ≤ 8) {z r : Int} (hr : hasV R L r = true) (hz : r ≠ z) : pV R L r z = sumI (fun u => pV R L u z) (nxt R L r z) := by
  obtain ⟨hok, hm⟩ := hasV_iff.1 hr
  have h1 : sumI (fun u => pV R L u z) (nxt R L r z) = sumI (cnt R L z) (nxt R L r z) := sumI_congr _ (fun u hu => by
    obtain ⟨d, x, c, -, h2, -⟩ := nxt_step hu
    unfold pV
    rw [h2]
    rfl)
  rw [h1]
  unfold pV
  cases hd : dst R L r z with
  | some d =>
    rw [if_pos (by rfl), cnt_sum hok h8 hm hz]
  | none =>
    rw [if_neg (by simp)]
    cases hn : nxt R L r z with
    | nil => rfl
    | cons u t =>
      obtain ⟨d, x, c, h3, -⟩ := nxt_step (R := R) (L := L) (z := z) (r := r) (u := u) (by rw [hn]; simp)
      rw [hd] at h3
      cases h3
set_option maxRecDepth 100000 in
theorem pV_self {R : List Rt} {L : List Lk} {z : Int} (h : hasV R L z = true) : pV R L z z = 1 := by
  unfold pV
  rw [dst_self h, if_pos (by rfl), cnt_self]
set_option maxRecDepth 100000 in
theorem pV_bd (R : List Rt) (L : List Lk) (r z : Int) : 0 ≤ pV R L r z ∧ pV R L r z ≤ 1000000 := by
  unfold pV
  split
  · exact cnt_bd R L z r
  · omega
end Go.Proofs.Ytlefjdglcdopeaa

/- The law ShortestNexts: its mathematics. -/
namespace Go.Proofs.Ytlefjdglcdopeaa
open Go.RowKit Go.Maps Bs
set_option maxRecDepth 100000 in
theorem priceB_edg {u v c : Int} {l : Lk} (h : priceB u v l = some c) : (l.a = u ∧ l.b = v ∧ l.ca = c) ∨ (l.b = u ∧ l.a = v ∧ l.cb = c) := by
  unfold priceB at h
  split at h
  · rename_i h1
    exact .inl ⟨h1.1, h1.2, Option.some.inj h⟩
  · split at h
    · rename_i h1
      first
        | exact .inr ⟨h1.2, h1.1, Option.some.inj h⟩
        | exact .inr ⟨h1.1, h1.2, Option.some.inj h⟩
    · cases h
set_option maxRecDepth 100000 in
theorem edg_uniq {R : List Rt} {L : List Lk} (h : okT R L = true) {u v c d : Int} (h1 : edg L u v c) (h2 : edg L u v d) : c = d := by
  have ho := okT_all h
  have he := ends_lt ho
  obtain ⟨l, hl, k1⟩ := h1
  obtain ⟨m, hm, k2⟩ := h2
  have e1 := he l hl
  have e2 := he m hm
  obtain ⟨i, hi⟩ := List.mem_iff_getElem?.1 hl
  obtain ⟨j, hj⟩ := List.mem_iff_getElem?.1 hm
  have key : l.a = m.a → l.b = m.b → l = m := fun ea eb => by
    have := ends_inj ho hi hj ea eb
    rw [this, hj] at hi
    exact (Option.some.inj hi).symm
  rcases k1 with ⟨p1, p2, p3⟩ | ⟨p1, p2, p3⟩ <;> rcases k2 with ⟨q1, q2, q3⟩ | ⟨q1, q2, q3⟩
  · rw [← p3, ← q3, key (p1.trans q1.symm) (p2.trans q2.symm)]
  · omega
  · omega
  · rw [← p3, ← q3, key (p2.trans q2.symm) (p1.trans q1.symm)]
set_option maxRecDepth 100000 in
theorem price_edg {R : List Rt} {L : List Lk} (h : okT R L = true) {u v c : Int} (he : edg L u v c) : priceV L u v = (c, true) := by
  have h2 : (priceV L u v).2 = true := by
    rw [price_ok]
    obtain ⟨l, hl, ⟨rfl, rfl, -⟩ | ⟨rfl, rfl, -⟩⟩ := he
    · exact ⟨l, hl, .inr ⟨rfl, rfl⟩⟩
    · exact ⟨l, hl, .inl ⟨rfl, rfl⟩⟩
  unfold priceV at h2 ⊢
  cases hf : L.findSome? (priceB u v) with
  | none => rw [hf] at h2; cases h2
  | some d =>
    obtain ⟨l, hl, hp⟩ := List.exists_of_findSome?_eq_some hf
    have : edg L u v d := ⟨l, hl, priceB_edg hp⟩
    rw [edg_uniq h he this]
set_option maxRecDepth 100000 in
theorem price_ed2 {R : List Rt} {L : List Lk} (_ : okT R L = true) {u v c : Int} (hp : priceV L u v = (c, true)) : edg L u v c := by
  unfold priceV at hp
  cases hf : L.findSome? (priceB u v) with
  | none => rw [hf] at hp; cases hp
  | some d =>
    rw [hf] at hp
    obtain ⟨l, hl, h1⟩ := List.exists_of_findSome?_eq_some hf
    have : d = c := congrArg Prod.fst hp
    exact ⟨l, hl, priceB_edg (this ▸ h1)⟩
set_option maxRecDepth 100000 in
theorem near_edg {R : List Rt} {L : List Lk} (h : okT R L = true) {a u : Int} (hu : u ∈ nearR R L a) : ∃ c, priceV L a u = (c, true) ∧ edg L a u c ∧ (1 ≤ c ∧ c ≤ 1000) ∧ 1 ≤ u ∧ u ≤ 99 := by
  rw [← near_eq (okT_all h), ← nbD_fst] at hu
  obtain ⟨⟨v, c⟩, hm, rfl⟩ := List.mem_map.1 hu
  have he := nbD_mem.1 hm
  have hg := (okT_g h).edg he
  exact ⟨c, price_edg h he, he, hg.1, hg.2.2⟩
set_option maxRecDepth 100000 in
theorem hasI_mq {l : List Int} {x : Int} : hasI l x = true ↔ x ∈ l := by
  unfold hasI
  rw [List.any_eq_true]
  constructor
  · rintro ⟨y, hy, e⟩
    rw [← of_decide_eq_true e]
    exact hy
  · intro h
    exact ⟨x, h, decide_eq_true rfl⟩
set_option maxRecDepth 100000 in
theorem nxt_mem {R : List Rt} {L : List Lk} {a b u : Int} : u ∈ nxt R L a b ↔ ∃ c x, edg L a u c ∧ dst R L u b = some x ∧ c + x = (dst R L a b).getD 0 := by
  unfold nxt nextV
  rw [List.mem_map]
  constructor
  · rintro ⟨⟨v, c⟩, hm, rfl⟩
    obtain ⟨h1, h2⟩ := List.mem_filter.1 hm
    simp only at h2 ⊢
    cases hv : dst R L v b with
    | none => rw [hv] at h2; cases h2
    | some x =>
      rw [hv] at h2
      exact ⟨c, x, nbD_mem.1 h1, rfl, of_decide_eq_true h2⟩
  · rintro ⟨c, x, h1, h2, h3⟩
    refine ⟨(u, c), List.mem_filter.2 ⟨nbD_mem.2 h1, ?_⟩, rfl⟩
    simp only
    rw [h2]
    exact decide_eq_true h3
set_option maxRecDepth 100000 in
/-- When a neighbour comes next. -/
theorem has_nxt {R : List Rt} {L : List Lk} (h : okT R L = true) {a b u c : Int} (he : edg L a u c) : hasI (nxt R L a b) u = true ↔ ∃ d x, dst R L a b = some d ∧ dst R L u b = some x ∧ a ≠ b ∧ c + x = d := by
  rw [hasI_mq]
  constructor
  · intro hm
    have hab : a ≠ b := fun e => by rw [e, nxt_self] at hm; cases hm
    obtain ⟨d, x, c', h1, h2, h3, -, h5⟩ := nxt_step hm
    have := edg_uniq h he h5
    exact ⟨d, x, h1, h2, hab, by omega⟩
  · rintro ⟨d, x, h1, h2, -, h4⟩
    exact nxt_mem.2 ⟨c, x, he, h2, by rw [h1]; exact h4⟩
set_option maxRecDepth 100000 in
theorem nxt_avoid {R : List Rt} {L : List Lk} {a b u : Int} (hu : u ∈ nxt R L a b) : avV R L u b a = true := by
  obtain ⟨d, x, c, h1, h2, h3, h4, -⟩ := nxt_step hu
  unfold avV psV
  rw [h1, h2]
  cases h5 : dst R L u a with
  | none => rfl
  | some y =>
    have := (dst_bd h5).1
    simp only [Option.getD_some, Option.isSome_some, Bool.true_and, Bool.not_eq_true']
    exact decide_eq_false (by omega)
set_option maxRecDepth 100000 in
theorem nxt_near_len {R : List Rt} {L : List Lk} (h : okT R L = true) (a b : Int) : (nxt R L a b).length ≤ (nearR R L a).length := by
  rw [← near_eq (okT_all h)]
  exact (nxt_sub R L a b).length_le
end Go.Proofs.Ytlefjdglcdopeaa

/- Components: the routers that can be reached from each other (the mathematics). -/
namespace Go.Proofs.Ytlefjdglcdopeaa
open Go.RowKit Bs
set_option maxRecDepth 100000 in
theorem hasI_mem {S : List Int} {x : Int} : hasI S x = true ↔ x ∈ S := by
  unfold hasI
  rw [List.any_eq_true]
  constructor
  · rintro ⟨y, hy, e⟩
    rw [decide_eq_true_eq] at e
    exact e ▸ hy
  · intro h
    exact ⟨x, h, decide_eq_true rfl⟩
set_option maxRecDepth 100000 in
theorem hasI_not {S : List Int} {x : Int} : hasI S x = false ↔ x ∉ S := by
  rw [← hasI_mem]
  cases hasI S x <;> simp
/-- y lies in whatever holds x and is closed under links. -/
def Rch (L : List Lk) (x y : Int) : Prop := ∀ P : Int → Prop, P x → (∀ u v, P u → v ∈ nbL L u → P v) → P y
set_option maxRecDepth 100000 in
theorem Rch.refl (L : List Lk) (x : Int) : Rch L x x := fun _ h _ => h
set_option maxRecDepth 100000 in
theorem Rch.step {L : List Lk} {x y z : Int} (h : Rch L x y) (hz : z ∈ nbL L y) : Rch L x z := fun P hx hs => hs _ _ (h P hx hs) hz
set_option maxRecDepth 100000 in
theorem Rch.trans {L : List Lk} {x y z : Int} (h : Rch L x y) (k : Rch L y z) : Rch L x z := fun P hx hs => k P (h P hx hs) hs
set_option maxRecDepth 100000 in
theorem nb_symm {L : List Lk} {x y : Int} (h : y ∈ nbL L x) : x ∈ nbL L y := by
  unfold nbL at *
  obtain ⟨l, hl, h1⟩ := List.mem_flatMap.1 h
  refine List.mem_flatMap.2 ⟨l, hl, ?_⟩
  rw [nb1_mem] at h1 ⊢
  omega
set_option maxRecDepth 100000 in
theorem Rch.symm {L : List Lk} {x y : Int} (h : Rch L x y) : Rch L y x :=
  h (fun u => Rch L u x) (Rch.refl L x) (fun u _ hu hv => Rch.trans (Rch.step (Rch.refl L _) (nb_symm hv)) hu)
set_option maxRecDepth 100000 in
theorem Rch.into {L : List Lk} {x y : Int} {S : List Int} (h : Rch L x y) (hx : x ∈ S) (hc : ∀ u ∈ S, ∀ v ∈ nbL L u, v ∈ S) : y ∈ S := h (· ∈ S) hx (fun u v hu hv => hc u hu v hv)
set_option maxRecDepth 100000 in
theorem dfs_sound (L : List Lk) : ∀ (k : Nat) (r : Int) (S : List Int) (x : Int), x ∈ dfs L k r S → x ∈ S ∨ Rch L r x
  | 0, _, _, _, h => .inl h
  | k + 1, r, S, x, h => by
    have fold : ∀ (N T : List Int), (∀ n ∈ N, n ∈ nbL L r) → x ∈ N.foldl (dstep L k) T → x ∈ T ∨ Rch L r x := by
      intro N
      induction N with
      | nil => intro T _ h; exact .inl h
      | cons n N ih =>
        intro T hn h
        rw [List.foldl_cons] at h
        rcases ih _ (fun m hm => hn m (List.mem_cons_of_mem _ hm)) h with h | h
        · unfold dstep at h
          split at h
          · exact .inl h
          · rcases dfs_sound L k n T x h with h | h
            · exact .inl h
            · exact .inr (Rch.trans (Rch.step (Rch.refl L r) (hn n List.mem_cons_self)) h)
        · exact .inr h
    rw [dfs_succ] at h
    rcases fold _ _ (fun _ h => h) h with h | h
    · rcases List.mem_append.1 h with h | h
      · exact .inl h
      · rw [List.mem_singleton] at h
        subst h
        exact .inr (Rch.refl L _)
    · exact .inr h
set_option maxRecDepth 100000 in
theorem dstep_sub (L : List Lk) (k : Nat) (T : List Int) (n x : Int) (h : x ∈ T) : x ∈ dstep L k T n := by
  obtain ⟨U, hU⟩ := dstep_ext L k (dfs_ext L k) T n
  rw [hU]
  exact List.mem_append_left _ h
set_option maxRecDepth 100000 in
theorem fold_sub (L : List Lk) (k : Nat) (N T : List Int) (x : Int) (h : x ∈ T) : x ∈ N.foldl (dstep L k) T := by
  obtain ⟨U, hU⟩ := fold_ext (dstep_ext L k (dfs_ext L k)) N T
  rw [hU]
  exact List.mem_append_left _ h
set_option maxRecDepth 100000 in
theorem dfs_closed (L : List Lk) (hL : ∀ x, ∀ y ∈ nbL L x, ∃ m : Nat, y = (m : Int) ∧ m < 100) : ∀ (k n : Nat) (S : List Int), n < 100 → hasI S (n : Int) = false → uns S ≤ k → (n : Int) ∈ dfs L k (n : Int) S ∧ ∀ x ∈ dfs L k (n : Int) S, x ∈ S ∨ ∀ y ∈ nbL L x, y ∈ dfs L k (n : Int) S
  | 0, n, S, hn, hs, hu => by
    have := uns_pos hn hs
    omega
  | k + 1, n, S, hn, hs, hu => by
    have fold : ∀ (N T : List Int), (∀ y ∈ N, ∃ m : Nat, y = (m : Int) ∧ m < 100) → uns T ≤ k → (∀ y ∈ N, y ∈ N.foldl (dstep L k) T) ∧ ∀ x ∈ N.foldl (dstep L k) T, x ∈ T ∨ ∀ y ∈ nbL L x, y ∈ N.foldl (dstep L k) T := by
      intro N
      induction N with
      | nil => intro T _ _; exact ⟨fun y h => (by cases h), fun x h => .inl h⟩
      | cons y N ih =>
        intro T hy hT
        rw [List.foldl_cons]
        have key : y ∈ dstep L k T y ∧ ∀ x ∈ dstep L k T y, x ∈ T ∨ ∀ z ∈ nbL L x, z ∈ dstep L k T y := by
          unfold dstep
          split
          · rename_i h
            exact ⟨hasI_mem.1 h, fun x hx => .inl hx⟩
          · rename_i h
            obtain ⟨m, rfl, hm⟩ := hy y List.mem_cons_self
            exact dfs_closed L hL k m T hm (by simpa using h) hT
        have hT2 : uns (dstep L k T y) ≤ k := by
          obtain ⟨U, hU⟩ := dstep_ext L k (dfs_ext L k) T y
          rw [hU]
          exact Nat.le_trans (uns_app T U) hT
        obtain ⟨i1, i2⟩ := ih (dstep L k T y) (fun z hz => hy z (List.mem_cons_of_mem _ hz)) hT2
        refine ⟨fun z hz => ?_, fun x hx => ?_⟩
        · rcases List.mem_cons.1 hz with rfl | hz
          · exact fold_sub L k N _ _ key.1
          · exact i1 z hz
        · rcases i2 x hx with h | h
          · rcases key.2 x h with h | h
            · exact .inl h
            · exact .inr (fun z hz => fold_sub L k N _ _ (h z hz))
          · exact .inr h
    rw [dfs_succ]
    have h1 := uns_snoc hn hs
    obtain ⟨f1, f2⟩ := fold (nbL L (n : Int)) (S ++ [(n : Int)]) (hL _) (by omega)
    refine ⟨fold_sub L k _ _ _ (by simp), fun x hx => ?_⟩
    rcases f2 x hx with h | h
    · rcases List.mem_append.1 h with h | h
      · exact .inl h
      · rw [List.mem_singleton] at h
        subst h
        exact .inr f1
    · exact .inr h
set_option maxRecDepth 100000 in
theorem nodup_snoc {S : List Int} {x : Int} (h : S.Nodup) (hx : x ∉ S) : (S ++ [x]).Nodup := by
  rw [List.nodup_append]
  refine ⟨h, by simp, fun a ha b hb e => ?_⟩
  rw [List.mem_singleton] at hb
  subst hb
  subst e
  exact hx ha
set_option maxRecDepth 100000 in
theorem dfs_nodup (L : List Lk) : ∀ (k : Nat) (r : Int) (S : List Int), hasI S r = false → S.Nodup → (dfs L k r S).Nodup
  | 0, _, _, _, h => h
  | k + 1, r, S, hr, h => by
    have fold : ∀ (N T : List Int), T.Nodup → (N.foldl (dstep L k) T).Nodup := by
      intro N
      induction N with
      | nil => intro T h; exact h
      | cons n N ih =>
        intro T h
        rw [List.foldl_cons]
        refine ih _ ?_
        unfold dstep
        split
        · exact h
        · rename_i hh
          exact dfs_nodup L k n T (by simpa using hh) h
    rw [dfs_succ]
    exact fold _ _ (nodup_snoc h (hasI_not.1 hr))
set_option maxRecDepth 100000 in
theorem srt_lt {U : List Int} (h : U.Nodup) : (srt U).Pairwise (· < ·) := by
  have h1 := srt_sorted U
  have h2 : (srt U).Nodup := (srt_perm U).nodup_iff.2 h
  refine List.Pairwise.imp₂ (fun a b (h1 : a ≤ b) (h2 : a ≠ b) => by omega) h1 h2
set_option maxRecDepth 100000 in
theorem srt_mem (U : List Int) (x : Int) : x ∈ srt U ↔ x ∈ U := (srt_perm U).mem_iff
set_option maxRecDepth 100000 in
/-- What a visit from r adds, where all that is visited before is closed: the routers that can be reached. -/
theorem visit {L : List Lk} (hL : ∀ x, ∀ y ∈ nbL L x, ∃ m : Nat, y = (m : Int) ∧ m < 100) {n : Nat} {S : List Int} (hn : n < 100) (hs : hasI S (n : Int) = false) (hS : S.Nodup) (hc : ∀ u ∈ S, ∀ v ∈ nbL L u, v ∈ S) :
    ∃ U, dfs L 100 (n : Int) S = S ++ U ∧ (S ++ U).Nodup ∧ (∀ y, y ∈ U ↔ Rch L (n : Int) y) ∧ ∀ u ∈ S ++ U, ∀ v ∈ nbL L u, v ∈ S ++ U := by
  obtain ⟨U, hU⟩ := dfs_ext L 100 (n : Int) S
  have hu : uns S ≤ 100 := by
    unfold uns
    have := List.countP_le_length (p := notS S) (l := List.range 100)
    simpa using this
  obtain ⟨h1, h2⟩ := dfs_closed L hL 100 n S hn hs hu
  have h3 := dfs_nodup L 100 (n : Int) S hs hS
  have h4 := dfs_sound L 100 (n : Int) S
  rw [hU] at h1 h2 h3 h4
  have hcl : ∀ u ∈ S ++ U, ∀ v ∈ nbL L u, v ∈ S ++ U := fun u hu v hv => by
    rcases h2 u hu with h | h
    · exact List.mem_append_left _ (hc u h v hv)
    · exact h v hv
  refine ⟨U, hU, h3, fun y => ⟨fun hy => ?_, fun hy => ?_⟩, hcl⟩
  · rcases h4 y (List.mem_append_right _ hy) with h | h
    · exact absurd rfl ((List.nodup_append.1 h3).2.2 y h y hy)
    · exact h
  · rcases List.mem_append.1 (hy.into h1 hcl) with h | h
    · exact absurd (hy.symm.into h hc) (hasI_not.1 hs)
    · exact h
/-- The routers that can be reached from r, ascending. -/
def cls (L : List Lk) (r : Int) : List Int := srt (dfs L 100 r [])
set_option maxRecDepth 100000 in
theorem cls_spec {L : List Lk} (hL : ∀ x, ∀ y ∈ nbL L x, ∃ m : Nat, y = (m : Int) ∧ m < 100) {n : Nat} (hn : n < 100) : (cls L (n : Int)).Pairwise (· < ·) ∧ ∀ y, y ∈ cls L (n : Int) ↔ Rch L (n : Int) y := by
  obtain ⟨U, h1, h2, h3, -⟩ := visit hL hn (S := []) rfl List.nodup_nil (fun u h => by cases h)
  rw [List.nil_append] at h1 h2
  unfold cls
  rw [h1]
  exact ⟨srt_lt h2, fun y => (srt_mem U y).trans (h3 y)⟩
/-- While the components are found: P: the routers gone through. -/
structure CI (R : List Rt) (L : List Lk) (P : List Rt) (Cs : List (List Int)) (S : List Int) : Prop where
  nd : S.Nodup
  cl : ∀ u ∈ S, ∀ v ∈ nbL L u, v ∈ S
  pm : Cs.flatten.Perm S
  each : ∀ C ∈ Cs, C.Pairwise (· < ·) ∧ (∀ x ∈ C, ∀ y, y ∈ C ↔ Rch L x y) ∧ ∃ r ∈ P, r.id ∈ C
  ids : ∀ x ∈ S, ∃ r ∈ R, r.id = x
  all : ∀ r ∈ P, r.id ∈ S
set_option maxRecDepth 100000 in
theorem CI.nil (R : List Rt) (L : List Lk) : CI R L [] [] [] := ⟨List.nodup_nil, (fun u h => by cases h), List.Perm.refl _, (fun C h => by cases h), (fun x h => by cases h), (fun r h => by cases h)⟩
set_option maxRecDepth 100000 in
theorem okT_near100 {R : List Rt} {L : List Lk} (h : okT R L = true) : ∀ x, ∀ y ∈ nbL L x, ∃ m : Nat, y = (m : Int) ∧ m < 100 := by
  intro x y hy
  obtain ⟨m, e, hm⟩ := okT_near h x y hy
  obtain ⟨h1, -⟩ := okT_ids h
  obtain ⟨r, hr, e2⟩ := List.mem_map.1 hm
  have := List.any_eq_false.1 h1 r hr
  unfold wrId at this
  have h3 : 1 ≤ r.id ∧ r.id ≤ 99 := by simpa using this
  exact ⟨m, e, by omega⟩
set_option maxRecDepth 100000 in
theorem rt_nat {R : List Rt} {L : List Lk} (h : okT R L = true) {r : Rt} (hr : r ∈ R) : ∃ n : Nat, r.id = (n : Int) ∧ n < 100 := by
  obtain ⟨h1, -⟩ := okT_ids h
  have := List.any_eq_false.1 h1 r hr
  unfold wrId at this
  have h3 : 1 ≤ r.id ∧ r.id ≤ 99 := by simpa using this
  exact ⟨r.id.toNat, by omega, by omega⟩
set_option maxRecDepth 100000 in
theorem reach_id {R : List Rt} {L : List Lk} (h : okT R L = true) {x y : Int} (hx : ∃ r ∈ R, r.id = x) (hy : Rch L x y) : ∃ r ∈ R, r.id = y := by
  refine hy (fun z => ∃ r ∈ R, r.id = z) hx (fun u v _ hv => ?_)
  obtain ⟨m, e, hm⟩ := okT_near h u v hv
  obtain ⟨r, hr, e2⟩ := List.mem_map.1 hm
  obtain ⟨n, e3, -⟩ := rt_nat h hr
  exact ⟨r, hr, by omega⟩
set_option maxRecDepth 100000 in
theorem CI.next {R P : List Rt} {L : List Lk} {Cs : List (List Int)} {S : List Int} {r : Rt} (hv : okT R L = true) (h : CI R L P Cs S) (hr : r ∈ R) :
    CI R L (P ++ [r]) (cstep L (Cs, S) r).1 (cstep L (Cs, S) r).2 ∧ (hasI S r.id = false → (cstep L (Cs, S) r).1 = Cs ++ [cls L r.id]) := by
  obtain ⟨n, en, hn⟩ := rt_nat hv hr
  have hL := okT_near100 hv
  unfold cstep
  simp only
  cases hs : hasI S r.id
  · rw [if_neg (by simp)]
    rw [en] at hs ⊢
    obtain ⟨U, h1, h2, h3, h4⟩ := visit hL hn hs h.nd h.cl
    obtain ⟨c1, c2⟩ := cls_spec hL hn
    simp only [h1, List.drop_left]
    obtain ⟨n1, n2, n3⟩ := List.nodup_append.1 h2
    have hsrt : srt U = cls L (n : Int) := eq_of_asc (srt_lt n2) c1 (fun x => (srt_mem U x).trans ((h3 x).trans (c2 x).symm))
    rw [hsrt]
    have hin : (n : Int) ∈ cls L (n : Int) := (c2 _).2 (Rch.refl L _)
    refine ⟨⟨h2, h4, ?_, ?_, ?_, ?_⟩, fun _ => rfl⟩
    · rw [List.flatten_append]
      refine h.pm.append ?_
      rw [← hsrt]
      simpa using srt_perm U
    · intro C hC
      rcases List.mem_append.1 hC with hC | hC
      · obtain ⟨e1, e2, r', e3, e4⟩ := h.each C hC
        exact ⟨e1, e2, r', List.mem_append_left _ e3, e4⟩
      · rw [List.mem_singleton] at hC
        subst hC
        refine ⟨c1, fun x hx y => ?_, r, by simp, by rw [en]; exact hin⟩
        rw [c2]
        have hx2 := (c2 x).1 hx
        exact ⟨fun hy => hx2.symm.trans hy, fun hy => hx2.trans hy⟩
    · intro x hx
      rcases List.mem_append.1 hx with hx | hx
      · exact h.ids x hx
      · exact reach_id hv ⟨r, hr, en⟩ ((h3 x).1 hx)
    · intro r' hr'
      rcases List.mem_append.1 hr' with hr' | hr'
      · exact List.mem_append_left _ (h.all r' hr')
      · rw [List.mem_singleton] at hr'
        subst hr'
        rw [en]
        exact List.mem_append_right _ ((h3 _).2 (Rch.refl L _))
  · rw [if_pos rfl]
    refine ⟨⟨h.nd, h.cl, h.pm, fun C hC => ?_, h.ids, fun r' hr' => ?_⟩, fun h => by cases h⟩
    · obtain ⟨e1, e2, r', e3, e4⟩ := h.each C hC
      exact ⟨e1, e2, r', List.mem_append_left _ e3, e4⟩
    · rcases List.mem_append.1 hr' with hr' | hr'
      · exact h.all r' hr'
      · rw [List.mem_singleton] at hr'
        subst hr'
        exact hasI_mem.1 hs
set_option maxRecDepth 100000 in
theorem CI.at_ {R : List Rt} {L : List Lk} (hv : okT R L = true) : ∀ k, k ≤ R.length → CI R L (R.take k) (compsF L (R.take k)).1 (compsF L (R.take k)).2
  | 0, _ => CI.nil R L
  | k + 1, hk => by
    have ih := CI.at_ hv k (by omega)
    obtain ⟨r, hr⟩ : ∃ r, R[k]? = some r := ⟨_, List.getElem?_eq_getElem (by omega)⟩
    rw [compsF_take hr, List.take_add_one, hr]
    exact (ih.next hv (List.mem_of_getElem? hr)).1
set_option maxRecDepth 100000 in
theorem CI.done {R : List Rt} {L : List Lk} (hv : okT R L = true) : CI R L R (comps R L) (compsF L R).2 := by
  have := CI.at_ hv R.length (Nat.le_refl _)
  rw [List.take_length] at this
  unfold comps
  rw [if_pos hv]
  exact this
set_option maxRecDepth 100000 in
/-- Two routers are connected. -/
theorem conn_iff {R : List Rt} {L : List Lk} (hv : okT R L = true) (a b : Int) : conn R L a b = true ↔ (∃ r ∈ R, r.id = a) ∧ Rch L a b := by
  have h := CI.done hv
  unfold conn
  rw [List.any_eq_true]
  constructor
  · rintro ⟨C, hC, hb⟩
    unfold both at hb
    rw [Bool.and_eq_true, hasI_mem, hasI_mem] at hb
    refine ⟨h.ids a (h.pm.mem_iff.1 (List.mem_flatten.2 ⟨C, hC, hb.1⟩)), ?_⟩
    exact ((h.each C hC).2.1 a hb.1 b).1 hb.2
  · rintro ⟨⟨r, hr, rfl⟩, hab⟩
    obtain ⟨C, hC, hx⟩ := List.mem_flatten.1 (h.pm.mem_iff.2 (h.all r hr))
    refine ⟨C, hC, ?_⟩
    unfold both
    rw [Bool.and_eq_true, hasI_mem, hasI_mem]
    exact ⟨hx, ((h.each C hC).2.1 _ hx b).2 hab⟩
/-- The components by the routers that are the least of theirs. -/
def rcomps (R : List Rt) (L : List Lk) : List (List Int) := (R.filter fun r => decide ((cls L r.id).head? = some r.id)).map fun r => cls L r.id
set_option maxRecDepth 100000 in
theorem head_least {l : List Int} {x : Int} (h : l.Pairwise (· < ·)) (hx : x ∈ l) : (∀ y ∈ l, x ≤ y) ↔ l.head? = some x := by
  cases l with
  | nil => cases hx
  | cons a t =>
    obtain ⟨h1, -⟩ := List.pairwise_cons.1 h
    simp only [List.head?_cons, Option.some.injEq]
    constructor
    · intro hy
      have h2 := hy a List.mem_cons_self
      rcases List.mem_cons.1 hx with e | hx
      · exact e.symm
      · have := h1 x hx
        omega
    · rintro rfl y hy
      rcases List.mem_cons.1 hy with e | hy
      · omega
      · have := h1 y hy
        omega
set_option maxRecDepth 100000 in
theorem rcomps_at {R : List Rt} {L : List Lk} (hv : okT R L = true) : ∀ k, k ≤ R.length → (compsF L (R.take k)).1 = rcomps (R.take k) L
  | 0, _ => rfl
  | k + 1, hk => by
    have ih := rcomps_at hv k (by omega)
    have hc := CI.at_ hv k (by omega)
    have ho := okT_all hv
    have hp := pair_of_asc ltR ltR_trans R ho.rs
    obtain ⟨r, hr⟩ : ∃ r, R[k]? = some r := ⟨_, List.getElem?_eq_getElem (by omega)⟩
    have hm := List.mem_of_getElem? hr
    obtain ⟨n, en, hn⟩ := rt_nat hv hm
    obtain ⟨c1, c2⟩ := cls_spec (okT_near100 hv) hn
    rw [← en] at c1 c2
    have hin : r.id ∈ cls L r.id := (c2 _).2 (Rch.refl L _)
    have hbefore : ∀ r' ∈ R.take k, r'.id < r.id := fun r' hr' => by
      obtain ⟨i, hi⟩ := List.mem_iff_getElem?.1 hr'
      have hik : i < k := by
        have := (List.getElem?_eq_some_iff.1 hi).1
        rw [List.length_take] at this
        omega
      rw [List.getElem?_take_of_lt hik] at hi
      have := pair_get hp hik hi hr
      exact of_decide_eq_true this
    rw [compsF_take hr, List.take_add_one, hr]
    have hstep := (hc.next hv hm).2
    unfold rcomps at ih ⊢
    rw [List.filter_append, List.map_append, ← ih]
    cases hs : hasI (compsF L (R.take k)).2 r.id
    · have e1 := hstep hs
      have hl : (cls L r.id).head? = some r.id := by
        refine (head_least c1 hin).1 (fun y hy => ?_)
        have hy2 := (c2 y).1 hy
        obtain ⟨r2, hr2, e2⟩ := reach_id hv ⟨r, hm, rfl⟩ hy2
        obtain ⟨i, hi⟩ := List.mem_iff_getElem?.1 hr2
        rcases Nat.lt_trichotomy i k with h | h | h
        · have : r2 ∈ R.take k := List.mem_iff_getElem?.2 ⟨i, by rw [List.getElem?_take_of_lt h]; exact hi⟩
          have h3 := hc.all r2 this
          rw [e2] at h3
          exact absurd (hy2.symm.into h3 hc.cl) (hasI_not.1 hs)
        · subst h
          rw [hr] at hi
          obtain rfl := Option.some.inj hi
          omega
        · have := of_decide_eq_true (pair_get hp h hr hi)
          omega
      rw [show (cstep L (compsF L (R.take k)) r).1 = _ from e1]
      congr 1
      simp [hl]
    · have hx := hasI_mem.1 hs
      obtain ⟨C, hC, hxC⟩ := List.mem_flatten.1 (hc.pm.mem_iff.2 hx)
      obtain ⟨e1, e2, r', e3, e4⟩ := hc.each C hC
      have hb := hbefore r' e3
      have hr' : r'.id ∈ cls L r.id := (c2 _).2 ((e2 _ hxC _).1 e4)
      have hl : ¬ ((cls L r.id).head? = some r.id) := fun hh => by
        have := (head_least c1 hin).2 hh _ hr'
        omega
      have e5 : (cstep L (compsF L (R.take k)) r).1 = (compsF L (R.take k)).1 := by
        unfold cstep
        rw [if_pos hs]
      rw [e5]
      simp [hl]
set_option maxRecDepth 100000 in
theorem comps_eq {R : List Rt} {L : List Lk} (hv : okT R L = true) : comps R L = rcomps R L := by
  have := rcomps_at hv R.length (Nat.le_refl _)
  rw [List.take_length] at this
  unfold comps
  rw [if_pos hv]
  exact this
set_option maxRecDepth 100000 in
/-- In a valid topology the components hold each router once. -/
theorem comps_perm {R : List Rt} {L : List Lk} (hv : okT R L = true) : (comps R L).flatten.Nodup ∧ (comps R L).flatten.length = R.length ∧ ∀ x, x ∈ (comps R L).flatten ↔ ∃ r ∈ R, r.id = x := by
  have h := CI.done hv
  have hnd := h.pm.nodup_iff.2 h.nd
  have hm : ∀ x, x ∈ (comps R L).flatten ↔ ∃ r ∈ R, r.id = x := fun x => by
    rw [h.pm.mem_iff]
    exact ⟨h.ids x, fun ⟨r, hr, e⟩ => e ▸ h.all r hr⟩
  have hp := pair_of_asc ltR ltR_trans R (okT_all hv).rs
  have hids : (R.map (·.id)).Nodup := by
    unfold List.Nodup
    rw [List.pairwise_map]
    exact hp.imp (fun h => by have := of_decide_eq_true h; omega)
  refine ⟨hnd, ?_, hm⟩
  have : (comps R L).flatten.Perm (R.map (·.id)) := (List.perm_ext_iff_of_nodup hnd hids).2 (fun x => by rw [hm, List.mem_map])
  rw [this.length_eq, List.length_map]
end Go.Proofs.Ytlefjdglcdopeaa

/- append at a step of a region that draws its order, whatever the source; failures while they grow. -/
namespace Go.Proofs.Ytlefjdglcdopeaa
open Go.RowKit Bs
set_option maxRecDepth 100000 in
theorem step_append_f {α : Type} (f : α → List Value) (size bytes : Nat) (hsz : 0 < size) (hf : ∀ x, (f x).length = size) (hone : ∀ x, ∀ u ∈ f x, u.oneCell' = true) (e t : TypeId) (i : TypeInfo) (z : Value)
    (ht : Try.prog.underlying t = some (.slice e)) (hi : Try.prog.info? e = some i) (hz : i.zero = some z) (hsize : i.size = size) (hby : i.bytes = bytes) (hzs : z.cells.size = size) (hb40 : bytes ≤ 1000)
    {w : World} {ops : Array Oper} {o : Oper} {a : Act} {K : Act → World → Prop} {Q : Exit → Act → World → Prop} {E : Prop} (hgd : o.guard = none) (s x : Operand)
    (ho : o.op = .call { callee := .builtin .append, args := #[s, x], argTypes := #[t, t] }) (base : Nat) (v : Value) (l : List α) (hs : a.eval s = v) (hown : w.ownsRow base e size v l.length (l.flatMap f))
    (p : Option Addr) (k c : Nat) (r : List α) (hx : a.eval x = .slice p k c) (hk : k = r.length) (hn0 : p = none → c = 0) (q : Nat → Prop) (hR : RdF w q (.slice p k c) r.length (r.flatMap f)) (hkc : k ≤ c) (h63 : l.length + r.length ≤ 100000) (hbase : base ≤ w.heap.size)
    (h : ∀ p' c' w', w'.ownsRow base e size (.slice p' (l.length + r.length) c') (l ++ r).length ((l ++ r).flatMap f) → w.grownBy w' v.ownBlock → ((Value.slice p' (l.length + r.length) c').ownBlock = v.ownBlock ∨ (Value.slice p' (l.length + r.length) c').ownBlock = some w.heap.size) → K (a.put o.dst (.slice p' (l.length + r.length) c')) w') :
    if Region.wanted o (yielded ops a.tmps) = true then Oper.wp Try.prog o a w K Q else E := by
  have hw : Region.wanted o (yielded ops a.tmps) = true := by simp [Region.wanted, hgd]
  rw [if_pos hw]
  cases p with
  | none =>
    obtain rfl := hn0 rfl
    have hr : r.length = 0 := by omega
    obtain rfl := List.eq_nil_of_length_eq_zero hr
    obtain rfl : k = 0 := hk
    have hrun := run_append_owned_none (P := Try.prog) (w := w) base t o.type e i size ht hi v l.length (l.flatMap f) hown
    obtain ⟨p', c', rfl, -, -⟩ := own_shape hown
    unfold Oper.wp
    simp [execOp, ho, resolve, invoke, builtin, hs, hx, hrun, Result.andThen]
    refine h p' c' w ?_ (grown_refl _ _) (.inl rfl)
    rw [List.append_nil]
    exact hown
  | some ad =>
    have hb2 : (l.length + k) * bytes ≤ 140737488355328 := Nat.le_trans (Nat.mul_le_mul (show l.length + k ≤ 100000 by omega) hb40) (by decide)
    obtain ⟨v', w', hr, h2, h3, _, h5⟩ := run_append_own_at (P := Try.prog) w base t o.type e i z size bytes ht hi hz hsize hby hzs hsz v l.length (l.flatMap f) hown ad k c (r.flatMap f) (by rw [flat_len f size hf, hk]) (rdf_news hR) (by
      intro u hu
      obtain ⟨y, _, hy⟩ := List.mem_flatMap.1 hu
      exact hone y u hy) (by unfold maxLen; omega) hb2 hbase
    subst hk
    obtain ⟨p', c', rfl, -, -⟩ := own_shape h2
    unfold Oper.wp execOp
    simp only [ho, resolve, invoke, builtin, Sem.run_bind, Sem.run_pure, Result.andThen_ok, List.map_toArray, List.map_cons, List.map_nil, hs, hx, hr]
    refine h p' c' w' ?_ h3 h5
    rw [List.length_append, List.flatMap_append]
    exact h2
def tvC (z : Int) : List Value := [tv z]
set_option maxRecDepth 100000 in
theorem flat_tv : ∀ X : List Int, X.flatMap tvC = X.map tv
  | [] => rfl
  | a :: t => by rw [List.flatMap_cons, flat_tv t]; rfl
set_option maxRecDepth 100000 in
theorem hp_one (x : Hp) : ∀ u ∈ hpC x, u.oneCell' = true := by
  intro u hu
  simp [hpC] at hu
  rcases hu with rfl | rfl <;> rfl
set_option maxRecDepth 100000 in
theorem tv_one (x : Int) : ∀ u ∈ tvC x, u.oneCell' = true := by
  intro u hu
  simp [tvC, tv] at hu
  subst hu
  rfl
/-- While a failure grows: its block Bf holds uH, uX; its rows are vH, vX. -/
structure GM (a : Nat) (w : World) (T : Tg) (q : Nat → Prop) (Bf : Nat) (uH uX vH vX : Value) (H : List Hp) (X : List Int) (wr : World) : Prop where
  m : FM a w T q wr
  fb : wr.heap[Bf]? = some (.cells #[uH, uX] 58 (0, 0))
  oH : wr.ownsRow (w.heap.size + 2) 41 2 vH H.length (H.flatMap hpC)
  oX : wr.ownsRow (w.heap.size + 2) 3 1 vX X.length (X.flatMap tvC)
  ap : ∀ g, vH.ownBlock = some g → vX.ownBlock ≠ some g
  nH : vH.ownBlock ≠ some Bf
  nX : vX.ownBlock ≠ some Bf
  bf : w.heap.size + 2 ≤ Bf
section
variable {a Bf : Nat} {w wr w1 : World} {T : Tg} {q : Nat → Prop} {uH uX vH vX v' : Value} {H H' : List Hp} {X X' : List Int}
set_option maxRecDepth 100000 in
theorem GM.lt (h : GM a w T q Bf uH uX vH vX H X wr) : Bf < wr.heap.size := World.block_lt_of_cell? wr ⟨Bf, 0, none⟩ (row_cells h.fb).1
set_option maxRecDepth 100000 in
theorem GM.keep (h : GM a w T q Bf uH uX vH vX H X wr) (g : wr.grownBy w1 none) : GM a w T q Bf uH uX vH vX H X w1 :=
  ⟨h.m.keep g, kept_row h.fb g (by simp), h.oH.kept g (by cases hv : vH.ownBlock <;> simp), h.oX.kept g (by cases hv : vX.ownBlock <;> simp), h.ap, h.nH, h.nX, h.bf⟩
set_option maxRecDepth 100000 in
theorem GM.tape (h : GM a w T q Bf uH uX vH vX H X wr) (ha : a < w.heap.size) (hq : ∀ b, q b → b ≠ a) (k : St a wr w1) : GM a w T q Bf uH uX vH vX H X w1 :=
  ⟨h.m.tape ha hq k, kept_row h.fb k.1 (fun e => by have := Option.some.inj e; have := h.bf; omega), own_other h.oH k.1 (by omega), own_other h.oX k.1 (by omega), h.ap, h.nH, h.nX, h.bf⟩
set_option maxRecDepth 100000 in
theorem FM.row {base size n : Nat} {e : TypeId} {v : Value} {xs : List Value} (h : FM a w T q wr) (ha : a < w.heap.size) (ho : wr.ownsRow base e size v n xs) (hb : w.heap.size + 2 ≤ base) (hq : ∀ b, q b → b < w.heap.size) (k : wr.grownBy w1 v.ownBlock) : FM a w T q w1 := by
  have hne : ∀ b, b < w.heap.size + 2 → some b ≠ v.ownBlock := fun b hlt e => by have := (ho.lt b e.symm).1; omega
  exact ⟨kept_row h.tb k (hne _ (by omega)), kept_row h.rb k (hne _ (by omega)), h.t.grown k (fun b hb => hne b (by have := hq b hb; omega)), h.st.rowT ho (by omega) ha k, Nat.le_trans h.sz k.size⟩
set_option maxRecDepth 100000 in
theorem GM.addH (h : GM a w T q Bf uH uX vH vX H X wr) (ha : a < w.heap.size) (hq : ∀ b, q b → b < w.heap.size) (hown : w1.ownsRow (w.heap.size + 2) 41 2 v' H'.length (H'.flatMap hpC)) (k : wr.grownBy w1 vH.ownBlock) (hat : v'.ownBlock = vH.ownBlock ∨ v'.ownBlock = some wr.heap.size) :
    GM a w T q Bf uH uX v' vX H' X w1 := by
  refine ⟨h.m.row ha h.oH (Nat.le_refl _) hq k, kept_row h.fb k (fun e => h.nH e.symm), hown, h.oX.kept k ?_, ?_, ?_, h.nX, h.bf⟩
  · cases hv : vX.ownBlock with
    | none => exact .inl rfl
    | some g => exact .inr (fun e => h.ap g e.symm hv)
  · intro g hg e
    rcases hat with hat | hat
    · exact h.ap g (hat ▸ hg) e
    · have h1 : g = wr.heap.size := Option.some.inj (hg.symm.trans hat)
      have := (h.oX.lt g e).2
      omega
  · intro e
    rcases hat with hat | hat
    · exact h.nH (hat ▸ e)
    · have h1 : Bf = wr.heap.size := Option.some.inj (e.symm.trans hat)
      have := h.lt
      omega
set_option maxRecDepth 100000 in
theorem GM.addX (h : GM a w T q Bf uH uX vH vX H X wr) (ha : a < w.heap.size) (hq : ∀ b, q b → b < w.heap.size) (hown : w1.ownsRow (w.heap.size + 2) 3 1 v' X'.length (X'.flatMap tvC)) (k : wr.grownBy w1 vX.ownBlock) (hat : v'.ownBlock = vX.ownBlock ∨ v'.ownBlock = some wr.heap.size) :
    GM a w T q Bf uH uX vH v' H X' w1 := by
  refine ⟨h.m.row ha h.oX (Nat.le_refl _) hq k, kept_row h.fb k (fun e => h.nX e.symm), h.oH.kept k ?_, hown, ?_, h.nH, ?_, h.bf⟩
  · cases hv : vH.ownBlock with
    | none => exact .inl rfl
    | some g => exact .inr (fun e => h.ap g hv e.symm)
  · intro g hg e
    rcases hat with hat | hat
    · exact h.ap g hg (hat ▸ e)
    · have h1 : g = wr.heap.size := Option.some.inj (e.symm.trans hat)
      have := (h.oH.lt g hg).2
      omega
  · intro e
    rcases hat with hat | hat
    · exact h.nX (hat ▸ e)
    · have h1 : Bf = wr.heap.size := Option.some.inj (e.symm.trans hat)
      have := h.lt
      omega
set_option maxRecDepth 100000 in
theorem GM.put2 (h : GM a w T q Bf uH uX vH vX H X wr) (ha : a < w.heap.size) (hq : ∀ b, q b → b < w.heap.size) :
    GM a w T q Bf vH vX vH vX H X ((wr.setCell ⟨Bf, 0, none⟩ vH).setCell ⟨Bf, 1, none⟩ vX) := by
  have k := grown_store2 wr Bf vH vX
  have hbf := h.bf
  have o : ∀ {size n : Nat} {e : TypeId} {v : Value} {xs : List Value}, wr.ownsRow (w.heap.size + 2) e size v n xs → v.ownBlock ≠ some Bf → ((wr.setCell ⟨Bf, 0, none⟩ vH).setCell ⟨Bf, 1, none⟩ vX).ownsRow (w.heap.size + 2) e size v n xs := fun ho hne => ho.kept k (.inr hne)
  exact ⟨h.m.other ha k hbf (fun b hb => by have := hq b hb; omega), store2 h.fb, o h.oH h.nH, o h.oX h.nX, h.ap, h.nH, h.nX, h.bf⟩
set_option maxRecDepth 100000 in
theorem GM.start (h : FM a w T q wr) (hH : wr.ownsRow (w.heap.size + 2) 41 2 vH H.length (H.flatMap hpC)) (hX : wr.ownsRow (w.heap.size + 2) 3 1 vX X.length (X.map tv)) (ap : ∀ g, vH.ownBlock = some g → vX.ownBlock ≠ some g) :
    GM a w T q wr.heap.size vH vX vH vX H X (wr.alloc (.cells #[vH, vX] 58)) := by
  have g := World.grownBy_alloc wr (.cells #[vH, vX] 58) none
  exact ⟨h.keep g, heap_alloc_new wr _, hH.alloc _, by rw [flat_tv]; exact hX.alloc _, ap, fun e => by have := (hH.lt _ e).2; omega, fun e => by have := (hX.lt _ e).2; omega, h.sz⟩
end
set_option maxRecDepth 100000 in
theorem Among.keepR {P : Int → Prop} {w w' : World} {a b off n : Nat} {r : Option Nat} (h : Among P w a b off n) (g : w.grownBy w' r) (hne : some b ≠ r) : Among P w' a b off n :=
  ⟨h.1, Nat.lt_of_lt_of_le h.2.1 g.size, fun i hi => by obtain ⟨x, hx, hc⟩ := h.2.2 i hi; exact ⟨x, hx, g.cell hc (by exact hne)⟩⟩
set_option maxRecDepth 100000 in
theorem info_hopT : (Try.prog.info? 41).map (fun i => (i.zero, i.size, i.bytes)) = some (some (.agg #[.int .i64 0, .int .i64 0]), 2, 16) := by kernel_rfl
end Go.Proofs.Ytlefjdglcdopeaa

/- A topology that comes in as an argument. -/
namespace Go.Proofs.Ytlefjdglcdopeaa
open Go.ChangeShapes Go.WideShapes Go.ChangeAt Go.RowKit Go.Joins Bs
set_option maxRecDepth 100000 in
theorem tlist2 {A : Type} {xs : List A} (h : xs.length = 2) : ∃ x0 x1, xs = [x0, x1] := by
  match xs, h with
  | [x0, x1], _ => exact ⟨x0, x1, rfl⟩
set_option maxRecDepth 100000 in
theorem tlist5 {A : Type} {xs : List A} (h : xs.length = 5) : ∃ x0 x1 x2 x3 x4, xs = [x0, x1, x2, x3, x4] := by
  match xs, h with
  | [x0, x1, x2, x3, x4], _ => exact ⟨x0, x1, x2, x3, x4, rfl⟩
set_option maxRecDepth 100000 in
theorem kit_cellsRt : Try.prog.cellsOf 63 = 2 := by kernel_rfl
set_option maxRecDepth 100000 in
theorem kit_cellsLk : Try.prog.cellsOf 44 = 5 := by kernel_rfl
set_option maxRecDepth 100000 in
theorem kit_cellsBool : Try.prog.cellsOf 4 = 1 := by kernel_rfl
set_option maxRecDepth 100000 in
theorem kit_cellsRts : Try.prog.cellsOf 25 = 1 := by kernel_rfl
set_option maxRecDepth 100000 in
theorem kit_cellsLks : Try.prog.cellsOf 26 = 1 := by kernel_rfl
section
variable {H : Type} {enc : TypeId × Value → H} {W : World} {base : Nat} {v : Value} {d : DataW H} {ps : List MemPlace}
set_option maxRecDepth 100000 in
theorem rt_trod {fuel : Nat} {cs : List Value} {y : DataW H × List MemPlace} (h : DataW.trod enc Try.prog W 0 (fun _ => true) true fuel 63 cs = some y) : ∃ r : Rt, cs = rtC r := by
  have hs := Try.underlying63
  obtain ⟨xs, n, _, _, hl, hlen, hf⟩ := DataW.trod_struct hs h
  rw [kit_cellsRt] at hl
  obtain ⟨c0, c1, rfl⟩ := tlist2 hl
  obtain ⟨x0, x1, rfl⟩ := tlist2 hlen
  have h0 : DataW.trod enc Try.prog W 0 (fun _ => true) true n 3 [c0] = some x0 := by simpa [Value.cells, kit_cellsInt] using hf 0 _ rfl
  have h1 : DataW.trod enc Try.prog W 0 (fun _ => true) true n 4 [c1] = some x1 := by simpa [Value.cells, kit_cellsBool] using hf 1 _ rfl
  obtain ⟨m0, e0, _, w0⟩ := DataW.trod_int Try.underlying3 h0
  obtain rfl : c0 = .int .i64 m0 := by simpa using e0
  obtain ⟨m1, e1, _⟩ := DataW.trod_bool Try.underlying4 h1
  obtain rfl : c1 = .bool m1 := by simpa using e1
  exact ⟨⟨m0, m1⟩, rfl⟩
set_option maxRecDepth 100000 in
theorem lk_trod {fuel : Nat} {cs : List Value} {y : DataW H × List MemPlace} (h : DataW.trod enc Try.prog W 0 (fun _ => true) true fuel 44 cs = some y) : ∃ l : Lk, cs = lkC l := by
  have hs := Try.underlying44
  obtain ⟨xs, n, _, _, hl, hlen, hf⟩ := DataW.trod_struct hs h
  rw [kit_cellsLk] at hl
  obtain ⟨c0, c1, c2, c3, c4, rfl⟩ := tlist5 hl
  obtain ⟨x0, x1, x2, x3, x4, rfl⟩ := tlist5 hlen
  have h0 : DataW.trod enc Try.prog W 0 (fun _ => true) true n 3 [c0] = some x0 := by simpa [Value.cells, kit_cellsInt] using hf 0 _ rfl
  have h1 : DataW.trod enc Try.prog W 0 (fun _ => true) true n 3 [c1] = some x1 := by simpa [Value.cells, kit_cellsInt] using hf 1 _ rfl
  have h2 : DataW.trod enc Try.prog W 0 (fun _ => true) true n 3 [c2] = some x2 := by simpa [Value.cells, kit_cellsInt] using hf 2 _ rfl
  have h3 : DataW.trod enc Try.prog W 0 (fun _ => true) true n 3 [c3] = some x3 := by simpa [Value.cells, kit_cellsInt] using hf 3 _ rfl
  have h4 : DataW.trod enc Try.prog W 0 (fun _ => true) true n 3 [c4] = some x4 := by simpa [Value.cells, kit_cellsInt] using hf 4 _ rfl
  obtain ⟨m0, e0, _, w0⟩ := DataW.trod_int Try.underlying3 h0
  obtain rfl : c0 = .int .i64 m0 := by simpa using e0
  obtain ⟨m1, e1, _, w1⟩ := DataW.trod_int Try.underlying3 h1
  obtain rfl : c1 = .int .i64 m1 := by simpa using e1
  obtain ⟨m2, e2, _, w2⟩ := DataW.trod_int Try.underlying3 h2
  obtain rfl : c2 = .int .i64 m2 := by simpa using e2
  obtain ⟨m3, e3, _, w3⟩ := DataW.trod_int Try.underlying3 h3
  obtain rfl : c3 = .int .i64 m3 := by simpa using e3
  obtain ⟨m4, e4, _, w4⟩ := DataW.trod_int Try.underlying3 h4
  obtain rfl : c4 = .int .i64 m4 := by simpa using e4
  exact ⟨⟨m0, m1, m2, m3, m4⟩, rfl⟩
set_option maxRecDepth 100000 in
/-- A slice of structs of k cells. -/
theorem rows_trod {α : Type} (f : α → List Value) (k : Nat) (hk : 0 < k) (hf : ∀ x, (f x).length = k) (x0 : α) {E T : TypeId} (hT : Try.prog.underlying T = some (.slice E)) (hc : Try.prog.cellsOf E = k)
    (hE : ∀ {fuel : Nat} {cs : List Value} {y : DataW H × List MemPlace}, DataW.trod enc Try.prog W 0 (fun _ => true) true fuel E cs = some y → ∃ r : α, cs = f r)
    {fuel : Nat} {c0 : Value} {y : DataW H × List MemPlace} (h : DataW.trod enc Try.prog W 0 (fun _ => true) true fuel T [c0] = some y) :
    ∃ (l : List α) (p : Option Addr) (c : Nat), c0 = .slice p l.length c ∧ RdF W (· < W.heap.size) (.slice p l.length c) l.length (l.flatMap f) ∧ l.length ≤ c ∧ c ≤ 9223372036854775807 := by
  rcases DataW.trod_slice hT h with ⟨hcs, _⟩ | ⟨a, len, cap, elems, rest, n, _, hcs, _, _, hl, hm, hlen, hel, _, _⟩
  · obtain rfl : c0 = .slice none 0 0 := by simpa using hcs
    exact ⟨[], none, 0, rfl, rdf_nil _ _ _ _, Nat.le_refl _, by omega⟩
  · obtain rfl : c0 = .slice (some a) len cap := by simpa using hcs
    rw [hc] at hel
    have each : ∀ i, ∃ l : α, i < len → ∀ j, j < k → W.cell? ((a.add (i * k)).add j) = (f l)[j]? := by
      intro i
      by_cases hi : i < len
      · have h1 := hel i hi
        rw [List.getElem?_eq_getElem (by omega)] at h1
        obtain ⟨cs, hc1, hc2⟩ := Option.bind_eq_some_iff.1 h1
        obtain ⟨l, rfl⟩ := hE hc2
        obtain ⟨_, _, hc3⟩ := World.cells?_some hc1
        exact ⟨l, fun _ j hj => hc3 j hj⟩
      · exact ⟨x0, fun h => absurd h hi⟩
    obtain ⟨g, hfn⟩ := Classical.axiomOfChoice each
    have hll : ((List.range len).map g).length = len := by simp
    refine ⟨(List.range len).map g, some a, cap, by rw [hll], ?_, by rw [hll]; exact hl, hm⟩
    rw [hll]
    refine ⟨some a, cap, rfl, fun hne => ?_⟩
    have hpos : 0 < len := by
      rcases Nat.eq_zero_or_pos len with h0 | h0
      · subst h0
        exact absurd rfl hne
      · exact h0
    obtain ⟨b, off, spot⟩ := a
    have hget : ∀ i, i < len → ∀ j, j < k → ∃ u, (f (g i))[j]? = some u := fun i _ j hj => ⟨_, List.getElem?_eq_getElem (by rw [hf]; exact hj)⟩
    have hspot : spot = none := by
      obtain ⟨u, hu⟩ := hget 0 hpos 0 hk
      have := (hfn 0 hpos 0 hk).trans hu
      simpa [Addr.add] using World.cell?_spot this
    subst hspot
    have hcell : ∀ i j, i < len → j < k → W.cell? ⟨b, off + (i * k + j), none⟩ = (f (g i))[j]? := by
      intro i j hi hj
      have := hfn i hi j hj
      rw [Go.WideShapes.add_plain, Go.WideShapes.add_plain] at this
      rw [← this]
      congr 2
      omega
    refine ⟨b, off, rfl, ?_, fun j x hj => ?_⟩
    · obtain ⟨u, hu⟩ := hget 0 hpos 0 hk
      exact World.block_lt_of_cell? W ⟨b, off + (0 * k + 0), none⟩ ((hcell 0 0 hpos hk).trans hu)
    have hj2 : j < len * k := by
      have := (List.getElem?_eq_some_iff.1 hj).1
      rw [flat_len f k hf, hll] at this
      exact this
    have hm1 : j / k < len := (Nat.div_lt_iff_lt_mul hk).2 hj2
    have hm2 : j % k < k := Nat.mod_lt _ hk
    have hd : j = j / k * k + j % k := by rw [Nat.mul_comm]; exact (Nat.div_add_mod j k).symm
    have hat : ((List.range len).map g)[j / k]? = some (g (j / k)) := by
      rw [List.getElem?_map, List.getElem?_range hm1]; rfl
    rw [hd] at hj ⊢
    rw [flat_at f k hf _ _ _ _ hat hm2] at hj
    rw [hcell _ _ hm1 hm2]
    exact hj
set_option maxRecDepth 100000 in
theorem opn_topology (hval : Value.okWide Try.prog W .any base 28 v) (h : DataW.Trod enc Try.prog W 0 (fun _ => true) true 28 v d ps) :
    ∃ T : Tg, v = .agg #[.slice T.pR T.R.length T.cR, .slice T.pL T.L.length T.cL] ∧ TgOk W (· < W.heap.size) T := by
  have hs := Try.underlying28
  obtain ⟨cs, rfl, hsz⟩ := okWide_struct hs hval
  obtain ⟨fuel, hf⟩ := h
  obtain ⟨xs, n, _, _, hl, hlen, hf⟩ := DataW.trod_struct hs hf
  have h2 : cs.toList.length = 2 := hsz.trans (by kernel_rfl)
  obtain ⟨c0, c1, hct⟩ := tlist2 h2
  obtain ⟨x0, x1, rfl⟩ := tlist2 hlen
  have h0 : DataW.trod enc Try.prog W 0 (fun _ => true) true n 25 [c0] = some x0 := by simpa [Value.cells, kit_cellsRts, hct] using hf 0 _ rfl
  have h1 : DataW.trod enc Try.prog W 0 (fun _ => true) true n 26 [c1] = some x1 := by simpa [Value.cells, kit_cellsLks, hct] using hf 1 _ rfl
  obtain ⟨R, pR, cR, rfl, hR, hr1, hr2⟩ := rows_trod rtC 2 (by decide) (fun _ => rfl) ⟨0, false⟩ Try.underlying25 kit_cellsRt rt_trod h0
  obtain ⟨L, pL, cL, rfl, hL, hl1, hl2⟩ := rows_trod lkC 5 (by decide) (fun _ => rfl) ⟨0, 0, 0, 0, 0⟩ Try.underlying26 kit_cellsLk lk_trod h1
  refine ⟨⟨R, L, pR, cR, pL, cL⟩, congrArg Value.agg (Array.ext' hct), hR, hL, ⟨hr1, hr2⟩, ⟨hl1, hl2⟩⟩
end
end Go.Proofs.Ytlefjdglcdopeaa

/- A failure that comes in as an argument; failures out of rows. -/
namespace Go.Proofs.Ytlefjdglcdopeaa
open Go.ChangeShapes Go.WideShapes Go.ChangeAt Go.RowKit Go.Joins Bs
set_option maxRecDepth 100000 in
theorem kit_cellsHp : Try.prog.cellsOf 41 = 2 := by kernel_rfl
set_option maxRecDepth 100000 in
theorem kit_cellsHps : Try.prog.cellsOf 56 = 1 := by kernel_rfl
set_option maxRecDepth 100000 in
theorem kit_cellsIs : Try.prog.cellsOf 22 = 1 := by kernel_rfl
section
variable {H : Type} {enc : TypeId × Value → H} {W : World} {base : Nat} {v : Value} {d : DataW H} {ps : List MemPlace}
set_option maxRecDepth 100000 in
theorem hp_trod {fuel : Nat} {cs : List Value} {y : DataW H × List MemPlace} (h : DataW.trod enc Try.prog W 0 (fun _ => true) true fuel 41 cs = some y) : ∃ r : Hp, cs = hpC r := by
  have hs := Try.underlying41
  obtain ⟨xs, n, _, _, hl, hlen, hf⟩ := DataW.trod_struct hs h
  rw [kit_cellsHp] at hl
  obtain ⟨c0, c1, rfl⟩ := tlist2 hl
  obtain ⟨x0, x1, rfl⟩ := tlist2 hlen
  have h0 : DataW.trod enc Try.prog W 0 (fun _ => true) true n 3 [c0] = some x0 := by simpa [Value.cells, kit_cellsInt] using hf 0 _ rfl
  have h1 : DataW.trod enc Try.prog W 0 (fun _ => true) true n 3 [c1] = some x1 := by simpa [Value.cells, kit_cellsInt] using hf 1 _ rfl
  obtain ⟨m0, e0, _, w0⟩ := DataW.trod_int Try.underlying3 h0
  obtain rfl : c0 = .int .i64 m0 := by simpa using e0
  obtain ⟨m1, e1, _, w1⟩ := DataW.trod_int Try.underlying3 h1
  obtain rfl : c1 = .int .i64 m1 := by simpa using e1
  exact ⟨⟨m0, m1⟩, rfl⟩
set_option maxRecDepth 100000 in
theorem is_trod {fuel : Nat} {cs : List Value} {y : DataW H × List MemPlace} (h : DataW.trod enc Try.prog W 0 (fun _ => true) true fuel 3 cs = some y) : ∃ r : Int, cs = tvC r := by
  obtain ⟨m0, e0, _, _⟩ := DataW.trod_int Try.underlying3 h
  exact ⟨m0, by simpa [tvC, tv] using e0⟩
set_option maxRecDepth 100000 in
theorem rd_of_rdf {w : World} {q : Nat → Prop} {p : Option Addr} {n c : Nat} {xs : List Value} (h : RdF w q (.slice p n c) n xs) (hl : xs.length = n) : Rd w q (.slice p n c) xs := by
  obtain ⟨p1, c1, e, hx⟩ := h
  refine ⟨p1, c1, by rw [hl]; exact e, hx⟩
set_option maxRecDepth 100000 in
theorem opn_failure (hval : Value.okWide Try.prog W .any base 58 v) (h : DataW.Trod enc Try.prog W 0 (fun _ => true) true 58 v d ps) :
    ∃ F : Fl, v = .agg #[.slice F.pH F.H.length F.cH, .slice F.pX F.X.length F.cX] ∧ FlOk W (· < W.heap.size) F := by
  have hs := Try.underlying58
  obtain ⟨cs, rfl, hsz⟩ := okWide_struct hs hval
  obtain ⟨fuel, hf⟩ := h
  obtain ⟨xs, n, _, _, hl, hlen, hf⟩ := DataW.trod_struct hs hf
  have h2 : cs.toList.length = 2 := hsz.trans (by kernel_rfl)
  obtain ⟨c0, c1, hct⟩ := tlist2 h2
  obtain ⟨x0, x1, rfl⟩ := tlist2 hlen
  have h0 : DataW.trod enc Try.prog W 0 (fun _ => true) true n 56 [c0] = some x0 := by simpa [Value.cells, kit_cellsHps, hct] using hf 0 _ rfl
  have h1 : DataW.trod enc Try.prog W 0 (fun _ => true) true n 22 [c1] = some x1 := by simpa [Value.cells, kit_cellsIs, hct] using hf 1 _ rfl
  obtain ⟨Hs, pH, cH, rfl, hH, hr1, hr2⟩ := rows_trod hpC 2 (by decide) (fun _ => rfl) ⟨0, 0⟩ Try.underlying56 kit_cellsHp hp_trod h0
  obtain ⟨X, pX, cX, rfl, hX, hl1, hl2⟩ := rows_trod tvC 1 (by decide) (fun _ => rfl) 0 Try.underlying22 kit_cellsInt is_trod h1
  rw [flat_tv] at hX
  exact ⟨⟨Hs, X, pH, cH, pX, cX⟩, congrArg Value.agg (Array.ext' hct), hH, rd_of_rdf hX (by simp), ⟨hr1, hr2⟩, ⟨hl1, hl2⟩⟩
end
set_option maxRecDepth 100000 in
/-- A failure out of rows of the call's own. -/
theorem fl_of_own {w : World} {base : Nat} {vH vX : Value} {H : List Hp} {X : List Int} (hH : w.ownsRow base 41 2 vH H.length (H.flatMap hpC)) (hX : w.ownsRow base 3 1 vX X.length (X.map tv)) :
    ∃ F : Fl, vH = .slice F.pH F.H.length F.cH ∧ vX = .slice F.pX F.X.length F.cX ∧ FlOk w (fun b => base ≤ b ∧ b < w.heap.size) F := by
  obtain ⟨pH, cH, rfl, h1, h2⟩ := own_shape hH
  obtain ⟨pX, cX, rfl, h3, h4⟩ := own_shape hX
  exact ⟨⟨H, X, pH, cH, pX, cX⟩, rfl, rfl, rdf_of_own2 hH, rd_of_rdf (rdf_of_own2 hX) (by simp), ⟨h1, h2⟩, ⟨h3, h4⟩⟩
end Go.Proofs.Ytlefjdglcdopeaa

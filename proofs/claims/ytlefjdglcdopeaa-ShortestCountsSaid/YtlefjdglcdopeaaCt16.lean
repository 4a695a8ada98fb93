/- Parts of the proof, packed: ShCtM, ShCtLaw, ToOpn. -/
import Derived.Test.YtlefjdglcdopeaaCt15
import Derived.Test.YtlefjdglcdopeaaCt2
import Derived.Test.YtlefjdglcdopeaaCt5
/- Counting without the limit: at most eight routers. -/
namespace Go.Proofs.Ytlefjdglcdopeaa
open Go.RowKit Go.Maps Bs
set_option maxRecDepth 100000 in
theorem ids_pair {R : List Rt} {L : List Lk} (h : okT R L = true) : (ids R).Pairwise (· < ·) := by
  have hr := pair_of_asc ltR ltR_trans R (okT_all h).rs
  unfold ids
  rw [List.pairwise_map]
  exact hr.imp (fun {a b} h => of_decide_eq_true h)
set_option maxRecDepth 100000 in
theorem nodup_of_lt {l : List Int} (h : l.Pairwise (· < ·)) : l.Nodup := h.imp (fun {a b} h e => by omega)
set_option maxRecDepth 100000 in
theorem nbL_pair {R : List Rt} {L : List Lk} (h : okT R L = true) (r : Int) : (nbL L r).Pairwise (· < ·) := by
  rw [near_eq (okT_all h) r]
  unfold nearR
  have hr := pair_of_asc ltR ltR_trans R (okT_all h).rs
  rw [List.pairwise_map]
  exact (hr.filter _).imp (fun {a b} h => of_decide_eq_true h)
set_option maxRecDepth 100000 in
theorem nxt_sub (R : List Rt) (L : List Lk) (r z : Int) : (nxt R L r z).Sublist (nbL L r) := by
  unfold nxt
  rw [nxM_next, ← nbD_fst]
  unfold nxM
  exact (List.filter_sublist).map _
set_option maxRecDepth 100000 in
theorem nxt_pair {R : List Rt} {L : List Lk} (h : okT R L = true) (r z : Int) : (nxt R L r z).Pairwise (· < ·) := (nbL_pair h r).sublist (nxt_sub R L r z)
/-- v is nearer to z than r. -/
noncomputable def nearB (R : List Rt) (L : List Lk) (z r v : Int) : Bool := match dst R L v z, dst R L r z with
  | some x, some d => decide (x < d)
  | _, _ => false
set_option maxRecDepth 100000 in
theorem nearB_iff {R : List Rt} {L : List Lk} {z r v : Int} : nearB R L z r v = true ↔ ∃ x d, dst R L v z = some x ∧ dst R L r z = some d ∧ x < d := by
  unfold nearB
  cases h1 : dst R L v z with
  | none => simp
  | some x =>
    cases h2 : dst R L r z with
    | none => simp
    | some d => simp
/-- How many routers are nearer to z than r. -/
noncomputable def rkN (R : List Rt) (L : List Lk) (z r : Int) : Nat := ((ids R).filter (nearB R L z r)).length
set_option maxRecDepth 100000 in
theorem rkN_self {R : List Rt} {L : List Lk} {z r : Int} (h : okT R L = true) (hr : r ∈ ids R) : rkN R L z r + 1 ≤ (ids R).length := by
  have hn : ¬ nearB R L z r r = true := fun e => by
    obtain ⟨x, d, h1, h2, h3⟩ := nearB_iff.1 e
    rw [h1] at h2
    have := Option.some.inj h2
    omega
  have := nodup_le (r :: (ids R).filter (nearB R L z r)) (ids R) (List.nodup_cons.2 ⟨fun hm => hn (List.mem_filter.1 hm).2, (nodup_of_lt (ids_pair h)).sublist List.filter_sublist⟩) (fun x hx => by
    rcases List.mem_cons.1 hx with rfl | hx
    · exact hr
    · exact (List.mem_filter.1 hx).1)
  exact this
set_option maxRecDepth 100000 in
theorem nxt_near {R : List Rt} {L : List Lk} {z r u : Int} (hu : u ∈ nxt R L r z) : u ∈ ids R ∧ nearB R L z r u = true := by
  obtain ⟨d, x, c, h1, h2, h3, h4, -⟩ := nxt_step hu
  exact ⟨(dst_both h2).2.1, nearB_iff.2 ⟨x, d, h2, h1, by omega⟩⟩
set_option maxRecDepth 100000 in
theorem rkN_step {R : List Rt} {L : List Lk} {z r u : Int} (hu : u ∈ nxt R L r z) : rkN R L z u < rkN R L z r := by
  obtain ⟨d, x, c, h1, h2, h3, h4, -⟩ := nxt_step hu
  have hok := (dst_both h1).1
  obtain ⟨m1, m2⟩ := nxt_near hu
  have hn : ¬ nearB R L z u u = true := fun e => by
    obtain ⟨x, d, h1, h2, h3⟩ := nearB_iff.1 e
    rw [h1] at h2
    have := Option.some.inj h2
    omega
  have := nodup_le (u :: (ids R).filter (nearB R L z u)) ((ids R).filter (nearB R L z r)) (List.nodup_cons.2 ⟨fun hm => hn (List.mem_filter.1 hm).2, (nodup_of_lt (ids_pair hok)).sublist List.filter_sublist⟩) (fun v hv => by
    rcases List.mem_cons.1 hv with rfl | hv
    · exact List.mem_filter.2 ⟨m1, m2⟩
    · obtain ⟨k1, k2⟩ := List.mem_filter.1 hv
      obtain ⟨y, d', k3, k4, k5⟩ := nearB_iff.1 k2
      rw [h2] at k4
      have := Option.some.inj k4
      exact List.mem_filter.2 ⟨k1, nearB_iff.2 ⟨y, d, k3, h1, by omega⟩⟩)
  exact this
set_option maxRecDepth 100000 in
theorem nxt_rk {R : List Rt} {L : List Lk} (h : okT R L = true) (z r : Int) : (nxt R L r z).length ≤ rkN R L z r :=
  nodup_le _ _ (nodup_of_lt (nxt_pair h r z)) (fun _ hu => List.mem_filter.2 (nxt_near hu))
def sumI (c : Int → Int) (l : List Int) : Int := l.foldl (fun a u => a + c u) 0
set_option maxRecDepth 100000 in
theorem sum_from (c : Int → Int) : ∀ (l : List Int) (a : Int), l.foldl (fun a u => a + c u) a = a + sumI c l
  | [], a => by unfold sumI; simp
  | u :: t, a => by
    have h1 := sum_from c t (a + c u)
    have h2 := sum_from c t (0 + c u)
    unfold sumI
    rw [List.foldl_cons, List.foldl_cons, h1, h2]
    omega
set_option maxRecDepth 100000 in
theorem sumI_cons (c : Int → Int) (u : Int) (t : List Int) : sumI c (u :: t) = c u + sumI c t := by
  have := sum_from c t (0 + c u)
  unfold sumI at *
  rw [List.foldl_cons, this]
  omega
set_option maxRecDepth 100000 in
theorem sumI_snoc (c : Int → Int) (l : List Int) (u : Int) : sumI c (l ++ [u]) = sumI c l + c u := by
  unfold sumI
  rw [List.foldl_append]
  rfl
set_option maxRecDepth 100000 in
theorem sumI_bd {c : Int → Int} {B : Int} : ∀ (l : List Int), (∀ u ∈ l, 0 ≤ c u ∧ c u ≤ B) → 0 ≤ sumI c l ∧ sumI c l ≤ (l.length : Int) * B
  | [], _ => by unfold sumI; simp
  | u :: t, h => by
    have h1 := sumI_bd t (fun v hv => h v (by simp [hv]))
    have h2 := h u (by simp)
    rw [sumI_cons, List.length_cons]
    have : ((t.length + 1 : Nat) : Int) * B = (t.length : Int) * B + B := by rw [Int.natCast_succ, Int.add_mul, Int.one_mul]
    omega
set_option maxRecDepth 100000 in
theorem sumI_congr {c d : Int → Int} : ∀ (l : List Int), (∀ u ∈ l, c u = d u) → sumI c l = sumI d l
  | [], _ => rfl
  | u :: t, h => by rw [sumI_cons, sumI_cons, h u (by simp), sumI_congr t (fun v hv => h v (by simp [hv]))]
set_option maxRecDepth 100000 in
/-- Without the limit. -/
theorem fold_sum {c : Int → Int} : ∀ (l : List Int) (a : Int), (∀ u ∈ l, 0 ≤ c u) → a + sumI c l ≤ 1000000 → l.foldl (fun a u => min (a + c u) 1000000) a = a + sumI c l
  | [], a, _, _ => by unfold sumI; simp
  | u :: t, a, h, hb => by
    rw [sumI_cons] at hb ⊢
    have h0 : 0 ≤ sumI c t := by
      have : ∀ (l : List Int), (∀ v ∈ l, 0 ≤ c v) → 0 ≤ sumI c l := by
        intro l
        induction l with
        | nil => intro _; unfold sumI; simp
        | cons v s ih => intro hv; rw [sumI_cons]; have := hv v (by simp); have := ih (fun x hx => hv x (by simp [hx])); omega
      exact this t (fun v hv => h v (by simp [hv]))
    rw [List.foldl_cons, show min (a + c u) 1000000 = a + c u by omega, fold_sum t (a + c u) (fun v hv => h v (by simp [hv])) (by omega)]
    omega
set_option maxRecDepth 100000 in
theorem fold_le {c : Int → Int} : ∀ (l : List Int) (a : Int), l.foldl (fun a u => min (a + c u) 1000000) a ≤ a + sumI c l
  | [], a => by unfold sumI; simp
  | u :: t, a => by
    rw [sumI_cons, List.foldl_cons]
    have := fold_le (c := c) t (min (a + c u) 1000000)
    omega
def fctN : Nat → Nat
  | 0 => 1
  | k + 1 => (k + 1) * fctN k
set_option maxRecDepth 100000 in
theorem fctN_mono : ∀ {a b : Nat}, a ≤ b → fctN a ≤ fctN b := by
  intro a b h
  induction h with
  | refl => exact Nat.le_refl _
  | step _ ih =>
    refine Nat.le_trans ih ?_
    show _ ≤ (_ + 1) * fctN _
    rw [Nat.add_mul, Nat.one_mul]
    exact Nat.le_add_left _ _
set_option maxRecDepth 100000 in
theorem cnt_le {R : List Rt} {L : List Lk} (h : okT R L = true) (z : Int) : ∀ (k : Nat) (r : Int), rkN R L z r ≤ k → cnt R L z r ≤ ((fctN k : Nat) : Int) := by
  intro k
  induction k with
  | zero =>
    intro r hr
    rw [cnt_rule]
    unfold cntS
    by_cases hz : r = z
    · rw [if_pos hz]; decide
    · rw [if_neg hz]
      have := nxt_rk h z r
      simp only
      rw [List.eq_nil_of_length_eq_zero (l := nxt R L r z) (by omega)]
      exact (show (0 : Int) ≤ ((fctN 0 : Nat) : Int) by decide)
  | succ k ih =>
    intro r hr
    have h1 : (1 : Int) ≤ ((fctN (k + 1) : Nat) : Int) := by
      have := fctN_mono (Nat.zero_le (k + 1))
      have h2 : fctN 0 = 1 := rfl
      omega
    rw [cnt_rule]
    unfold cntS
    by_cases hz : r = z
    · rw [if_pos hz]; exact h1
    · rw [if_neg hz]
      simp only
      refine Int.le_trans (fold_le _ _) ?_
      have h3 := (sumI_bd (c := cnt R L z) (B := ((fctN k : Nat) : Int)) (nxt R L r z) (fun u hu => ⟨(cnt_bd R L z u).1, ih u (by have := rkN_step hu; omega)⟩)).2
      have h4 := nxt_rk h z r
      have h5 : ((nxt R L r z).length : Int) * ((fctN k : Nat) : Int) ≤ ((k + 1 : Nat) : Int) * ((fctN k : Nat) : Int) := Int.mul_le_mul_of_nonneg_right (by omega) (by omega)
      have h6 : ((fctN (k + 1) : Nat) : Int) = ((k + 1 : Nat) : Int) * ((fctN k : Nat) : Int) := by
        rw [← Int.natCast_mul]
        rfl
      omega
set_option maxRecDepth 100000 in
/-- With at most eight routers the numbers are plain sums. -/
theorem cnt_sum {R : List Rt} {L : List Lk} (h : okT R L = true) (h8 : R.length ≤ 8) {z r : Int} (hr : r ∈ ids R) (hz : r ≠ z) : cnt R L z r = sumI (cnt R L z) (nxt R L r z) := by
  have hl : (ids R).length ≤ 8 := by unfold ids; rw [List.length_map]; exact h8
  have hk := rkN_self (z := z) h hr
  have h1 := nxt_rk h z r
  have h3 := (sumI_bd (c := cnt R L z) (B := ((fctN 7 : Nat) : Int)) (nxt R L r z) (fun u hu => ⟨(cnt_bd R L z u).1, cnt_le h z 7 u (by have := rkN_step hu; omega)⟩)).2
  have h7 : ((fctN 7 : Nat) : Int) = 5040 := by decide
  rw [h7] at h3
  rw [cnt_rule]
  unfold cntS
  rw [if_neg hz]
  simp only
  rw [fold_sum _ _ (fun u _ => (cnt_bd R L z u).1) (by omega)]
  omega
set_option maxRecDepth 100000 in
theorem pV_sum {R : List Rt} {L : List Lk} (h8 : R.length ≤ 8) {z r : Int} (hr : hasV R L r = true) (hz : r ≠ z) : pV R L r z = sumI (fun u => pV R L u z) (nxt R L r z) := by
  obtain ⟨hok, hm⟩ := hasV_iff.1 hr
  have h1 : sumI (fun u => pV R L u z) (nxt R L r z) = sumI (cnt R L z) (nxt R L r z) := sumI_congr _ (fun u hu => by
    obtain ⟨d, x, c, -, h2, -⟩ := nxt_step hu
    unfold pV
    rw [h2]
    rfl)
  rw [h1]
  unfold pV
  cases hd : dst R L r z with
  | some d =>
    rw [if_pos (by rfl), cnt_sum hok h8 hm hz]
  | none =>
    rw [if_neg (by simp)]
    cases hn : nxt R L r z with
    | nil => rfl
    | cons u t =>
      obtain ⟨d, x, c, h3, -⟩ := nxt_step (R := R) (L := L) (z := z) (r := r) (u := u) (by rw [hn]; simp)
      rw [hd] at h3
      cases h3
set_option maxRecDepth 100000 in
theorem pV_self {R : List Rt} {L : List Lk} {z : Int} (h : hasV R L z = true) : pV R L z z = 1 := by
  unfold pV
  rw [dst_self h, if_pos (by rfl), cnt_self]
set_option maxRecDepth 100000 in
theorem pV_bd (R : List Rt) (L : List Lk) (r z : Int) : 0 ≤ pV R L r z ∧ pV R L r z ≤ 1000000 := by
  unfold pV
  split
  · exact cnt_bd R L z r
  · omega
end Go.Proofs.Ytlefjdglcdopeaa

/- The law ShortestCounts. -/
namespace Go.Proofs.Ytlefjdglcdopeaa
open Go.RowKit Go.Maps Bs
set_option maxRecDepth 100000 in
set_option maxHeartbeats 12800000 in
theorem scounts_walk (v : Value) (w : World) (hv : IntsIn w v) :
    Calls Try.prog 9 #[v] w fun e w' => e = .returned (.bool true) ∧ w.grownBy w' none := by
  go_enter Try.func9, Try.ntmps9
  go_wp2_with fail
  refine (new_any v w hv).mono ?_
  rintro e w2 ⟨rfl, hg1, hT1⟩
  have H2 := Lib.hid (And.intro hg1 hT1)
  obtain ⟨a, ha⟩ : ∃ a, a = w.heap.size := ⟨_, rfl⟩
  rw [← ha] at H2
  have HA := Lib.hid ha
  clear hg1 hT1 hv
  rw [← HA.out]
  clear ha
  go_wp2_with fail
  refine (stopo_any a 8 0 (by decide) (by decide) (by unfold I64; omega) w2 H2.out.2).mono ?_
  rintro e w3 ⟨T, rfl, hT, hO, hpT, hs3⟩
  obtain ⟨R, L, pR, cR, pL, cL⟩ := T
  have HVT : Hid (VT 8 ⟨R, L, pR, cR, pL, cL⟩) := Lib.hid (VT.of hO hpT)
  simp only at hO hpT ⊢
  have gal := World.grownBy_alloc w3 (.cells #[.slice pR R.length cR, .slice pL L.length cL] 28) none
  have ha2 : a < w2.heap.size := H2.out.2.lt
  have HW4 : Hid (w.grownBy (w3.alloc (.cells #[.slice pR R.length cR, .slice pL L.length cL] 28)) none) := Lib.hid (grown_trans (grown_tape H2.out.1 (by rw [← HA.out]; exact hs3.1)) gal)
  have HG : Hid ((w3.alloc (.cells #[.slice pR R.length cR, .slice pL L.length cL] 28)).heap[w3.heap.size]? = some (.cells #[.slice pR R.length cR, .slice pL L.length cL] 28 (0, 0)) ∧ TgOk (w3.alloc (.cells #[.slice pR R.length cR, .slice pL L.length cL] 28)) (fun b => w2.heap.size ≤ b ∧ b < w3.heap.size) ⟨R, L, pR, cR, pL, cL⟩ ∧ Tp (w3.alloc (.cells #[.slice pR R.length cR, .slice pL L.length cL] 28)) a) :=
    Lib.hid ⟨heap_alloc_new w3 _, hT.keep gal, hs3.2.keep gal⟩
  have ha3 : a < w3.heap.size := Nat.lt_of_lt_of_le ha2 hs3.1.size
  clear hT hs3 gal hO hpT
  go_upto_region 3 with fail
  generalize w3.alloc _ = w4 at *
  refine wp_region_held_drew (S := fun w' => Hid (w4.grownBy w' (some a) ∧ Tp w' a)) (by kernel_rfl) (Lib.hid ⟨grown_drew (grown_refl _ _), HG.out.2.2.drew⟩) (fun hHeld => ?_)
  refine wpAnyH_take (i := 0) (oi := { dst := some 14, op := Op.move (Operand.tmp 3), type := 23, pos := "law.go:166", after := #[], guard := none }) (v := ?_) rfl (by kernel_rfl) (by kernel_rfl) (by kernel_rfl) (fun _ _ _ h => h) (Or.inl ⟨by rfl, ?_⟩) hHeld ?_
  rotate_left 1
  · intro u hSu
    obtain ⟨q0, q1⟩ := row_cells (kept_row HG.out.1 hSu.out.1 (fun e => by have := Option.some.inj e; omega))
    go_simp
    first | done | with_reducible rfl
  (try simp only [Act.put, List.setIfInBounds_toArray, List.set_cons_zero, List.set_cons_succ])
  refine wpAnyH_take (i := 1) (oi := { dst := some 15, op := Op.load 28 (Operand.tmp 4), type := 28, pos := "law.go:166", after := #[], guard := none }) (v := ?_) rfl (by kernel_rfl) (by kernel_rfl) (by kernel_rfl) (fun _ _ _ h => h) (Or.inl ⟨by rfl, ?_⟩) hHeld ?_
  rotate_left 1
  · intro u hSu
    obtain ⟨q0, q1⟩ := row_cells (kept_row HG.out.1 hSu.out.1 (fun e => by have := Option.some.inj e; omega))
    go_simp
    first | done | with_reducible rfl
  (try simp only [Act.put, List.setIfInBounds_toArray, List.set_cons_zero, List.set_cons_succ])
  refine wpAnyH_take (i := 3) (oi := { dst := some 17, op := Op.move (Operand.tmp 3), type := 23, pos := "law.go:166", after := #[], guard := none }) (v := ?_) rfl (by kernel_rfl) (by kernel_rfl) (by kernel_rfl) (fun _ _ _ h => h) (Or.inl ⟨by rfl, ?_⟩) hHeld ?_
  rotate_left 1
  · intro u hSu
    obtain ⟨q0, q1⟩ := row_cells (kept_row HG.out.1 hSu.out.1 (fun e => by have := Option.some.inj e; omega))
    go_simp
    first | done | with_reducible rfl
  (try simp only [Act.put, List.setIfInBounds_toArray, List.set_cons_zero, List.set_cons_succ])
  refine wpAnyH_take (i := 4) (oi := { dst := some 18, op := Op.load 28 (Operand.tmp 4), type := 28, pos := "law.go:166", after := #[], guard := none }) (v := ?_) rfl (by kernel_rfl) (by kernel_rfl) (by kernel_rfl) (fun _ _ _ h => h) (Or.inl ⟨by rfl, ?_⟩) hHeld ?_
  rotate_left 1
  · intro u hSu
    obtain ⟨q0, q1⟩ := row_cells (kept_row HG.out.1 hSu.out.1 (fun e => by have := Option.some.inj e; omega))
    go_simp
    first | done | with_reducible rfl
  (try simp only [Act.put, List.setIfInBounds_toArray, List.set_cons_zero, List.set_cons_succ])
  refine wpAnyH_ready (rs := [2]) (by kernel_rfl) (by simp) ?_
  refine AllReadyH.cons (o := { dst := some 16, op := Op.call { callee := Callee.value (Operand.func 13), args := #[Operand.tmp 14, Operand.tmp 15, Operand.const (Value.int IntKind.i64 0)], argTypes := #[23, 28, 3] }, type := 3, pos := "law.go:166", after := #[{ on := 0, ground := Ground.data }, { on := 1, ground := Ground.data }], guard := none }) rfl (fun Kz hK => ?_) AllReadyH.nil
  go_simp
  go_at_call 13
  refine (srtr_any a ⟨R, L, pR, cR, pL, cL⟩ 0 (by unfold I64; omega) (fun b => w2.heap.size ≤ b ∧ b < w3.heap.size) _ (HG.out.2.1.grown hHeld.out.1 (fun b hb e => by have := Option.some.inj e; omega)) (fun b hb => by omega) hHeld.out.2).mono ?_
  rintro e w5 ⟨x, hx, rfl, hs⟩
  have Hx : Hid (hasV R L x = true ∧ 1 ≤ x ∧ x ≤ 99) := Lib.hid (HVT.out.rt hx)
  have hs1 := hs.1
  have hs2 := hs.2
  clear hx hs
  refine hK.out _ _ (Lib.hid ⟨grown_trans hHeld.out.1 hs1, hs2⟩) (fun hH2 => ?_)
  clear hK Kz hHeld
  have hHeld := hH2
  clear hH2
  (try simp only [Act.put, List.setIfInBounds_toArray, List.set_cons_zero, List.set_cons_succ])
  refine wpAnyH_ready (rs := [5]) (by kernel_rfl) (by simp) ?_
  refine AllReadyH.cons (o := { dst := some 19, op := Op.call { callee := Callee.value (Operand.func 13), args := #[Operand.tmp 17, Operand.tmp 18, Operand.const (Value.int IntKind.i64 0)], argTypes := #[23, 28, 3] }, type := 3, pos := "law.go:166", after := #[{ on := 3, ground := Ground.data }, { on := 4, ground := Ground.data }, { on := 2, ground := Ground.chain }], guard := none }) rfl (fun Kz hK => ?_) AllReadyH.nil
  go_simp
  go_at_call 13
  refine (srtr_any a ⟨R, L, pR, cR, pL, cL⟩ 0 (by unfold I64; omega) (fun b => w2.heap.size ≤ b ∧ b < w3.heap.size) _ (HG.out.2.1.grown hHeld.out.1 (fun b hb e => by have := Option.some.inj e; omega)) (fun b hb => by omega) hHeld.out.2).mono ?_
  rintro e w5 ⟨y, hy, rfl, hs⟩
  have Hy : Hid (hasV R L y = true ∧ 1 ≤ y ∧ y ≤ 99) := Lib.hid (HVT.out.rt hy)
  have hs1 := hs.1
  have hs2 := hs.2
  clear hy hs
  refine hK.out _ _ (Lib.hid ⟨grown_trans hHeld.out.1 hs1, hs2⟩) (fun hH2 => ?_)
  clear hK Kz hHeld
  have hHeld := hH2
  clear hH2
  (try simp only [Act.put, List.setIfInBounds_toArray, List.set_cons_zero, List.set_cons_succ])
  refine wpAnyH_take (i := 6) (oi := { dst := some 5, op := Op.assign (Operand.tmp 16), type := 3, pos := "law.go:166", after := #[{ on := 2, ground := Ground.data }, { on := 5, ground := Ground.chain }, { on := 0, ground := Ground.phase }, { on := 1, ground := Ground.phase }, { on := 2, ground := Ground.phase }, { on := 3, ground := Ground.textOnly Departure.lateStores }, { on := 4, ground := Ground.textOnly Departure.lateStores }, { on := 5, ground := Ground.textOnly Departure.lateStoresUnsure }], guard := none }) (v := ?_) rfl (by kernel_rfl) (by kernel_rfl) (by kernel_rfl) (fun _ _ _ h => h) (Or.inl ⟨by rfl, ?_⟩) hHeld ?_
  rotate_left 1
  · intro u hSu
    obtain ⟨q0, q1⟩ := row_cells (kept_row HG.out.1 hSu.out.1 (fun e => by have := Option.some.inj e; omega))
    go_simp
    first | done | with_reducible rfl
  (try simp only [Act.put, List.setIfInBounds_toArray, List.set_cons_zero, List.set_cons_succ])
  refine wpAnyH_take (i := 7) (oi := { dst := some 6, op := Op.assign (Operand.tmp 19), type := 3, pos := "law.go:166", after := #[{ on := 5, ground := Ground.data }, { on := 6, ground := Ground.chain }, { on := 0, ground := Ground.phase }, { on := 1, ground := Ground.phase }, { on := 2, ground := Ground.phase }, { on := 3, ground := Ground.phase }, { on := 4, ground := Ground.phase }, { on := 5, ground := Ground.phase }, { on := 6, ground := Ground.phase }], guard := none }) (v := ?_) rfl (by kernel_rfl) (by kernel_rfl) (by kernel_rfl) (fun _ _ _ h => h) (Or.inl ⟨by rfl, ?_⟩) hHeld ?_
  rotate_left 1
  · intro u hSu
    obtain ⟨q0, q1⟩ := row_cells (kept_row HG.out.1 hSu.out.1 (fun e => by have := Option.some.inj e; omega))
    go_simp
    first | done | with_reducible rfl
  (try simp only [Act.put, List.setIfInBounds_toArray, List.set_cons_zero, List.set_cons_succ])
  refine wpAnyH_done (by kernel_rfl) ?_ _
  have HL : Hid (LW w w3.heap.size ⟨R, L, pR, cR, pL, cL⟩ _) := Lib.hid ⟨kept_row HG.out.1 hHeld.out.1 (fun e => by have := Option.some.inj e; omega), (HG.out.2.1.grown hHeld.out.1 (fun b hb e => by have := Option.some.inj e; omega)).mono (fun b hb => hb.2), grown_new HW4.out hHeld.out.1 (by rw [HA.out]; exact Nat.le_refl _)⟩
  clear hHeld HG HW4 H2
  obtain ⟨G, hG⟩ : ∃ G, G = w3.heap.size := ⟨_, rfl⟩
  rw [← hG] at HL
  rw [← hG]
  clear hG ha2 ha3 HA
  have hR : R.length ≤ 1000 := Nat.le_trans HVT.out.len.1 (by decide)
  have hL : L.length ≤ 1000 := Nat.le_trans HVT.out.l60 (by decide)
  have hxi : I64 x := by have := Hx.out.2; unfold I64; omega
  have hyi : I64 y := by have := Hy.out.2; unfold I64; omega
  obtain ⟨c0, c1⟩ := row_cells HL.out.gb
  go_wp2_with fail
  refine (tnext_any ⟨R, L, pR, cR, pL, cL⟩ x y _ _ HL.out.t hR hL HVT.out.pl hxi).mono ?_
  rintro e w6 ⟨p6, c6, rfl, hr6, hc6, hn6, hg6⟩
  (try simp only at hr6 hc6 ⊢)
  obtain ⟨X, hX⟩ : ∃ X, nxt R L x y = X := ⟨_, rfl⟩
  have hXl := nxt_len R L x y
  rw [hX] at hr6 hc6 hXl ⊢
  have HX := Lib.hid hX
  have HL6 := Lib.hid (HL.out.keep hg6)
  have HRD := Lib.hid hr6
  have hX120 : X.length ≤ 120 := by have := HVT.out.l60; simp only at this; omega
  obtain ⟨f, hf⟩ : ∃ f : Int → Int, (fun u => pV R L u y) = f := ⟨_, rfl⟩
  have HF : Hid ((∀ u, pV R L u y = f u) ∧ ∀ u, 0 ≤ f u ∧ f u ≤ 1000000) := Lib.hid ⟨fun u => by rw [← hf], fun u => by rw [← hf]; exact pV_bd R L u y⟩
  clear hX hr6 hn6 hg6 hXl hf c0 c1 HL
  go_wp2_with fail
  go_loopw [7, 9] (fun nn i wr => ∃ k : Nat, k ≤ X.length ∧ i = .int .i64 (k : Int) ∧ nn = .int .i64 (sumI f (X.take k)) ∧ Hid (LW w G ⟨R, L, pR, cR, pL, cL⟩ wr) ∧ Hid (w6.grownBy wr none)) (fun _ i _ => X.length - (RowKit.intOf i).toNat)
  case atStart => exact ⟨0, Nat.zero_le _, rfl, rfl, HL6, Lib.hid (grown_refl _ _)⟩
  case round =>
    obtain ⟨k, hk, rfl, rfl, HLk, HGk⟩ := hrel
    clear HL6
    have hsb := (sumI_bd (c := f) (B := 1000000) (X.take k) (fun u _ => HF.out.2 u))
    have htl : (X.take k).length ≤ k := List.length_take_le _ _
    have hsb2 : 0 ≤ sumI f (X.take k) ∧ sumI f (X.take k) ≤ 120000000 := by omega
    by_cases hlt : k < X.length
    · obtain ⟨-, b6, o6, rfl, -, -⟩ := rdi_at (HRD.out.grown HGk.out (fun _ _ => by simp)) (by omega)
      obtain ⟨n, hu⟩ : ∃ n, X[k]? = some n := ⟨_, List.getElem?_eq_getElem hlt⟩
      have HU : Hid (1 ≤ n ∧ n ≤ 99) := Lib.hid (by
        obtain ⟨d, z, c, -, h2, -⟩ := nxt_step (R := R) (L := L) (z := y) (r := x) (u := n) (by rw [HX.out]; exact List.mem_of_getElem? hu)
        exact (dst_bd h2).2.1)
      have HD : Hid (∀ v, w6.grownBy v none → v.cell? ⟨b6, o6 + k, none⟩ = some (.int .i64 n)) := Lib.hid (fun v g => by
        obtain ⟨-, b, o, e, -, hc⟩ := rdi_at (HRD.out.grown g (fun _ _ => by simp)) (by omega)
        injection e with e
        injection e with e1 e2
        subst e1
        subst e2
        exact hc k n hu)
      have hsn : sumI f (X.take (k + 1)) = sumI f (X.take k) + f n := by
        rw [List.take_add_one, hu]
        exact sumI_snoc f _ n
      have HSN := Lib.hid hsn
      obtain ⟨s, hs⟩ : ∃ s, sumI f (X.take k) = s := ⟨_, rfl⟩
      have hfu := HF.out.2 n
      rw [hs] at HSN hsb2 ⊢
      have hk1 : (k : Int) < (X.length : Int) := by omega
      clear hu hsn hs hsb
      go_upto_region 9 with fail
      refine wp_region_held_drew (S := fun w' => Hid (wr.grownBy w' none)) (by kernel_rfl) (Lib.hid (grown_drew (grown_refl _ _))) (fun hHeld => ?_)
      refine wpAnyH_take (i := 0) (oi := { dst := some 30, op := Op.move (Operand.tmp 7), type := 3, pos := "law.go:170", after := #[], guard := none }) (v := ?_) rfl (by kernel_rfl) (by kernel_rfl) (by kernel_rfl) (fun _ _ _ h => h) (Or.inl ⟨by rfl, ?_⟩) hHeld ?_
      rotate_left 1
      · intro u hSu
        obtain ⟨q0, q1⟩ := row_cells (kept_row HLk.out.gb hSu.out (by simp))
        have q2 := HD.out u (grown_trans HGk.out hSu.out)
        go_simp
        first | done | with_reducible rfl
      (try simp only [Act.put, List.setIfInBounds_toArray, List.set_cons_zero, List.set_cons_succ])
      refine wpAnyH_take (i := 1) (oi := { dst := some 31, op := Op.load 28 (Operand.tmp 4), type := 28, pos := "law.go:170", after := #[], guard := none }) (v := ?_) rfl (by kernel_rfl) (by kernel_rfl) (by kernel_rfl) (fun _ _ _ h => h) (Or.inl ⟨by rfl, ?_⟩) hHeld ?_
      rotate_left 1
      · intro u hSu
        obtain ⟨q0, q1⟩ := row_cells (kept_row HLk.out.gb hSu.out (by simp))
        have q2 := HD.out u (grown_trans HGk.out hSu.out)
        go_simp
        first | done | with_reducible rfl
      (try simp only [Act.put, List.setIfInBounds_toArray, List.set_cons_zero, List.set_cons_succ])
      refine wpAnyH_take (i := 2) (oi := { dst := some 32, op := Op.move (Operand.tmp 8), type := 22, pos := "law.go:170", after := #[], guard := none }) (v := ?_) rfl (by kernel_rfl) (by kernel_rfl) (by kernel_rfl) (fun _ _ _ h => h) (Or.inl ⟨by rfl, ?_⟩) hHeld ?_
      rotate_left 1
      · intro u hSu
        obtain ⟨q0, q1⟩ := row_cells (kept_row HLk.out.gb hSu.out (by simp))
        have q2 := HD.out u (grown_trans HGk.out hSu.out)
        go_simp
        first | done | with_reducible rfl
      (try simp only [Act.put, List.setIfInBounds_toArray, List.set_cons_zero, List.set_cons_succ])
      refine wpAnyH_take (i := 3) (oi := { dst := some 33, op := Op.move (Operand.tmp 9), type := 3, pos := "law.go:170", after := #[], guard := none }) (v := ?_) rfl (by kernel_rfl) (by kernel_rfl) (by kernel_rfl) (fun _ _ _ h => h) (Or.inl ⟨by rfl, ?_⟩) hHeld ?_
      rotate_left 1
      · intro u hSu
        obtain ⟨q0, q1⟩ := row_cells (kept_row HLk.out.gb hSu.out (by simp))
        have q2 := HD.out u (grown_trans HGk.out hSu.out)
        go_simp
        first | done | with_reducible rfl
      (try simp only [Act.put, List.setIfInBounds_toArray, List.set_cons_zero, List.set_cons_succ])
      refine wpAnyH_take (i := 4) (oi := { dst := some 34, op := Op.indexAddr 22 (Operand.tmp 32) (Operand.tmp 33), type := 0, pos := "law.go:170", after := #[{ on := 2, ground := Ground.data }, { on := 3, ground := Ground.data }], guard := none }) (v := ?_) rfl (by kernel_rfl) (by kernel_rfl) (by kernel_rfl) (fun _ _ _ h => h) (Or.inl ⟨by rfl, ?_⟩) hHeld ?_
      rotate_left 1
      · intro u hSu
        obtain ⟨q0, q1⟩ := row_cells (kept_row HLk.out.gb hSu.out (by simp))
        have q2 := HD.out u (grown_trans HGk.out hSu.out)
        go_simp
        first | done | with_reducible rfl
      (try simp only [Act.put, List.setIfInBounds_toArray, List.set_cons_zero, List.set_cons_succ])
      refine wpAnyH_take (i := 5) (oi := { dst := some 35, op := Op.load 3 (Operand.tmp 34), type := 3, pos := "law.go:170", after := #[{ on := 4, ground := Ground.data }], guard := none }) (v := ?_) rfl (by kernel_rfl) (by kernel_rfl) (by kernel_rfl) (fun _ _ _ h => h) (Or.inl ⟨by rfl, ?_⟩) hHeld ?_
      rotate_left 1
      · intro u hSu
        obtain ⟨q0, q1⟩ := row_cells (kept_row HLk.out.gb hSu.out (by simp))
        have q2 := HD.out u (grown_trans HGk.out hSu.out)
        go_simp
        first | done | with_reducible rfl
      (try simp only [Act.put, List.setIfInBounds_toArray, List.set_cons_zero, List.set_cons_succ])
      refine wpAnyH_take (i := 6) (oi := { dst := some 36, op := Op.move (Operand.tmp 6), type := 3, pos := "law.go:170", after := #[], guard := none }) (v := ?_) rfl (by kernel_rfl) (by kernel_rfl) (by kernel_rfl) (fun _ _ _ h => h) (Or.inl ⟨by rfl, ?_⟩) hHeld ?_
      rotate_left 1
      · intro u hSu
        obtain ⟨q0, q1⟩ := row_cells (kept_row HLk.out.gb hSu.out (by simp))
        have q2 := HD.out u (grown_trans HGk.out hSu.out)
        go_simp
        first | done | with_reducible rfl
      (try simp only [Act.put, List.setIfInBounds_toArray, List.set_cons_zero, List.set_cons_succ])
      refine wpAnyH_ready (rs := [7]) (by kernel_rfl) (by simp) ?_
      refine AllReadyH.cons (o := { dst := some 37, op := Op.call { callee := Callee.value (Operand.func 19), args := #[Operand.tmp 31, Operand.tmp 35, Operand.tmp 36], argTypes := #[28, 3, 3] }, type := 3, pos := "law.go:170", after := #[{ on := 1, ground := Ground.data }, { on := 5, ground := Ground.data }, { on := 6, ground := Ground.data }], guard := none }) rfl (fun Kz hK => ?_) AllReadyH.nil
      go_simp
      go_at_call 19
      refine (tpaths_any ⟨R, L, pR, cR, pL, cL⟩ n y _ _ ((HLk.out.keep hHeld.out).t) hR hL HVT.out.pl (by have := HU.out; unfold I64; omega)).mono ?_
      rintro e w7 ⟨rfl, hg7⟩
      simp only
      rw [HF.out.1 n]
      refine hK.out _ _ (Lib.hid (grown_trans hHeld.out hg7)) (fun hH2 => ?_)
      clear hK Kz hHeld
      have hHeld := hH2
      clear hH2
      (try simp only [Act.put, List.setIfInBounds_toArray, List.set_cons_zero, List.set_cons_succ])
      refine wpAnyH_take (i := 8) (oi := { dst := some 38, op := Op.binOp BinOp.add 3 (Operand.tmp 30) (Operand.tmp 37) 3, type := 3, pos := "law.go:170", after := #[{ on := 0, ground := Ground.data }, { on := 7, ground := Ground.data }], guard := none }) (v := ?_) rfl (by kernel_rfl) (by kernel_rfl) (by kernel_rfl) (fun _ _ _ h => h) (Or.inl ⟨by rfl, ?_⟩) hHeld ?_
      rotate_left 1
      · intro u hSu
        obtain ⟨q0, q1⟩ := row_cells (kept_row HLk.out.gb hSu.out (by simp))
        have q2 := HD.out u (grown_trans HGk.out hSu.out)
        go_simp
        first | done | with_reducible rfl
      (try simp only [Act.put, List.setIfInBounds_toArray, List.set_cons_zero, List.set_cons_succ])
      refine wpAnyH_take (i := 9) (oi := { dst := some 7, op := Op.assign (Operand.tmp 38), type := 3, pos := "law.go:170", after := #[{ on := 8, ground := Ground.data }, { on := 7, ground := Ground.chain }, { on := 0, ground := Ground.phase }, { on := 1, ground := Ground.phase }, { on := 2, ground := Ground.phase }, { on := 3, ground := Ground.phase }, { on := 4, ground := Ground.phase }, { on := 5, ground := Ground.phase }, { on := 6, ground := Ground.phase }, { on := 7, ground := Ground.phase }, { on := 8, ground := Ground.phase }], guard := none }) (v := ?_) rfl (by kernel_rfl) (by kernel_rfl) (by kernel_rfl) (fun _ _ _ h => h) (Or.inl ⟨by rfl, ?_⟩) hHeld ?_
      rotate_left 1
      · intro u hSu
        obtain ⟨q0, q1⟩ := row_cells (kept_row HLk.out.gb hSu.out (by simp))
        have q2 := HD.out u (grown_trans HGk.out hSu.out)
        go_simp
        first | done | with_reducible rfl
      (try simp only [Act.put, List.setIfInBounds_toArray, List.set_cons_zero, List.set_cons_succ])
      refine wpAnyH_done (by kernel_rfl) ?_ _
      have H9 := Lib.hid (And.intro (HLk.out.keep hHeld.out) (grown_trans HGk.out hHeld.out))
      clear hHeld HD HLk HGk
      go_wp2_with fail
      exact ⟨⟨k + 1, by omega, congrArg _ (by omega), congrArg _ ((Go.IntWalk.i64_in _ (by omega)).trans HSN.out.symm), Lib.hid H9.out.1, Lib.hid H9.out.2⟩, by simp only [RowKit.intOf]; omega⟩
    · obtain rfl : k = X.length := by omega
      rw [List.take_length] at hsb2 ⊢
      obtain ⟨s, hs⟩ : ∃ s, sumI f X = s := ⟨_, rfl⟩
      have HSS := Lib.hid hs
      rw [hs] at hsb2 ⊢
      obtain ⟨c0, c1⟩ := row_cells HLk.out.gb
      have HPV : Hid (pV R L x y = if x = y then 1 else s) := Lib.hid (by
        by_cases e : x = y
        · subst e
          rw [if_pos rfl]
          exact pV_self Hx.out.1
        · rw [if_neg e, pV_sum HVT.out.len.1 Hx.out.1 e, HX.out, ← HSS.out]
          exact sumI_congr X (fun u _ => HF.out.1 u))
      clear hs hsb
      by_cases hxy : x = y
      · have hxy' : (x == y) = true := by simpa using hxy
        have HP2 : Hid (pV R L x y = 1) := Lib.hid (by rw [HPV.out, if_pos hxy])
        clear hxy HPV
        go_wp2_with fail
        refine (tpaths_any ⟨R, L, pR, cR, pL, cL⟩ x y _ _ HLk.out.t hR hL HVT.out.pl hxi).mono ?_
        rintro e w8 ⟨rfl, hg8⟩
        simp only
        rw [HP2.out]
        have HL8 := Lib.hid (HLk.out.keep hg8)
        clear hg8 c0 c1
        go_wp2_with fail
        refine (sawake_any w8).mono ?_
        rintro e w9 ⟨rfl, hg9⟩
        have HE := Lib.hid (grown_trans HL8.out.gr hg9)
        clear hg9
        go_wp2_with fail
        go_ret
        exact ⟨rfl, HE.out⟩
      · have hxy' : (x == y) = false := by simpa using hxy
        have HP2 : Hid (pV R L x y = s) := Lib.hid (by rw [HPV.out, if_neg hxy])
        clear hxy HPV
        go_wp2_with fail
        refine (tpaths_any ⟨R, L, pR, cR, pL, cL⟩ x y _ _ HLk.out.t hR hL HVT.out.pl hxi).mono ?_
        rintro e w8 ⟨rfl, hg8⟩
        simp only
        rw [HP2.out]
        have HL8 := Lib.hid (HLk.out.keep hg8)
        clear hg8 c0 c1
        go_wp2_with fail
        refine (sawake_any w8).mono ?_
        rintro e w9 ⟨rfl, hg9⟩
        have HE := Lib.hid (grown_trans HL8.out.gr hg9)
        clear hg9
        go_wp2_with fail
        go_ret
        exact ⟨rfl, HE.out⟩
end Go.Proofs.Ytlefjdglcdopeaa

/- A topology that comes in as an argument. -/
namespace Go.Proofs.Ytlefjdglcdopeaa
open Go.ChangeShapes Go.WideShapes Go.ChangeAt Go.RowKit Go.Joins Bs
set_option maxRecDepth 100000 in
theorem tlist2 {A : Type} {xs : List A} (h : xs.length = 2) : ∃ x0 x1, xs = [x0, x1] := by
  match xs, h with
  | [x0, x1], _ => exact ⟨x0, x1, rfl⟩
set_option maxRecDepth 100000 in
theorem tlist5 {A : Type} {xs : List A} (h : xs.length = 5) : ∃ x0 x1 x2 x3 x4, xs = [x0, x1, x2, x3, x4] := by
  match xs, h with
  | [x0, x1, x2, x3, x4], _ => exact ⟨x0, x1, x2, x3, x4, rfl⟩
set_option maxRecDepth 100000 in
theorem kit_cellsRt : Try.prog.cellsOf 63 = 2 := by kernel_rfl
set_option maxRecDepth 100000 in
theorem kit_cellsLk : Try.prog.cellsOf 44 = 5 := by kernel_rfl
set_option maxRecDepth 100000 in
theorem kit_cellsBool : Try.prog.cellsOf 4 = 1 := by kernel_rfl
set_option maxRecDepth 100000 in
theorem kit_cellsRts : Try.prog.cellsOf 25 = 1 := by kernel_rfl
set_option maxRecDepth 100000 in
theorem kit_cellsLks : Try.prog.cellsOf 26 = 1 := by kernel_rfl
section
variable {H : Type} {enc : TypeId × Value → H} {W : World} {base : Nat} {v : Value} {d : DataW H} {ps : List MemPlace}
set_option maxRecDepth 100000 in
theorem rt_trod {fuel : Nat} {cs : List Value} {y : DataW H × List MemPlace} (h : DataW.trod enc Try.prog W 0 (fun _ => true) true fuel 63 cs = some y) : ∃ r : Rt, cs = rtC r := by
  have hs := Try.underlying63
  obtain ⟨xs, n, _, _, hl, hlen, hf⟩ := DataW.trod_struct hs h
  rw [kit_cellsRt] at hl
  obtain ⟨c0, c1, rfl⟩ := tlist2 hl
  obtain ⟨x0, x1, rfl⟩ := tlist2 hlen
  have h0 : DataW.trod enc Try.prog W 0 (fun _ => true) true n 3 [c0] = some x0 := by simpa [Value.cells, kit_cellsInt] using hf 0 _ rfl
  have h1 : DataW.trod enc Try.prog W 0 (fun _ => true) true n 4 [c1] = some x1 := by simpa [Value.cells, kit_cellsBool] using hf 1 _ rfl
  obtain ⟨m0, e0, _, w0⟩ := DataW.trod_int Try.underlying3 h0
  obtain rfl : c0 = .int .i64 m0 := by simpa using e0
  obtain ⟨m1, e1, _⟩ := DataW.trod_bool Try.underlying4 h1
  obtain rfl : c1 = .bool m1 := by simpa using e1
  exact ⟨⟨m0, m1⟩, rfl⟩
set_option maxRecDepth 100000 in
theorem lk_trod {fuel : Nat} {cs : List Value} {y : DataW H × List MemPlace} (h : DataW.trod enc Try.prog W 0 (fun _ => true) true fuel 44 cs = some y) : ∃ l : Lk, cs = lkC l := by
  have hs := Try.underlying44
  obtain ⟨xs, n, _, _, hl, hlen, hf⟩ := DataW.trod_struct hs h
  rw [kit_cellsLk] at hl
  obtain ⟨c0, c1, c2, c3, c4, rfl⟩ := tlist5 hl
  obtain ⟨x0, x1, x2, x3, x4, rfl⟩ := tlist5 hlen
  have h0 : DataW.trod enc Try.prog W 0 (fun _ => true) true n 3 [c0] = some x0 := by simpa [Value.cells, kit_cellsInt] using hf 0 _ rfl
  have h1 : DataW.trod enc Try.prog W 0 (fun _ => true) true n 3 [c1] = some x1 := by simpa [Value.cells, kit_cellsInt] using hf 1 _ rfl
  have h2 : DataW.trod enc Try.prog W 0 (fun _ => true) true n 3 [c2] = some x2 := by simpa [Value.cells, kit_cellsInt] using hf 2 _ rfl
  have h3 : DataW.trod enc Try.prog W 0 (fun _ => true) true n 3 [c3] = some x3 := by simpa [Value.cells, kit_cellsInt] using hf 3 _ rfl
  have h4 : DataW.trod enc Try.prog W 0 (fun _ => true) true n 3 [c4] = some x4 := by simpa [Value.cells, kit_cellsInt] using hf 4 _ rfl
  obtain ⟨m0, e0, _, w0⟩ := DataW.trod_int Try.underlying3 h0
  obtain rfl : c0 = .int .i64 m0 := by simpa using e0
  obtain ⟨m1, e1, _, w1⟩ := DataW.trod_int Try.underlying3 h1
  obtain rfl : c1 = .int .i64 m1 := by simpa using e1
  obtain ⟨m2, e2, _, w2⟩ := DataW.trod_int Try.underlying3 h2
  obtain rfl : c2 = .int .i64 m2 := by simpa using e2
  obtain ⟨m3, e3, _, w3⟩ := DataW.trod_int Try.underlying3 h3
  obtain rfl : c3 = .int .i64 m3 := by simpa using e3
  obtain ⟨m4, e4, _, w4⟩ := DataW.trod_int Try.underlying3 h4
  obtain rfl : c4 = .int .i64 m4 := by simpa using e4
  exact ⟨⟨m0, m1, m2, m3, m4⟩, rfl⟩
set_option maxRecDepth 100000 in
/-- A slice of structs of k cells. -/
theorem rows_trod {α : Type} (f : α → List Value) (k : Nat) (hk : 0 < k) (hf : ∀ x, (f x).length = k) (x0 : α) {E T : TypeId} (hT : Try.prog.underlying T = some (.slice E)) (hc : Try.prog.cellsOf E = k)
    (hE : ∀ {fuel : Nat} {cs : List Value} {y : DataW H × List MemPlace}, DataW.trod enc Try.prog W 0 (fun _ => true) true fuel E cs = some y → ∃ r : α, cs = f r)
    {fuel : Nat} {c0 : Value} {y : DataW H × List MemPlace} (h : DataW.trod enc Try.prog W 0 (fun _ => true) true fuel T [c0] = some y) :
    ∃ (l : List α) (p : Option Addr) (c : Nat), c0 = .slice p l.length c ∧ RdF W (· < W.heap.size) (.slice p l.length c) l.length (l.flatMap f) ∧ l.length ≤ c ∧ c ≤ 9223372036854775807 := by
  rcases DataW.trod_slice hT h with ⟨hcs, _⟩ | ⟨a, len, cap, elems, rest, n, _, hcs, _, _, hl, hm, hlen, hel, _, _⟩
  · obtain rfl : c0 = .slice none 0 0 := by simpa using hcs
    exact ⟨[], none, 0, rfl, rdf_nil _ _ _ _, Nat.le_refl _, by omega⟩
  · obtain rfl : c0 = .slice (some a) len cap := by simpa using hcs
    rw [hc] at hel
    have each : ∀ i, ∃ l : α, i < len → ∀ j, j < k → W.cell? ((a.add (i * k)).add j) = (f l)[j]? := by
      intro i
      by_cases hi : i < len
      · have h1 := hel i hi
        rw [List.getElem?_eq_getElem (by omega)] at h1
        obtain ⟨cs, hc1, hc2⟩ := Option.bind_eq_some_iff.1 h1
        obtain ⟨l, rfl⟩ := hE hc2
        obtain ⟨_, _, hc3⟩ := World.cells?_some hc1
        exact ⟨l, fun _ j hj => hc3 j hj⟩
      · exact ⟨x0, fun h => absurd h hi⟩
    obtain ⟨g, hfn⟩ := Classical.axiomOfChoice each
    have hll : ((List.range len).map g).length = len := by simp
    refine ⟨(List.range len).map g, some a, cap, by rw [hll], ?_, by rw [hll]; exact hl, hm⟩
    rw [hll]
    refine ⟨some a, cap, rfl, fun hne => ?_⟩
    have hpos : 0 < len := by
      rcases Nat.eq_zero_or_pos len with h0 | h0
      · subst h0
        exact absurd rfl hne
      · exact h0
    obtain ⟨b, off, spot⟩ := a
    have hget : ∀ i, i < len → ∀ j, j < k → ∃ u, (f (g i))[j]? = some u := fun i _ j hj => ⟨_, List.getElem?_eq_getElem (by rw [hf]; exact hj)⟩
    have hspot : spot = none := by
      obtain ⟨u, hu⟩ := hget 0 hpos 0 hk
      have := (hfn 0 hpos 0 hk).trans hu
      simpa [Addr.add] using World.cell?_spot this
    subst hspot
    have hcell : ∀ i j, i < len → j < k → W.cell? ⟨b, off + (i * k + j), none⟩ = (f (g i))[j]? := by
      intro i j hi hj
      have := hfn i hi j hj
      rw [Go.WideShapes.add_plain, Go.WideShapes.add_plain] at this
      rw [← this]
      congr 2
      omega
    refine ⟨b, off, rfl, ?_, fun j x hj => ?_⟩
    · obtain ⟨u, hu⟩ := hget 0 hpos 0 hk
      exact World.block_lt_of_cell? W ⟨b, off + (0 * k + 0), none⟩ ((hcell 0 0 hpos hk).trans hu)
    have hj2 : j < len * k := by
      have := (List.getElem?_eq_some_iff.1 hj).1
      rw [flat_len f k hf, hll] at this
      exact this
    have hm1 : j / k < len := (Nat.div_lt_iff_lt_mul hk).2 hj2
    have hm2 : j % k < k := Nat.mod_lt _ hk
    have hd : j = j / k * k + j % k := by rw [Nat.mul_comm]; exact (Nat.div_add_mod j k).symm
    have hat : ((List.range len).map g)[j / k]? = some (g (j / k)) := by
      rw [List.getElem?_map, List.getElem?_range hm1]; rfl
    rw [hd] at hj ⊢
    rw [flat_at f k hf _ _ _ _ hat hm2] at hj
    rw [hcell _ _ hm1 hm2]
    exact hj
set_option maxRecDepth 100000 in
theorem opn_topology (hval : Value.okWide Try.prog W .any base 28 v) (h : DataW.Trod enc Try.prog W 0 (fun _ => true) true 28 v d ps) :
    ∃ T : Tg, v = .agg #[.slice T.pR T.R.length T.cR, .slice T.pL T.L.length T.cL] ∧ TgOk W (· < W.heap.size) T := by
  have hs := Try.underlying28
  obtain ⟨cs, rfl, hsz⟩ := okWide_struct hs hval
  obtain ⟨fuel, hf⟩ := h
  obtain ⟨xs, n, _, _, hl, hlen, hf⟩ := DataW.trod_struct hs hf
  have h2 : cs.toList.length = 2 := hsz.trans (by kernel_rfl)
  obtain ⟨c0, c1, hct⟩ := tlist2 h2
  obtain ⟨x0, x1, rfl⟩ := tlist2 hlen
  have h0 : DataW.trod enc Try.prog W 0 (fun _ => true) true n 25 [c0] = some x0 := by simpa [Value.cells, kit_cellsRts, hct] using hf 0 _ rfl
  have h1 : DataW.trod enc Try.prog W 0 (fun _ => true) true n 26 [c1] = some x1 := by simpa [Value.cells, kit_cellsLks, hct] using hf 1 _ rfl
  obtain ⟨R, pR, cR, rfl, hR, hr1, hr2⟩ := rows_trod rtC 2 (by decide) (fun _ => rfl) ⟨0, false⟩ Try.underlying25 kit_cellsRt rt_trod h0
  obtain ⟨L, pL, cL, rfl, hL, hl1, hl2⟩ := rows_trod lkC 5 (by decide) (fun _ => rfl) ⟨0, 0, 0, 0, 0⟩ Try.underlying26 kit_cellsLk lk_trod h1
  refine ⟨⟨R, L, pR, cR, pL, cL⟩, congrArg Value.agg (Array.ext' hct), hR, hL, ⟨hr1, hr2⟩, ⟨hl1, hl2⟩⟩
end
end Go.Proofs.Ytlefjdglcdopeaa

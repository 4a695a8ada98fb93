/- Parts of the proof, packed: ToSort, ToSrt2, ToDfs, ToDfsK. -/
import Derived.Test.YtiencdgmnkphjaaWek6
import Derived.Deep.AppendLies
/- slices.Sort of at most twelve numbers of the call's own. -/
namespace Go.Proofs.Ytiencdgmnkphjaa
open Go.RowKit Bs
set_option maxRecDepth 100000 in
theorem tless_any (x y : Int) (w : World) :
    Calls Try.prog 111 #[.int .i64 x, .int .i64 y] w fun e w' => e = .returned (.bool (decide (x < y))) ∧ w = w' := by
  have N : ∀ (z : Int) (w : World), Calls Try.prog 103 #[.int .i64 z] w fun e w' => e = .returned (.bool false) ∧ w = w' := by
    intro z w
    go_enter Try.func103, Try.ntmps103
    go_wp2_with fail
    go_ret
    first | exact ⟨rfl, rfl⟩ | exact ⟨by simp, rfl⟩
  go_enter Try.func111, Try.ntmps111
  go_wp2_with (go_at_call 103; refine (N _ _).mono ?_; rintro e w' ⟨rfl, rfl⟩)
  go_ret
  exact ⟨by simp, rfl⟩
theorem getD_set (l : List Int) (i j : Nat) (a : Int) (hi : i < l.length) : (l.set i a).getD j 0 = if i = j then a else l.getD j 0 := by
  rw [List.getD_eq_getElem?_getD, List.getElem?_set, List.getD_eq_getElem?_getD]
  by_cases e : i = j
  · subst e
    simp [hi]
  · simp [e]
/-- While numbers are sorted. -/
structure SK (w : World) (base g c n : Nat) (l d : List Int) (wr : World) : Prop where
  own : wr.ownsRow base 3 1 (.slice (some ⟨g, 0, none⟩) n c) n (d.map tv)
  gr : w.grownBy wr (some g)
  len : d.length = n
  perm : d.Perm l
theorem SK.drew {w wr : World} {base g c n : Nat} {l d : List Int} (h : SK w base g c n l d wr) : SK w base g c n l d wr.drew := ⟨h.own.drew, grown_drew h.gr, h.len, h.perm⟩
theorem SK.at_ {w wr : World} {base g c n : Nat} {l d : List Int} (h : SK w base g c n l d wr) {j : Nat} (hj : j < n) : wr.cell? ⟨g, j, none⟩ = some (.int .i64 (d.getD j 0)) := by
  have h1 := h.own.cellAt j (by omega)
  rw [h1]
  have hl := h.len
  rw [List.getElem?_map, List.getD_eq_getElem?_getD, List.getElem?_eq_getElem (by omega)]
  rfl
def toS (d : List Int) (i : Nat) : Prop := ∀ p q, p < q → q < i → d.getD p 0 ≤ d.getD q 0
def almS (d : List Int) (i j : Nat) : Prop := ∀ p q, p < q → q ≤ i → q ≠ j → d.getD p 0 ≤ d.getD q 0
def swp (d : List Int) (j : Nat) : List Int := (d.set (j + 1) (d.getD j 0)).set j (d.getD (j + 1) 0)
theorem swp_len (d : List Int) (j : Nat) : (swp d j).length = d.length := by unfold swp; simp
theorem swp_getD {d : List Int} {j : Nat} (hj : j + 1 < d.length) (k : Nat) : (swp d j).getD k 0 = if j = k then d.getD (j + 1) 0 else if j + 1 = k then d.getD j 0 else d.getD k 0 := by
  unfold swp
  rw [getD_set _ _ _ _ (by rw [List.length_set]; omega), getD_set _ _ _ _ hj]
theorem swp_perm {d : List Int} {j : Nat} (hj : j + 1 < d.length) : (swp d j).Perm d := by
  unfold swp
  have e1 : d.getD j 0 = d[j]'(by omega) := by rw [List.getD_eq_getElem?_getD, List.getElem?_eq_getElem (by omega)]; rfl
  have e2 : d.getD (j + 1) 0 = d[j + 1]'hj := by rw [List.getD_eq_getElem?_getD, List.getElem?_eq_getElem hj]; rfl
  rw [e1, e2]
  exact List.set_set_perm hj (by omega)
theorem swp_alm {d : List Int} {i j : Nat} (hj : j + 1 ≤ i) (hi : i < d.length) (h : almS d i (j + 1)) (hlt : d.getD (j + 1) 0 < d.getD j 0) : almS (swp d j) i j := by
  intro p q hpq hq hqj
  have hjl : j + 1 < d.length := by omega
  have hP := swp_getD hjl p
  have hQ := swp_getD hjl q
  have hPQ : (swp d j).getD p 0 = (if p = j then d.getD (j + 1) 0 else if p = j + 1 then d.getD j 0 else d.getD p 0) := by
    rw [hP]
    by_cases e2 : j = p
    · rw [if_pos e2, if_pos e2.symm]
    · rw [if_neg e2, if_neg (show ¬ p = j from fun e => e2 e.symm)]
      by_cases e3 : j + 1 = p
      · rw [if_pos e3, if_pos e3.symm]
      · rw [if_neg e3, if_neg (show ¬ p = j + 1 from fun e => e3 e.symm)]
  rw [hPQ]
  clear hP hPQ
  by_cases e1 : j + 1 = q
  · rw [if_neg (fun e => hqj e.symm), if_pos e1] at hQ
    rw [hQ]
    by_cases e2 : p = j
    · rw [if_pos e2]; omega
    · rw [if_neg e2, if_neg (by omega)]
      exact h p j (by omega) (by omega) (by omega)
  · rw [if_neg (fun e => hqj e.symm), if_neg e1] at hQ
    rw [hQ]
    by_cases e2 : p = j
    · rw [if_pos e2]
      exact h (j + 1) q (by omega) hq (fun e => e1 e.symm)
    · rw [if_neg e2]
      by_cases e3 : p = j + 1
      · rw [if_pos e3]
        exact h j q (by omega) hq (fun e => e1 e.symm)
      · rw [if_neg e3]
        exact h p q hpq hq (fun e => e1 e.symm)
theorem alm_end {d : List Int} {i j : Nat} (h : almS d i j) (he : j = 0 ∨ d.getD (j - 1) 0 ≤ d.getD j 0) : toS d (i + 1) := by
  intro p q hpq hq
  by_cases e : q = j
  · subst e
    rcases he with he | he
    · omega
    · by_cases e2 : p = q - 1
      · rw [e2]; exact he
      · exact Int.le_trans (h p (q - 1) (by omega) (by omega) (by omega)) he
  · exact h p q hpq (by omega) e
theorem SK.swap {w wr : World} {base g c n : Nat} {l d : List Int} (h : SK w base g c n l d wr) {j : Nat} (hj : j + 1 < n) :
    SK w base g c n l (swp d j) ((wr.setCell ⟨g, j + 1, none⟩ (.int .i64 (d.getD j 0))).setCell ⟨g, j, none⟩ (.int .i64 (d.getD (j + 1) 0))) := by
  obtain ⟨k1, k2⟩ := h.own.stored (j + 1) (.int .i64 (d.getD j 0))
  obtain ⟨k3, k4⟩ := k1.stored j (.int .i64 (d.getD (j + 1) 0))
  refine ⟨?_, grown_trans (grown_trans h.gr k2) k4, by rw [swp_len]; exact h.len, (swp_perm (by rw [h.len]; exact hj)).trans h.perm⟩
  unfold swp
  rw [List.map_set, List.map_set]
  exact k3
def SrtPost (base g c n : Nat) (l : List Int) (w : World) (e : Ending) (w' : World) : Prop := ∃ d, Hid (SK w base g c n l d w' ∧ toS d n) ∧ e = .returned (.tuple #[])
set_option maxRecDepth 100000 in
set_option maxHeartbeats 6400000 in
theorem tins_any (base g c n : Nat) (l : List Int) (w : World) (hO : w.ownsRow base 3 1 (.slice (some ⟨g, 0, none⟩) n c) n (l.map tv)) (hl : l.length = n) (hn : n ≤ 12) :
    Calls Try.prog 105 #[.slice (some ⟨g, 0, none⟩) n c, .int .i64 0, .int .i64 (n : Int)] w fun e w' => SrtPost base g c n l w e w' := by
  have K0 : Hid (SK w base g c n l l w ∧ toS l 1) := Lib.hid ⟨⟨hO, grown_refl _ _, hl, List.Perm.refl _⟩, fun p q h1 h2 => by omega⟩
  clear hO hl
  go_enter Try.func105, Try.ntmps105
  go_wp2_with fail
  go_loopw [6] (fun a wr => ∃ i : Nat, 1 ≤ i ∧ (i ≤ n ∨ i = 1) ∧ a = .int .i64 (i : Int) ∧ ∃ d, Hid (SK w base g c n l d wr ∧ toS d i)) (fun a _ => n - (intOf a).toNat)
  case atStart => exact ⟨1, by omega, Or.inr rfl, rfl, l, K0⟩
  case round =>
  obtain ⟨i, hi1, hi, rfl, d0, K⟩ := hrel
  clear K0
  by_cases hlt : i < n
  case neg =>
    have hz : ¬ (i : Int) < (n : Int) := by omega
    have K9 : Hid (SK w base g c n l d0 wr ∧ toS d0 n) := Lib.hid ⟨K.out.1, fun p q h1 h2 => K.out.2 p q h1 (by omega)⟩
    go_wp2_with fail
    exact bodyPost_end (results_none rfl _ _ _) rfl ⟨d0, K9, rfl⟩
  have KI : Hid (SK w base g c n l d0 wr ∧ almS d0 i i) := Lib.hid ⟨K.out.1, fun p q h1 h2 h3 => K.out.2 p q h1 (by omega)⟩
  clear K
  obtain ⟨wo, rfl⟩ : ∃ wo : World, wo = wr := ⟨_, rfl⟩
  go_wp2_with fail
  go_loopw [7] (fun a wr => ∃ j : Nat, j ≤ i ∧ a = .int .i64 (j : Int) ∧ ∃ d, Hid (SK w base g c n l d wr ∧ almS d i j)) (fun a _ => (intOf a).toNat)
  case atStart => exact ⟨i, Nat.le_refl _, rfl, d0, KI⟩
  case round =>
  clear KI
  obtain ⟨j, hj, rfl, d, K⟩ := hrel
  have fin : Hid ((j = 0 ∨ d.getD (j - 1) 0 ≤ d.getD j 0)) → ∀ wz, Hid (SK w base g c n l d wz) → Hid (SK w base g c n l d wz ∧ toS d (i + 1)) := fun h wz k => Lib.hid ⟨k.out, alm_end K.out.2 h.out⟩
  have FIN := Lib.hid fin
  clear fin
  by_cases hj0 : j = 0
  · subst hj0
    have H := FIN.out (Lib.hid (Or.inl rfl)) wr.drew (Lib.hid K.out.1.drew)
    have SD := Lib.hid K.out.1.drew
    clear K FIN
    go_upto_region 4 with fail
    refine wp_region_held_drew (S := fun w' => Hid (SK w base g c n l d w')) (by kernel_rfl) (SD) (fun hHeld => ?_)
    refine wpAnyH_take (i := 0) (oi := { dst := some 16, op := Op.move (Operand.tmp 7), type := 3, pos := "zsortordered.go:14", after := #[], guard := none }) (v := ?_) rfl (by kernel_rfl) (by kernel_rfl) (by kernel_rfl) (fun _ _ _ h => h) (Or.inl ⟨by rfl, ?_⟩) hHeld ?_
    rotate_left 1
    · intro u hSu
      skip
      go_simp
      first | done | with_reducible rfl
    (try simp only [Act.put, List.setIfInBounds_toArray, List.set_cons_zero, List.set_cons_succ])
    refine wpAnyH_take (i := 1) (oi := { dst := some 17, op := Op.move (Operand.tmp 1), type := 3, pos := "zsortordered.go:14", after := #[], guard := none }) (v := ?_) rfl (by kernel_rfl) (by kernel_rfl) (by kernel_rfl) (fun _ _ _ h => h) (Or.inl ⟨by rfl, ?_⟩) hHeld ?_
    rotate_left 1
    · intro u hSu
      skip
      go_simp
      first | done | with_reducible rfl
    (try simp only [Act.put, List.setIfInBounds_toArray, List.set_cons_zero, List.set_cons_succ])
    refine wpAnyH_take (i := 2) (oi := { dst := some 18, op := Op.binOp BinOp.gtr 3 (Operand.tmp 16) (Operand.tmp 17) 3, type := 4, pos := "zsortordered.go:14", after := #[{ on := 0, ground := Ground.data }, { on := 1, ground := Ground.data }], guard := none }) (v := ?_) rfl (by kernel_rfl) (by kernel_rfl) (by kernel_rfl) (fun _ _ _ h => h) (Or.inl ⟨by rfl, ?_⟩) hHeld ?_
    rotate_left 1
    · intro u hSu
      skip
      go_simp
      first | done | with_reducible rfl
    (try simp only [Act.put, List.setIfInBounds_toArray, List.set_cons_zero, List.set_cons_succ])
    refine wpAnyH_take (i := 3) (oi := { dst := some 19, op := Op.move (Operand.tmp 18), type := 4, pos := "zsortordered.go:14", after := #[{ on := 2, ground := Ground.data }], guard := none }) (v := ?_) rfl (by kernel_rfl) (by kernel_rfl) (by kernel_rfl) (fun _ _ _ h => h) (Or.inl ⟨by rfl, ?_⟩) hHeld ?_
    rotate_left 1
    · intro u hSu
      skip
      go_simp
      first | done | with_reducible rfl
    (try simp only [Act.put, List.setIfInBounds_toArray, List.set_cons_zero, List.set_cons_succ])
    refine wpAnyH_take (i := 4) (oi := { dst := some 20, op := Op.move (Operand.tmp 0), type := 22, pos := "zsortordered.go:14", after := #[{ on := 3, ground := Ground.guard }], guard := some (3, true) }) (v := undef) rfl (by kernel_rfl) (by kernel_rfl) (by kernel_rfl) (fun _ _ _ h => h) (Or.inr ⟨by rfl, rfl⟩) hHeld ?_
    (try simp only [Act.put, List.setIfInBounds_toArray, List.set_cons_zero, List.set_cons_succ])
    refine wpAnyH_take (i := 5) (oi := { dst := some 21, op := Op.move (Operand.tmp 7), type := 3, pos := "zsortordered.go:14", after := #[{ on := 3, ground := Ground.guard }], guard := some (3, true) }) (v := undef) rfl (by kernel_rfl) (by kernel_rfl) (by kernel_rfl) (fun _ _ _ h => h) (Or.inr ⟨by rfl, rfl⟩) hHeld ?_
    (try simp only [Act.put, List.setIfInBounds_toArray, List.set_cons_zero, List.set_cons_succ])
    refine wpAnyH_take (i := 6) (oi := { dst := some 22, op := Op.indexAddr 22 (Operand.tmp 20) (Operand.tmp 21), type := 0, pos := "zsortordered.go:14", after := #[{ on := 4, ground := Ground.data }, { on := 5, ground := Ground.data }, { on := 3, ground := Ground.guard }], guard := some (3, true) }) (v := undef) rfl (by kernel_rfl) (by kernel_rfl) (by kernel_rfl) (fun _ _ _ h => h) (Or.inr ⟨by rfl, rfl⟩) hHeld ?_
    (try simp only [Act.put, List.setIfInBounds_toArray, List.set_cons_zero, List.set_cons_succ])
    refine wpAnyH_take (i := 7) (oi := { dst := some 23, op := Op.load 3 (Operand.tmp 22), type := 3, pos := "zsortordered.go:14", after := #[{ on := 6, ground := Ground.data }, { on := 3, ground := Ground.guard }], guard := some (3, true) }) (v := undef) rfl (by kernel_rfl) (by kernel_rfl) (by kernel_rfl) (fun _ _ _ h => h) (Or.inr ⟨by rfl, rfl⟩) hHeld ?_
    (try simp only [Act.put, List.setIfInBounds_toArray, List.set_cons_zero, List.set_cons_succ])
    refine wpAnyH_take (i := 8) (oi := { dst := some 24, op := Op.move (Operand.tmp 0), type := 22, pos := "zsortordered.go:14", after := #[{ on := 3, ground := Ground.guard }], guard := some (3, true) }) (v := undef) rfl (by kernel_rfl) (by kernel_rfl) (by kernel_rfl) (fun _ _ _ h => h) (Or.inr ⟨by rfl, rfl⟩) hHeld ?_
    (try simp only [Act.put, List.setIfInBounds_toArray, List.set_cons_zero, List.set_cons_succ])
    refine wpAnyH_take (i := 9) (oi := { dst := some 25, op := Op.move (Operand.tmp 7), type := 3, pos := "zsortordered.go:14", after := #[{ on := 3, ground := Ground.guard }], guard := some (3, true) }) (v := undef) rfl (by kernel_rfl) (by kernel_rfl) (by kernel_rfl) (fun _ _ _ h => h) (Or.inr ⟨by rfl, rfl⟩) hHeld ?_
    (try simp only [Act.put, List.setIfInBounds_toArray, List.set_cons_zero, List.set_cons_succ])
    refine wpAnyH_take (i := 10) (oi := { dst := some 26, op := Op.binOp BinOp.sub 3 (Operand.tmp 25) (Operand.const (Value.int IntKind.i64 1)) 3, type := 3, pos := "zsortordered.go:14", after := #[{ on := 9, ground := Ground.data }, { on := 3, ground := Ground.guard }], guard := some (3, true) }) (v := undef) rfl (by kernel_rfl) (by kernel_rfl) (by kernel_rfl) (fun _ _ _ h => h) (Or.inr ⟨by rfl, rfl⟩) hHeld ?_
    (try simp only [Act.put, List.setIfInBounds_toArray, List.set_cons_zero, List.set_cons_succ])
    refine wpAnyH_take (i := 11) (oi := { dst := some 27, op := Op.indexAddr 22 (Operand.tmp 24) (Operand.tmp 26), type := 0, pos := "zsortordered.go:14", after := #[{ on := 8, ground := Ground.data }, { on := 10, ground := Ground.data }, { on := 3, ground := Ground.guard }], guard := some (3, true) }) (v := undef) rfl (by kernel_rfl) (by kernel_rfl) (by kernel_rfl) (fun _ _ _ h => h) (Or.inr ⟨by rfl, rfl⟩) hHeld ?_
    (try simp only [Act.put, List.setIfInBounds_toArray, List.set_cons_zero, List.set_cons_succ])
    refine wpAnyH_take (i := 12) (oi := { dst := some 28, op := Op.load 3 (Operand.tmp 27), type := 3, pos := "zsortordered.go:14", after := #[{ on := 11, ground := Ground.data }, { on := 3, ground := Ground.guard }], guard := some (3, true) }) (v := undef) rfl (by kernel_rfl) (by kernel_rfl) (by kernel_rfl) (fun _ _ _ h => h) (Or.inr ⟨by rfl, rfl⟩) hHeld ?_
    (try simp only [Act.put, List.setIfInBounds_toArray, List.set_cons_zero, List.set_cons_succ])
    refine wpAnyH_take (i := 13) (oi := { dst := some 29, op := Op.call { callee := Callee.value (Operand.func 111), args := #[Operand.tmp 23, Operand.tmp 28], argTypes := #[3, 3] }, type := 4, pos := "zsortordered.go:14", after := #[{ on := 7, ground := Ground.data }, { on := 12, ground := Ground.data }, { on := 3, ground := Ground.chain }, { on := 3, ground := Ground.guard }], guard := some (3, true) }) (v := undef) rfl (by kernel_rfl) (by kernel_rfl) (by kernel_rfl) (fun _ _ _ h => h) (Or.inr ⟨by rfl, rfl⟩) hHeld ?_
    (try simp only [Act.put, List.setIfInBounds_toArray, List.set_cons_zero, List.set_cons_succ])
    refine wpAnyH_take (i := 14) (oi := { dst := some 30, op := Op.pick (Operand.tmp 19) (Operand.tmp 29) (Operand.const (Value.bool false)), type := 4, pos := "zsortordered.go:14", after := #[{ on := 3, ground := Ground.data }, { on := 13, ground := Ground.data }], guard := none }) (v := ?_) rfl (by kernel_rfl) (by kernel_rfl) (by kernel_rfl) (fun _ _ _ h => h) (Or.inl ⟨by rfl, ?_⟩) hHeld ?_
    rotate_left 1
    · intro u hSu
      skip
      go_simp
      first | done | with_reducible rfl
    (try simp only [Act.put, List.setIfInBounds_toArray, List.set_cons_zero, List.set_cons_succ])
    refine wpAnyH_done (by kernel_rfl) ?_ _
    clear hHeld
    go_wp2_with fail
    exact ⟨⟨i + 1, by omega, Or.inl (by omega), congrArg _ (by omega), d, H⟩, by simp only [intOf]; omega⟩
  · obtain ⟨j, rfl⟩ : ∃ k, j = k + 1 := ⟨j - 1, by omega⟩
    have hcast : ((j + 1 : Nat) : Int) = (j : Int) + 1 := by omega
    have hj1 : j + 1 < n := by omega
    have hj0 : j < n := by omega
    have ew1 : ((j : Int) + 1 - 1) = (j : Int) := by omega
    have ew3 : IntKind.i64.wrap (j : Int) = (j : Int) := IntWalk.i64_in _ (by omega)
    have i0 : (0 : Int) ≤ (j : Int) := by omega
    have i1 : (0 : Int) ≤ (j : Int) + 1 := by omega
    have i2 : (j : Int) < (n : Int) := by omega
    have i3 : (j : Int) + 1 < (n : Int) := by omega
    have i4 : ((j : Int) + 1).toNat = j + 1 := by omega
    have i5 : (0 : Int) < (j : Int) + 1 := by omega
    rw [hcast]
    obtain ⟨x, hx⟩ : ∃ x, d.getD (j + 1) 0 = x := ⟨_, rfl⟩
    obtain ⟨y, hy⟩ : ∃ y, d.getD j 0 = y := ⟨_, rfl⟩
    have HX := Lib.hid (And.intro hx hy)
    have SD := Lib.hid K.out.1.drew
    clear hx hy
    by_cases hxy : x < y
    · go_upto_region 4 with fail
      refine wp_region_held_drew (S := fun w' => Hid (SK w base g c n l d w')) (by kernel_rfl) (SD) (fun hHeld => ?_)
      refine wpAnyH_take (i := 0) (oi := { dst := some 16, op := Op.move (Operand.tmp 7), type := 3, pos := "zsortordered.go:14", after := #[], guard := none }) (v := ?_) rfl (by kernel_rfl) (by kernel_rfl) (by kernel_rfl) (fun _ _ _ h => h) (Or.inl ⟨by rfl, ?_⟩) hHeld ?_
      rotate_left 1
      · intro u hSu
        have y0 := hSu.out.at_ hj1
        have y1 := hSu.out.at_ hj0
        rw [HX.out.1] at y0
        rw [HX.out.2] at y1
        go_simp
        first | done | with_reducible rfl
      (try simp only [Act.put, List.setIfInBounds_toArray, List.set_cons_zero, List.set_cons_succ])
      refine wpAnyH_take (i := 1) (oi := { dst := some 17, op := Op.move (Operand.tmp 1), type := 3, pos := "zsortordered.go:14", after := #[], guard := none }) (v := ?_) rfl (by kernel_rfl) (by kernel_rfl) (by kernel_rfl) (fun _ _ _ h => h) (Or.inl ⟨by rfl, ?_⟩) hHeld ?_
      rotate_left 1
      · intro u hSu
        have y0 := hSu.out.at_ hj1
        have y1 := hSu.out.at_ hj0
        rw [HX.out.1] at y0
        rw [HX.out.2] at y1
        go_simp
        first | done | with_reducible rfl
      (try simp only [Act.put, List.setIfInBounds_toArray, List.set_cons_zero, List.set_cons_succ])
      refine wpAnyH_take (i := 2) (oi := { dst := some 18, op := Op.binOp BinOp.gtr 3 (Operand.tmp 16) (Operand.tmp 17) 3, type := 4, pos := "zsortordered.go:14", after := #[{ on := 0, ground := Ground.data }, { on := 1, ground := Ground.data }], guard := none }) (v := ?_) rfl (by kernel_rfl) (by kernel_rfl) (by kernel_rfl) (fun _ _ _ h => h) (Or.inl ⟨by rfl, ?_⟩) hHeld ?_
      rotate_left 1
      · intro u hSu
        have y0 := hSu.out.at_ hj1
        have y1 := hSu.out.at_ hj0
        rw [HX.out.1] at y0
        rw [HX.out.2] at y1
        go_simp
        first | done | with_reducible rfl
      (try simp only [Act.put, List.setIfInBounds_toArray, List.set_cons_zero, List.set_cons_succ])
      refine wpAnyH_take (i := 3) (oi := { dst := some 19, op := Op.move (Operand.tmp 18), type := 4, pos := "zsortordered.go:14", after := #[{ on := 2, ground := Ground.data }], guard := none }) (v := ?_) rfl (by kernel_rfl) (by kernel_rfl) (by kernel_rfl) (fun _ _ _ h => h) (Or.inl ⟨by rfl, ?_⟩) hHeld ?_
      rotate_left 1
      · intro u hSu
        have y0 := hSu.out.at_ hj1
        have y1 := hSu.out.at_ hj0
        rw [HX.out.1] at y0
        rw [HX.out.2] at y1
        go_simp
        first | done | with_reducible rfl
      (try simp only [Act.put, List.setIfInBounds_toArray, List.set_cons_zero, List.set_cons_succ])
      refine wpAnyH_take (i := 4) (oi := { dst := some 20, op := Op.move (Operand.tmp 0), type := 22, pos := "zsortordered.go:14", after := #[{ on := 3, ground := Ground.guard }], guard := some (3, true) }) (v := ?_) rfl (by kernel_rfl) (by kernel_rfl) (by kernel_rfl) (fun _ _ _ h => h) (Or.inl ⟨by rfl, ?_⟩) hHeld ?_
      rotate_left 1
      · intro u hSu
        have y0 := hSu.out.at_ hj1
        have y1 := hSu.out.at_ hj0
        rw [HX.out.1] at y0
        rw [HX.out.2] at y1
        go_simp
        first | done | with_reducible rfl
      (try simp only [Act.put, List.setIfInBounds_toArray, List.set_cons_zero, List.set_cons_succ])
      refine wpAnyH_take (i := 5) (oi := { dst := some 21, op := Op.move (Operand.tmp 7), type := 3, pos := "zsortordered.go:14", after := #[{ on := 3, ground := Ground.guard }], guard := some (3, true) }) (v := ?_) rfl (by kernel_rfl) (by kernel_rfl) (by kernel_rfl) (fun _ _ _ h => h) (Or.inl ⟨by rfl, ?_⟩) hHeld ?_
      rotate_left 1
      · intro u hSu
        have y0 := hSu.out.at_ hj1
        have y1 := hSu.out.at_ hj0
        rw [HX.out.1] at y0
        rw [HX.out.2] at y1
        go_simp
        first | done | with_reducible rfl
      (try simp only [Act.put, List.setIfInBounds_toArray, List.set_cons_zero, List.set_cons_succ])
      refine wpAnyH_take (i := 6) (oi := { dst := some 22, op := Op.indexAddr 22 (Operand.tmp 20) (Operand.tmp 21), type := 0, pos := "zsortordered.go:14", after := #[{ on := 4, ground := Ground.data }, { on := 5, ground := Ground.data }, { on := 3, ground := Ground.guard }], guard := some (3, true) }) (v := ?_) rfl (by kernel_rfl) (by kernel_rfl) (by kernel_rfl) (fun _ _ _ h => h) (Or.inl ⟨by rfl, ?_⟩) hHeld ?_
      rotate_left 1
      · intro u hSu
        have y0 := hSu.out.at_ hj1
        have y1 := hSu.out.at_ hj0
        rw [HX.out.1] at y0
        rw [HX.out.2] at y1
        go_simp
        first | done | with_reducible rfl
      (try simp only [Act.put, List.setIfInBounds_toArray, List.set_cons_zero, List.set_cons_succ])
      refine wpAnyH_take (i := 7) (oi := { dst := some 23, op := Op.load 3 (Operand.tmp 22), type := 3, pos := "zsortordered.go:14", after := #[{ on := 6, ground := Ground.data }, { on := 3, ground := Ground.guard }], guard := some (3, true) }) (v := ?_) rfl (by kernel_rfl) (by kernel_rfl) (by kernel_rfl) (fun _ _ _ h => h) (Or.inl ⟨by rfl, ?_⟩) hHeld ?_
      rotate_left 1
      · intro u hSu
        have y0 := hSu.out.at_ hj1
        have y1 := hSu.out.at_ hj0
        rw [HX.out.1] at y0
        rw [HX.out.2] at y1
        go_simp
        first | done | with_reducible rfl
      (try simp only [Act.put, List.setIfInBounds_toArray, List.set_cons_zero, List.set_cons_succ])
      refine wpAnyH_take (i := 8) (oi := { dst := some 24, op := Op.move (Operand.tmp 0), type := 22, pos := "zsortordered.go:14", after := #[{ on := 3, ground := Ground.guard }], guard := some (3, true) }) (v := ?_) rfl (by kernel_rfl) (by kernel_rfl) (by kernel_rfl) (fun _ _ _ h => h) (Or.inl ⟨by rfl, ?_⟩) hHeld ?_
      rotate_left 1
      · intro u hSu
        have y0 := hSu.out.at_ hj1
        have y1 := hSu.out.at_ hj0
        rw [HX.out.1] at y0
        rw [HX.out.2] at y1
        go_simp
        first | done | with_reducible rfl
      (try simp only [Act.put, List.setIfInBounds_toArray, List.set_cons_zero, List.set_cons_succ])
      refine wpAnyH_take (i := 9) (oi := { dst := some 25, op := Op.move (Operand.tmp 7), type := 3, pos := "zsortordered.go:14", after := #[{ on := 3, ground := Ground.guard }], guard := some (3, true) }) (v := ?_) rfl (by kernel_rfl) (by kernel_rfl) (by kernel_rfl) (fun _ _ _ h => h) (Or.inl ⟨by rfl, ?_⟩) hHeld ?_
      rotate_left 1
      · intro u hSu
        have y0 := hSu.out.at_ hj1
        have y1 := hSu.out.at_ hj0
        rw [HX.out.1] at y0
        rw [HX.out.2] at y1
        go_simp
        first | done | with_reducible rfl
      (try simp only [Act.put, List.setIfInBounds_toArray, List.set_cons_zero, List.set_cons_succ])
      refine wpAnyH_take (i := 10) (oi := { dst := some 26, op := Op.binOp BinOp.sub 3 (Operand.tmp 25) (Operand.const (Value.int IntKind.i64 1)) 3, type := 3, pos := "zsortordered.go:14", after := #[{ on := 9, ground := Ground.data }, { on := 3, ground := Ground.guard }], guard := some (3, true) }) (v := ?_) rfl (by kernel_rfl) (by kernel_rfl) (by kernel_rfl) (fun _ _ _ h => h) (Or.inl ⟨by rfl, ?_⟩) hHeld ?_
      rotate_left 1
      · intro u hSu
        have y0 := hSu.out.at_ hj1
        have y1 := hSu.out.at_ hj0
        rw [HX.out.1] at y0
        rw [HX.out.2] at y1
        go_simp
        first | done | with_reducible rfl
      (try simp only [Act.put, List.setIfInBounds_toArray, List.set_cons_zero, List.set_cons_succ])
      refine wpAnyH_take (i := 11) (oi := { dst := some 27, op := Op.indexAddr 22 (Operand.tmp 24) (Operand.tmp 26), type := 0, pos := "zsortordered.go:14", after := #[{ on := 8, ground := Ground.data }, { on := 10, ground := Ground.data }, { on := 3, ground := Ground.guard }], guard := some (3, true) }) (v := ?_) rfl (by kernel_rfl) (by kernel_rfl) (by kernel_rfl) (fun _ _ _ h => h) (Or.inl ⟨by rfl, ?_⟩) hHeld ?_
      rotate_left 1
      · intro u hSu
        have y0 := hSu.out.at_ hj1
        have y1 := hSu.out.at_ hj0
        rw [HX.out.1] at y0
        rw [HX.out.2] at y1
        go_simp
        first | done | with_reducible rfl
      (try simp only [Act.put, List.setIfInBounds_toArray, List.set_cons_zero, List.set_cons_succ])
      refine wpAnyH_take (i := 12) (oi := { dst := some 28, op := Op.load 3 (Operand.tmp 27), type := 3, pos := "zsortordered.go:14", after := #[{ on := 11, ground := Ground.data }, { on := 3, ground := Ground.guard }], guard := some (3, true) }) (v := ?_) rfl (by kernel_rfl) (by kernel_rfl) (by kernel_rfl) (fun _ _ _ h => h) (Or.inl ⟨by rfl, ?_⟩) hHeld ?_
      rotate_left 1
      · intro u hSu
        have y0 := hSu.out.at_ hj1
        have y1 := hSu.out.at_ hj0
        rw [HX.out.1] at y0
        rw [HX.out.2] at y1
        go_simp
        first | done | with_reducible rfl
      (try simp only [Act.put, List.setIfInBounds_toArray, List.set_cons_zero, List.set_cons_succ])
      refine wpAnyH_ready (rs := [13]) (by kernel_rfl) (by simp) ?_
      refine AllReadyH.cons (o := { dst := some 29, op := Op.call { callee := Callee.value (Operand.func 111), args := #[Operand.tmp 23, Operand.tmp 28], argTypes := #[3, 3] }, type := 4, pos := "zsortordered.go:14", after := #[{ on := 7, ground := Ground.data }, { on := 12, ground := Ground.data }, { on := 3, ground := Ground.chain }, { on := 3, ground := Ground.guard }], guard := some (3, true) }) rfl (fun K hK => ?_) AllReadyH.nil
      go_simp
      go_at_call 111
      refine (tless_any x y _).mono ?_
      rintro e w' ⟨rfl, rfl⟩
      refine hK.out _ _ (hHeld) (fun hH2 => ?_)
      clear hK K hHeld
      have hHeld := hH2
      clear hH2
      (try simp only [Act.put, List.setIfInBounds_toArray, List.set_cons_zero, List.set_cons_succ])
      refine wpAnyH_take (i := 14) (oi := { dst := some 30, op := Op.pick (Operand.tmp 19) (Operand.tmp 29) (Operand.const (Value.bool false)), type := 4, pos := "zsortordered.go:14", after := #[{ on := 3, ground := Ground.data }, { on := 13, ground := Ground.data }], guard := none }) (v := ?_) rfl (by kernel_rfl) (by kernel_rfl) (by kernel_rfl) (fun _ _ _ h => h) (Or.inl ⟨by rfl, ?_⟩) hHeld ?_
      rotate_left 1
      · intro u hSu
        have y0 := hSu.out.at_ hj1
        have y1 := hSu.out.at_ hj0
        rw [HX.out.1] at y0
        rw [HX.out.2] at y1
        go_simp
        first | done | with_reducible rfl
      (try simp only [Act.put, List.setIfInBounds_toArray, List.set_cons_zero, List.set_cons_succ])
      refine wpAnyH_done (by kernel_rfl) ?_ _
      have SE := hHeld
      clear hHeld
      rw [decide_eq_true hxy]
      have y0 := K.out.1.at_ hj1
      have y1 := K.out.1.at_ hj0
      rw [HX.out.1] at y0
      rw [HX.out.2] at y1
      have z0 := K.out.1.own.frozenAt (j + 1)
      have z1 := K.out.1.own.frozenAt j
      go_upto_region 6 with fail
      have SW : Hid (SK w base g c n l (swp d j) ((wr.setCell ⟨g, j + 1, none⟩ (.int .i64 y)).setCell ⟨g, j, none⟩ (.int .i64 x)).drew.drew ∧ almS (swp d j) i j) := Lib.hid ⟨by have h := K.out.1.swap hj1; rw [HX.out.1, HX.out.2] at h; exact h.drew.drew, swp_alm (by omega) (by have := K.out.1.len; omega) K.out.2 (by rw [HX.out.1, HX.out.2]; exact hxy)⟩
      clear K SE
      go_region_law fail
      all_goals
        clear y0 y1 z0 z1
        go_wp2_with fail
        exact ⟨⟨j, by omega, rfl, swp d j, SW⟩, by simp only [intOf]; omega⟩
    · have hnd : decide (x < y) = false := decide_eq_false hxy
      have H := FIN.out (Lib.hid (Or.inr (by show d.getD j 0 ≤ d.getD (j + 1) 0; rw [HX.out.1, HX.out.2]; omega)))
      clear FIN
      go_upto_region 4 with fail
      refine wp_region_held_drew (S := fun w' => Hid (SK w base g c n l d w')) (by kernel_rfl) (SD) (fun hHeld => ?_)
      refine wpAnyH_take (i := 0) (oi := { dst := some 16, op := Op.move (Operand.tmp 7), type := 3, pos := "zsortordered.go:14", after := #[], guard := none }) (v := ?_) rfl (by kernel_rfl) (by kernel_rfl) (by kernel_rfl) (fun _ _ _ h => h) (Or.inl ⟨by rfl, ?_⟩) hHeld ?_
      rotate_left 1
      · intro u hSu
        have y0 := hSu.out.at_ hj1
        have y1 := hSu.out.at_ hj0
        rw [HX.out.1] at y0
        rw [HX.out.2] at y1
        go_simp
        first | done | with_reducible rfl
      (try simp only [Act.put, List.setIfInBounds_toArray, List.set_cons_zero, List.set_cons_succ])
      refine wpAnyH_take (i := 1) (oi := { dst := some 17, op := Op.move (Operand.tmp 1), type := 3, pos := "zsortordered.go:14", after := #[], guard := none }) (v := ?_) rfl (by kernel_rfl) (by kernel_rfl) (by kernel_rfl) (fun _ _ _ h => h) (Or.inl ⟨by rfl, ?_⟩) hHeld ?_
      rotate_left 1
      · intro u hSu
        have y0 := hSu.out.at_ hj1
        have y1 := hSu.out.at_ hj0
        rw [HX.out.1] at y0
        rw [HX.out.2] at y1
        go_simp
        first | done | with_reducible rfl
      (try simp only [Act.put, List.setIfInBounds_toArray, List.set_cons_zero, List.set_cons_succ])
      refine wpAnyH_take (i := 2) (oi := { dst := some 18, op := Op.binOp BinOp.gtr 3 (Operand.tmp 16) (Operand.tmp 17) 3, type := 4, pos := "zsortordered.go:14", after := #[{ on := 0, ground := Ground.data }, { on := 1, ground := Ground.data }], guard := none }) (v := ?_) rfl (by kernel_rfl) (by kernel_rfl) (by kernel_rfl) (fun _ _ _ h => h) (Or.inl ⟨by rfl, ?_⟩) hHeld ?_
      rotate_left 1
      · intro u hSu
        have y0 := hSu.out.at_ hj1
        have y1 := hSu.out.at_ hj0
        rw [HX.out.1] at y0
        rw [HX.out.2] at y1
        go_simp
        first | done | with_reducible rfl
      (try simp only [Act.put, List.setIfInBounds_toArray, List.set_cons_zero, List.set_cons_succ])
      refine wpAnyH_take (i := 3) (oi := { dst := some 19, op := Op.move (Operand.tmp 18), type := 4, pos := "zsortordered.go:14", after := #[{ on := 2, ground := Ground.data }], guard := none }) (v := ?_) rfl (by kernel_rfl) (by kernel_rfl) (by kernel_rfl) (fun _ _ _ h => h) (Or.inl ⟨by rfl, ?_⟩) hHeld ?_
      rotate_left 1
      · intro u hSu
        have y0 := hSu.out.at_ hj1
        have y1 := hSu.out.at_ hj0
        rw [HX.out.1] at y0
        rw [HX.out.2] at y1
        go_simp
        first | done | with_reducible rfl
      (try simp only [Act.put, List.setIfInBounds_toArray, List.set_cons_zero, List.set_cons_succ])
      refine wpAnyH_take (i := 4) (oi := { dst := some 20, op := Op.move (Operand.tmp 0), type := 22, pos := "zsortordered.go:14", after := #[{ on := 3, ground := Ground.guard }], guard := some (3, true) }) (v := ?_) rfl (by kernel_rfl) (by kernel_rfl) (by kernel_rfl) (fun _ _ _ h => h) (Or.inl ⟨by rfl, ?_⟩) hHeld ?_
      rotate_left 1
      · intro u hSu
        have y0 := hSu.out.at_ hj1
        have y1 := hSu.out.at_ hj0
        rw [HX.out.1] at y0
        rw [HX.out.2] at y1
        go_simp
        first | done | with_reducible rfl
      (try simp only [Act.put, List.setIfInBounds_toArray, List.set_cons_zero, List.set_cons_succ])
      refine wpAnyH_take (i := 5) (oi := { dst := some 21, op := Op.move (Operand.tmp 7), type := 3, pos := "zsortordered.go:14", after := #[{ on := 3, ground := Ground.guard }], guard := some (3, true) }) (v := ?_) rfl (by kernel_rfl) (by kernel_rfl) (by kernel_rfl) (fun _ _ _ h => h) (Or.inl ⟨by rfl, ?_⟩) hHeld ?_
      rotate_left 1
      · intro u hSu
        have y0 := hSu.out.at_ hj1
        have y1 := hSu.out.at_ hj0
        rw [HX.out.1] at y0
        rw [HX.out.2] at y1
        go_simp
        first | done | with_reducible rfl
      (try simp only [Act.put, List.setIfInBounds_toArray, List.set_cons_zero, List.set_cons_succ])
      refine wpAnyH_take (i := 6) (oi := { dst := some 22, op := Op.indexAddr 22 (Operand.tmp 20) (Operand.tmp 21), type := 0, pos := "zsortordered.go:14", after := #[{ on := 4, ground := Ground.data }, { on := 5, ground := Ground.data }, { on := 3, ground := Ground.guard }], guard := some (3, true) }) (v := ?_) rfl (by kernel_rfl) (by kernel_rfl) (by kernel_rfl) (fun _ _ _ h => h) (Or.inl ⟨by rfl, ?_⟩) hHeld ?_
      rotate_left 1
      · intro u hSu
        have y0 := hSu.out.at_ hj1
        have y1 := hSu.out.at_ hj0
        rw [HX.out.1] at y0
        rw [HX.out.2] at y1
        go_simp
        first | done | with_reducible rfl
      (try simp only [Act.put, List.setIfInBounds_toArray, List.set_cons_zero, List.set_cons_succ])
      refine wpAnyH_take (i := 7) (oi := { dst := some 23, op := Op.load 3 (Operand.tmp 22), type := 3, pos := "zsortordered.go:14", after := #[{ on := 6, ground := Ground.data }, { on := 3, ground := Ground.guard }], guard := some (3, true) }) (v := ?_) rfl (by kernel_rfl) (by kernel_rfl) (by kernel_rfl) (fun _ _ _ h => h) (Or.inl ⟨by rfl, ?_⟩) hHeld ?_
      rotate_left 1
      · intro u hSu
        have y0 := hSu.out.at_ hj1
        have y1 := hSu.out.at_ hj0
        rw [HX.out.1] at y0
        rw [HX.out.2] at y1
        go_simp
        first | done | with_reducible rfl
      (try simp only [Act.put, List.setIfInBounds_toArray, List.set_cons_zero, List.set_cons_succ])
      refine wpAnyH_take (i := 8) (oi := { dst := some 24, op := Op.move (Operand.tmp 0), type := 22, pos := "zsortordered.go:14", after := #[{ on := 3, ground := Ground.guard }], guard := some (3, true) }) (v := ?_) rfl (by kernel_rfl) (by kernel_rfl) (by kernel_rfl) (fun _ _ _ h => h) (Or.inl ⟨by rfl, ?_⟩) hHeld ?_
      rotate_left 1
      · intro u hSu
        have y0 := hSu.out.at_ hj1
        have y1 := hSu.out.at_ hj0
        rw [HX.out.1] at y0
        rw [HX.out.2] at y1
        go_simp
        first | done | with_reducible rfl
      (try simp only [Act.put, List.setIfInBounds_toArray, List.set_cons_zero, List.set_cons_succ])
      refine wpAnyH_take (i := 9) (oi := { dst := some 25, op := Op.move (Operand.tmp 7), type := 3, pos := "zsortordered.go:14", after := #[{ on := 3, ground := Ground.guard }], guard := some (3, true) }) (v := ?_) rfl (by kernel_rfl) (by kernel_rfl) (by kernel_rfl) (fun _ _ _ h => h) (Or.inl ⟨by rfl, ?_⟩) hHeld ?_
      rotate_left 1
      · intro u hSu
        have y0 := hSu.out.at_ hj1
        have y1 := hSu.out.at_ hj0
        rw [HX.out.1] at y0
        rw [HX.out.2] at y1
        go_simp
        first | done | with_reducible rfl
      (try simp only [Act.put, List.setIfInBounds_toArray, List.set_cons_zero, List.set_cons_succ])
      refine wpAnyH_take (i := 10) (oi := { dst := some 26, op := Op.binOp BinOp.sub 3 (Operand.tmp 25) (Operand.const (Value.int IntKind.i64 1)) 3, type := 3, pos := "zsortordered.go:14", after := #[{ on := 9, ground := Ground.data }, { on := 3, ground := Ground.guard }], guard := some (3, true) }) (v := ?_) rfl (by kernel_rfl) (by kernel_rfl) (by kernel_rfl) (fun _ _ _ h => h) (Or.inl ⟨by rfl, ?_⟩) hHeld ?_
      rotate_left 1
      · intro u hSu
        have y0 := hSu.out.at_ hj1
        have y1 := hSu.out.at_ hj0
        rw [HX.out.1] at y0
        rw [HX.out.2] at y1
        go_simp
        first | done | with_reducible rfl
      (try simp only [Act.put, List.setIfInBounds_toArray, List.set_cons_zero, List.set_cons_succ])
      refine wpAnyH_take (i := 11) (oi := { dst := some 27, op := Op.indexAddr 22 (Operand.tmp 24) (Operand.tmp 26), type := 0, pos := "zsortordered.go:14", after := #[{ on := 8, ground := Ground.data }, { on := 10, ground := Ground.data }, { on := 3, ground := Ground.guard }], guard := some (3, true) }) (v := ?_) rfl (by kernel_rfl) (by kernel_rfl) (by kernel_rfl) (fun _ _ _ h => h) (Or.inl ⟨by rfl, ?_⟩) hHeld ?_
      rotate_left 1
      · intro u hSu
        have y0 := hSu.out.at_ hj1
        have y1 := hSu.out.at_ hj0
        rw [HX.out.1] at y0
        rw [HX.out.2] at y1
        go_simp
        first | done | with_reducible rfl
      (try simp only [Act.put, List.setIfInBounds_toArray, List.set_cons_zero, List.set_cons_succ])
      refine wpAnyH_take (i := 12) (oi := { dst := some 28, op := Op.load 3 (Operand.tmp 27), type := 3, pos := "zsortordered.go:14", after := #[{ on := 11, ground := Ground.data }, { on := 3, ground := Ground.guard }], guard := some (3, true) }) (v := ?_) rfl (by kernel_rfl) (by kernel_rfl) (by kernel_rfl) (fun _ _ _ h => h) (Or.inl ⟨by rfl, ?_⟩) hHeld ?_
      rotate_left 1
      · intro u hSu
        have y0 := hSu.out.at_ hj1
        have y1 := hSu.out.at_ hj0
        rw [HX.out.1] at y0
        rw [HX.out.2] at y1
        go_simp
        first | done | with_reducible rfl
      (try simp only [Act.put, List.setIfInBounds_toArray, List.set_cons_zero, List.set_cons_succ])
      refine wpAnyH_ready (rs := [13]) (by kernel_rfl) (by simp) ?_
      refine AllReadyH.cons (o := { dst := some 29, op := Op.call { callee := Callee.value (Operand.func 111), args := #[Operand.tmp 23, Operand.tmp 28], argTypes := #[3, 3] }, type := 4, pos := "zsortordered.go:14", after := #[{ on := 7, ground := Ground.data }, { on := 12, ground := Ground.data }, { on := 3, ground := Ground.chain }, { on := 3, ground := Ground.guard }], guard := some (3, true) }) rfl (fun K hK => ?_) AllReadyH.nil
      go_simp
      go_at_call 111
      refine (tless_any x y _).mono ?_
      rintro e w' ⟨rfl, rfl⟩
      refine hK.out _ _ (hHeld) (fun hH2 => ?_)
      clear hK K hHeld
      have hHeld := hH2
      clear hH2
      (try simp only [Act.put, List.setIfInBounds_toArray, List.set_cons_zero, List.set_cons_succ])
      refine wpAnyH_take (i := 14) (oi := { dst := some 30, op := Op.pick (Operand.tmp 19) (Operand.tmp 29) (Operand.const (Value.bool false)), type := 4, pos := "zsortordered.go:14", after := #[{ on := 3, ground := Ground.data }, { on := 13, ground := Ground.data }], guard := none }) (v := ?_) rfl (by kernel_rfl) (by kernel_rfl) (by kernel_rfl) (fun _ _ _ h => h) (Or.inl ⟨by rfl, ?_⟩) hHeld ?_
      rotate_left 1
      · intro u hSu
        have y0 := hSu.out.at_ hj1
        have y1 := hSu.out.at_ hj0
        rw [HX.out.1] at y0
        rw [HX.out.2] at y1
        go_simp
        first | done | with_reducible rfl
      (try simp only [Act.put, List.setIfInBounds_toArray, List.set_cons_zero, List.set_cons_succ])
      refine wpAnyH_done (by kernel_rfl) ?_ _
      have H2 := H _ hHeld
      clear hHeld H
      rw [hnd]
      go_wp2_with fail
      exact ⟨⟨i + 1, by omega, Or.inl (by omega), congrArg _ (by omega), d, H2⟩, by simp only [intOf]; omega⟩
end Go.Proofs.Ytiencdgmnkphjaa

/- slices.Sort of at most twelve numbers. -/
namespace Go.Proofs.Ytiencdgmnkphjaa
open Go.RowKit Bs
def SomeI (w : World) (e : Ending) (w' : World) : Prop := ∃ k : Int, e = .returned (.int .i64 k) ∧ w = w'
set_option maxRecDepth 100000 in
set_option maxHeartbeats 3200000 in
theorem tlen64_any (n : Nat) (hn : n ≤ 12) (w : World) : Calls Try.prog 115 #[.int .u64 (n : Int)] w fun e w' => SomeI w e w' := by
  rcases (show n = 0 ∨ n = 1 ∨ n = 2 ∨ n = 3 ∨ n = 4 ∨ n = 5 ∨ n = 6 ∨ n = 7 ∨ n = 8 ∨ n = 9 ∨ n = 10 ∨ n = 11 ∨ n = 12 by omega) with rfl | rfl | rfl | rfl | rfl | rfl | rfl | rfl | rfl | rfl | rfl | rfl | rfl
  all_goals
    go_enter Try.func115, Try.ntmps115
    go_wp2_with fail
    go_ret
    exact ⟨_, rfl, rfl⟩
set_option maxRecDepth 100000 in
set_option maxHeartbeats 3200000 in
theorem tlen_any (n : Nat) (hn : n ≤ 12) (w : World) : Calls Try.prog 100 #[.int .u64 (n : Int)] w fun e w' => SomeI w e w' := by
  go_enter Try.func100, Try.ntmps100
  go_wp2_with fail
  refine (tlen64_any n hn w).mono ?_
  rintro e w' ⟨k, rfl, rfl⟩
  go_wp2_with fail
  go_ret
  exact ⟨k, rfl, rfl⟩
set_option maxRecDepth 100000 in
set_option maxHeartbeats 3200000 in
theorem tpdq_any (base g c n : Nat) (l : List Int) (k : Int) (w : World) (hO : w.ownsRow base 3 1 (.slice (some ⟨g, 0, none⟩) n c) n (l.map tv)) (hl : l.length = n) (hn : n ≤ 12) :
    Calls Try.prog 99 #[.slice (some ⟨g, 0, none⟩) n c, .int .i64 0, .int .i64 (n : Int), .int .i64 k] w fun e w' => SrtPost base g c n l w e w' := by
  have C := tins_any base g c n l w hO hl hn
  have HC := Lib.hid C
  clear C hO hl
  have h12 : (n : Int) ≤ 12 := by omega
  go_enter Try.func99, Try.ntmps99
  go_wp2_with fail
  refine wp_loop_rounds 1 ?_
  rw [rounds_succ]
  go_wp2_with fail
  refine HC.out.mono ?_
  rintro e w' ⟨d, hd, rfl⟩
  go_wp2_with fail
  exact bodyPost_ret (results_none rfl _ _ _) rfl ⟨d, hd, rfl⟩
set_option maxRecDepth 100000 in
set_option maxHeartbeats 3200000 in
theorem tsort_any (base g c n : Nat) (l : List Int) (w : World) (hO : w.ownsRow base 3 1 (.slice (some ⟨g, 0, none⟩) n c) n (l.map tv)) (hl : l.length = n) (hn : n ≤ 12) :
    Calls Try.prog 84 #[.slice (some ⟨g, 0, none⟩) n c] w fun e w' => SrtPost base g c n l w e w' := by
  have HC := Lib.hid (fun k => tpdq_any base g c n l k w hO hl hn)
  clear hO hl
  have hz : IntKind.u64.wrap (n : Int) = (n : Int) := by rw [IntKind.wrap_u64]; omega
  go_enter Try.func84, Try.ntmps84
  go_wp2_with fail
  refine (tlen_any n hn w).mono ?_
  rintro e w' ⟨k, rfl, rfl⟩
  go_wp2_with fail
  refine (HC.out k).mono ?_
  rintro e w' ⟨d, hd, rfl⟩
  go_wp2_with fail
  first | exact bodyPost_end (results_none rfl _ _ _) rfl ⟨d, hd, rfl⟩ | exact bodyPost_ret (results_none rfl _ _ _) rfl ⟨d, hd, rfl⟩
/-- Insertion sort, as a function. -/
def insI (x : Int) : List Int → List Int
  | [] => [x]
  | y :: l => if x ≤ y then x :: y :: l else y :: insI x l
def srt : List Int → List Int
  | [] => []
  | x :: l => insI x (srt l)
theorem insI_perm (x : Int) : ∀ l, (insI x l).Perm (x :: l)
  | [] => List.Perm.refl _
  | y :: l => by
    rw [insI]
    split
    · exact List.Perm.refl _
    · exact ((insI_perm x l).cons y).trans (List.Perm.swap x y l)
theorem srt_perm : ∀ l, (srt l).Perm l
  | [] => List.Perm.refl _
  | x :: l => (insI_perm x _).trans ((srt_perm l).cons x)
theorem insI_sorted (x : Int) : ∀ l : List Int, l.Pairwise (· ≤ ·) → (insI x l).Pairwise (· ≤ ·)
  | [], _ => by simp [insI]
  | y :: l, h => by
    rw [insI]
    split
    · rename_i hxy
      rw [List.pairwise_cons]
      refine ⟨fun z hz => ?_, h⟩
      rcases List.mem_cons.1 hz with rfl | hz
      · exact hxy
      · exact Int.le_trans hxy ((List.pairwise_cons.1 h).1 z hz)
    · rename_i hxy
      rw [List.pairwise_cons]
      refine ⟨fun z hz => ?_, insI_sorted x l (List.pairwise_cons.1 h).2⟩
      have := (insI_perm x l).mem_iff.1 hz
      rcases List.mem_cons.1 this with rfl | hz
      · omega
      · exact (List.pairwise_cons.1 h).1 z hz
theorem srt_sorted : ∀ l, (srt l).Pairwise (· ≤ ·)
  | [] => List.Pairwise.nil
  | x :: l => insI_sorted x _ (srt_sorted l)
theorem sorted_unique : ∀ l m : List Int, l.Pairwise (· ≤ ·) → m.Pairwise (· ≤ ·) → l.Perm m → l = m
  | [], m, _, _, h => (List.Perm.nil_eq h)
  | x :: l, [], _, _, h => by have := h.length_eq; simp at this
  | x :: l, y :: m, h1, h2, h => by
    have hx : x ∈ y :: m := h.mem_iff.1 List.mem_cons_self
    have hy : y ∈ x :: l := h.mem_iff.2 List.mem_cons_self
    have e : x = y := by
      rcases List.mem_cons.1 hx with e | hx
      · exact e
      · rcases List.mem_cons.1 hy with e | hy
        · exact e.symm
        · have a := (List.pairwise_cons.1 h1).1 y hy
          have b := (List.pairwise_cons.1 h2).1 x hx
          omega
    subst e
    rw [sorted_unique l m (List.pairwise_cons.1 h1).2 (List.pairwise_cons.1 h2).2 (List.Perm.cons_inv h)]
theorem toS_pairwise {d : List Int} (h : toS d d.length) : d.Pairwise (· ≤ ·) := by
  rw [List.pairwise_iff_getElem]
  intro i j hi hj hij
  have := h i j hij hj
  rw [List.getD_eq_getElem?_getD, List.getD_eq_getElem?_getD, List.getElem?_eq_getElem hi, List.getElem?_eq_getElem hj] at this
  exact this
theorem srt_of {l d : List Int} (h1 : d.Perm l) (h2 : toS d d.length) : d = srt l := sorted_unique _ _ (toS_pairwise h2) (srt_sorted l) (h1.trans (srt_perm l).symm)
end Go.Proofs.Ytiencdgmnkphjaa

/- topology: what Components' join visits; what memory holds while it runs. -/
namespace Go.Proofs.Ytiencdgmnkphjaa
open Go.RowKit Bs
/-- The routers that are visited from r on, behind those that are visited already. -/
def dfs (L : List Lk) : Nat → Int → List Int → List Int
  | 0, _, S => S
  | k + 1, r, S => (nbL L r).foldl (fun S n => if hasI S n then S else dfs L k n S) (S ++ [r])
def dstep (L : List Lk) (k : Nat) (S : List Int) (n : Int) : List Int := if hasI S n then S else dfs L k n S
theorem dfs_succ (L : List Lk) (k : Nat) (r : Int) (S : List Int) : dfs L (k + 1) r S = (nbL L r).foldl (dstep L k) (S ++ [r]) := rfl
theorem dstep_ext (L : List Lk) (k : Nat) (h : ∀ r S, ∃ T, dfs L k r S = S ++ T) (S : List Int) (n : Int) : ∃ T, dstep L k S n = S ++ T := by
  unfold dstep
  split
  · exact ⟨[], by simp⟩
  · exact h n S
theorem fold_ext {f : List Int → Int → List Int} (h : ∀ S n, ∃ T, f S n = S ++ T) : ∀ (N : List Int) (S : List Int), ∃ T, N.foldl f S = S ++ T
  | [], S => ⟨[], by simp⟩
  | n :: N, S => by
    obtain ⟨T, hT⟩ := h S n
    obtain ⟨U, hU⟩ := fold_ext h N (f S n)
    exact ⟨T ++ U, by rw [List.foldl_cons, hU, hT, List.append_assoc]⟩
theorem dfs_ext (L : List Lk) : ∀ (k : Nat) (r : Int) (S : List Int), ∃ T, dfs L k r S = S ++ T
  | 0, _, S => ⟨[], by simp [dfs]⟩
  | k + 1, r, S => by
    obtain ⟨T, hT⟩ := fold_ext (dstep_ext L k (dfs_ext L k)) (nbL L r) (S ++ [r])
    exact ⟨[r] ++ T, by rw [dfs_succ, hT, List.append_assoc]⟩
theorem hasI_app (S T : List Int) (x : Int) : hasI (S ++ T) x = (hasI S x || hasI T x) := by
  unfold hasI
  rw [List.any_append]
/-- How many of the numbers are not visited. -/
def notS (S : List Int) (i : Nat) : Bool := !hasI S (i : Int)
def uns (S : List Int) : Nat := (List.range 100).countP (notS S)
theorem notS_app (S T : List Int) (i : Nat) (h : notS (S ++ T) i = true) : notS S i = true := by
  unfold notS at *
  rw [hasI_app] at h
  cases h1 : hasI S (i : Int)
  · rfl
  · rw [h1] at h; simp at h
theorem count_le {p q : Nat → Bool} (h : ∀ i, q i = true → p i = true) : ∀ l : List Nat, l.countP q ≤ l.countP p
  | [] => Nat.le_refl _
  | a :: l => by
    have h1 := count_le h l
    rw [List.countP_cons, List.countP_cons]
    have h2 := h a
    cases hq : q a
    · simp; omega
    · rw [h2 hq]; simp; omega
theorem count_lt {p q : Nat → Bool} (h : ∀ i, q i = true → p i = true) {n : Nat} (hp : p n = true) (hq : q n = false) : ∀ l : List Nat, n ∈ l → l.countP q + 1 ≤ l.countP p
  | [], hn => by cases hn
  | a :: l, hn => by
    rw [List.countP_cons, List.countP_cons]
    rcases List.mem_cons.1 hn with e | hn
    · subst e
      rw [hp, hq]
      have := count_le h l
      simp; omega
    · have h1 := count_lt h hp hq l hn
      have h2 := h a
      cases hqa : q a
      · simp; omega
      · rw [h2 hqa]; simp; omega
theorem uns_app (S T : List Int) : uns (S ++ T) ≤ uns S :=
  count_le (notS_app S T) _
theorem uns_snoc {S : List Int} {n : Nat} (hn : n < 100) (h : hasI S (n : Int) = false) : uns (S ++ [(n : Int)]) + 1 ≤ uns S :=
  count_lt (notS_app S [(n : Int)]) (n := n) (by unfold notS; rw [h]; rfl) (by unfold notS; rw [hasI_app]; unfold hasI; simp) _ (by simpa using hn)
theorem uns_pos {S : List Int} {n : Nat} (hn : n < 100) (h : hasI S (n : Int) = false) : 0 < uns S := by
  have := uns_snoc hn h
  omega
/-- The cells that note who is visited. -/
def sn (S : List Int) : List Value := (List.range 100).map fun i : Nat => .bool (hasI S (i : Int))
theorem sn_at {S : List Int} {i : Nat} (hi : i < 100) : (sn S)[i]? = some (.bool (hasI S (i : Int))) := by
  unfold sn
  rw [List.getElem?_map, List.getElem?_eq_getElem (by simpa using hi), List.getElem_range]; rfl
theorem sn_snoc {S : List Int} {n : Nat} (hn : n < 100) : (sn S).set n (.bool true) = sn (S ++ [(n : Int)]) := by
  apply List.ext_getElem?
  intro i
  rw [List.getElem?_set]
  have hl : (sn S).length = 100 := by unfold sn; simp
  by_cases hi : i < 100
  · rw [sn_at hi, sn_at hi, hasI_app]
    have h1 : hasI [(n : Int)] (i : Int) = decide ((n : Int) = (i : Int)) := by unfold hasI; simp
    rw [h1]
    by_cases e : n = i
    · subst e
      rw [if_pos rfl, if_pos (by omega), decide_eq_true rfl, Bool.or_true]
    · rw [if_neg e]
      have : decide ((n : Int) = (i : Int)) = false := decide_eq_false (by omega)
      rw [this, Bool.or_false]
  · have e1 : (sn (S ++ [(n : Int)]))[i]? = none := List.getElem?_eq_none (by unfold sn; simp; omega)
    have e2 : (sn S)[i]? = none := List.getElem?_eq_none (by omega)
    rw [e1, e2, if_neg (by omega)]
/-- What a world keeps of another while a component grows: block H+1 is the component's slot, H+2 the array. -/
structure JF (H : Nat) (w : World) (vc : Value) (w' : World) (vc' : Value) : Prop where
  os : w'.os = w.os
  tape : w'.tape = w.tape
  output : w'.output = w.output
  size : w.heap.size ≤ w'.heap.size
  block : ∀ b, b < w.heap.size → b ≠ H + 1 → b ≠ H + 2 → vc.ownBlock ≠ some b → w'.heap[b]? = w.heap[b]?
  row : vc'.ownBlock = vc.ownBlock ∨ ∃ g, vc'.ownBlock = some g ∧ w.heap.size ≤ g
theorem JF.refl (H : Nat) (w : World) (vc : Value) : JF H w vc w vc := ⟨rfl, rfl, rfl, Nat.le_refl _, fun _ _ _ _ _ => rfl, .inl rfl⟩
theorem JF.trans {H : Nat} {w w1 w2 : World} {v v1 v2 : Value} (h : JF H w v w1 v1) (k : JF H w1 v1 w2 v2) : JF H w v w2 v2 := by
  refine ⟨k.os.trans h.os, k.tape.trans h.tape, k.output.trans h.output, Nat.le_trans h.size k.size, fun b hb h1 h2 h3 => ?_, ?_⟩
  · refine (k.block b (Nat.lt_of_lt_of_le hb h.size) h1 h2 (fun e => ?_)).trans (h.block b hb h1 h2 h3)
    rcases h.row with hr | ⟨g, hr, hg⟩
    · exact h3 (hr ▸ e)
    · rw [hr] at e
      have := Option.some.inj e
      omega
  · rcases k.row with hr | ⟨g, hr, hg⟩
    · rw [hr]; exact h.row
    · exact .inr ⟨g, hr, Nat.le_trans h.size hg⟩
theorem JF.grown {H : Nat} {w w1 : World} (v : Value) (g : w.grownBy w1 none) : JF H w v w1 v := ⟨g.os, g.tape, g.output, g.size, fun b hb _ _ _ => g.block b hb (by simp), .inl rfl⟩
theorem JF.to {H : Nat} {w w1 : World} {v v1 : Value} (h : JF H w v w1 v1) (w0 : World) (g : w0.grownBy w none) (h0 : w0.heap.size ≤ H) (hv : ∀ g, v.ownBlock = some g → H ≤ g) : w0.grownBy w1 none :=
  ⟨h.os.trans g.os, h.tape.trans g.tape, h.output.trans g.output, Nat.le_trans g.size h.size, fun b hb _ => (h.block b (Nat.lt_of_lt_of_le hb g.size) (by omega) (by omega) (fun e => by have := hv b e; omega)).trans (g.block b hb (by simp))⟩
theorem Rd.jf {H : Nat} {w w1 : World} {v v1 x : Value} {q : Nat → Prop} {vs : List Value} (hr : Rd w q x vs) (h : JF H w v w1 v1) (hq : ∀ b, q b → b < w.heap.size → b ≠ H + 1 ∧ b ≠ H + 2 ∧ v.ownBlock ≠ some b) : Rd w1 q x vs := by
  obtain ⟨p, c, hv, hc⟩ := hr
  refine ⟨p, c, hv, fun hne => ?_⟩
  obtain ⟨b, off, hp, hb, hx⟩ := hc hne
  refine ⟨b, off, hp, hb, fun i x hi => ?_⟩
  have hcell := hx i x hi
  have hlt : b < w.heap.size := by
    rcases Nat.lt_or_ge b w.heap.size with h1 | h1
    · exact h1
    · unfold World.cell? at hcell
      rw [Array.getElem?_eq_none h1] at hcell
      cases hcell
  obtain ⟨h1, h2, h3⟩ := hq b hb hlt
  rw [World.cell?_of_block (h.block b hlt h1 h2 h3)]
  exact hcell
theorem RdF.jf {H : Nat} {w w1 : World} {v v1 x : Value} {q : Nat → Prop} {n : Nat} {vs : List Value} (hr : RdF w q x n vs) (h : JF H w v w1 v1) (hq : ∀ b, q b → b < w.heap.size → b ≠ H + 1 ∧ b ≠ H + 2 ∧ v.ownBlock ≠ some b) : RdF w1 q x n vs := by
  obtain ⟨p, c, hv, hc⟩ := hr
  refine ⟨p, c, hv, fun hne => ?_⟩
  obtain ⟨b, off, hp, hb, hx⟩ := hc hne
  refine ⟨b, off, hp, hb, fun i x hi => ?_⟩
  have hcell := hx i x hi
  have hlt : b < w.heap.size := by
    rcases Nat.lt_or_ge b w.heap.size with h1 | h1
    · exact h1
    · unfold World.cell? at hcell
      rw [Array.getElem?_eq_none h1] at hcell
      cases hcell
  obtain ⟨h1, h2, h3⟩ := hq b hb hlt
  rw [World.cell?_of_block (h.block b hlt h1 h2 h3)]
  exact hcell
abbrev pt (b : Nat) : Value := .pointer (some ⟨b, 0, none⟩)
abbrev jfn (t H : Nat) : Value := .func (.func (83)) #[] #[pt (H + 2), pt (H + 1), pt t, pt (H + 3)]
/-- While the components are found: S is visited, from place d on the component at hand. -/
structure JS (t H d : Nat) (vR vL : Value) (L : List Lk) (S : List Int) (vc : Value) (w : World) : Prop where
  topo : w.heap[t]? = some (.cells #[vR, vL] 26 (0, 0))
  comp : w.heap[H + 1]? = some (.cells #[vc] 22 (0, 0))
  seen : TRow w (H + 2) 101 (sn S)
  jf : w.heap[H + 3]? = some (.cells #[jfn t H] 102 (0, 0))
  own : w.ownsRow (H + 4) 3 1 vc (S.drop d).length ((S.drop d).map tv)
  lnk : RdL5 w (· < H) vL L
  size : H + 4 ≤ w.heap.size
  fit : S.length + uns S ≤ 100
  d : d ≤ S.length
  tle : t ≤ H
end Go.Proofs.Ytiencdgmnkphjaa

/- topology: what memory keeps while a component grows. -/
namespace Go.Proofs.Ytiencdgmnkphjaa
open Go.RowKit Bs
theorem JS.vc {t H d : Nat} {vR vL vc : Value} {L : List Lk} {S : List Int} {w : World} (h : JS t H d vR vL L S vc w) : ∀ b, vc.ownBlock = some b → H + 4 ≤ b ∧ b < w.heap.size := h.own.lt
theorem JS.keep {t H d : Nat} {vR vL vc : Value} {L : List Lk} {S : List Int} {w w' : World} (h : JS t H d vR vL L S vc w) (g : w.grownBy w' none) : JS t H d vR vL L S vc w' :=
  ⟨kept_row h.topo g (by simp), kept_row h.comp g (by simp), h.seen.kept g (by simp), kept_row h.jf g (by simp), h.own.kept g (by cases hv : vc.ownBlock <;> simp), h.lnk.keep g, Nat.le_trans h.size g.size, h.fit, h.d, h.tle⟩
theorem JS.comp1 {t H d : Nat} {vR vL vc : Value} {L : List Lk} {S : List Int} {w w1 : World} {n : Nat} {u : Value} {o : Obj} (h : JS t H d vR vL L S vc w) (hg : ((w.setCell ⟨H + 2, n, none⟩ u).alloc o).grownBy w1 vc.ownBlock) :
    w1.heap[H + 1]? = some (.cells #[vc] 22 (0, 0)) := by
  have k1 := grown_setCell w ⟨H + 2, n, none⟩ u
  have k2 := World.grownBy_alloc (w.setCell ⟨H + 2, n, none⟩ u) o none
  refine kept_row (kept_row (kept_row h.comp k1 (fun e => ?_)) k2 (by simp)) hg (fun e => ?_)
  · have : H + 1 = H + 2 := Option.some.inj e
    omega
  · have := (h.vc _ e.symm).1
    omega
theorem JS.add {t H d : Nat} {vR vL vc : Value} {L : List Lk} {S : List Int} {w w1 : World} {n g cap : Nat} {o : Obj} (h : JS t H d vR vL L S vc w) (hn : n < 100) (hu : hasI S (n : Int) = false)
    (hown : w1.ownsRow (H + 4) 3 1 (.slice (some ⟨g, 0, none⟩) ((S.drop d).length + 1) cap) ((S.drop d).length + 1) ((S.drop d).map tv ++ [.int .i64 (n : Int)]))
    (hg : ((w.setCell ⟨H + 2, n, none⟩ (.bool true)).alloc o).grownBy w1 vc.ownBlock)
    (hat : vc.ownBlock = some g ∨ g = ((w.setCell ⟨H + 2, n, none⟩ (.bool true)).alloc o).heap.size) :
    JS t H d vR vL L (S ++ [(n : Int)]) (.slice (some ⟨g, 0, none⟩) ((S.drop d).length + 1) cap) (w1.setCell ⟨H + 1, 0, none⟩ (.slice (some ⟨g, 0, none⟩) ((S.drop d).length + 1) cap)) ∧
    JF H w vc (w1.setCell ⟨H + 1, 0, none⟩ (.slice (some ⟨g, 0, none⟩) ((S.drop d).length + 1) cap)) (.slice (some ⟨g, 0, none⟩) ((S.drop d).length + 1) cap) := by
  have c1 := h.comp1 hg
  have htl := h.tle
  obtain ⟨v', hv'⟩ : ∃ v', Value.slice (some ⟨g, 0, none⟩) ((S.drop d).length + 1) cap = v' := ⟨_, rfl⟩
  have ho' : v'.ownBlock = some g := by rw [← hv']; rfl
  rw [hv'] at hown ⊢
  have k1 := grown_setCell w ⟨H + 2, n, none⟩ (.bool true)
  have k2 := World.grownBy_alloc (w.setCell ⟨H + 2, n, none⟩ (.bool true)) o none
  have k4 := grown_setCell w1 ⟨H + 1, 0, none⟩ v'
  have hs1 := k1.size
  have hs2 := k2.size
  have hs3 := hg.size
  have hs4 := k4.size
  have hne : ∀ b, b < H + 4 → some b ≠ vc.ownBlock := fun b hb e => by
    have := (h.vc b e.symm).1
    omega
  have hgb := (hown.lt g ho').1
  have sb : ∀ (b c : Nat), b ≠ c → some b ≠ some c := fun b c h e => h (Option.some.inj e)
  have F : JF H w vc (w1.setCell ⟨H + 1, 0, none⟩ v') v' := by
    refine ⟨?_, ?_, ?_, by omega, fun b hb h1 h2 h3 => ?_, ?_⟩
    · exact k4.os.trans (hg.os.trans (k2.os.trans k1.os))
    · exact k4.tape.trans (hg.tape.trans (k2.tape.trans k1.tape))
    · exact k4.output.trans (hg.output.trans (k2.output.trans k1.output))
    · exact (k4.block b (by omega) (sb _ _ h1)).trans ((hg.block b (by omega) (fun e => h3 e.symm)).trans ((k2.block b (by omega) (by simp)).trans (k1.block b hb (sb _ _ h2))))
    · rcases hat with e | e
      · exact .inl (ho'.trans e.symm)
      · exact .inr ⟨g, ho', by omega⟩
  refine ⟨⟨?_, ?_, ?_, ?_, ?_, ?_, ?_, ?_, ?_, htl⟩, F⟩
  · exact kept_row (kept_row (kept_row (kept_row h.topo k1 (sb _ _ (by show t ≠ H + 2; omega))) k2 (by simp)) hg (hne _ (by omega))) k4 (sb _ _ (by show t ≠ H + 1; omega))
  · have := heap_setCell_same w1 (H + 1) 0 _ _ v' c1
    exact this
  · have h0 := h.seen.set n (.bool true)
    rw [sn_snoc hn] at h0
    exact ((h0.kept k2 (by simp)).kept hg (hne _ (by omega))).kept k4 (sb _ _ (by show H + 2 ≠ H + 1; omega))
  · exact kept_row (kept_row (kept_row (kept_row h.jf k1 (sb _ _ (by show H + 3 ≠ H + 2; omega))) k2 (by simp)) hg (hne _ (by omega))) k4 (sb _ _ (by show H + 3 ≠ H + 1; omega))
  · have e1 : (S ++ [(n : Int)]).drop d = S.drop d ++ [(n : Int)] := List.drop_append_of_le_length h.d
    rw [e1, List.length_append, List.map_append]
    exact hown.kept k4 (.inr (by rw [ho']; exact sb _ _ (by show g ≠ H + 1; omega)))
  · exact RdF.jf h.lnk F (fun b hb _ => ⟨by omega, by omega, fun e => hne b (by omega) e.symm⟩)
  · have := h.size
    omega
  · have h1 := uns_snoc hn hu
    have h2 := h.fit
    rw [List.length_append]
    simp only [List.length_cons, List.length_nil]
    omega
  · have := h.d
    rw [List.length_append]
    omega
theorem nbL_range {L : List Lk} (hL : ∀ l ∈ L, (1 ≤ l.a ∧ l.a ≤ 99) ∧ 1 ≤ l.b ∧ l.b ≤ 99) (x : Int) : ∀ y ∈ nbL L x, 1 ≤ y ∧ y ≤ 99 := by
  intro y hy
  obtain ⟨l, hl, h1⟩ := List.mem_flatMap.1 hy
  have := hL l hl
  unfold nb1 at h1
  rw [List.mem_append] at h1
  rcases h1 with h1 | h1
  · split at h1
    · rw [List.mem_singleton] at h1; subst h1; exact this.1
    · cases h1
  · split at h1
    · rw [List.mem_singleton] at h1; subst h1; exact this.2
    · cases h1
theorem fold_take {f : List Int → Int → List Int} {N : List Int} {j : Nat} {y : Int} (S : List Int) (h : N[j]? = some y) : (N.take (j + 1)).foldl f S = f ((N.take j).foldl f S) y := by
  rw [List.take_add_one, h, List.foldl_append]
  rfl
end Go.Proofs.Ytiencdgmnkphjaa

/- Parts of the proof, packed: ToBs. -/
import Derived.Test.YtiencdgmnkphjaaApl6
import Derived.Deep.CutBlock
/- slices.BinarySearchFunc, for routers and for links. -/
namespace Go.Proofs.Ytiencdgmnkphjaa
open Go.RowKit Bs
/-- Where a binary search ends, by the order's sign. -/
structure BsP {α : Type} (s : α → α → Int) (R : List α) (t : α) (i : Nat) (b : Bool) : Prop where
  le : i ≤ R.length
  lo : ∀ x, 0 < i → R[i - 1]? = some x → s x t < 0
  hi : ∀ x, R[i]? = some x → 0 ≤ s x t
  eq : b = (match R[i]? with | some x => s x t == 0 | none => false)
def BsPost {α : Type} (s : α → α → Int) (R : List α) (t : α) (w : World) (e : Ending) (w' : World) : Prop := ∃ (i : Nat) (b : Bool), e = .returned (.tuple #[.int .i64 (i : Int), .bool b]) ∧ Hid (BsP s R t i b) ∧ w.grownBy w' none
def cvR (x t : Rt) : Int := cmpV x.id t.id
def cvL (x t : Lk) : Int := cmpL x t

set_option maxRecDepth 100000 in
set_option maxHeartbeats 3200000 in
theorem bsR_any (R : List Rt) (t : Rt) (p : Option Addr) (c : Nat) (q : Nat → Prop) (w : World) (hR : RdR w q (.slice p R.length c) R) (hm : R.length ≤ 1000000) :
    Calls Try.prog 93 #[.slice p R.length c, .agg #[.int .i64 t.id, .bool t.cap], .func (.func 56) #[] #[]] w fun e w' => BsPost cvR R t w e w' := by
  have eg : EnterF 56 := enters_of Try.func56 (by kernel_rfl) rfl
  obtain ⟨k1, k2⟩ := tone_box w #[.int .i64 t.id, .bool t.cap] 73
  have HB := Lib.hid (And.intro k1 (And.intro k2 (hR.keep k2)))
  clear k1 k2 hR
  go_enter Try.func93, Try.ntmps93
  go_upto_region 1 with fail
  generalize w.alloc _ = wa at *
  have GZ : Hid (wa.grownBy wa none) := Lib.hid (grown_refl _ _)
  go_wp2_with fail
  go_loopw [9, 10] (fun vi vj wr => ∃ I J : Nat, I ≤ J ∧ J ≤ R.length ∧ vi = .int .i64 (I : Int) ∧ vj = .int .i64 (J : Int) ∧ Hid ((∀ x, 0 < I → R[I - 1]? = some x → cvR x t < 0) ∧ ∀ x, R[J]? = some x → 0 ≤ cvR x t) ∧ Hid (wa.grownBy wr none)) (fun vi vj _ => ((intOf vj) - (intOf vi)).toNat)
  case atStart => exact ⟨0, R.length, Nat.zero_le _, Nat.le_refl _, rfl, rfl, Lib.hid ⟨fun x h => by omega, fun x h => by rw [List.getElem?_eq_none (Nat.le_refl _)] at h; cases h⟩, GZ⟩
  case round =>
  obtain ⟨I, J, hIJ, hJ, rfl, rfl, HI, G⟩ := hrel
  clear GZ
  by_cases hlt : I < J
  · have hlt' : (I : Int) < (J : Int) := by omega
    obtain ⟨h, hh⟩ : ∃ h, (I + J) / 2 = h := ⟨_, rfl⟩
    have h1 : I ≤ h := by omega
    have h2 : h < J := by omega
    have hsum : (I : Int) + (J : Int) ≤ 2000000 := by omega
    go_upto_region 4 with fail
    go_cut [11] from 18 to 23 (fun v wx => v = .int .i64 (h : Int) ∧ wr = wx)
    case first =>
      go_wp2_with fail
      go_meet
      exact ⟨congrArg _ (by omega), rfl⟩
    case rest =>
    obtain ⟨rfl, rfl⟩ := hcut
    clear hh hsum
    obtain ⟨-, b, off, rfl, -, -⟩ := rdr_cells (R := R) (HB.out.2.2.keep G.out) (by omega)
    obtain ⟨y, hy⟩ : ∃ y, R[h]? = some y := ⟨_, List.getElem?_eq_getElem (by omega)⟩
    have HC : ∀ u, Hid (wa.grownBy u none) → u.cell? ⟨b, off + h * 2, none⟩ = some (.int .i64 y.id) ∧ u.cell? ⟨b, off + h * 2 + 1, none⟩ = some (.bool y.cap) := fun u hu => by
      obtain ⟨-, b', off', e, -, hc⟩ := rdr_cells (R := R) (HB.out.2.2.keep hu.out) (by omega)
      injection e with e
      injection e with e4 e5
      subst e4
      subst e5
      exact hc h y hy
    have HCH := Lib.hid HC
    have HY := Lib.hid hy
    have i0 : (0 : Int) ≤ (h : Int) := by omega
    have i1 : (h : Int) < (R.length : Int) := by omega
    obtain ⟨z, hz⟩ : ∃ z, cvR y t = z := ⟨_, rfl⟩
    have HZ := Lib.hid hz
    clear HC hy hz
    go_upto_region 5 with fail
    by_cases hzn : z < 0
    · have hzd : decide (z < 0) = true := decide_eq_true hzn
      refine wp_region_held_drew (S := fun w' => Hid (wa.grownBy w' none)) (by kernel_rfl) (Lib.hid (grown_drew G.out)) (fun hHeld => ?_)
      refine wpAnyH_take (i := 0) (oi := { dst := some 24, op := Op.move (Operand.tmp 2), type := 88, pos := "sort.go:160", after := #[], guard := none }) (v := ?_) rfl (by kernel_rfl) (by kernel_rfl) (by kernel_rfl) (fun _ _ _ h => h) (Or.inl ⟨by rfl, ?_⟩) hHeld ?_
      rotate_left 1
      · intro u hSu
        obtain ⟨q0, q1⟩ := HCH.out _ hSu
        obtain ⟨q5, q6⟩ := rt_facts (kept_row HB.out.1 hSu.out (by simp))
        go_simp
        first | done | with_reducible rfl
      (try simp only [Act.put, List.setIfInBounds_toArray, List.set_cons_zero, List.set_cons_succ])
      refine wpAnyH_take (i := 1) (oi := { dst := some 25, op := Op.move (Operand.tmp 0), type := 23, pos := "sort.go:160", after := #[], guard := none }) (v := ?_) rfl (by kernel_rfl) (by kernel_rfl) (by kernel_rfl) (fun _ _ _ h => h) (Or.inl ⟨by rfl, ?_⟩) hHeld ?_
      rotate_left 1
      · intro u hSu
        obtain ⟨q0, q1⟩ := HCH.out _ hSu
        obtain ⟨q5, q6⟩ := rt_facts (kept_row HB.out.1 hSu.out (by simp))
        go_simp
        first | done | with_reducible rfl
      (try simp only [Act.put, List.setIfInBounds_toArray, List.set_cons_zero, List.set_cons_succ])
      refine wpAnyH_take (i := 2) (oi := { dst := some 26, op := Op.move (Operand.tmp 11), type := 3, pos := "sort.go:160", after := #[], guard := none }) (v := ?_) rfl (by kernel_rfl) (by kernel_rfl) (by kernel_rfl) (fun _ _ _ h => h) (Or.inl ⟨by rfl, ?_⟩) hHeld ?_
      rotate_left 1
      · intro u hSu
        obtain ⟨q0, q1⟩ := HCH.out _ hSu
        obtain ⟨q5, q6⟩ := rt_facts (kept_row HB.out.1 hSu.out (by simp))
        go_simp
        first | done | with_reducible rfl
      (try simp only [Act.put, List.setIfInBounds_toArray, List.set_cons_zero, List.set_cons_succ])
      refine wpAnyH_take (i := 3) (oi := { dst := some 27, op := Op.indexAddr 23 (Operand.tmp 25) (Operand.tmp 26), type := 0, pos := "sort.go:160", after := #[{ on := 1, ground := Ground.data }, { on := 2, ground := Ground.data }], guard := none }) (v := ?_) rfl (by kernel_rfl) (by kernel_rfl) (by kernel_rfl) (fun _ _ _ h => h) (Or.inl ⟨by rfl, ?_⟩) hHeld ?_
      rotate_left 1
      · intro u hSu
        obtain ⟨q0, q1⟩ := HCH.out _ hSu
        obtain ⟨q5, q6⟩ := rt_facts (kept_row HB.out.1 hSu.out (by simp))
        go_simp
        first | done | with_reducible rfl
      (try simp only [Act.put, List.setIfInBounds_toArray, List.set_cons_zero, List.set_cons_succ])
      refine wpAnyH_take (i := 4) (oi := { dst := some 28, op := Op.load 73 (Operand.tmp 27), type := 73, pos := "sort.go:160", after := #[{ on := 3, ground := Ground.data }], guard := none }) (v := ?_) rfl (by kernel_rfl) (by kernel_rfl) (by kernel_rfl) (fun _ _ _ h => h) (Or.inl ⟨by rfl, ?_⟩) hHeld ?_
      rotate_left 1
      · intro u hSu
        obtain ⟨q0, q1⟩ := HCH.out _ hSu
        obtain ⟨q5, q6⟩ := rt_facts (kept_row HB.out.1 hSu.out (by simp))
        go_simp
        first | done | with_reducible rfl
      (try simp only [Act.put, List.setIfInBounds_toArray, List.set_cons_zero, List.set_cons_succ])
      refine wpAnyH_take (i := 5) (oi := { dst := some 29, op := Op.load 73 (Operand.tmp 4), type := 73, pos := "sort.go:160", after := #[], guard := none }) (v := ?_) rfl (by kernel_rfl) (by kernel_rfl) (by kernel_rfl) (fun _ _ _ h => h) (Or.inl ⟨by rfl, ?_⟩) hHeld ?_
      rotate_left 1
      · intro u hSu
        obtain ⟨q0, q1⟩ := HCH.out _ hSu
        obtain ⟨q5, q6⟩ := rt_facts (kept_row HB.out.1 hSu.out (by simp))
        go_simp
        first | done | with_reducible rfl
      (try simp only [Act.put, List.setIfInBounds_toArray, List.set_cons_zero, List.set_cons_succ])
      refine wpAnyH_ready (rs := [6]) (by kernel_rfl) (by simp) ?_
      refine AllReadyH.cons (o := { dst := some 30, op := Op.call { callee := Callee.value (Operand.tmp 24), args := #[Operand.tmp 28, Operand.tmp 29], argTypes := #[73, 73] }, type := 3, pos := "sort.go:160", after := #[{ on := 0, ground := Ground.data }, { on := 4, ground := Ground.data }, { on := 5, ground := Ground.data }], guard := none }) rfl (fun Kz hK => ?_) AllReadyH.nil
      go_simp
      go_at_call 56
      refine (tcmpid_any y t _).mono ?_
      rintro e w5 ⟨rfl, hg⟩
      have hz2 := HZ.out
      unfold cvR at hz2
      rw [hz2]
      clear hz2
      refine hK.out _ _ (Lib.hid (grown_trans hHeld.out hg)) (fun hH2 => ?_)
      clear hK Kz hHeld
      have hHeld := hH2
      clear hH2
      (try simp only [Act.put, List.setIfInBounds_toArray, List.set_cons_zero, List.set_cons_succ])
      refine wpAnyH_take (i := 7) (oi := { dst := some 31, op := Op.binOp BinOp.lss 3 (Operand.tmp 30) (Operand.const (Value.int IntKind.i64 0)) 3, type := 4, pos := "sort.go:160", after := #[{ on := 6, ground := Ground.data }], guard := none }) (v := (.bool true)) rfl (by kernel_rfl) (by kernel_rfl) (by kernel_rfl) (fun _ _ _ h => h) (Or.inl ⟨by rfl, ?_⟩) hHeld ?_
      · intro u hSu
        obtain ⟨q0, q1⟩ := HCH.out _ hSu
        obtain ⟨q5, q6⟩ := rt_facts (kept_row HB.out.1 hSu.out (by simp))
        go_simp
        first | done | with_reducible rfl | (simp [hzd]; done) | exact hzd
      (try simp only [Act.put, List.setIfInBounds_toArray, List.set_cons_zero, List.set_cons_succ])
      refine wpAnyH_done (by kernel_rfl) ?_ _
      have H9 := hHeld
      clear hHeld
      go_wp2_with fail
      exact ⟨⟨h + 1, J, by omega, hJ, congrArg _ (by omega), rfl, Lib.hid ⟨fun x _ hx => by rw [Nat.add_sub_cancel, HY.out] at hx; obtain rfl := Option.some.inj hx; rw [HZ.out]; exact hzn, HI.out.2⟩, H9⟩, by simp only [intOf]; omega⟩
    · have hzd : decide (z < 0) = false := decide_eq_false hzn
      refine wp_region_held_drew (S := fun w' => Hid (wa.grownBy w' none)) (by kernel_rfl) (Lib.hid (grown_drew G.out)) (fun hHeld => ?_)
      refine wpAnyH_take (i := 0) (oi := { dst := some 24, op := Op.move (Operand.tmp 2), type := 88, pos := "sort.go:160", after := #[], guard := none }) (v := ?_) rfl (by kernel_rfl) (by kernel_rfl) (by kernel_rfl) (fun _ _ _ h => h) (Or.inl ⟨by rfl, ?_⟩) hHeld ?_
      rotate_left 1
      · intro u hSu
        obtain ⟨q0, q1⟩ := HCH.out _ hSu
        obtain ⟨q5, q6⟩ := rt_facts (kept_row HB.out.1 hSu.out (by simp))
        go_simp
        first | done | with_reducible rfl
      (try simp only [Act.put, List.setIfInBounds_toArray, List.set_cons_zero, List.set_cons_succ])
      refine wpAnyH_take (i := 1) (oi := { dst := some 25, op := Op.move (Operand.tmp 0), type := 23, pos := "sort.go:160", after := #[], guard := none }) (v := ?_) rfl (by kernel_rfl) (by kernel_rfl) (by kernel_rfl) (fun _ _ _ h => h) (Or.inl ⟨by rfl, ?_⟩) hHeld ?_
      rotate_left 1
      · intro u hSu
        obtain ⟨q0, q1⟩ := HCH.out _ hSu
        obtain ⟨q5, q6⟩ := rt_facts (kept_row HB.out.1 hSu.out (by simp))
        go_simp
        first | done | with_reducible rfl
      (try simp only [Act.put, List.setIfInBounds_toArray, List.set_cons_zero, List.set_cons_succ])
      refine wpAnyH_take (i := 2) (oi := { dst := some 26, op := Op.move (Operand.tmp 11), type := 3, pos := "sort.go:160", after := #[], guard := none }) (v := ?_) rfl (by kernel_rfl) (by kernel_rfl) (by kernel_rfl) (fun _ _ _ h => h) (Or.inl ⟨by rfl, ?_⟩) hHeld ?_
      rotate_left 1
      · intro u hSu
        obtain ⟨q0, q1⟩ := HCH.out _ hSu
        obtain ⟨q5, q6⟩ := rt_facts (kept_row HB.out.1 hSu.out (by simp))
        go_simp
        first | done | with_reducible rfl
      (try simp only [Act.put, List.setIfInBounds_toArray, List.set_cons_zero, List.set_cons_succ])
      refine wpAnyH_take (i := 3) (oi := { dst := some 27, op := Op.indexAddr 23 (Operand.tmp 25) (Operand.tmp 26), type := 0, pos := "sort.go:160", after := #[{ on := 1, ground := Ground.data }, { on := 2, ground := Ground.data }], guard := none }) (v := ?_) rfl (by kernel_rfl) (by kernel_rfl) (by kernel_rfl) (fun _ _ _ h => h) (Or.inl ⟨by rfl, ?_⟩) hHeld ?_
      rotate_left 1
      · intro u hSu
        obtain ⟨q0, q1⟩ := HCH.out _ hSu
        obtain ⟨q5, q6⟩ := rt_facts (kept_row HB.out.1 hSu.out (by simp))
        go_simp
        first | done | with_reducible rfl
      (try simp only [Act.put, List.setIfInBounds_toArray, List.set_cons_zero, List.set_cons_succ])
      refine wpAnyH_take (i := 4) (oi := { dst := some 28, op := Op.load 73 (Operand.tmp 27), type := 73, pos := "sort.go:160", after := #[{ on := 3, ground := Ground.data }], guard := none }) (v := ?_) rfl (by kernel_rfl) (by kernel_rfl) (by kernel_rfl) (fun _ _ _ h => h) (Or.inl ⟨by rfl, ?_⟩) hHeld ?_
      rotate_left 1
      · intro u hSu
        obtain ⟨q0, q1⟩ := HCH.out _ hSu
        obtain ⟨q5, q6⟩ := rt_facts (kept_row HB.out.1 hSu.out (by simp))
        go_simp
        first | done | with_reducible rfl
      (try simp only [Act.put, List.setIfInBounds_toArray, List.set_cons_zero, List.set_cons_succ])
      refine wpAnyH_take (i := 5) (oi := { dst := some 29, op := Op.load 73 (Operand.tmp 4), type := 73, pos := "sort.go:160", after := #[], guard := none }) (v := ?_) rfl (by kernel_rfl) (by kernel_rfl) (by kernel_rfl) (fun _ _ _ h => h) (Or.inl ⟨by rfl, ?_⟩) hHeld ?_
      rotate_left 1
      · intro u hSu
        obtain ⟨q0, q1⟩ := HCH.out _ hSu
        obtain ⟨q5, q6⟩ := rt_facts (kept_row HB.out.1 hSu.out (by simp))
        go_simp
        first | done | with_reducible rfl
      (try simp only [Act.put, List.setIfInBounds_toArray, List.set_cons_zero, List.set_cons_succ])
      refine wpAnyH_ready (rs := [6]) (by kernel_rfl) (by simp) ?_
      refine AllReadyH.cons (o := { dst := some 30, op := Op.call { callee := Callee.value (Operand.tmp 24), args := #[Operand.tmp 28, Operand.tmp 29], argTypes := #[73, 73] }, type := 3, pos := "sort.go:160", after := #[{ on := 0, ground := Ground.data }, { on := 4, ground := Ground.data }, { on := 5, ground := Ground.data }], guard := none }) rfl (fun Kz hK => ?_) AllReadyH.nil
      go_simp
      go_at_call 56
      refine (tcmpid_any y t _).mono ?_
      rintro e w5 ⟨rfl, hg⟩
      have hz2 := HZ.out
      unfold cvR at hz2
      rw [hz2]
      clear hz2
      refine hK.out _ _ (Lib.hid (grown_trans hHeld.out hg)) (fun hH2 => ?_)
      clear hK Kz hHeld
      have hHeld := hH2
      clear hH2
      (try simp only [Act.put, List.setIfInBounds_toArray, List.set_cons_zero, List.set_cons_succ])
      refine wpAnyH_take (i := 7) (oi := { dst := some 31, op := Op.binOp BinOp.lss 3 (Operand.tmp 30) (Operand.const (Value.int IntKind.i64 0)) 3, type := 4, pos := "sort.go:160", after := #[{ on := 6, ground := Ground.data }], guard := none }) (v := (.bool false)) rfl (by kernel_rfl) (by kernel_rfl) (by kernel_rfl) (fun _ _ _ h => h) (Or.inl ⟨by rfl, ?_⟩) hHeld ?_
      · intro u hSu
        obtain ⟨q0, q1⟩ := HCH.out _ hSu
        obtain ⟨q5, q6⟩ := rt_facts (kept_row HB.out.1 hSu.out (by simp))
        go_simp
        first | done | with_reducible rfl | (simp [hzd]; done) | exact hzd
      (try simp only [Act.put, List.setIfInBounds_toArray, List.set_cons_zero, List.set_cons_succ])
      refine wpAnyH_done (by kernel_rfl) ?_ _
      have H9 := hHeld
      clear hHeld
      go_wp2_with fail
      exact ⟨⟨I, h, h1, by omega, rfl, rfl, Lib.hid ⟨HI.out.1, fun x hx => by rw [HY.out] at hx; obtain rfl := Option.some.inj hx; rw [HZ.out]; omega⟩, H9⟩, by simp only [intOf]; omega⟩
  · obtain rfl : I = J := by omega
    have hnl : ¬ ((I : Int) < (I : Int)) := by omega
    by_cases hn : I < R.length
    · obtain ⟨-, b, off, rfl, -, -⟩ := rdr_cells (R := R) (HB.out.2.2.keep G.out) (by omega)
      obtain ⟨y, hy⟩ : ∃ y, R[I]? = some y := ⟨_, List.getElem?_eq_getElem hn⟩
      have HC : ∀ u, Hid (wa.grownBy u none) → u.cell? ⟨b, off + I * 2, none⟩ = some (.int .i64 y.id) ∧ u.cell? ⟨b, off + I * 2 + 1, none⟩ = some (.bool y.cap) := fun u hu => by
        obtain ⟨-, b', off', e, -, hc⟩ := rdr_cells (R := R) (HB.out.2.2.keep hu.out) (by omega)
        injection e with e
        injection e with e4 e5
        subst e4
        subst e5
        exact hc I y hy
      have HCH := Lib.hid HC
      have HY := Lib.hid hy
      have i0 : (0 : Int) ≤ (I : Int) := by omega
      have i1 : (I : Int) < (R.length : Int) := by omega
      obtain ⟨z, hz⟩ : ∃ z, cvR y t = z := ⟨_, rfl⟩
      have HZ := Lib.hid hz
      clear HC hy hz
      go_upto_region 8 with fail
      refine wp_region_held_drew (S := fun w' => Hid (wa.grownBy w' none)) (by kernel_rfl) (Lib.hid (grown_drew G.out)) (fun hHeld => ?_)
      refine wpAnyH_take (i := 0) (oi := { dst := some 35, op := Op.move (Operand.tmp 9), type := 3, pos := "sort.go:167", after := #[], guard := none }) (v := ?_) rfl (by kernel_rfl) (by kernel_rfl) (by kernel_rfl) (fun _ _ _ h => h) (Or.inl ⟨by rfl, ?_⟩) hHeld ?_
      rotate_left 1
      · intro u hSu
        obtain ⟨q0, q1⟩ := HCH.out _ hSu
        obtain ⟨q5, q6⟩ := rt_facts (kept_row HB.out.1 hSu.out (by simp))
        go_simp
        first | done | with_reducible rfl
      (try simp only [Act.put, List.setIfInBounds_toArray, List.set_cons_zero, List.set_cons_succ])
      refine wpAnyH_take (i := 1) (oi := { dst := some 36, op := Op.move (Operand.tmp 9), type := 3, pos := "sort.go:167", after := #[], guard := none }) (v := ?_) rfl (by kernel_rfl) (by kernel_rfl) (by kernel_rfl) (fun _ _ _ h => h) (Or.inl ⟨by rfl, ?_⟩) hHeld ?_
      rotate_left 1
      · intro u hSu
        obtain ⟨q0, q1⟩ := HCH.out _ hSu
        obtain ⟨q5, q6⟩ := rt_facts (kept_row HB.out.1 hSu.out (by simp))
        go_simp
        first | done | with_reducible rfl
      (try simp only [Act.put, List.setIfInBounds_toArray, List.set_cons_zero, List.set_cons_succ])
      refine wpAnyH_take (i := 2) (oi := { dst := some 37, op := Op.move (Operand.tmp 8), type := 3, pos := "sort.go:167", after := #[], guard := none }) (v := ?_) rfl (by kernel_rfl) (by kernel_rfl) (by kernel_rfl) (fun _ _ _ h => h) (Or.inl ⟨by rfl, ?_⟩) hHeld ?_
      rotate_left 1
      · intro u hSu
        obtain ⟨q0, q1⟩ := HCH.out _ hSu
        obtain ⟨q5, q6⟩ := rt_facts (kept_row HB.out.1 hSu.out (by simp))
        go_simp
        first | done | with_reducible rfl
      (try simp only [Act.put, List.setIfInBounds_toArray, List.set_cons_zero, List.set_cons_succ])
      refine wpAnyH_take (i := 3) (oi := { dst := some 38, op := Op.binOp BinOp.lss 3 (Operand.tmp 36) (Operand.tmp 37) 3, type := 4, pos := "sort.go:167", after := #[{ on := 1, ground := Ground.data }, { on := 2, ground := Ground.data }], guard := none }) (v := (.bool true)) rfl (by kernel_rfl) (by kernel_rfl) (by kernel_rfl) (fun _ _ _ h => h) (Or.inl ⟨by rfl, ?_⟩) hHeld ?_
      · intro u hSu
        obtain ⟨q0, q1⟩ := HCH.out _ hSu
        obtain ⟨q5, q6⟩ := rt_facts (kept_row HB.out.1 hSu.out (by simp))
        go_simp
        first | done | with_reducible rfl | (simp; done) | (simp; omega)
      (try simp only [Act.put, List.setIfInBounds_toArray, List.set_cons_zero, List.set_cons_succ])
      refine wpAnyH_take (i := 4) (oi := { dst := some 39, op := Op.move (Operand.tmp 38), type := 4, pos := "sort.go:167", after := #[{ on := 3, ground := Ground.data }], guard := none }) (v := ?_) rfl (by kernel_rfl) (by kernel_rfl) (by kernel_rfl) (fun _ _ _ h => h) (Or.inl ⟨by rfl, ?_⟩) hHeld ?_
      rotate_left 1
      · intro u hSu
        obtain ⟨q0, q1⟩ := HCH.out _ hSu
        obtain ⟨q5, q6⟩ := rt_facts (kept_row HB.out.1 hSu.out (by simp))
        go_simp
        first | done | with_reducible rfl
      (try simp only [Act.put, List.setIfInBounds_toArray, List.set_cons_zero, List.set_cons_succ])
      refine wpAnyH_take (i := 5) (oi := { dst := some 40, op := Op.move (Operand.tmp 2), type := 88, pos := "sort.go:167", after := #[{ on := 4, ground := Ground.guard }], guard := some (4, true) }) (v := ?_) rfl (by kernel_rfl) (by kernel_rfl) (by kernel_rfl) (fun _ _ _ h => h) (Or.inl ⟨by rfl, ?_⟩) hHeld ?_
      rotate_left 1
      · intro u hSu
        obtain ⟨q0, q1⟩ := HCH.out _ hSu
        obtain ⟨q5, q6⟩ := rt_facts (kept_row HB.out.1 hSu.out (by simp))
        go_simp
        first | done | with_reducible rfl
      (try simp only [Act.put, List.setIfInBounds_toArray, List.set_cons_zero, List.set_cons_succ])
      refine wpAnyH_take (i := 6) (oi := { dst := some 41, op := Op.move (Operand.tmp 0), type := 23, pos := "sort.go:167", after := #[{ on := 4, ground := Ground.guard }], guard := some (4, true) }) (v := ?_) rfl (by kernel_rfl) (by kernel_rfl) (by kernel_rfl) (fun _ _ _ h => h) (Or.inl ⟨by rfl, ?_⟩) hHeld ?_
      rotate_left 1
      · intro u hSu
        obtain ⟨q0, q1⟩ := HCH.out _ hSu
        obtain ⟨q5, q6⟩ := rt_facts (kept_row HB.out.1 hSu.out (by simp))
        go_simp
        first | done | with_reducible rfl
      (try simp only [Act.put, List.setIfInBounds_toArray, List.set_cons_zero, List.set_cons_succ])
      refine wpAnyH_take (i := 7) (oi := { dst := some 42, op := Op.move (Operand.tmp 9), type := 3, pos := "sort.go:167", after := #[{ on := 4, ground := Ground.guard }], guard := some (4, true) }) (v := ?_) rfl (by kernel_rfl) (by kernel_rfl) (by kernel_rfl) (fun _ _ _ h => h) (Or.inl ⟨by rfl, ?_⟩) hHeld ?_
      rotate_left 1
      · intro u hSu
        obtain ⟨q0, q1⟩ := HCH.out _ hSu
        obtain ⟨q5, q6⟩ := rt_facts (kept_row HB.out.1 hSu.out (by simp))
        go_simp
        first | done | with_reducible rfl
      (try simp only [Act.put, List.setIfInBounds_toArray, List.set_cons_zero, List.set_cons_succ])
      refine wpAnyH_take (i := 8) (oi := { dst := some 43, op := Op.indexAddr 23 (Operand.tmp 41) (Operand.tmp 42), type := 0, pos := "sort.go:167", after := #[{ on := 6, ground := Ground.data }, { on := 7, ground := Ground.data }, { on := 4, ground := Ground.guard }], guard := some (4, true) }) (v := ?_) rfl (by kernel_rfl) (by kernel_rfl) (by kernel_rfl) (fun _ _ _ h => h) (Or.inl ⟨by rfl, ?_⟩) hHeld ?_
      rotate_left 1
      · intro u hSu
        obtain ⟨q0, q1⟩ := HCH.out _ hSu
        obtain ⟨q5, q6⟩ := rt_facts (kept_row HB.out.1 hSu.out (by simp))
        go_simp
        first | done | with_reducible rfl
      (try simp only [Act.put, List.setIfInBounds_toArray, List.set_cons_zero, List.set_cons_succ])
      refine wpAnyH_take (i := 9) (oi := { dst := some 44, op := Op.load 73 (Operand.tmp 43), type := 73, pos := "sort.go:167", after := #[{ on := 8, ground := Ground.data }, { on := 4, ground := Ground.guard }], guard := some (4, true) }) (v := ?_) rfl (by kernel_rfl) (by kernel_rfl) (by kernel_rfl) (fun _ _ _ h => h) (Or.inl ⟨by rfl, ?_⟩) hHeld ?_
      rotate_left 1
      · intro u hSu
        obtain ⟨q0, q1⟩ := HCH.out _ hSu
        obtain ⟨q5, q6⟩ := rt_facts (kept_row HB.out.1 hSu.out (by simp))
        go_simp
        first | done | with_reducible rfl
      (try simp only [Act.put, List.setIfInBounds_toArray, List.set_cons_zero, List.set_cons_succ])
      refine wpAnyH_take (i := 10) (oi := { dst := some 45, op := Op.load 73 (Operand.tmp 4), type := 73, pos := "sort.go:167", after := #[{ on := 4, ground := Ground.guard }], guard := some (4, true) }) (v := ?_) rfl (by kernel_rfl) (by kernel_rfl) (by kernel_rfl) (fun _ _ _ h => h) (Or.inl ⟨by rfl, ?_⟩) hHeld ?_
      rotate_left 1
      · intro u hSu
        obtain ⟨q0, q1⟩ := HCH.out _ hSu
        obtain ⟨q5, q6⟩ := rt_facts (kept_row HB.out.1 hSu.out (by simp))
        go_simp
        first | done | with_reducible rfl
      (try simp only [Act.put, List.setIfInBounds_toArray, List.set_cons_zero, List.set_cons_succ])
      refine wpAnyH_ready (rs := [11]) (by kernel_rfl) (by simp) ?_
      refine AllReadyH.cons (o := { dst := some 46, op := Op.call { callee := Callee.value (Operand.tmp 40), args := #[Operand.tmp 44, Operand.tmp 45], argTypes := #[73, 73] }, type := 3, pos := "sort.go:167", after := #[{ on := 5, ground := Ground.data }, { on := 9, ground := Ground.data }, { on := 10, ground := Ground.data }, { on := 4, ground := Ground.chain }, { on := 4, ground := Ground.guard }], guard := some (4, true) }) rfl (fun Kz hK => ?_) AllReadyH.nil
      go_simp
      go_at_call 56
      refine (tcmpid_any y t _).mono ?_
      rintro e w5 ⟨rfl, hg⟩
      have hz2 := HZ.out
      unfold cvR at hz2
      rw [hz2]
      clear hz2
      refine hK.out _ _ (Lib.hid (grown_trans hHeld.out hg)) (fun hH2 => ?_)
      clear hK Kz hHeld
      have hHeld := hH2
      clear hH2
      (try simp only [Act.put, List.setIfInBounds_toArray, List.set_cons_zero, List.set_cons_succ])
      refine wpAnyH_take (i := 12) (oi := { dst := some 47, op := Op.binOp BinOp.eql 3 (Operand.tmp 46) (Operand.const (Value.int IntKind.i64 0)) 3, type := 4, pos := "sort.go:167", after := #[{ on := 11, ground := Ground.data }, { on := 4, ground := Ground.guard }, { on := 14, ground := Ground.gcOnly Departure.lateStores }], guard := some (4, true) }) (v := ?_) rfl (by kernel_rfl) (by kernel_rfl) (by kernel_rfl) (fun _ _ _ h => h) (Or.inl ⟨by rfl, ?_⟩) hHeld ?_
      rotate_left 1
      · intro u hSu
        obtain ⟨q0, q1⟩ := HCH.out _ hSu
        obtain ⟨q5, q6⟩ := rt_facts (kept_row HB.out.1 hSu.out (by simp))
        go_simp
        first | done | with_reducible rfl
      (try simp only [Act.put, List.setIfInBounds_toArray, List.set_cons_zero, List.set_cons_succ])
      refine wpAnyH_take (i := 13) (oi := { dst := some 48, op := Op.pick (Operand.tmp 39) (Operand.tmp 47) (Operand.const (Value.bool false)), type := 4, pos := "sort.go:167", after := #[{ on := 4, ground := Ground.data }, { on := 12, ground := Ground.data }, { on := 14, ground := Ground.gcOnly Departure.lateStores }], guard := none }) (v := ?_) rfl (by kernel_rfl) (by kernel_rfl) (by kernel_rfl) (fun _ _ _ h => h) (Or.inl ⟨by rfl, ?_⟩) hHeld ?_
      rotate_left 1
      · intro u hSu
        obtain ⟨q0, q1⟩ := HCH.out _ hSu
        obtain ⟨q5, q6⟩ := rt_facts (kept_row HB.out.1 hSu.out (by simp))
        go_simp
        first | done | with_reducible rfl
      (try simp only [Act.put, List.setIfInBounds_toArray, List.set_cons_zero, List.set_cons_succ])
      refine wpAnyH_take (i := 14) (oi := { dst := some 6, op := Op.assign (Operand.tmp 35), type := 3, pos := "sort.go:167", after := #[{ on := 0, ground := Ground.data }, { on := 11, ground := Ground.chain }, { on := 0, ground := Ground.phase }, { on := 1, ground := Ground.textOnly Departure.lateStores }, { on := 2, ground := Ground.textOnly Departure.lateStores }, { on := 3, ground := Ground.textOnly Departure.lateStores }, { on := 4, ground := Ground.textOnly Departure.lateStores }, { on := 5, ground := Ground.textOnly Departure.lateStores }, { on := 6, ground := Ground.textOnly Departure.lateStores }, { on := 7, ground := Ground.textOnly Departure.lateStores }, { on := 8, ground := Ground.textOnly Departure.lateStores }, { on := 9, ground := Ground.textOnly Departure.lateStores }, { on := 10, ground := Ground.textOnly Departure.lateStores }, { on := 11, ground := Ground.textOnly Departure.lateStoresUnsure }, { on := 12, ground := Ground.textOnly Departure.lateStores }, { on := 13, ground := Ground.textOnly Departure.lateStores }], guard := none }) (v := ?_) rfl (by kernel_rfl) (by kernel_rfl) (by kernel_rfl) (fun _ _ _ h => h) (Or.inl ⟨by rfl, ?_⟩) hHeld ?_
      rotate_left 1
      · intro u hSu
        obtain ⟨q0, q1⟩ := HCH.out _ hSu
        obtain ⟨q5, q6⟩ := rt_facts (kept_row HB.out.1 hSu.out (by simp))
        go_simp
        first | done | with_reducible rfl
      (try simp only [Act.put, List.setIfInBounds_toArray, List.set_cons_zero, List.set_cons_succ])
      refine wpAnyH_take (i := 15) (oi := { dst := some 7, op := Op.assign (Operand.tmp 48), type := 4, pos := "sort.go:167", after := #[{ on := 13, ground := Ground.data }, { on := 14, ground := Ground.chain }, { on := 0, ground := Ground.phase }, { on := 1, ground := Ground.phase }, { on := 2, ground := Ground.phase }, { on := 3, ground := Ground.phase }, { on := 4, ground := Ground.phase }, { on := 5, ground := Ground.phase }, { on := 6, ground := Ground.phase }, { on := 7, ground := Ground.phase }, { on := 8, ground := Ground.phase }, { on := 9, ground := Ground.phase }, { on := 10, ground := Ground.phase }, { on := 11, ground := Ground.phase }, { on := 12, ground := Ground.phase }, { on := 13, ground := Ground.phase }, { on := 14, ground := Ground.phase }], guard := none }) (v := ?_) rfl (by kernel_rfl) (by kernel_rfl) (by kernel_rfl) (fun _ _ _ h => h) (Or.inl ⟨by rfl, ?_⟩) hHeld ?_
      rotate_left 1
      · intro u hSu
        obtain ⟨q0, q1⟩ := HCH.out _ hSu
        obtain ⟨q5, q6⟩ := rt_facts (kept_row HB.out.1 hSu.out (by simp))
        go_simp
        first | done | with_reducible rfl
      (try simp only [Act.put, List.setIfInBounds_toArray, List.set_cons_zero, List.set_cons_succ])
      refine wpAnyH_done (by kernel_rfl) ?_ _
      have H9 := hHeld
      clear hHeld
      go_wp2_with fail
      go_ret2
      refine ⟨I, _, rfl, Lib.hid ⟨hJ, HI.out.1, HI.out.2, ?_⟩, grown_trans HB.out.2.1 H9.out⟩
      rw [HY.out]
      simp only [HZ.out]
      try rfl
    · obtain rfl : I = R.length := by omega
      have hn' : decide ((R.length : Int) < (R.length : Int)) = false := decide_eq_false (by omega)
      go_upto_region 8 with fail
      refine wp_region_held_drew (S := fun w' => Hid (wa.grownBy w' none)) (by kernel_rfl) (Lib.hid (grown_drew G.out)) (fun hHeld => ?_)
      refine wpAnyH_take (i := 0) (oi := { dst := some 35, op := Op.move (Operand.tmp 9), type := 3, pos := "sort.go:167", after := #[], guard := none }) (v := ?_) rfl (by kernel_rfl) (by kernel_rfl) (by kernel_rfl) (fun _ _ _ h => h) (Or.inl ⟨by rfl, ?_⟩) hHeld ?_
      rotate_left 1
      · intro u hSu
        obtain ⟨q5, q6⟩ := rt_facts (kept_row HB.out.1 hSu.out (by simp))
        go_simp
        first | done | with_reducible rfl
      (try simp only [Act.put, List.setIfInBounds_toArray, List.set_cons_zero, List.set_cons_succ])
      refine wpAnyH_take (i := 1) (oi := { dst := some 36, op := Op.move (Operand.tmp 9), type := 3, pos := "sort.go:167", after := #[], guard := none }) (v := ?_) rfl (by kernel_rfl) (by kernel_rfl) (by kernel_rfl) (fun _ _ _ h => h) (Or.inl ⟨by rfl, ?_⟩) hHeld ?_
      rotate_left 1
      · intro u hSu
        obtain ⟨q5, q6⟩ := rt_facts (kept_row HB.out.1 hSu.out (by simp))
        go_simp
        first | done | with_reducible rfl
      (try simp only [Act.put, List.setIfInBounds_toArray, List.set_cons_zero, List.set_cons_succ])
      refine wpAnyH_take (i := 2) (oi := { dst := some 37, op := Op.move (Operand.tmp 8), type := 3, pos := "sort.go:167", after := #[], guard := none }) (v := ?_) rfl (by kernel_rfl) (by kernel_rfl) (by kernel_rfl) (fun _ _ _ h => h) (Or.inl ⟨by rfl, ?_⟩) hHeld ?_
      rotate_left 1
      · intro u hSu
        obtain ⟨q5, q6⟩ := rt_facts (kept_row HB.out.1 hSu.out (by simp))
        go_simp
        first | done | with_reducible rfl
      (try simp only [Act.put, List.setIfInBounds_toArray, List.set_cons_zero, List.set_cons_succ])
      refine wpAnyH_take (i := 3) (oi := { dst := some 38, op := Op.binOp BinOp.lss 3 (Operand.tmp 36) (Operand.tmp 37) 3, type := 4, pos := "sort.go:167", after := #[{ on := 1, ground := Ground.data }, { on := 2, ground := Ground.data }], guard := none }) (v := (.bool false)) rfl (by kernel_rfl) (by kernel_rfl) (by kernel_rfl) (fun _ _ _ h => h) (Or.inl ⟨by rfl, ?_⟩) hHeld ?_
      · intro u hSu
        obtain ⟨q5, q6⟩ := rt_facts (kept_row HB.out.1 hSu.out (by simp))
        go_simp
        first | done | with_reducible rfl | (simp; done) | (simp; omega)
      (try simp only [Act.put, List.setIfInBounds_toArray, List.set_cons_zero, List.set_cons_succ])
      refine wpAnyH_take (i := 4) (oi := { dst := some 39, op := Op.move (Operand.tmp 38), type := 4, pos := "sort.go:167", after := #[{ on := 3, ground := Ground.data }], guard := none }) (v := ?_) rfl (by kernel_rfl) (by kernel_rfl) (by kernel_rfl) (fun _ _ _ h => h) (Or.inl ⟨by rfl, ?_⟩) hHeld ?_
      rotate_left 1
      · intro u hSu
        obtain ⟨q5, q6⟩ := rt_facts (kept_row HB.out.1 hSu.out (by simp))
        go_simp
        first | done | with_reducible rfl
      (try simp only [Act.put, List.setIfInBounds_toArray, List.set_cons_zero, List.set_cons_succ])
      refine wpAnyH_take (i := 5) (oi := { dst := some 40, op := Op.move (Operand.tmp 2), type := 88, pos := "sort.go:167", after := #[{ on := 4, ground := Ground.guard }], guard := some (4, true) }) (v := undef) rfl (by kernel_rfl) (by kernel_rfl) (by kernel_rfl) (fun _ _ _ h => h) (Or.inr ⟨by rfl, rfl⟩) hHeld ?_
      (try simp only [Act.put, List.setIfInBounds_toArray, List.set_cons_zero, List.set_cons_succ])
      refine wpAnyH_take (i := 6) (oi := { dst := some 41, op := Op.move (Operand.tmp 0), type := 23, pos := "sort.go:167", after := #[{ on := 4, ground := Ground.guard }], guard := some (4, true) }) (v := undef) rfl (by kernel_rfl) (by kernel_rfl) (by kernel_rfl) (fun _ _ _ h => h) (Or.inr ⟨by rfl, rfl⟩) hHeld ?_
      (try simp only [Act.put, List.setIfInBounds_toArray, List.set_cons_zero, List.set_cons_succ])
      refine wpAnyH_take (i := 7) (oi := { dst := some 42, op := Op.move (Operand.tmp 9), type := 3, pos := "sort.go:167", after := #[{ on := 4, ground := Ground.guard }], guard := some (4, true) }) (v := undef) rfl (by kernel_rfl) (by kernel_rfl) (by kernel_rfl) (fun _ _ _ h => h) (Or.inr ⟨by rfl, rfl⟩) hHeld ?_
      (try simp only [Act.put, List.setIfInBounds_toArray, List.set_cons_zero, List.set_cons_succ])
      refine wpAnyH_take (i := 8) (oi := { dst := some 43, op := Op.indexAddr 23 (Operand.tmp 41) (Operand.tmp 42), type := 0, pos := "sort.go:167", after := #[{ on := 6, ground := Ground.data }, { on := 7, ground := Ground.data }, { on := 4, ground := Ground.guard }], guard := some (4, true) }) (v := undef) rfl (by kernel_rfl) (by kernel_rfl) (by kernel_rfl) (fun _ _ _ h => h) (Or.inr ⟨by rfl, rfl⟩) hHeld ?_
      (try simp only [Act.put, List.setIfInBounds_toArray, List.set_cons_zero, List.set_cons_succ])
      refine wpAnyH_take (i := 9) (oi := { dst := some 44, op := Op.load 73 (Operand.tmp 43), type := 73, pos := "sort.go:167", after := #[{ on := 8, ground := Ground.data }, { on := 4, ground := Ground.guard }], guard := some (4, true) }) (v := undef) rfl (by kernel_rfl) (by kernel_rfl) (by kernel_rfl) (fun _ _ _ h => h) (Or.inr ⟨by rfl, rfl⟩) hHeld ?_
      (try simp only [Act.put, List.setIfInBounds_toArray, List.set_cons_zero, List.set_cons_succ])
      refine wpAnyH_take (i := 10) (oi := { dst := some 45, op := Op.load 73 (Operand.tmp 4), type := 73, pos := "sort.go:167", after := #[{ on := 4, ground := Ground.guard }], guard := some (4, true) }) (v := undef) rfl (by kernel_rfl) (by kernel_rfl) (by kernel_rfl) (fun _ _ _ h => h) (Or.inr ⟨by rfl, rfl⟩) hHeld ?_
      (try simp only [Act.put, List.setIfInBounds_toArray, List.set_cons_zero, List.set_cons_succ])
      refine wpAnyH_take (i := 11) (oi := { dst := some 46, op := Op.call { callee := Callee.value (Operand.tmp 40), args := #[Operand.tmp 44, Operand.tmp 45], argTypes := #[73, 73] }, type := 3, pos := "sort.go:167", after := #[{ on := 5, ground := Ground.data }, { on := 9, ground := Ground.data }, { on := 10, ground := Ground.data }, { on := 4, ground := Ground.chain }, { on := 4, ground := Ground.guard }], guard := some (4, true) }) (v := undef) rfl (by kernel_rfl) (by kernel_rfl) (by kernel_rfl) (fun _ _ _ h => h) (Or.inr ⟨by rfl, rfl⟩) hHeld ?_
      (try simp only [Act.put, List.setIfInBounds_toArray, List.set_cons_zero, List.set_cons_succ])
      refine wpAnyH_take (i := 12) (oi := { dst := some 47, op := Op.binOp BinOp.eql 3 (Operand.tmp 46) (Operand.const (Value.int IntKind.i64 0)) 3, type := 4, pos := "sort.go:167", after := #[{ on := 11, ground := Ground.data }, { on := 4, ground := Ground.guard }, { on := 14, ground := Ground.gcOnly Departure.lateStores }], guard := some (4, true) }) (v := undef) rfl (by kernel_rfl) (by kernel_rfl) (by kernel_rfl) (fun _ _ _ h => h) (Or.inr ⟨by rfl, rfl⟩) hHeld ?_
      (try simp only [Act.put, List.setIfInBounds_toArray, List.set_cons_zero, List.set_cons_succ])
      refine wpAnyH_take (i := 13) (oi := { dst := some 48, op := Op.pick (Operand.tmp 39) (Operand.tmp 47) (Operand.const (Value.bool false)), type := 4, pos := "sort.go:167", after := #[{ on := 4, ground := Ground.data }, { on := 12, ground := Ground.data }, { on := 14, ground := Ground.gcOnly Departure.lateStores }], guard := none }) (v := ?_) rfl (by kernel_rfl) (by kernel_rfl) (by kernel_rfl) (fun _ _ _ h => h) (Or.inl ⟨by rfl, ?_⟩) hHeld ?_
      rotate_left 1
      · intro u hSu
        obtain ⟨q5, q6⟩ := rt_facts (kept_row HB.out.1 hSu.out (by simp))
        go_simp
        first | done | with_reducible rfl
      (try simp only [Act.put, List.setIfInBounds_toArray, List.set_cons_zero, List.set_cons_succ])
      refine wpAnyH_take (i := 14) (oi := { dst := some 6, op := Op.assign (Operand.tmp 35), type := 3, pos := "sort.go:167", after := #[{ on := 0, ground := Ground.data }, { on := 11, ground := Ground.chain }, { on := 0, ground := Ground.phase }, { on := 1, ground := Ground.textOnly Departure.lateStores }, { on := 2, ground := Ground.textOnly Departure.lateStores }, { on := 3, ground := Ground.textOnly Departure.lateStores }, { on := 4, ground := Ground.textOnly Departure.lateStores }, { on := 5, ground := Ground.textOnly Departure.lateStores }, { on := 6, ground := Ground.textOnly Departure.lateStores }, { on := 7, ground := Ground.textOnly Departure.lateStores }, { on := 8, ground := Ground.textOnly Departure.lateStores }, { on := 9, ground := Ground.textOnly Departure.lateStores }, { on := 10, ground := Ground.textOnly Departure.lateStores }, { on := 11, ground := Ground.textOnly Departure.lateStoresUnsure }, { on := 12, ground := Ground.textOnly Departure.lateStores }, { on := 13, ground := Ground.textOnly Departure.lateStores }], guard := none }) (v := ?_) rfl (by kernel_rfl) (by kernel_rfl) (by kernel_rfl) (fun _ _ _ h => h) (Or.inl ⟨by rfl, ?_⟩) hHeld ?_
      rotate_left 1
      · intro u hSu
        obtain ⟨q5, q6⟩ := rt_facts (kept_row HB.out.1 hSu.out (by simp))
        go_simp
        first | done | with_reducible rfl
      (try simp only [Act.put, List.setIfInBounds_toArray, List.set_cons_zero, List.set_cons_succ])
      refine wpAnyH_take (i := 15) (oi := { dst := some 7, op := Op.assign (Operand.tmp 48), type := 4, pos := "sort.go:167", after := #[{ on := 13, ground := Ground.data }, { on := 14, ground := Ground.chain }, { on := 0, ground := Ground.phase }, { on := 1, ground := Ground.phase }, { on := 2, ground := Ground.phase }, { on := 3, ground := Ground.phase }, { on := 4, ground := Ground.phase }, { on := 5, ground := Ground.phase }, { on := 6, ground := Ground.phase }, { on := 7, ground := Ground.phase }, { on := 8, ground := Ground.phase }, { on := 9, ground := Ground.phase }, { on := 10, ground := Ground.phase }, { on := 11, ground := Ground.phase }, { on := 12, ground := Ground.phase }, { on := 13, ground := Ground.phase }, { on := 14, ground := Ground.phase }], guard := none }) (v := ?_) rfl (by kernel_rfl) (by kernel_rfl) (by kernel_rfl) (fun _ _ _ h => h) (Or.inl ⟨by rfl, ?_⟩) hHeld ?_
      rotate_left 1
      · intro u hSu
        obtain ⟨q5, q6⟩ := rt_facts (kept_row HB.out.1 hSu.out (by simp))
        go_simp
        first | done | with_reducible rfl
      (try simp only [Act.put, List.setIfInBounds_toArray, List.set_cons_zero, List.set_cons_succ])
      refine wpAnyH_done (by kernel_rfl) ?_ _
      have H9 := hHeld
      clear hHeld
      go_wp2_with fail
      go_ret2
      refine ⟨R.length, _, rfl, Lib.hid ⟨hJ, HI.out.1, HI.out.2, ?_⟩, grown_trans HB.out.2.1 H9.out⟩
      rw [List.getElem?_eq_none (Nat.le_refl _)]

set_option maxRecDepth 100000 in
set_option maxHeartbeats 3200000 in
theorem bsL_any (R : List Lk) (t : Lk) (p : Option Addr) (c : Nat) (q : Nat → Prop) (w : World) (hR : RdL5 w q (.slice p R.length c) R) (hm : R.length ≤ 1000000) :
    Calls Try.prog 94 #[.slice p R.length c, .agg #[.int .i64 t.a, .int .i64 t.b, .int .i64 t.ca, .int .i64 t.cb, .int .i64 t.cp], .func (.func 62) #[] #[]] w fun e w' => BsPost cvL R t w e w' := by
  have eg : EnterF 62 := enters_of Try.func62 (by kernel_rfl) rfl
  obtain ⟨k1, k2⟩ := tone_box w #[.int .i64 t.a, .int .i64 t.b, .int .i64 t.ca, .int .i64 t.cb, .int .i64 t.cp] 68
  have HB := Lib.hid (And.intro k1 (And.intro k2 (hR.keep k2)))
  clear k1 k2 hR
  go_enter Try.func94, Try.ntmps94
  go_upto_region 1 with fail
  generalize w.alloc _ = wa at *
  have GZ : Hid (wa.grownBy wa none) := Lib.hid (grown_refl _ _)
  go_wp2_with fail
  go_loopw [9, 10] (fun vi vj wr => ∃ I J : Nat, I ≤ J ∧ J ≤ R.length ∧ vi = .int .i64 (I : Int) ∧ vj = .int .i64 (J : Int) ∧ Hid ((∀ x, 0 < I → R[I - 1]? = some x → cvL x t < 0) ∧ ∀ x, R[J]? = some x → 0 ≤ cvL x t) ∧ Hid (wa.grownBy wr none)) (fun vi vj _ => ((intOf vj) - (intOf vi)).toNat)
  case atStart => exact ⟨0, R.length, Nat.zero_le _, Nat.le_refl _, rfl, rfl, Lib.hid ⟨fun x h => by omega, fun x h => by rw [List.getElem?_eq_none (Nat.le_refl _)] at h; cases h⟩, GZ⟩
  case round =>
  obtain ⟨I, J, hIJ, hJ, rfl, rfl, HI, G⟩ := hrel
  clear GZ
  by_cases hlt : I < J
  · have hlt' : (I : Int) < (J : Int) := by omega
    obtain ⟨h, hh⟩ : ∃ h, (I + J) / 2 = h := ⟨_, rfl⟩
    have h1 : I ≤ h := by omega
    have h2 : h < J := by omega
    have hsum : (I : Int) + (J : Int) ≤ 2000000 := by omega
    go_upto_region 4 with fail
    go_cut [11] from 18 to 23 (fun v wx => v = .int .i64 (h : Int) ∧ wr = wx)
    case first =>
      go_wp2_with fail
      go_meet
      exact ⟨congrArg _ (by omega), rfl⟩
    case rest =>
    obtain ⟨rfl, rfl⟩ := hcut
    clear hh hsum
    obtain ⟨-, b, off, rfl, -, -⟩ := rdl_cells (L := R) (HB.out.2.2.keep G.out) (by omega)
    obtain ⟨y, hy⟩ : ∃ y, R[h]? = some y := ⟨_, List.getElem?_eq_getElem (by omega)⟩
    have HC : ∀ u, Hid (wa.grownBy u none) → u.cell? ⟨b, off + h * 5, none⟩ = some (.int .i64 y.a) ∧ u.cell? ⟨b, off + h * 5 + 1, none⟩ = some (.int .i64 y.b) ∧ u.cell? ⟨b, off + h * 5 + 2, none⟩ = some (.int .i64 y.ca) ∧ u.cell? ⟨b, off + h * 5 + 3, none⟩ = some (.int .i64 y.cb) ∧ u.cell? ⟨b, off + h * 5 + 4, none⟩ = some (.int .i64 y.cp) := fun u hu => by
      obtain ⟨-, b', off', e, -, hc⟩ := rdl_cells (L := R) (HB.out.2.2.keep hu.out) (by omega)
      injection e with e
      injection e with e4 e5
      subst e4
      subst e5
      exact hc h y hy
    have HCH := Lib.hid HC
    have HY := Lib.hid hy
    have i0 : (0 : Int) ≤ (h : Int) := by omega
    have i1 : (h : Int) < (R.length : Int) := by omega
    obtain ⟨z, hz⟩ : ∃ z, cvL y t = z := ⟨_, rfl⟩
    have HZ := Lib.hid hz
    clear HC hy hz
    go_upto_region 5 with fail
    by_cases hzn : z < 0
    · have hzd : decide (z < 0) = true := decide_eq_true hzn
      refine wp_region_held_drew (S := fun w' => Hid (wa.grownBy w' none)) (by kernel_rfl) (Lib.hid (grown_drew G.out)) (fun hHeld => ?_)
      refine wpAnyH_take (i := 0) (oi := { dst := some 24, op := Op.move (Operand.tmp 2), type := 92, pos := "sort.go:160", after := #[], guard := none }) (v := ?_) rfl (by kernel_rfl) (by kernel_rfl) (by kernel_rfl) (fun _ _ _ h => h) (Or.inl ⟨by rfl, ?_⟩) hHeld ?_
      rotate_left 1
      · intro u hSu
        obtain ⟨q0, q1, q2, q3, q4⟩ := HCH.out _ hSu
        obtain ⟨q5, q6, q7, q8, q9⟩ := lk_facts (kept_row HB.out.1 hSu.out (by simp))
        go_simp
        first | done | with_reducible rfl
      (try simp only [Act.put, List.setIfInBounds_toArray, List.set_cons_zero, List.set_cons_succ])
      refine wpAnyH_take (i := 1) (oi := { dst := some 25, op := Op.move (Operand.tmp 0), type := 24, pos := "sort.go:160", after := #[], guard := none }) (v := ?_) rfl (by kernel_rfl) (by kernel_rfl) (by kernel_rfl) (fun _ _ _ h => h) (Or.inl ⟨by rfl, ?_⟩) hHeld ?_
      rotate_left 1
      · intro u hSu
        obtain ⟨q0, q1, q2, q3, q4⟩ := HCH.out _ hSu
        obtain ⟨q5, q6, q7, q8, q9⟩ := lk_facts (kept_row HB.out.1 hSu.out (by simp))
        go_simp
        first | done | with_reducible rfl
      (try simp only [Act.put, List.setIfInBounds_toArray, List.set_cons_zero, List.set_cons_succ])
      refine wpAnyH_take (i := 2) (oi := { dst := some 26, op := Op.move (Operand.tmp 11), type := 3, pos := "sort.go:160", after := #[], guard := none }) (v := ?_) rfl (by kernel_rfl) (by kernel_rfl) (by kernel_rfl) (fun _ _ _ h => h) (Or.inl ⟨by rfl, ?_⟩) hHeld ?_
      rotate_left 1
      · intro u hSu
        obtain ⟨q0, q1, q2, q3, q4⟩ := HCH.out _ hSu
        obtain ⟨q5, q6, q7, q8, q9⟩ := lk_facts (kept_row HB.out.1 hSu.out (by simp))
        go_simp
        first | done | with_reducible rfl
      (try simp only [Act.put, List.setIfInBounds_toArray, List.set_cons_zero, List.set_cons_succ])
      refine wpAnyH_take (i := 3) (oi := { dst := some 27, op := Op.indexAddr 24 (Operand.tmp 25) (Operand.tmp 26), type := 0, pos := "sort.go:160", after := #[{ on := 1, ground := Ground.data }, { on := 2, ground := Ground.data }], guard := none }) (v := ?_) rfl (by kernel_rfl) (by kernel_rfl) (by kernel_rfl) (fun _ _ _ h => h) (Or.inl ⟨by rfl, ?_⟩) hHeld ?_
      rotate_left 1
      · intro u hSu
        obtain ⟨q0, q1, q2, q3, q4⟩ := HCH.out _ hSu
        obtain ⟨q5, q6, q7, q8, q9⟩ := lk_facts (kept_row HB.out.1 hSu.out (by simp))
        go_simp
        first | done | with_reducible rfl
      (try simp only [Act.put, List.setIfInBounds_toArray, List.set_cons_zero, List.set_cons_succ])
      refine wpAnyH_take (i := 4) (oi := { dst := some 28, op := Op.load 68 (Operand.tmp 27), type := 68, pos := "sort.go:160", after := #[{ on := 3, ground := Ground.data }], guard := none }) (v := ?_) rfl (by kernel_rfl) (by kernel_rfl) (by kernel_rfl) (fun _ _ _ h => h) (Or.inl ⟨by rfl, ?_⟩) hHeld ?_
      rotate_left 1
      · intro u hSu
        obtain ⟨q0, q1, q2, q3, q4⟩ := HCH.out _ hSu
        obtain ⟨q5, q6, q7, q8, q9⟩ := lk_facts (kept_row HB.out.1 hSu.out (by simp))
        go_simp
        first | done | with_reducible rfl
      (try simp only [Act.put, List.setIfInBounds_toArray, List.set_cons_zero, List.set_cons_succ])
      refine wpAnyH_take (i := 5) (oi := { dst := some 29, op := Op.load 68 (Operand.tmp 4), type := 68, pos := "sort.go:160", after := #[], guard := none }) (v := ?_) rfl (by kernel_rfl) (by kernel_rfl) (by kernel_rfl) (fun _ _ _ h => h) (Or.inl ⟨by rfl, ?_⟩) hHeld ?_
      rotate_left 1
      · intro u hSu
        obtain ⟨q0, q1, q2, q3, q4⟩ := HCH.out _ hSu
        obtain ⟨q5, q6, q7, q8, q9⟩ := lk_facts (kept_row HB.out.1 hSu.out (by simp))
        go_simp
        first | done | with_reducible rfl
      (try simp only [Act.put, List.setIfInBounds_toArray, List.set_cons_zero, List.set_cons_succ])
      refine wpAnyH_ready (rs := [6]) (by kernel_rfl) (by simp) ?_
      refine AllReadyH.cons (o := { dst := some 30, op := Op.call { callee := Callee.value (Operand.tmp 24), args := #[Operand.tmp 28, Operand.tmp 29], argTypes := #[68, 68] }, type := 3, pos := "sort.go:160", after := #[{ on := 0, ground := Ground.data }, { on := 4, ground := Ground.data }, { on := 5, ground := Ground.data }], guard := none }) rfl (fun Kz hK => ?_) AllReadyH.nil
      go_simp
      go_at_call 62
      refine (tcmpl_any y t _).mono ?_
      rintro e w5 ⟨rfl, hg⟩
      have hz2 := HZ.out
      unfold cvL at hz2
      rw [hz2]
      clear hz2
      refine hK.out _ _ (Lib.hid (grown_trans hHeld.out hg)) (fun hH2 => ?_)
      clear hK Kz hHeld
      have hHeld := hH2
      clear hH2
      (try simp only [Act.put, List.setIfInBounds_toArray, List.set_cons_zero, List.set_cons_succ])
      refine wpAnyH_take (i := 7) (oi := { dst := some 31, op := Op.binOp BinOp.lss 3 (Operand.tmp 30) (Operand.const (Value.int IntKind.i64 0)) 3, type := 4, pos := "sort.go:160", after := #[{ on := 6, ground := Ground.data }], guard := none }) (v := (.bool true)) rfl (by kernel_rfl) (by kernel_rfl) (by kernel_rfl) (fun _ _ _ h => h) (Or.inl ⟨by rfl, ?_⟩) hHeld ?_
      · intro u hSu
        obtain ⟨q0, q1, q2, q3, q4⟩ := HCH.out _ hSu
        obtain ⟨q5, q6, q7, q8, q9⟩ := lk_facts (kept_row HB.out.1 hSu.out (by simp))
        go_simp
        first | done | with_reducible rfl | (simp [hzd]; done) | exact hzd
      (try simp only [Act.put, List.setIfInBounds_toArray, List.set_cons_zero, List.set_cons_succ])
      refine wpAnyH_done (by kernel_rfl) ?_ _
      have H9 := hHeld
      clear hHeld
      go_wp2_with fail
      exact ⟨⟨h + 1, J, by omega, hJ, congrArg _ (by omega), rfl, Lib.hid ⟨fun x _ hx => by rw [Nat.add_sub_cancel, HY.out] at hx; obtain rfl := Option.some.inj hx; rw [HZ.out]; exact hzn, HI.out.2⟩, H9⟩, by simp only [intOf]; omega⟩
    · have hzd : decide (z < 0) = false := decide_eq_false hzn
      refine wp_region_held_drew (S := fun w' => Hid (wa.grownBy w' none)) (by kernel_rfl) (Lib.hid (grown_drew G.out)) (fun hHeld => ?_)
      refine wpAnyH_take (i := 0) (oi := { dst := some 24, op := Op.move (Operand.tmp 2), type := 92, pos := "sort.go:160", after := #[], guard := none }) (v := ?_) rfl (by kernel_rfl) (by kernel_rfl) (by kernel_rfl) (fun _ _ _ h => h) (Or.inl ⟨by rfl, ?_⟩) hHeld ?_
      rotate_left 1
      · intro u hSu
        obtain ⟨q0, q1, q2, q3, q4⟩ := HCH.out _ hSu
        obtain ⟨q5, q6, q7, q8, q9⟩ := lk_facts (kept_row HB.out.1 hSu.out (by simp))
        go_simp
        first | done | with_reducible rfl
      (try simp only [Act.put, List.setIfInBounds_toArray, List.set_cons_zero, List.set_cons_succ])
      refine wpAnyH_take (i := 1) (oi := { dst := some 25, op := Op.move (Operand.tmp 0), type := 24, pos := "sort.go:160", after := #[], guard := none }) (v := ?_) rfl (by kernel_rfl) (by kernel_rfl) (by kernel_rfl) (fun _ _ _ h => h) (Or.inl ⟨by rfl, ?_⟩) hHeld ?_
      rotate_left 1
      · intro u hSu
        obtain ⟨q0, q1, q2, q3, q4⟩ := HCH.out _ hSu
        obtain ⟨q5, q6, q7, q8, q9⟩ := lk_facts (kept_row HB.out.1 hSu.out (by simp))
        go_simp
        first | done | with_reducible rfl
      (try simp only [Act.put, List.setIfInBounds_toArray, List.set_cons_zero, List.set_cons_succ])
      refine wpAnyH_take (i := 2) (oi := { dst := some 26, op := Op.move (Operand.tmp 11), type := 3, pos := "sort.go:160", after := #[], guard := none }) (v := ?_) rfl (by kernel_rfl) (by kernel_rfl) (by kernel_rfl) (fun _ _ _ h => h) (Or.inl ⟨by rfl, ?_⟩) hHeld ?_
      rotate_left 1
      · intro u hSu
        obtain ⟨q0, q1, q2, q3, q4⟩ := HCH.out _ hSu
        obtain ⟨q5, q6, q7, q8, q9⟩ := lk_facts (kept_row HB.out.1 hSu.out (by simp))
        go_simp
        first | done | with_reducible rfl
      (try simp only [Act.put, List.setIfInBounds_toArray, List.set_cons_zero, List.set_cons_succ])
      refine wpAnyH_take (i := 3) (oi := { dst := some 27, op := Op.indexAddr 24 (Operand.tmp 25) (Operand.tmp 26), type := 0, pos := "sort.go:160", after := #[{ on := 1, ground := Ground.data }, { on := 2, ground := Ground.data }], guard := none }) (v := ?_) rfl (by kernel_rfl) (by kernel_rfl) (by kernel_rfl) (fun _ _ _ h => h) (Or.inl ⟨by rfl, ?_⟩) hHeld ?_
      rotate_left 1
      · intro u hSu
        obtain ⟨q0, q1, q2, q3, q4⟩ := HCH.out _ hSu
        obtain ⟨q5, q6, q7, q8, q9⟩ := lk_facts (kept_row HB.out.1 hSu.out (by simp))
        go_simp
        first | done | with_reducible rfl
      (try simp only [Act.put, List.setIfInBounds_toArray, List.set_cons_zero, List.set_cons_succ])
      refine wpAnyH_take (i := 4) (oi := { dst := some 28, op := Op.load 68 (Operand.tmp 27), type := 68, pos := "sort.go:160", after := #[{ on := 3, ground := Ground.data }], guard := none }) (v := ?_) rfl (by kernel_rfl) (by kernel_rfl) (by kernel_rfl) (fun _ _ _ h => h) (Or.inl ⟨by rfl, ?_⟩) hHeld ?_
      rotate_left 1
      · intro u hSu
        obtain ⟨q0, q1, q2, q3, q4⟩ := HCH.out _ hSu
        obtain ⟨q5, q6, q7, q8, q9⟩ := lk_facts (kept_row HB.out.1 hSu.out (by simp))
        go_simp
        first | done | with_reducible rfl
      (try simp only [Act.put, List.setIfInBounds_toArray, List.set_cons_zero, List.set_cons_succ])
      refine wpAnyH_take (i := 5) (oi := { dst := some 29, op := Op.load 68 (Operand.tmp 4), type := 68, pos := "sort.go:160", after := #[], guard := none }) (v := ?_) rfl (by kernel_rfl) (by kernel_rfl) (by kernel_rfl) (fun _ _ _ h => h) (Or.inl ⟨by rfl, ?_⟩) hHeld ?_
      rotate_left 1
      · intro u hSu
        obtain ⟨q0, q1, q2, q3, q4⟩ := HCH.out _ hSu
        obtain ⟨q5, q6, q7, q8, q9⟩ := lk_facts (kept_row HB.out.1 hSu.out (by simp))
        go_simp
        first | done | with_reducible rfl
      (try simp only [Act.put, List.setIfInBounds_toArray, List.set_cons_zero, List.set_cons_succ])
      refine wpAnyH_ready (rs := [6]) (by kernel_rfl) (by simp) ?_
      refine AllReadyH.cons (o := { dst := some 30, op := Op.call { callee := Callee.value (Operand.tmp 24), args := #[Operand.tmp 28, Operand.tmp 29], argTypes := #[68, 68] }, type := 3, pos := "sort.go:160", after := #[{ on := 0, ground := Ground.data }, { on := 4, ground := Ground.data }, { on := 5, ground := Ground.data }], guard := none }) rfl (fun Kz hK => ?_) AllReadyH.nil
      go_simp
      go_at_call 62
      refine (tcmpl_any y t _).mono ?_
      rintro e w5 ⟨rfl, hg⟩
      have hz2 := HZ.out
      unfold cvL at hz2
      rw [hz2]
      clear hz2
      refine hK.out _ _ (Lib.hid (grown_trans hHeld.out hg)) (fun hH2 => ?_)
      clear hK Kz hHeld
      have hHeld := hH2
      clear hH2
      (try simp only [Act.put, List.setIfInBounds_toArray, List.set_cons_zero, List.set_cons_succ])
      refine wpAnyH_take (i := 7) (oi := { dst := some 31, op := Op.binOp BinOp.lss 3 (Operand.tmp 30) (Operand.const (Value.int IntKind.i64 0)) 3, type := 4, pos := "sort.go:160", after := #[{ on := 6, ground := Ground.data }], guard := none }) (v := (.bool false)) rfl (by kernel_rfl) (by kernel_rfl) (by kernel_rfl) (fun _ _ _ h => h) (Or.inl ⟨by rfl, ?_⟩) hHeld ?_
      · intro u hSu
        obtain ⟨q0, q1, q2, q3, q4⟩ := HCH.out _ hSu
        obtain ⟨q5, q6, q7, q8, q9⟩ := lk_facts (kept_row HB.out.1 hSu.out (by simp))
        go_simp
        first | done | with_reducible rfl | (simp [hzd]; done) | exact hzd
      (try simp only [Act.put, List.setIfInBounds_toArray, List.set_cons_zero, List.set_cons_succ])
      refine wpAnyH_done (by kernel_rfl) ?_ _
      have H9 := hHeld
      clear hHeld
      go_wp2_with fail
      exact ⟨⟨I, h, h1, by omega, rfl, rfl, Lib.hid ⟨HI.out.1, fun x hx => by rw [HY.out] at hx; obtain rfl := Option.some.inj hx; rw [HZ.out]; omega⟩, H9⟩, by simp only [intOf]; omega⟩
  · obtain rfl : I = J := by omega
    have hnl : ¬ ((I : Int) < (I : Int)) := by omega
    by_cases hn : I < R.length
    · obtain ⟨-, b, off, rfl, -, -⟩ := rdl_cells (L := R) (HB.out.2.2.keep G.out) (by omega)
      obtain ⟨y, hy⟩ : ∃ y, R[I]? = some y := ⟨_, List.getElem?_eq_getElem hn⟩
      have HC : ∀ u, Hid (wa.grownBy u none) → u.cell? ⟨b, off + I * 5, none⟩ = some (.int .i64 y.a) ∧ u.cell? ⟨b, off + I * 5 + 1, none⟩ = some (.int .i64 y.b) ∧ u.cell? ⟨b, off + I * 5 + 2, none⟩ = some (.int .i64 y.ca) ∧ u.cell? ⟨b, off + I * 5 + 3, none⟩ = some (.int .i64 y.cb) ∧ u.cell? ⟨b, off + I * 5 + 4, none⟩ = some (.int .i64 y.cp) := fun u hu => by
        obtain ⟨-, b', off', e, -, hc⟩ := rdl_cells (L := R) (HB.out.2.2.keep hu.out) (by omega)
        injection e with e
        injection e with e4 e5
        subst e4
        subst e5
        exact hc I y hy
      have HCH := Lib.hid HC
      have HY := Lib.hid hy
      have i0 : (0 : Int) ≤ (I : Int) := by omega
      have i1 : (I : Int) < (R.length : Int) := by omega
      obtain ⟨z, hz⟩ : ∃ z, cvL y t = z := ⟨_, rfl⟩
      have HZ := Lib.hid hz
      clear HC hy hz
      go_upto_region 8 with fail
      refine wp_region_held_drew (S := fun w' => Hid (wa.grownBy w' none)) (by kernel_rfl) (Lib.hid (grown_drew G.out)) (fun hHeld => ?_)
      refine wpAnyH_take (i := 0) (oi := { dst := some 35, op := Op.move (Operand.tmp 9), type := 3, pos := "sort.go:167", after := #[], guard := none }) (v := ?_) rfl (by kernel_rfl) (by kernel_rfl) (by kernel_rfl) (fun _ _ _ h => h) (Or.inl ⟨by rfl, ?_⟩) hHeld ?_
      rotate_left 1
      · intro u hSu
        obtain ⟨q0, q1, q2, q3, q4⟩ := HCH.out _ hSu
        obtain ⟨q5, q6, q7, q8, q9⟩ := lk_facts (kept_row HB.out.1 hSu.out (by simp))
        go_simp
        first | done | with_reducible rfl
      (try simp only [Act.put, List.setIfInBounds_toArray, List.set_cons_zero, List.set_cons_succ])
      refine wpAnyH_take (i := 1) (oi := { dst := some 36, op := Op.move (Operand.tmp 9), type := 3, pos := "sort.go:167", after := #[], guard := none }) (v := ?_) rfl (by kernel_rfl) (by kernel_rfl) (by kernel_rfl) (fun _ _ _ h => h) (Or.inl ⟨by rfl, ?_⟩) hHeld ?_
      rotate_left 1
      · intro u hSu
        obtain ⟨q0, q1, q2, q3, q4⟩ := HCH.out _ hSu
        obtain ⟨q5, q6, q7, q8, q9⟩ := lk_facts (kept_row HB.out.1 hSu.out (by simp))
        go_simp
        first | done | with_reducible rfl
      (try simp only [Act.put, List.setIfInBounds_toArray, List.set_cons_zero, List.set_cons_succ])
      refine wpAnyH_take (i := 2) (oi := { dst := some 37, op := Op.move (Operand.tmp 8), type := 3, pos := "sort.go:167", after := #[], guard := none }) (v := ?_) rfl (by kernel_rfl) (by kernel_rfl) (by kernel_rfl) (fun _ _ _ h => h) (Or.inl ⟨by rfl, ?_⟩) hHeld ?_
      rotate_left 1
      · intro u hSu
        obtain ⟨q0, q1, q2, q3, q4⟩ := HCH.out _ hSu
        obtain ⟨q5, q6, q7, q8, q9⟩ := lk_facts (kept_row HB.out.1 hSu.out (by simp))
        go_simp
        first | done | with_reducible rfl
      (try simp only [Act.put, List.setIfInBounds_toArray, List.set_cons_zero, List.set_cons_succ])
      refine wpAnyH_take (i := 3) (oi := { dst := some 38, op := Op.binOp BinOp.lss 3 (Operand.tmp 36) (Operand.tmp 37) 3, type := 4, pos := "sort.go:167", after := #[{ on := 1, ground := Ground.data }, { on := 2, ground := Ground.data }], guard := none }) (v := (.bool true)) rfl (by kernel_rfl) (by kernel_rfl) (by kernel_rfl) (fun _ _ _ h => h) (Or.inl ⟨by rfl, ?_⟩) hHeld ?_
      · intro u hSu
        obtain ⟨q0, q1, q2, q3, q4⟩ := HCH.out _ hSu
        obtain ⟨q5, q6, q7, q8, q9⟩ := lk_facts (kept_row HB.out.1 hSu.out (by simp))
        go_simp
        first | done | with_reducible rfl | (simp; done) | (simp; omega)
      (try simp only [Act.put, List.setIfInBounds_toArray, List.set_cons_zero, List.set_cons_succ])
      refine wpAnyH_take (i := 4) (oi := { dst := some 39, op := Op.move (Operand.tmp 38), type := 4, pos := "sort.go:167", after := #[{ on := 3, ground := Ground.data }], guard := none }) (v := ?_) rfl (by kernel_rfl) (by kernel_rfl) (by kernel_rfl) (fun _ _ _ h => h) (Or.inl ⟨by rfl, ?_⟩) hHeld ?_
      rotate_left 1
      · intro u hSu
        obtain ⟨q0, q1, q2, q3, q4⟩ := HCH.out _ hSu
        obtain ⟨q5, q6, q7, q8, q9⟩ := lk_facts (kept_row HB.out.1 hSu.out (by simp))
        go_simp
        first | done | with_reducible rfl
      (try simp only [Act.put, List.setIfInBounds_toArray, List.set_cons_zero, List.set_cons_succ])
      refine wpAnyH_take (i := 5) (oi := { dst := some 40, op := Op.move (Operand.tmp 2), type := 92, pos := "sort.go:167", after := #[{ on := 4, ground := Ground.guard }], guard := some (4, true) }) (v := ?_) rfl (by kernel_rfl) (by kernel_rfl) (by kernel_rfl) (fun _ _ _ h => h) (Or.inl ⟨by rfl, ?_⟩) hHeld ?_
      rotate_left 1
      · intro u hSu
        obtain ⟨q0, q1, q2, q3, q4⟩ := HCH.out _ hSu
        obtain ⟨q5, q6, q7, q8, q9⟩ := lk_facts (kept_row HB.out.1 hSu.out (by simp))
        go_simp
        first | done | with_reducible rfl
      (try simp only [Act.put, List.setIfInBounds_toArray, List.set_cons_zero, List.set_cons_succ])
      refine wpAnyH_take (i := 6) (oi := { dst := some 41, op := Op.move (Operand.tmp 0), type := 24, pos := "sort.go:167", after := #[{ on := 4, ground := Ground.guard }], guard := some (4, true) }) (v := ?_) rfl (by kernel_rfl) (by kernel_rfl) (by kernel_rfl) (fun _ _ _ h => h) (Or.inl ⟨by rfl, ?_⟩) hHeld ?_
      rotate_left 1
      · intro u hSu
        obtain ⟨q0, q1, q2, q3, q4⟩ := HCH.out _ hSu
        obtain ⟨q5, q6, q7, q8, q9⟩ := lk_facts (kept_row HB.out.1 hSu.out (by simp))
        go_simp
        first | done | with_reducible rfl
      (try simp only [Act.put, List.setIfInBounds_toArray, List.set_cons_zero, List.set_cons_succ])
      refine wpAnyH_take (i := 7) (oi := { dst := some 42, op := Op.move (Operand.tmp 9), type := 3, pos := "sort.go:167", after := #[{ on := 4, ground := Ground.guard }], guard := some (4, true) }) (v := ?_) rfl (by kernel_rfl) (by kernel_rfl) (by kernel_rfl) (fun _ _ _ h => h) (Or.inl ⟨by rfl, ?_⟩) hHeld ?_
      rotate_left 1
      · intro u hSu
        obtain ⟨q0, q1, q2, q3, q4⟩ := HCH.out _ hSu
        obtain ⟨q5, q6, q7, q8, q9⟩ := lk_facts (kept_row HB.out.1 hSu.out (by simp))
        go_simp
        first | done | with_reducible rfl
      (try simp only [Act.put, List.setIfInBounds_toArray, List.set_cons_zero, List.set_cons_succ])
      refine wpAnyH_take (i := 8) (oi := { dst := some 43, op := Op.indexAddr 24 (Operand.tmp 41) (Operand.tmp 42), type := 0, pos := "sort.go:167", after := #[{ on := 6, ground := Ground.data }, { on := 7, ground := Ground.data }, { on := 4, ground := Ground.guard }], guard := some (4, true) }) (v := ?_) rfl (by kernel_rfl) (by kernel_rfl) (by kernel_rfl) (fun _ _ _ h => h) (Or.inl ⟨by rfl, ?_⟩) hHeld ?_
      rotate_left 1
      · intro u hSu
        obtain ⟨q0, q1, q2, q3, q4⟩ := HCH.out _ hSu
        obtain ⟨q5, q6, q7, q8, q9⟩ := lk_facts (kept_row HB.out.1 hSu.out (by simp))
        go_simp
        first | done | with_reducible rfl
      (try simp only [Act.put, List.setIfInBounds_toArray, List.set_cons_zero, List.set_cons_succ])
      refine wpAnyH_take (i := 9) (oi := { dst := some 44, op := Op.load 68 (Operand.tmp 43), type := 68, pos := "sort.go:167", after := #[{ on := 8, ground := Ground.data }, { on := 4, ground := Ground.guard }], guard := some (4, true) }) (v := ?_) rfl (by kernel_rfl) (by kernel_rfl) (by kernel_rfl) (fun _ _ _ h => h) (Or.inl ⟨by rfl, ?_⟩) hHeld ?_
      rotate_left 1
      · intro u hSu
        obtain ⟨q0, q1, q2, q3, q4⟩ := HCH.out _ hSu
        obtain ⟨q5, q6, q7, q8, q9⟩ := lk_facts (kept_row HB.out.1 hSu.out (by simp))
        go_simp
        first | done | with_reducible rfl
      (try simp only [Act.put, List.setIfInBounds_toArray, List.set_cons_zero, List.set_cons_succ])
      refine wpAnyH_take (i := 10) (oi := { dst := some 45, op := Op.load 68 (Operand.tmp 4), type := 68, pos := "sort.go:167", after := #[{ on := 4, ground := Ground.guard }], guard := some (4, true) }) (v := ?_) rfl (by kernel_rfl) (by kernel_rfl) (by kernel_rfl) (fun _ _ _ h => h) (Or.inl ⟨by rfl, ?_⟩) hHeld ?_
      rotate_left 1
      · intro u hSu
        obtain ⟨q0, q1, q2, q3, q4⟩ := HCH.out _ hSu
        obtain ⟨q5, q6, q7, q8, q9⟩ := lk_facts (kept_row HB.out.1 hSu.out (by simp))
        go_simp
        first | done | with_reducible rfl
      (try simp only [Act.put, List.setIfInBounds_toArray, List.set_cons_zero, List.set_cons_succ])
      refine wpAnyH_ready (rs := [11]) (by kernel_rfl) (by simp) ?_
      refine AllReadyH.cons (o := { dst := some 46, op := Op.call { callee := Callee.value (Operand.tmp 40), args := #[Operand.tmp 44, Operand.tmp 45], argTypes := #[68, 68] }, type := 3, pos := "sort.go:167", after := #[{ on := 5, ground := Ground.data }, { on := 9, ground := Ground.data }, { on := 10, ground := Ground.data }, { on := 4, ground := Ground.chain }, { on := 4, ground := Ground.guard }], guard := some (4, true) }) rfl (fun Kz hK => ?_) AllReadyH.nil
      go_simp
      go_at_call 62
      refine (tcmpl_any y t _).mono ?_
      rintro e w5 ⟨rfl, hg⟩
      have hz2 := HZ.out
      unfold cvL at hz2
      rw [hz2]
      clear hz2
      refine hK.out _ _ (Lib.hid (grown_trans hHeld.out hg)) (fun hH2 => ?_)
      clear hK Kz hHeld
      have hHeld := hH2
      clear hH2
      (try simp only [Act.put, List.setIfInBounds_toArray, List.set_cons_zero, List.set_cons_succ])
      refine wpAnyH_take (i := 12) (oi := { dst := some 47, op := Op.binOp BinOp.eql 3 (Operand.tmp 46) (Operand.const (Value.int IntKind.i64 0)) 3, type := 4, pos := "sort.go:167", after := #[{ on := 11, ground := Ground.data }, { on := 4, ground := Ground.guard }, { on := 14, ground := Ground.gcOnly Departure.lateStores }], guard := some (4, true) }) (v := ?_) rfl (by kernel_rfl) (by kernel_rfl) (by kernel_rfl) (fun _ _ _ h => h) (Or.inl ⟨by rfl, ?_⟩) hHeld ?_
      rotate_left 1
      · intro u hSu
        obtain ⟨q0, q1, q2, q3, q4⟩ := HCH.out _ hSu
        obtain ⟨q5, q6, q7, q8, q9⟩ := lk_facts (kept_row HB.out.1 hSu.out (by simp))
        go_simp
        first | done | with_reducible rfl
      (try simp only [Act.put, List.setIfInBounds_toArray, List.set_cons_zero, List.set_cons_succ])
      refine wpAnyH_take (i := 13) (oi := { dst := some 48, op := Op.pick (Operand.tmp 39) (Operand.tmp 47) (Operand.const (Value.bool false)), type := 4, pos := "sort.go:167", after := #[{ on := 4, ground := Ground.data }, { on := 12, ground := Ground.data }, { on := 14, ground := Ground.gcOnly Departure.lateStores }], guard := none }) (v := ?_) rfl (by kernel_rfl) (by kernel_rfl) (by kernel_rfl) (fun _ _ _ h => h) (Or.inl ⟨by rfl, ?_⟩) hHeld ?_
      rotate_left 1
      · intro u hSu
        obtain ⟨q0, q1, q2, q3, q4⟩ := HCH.out _ hSu
        obtain ⟨q5, q6, q7, q8, q9⟩ := lk_facts (kept_row HB.out.1 hSu.out (by simp))
        go_simp
        first | done | with_reducible rfl
      (try simp only [Act.put, List.setIfInBounds_toArray, List.set_cons_zero, List.set_cons_succ])
      refine wpAnyH_take (i := 14) (oi := { dst := some 6, op := Op.assign (Operand.tmp 35), type := 3, pos := "sort.go:167", after := #[{ on := 0, ground := Ground.data }, { on := 11, ground := Ground.chain }, { on := 0, ground := Ground.phase }, { on := 1, ground := Ground.textOnly Departure.lateStores }, { on := 2, ground := Ground.textOnly Departure.lateStores }, { on := 3, ground := Ground.textOnly Departure.lateStores }, { on := 4, ground := Ground.textOnly Departure.lateStores }, { on := 5, ground := Ground.textOnly Departure.lateStores }, { on := 6, ground := Ground.textOnly Departure.lateStores }, { on := 7, ground := Ground.textOnly Departure.lateStores }, { on := 8, ground := Ground.textOnly Departure.lateStores }, { on := 9, ground := Ground.textOnly Departure.lateStores }, { on := 10, ground := Ground.textOnly Departure.lateStores }, { on := 11, ground := Ground.textOnly Departure.lateStoresUnsure }, { on := 12, ground := Ground.textOnly Departure.lateStores }, { on := 13, ground := Ground.textOnly Departure.lateStores }], guard := none }) (v := ?_) rfl (by kernel_rfl) (by kernel_rfl) (by kernel_rfl) (fun _ _ _ h => h) (Or.inl ⟨by rfl, ?_⟩) hHeld ?_
      rotate_left 1
      · intro u hSu
        obtain ⟨q0, q1, q2, q3, q4⟩ := HCH.out _ hSu
        obtain ⟨q5, q6, q7, q8, q9⟩ := lk_facts (kept_row HB.out.1 hSu.out (by simp))
        go_simp
        first | done | with_reducible rfl
      (try simp only [Act.put, List.setIfInBounds_toArray, List.set_cons_zero, List.set_cons_succ])
      refine wpAnyH_take (i := 15) (oi := { dst := some 7, op := Op.assign (Operand.tmp 48), type := 4, pos := "sort.go:167", after := #[{ on := 13, ground := Ground.data }, { on := 14, ground := Ground.chain }, { on := 0, ground := Ground.phase }, { on := 1, ground := Ground.phase }, { on := 2, ground := Ground.phase }, { on := 3, ground := Ground.phase }, { on := 4, ground := Ground.phase }, { on := 5, ground := Ground.phase }, { on := 6, ground := Ground.phase }, { on := 7, ground := Ground.phase }, { on := 8, ground := Ground.phase }, { on := 9, ground := Ground.phase }, { on := 10, ground := Ground.phase }, { on := 11, ground := Ground.phase }, { on := 12, ground := Ground.phase }, { on := 13, ground := Ground.phase }, { on := 14, ground := Ground.phase }], guard := none }) (v := ?_) rfl (by kernel_rfl) (by kernel_rfl) (by kernel_rfl) (fun _ _ _ h => h) (Or.inl ⟨by rfl, ?_⟩) hHeld ?_
      rotate_left 1
      · intro u hSu
        obtain ⟨q0, q1, q2, q3, q4⟩ := HCH.out _ hSu
        obtain ⟨q5, q6, q7, q8, q9⟩ := lk_facts (kept_row HB.out.1 hSu.out (by simp))
        go_simp
        first | done | with_reducible rfl
      (try simp only [Act.put, List.setIfInBounds_toArray, List.set_cons_zero, List.set_cons_succ])
      refine wpAnyH_done (by kernel_rfl) ?_ _
      have H9 := hHeld
      clear hHeld
      go_wp2_with fail
      go_ret2
      refine ⟨I, _, rfl, Lib.hid ⟨hJ, HI.out.1, HI.out.2, ?_⟩, grown_trans HB.out.2.1 H9.out⟩
      rw [HY.out]
      simp only [HZ.out]
      try rfl
    · obtain rfl : I = R.length := by omega
      have hn' : decide ((R.length : Int) < (R.length : Int)) = false := decide_eq_false (by omega)
      go_upto_region 8 with fail
      refine wp_region_held_drew (S := fun w' => Hid (wa.grownBy w' none)) (by kernel_rfl) (Lib.hid (grown_drew G.out)) (fun hHeld => ?_)
      refine wpAnyH_take (i := 0) (oi := { dst := some 35, op := Op.move (Operand.tmp 9), type := 3, pos := "sort.go:167", after := #[], guard := none }) (v := ?_) rfl (by kernel_rfl) (by kernel_rfl) (by kernel_rfl) (fun _ _ _ h => h) (Or.inl ⟨by rfl, ?_⟩) hHeld ?_
      rotate_left 1
      · intro u hSu
        obtain ⟨q5, q6, q7, q8, q9⟩ := lk_facts (kept_row HB.out.1 hSu.out (by simp))
        go_simp
        first | done | with_reducible rfl
      (try simp only [Act.put, List.setIfInBounds_toArray, List.set_cons_zero, List.set_cons_succ])
      refine wpAnyH_take (i := 1) (oi := { dst := some 36, op := Op.move (Operand.tmp 9), type := 3, pos := "sort.go:167", after := #[], guard := none }) (v := ?_) rfl (by kernel_rfl) (by kernel_rfl) (by kernel_rfl) (fun _ _ _ h => h) (Or.inl ⟨by rfl, ?_⟩) hHeld ?_
      rotate_left 1
      · intro u hSu
        obtain ⟨q5, q6, q7, q8, q9⟩ := lk_facts (kept_row HB.out.1 hSu.out (by simp))
        go_simp
        first | done | with_reducible rfl
      (try simp only [Act.put, List.setIfInBounds_toArray, List.set_cons_zero, List.set_cons_succ])
      refine wpAnyH_take (i := 2) (oi := { dst := some 37, op := Op.move (Operand.tmp 8), type := 3, pos := "sort.go:167", after := #[], guard := none }) (v := ?_) rfl (by kernel_rfl) (by kernel_rfl) (by kernel_rfl) (fun _ _ _ h => h) (Or.inl ⟨by rfl, ?_⟩) hHeld ?_
      rotate_left 1
      · intro u hSu
        obtain ⟨q5, q6, q7, q8, q9⟩ := lk_facts (kept_row HB.out.1 hSu.out (by simp))
        go_simp
        first | done | with_reducible rfl
      (try simp only [Act.put, List.setIfInBounds_toArray, List.set_cons_zero, List.set_cons_succ])
      refine wpAnyH_take (i := 3) (oi := { dst := some 38, op := Op.binOp BinOp.lss 3 (Operand.tmp 36) (Operand.tmp 37) 3, type := 4, pos := "sort.go:167", after := #[{ on := 1, ground := Ground.data }, { on := 2, ground := Ground.data }], guard := none }) (v := (.bool false)) rfl (by kernel_rfl) (by kernel_rfl) (by kernel_rfl) (fun _ _ _ h => h) (Or.inl ⟨by rfl, ?_⟩) hHeld ?_
      · intro u hSu
        obtain ⟨q5, q6, q7, q8, q9⟩ := lk_facts (kept_row HB.out.1 hSu.out (by simp))
        go_simp
        first | done | with_reducible rfl | (simp; done) | (simp; omega)
      (try simp only [Act.put, List.setIfInBounds_toArray, List.set_cons_zero, List.set_cons_succ])
      refine wpAnyH_take (i := 4) (oi := { dst := some 39, op := Op.move (Operand.tmp 38), type := 4, pos := "sort.go:167", after := #[{ on := 3, ground := Ground.data }], guard := none }) (v := ?_) rfl (by kernel_rfl) (by kernel_rfl) (by kernel_rfl) (fun _ _ _ h => h) (Or.inl ⟨by rfl, ?_⟩) hHeld ?_
      rotate_left 1
      · intro u hSu
        obtain ⟨q5, q6, q7, q8, q9⟩ := lk_facts (kept_row HB.out.1 hSu.out (by simp))
        go_simp
        first | done | with_reducible rfl
      (try simp only [Act.put, List.setIfInBounds_toArray, List.set_cons_zero, List.set_cons_succ])
      refine wpAnyH_take (i := 5) (oi := { dst := some 40, op := Op.move (Operand.tmp 2), type := 92, pos := "sort.go:167", after := #[{ on := 4, ground := Ground.guard }], guard := some (4, true) }) (v := undef) rfl (by kernel_rfl) (by kernel_rfl) (by kernel_rfl) (fun _ _ _ h => h) (Or.inr ⟨by rfl, rfl⟩) hHeld ?_
      (try simp only [Act.put, List.setIfInBounds_toArray, List.set_cons_zero, List.set_cons_succ])
      refine wpAnyH_take (i := 6) (oi := { dst := some 41, op := Op.move (Operand.tmp 0), type := 24, pos := "sort.go:167", after := #[{ on := 4, ground := Ground.guard }], guard := some (4, true) }) (v := undef) rfl (by kernel_rfl) (by kernel_rfl) (by kernel_rfl) (fun _ _ _ h => h) (Or.inr ⟨by rfl, rfl⟩) hHeld ?_
      (try simp only [Act.put, List.setIfInBounds_toArray, List.set_cons_zero, List.set_cons_succ])
      refine wpAnyH_take (i := 7) (oi := { dst := some 42, op := Op.move (Operand.tmp 9), type := 3, pos := "sort.go:167", after := #[{ on := 4, ground := Ground.guard }], guard := some (4, true) }) (v := undef) rfl (by kernel_rfl) (by kernel_rfl) (by kernel_rfl) (fun _ _ _ h => h) (Or.inr ⟨by rfl, rfl⟩) hHeld ?_
      (try simp only [Act.put, List.setIfInBounds_toArray, List.set_cons_zero, List.set_cons_succ])
      refine wpAnyH_take (i := 8) (oi := { dst := some 43, op := Op.indexAddr 24 (Operand.tmp 41) (Operand.tmp 42), type := 0, pos := "sort.go:167", after := #[{ on := 6, ground := Ground.data }, { on := 7, ground := Ground.data }, { on := 4, ground := Ground.guard }], guard := some (4, true) }) (v := undef) rfl (by kernel_rfl) (by kernel_rfl) (by kernel_rfl) (fun _ _ _ h => h) (Or.inr ⟨by rfl, rfl⟩) hHeld ?_
      (try simp only [Act.put, List.setIfInBounds_toArray, List.set_cons_zero, List.set_cons_succ])
      refine wpAnyH_take (i := 9) (oi := { dst := some 44, op := Op.load 68 (Operand.tmp 43), type := 68, pos := "sort.go:167", after := #[{ on := 8, ground := Ground.data }, { on := 4, ground := Ground.guard }], guard := some (4, true) }) (v := undef) rfl (by kernel_rfl) (by kernel_rfl) (by kernel_rfl) (fun _ _ _ h => h) (Or.inr ⟨by rfl, rfl⟩) hHeld ?_
      (try simp only [Act.put, List.setIfInBounds_toArray, List.set_cons_zero, List.set_cons_succ])
      refine wpAnyH_take (i := 10) (oi := { dst := some 45, op := Op.load 68 (Operand.tmp 4), type := 68, pos := "sort.go:167", after := #[{ on := 4, ground := Ground.guard }], guard := some (4, true) }) (v := undef) rfl (by kernel_rfl) (by kernel_rfl) (by kernel_rfl) (fun _ _ _ h => h) (Or.inr ⟨by rfl, rfl⟩) hHeld ?_
      (try simp only [Act.put, List.setIfInBounds_toArray, List.set_cons_zero, List.set_cons_succ])
      refine wpAnyH_take (i := 11) (oi := { dst := some 46, op := Op.call { callee := Callee.value (Operand.tmp 40), args := #[Operand.tmp 44, Operand.tmp 45], argTypes := #[68, 68] }, type := 3, pos := "sort.go:167", after := #[{ on := 5, ground := Ground.data }, { on := 9, ground := Ground.data }, { on := 10, ground := Ground.data }, { on := 4, ground := Ground.chain }, { on := 4, ground := Ground.guard }], guard := some (4, true) }) (v := undef) rfl (by kernel_rfl) (by kernel_rfl) (by kernel_rfl) (fun _ _ _ h => h) (Or.inr ⟨by rfl, rfl⟩) hHeld ?_
      (try simp only [Act.put, List.setIfInBounds_toArray, List.set_cons_zero, List.set_cons_succ])
      refine wpAnyH_take (i := 12) (oi := { dst := some 47, op := Op.binOp BinOp.eql 3 (Operand.tmp 46) (Operand.const (Value.int IntKind.i64 0)) 3, type := 4, pos := "sort.go:167", after := #[{ on := 11, ground := Ground.data }, { on := 4, ground := Ground.guard }, { on := 14, ground := Ground.gcOnly Departure.lateStores }], guard := some (4, true) }) (v := undef) rfl (by kernel_rfl) (by kernel_rfl) (by kernel_rfl) (fun _ _ _ h => h) (Or.inr ⟨by rfl, rfl⟩) hHeld ?_
      (try simp only [Act.put, List.setIfInBounds_toArray, List.set_cons_zero, List.set_cons_succ])
      refine wpAnyH_take (i := 13) (oi := { dst := some 48, op := Op.pick (Operand.tmp 39) (Operand.tmp 47) (Operand.const (Value.bool false)), type := 4, pos := "sort.go:167", after := #[{ on := 4, ground := Ground.data }, { on := 12, ground := Ground.data }, { on := 14, ground := Ground.gcOnly Departure.lateStores }], guard := none }) (v := ?_) rfl (by kernel_rfl) (by kernel_rfl) (by kernel_rfl) (fun _ _ _ h => h) (Or.inl ⟨by rfl, ?_⟩) hHeld ?_
      rotate_left 1
      · intro u hSu
        obtain ⟨q5, q6, q7, q8, q9⟩ := lk_facts (kept_row HB.out.1 hSu.out (by simp))
        go_simp
        first | done | with_reducible rfl
      (try simp only [Act.put, List.setIfInBounds_toArray, List.set_cons_zero, List.set_cons_succ])
      refine wpAnyH_take (i := 14) (oi := { dst := some 6, op := Op.assign (Operand.tmp 35), type := 3, pos := "sort.go:167", after := #[{ on := 0, ground := Ground.data }, { on := 11, ground := Ground.chain }, { on := 0, ground := Ground.phase }, { on := 1, ground := Ground.textOnly Departure.lateStores }, { on := 2, ground := Ground.textOnly Departure.lateStores }, { on := 3, ground := Ground.textOnly Departure.lateStores }, { on := 4, ground := Ground.textOnly Departure.lateStores }, { on := 5, ground := Ground.textOnly Departure.lateStores }, { on := 6, ground := Ground.textOnly Departure.lateStores }, { on := 7, ground := Ground.textOnly Departure.lateStores }, { on := 8, ground := Ground.textOnly Departure.lateStores }, { on := 9, ground := Ground.textOnly Departure.lateStores }, { on := 10, ground := Ground.textOnly Departure.lateStores }, { on := 11, ground := Ground.textOnly Departure.lateStoresUnsure }, { on := 12, ground := Ground.textOnly Departure.lateStores }, { on := 13, ground := Ground.textOnly Departure.lateStores }], guard := none }) (v := ?_) rfl (by kernel_rfl) (by kernel_rfl) (by kernel_rfl) (fun _ _ _ h => h) (Or.inl ⟨by rfl, ?_⟩) hHeld ?_
      rotate_left 1
      · intro u hSu
        obtain ⟨q5, q6, q7, q8, q9⟩ := lk_facts (kept_row HB.out.1 hSu.out (by simp))
        go_simp
        first | done | with_reducible rfl
      (try simp only [Act.put, List.setIfInBounds_toArray, List.set_cons_zero, List.set_cons_succ])
      refine wpAnyH_take (i := 15) (oi := { dst := some 7, op := Op.assign (Operand.tmp 48), type := 4, pos := "sort.go:167", after := #[{ on := 13, ground := Ground.data }, { on := 14, ground := Ground.chain }, { on := 0, ground := Ground.phase }, { on := 1, ground := Ground.phase }, { on := 2, ground := Ground.phase }, { on := 3, ground := Ground.phase }, { on := 4, ground := Ground.phase }, { on := 5, ground := Ground.phase }, { on := 6, ground := Ground.phase }, { on := 7, ground := Ground.phase }, { on := 8, ground := Ground.phase }, { on := 9, ground := Ground.phase }, { on := 10, ground := Ground.phase }, { on := 11, ground := Ground.phase }, { on := 12, ground := Ground.phase }, { on := 13, ground := Ground.phase }, { on := 14, ground := Ground.phase }], guard := none }) (v := ?_) rfl (by kernel_rfl) (by kernel_rfl) (by kernel_rfl) (fun _ _ _ h => h) (Or.inl ⟨by rfl, ?_⟩) hHeld ?_
      rotate_left 1
      · intro u hSu
        obtain ⟨q5, q6, q7, q8, q9⟩ := lk_facts (kept_row HB.out.1 hSu.out (by simp))
        go_simp
        first | done | with_reducible rfl
      (try simp only [Act.put, List.setIfInBounds_toArray, List.set_cons_zero, List.set_cons_succ])
      refine wpAnyH_done (by kernel_rfl) ?_ _
      have H9 := hHeld
      clear hHeld
      go_wp2_with fail
      go_ret2
      refine ⟨R.length, _, rfl, Lib.hid ⟨hJ, HI.out.1, HI.out.2, ?_⟩, grown_trans HB.out.2.1 H9.out⟩
      rw [List.getElem?_eq_none (Nat.le_refl _)]
end Go.Proofs.Ytiencdgmnkphjaa

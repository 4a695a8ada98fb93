/- Parts of the proof, packed: ShUse, ShRt, ShLay. -/
import Derived.Test.YtlefjdglcdopeaaAv10
import Derived.Test.YtlefjdglcdopeaaAv3
import Derived.Shelf.SlIterI.Sorted
import Derived.Shelf.SlSortCmp.Small
/- shortest.Next and Uses. -/
namespace Go.Proofs.Ytlefjdglcdopeaa
open Go.RowKit Go.Maps Bs
/-- The routers that come next on shortest paths from r to z. -/
noncomputable def nxt (R : List Rt) (L : List Lk) (r z : Int) : List Int := nextV L (fun x => dst R L x z) r
set_option maxRecDepth 100000 in
set_option maxHeartbeats 3200000 in
theorem tnextW_any (T : Tg) (a b : Int) (q : Nat → Prop) (w : World) (hT : TgOk w q T) (h1 : T.R.length ≤ 1000) (h2 : T.L.length ≤ 1000) (hp : T.pL = none → T.cL = 0) (ha : okT T.R T.L = true → I64 a) :
    Calls Try.prog 15 #[.agg #[.slice T.pR T.R.length T.cR, .slice T.pL T.L.length T.cL], .int .i64 a, .int .i64 b] w fun e w' => TRet (nxt T.R T.L a b) w e w' := by
  obtain ⟨R, L, pR, cR, pL, cL⟩ := T
  simp only at h1 h2 hp ha ⊢
  obtain ⟨k1, k2⟩ := tone_box w #[.slice pR R.length cR, .slice pL L.length cL] 28
  have HB := Lib.hid (And.intro k1 (And.intro k2 (hT.keep k2)))
  clear k1 k2 hT
  have HA := Lib.hid ha
  clear ha
  obtain ⟨X, hX⟩ : ∃ X, nxt R L a b = X := ⟨_, rfl⟩
  have HX := Lib.hid hX
  rw [hX]
  clear hX
  obtain ⟨wA, hwA⟩ : ∃ wA, w.alloc (.cells #[.slice pR R.length cR, .slice pL L.length cL] 28) = wA := ⟨_, rfl⟩
  go_enter Try.func15, Try.ntmps15
  go_upto_region 1 with fail
  rw [hwA] at HB
  clear hwA
  refine wp_region_held_drew (S := fun w' => Hid (wA.grownBy w' none)) (by kernel_rfl) (Lib.hid (grown_drew (grown_refl _ _))) (fun hHeld => ?_)
  refine wpAnyH_take (i := 0) (oi := { dst := some 7, op := Op.load 28 (Operand.tmp 3), type := 28, pos := "shortest.go:34", after := #[], guard := none }) (v := ?_) rfl (by kernel_rfl) (by kernel_rfl) (by kernel_rfl) (fun _ _ _ h => h) (Or.inl ⟨by rfl, ?_⟩) hHeld ?_
  rotate_left 1
  · intro u hSu
    obtain ⟨c0, c1⟩ := row_cells (kept_row HB.out.1 hSu.out (by simp))
    go_simp
    first | done | with_reducible rfl
  (try simp only [Act.put, List.setIfInBounds_toArray, List.set_cons_zero, List.set_cons_succ])
  refine wpAnyH_take (i := 1) (oi := { dst := some 8, op := Op.move (Operand.tmp 1), type := 3, pos := "shortest.go:34", after := #[], guard := none }) (v := ?_) rfl (by kernel_rfl) (by kernel_rfl) (by kernel_rfl) (fun _ _ _ h => h) (Or.inl ⟨by rfl, ?_⟩) hHeld ?_
  rotate_left 1
  · intro u hSu
    obtain ⟨c0, c1⟩ := row_cells (kept_row HB.out.1 hSu.out (by simp))
    go_simp
    first | done | with_reducible rfl
  (try simp only [Act.put, List.setIfInBounds_toArray, List.set_cons_zero, List.set_cons_succ])
  refine wpAnyH_take (i := 2) (oi := { dst := some 9, op := Op.load 28 (Operand.tmp 3), type := 28, pos := "shortest.go:34", after := #[], guard := none }) (v := ?_) rfl (by kernel_rfl) (by kernel_rfl) (by kernel_rfl) (fun _ _ _ h => h) (Or.inl ⟨by rfl, ?_⟩) hHeld ?_
  rotate_left 1
  · intro u hSu
    obtain ⟨c0, c1⟩ := row_cells (kept_row HB.out.1 hSu.out (by simp))
    go_simp
    first | done | with_reducible rfl
  (try simp only [Act.put, List.setIfInBounds_toArray, List.set_cons_zero, List.set_cons_succ])
  refine wpAnyH_take (i := 3) (oi := { dst := some 10, op := Op.move (Operand.tmp 2), type := 3, pos := "shortest.go:34", after := #[], guard := none }) (v := ?_) rfl (by kernel_rfl) (by kernel_rfl) (by kernel_rfl) (fun _ _ _ h => h) (Or.inl ⟨by rfl, ?_⟩) hHeld ?_
  rotate_left 1
  · intro u hSu
    obtain ⟨c0, c1⟩ := row_cells (kept_row HB.out.1 hSu.out (by simp))
    go_simp
    first | done | with_reducible rfl
  (try simp only [Act.put, List.setIfInBounds_toArray, List.set_cons_zero, List.set_cons_succ])
  refine wpAnyH_ready (rs := [4]) (by kernel_rfl) (by simp) ?_
  refine AllReadyH.cons (o := { dst := some 11, op := Op.call { callee := Callee.value (Operand.func 43), args := #[Operand.tmp 9, Operand.tmp 10], argTypes := #[28, 3] }, type := 69, pos := "shortest.go:34", after := #[{ on := 2, ground := Ground.data }, { on := 3, ground := Ground.data }], guard := none }) rfl (fun Kz hK => ?_) AllReadyH.nil
  go_simp
  go_at_call 43
  refine (tct_any ⟨R, L, pR, cR, pL, cL⟩ b _ _ (HB.out.2.2.keep hHeld.out) h1 h2 hp).mono ?_
  rintro e w5 ⟨v, rfl, hv, hg⟩
  have HV4 := Lib.hid hv
  clear hv
  refine hK.out _ _ (Lib.hid (grown_trans hHeld.out hg)) (fun hH2 => ?_)
  clear hK Kz hHeld
  have hHeld := hH2
  clear hH2
  (try simp only [Act.put, List.setIfInBounds_toArray, List.set_cons_zero, List.set_cons_succ])
  refine wpAnyH_ready (rs := [5]) (by kernel_rfl) (by simp) ?_
  refine AllReadyH.cons (o := { dst := some 12, op := Op.call { callee := Callee.value (Operand.func 42), args := #[Operand.tmp 7, Operand.tmp 8, Operand.tmp 11], argTypes := #[28, 3, 69] }, type := 22, pos := "shortest.go:34", after := #[{ on := 0, ground := Ground.data }, { on := 1, ground := Ground.data }, { on := 4, ground := Ground.data }, { on := 4, ground := Ground.chain }], guard := none }) rfl (fun Kz hK => ?_) AllReadyH.nil
  go_simp
  go_at_call 42
  refine (tnxW_any ⟨R, L, pR, cR, pL, cL⟩ a b v _ _ _ (HB.out.2.2.keep hHeld.out) h2 HA.out HV4.out).mono ?_
  rintro e w6 ⟨p6, c6, rfl, hr6, hc6, hn6, hg6⟩
  have hX2 : nextV L (fun x => dst R L x b) a = X := HX.out
  have hsz := (grown_trans HB.out.2.1 hHeld.out).size
  (try simp only at hr6 hc6)
  rw [hX2] at hr6 hc6 ⊢
  have HR : Hid (Rd w6 (w.heap.size ≤ ·) (.slice p6 X.length c6) (X.map tv) ∧ (X.length ≤ c6 ∧ c6 ≤ 9223372036854775807) ∧ (p6 = none → c6 = 0) ∧ True) := Lib.hid ⟨hr6.mono (fun b hb => Nat.le_trans hsz hb), hc6, hn6, trivial⟩
  clear hr6 hc6 hn6 hsz hX2
  refine hK.out _ _ (Lib.hid (grown_trans hHeld.out hg6)) (fun hH2 => ?_)
  clear hK Kz hHeld
  have hHeld := hH2
  clear hH2
  (try simp only [Act.put, List.setIfInBounds_toArray, List.set_cons_zero, List.set_cons_succ])
  refine wpAnyH_take (i := 6) (oi := { dst := some 6, op := Op.assign (Operand.tmp 12), type := 22, pos := "shortest.go:34", after := #[{ on := 5, ground := Ground.data }, { on := 5, ground := Ground.chain }, { on := 0, ground := Ground.phase }, { on := 1, ground := Ground.phase }, { on := 2, ground := Ground.phase }, { on := 3, ground := Ground.phase }, { on := 4, ground := Ground.phase }, { on := 5, ground := Ground.phase }], guard := none }) (v := ?_) rfl (by kernel_rfl) (by kernel_rfl) (by kernel_rfl) (fun _ _ _ h => h) (Or.inl ⟨by rfl, ?_⟩) hHeld ?_
  rotate_left 1
  · intro u hSu
    obtain ⟨c0, c1⟩ := row_cells (kept_row HB.out.1 hSu.out (by simp))
    go_simp
    first | done | with_reducible rfl
  (try simp only [Act.put, List.setIfInBounds_toArray, List.set_cons_zero, List.set_cons_succ])
  refine wpAnyH_done (by kernel_rfl) ?_ _
  have H9 := Lib.hid (grown_trans HB.out.2.1 hHeld.out)
  clear hHeld HB HV4
  go_wp2_with fail
  go_ret
  obtain ⟨g1, g2, g3, g4⟩ := HR.out
  exact ⟨_, _, rfl, g1, g2, g3, H9.out⟩
set_option maxRecDepth 100000 in
theorem tnext_any (T : Tg) (a b : Int) (q : Nat → Prop) (w : World) (hT : TgOk w q T) (h1 : T.R.length ≤ 1000) (h2 : T.L.length ≤ 1000) (hp : T.pL = none → T.cL = 0) (ha : I64 a) :
    Calls Try.prog 15 #[.agg #[.slice T.pR T.R.length T.cR, .slice T.pL T.L.length T.cL], .int .i64 a, .int .i64 b] w fun e w' => TRet (nxt T.R T.L a b) w e w' :=
  tnextW_any T a b q w hT h1 h2 hp (fun _ => ha)
/-- Some shortest path from a to b goes over the link from h to k. -/
noncomputable def usV (R : List Rt) (L : List Lk) (a b h k : Int) : Bool := psV R L a b h && hasI (nxt R L h b) k
set_option maxRecDepth 100000 in
set_option maxHeartbeats 6400000 in
theorem tusesW_any (T : Tg) (a b h k : Int) (q : Nat → Prop) (w : World) (hT : TgOk w q T) (h1 : T.R.length ≤ 1000) (h2 : T.L.length ≤ 1000) (hp : T.pL = none → T.cL = 0) (hb : I64 b) (hh : okT T.R T.L = true → I64 h) :
    Calls Try.prog 25 #[.agg #[.slice T.pR T.R.length T.cR, .slice T.pL T.L.length T.cL], .int .i64 a, .int .i64 b, .agg #[.int .i64 h, .int .i64 k]] w fun e w' => e = .returned (.bool (usV T.R T.L a b h k)) ∧ w.grownBy w' none := by
  obtain ⟨R, L, pR, cR, pL, cL⟩ := T
  simp only at h1 h2 hp hh ⊢
  obtain ⟨k1, k2⟩ := tone_box w #[.slice pR R.length cR, .slice pL L.length cL] 28
  have HB := Lib.hid (And.intro k1 (And.intro k2 (hT.keep k2)))
  clear k1 k2 hT
  have HA := Lib.hid (And.intro hb hh)
  clear hb hh
  obtain ⟨m1, m2⟩ := tone_box (w.alloc (.cells #[.slice pR R.length cR, .slice pL L.length cL] 28)) #[.int .i64 h, .int .i64 k] 41
  have HC := Lib.hid (And.intro (kept_row HB.out.1 m2 (by simp)) (And.intro m1 (And.intro (grown_trans HB.out.2.1 m2) (HB.out.2.2.keep m2))))
  clear m1 m2 HB
  obtain ⟨wA, hwA⟩ : ∃ wA, (w.alloc (.cells #[.slice pR R.length cR, .slice pL L.length cL] 28)).alloc (.cells #[.int .i64 h, .int .i64 k] 41) = wA := ⟨_, rfl⟩
  have hsz1 : (w.alloc (.cells #[.slice pR R.length cR, .slice pL L.length cL] 28)).heap.size = w.heap.size + 1 := by simp
  rw [hwA, hsz1] at HC
  clear hsz1
  obtain ⟨Y, hY⟩ : ∃ Y, usV R L a b h k = Y := ⟨_, rfl⟩
  have HY := Lib.hid hY
  rw [hY]
  clear hY
  cases hz : psV R L a b h with
  | false =>
    have HZ : Hid (psV R L a b h = false ∧ Y = false) := Lib.hid ⟨hz, by rw [← HY.out]; unfold usV; rw [hz]; rfl⟩
    clear hz
    go_enter Try.func25, Try.ntmps25
    go_upto_region 1 with fail
    clear hwA
    refine wp_region_held_drew (S := fun w' => Hid (wA.grownBy w' none)) (by kernel_rfl) (Lib.hid (grown_drew (grown_refl _ _))) (fun hHeld => ?_)
    refine wpAnyH_take (i := 0) (oi := { dst := some 9, op := Op.load 28 (Operand.tmp 4), type := 28, pos := "shortest.go:72", after := #[], guard := none }) (v := ?_) rfl (by kernel_rfl) (by kernel_rfl) (by kernel_rfl) (fun _ _ _ h => h) (Or.inl ⟨by rfl, ?_⟩) hHeld ?_
    rotate_left 1
    · intro u hSu
      obtain ⟨c0, c1⟩ := row_cells (kept_row HC.out.1 hSu.out (by simp))
      obtain ⟨d0, d1⟩ := row_cells (kept_row HC.out.2.1 hSu.out (by simp))
      go_simp
      first | done | with_reducible rfl
    (try simp only [Act.put, List.setIfInBounds_toArray, List.set_cons_zero, List.set_cons_succ])
    refine wpAnyH_take (i := 1) (oi := { dst := some 10, op := Op.move (Operand.tmp 1), type := 3, pos := "shortest.go:72", after := #[], guard := none }) (v := ?_) rfl (by kernel_rfl) (by kernel_rfl) (by kernel_rfl) (fun _ _ _ h => h) (Or.inl ⟨by rfl, ?_⟩) hHeld ?_
    rotate_left 1
    · intro u hSu
      obtain ⟨c0, c1⟩ := row_cells (kept_row HC.out.1 hSu.out (by simp))
      obtain ⟨d0, d1⟩ := row_cells (kept_row HC.out.2.1 hSu.out (by simp))
      go_simp
      first | done | with_reducible rfl
    (try simp only [Act.put, List.setIfInBounds_toArray, List.set_cons_zero, List.set_cons_succ])
    refine wpAnyH_take (i := 2) (oi := { dst := some 11, op := Op.move (Operand.tmp 2), type := 3, pos := "shortest.go:72", after := #[], guard := none }) (v := ?_) rfl (by kernel_rfl) (by kernel_rfl) (by kernel_rfl) (fun _ _ _ h => h) (Or.inl ⟨by rfl, ?_⟩) hHeld ?_
    rotate_left 1
    · intro u hSu
      obtain ⟨c0, c1⟩ := row_cells (kept_row HC.out.1 hSu.out (by simp))
      obtain ⟨d0, d1⟩ := row_cells (kept_row HC.out.2.1 hSu.out (by simp))
      go_simp
      first | done | with_reducible rfl
    (try simp only [Act.put, List.setIfInBounds_toArray, List.set_cons_zero, List.set_cons_succ])
    refine wpAnyH_take (i := 3) (oi := { dst := some 12, op := Op.fieldAddr 41 (Operand.tmp 7) 0, type := 0, pos := "shortest.go:72", after := #[], guard := none }) (v := ?_) rfl (by kernel_rfl) (by kernel_rfl) (by kernel_rfl) (fun _ _ _ h => h) (Or.inl ⟨by rfl, ?_⟩) hHeld ?_
    rotate_left 1
    · intro u hSu
      obtain ⟨c0, c1⟩ := row_cells (kept_row HC.out.1 hSu.out (by simp))
      obtain ⟨d0, d1⟩ := row_cells (kept_row HC.out.2.1 hSu.out (by simp))
      go_simp
      first | done | with_reducible rfl
    (try simp only [Act.put, List.setIfInBounds_toArray, List.set_cons_zero, List.set_cons_succ])
    refine wpAnyH_take (i := 4) (oi := { dst := some 13, op := Op.load 3 (Operand.tmp 12), type := 3, pos := "shortest.go:72", after := #[{ on := 3, ground := Ground.data }], guard := none }) (v := ?_) rfl (by kernel_rfl) (by kernel_rfl) (by kernel_rfl) (fun _ _ _ h => h) (Or.inl ⟨by rfl, ?_⟩) hHeld ?_
    rotate_left 1
    · intro u hSu
      obtain ⟨c0, c1⟩ := row_cells (kept_row HC.out.1 hSu.out (by simp))
      obtain ⟨d0, d1⟩ := row_cells (kept_row HC.out.2.1 hSu.out (by simp))
      go_simp
      first | done | with_reducible rfl
    (try simp only [Act.put, List.setIfInBounds_toArray, List.set_cons_zero, List.set_cons_succ])
    refine wpAnyH_ready (rs := [5]) (by kernel_rfl) (by simp) ?_
    refine AllReadyH.cons (o := { dst := some 14, op := Op.call { callee := Callee.value (Operand.func 53), args := #[Operand.tmp 9, Operand.tmp 10, Operand.tmp 11, Operand.tmp 13], argTypes := #[28, 3, 3, 3] }, type := 4, pos := "shortest.go:72", after := #[{ on := 0, ground := Ground.data }, { on := 1, ground := Ground.data }, { on := 2, ground := Ground.data }, { on := 4, ground := Ground.data }], guard := none }) rfl (fun Kz hK => ?_) AllReadyH.nil
    go_simp
    go_at_call 53
    refine (tpasW_any ⟨R, L, pR, cR, pL, cL⟩ a b h _ _ (HC.out.2.2.2.keep hHeld.out) h1 h2 HA.out.1 HA.out.2).mono ?_
    rintro e w5 ⟨rfl, hg⟩
    (try simp only)
    rw [HZ.out.1]
    refine hK.out _ _ (Lib.hid (grown_trans hHeld.out hg)) (fun hH2 => ?_)
    clear hK Kz hHeld
    have hHeld := hH2
    clear hH2
    (try simp only [Act.put, List.setIfInBounds_toArray, List.set_cons_zero, List.set_cons_succ])
    refine wpAnyH_take (i := 6) (oi := { dst := some 15, op := Op.move (Operand.tmp 14), type := 4, pos := "shortest.go:72", after := #[{ on := 5, ground := Ground.data }, { on := 5, ground := Ground.chain }], guard := none }) (v := ?_) rfl (by kernel_rfl) (by kernel_rfl) (by kernel_rfl) (fun _ _ _ h => h) (Or.inl ⟨by rfl, ?_⟩) hHeld ?_
    rotate_left 1
    · intro u hSu
      obtain ⟨c0, c1⟩ := row_cells (kept_row HC.out.1 hSu.out (by simp))
      obtain ⟨d0, d1⟩ := row_cells (kept_row HC.out.2.1 hSu.out (by simp))
      go_simp
      first | done | with_reducible rfl
    (try simp only [Act.put, List.setIfInBounds_toArray, List.set_cons_zero, List.set_cons_succ])
    refine wpAnyH_take (i := 7) (oi := { dst := some 16, op := Op.load 28 (Operand.tmp 4), type := 28, pos := "shortest.go:72", after := #[{ on := 6, ground := Ground.guard }], guard := some (6, true) }) (v := undef) rfl (by kernel_rfl) (by kernel_rfl) (by kernel_rfl) (fun _ _ _ h => h) (Or.inr ⟨by rfl, rfl⟩) hHeld ?_
    (try simp only [Act.put, List.setIfInBounds_toArray, List.set_cons_zero, List.set_cons_succ])
    refine wpAnyH_take (i := 8) (oi := { dst := some 17, op := Op.fieldAddr 41 (Operand.tmp 7) 0, type := 0, pos := "shortest.go:72", after := #[{ on := 6, ground := Ground.guard }], guard := some (6, true) }) (v := undef) rfl (by kernel_rfl) (by kernel_rfl) (by kernel_rfl) (fun _ _ _ h => h) (Or.inr ⟨by rfl, rfl⟩) hHeld ?_
    (try simp only [Act.put, List.setIfInBounds_toArray, List.set_cons_zero, List.set_cons_succ])
    refine wpAnyH_take (i := 9) (oi := { dst := some 18, op := Op.load 3 (Operand.tmp 17), type := 3, pos := "shortest.go:72", after := #[{ on := 8, ground := Ground.data }, { on := 6, ground := Ground.guard }], guard := some (6, true) }) (v := undef) rfl (by kernel_rfl) (by kernel_rfl) (by kernel_rfl) (fun _ _ _ h => h) (Or.inr ⟨by rfl, rfl⟩) hHeld ?_
    (try simp only [Act.put, List.setIfInBounds_toArray, List.set_cons_zero, List.set_cons_succ])
    refine wpAnyH_take (i := 10) (oi := { dst := some 19, op := Op.move (Operand.tmp 2), type := 3, pos := "shortest.go:72", after := #[{ on := 6, ground := Ground.guard }], guard := some (6, true) }) (v := undef) rfl (by kernel_rfl) (by kernel_rfl) (by kernel_rfl) (fun _ _ _ h => h) (Or.inr ⟨by rfl, rfl⟩) hHeld ?_
    (try simp only [Act.put, List.setIfInBounds_toArray, List.set_cons_zero, List.set_cons_succ])
    refine wpAnyH_take (i := 11) (oi := { dst := some 20, op := Op.call { callee := Callee.value (Operand.func 15), args := #[Operand.tmp 16, Operand.tmp 18, Operand.tmp 19], argTypes := #[28, 3, 3] }, type := 22, pos := "shortest.go:72", after := #[{ on := 7, ground := Ground.data }, { on := 9, ground := Ground.data }, { on := 10, ground := Ground.data }, { on := 6, ground := Ground.chain }, { on := 6, ground := Ground.guard }], guard := some (6, true) }) (v := undef) rfl (by kernel_rfl) (by kernel_rfl) (by kernel_rfl) (fun _ _ _ h => h) (Or.inr ⟨by rfl, rfl⟩) hHeld ?_
    (try simp only [Act.put, List.setIfInBounds_toArray, List.set_cons_zero, List.set_cons_succ])
    refine wpAnyH_take (i := 12) (oi := { dst := some 21, op := Op.fieldAddr 41 (Operand.tmp 7) 1, type := 0, pos := "shortest.go:72", after := #[{ on := 6, ground := Ground.guard }], guard := some (6, true) }) (v := undef) rfl (by kernel_rfl) (by kernel_rfl) (by kernel_rfl) (fun _ _ _ h => h) (Or.inr ⟨by rfl, rfl⟩) hHeld ?_
    (try simp only [Act.put, List.setIfInBounds_toArray, List.set_cons_zero, List.set_cons_succ])
    refine wpAnyH_take (i := 13) (oi := { dst := some 22, op := Op.load 3 (Operand.tmp 21), type := 3, pos := "shortest.go:72", after := #[{ on := 12, ground := Ground.data }, { on := 6, ground := Ground.guard }], guard := some (6, true) }) (v := undef) rfl (by kernel_rfl) (by kernel_rfl) (by kernel_rfl) (fun _ _ _ h => h) (Or.inr ⟨by rfl, rfl⟩) hHeld ?_
    (try simp only [Act.put, List.setIfInBounds_toArray, List.set_cons_zero, List.set_cons_succ])
    refine wpAnyH_take (i := 14) (oi := { dst := some 23, op := Op.call { callee := Callee.value (Operand.func 54), args := #[Operand.tmp 20, Operand.tmp 22], argTypes := #[22, 3] }, type := 4, pos := "shortest.go:72", after := #[{ on := 11, ground := Ground.data }, { on := 13, ground := Ground.data }, { on := 11, ground := Ground.chain }, { on := 6, ground := Ground.guard }], guard := some (6, true) }) (v := undef) rfl (by kernel_rfl) (by kernel_rfl) (by kernel_rfl) (fun _ _ _ h => h) (Or.inr ⟨by rfl, rfl⟩) hHeld ?_
    (try simp only [Act.put, List.setIfInBounds_toArray, List.set_cons_zero, List.set_cons_succ])
    refine wpAnyH_take (i := 15) (oi := { dst := some 24, op := Op.pick (Operand.tmp 15) (Operand.tmp 23) (Operand.const (Value.bool false)), type := 4, pos := "shortest.go:72", after := #[{ on := 6, ground := Ground.data }, { on := 14, ground := Ground.data }], guard := none }) (v := ?_) rfl (by kernel_rfl) (by kernel_rfl) (by kernel_rfl) (fun _ _ _ h => h) (Or.inl ⟨by rfl, ?_⟩) hHeld ?_
    rotate_left 1
    · intro u hSu
      obtain ⟨c0, c1⟩ := row_cells (kept_row HC.out.1 hSu.out (by simp))
      obtain ⟨d0, d1⟩ := row_cells (kept_row HC.out.2.1 hSu.out (by simp))
      go_simp
      first | done | with_reducible rfl
    (try simp only [Act.put, List.setIfInBounds_toArray, List.set_cons_zero, List.set_cons_succ])
    refine wpAnyH_take (i := 16) (oi := { dst := some 8, op := Op.assign (Operand.tmp 24), type := 4, pos := "shortest.go:72", after := #[{ on := 15, ground := Ground.data }, { on := 14, ground := Ground.chain }, { on := 0, ground := Ground.phase }, { on := 1, ground := Ground.phase }, { on := 2, ground := Ground.phase }, { on := 3, ground := Ground.phase }, { on := 4, ground := Ground.phase }, { on := 5, ground := Ground.phase }, { on := 6, ground := Ground.phase }, { on := 7, ground := Ground.phase }, { on := 8, ground := Ground.phase }, { on := 9, ground := Ground.phase }, { on := 10, ground := Ground.phase }, { on := 11, ground := Ground.phase }, { on := 12, ground := Ground.phase }, { on := 13, ground := Ground.phase }, { on := 14, ground := Ground.phase }, { on := 15, ground := Ground.phase }], guard := none }) (v := ?_) rfl (by kernel_rfl) (by kernel_rfl) (by kernel_rfl) (fun _ _ _ h => h) (Or.inl ⟨by rfl, ?_⟩) hHeld ?_
    rotate_left 1
    · intro u hSu
      obtain ⟨c0, c1⟩ := row_cells (kept_row HC.out.1 hSu.out (by simp))
      obtain ⟨d0, d1⟩ := row_cells (kept_row HC.out.2.1 hSu.out (by simp))
      go_simp
      first | done | with_reducible rfl
    (try simp only [Act.put, List.setIfInBounds_toArray, List.set_cons_zero, List.set_cons_succ])
    refine wpAnyH_done (by kernel_rfl) ?_ _
    have H9 := Lib.hid (grown_trans HC.out.2.2.1 hHeld.out)
    clear hHeld HC
    go_wp2_with fail
    go_ret
    rw [HZ.out.2]
    exact ⟨rfl, H9.out⟩
  | true =>
    have HZ : Hid (psV R L a b h = true ∧ Y = hasI (nxt R L h b) k) := Lib.hid ⟨hz, by rw [← HY.out]; unfold usV; rw [hz]; rfl⟩
    clear hz
    obtain ⟨X, hX⟩ : ∃ X, nxt R L h b = X := ⟨_, rfl⟩
    have HX := Lib.hid hX
    rw [hX] at HZ
    clear hX
    go_enter Try.func25, Try.ntmps25
    go_upto_region 1 with fail
    clear hwA
    refine wp_region_held_drew (S := fun w' => Hid (wA.grownBy w' none)) (by kernel_rfl) (Lib.hid (grown_drew (grown_refl _ _))) (fun hHeld => ?_)
    refine wpAnyH_take (i := 0) (oi := { dst := some 9, op := Op.load 28 (Operand.tmp 4), type := 28, pos := "shortest.go:72", after := #[], guard := none }) (v := ?_) rfl (by kernel_rfl) (by kernel_rfl) (by kernel_rfl) (fun _ _ _ h => h) (Or.inl ⟨by rfl, ?_⟩) hHeld ?_
    rotate_left 1
    · intro u hSu
      obtain ⟨c0, c1⟩ := row_cells (kept_row HC.out.1 hSu.out (by simp))
      obtain ⟨d0, d1⟩ := row_cells (kept_row HC.out.2.1 hSu.out (by simp))
      go_simp
      first | done | with_reducible rfl
    (try simp only [Act.put, List.setIfInBounds_toArray, List.set_cons_zero, List.set_cons_succ])
    refine wpAnyH_take (i := 1) (oi := { dst := some 10, op := Op.move (Operand.tmp 1), type := 3, pos := "shortest.go:72", after := #[], guard := none }) (v := ?_) rfl (by kernel_rfl) (by kernel_rfl) (by kernel_rfl) (fun _ _ _ h => h) (Or.inl ⟨by rfl, ?_⟩) hHeld ?_
    rotate_left 1
    · intro u hSu
      obtain ⟨c0, c1⟩ := row_cells (kept_row HC.out.1 hSu.out (by simp))
      obtain ⟨d0, d1⟩ := row_cells (kept_row HC.out.2.1 hSu.out (by simp))
      go_simp
      first | done | with_reducible rfl
    (try simp only [Act.put, List.setIfInBounds_toArray, List.set_cons_zero, List.set_cons_succ])
    refine wpAnyH_take (i := 2) (oi := { dst := some 11, op := Op.move (Operand.tmp 2), type := 3, pos := "shortest.go:72", after := #[], guard := none }) (v := ?_) rfl (by kernel_rfl) (by kernel_rfl) (by kernel_rfl) (fun _ _ _ h => h) (Or.inl ⟨by rfl, ?_⟩) hHeld ?_
    rotate_left 1
    · intro u hSu
      obtain ⟨c0, c1⟩ := row_cells (kept_row HC.out.1 hSu.out (by simp))
      obtain ⟨d0, d1⟩ := row_cells (kept_row HC.out.2.1 hSu.out (by simp))
      go_simp
      first | done | with_reducible rfl
    (try simp only [Act.put, List.setIfInBounds_toArray, List.set_cons_zero, List.set_cons_succ])
    refine wpAnyH_take (i := 3) (oi := { dst := some 12, op := Op.fieldAddr 41 (Operand.tmp 7) 0, type := 0, pos := "shortest.go:72", after := #[], guard := none }) (v := ?_) rfl (by kernel_rfl) (by kernel_rfl) (by kernel_rfl) (fun _ _ _ h => h) (Or.inl ⟨by rfl, ?_⟩) hHeld ?_
    rotate_left 1
    · intro u hSu
      obtain ⟨c0, c1⟩ := row_cells (kept_row HC.out.1 hSu.out (by simp))
      obtain ⟨d0, d1⟩ := row_cells (kept_row HC.out.2.1 hSu.out (by simp))
      go_simp
      first | done | with_reducible rfl
    (try simp only [Act.put, List.setIfInBounds_toArray, List.set_cons_zero, List.set_cons_succ])
    refine wpAnyH_take (i := 4) (oi := { dst := some 13, op := Op.load 3 (Operand.tmp 12), type := 3, pos := "shortest.go:72", after := #[{ on := 3, ground := Ground.data }], guard := none }) (v := ?_) rfl (by kernel_rfl) (by kernel_rfl) (by kernel_rfl) (fun _ _ _ h => h) (Or.inl ⟨by rfl, ?_⟩) hHeld ?_
    rotate_left 1
    · intro u hSu
      obtain ⟨c0, c1⟩ := row_cells (kept_row HC.out.1 hSu.out (by simp))
      obtain ⟨d0, d1⟩ := row_cells (kept_row HC.out.2.1 hSu.out (by simp))
      go_simp
      first | done | with_reducible rfl
    (try simp only [Act.put, List.setIfInBounds_toArray, List.set_cons_zero, List.set_cons_succ])
    refine wpAnyH_ready (rs := [5]) (by kernel_rfl) (by simp) ?_
    refine AllReadyH.cons (o := { dst := some 14, op := Op.call { callee := Callee.value (Operand.func 53), args := #[Operand.tmp 9, Operand.tmp 10, Operand.tmp 11, Operand.tmp 13], argTypes := #[28, 3, 3, 3] }, type := 4, pos := "shortest.go:72", after := #[{ on := 0, ground := Ground.data }, { on := 1, ground := Ground.data }, { on := 2, ground := Ground.data }, { on := 4, ground := Ground.data }], guard := none }) rfl (fun Kz hK => ?_) AllReadyH.nil
    go_simp
    go_at_call 53
    refine (tpasW_any ⟨R, L, pR, cR, pL, cL⟩ a b h _ _ (HC.out.2.2.2.keep hHeld.out) h1 h2 HA.out.1 HA.out.2).mono ?_
    rintro e w5 ⟨rfl, hg⟩
    (try simp only)
    rw [HZ.out.1]
    refine hK.out _ _ (Lib.hid (grown_trans hHeld.out hg)) (fun hH2 => ?_)
    clear hK Kz hHeld
    have hHeld := hH2
    clear hH2
    (try simp only [Act.put, List.setIfInBounds_toArray, List.set_cons_zero, List.set_cons_succ])
    refine wpAnyH_take (i := 6) (oi := { dst := some 15, op := Op.move (Operand.tmp 14), type := 4, pos := "shortest.go:72", after := #[{ on := 5, ground := Ground.data }, { on := 5, ground := Ground.chain }], guard := none }) (v := ?_) rfl (by kernel_rfl) (by kernel_rfl) (by kernel_rfl) (fun _ _ _ h => h) (Or.inl ⟨by rfl, ?_⟩) hHeld ?_
    rotate_left 1
    · intro u hSu
      obtain ⟨c0, c1⟩ := row_cells (kept_row HC.out.1 hSu.out (by simp))
      obtain ⟨d0, d1⟩ := row_cells (kept_row HC.out.2.1 hSu.out (by simp))
      go_simp
      first | done | with_reducible rfl
    (try simp only [Act.put, List.setIfInBounds_toArray, List.set_cons_zero, List.set_cons_succ])
    refine wpAnyH_take (i := 7) (oi := { dst := some 16, op := Op.load 28 (Operand.tmp 4), type := 28, pos := "shortest.go:72", after := #[{ on := 6, ground := Ground.guard }], guard := some (6, true) }) (v := ?_) rfl (by kernel_rfl) (by kernel_rfl) (by kernel_rfl) (fun _ _ _ h => h) (Or.inl ⟨by rfl, ?_⟩) hHeld ?_
    rotate_left 1
    · intro u hSu
      obtain ⟨c0, c1⟩ := row_cells (kept_row HC.out.1 hSu.out (by simp))
      obtain ⟨d0, d1⟩ := row_cells (kept_row HC.out.2.1 hSu.out (by simp))
      go_simp
      first | done | with_reducible rfl
    (try simp only [Act.put, List.setIfInBounds_toArray, List.set_cons_zero, List.set_cons_succ])
    refine wpAnyH_take (i := 8) (oi := { dst := some 17, op := Op.fieldAddr 41 (Operand.tmp 7) 0, type := 0, pos := "shortest.go:72", after := #[{ on := 6, ground := Ground.guard }], guard := some (6, true) }) (v := ?_) rfl (by kernel_rfl) (by kernel_rfl) (by kernel_rfl) (fun _ _ _ h => h) (Or.inl ⟨by rfl, ?_⟩) hHeld ?_
    rotate_left 1
    · intro u hSu
      obtain ⟨c0, c1⟩ := row_cells (kept_row HC.out.1 hSu.out (by simp))
      obtain ⟨d0, d1⟩ := row_cells (kept_row HC.out.2.1 hSu.out (by simp))
      go_simp
      first | done | with_reducible rfl
    (try simp only [Act.put, List.setIfInBounds_toArray, List.set_cons_zero, List.set_cons_succ])
    refine wpAnyH_take (i := 9) (oi := { dst := some 18, op := Op.load 3 (Operand.tmp 17), type := 3, pos := "shortest.go:72", after := #[{ on := 8, ground := Ground.data }, { on := 6, ground := Ground.guard }], guard := some (6, true) }) (v := ?_) rfl (by kernel_rfl) (by kernel_rfl) (by kernel_rfl) (fun _ _ _ h => h) (Or.inl ⟨by rfl, ?_⟩) hHeld ?_
    rotate_left 1
    · intro u hSu
      obtain ⟨c0, c1⟩ := row_cells (kept_row HC.out.1 hSu.out (by simp))
      obtain ⟨d0, d1⟩ := row_cells (kept_row HC.out.2.1 hSu.out (by simp))
      go_simp
      first | done | with_reducible rfl
    (try simp only [Act.put, List.setIfInBounds_toArray, List.set_cons_zero, List.set_cons_succ])
    refine wpAnyH_take (i := 10) (oi := { dst := some 19, op := Op.move (Operand.tmp 2), type := 3, pos := "shortest.go:72", after := #[{ on := 6, ground := Ground.guard }], guard := some (6, true) }) (v := ?_) rfl (by kernel_rfl) (by kernel_rfl) (by kernel_rfl) (fun _ _ _ h => h) (Or.inl ⟨by rfl, ?_⟩) hHeld ?_
    rotate_left 1
    · intro u hSu
      obtain ⟨c0, c1⟩ := row_cells (kept_row HC.out.1 hSu.out (by simp))
      obtain ⟨d0, d1⟩ := row_cells (kept_row HC.out.2.1 hSu.out (by simp))
      go_simp
      first | done | with_reducible rfl
    (try simp only [Act.put, List.setIfInBounds_toArray, List.set_cons_zero, List.set_cons_succ])
    refine wpAnyH_take (i := 12) (oi := { dst := some 21, op := Op.fieldAddr 41 (Operand.tmp 7) 1, type := 0, pos := "shortest.go:72", after := #[{ on := 6, ground := Ground.guard }], guard := some (6, true) }) (v := ?_) rfl (by kernel_rfl) (by kernel_rfl) (by kernel_rfl) (fun _ _ _ h => h) (Or.inl ⟨by rfl, ?_⟩) hHeld ?_
    rotate_left 1
    · intro u hSu
      obtain ⟨c0, c1⟩ := row_cells (kept_row HC.out.1 hSu.out (by simp))
      obtain ⟨d0, d1⟩ := row_cells (kept_row HC.out.2.1 hSu.out (by simp))
      go_simp
      first | done | with_reducible rfl
    (try simp only [Act.put, List.setIfInBounds_toArray, List.set_cons_zero, List.set_cons_succ])
    refine wpAnyH_take (i := 13) (oi := { dst := some 22, op := Op.load 3 (Operand.tmp 21), type := 3, pos := "shortest.go:72", after := #[{ on := 12, ground := Ground.data }, { on := 6, ground := Ground.guard }], guard := some (6, true) }) (v := ?_) rfl (by kernel_rfl) (by kernel_rfl) (by kernel_rfl) (fun _ _ _ h => h) (Or.inl ⟨by rfl, ?_⟩) hHeld ?_
    rotate_left 1
    · intro u hSu
      obtain ⟨c0, c1⟩ := row_cells (kept_row HC.out.1 hSu.out (by simp))
      obtain ⟨d0, d1⟩ := row_cells (kept_row HC.out.2.1 hSu.out (by simp))
      go_simp
      first | done | with_reducible rfl
    (try simp only [Act.put, List.setIfInBounds_toArray, List.set_cons_zero, List.set_cons_succ])
    refine wpAnyH_ready (rs := [11]) (by kernel_rfl) (by simp) ?_
    refine AllReadyH.cons (o := { dst := some 20, op := Op.call { callee := Callee.value (Operand.func 15), args := #[Operand.tmp 16, Operand.tmp 18, Operand.tmp 19], argTypes := #[28, 3, 3] }, type := 22, pos := "shortest.go:72", after := #[{ on := 7, ground := Ground.data }, { on := 9, ground := Ground.data }, { on := 10, ground := Ground.data }, { on := 6, ground := Ground.chain }, { on := 6, ground := Ground.guard }], guard := some (6, true) }) rfl (fun Kz hK => ?_) AllReadyH.nil
    go_simp
    go_at_call 15
    refine (tnextW_any ⟨R, L, pR, cR, pL, cL⟩ h b _ _ (HC.out.2.2.2.keep hHeld.out) h1 h2 hp HA.out.2).mono ?_
    rintro e w6 ⟨p6, c6, rfl, hr6, hc6, hn6, hg6⟩
    (try simp only at hr6 hc6)
    rw [HX.out] at hr6 hc6 ⊢
    have HR := Lib.hid (And.intro hr6 hc6)
    clear hr6 hc6 hn6
    refine hK.out _ _ (Lib.hid (grown_trans hHeld.out hg6)) (fun hH2 => ?_)
    clear hK Kz hHeld
    have hHeld := hH2
    clear hH2
    (try simp only [Act.put, List.setIfInBounds_toArray, List.set_cons_zero, List.set_cons_succ])
    refine wpAnyH_ready (rs := [14]) (by kernel_rfl) (by simp) ?_
    refine AllReadyH.cons (o := { dst := some 23, op := Op.call { callee := Callee.value (Operand.func 54), args := #[Operand.tmp 20, Operand.tmp 22], argTypes := #[22, 3] }, type := 4, pos := "shortest.go:72", after := #[{ on := 11, ground := Ground.data }, { on := 13, ground := Ground.data }, { on := 11, ground := Ground.chain }, { on := 6, ground := Ground.guard }], guard := some (6, true) }) rfl (fun Kz hK => ?_) AllReadyH.nil
    go_simp
    go_at_call 54
    refine (tcint_any X k p6 c6 _ _ HR.out.1 (by have := HR.out.2; omega)).mono ?_
    rintro e w7 ⟨rfl, rfl⟩
    have HN : Hid True := Lib.hid trivial
    refine hK.out _ _ (hHeld) (fun hH2 => ?_)
    clear hK Kz hHeld
    have hHeld := hH2
    clear hH2
    (try simp only [Act.put, List.setIfInBounds_toArray, List.set_cons_zero, List.set_cons_succ])
    refine wpAnyH_take (i := 15) (oi := { dst := some 24, op := Op.pick (Operand.tmp 15) (Operand.tmp 23) (Operand.const (Value.bool false)), type := 4, pos := "shortest.go:72", after := #[{ on := 6, ground := Ground.data }, { on := 14, ground := Ground.data }], guard := none }) (v := ?_) rfl (by kernel_rfl) (by kernel_rfl) (by kernel_rfl) (fun _ _ _ h => h) (Or.inl ⟨by rfl, ?_⟩) hHeld ?_
    rotate_left 1
    · intro u hSu
      obtain ⟨c0, c1⟩ := row_cells (kept_row HC.out.1 hSu.out (by simp))
      obtain ⟨d0, d1⟩ := row_cells (kept_row HC.out.2.1 hSu.out (by simp))
      go_simp
      first | done | with_reducible rfl
    (try simp only [Act.put, List.setIfInBounds_toArray, List.set_cons_zero, List.set_cons_succ])
    refine wpAnyH_take (i := 16) (oi := { dst := some 8, op := Op.assign (Operand.tmp 24), type := 4, pos := "shortest.go:72", after := #[{ on := 15, ground := Ground.data }, { on := 14, ground := Ground.chain }, { on := 0, ground := Ground.phase }, { on := 1, ground := Ground.phase }, { on := 2, ground := Ground.phase }, { on := 3, ground := Ground.phase }, { on := 4, ground := Ground.phase }, { on := 5, ground := Ground.phase }, { on := 6, ground := Ground.phase }, { on := 7, ground := Ground.phase }, { on := 8, ground := Ground.phase }, { on := 9, ground := Ground.phase }, { on := 10, ground := Ground.phase }, { on := 11, ground := Ground.phase }, { on := 12, ground := Ground.phase }, { on := 13, ground := Ground.phase }, { on := 14, ground := Ground.phase }, { on := 15, ground := Ground.phase }], guard := none }) (v := ?_) rfl (by kernel_rfl) (by kernel_rfl) (by kernel_rfl) (fun _ _ _ h => h) (Or.inl ⟨by rfl, ?_⟩) hHeld ?_
    rotate_left 1
    · intro u hSu
      obtain ⟨c0, c1⟩ := row_cells (kept_row HC.out.1 hSu.out (by simp))
      obtain ⟨d0, d1⟩ := row_cells (kept_row HC.out.2.1 hSu.out (by simp))
      go_simp
      first | done | with_reducible rfl
    (try simp only [Act.put, List.setIfInBounds_toArray, List.set_cons_zero, List.set_cons_succ])
    refine wpAnyH_done (by kernel_rfl) ?_ _
    have H9 := Lib.hid (grown_trans HC.out.2.2.1 hHeld.out)
    clear hHeld HC
    go_wp2_with fail
    go_ret
    rw [HZ.out.2]
    exact ⟨rfl, H9.out⟩
set_option maxRecDepth 100000 in
theorem tuses_any (T : Tg) (a b h k : Int) (q : Nat → Prop) (w : World) (hT : TgOk w q T) (h1 : T.R.length ≤ 1000) (h2 : T.L.length ≤ 1000) (hp : T.pL = none → T.cL = 0) (hb : I64 b) (hh : I64 h) :
    Calls Try.prog 25 #[.agg #[.slice T.pR T.R.length T.cR, .slice T.pL T.L.length T.cL], .int .i64 a, .int .i64 b, .agg #[.int .i64 h, .int .i64 k]] w fun e w' => e = .returned (.bool (usV T.R T.L a b h k)) ∧ w.grownBy w' none :=
  tusesW_any T a b h k q w hT h1 h2 hp hb (fun _ => hh)
end Go.Proofs.Ytlefjdglcdopeaa

/- shortest.Route. -/
namespace Go.Proofs.Ytlefjdglcdopeaa
open Go.RowKit Go.Maps Bs
set_option maxRecDepth 100000 in
theorem to_iff {R : List Rt} {L : List Lk} {z v d : Int} (h : hasV R L z = true) : dst R L v z = some d ↔ IsD (flipL L) z v d := by
  rw [← dst_flip, dst_some, hasV_flip]
  exact ⟨fun k => k.2, fun k => ⟨h, k⟩⟩
set_option maxRecDepth 100000 in
theorem hasV_end {R : List Rt} {L : List Lk} {r z d : Int} (h : dst R L r z = some d) : hasV R L z = true := by
  obtain ⟨h1, -, h3⟩ := dst_both h
  exact hasV_iff.2 ⟨h1, h3⟩
set_option maxRecDepth 100000 in
theorem nxt_step {R : List Rt} {L : List Lk} {r z u : Int} (h : u ∈ nxt R L r z) : ∃ d x c, dst R L r z = some d ∧ dst R L u z = some x ∧ c + x = d ∧ 1 ≤ c ∧ edg L r u c := by
  have h0 := h
  unfold nxt at h
  have hz : hasV R L z = true := by
    unfold nextV at h
    obtain ⟨⟨v, c⟩, hm, rfl⟩ := List.mem_map.1 h
    obtain ⟨-, h2⟩ := List.mem_filter.1 hm
    simp only at h2
    cases hv : dst R L v z with
    | none => rw [hv] at h2; cases h2
    | some x => exact hasV_end hv
  have hp := (okT_g (hasV_iff.1 hz).1).pos
  cases hr : dst R L r z with
  | none =>
    have := next_none (f := fun x => dst R L x z) hp (fun v x hx => (dst_bd hx).1.1) hr
    rw [this] at h
    cases h
  | some d =>
    obtain ⟨x, c, h1, h2, h3, -⟩ := next_lt (f := fun x => dst R L x z) hp hr h
    exact ⟨d, x, c, rfl, h1, h3, hp.edg h2, h2⟩
set_option maxRecDepth 100000 in
theorem nxt_ne {R : List Rt} {L : List Lk} {r z d : Int} (h : dst R L r z = some d) (hr : r ≠ z) : nxt R L r z ≠ [] :=
  next_some (f := fun x => dst R L x z) (fun _ _ => to_iff (hasV_end h)) h hr
/-- How far r is from z, as a number. -/
noncomputable def far (R : List Rt) (L : List Lk) (z r : Int) : Nat := ((dst R L r z).getD 0).toNat
set_option maxRecDepth 100000 in
theorem far_step {R : List Rt} {L : List Lk} {r z u : Int} (h : u ∈ nxt R L r z) : far R L z u < far R L z r := by
  obtain ⟨d, x, c, h1, h2, h3, h4, -⟩ := nxt_step h
  unfold far
  rw [h1, h2]
  simp only [Option.getD_some]
  have := (dst_bd h2).1
  omega
/-- The way by the first of the next routers. -/
noncomputable def pth (R : List Rt) (L : List Lk) (z : Int) : Nat → Int → List Int
  | 0, _ => []
  | n + 1, r => if r = z then [] else match nxt R L r z with
    | [] => []
    | u :: _ => u :: pth R L z n u
set_option maxRecDepth 100000 in
theorem pth_fuel (R : List Rt) (L : List Lk) (z : Int) : ∀ (n m : Nat) (r : Int), far R L z r ≤ n → far R L z r ≤ m → pth R L z n r = pth R L z m r := by
  have zero : ∀ (m : Nat) (r : Int), far R L z r = 0 → pth R L z m r = [] := fun m r h => by
    cases m with
    | zero => rfl
    | succ m =>
      unfold pth
      by_cases hr : r = z
      · rw [if_pos hr]
      · rw [if_neg hr]
        cases hn : nxt R L r z with
        | nil => rfl
        | cons u t =>
          have := far_step (R := R) (L := L) (z := z) (r := r) (u := u) (by rw [hn]; simp)
          omega
  intro n
  induction n with
  | zero => intro m r h1 _; rw [zero m r (by omega)]; rfl
  | succ n ih =>
    intro m r h1 h2
    cases m with
    | zero => rw [zero _ r (by omega)]; rfl
    | succ m =>
      unfold pth
      by_cases hr : r = z
      · rw [if_pos hr, if_pos hr]
      · rw [if_neg hr, if_neg hr]
        cases hn : nxt R L r z with
        | nil => rfl
        | cons u t =>
          have := far_step (R := R) (L := L) (z := z) (r := r) (u := u) (by rw [hn]; simp)
          simp only
          rw [ih m u (by omega) (by omega)]
noncomputable def rtV (R : List Rt) (L : List Lk) (z r : Int) : List Int := pth R L z (far R L z r) r
set_option maxRecDepth 100000 in
theorem rtV_end (R : List Rt) (L : List Lk) (z : Int) : rtV R L z z = [] := by
  unfold rtV
  cases far R L z z with
  | zero => rfl
  | succ n => unfold pth; rw [if_pos rfl]
set_option maxRecDepth 100000 in
theorem rtV_stop {R : List Rt} {L : List Lk} {z r : Int} (h : nxt R L r z = []) : rtV R L z r = [] := by
  unfold rtV
  cases far R L z r with
  | zero => rfl
  | succ n =>
    unfold pth
    rw [h]
    split <;> rfl
set_option maxRecDepth 100000 in
theorem rtV_step {R : List Rt} {L : List Lk} {z r u : Int} {t : List Int} (hr : r ≠ z) (h : nxt R L r z = u :: t) : rtV R L z r = u :: rtV R L z u := by
  have hf := far_step (R := R) (L := L) (z := z) (r := r) (u := u) (by rw [h]; simp)
  unfold rtV
  cases hn : far R L z r with
  | zero => omega
  | succ n =>
    conv => lhs; unfold pth
    rw [if_neg hr, h]
    simp only
    rw [pth_fuel R L z n (far R L z u) u (by omega) (Nat.le_refl _)]
set_option maxRecDepth 100000 in
theorem far_le (R : List Rt) (L : List Lk) (z r : Int) : far R L z r ≤ 24000 := by
  unfold far
  have := getD_bd (R := R) (L := L) (a := r) (b := z)
  omega
/-- What Route's loop keeps. -/
structure RK (R : List Rt) (L : List Lk) (z : Int) (X : List Int) (l : List Int) (r : Int) : Prop where
  eq : l ++ rtV R L z r = X
  some_ : l = [] ∨ (dst R L r z).isSome = true
  len : l.length + far R L z r ≤ 24000
set_option maxRecDepth 100000 in
theorem RK.step {R : List Rt} {L : List Lk} {z r u : Int} {X l t : List Int} (h : RK R L z X l r) (hr : r ≠ z) (hn : nxt R L r z = u :: t) : RK R L z X (l ++ [u]) u ∧ far R L z u < far R L z r ∧ I64 u := by
  have hm : u ∈ nxt R L r z := by rw [hn]; simp
  have hf := far_step hm
  obtain ⟨d, x, c, h1, h2, -⟩ := nxt_step hm
  refine ⟨⟨?_, .inr (by rw [h2]; rfl), ?_⟩, hf, ?_⟩
  · rw [List.append_assoc, List.singleton_append, ← rtV_step hr hn]
    exact h.eq
  · rw [List.length_append, List.length_singleton]
    have := h.len
    omega
  · have := (dst_bd h2).2.1
    unfold I64
    omega
set_option maxRecDepth 100000 in
theorem RK.stop {R : List Rt} {L : List Lk} {z r : Int} {X l : List Int} (h : RK R L z X l r) (hr : r ≠ z) (hn : nxt R L r z = []) : X = [] := by
  have h1 := h.eq
  rw [rtV_stop hn, List.append_nil] at h1
  rcases h.some_ with h2 | h2
  · rw [← h1, h2]
  · cases hd : dst R L r z with
    | none => rw [hd] at h2; cases h2
    | some d => exact absurd hn (nxt_ne hd hr)
set_option maxRecDepth 100000 in
theorem RK.fin {R : List Rt} {L : List Lk} {z : Int} {X l : List Int} (h : RK R L z X l z) : l = X := by
  have h1 := h.eq
  rwa [rtV_end, List.append_nil] at h1
set_option maxRecDepth 100000 in
set_option maxHeartbeats 6400000 in
theorem troute_any (T : Tg) (a z : Int) (q : Nat → Prop) (w : World) (hT : TgOk w q T) (h1 : T.R.length ≤ 1000) (h2 : T.L.length ≤ 1000) (hp : T.pL = none → T.cL = 0) (ha : I64 a) :
    Calls Try.prog 17 #[.agg #[.slice T.pR T.R.length T.cR, .slice T.pL T.L.length T.cL], .int .i64 a, .int .i64 z] w fun e w' => TRet (rtV T.R T.L z a) w e w' := by
  obtain ⟨i0, hi, hz0, hz1, hz2⟩ := info_parts info_int
  obtain ⟨R, L, pR, cR, pL, cL⟩ := T
  simp only at h1 h2 hp ⊢
  obtain ⟨k1, k2⟩ := tone_box w #[.slice pR R.length cR, .slice pL L.length cL] 28
  have HB := Lib.hid (And.intro k1 (And.intro k2 (hT.keep k2)))
  clear k1 k2 hT
  obtain ⟨c0, c1⟩ := row_cells HB.out.1
  obtain ⟨X, hX⟩ : ∃ X, rtV R L z a = X := ⟨_, rfl⟩
  have K0 : Hid (RK R L z X [] a) := Lib.hid ⟨hX, .inl rfl, by have := far_le R L z a; simp only [List.length_nil]; omega⟩
  have HA := Lib.hid ha
  rw [hX]
  clear hX ha
  go_enter Try.func17, Try.ntmps17
  go_wp2_with fail
  refine (tct_any ⟨R, L, pR, cR, pL, cL⟩ z _ _ HB.out.2.2 h1 h2 hp).mono ?_
  rintro e w7 ⟨v, rfl, hv, hg⟩
  have HB7 := Lib.hid (And.intro (kept_row HB.out.1 hg (by simp)) (And.intro (grown_trans HB.out.2.1 hg) (HB.out.2.2.keep hg)))
  have HV7 := Lib.hid hv
  have N0 : Hid (NK w7 (.slice none 0 0) [] w7) := Lib.hid ⟨World.ownsRow_nil _ _ _ _, grown_refl _ _⟩
  clear hv hg c0 c1 HB
  go_wp2_with fail
  go_loopw [8, 9] (fun vo b wr => ∃ (l : List Int) (r : Int) (va : Value), va = vo ∧ b = .int .i64 r ∧ Hid (I64 r) ∧ Hid (NK w7 va l wr) ∧ Hid (RK R L z X l r)) (fun _ b _ => far R L z (RowKit.intOf b))
  case atStart => exact ⟨[], a, _, rfl, rfl, HA, N0, K0⟩
  case round =>
    obtain ⟨l, r, va, rfl, rfl, HI, NN, K⟩ := hrel
    clear K0 N0
    have HBr := Lib.hid (And.intro (kept_row HB7.out.1 NN.out.gr (by simp)) (HB7.out.2.2.keep NN.out.gr))
    obtain ⟨c0, c1⟩ := row_cells HBr.out.1
    have hln : l.length ≤ 24000 := by have := K.out.len; omega
    by_cases hr : r = z
    · subst hr
      have hX := K.out.fin
      subst hX
      have H9 := Lib.hid (NN.out.base HB7.out.2.1).ret
      go_wp2_with fail
      go_ret
      obtain ⟨p, c, rfl, h3⟩ := H9.out
      exact ⟨p, c, rfl, h3⟩
    · have hr' : (r == z) = false := by simpa using hr
      have HR := Lib.hid hr
      clear hr
      go_wp2_with fail
      refine (tnx_any ⟨R, L, pR, cR, pL, cL⟩ r z v _ _ wr HBr.out.2 h2 HI.out (HV7.out.keep NN.out.gr)).mono ?_
      rintro e w8 ⟨p8, c8, rfl, hr8, hc8, hn8, hg8⟩
      (try simp only at hr8 hc8 ⊢)
      obtain ⟨Y, hY⟩ : ∃ Y, nextV L (fun x => dst R L x z) r = Y := ⟨_, rfl⟩
      have HY : Hid (nxt R L r z = Y) := Lib.hid hY
      rw [hY] at hr8 hc8 ⊢
      have N8 := Lib.hid (NN.out.keep hg8)
      clear hY hg8 hn8 c0 c1
      cases Y with
      | nil =>
        have hX := K.out.stop HR.out HY.out
        subst hX
        have H9 := Lib.hid (N8.out.base HB7.out.2.1).gr
        clear hr8
        go_wp2_with fail
        go_ret
        exact ⟨none, 0, rfl, ⟨none, 0, rfl, fun hne => absurd rfl hne⟩, ⟨Nat.le_refl _, by omega⟩, fun _ => rfl, H9.out⟩
      | cons u t =>
        obtain ⟨k1, k2, k3⟩ := K.out.step HR.out HY.out
        have K1 := Lib.hid k1
        have HF := Lib.hid (And.intro k2 k3)
        obtain ⟨-, b, off, rfl, -, hc⟩ := rdi_at (r := u :: t) hr8 (by simp)
        have d0 := hc 0 u rfl
        rw [Nat.add_zero] at d0
        have hown := N8.out.own
        have hsz := N8.out.gr.size
        have hpos : ((t.length : Int) + 1 == 0) = false := by simp; omega
        have hpo2 : (0 : Int) < (t.length : Int) + 1 := by omega
        clear hr8 hc k1 k2 k3
        go_wp2_with (at_builtin; refine hold_on ?_)
        refine Lib.hid ?_
        refine wpList_append_lies _ rfl _ _ 22 rfl w7.heap.size 3 i0 (.int .i64 0) 1 8 Try.underlying22 hi hz0 hz1 hz2 rfl (by decide) _ _ _ rfl (hown.alloc _) ⟨w8.heap.size, 0, none⟩ 1 1 [.int .i64 u] rfl rfl ?c1 ?c2 (by decide) ?c3 ?c4 ?c5 _ rfl ?_
        try (case c1 => exact cell_one _ _ _)
        case c2 => (intro u hu; simp at hu; rcases hu with rfl; rfl)
        case c3 => first | omega | (unfold maxLen; omega)
        case c4 => omega
        case c5 => first | omega | (simp; omega)
        intro gq capq w9 hown9 hg9 hat9 hlt9
        obtain ⟨vq, hvq⟩ : ∃ vq, Value.slice (some ⟨gq, 0, none⟩) (l.length + 1) capq = vq := ⟨_, rfl⟩
        rw [hvq] at hown9 ⊢
        obtain ⟨n1, -⟩ := N8.out.more (x := u) (grown_refl _ _) hown9 hg9
        have N1 := Lib.hid n1
        clear hvq hat9 hlt9 hg9 hown n1 hown9
        go_wp2_with fail
        exact ⟨⟨_, u, _, rfl, rfl, Lib.hid HF.out.2, N1, K1⟩, by simp only [RowKit.intOf]; exact HF.out.1⟩
end Go.Proofs.Ytlefjdglcdopeaa

/- The library's contracts on maps.Keys, slices.Collect and slices.SortFunc, laid at this program. -/
namespace Go.Proofs.Ytlefjdglcdopeaa
open Go.Shelf
def keysM_ren : Go.Shelf.Ren := ⟨fun | 7 => 67 | 10 => 87 | n => n, fun | 23 => 69 | 26 => 3 | 3 => 3 | 28 => 83 | 0 => 0 | 27 => 82 | 33 => 65 | 4 => 4 | n => n, fun | n => n⟩
set_option maxRecDepth 100000 in
theorem keysM : Go.Proofs.SlLaysZI.n7 Try.prog keysM_ren where
  mixed := by kernel_rfl
  f7 := ⟨ "maps.Keys[map[int]int,int,int]", by decide, Try.func67.trans (congrArg some (by kernel_rfl))⟩
  f10 := ⟨ "maps.Keys[map[int]int,int,int]$1", by decide, Try.func87.trans (congrArg some (by kernel_rfl))⟩
  t0 := Try.underlying0
  a0 := Try.isAgg0
  z0 := Try.sizeOf0
  v0 := Try.zeroValue0
  t4 := Try.underlying4
  a4 := Try.isAgg4
  z4 := Try.sizeOf4
  v4 := Try.zeroValue4
  t23 := Try.underlying69
  a23 := Try.isAgg69
  z23 := Try.sizeOf69
  v23 := Try.zeroValue69
  t26 := Try.underlying3
  a26 := Try.isAgg3
  z26 := Try.sizeOf3
  v26 := Try.zeroValue3
  t27 := Try.underlying82
  a27 := Try.isAgg82
  z27 := Try.sizeOf82
  v27 := Try.zeroValue82
  t28 := Try.underlying83
  a28 := Try.isAgg83
  z28 := Try.sizeOf83
  v28 := Try.zeroValue83
  t33 := Try.underlying65
  a33 := Try.isAgg65
  z33 := Try.sizeOf65
  v33 := Try.zeroValue65
def collM_ren : Go.Shelf.Ren := ⟨fun | 8 => 85 | 11 => 94 | n => n, fun | 26 => 3 | 28 => 83 | 24 => 22 | 0 => 0 | 33 => 65 | 4 => 4 | n => n, fun | n => n⟩
set_option maxRecDepth 100000 in
theorem collM : Go.Proofs.SlLaysZI.n8 Try.prog collM_ren where
  mixed := by kernel_rfl
  f8 := ⟨ "slices.Collect[int]", by decide, Try.func85.trans (congrArg some (by kernel_rfl))⟩
  f11 := ⟨ "slices.AppendSeq[[]int,int]", by decide, Try.func94.trans (congrArg some (by kernel_rfl))⟩
  t0 := Try.underlying0
  a0 := Try.isAgg0
  z0 := Try.sizeOf0
  v0 := Try.zeroValue0
  t24 := Try.underlying22
  a24 := Try.isAgg22
  z24 := Try.sizeOf22
  v24 := Try.zeroValue22
  t26 := Try.underlying3
  a26 := Try.isAgg3
  z26 := Try.sizeOf3
  v26 := Try.zeroValue3
  t28 := Try.underlying83
  a28 := Try.isAgg83
  z28 := Try.sizeOf83
  v28 := Try.zeroValue83
  i26 := by kernel_rfl
def sortM_ren : Go.Shelf.Ren := ⟨fun | 6 => 86 | 15 => 96 | 14 => 95 | 28 => 106 | 29 => 107 | 20 => 98 | 21 => 99 | 22 => 100 | 23 => 101 | 24 => 102 | 25 => 103 | 26 => 104 | 27 => 105 | 46 => 108 | 47 => 109 | 48 => 110 | 49 => 111 | 50 => 112 | 57 => 113 | n => n, fun | 22 => 22 | 24 => 3 | 25 => 61 | 3 => 3 | 39 => 108 | 0 => 0 | 53 => 118 | 55 => 120 | 4 => 4 | 46 => 112 | 45 => 111 | 50 => 49 | 5 => 5 | 9 => 9 | 66 => 121 | 70 => 125 | 76 => 127 | 77 => 128 | n => n, fun | n => n⟩
set_option maxRecDepth 100000 in
theorem sortM : Go.Proofs.SlLaysF.n6 Try.prog sortM_ren where
  mixed := by kernel_rfl
  f6 := ⟨ "slices.SortFunc[[]int,int]", by decide, Try.func86.trans (congrArg some (by kernel_rfl))⟩
  f14 := ⟨ "slices.pdqsortCmpFunc[int]", by decide, Try.func95.trans (congrArg some (by kernel_rfl))⟩
  f15 := Try.func96.trans (congrArg some (by kernel_rfl))
  f20 := ⟨ "slices.insertionSortCmpFunc[int]", by decide, Try.func98.trans (congrArg some (by kernel_rfl))⟩
  f21 := ⟨ "slices.heapSortCmpFunc[int]", by decide, Try.func99.trans (congrArg some (by kernel_rfl))⟩
  f22 := ⟨ "slices.breakPatternsCmpFunc[int]", by decide, Try.func100.trans (congrArg some (by kernel_rfl))⟩
  f23 := ⟨ "slices.choosePivotCmpFunc[int]", by decide, Try.func101.trans (congrArg some (by kernel_rfl))⟩
  f24 := ⟨ "slices.reverseRangeCmpFunc[int]", by decide, Try.func102.trans (congrArg some (by kernel_rfl))⟩
  f25 := ⟨ "slices.partialInsertionSortCmpFunc[int]", by decide, Try.func103.trans (congrArg some (by kernel_rfl))⟩
  f26 := ⟨ "slices.partitionEqualCmpFunc[int]", by decide, Try.func104.trans (congrArg some (by kernel_rfl))⟩
  f27 := ⟨ "slices.partitionCmpFunc[int]", by decide, Try.func105.trans (congrArg some (by kernel_rfl))⟩
  f28 := Try.func106.trans (congrArg some (by kernel_rfl))
  f29 := Try.func107.trans (congrArg some (by kernel_rfl))
  f46 := ⟨ "slices.siftDownCmpFunc[int]", by decide, Try.func108.trans (congrArg some (by kernel_rfl))⟩
  f47 := Try.func109.trans (congrArg some (by kernel_rfl))
  f48 := Try.func110.trans (congrArg some (by kernel_rfl))
  f49 := ⟨ "slices.medianAdjacentCmpFunc[int]", by decide, Try.func111.trans (congrArg some (by kernel_rfl))⟩
  f50 := ⟨ "slices.medianCmpFunc[int]", by decide, Try.func112.trans (congrArg some (by kernel_rfl))⟩
  f57 := ⟨ "slices.order2CmpFunc[int]", by decide, Try.func113.trans (congrArg some (by kernel_rfl))⟩
  t0 := Try.underlying0
  a0 := Try.isAgg0
  z0 := Try.sizeOf0
  v0 := Try.zeroValue0
  t3 := Try.underlying3
  a3 := Try.isAgg3
  z3 := Try.sizeOf3
  v3 := Try.zeroValue3
  t4 := Try.underlying4
  a4 := Try.isAgg4
  z4 := Try.sizeOf4
  v4 := Try.zeroValue4
  t5 := Try.underlying5
  a5 := Try.isAgg5
  z5 := Try.sizeOf5
  v5 := Try.zeroValue5
  t9 := Try.underlying9
  a9 := Try.isAgg9
  z9 := Try.sizeOf9
  v9 := Try.zeroValue9
  t22 := Try.underlying22
  a22 := Try.isAgg22
  z22 := Try.sizeOf22
  v22 := Try.zeroValue22
  a24 := Try.isAgg3
  z24 := Try.sizeOf3
  t25 := Try.underlying61
  a25 := Try.isAgg61
  z25 := Try.sizeOf61
  v25 := Try.zeroValue61
  t39 := Try.underlying108
  a39 := Try.isAgg108
  z39 := Try.sizeOf108
  v39 := Try.zeroValue108
  t45 := Try.underlying111
  a45 := Try.isAgg111
  z45 := Try.sizeOf111
  v45 := Try.zeroValue111
  t46 := Try.underlying112
  a46 := Try.isAgg112
  z46 := Try.sizeOf112
  v46 := Try.zeroValue112
  t50 := Try.underlying49
  a50 := Try.isAgg49
  z50 := Try.sizeOf49
  v50 := Try.zeroValue49
  t53 := Try.underlying118
  a53 := Try.isAgg118
  z53 := Try.sizeOf118
  v53 := Try.zeroValue118
  t55 := Try.underlying120
  a55 := Try.isAgg120
  z55 := Try.sizeOf120
  v55 := Try.zeroValue120
  t66 := Try.underlying121
  a66 := Try.isAgg121
  z66 := Try.sizeOf121
  v66 := Try.zeroValue121
  t70 := Try.underlying125
  a70 := Try.isAgg125
  z70 := Try.sizeOf125
  v70 := Try.zeroValue125
  t76 := Try.underlying127
  a76 := Try.isAgg127
  z76 := Try.sizeOf127
  v76 := Try.zeroValue127
  t77 := Try.underlying128
  a77 := Try.isAgg128
  z77 := Try.sizeOf128
  v77 := Try.zeroValue128
end Go.Proofs.Ytlefjdglcdopeaa

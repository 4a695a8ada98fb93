/- Parts of the proof, packed: ShTrLaw. -/
import Derived.Test.YtlefjdglcdopeaaTr19
import Derived.Test.YtlefjdglcdopeaaTr8
/- The law ShortestTriangles. -/
namespace Go.Proofs.Ytlefjdglcdopeaa
open Go.RowKit Go.Maps Bs
set_option maxRecDepth 100000 in
set_option maxHeartbeats 12800000 in
theorem striangles_walk (v : Value) (w : World) (hv : IntsIn w v) :
    Calls Try.prog 6 #[v] w fun e w' => e = .returned (.bool true) ∧ w.grownBy w' none := by
  go_enter Try.func6, Try.ntmps6
  go_wp2_with fail
  refine (new_any v w hv).mono ?_
  rintro e w2 ⟨rfl, hg1, hT1⟩
  have H2 := Lib.hid (And.intro hg1 hT1)
  obtain ⟨a, ha⟩ : ∃ a, a = w.heap.size := ⟨_, rfl⟩
  rw [← ha] at H2
  have HA := Lib.hid ha
  clear hg1 hT1 hv
  rw [← HA.out]
  clear ha
  go_wp2_with fail
  refine (stopo_any a 6 0 (by decide) (by decide) (by unfold I64; omega) w2 H2.out.2).mono ?_
  rintro e w3 ⟨T, rfl, hT, hO, hpT, hs3⟩
  obtain ⟨R, L, pR, cR, pL, cL⟩ := T
  have HVT : Hid (VT 6 ⟨R, L, pR, cR, pL, cL⟩) := Lib.hid (VT.of hO hpT)
  simp only at hO hpT ⊢
  have gal := World.grownBy_alloc w3 (.cells #[.slice pR R.length cR, .slice pL L.length cL] 28) none
  have ha2 : a < w2.heap.size := H2.out.2.lt
  have HW4 : Hid (w.grownBy (w3.alloc (.cells #[.slice pR R.length cR, .slice pL L.length cL] 28)) none) := Lib.hid (grown_trans (grown_tape H2.out.1 (by rw [← HA.out]; exact hs3.1)) gal)
  have HG : Hid ((w3.alloc (.cells #[.slice pR R.length cR, .slice pL L.length cL] 28)).heap[w3.heap.size]? = some (.cells #[.slice pR R.length cR, .slice pL L.length cL] 28 (0, 0)) ∧ TgOk (w3.alloc (.cells #[.slice pR R.length cR, .slice pL L.length cL] 28)) (fun b => w2.heap.size ≤ b ∧ b < w3.heap.size) ⟨R, L, pR, cR, pL, cL⟩ ∧ Tp (w3.alloc (.cells #[.slice pR R.length cR, .slice pL L.length cL] 28)) a) :=
    Lib.hid ⟨heap_alloc_new w3 _, hT.keep gal, hs3.2.keep gal⟩
  have ha3 : a < w3.heap.size := Nat.lt_of_lt_of_le ha2 hs3.1.size
  clear hT hs3 gal hO hpT
  go_upto_region 3 with fail
  generalize w3.alloc _ = w4 at *
  have HL : Hid (LW w w3.heap.size ⟨R, L, pR, cR, pL, cL⟩ w4) := Lib.hid ⟨HG.out.1, HG.out.2.1.mono (fun b hb => hb.2), HW4.out⟩
  clear HG HW4 H2
  obtain ⟨G, hG⟩ : ∃ G, G = w3.heap.size := ⟨_, rfl⟩
  rw [← hG] at HL
  rw [← hG]
  clear hG ha2 ha3 HA
  have hR : R.length ≤ 1000 := Nat.le_trans HVT.out.len.1 (by decide)
  have hL : L.length ≤ 1000 := Nat.le_trans HVT.out.l60 (by decide)
  obtain ⟨c0, c1⟩ := row_cells HL.out.gb
  go_wp2_with fail
  refine (sany_any ⟨R, L, pR, cR, pL, cL⟩ _ _ HL.out.t hR).mono ?_
  rintro e w5 ⟨p5, c5, rfl, hr5, hc5, hn5, hg5⟩
  (try simp only at hr5 hc5 ⊢)
  obtain ⟨X, hX⟩ : ∃ X, ids R = X := ⟨_, rfl⟩
  have hX24 : X.length ≤ 24 := by rw [← hX]; exact (okT_g HVT.out.ok).len.1
  rw [hX] at hr5 hc5 ⊢
  have HX : Hid (ids R = X ∧ X.Nodup) := Lib.hid ⟨hX, by rw [← hX]; exact nodup_of_lt (ids_pair HVT.out.ok)⟩
  have HL5 := Lib.hid (HL.out.keep hg5)
  have HRX : Hid (Rd w5 (fun _ => True) (.slice p5 X.length c5) (X.map tv)) := Lib.hid (hr5.mono (fun _ _ => trivial))
  have HVX : Hid (∀ (i : Nat) (x : Int), X[i]? = some x → hasV R L x = true ∧ 1 ≤ x ∧ x ≤ 99) := Lib.hid (fun i x hx => by
    have hm : x ∈ ids R := by rw [hX]; exact List.mem_of_getElem? hx
    exact ⟨hasV_iff.2 ⟨HVT.out.ok, hm⟩, (okT_g HVT.out.ok).rng x hm⟩)
  clear hX hr5 hn5 hg5 c0 c1 HL
  go_wp2_with fail
  go_loopw [6] (fun ii wr => ∃ i : Nat, i ≤ X.length ∧ ii = .int .i64 (i : Int) ∧ Hid (LW w G ⟨R, L, pR, cR, pL, cL⟩ wr) ∧ Hid (w5.grownBy wr none)) (fun ii _ => X.length - (RowKit.intOf ii).toNat)
  case atStart => exact ⟨0, Nat.zero_le _, rfl, HL5, Lib.hid (grown_refl _ _)⟩
  case round =>
  obtain ⟨wi, rfl⟩ : ∃ wi, wi = wr := ⟨_, rfl⟩
  obtain ⟨i, hi, rfl, HLi, HGi⟩ := hrel
  clear HL5
  by_cases hlti : i < X.length
  · obtain ⟨-, b5, o5, rfl, -, -⟩ := rdi_at HRX.out (by omega)
    have HC : Hid (∀ (v : World) (i : Nat) (x : Int), w5.grownBy v none → X[i]? = some x → v.cell? ⟨b5, o5 + i, none⟩ = some (.int .i64 x)) := Lib.hid (fun v i x g hx => by
      have hil := (List.getElem?_eq_some_iff.1 hx).1
      obtain ⟨-, b, o, e, -, hc⟩ := rdi_at (HRX.out.grown g (fun _ _ => by simp)) (by omega)
      injection e with e
      injection e with e1 e2
      subst e1
      subst e2
      exact hc i x hx)
    obtain ⟨x, hx⟩ : ∃ x, X[i]? = some x := ⟨_, List.getElem?_eq_getElem hlti⟩
    have HXX := Lib.hid hx
    obtain ⟨hxv, hxb⟩ := HVX.out i x hx
    have HXV := Lib.hid hxv
    have hi1 : (i : Int) < (X.length : Int) := by omega
    clear hx hxv
    go_wp2_with fail
    go_loopw [7] (fun kk wr => ∃ k : Nat, k ≤ X.length ∧ kk = .int .i64 (k : Int) ∧ Hid (LW w G ⟨R, L, pR, cR, pL, cL⟩ wr) ∧ Hid (w5.grownBy wr none)) (fun kk _ => X.length - (RowKit.intOf kk).toNat)
    case atStart => exact ⟨0, Nat.zero_le _, rfl, HLi, HGi⟩
    case round =>
    obtain ⟨wk, rfl⟩ : ∃ wk, wk = wr := ⟨_, rfl⟩
    obtain ⟨k, hk, rfl, HLk, HGk⟩ := hrel
    clear HLi HGi
    by_cases hltk : k < X.length
    · obtain ⟨y, hy⟩ : ∃ y, X[k]? = some y := ⟨_, List.getElem?_eq_getElem hltk⟩
      have HYY := Lib.hid hy
      obtain ⟨hyv, hyb⟩ := HVX.out k y hy
      have HYV := Lib.hid hyv
      have hk1 : (k : Int) < (X.length : Int) := by omega
      obtain ⟨A, hA⟩ : ∃ A, (dst R L x y).getD 0 = A := ⟨_, rfl⟩
      obtain ⟨ok, hok⟩ : ∃ ok, (dst R L x y).isSome = ok := ⟨_, rfl⟩
      have hAb : 0 ≤ A ∧ A ≤ 24000 := by rw [← hA]; exact getD_bd
      have HA := Lib.hid (And.intro hA hok)
      clear hy hyv hA hok
      go_upto_region 10 with fail
      refine wp_region_held_drew (S := fun w' => Hid (wk.grownBy w' none)) (by kernel_rfl) (Lib.hid (grown_drew (grown_refl _ _))) (fun hHeld => ?_)
      refine wpAnyH_take (i := 0) (oi := { dst := some 36, op := Op.load 28 (Operand.tmp 4), type := 28, pos := "law.go:86", after := #[], guard := none }) (v := ?_) rfl (by kernel_rfl) (by kernel_rfl) (by kernel_rfl) (fun _ _ _ h => h) (Or.inl ⟨by rfl, ?_⟩) hHeld ?_
      rotate_left 1
      · intro u hSu
        obtain ⟨q0, q1⟩ := row_cells (kept_row HLk.out.gb hSu.out (by simp))
        have q2 := HC.out u i x (grown_trans HGk.out hSu.out) HXX.out
        have q3 := HC.out u k y (grown_trans HGk.out hSu.out) HYY.out
        go_simp
        first | done | with_reducible rfl
      (try simp only [Act.put, List.setIfInBounds_toArray, List.set_cons_zero, List.set_cons_succ])
      refine wpAnyH_take (i := 1) (oi := { dst := some 37, op := Op.move (Operand.tmp 5), type := 22, pos := "law.go:86", after := #[], guard := none }) (v := ?_) rfl (by kernel_rfl) (by kernel_rfl) (by kernel_rfl) (fun _ _ _ h => h) (Or.inl ⟨by rfl, ?_⟩) hHeld ?_
      rotate_left 1
      · intro u hSu
        obtain ⟨q0, q1⟩ := row_cells (kept_row HLk.out.gb hSu.out (by simp))
        have q2 := HC.out u i x (grown_trans HGk.out hSu.out) HXX.out
        have q3 := HC.out u k y (grown_trans HGk.out hSu.out) HYY.out
        go_simp
        first | done | with_reducible rfl
      (try simp only [Act.put, List.setIfInBounds_toArray, List.set_cons_zero, List.set_cons_succ])
      refine wpAnyH_take (i := 2) (oi := { dst := some 38, op := Op.move (Operand.tmp 6), type := 3, pos := "law.go:86", after := #[], guard := none }) (v := ?_) rfl (by kernel_rfl) (by kernel_rfl) (by kernel_rfl) (fun _ _ _ h => h) (Or.inl ⟨by rfl, ?_⟩) hHeld ?_
      rotate_left 1
      · intro u hSu
        obtain ⟨q0, q1⟩ := row_cells (kept_row HLk.out.gb hSu.out (by simp))
        have q2 := HC.out u i x (grown_trans HGk.out hSu.out) HXX.out
        have q3 := HC.out u k y (grown_trans HGk.out hSu.out) HYY.out
        go_simp
        first | done | with_reducible rfl
      (try simp only [Act.put, List.setIfInBounds_toArray, List.set_cons_zero, List.set_cons_succ])
      refine wpAnyH_take (i := 3) (oi := { dst := some 39, op := Op.indexAddr 22 (Operand.tmp 37) (Operand.tmp 38), type := 0, pos := "law.go:86", after := #[{ on := 1, ground := Ground.data }, { on := 2, ground := Ground.data }], guard := none }) (v := ?_) rfl (by kernel_rfl) (by kernel_rfl) (by kernel_rfl) (fun _ _ _ h => h) (Or.inl ⟨by rfl, ?_⟩) hHeld ?_
      rotate_left 1
      · intro u hSu
        obtain ⟨q0, q1⟩ := row_cells (kept_row HLk.out.gb hSu.out (by simp))
        have q2 := HC.out u i x (grown_trans HGk.out hSu.out) HXX.out
        have q3 := HC.out u k y (grown_trans HGk.out hSu.out) HYY.out
        go_simp
        first | done | with_reducible rfl
      (try simp only [Act.put, List.setIfInBounds_toArray, List.set_cons_zero, List.set_cons_succ])
      refine wpAnyH_take (i := 4) (oi := { dst := some 40, op := Op.load 3 (Operand.tmp 39), type := 3, pos := "law.go:86", after := #[{ on := 3, ground := Ground.data }], guard := none }) (v := ?_) rfl (by kernel_rfl) (by kernel_rfl) (by kernel_rfl) (fun _ _ _ h => h) (Or.inl ⟨by rfl, ?_⟩) hHeld ?_
      rotate_left 1
      · intro u hSu
        obtain ⟨q0, q1⟩ := row_cells (kept_row HLk.out.gb hSu.out (by simp))
        have q2 := HC.out u i x (grown_trans HGk.out hSu.out) HXX.out
        have q3 := HC.out u k y (grown_trans HGk.out hSu.out) HYY.out
        go_simp
        first | done | with_reducible rfl
      (try simp only [Act.put, List.setIfInBounds_toArray, List.set_cons_zero, List.set_cons_succ])
      refine wpAnyH_take (i := 5) (oi := { dst := some 41, op := Op.move (Operand.tmp 5), type := 22, pos := "law.go:86", after := #[], guard := none }) (v := ?_) rfl (by kernel_rfl) (by kernel_rfl) (by kernel_rfl) (fun _ _ _ h => h) (Or.inl ⟨by rfl, ?_⟩) hHeld ?_
      rotate_left 1
      · intro u hSu
        obtain ⟨q0, q1⟩ := row_cells (kept_row HLk.out.gb hSu.out (by simp))
        have q2 := HC.out u i x (grown_trans HGk.out hSu.out) HXX.out
        have q3 := HC.out u k y (grown_trans HGk.out hSu.out) HYY.out
        go_simp
        first | done | with_reducible rfl
      (try simp only [Act.put, List.setIfInBounds_toArray, List.set_cons_zero, List.set_cons_succ])
      refine wpAnyH_take (i := 6) (oi := { dst := some 42, op := Op.move (Operand.tmp 7), type := 3, pos := "law.go:86", after := #[], guard := none }) (v := ?_) rfl (by kernel_rfl) (by kernel_rfl) (by kernel_rfl) (fun _ _ _ h => h) (Or.inl ⟨by rfl, ?_⟩) hHeld ?_
      rotate_left 1
      · intro u hSu
        obtain ⟨q0, q1⟩ := row_cells (kept_row HLk.out.gb hSu.out (by simp))
        have q2 := HC.out u i x (grown_trans HGk.out hSu.out) HXX.out
        have q3 := HC.out u k y (grown_trans HGk.out hSu.out) HYY.out
        go_simp
        first | done | with_reducible rfl
      (try simp only [Act.put, List.setIfInBounds_toArray, List.set_cons_zero, List.set_cons_succ])
      refine wpAnyH_take (i := 7) (oi := { dst := some 43, op := Op.indexAddr 22 (Operand.tmp 41) (Operand.tmp 42), type := 0, pos := "law.go:86", after := #[{ on := 5, ground := Ground.data }, { on := 6, ground := Ground.data }], guard := none }) (v := ?_) rfl (by kernel_rfl) (by kernel_rfl) (by kernel_rfl) (fun _ _ _ h => h) (Or.inl ⟨by rfl, ?_⟩) hHeld ?_
      rotate_left 1
      · intro u hSu
        obtain ⟨q0, q1⟩ := row_cells (kept_row HLk.out.gb hSu.out (by simp))
        have q2 := HC.out u i x (grown_trans HGk.out hSu.out) HXX.out
        have q3 := HC.out u k y (grown_trans HGk.out hSu.out) HYY.out
        go_simp
        first | done | with_reducible rfl
      (try simp only [Act.put, List.setIfInBounds_toArray, List.set_cons_zero, List.set_cons_succ])
      refine wpAnyH_take (i := 8) (oi := { dst := some 44, op := Op.load 3 (Operand.tmp 43), type := 3, pos := "law.go:86", after := #[{ on := 7, ground := Ground.data }], guard := none }) (v := ?_) rfl (by kernel_rfl) (by kernel_rfl) (by kernel_rfl) (fun _ _ _ h => h) (Or.inl ⟨by rfl, ?_⟩) hHeld ?_
      rotate_left 1
      · intro u hSu
        obtain ⟨q0, q1⟩ := row_cells (kept_row HLk.out.gb hSu.out (by simp))
        have q2 := HC.out u i x (grown_trans HGk.out hSu.out) HXX.out
        have q3 := HC.out u k y (grown_trans HGk.out hSu.out) HYY.out
        go_simp
        first | done | with_reducible rfl
      (try simp only [Act.put, List.setIfInBounds_toArray, List.set_cons_zero, List.set_cons_succ])
      refine wpAnyH_ready (rs := [9]) (by kernel_rfl) (by simp) ?_
      refine AllReadyH.cons (o := { dst := some 45, op := Op.call { callee := Callee.value (Operand.func 30), args := #[Operand.tmp 36, Operand.tmp 40, Operand.tmp 44], argTypes := #[28, 3, 3] }, type := 49, pos := "law.go:86", after := #[{ on := 0, ground := Ground.data }, { on := 4, ground := Ground.data }, { on := 8, ground := Ground.data }], guard := none }) rfl (fun Kz hK => ?_) AllReadyH.nil
      go_simp
      go_at_call 30
      refine (tcs_any ⟨R, L, pR, cR, pL, cL⟩ x y _ _ ((HLk.out.keep hHeld.out).t) hR hL (by unfold I64; omega)).mono ?_
      rintro e w9 ⟨rfl, hgc⟩
      simp only
      rw [HA.out.1, HA.out.2]
      refine hK.out _ _ (Lib.hid (grown_trans hHeld.out hgc)) (fun hH2 => ?_)
      clear hK Kz hHeld
      have hHeld := hH2
      clear hH2
      (try simp only [Act.put, List.setIfInBounds_toArray, List.set_cons_zero, List.set_cons_succ])
      refine wpAnyH_take (i := 10) (oi := { dst := some 35, op := Op.move (Operand.tmp 45), type := 49, pos := "law.go:86", after := #[{ on := 9, ground := Ground.data }], guard := none }) (v := ?_) rfl (by kernel_rfl) (by kernel_rfl) (by kernel_rfl) (fun _ _ _ h => h) (Or.inl ⟨by rfl, ?_⟩) hHeld ?_
      rotate_left 1
      · intro u hSu
        obtain ⟨q0, q1⟩ := row_cells (kept_row HLk.out.gb hSu.out (by simp))
        have q2 := HC.out u i x (grown_trans HGk.out hSu.out) HXX.out
        have q3 := HC.out u k y (grown_trans HGk.out hSu.out) HYY.out
        go_simp
        first | done | with_reducible rfl
      (try simp only [Act.put, List.setIfInBounds_toArray, List.set_cons_zero, List.set_cons_succ])
      refine wpAnyH_take (i := 11) (oi := { dst := some 46, op := Op.extract (Operand.tmp 35) 0, type := 3, pos := "law.go:86", after := #[{ on := 10, ground := Ground.data }], guard := none }) (v := ?_) rfl (by kernel_rfl) (by kernel_rfl) (by kernel_rfl) (fun _ _ _ h => h) (Or.inl ⟨by rfl, ?_⟩) hHeld ?_
      rotate_left 1
      · intro u hSu
        obtain ⟨q0, q1⟩ := row_cells (kept_row HLk.out.gb hSu.out (by simp))
        have q2 := HC.out u i x (grown_trans HGk.out hSu.out) HXX.out
        have q3 := HC.out u k y (grown_trans HGk.out hSu.out) HYY.out
        go_simp
        first | done | with_reducible rfl
      (try simp only [Act.put, List.setIfInBounds_toArray, List.set_cons_zero, List.set_cons_succ])
      refine wpAnyH_take (i := 12) (oi := { dst := some 47, op := Op.extract (Operand.tmp 35) 1, type := 4, pos := "law.go:86", after := #[{ on := 10, ground := Ground.data }, { on := 13, ground := Ground.gcOnly Departure.lateStores }], guard := none }) (v := ?_) rfl (by kernel_rfl) (by kernel_rfl) (by kernel_rfl) (fun _ _ _ h => h) (Or.inl ⟨by rfl, ?_⟩) hHeld ?_
      rotate_left 1
      · intro u hSu
        obtain ⟨q0, q1⟩ := row_cells (kept_row HLk.out.gb hSu.out (by simp))
        have q2 := HC.out u i x (grown_trans HGk.out hSu.out) HXX.out
        have q3 := HC.out u k y (grown_trans HGk.out hSu.out) HYY.out
        go_simp
        first | done | with_reducible rfl
      (try simp only [Act.put, List.setIfInBounds_toArray, List.set_cons_zero, List.set_cons_succ])
      refine wpAnyH_take (i := 13) (oi := { dst := some 8, op := Op.assign (Operand.tmp 46), type := 3, pos := "law.go:86", after := #[{ on := 11, ground := Ground.data }, { on := 9, ground := Ground.chain }, { on := 0, ground := Ground.phase }, { on := 1, ground := Ground.phase }, { on := 2, ground := Ground.phase }, { on := 3, ground := Ground.phase }, { on := 4, ground := Ground.phase }, { on := 5, ground := Ground.phase }, { on := 6, ground := Ground.phase }, { on := 7, ground := Ground.phase }, { on := 8, ground := Ground.phase }, { on := 9, ground := Ground.phase }, { on := 10, ground := Ground.phase }, { on := 11, ground := Ground.phase }, { on := 12, ground := Ground.textOnly Departure.lateStores }], guard := none }) (v := ?_) rfl (by kernel_rfl) (by kernel_rfl) (by kernel_rfl) (fun _ _ _ h => h) (Or.inl ⟨by rfl, ?_⟩) hHeld ?_
      rotate_left 1
      · intro u hSu
        obtain ⟨q0, q1⟩ := row_cells (kept_row HLk.out.gb hSu.out (by simp))
        have q2 := HC.out u i x (grown_trans HGk.out hSu.out) HXX.out
        have q3 := HC.out u k y (grown_trans HGk.out hSu.out) HYY.out
        go_simp
        first | done | with_reducible rfl
      (try simp only [Act.put, List.setIfInBounds_toArray, List.set_cons_zero, List.set_cons_succ])
      refine wpAnyH_take (i := 14) (oi := { dst := some 9, op := Op.assign (Operand.tmp 47), type := 4, pos := "law.go:86", after := #[{ on := 12, ground := Ground.data }, { on := 13, ground := Ground.chain }, { on := 0, ground := Ground.phase }, { on := 1, ground := Ground.phase }, { on := 2, ground := Ground.phase }, { on := 3, ground := Ground.phase }, { on := 4, ground := Ground.phase }, { on := 5, ground := Ground.phase }, { on := 6, ground := Ground.phase }, { on := 7, ground := Ground.phase }, { on := 8, ground := Ground.phase }, { on := 9, ground := Ground.phase }, { on := 10, ground := Ground.phase }, { on := 11, ground := Ground.phase }, { on := 12, ground := Ground.phase }, { on := 13, ground := Ground.phase }], guard := none }) (v := ?_) rfl (by kernel_rfl) (by kernel_rfl) (by kernel_rfl) (fun _ _ _ h => h) (Or.inl ⟨by rfl, ?_⟩) hHeld ?_
      rotate_left 1
      · intro u hSu
        obtain ⟨q0, q1⟩ := row_cells (kept_row HLk.out.gb hSu.out (by simp))
        have q2 := HC.out u i x (grown_trans HGk.out hSu.out) HXX.out
        have q3 := HC.out u k y (grown_trans HGk.out hSu.out) HYY.out
        go_simp
        first | done | with_reducible rfl
      (try simp only [Act.put, List.setIfInBounds_toArray, List.set_cons_zero, List.set_cons_succ])
      refine wpAnyH_done (by kernel_rfl) ?_ _
      have HLa := Lib.hid (HLk.out.keep hHeld.out)
      have HGa := Lib.hid (grown_trans HGk.out hHeld.out)
      obtain ⟨wa, hwn⟩ : ∃ wa, wa = w9 := ⟨_, rfl⟩
      rw [← hwn] at HLa HGa ⊢
      clear hHeld hwn HLk HGk
      go_upto_region 11 with fail
      go_cut [80] from 48 to 80 (fun t wx => t = .bool false ∧ Hid (LW w G ⟨R, L, pR, cR, pL, cL⟩ wx) ∧ Hid (w5.grownBy wx none))
      case first =>
        have HCN : Hid (conn R L x y = ok) := Lib.hid (by rw [← HA.out.2]; exact (conn_dst HXV.out).symm)
        by_cases hik : i = k
        · subst hik
          obtain rfl : x = y := Option.some.inj (HXX.out.symm.trans HYY.out)
          have hs := dst_self HXV.out
          obtain rfl : A = 0 := by rw [← HA.out.1, hs]; rfl
          obtain rfl : ok = true := by rw [← HA.out.2, hs]; rfl
          clear hs
          refine wp_region_held_drew (S := fun w' => Hid (wa.grownBy w' none)) (by kernel_rfl) (Lib.hid (grown_drew (grown_refl _ _))) (fun hHeld => ?_)
          refine wpAnyH_take (i := 0) (oi := { dst := some 48, op := Op.move (Operand.tmp 9), type := 4, pos := "law.go:87", after := #[], guard := none }) (v := ?_) rfl (by kernel_rfl) (by kernel_rfl) (by kernel_rfl) (fun _ _ _ h => h) (Or.inl ⟨by rfl, ?_⟩) hHeld ?_
          rotate_left 1
          · intro u hSu
            obtain ⟨q0, q1⟩ := row_cells (kept_row HLa.out.gb hSu.out (by simp))
            have q2 := HC.out u i x (grown_trans HGa.out hSu.out) HXX.out
            go_simp
            first | done | with_reducible rfl
          (try simp only [Act.put, List.setIfInBounds_toArray, List.set_cons_zero, List.set_cons_succ])
          refine wpAnyH_take (i := 1) (oi := { dst := some 49, op := Op.load 28 (Operand.tmp 4), type := 28, pos := "law.go:87", after := #[], guard := none }) (v := ?_) rfl (by kernel_rfl) (by kernel_rfl) (by kernel_rfl) (fun _ _ _ h => h) (Or.inl ⟨by rfl, ?_⟩) hHeld ?_
          rotate_left 1
          · intro u hSu
            obtain ⟨q0, q1⟩ := row_cells (kept_row HLa.out.gb hSu.out (by simp))
            have q2 := HC.out u i x (grown_trans HGa.out hSu.out) HXX.out
            go_simp
            first | done | with_reducible rfl
          (try simp only [Act.put, List.setIfInBounds_toArray, List.set_cons_zero, List.set_cons_succ])
          refine wpAnyH_take (i := 2) (oi := { dst := some 50, op := Op.move (Operand.tmp 5), type := 22, pos := "law.go:87", after := #[], guard := none }) (v := ?_) rfl (by kernel_rfl) (by kernel_rfl) (by kernel_rfl) (fun _ _ _ h => h) (Or.inl ⟨by rfl, ?_⟩) hHeld ?_
          rotate_left 1
          · intro u hSu
            obtain ⟨q0, q1⟩ := row_cells (kept_row HLa.out.gb hSu.out (by simp))
            have q2 := HC.out u i x (grown_trans HGa.out hSu.out) HXX.out
            go_simp
            first | done | with_reducible rfl
          (try simp only [Act.put, List.setIfInBounds_toArray, List.set_cons_zero, List.set_cons_succ])
          refine wpAnyH_take (i := 3) (oi := { dst := some 51, op := Op.move (Operand.tmp 6), type := 3, pos := "law.go:87", after := #[], guard := none }) (v := ?_) rfl (by kernel_rfl) (by kernel_rfl) (by kernel_rfl) (fun _ _ _ h => h) (Or.inl ⟨by rfl, ?_⟩) hHeld ?_
          rotate_left 1
          · intro u hSu
            obtain ⟨q0, q1⟩ := row_cells (kept_row HLa.out.gb hSu.out (by simp))
            have q2 := HC.out u i x (grown_trans HGa.out hSu.out) HXX.out
            go_simp
            first | done | with_reducible rfl
          (try simp only [Act.put, List.setIfInBounds_toArray, List.set_cons_zero, List.set_cons_succ])
          refine wpAnyH_take (i := 4) (oi := { dst := some 52, op := Op.indexAddr 22 (Operand.tmp 50) (Operand.tmp 51), type := 0, pos := "law.go:87", after := #[{ on := 2, ground := Ground.data }, { on := 3, ground := Ground.data }], guard := none }) (v := ?_) rfl (by kernel_rfl) (by kernel_rfl) (by kernel_rfl) (fun _ _ _ h => h) (Or.inl ⟨by rfl, ?_⟩) hHeld ?_
          rotate_left 1
          · intro u hSu
            obtain ⟨q0, q1⟩ := row_cells (kept_row HLa.out.gb hSu.out (by simp))
            have q2 := HC.out u i x (grown_trans HGa.out hSu.out) HXX.out
            go_simp
            first | done | with_reducible rfl
          (try simp only [Act.put, List.setIfInBounds_toArray, List.set_cons_zero, List.set_cons_succ])
          refine wpAnyH_take (i := 5) (oi := { dst := some 53, op := Op.load 3 (Operand.tmp 52), type := 3, pos := "law.go:87", after := #[{ on := 4, ground := Ground.data }], guard := none }) (v := ?_) rfl (by kernel_rfl) (by kernel_rfl) (by kernel_rfl) (fun _ _ _ h => h) (Or.inl ⟨by rfl, ?_⟩) hHeld ?_
          rotate_left 1
          · intro u hSu
            obtain ⟨q0, q1⟩ := row_cells (kept_row HLa.out.gb hSu.out (by simp))
            have q2 := HC.out u i x (grown_trans HGa.out hSu.out) HXX.out
            go_simp
            first | done | with_reducible rfl
          (try simp only [Act.put, List.setIfInBounds_toArray, List.set_cons_zero, List.set_cons_succ])
          refine wpAnyH_take (i := 6) (oi := { dst := some 54, op := Op.move (Operand.tmp 5), type := 22, pos := "law.go:87", after := #[], guard := none }) (v := ?_) rfl (by kernel_rfl) (by kernel_rfl) (by kernel_rfl) (fun _ _ _ h => h) (Or.inl ⟨by rfl, ?_⟩) hHeld ?_
          rotate_left 1
          · intro u hSu
            obtain ⟨q0, q1⟩ := row_cells (kept_row HLa.out.gb hSu.out (by simp))
            have q2 := HC.out u i x (grown_trans HGa.out hSu.out) HXX.out
            go_simp
            first | done | with_reducible rfl
          (try simp only [Act.put, List.setIfInBounds_toArray, List.set_cons_zero, List.set_cons_succ])
          refine wpAnyH_take (i := 7) (oi := { dst := some 55, op := Op.move (Operand.tmp 7), type := 3, pos := "law.go:87", after := #[], guard := none }) (v := ?_) rfl (by kernel_rfl) (by kernel_rfl) (by kernel_rfl) (fun _ _ _ h => h) (Or.inl ⟨by rfl, ?_⟩) hHeld ?_
          rotate_left 1
          · intro u hSu
            obtain ⟨q0, q1⟩ := row_cells (kept_row HLa.out.gb hSu.out (by simp))
            have q2 := HC.out u i x (grown_trans HGa.out hSu.out) HXX.out
            go_simp
            first | done | with_reducible rfl
          (try simp only [Act.put, List.setIfInBounds_toArray, List.set_cons_zero, List.set_cons_succ])
          refine wpAnyH_take (i := 8) (oi := { dst := some 56, op := Op.indexAddr 22 (Operand.tmp 54) (Operand.tmp 55), type := 0, pos := "law.go:87", after := #[{ on := 6, ground := Ground.data }, { on := 7, ground := Ground.data }], guard := none }) (v := ?_) rfl (by kernel_rfl) (by kernel_rfl) (by kernel_rfl) (fun _ _ _ h => h) (Or.inl ⟨by rfl, ?_⟩) hHeld ?_
          rotate_left 1
          · intro u hSu
            obtain ⟨q0, q1⟩ := row_cells (kept_row HLa.out.gb hSu.out (by simp))
            have q2 := HC.out u i x (grown_trans HGa.out hSu.out) HXX.out
            go_simp
            first | done | with_reducible rfl
          (try simp only [Act.put, List.setIfInBounds_toArray, List.set_cons_zero, List.set_cons_succ])
          refine wpAnyH_take (i := 9) (oi := { dst := some 57, op := Op.load 3 (Operand.tmp 56), type := 3, pos := "law.go:87", after := #[{ on := 8, ground := Ground.data }], guard := none }) (v := ?_) rfl (by kernel_rfl) (by kernel_rfl) (by kernel_rfl) (fun _ _ _ h => h) (Or.inl ⟨by rfl, ?_⟩) hHeld ?_
          rotate_left 1
          · intro u hSu
            obtain ⟨q0, q1⟩ := row_cells (kept_row HLa.out.gb hSu.out (by simp))
            have q2 := HC.out u i x (grown_trans HGa.out hSu.out) HXX.out
            go_simp
            first | done | with_reducible rfl
          (try simp only [Act.put, List.setIfInBounds_toArray, List.set_cons_zero, List.set_cons_succ])
          refine wpAnyH_ready (rs := [10]) (by kernel_rfl) (by simp) ?_
          refine AllReadyH.cons (o := { dst := some 58, op := Op.call { callee := Callee.value (Operand.func 31), args := #[Operand.tmp 49, Operand.tmp 53, Operand.tmp 57], argTypes := #[28, 3, 3] }, type := 4, pos := "law.go:87", after := #[{ on := 1, ground := Ground.data }, { on := 5, ground := Ground.data }, { on := 9, ground := Ground.data }], guard := none }) rfl (fun Kz hK => ?_) AllReadyH.nil
          go_simp
          go_at_call 31
          refine (rconn_any ⟨R, L, pR, cR, pL, cL⟩ x x _ _ ((HLa.out.keep hHeld.out).t)).mono ?_
          rintro e wb ⟨rfl, hgc⟩
          simp only
          rw [HCN.out]
          refine hK.out _ _ (Lib.hid (grown_trans hHeld.out hgc)) (fun hH2 => ?_)
          clear hK Kz hHeld
          have hHeld := hH2
          clear hH2
          (try simp only [Act.put, List.setIfInBounds_toArray, List.set_cons_zero, List.set_cons_succ])
          refine wpAnyH_take (i := 11) (oi := { dst := some 59, op := Op.binOp BinOp.neq 4 (Operand.tmp 48) (Operand.tmp 58) 4, type := 4, pos := "law.go:87", after := #[{ on := 0, ground := Ground.data }, { on := 10, ground := Ground.data }], guard := none }) (v := ?_) rfl (by kernel_rfl) (by kernel_rfl) (by kernel_rfl) (fun _ _ _ h => h) (Or.inl ⟨by rfl, ?_⟩) hHeld ?_
          rotate_left 1
          · intro u hSu
            obtain ⟨q0, q1⟩ := row_cells (kept_row HLa.out.gb hSu.out (by simp))
            have q2 := HC.out u i x (grown_trans HGa.out hSu.out) HXX.out
            go_simp
            first | done | with_reducible rfl
          (try simp only [Act.put, List.setIfInBounds_toArray, List.set_cons_zero, List.set_cons_succ])
          refine wpAnyH_take (i := 12) (oi := { dst := some 60, op := Op.move (Operand.tmp 59), type := 4, pos := "law.go:87", after := #[{ on := 11, ground := Ground.data }, { on := 10, ground := Ground.chain }], guard := none }) (v := ?_) rfl (by kernel_rfl) (by kernel_rfl) (by kernel_rfl) (fun _ _ _ h => h) (Or.inl ⟨by rfl, ?_⟩) hHeld ?_
          rotate_left 1
          · intro u hSu
            obtain ⟨q0, q1⟩ := row_cells (kept_row HLa.out.gb hSu.out (by simp))
            have q2 := HC.out u i x (grown_trans HGa.out hSu.out) HXX.out
            go_simp
            first | done | with_reducible rfl
          (try simp only [Act.put, List.setIfInBounds_toArray, List.set_cons_zero, List.set_cons_succ])
          refine wpAnyH_take (i := 13) (oi := { dst := some 61, op := Op.move (Operand.tmp 6), type := 3, pos := "law.go:87", after := #[{ on := 12, ground := Ground.guard }], guard := some (12, false) }) (v := ?_) rfl (by kernel_rfl) (by kernel_rfl) (by kernel_rfl) (fun _ _ _ h => h) (Or.inl ⟨by rfl, ?_⟩) hHeld ?_
          rotate_left 1
          · intro u hSu
            obtain ⟨q0, q1⟩ := row_cells (kept_row HLa.out.gb hSu.out (by simp))
            have q2 := HC.out u i x (grown_trans HGa.out hSu.out) HXX.out
            go_simp
            first | done | with_reducible rfl
          (try simp only [Act.put, List.setIfInBounds_toArray, List.set_cons_zero, List.set_cons_succ])
          refine wpAnyH_take (i := 14) (oi := { dst := some 62, op := Op.move (Operand.tmp 7), type := 3, pos := "law.go:87", after := #[{ on := 12, ground := Ground.guard }], guard := some (12, false) }) (v := ?_) rfl (by kernel_rfl) (by kernel_rfl) (by kernel_rfl) (fun _ _ _ h => h) (Or.inl ⟨by rfl, ?_⟩) hHeld ?_
          rotate_left 1
          · intro u hSu
            obtain ⟨q0, q1⟩ := row_cells (kept_row HLa.out.gb hSu.out (by simp))
            have q2 := HC.out u i x (grown_trans HGa.out hSu.out) HXX.out
            go_simp
            first | done | with_reducible rfl
          (try simp only [Act.put, List.setIfInBounds_toArray, List.set_cons_zero, List.set_cons_succ])
          refine wpAnyH_take (i := 15) (oi := { dst := some 63, op := Op.binOp BinOp.eql 3 (Operand.tmp 61) (Operand.tmp 62) 3, type := 4, pos := "law.go:87", after := #[{ on := 13, ground := Ground.data }, { on := 14, ground := Ground.data }, { on := 12, ground := Ground.guard }], guard := some (12, false) }) (v := ?_) rfl (by kernel_rfl) (by kernel_rfl) (by kernel_rfl) (fun _ _ _ h => h) (Or.inl ⟨by rfl, ?_⟩) hHeld ?_
          rotate_left 1
          · intro u hSu
            obtain ⟨q0, q1⟩ := row_cells (kept_row HLa.out.gb hSu.out (by simp))
            have q2 := HC.out u i x (grown_trans HGa.out hSu.out) HXX.out
            go_simp
            first | done | with_reducible rfl
          (try simp only [Act.put, List.setIfInBounds_toArray, List.set_cons_zero, List.set_cons_succ])
          refine wpAnyH_take (i := 16) (oi := { dst := some 64, op := Op.move (Operand.tmp 63), type := 4, pos := "law.go:87", after := #[{ on := 15, ground := Ground.data }, { on := 12, ground := Ground.chain }, { on := 12, ground := Ground.guard }], guard := some (12, false) }) (v := ?_) rfl (by kernel_rfl) (by kernel_rfl) (by kernel_rfl) (fun _ _ _ h => h) (Or.inl ⟨by rfl, ?_⟩) hHeld ?_
          rotate_left 1
          · intro u hSu
            obtain ⟨q0, q1⟩ := row_cells (kept_row HLa.out.gb hSu.out (by simp))
            have q2 := HC.out u i x (grown_trans HGa.out hSu.out) HXX.out
            go_simp
            first | done | with_reducible rfl
          (try simp only [Act.put, List.setIfInBounds_toArray, List.set_cons_zero, List.set_cons_succ])
          refine wpAnyH_take (i := 17) (oi := { dst := some 65, op := Op.move (Operand.tmp 8), type := 3, pos := "law.go:87", after := #[{ on := 16, ground := Ground.guard }], guard := some (16, true) }) (v := ?_) rfl (by kernel_rfl) (by kernel_rfl) (by kernel_rfl) (fun _ _ _ h => h) (Or.inl ⟨by rfl, ?_⟩) hHeld ?_
          rotate_left 1
          · intro u hSu
            obtain ⟨q0, q1⟩ := row_cells (kept_row HLa.out.gb hSu.out (by simp))
            have q2 := HC.out u i x (grown_trans HGa.out hSu.out) HXX.out
            go_simp
            first | done | with_reducible rfl
          (try simp only [Act.put, List.setIfInBounds_toArray, List.set_cons_zero, List.set_cons_succ])
          refine wpAnyH_take (i := 18) (oi := { dst := some 66, op := Op.binOp BinOp.neq 3 (Operand.tmp 65) (Operand.const (Value.int IntKind.i64 0)) 3, type := 4, pos := "law.go:87", after := #[{ on := 17, ground := Ground.data }, { on := 16, ground := Ground.guard }], guard := some (16, true) }) (v := ?_) rfl (by kernel_rfl) (by kernel_rfl) (by kernel_rfl) (fun _ _ _ h => h) (Or.inl ⟨by rfl, ?_⟩) hHeld ?_
          rotate_left 1
          · intro u hSu
            obtain ⟨q0, q1⟩ := row_cells (kept_row HLa.out.gb hSu.out (by simp))
            have q2 := HC.out u i x (grown_trans HGa.out hSu.out) HXX.out
            go_simp
            first | done | with_reducible rfl
          (try simp only [Act.put, List.setIfInBounds_toArray, List.set_cons_zero, List.set_cons_succ])
          refine wpAnyH_take (i := 19) (oi := { dst := some 67, op := Op.pick (Operand.tmp 64) (Operand.tmp 66) (Operand.const (Value.bool false)), type := 4, pos := "law.go:87", after := #[{ on := 16, ground := Ground.data }, { on := 18, ground := Ground.data }, { on := 12, ground := Ground.guard }], guard := some (12, false) }) (v := ?_) rfl (by kernel_rfl) (by kernel_rfl) (by kernel_rfl) (fun _ _ _ h => h) (Or.inl ⟨by rfl, ?_⟩) hHeld ?_
          rotate_left 1
          · intro u hSu
            obtain ⟨q0, q1⟩ := row_cells (kept_row HLa.out.gb hSu.out (by simp))
            have q2 := HC.out u i x (grown_trans HGa.out hSu.out) HXX.out
            go_simp
            first | done | with_reducible rfl
          (try simp only [Act.put, List.setIfInBounds_toArray, List.set_cons_zero, List.set_cons_succ])
          refine wpAnyH_take (i := 20) (oi := { dst := some 68, op := Op.pick (Operand.tmp 60) (Operand.const (Value.bool true)) (Operand.tmp 67), type := 4, pos := "law.go:87", after := #[{ on := 12, ground := Ground.data }, { on := 19, ground := Ground.data }], guard := none }) (v := ?_) rfl (by kernel_rfl) (by kernel_rfl) (by kernel_rfl) (fun _ _ _ h => h) (Or.inl ⟨by rfl, ?_⟩) hHeld ?_
          rotate_left 1
          · intro u hSu
            obtain ⟨q0, q1⟩ := row_cells (kept_row HLa.out.gb hSu.out (by simp))
            have q2 := HC.out u i x (grown_trans HGa.out hSu.out) HXX.out
            go_simp
            first | done | with_reducible rfl
          (try simp only [Act.put, List.setIfInBounds_toArray, List.set_cons_zero, List.set_cons_succ])
          refine wpAnyH_take (i := 21) (oi := { dst := some 69, op := Op.move (Operand.tmp 68), type := 4, pos := "law.go:87", after := #[{ on := 20, ground := Ground.data }, { on := 16, ground := Ground.chain }], guard := none }) (v := ?_) rfl (by kernel_rfl) (by kernel_rfl) (by kernel_rfl) (fun _ _ _ h => h) (Or.inl ⟨by rfl, ?_⟩) hHeld ?_
          rotate_left 1
          · intro u hSu
            obtain ⟨q0, q1⟩ := row_cells (kept_row HLa.out.gb hSu.out (by simp))
            have q2 := HC.out u i x (grown_trans HGa.out hSu.out) HXX.out
            go_simp
            first | done | with_reducible rfl
          (try simp only [Act.put, List.setIfInBounds_toArray, List.set_cons_zero, List.set_cons_succ])
          refine wpAnyH_take (i := 22) (oi := { dst := some 70, op := Op.move (Operand.tmp 6), type := 3, pos := "law.go:87", after := #[{ on := 21, ground := Ground.guard }], guard := some (21, false) }) (v := ?_) rfl (by kernel_rfl) (by kernel_rfl) (by kernel_rfl) (fun _ _ _ h => h) (Or.inl ⟨by rfl, ?_⟩) hHeld ?_
          rotate_left 1
          · intro u hSu
            obtain ⟨q0, q1⟩ := row_cells (kept_row HLa.out.gb hSu.out (by simp))
            have q2 := HC.out u i x (grown_trans HGa.out hSu.out) HXX.out
            go_simp
            first | done | with_reducible rfl
          (try simp only [Act.put, List.setIfInBounds_toArray, List.set_cons_zero, List.set_cons_succ])
          refine wpAnyH_take (i := 23) (oi := { dst := some 71, op := Op.move (Operand.tmp 7), type := 3, pos := "law.go:87", after := #[{ on := 21, ground := Ground.guard }], guard := some (21, false) }) (v := ?_) rfl (by kernel_rfl) (by kernel_rfl) (by kernel_rfl) (fun _ _ _ h => h) (Or.inl ⟨by rfl, ?_⟩) hHeld ?_
          rotate_left 1
          · intro u hSu
            obtain ⟨q0, q1⟩ := row_cells (kept_row HLa.out.gb hSu.out (by simp))
            have q2 := HC.out u i x (grown_trans HGa.out hSu.out) HXX.out
            go_simp
            first | done | with_reducible rfl
          (try simp only [Act.put, List.setIfInBounds_toArray, List.set_cons_zero, List.set_cons_succ])
          refine wpAnyH_take (i := 24) (oi := { dst := some 72, op := Op.binOp BinOp.neq 3 (Operand.tmp 70) (Operand.tmp 71) 3, type := 4, pos := "law.go:87", after := #[{ on := 22, ground := Ground.data }, { on := 23, ground := Ground.data }, { on := 21, ground := Ground.guard }], guard := some (21, false) }) (v := ?_) rfl (by kernel_rfl) (by kernel_rfl) (by kernel_rfl) (fun _ _ _ h => h) (Or.inl ⟨by rfl, ?_⟩) hHeld ?_
          rotate_left 1
          · intro u hSu
            obtain ⟨q0, q1⟩ := row_cells (kept_row HLa.out.gb hSu.out (by simp))
            have q2 := HC.out u i x (grown_trans HGa.out hSu.out) HXX.out
            go_simp
            first | done | with_reducible rfl
          (try simp only [Act.put, List.setIfInBounds_toArray, List.set_cons_zero, List.set_cons_succ])
          refine wpAnyH_take (i := 25) (oi := { dst := some 73, op := Op.move (Operand.tmp 72), type := 4, pos := "law.go:87", after := #[{ on := 24, ground := Ground.data }, { on := 21, ground := Ground.chain }, { on := 21, ground := Ground.guard }], guard := some (21, false) }) (v := ?_) rfl (by kernel_rfl) (by kernel_rfl) (by kernel_rfl) (fun _ _ _ h => h) (Or.inl ⟨by rfl, ?_⟩) hHeld ?_
          rotate_left 1
          · intro u hSu
            obtain ⟨q0, q1⟩ := row_cells (kept_row HLa.out.gb hSu.out (by simp))
            have q2 := HC.out u i x (grown_trans HGa.out hSu.out) HXX.out
            go_simp
            first | done | with_reducible rfl
          (try simp only [Act.put, List.setIfInBounds_toArray, List.set_cons_zero, List.set_cons_succ])
          refine wpAnyH_take (i := 26) (oi := { dst := some 74, op := Op.move (Operand.tmp 9), type := 4, pos := "law.go:87", after := #[{ on := 25, ground := Ground.guard }], guard := some (25, true) }) (v := undef) rfl (by kernel_rfl) (by kernel_rfl) (by kernel_rfl) (fun _ _ _ h => h) (Or.inr ⟨by rfl, rfl⟩) hHeld ?_
          (try simp only [Act.put, List.setIfInBounds_toArray, List.set_cons_zero, List.set_cons_succ])
          refine wpAnyH_take (i := 27) (oi := { dst := some 75, op := Op.pick (Operand.tmp 73) (Operand.tmp 74) (Operand.const (Value.bool false)), type := 4, pos := "law.go:87", after := #[{ on := 25, ground := Ground.data }, { on := 26, ground := Ground.data }, { on := 21, ground := Ground.guard }], guard := some (21, false) }) (v := ?_) rfl (by kernel_rfl) (by kernel_rfl) (by kernel_rfl) (fun _ _ _ h => h) (Or.inl ⟨by rfl, ?_⟩) hHeld ?_
          rotate_left 1
          · intro u hSu
            obtain ⟨q0, q1⟩ := row_cells (kept_row HLa.out.gb hSu.out (by simp))
            have q2 := HC.out u i x (grown_trans HGa.out hSu.out) HXX.out
            go_simp
            first | done | with_reducible rfl
          (try simp only [Act.put, List.setIfInBounds_toArray, List.set_cons_zero, List.set_cons_succ])
          refine wpAnyH_take (i := 28) (oi := { dst := some 76, op := Op.move (Operand.tmp 75), type := 4, pos := "law.go:87", after := #[{ on := 27, ground := Ground.data }, { on := 25, ground := Ground.chain }, { on := 21, ground := Ground.guard }], guard := some (21, false) }) (v := ?_) rfl (by kernel_rfl) (by kernel_rfl) (by kernel_rfl) (fun _ _ _ h => h) (Or.inl ⟨by rfl, ?_⟩) hHeld ?_
          rotate_left 1
          · intro u hSu
            obtain ⟨q0, q1⟩ := row_cells (kept_row HLa.out.gb hSu.out (by simp))
            have q2 := HC.out u i x (grown_trans HGa.out hSu.out) HXX.out
            go_simp
            first | done | with_reducible rfl
          (try simp only [Act.put, List.setIfInBounds_toArray, List.set_cons_zero, List.set_cons_succ])
          refine wpAnyH_take (i := 29) (oi := { dst := some 77, op := Op.move (Operand.tmp 8), type := 3, pos := "law.go:87", after := #[{ on := 28, ground := Ground.guard }], guard := some (28, true) }) (v := undef) rfl (by kernel_rfl) (by kernel_rfl) (by kernel_rfl) (fun _ _ _ h => h) (Or.inr ⟨by rfl, rfl⟩) hHeld ?_
          (try simp only [Act.put, List.setIfInBounds_toArray, List.set_cons_zero, List.set_cons_succ])
          refine wpAnyH_take (i := 30) (oi := { dst := some 78, op := Op.binOp BinOp.lss 3 (Operand.tmp 77) (Operand.const (Value.int IntKind.i64 1)) 3, type := 4, pos := "law.go:87", after := #[{ on := 29, ground := Ground.data }, { on := 28, ground := Ground.guard }], guard := some (28, true) }) (v := undef) rfl (by kernel_rfl) (by kernel_rfl) (by kernel_rfl) (fun _ _ _ h => h) (Or.inr ⟨by rfl, rfl⟩) hHeld ?_
          (try simp only [Act.put, List.setIfInBounds_toArray, List.set_cons_zero, List.set_cons_succ])
          refine wpAnyH_take (i := 31) (oi := { dst := some 79, op := Op.pick (Operand.tmp 76) (Operand.tmp 78) (Operand.const (Value.bool false)), type := 4, pos := "law.go:87", after := #[{ on := 28, ground := Ground.data }, { on := 30, ground := Ground.data }, { on := 21, ground := Ground.guard }], guard := some (21, false) }) (v := ?_) rfl (by kernel_rfl) (by kernel_rfl) (by kernel_rfl) (fun _ _ _ h => h) (Or.inl ⟨by rfl, ?_⟩) hHeld ?_
          rotate_left 1
          · intro u hSu
            obtain ⟨q0, q1⟩ := row_cells (kept_row HLa.out.gb hSu.out (by simp))
            have q2 := HC.out u i x (grown_trans HGa.out hSu.out) HXX.out
            go_simp
            first | done | with_reducible rfl
          (try simp only [Act.put, List.setIfInBounds_toArray, List.set_cons_zero, List.set_cons_succ])
          refine wpAnyH_take (i := 32) (oi := { dst := some 80, op := Op.pick (Operand.tmp 69) (Operand.const (Value.bool true)) (Operand.tmp 79), type := 4, pos := "law.go:87", after := #[{ on := 21, ground := Ground.data }, { on := 31, ground := Ground.data }], guard := none }) (v := ?_) rfl (by kernel_rfl) (by kernel_rfl) (by kernel_rfl) (fun _ _ _ h => h) (Or.inl ⟨by rfl, ?_⟩) hHeld ?_
          rotate_left 1
          · intro u hSu
            obtain ⟨q0, q1⟩ := row_cells (kept_row HLa.out.gb hSu.out (by simp))
            have q2 := HC.out u i x (grown_trans HGa.out hSu.out) HXX.out
            go_simp
            first | done | with_reducible rfl
          (try simp only [Act.put, List.setIfInBounds_toArray, List.set_cons_zero, List.set_cons_succ])
          refine wpAnyH_done (by kernel_rfl) ?_ _
          have HLe := Lib.hid (HLa.out.keep hHeld.out)
          have HGe := Lib.hid (grown_trans HGa.out hHeld.out)
          clear hHeld HLa HGa
          go_wp2_with fail
          go_meet
          exact ⟨rfl, HLe, HGe⟩
        · have hikz : ¬ ((i : Int) = (k : Int)) := by omega
          have hxy : x ≠ y := fun e => hik ((List.getElem?_inj hlti HX.out.2).1 (HXX.out.trans (by rw [e]; exact HYY.out.symm)))
          have HXY := Lib.hid hxy
          clear hik hxy
          cases ok with
          | true =>
            have hA1 : 1 ≤ A := by
              obtain ⟨d, hd⟩ := Option.isSome_iff_exists.1 HA.out.2
              have h1 := dst_pos hd HXY.out
              have h2 := HA.out.1
              rw [hd] at h2
              have h3 : d = A := h2
              omega
            refine wp_region_held_drew (S := fun w' => Hid (wa.grownBy w' none)) (by kernel_rfl) (Lib.hid (grown_drew (grown_refl _ _))) (fun hHeld => ?_)
            refine wpAnyH_take (i := 0) (oi := { dst := some 48, op := Op.move (Operand.tmp 9), type := 4, pos := "law.go:87", after := #[], guard := none }) (v := ?_) rfl (by kernel_rfl) (by kernel_rfl) (by kernel_rfl) (fun _ _ _ h => h) (Or.inl ⟨by rfl, ?_⟩) hHeld ?_
            rotate_left 1
            · intro u hSu
              obtain ⟨q0, q1⟩ := row_cells (kept_row HLa.out.gb hSu.out (by simp))
              have q2 := HC.out u i x (grown_trans HGa.out hSu.out) HXX.out
              have q3 := HC.out u k y (grown_trans HGa.out hSu.out) HYY.out
              go_simp
              first | done | with_reducible rfl
            (try simp only [Act.put, List.setIfInBounds_toArray, List.set_cons_zero, List.set_cons_succ])
            refine wpAnyH_take (i := 1) (oi := { dst := some 49, op := Op.load 28 (Operand.tmp 4), type := 28, pos := "law.go:87", after := #[], guard := none }) (v := ?_) rfl (by kernel_rfl) (by kernel_rfl) (by kernel_rfl) (fun _ _ _ h => h) (Or.inl ⟨by rfl, ?_⟩) hHeld ?_
            rotate_left 1
            · intro u hSu
              obtain ⟨q0, q1⟩ := row_cells (kept_row HLa.out.gb hSu.out (by simp))
              have q2 := HC.out u i x (grown_trans HGa.out hSu.out) HXX.out
              have q3 := HC.out u k y (grown_trans HGa.out hSu.out) HYY.out
              go_simp
              first | done | with_reducible rfl
            (try simp only [Act.put, List.setIfInBounds_toArray, List.set_cons_zero, List.set_cons_succ])
            refine wpAnyH_take (i := 2) (oi := { dst := some 50, op := Op.move (Operand.tmp 5), type := 22, pos := "law.go:87", after := #[], guard := none }) (v := ?_) rfl (by kernel_rfl) (by kernel_rfl) (by kernel_rfl) (fun _ _ _ h => h) (Or.inl ⟨by rfl, ?_⟩) hHeld ?_
            rotate_left 1
            · intro u hSu
              obtain ⟨q0, q1⟩ := row_cells (kept_row HLa.out.gb hSu.out (by simp))
              have q2 := HC.out u i x (grown_trans HGa.out hSu.out) HXX.out
              have q3 := HC.out u k y (grown_trans HGa.out hSu.out) HYY.out
              go_simp
              first | done | with_reducible rfl
            (try simp only [Act.put, List.setIfInBounds_toArray, List.set_cons_zero, List.set_cons_succ])
            refine wpAnyH_take (i := 3) (oi := { dst := some 51, op := Op.move (Operand.tmp 6), type := 3, pos := "law.go:87", after := #[], guard := none }) (v := ?_) rfl (by kernel_rfl) (by kernel_rfl) (by kernel_rfl) (fun _ _ _ h => h) (Or.inl ⟨by rfl, ?_⟩) hHeld ?_
            rotate_left 1
            · intro u hSu
              obtain ⟨q0, q1⟩ := row_cells (kept_row HLa.out.gb hSu.out (by simp))
              have q2 := HC.out u i x (grown_trans HGa.out hSu.out) HXX.out
              have q3 := HC.out u k y (grown_trans HGa.out hSu.out) HYY.out
              go_simp
              first | done | with_reducible rfl
            (try simp only [Act.put, List.setIfInBounds_toArray, List.set_cons_zero, List.set_cons_succ])
            refine wpAnyH_take (i := 4) (oi := { dst := some 52, op := Op.indexAddr 22 (Operand.tmp 50) (Operand.tmp 51), type := 0, pos := "law.go:87", after := #[{ on := 2, ground := Ground.data }, { on := 3, ground := Ground.data }], guard := none }) (v := ?_) rfl (by kernel_rfl) (by kernel_rfl) (by kernel_rfl) (fun _ _ _ h => h) (Or.inl ⟨by rfl, ?_⟩) hHeld ?_
            rotate_left 1
            · intro u hSu
              obtain ⟨q0, q1⟩ := row_cells (kept_row HLa.out.gb hSu.out (by simp))
              have q2 := HC.out u i x (grown_trans HGa.out hSu.out) HXX.out
              have q3 := HC.out u k y (grown_trans HGa.out hSu.out) HYY.out
              go_simp
              first | done | with_reducible rfl
            (try simp only [Act.put, List.setIfInBounds_toArray, List.set_cons_zero, List.set_cons_succ])
            refine wpAnyH_take (i := 5) (oi := { dst := some 53, op := Op.load 3 (Operand.tmp 52), type := 3, pos := "law.go:87", after := #[{ on := 4, ground := Ground.data }], guard := none }) (v := ?_) rfl (by kernel_rfl) (by kernel_rfl) (by kernel_rfl) (fun _ _ _ h => h) (Or.inl ⟨by rfl, ?_⟩) hHeld ?_
            rotate_left 1
            · intro u hSu
              obtain ⟨q0, q1⟩ := row_cells (kept_row HLa.out.gb hSu.out (by simp))
              have q2 := HC.out u i x (grown_trans HGa.out hSu.out) HXX.out
              have q3 := HC.out u k y (grown_trans HGa.out hSu.out) HYY.out
              go_simp
              first | done | with_reducible rfl
            (try simp only [Act.put, List.setIfInBounds_toArray, List.set_cons_zero, List.set_cons_succ])
            refine wpAnyH_take (i := 6) (oi := { dst := some 54, op := Op.move (Operand.tmp 5), type := 22, pos := "law.go:87", after := #[], guard := none }) (v := ?_) rfl (by kernel_rfl) (by kernel_rfl) (by kernel_rfl) (fun _ _ _ h => h) (Or.inl ⟨by rfl, ?_⟩) hHeld ?_
            rotate_left 1
            · intro u hSu
              obtain ⟨q0, q1⟩ := row_cells (kept_row HLa.out.gb hSu.out (by simp))
              have q2 := HC.out u i x (grown_trans HGa.out hSu.out) HXX.out
              have q3 := HC.out u k y (grown_trans HGa.out hSu.out) HYY.out
              go_simp
              first | done | with_reducible rfl
            (try simp only [Act.put, List.setIfInBounds_toArray, List.set_cons_zero, List.set_cons_succ])
            refine wpAnyH_take (i := 7) (oi := { dst := some 55, op := Op.move (Operand.tmp 7), type := 3, pos := "law.go:87", after := #[], guard := none }) (v := ?_) rfl (by kernel_rfl) (by kernel_rfl) (by kernel_rfl) (fun _ _ _ h => h) (Or.inl ⟨by rfl, ?_⟩) hHeld ?_
            rotate_left 1
            · intro u hSu
              obtain ⟨q0, q1⟩ := row_cells (kept_row HLa.out.gb hSu.out (by simp))
              have q2 := HC.out u i x (grown_trans HGa.out hSu.out) HXX.out
              have q3 := HC.out u k y (grown_trans HGa.out hSu.out) HYY.out
              go_simp
              first | done | with_reducible rfl
            (try simp only [Act.put, List.setIfInBounds_toArray, List.set_cons_zero, List.set_cons_succ])
            refine wpAnyH_take (i := 8) (oi := { dst := some 56, op := Op.indexAddr 22 (Operand.tmp 54) (Operand.tmp 55), type := 0, pos := "law.go:87", after := #[{ on := 6, ground := Ground.data }, { on := 7, ground := Ground.data }], guard := none }) (v := ?_) rfl (by kernel_rfl) (by kernel_rfl) (by kernel_rfl) (fun _ _ _ h => h) (Or.inl ⟨by rfl, ?_⟩) hHeld ?_
            rotate_left 1
            · intro u hSu
              obtain ⟨q0, q1⟩ := row_cells (kept_row HLa.out.gb hSu.out (by simp))
              have q2 := HC.out u i x (grown_trans HGa.out hSu.out) HXX.out
              have q3 := HC.out u k y (grown_trans HGa.out hSu.out) HYY.out
              go_simp
              first | done | with_reducible rfl
            (try simp only [Act.put, List.setIfInBounds_toArray, List.set_cons_zero, List.set_cons_succ])
            refine wpAnyH_take (i := 9) (oi := { dst := some 57, op := Op.load 3 (Operand.tmp 56), type := 3, pos := "law.go:87", after := #[{ on := 8, ground := Ground.data }], guard := none }) (v := ?_) rfl (by kernel_rfl) (by kernel_rfl) (by kernel_rfl) (fun _ _ _ h => h) (Or.inl ⟨by rfl, ?_⟩) hHeld ?_
            rotate_left 1
            · intro u hSu
              obtain ⟨q0, q1⟩ := row_cells (kept_row HLa.out.gb hSu.out (by simp))
              have q2 := HC.out u i x (grown_trans HGa.out hSu.out) HXX.out
              have q3 := HC.out u k y (grown_trans HGa.out hSu.out) HYY.out
              go_simp
              first | done | with_reducible rfl
            (try simp only [Act.put, List.setIfInBounds_toArray, List.set_cons_zero, List.set_cons_succ])
            refine wpAnyH_ready (rs := [10]) (by kernel_rfl) (by simp) ?_
            refine AllReadyH.cons (o := { dst := some 58, op := Op.call { callee := Callee.value (Operand.func 31), args := #[Operand.tmp 49, Operand.tmp 53, Operand.tmp 57], argTypes := #[28, 3, 3] }, type := 4, pos := "law.go:87", after := #[{ on := 1, ground := Ground.data }, { on := 5, ground := Ground.data }, { on := 9, ground := Ground.data }], guard := none }) rfl (fun Kz hK => ?_) AllReadyH.nil
            go_simp
            go_at_call 31
            refine (rconn_any ⟨R, L, pR, cR, pL, cL⟩ x y _ _ ((HLa.out.keep hHeld.out).t)).mono ?_
            rintro e wb ⟨rfl, hgc⟩
            simp only
            rw [HCN.out]
            refine hK.out _ _ (Lib.hid (grown_trans hHeld.out hgc)) (fun hH2 => ?_)
            clear hK Kz hHeld
            have hHeld := hH2
            clear hH2
            (try simp only [Act.put, List.setIfInBounds_toArray, List.set_cons_zero, List.set_cons_succ])
            refine wpAnyH_take (i := 11) (oi := { dst := some 59, op := Op.binOp BinOp.neq 4 (Operand.tmp 48) (Operand.tmp 58) 4, type := 4, pos := "law.go:87", after := #[{ on := 0, ground := Ground.data }, { on := 10, ground := Ground.data }], guard := none }) (v := ?_) rfl (by kernel_rfl) (by kernel_rfl) (by kernel_rfl) (fun _ _ _ h => h) (Or.inl ⟨by rfl, ?_⟩) hHeld ?_
            rotate_left 1
            · intro u hSu
              obtain ⟨q0, q1⟩ := row_cells (kept_row HLa.out.gb hSu.out (by simp))
              have q2 := HC.out u i x (grown_trans HGa.out hSu.out) HXX.out
              have q3 := HC.out u k y (grown_trans HGa.out hSu.out) HYY.out
              go_simp
              first | done | with_reducible rfl
            (try simp only [Act.put, List.setIfInBounds_toArray, List.set_cons_zero, List.set_cons_succ])
            refine wpAnyH_take (i := 12) (oi := { dst := some 60, op := Op.move (Operand.tmp 59), type := 4, pos := "law.go:87", after := #[{ on := 11, ground := Ground.data }, { on := 10, ground := Ground.chain }], guard := none }) (v := ?_) rfl (by kernel_rfl) (by kernel_rfl) (by kernel_rfl) (fun _ _ _ h => h) (Or.inl ⟨by rfl, ?_⟩) hHeld ?_
            rotate_left 1
            · intro u hSu
              obtain ⟨q0, q1⟩ := row_cells (kept_row HLa.out.gb hSu.out (by simp))
              have q2 := HC.out u i x (grown_trans HGa.out hSu.out) HXX.out
              have q3 := HC.out u k y (grown_trans HGa.out hSu.out) HYY.out
              go_simp
              first | done | with_reducible rfl
            (try simp only [Act.put, List.setIfInBounds_toArray, List.set_cons_zero, List.set_cons_succ])
            refine wpAnyH_take (i := 13) (oi := { dst := some 61, op := Op.move (Operand.tmp 6), type := 3, pos := "law.go:87", after := #[{ on := 12, ground := Ground.guard }], guard := some (12, false) }) (v := ?_) rfl (by kernel_rfl) (by kernel_rfl) (by kernel_rfl) (fun _ _ _ h => h) (Or.inl ⟨by rfl, ?_⟩) hHeld ?_
            rotate_left 1
            · intro u hSu
              obtain ⟨q0, q1⟩ := row_cells (kept_row HLa.out.gb hSu.out (by simp))
              have q2 := HC.out u i x (grown_trans HGa.out hSu.out) HXX.out
              have q3 := HC.out u k y (grown_trans HGa.out hSu.out) HYY.out
              go_simp
              first | done | with_reducible rfl
            (try simp only [Act.put, List.setIfInBounds_toArray, List.set_cons_zero, List.set_cons_succ])
            refine wpAnyH_take (i := 14) (oi := { dst := some 62, op := Op.move (Operand.tmp 7), type := 3, pos := "law.go:87", after := #[{ on := 12, ground := Ground.guard }], guard := some (12, false) }) (v := ?_) rfl (by kernel_rfl) (by kernel_rfl) (by kernel_rfl) (fun _ _ _ h => h) (Or.inl ⟨by rfl, ?_⟩) hHeld ?_
            rotate_left 1
            · intro u hSu
              obtain ⟨q0, q1⟩ := row_cells (kept_row HLa.out.gb hSu.out (by simp))
              have q2 := HC.out u i x (grown_trans HGa.out hSu.out) HXX.out
              have q3 := HC.out u k y (grown_trans HGa.out hSu.out) HYY.out
              go_simp
              first | done | with_reducible rfl
            (try simp only [Act.put, List.setIfInBounds_toArray, List.set_cons_zero, List.set_cons_succ])
            refine wpAnyH_take (i := 15) (oi := { dst := some 63, op := Op.binOp BinOp.eql 3 (Operand.tmp 61) (Operand.tmp 62) 3, type := 4, pos := "law.go:87", after := #[{ on := 13, ground := Ground.data }, { on := 14, ground := Ground.data }, { on := 12, ground := Ground.guard }], guard := some (12, false) }) (v := (.bool false)) rfl (by kernel_rfl) (by kernel_rfl) (by kernel_rfl) (fun _ _ _ h => h) (Or.inl ⟨by rfl, ?_⟩) hHeld ?_
            · intro u hSu
              obtain ⟨q0, q1⟩ := row_cells (kept_row HLa.out.gb hSu.out (by simp))
              have q2 := HC.out u i x (grown_trans HGa.out hSu.out) HXX.out
              have q3 := HC.out u k y (grown_trans HGa.out hSu.out) HYY.out
              go_simp
              first | done | (simp; done) | (simp; omega) | (rw [decide_eq_false (by omega)]; done)
            (try simp only [Act.put, List.setIfInBounds_toArray, List.set_cons_zero, List.set_cons_succ])
            refine wpAnyH_take (i := 16) (oi := { dst := some 64, op := Op.move (Operand.tmp 63), type := 4, pos := "law.go:87", after := #[{ on := 15, ground := Ground.data }, { on := 12, ground := Ground.chain }, { on := 12, ground := Ground.guard }], guard := some (12, false) }) (v := ?_) rfl (by kernel_rfl) (by kernel_rfl) (by kernel_rfl) (fun _ _ _ h => h) (Or.inl ⟨by rfl, ?_⟩) hHeld ?_
            rotate_left 1
            · intro u hSu
              obtain ⟨q0, q1⟩ := row_cells (kept_row HLa.out.gb hSu.out (by simp))
              have q2 := HC.out u i x (grown_trans HGa.out hSu.out) HXX.out
              have q3 := HC.out u k y (grown_trans HGa.out hSu.out) HYY.out
              go_simp
              first | done | with_reducible rfl
            (try simp only [Act.put, List.setIfInBounds_toArray, List.set_cons_zero, List.set_cons_succ])
            refine wpAnyH_take (i := 17) (oi := { dst := some 65, op := Op.move (Operand.tmp 8), type := 3, pos := "law.go:87", after := #[{ on := 16, ground := Ground.guard }], guard := some (16, true) }) (v := undef) rfl (by kernel_rfl) (by kernel_rfl) (by kernel_rfl) (fun _ _ _ h => h) (Or.inr ⟨by rfl, rfl⟩) hHeld ?_
            (try simp only [Act.put, List.setIfInBounds_toArray, List.set_cons_zero, List.set_cons_succ])
            refine wpAnyH_take (i := 18) (oi := { dst := some 66, op := Op.binOp BinOp.neq 3 (Operand.tmp 65) (Operand.const (Value.int IntKind.i64 0)) 3, type := 4, pos := "law.go:87", after := #[{ on := 17, ground := Ground.data }, { on := 16, ground := Ground.guard }], guard := some (16, true) }) (v := undef) rfl (by kernel_rfl) (by kernel_rfl) (by kernel_rfl) (fun _ _ _ h => h) (Or.inr ⟨by rfl, rfl⟩) hHeld ?_
            (try simp only [Act.put, List.setIfInBounds_toArray, List.set_cons_zero, List.set_cons_succ])
            refine wpAnyH_take (i := 19) (oi := { dst := some 67, op := Op.pick (Operand.tmp 64) (Operand.tmp 66) (Operand.const (Value.bool false)), type := 4, pos := "law.go:87", after := #[{ on := 16, ground := Ground.data }, { on := 18, ground := Ground.data }, { on := 12, ground := Ground.guard }], guard := some (12, false) }) (v := ?_) rfl (by kernel_rfl) (by kernel_rfl) (by kernel_rfl) (fun _ _ _ h => h) (Or.inl ⟨by rfl, ?_⟩) hHeld ?_
            rotate_left 1
            · intro u hSu
              obtain ⟨q0, q1⟩ := row_cells (kept_row HLa.out.gb hSu.out (by simp))
              have q2 := HC.out u i x (grown_trans HGa.out hSu.out) HXX.out
              have q3 := HC.out u k y (grown_trans HGa.out hSu.out) HYY.out
              go_simp
              first | done | with_reducible rfl
            (try simp only [Act.put, List.setIfInBounds_toArray, List.set_cons_zero, List.set_cons_succ])
            refine wpAnyH_take (i := 20) (oi := { dst := some 68, op := Op.pick (Operand.tmp 60) (Operand.const (Value.bool true)) (Operand.tmp 67), type := 4, pos := "law.go:87", after := #[{ on := 12, ground := Ground.data }, { on := 19, ground := Ground.data }], guard := none }) (v := ?_) rfl (by kernel_rfl) (by kernel_rfl) (by kernel_rfl) (fun _ _ _ h => h) (Or.inl ⟨by rfl, ?_⟩) hHeld ?_
            rotate_left 1
            · intro u hSu
              obtain ⟨q0, q1⟩ := row_cells (kept_row HLa.out.gb hSu.out (by simp))
              have q2 := HC.out u i x (grown_trans HGa.out hSu.out) HXX.out
              have q3 := HC.out u k y (grown_trans HGa.out hSu.out) HYY.out
              go_simp
              first | done | with_reducible rfl
            (try simp only [Act.put, List.setIfInBounds_toArray, List.set_cons_zero, List.set_cons_succ])
            refine wpAnyH_take (i := 21) (oi := { dst := some 69, op := Op.move (Operand.tmp 68), type := 4, pos := "law.go:87", after := #[{ on := 20, ground := Ground.data }, { on := 16, ground := Ground.chain }], guard := none }) (v := ?_) rfl (by kernel_rfl) (by kernel_rfl) (by kernel_rfl) (fun _ _ _ h => h) (Or.inl ⟨by rfl, ?_⟩) hHeld ?_
            rotate_left 1
            · intro u hSu
              obtain ⟨q0, q1⟩ := row_cells (kept_row HLa.out.gb hSu.out (by simp))
              have q2 := HC.out u i x (grown_trans HGa.out hSu.out) HXX.out
              have q3 := HC.out u k y (grown_trans HGa.out hSu.out) HYY.out
              go_simp
              first | done | with_reducible rfl
            (try simp only [Act.put, List.setIfInBounds_toArray, List.set_cons_zero, List.set_cons_succ])
            refine wpAnyH_take (i := 22) (oi := { dst := some 70, op := Op.move (Operand.tmp 6), type := 3, pos := "law.go:87", after := #[{ on := 21, ground := Ground.guard }], guard := some (21, false) }) (v := ?_) rfl (by kernel_rfl) (by kernel_rfl) (by kernel_rfl) (fun _ _ _ h => h) (Or.inl ⟨by rfl, ?_⟩) hHeld ?_
            rotate_left 1
            · intro u hSu
              obtain ⟨q0, q1⟩ := row_cells (kept_row HLa.out.gb hSu.out (by simp))
              have q2 := HC.out u i x (grown_trans HGa.out hSu.out) HXX.out
              have q3 := HC.out u k y (grown_trans HGa.out hSu.out) HYY.out
              go_simp
              first | done | with_reducible rfl
            (try simp only [Act.put, List.setIfInBounds_toArray, List.set_cons_zero, List.set_cons_succ])
            refine wpAnyH_take (i := 23) (oi := { dst := some 71, op := Op.move (Operand.tmp 7), type := 3, pos := "law.go:87", after := #[{ on := 21, ground := Ground.guard }], guard := some (21, false) }) (v := ?_) rfl (by kernel_rfl) (by kernel_rfl) (by kernel_rfl) (fun _ _ _ h => h) (Or.inl ⟨by rfl, ?_⟩) hHeld ?_
            rotate_left 1
            · intro u hSu
              obtain ⟨q0, q1⟩ := row_cells (kept_row HLa.out.gb hSu.out (by simp))
              have q2 := HC.out u i x (grown_trans HGa.out hSu.out) HXX.out
              have q3 := HC.out u k y (grown_trans HGa.out hSu.out) HYY.out
              go_simp
              first | done | with_reducible rfl
            (try simp only [Act.put, List.setIfInBounds_toArray, List.set_cons_zero, List.set_cons_succ])
            refine wpAnyH_take (i := 24) (oi := { dst := some 72, op := Op.binOp BinOp.neq 3 (Operand.tmp 70) (Operand.tmp 71) 3, type := 4, pos := "law.go:87", after := #[{ on := 22, ground := Ground.data }, { on := 23, ground := Ground.data }, { on := 21, ground := Ground.guard }], guard := some (21, false) }) (v := (.bool true)) rfl (by kernel_rfl) (by kernel_rfl) (by kernel_rfl) (fun _ _ _ h => h) (Or.inl ⟨by rfl, ?_⟩) hHeld ?_
            · intro u hSu
              obtain ⟨q0, q1⟩ := row_cells (kept_row HLa.out.gb hSu.out (by simp))
              have q2 := HC.out u i x (grown_trans HGa.out hSu.out) HXX.out
              have q3 := HC.out u k y (grown_trans HGa.out hSu.out) HYY.out
              go_simp
              first | done | (simp; done) | (simp; omega) | (rw [decide_eq_false (by omega)]; done)
            (try simp only [Act.put, List.setIfInBounds_toArray, List.set_cons_zero, List.set_cons_succ])
            refine wpAnyH_take (i := 25) (oi := { dst := some 73, op := Op.move (Operand.tmp 72), type := 4, pos := "law.go:87", after := #[{ on := 24, ground := Ground.data }, { on := 21, ground := Ground.chain }, { on := 21, ground := Ground.guard }], guard := some (21, false) }) (v := ?_) rfl (by kernel_rfl) (by kernel_rfl) (by kernel_rfl) (fun _ _ _ h => h) (Or.inl ⟨by rfl, ?_⟩) hHeld ?_
            rotate_left 1
            · intro u hSu
              obtain ⟨q0, q1⟩ := row_cells (kept_row HLa.out.gb hSu.out (by simp))
              have q2 := HC.out u i x (grown_trans HGa.out hSu.out) HXX.out
              have q3 := HC.out u k y (grown_trans HGa.out hSu.out) HYY.out
              go_simp
              first | done | with_reducible rfl
            (try simp only [Act.put, List.setIfInBounds_toArray, List.set_cons_zero, List.set_cons_succ])
            refine wpAnyH_take (i := 26) (oi := { dst := some 74, op := Op.move (Operand.tmp 9), type := 4, pos := "law.go:87", after := #[{ on := 25, ground := Ground.guard }], guard := some (25, true) }) (v := ?_) rfl (by kernel_rfl) (by kernel_rfl) (by kernel_rfl) (fun _ _ _ h => h) (Or.inl ⟨by rfl, ?_⟩) hHeld ?_
            rotate_left 1
            · intro u hSu
              obtain ⟨q0, q1⟩ := row_cells (kept_row HLa.out.gb hSu.out (by simp))
              have q2 := HC.out u i x (grown_trans HGa.out hSu.out) HXX.out
              have q3 := HC.out u k y (grown_trans HGa.out hSu.out) HYY.out
              go_simp
              first | done | with_reducible rfl
            (try simp only [Act.put, List.setIfInBounds_toArray, List.set_cons_zero, List.set_cons_succ])
            refine wpAnyH_take (i := 27) (oi := { dst := some 75, op := Op.pick (Operand.tmp 73) (Operand.tmp 74) (Operand.const (Value.bool false)), type := 4, pos := "law.go:87", after := #[{ on := 25, ground := Ground.data }, { on := 26, ground := Ground.data }, { on := 21, ground := Ground.guard }], guard := some (21, false) }) (v := ?_) rfl (by kernel_rfl) (by kernel_rfl) (by kernel_rfl) (fun _ _ _ h => h) (Or.inl ⟨by rfl, ?_⟩) hHeld ?_
            rotate_left 1
            · intro u hSu
              obtain ⟨q0, q1⟩ := row_cells (kept_row HLa.out.gb hSu.out (by simp))
              have q2 := HC.out u i x (grown_trans HGa.out hSu.out) HXX.out
              have q3 := HC.out u k y (grown_trans HGa.out hSu.out) HYY.out
              go_simp
              first | done | with_reducible rfl
            (try simp only [Act.put, List.setIfInBounds_toArray, List.set_cons_zero, List.set_cons_succ])
            refine wpAnyH_take (i := 28) (oi := { dst := some 76, op := Op.move (Operand.tmp 75), type := 4, pos := "law.go:87", after := #[{ on := 27, ground := Ground.data }, { on := 25, ground := Ground.chain }, { on := 21, ground := Ground.guard }], guard := some (21, false) }) (v := ?_) rfl (by kernel_rfl) (by kernel_rfl) (by kernel_rfl) (fun _ _ _ h => h) (Or.inl ⟨by rfl, ?_⟩) hHeld ?_
            rotate_left 1
            · intro u hSu
              obtain ⟨q0, q1⟩ := row_cells (kept_row HLa.out.gb hSu.out (by simp))
              have q2 := HC.out u i x (grown_trans HGa.out hSu.out) HXX.out
              have q3 := HC.out u k y (grown_trans HGa.out hSu.out) HYY.out
              go_simp
              first | done | with_reducible rfl
            (try simp only [Act.put, List.setIfInBounds_toArray, List.set_cons_zero, List.set_cons_succ])
            refine wpAnyH_take (i := 29) (oi := { dst := some 77, op := Op.move (Operand.tmp 8), type := 3, pos := "law.go:87", after := #[{ on := 28, ground := Ground.guard }], guard := some (28, true) }) (v := ?_) rfl (by kernel_rfl) (by kernel_rfl) (by kernel_rfl) (fun _ _ _ h => h) (Or.inl ⟨by rfl, ?_⟩) hHeld ?_
            rotate_left 1
            · intro u hSu
              obtain ⟨q0, q1⟩ := row_cells (kept_row HLa.out.gb hSu.out (by simp))
              have q2 := HC.out u i x (grown_trans HGa.out hSu.out) HXX.out
              have q3 := HC.out u k y (grown_trans HGa.out hSu.out) HYY.out
              go_simp
              first | done | with_reducible rfl
            (try simp only [Act.put, List.setIfInBounds_toArray, List.set_cons_zero, List.set_cons_succ])
            refine wpAnyH_take (i := 30) (oi := { dst := some 78, op := Op.binOp BinOp.lss 3 (Operand.tmp 77) (Operand.const (Value.int IntKind.i64 1)) 3, type := 4, pos := "law.go:87", after := #[{ on := 29, ground := Ground.data }, { on := 28, ground := Ground.guard }], guard := some (28, true) }) (v := (.bool false)) rfl (by kernel_rfl) (by kernel_rfl) (by kernel_rfl) (fun _ _ _ h => h) (Or.inl ⟨by rfl, ?_⟩) hHeld ?_
            · intro u hSu
              obtain ⟨q0, q1⟩ := row_cells (kept_row HLa.out.gb hSu.out (by simp))
              have q2 := HC.out u i x (grown_trans HGa.out hSu.out) HXX.out
              have q3 := HC.out u k y (grown_trans HGa.out hSu.out) HYY.out
              go_simp
              first | done | (simp; done) | (simp; omega) | (rw [decide_eq_false (by omega)]; done)
            (try simp only [Act.put, List.setIfInBounds_toArray, List.set_cons_zero, List.set_cons_succ])
            refine wpAnyH_take (i := 31) (oi := { dst := some 79, op := Op.pick (Operand.tmp 76) (Operand.tmp 78) (Operand.const (Value.bool false)), type := 4, pos := "law.go:87", after := #[{ on := 28, ground := Ground.data }, { on := 30, ground := Ground.data }, { on := 21, ground := Ground.guard }], guard := some (21, false) }) (v := ?_) rfl (by kernel_rfl) (by kernel_rfl) (by kernel_rfl) (fun _ _ _ h => h) (Or.inl ⟨by rfl, ?_⟩) hHeld ?_
            rotate_left 1
            · intro u hSu
              obtain ⟨q0, q1⟩ := row_cells (kept_row HLa.out.gb hSu.out (by simp))
              have q2 := HC.out u i x (grown_trans HGa.out hSu.out) HXX.out
              have q3 := HC.out u k y (grown_trans HGa.out hSu.out) HYY.out
              go_simp
              first | done | with_reducible rfl
            (try simp only [Act.put, List.setIfInBounds_toArray, List.set_cons_zero, List.set_cons_succ])
            refine wpAnyH_take (i := 32) (oi := { dst := some 80, op := Op.pick (Operand.tmp 69) (Operand.const (Value.bool true)) (Operand.tmp 79), type := 4, pos := "law.go:87", after := #[{ on := 21, ground := Ground.data }, { on := 31, ground := Ground.data }], guard := none }) (v := ?_) rfl (by kernel_rfl) (by kernel_rfl) (by kernel_rfl) (fun _ _ _ h => h) (Or.inl ⟨by rfl, ?_⟩) hHeld ?_
            rotate_left 1
            · intro u hSu
              obtain ⟨q0, q1⟩ := row_cells (kept_row HLa.out.gb hSu.out (by simp))
              have q2 := HC.out u i x (grown_trans HGa.out hSu.out) HXX.out
              have q3 := HC.out u k y (grown_trans HGa.out hSu.out) HYY.out
              go_simp
              first | done | with_reducible rfl
            (try simp only [Act.put, List.setIfInBounds_toArray, List.set_cons_zero, List.set_cons_succ])
            refine wpAnyH_done (by kernel_rfl) ?_ _
            have HLe := Lib.hid (HLa.out.keep hHeld.out)
            have HGe := Lib.hid (grown_trans HGa.out hHeld.out)
            clear hHeld HLa HGa
            go_wp2_with fail
            go_meet
            exact ⟨rfl, HLe, HGe⟩
          | false =>
            refine wp_region_held_drew (S := fun w' => Hid (wa.grownBy w' none)) (by kernel_rfl) (Lib.hid (grown_drew (grown_refl _ _))) (fun hHeld => ?_)
            refine wpAnyH_take (i := 0) (oi := { dst := some 48, op := Op.move (Operand.tmp 9), type := 4, pos := "law.go:87", after := #[], guard := none }) (v := ?_) rfl (by kernel_rfl) (by kernel_rfl) (by kernel_rfl) (fun _ _ _ h => h) (Or.inl ⟨by rfl, ?_⟩) hHeld ?_
            rotate_left 1
            · intro u hSu
              obtain ⟨q0, q1⟩ := row_cells (kept_row HLa.out.gb hSu.out (by simp))
              have q2 := HC.out u i x (grown_trans HGa.out hSu.out) HXX.out
              have q3 := HC.out u k y (grown_trans HGa.out hSu.out) HYY.out
              go_simp
              first | done | with_reducible rfl
            (try simp only [Act.put, List.setIfInBounds_toArray, List.set_cons_zero, List.set_cons_succ])
            refine wpAnyH_take (i := 1) (oi := { dst := some 49, op := Op.load 28 (Operand.tmp 4), type := 28, pos := "law.go:87", after := #[], guard := none }) (v := ?_) rfl (by kernel_rfl) (by kernel_rfl) (by kernel_rfl) (fun _ _ _ h => h) (Or.inl ⟨by rfl, ?_⟩) hHeld ?_
            rotate_left 1
            · intro u hSu
              obtain ⟨q0, q1⟩ := row_cells (kept_row HLa.out.gb hSu.out (by simp))
              have q2 := HC.out u i x (grown_trans HGa.out hSu.out) HXX.out
              have q3 := HC.out u k y (grown_trans HGa.out hSu.out) HYY.out
              go_simp
              first | done | with_reducible rfl
            (try simp only [Act.put, List.setIfInBounds_toArray, List.set_cons_zero, List.set_cons_succ])
            refine wpAnyH_take (i := 2) (oi := { dst := some 50, op := Op.move (Operand.tmp 5), type := 22, pos := "law.go:87", after := #[], guard := none }) (v := ?_) rfl (by kernel_rfl) (by kernel_rfl) (by kernel_rfl) (fun _ _ _ h => h) (Or.inl ⟨by rfl, ?_⟩) hHeld ?_
            rotate_left 1
            · intro u hSu
              obtain ⟨q0, q1⟩ := row_cells (kept_row HLa.out.gb hSu.out (by simp))
              have q2 := HC.out u i x (grown_trans HGa.out hSu.out) HXX.out
              have q3 := HC.out u k y (grown_trans HGa.out hSu.out) HYY.out
              go_simp
              first | done | with_reducible rfl
            (try simp only [Act.put, List.setIfInBounds_toArray, List.set_cons_zero, List.set_cons_succ])
            refine wpAnyH_take (i := 3) (oi := { dst := some 51, op := Op.move (Operand.tmp 6), type := 3, pos := "law.go:87", after := #[], guard := none }) (v := ?_) rfl (by kernel_rfl) (by kernel_rfl) (by kernel_rfl) (fun _ _ _ h => h) (Or.inl ⟨by rfl, ?_⟩) hHeld ?_
            rotate_left 1
            · intro u hSu
              obtain ⟨q0, q1⟩ := row_cells (kept_row HLa.out.gb hSu.out (by simp))
              have q2 := HC.out u i x (grown_trans HGa.out hSu.out) HXX.out
              have q3 := HC.out u k y (grown_trans HGa.out hSu.out) HYY.out
              go_simp
              first | done | with_reducible rfl
            (try simp only [Act.put, List.setIfInBounds_toArray, List.set_cons_zero, List.set_cons_succ])
            refine wpAnyH_take (i := 4) (oi := { dst := some 52, op := Op.indexAddr 22 (Operand.tmp 50) (Operand.tmp 51), type := 0, pos := "law.go:87", after := #[{ on := 2, ground := Ground.data }, { on := 3, ground := Ground.data }], guard := none }) (v := ?_) rfl (by kernel_rfl) (by kernel_rfl) (by kernel_rfl) (fun _ _ _ h => h) (Or.inl ⟨by rfl, ?_⟩) hHeld ?_
            rotate_left 1
            · intro u hSu
              obtain ⟨q0, q1⟩ := row_cells (kept_row HLa.out.gb hSu.out (by simp))
              have q2 := HC.out u i x (grown_trans HGa.out hSu.out) HXX.out
              have q3 := HC.out u k y (grown_trans HGa.out hSu.out) HYY.out
              go_simp
              first | done | with_reducible rfl
            (try simp only [Act.put, List.setIfInBounds_toArray, List.set_cons_zero, List.set_cons_succ])
            refine wpAnyH_take (i := 5) (oi := { dst := some 53, op := Op.load 3 (Operand.tmp 52), type := 3, pos := "law.go:87", after := #[{ on := 4, ground := Ground.data }], guard := none }) (v := ?_) rfl (by kernel_rfl) (by kernel_rfl) (by kernel_rfl) (fun _ _ _ h => h) (Or.inl ⟨by rfl, ?_⟩) hHeld ?_
            rotate_left 1
            · intro u hSu
              obtain ⟨q0, q1⟩ := row_cells (kept_row HLa.out.gb hSu.out (by simp))
              have q2 := HC.out u i x (grown_trans HGa.out hSu.out) HXX.out
              have q3 := HC.out u k y (grown_trans HGa.out hSu.out) HYY.out
              go_simp
              first | done | with_reducible rfl
            (try simp only [Act.put, List.setIfInBounds_toArray, List.set_cons_zero, List.set_cons_succ])
            refine wpAnyH_take (i := 6) (oi := { dst := some 54, op := Op.move (Operand.tmp 5), type := 22, pos := "law.go:87", after := #[], guard := none }) (v := ?_) rfl (by kernel_rfl) (by kernel_rfl) (by kernel_rfl) (fun _ _ _ h => h) (Or.inl ⟨by rfl, ?_⟩) hHeld ?_
            rotate_left 1
            · intro u hSu
              obtain ⟨q0, q1⟩ := row_cells (kept_row HLa.out.gb hSu.out (by simp))
              have q2 := HC.out u i x (grown_trans HGa.out hSu.out) HXX.out
              have q3 := HC.out u k y (grown_trans HGa.out hSu.out) HYY.out
              go_simp
              first | done | with_reducible rfl
            (try simp only [Act.put, List.setIfInBounds_toArray, List.set_cons_zero, List.set_cons_succ])
            refine wpAnyH_take (i := 7) (oi := { dst := some 55, op := Op.move (Operand.tmp 7), type := 3, pos := "law.go:87", after := #[], guard := none }) (v := ?_) rfl (by kernel_rfl) (by kernel_rfl) (by kernel_rfl) (fun _ _ _ h => h) (Or.inl ⟨by rfl, ?_⟩) hHeld ?_
            rotate_left 1
            · intro u hSu
              obtain ⟨q0, q1⟩ := row_cells (kept_row HLa.out.gb hSu.out (by simp))
              have q2 := HC.out u i x (grown_trans HGa.out hSu.out) HXX.out
              have q3 := HC.out u k y (grown_trans HGa.out hSu.out) HYY.out
              go_simp
              first | done | with_reducible rfl
            (try simp only [Act.put, List.setIfInBounds_toArray, List.set_cons_zero, List.set_cons_succ])
            refine wpAnyH_take (i := 8) (oi := { dst := some 56, op := Op.indexAddr 22 (Operand.tmp 54) (Operand.tmp 55), type := 0, pos := "law.go:87", after := #[{ on := 6, ground := Ground.data }, { on := 7, ground := Ground.data }], guard := none }) (v := ?_) rfl (by kernel_rfl) (by kernel_rfl) (by kernel_rfl) (fun _ _ _ h => h) (Or.inl ⟨by rfl, ?_⟩) hHeld ?_
            rotate_left 1
            · intro u hSu
              obtain ⟨q0, q1⟩ := row_cells (kept_row HLa.out.gb hSu.out (by simp))
              have q2 := HC.out u i x (grown_trans HGa.out hSu.out) HXX.out
              have q3 := HC.out u k y (grown_trans HGa.out hSu.out) HYY.out
              go_simp
              first | done | with_reducible rfl
            (try simp only [Act.put, List.setIfInBounds_toArray, List.set_cons_zero, List.set_cons_succ])
            refine wpAnyH_take (i := 9) (oi := { dst := some 57, op := Op.load 3 (Operand.tmp 56), type := 3, pos := "law.go:87", after := #[{ on := 8, ground := Ground.data }], guard := none }) (v := ?_) rfl (by kernel_rfl) (by kernel_rfl) (by kernel_rfl) (fun _ _ _ h => h) (Or.inl ⟨by rfl, ?_⟩) hHeld ?_
            rotate_left 1
            · intro u hSu
              obtain ⟨q0, q1⟩ := row_cells (kept_row HLa.out.gb hSu.out (by simp))
              have q2 := HC.out u i x (grown_trans HGa.out hSu.out) HXX.out
              have q3 := HC.out u k y (grown_trans HGa.out hSu.out) HYY.out
              go_simp
              first | done | with_reducible rfl
            (try simp only [Act.put, List.setIfInBounds_toArray, List.set_cons_zero, List.set_cons_succ])
            refine wpAnyH_ready (rs := [10]) (by kernel_rfl) (by simp) ?_
            refine AllReadyH.cons (o := { dst := some 58, op := Op.call { callee := Callee.value (Operand.func 31), args := #[Operand.tmp 49, Operand.tmp 53, Operand.tmp 57], argTypes := #[28, 3, 3] }, type := 4, pos := "law.go:87", after := #[{ on := 1, ground := Ground.data }, { on := 5, ground := Ground.data }, { on := 9, ground := Ground.data }], guard := none }) rfl (fun Kz hK => ?_) AllReadyH.nil
            go_simp
            go_at_call 31
            refine (rconn_any ⟨R, L, pR, cR, pL, cL⟩ x y _ _ ((HLa.out.keep hHeld.out).t)).mono ?_
            rintro e wb ⟨rfl, hgc⟩
            simp only
            rw [HCN.out]
            refine hK.out _ _ (Lib.hid (grown_trans hHeld.out hgc)) (fun hH2 => ?_)
            clear hK Kz hHeld
            have hHeld := hH2
            clear hH2
            (try simp only [Act.put, List.setIfInBounds_toArray, List.set_cons_zero, List.set_cons_succ])
            refine wpAnyH_take (i := 11) (oi := { dst := some 59, op := Op.binOp BinOp.neq 4 (Operand.tmp 48) (Operand.tmp 58) 4, type := 4, pos := "law.go:87", after := #[{ on := 0, ground := Ground.data }, { on := 10, ground := Ground.data }], guard := none }) (v := ?_) rfl (by kernel_rfl) (by kernel_rfl) (by kernel_rfl) (fun _ _ _ h => h) (Or.inl ⟨by rfl, ?_⟩) hHeld ?_
            rotate_left 1
            · intro u hSu
              obtain ⟨q0, q1⟩ := row_cells (kept_row HLa.out.gb hSu.out (by simp))
              have q2 := HC.out u i x (grown_trans HGa.out hSu.out) HXX.out
              have q3 := HC.out u k y (grown_trans HGa.out hSu.out) HYY.out
              go_simp
              first | done | with_reducible rfl
            (try simp only [Act.put, List.setIfInBounds_toArray, List.set_cons_zero, List.set_cons_succ])
            refine wpAnyH_take (i := 12) (oi := { dst := some 60, op := Op.move (Operand.tmp 59), type := 4, pos := "law.go:87", after := #[{ on := 11, ground := Ground.data }, { on := 10, ground := Ground.chain }], guard := none }) (v := ?_) rfl (by kernel_rfl) (by kernel_rfl) (by kernel_rfl) (fun _ _ _ h => h) (Or.inl ⟨by rfl, ?_⟩) hHeld ?_
            rotate_left 1
            · intro u hSu
              obtain ⟨q0, q1⟩ := row_cells (kept_row HLa.out.gb hSu.out (by simp))
              have q2 := HC.out u i x (grown_trans HGa.out hSu.out) HXX.out
              have q3 := HC.out u k y (grown_trans HGa.out hSu.out) HYY.out
              go_simp
              first | done | with_reducible rfl
            (try simp only [Act.put, List.setIfInBounds_toArray, List.set_cons_zero, List.set_cons_succ])
            refine wpAnyH_take (i := 13) (oi := { dst := some 61, op := Op.move (Operand.tmp 6), type := 3, pos := "law.go:87", after := #[{ on := 12, ground := Ground.guard }], guard := some (12, false) }) (v := ?_) rfl (by kernel_rfl) (by kernel_rfl) (by kernel_rfl) (fun _ _ _ h => h) (Or.inl ⟨by rfl, ?_⟩) hHeld ?_
            rotate_left 1
            · intro u hSu
              obtain ⟨q0, q1⟩ := row_cells (kept_row HLa.out.gb hSu.out (by simp))
              have q2 := HC.out u i x (grown_trans HGa.out hSu.out) HXX.out
              have q3 := HC.out u k y (grown_trans HGa.out hSu.out) HYY.out
              go_simp
              first | done | with_reducible rfl
            (try simp only [Act.put, List.setIfInBounds_toArray, List.set_cons_zero, List.set_cons_succ])
            refine wpAnyH_take (i := 14) (oi := { dst := some 62, op := Op.move (Operand.tmp 7), type := 3, pos := "law.go:87", after := #[{ on := 12, ground := Ground.guard }], guard := some (12, false) }) (v := ?_) rfl (by kernel_rfl) (by kernel_rfl) (by kernel_rfl) (fun _ _ _ h => h) (Or.inl ⟨by rfl, ?_⟩) hHeld ?_
            rotate_left 1
            · intro u hSu
              obtain ⟨q0, q1⟩ := row_cells (kept_row HLa.out.gb hSu.out (by simp))
              have q2 := HC.out u i x (grown_trans HGa.out hSu.out) HXX.out
              have q3 := HC.out u k y (grown_trans HGa.out hSu.out) HYY.out
              go_simp
              first | done | with_reducible rfl
            (try simp only [Act.put, List.setIfInBounds_toArray, List.set_cons_zero, List.set_cons_succ])
            refine wpAnyH_take (i := 15) (oi := { dst := some 63, op := Op.binOp BinOp.eql 3 (Operand.tmp 61) (Operand.tmp 62) 3, type := 4, pos := "law.go:87", after := #[{ on := 13, ground := Ground.data }, { on := 14, ground := Ground.data }, { on := 12, ground := Ground.guard }], guard := some (12, false) }) (v := (.bool false)) rfl (by kernel_rfl) (by kernel_rfl) (by kernel_rfl) (fun _ _ _ h => h) (Or.inl ⟨by rfl, ?_⟩) hHeld ?_
            · intro u hSu
              obtain ⟨q0, q1⟩ := row_cells (kept_row HLa.out.gb hSu.out (by simp))
              have q2 := HC.out u i x (grown_trans HGa.out hSu.out) HXX.out
              have q3 := HC.out u k y (grown_trans HGa.out hSu.out) HYY.out
              go_simp
              first | done | (simp; done) | (simp; omega) | (rw [decide_eq_false (by omega)]; done)
            (try simp only [Act.put, List.setIfInBounds_toArray, List.set_cons_zero, List.set_cons_succ])
            refine wpAnyH_take (i := 16) (oi := { dst := some 64, op := Op.move (Operand.tmp 63), type := 4, pos := "law.go:87", after := #[{ on := 15, ground := Ground.data }, { on := 12, ground := Ground.chain }, { on := 12, ground := Ground.guard }], guard := some (12, false) }) (v := ?_) rfl (by kernel_rfl) (by kernel_rfl) (by kernel_rfl) (fun _ _ _ h => h) (Or.inl ⟨by rfl, ?_⟩) hHeld ?_
            rotate_left 1
            · intro u hSu
              obtain ⟨q0, q1⟩ := row_cells (kept_row HLa.out.gb hSu.out (by simp))
              have q2 := HC.out u i x (grown_trans HGa.out hSu.out) HXX.out
              have q3 := HC.out u k y (grown_trans HGa.out hSu.out) HYY.out
              go_simp
              first | done | with_reducible rfl
            (try simp only [Act.put, List.setIfInBounds_toArray, List.set_cons_zero, List.set_cons_succ])
            refine wpAnyH_take (i := 17) (oi := { dst := some 65, op := Op.move (Operand.tmp 8), type := 3, pos := "law.go:87", after := #[{ on := 16, ground := Ground.guard }], guard := some (16, true) }) (v := undef) rfl (by kernel_rfl) (by kernel_rfl) (by kernel_rfl) (fun _ _ _ h => h) (Or.inr ⟨by rfl, rfl⟩) hHeld ?_
            (try simp only [Act.put, List.setIfInBounds_toArray, List.set_cons_zero, List.set_cons_succ])
            refine wpAnyH_take (i := 18) (oi := { dst := some 66, op := Op.binOp BinOp.neq 3 (Operand.tmp 65) (Operand.const (Value.int IntKind.i64 0)) 3, type := 4, pos := "law.go:87", after := #[{ on := 17, ground := Ground.data }, { on := 16, ground := Ground.guard }], guard := some (16, true) }) (v := undef) rfl (by kernel_rfl) (by kernel_rfl) (by kernel_rfl) (fun _ _ _ h => h) (Or.inr ⟨by rfl, rfl⟩) hHeld ?_
            (try simp only [Act.put, List.setIfInBounds_toArray, List.set_cons_zero, List.set_cons_succ])
            refine wpAnyH_take (i := 19) (oi := { dst := some 67, op := Op.pick (Operand.tmp 64) (Operand.tmp 66) (Operand.const (Value.bool false)), type := 4, pos := "law.go:87", after := #[{ on := 16, ground := Ground.data }, { on := 18, ground := Ground.data }, { on := 12, ground := Ground.guard }], guard := some (12, false) }) (v := ?_) rfl (by kernel_rfl) (by kernel_rfl) (by kernel_rfl) (fun _ _ _ h => h) (Or.inl ⟨by rfl, ?_⟩) hHeld ?_
            rotate_left 1
            · intro u hSu
              obtain ⟨q0, q1⟩ := row_cells (kept_row HLa.out.gb hSu.out (by simp))
              have q2 := HC.out u i x (grown_trans HGa.out hSu.out) HXX.out
              have q3 := HC.out u k y (grown_trans HGa.out hSu.out) HYY.out
              go_simp
              first | done | with_reducible rfl
            (try simp only [Act.put, List.setIfInBounds_toArray, List.set_cons_zero, List.set_cons_succ])
            refine wpAnyH_take (i := 20) (oi := { dst := some 68, op := Op.pick (Operand.tmp 60) (Operand.const (Value.bool true)) (Operand.tmp 67), type := 4, pos := "law.go:87", after := #[{ on := 12, ground := Ground.data }, { on := 19, ground := Ground.data }], guard := none }) (v := ?_) rfl (by kernel_rfl) (by kernel_rfl) (by kernel_rfl) (fun _ _ _ h => h) (Or.inl ⟨by rfl, ?_⟩) hHeld ?_
            rotate_left 1
            · intro u hSu
              obtain ⟨q0, q1⟩ := row_cells (kept_row HLa.out.gb hSu.out (by simp))
              have q2 := HC.out u i x (grown_trans HGa.out hSu.out) HXX.out
              have q3 := HC.out u k y (grown_trans HGa.out hSu.out) HYY.out
              go_simp
              first | done | with_reducible rfl
            (try simp only [Act.put, List.setIfInBounds_toArray, List.set_cons_zero, List.set_cons_succ])
            refine wpAnyH_take (i := 21) (oi := { dst := some 69, op := Op.move (Operand.tmp 68), type := 4, pos := "law.go:87", after := #[{ on := 20, ground := Ground.data }, { on := 16, ground := Ground.chain }], guard := none }) (v := ?_) rfl (by kernel_rfl) (by kernel_rfl) (by kernel_rfl) (fun _ _ _ h => h) (Or.inl ⟨by rfl, ?_⟩) hHeld ?_
            rotate_left 1
            · intro u hSu
              obtain ⟨q0, q1⟩ := row_cells (kept_row HLa.out.gb hSu.out (by simp))
              have q2 := HC.out u i x (grown_trans HGa.out hSu.out) HXX.out
              have q3 := HC.out u k y (grown_trans HGa.out hSu.out) HYY.out
              go_simp
              first | done | with_reducible rfl
            (try simp only [Act.put, List.setIfInBounds_toArray, List.set_cons_zero, List.set_cons_succ])
            refine wpAnyH_take (i := 22) (oi := { dst := some 70, op := Op.move (Operand.tmp 6), type := 3, pos := "law.go:87", after := #[{ on := 21, ground := Ground.guard }], guard := some (21, false) }) (v := ?_) rfl (by kernel_rfl) (by kernel_rfl) (by kernel_rfl) (fun _ _ _ h => h) (Or.inl ⟨by rfl, ?_⟩) hHeld ?_
            rotate_left 1
            · intro u hSu
              obtain ⟨q0, q1⟩ := row_cells (kept_row HLa.out.gb hSu.out (by simp))
              have q2 := HC.out u i x (grown_trans HGa.out hSu.out) HXX.out
              have q3 := HC.out u k y (grown_trans HGa.out hSu.out) HYY.out
              go_simp
              first | done | with_reducible rfl
            (try simp only [Act.put, List.setIfInBounds_toArray, List.set_cons_zero, List.set_cons_succ])
            refine wpAnyH_take (i := 23) (oi := { dst := some 71, op := Op.move (Operand.tmp 7), type := 3, pos := "law.go:87", after := #[{ on := 21, ground := Ground.guard }], guard := some (21, false) }) (v := ?_) rfl (by kernel_rfl) (by kernel_rfl) (by kernel_rfl) (fun _ _ _ h => h) (Or.inl ⟨by rfl, ?_⟩) hHeld ?_
            rotate_left 1
            · intro u hSu
              obtain ⟨q0, q1⟩ := row_cells (kept_row HLa.out.gb hSu.out (by simp))
              have q2 := HC.out u i x (grown_trans HGa.out hSu.out) HXX.out
              have q3 := HC.out u k y (grown_trans HGa.out hSu.out) HYY.out
              go_simp
              first | done | with_reducible rfl
            (try simp only [Act.put, List.setIfInBounds_toArray, List.set_cons_zero, List.set_cons_succ])
            refine wpAnyH_take (i := 24) (oi := { dst := some 72, op := Op.binOp BinOp.neq 3 (Operand.tmp 70) (Operand.tmp 71) 3, type := 4, pos := "law.go:87", after := #[{ on := 22, ground := Ground.data }, { on := 23, ground := Ground.data }, { on := 21, ground := Ground.guard }], guard := some (21, false) }) (v := (.bool true)) rfl (by kernel_rfl) (by kernel_rfl) (by kernel_rfl) (fun _ _ _ h => h) (Or.inl ⟨by rfl, ?_⟩) hHeld ?_
            · intro u hSu
              obtain ⟨q0, q1⟩ := row_cells (kept_row HLa.out.gb hSu.out (by simp))
              have q2 := HC.out u i x (grown_trans HGa.out hSu.out) HXX.out
              have q3 := HC.out u k y (grown_trans HGa.out hSu.out) HYY.out
              go_simp
              first | done | (simp; done) | (simp; omega) | (rw [decide_eq_false (by omega)]; done)
            (try simp only [Act.put, List.setIfInBounds_toArray, List.set_cons_zero, List.set_cons_succ])
            refine wpAnyH_take (i := 25) (oi := { dst := some 73, op := Op.move (Operand.tmp 72), type := 4, pos := "law.go:87", after := #[{ on := 24, ground := Ground.data }, { on := 21, ground := Ground.chain }, { on := 21, ground := Ground.guard }], guard := some (21, false) }) (v := ?_) rfl (by kernel_rfl) (by kernel_rfl) (by kernel_rfl) (fun _ _ _ h => h) (Or.inl ⟨by rfl, ?_⟩) hHeld ?_
            rotate_left 1
            · intro u hSu
              obtain ⟨q0, q1⟩ := row_cells (kept_row HLa.out.gb hSu.out (by simp))
              have q2 := HC.out u i x (grown_trans HGa.out hSu.out) HXX.out
              have q3 := HC.out u k y (grown_trans HGa.out hSu.out) HYY.out
              go_simp
              first | done | with_reducible rfl
            (try simp only [Act.put, List.setIfInBounds_toArray, List.set_cons_zero, List.set_cons_succ])
            refine wpAnyH_take (i := 26) (oi := { dst := some 74, op := Op.move (Operand.tmp 9), type := 4, pos := "law.go:87", after := #[{ on := 25, ground := Ground.guard }], guard := some (25, true) }) (v := ?_) rfl (by kernel_rfl) (by kernel_rfl) (by kernel_rfl) (fun _ _ _ h => h) (Or.inl ⟨by rfl, ?_⟩) hHeld ?_
            rotate_left 1
            · intro u hSu
              obtain ⟨q0, q1⟩ := row_cells (kept_row HLa.out.gb hSu.out (by simp))
              have q2 := HC.out u i x (grown_trans HGa.out hSu.out) HXX.out
              have q3 := HC.out u k y (grown_trans HGa.out hSu.out) HYY.out
              go_simp
              first | done | with_reducible rfl
            (try simp only [Act.put, List.setIfInBounds_toArray, List.set_cons_zero, List.set_cons_succ])
            refine wpAnyH_take (i := 27) (oi := { dst := some 75, op := Op.pick (Operand.tmp 73) (Operand.tmp 74) (Operand.const (Value.bool false)), type := 4, pos := "law.go:87", after := #[{ on := 25, ground := Ground.data }, { on := 26, ground := Ground.data }, { on := 21, ground := Ground.guard }], guard := some (21, false) }) (v := ?_) rfl (by kernel_rfl) (by kernel_rfl) (by kernel_rfl) (fun _ _ _ h => h) (Or.inl ⟨by rfl, ?_⟩) hHeld ?_
            rotate_left 1
            · intro u hSu
              obtain ⟨q0, q1⟩ := row_cells (kept_row HLa.out.gb hSu.out (by simp))
              have q2 := HC.out u i x (grown_trans HGa.out hSu.out) HXX.out
              have q3 := HC.out u k y (grown_trans HGa.out hSu.out) HYY.out
              go_simp
              first | done | with_reducible rfl
            (try simp only [Act.put, List.setIfInBounds_toArray, List.set_cons_zero, List.set_cons_succ])
            refine wpAnyH_take (i := 28) (oi := { dst := some 76, op := Op.move (Operand.tmp 75), type := 4, pos := "law.go:87", after := #[{ on := 27, ground := Ground.data }, { on := 25, ground := Ground.chain }, { on := 21, ground := Ground.guard }], guard := some (21, false) }) (v := ?_) rfl (by kernel_rfl) (by kernel_rfl) (by kernel_rfl) (fun _ _ _ h => h) (Or.inl ⟨by rfl, ?_⟩) hHeld ?_
            rotate_left 1
            · intro u hSu
              obtain ⟨q0, q1⟩ := row_cells (kept_row HLa.out.gb hSu.out (by simp))
              have q2 := HC.out u i x (grown_trans HGa.out hSu.out) HXX.out
              have q3 := HC.out u k y (grown_trans HGa.out hSu.out) HYY.out
              go_simp
              first | done | with_reducible rfl
            (try simp only [Act.put, List.setIfInBounds_toArray, List.set_cons_zero, List.set_cons_succ])
            refine wpAnyH_take (i := 29) (oi := { dst := some 77, op := Op.move (Operand.tmp 8), type := 3, pos := "law.go:87", after := #[{ on := 28, ground := Ground.guard }], guard := some (28, true) }) (v := undef) rfl (by kernel_rfl) (by kernel_rfl) (by kernel_rfl) (fun _ _ _ h => h) (Or.inr ⟨by rfl, rfl⟩) hHeld ?_
            (try simp only [Act.put, List.setIfInBounds_toArray, List.set_cons_zero, List.set_cons_succ])
            refine wpAnyH_take (i := 30) (oi := { dst := some 78, op := Op.binOp BinOp.lss 3 (Operand.tmp 77) (Operand.const (Value.int IntKind.i64 1)) 3, type := 4, pos := "law.go:87", after := #[{ on := 29, ground := Ground.data }, { on := 28, ground := Ground.guard }], guard := some (28, true) }) (v := undef) rfl (by kernel_rfl) (by kernel_rfl) (by kernel_rfl) (fun _ _ _ h => h) (Or.inr ⟨by rfl, rfl⟩) hHeld ?_
            (try simp only [Act.put, List.setIfInBounds_toArray, List.set_cons_zero, List.set_cons_succ])
            refine wpAnyH_take (i := 31) (oi := { dst := some 79, op := Op.pick (Operand.tmp 76) (Operand.tmp 78) (Operand.const (Value.bool false)), type := 4, pos := "law.go:87", after := #[{ on := 28, ground := Ground.data }, { on := 30, ground := Ground.data }, { on := 21, ground := Ground.guard }], guard := some (21, false) }) (v := ?_) rfl (by kernel_rfl) (by kernel_rfl) (by kernel_rfl) (fun _ _ _ h => h) (Or.inl ⟨by rfl, ?_⟩) hHeld ?_
            rotate_left 1
            · intro u hSu
              obtain ⟨q0, q1⟩ := row_cells (kept_row HLa.out.gb hSu.out (by simp))
              have q2 := HC.out u i x (grown_trans HGa.out hSu.out) HXX.out
              have q3 := HC.out u k y (grown_trans HGa.out hSu.out) HYY.out
              go_simp
              first | done | with_reducible rfl
            (try simp only [Act.put, List.setIfInBounds_toArray, List.set_cons_zero, List.set_cons_succ])
            refine wpAnyH_take (i := 32) (oi := { dst := some 80, op := Op.pick (Operand.tmp 69) (Operand.const (Value.bool true)) (Operand.tmp 79), type := 4, pos := "law.go:87", after := #[{ on := 21, ground := Ground.data }, { on := 31, ground := Ground.data }], guard := none }) (v := ?_) rfl (by kernel_rfl) (by kernel_rfl) (by kernel_rfl) (fun _ _ _ h => h) (Or.inl ⟨by rfl, ?_⟩) hHeld ?_
            rotate_left 1
            · intro u hSu
              obtain ⟨q0, q1⟩ := row_cells (kept_row HLa.out.gb hSu.out (by simp))
              have q2 := HC.out u i x (grown_trans HGa.out hSu.out) HXX.out
              have q3 := HC.out u k y (grown_trans HGa.out hSu.out) HYY.out
              go_simp
              first | done | with_reducible rfl
            (try simp only [Act.put, List.setIfInBounds_toArray, List.set_cons_zero, List.set_cons_succ])
            refine wpAnyH_done (by kernel_rfl) ?_ _
            have HLe := Lib.hid (HLa.out.keep hHeld.out)
            have HGe := Lib.hid (grown_trans HGa.out hHeld.out)
            clear hHeld HLa HGa
            go_wp2_with fail
            go_meet
            exact ⟨rfl, HLe, HGe⟩
      case rest =>
      obtain ⟨rfl, HLc, HGc⟩ := hcut
      clear HLa HGa
      obtain ⟨B, hB⟩ : ∃ B, (priceV L x y).1 = B := ⟨_, rfl⟩
      obtain ⟨is, his⟩ : ∃ is, (priceV L x y).2 = is := ⟨_, rfl⟩
      have HB := Lib.hid (And.intro hB his)
      have HAB : Hid (is = true → A ≤ B ∧ B ≤ 1000) := Lib.hid (fun h => by
        have he := price_ed2 HVT.out.ok (show priceV L x y = (B, true) from Prod.ext hB (by rw [his, h]))
        obtain ⟨d, hd, hle⟩ := dst_edge HXV.out he
        have h2 := HA.out.1
        rw [hd] at h2
        have h3 : d = A := h2
        have h4 := ((okT_g HVT.out.ok).edg he).1
        omega)
      clear hB his
      go_upto_region 13 with fail
      refine wp_region_held_drew (S := fun w' => Hid (wc.grownBy w' none)) (by kernel_rfl) (Lib.hid (grown_drew (grown_refl _ _))) (fun hHeld => ?_)
      refine wpAnyH_take (i := 0) (oi := { dst := some 82, op := Op.load 28 (Operand.tmp 4), type := 28, pos := "law.go:90", after := #[], guard := none }) (v := ?_) rfl (by kernel_rfl) (by kernel_rfl) (by kernel_rfl) (fun _ _ _ h => h) (Or.inl ⟨by rfl, ?_⟩) hHeld ?_
      rotate_left 1
      · intro u hSu
        obtain ⟨q0, q1⟩ := row_cells (kept_row HLc.out.gb hSu.out (by simp))
        have q2 := HC.out u i x (grown_trans HGc.out hSu.out) HXX.out
        have q3 := HC.out u k y (grown_trans HGc.out hSu.out) HYY.out
        go_simp
        first | done | with_reducible rfl
      (try simp only [Act.put, List.setIfInBounds_toArray, List.set_cons_zero, List.set_cons_succ])
      refine wpAnyH_take (i := 1) (oi := { dst := some 83, op := Op.move (Operand.tmp 5), type := 22, pos := "law.go:90", after := #[], guard := none }) (v := ?_) rfl (by kernel_rfl) (by kernel_rfl) (by kernel_rfl) (fun _ _ _ h => h) (Or.inl ⟨by rfl, ?_⟩) hHeld ?_
      rotate_left 1
      · intro u hSu
        obtain ⟨q0, q1⟩ := row_cells (kept_row HLc.out.gb hSu.out (by simp))
        have q2 := HC.out u i x (grown_trans HGc.out hSu.out) HXX.out
        have q3 := HC.out u k y (grown_trans HGc.out hSu.out) HYY.out
        go_simp
        first | done | with_reducible rfl
      (try simp only [Act.put, List.setIfInBounds_toArray, List.set_cons_zero, List.set_cons_succ])
      refine wpAnyH_take (i := 2) (oi := { dst := some 84, op := Op.move (Operand.tmp 6), type := 3, pos := "law.go:90", after := #[], guard := none }) (v := ?_) rfl (by kernel_rfl) (by kernel_rfl) (by kernel_rfl) (fun _ _ _ h => h) (Or.inl ⟨by rfl, ?_⟩) hHeld ?_
      rotate_left 1
      · intro u hSu
        obtain ⟨q0, q1⟩ := row_cells (kept_row HLc.out.gb hSu.out (by simp))
        have q2 := HC.out u i x (grown_trans HGc.out hSu.out) HXX.out
        have q3 := HC.out u k y (grown_trans HGc.out hSu.out) HYY.out
        go_simp
        first | done | with_reducible rfl
      (try simp only [Act.put, List.setIfInBounds_toArray, List.set_cons_zero, List.set_cons_succ])
      refine wpAnyH_take (i := 3) (oi := { dst := some 85, op := Op.indexAddr 22 (Operand.tmp 83) (Operand.tmp 84), type := 0, pos := "law.go:90", after := #[{ on := 1, ground := Ground.data }, { on := 2, ground := Ground.data }], guard := none }) (v := ?_) rfl (by kernel_rfl) (by kernel_rfl) (by kernel_rfl) (fun _ _ _ h => h) (Or.inl ⟨by rfl, ?_⟩) hHeld ?_
      rotate_left 1
      · intro u hSu
        obtain ⟨q0, q1⟩ := row_cells (kept_row HLc.out.gb hSu.out (by simp))
        have q2 := HC.out u i x (grown_trans HGc.out hSu.out) HXX.out
        have q3 := HC.out u k y (grown_trans HGc.out hSu.out) HYY.out
        go_simp
        first | done | with_reducible rfl
      (try simp only [Act.put, List.setIfInBounds_toArray, List.set_cons_zero, List.set_cons_succ])
      refine wpAnyH_take (i := 4) (oi := { dst := some 86, op := Op.load 3 (Operand.tmp 85), type := 3, pos := "law.go:90", after := #[{ on := 3, ground := Ground.data }], guard := none }) (v := ?_) rfl (by kernel_rfl) (by kernel_rfl) (by kernel_rfl) (fun _ _ _ h => h) (Or.inl ⟨by rfl, ?_⟩) hHeld ?_
      rotate_left 1
      · intro u hSu
        obtain ⟨q0, q1⟩ := row_cells (kept_row HLc.out.gb hSu.out (by simp))
        have q2 := HC.out u i x (grown_trans HGc.out hSu.out) HXX.out
        have q3 := HC.out u k y (grown_trans HGc.out hSu.out) HYY.out
        go_simp
        first | done | with_reducible rfl
      (try simp only [Act.put, List.setIfInBounds_toArray, List.set_cons_zero, List.set_cons_succ])
      refine wpAnyH_take (i := 5) (oi := { dst := some 87, op := Op.move (Operand.tmp 5), type := 22, pos := "law.go:90", after := #[], guard := none }) (v := ?_) rfl (by kernel_rfl) (by kernel_rfl) (by kernel_rfl) (fun _ _ _ h => h) (Or.inl ⟨by rfl, ?_⟩) hHeld ?_
      rotate_left 1
      · intro u hSu
        obtain ⟨q0, q1⟩ := row_cells (kept_row HLc.out.gb hSu.out (by simp))
        have q2 := HC.out u i x (grown_trans HGc.out hSu.out) HXX.out
        have q3 := HC.out u k y (grown_trans HGc.out hSu.out) HYY.out
        go_simp
        first | done | with_reducible rfl
      (try simp only [Act.put, List.setIfInBounds_toArray, List.set_cons_zero, List.set_cons_succ])
      refine wpAnyH_take (i := 6) (oi := { dst := some 88, op := Op.move (Operand.tmp 7), type := 3, pos := "law.go:90", after := #[], guard := none }) (v := ?_) rfl (by kernel_rfl) (by kernel_rfl) (by kernel_rfl) (fun _ _ _ h => h) (Or.inl ⟨by rfl, ?_⟩) hHeld ?_
      rotate_left 1
      · intro u hSu
        obtain ⟨q0, q1⟩ := row_cells (kept_row HLc.out.gb hSu.out (by simp))
        have q2 := HC.out u i x (grown_trans HGc.out hSu.out) HXX.out
        have q3 := HC.out u k y (grown_trans HGc.out hSu.out) HYY.out
        go_simp
        first | done | with_reducible rfl
      (try simp only [Act.put, List.setIfInBounds_toArray, List.set_cons_zero, List.set_cons_succ])
      refine wpAnyH_take (i := 7) (oi := { dst := some 89, op := Op.indexAddr 22 (Operand.tmp 87) (Operand.tmp 88), type := 0, pos := "law.go:90", after := #[{ on := 5, ground := Ground.data }, { on := 6, ground := Ground.data }], guard := none }) (v := ?_) rfl (by kernel_rfl) (by kernel_rfl) (by kernel_rfl) (fun _ _ _ h => h) (Or.inl ⟨by rfl, ?_⟩) hHeld ?_
      rotate_left 1
      · intro u hSu
        obtain ⟨q0, q1⟩ := row_cells (kept_row HLc.out.gb hSu.out (by simp))
        have q2 := HC.out u i x (grown_trans HGc.out hSu.out) HXX.out
        have q3 := HC.out u k y (grown_trans HGc.out hSu.out) HYY.out
        go_simp
        first | done | with_reducible rfl
      (try simp only [Act.put, List.setIfInBounds_toArray, List.set_cons_zero, List.set_cons_succ])
      refine wpAnyH_take (i := 8) (oi := { dst := some 90, op := Op.load 3 (Operand.tmp 89), type := 3, pos := "law.go:90", after := #[{ on := 7, ground := Ground.data }], guard := none }) (v := ?_) rfl (by kernel_rfl) (by kernel_rfl) (by kernel_rfl) (fun _ _ _ h => h) (Or.inl ⟨by rfl, ?_⟩) hHeld ?_
      rotate_left 1
      · intro u hSu
        obtain ⟨q0, q1⟩ := row_cells (kept_row HLc.out.gb hSu.out (by simp))
        have q2 := HC.out u i x (grown_trans HGc.out hSu.out) HXX.out
        have q3 := HC.out u k y (grown_trans HGc.out hSu.out) HYY.out
        go_simp
        first | done | with_reducible rfl
      (try simp only [Act.put, List.setIfInBounds_toArray, List.set_cons_zero, List.set_cons_succ])
      refine wpAnyH_ready (rs := [9]) (by kernel_rfl) (by simp) ?_
      refine AllReadyH.cons (o := { dst := some 91, op := Op.call { callee := Callee.value (Operand.func 32), args := #[Operand.tmp 82, Operand.tmp 86, Operand.tmp 90], argTypes := #[28, 3, 3] }, type := 49, pos := "law.go:90", after := #[{ on := 0, ground := Ground.data }, { on := 4, ground := Ground.data }, { on := 8, ground := Ground.data }], guard := none }) rfl (fun Kz hK => ?_) AllReadyH.nil
      go_simp
      go_at_call 32
      refine (rprice_any ⟨R, L, pR, cR, pL, cL⟩ x y _ _ ((HLc.out.keep hHeld.out).t)).mono ?_
      rintro e w9 ⟨rfl, hgc⟩
      simp only
      rw [HB.out.1, HB.out.2]
      refine hK.out _ _ (Lib.hid (grown_trans hHeld.out hgc)) (fun hH2 => ?_)
      clear hK Kz hHeld
      have hHeld := hH2
      clear hH2
      (try simp only [Act.put, List.setIfInBounds_toArray, List.set_cons_zero, List.set_cons_succ])
      refine wpAnyH_take (i := 10) (oi := { dst := some 81, op := Op.move (Operand.tmp 91), type := 49, pos := "law.go:90", after := #[{ on := 9, ground := Ground.data }], guard := none }) (v := ?_) rfl (by kernel_rfl) (by kernel_rfl) (by kernel_rfl) (fun _ _ _ h => h) (Or.inl ⟨by rfl, ?_⟩) hHeld ?_
      rotate_left 1
      · intro u hSu
        obtain ⟨q0, q1⟩ := row_cells (kept_row HLc.out.gb hSu.out (by simp))
        have q2 := HC.out u i x (grown_trans HGc.out hSu.out) HXX.out
        have q3 := HC.out u k y (grown_trans HGc.out hSu.out) HYY.out
        go_simp
        first | done | with_reducible rfl
      (try simp only [Act.put, List.setIfInBounds_toArray, List.set_cons_zero, List.set_cons_succ])
      refine wpAnyH_take (i := 11) (oi := { dst := some 92, op := Op.extract (Operand.tmp 81) 0, type := 3, pos := "law.go:90", after := #[{ on := 10, ground := Ground.data }], guard := none }) (v := ?_) rfl (by kernel_rfl) (by kernel_rfl) (by kernel_rfl) (fun _ _ _ h => h) (Or.inl ⟨by rfl, ?_⟩) hHeld ?_
      rotate_left 1
      · intro u hSu
        obtain ⟨q0, q1⟩ := row_cells (kept_row HLc.out.gb hSu.out (by simp))
        have q2 := HC.out u i x (grown_trans HGc.out hSu.out) HXX.out
        have q3 := HC.out u k y (grown_trans HGc.out hSu.out) HYY.out
        go_simp
        first | done | with_reducible rfl
      (try simp only [Act.put, List.setIfInBounds_toArray, List.set_cons_zero, List.set_cons_succ])
      refine wpAnyH_take (i := 12) (oi := { dst := some 93, op := Op.extract (Operand.tmp 81) 1, type := 4, pos := "law.go:90", after := #[{ on := 10, ground := Ground.data }, { on := 13, ground := Ground.gcOnly Departure.lateStores }], guard := none }) (v := ?_) rfl (by kernel_rfl) (by kernel_rfl) (by kernel_rfl) (fun _ _ _ h => h) (Or.inl ⟨by rfl, ?_⟩) hHeld ?_
      rotate_left 1
      · intro u hSu
        obtain ⟨q0, q1⟩ := row_cells (kept_row HLc.out.gb hSu.out (by simp))
        have q2 := HC.out u i x (grown_trans HGc.out hSu.out) HXX.out
        have q3 := HC.out u k y (grown_trans HGc.out hSu.out) HYY.out
        go_simp
        first | done | with_reducible rfl
      (try simp only [Act.put, List.setIfInBounds_toArray, List.set_cons_zero, List.set_cons_succ])
      refine wpAnyH_take (i := 13) (oi := { dst := some 10, op := Op.assign (Operand.tmp 92), type := 3, pos := "law.go:90", after := #[{ on := 11, ground := Ground.data }, { on := 9, ground := Ground.chain }, { on := 0, ground := Ground.phase }, { on := 1, ground := Ground.phase }, { on := 2, ground := Ground.phase }, { on := 3, ground := Ground.phase }, { on := 4, ground := Ground.phase }, { on := 5, ground := Ground.phase }, { on := 6, ground := Ground.phase }, { on := 7, ground := Ground.phase }, { on := 8, ground := Ground.phase }, { on := 9, ground := Ground.phase }, { on := 10, ground := Ground.phase }, { on := 11, ground := Ground.phase }, { on := 12, ground := Ground.textOnly Departure.lateStores }], guard := none }) (v := ?_) rfl (by kernel_rfl) (by kernel_rfl) (by kernel_rfl) (fun _ _ _ h => h) (Or.inl ⟨by rfl, ?_⟩) hHeld ?_
      rotate_left 1
      · intro u hSu
        obtain ⟨q0, q1⟩ := row_cells (kept_row HLc.out.gb hSu.out (by simp))
        have q2 := HC.out u i x (grown_trans HGc.out hSu.out) HXX.out
        have q3 := HC.out u k y (grown_trans HGc.out hSu.out) HYY.out
        go_simp
        first | done | with_reducible rfl
      (try simp only [Act.put, List.setIfInBounds_toArray, List.set_cons_zero, List.set_cons_succ])
      refine wpAnyH_take (i := 14) (oi := { dst := some 11, op := Op.assign (Operand.tmp 93), type := 4, pos := "law.go:90", after := #[{ on := 12, ground := Ground.data }, { on := 13, ground := Ground.chain }, { on := 0, ground := Ground.phase }, { on := 1, ground := Ground.phase }, { on := 2, ground := Ground.phase }, { on := 3, ground := Ground.phase }, { on := 4, ground := Ground.phase }, { on := 5, ground := Ground.phase }, { on := 6, ground := Ground.phase }, { on := 7, ground := Ground.phase }, { on := 8, ground := Ground.phase }, { on := 9, ground := Ground.phase }, { on := 10, ground := Ground.phase }, { on := 11, ground := Ground.phase }, { on := 12, ground := Ground.phase }, { on := 13, ground := Ground.phase }], guard := none }) (v := ?_) rfl (by kernel_rfl) (by kernel_rfl) (by kernel_rfl) (fun _ _ _ h => h) (Or.inl ⟨by rfl, ?_⟩) hHeld ?_
      rotate_left 1
      · intro u hSu
        obtain ⟨q0, q1⟩ := row_cells (kept_row HLc.out.gb hSu.out (by simp))
        have q2 := HC.out u i x (grown_trans HGc.out hSu.out) HXX.out
        have q3 := HC.out u k y (grown_trans HGc.out hSu.out) HYY.out
        go_simp
        first | done | with_reducible rfl
      (try simp only [Act.put, List.setIfInBounds_toArray, List.set_cons_zero, List.set_cons_succ])
      refine wpAnyH_done (by kernel_rfl) ?_ _
      have HLd := Lib.hid (HLc.out.keep hHeld.out)
      have HGd := Lib.hid (grown_trans HGc.out hHeld.out)
      obtain ⟨wd, hwn⟩ : ∃ wd, wd = w9 := ⟨_, rfl⟩
      rw [← hwn] at HLd HGd ⊢
      clear hHeld hwn HLc HGc
      go_upto_region 14 with fail
      go_cut [99] from 94 to 99 (fun t wx => t = .bool false ∧ Hid (LW w G ⟨R, L, pR, cR, pL, cL⟩ wx) ∧ Hid (w5.grownBy wx none))
      case first =>
        cases is with
        | false =>
          go_wp2_with fail
          go_meet
          exact ⟨rfl, HLd, HGd⟩
        | true =>
          obtain ⟨hAB, hB⟩ := HAB.out rfl
          have hAB2 : ¬ (B < A) := by omega
          go_wp2_with fail
          go_meet
          exact ⟨(by first | rfl | (simp; omega) | (rw [decide_eq_false (by omega)])), HLd, HGd⟩
      case rest =>
      obtain ⟨w14, rfl⟩ : ∃ w14, w14 = wc := ⟨_, rfl⟩
      obtain ⟨rfl, HLf, HGf⟩ := hcut
      clear HLd HGd
      go_wp2_with fail
      go_loopw [12] (fun jj wr => ∃ j : Nat, j ≤ X.length ∧ jj = .int .i64 (j : Int) ∧ Hid (LW w G ⟨R, L, pR, cR, pL, cL⟩ wr) ∧ Hid (w5.grownBy wr none)) (fun jj _ => X.length - (RowKit.intOf jj).toNat)
      case atStart => exact ⟨0, Nat.zero_le _, rfl, HLf, HGf⟩
      case round =>
      obtain ⟨j, hj, rfl, HLj, HGj⟩ := hrel
      clear HLf HGf
      by_cases hltj : j < X.length
      · obtain ⟨m, hm⟩ : ∃ m, X[j]? = some m := ⟨_, List.getElem?_eq_getElem hltj⟩
        have HMM := Lib.hid hm
        obtain ⟨hmv, hmb⟩ := HVX.out j m hm
        have hj1 : (j : Int) < (X.length : Int) := by omega
        obtain ⟨B1, hB1⟩ : ∃ B1, (dst R L x m).getD 0 = B1 := ⟨_, rfl⟩
        obtain ⟨one, hone⟩ : ∃ one, (dst R L x m).isSome = one := ⟨_, rfl⟩
        have hB1b : 0 ≤ B1 ∧ B1 ≤ 24000 := by rw [← hB1]; exact getD_bd
        have HB1 := Lib.hid (And.intro hB1 hone)
        obtain ⟨C1, hC1⟩ : ∃ C1, (dst R L m y).getD 0 = C1 := ⟨_, rfl⟩
        obtain ⟨two, htwo⟩ : ∃ two, (dst R L m y).isSome = two := ⟨_, rfl⟩
        have hC1b : 0 ≤ C1 ∧ C1 ≤ 24000 := by rw [← hC1]; exact getD_bd
        have HC1 := Lib.hid (And.intro hC1 htwo)
        have HT : Hid (one = true → two = true → ok = true ∧ A ≤ B1 + C1) := Lib.hid (fun h1 h2 => by
          obtain ⟨d, hd⟩ := Option.isSome_iff_exists.1 (hone.trans h1)
          obtain ⟨f, hf⟩ := Option.isSome_iff_exists.1 (htwo.trans h2)
          obtain ⟨g, hg, hle⟩ := dst_tri hd hf
          have k1 := HA.out.1
          have k2 := HA.out.2
          rw [hg] at k1 k2
          rw [hd] at hB1
          rw [hf] at hC1
          have k3 : g = A := k1
          have k4 : d = B1 := hB1
          have k5 : f = C1 := hC1
          exact ⟨k2.symm, by omega⟩)
        clear hm hmv hB1 hone hC1 htwo
        go_upto_region 19 with fail
        refine wp_region_held_drew (S := fun w' => Hid (wr.grownBy w' none)) (by kernel_rfl) (Lib.hid (grown_drew (grown_refl _ _))) (fun hHeld => ?_)
        refine wpAnyH_take (i := 0) (oi := { dst := some 107, op := Op.load 28 (Operand.tmp 4), type := 28, pos := "law.go:94", after := #[], guard := none }) (v := ?_) rfl (by kernel_rfl) (by kernel_rfl) (by kernel_rfl) (fun _ _ _ h => h) (Or.inl ⟨by rfl, ?_⟩) hHeld ?_
        rotate_left 1
        · intro u hSu
          obtain ⟨q0, q1⟩ := row_cells (kept_row HLj.out.gb hSu.out (by simp))
          have q2 := HC.out u i x (grown_trans HGj.out hSu.out) HXX.out
          have q3 := HC.out u j m (grown_trans HGj.out hSu.out) HMM.out
          go_simp
          first | done | with_reducible rfl
        (try simp only [Act.put, List.setIfInBounds_toArray, List.set_cons_zero, List.set_cons_succ])
        refine wpAnyH_take (i := 1) (oi := { dst := some 108, op := Op.move (Operand.tmp 5), type := 22, pos := "law.go:94", after := #[], guard := none }) (v := ?_) rfl (by kernel_rfl) (by kernel_rfl) (by kernel_rfl) (fun _ _ _ h => h) (Or.inl ⟨by rfl, ?_⟩) hHeld ?_
        rotate_left 1
        · intro u hSu
          obtain ⟨q0, q1⟩ := row_cells (kept_row HLj.out.gb hSu.out (by simp))
          have q2 := HC.out u i x (grown_trans HGj.out hSu.out) HXX.out
          have q3 := HC.out u j m (grown_trans HGj.out hSu.out) HMM.out
          go_simp
          first | done | with_reducible rfl
        (try simp only [Act.put, List.setIfInBounds_toArray, List.set_cons_zero, List.set_cons_succ])
        refine wpAnyH_take (i := 2) (oi := { dst := some 109, op := Op.move (Operand.tmp 6), type := 3, pos := "law.go:94", after := #[], guard := none }) (v := ?_) rfl (by kernel_rfl) (by kernel_rfl) (by kernel_rfl) (fun _ _ _ h => h) (Or.inl ⟨by rfl, ?_⟩) hHeld ?_
        rotate_left 1
        · intro u hSu
          obtain ⟨q0, q1⟩ := row_cells (kept_row HLj.out.gb hSu.out (by simp))
          have q2 := HC.out u i x (grown_trans HGj.out hSu.out) HXX.out
          have q3 := HC.out u j m (grown_trans HGj.out hSu.out) HMM.out
          go_simp
          first | done | with_reducible rfl
        (try simp only [Act.put, List.setIfInBounds_toArray, List.set_cons_zero, List.set_cons_succ])
        refine wpAnyH_take (i := 3) (oi := { dst := some 110, op := Op.indexAddr 22 (Operand.tmp 108) (Operand.tmp 109), type := 0, pos := "law.go:94", after := #[{ on := 1, ground := Ground.data }, { on := 2, ground := Ground.data }], guard := none }) (v := ?_) rfl (by kernel_rfl) (by kernel_rfl) (by kernel_rfl) (fun _ _ _ h => h) (Or.inl ⟨by rfl, ?_⟩) hHeld ?_
        rotate_left 1
        · intro u hSu
          obtain ⟨q0, q1⟩ := row_cells (kept_row HLj.out.gb hSu.out (by simp))
          have q2 := HC.out u i x (grown_trans HGj.out hSu.out) HXX.out
          have q3 := HC.out u j m (grown_trans HGj.out hSu.out) HMM.out
          go_simp
          first | done | with_reducible rfl
        (try simp only [Act.put, List.setIfInBounds_toArray, List.set_cons_zero, List.set_cons_succ])
        refine wpAnyH_take (i := 4) (oi := { dst := some 111, op := Op.load 3 (Operand.tmp 110), type := 3, pos := "law.go:94", after := #[{ on := 3, ground := Ground.data }], guard := none }) (v := ?_) rfl (by kernel_rfl) (by kernel_rfl) (by kernel_rfl) (fun _ _ _ h => h) (Or.inl ⟨by rfl, ?_⟩) hHeld ?_
        rotate_left 1
        · intro u hSu
          obtain ⟨q0, q1⟩ := row_cells (kept_row HLj.out.gb hSu.out (by simp))
          have q2 := HC.out u i x (grown_trans HGj.out hSu.out) HXX.out
          have q3 := HC.out u j m (grown_trans HGj.out hSu.out) HMM.out
          go_simp
          first | done | with_reducible rfl
        (try simp only [Act.put, List.setIfInBounds_toArray, List.set_cons_zero, List.set_cons_succ])
        refine wpAnyH_take (i := 5) (oi := { dst := some 112, op := Op.move (Operand.tmp 5), type := 22, pos := "law.go:94", after := #[], guard := none }) (v := ?_) rfl (by kernel_rfl) (by kernel_rfl) (by kernel_rfl) (fun _ _ _ h => h) (Or.inl ⟨by rfl, ?_⟩) hHeld ?_
        rotate_left 1
        · intro u hSu
          obtain ⟨q0, q1⟩ := row_cells (kept_row HLj.out.gb hSu.out (by simp))
          have q2 := HC.out u i x (grown_trans HGj.out hSu.out) HXX.out
          have q3 := HC.out u j m (grown_trans HGj.out hSu.out) HMM.out
          go_simp
          first | done | with_reducible rfl
        (try simp only [Act.put, List.setIfInBounds_toArray, List.set_cons_zero, List.set_cons_succ])
        refine wpAnyH_take (i := 6) (oi := { dst := some 113, op := Op.move (Operand.tmp 12), type := 3, pos := "law.go:94", after := #[], guard := none }) (v := ?_) rfl (by kernel_rfl) (by kernel_rfl) (by kernel_rfl) (fun _ _ _ h => h) (Or.inl ⟨by rfl, ?_⟩) hHeld ?_
        rotate_left 1
        · intro u hSu
          obtain ⟨q0, q1⟩ := row_cells (kept_row HLj.out.gb hSu.out (by simp))
          have q2 := HC.out u i x (grown_trans HGj.out hSu.out) HXX.out
          have q3 := HC.out u j m (grown_trans HGj.out hSu.out) HMM.out
          go_simp
          first | done | with_reducible rfl
        (try simp only [Act.put, List.setIfInBounds_toArray, List.set_cons_zero, List.set_cons_succ])
        refine wpAnyH_take (i := 7) (oi := { dst := some 114, op := Op.indexAddr 22 (Operand.tmp 112) (Operand.tmp 113), type := 0, pos := "law.go:94", after := #[{ on := 5, ground := Ground.data }, { on := 6, ground := Ground.data }], guard := none }) (v := ?_) rfl (by kernel_rfl) (by kernel_rfl) (by kernel_rfl) (fun _ _ _ h => h) (Or.inl ⟨by rfl, ?_⟩) hHeld ?_
        rotate_left 1
        · intro u hSu
          obtain ⟨q0, q1⟩ := row_cells (kept_row HLj.out.gb hSu.out (by simp))
          have q2 := HC.out u i x (grown_trans HGj.out hSu.out) HXX.out
          have q3 := HC.out u j m (grown_trans HGj.out hSu.out) HMM.out
          go_simp
          first | done | with_reducible rfl
        (try simp only [Act.put, List.setIfInBounds_toArray, List.set_cons_zero, List.set_cons_succ])
        refine wpAnyH_take (i := 8) (oi := { dst := some 115, op := Op.load 3 (Operand.tmp 114), type := 3, pos := "law.go:94", after := #[{ on := 7, ground := Ground.data }], guard := none }) (v := ?_) rfl (by kernel_rfl) (by kernel_rfl) (by kernel_rfl) (fun _ _ _ h => h) (Or.inl ⟨by rfl, ?_⟩) hHeld ?_
        rotate_left 1
        · intro u hSu
          obtain ⟨q0, q1⟩ := row_cells (kept_row HLj.out.gb hSu.out (by simp))
          have q2 := HC.out u i x (grown_trans HGj.out hSu.out) HXX.out
          have q3 := HC.out u j m (grown_trans HGj.out hSu.out) HMM.out
          go_simp
          first | done | with_reducible rfl
        (try simp only [Act.put, List.setIfInBounds_toArray, List.set_cons_zero, List.set_cons_succ])
        refine wpAnyH_ready (rs := [9]) (by kernel_rfl) (by simp) ?_
        refine AllReadyH.cons (o := { dst := some 116, op := Op.call { callee := Callee.value (Operand.func 30), args := #[Operand.tmp 107, Operand.tmp 111, Operand.tmp 115], argTypes := #[28, 3, 3] }, type := 49, pos := "law.go:94", after := #[{ on := 0, ground := Ground.data }, { on := 4, ground := Ground.data }, { on := 8, ground := Ground.data }], guard := none }) rfl (fun Kz hK => ?_) AllReadyH.nil
        go_simp
        go_at_call 30
        refine (tcs_any ⟨R, L, pR, cR, pL, cL⟩ x m _ _ ((HLj.out.keep hHeld.out).t) hR hL (by unfold I64; omega)).mono ?_
        rintro e w9 ⟨rfl, hgc⟩
        simp only
        rw [HB1.out.1, HB1.out.2]
        refine hK.out _ _ (Lib.hid (grown_trans hHeld.out hgc)) (fun hH2 => ?_)
        clear hK Kz hHeld
        have hHeld := hH2
        clear hH2
        (try simp only [Act.put, List.setIfInBounds_toArray, List.set_cons_zero, List.set_cons_succ])
        refine wpAnyH_take (i := 10) (oi := { dst := some 106, op := Op.move (Operand.tmp 116), type := 49, pos := "law.go:94", after := #[{ on := 9, ground := Ground.data }], guard := none }) (v := ?_) rfl (by kernel_rfl) (by kernel_rfl) (by kernel_rfl) (fun _ _ _ h => h) (Or.inl ⟨by rfl, ?_⟩) hHeld ?_
        rotate_left 1
        · intro u hSu
          obtain ⟨q0, q1⟩ := row_cells (kept_row HLj.out.gb hSu.out (by simp))
          have q2 := HC.out u i x (grown_trans HGj.out hSu.out) HXX.out
          have q3 := HC.out u j m (grown_trans HGj.out hSu.out) HMM.out
          go_simp
          first | done | with_reducible rfl
        (try simp only [Act.put, List.setIfInBounds_toArray, List.set_cons_zero, List.set_cons_succ])
        refine wpAnyH_take (i := 11) (oi := { dst := some 117, op := Op.extract (Operand.tmp 106) 0, type := 3, pos := "law.go:94", after := #[{ on := 10, ground := Ground.data }], guard := none }) (v := ?_) rfl (by kernel_rfl) (by kernel_rfl) (by kernel_rfl) (fun _ _ _ h => h) (Or.inl ⟨by rfl, ?_⟩) hHeld ?_
        rotate_left 1
        · intro u hSu
          obtain ⟨q0, q1⟩ := row_cells (kept_row HLj.out.gb hSu.out (by simp))
          have q2 := HC.out u i x (grown_trans HGj.out hSu.out) HXX.out
          have q3 := HC.out u j m (grown_trans HGj.out hSu.out) HMM.out
          go_simp
          first | done | with_reducible rfl
        (try simp only [Act.put, List.setIfInBounds_toArray, List.set_cons_zero, List.set_cons_succ])
        refine wpAnyH_take (i := 12) (oi := { dst := some 118, op := Op.extract (Operand.tmp 106) 1, type := 4, pos := "law.go:94", after := #[{ on := 10, ground := Ground.data }, { on := 13, ground := Ground.gcOnly Departure.lateStores }], guard := none }) (v := ?_) rfl (by kernel_rfl) (by kernel_rfl) (by kernel_rfl) (fun _ _ _ h => h) (Or.inl ⟨by rfl, ?_⟩) hHeld ?_
        rotate_left 1
        · intro u hSu
          obtain ⟨q0, q1⟩ := row_cells (kept_row HLj.out.gb hSu.out (by simp))
          have q2 := HC.out u i x (grown_trans HGj.out hSu.out) HXX.out
          have q3 := HC.out u j m (grown_trans HGj.out hSu.out) HMM.out
          go_simp
          first | done | with_reducible rfl
        (try simp only [Act.put, List.setIfInBounds_toArray, List.set_cons_zero, List.set_cons_succ])
        refine wpAnyH_take (i := 13) (oi := { dst := some 13, op := Op.assign (Operand.tmp 117), type := 3, pos := "law.go:94", after := #[{ on := 11, ground := Ground.data }, { on := 9, ground := Ground.chain }, { on := 0, ground := Ground.phase }, { on := 1, ground := Ground.phase }, { on := 2, ground := Ground.phase }, { on := 3, ground := Ground.phase }, { on := 4, ground := Ground.phase }, { on := 5, ground := Ground.phase }, { on := 6, ground := Ground.phase }, { on := 7, ground := Ground.phase }, { on := 8, ground := Ground.phase }, { on := 9, ground := Ground.phase }, { on := 10, ground := Ground.phase }, { on := 11, ground := Ground.phase }, { on := 12, ground := Ground.textOnly Departure.lateStores }], guard := none }) (v := ?_) rfl (by kernel_rfl) (by kernel_rfl) (by kernel_rfl) (fun _ _ _ h => h) (Or.inl ⟨by rfl, ?_⟩) hHeld ?_
        rotate_left 1
        · intro u hSu
          obtain ⟨q0, q1⟩ := row_cells (kept_row HLj.out.gb hSu.out (by simp))
          have q2 := HC.out u i x (grown_trans HGj.out hSu.out) HXX.out
          have q3 := HC.out u j m (grown_trans HGj.out hSu.out) HMM.out
          go_simp
          first | done | with_reducible rfl
        (try simp only [Act.put, List.setIfInBounds_toArray, List.set_cons_zero, List.set_cons_succ])
        refine wpAnyH_take (i := 14) (oi := { dst := some 14, op := Op.assign (Operand.tmp 118), type := 4, pos := "law.go:94", after := #[{ on := 12, ground := Ground.data }, { on := 13, ground := Ground.chain }, { on := 0, ground := Ground.phase }, { on := 1, ground := Ground.phase }, { on := 2, ground := Ground.phase }, { on := 3, ground := Ground.phase }, { on := 4, ground := Ground.phase }, { on := 5, ground := Ground.phase }, { on := 6, ground := Ground.phase }, { on := 7, ground := Ground.phase }, { on := 8, ground := Ground.phase }, { on := 9, ground := Ground.phase }, { on := 10, ground := Ground.phase }, { on := 11, ground := Ground.phase }, { on := 12, ground := Ground.phase }, { on := 13, ground := Ground.phase }], guard := none }) (v := ?_) rfl (by kernel_rfl) (by kernel_rfl) (by kernel_rfl) (fun _ _ _ h => h) (Or.inl ⟨by rfl, ?_⟩) hHeld ?_
        rotate_left 1
        · intro u hSu
          obtain ⟨q0, q1⟩ := row_cells (kept_row HLj.out.gb hSu.out (by simp))
          have q2 := HC.out u i x (grown_trans HGj.out hSu.out) HXX.out
          have q3 := HC.out u j m (grown_trans HGj.out hSu.out) HMM.out
          go_simp
          first | done | with_reducible rfl
        (try simp only [Act.put, List.setIfInBounds_toArray, List.set_cons_zero, List.set_cons_succ])
        refine wpAnyH_done (by kernel_rfl) ?_ _
        have HLg := Lib.hid (HLj.out.keep hHeld.out)
        have HGg := Lib.hid (grown_trans HGj.out hHeld.out)
        obtain ⟨wg, hwn⟩ : ∃ wg, wg = w9 := ⟨_, rfl⟩
        rw [← hwn] at HLg HGg ⊢
        clear hHeld hwn HLj HGj
        go_upto_region 20 with fail
        refine wp_region_held_drew (S := fun w' => Hid (wg.grownBy w' none)) (by kernel_rfl) (Lib.hid (grown_drew (grown_refl _ _))) (fun hHeld => ?_)
        refine wpAnyH_take (i := 0) (oi := { dst := some 120, op := Op.load 28 (Operand.tmp 4), type := 28, pos := "law.go:95", after := #[], guard := none }) (v := ?_) rfl (by kernel_rfl) (by kernel_rfl) (by kernel_rfl) (fun _ _ _ h => h) (Or.inl ⟨by rfl, ?_⟩) hHeld ?_
        rotate_left 1
        · intro u hSu
          obtain ⟨q0, q1⟩ := row_cells (kept_row HLg.out.gb hSu.out (by simp))
          have q2 := HC.out u j m (grown_trans HGg.out hSu.out) HMM.out
          have q3 := HC.out u k y (grown_trans HGg.out hSu.out) HYY.out
          go_simp
          first | done | with_reducible rfl
        (try simp only [Act.put, List.setIfInBounds_toArray, List.set_cons_zero, List.set_cons_succ])
        refine wpAnyH_take (i := 1) (oi := { dst := some 121, op := Op.move (Operand.tmp 5), type := 22, pos := "law.go:95", after := #[], guard := none }) (v := ?_) rfl (by kernel_rfl) (by kernel_rfl) (by kernel_rfl) (fun _ _ _ h => h) (Or.inl ⟨by rfl, ?_⟩) hHeld ?_
        rotate_left 1
        · intro u hSu
          obtain ⟨q0, q1⟩ := row_cells (kept_row HLg.out.gb hSu.out (by simp))
          have q2 := HC.out u j m (grown_trans HGg.out hSu.out) HMM.out
          have q3 := HC.out u k y (grown_trans HGg.out hSu.out) HYY.out
          go_simp
          first | done | with_reducible rfl
        (try simp only [Act.put, List.setIfInBounds_toArray, List.set_cons_zero, List.set_cons_succ])
        refine wpAnyH_take (i := 2) (oi := { dst := some 122, op := Op.move (Operand.tmp 12), type := 3, pos := "law.go:95", after := #[], guard := none }) (v := ?_) rfl (by kernel_rfl) (by kernel_rfl) (by kernel_rfl) (fun _ _ _ h => h) (Or.inl ⟨by rfl, ?_⟩) hHeld ?_
        rotate_left 1
        · intro u hSu
          obtain ⟨q0, q1⟩ := row_cells (kept_row HLg.out.gb hSu.out (by simp))
          have q2 := HC.out u j m (grown_trans HGg.out hSu.out) HMM.out
          have q3 := HC.out u k y (grown_trans HGg.out hSu.out) HYY.out
          go_simp
          first | done | with_reducible rfl
        (try simp only [Act.put, List.setIfInBounds_toArray, List.set_cons_zero, List.set_cons_succ])
        refine wpAnyH_take (i := 3) (oi := { dst := some 123, op := Op.indexAddr 22 (Operand.tmp 121) (Operand.tmp 122), type := 0, pos := "law.go:95", after := #[{ on := 1, ground := Ground.data }, { on := 2, ground := Ground.data }], guard := none }) (v := ?_) rfl (by kernel_rfl) (by kernel_rfl) (by kernel_rfl) (fun _ _ _ h => h) (Or.inl ⟨by rfl, ?_⟩) hHeld ?_
        rotate_left 1
        · intro u hSu
          obtain ⟨q0, q1⟩ := row_cells (kept_row HLg.out.gb hSu.out (by simp))
          have q2 := HC.out u j m (grown_trans HGg.out hSu.out) HMM.out
          have q3 := HC.out u k y (grown_trans HGg.out hSu.out) HYY.out
          go_simp
          first | done | with_reducible rfl
        (try simp only [Act.put, List.setIfInBounds_toArray, List.set_cons_zero, List.set_cons_succ])
        refine wpAnyH_take (i := 4) (oi := { dst := some 124, op := Op.load 3 (Operand.tmp 123), type := 3, pos := "law.go:95", after := #[{ on := 3, ground := Ground.data }], guard := none }) (v := ?_) rfl (by kernel_rfl) (by kernel_rfl) (by kernel_rfl) (fun _ _ _ h => h) (Or.inl ⟨by rfl, ?_⟩) hHeld ?_
        rotate_left 1
        · intro u hSu
          obtain ⟨q0, q1⟩ := row_cells (kept_row HLg.out.gb hSu.out (by simp))
          have q2 := HC.out u j m (grown_trans HGg.out hSu.out) HMM.out
          have q3 := HC.out u k y (grown_trans HGg.out hSu.out) HYY.out
          go_simp
          first | done | with_reducible rfl
        (try simp only [Act.put, List.setIfInBounds_toArray, List.set_cons_zero, List.set_cons_succ])
        refine wpAnyH_take (i := 5) (oi := { dst := some 125, op := Op.move (Operand.tmp 5), type := 22, pos := "law.go:95", after := #[], guard := none }) (v := ?_) rfl (by kernel_rfl) (by kernel_rfl) (by kernel_rfl) (fun _ _ _ h => h) (Or.inl ⟨by rfl, ?_⟩) hHeld ?_
        rotate_left 1
        · intro u hSu
          obtain ⟨q0, q1⟩ := row_cells (kept_row HLg.out.gb hSu.out (by simp))
          have q2 := HC.out u j m (grown_trans HGg.out hSu.out) HMM.out
          have q3 := HC.out u k y (grown_trans HGg.out hSu.out) HYY.out
          go_simp
          first | done | with_reducible rfl
        (try simp only [Act.put, List.setIfInBounds_toArray, List.set_cons_zero, List.set_cons_succ])
        refine wpAnyH_take (i := 6) (oi := { dst := some 126, op := Op.move (Operand.tmp 7), type := 3, pos := "law.go:95", after := #[], guard := none }) (v := ?_) rfl (by kernel_rfl) (by kernel_rfl) (by kernel_rfl) (fun _ _ _ h => h) (Or.inl ⟨by rfl, ?_⟩) hHeld ?_
        rotate_left 1
        · intro u hSu
          obtain ⟨q0, q1⟩ := row_cells (kept_row HLg.out.gb hSu.out (by simp))
          have q2 := HC.out u j m (grown_trans HGg.out hSu.out) HMM.out
          have q3 := HC.out u k y (grown_trans HGg.out hSu.out) HYY.out
          go_simp
          first | done | with_reducible rfl
        (try simp only [Act.put, List.setIfInBounds_toArray, List.set_cons_zero, List.set_cons_succ])
        refine wpAnyH_take (i := 7) (oi := { dst := some 127, op := Op.indexAddr 22 (Operand.tmp 125) (Operand.tmp 126), type := 0, pos := "law.go:95", after := #[{ on := 5, ground := Ground.data }, { on := 6, ground := Ground.data }], guard := none }) (v := ?_) rfl (by kernel_rfl) (by kernel_rfl) (by kernel_rfl) (fun _ _ _ h => h) (Or.inl ⟨by rfl, ?_⟩) hHeld ?_
        rotate_left 1
        · intro u hSu
          obtain ⟨q0, q1⟩ := row_cells (kept_row HLg.out.gb hSu.out (by simp))
          have q2 := HC.out u j m (grown_trans HGg.out hSu.out) HMM.out
          have q3 := HC.out u k y (grown_trans HGg.out hSu.out) HYY.out
          go_simp
          first | done | with_reducible rfl
        (try simp only [Act.put, List.setIfInBounds_toArray, List.set_cons_zero, List.set_cons_succ])
        refine wpAnyH_take (i := 8) (oi := { dst := some 128, op := Op.load 3 (Operand.tmp 127), type := 3, pos := "law.go:95", after := #[{ on := 7, ground := Ground.data }], guard := none }) (v := ?_) rfl (by kernel_rfl) (by kernel_rfl) (by kernel_rfl) (fun _ _ _ h => h) (Or.inl ⟨by rfl, ?_⟩) hHeld ?_
        rotate_left 1
        · intro u hSu
          obtain ⟨q0, q1⟩ := row_cells (kept_row HLg.out.gb hSu.out (by simp))
          have q2 := HC.out u j m (grown_trans HGg.out hSu.out) HMM.out
          have q3 := HC.out u k y (grown_trans HGg.out hSu.out) HYY.out
          go_simp
          first | done | with_reducible rfl
        (try simp only [Act.put, List.setIfInBounds_toArray, List.set_cons_zero, List.set_cons_succ])
        refine wpAnyH_ready (rs := [9]) (by kernel_rfl) (by simp) ?_
        refine AllReadyH.cons (o := { dst := some 129, op := Op.call { callee := Callee.value (Operand.func 30), args := #[Operand.tmp 120, Operand.tmp 124, Operand.tmp 128], argTypes := #[28, 3, 3] }, type := 49, pos := "law.go:95", after := #[{ on := 0, ground := Ground.data }, { on := 4, ground := Ground.data }, { on := 8, ground := Ground.data }], guard := none }) rfl (fun Kz hK => ?_) AllReadyH.nil
        go_simp
        go_at_call 30
        refine (tcs_any ⟨R, L, pR, cR, pL, cL⟩ m y _ _ ((HLg.out.keep hHeld.out).t) hR hL (by unfold I64; omega)).mono ?_
        rintro e w9 ⟨rfl, hgc⟩
        simp only
        rw [HC1.out.1, HC1.out.2]
        refine hK.out _ _ (Lib.hid (grown_trans hHeld.out hgc)) (fun hH2 => ?_)
        clear hK Kz hHeld
        have hHeld := hH2
        clear hH2
        (try simp only [Act.put, List.setIfInBounds_toArray, List.set_cons_zero, List.set_cons_succ])
        refine wpAnyH_take (i := 10) (oi := { dst := some 119, op := Op.move (Operand.tmp 129), type := 49, pos := "law.go:95", after := #[{ on := 9, ground := Ground.data }], guard := none }) (v := ?_) rfl (by kernel_rfl) (by kernel_rfl) (by kernel_rfl) (fun _ _ _ h => h) (Or.inl ⟨by rfl, ?_⟩) hHeld ?_
        rotate_left 1
        · intro u hSu
          obtain ⟨q0, q1⟩ := row_cells (kept_row HLg.out.gb hSu.out (by simp))
          have q2 := HC.out u j m (grown_trans HGg.out hSu.out) HMM.out
          have q3 := HC.out u k y (grown_trans HGg.out hSu.out) HYY.out
          go_simp
          first | done | with_reducible rfl
        (try simp only [Act.put, List.setIfInBounds_toArray, List.set_cons_zero, List.set_cons_succ])
        refine wpAnyH_take (i := 11) (oi := { dst := some 130, op := Op.extract (Operand.tmp 119) 0, type := 3, pos := "law.go:95", after := #[{ on := 10, ground := Ground.data }], guard := none }) (v := ?_) rfl (by kernel_rfl) (by kernel_rfl) (by kernel_rfl) (fun _ _ _ h => h) (Or.inl ⟨by rfl, ?_⟩) hHeld ?_
        rotate_left 1
        · intro u hSu
          obtain ⟨q0, q1⟩ := row_cells (kept_row HLg.out.gb hSu.out (by simp))
          have q2 := HC.out u j m (grown_trans HGg.out hSu.out) HMM.out
          have q3 := HC.out u k y (grown_trans HGg.out hSu.out) HYY.out
          go_simp
          first | done | with_reducible rfl
        (try simp only [Act.put, List.setIfInBounds_toArray, List.set_cons_zero, List.set_cons_succ])
        refine wpAnyH_take (i := 12) (oi := { dst := some 131, op := Op.extract (Operand.tmp 119) 1, type := 4, pos := "law.go:95", after := #[{ on := 10, ground := Ground.data }, { on := 13, ground := Ground.gcOnly Departure.lateStores }], guard := none }) (v := ?_) rfl (by kernel_rfl) (by kernel_rfl) (by kernel_rfl) (fun _ _ _ h => h) (Or.inl ⟨by rfl, ?_⟩) hHeld ?_
        rotate_left 1
        · intro u hSu
          obtain ⟨q0, q1⟩ := row_cells (kept_row HLg.out.gb hSu.out (by simp))
          have q2 := HC.out u j m (grown_trans HGg.out hSu.out) HMM.out
          have q3 := HC.out u k y (grown_trans HGg.out hSu.out) HYY.out
          go_simp
          first | done | with_reducible rfl
        (try simp only [Act.put, List.setIfInBounds_toArray, List.set_cons_zero, List.set_cons_succ])
        refine wpAnyH_take (i := 13) (oi := { dst := some 15, op := Op.assign (Operand.tmp 130), type := 3, pos := "law.go:95", after := #[{ on := 11, ground := Ground.data }, { on := 9, ground := Ground.chain }, { on := 0, ground := Ground.phase }, { on := 1, ground := Ground.phase }, { on := 2, ground := Ground.phase }, { on := 3, ground := Ground.phase }, { on := 4, ground := Ground.phase }, { on := 5, ground := Ground.phase }, { on := 6, ground := Ground.phase }, { on := 7, ground := Ground.phase }, { on := 8, ground := Ground.phase }, { on := 9, ground := Ground.phase }, { on := 10, ground := Ground.phase }, { on := 11, ground := Ground.phase }, { on := 12, ground := Ground.textOnly Departure.lateStores }], guard := none }) (v := ?_) rfl (by kernel_rfl) (by kernel_rfl) (by kernel_rfl) (fun _ _ _ h => h) (Or.inl ⟨by rfl, ?_⟩) hHeld ?_
        rotate_left 1
        · intro u hSu
          obtain ⟨q0, q1⟩ := row_cells (kept_row HLg.out.gb hSu.out (by simp))
          have q2 := HC.out u j m (grown_trans HGg.out hSu.out) HMM.out
          have q3 := HC.out u k y (grown_trans HGg.out hSu.out) HYY.out
          go_simp
          first | done | with_reducible rfl
        (try simp only [Act.put, List.setIfInBounds_toArray, List.set_cons_zero, List.set_cons_succ])
        refine wpAnyH_take (i := 14) (oi := { dst := some 16, op := Op.assign (Operand.tmp 131), type := 4, pos := "law.go:95", after := #[{ on := 12, ground := Ground.data }, { on := 13, ground := Ground.chain }, { on := 0, ground := Ground.phase }, { on := 1, ground := Ground.phase }, { on := 2, ground := Ground.phase }, { on := 3, ground := Ground.phase }, { on := 4, ground := Ground.phase }, { on := 5, ground := Ground.phase }, { on := 6, ground := Ground.phase }, { on := 7, ground := Ground.phase }, { on := 8, ground := Ground.phase }, { on := 9, ground := Ground.phase }, { on := 10, ground := Ground.phase }, { on := 11, ground := Ground.phase }, { on := 12, ground := Ground.phase }, { on := 13, ground := Ground.phase }], guard := none }) (v := ?_) rfl (by kernel_rfl) (by kernel_rfl) (by kernel_rfl) (fun _ _ _ h => h) (Or.inl ⟨by rfl, ?_⟩) hHeld ?_
        rotate_left 1
        · intro u hSu
          obtain ⟨q0, q1⟩ := row_cells (kept_row HLg.out.gb hSu.out (by simp))
          have q2 := HC.out u j m (grown_trans HGg.out hSu.out) HMM.out
          have q3 := HC.out u k y (grown_trans HGg.out hSu.out) HYY.out
          go_simp
          first | done | with_reducible rfl
        (try simp only [Act.put, List.setIfInBounds_toArray, List.set_cons_zero, List.set_cons_succ])
        refine wpAnyH_done (by kernel_rfl) ?_ _
        have HLh := Lib.hid (HLg.out.keep hHeld.out)
        have HGh := Lib.hid (grown_trans HGg.out hHeld.out)
        obtain ⟨wh, hwn⟩ : ∃ wh, wh = w9 := ⟨_, rfl⟩
        rw [← hwn] at HLh HGh ⊢
        clear hHeld hwn HLg HGg
        cases one with
        | false =>
          go_wp2_with fail
          exact ⟨⟨j + 1, by omega, congrArg _ (by omega), HLh, HGh⟩, by simp only [RowKit.intOf]; omega⟩
        | true =>
          cases two with
          | false =>
            go_wp2_with fail
            exact ⟨⟨j + 1, by omega, congrArg _ (by omega), HLh, HGh⟩, by simp only [RowKit.intOf]; omega⟩
          | true =>
            obtain ⟨rfl, hle⟩ := HT.out rfl rfl
            have hle2 : ¬ (B1 + C1 < A) := by omega
            go_wp2_with fail
            exact ⟨⟨j + 1, by omega, congrArg _ (by omega), HLh, HGh⟩, by simp only [RowKit.intOf]; omega⟩
      · obtain rfl : j = X.length := by omega
        go_wp2_with fail
        exact ⟨⟨k + 1, by omega, congrArg _ (by omega), HLj, HGj⟩, by simp only [RowKit.intOf]; omega⟩
    · obtain rfl : k = X.length := by omega
      go_wp2_with fail
      exact ⟨⟨i + 1, by omega, congrArg _ (by omega), HLk, HGk⟩, by simp only [RowKit.intOf]; omega⟩
  · obtain rfl : i = X.length := by omega
    go_wp2_with fail
    refine (sawake_any _).mono ?_
    rintro e w9 ⟨rfl, hg9⟩
    have HE := Lib.hid (grown_trans HLi.out.gr hg9)
    clear hg9
    go_wp2_with fail
    go_ret
    exact ⟨rfl, HE.out⟩
end Go.Proofs.Ytlefjdglcdopeaa

/- Parts of the proof, packed: ShRoLaw. -/
import Derived.Test.YtlefjdglcdopeaaRo17
import Derived.Test.YtlefjdglcdopeaaRo13
/- The law ShortestRoutes. -/
namespace Go.Proofs.Ytlefjdglcdopeaa
open Go.RowKit Go.Maps Bs
set_option maxRecDepth 100000 in
set_option maxHeartbeats 12800000 in
theorem sroutes_walk (v : Value) (w : World) (hv : IntsIn w v) :
    Calls Try.prog 7 #[v] w fun e w' => e = .returned (.bool true) ∧ w.grownBy w' none := by
  go_enter Try.func7, Try.ntmps7
  go_wp2_with fail
  refine (new_any v w hv).mono ?_
  rintro e w2 ⟨rfl, hg1, hT1⟩
  have H2 := Lib.hid (And.intro hg1 hT1)
  obtain ⟨a, ha⟩ : ∃ a, a = w.heap.size := ⟨_, rfl⟩
  rw [← ha] at H2
  have HA := Lib.hid ha
  clear hg1 hT1 hv
  rw [← HA.out]
  clear ha
  go_wp2_with fail
  refine (stopo_any a 7 0 (by decide) (by decide) (by unfold I64; omega) w2 H2.out.2).mono ?_
  rintro e w3 ⟨T, rfl, hT, hO, hpT, hs3⟩
  obtain ⟨R, L, pR, cR, pL, cL⟩ := T
  have HVT : Hid (VT 7 ⟨R, L, pR, cR, pL, cL⟩) := Lib.hid (VT.of hO hpT)
  simp only at hO hpT ⊢
  have gal := World.grownBy_alloc w3 (.cells #[.slice pR R.length cR, .slice pL L.length cL] 28) none
  have ha2 : a < w2.heap.size := H2.out.2.lt
  have HW4 : Hid (w.grownBy (w3.alloc (.cells #[.slice pR R.length cR, .slice pL L.length cL] 28)) none) := Lib.hid (grown_trans (grown_tape H2.out.1 (by rw [← HA.out]; exact hs3.1)) gal)
  have HG : Hid ((w3.alloc (.cells #[.slice pR R.length cR, .slice pL L.length cL] 28)).heap[w3.heap.size]? = some (.cells #[.slice pR R.length cR, .slice pL L.length cL] 28 (0, 0)) ∧ TgOk (w3.alloc (.cells #[.slice pR R.length cR, .slice pL L.length cL] 28)) (fun b => w2.heap.size ≤ b ∧ b < w3.heap.size) ⟨R, L, pR, cR, pL, cL⟩ ∧ Tp (w3.alloc (.cells #[.slice pR R.length cR, .slice pL L.length cL] 28)) a) :=
    Lib.hid ⟨heap_alloc_new w3 _, hT.keep gal, hs3.2.keep gal⟩
  have ha3 : a < w3.heap.size := Nat.lt_of_lt_of_le ha2 hs3.1.size
  clear hT hs3 gal hO hpT
  go_upto_region 3 with fail
  generalize w3.alloc _ = w4 at *
  refine wp_region_held_drew (S := fun w' => Hid (w4.grownBy w' (some a) ∧ Tp w' a)) (by kernel_rfl) (Lib.hid ⟨grown_drew (grown_refl _ _), HG.out.2.2.drew⟩) (fun hHeld => ?_)
  refine wpAnyH_take (i := 0) (oi := { dst := some 16, op := Op.move (Operand.tmp 3), type := 23, pos := "law.go:123", after := #[], guard := none }) (v := ?_) rfl (by kernel_rfl) (by kernel_rfl) (by kernel_rfl) (fun _ _ _ h => h) (Or.inl ⟨by rfl, ?_⟩) hHeld ?_
  rotate_left 1
  · intro u hSu
    obtain ⟨q0, q1⟩ := row_cells (kept_row HG.out.1 hSu.out.1 (fun e => by have := Option.some.inj e; omega))
    go_simp
    first | done | with_reducible rfl
  (try simp only [Act.put, List.setIfInBounds_toArray, List.set_cons_zero, List.set_cons_succ])
  refine wpAnyH_take (i := 1) (oi := { dst := some 17, op := Op.load 28 (Operand.tmp 4), type := 28, pos := "law.go:123", after := #[], guard := none }) (v := ?_) rfl (by kernel_rfl) (by kernel_rfl) (by kernel_rfl) (fun _ _ _ h => h) (Or.inl ⟨by rfl, ?_⟩) hHeld ?_
  rotate_left 1
  · intro u hSu
    obtain ⟨q0, q1⟩ := row_cells (kept_row HG.out.1 hSu.out.1 (fun e => by have := Option.some.inj e; omega))
    go_simp
    first | done | with_reducible rfl
  (try simp only [Act.put, List.setIfInBounds_toArray, List.set_cons_zero, List.set_cons_succ])
  refine wpAnyH_take (i := 3) (oi := { dst := some 19, op := Op.move (Operand.tmp 3), type := 23, pos := "law.go:123", after := #[], guard := none }) (v := ?_) rfl (by kernel_rfl) (by kernel_rfl) (by kernel_rfl) (fun _ _ _ h => h) (Or.inl ⟨by rfl, ?_⟩) hHeld ?_
  rotate_left 1
  · intro u hSu
    obtain ⟨q0, q1⟩ := row_cells (kept_row HG.out.1 hSu.out.1 (fun e => by have := Option.some.inj e; omega))
    go_simp
    first | done | with_reducible rfl
  (try simp only [Act.put, List.setIfInBounds_toArray, List.set_cons_zero, List.set_cons_succ])
  refine wpAnyH_take (i := 4) (oi := { dst := some 20, op := Op.load 28 (Operand.tmp 4), type := 28, pos := "law.go:123", after := #[], guard := none }) (v := ?_) rfl (by kernel_rfl) (by kernel_rfl) (by kernel_rfl) (fun _ _ _ h => h) (Or.inl ⟨by rfl, ?_⟩) hHeld ?_
  rotate_left 1
  · intro u hSu
    obtain ⟨q0, q1⟩ := row_cells (kept_row HG.out.1 hSu.out.1 (fun e => by have := Option.some.inj e; omega))
    go_simp
    first | done | with_reducible rfl
  (try simp only [Act.put, List.setIfInBounds_toArray, List.set_cons_zero, List.set_cons_succ])
  refine wpAnyH_ready (rs := [2]) (by kernel_rfl) (by simp) ?_
  refine AllReadyH.cons (o := { dst := some 18, op := Op.call { callee := Callee.value (Operand.func 13), args := #[Operand.tmp 16, Operand.tmp 17, Operand.const (Value.int IntKind.i64 0)], argTypes := #[23, 28, 3] }, type := 3, pos := "law.go:123", after := #[{ on := 0, ground := Ground.data }, { on := 1, ground := Ground.data }], guard := none }) rfl (fun Kz hK => ?_) AllReadyH.nil
  go_simp
  go_at_call 13
  refine (srtr_any a ⟨R, L, pR, cR, pL, cL⟩ 0 (by unfold I64; omega) (fun b => w2.heap.size ≤ b ∧ b < w3.heap.size) _ (HG.out.2.1.grown hHeld.out.1 (fun b hb e => by have := Option.some.inj e; omega)) (fun b hb => by omega) hHeld.out.2).mono ?_
  rintro e w5 ⟨x, hx, rfl, hs⟩
  have Hx : Hid (hasV R L x = true ∧ 1 ≤ x ∧ x ≤ 99) := Lib.hid (HVT.out.rt hx)
  have hs1 := hs.1
  have hs2 := hs.2
  clear hx hs
  refine hK.out _ _ (Lib.hid ⟨grown_trans hHeld.out.1 hs1, hs2⟩) (fun hH2 => ?_)
  clear hK Kz hHeld
  have hHeld := hH2
  clear hH2
  (try simp only [Act.put, List.setIfInBounds_toArray, List.set_cons_zero, List.set_cons_succ])
  refine wpAnyH_ready (rs := [5]) (by kernel_rfl) (by simp) ?_
  refine AllReadyH.cons (o := { dst := some 21, op := Op.call { callee := Callee.value (Operand.func 13), args := #[Operand.tmp 19, Operand.tmp 20, Operand.const (Value.int IntKind.i64 0)], argTypes := #[23, 28, 3] }, type := 3, pos := "law.go:123", after := #[{ on := 3, ground := Ground.data }, { on := 4, ground := Ground.data }, { on := 2, ground := Ground.chain }], guard := none }) rfl (fun Kz hK => ?_) AllReadyH.nil
  go_simp
  go_at_call 13
  refine (srtr_any a ⟨R, L, pR, cR, pL, cL⟩ 0 (by unfold I64; omega) (fun b => w2.heap.size ≤ b ∧ b < w3.heap.size) _ (HG.out.2.1.grown hHeld.out.1 (fun b hb e => by have := Option.some.inj e; omega)) (fun b hb => by omega) hHeld.out.2).mono ?_
  rintro e w5 ⟨y, hy, rfl, hs⟩
  have Hy : Hid (hasV R L y = true ∧ 1 ≤ y ∧ y ≤ 99) := Lib.hid (HVT.out.rt hy)
  have hs1 := hs.1
  have hs2 := hs.2
  clear hy hs
  refine hK.out _ _ (Lib.hid ⟨grown_trans hHeld.out.1 hs1, hs2⟩) (fun hH2 => ?_)
  clear hK Kz hHeld
  have hHeld := hH2
  clear hH2
  (try simp only [Act.put, List.setIfInBounds_toArray, List.set_cons_zero, List.set_cons_succ])
  refine wpAnyH_take (i := 6) (oi := { dst := some 5, op := Op.assign (Operand.tmp 18), type := 3, pos := "law.go:123", after := #[{ on := 2, ground := Ground.data }, { on := 5, ground := Ground.chain }, { on := 0, ground := Ground.phase }, { on := 1, ground := Ground.phase }, { on := 2, ground := Ground.phase }, { on := 3, ground := Ground.textOnly Departure.lateStores }, { on := 4, ground := Ground.textOnly Departure.lateStores }, { on := 5, ground := Ground.textOnly Departure.lateStoresUnsure }], guard := none }) (v := ?_) rfl (by kernel_rfl) (by kernel_rfl) (by kernel_rfl) (fun _ _ _ h => h) (Or.inl ⟨by rfl, ?_⟩) hHeld ?_
  rotate_left 1
  · intro u hSu
    obtain ⟨q0, q1⟩ := row_cells (kept_row HG.out.1 hSu.out.1 (fun e => by have := Option.some.inj e; omega))
    go_simp
    first | done | with_reducible rfl
  (try simp only [Act.put, List.setIfInBounds_toArray, List.set_cons_zero, List.set_cons_succ])
  refine wpAnyH_take (i := 7) (oi := { dst := some 6, op := Op.assign (Operand.tmp 21), type := 3, pos := "law.go:123", after := #[{ on := 5, ground := Ground.data }, { on := 6, ground := Ground.chain }, { on := 0, ground := Ground.phase }, { on := 1, ground := Ground.phase }, { on := 2, ground := Ground.phase }, { on := 3, ground := Ground.phase }, { on := 4, ground := Ground.phase }, { on := 5, ground := Ground.phase }, { on := 6, ground := Ground.phase }], guard := none }) (v := ?_) rfl (by kernel_rfl) (by kernel_rfl) (by kernel_rfl) (fun _ _ _ h => h) (Or.inl ⟨by rfl, ?_⟩) hHeld ?_
  rotate_left 1
  · intro u hSu
    obtain ⟨q0, q1⟩ := row_cells (kept_row HG.out.1 hSu.out.1 (fun e => by have := Option.some.inj e; omega))
    go_simp
    first | done | with_reducible rfl
  (try simp only [Act.put, List.setIfInBounds_toArray, List.set_cons_zero, List.set_cons_succ])
  refine wpAnyH_done (by kernel_rfl) ?_ _
  have HL : Hid (LW w w3.heap.size ⟨R, L, pR, cR, pL, cL⟩ _) := Lib.hid ⟨kept_row HG.out.1 hHeld.out.1 (fun e => by have := Option.some.inj e; omega), (HG.out.2.1.grown hHeld.out.1 (fun b hb e => by have := Option.some.inj e; omega)).mono (fun b hb => hb.2), grown_new HW4.out hHeld.out.1 (by rw [HA.out]; exact Nat.le_refl _)⟩
  clear hHeld HG HW4 H2
  obtain ⟨G, hG⟩ : ∃ G, G = w3.heap.size := ⟨_, rfl⟩
  rw [← hG] at HL
  rw [← hG]
  clear hG ha2 ha3 HA
  have hR : R.length ≤ 1000 := Nat.le_trans HVT.out.len.1 (by decide)
  have hL : L.length ≤ 1000 := Nat.le_trans HVT.out.l60 (by decide)
  have hxi : I64 x := by have := Hx.out.2; unfold I64; omega
  have hyi : I64 y := by have := Hy.out.2; unfold I64; omega
  obtain ⟨c0, c1⟩ := row_cells HL.out.gb
  go_wp2_with fail
  refine (troute_any ⟨R, L, pR, cR, pL, cL⟩ x y _ _ HL.out.t hR hL HVT.out.pl hxi).mono ?_
  rintro e w6 ⟨p6, c6, rfl, hr6, hc6, hn6, hg6⟩
  (try simp only at hr6 hc6 ⊢)
  obtain ⟨l, hl⟩ : ∃ l, rtV R L y x = l := ⟨_, rfl⟩
  rw [hl] at hr6 hc6 ⊢
  have HRT := Lib.hid hl
  have HL6 := Lib.hid (HL.out.keep hg6)
  have HR6 : Hid (Rd w6 (fun _ => True) (.slice p6 l.length c6) (l.map tv)) := Lib.hid (hr6.mono (fun _ _ => trivial))
  clear hl hr6 hn6 hg6 c0 c1 HL
  obtain ⟨c0, c1⟩ := row_cells HL6.out.gb
  go_wp2_with fail
  refine (tcs_any ⟨R, L, pR, cR, pL, cL⟩ x y _ _ HL6.out.t hR hL hyi).mono ?_
  rintro e w7 ⟨rfl, hg7⟩
  (try simp only)
  have HL7 := Lib.hid (HL6.out.keep hg7)
  have HR7 : Hid (Rd w7 (fun _ => True) (.slice p6 l.length c6) (l.map tv)) := Lib.hid (HR6.out.grown hg7 (fun _ _ => by simp))
  clear hg7 c0 c1 HL6 HR6
  by_cases hxy : x = y
  · subst hxy
    have hs := dst_self Hx.out.1
    rw [hs]
    simp only [Option.getD_some, Option.isSome_some]
    obtain rfl : l = [] := by rw [← HRT.out]; exact rtV_end _ _ _
    clear hs
    go_wp2_with fail
    refine (sawake_any _).mono ?_
    rintro e w9 ⟨rfl, hg9⟩
    have HE := Lib.hid (grown_trans HL7.out.gr hg9)
    clear hg9
    go_wp2_with fail
    go_ret
    exact ⟨rfl, HE.out⟩
  · have hxy' : (x == y) = false := by simpa using hxy
    have HXY := Lib.hid hxy
    cases hd : dst R L x y with
    | none =>
      simp only [Option.getD_none, Option.isSome_none]
      obtain rfl : l = [] := by
        rw [← HRT.out]
        refine rtV_stop ?_
        cases hn : nxt R L x y with
        | nil => rfl
        | cons u t =>
          obtain ⟨d, z, c, h1, -⟩ := nxt_step (R := R) (L := L) (z := y) (r := x) (u := u) (by rw [hn]; simp)
          rw [hd] at h1
          cases h1
      clear hd hxy
      go_wp2_with fail
      refine (sawake_any _).mono ?_
      rintro e w9 ⟨rfl, hg9⟩
      have HE := Lib.hid (grown_trans HL7.out.gr hg9)
      clear hg9
      go_wp2_with fail
      go_ret
      exact ⟨rfl, HE.out⟩
    | some D =>
      simp only [Option.getD_some, Option.isSome_some]
      have I := isRt (far R L y x) x D (Nat.le_refl _) hd
      rw [HRT.out] at I
      have hll : l.length ≤ 24000 := by rw [← HRT.out]; exact Nat.le_trans (rtV_len R L y _ x (Nat.le_refl _)) (far_le R L y x)
      obtain ⟨K, hK, hKz⟩ := I.last HXY.out
      have htot := I.tot 0
      rw [hd] at htot
      have HI := Lib.hid (And.intro I (And.intro hK (And.intro hKz (show (l.foldl (stp L) (x, 0)).2 = D by rw [htot]; simp))))
      have HD := Lib.hid hd
      have hKb : K + 1 ≤ 24000 := by omega
      have hc6' : K + 1 ≤ c6 ∧ c6 ≤ 9223372036854775807 := by omega
      have HR8 : Hid (Rd w7 (fun _ => True) (.slice p6 (K + 1) c6) (l.map tv)) := Lib.hid (by rw [← hK]; exact HR7.out)
      rw [hK]
      clear I hK hKz htot hd hll hc6 HR7 hxy
      obtain ⟨c0, c1⟩ := row_cells HL7.out.gb
      go_wp2_with fail
      refine (tnext_any ⟨R, L, pR, cR, pL, cL⟩ x y _ _ HL7.out.t hR hL HVT.out.pl hxi).mono ?_
      rintro e w8 ⟨p8, c8, rfl, hr8, hc8, hn8, hg8⟩
      (try simp only at hr8 hc8 ⊢)
      cases hn : nxt R L x y with
      | nil => exact absurd hn (nxt_ne HD.out HXY.out)
      | cons n1 nt =>
        have hl0 : l[0]? = some n1 := by rw [← HRT.out, rtV_step HXY.out hn]; rfl
        rw [hn] at hr8 hc8
        simp only [List.length_cons] at hr8 hc8 ⊢
        have HL8 := Lib.hid (HL7.out.keep hg8)
        have hRl := HR8.out.grown hg8 (fun _ _ => by simp)
        have hlp : l.length = K + 1 := HI.out.2.1
        obtain ⟨-, b6, o6, rfl, -, hc1⟩ := rdi_at (r := l) hRl (by omega)
        obtain ⟨-, b8, o8, rfl, -, hc2⟩ := rdi_at (r := n1 :: nt) hr8 (by simp)
        have HCL : Hid (∀ (v : World) (i : Nat) (x : Int), w8.grownBy v none → l[i]? = some x → v.cell? ⟨b6, o6 + i, none⟩ = some (.int .i64 x)) := Lib.hid (fun v i x g hx => g.cell (hc1 i x hx) (by simp))
        have HCN : Hid (∀ (v : World), w8.grownBy v none → v.cell? ⟨b8, o8, none⟩ = some (.int .i64 n1)) := Lib.hid (fun v g => g.cell (by have := hc2 0 n1 rfl; rwa [Nat.add_zero] at this) (by simp))
        have HL0 := Lib.hid hl0
        have HRL := Lib.hid (hRl)
        have HNT : Hid True := Lib.hid trivial
        have hnt0 : (0 : Int) < (nt.length : Int) + 1 := by omega
        have hKl : (K : Int) < (K : Int) + 1 := by omega
        have hK0 : (0 : Int) < (K : Int) + 1 := by omega
        clear hl0 hn hn8 hg8 hc1 hc2 hr8 hRl hlp c0 c1 HR8 HL7
        go_upto_region 9 with fail
        refine wp_region_held_drew (S := fun w' => Hid (w8.grownBy w' none)) (by kernel_rfl) (Lib.hid (grown_drew (grown_refl _ _))) (fun hHeld => ?_)
        refine wpAnyH_take (i := 0) (oi := { dst := some 57, op := Op.move (Operand.tmp 7), type := 22, pos := "law.go:130", after := #[], guard := none }) (v := ?_) rfl (by kernel_rfl) (by kernel_rfl) (by kernel_rfl) (fun _ _ _ h => h) (Or.inl ⟨by rfl, ?_⟩) hHeld ?_
        rotate_left 1
        · intro u hSu
          obtain ⟨q0, q1⟩ := row_cells (kept_row HL8.out.gb hSu.out (by simp))
          have q2 := HCL.out u K y hSu.out HI.out.2.2.1
          have q3 := HCL.out u 0 n1 hSu.out HL0.out
          rw [Nat.add_zero] at q3
          have q4 := HCN.out u hSu.out
          go_simp
          first | done | with_reducible rfl
        (try simp only [Act.put, List.setIfInBounds_toArray, List.set_cons_zero, List.set_cons_succ])
        refine wpAnyH_take (i := 1) (oi := { dst := some 58, op := Op.call { callee := Callee.builtin Builtin.len, args := #[Operand.tmp 57], argTypes := #[22] }, type := 3, pos := "law.go:130", after := #[{ on := 0, ground := Ground.data }], guard := none }) (v := ?_) rfl (by kernel_rfl) (by kernel_rfl) (by kernel_rfl) (fun _ _ _ h => h) (Or.inl ⟨by rfl, ?_⟩) hHeld ?_
        rotate_left 1
        · intro u hSu
          obtain ⟨q0, q1⟩ := row_cells (kept_row HL8.out.gb hSu.out (by simp))
          have q2 := HCL.out u K y hSu.out HI.out.2.2.1
          have q3 := HCL.out u 0 n1 hSu.out HL0.out
          rw [Nat.add_zero] at q3
          have q4 := HCN.out u hSu.out
          go_simp
          first | done | with_reducible rfl
        (try simp only [Act.put, List.setIfInBounds_toArray, List.set_cons_zero, List.set_cons_succ])
        refine wpAnyH_take (i := 2) (oi := { dst := some 59, op := Op.binOp BinOp.eql 3 (Operand.tmp 58) (Operand.const (Value.int IntKind.i64 0)) 3, type := 4, pos := "law.go:130", after := #[{ on := 1, ground := Ground.data }], guard := none }) (v := (.bool false)) rfl (by kernel_rfl) (by kernel_rfl) (by kernel_rfl) (fun _ _ _ h => h) (Or.inl ⟨by rfl, ?_⟩) hHeld ?_
        · intro u hSu
          obtain ⟨q0, q1⟩ := row_cells (kept_row HL8.out.gb hSu.out (by simp))
          have q2 := HCL.out u K y hSu.out HI.out.2.2.1
          have q3 := HCL.out u 0 n1 hSu.out HL0.out
          rw [Nat.add_zero] at q3
          have q4 := HCN.out u hSu.out
          go_simp
          first | done | omega | (simp; done) | (simp; omega)
        (try simp only [Act.put, List.setIfInBounds_toArray, List.set_cons_zero, List.set_cons_succ])
        refine wpAnyH_take (i := 3) (oi := { dst := some 60, op := Op.move (Operand.tmp 59), type := 4, pos := "law.go:130", after := #[{ on := 2, ground := Ground.data }], guard := none }) (v := ?_) rfl (by kernel_rfl) (by kernel_rfl) (by kernel_rfl) (fun _ _ _ h => h) (Or.inl ⟨by rfl, ?_⟩) hHeld ?_
        rotate_left 1
        · intro u hSu
          obtain ⟨q0, q1⟩ := row_cells (kept_row HL8.out.gb hSu.out (by simp))
          have q2 := HCL.out u K y hSu.out HI.out.2.2.1
          have q3 := HCL.out u 0 n1 hSu.out HL0.out
          rw [Nat.add_zero] at q3
          have q4 := HCN.out u hSu.out
          go_simp
          first | done | with_reducible rfl
        (try simp only [Act.put, List.setIfInBounds_toArray, List.set_cons_zero, List.set_cons_succ])
        refine wpAnyH_take (i := 4) (oi := { dst := some 61, op := Op.move (Operand.tmp 7), type := 22, pos := "law.go:130", after := #[{ on := 3, ground := Ground.guard }], guard := some (3, false) }) (v := ?_) rfl (by kernel_rfl) (by kernel_rfl) (by kernel_rfl) (fun _ _ _ h => h) (Or.inl ⟨by rfl, ?_⟩) hHeld ?_
        rotate_left 1
        · intro u hSu
          obtain ⟨q0, q1⟩ := row_cells (kept_row HL8.out.gb hSu.out (by simp))
          have q2 := HCL.out u K y hSu.out HI.out.2.2.1
          have q3 := HCL.out u 0 n1 hSu.out HL0.out
          rw [Nat.add_zero] at q3
          have q4 := HCN.out u hSu.out
          go_simp
          first | done | with_reducible rfl
        (try simp only [Act.put, List.setIfInBounds_toArray, List.set_cons_zero, List.set_cons_succ])
        refine wpAnyH_take (i := 5) (oi := { dst := some 62, op := Op.move (Operand.tmp 7), type := 22, pos := "law.go:130", after := #[{ on := 3, ground := Ground.guard }], guard := some (3, false) }) (v := ?_) rfl (by kernel_rfl) (by kernel_rfl) (by kernel_rfl) (fun _ _ _ h => h) (Or.inl ⟨by rfl, ?_⟩) hHeld ?_
        rotate_left 1
        · intro u hSu
          obtain ⟨q0, q1⟩ := row_cells (kept_row HL8.out.gb hSu.out (by simp))
          have q2 := HCL.out u K y hSu.out HI.out.2.2.1
          have q3 := HCL.out u 0 n1 hSu.out HL0.out
          rw [Nat.add_zero] at q3
          have q4 := HCN.out u hSu.out
          go_simp
          first | done | with_reducible rfl
        (try simp only [Act.put, List.setIfInBounds_toArray, List.set_cons_zero, List.set_cons_succ])
        refine wpAnyH_take (i := 6) (oi := { dst := some 63, op := Op.call { callee := Callee.builtin Builtin.len, args := #[Operand.tmp 62], argTypes := #[22] }, type := 3, pos := "law.go:130", after := #[{ on := 5, ground := Ground.data }, { on := 3, ground := Ground.guard }], guard := some (3, false) }) (v := ?_) rfl (by kernel_rfl) (by kernel_rfl) (by kernel_rfl) (fun _ _ _ h => h) (Or.inl ⟨by rfl, ?_⟩) hHeld ?_
        rotate_left 1
        · intro u hSu
          obtain ⟨q0, q1⟩ := row_cells (kept_row HL8.out.gb hSu.out (by simp))
          have q2 := HCL.out u K y hSu.out HI.out.2.2.1
          have q3 := HCL.out u 0 n1 hSu.out HL0.out
          rw [Nat.add_zero] at q3
          have q4 := HCN.out u hSu.out
          go_simp
          first | done | with_reducible rfl
        (try simp only [Act.put, List.setIfInBounds_toArray, List.set_cons_zero, List.set_cons_succ])
        refine wpAnyH_take (i := 7) (oi := { dst := some 64, op := Op.binOp BinOp.sub 3 (Operand.tmp 63) (Operand.const (Value.int IntKind.i64 1)) 3, type := 3, pos := "law.go:130", after := #[{ on := 6, ground := Ground.data }, { on := 3, ground := Ground.guard }], guard := some (3, false) }) (v := (.int .i64 (K : Int))) rfl (by kernel_rfl) (by kernel_rfl) (by kernel_rfl) (fun _ _ _ h => h) (Or.inl ⟨by rfl, ?_⟩) hHeld ?_
        · intro u hSu
          obtain ⟨q0, q1⟩ := row_cells (kept_row HL8.out.gb hSu.out (by simp))
          have q2 := HCL.out u K y hSu.out HI.out.2.2.1
          have q3 := HCL.out u 0 n1 hSu.out HL0.out
          rw [Nat.add_zero] at q3
          have q4 := HCN.out u hSu.out
          go_simp
          first | done | exact Go.IntWalk.i64_in _ (by omega) | omega
        (try simp only [Act.put, List.setIfInBounds_toArray, List.set_cons_zero, List.set_cons_succ])
        refine wpAnyH_take (i := 8) (oi := { dst := some 65, op := Op.indexAddr 22 (Operand.tmp 61) (Operand.tmp 64), type := 0, pos := "law.go:130", after := #[{ on := 4, ground := Ground.data }, { on := 7, ground := Ground.data }, { on := 3, ground := Ground.guard }], guard := some (3, false) }) (v := ?_) rfl (by kernel_rfl) (by kernel_rfl) (by kernel_rfl) (fun _ _ _ h => h) (Or.inl ⟨by rfl, ?_⟩) hHeld ?_
        rotate_left 1
        · intro u hSu
          obtain ⟨q0, q1⟩ := row_cells (kept_row HL8.out.gb hSu.out (by simp))
          have q2 := HCL.out u K y hSu.out HI.out.2.2.1
          have q3 := HCL.out u 0 n1 hSu.out HL0.out
          rw [Nat.add_zero] at q3
          have q4 := HCN.out u hSu.out
          go_simp
          first | done | with_reducible rfl
        (try simp only [Act.put, List.setIfInBounds_toArray, List.set_cons_zero, List.set_cons_succ])
        refine wpAnyH_take (i := 9) (oi := { dst := some 66, op := Op.load 3 (Operand.tmp 65), type := 3, pos := "law.go:130", after := #[{ on := 8, ground := Ground.data }, { on := 3, ground := Ground.guard }], guard := some (3, false) }) (v := ?_) rfl (by kernel_rfl) (by kernel_rfl) (by kernel_rfl) (fun _ _ _ h => h) (Or.inl ⟨by rfl, ?_⟩) hHeld ?_
        rotate_left 1
        · intro u hSu
          obtain ⟨q0, q1⟩ := row_cells (kept_row HL8.out.gb hSu.out (by simp))
          have q2 := HCL.out u K y hSu.out HI.out.2.2.1
          have q3 := HCL.out u 0 n1 hSu.out HL0.out
          rw [Nat.add_zero] at q3
          have q4 := HCN.out u hSu.out
          go_simp
          first | done | with_reducible rfl
        (try simp only [Act.put, List.setIfInBounds_toArray, List.set_cons_zero, List.set_cons_succ])
        refine wpAnyH_take (i := 10) (oi := { dst := some 67, op := Op.move (Operand.tmp 6), type := 3, pos := "law.go:130", after := #[{ on := 3, ground := Ground.guard }], guard := some (3, false) }) (v := ?_) rfl (by kernel_rfl) (by kernel_rfl) (by kernel_rfl) (fun _ _ _ h => h) (Or.inl ⟨by rfl, ?_⟩) hHeld ?_
        rotate_left 1
        · intro u hSu
          obtain ⟨q0, q1⟩ := row_cells (kept_row HL8.out.gb hSu.out (by simp))
          have q2 := HCL.out u K y hSu.out HI.out.2.2.1
          have q3 := HCL.out u 0 n1 hSu.out HL0.out
          rw [Nat.add_zero] at q3
          have q4 := HCN.out u hSu.out
          go_simp
          first | done | with_reducible rfl
        (try simp only [Act.put, List.setIfInBounds_toArray, List.set_cons_zero, List.set_cons_succ])
        refine wpAnyH_take (i := 11) (oi := { dst := some 68, op := Op.binOp BinOp.neq 3 (Operand.tmp 66) (Operand.tmp 67) 3, type := 4, pos := "law.go:130", after := #[{ on := 9, ground := Ground.data }, { on := 10, ground := Ground.data }, { on := 3, ground := Ground.guard }], guard := some (3, false) }) (v := ?_) rfl (by kernel_rfl) (by kernel_rfl) (by kernel_rfl) (fun _ _ _ h => h) (Or.inl ⟨by rfl, ?_⟩) hHeld ?_
        rotate_left 1
        · intro u hSu
          obtain ⟨q0, q1⟩ := row_cells (kept_row HL8.out.gb hSu.out (by simp))
          have q2 := HCL.out u K y hSu.out HI.out.2.2.1
          have q3 := HCL.out u 0 n1 hSu.out HL0.out
          rw [Nat.add_zero] at q3
          have q4 := HCN.out u hSu.out
          go_simp
          first | done | with_reducible rfl
        (try simp only [Act.put, List.setIfInBounds_toArray, List.set_cons_zero, List.set_cons_succ])
        refine wpAnyH_take (i := 12) (oi := { dst := some 69, op := Op.pick (Operand.tmp 60) (Operand.const (Value.bool true)) (Operand.tmp 68), type := 4, pos := "law.go:130", after := #[{ on := 3, ground := Ground.data }, { on := 11, ground := Ground.data }], guard := none }) (v := ?_) rfl (by kernel_rfl) (by kernel_rfl) (by kernel_rfl) (fun _ _ _ h => h) (Or.inl ⟨by rfl, ?_⟩) hHeld ?_
        rotate_left 1
        · intro u hSu
          obtain ⟨q0, q1⟩ := row_cells (kept_row HL8.out.gb hSu.out (by simp))
          have q2 := HCL.out u K y hSu.out HI.out.2.2.1
          have q3 := HCL.out u 0 n1 hSu.out HL0.out
          rw [Nat.add_zero] at q3
          have q4 := HCN.out u hSu.out
          go_simp
          first | done | with_reducible rfl
        (try simp only [Act.put, List.setIfInBounds_toArray, List.set_cons_zero, List.set_cons_succ])
        refine wpAnyH_take (i := 13) (oi := { dst := some 70, op := Op.move (Operand.tmp 69), type := 4, pos := "law.go:130", after := #[{ on := 12, ground := Ground.data }, { on := 3, ground := Ground.chain }], guard := none }) (v := ?_) rfl (by kernel_rfl) (by kernel_rfl) (by kernel_rfl) (fun _ _ _ h => h) (Or.inl ⟨by rfl, ?_⟩) hHeld ?_
        rotate_left 1
        · intro u hSu
          obtain ⟨q0, q1⟩ := row_cells (kept_row HL8.out.gb hSu.out (by simp))
          have q2 := HCL.out u K y hSu.out HI.out.2.2.1
          have q3 := HCL.out u 0 n1 hSu.out HL0.out
          rw [Nat.add_zero] at q3
          have q4 := HCN.out u hSu.out
          go_simp
          first | done | with_reducible rfl
        (try simp only [Act.put, List.setIfInBounds_toArray, List.set_cons_zero, List.set_cons_succ])
        refine wpAnyH_take (i := 14) (oi := { dst := some 71, op := Op.load 28 (Operand.tmp 4), type := 28, pos := "law.go:130", after := #[{ on := 13, ground := Ground.guard }], guard := some (13, false) }) (v := ?_) rfl (by kernel_rfl) (by kernel_rfl) (by kernel_rfl) (fun _ _ _ h => h) (Or.inl ⟨by rfl, ?_⟩) hHeld ?_
        rotate_left 1
        · intro u hSu
          obtain ⟨q0, q1⟩ := row_cells (kept_row HL8.out.gb hSu.out (by simp))
          have q2 := HCL.out u K y hSu.out HI.out.2.2.1
          have q3 := HCL.out u 0 n1 hSu.out HL0.out
          rw [Nat.add_zero] at q3
          have q4 := HCN.out u hSu.out
          go_simp
          first | done | with_reducible rfl
        (try simp only [Act.put, List.setIfInBounds_toArray, List.set_cons_zero, List.set_cons_succ])
        refine wpAnyH_take (i := 15) (oi := { dst := some 72, op := Op.move (Operand.tmp 5), type := 3, pos := "law.go:130", after := #[{ on := 13, ground := Ground.guard }], guard := some (13, false) }) (v := ?_) rfl (by kernel_rfl) (by kernel_rfl) (by kernel_rfl) (fun _ _ _ h => h) (Or.inl ⟨by rfl, ?_⟩) hHeld ?_
        rotate_left 1
        · intro u hSu
          obtain ⟨q0, q1⟩ := row_cells (kept_row HL8.out.gb hSu.out (by simp))
          have q2 := HCL.out u K y hSu.out HI.out.2.2.1
          have q3 := HCL.out u 0 n1 hSu.out HL0.out
          rw [Nat.add_zero] at q3
          have q4 := HCN.out u hSu.out
          go_simp
          first | done | with_reducible rfl
        (try simp only [Act.put, List.setIfInBounds_toArray, List.set_cons_zero, List.set_cons_succ])
        refine wpAnyH_take (i := 16) (oi := { dst := some 73, op := Op.move (Operand.tmp 7), type := 22, pos := "law.go:130", after := #[{ on := 13, ground := Ground.guard }], guard := some (13, false) }) (v := ?_) rfl (by kernel_rfl) (by kernel_rfl) (by kernel_rfl) (fun _ _ _ h => h) (Or.inl ⟨by rfl, ?_⟩) hHeld ?_
        rotate_left 1
        · intro u hSu
          obtain ⟨q0, q1⟩ := row_cells (kept_row HL8.out.gb hSu.out (by simp))
          have q2 := HCL.out u K y hSu.out HI.out.2.2.1
          have q3 := HCL.out u 0 n1 hSu.out HL0.out
          rw [Nat.add_zero] at q3
          have q4 := HCN.out u hSu.out
          go_simp
          first | done | with_reducible rfl
        (try simp only [Act.put, List.setIfInBounds_toArray, List.set_cons_zero, List.set_cons_succ])
        refine wpAnyH_take (i := 18) (oi := { dst := some 75, op := Op.move (Operand.tmp 8), type := 3, pos := "law.go:130", after := #[{ on := 13, ground := Ground.guard }], guard := some (13, false) }) (v := ?_) rfl (by kernel_rfl) (by kernel_rfl) (by kernel_rfl) (fun _ _ _ h => h) (Or.inl ⟨by rfl, ?_⟩) hHeld ?_
        rotate_left 1
        · intro u hSu
          obtain ⟨q0, q1⟩ := row_cells (kept_row HL8.out.gb hSu.out (by simp))
          have q2 := HCL.out u K y hSu.out HI.out.2.2.1
          have q3 := HCL.out u 0 n1 hSu.out HL0.out
          rw [Nat.add_zero] at q3
          have q4 := HCN.out u hSu.out
          go_simp
          first | done | with_reducible rfl
        (try simp only [Act.put, List.setIfInBounds_toArray, List.set_cons_zero, List.set_cons_succ])
        refine wpAnyH_ready (rs := [17]) (by kernel_rfl) (by simp) ?_
        refine AllReadyH.cons (o := { dst := some 74, op := Op.call { callee := Callee.value (Operand.func 33), args := #[Operand.tmp 71, Operand.tmp 72, Operand.tmp 73], argTypes := #[28, 3, 22] }, type := 3, pos := "law.go:130", after := #[{ on := 14, ground := Ground.data }, { on := 15, ground := Ground.data }, { on := 16, ground := Ground.data }, { on := 13, ground := Ground.chain }, { on := 13, ground := Ground.guard }], guard := some (13, false) }) rfl (fun Kz hK => ?_) AllReadyH.nil
        go_simp
        go_at_call 33
        have h9 := slen_any ⟨R, L, pR, cR, pL, cL⟩ x l (some ⟨b6, o6, none⟩) c6 _ (fun _ => True) _ ((HL8.out.keep hHeld.out).t) (by rw [HI.out.2.1]; exact HRL.out.grown hHeld.out (fun _ _ => by simp)) HI.out.1.chn (by have := HI.out.2.1; omega)
        rw [HI.out.2.1, HI.out.2.2.2] at h9
        refine h9.mono ?_
        clear h9
        rintro e wa ⟨rfl, hgc⟩
        refine hK.out _ _ (Lib.hid (grown_trans hHeld.out hgc)) (fun hH2 => ?_)
        clear hK Kz hHeld
        have hHeld := hH2
        clear hH2
        (try simp only [Act.put, List.setIfInBounds_toArray, List.set_cons_zero, List.set_cons_succ])
        refine wpAnyH_take (i := 19) (oi := { dst := some 76, op := Op.binOp BinOp.neq 3 (Operand.tmp 74) (Operand.tmp 75) 3, type := 4, pos := "law.go:130", after := #[{ on := 17, ground := Ground.data }, { on := 18, ground := Ground.data }, { on := 13, ground := Ground.guard }], guard := some (13, false) }) (v := ?_) rfl (by kernel_rfl) (by kernel_rfl) (by kernel_rfl) (fun _ _ _ h => h) (Or.inl ⟨by rfl, ?_⟩) hHeld ?_
        rotate_left 1
        · intro u hSu
          obtain ⟨q0, q1⟩ := row_cells (kept_row HL8.out.gb hSu.out (by simp))
          have q2 := HCL.out u K y hSu.out HI.out.2.2.1
          have q3 := HCL.out u 0 n1 hSu.out HL0.out
          rw [Nat.add_zero] at q3
          have q4 := HCN.out u hSu.out
          go_simp
          first | done | with_reducible rfl
        (try simp only [Act.put, List.setIfInBounds_toArray, List.set_cons_zero, List.set_cons_succ])
        refine wpAnyH_take (i := 20) (oi := { dst := some 77, op := Op.pick (Operand.tmp 70) (Operand.const (Value.bool true)) (Operand.tmp 76), type := 4, pos := "law.go:130", after := #[{ on := 13, ground := Ground.data }, { on := 19, ground := Ground.data }], guard := none }) (v := ?_) rfl (by kernel_rfl) (by kernel_rfl) (by kernel_rfl) (fun _ _ _ h => h) (Or.inl ⟨by rfl, ?_⟩) hHeld ?_
        rotate_left 1
        · intro u hSu
          obtain ⟨q0, q1⟩ := row_cells (kept_row HL8.out.gb hSu.out (by simp))
          have q2 := HCL.out u K y hSu.out HI.out.2.2.1
          have q3 := HCL.out u 0 n1 hSu.out HL0.out
          rw [Nat.add_zero] at q3
          have q4 := HCN.out u hSu.out
          go_simp
          first | done | with_reducible rfl
        (try simp only [Act.put, List.setIfInBounds_toArray, List.set_cons_zero, List.set_cons_succ])
        refine wpAnyH_take (i := 21) (oi := { dst := some 78, op := Op.move (Operand.tmp 77), type := 4, pos := "law.go:130", after := #[{ on := 20, ground := Ground.data }, { on := 17, ground := Ground.chain }], guard := none }) (v := ?_) rfl (by kernel_rfl) (by kernel_rfl) (by kernel_rfl) (fun _ _ _ h => h) (Or.inl ⟨by rfl, ?_⟩) hHeld ?_
        rotate_left 1
        · intro u hSu
          obtain ⟨q0, q1⟩ := row_cells (kept_row HL8.out.gb hSu.out (by simp))
          have q2 := HCL.out u K y hSu.out HI.out.2.2.1
          have q3 := HCL.out u 0 n1 hSu.out HL0.out
          rw [Nat.add_zero] at q3
          have q4 := HCN.out u hSu.out
          go_simp
          first | done | with_reducible rfl
        (try simp only [Act.put, List.setIfInBounds_toArray, List.set_cons_zero, List.set_cons_succ])
        refine wpAnyH_take (i := 22) (oi := { dst := some 79, op := Op.move (Operand.tmp 10), type := 22, pos := "law.go:130", after := #[{ on := 21, ground := Ground.guard }], guard := some (21, false) }) (v := ?_) rfl (by kernel_rfl) (by kernel_rfl) (by kernel_rfl) (fun _ _ _ h => h) (Or.inl ⟨by rfl, ?_⟩) hHeld ?_
        rotate_left 1
        · intro u hSu
          obtain ⟨q0, q1⟩ := row_cells (kept_row HL8.out.gb hSu.out (by simp))
          have q2 := HCL.out u K y hSu.out HI.out.2.2.1
          have q3 := HCL.out u 0 n1 hSu.out HL0.out
          rw [Nat.add_zero] at q3
          have q4 := HCN.out u hSu.out
          go_simp
          first | done | with_reducible rfl
        (try simp only [Act.put, List.setIfInBounds_toArray, List.set_cons_zero, List.set_cons_succ])
        refine wpAnyH_take (i := 23) (oi := { dst := some 80, op := Op.call { callee := Callee.builtin Builtin.len, args := #[Operand.tmp 79], argTypes := #[22] }, type := 3, pos := "law.go:130", after := #[{ on := 22, ground := Ground.data }, { on := 21, ground := Ground.guard }], guard := some (21, false) }) (v := ?_) rfl (by kernel_rfl) (by kernel_rfl) (by kernel_rfl) (fun _ _ _ h => h) (Or.inl ⟨by rfl, ?_⟩) hHeld ?_
        rotate_left 1
        · intro u hSu
          obtain ⟨q0, q1⟩ := row_cells (kept_row HL8.out.gb hSu.out (by simp))
          have q2 := HCL.out u K y hSu.out HI.out.2.2.1
          have q3 := HCL.out u 0 n1 hSu.out HL0.out
          rw [Nat.add_zero] at q3
          have q4 := HCN.out u hSu.out
          go_simp
          first | done | with_reducible rfl
        (try simp only [Act.put, List.setIfInBounds_toArray, List.set_cons_zero, List.set_cons_succ])
        refine wpAnyH_take (i := 24) (oi := { dst := some 81, op := Op.binOp BinOp.eql 3 (Operand.tmp 80) (Operand.const (Value.int IntKind.i64 0)) 3, type := 4, pos := "law.go:130", after := #[{ on := 23, ground := Ground.data }, { on := 21, ground := Ground.guard }], guard := some (21, false) }) (v := (.bool false)) rfl (by kernel_rfl) (by kernel_rfl) (by kernel_rfl) (fun _ _ _ h => h) (Or.inl ⟨by rfl, ?_⟩) hHeld ?_
        · intro u hSu
          obtain ⟨q0, q1⟩ := row_cells (kept_row HL8.out.gb hSu.out (by simp))
          have q2 := HCL.out u K y hSu.out HI.out.2.2.1
          have q3 := HCL.out u 0 n1 hSu.out HL0.out
          rw [Nat.add_zero] at q3
          have q4 := HCN.out u hSu.out
          go_simp
          first | done | omega | (simp; done) | (simp; omega)
        (try simp only [Act.put, List.setIfInBounds_toArray, List.set_cons_zero, List.set_cons_succ])
        refine wpAnyH_take (i := 25) (oi := { dst := some 82, op := Op.pick (Operand.tmp 78) (Operand.const (Value.bool true)) (Operand.tmp 81), type := 4, pos := "law.go:130", after := #[{ on := 21, ground := Ground.data }, { on := 24, ground := Ground.data }], guard := none }) (v := ?_) rfl (by kernel_rfl) (by kernel_rfl) (by kernel_rfl) (fun _ _ _ h => h) (Or.inl ⟨by rfl, ?_⟩) hHeld ?_
        rotate_left 1
        · intro u hSu
          obtain ⟨q0, q1⟩ := row_cells (kept_row HL8.out.gb hSu.out (by simp))
          have q2 := HCL.out u K y hSu.out HI.out.2.2.1
          have q3 := HCL.out u 0 n1 hSu.out HL0.out
          rw [Nat.add_zero] at q3
          have q4 := HCN.out u hSu.out
          go_simp
          first | done | with_reducible rfl
        (try simp only [Act.put, List.setIfInBounds_toArray, List.set_cons_zero, List.set_cons_succ])
        refine wpAnyH_take (i := 26) (oi := { dst := some 83, op := Op.move (Operand.tmp 82), type := 4, pos := "law.go:130", after := #[{ on := 25, ground := Ground.data }, { on := 21, ground := Ground.chain }], guard := none }) (v := ?_) rfl (by kernel_rfl) (by kernel_rfl) (by kernel_rfl) (fun _ _ _ h => h) (Or.inl ⟨by rfl, ?_⟩) hHeld ?_
        rotate_left 1
        · intro u hSu
          obtain ⟨q0, q1⟩ := row_cells (kept_row HL8.out.gb hSu.out (by simp))
          have q2 := HCL.out u K y hSu.out HI.out.2.2.1
          have q3 := HCL.out u 0 n1 hSu.out HL0.out
          rw [Nat.add_zero] at q3
          have q4 := HCN.out u hSu.out
          go_simp
          first | done | with_reducible rfl
        (try simp only [Act.put, List.setIfInBounds_toArray, List.set_cons_zero, List.set_cons_succ])
        refine wpAnyH_take (i := 27) (oi := { dst := some 84, op := Op.move (Operand.tmp 7), type := 22, pos := "law.go:130", after := #[{ on := 26, ground := Ground.guard }], guard := some (26, false) }) (v := ?_) rfl (by kernel_rfl) (by kernel_rfl) (by kernel_rfl) (fun _ _ _ h => h) (Or.inl ⟨by rfl, ?_⟩) hHeld ?_
        rotate_left 1
        · intro u hSu
          obtain ⟨q0, q1⟩ := row_cells (kept_row HL8.out.gb hSu.out (by simp))
          have q2 := HCL.out u K y hSu.out HI.out.2.2.1
          have q3 := HCL.out u 0 n1 hSu.out HL0.out
          rw [Nat.add_zero] at q3
          have q4 := HCN.out u hSu.out
          go_simp
          first | done | with_reducible rfl
        (try simp only [Act.put, List.setIfInBounds_toArray, List.set_cons_zero, List.set_cons_succ])
        refine wpAnyH_take (i := 28) (oi := { dst := some 85, op := Op.indexAddr 22 (Operand.tmp 84) (Operand.const (Value.int IntKind.i64 0)), type := 0, pos := "law.go:130", after := #[{ on := 27, ground := Ground.data }, { on := 26, ground := Ground.guard }], guard := some (26, false) }) (v := ?_) rfl (by kernel_rfl) (by kernel_rfl) (by kernel_rfl) (fun _ _ _ h => h) (Or.inl ⟨by rfl, ?_⟩) hHeld ?_
        rotate_left 1
        · intro u hSu
          obtain ⟨q0, q1⟩ := row_cells (kept_row HL8.out.gb hSu.out (by simp))
          have q2 := HCL.out u K y hSu.out HI.out.2.2.1
          have q3 := HCL.out u 0 n1 hSu.out HL0.out
          rw [Nat.add_zero] at q3
          have q4 := HCN.out u hSu.out
          go_simp
          first | done | with_reducible rfl
        (try simp only [Act.put, List.setIfInBounds_toArray, List.set_cons_zero, List.set_cons_succ])
        refine wpAnyH_take (i := 29) (oi := { dst := some 86, op := Op.load 3 (Operand.tmp 85), type := 3, pos := "law.go:130", after := #[{ on := 28, ground := Ground.data }, { on := 26, ground := Ground.guard }], guard := some (26, false) }) (v := ?_) rfl (by kernel_rfl) (by kernel_rfl) (by kernel_rfl) (fun _ _ _ h => h) (Or.inl ⟨by rfl, ?_⟩) hHeld ?_
        rotate_left 1
        · intro u hSu
          obtain ⟨q0, q1⟩ := row_cells (kept_row HL8.out.gb hSu.out (by simp))
          have q2 := HCL.out u K y hSu.out HI.out.2.2.1
          have q3 := HCL.out u 0 n1 hSu.out HL0.out
          rw [Nat.add_zero] at q3
          have q4 := HCN.out u hSu.out
          go_simp
          first | done | with_reducible rfl
        (try simp only [Act.put, List.setIfInBounds_toArray, List.set_cons_zero, List.set_cons_succ])
        refine wpAnyH_take (i := 30) (oi := { dst := some 87, op := Op.move (Operand.tmp 10), type := 22, pos := "law.go:130", after := #[{ on := 26, ground := Ground.guard }], guard := some (26, false) }) (v := ?_) rfl (by kernel_rfl) (by kernel_rfl) (by kernel_rfl) (fun _ _ _ h => h) (Or.inl ⟨by rfl, ?_⟩) hHeld ?_
        rotate_left 1
        · intro u hSu
          obtain ⟨q0, q1⟩ := row_cells (kept_row HL8.out.gb hSu.out (by simp))
          have q2 := HCL.out u K y hSu.out HI.out.2.2.1
          have q3 := HCL.out u 0 n1 hSu.out HL0.out
          rw [Nat.add_zero] at q3
          have q4 := HCN.out u hSu.out
          go_simp
          first | done | with_reducible rfl
        (try simp only [Act.put, List.setIfInBounds_toArray, List.set_cons_zero, List.set_cons_succ])
        refine wpAnyH_take (i := 31) (oi := { dst := some 88, op := Op.indexAddr 22 (Operand.tmp 87) (Operand.const (Value.int IntKind.i64 0)), type := 0, pos := "law.go:130", after := #[{ on := 30, ground := Ground.data }, { on := 26, ground := Ground.guard }], guard := some (26, false) }) (v := ?_) rfl (by kernel_rfl) (by kernel_rfl) (by kernel_rfl) (fun _ _ _ h => h) (Or.inl ⟨by rfl, ?_⟩) hHeld ?_
        rotate_left 1
        · intro u hSu
          obtain ⟨q0, q1⟩ := row_cells (kept_row HL8.out.gb hSu.out (by simp))
          have q2 := HCL.out u K y hSu.out HI.out.2.2.1
          have q3 := HCL.out u 0 n1 hSu.out HL0.out
          rw [Nat.add_zero] at q3
          have q4 := HCN.out u hSu.out
          go_simp
          first | done | with_reducible rfl
        (try simp only [Act.put, List.setIfInBounds_toArray, List.set_cons_zero, List.set_cons_succ])
        refine wpAnyH_take (i := 32) (oi := { dst := some 89, op := Op.load 3 (Operand.tmp 88), type := 3, pos := "law.go:130", after := #[{ on := 31, ground := Ground.data }, { on := 26, ground := Ground.guard }], guard := some (26, false) }) (v := ?_) rfl (by kernel_rfl) (by kernel_rfl) (by kernel_rfl) (fun _ _ _ h => h) (Or.inl ⟨by rfl, ?_⟩) hHeld ?_
        rotate_left 1
        · intro u hSu
          obtain ⟨q0, q1⟩ := row_cells (kept_row HL8.out.gb hSu.out (by simp))
          have q2 := HCL.out u K y hSu.out HI.out.2.2.1
          have q3 := HCL.out u 0 n1 hSu.out HL0.out
          rw [Nat.add_zero] at q3
          have q4 := HCN.out u hSu.out
          go_simp
          first | done | with_reducible rfl
        (try simp only [Act.put, List.setIfInBounds_toArray, List.set_cons_zero, List.set_cons_succ])
        refine wpAnyH_take (i := 33) (oi := { dst := some 90, op := Op.binOp BinOp.neq 3 (Operand.tmp 86) (Operand.tmp 89) 3, type := 4, pos := "law.go:130", after := #[{ on := 29, ground := Ground.data }, { on := 32, ground := Ground.data }, { on := 26, ground := Ground.guard }], guard := some (26, false) }) (v := ?_) rfl (by kernel_rfl) (by kernel_rfl) (by kernel_rfl) (fun _ _ _ h => h) (Or.inl ⟨by rfl, ?_⟩) hHeld ?_
        rotate_left 1
        · intro u hSu
          obtain ⟨q0, q1⟩ := row_cells (kept_row HL8.out.gb hSu.out (by simp))
          have q2 := HCL.out u K y hSu.out HI.out.2.2.1
          have q3 := HCL.out u 0 n1 hSu.out HL0.out
          rw [Nat.add_zero] at q3
          have q4 := HCN.out u hSu.out
          go_simp
          first | done | with_reducible rfl
        (try simp only [Act.put, List.setIfInBounds_toArray, List.set_cons_zero, List.set_cons_succ])
        refine wpAnyH_take (i := 34) (oi := { dst := some 91, op := Op.pick (Operand.tmp 83) (Operand.const (Value.bool true)) (Operand.tmp 90), type := 4, pos := "law.go:130", after := #[{ on := 26, ground := Ground.data }, { on := 33, ground := Ground.data }], guard := none }) (v := ?_) rfl (by kernel_rfl) (by kernel_rfl) (by kernel_rfl) (fun _ _ _ h => h) (Or.inl ⟨by rfl, ?_⟩) hHeld ?_
        rotate_left 1
        · intro u hSu
          obtain ⟨q0, q1⟩ := row_cells (kept_row HL8.out.gb hSu.out (by simp))
          have q2 := HCL.out u K y hSu.out HI.out.2.2.1
          have q3 := HCL.out u 0 n1 hSu.out HL0.out
          rw [Nat.add_zero] at q3
          have q4 := HCN.out u hSu.out
          go_simp
          first | done | with_reducible rfl
        (try simp only [Act.put, List.setIfInBounds_toArray, List.set_cons_zero, List.set_cons_succ])
        refine wpAnyH_done (by kernel_rfl) ?_ _
        have HLa := Lib.hid (HL8.out.keep hHeld.out)
        have HGa := Lib.hid hHeld.out
        obtain ⟨wb, hwb⟩ : ∃ wb, wb = wa := ⟨_, rfl⟩
        rw [← hwb] at HLa HGa ⊢
        clear hHeld hwb HL8 HCN
        go_wp2_with fail
        go_loopw [11] (fun ii wr => ∃ i : Nat, i ≤ K ∧ ii = .int .i64 (i : Int) ∧ Hid (LW w G ⟨R, L, pR, cR, pL, cL⟩ wr) ∧ Hid (w8.grownBy wr none)) (fun ii _ => K - (RowKit.intOf ii).toNat)
        case atStart => exact ⟨0, Nat.zero_le _, rfl, HLa, HGa⟩
        case round =>
        obtain ⟨i, hi, rfl, HLi, HGi⟩ := hrel
        clear HLa HGa
        by_cases hlt : i < K
        · obtain ⟨m, hm⟩ : ∃ m, l[i]? = some m := ⟨_, List.getElem?_eq_getElem (by have := HI.out.2.1; omega)⟩
          obtain ⟨hsuf, hmb⟩ := HI.out.1.suf i m hm
          have HM := Lib.hid (And.intro hm hsuf)
          have hi1 : (i : Int) < (K : Int) := by omega
          have hi2 : (i : Int) ≤ 24000 := by omega
          have hi3 : (i : Int) < (K : Int) + 1 := by omega
          have hi4 : (i : Int) + 1 ≤ (K : Int) + 1 := by omega
          have hi5 : (0 : Int) ≤ (i : Int) + 1 := by omega
          have hi6 : (K : Int) + 1 ≤ (c6 : Int) := by omega
          obtain ⟨S, hS⟩ : ∃ S, l.drop (i + 1) = S := ⟨_, rfl⟩
          have hSl : S.length = K - i := by rw [← hS, List.length_drop, HI.out.2.1]; omega
          have HS := Lib.hid (And.intro hS hSl)
          have hcap : ¬ c6 - (i + 1) = 0 := by omega
          have HSR : Hid (∀ (v : World), w8.grownBy v none → Rd v (fun _ => True) (.slice (some ⟨b6, o6 + (i + 1), none⟩) S.length (c6 - (i + 1))) (S.map tv)) := Lib.hid (fun v g => ⟨some ⟨b6, o6 + (i + 1), none⟩, c6 - (i + 1), by rw [List.length_map], fun _ => ⟨b6, o6 + (i + 1), rfl, trivial, fun j z hj => by
            rw [List.getElem?_map] at hj
            cases hz : S[j]? with
            | none => rw [hz] at hj; cases hj
            | some z' =>
              rw [hz] at hj
              obtain rfl := Option.some.inj hj
              have h3 : l[i + 1 + j]? = some z' := by rw [← hS, List.getElem?_drop] at hz; exact hz
              have h4 := HCL.out v (i + 1 + j) z' g h3
              rw [← Nat.add_assoc] at h4
              exact h4⟩⟩)
          clear hm hsuf hS hSl
          go_upto_region 14 with fail
          refine wp_region_held_drew (S := fun w' => Hid (wr.grownBy w' none)) (by kernel_rfl) (Lib.hid (grown_drew (grown_refl _ _))) (fun hHeld => ?_)
          refine wpAnyH_take (i := 0) (oi := { dst := some 99, op := Op.load 28 (Operand.tmp 4), type := 28, pos := "law.go:134", after := #[], guard := none }) (v := ?_) rfl (by kernel_rfl) (by kernel_rfl) (by kernel_rfl) (fun _ _ _ h => h) (Or.inl ⟨by rfl, ?_⟩) hHeld ?_
          rotate_left 1
          · intro u hSu
            obtain ⟨q0, q1⟩ := row_cells (kept_row HLi.out.gb hSu.out (by simp))
            have q2 := HCL.out u i m (grown_trans HGi.out hSu.out) HM.out.1
            go_simp
            first | done | with_reducible rfl
          (try simp only [Act.put, List.setIfInBounds_toArray, List.set_cons_zero, List.set_cons_succ])
          refine wpAnyH_take (i := 1) (oi := { dst := some 100, op := Op.move (Operand.tmp 7), type := 22, pos := "law.go:134", after := #[], guard := none }) (v := ?_) rfl (by kernel_rfl) (by kernel_rfl) (by kernel_rfl) (fun _ _ _ h => h) (Or.inl ⟨by rfl, ?_⟩) hHeld ?_
          rotate_left 1
          · intro u hSu
            obtain ⟨q0, q1⟩ := row_cells (kept_row HLi.out.gb hSu.out (by simp))
            have q2 := HCL.out u i m (grown_trans HGi.out hSu.out) HM.out.1
            go_simp
            first | done | with_reducible rfl
          (try simp only [Act.put, List.setIfInBounds_toArray, List.set_cons_zero, List.set_cons_succ])
          refine wpAnyH_take (i := 2) (oi := { dst := some 101, op := Op.move (Operand.tmp 11), type := 3, pos := "law.go:134", after := #[], guard := none }) (v := ?_) rfl (by kernel_rfl) (by kernel_rfl) (by kernel_rfl) (fun _ _ _ h => h) (Or.inl ⟨by rfl, ?_⟩) hHeld ?_
          rotate_left 1
          · intro u hSu
            obtain ⟨q0, q1⟩ := row_cells (kept_row HLi.out.gb hSu.out (by simp))
            have q2 := HCL.out u i m (grown_trans HGi.out hSu.out) HM.out.1
            go_simp
            first | done | with_reducible rfl
          (try simp only [Act.put, List.setIfInBounds_toArray, List.set_cons_zero, List.set_cons_succ])
          refine wpAnyH_take (i := 3) (oi := { dst := some 102, op := Op.indexAddr 22 (Operand.tmp 100) (Operand.tmp 101), type := 0, pos := "law.go:134", after := #[{ on := 1, ground := Ground.data }, { on := 2, ground := Ground.data }], guard := none }) (v := ?_) rfl (by kernel_rfl) (by kernel_rfl) (by kernel_rfl) (fun _ _ _ h => h) (Or.inl ⟨by rfl, ?_⟩) hHeld ?_
          rotate_left 1
          · intro u hSu
            obtain ⟨q0, q1⟩ := row_cells (kept_row HLi.out.gb hSu.out (by simp))
            have q2 := HCL.out u i m (grown_trans HGi.out hSu.out) HM.out.1
            go_simp
            first | done | with_reducible rfl
          (try simp only [Act.put, List.setIfInBounds_toArray, List.set_cons_zero, List.set_cons_succ])
          refine wpAnyH_take (i := 4) (oi := { dst := some 103, op := Op.load 3 (Operand.tmp 102), type := 3, pos := "law.go:134", after := #[{ on := 3, ground := Ground.data }], guard := none }) (v := ?_) rfl (by kernel_rfl) (by kernel_rfl) (by kernel_rfl) (fun _ _ _ h => h) (Or.inl ⟨by rfl, ?_⟩) hHeld ?_
          rotate_left 1
          · intro u hSu
            obtain ⟨q0, q1⟩ := row_cells (kept_row HLi.out.gb hSu.out (by simp))
            have q2 := HCL.out u i m (grown_trans HGi.out hSu.out) HM.out.1
            go_simp
            first | done | with_reducible rfl
          (try simp only [Act.put, List.setIfInBounds_toArray, List.set_cons_zero, List.set_cons_succ])
          refine wpAnyH_take (i := 5) (oi := { dst := some 104, op := Op.move (Operand.tmp 6), type := 3, pos := "law.go:134", after := #[], guard := none }) (v := ?_) rfl (by kernel_rfl) (by kernel_rfl) (by kernel_rfl) (fun _ _ _ h => h) (Or.inl ⟨by rfl, ?_⟩) hHeld ?_
          rotate_left 1
          · intro u hSu
            obtain ⟨q0, q1⟩ := row_cells (kept_row HLi.out.gb hSu.out (by simp))
            have q2 := HCL.out u i m (grown_trans HGi.out hSu.out) HM.out.1
            go_simp
            first | done | with_reducible rfl
          (try simp only [Act.put, List.setIfInBounds_toArray, List.set_cons_zero, List.set_cons_succ])
          refine wpAnyH_take (i := 7) (oi := { dst := some 106, op := Op.move (Operand.tmp 7), type := 22, pos := "law.go:134", after := #[], guard := none }) (v := ?_) rfl (by kernel_rfl) (by kernel_rfl) (by kernel_rfl) (fun _ _ _ h => h) (Or.inl ⟨by rfl, ?_⟩) hHeld ?_
          rotate_left 1
          · intro u hSu
            obtain ⟨q0, q1⟩ := row_cells (kept_row HLi.out.gb hSu.out (by simp))
            have q2 := HCL.out u i m (grown_trans HGi.out hSu.out) HM.out.1
            go_simp
            first | done | with_reducible rfl
          (try simp only [Act.put, List.setIfInBounds_toArray, List.set_cons_zero, List.set_cons_succ])
          refine wpAnyH_take (i := 8) (oi := { dst := some 107, op := Op.move (Operand.tmp 11), type := 3, pos := "law.go:134", after := #[], guard := none }) (v := ?_) rfl (by kernel_rfl) (by kernel_rfl) (by kernel_rfl) (fun _ _ _ h => h) (Or.inl ⟨by rfl, ?_⟩) hHeld ?_
          rotate_left 1
          · intro u hSu
            obtain ⟨q0, q1⟩ := row_cells (kept_row HLi.out.gb hSu.out (by simp))
            have q2 := HCL.out u i m (grown_trans HGi.out hSu.out) HM.out.1
            go_simp
            first | done | with_reducible rfl
          (try simp only [Act.put, List.setIfInBounds_toArray, List.set_cons_zero, List.set_cons_succ])
          refine wpAnyH_take (i := 9) (oi := { dst := some 108, op := Op.binOp BinOp.add 3 (Operand.tmp 107) (Operand.const (Value.int IntKind.i64 1)) 3, type := 3, pos := "law.go:134", after := #[{ on := 8, ground := Ground.data }], guard := none }) (v := (.int .i64 ((i : Int) + 1))) rfl (by kernel_rfl) (by kernel_rfl) (by kernel_rfl) (fun _ _ _ h => h) (Or.inl ⟨by rfl, ?_⟩) hHeld ?_
          · intro u hSu
            obtain ⟨q0, q1⟩ := row_cells (kept_row HLi.out.gb hSu.out (by simp))
            have q2 := HCL.out u i m (grown_trans HGi.out hSu.out) HM.out.1
            go_simp
            first | done | exact Go.IntWalk.i64_in _ (by omega) | omega
          (try simp only [Act.put, List.setIfInBounds_toArray, List.set_cons_zero, List.set_cons_succ])
          refine wpAnyH_take (i := 10) (oi := { dst := some 109, op := Op.slice 22 (Operand.tmp 106) (some (Operand.tmp 108)) none none, type := 22, pos := "law.go:134", after := #[{ on := 7, ground := Ground.data }, { on := 9, ground := Ground.data }], guard := none }) (v := (Value.slice (some ⟨b6, o6 + (i + 1), none⟩) S.length (c6 - (i + 1)))) rfl (by kernel_rfl) (by kernel_rfl) (by kernel_rfl) (fun _ _ _ h => h) (Or.inl ⟨by rfl, ?_⟩) hHeld ?_
          · intro u hSu
            obtain ⟨q0, q1⟩ := row_cells (kept_row HLi.out.gb hSu.out (by simp))
            have q2 := HCL.out u i m (grown_trans HGi.out hSu.out) HM.out.1
            go_simp
            exact ⟨by omega, HS.out.2.symm⟩
          (try simp only [Act.put, List.setIfInBounds_toArray, List.set_cons_zero, List.set_cons_succ])
          refine wpAnyH_ready (rs := [6]) (by kernel_rfl) (by simp) ?_
          refine AllReadyH.cons (o := { dst := some 105, op := Op.call { callee := Callee.value (Operand.func 17), args := #[Operand.tmp 99, Operand.tmp 103, Operand.tmp 104], argTypes := #[28, 3, 3] }, type := 22, pos := "law.go:134", after := #[{ on := 0, ground := Ground.data }, { on := 4, ground := Ground.data }, { on := 5, ground := Ground.data }], guard := none }) rfl (fun Kz hK => ?_) AllReadyH.nil
          go_simp
          go_at_call 17
          refine (troute_any ⟨R, L, pR, cR, pL, cL⟩ m y _ _ ((HLi.out.keep hHeld.out).t) hR hL HVT.out.pl (by unfold I64; omega)).mono ?_
          rintro e wa ⟨pa, ca, rfl, hra, hca, hna, hga⟩
          (try simp only at hra hca ⊢)
          rw [HM.out.2, HS.out.1] at hra hca ⊢
          have HRA : Hid (Rd wa (fun _ => True) (.slice pa S.length ca) (S.map tv)) := Lib.hid (hra.mono (fun _ _ => trivial))
          clear hra hna
          refine hK.out _ _ (Lib.hid (grown_trans hHeld.out hga)) (fun hH2 => ?_)
          clear hK Kz hHeld
          have hHeld := hH2
          clear hH2
          (try simp only [Act.put, List.setIfInBounds_toArray, List.set_cons_zero, List.set_cons_succ])
          refine wpAnyH_ready (rs := [11]) (by kernel_rfl) (by simp) ?_
          refine AllReadyH.cons (o := { dst := some 110, op := Op.call { callee := Callee.value (Operand.func 14), args := #[Operand.tmp 105, Operand.tmp 109], argTypes := #[22, 22] }, type := 4, pos := "law.go:134", after := #[{ on := 6, ground := Ground.data }, { on := 10, ground := Ground.data }, { on := 6, ground := Ground.chain }], guard := none }) rfl (fun Kz hK => ?_) AllReadyH.nil
          go_simp
          go_at_call 14
          refine (rints_any S pa (some ⟨b6, o6 + (i + 1), none⟩) ca (c6 - (i + 1)) _ _ _ HRA.out (HSR.out _ (grown_trans HGi.out hHeld.out)) (by have := HS.out.2; omega)).mono ?_
          rintro e wz ⟨rfl, hgz⟩
          refine hK.out _ _ (Lib.hid (grown_trans hHeld.out hgz)) (fun hH2 => ?_)
          clear hK Kz hHeld
          have hHeld := hH2
          clear hH2
          (try simp only [Act.put, List.setIfInBounds_toArray, List.set_cons_zero, List.set_cons_succ])
          refine wpAnyH_take (i := 12) (oi := { dst := some 111, op := Op.unOp UnOp.not 4 (Operand.tmp 110), type := 4, pos := "law.go:134", after := #[{ on := 11, ground := Ground.data }], guard := none }) (v := ?_) rfl (by kernel_rfl) (by kernel_rfl) (by kernel_rfl) (fun _ _ _ h => h) (Or.inl ⟨by rfl, ?_⟩) hHeld ?_
          rotate_left 1
          · intro u hSu
            obtain ⟨q0, q1⟩ := row_cells (kept_row HLi.out.gb hSu.out (by simp))
            have q2 := HCL.out u i m (grown_trans HGi.out hSu.out) HM.out.1
            go_simp
            first | done | with_reducible rfl
          (try simp only [Act.put, List.setIfInBounds_toArray, List.set_cons_zero, List.set_cons_succ])
          refine wpAnyH_done (by kernel_rfl) ?_ _
          have HLa := Lib.hid (HLi.out.keep hHeld.out)
          have HGa := Lib.hid (grown_trans HGi.out hHeld.out)
          clear hHeld HLi HGi
          go_wp2_with fail
          exact ⟨⟨i + 1, by omega, congrArg _ (by omega), HLa, HGa⟩, by simp only [RowKit.intOf]; omega⟩
        · obtain rfl : i = K := by omega
          go_wp2_with fail
          refine (sawake_any _).mono ?_
          rintro e w9 ⟨rfl, hg9⟩
          have HE := Lib.hid (grown_trans HLi.out.gr hg9)
          clear hg9
          go_wp2_with fail
          go_ret
          exact ⟨rfl, HE.out⟩
end Go.Proofs.Ytlefjdglcdopeaa

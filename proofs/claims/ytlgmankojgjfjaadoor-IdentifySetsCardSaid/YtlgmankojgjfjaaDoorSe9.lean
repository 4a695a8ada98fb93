/- Parts of the proof, packed: IdSetR. -/
import Derived.Test.YtlgmankojgjfjaaDoorSe6
import Derived.Test.YtlgmankojgjfjaaDoorSe8
import Derived.Deep.RegionHeld3
/- The reference's Sets. -/
namespace Go.Proofs.YtlgmankojgjfjaaDoor
open Go.RowKit Bs
section
variable {W w w1 : World} {sub n : Int} {E : List Ed} {p px : Option Addr} {c cx : Nat} {X : List Int} {v v' : Value} {M N : List Sb}
set_option maxRecDepth 100000 in
theorem SG.xAt {b off k : Nat} {x : Int} (h : SG W sub n E p c X (some ⟨b, off, none⟩) cx v M w) (hx : X[k]? = some x) : w.cell? ⟨b, off + k, none⟩ = some (.int .i64 x) := by
  obtain ⟨-, b1, o1, e, -, hc⟩ := tv_at h.rx hx
  cases e
  exact hc k x hx
set_option maxRecDepth 100000 in
theorem SG.boxE (_h : SG W sub n E p c X px cx v M w) : ∀ g, g = w.heap.size → (w.alloc (.cells #[.int .i64 0, .int .i64 0] 39)).heap[g]? = some (.cells #[.int .i64 0, .int .i64 0] 39 (0, 0)) := by
  rintro g rfl
  exact heap_alloc_new w _
set_option maxRecDepth 100000 in
theorem SG.box0 {g : Nat} (h : SG W sub n E p c X px cx (.slice none 0 0) [] w) (hg : w.grownBy w1 (some g)) (hb : W.heap.size < g) : SG W sub n E p c X px cx (.slice none 0 0) [] w1 := by
  have hn : ∀ b, b ≤ W.heap.size → some b ≠ some g := fun b hb e => by have := Option.some.inj e; omega
  exact ⟨kept_row h.bx hg (hn _ (Nat.le_refl _)), h.rd.grown hg (fun b hb => hn _ (Nat.le_of_lt hb)), h.rx.grown hg (fun b hb => hn _ (Nat.le_of_lt hb)), World.ownsRow_nil _ _ _ _, grown_new h.gr hg (by omega), Nat.lt_of_lt_of_le h.lo hg.size⟩
end
set_option maxRecDepth 100000 in
theorem box2R {w : World} {g : Nat} {x y : Value} {t : TypeId} (h : w.heap[g]? = some (.cells #[x, y] t (0, 0))) : (w.cell? ⟨g, 0, none⟩ = some x ∧ w.cell? ⟨g, 1, none⟩ = some y) ∧ w.frozen? ⟨g, 0, none⟩ = false ∧ w.frozen? ⟨g, 1, none⟩ = false :=
  ⟨⟨cell_of_row _ _ _ _ _ _ h, cell_of_row _ _ _ _ _ _ h⟩, frozen_of_row _ _ 0 _ _ h, frozen_of_row _ _ 1 _ _ h⟩
set_option maxRecDepth 100000 in
set_option maxHeartbeats 25600000 in
theorem irsets_any (sub n : Int) (E : List Ed) (p : Option Addr) (c : Nat) (X : List Int) (px : Option Addr) (cx : Nat) (w : World) (hR : RdF w (· < w.heap.size) (.slice p E.length c) E.length (E.flatMap edC)) (hm : E.length ≤ 9223372036854775807) (hX : Rd w (· < w.heap.size) (.slice px X.length cx) (X.map tv)) (hxm : X.length ≤ 1000000) :
    Calls Tryd.prog 12 #[.agg #[.int .i64 sub, .int .i64 n, .slice p E.length c], .slice px X.length cx] w fun e w' => SePost sub n E X w e w' := by
  obtain ⟨ie, hie, he0, he1, he2⟩ := info_parts info_sb
  obtain ⟨k1, k2⟩ := tone_box w #[.int .i64 sub, .int .i64 n, .slice p E.length c] 30
  have H0 : Hid (SG w sub n E p c X px cx (.slice none 0 0) [] _) := Lib.hid ⟨k1, hR.keep k2, hX.keep k2, World.ownsRow_nil _ _ _ _, k2, by simp⟩
  clear k1 k2 hR hX
  go_enter Tryd.func12, Tryd.ntmps12
  go_upto_region 1 with fail
  generalize w.alloc _ = w1 at *
  obtain ⟨⟨d0, d1, d2⟩, -⟩ := row3i H0.out.bx
  go_wp2_with fail
  refine (irvplan_any sub n E p c _ w1 H0.out.rd hm).mono ?_
  rintro e w2 ⟨rfl, hg⟩
  have H1 := Lib.hid (H0.out.keep hg)
  clear hg H0 d0 d1 d2
  cases hv : vPl sub n E
  case false =>
    have HP : Hid (seX sub n E X = 1) := Lib.hid (by unfold seX; rw [if_pos hv])
    clear hv
    go_wp2_with fail
    go_ret2
    exact se_no HP.out (by decide) H1.out.gr
  have HV := Lib.hid hv
  clear hv
  go_wp2_with fail
  go_loopw [6] (fun x wr => ∃ k : Nat, 1 ≤ k ∧ (k ≤ X.length ∨ k = 1) ∧ x = .int .i64 (k : Int) ∧ Hid (∀ i x y, i + 1 < k → X[i]? = some x → X[i + 1]? = some y → ltZ x y = true) ∧ Hid (SG w sub n E p c X px cx (.slice none 0 0) [] wr)) (fun x _ => X.length - (RowKit.intOf x).toNat)
  case atStart => exact ⟨1, by omega, Or.inr rfl, rfl, Lib.hid (fun i x y h => by omega), H1⟩
  case round =>
  obtain ⟨k, hk1, hk, rfl, HN, S1⟩ := hrel
  clear H1
  obtain ⟨w3, hw3⟩ : ∃ w3, w3 = wr := ⟨_, rfl⟩
  rw [← hw3] at S1 ⊢
  clear hw3
  by_cases hlt : k < X.length
  case pos =>
    obtain ⟨j, rfl⟩ : ∃ j, k = j + 1 := ⟨k - 1, by omega⟩
    obtain ⟨x, hx⟩ : ∃ x, X[j]? = some x := ⟨_, List.getElem?_eq_getElem (by omega)⟩
    obtain ⟨y, hy⟩ : ∃ y, X[j + 1]? = some y := ⟨_, List.getElem?_eq_getElem hlt⟩
    obtain ⟨-, b, off, rfl, hq, hc⟩ := tv_at S1.out.rx hx
    have a0 := hc j x hx
    have b0 := hc (j + 1) y hy
    have HXY := Lib.hid (And.intro hx hy)
    have ew1 : ((j : Int) + 1 - 1) = (j : Int) := by omega
    have ew2 : IntKind.i64.wrap ((j : Int) + 1 - 1) = (j : Int) := by rw [ew1, IntWalk.i64_in _ (by omega)]
    have ew3 : IntKind.i64.wrap (j : Int) = (j : Int) := IntWalk.i64_in _ (by omega)
    have j0 : (0 : Int) ≤ (j : Int) := by omega
    have j1 : (0 : Int) ≤ (j : Int) + 1 := by omega
    have j2 : (j : Int) < (X.length : Int) := by omega
    have j3 : (j : Int) + 1 < (X.length : Int) := by omega
    have j4 : ((j : Int) + 1).toNat = j + 1 := by omega
    clear hc hx hy
    have hcast : ((j + 1 : Nat) : Int) = (j : Int) + 1 := by omega
    rw [hcast]
    have S2 := Lib.hid (S1.out.keep (grown_drew (grown_refl _ none)))
    by_cases hge : y ≤ x
    · have hge' : (y ≤ x) := hge
      have HPX : Hid (seX sub n E X = 25) := Lib.hid (by unfold seX; rw [if_neg (by rw [HV.out]; decide), if_pos (ascZ_hit HXY.out.1 HXY.out.2 (decide_eq_false (by omega)))])
      go_upto_region 6 with fail
      go_region
      go_wp2_with fail
      go_ret2
      exact se_no HPX.out (by decide) S2.out.gr
    · have HLT : Hid (ltZ x y = true) := Lib.hid (decide_eq_true (by omega))
      go_upto_region 6 with fail
      go_region
      clear S1 a0 b0
      go_wp2_with fail
      refine ⟨⟨j + 1 + 1, by omega, Or.inl (by omega), congrArg _ (by omega), Lib.hid fun i x2 y2 hi hx2 hy2 => ?_, S2⟩, by simp only [RowKit.intOf]; omega⟩
      by_cases hij : i = j
      · subst hij
        have e1 := HXY.out.1.symm.trans hx2
        have e2 := HXY.out.2.symm.trans hy2
        injection e1 with e1
        injection e2 with e2
        subst e1
        subst e2
        exact HLT.out
      · exact HN.out i x2 y2 (by omega) hx2 hy2
  case neg =>
  have h1 : ¬ (k : Int) < (X.length : Int) := by omega
  have HA : Hid (ascB ltZ X = true) := Lib.hid (ascZ_end fun i x y hi hx hy => HN.out i x y (by omega) hx hy)
  clear HN
  go_wp2_with fail
  go_loopw [7] (fun x wr => ∃ k : Nat, k ≤ X.length ∧ x = .int .i64 (k : Int) ∧ Hid ((X.take k).any (ukE E) = false) ∧ Hid (SG w sub n E p c X px cx (.slice none 0 0) [] wr)) (fun x _ => X.length - (RowKit.intOf x).toNat)
  case atStart => exact ⟨0, Nat.zero_le _, rfl, Lib.hid rfl, S1⟩
  case round =>
  clear hk1 hk hlt h1 S1
  obtain ⟨k, hk, rfl, HN, S1⟩ := hrel
  obtain ⟨w3, hw3⟩ : ∃ w3, w3 = wr := ⟨_, rfl⟩
  rw [← hw3] at S1 ⊢
  clear hw3
  by_cases hlt : k < X.length
  case pos =>
    have hlt' : (k : Int) < (X.length : Int) := by omega
    have k0 : (0 : Int) ≤ (k : Int) := by omega
    obtain ⟨x, hx⟩ : ∃ x, X[k]? = some x := ⟨_, List.getElem?_eq_getElem hlt⟩
    obtain ⟨-, b, off, rfl, hq, hc⟩ := tv_at S1.out.rx hx
    have HX := Lib.hid hx
    clear hx hc
    have HKd := Lib.hid (S1.out.keep (grown_drew (grown_refl _ none)))
    go_upto_region 11 with fail
    clear S1
    refine wp_region_held_drew (S := fun w' => Hid (SG w sub n E p c X (some ⟨b, off, none⟩) cx (.slice none 0 0) [] w')) (by kernel_rfl) (HKd) (fun hHeld => ?_)
    refine wpAnyH_take (i := 0) (oi := { dst := some 41, op := Op.load 30 (Operand.tmp 2), type := 30, pos := "ref.go:195", after := #[], guard := none }) (v := ?_) rfl (by kernel_rfl) (by kernel_rfl) (by kernel_rfl) (fun _ _ _ h => h) (Or.inl ⟨by rfl, ?_⟩) hHeld ?_
    rotate_left 1
    · intro u hSu
      obtain ⟨⟨d0, d1, d2⟩, -⟩ := row3i hSu.out.bx
      have a0 := hSu.out.xAt HX.out
      go_simp
      first | done | with_reducible rfl
    (try simp only [Act.put, List.setIfInBounds_toArray, List.set_cons_zero, List.set_cons_succ])
    refine wpAnyH_take (i := 1) (oi := { dst := some 42, op := Op.move (Operand.tmp 1), type := 22, pos := "ref.go:195", after := #[], guard := none }) (v := ?_) rfl (by kernel_rfl) (by kernel_rfl) (by kernel_rfl) (fun _ _ _ h => h) (Or.inl ⟨by rfl, ?_⟩) hHeld ?_
    rotate_left 1
    · intro u hSu
      obtain ⟨⟨d0, d1, d2⟩, -⟩ := row3i hSu.out.bx
      have a0 := hSu.out.xAt HX.out
      go_simp
      first | done | with_reducible rfl
    (try simp only [Act.put, List.setIfInBounds_toArray, List.set_cons_zero, List.set_cons_succ])
    refine wpAnyH_take (i := 2) (oi := { dst := some 43, op := Op.move (Operand.tmp 7), type := 3, pos := "ref.go:195", after := #[], guard := none }) (v := ?_) rfl (by kernel_rfl) (by kernel_rfl) (by kernel_rfl) (fun _ _ _ h => h) (Or.inl ⟨by rfl, ?_⟩) hHeld ?_
    rotate_left 1
    · intro u hSu
      obtain ⟨⟨d0, d1, d2⟩, -⟩ := row3i hSu.out.bx
      have a0 := hSu.out.xAt HX.out
      go_simp
      first | done | with_reducible rfl
    (try simp only [Act.put, List.setIfInBounds_toArray, List.set_cons_zero, List.set_cons_succ])
    refine wpAnyH_take (i := 3) (oi := { dst := some 44, op := Op.indexAddr 22 (Operand.tmp 42) (Operand.tmp 43), type := 0, pos := "ref.go:195", after := #[{ on := 1, ground := Ground.data }, { on := 2, ground := Ground.data }], guard := none }) (v := ?_) rfl (by kernel_rfl) (by kernel_rfl) (by kernel_rfl) (fun _ _ _ h => h) (Or.inl ⟨by rfl, ?_⟩) hHeld ?_
    rotate_left 1
    · intro u hSu
      obtain ⟨⟨d0, d1, d2⟩, -⟩ := row3i hSu.out.bx
      have a0 := hSu.out.xAt HX.out
      go_simp
      first | done | with_reducible rfl
    (try simp only [Act.put, List.setIfInBounds_toArray, List.set_cons_zero, List.set_cons_succ])
    refine wpAnyH_take (i := 4) (oi := { dst := some 45, op := Op.load 3 (Operand.tmp 44), type := 3, pos := "ref.go:195", after := #[{ on := 3, ground := Ground.data }], guard := none }) (v := ?_) rfl (by kernel_rfl) (by kernel_rfl) (by kernel_rfl) (fun _ _ _ h => h) (Or.inl ⟨by rfl, ?_⟩) hHeld ?_
    rotate_left 1
    · intro u hSu
      obtain ⟨⟨d0, d1, d2⟩, -⟩ := row3i hSu.out.bx
      have a0 := hSu.out.xAt HX.out
      go_simp
      first | done | with_reducible rfl
    (try simp only [Act.put, List.setIfInBounds_toArray, List.set_cons_zero, List.set_cons_succ])
    refine wpAnyH_ready (rs := [5, 9]) (by kernel_rfl) (by simp) ?_
    refine AllReadyH.cons (o := { dst := some 46, op := Op.call { callee := Callee.value (Operand.func 34), args := #[Operand.tmp 41, Operand.tmp 45], argTypes := #[30, 3] }, type := 70, pos := "ref.go:195", after := #[{ on := 0, ground := Ground.data }, { on := 4, ground := Ground.data }], guard := none }) rfl (fun Kz hK => ?_) (AllReadyH.cons (o := { dst := some 8, op := Op.alloc 39, type := 0, pos := "ref.go:195", after := #[], guard := none }) rfl (fun Kz hK => ?_) AllReadyH.nil)
    · go_simp
      go_at_call 34
      refine (iredge_any sub n E x p c _ _ hHeld.out.rd hm).mono ?_
      rintro e w7 ⟨rfl, hg⟩
      have H7n := Lib.hid (hHeld.out.keep hg)
      try (have hB := Lib.hid (fun p hp => kept_row (hbx.out p hp) hg (by simp)); clear hbx; have hbx := hB; clear hB)
      clear hg
      refine hK.out _ _ (H7n) (fun hH2 => ?_)
      clear hK Kz hHeld
      have hHeld := hH2
      clear hH2
      (try simp only [Act.put, List.setIfInBounds_toArray, List.set_cons_zero, List.set_cons_succ])
      refine wpAnyH_take (i := 6) (oi := { dst := some 40, op := Op.move (Operand.tmp 46), type := 70, pos := "ref.go:195", after := #[{ on := 5, ground := Ground.data }], guard := none }) (v := ?_) rfl (by kernel_rfl) (by kernel_rfl) (by kernel_rfl) (fun _ _ _ h => h) (Or.inl ⟨by rfl, ?_⟩) hHeld ?_
      rotate_left 1
      · intro u hSu
        obtain ⟨⟨d0, d1, d2⟩, -⟩ := row3i hSu.out.bx
        have a0 := hSu.out.xAt HX.out
        go_simp
        first | done | with_reducible rfl
      (try simp only [Act.put, List.setIfInBounds_toArray, List.set_cons_zero, List.set_cons_succ])
      refine wpAnyH_take (i := 7) (oi := { dst := some 47, op := Op.extract (Operand.tmp 40) 0, type := 39, pos := "ref.go:195", after := #[{ on := 6, ground := Ground.data }], guard := none }) (v := ?_) rfl (by kernel_rfl) (by kernel_rfl) (by kernel_rfl) (fun _ _ _ h => h) (Or.inl ⟨by rfl, ?_⟩) hHeld ?_
      rotate_left 1
      · intro u hSu
        obtain ⟨⟨d0, d1, d2⟩, -⟩ := row3i hSu.out.bx
        have a0 := hSu.out.xAt HX.out
        go_simp
        first | done | with_reducible rfl
      (try simp only [Act.put, List.setIfInBounds_toArray, List.set_cons_zero, List.set_cons_succ])
      refine wpAnyH_take (i := 8) (oi := { dst := some 48, op := Op.extract (Operand.tmp 40) 1, type := 4, pos := "ref.go:195", after := #[{ on := 6, ground := Ground.data }, { on := 10, ground := Ground.gcOnly Departure.lateStores }], guard := none }) (v := ?_) rfl (by kernel_rfl) (by kernel_rfl) (by kernel_rfl) (fun _ _ _ h => h) (Or.inl ⟨by rfl, ?_⟩) hHeld ?_
      rotate_left 1
      · intro u hSu
        obtain ⟨⟨d0, d1, d2⟩, -⟩ := row3i hSu.out.bx
        have a0 := hSu.out.xAt HX.out
        go_simp
        first | done | with_reducible rfl
      (try simp only [Act.put, List.setIfInBounds_toArray, List.set_cons_zero, List.set_cons_succ])
      refine wpAnyH_ready (rs := [9]) (by kernel_rfl) (by simp) ?_
      refine AllReadyH.cons (o := { dst := some 8, op := Op.alloc 39, type := 0, pos := "ref.go:195", after := #[], guard := none }) rfl (fun Kz hK => ?_) AllReadyH.nil
      have H8 := hHeld
      go_simp
      have hbx := Lib.hid hHeld.out.boxE
      have hpn := Lib.hid hHeld.out.lo
      refine hK.out _ _ (Lib.hid (hHeld.out.keep (World.grownBy_alloc _ _ none))) (fun hH2 => ?_)
      clear hK Kz hHeld
      have hHeld := hH2
      clear hH2
      (try simp only [Act.put, List.setIfInBounds_toArray, List.set_cons_zero, List.set_cons_succ])
      refine wpAnyH_ready (rs := [10]) (by kernel_rfl) (by simp) ?_
      refine AllReadyH.cons (o := { dst := none, op := Op.store 39 (Operand.tmp 8) (Operand.tmp 47), type := 0, pos := "ref.go:195", after := #[{ on := 9, ground := Ground.data }, { on := 7, ground := Ground.data }, { on := 5, ground := Ground.chain }, { on := 0, ground := Ground.phase }, { on := 1, ground := Ground.phase }, { on := 2, ground := Ground.phase }, { on := 3, ground := Ground.phase }, { on := 4, ground := Ground.phase }, { on := 5, ground := Ground.phase }, { on := 6, ground := Ground.phase }, { on := 7, ground := Ground.phase }, { on := 8, ground := Ground.textOnly Departure.lateStores }, { on := 9, ground := Ground.phase }], guard := none }) rfl (fun Kz hK => ?_) AllReadyH.nil
      first | (obtain ⟨⟨c0, c1⟩, f0, f1⟩ := box2R (hbx.out w3.heap.size rfl)) | skip
      go_simp
      refine hK.out _ _ ((by first | with_reducible exact Lib.hid (H8.out.keep (World.grownBy_alloc _ _ none)) | with_reducible exact Lib.hid (hHeld.out.box0 (store2e (.int .i64 (edF E x).r) (.int .i64 (edF E x).i) (hbx.out w3.heap.size (by first | rfl | simp))).2 (by have := hpn.out; simpa using this)))) (fun hH2 => ?_)
      clear hK Kz hHeld
      have hHeld := hH2
      clear hH2
      (try simp only [Act.put, List.setIfInBounds_toArray, List.set_cons_zero, List.set_cons_succ])
      refine wpAnyH_take (i := 11) (oi := { dst := some 9, op := Op.assign (Operand.tmp 48), type := 4, pos := "ref.go:195", after := #[{ on := 8, ground := Ground.data }, { on := 10, ground := Ground.chain }, { on := 0, ground := Ground.phase }, { on := 1, ground := Ground.phase }, { on := 2, ground := Ground.phase }, { on := 3, ground := Ground.phase }, { on := 4, ground := Ground.phase }, { on := 5, ground := Ground.phase }, { on := 6, ground := Ground.phase }, { on := 7, ground := Ground.phase }, { on := 8, ground := Ground.phase }, { on := 9, ground := Ground.phase }, { on := 10, ground := Ground.phase }], guard := none }) (v := ?_) rfl (by kernel_rfl) (by kernel_rfl) (by kernel_rfl) (fun _ _ _ h => h) (Or.inl ⟨by rfl, ?_⟩) hHeld ?_
      rotate_left 1
      · intro u hSu
        obtain ⟨⟨d0, d1, d2⟩, -⟩ := row3i hSu.out.bx
        have a0 := hSu.out.xAt HX.out
        go_simp
        first | done | with_reducible rfl
      (try simp only [Act.put, List.setIfInBounds_toArray, List.set_cons_zero, List.set_cons_succ])
      refine wpAnyH_done (by kernel_rfl) ?_ _
      have S2 := hHeld
      clear hHeld
      try clear hbx
      try clear hpn
      try clear H8
      cases hkn : knE E x
      case false =>
        have HPX : Hid (seX sub n E X = 4) := Lib.hid (by unfold seX; rw [if_neg (by rw [HV.out]; decide), if_neg (by rw [HA.out]; decide), if_pos (any_at HX.out (by unfold ukE; rw [hkn]; rfl))])
        clear hkn
        go_wp2_with fail
        go_ret2
        exact se_no HPX.out (by decide) S2.out.gr
      case true =>
        have HN2 : Hid ((X.take (k + 1)).any (ukE E) = false) := Lib.hid (any_take HN.out HX.out (by unfold ukE; rw [hkn]; rfl))
        clear hkn
        go_wp2_with fail
        exact ⟨⟨k + 1, by omega, congrArg _ (by omega), HN2, S2⟩, by simp only [RowKit.intOf]; omega⟩
    · have H8 := hHeld
      go_simp
      have hbx := Lib.hid hHeld.out.boxE
      have hpn := Lib.hid hHeld.out.lo
      refine hK.out _ _ (Lib.hid (hHeld.out.keep (World.grownBy_alloc _ _ none))) (fun hH2 => ?_)
      clear hK Kz hHeld
      have hHeld := hH2
      clear hH2
      (try simp only [Act.put, List.setIfInBounds_toArray, List.set_cons_zero, List.set_cons_succ])
      refine wpAnyH_ready (rs := [5]) (by kernel_rfl) (by simp) ?_
      refine AllReadyH.cons (o := { dst := some 46, op := Op.call { callee := Callee.value (Operand.func 34), args := #[Operand.tmp 41, Operand.tmp 45], argTypes := #[30, 3] }, type := 70, pos := "ref.go:195", after := #[{ on := 0, ground := Ground.data }, { on := 4, ground := Ground.data }], guard := none }) rfl (fun Kz hK => ?_) AllReadyH.nil
      go_simp
      go_at_call 34
      refine (iredge_any sub n E x p c _ _ hHeld.out.rd hm).mono ?_
      rintro e w7 ⟨rfl, hg⟩
      have H7n := Lib.hid (hHeld.out.keep hg)
      try (have hB := Lib.hid (fun p hp => kept_row (hbx.out p hp) hg (by simp)); clear hbx; have hbx := hB; clear hB)
      clear hg
      refine hK.out _ _ (H7n) (fun hH2 => ?_)
      clear hK Kz hHeld
      have hHeld := hH2
      clear hH2
      (try simp only [Act.put, List.setIfInBounds_toArray, List.set_cons_zero, List.set_cons_succ])
      refine wpAnyH_take (i := 6) (oi := { dst := some 40, op := Op.move (Operand.tmp 46), type := 70, pos := "ref.go:195", after := #[{ on := 5, ground := Ground.data }], guard := none }) (v := ?_) rfl (by kernel_rfl) (by kernel_rfl) (by kernel_rfl) (fun _ _ _ h => h) (Or.inl ⟨by rfl, ?_⟩) hHeld ?_
      rotate_left 1
      · intro u hSu
        obtain ⟨⟨d0, d1, d2⟩, -⟩ := row3i hSu.out.bx
        have a0 := hSu.out.xAt HX.out
        go_simp
        first | done | with_reducible rfl
      (try simp only [Act.put, List.setIfInBounds_toArray, List.set_cons_zero, List.set_cons_succ])
      refine wpAnyH_take (i := 7) (oi := { dst := some 47, op := Op.extract (Operand.tmp 40) 0, type := 39, pos := "ref.go:195", after := #[{ on := 6, ground := Ground.data }], guard := none }) (v := ?_) rfl (by kernel_rfl) (by kernel_rfl) (by kernel_rfl) (fun _ _ _ h => h) (Or.inl ⟨by rfl, ?_⟩) hHeld ?_
      rotate_left 1
      · intro u hSu
        obtain ⟨⟨d0, d1, d2⟩, -⟩ := row3i hSu.out.bx
        have a0 := hSu.out.xAt HX.out
        go_simp
        first | done | with_reducible rfl
      (try simp only [Act.put, List.setIfInBounds_toArray, List.set_cons_zero, List.set_cons_succ])
      refine wpAnyH_take (i := 8) (oi := { dst := some 48, op := Op.extract (Operand.tmp 40) 1, type := 4, pos := "ref.go:195", after := #[{ on := 6, ground := Ground.data }, { on := 10, ground := Ground.gcOnly Departure.lateStores }], guard := none }) (v := ?_) rfl (by kernel_rfl) (by kernel_rfl) (by kernel_rfl) (fun _ _ _ h => h) (Or.inl ⟨by rfl, ?_⟩) hHeld ?_
      rotate_left 1
      · intro u hSu
        obtain ⟨⟨d0, d1, d2⟩, -⟩ := row3i hSu.out.bx
        have a0 := hSu.out.xAt HX.out
        go_simp
        first | done | with_reducible rfl
      (try simp only [Act.put, List.setIfInBounds_toArray, List.set_cons_zero, List.set_cons_succ])
      refine wpAnyH_ready (rs := [10]) (by kernel_rfl) (by simp) ?_
      refine AllReadyH.cons (o := { dst := none, op := Op.store 39 (Operand.tmp 8) (Operand.tmp 47), type := 0, pos := "ref.go:195", after := #[{ on := 9, ground := Ground.data }, { on := 7, ground := Ground.data }, { on := 5, ground := Ground.chain }, { on := 0, ground := Ground.phase }, { on := 1, ground := Ground.phase }, { on := 2, ground := Ground.phase }, { on := 3, ground := Ground.phase }, { on := 4, ground := Ground.phase }, { on := 5, ground := Ground.phase }, { on := 6, ground := Ground.phase }, { on := 7, ground := Ground.phase }, { on := 8, ground := Ground.textOnly Departure.lateStores }, { on := 9, ground := Ground.phase }], guard := none }) rfl (fun Kz hK => ?_) AllReadyH.nil
      first | (obtain ⟨⟨c0, c1⟩, f0, f1⟩ := box2R (hbx.out w3.heap.size rfl)) | skip
      go_simp
      refine hK.out _ _ ((by first | with_reducible exact Lib.hid (H8.out.keep (World.grownBy_alloc _ _ none)) | with_reducible exact Lib.hid (hHeld.out.box0 (store2e (.int .i64 (edF E x).r) (.int .i64 (edF E x).i) (hbx.out w3.heap.size (by first | rfl | simp))).2 (by have := hpn.out; simpa using this)))) (fun hH2 => ?_)
      clear hK Kz hHeld
      have hHeld := hH2
      clear hH2
      (try simp only [Act.put, List.setIfInBounds_toArray, List.set_cons_zero, List.set_cons_succ])
      refine wpAnyH_take (i := 11) (oi := { dst := some 9, op := Op.assign (Operand.tmp 48), type := 4, pos := "ref.go:195", after := #[{ on := 8, ground := Ground.data }, { on := 10, ground := Ground.chain }, { on := 0, ground := Ground.phase }, { on := 1, ground := Ground.phase }, { on := 2, ground := Ground.phase }, { on := 3, ground := Ground.phase }, { on := 4, ground := Ground.phase }, { on := 5, ground := Ground.phase }, { on := 6, ground := Ground.phase }, { on := 7, ground := Ground.phase }, { on := 8, ground := Ground.phase }, { on := 9, ground := Ground.phase }, { on := 10, ground := Ground.phase }], guard := none }) (v := ?_) rfl (by kernel_rfl) (by kernel_rfl) (by kernel_rfl) (fun _ _ _ h => h) (Or.inl ⟨by rfl, ?_⟩) hHeld ?_
      rotate_left 1
      · intro u hSu
        obtain ⟨⟨d0, d1, d2⟩, -⟩ := row3i hSu.out.bx
        have a0 := hSu.out.xAt HX.out
        go_simp
        first | done | with_reducible rfl
      (try simp only [Act.put, List.setIfInBounds_toArray, List.set_cons_zero, List.set_cons_succ])
      refine wpAnyH_done (by kernel_rfl) ?_ _
      have S2 := hHeld
      clear hHeld
      try clear hbx
      try clear hpn
      try clear H8
      cases hkn : knE E x
      case false =>
        have HPX : Hid (seX sub n E X = 4) := Lib.hid (by unfold seX; rw [if_neg (by rw [HV.out]; decide), if_neg (by rw [HA.out]; decide), if_pos (any_at HX.out (by unfold ukE; rw [hkn]; rfl))])
        clear hkn
        go_wp2_with fail
        go_ret2
        exact se_no HPX.out (by decide) S2.out.gr
      case true =>
        have HN2 : Hid ((X.take (k + 1)).any (ukE E) = false) := Lib.hid (any_take HN.out HX.out (by unfold ukE; rw [hkn]; rfl))
        clear hkn
        go_wp2_with fail
        exact ⟨⟨k + 1, by omega, congrArg _ (by omega), HN2, S2⟩, by simp only [RowKit.intOf]; omega⟩
  case neg =>
  obtain rfl : k = X.length := by omega
  have h1 : ¬ (X.length : Int) < (X.length : Int) := by omega
  rw [List.take_length] at HN
  have HU := HN
  have HP : Hid (seX sub n E X = 0) := Lib.hid (by unfold seX; rw [if_neg (by rw [HV.out]; decide), if_neg (by rw [HA.out]; decide), if_neg (by rw [HU.out]; decide)])
  clear HN
  go_wp2_with fail
  go_loopw [10, 11] (fun v x wr => ∃ (k : Nat) (q : Option Addr) (d : Nat), k ≤ X.length ∧ x = .int .i64 (k : Int) ∧ v = .slice q (seL n (X.take k)).length d ∧ Hid (SG w sub n E p c X px cx (.slice q (seL n (X.take k)).length d) (seL n (X.take k)) wr)) (fun _ x _ => X.length - (RowKit.intOf x).toNat)
  case atStart => exact ⟨0, none, 0, Nat.zero_le _, rfl, rfl, S1⟩
  case round =>
  clear S1 hlt h1 hk
  obtain ⟨k, q, d, hk, rfl, rfl, S0⟩ := hrel
  obtain ⟨w5, hw5⟩ : ∃ w5, w5 = wr := ⟨_, rfl⟩
  rw [← hw5] at S0 ⊢
  clear hw5
  by_cases hlt : k < X.length
  case neg =>
    obtain rfl : k = X.length := by omega
    have hnl : ¬ (X.length : Int) < (X.length : Int) := by omega
    rw [List.take_length] at S0 ⊢
    have HO : Hid (seO sub n E X = seL n X) := Lib.hid (by unfold seO; rw [if_pos HP.out])
    go_wp2_with fail
    go_ret2
    refine ⟨q, d, by rw [HO.out, HP.out]; rfl, ?_, S0.out.gr⟩
    rw [HO.out]
    exact S0.out.own.mono (by omega)
  case pos =>
  have hlt' : (k : Int) < (X.length : Int) := by omega
  have k0 : (0 : Int) ≤ (k : Int) := by omega
  obtain ⟨x, hx⟩ : ∃ x, X[k]? = some x := ⟨_, List.getElem?_eq_getElem hlt⟩
  have HX := Lib.hid hx
  have hkn : knE E x = true := by
    have := any_mem HU.out (List.mem_of_getElem? hx)
    unfold ukE at this
    simpa using this
  obtain ⟨hpl, m, hm1, hm2⟩ := kn_place HV.out hkn
  obtain ⟨-, b, off, rfl, hq, hc⟩ := tv_at S0.out.rx hx
  have HST : Hid (seL n (X.take (k + 1)) = orS (opS (seL n (X.take k)) (plS x n)) (b2 m)) := Lib.hid (by rw [seL_take hx]; unfold seS; rw [hm1]; rfl)
  have hML : (seL n (X.take k)).length ≤ 1000000 := by
    have h1 := seL_len n (X.take k) []
    unfold seL
    rw [List.length_take] at h1
    simp only [List.length_nil] at h1
    omega
  obtain ⟨M, hM⟩ : ∃ M, seL n (X.take k) = M := ⟨_, rfl⟩
  obtain ⟨M2, hM2⟩ : ∃ M2, seL n (X.take (k + 1)) = M2 := ⟨_, rfl⟩
  rw [hM] at HST S0 hML ⊢
  rw [hM2] at HST
  have HM2 := Lib.hid hM2
  have HM := Lib.hid hM
  obtain ⟨s, hs⟩ : ∃ s, plS x n = s := ⟨_, rfl⟩
  rw [hs] at HST
  clear hM hM2 hc hx hkn
  have HKd := Lib.hid (S0.out.keep (grown_drew (grown_refl _ none)))
  have HPP := Lib.hid (And.intro hpl (And.intro hm1 hs))
  clear hpl hm1 hs
  go_upto_region 18 with fail
  clear S0
  refine wp_region_held_drew (S := fun w' => Hid (SG w sub n E p c X (some ⟨b, off, none⟩) cx (.slice q M.length d) M w')) (by kernel_rfl) (HKd) (fun hHeld => ?_)
  refine wpAnyH_take (i := 0) (oi := { dst := some 58, op := Op.move (Operand.tmp 1), type := 22, pos := "ref.go:201", after := #[], guard := none }) (v := ?_) rfl (by kernel_rfl) (by kernel_rfl) (by kernel_rfl) (fun _ _ _ h => h) (Or.inl ⟨by rfl, ?_⟩) hHeld ?_
  rotate_left 1
  · intro u hSu
    obtain ⟨⟨d0, d1, d2⟩, -⟩ := row3i hSu.out.bx
    have a0 := hSu.out.xAt HX.out
    go_simp
    first | done | with_reducible rfl
  (try simp only [Act.put, List.setIfInBounds_toArray, List.set_cons_zero, List.set_cons_succ])
  refine wpAnyH_take (i := 1) (oi := { dst := some 59, op := Op.move (Operand.tmp 11), type := 3, pos := "ref.go:201", after := #[], guard := none }) (v := ?_) rfl (by kernel_rfl) (by kernel_rfl) (by kernel_rfl) (fun _ _ _ h => h) (Or.inl ⟨by rfl, ?_⟩) hHeld ?_
  rotate_left 1
  · intro u hSu
    obtain ⟨⟨d0, d1, d2⟩, -⟩ := row3i hSu.out.bx
    have a0 := hSu.out.xAt HX.out
    go_simp
    first | done | with_reducible rfl
  (try simp only [Act.put, List.setIfInBounds_toArray, List.set_cons_zero, List.set_cons_succ])
  refine wpAnyH_take (i := 2) (oi := { dst := some 60, op := Op.indexAddr 22 (Operand.tmp 58) (Operand.tmp 59), type := 0, pos := "ref.go:201", after := #[{ on := 0, ground := Ground.data }, { on := 1, ground := Ground.data }], guard := none }) (v := ?_) rfl (by kernel_rfl) (by kernel_rfl) (by kernel_rfl) (fun _ _ _ h => h) (Or.inl ⟨by rfl, ?_⟩) hHeld ?_
  rotate_left 1
  · intro u hSu
    obtain ⟨⟨d0, d1, d2⟩, -⟩ := row3i hSu.out.bx
    have a0 := hSu.out.xAt HX.out
    go_simp
    first | done | with_reducible rfl
  (try simp only [Act.put, List.setIfInBounds_toArray, List.set_cons_zero, List.set_cons_succ])
  refine wpAnyH_take (i := 3) (oi := { dst := some 61, op := Op.load 3 (Operand.tmp 60), type := 3, pos := "ref.go:201", after := #[{ on := 2, ground := Ground.data }], guard := none }) (v := ?_) rfl (by kernel_rfl) (by kernel_rfl) (by kernel_rfl) (fun _ _ _ h => h) (Or.inl ⟨by rfl, ?_⟩) hHeld ?_
  rotate_left 1
  · intro u hSu
    obtain ⟨⟨d0, d1, d2⟩, -⟩ := row3i hSu.out.bx
    have a0 := hSu.out.xAt HX.out
    go_simp
    first | done | with_reducible rfl
  (try simp only [Act.put, List.setIfInBounds_toArray, List.set_cons_zero, List.set_cons_succ])
  refine wpAnyH_take (i := 4) (oi := { dst := some 62, op := Op.fieldAddr 30 (Operand.tmp 2) 1, type := 0, pos := "ref.go:201", after := #[], guard := none }) (v := ?_) rfl (by kernel_rfl) (by kernel_rfl) (by kernel_rfl) (fun _ _ _ h => h) (Or.inl ⟨by rfl, ?_⟩) hHeld ?_
  rotate_left 1
  · intro u hSu
    obtain ⟨⟨d0, d1, d2⟩, -⟩ := row3i hSu.out.bx
    have a0 := hSu.out.xAt HX.out
    go_simp
    first | done | with_reducible rfl
  (try simp only [Act.put, List.setIfInBounds_toArray, List.set_cons_zero, List.set_cons_succ])
  refine wpAnyH_take (i := 5) (oi := { dst := some 63, op := Op.load 3 (Operand.tmp 62), type := 3, pos := "ref.go:201", after := #[{ on := 4, ground := Ground.data }], guard := none }) (v := ?_) rfl (by kernel_rfl) (by kernel_rfl) (by kernel_rfl) (fun _ _ _ h => h) (Or.inl ⟨by rfl, ?_⟩) hHeld ?_
  rotate_left 1
  · intro u hSu
    obtain ⟨⟨d0, d1, d2⟩, -⟩ := row3i hSu.out.bx
    have a0 := hSu.out.xAt HX.out
    go_simp
    first | done | with_reducible rfl
  (try simp only [Act.put, List.setIfInBounds_toArray, List.set_cons_zero, List.set_cons_succ])
  refine wpAnyH_ready (rs := [6]) (by kernel_rfl) (by simp) ?_
  refine AllReadyH.cons (o := { dst := some 64, op := Op.call { callee := Callee.value (Operand.func 35), args := #[Operand.tmp 61, Operand.tmp 63], argTypes := #[3, 3] }, type := 68, pos := "ref.go:201", after := #[{ on := 3, ground := Ground.data }, { on := 5, ground := Ground.data }], guard := none }) rfl (fun Kz hK => ?_) AllReadyH.nil
  go_simp
  go_at_call 35
  refine (irplc_any x n _).mono ?_
  rintro e w7 ⟨rfl, hg⟩
  rw [HPP.out.1, HPP.out.2.1, HPP.out.2.2]
  have H7n := Lib.hid (hHeld.out.keep hg)
  clear hg
  refine hK.out _ _ (H7n) (fun hH2 => ?_)
  clear hK Kz hHeld
  have hHeld := hH2
  clear hH2
  (try simp only [Act.put, List.setIfInBounds_toArray, List.set_cons_zero, List.set_cons_succ])
  refine wpAnyH_take (i := 7) (oi := { dst := some 57, op := Op.move (Operand.tmp 64), type := 68, pos := "ref.go:201", after := #[{ on := 6, ground := Ground.data }], guard := none }) (v := ?_) rfl (by kernel_rfl) (by kernel_rfl) (by kernel_rfl) (fun _ _ _ h => h) (Or.inl ⟨by rfl, ?_⟩) hHeld ?_
  rotate_left 1
  · intro u hSu
    obtain ⟨⟨d0, d1, d2⟩, -⟩ := row3i hSu.out.bx
    have a0 := hSu.out.xAt HX.out
    go_simp
    first | done | with_reducible rfl
  (try simp only [Act.put, List.setIfInBounds_toArray, List.set_cons_zero, List.set_cons_succ])
  refine wpAnyH_take (i := 8) (oi := { dst := some 65, op := Op.extract (Operand.tmp 57) 0, type := 3, pos := "ref.go:201", after := #[{ on := 7, ground := Ground.data }], guard := none }) (v := ?_) rfl (by kernel_rfl) (by kernel_rfl) (by kernel_rfl) (fun _ _ _ h => h) (Or.inl ⟨by rfl, ?_⟩) hHeld ?_
  rotate_left 1
  · intro u hSu
    obtain ⟨⟨d0, d1, d2⟩, -⟩ := row3i hSu.out.bx
    have a0 := hSu.out.xAt HX.out
    go_simp
    first | done | with_reducible rfl
  (try simp only [Act.put, List.setIfInBounds_toArray, List.set_cons_zero, List.set_cons_succ])
  refine wpAnyH_take (i := 9) (oi := { dst := some 66, op := Op.extract (Operand.tmp 57) 1, type := 3, pos := "ref.go:201", after := #[{ on := 7, ground := Ground.data }, { on := 11, ground := Ground.gcOnly Departure.lateStores }], guard := none }) (v := ?_) rfl (by kernel_rfl) (by kernel_rfl) (by kernel_rfl) (fun _ _ _ h => h) (Or.inl ⟨by rfl, ?_⟩) hHeld ?_
  rotate_left 1
  · intro u hSu
    obtain ⟨⟨d0, d1, d2⟩, -⟩ := row3i hSu.out.bx
    have a0 := hSu.out.xAt HX.out
    go_simp
    first | done | with_reducible rfl
  (try simp only [Act.put, List.setIfInBounds_toArray, List.set_cons_zero, List.set_cons_succ])
  refine wpAnyH_take (i := 10) (oi := { dst := some 67, op := Op.extract (Operand.tmp 57) 2, type := 4, pos := "ref.go:201", after := #[{ on := 7, ground := Ground.data }, { on := 12, ground := Ground.gcOnly Departure.lateStores }], guard := none }) (v := ?_) rfl (by kernel_rfl) (by kernel_rfl) (by kernel_rfl) (fun _ _ _ h => h) (Or.inl ⟨by rfl, ?_⟩) hHeld ?_
  rotate_left 1
  · intro u hSu
    obtain ⟨⟨d0, d1, d2⟩, -⟩ := row3i hSu.out.bx
    have a0 := hSu.out.xAt HX.out
    go_simp
    first | done | with_reducible rfl
  (try simp only [Act.put, List.setIfInBounds_toArray, List.set_cons_zero, List.set_cons_succ])
  refine wpAnyH_take (i := 11) (oi := { dst := some 12, op := Op.assign (Operand.tmp 65), type := 3, pos := "ref.go:201", after := #[{ on := 8, ground := Ground.data }, { on := 6, ground := Ground.chain }, { on := 0, ground := Ground.phase }, { on := 1, ground := Ground.phase }, { on := 2, ground := Ground.phase }, { on := 3, ground := Ground.phase }, { on := 4, ground := Ground.phase }, { on := 5, ground := Ground.phase }, { on := 6, ground := Ground.phase }, { on := 7, ground := Ground.phase }, { on := 8, ground := Ground.phase }, { on := 9, ground := Ground.textOnly Departure.lateStores }, { on := 10, ground := Ground.textOnly Departure.lateStores }], guard := none }) (v := ?_) rfl (by kernel_rfl) (by kernel_rfl) (by kernel_rfl) (fun _ _ _ h => h) (Or.inl ⟨by rfl, ?_⟩) hHeld ?_
  rotate_left 1
  · intro u hSu
    obtain ⟨⟨d0, d1, d2⟩, -⟩ := row3i hSu.out.bx
    have a0 := hSu.out.xAt HX.out
    go_simp
    first | done | with_reducible rfl
  (try simp only [Act.put, List.setIfInBounds_toArray, List.set_cons_zero, List.set_cons_succ])
  refine wpAnyH_take (i := 12) (oi := { dst := some 13, op := Op.assign (Operand.tmp 66), type := 3, pos := "ref.go:201", after := #[{ on := 9, ground := Ground.data }, { on := 11, ground := Ground.chain }, { on := 0, ground := Ground.phase }, { on := 1, ground := Ground.phase }, { on := 2, ground := Ground.phase }, { on := 3, ground := Ground.phase }, { on := 4, ground := Ground.phase }, { on := 5, ground := Ground.phase }, { on := 6, ground := Ground.phase }, { on := 7, ground := Ground.phase }, { on := 8, ground := Ground.phase }, { on := 9, ground := Ground.phase }, { on := 10, ground := Ground.textOnly Departure.lateStores }, { on := 11, ground := Ground.phase }], guard := none }) (v := ?_) rfl (by kernel_rfl) (by kernel_rfl) (by kernel_rfl) (fun _ _ _ h => h) (Or.inl ⟨by rfl, ?_⟩) hHeld ?_
  rotate_left 1
  · intro u hSu
    obtain ⟨⟨d0, d1, d2⟩, -⟩ := row3i hSu.out.bx
    have a0 := hSu.out.xAt HX.out
    go_simp
    first | done | with_reducible rfl
  (try simp only [Act.put, List.setIfInBounds_toArray, List.set_cons_zero, List.set_cons_succ])
  refine wpAnyH_take (i := 13) (oi := { dst := some 14, op := Op.assign (Operand.tmp 67), type := 4, pos := "ref.go:201", after := #[{ on := 10, ground := Ground.data }, { on := 12, ground := Ground.chain }, { on := 0, ground := Ground.phase }, { on := 1, ground := Ground.phase }, { on := 2, ground := Ground.phase }, { on := 3, ground := Ground.phase }, { on := 4, ground := Ground.phase }, { on := 5, ground := Ground.phase }, { on := 6, ground := Ground.phase }, { on := 7, ground := Ground.phase }, { on := 8, ground := Ground.phase }, { on := 9, ground := Ground.phase }, { on := 10, ground := Ground.phase }, { on := 11, ground := Ground.phase }, { on := 12, ground := Ground.phase }], guard := none }) (v := ?_) rfl (by kernel_rfl) (by kernel_rfl) (by kernel_rfl) (fun _ _ _ h => h) (Or.inl ⟨by rfl, ?_⟩) hHeld ?_
  rotate_left 1
  · intro u hSu
    obtain ⟨⟨d0, d1, d2⟩, -⟩ := row3i hSu.out.bx
    have a0 := hSu.out.xAt HX.out
    go_simp
    first | done | with_reducible rfl
  (try simp only [Act.put, List.setIfInBounds_toArray, List.set_cons_zero, List.set_cons_succ])
  refine wpAnyH_done (by kernel_rfl) ?_ _
  have S1 := hHeld
  clear hHeld HKd
  obtain ⟨w6, hw6⟩ : ∃ w6, w6 = w7 := ⟨_, rfl⟩
  rw [← hw6] at S1 ⊢
  clear hw6
  have APP : Hid (lastS M s = false → opS M s = M ++ [(⟨s, 0⟩ : Sb)]) := Lib.hid (fun h => by unfold opS; rw [h]; rfl)
  have HUM : Hid (∀ y ∈ M, U64 y.b) := Lib.hid (by rw [← HM.out]; exact seL_u n (X.take k))
  by_cases hl : lastS M s = true
  case pos =>
    have hne : M ≠ [] := by rintro rfl; cases hl
    obtain ⟨N, y, rfl⟩ := snoc_of_ne hne
    rw [lastS_snoc] at hl
    have hys := of_decide_eq_true hl
    have HOP : Hid (opS (N ++ [y]) s = N ++ [y]) := Lib.hid (by unfold opS; rw [lastS_snoc, hl]; rfl)
    have hNl : N.length ≤ 1000000 := by rw [List.length_append] at hML; simp at hML; omega
    rw [show (N ++ [y]).length = N.length + 1 by simp] at S1 ⊢
    obtain ⟨g, rfl⟩ : ∃ g, q = some ⟨g, 0, none⟩ := by
      rcases S1.out.own.2 with ⟨e1, h0⟩ | ⟨g, cap, cur, e1, _⟩
      · simp at h0
      · injection e1 with e2; exact ⟨g, e2⟩
    obtain ⟨ys, yb⟩ := y
    have hU : U64 yb := HUM.out ⟨ys, yb⟩ (by simp)
    dsimp only at hys
    subst hys
    have c0 := S1.out.last.1
    have S3 := S1
    have n0 : ((N.length : Int) + 1 == 0) = false := beq_eq_false_iff_ne.2 (by omega)
    clear APP hl hne hML HUM HM S1
    have n1 : ((N.length : Int) + 1 - 1) = (N.length : Int) := by omega
    have n2 : IntKind.i64.wrap (N.length : Int) = (N.length : Int) := IntWalk.i64_in _ (by omega)
    have n3 : IntKind.i64.wrap ((N.length : Int) + 1 - 1) = (N.length : Int) := by rw [n1]; exact n2
    have n4 : (0 : Int) ≤ (N.length : Int) := by omega
    have n5 : (N.length : Int) < (N.length : Int) + 1 := by omega
    have HW : Hid (bits .or .u64 (yb : Int) ((b2 m : Nat) : Int) = ((yb ||| b2 m : Nat) : Int)) := Lib.hid (orU _ _ hU (b2_u64 hm2))
    have HMM : Hid (M2 = N ++ [(⟨ys, yb ||| b2 m⟩ : Sb)]) := Lib.hid (by rw [HST.out, HOP.out, orS_snoc])
    have HKd := Lib.hid (S3.out.keep (grown_drew (grown_refl _ none)))
    go_upto_region 21 with fail
    refine region_until (S := fun w' => Hid (SG w sub n E p c X (some ⟨b, off, none⟩) cx (.slice (some ⟨g, 0, none⟩) (N.length + 1) d) (N ++ [(⟨ys, yb⟩ : Sb)]) w')) (fun j => j == 12) (by kernel_rfl) (HKd) (fun hHeld => ?_)
    refine anyU_take (i := 0) (oi := { dst := some 87, op := Op.move (Operand.tmp 10), type := 43, pos := "ref.go:205", after := #[], guard := none }) (v := ?_) rfl (by kernel_rfl) (by kernel_rfl) (by kernel_rfl) (by kernel_rfl) (by kernel_rfl) (fun _ _ _ h => h) (Or.inl ⟨by rfl, ?_⟩) hHeld ?_
    rotate_left 1
    · intro u hSu
      have cL1 := hSu.out.last.1
      have cL2 := hSu.out.last.2
      go_simp
      first | done | with_reducible rfl
    (try simp only [Act.put, List.setIfInBounds_toArray, List.set_cons_zero, List.set_cons_succ])
    refine anyU_take (i := 1) (oi := { dst := some 88, op := Op.move (Operand.tmp 10), type := 43, pos := "ref.go:205", after := #[], guard := none }) (v := ?_) rfl (by kernel_rfl) (by kernel_rfl) (by kernel_rfl) (by kernel_rfl) (by kernel_rfl) (fun _ _ _ h => h) (Or.inl ⟨by rfl, ?_⟩) hHeld ?_
    rotate_left 1
    · intro u hSu
      have cL1 := hSu.out.last.1
      have cL2 := hSu.out.last.2
      go_simp
      first | done | with_reducible rfl
    (try simp only [Act.put, List.setIfInBounds_toArray, List.set_cons_zero, List.set_cons_succ])
    refine anyU_take (i := 2) (oi := { dst := some 89, op := Op.call { callee := Callee.builtin Builtin.len, args := #[Operand.tmp 88], argTypes := #[43] }, type := 3, pos := "ref.go:205", after := #[{ on := 1, ground := Ground.data }], guard := none }) (v := ?_) rfl (by kernel_rfl) (by kernel_rfl) (by kernel_rfl) (by kernel_rfl) (by kernel_rfl) (fun _ _ _ h => h) (Or.inl ⟨by rfl, ?_⟩) hHeld ?_
    rotate_left 1
    · intro u hSu
      have cL1 := hSu.out.last.1
      have cL2 := hSu.out.last.2
      go_simp
      first | done | with_reducible rfl
    (try simp only [Act.put, List.setIfInBounds_toArray, List.set_cons_zero, List.set_cons_succ])
    refine anyU_take (i := 3) (oi := { dst := some 90, op := Op.binOp BinOp.sub 3 (Operand.tmp 89) (Operand.const (Value.int IntKind.i64 1)) 3, type := 3, pos := "ref.go:205", after := #[{ on := 2, ground := Ground.data }], guard := none }) (v := ?_) rfl (by kernel_rfl) (by kernel_rfl) (by kernel_rfl) (by kernel_rfl) (by kernel_rfl) (fun _ _ _ h => h) (Or.inl ⟨by rfl, ?_⟩) hHeld ?_
    rotate_left 1
    · intro u hSu
      have cL1 := hSu.out.last.1
      have cL2 := hSu.out.last.2
      go_simp
      first | done | with_reducible rfl
    (try simp only [Act.put, List.setIfInBounds_toArray, List.set_cons_zero, List.set_cons_succ])
    refine anyU_take (i := 4) (oi := { dst := some 91, op := Op.indexAddr 43 (Operand.tmp 87) (Operand.tmp 90), type := 0, pos := "ref.go:205", after := #[{ on := 0, ground := Ground.data }, { on := 3, ground := Ground.data }], guard := none }) (v := ?_) rfl (by kernel_rfl) (by kernel_rfl) (by kernel_rfl) (by kernel_rfl) (by kernel_rfl) (fun _ _ _ h => h) (Or.inl ⟨by rfl, ?_⟩) hHeld ?_
    rotate_left 1
    · intro u hSu
      have cL1 := hSu.out.last.1
      have cL2 := hSu.out.last.2
      go_simp
      first | done | with_reducible rfl
    (try simp only [Act.put, List.setIfInBounds_toArray, List.set_cons_zero, List.set_cons_succ])
    refine anyU_take (i := 5) (oi := { dst := some 92, op := Op.fieldAddr 25 (Operand.tmp 91) 1, type := 0, pos := "ref.go:205", after := #[{ on := 4, ground := Ground.data }], guard := none }) (v := ?_) rfl (by kernel_rfl) (by kernel_rfl) (by kernel_rfl) (by kernel_rfl) (by kernel_rfl) (fun _ _ _ h => h) (Or.inl ⟨by rfl, ?_⟩) hHeld ?_
    rotate_left 1
    · intro u hSu
      have cL1 := hSu.out.last.1
      have cL2 := hSu.out.last.2
      go_simp
      first | done | with_reducible rfl
    (try simp only [Act.put, List.setIfInBounds_toArray, List.set_cons_zero, List.set_cons_succ])
    refine anyU_take (i := 6) (oi := { dst := some 93, op := Op.load 23 (Operand.tmp 92), type := 23, pos := "ref.go:205", after := #[{ on := 5, ground := Ground.data }], guard := none }) (v := ?_) rfl (by kernel_rfl) (by kernel_rfl) (by kernel_rfl) (by kernel_rfl) (by kernel_rfl) (fun _ _ _ h => h) (Or.inl ⟨by rfl, ?_⟩) hHeld ?_
    rotate_left 1
    · intro u hSu
      have cL1 := hSu.out.last.1
      have cL2 := hSu.out.last.2
      go_simp
      first | done | with_reducible rfl
    (try simp only [Act.put, List.setIfInBounds_toArray, List.set_cons_zero, List.set_cons_succ])
    refine anyU_take (i := 7) (oi := { dst := some 94, op := Op.move (Operand.tmp 13), type := 3, pos := "ref.go:205", after := #[], guard := none }) (v := ?_) rfl (by kernel_rfl) (by kernel_rfl) (by kernel_rfl) (by kernel_rfl) (by kernel_rfl) (fun _ _ _ h => h) (Or.inl ⟨by rfl, ?_⟩) hHeld ?_
    rotate_left 1
    · intro u hSu
      have cL1 := hSu.out.last.1
      have cL2 := hSu.out.last.2
      go_simp
      first | done | with_reducible rfl
    (try simp only [Act.put, List.setIfInBounds_toArray, List.set_cons_zero, List.set_cons_succ])
    refine anyU_ready (rs := [8]) (by kernel_rfl) (by simp) ?_
    refine EachU.cons (o := { dst := some 95, op := Op.call { callee := Callee.value (Operand.func 14), args := #[Operand.tmp 94], argTypes := #[3] }, type := 23, pos := "ref.go:205", after := #[{ on := 7, ground := Ground.data }], guard := none }) rfl (fun Kz hK => ?_) EachU.nil
    go_simp
    go_at_call 14
    refine (bit_any m hm2 _).mono ?_
    rintro e w9 ⟨rfl, rfl⟩
    refine hK.out _ _ (fun _ => hHeld) (fun hH2 => ?_)
    clear hK Kz hHeld
    have hHeld := hH2 rfl
    clear hH2
    (try simp only [Act.put, List.setIfInBounds_toArray, List.set_cons_zero, List.set_cons_succ])
    refine anyU_take (i := 9) (oi := { dst := some 96, op := Op.binOp BinOp.or 23 (Operand.tmp 93) (Operand.tmp 95) 23, type := 23, pos := "ref.go:205", after := #[{ on := 6, ground := Ground.data }, { on := 8, ground := Ground.data }], guard := none }) (v := ?_) rfl (by kernel_rfl) (by kernel_rfl) (by kernel_rfl) (by kernel_rfl) (by kernel_rfl) (fun _ _ _ h => h) (Or.inl ⟨by rfl, ?_⟩) hHeld ?_
    rotate_left 1
    · intro u hSu
      have cL1 := hSu.out.last.1
      have cL2 := hSu.out.last.2
      go_simp
      first | done | with_reducible rfl
    (try simp only [Act.put, List.setIfInBounds_toArray, List.set_cons_zero, List.set_cons_succ])
    refine anyU_take (i := 10) (oi := { dst := some 97, op := Op.indexAddr 43 (Operand.tmp 87) (Operand.tmp 90), type := 0, pos := "ref.go:205", after := #[{ on := 0, ground := Ground.data }, { on := 3, ground := Ground.data }, { on := 0, ground := Ground.phase }, { on := 1, ground := Ground.phase }, { on := 2, ground := Ground.phase }, { on := 3, ground := Ground.phase }, { on := 4, ground := Ground.phase }, { on := 5, ground := Ground.phase }, { on := 6, ground := Ground.phase }, { on := 7, ground := Ground.phase }, { on := 8, ground := Ground.phase }, { on := 9, ground := Ground.phase }], guard := none }) (v := ?_) rfl (by kernel_rfl) (by kernel_rfl) (by kernel_rfl) (by kernel_rfl) (by kernel_rfl) (fun _ _ _ h => h) (Or.inl ⟨by rfl, ?_⟩) hHeld ?_
    rotate_left 1
    · intro u hSu
      have cL1 := hSu.out.last.1
      have cL2 := hSu.out.last.2
      go_simp
      first | done | with_reducible rfl
    (try simp only [Act.put, List.setIfInBounds_toArray, List.set_cons_zero, List.set_cons_succ])
    refine anyU_take (i := 11) (oi := { dst := some 98, op := Op.fieldAddr 25 (Operand.tmp 97) 1, type := 0, pos := "ref.go:205", after := #[{ on := 10, ground := Ground.data }, { on := 0, ground := Ground.phase }, { on := 1, ground := Ground.phase }, { on := 2, ground := Ground.phase }, { on := 3, ground := Ground.phase }, { on := 4, ground := Ground.phase }, { on := 5, ground := Ground.phase }, { on := 6, ground := Ground.phase }, { on := 7, ground := Ground.phase }, { on := 8, ground := Ground.phase }, { on := 9, ground := Ground.phase }], guard := none }) (v := ?_) rfl (by kernel_rfl) (by kernel_rfl) (by kernel_rfl) (by kernel_rfl) (by kernel_rfl) (fun _ _ _ h => h) (Or.inl ⟨by rfl, ?_⟩) hHeld ?_
    rotate_left 1
    · intro u hSu
      have cL1 := hSu.out.last.1
      have cL2 := hSu.out.last.2
      go_simp
      first | done | with_reducible rfl
    (try simp only [Act.put, List.setIfInBounds_toArray, List.set_cons_zero, List.set_cons_succ])
    refine anyU_ready (rs := [12]) (by kernel_rfl) (by simp) ?_
    refine EachU.cons (o := { dst := none, op := Op.store 23 (Operand.tmp 98) (Operand.tmp 96), type := 0, pos := "ref.go:205", after := #[{ on := 11, ground := Ground.data }, { on := 9, ground := Ground.data }, { on := 8, ground := Ground.chain }, { on := 0, ground := Ground.phase }, { on := 1, ground := Ground.phase }, { on := 2, ground := Ground.phase }, { on := 3, ground := Ground.phase }, { on := 4, ground := Ground.phase }, { on := 5, ground := Ground.phase }, { on := 6, ground := Ground.phase }, { on := 7, ground := Ground.phase }, { on := 8, ground := Ground.phase }, { on := 9, ground := Ground.phase }], guard := none }) rfl (fun Kz hK => ?_) EachU.nil
    have cS := hHeld.out.last.2
    have fS := hHeld.out.frz (N.length * 2 + 1)
    go_simp
    refine hK.out _ _ (fun h => by cases h) (fun _ => ?_)
    clear hK Kz
    (try simp only [Act.put, List.setIfInBounds_toArray, List.set_cons_zero, List.set_cons_succ])
    refine anyU_done (by kernel_rfl) ?_ _
    have S4 := Lib.hid (hHeld.out.setLast (yb ||| b2 m))
    rw [HW.out]
    clear hHeld HKd S3 HW cS fS n1 n3 HST HOP
    generalize (World.setCell _ _ _) = w7 at *
    go_wp2_with fail
    exact ⟨⟨k + 1, some ⟨g, 0, none⟩, d, by omega, congrArg _ (by omega), by rw [HM2.out, HMM.out, List.length_append]; rfl, by rw [HM2.out, HMM.out, List.length_append]; exact S4⟩, by simp only [RowKit.intOf]; omega⟩
  case neg =>
    have hl : lastS M s = false := by simpa using hl
    clear HUM HM
    by_cases hM0 : M.length = 0
    · have hM2 : ((M.length : Int) == 0) = true := beq_iff_eq.2 (by omega)
      clear hM0
      have HO2 := Lib.hid S1.out.own
      have hsz : w.heap.size < w6.heap.size := S1.out.lo
      go_wp2_with (at_builtin; refine hold_on ?_)
      refine Lib.hid ?_
      refine wpList_append_lies _ rfl _ _ 43 rfl (w.heap.size + 1) 25 ie (.agg #[.int .i64 0, .int .u64 0]) 2 16 Tryd.underlying43 hie he0 he1 he2 rfl (by decide) (.slice q M.length d) M.length (M.flatMap sbC) rfl (HO2.out.alloc _) ⟨w6.heap.size, 0, none⟩ 1 1 [.int .i64 s, .int .u64 0] rfl rfl (sb_row w6 ⟨s, 0⟩ _) (sb_one ⟨s, 0⟩) (by decide) (by unfold maxLen; omega) (by omega) (by simp; omega) _ rfl ?_
      intro g cap w8 hown hgrow hat hlt8
      have S3 := Lib.hid ((S1.out.keep (World.grownBy_alloc _ _ none)).put (N := M ++ [(⟨s, 0⟩ : Sb)]) (by rw [List.length_append, List.flatMap_append]; simpa [sbC] using hown) hgrow)
      have HOP : Hid (opS M s = M ++ [(⟨s, 0⟩ : Sb)]) := Lib.hid (APP.out hl)
      have hU : U64 0 := u64_mk (by decide)
      clear hown hgrow hat hlt8 HO2 S1 APP hl hsz
      clear hM2
      have n1 : ((M.length : Int) + 1 - 1) = (M.length : Int) := by omega
      have n2 : IntKind.i64.wrap (M.length : Int) = (M.length : Int) := IntWalk.i64_in _ (by omega)
      have n3 : IntKind.i64.wrap ((M.length : Int) + 1 - 1) = (M.length : Int) := by rw [n1]; exact n2
      have n4 : (0 : Int) ≤ (M.length : Int) := by omega
      have n5 : (M.length : Int) < (M.length : Int) + 1 := by omega
      have HW : Hid (bits .or .u64 0 ((b2 m : Nat) : Int) = ((b2 m : Nat) : Int)) := Lib.hid (by rw [show (0 : Int) = ((0 : Nat) : Int) by rfl, orU _ _ hU (b2_u64 hm2), Nat.zero_or])
      have HMM : Hid (M2 = M ++ [(⟨s, b2 m⟩ : Sb)]) := Lib.hid (by rw [HST.out, HOP.out, orS_snoc]; simp)
      have HKd := Lib.hid (S3.out.keep (grown_drew (grown_refl _ none)))
      go_upto_region 21 with fail
      refine region_until (S := fun w' => Hid (SG w sub n E p c X (some ⟨b, off, none⟩) cx (.slice (some ⟨g, 0, none⟩) (M.length + 1) cap) (M ++ [(⟨s, 0⟩ : Sb)]) w')) (fun j => j == 12) (by kernel_rfl) (HKd) (fun hHeld => ?_)
      refine anyU_take (i := 0) (oi := { dst := some 87, op := Op.move (Operand.tmp 10), type := 43, pos := "ref.go:205", after := #[], guard := none }) (v := ?_) rfl (by kernel_rfl) (by kernel_rfl) (by kernel_rfl) (by kernel_rfl) (by kernel_rfl) (fun _ _ _ h => h) (Or.inl ⟨by rfl, ?_⟩) hHeld ?_
      rotate_left 1
      · intro u hSu
        have cL1 := hSu.out.last.1
        have cL2 := hSu.out.last.2
        go_simp
        first | done | with_reducible rfl
      (try simp only [Act.put, List.setIfInBounds_toArray, List.set_cons_zero, List.set_cons_succ])
      refine anyU_take (i := 1) (oi := { dst := some 88, op := Op.move (Operand.tmp 10), type := 43, pos := "ref.go:205", after := #[], guard := none }) (v := ?_) rfl (by kernel_rfl) (by kernel_rfl) (by kernel_rfl) (by kernel_rfl) (by kernel_rfl) (fun _ _ _ h => h) (Or.inl ⟨by rfl, ?_⟩) hHeld ?_
      rotate_left 1
      · intro u hSu
        have cL1 := hSu.out.last.1
        have cL2 := hSu.out.last.2
        go_simp
        first | done | with_reducible rfl
      (try simp only [Act.put, List.setIfInBounds_toArray, List.set_cons_zero, List.set_cons_succ])
      refine anyU_take (i := 2) (oi := { dst := some 89, op := Op.call { callee := Callee.builtin Builtin.len, args := #[Operand.tmp 88], argTypes := #[43] }, type := 3, pos := "ref.go:205", after := #[{ on := 1, ground := Ground.data }], guard := none }) (v := ?_) rfl (by kernel_rfl) (by kernel_rfl) (by kernel_rfl) (by kernel_rfl) (by kernel_rfl) (fun _ _ _ h => h) (Or.inl ⟨by rfl, ?_⟩) hHeld ?_
      rotate_left 1
      · intro u hSu
        have cL1 := hSu.out.last.1
        have cL2 := hSu.out.last.2
        go_simp
        first | done | with_reducible rfl
      (try simp only [Act.put, List.setIfInBounds_toArray, List.set_cons_zero, List.set_cons_succ])
      refine anyU_take (i := 3) (oi := { dst := some 90, op := Op.binOp BinOp.sub 3 (Operand.tmp 89) (Operand.const (Value.int IntKind.i64 1)) 3, type := 3, pos := "ref.go:205", after := #[{ on := 2, ground := Ground.data }], guard := none }) (v := ?_) rfl (by kernel_rfl) (by kernel_rfl) (by kernel_rfl) (by kernel_rfl) (by kernel_rfl) (fun _ _ _ h => h) (Or.inl ⟨by rfl, ?_⟩) hHeld ?_
      rotate_left 1
      · intro u hSu
        have cL1 := hSu.out.last.1
        have cL2 := hSu.out.last.2
        go_simp
        first | done | with_reducible rfl
      (try simp only [Act.put, List.setIfInBounds_toArray, List.set_cons_zero, List.set_cons_succ])
      refine anyU_take (i := 4) (oi := { dst := some 91, op := Op.indexAddr 43 (Operand.tmp 87) (Operand.tmp 90), type := 0, pos := "ref.go:205", after := #[{ on := 0, ground := Ground.data }, { on := 3, ground := Ground.data }], guard := none }) (v := ?_) rfl (by kernel_rfl) (by kernel_rfl) (by kernel_rfl) (by kernel_rfl) (by kernel_rfl) (fun _ _ _ h => h) (Or.inl ⟨by rfl, ?_⟩) hHeld ?_
      rotate_left 1
      · intro u hSu
        have cL1 := hSu.out.last.1
        have cL2 := hSu.out.last.2
        go_simp
        first | done | with_reducible rfl
      (try simp only [Act.put, List.setIfInBounds_toArray, List.set_cons_zero, List.set_cons_succ])
      refine anyU_take (i := 5) (oi := { dst := some 92, op := Op.fieldAddr 25 (Operand.tmp 91) 1, type := 0, pos := "ref.go:205", after := #[{ on := 4, ground := Ground.data }], guard := none }) (v := ?_) rfl (by kernel_rfl) (by kernel_rfl) (by kernel_rfl) (by kernel_rfl) (by kernel_rfl) (fun _ _ _ h => h) (Or.inl ⟨by rfl, ?_⟩) hHeld ?_
      rotate_left 1
      · intro u hSu
        have cL1 := hSu.out.last.1
        have cL2 := hSu.out.last.2
        go_simp
        first | done | with_reducible rfl
      (try simp only [Act.put, List.setIfInBounds_toArray, List.set_cons_zero, List.set_cons_succ])
      refine anyU_take (i := 6) (oi := { dst := some 93, op := Op.load 23 (Operand.tmp 92), type := 23, pos := "ref.go:205", after := #[{ on := 5, ground := Ground.data }], guard := none }) (v := ?_) rfl (by kernel_rfl) (by kernel_rfl) (by kernel_rfl) (by kernel_rfl) (by kernel_rfl) (fun _ _ _ h => h) (Or.inl ⟨by rfl, ?_⟩) hHeld ?_
      rotate_left 1
      · intro u hSu
        have cL1 := hSu.out.last.1
        have cL2 := hSu.out.last.2
        go_simp
        first | done | with_reducible rfl
      (try simp only [Act.put, List.setIfInBounds_toArray, List.set_cons_zero, List.set_cons_succ])
      refine anyU_take (i := 7) (oi := { dst := some 94, op := Op.move (Operand.tmp 13), type := 3, pos := "ref.go:205", after := #[], guard := none }) (v := ?_) rfl (by kernel_rfl) (by kernel_rfl) (by kernel_rfl) (by kernel_rfl) (by kernel_rfl) (fun _ _ _ h => h) (Or.inl ⟨by rfl, ?_⟩) hHeld ?_
      rotate_left 1
      · intro u hSu
        have cL1 := hSu.out.last.1
        have cL2 := hSu.out.last.2
        go_simp
        first | done | with_reducible rfl
      (try simp only [Act.put, List.setIfInBounds_toArray, List.set_cons_zero, List.set_cons_succ])
      refine anyU_ready (rs := [8]) (by kernel_rfl) (by simp) ?_
      refine EachU.cons (o := { dst := some 95, op := Op.call { callee := Callee.value (Operand.func 14), args := #[Operand.tmp 94], argTypes := #[3] }, type := 23, pos := "ref.go:205", after := #[{ on := 7, ground := Ground.data }], guard := none }) rfl (fun Kz hK => ?_) EachU.nil
      go_simp
      go_at_call 14
      refine (bit_any m hm2 _).mono ?_
      rintro e w9 ⟨rfl, rfl⟩
      refine hK.out _ _ (fun _ => hHeld) (fun hH2 => ?_)
      clear hK Kz hHeld
      have hHeld := hH2 rfl
      clear hH2
      (try simp only [Act.put, List.setIfInBounds_toArray, List.set_cons_zero, List.set_cons_succ])
      refine anyU_take (i := 9) (oi := { dst := some 96, op := Op.binOp BinOp.or 23 (Operand.tmp 93) (Operand.tmp 95) 23, type := 23, pos := "ref.go:205", after := #[{ on := 6, ground := Ground.data }, { on := 8, ground := Ground.data }], guard := none }) (v := ?_) rfl (by kernel_rfl) (by kernel_rfl) (by kernel_rfl) (by kernel_rfl) (by kernel_rfl) (fun _ _ _ h => h) (Or.inl ⟨by rfl, ?_⟩) hHeld ?_
      rotate_left 1
      · intro u hSu
        have cL1 := hSu.out.last.1
        have cL2 := hSu.out.last.2
        go_simp
        first | done | with_reducible rfl
      (try simp only [Act.put, List.setIfInBounds_toArray, List.set_cons_zero, List.set_cons_succ])
      refine anyU_take (i := 10) (oi := { dst := some 97, op := Op.indexAddr 43 (Operand.tmp 87) (Operand.tmp 90), type := 0, pos := "ref.go:205", after := #[{ on := 0, ground := Ground.data }, { on := 3, ground := Ground.data }, { on := 0, ground := Ground.phase }, { on := 1, ground := Ground.phase }, { on := 2, ground := Ground.phase }, { on := 3, ground := Ground.phase }, { on := 4, ground := Ground.phase }, { on := 5, ground := Ground.phase }, { on := 6, ground := Ground.phase }, { on := 7, ground := Ground.phase }, { on := 8, ground := Ground.phase }, { on := 9, ground := Ground.phase }], guard := none }) (v := ?_) rfl (by kernel_rfl) (by kernel_rfl) (by kernel_rfl) (by kernel_rfl) (by kernel_rfl) (fun _ _ _ h => h) (Or.inl ⟨by rfl, ?_⟩) hHeld ?_
      rotate_left 1
      · intro u hSu
        have cL1 := hSu.out.last.1
        have cL2 := hSu.out.last.2
        go_simp
        first | done | with_reducible rfl
      (try simp only [Act.put, List.setIfInBounds_toArray, List.set_cons_zero, List.set_cons_succ])
      refine anyU_take (i := 11) (oi := { dst := some 98, op := Op.fieldAddr 25 (Operand.tmp 97) 1, type := 0, pos := "ref.go:205", after := #[{ on := 10, ground := Ground.data }, { on := 0, ground := Ground.phase }, { on := 1, ground := Ground.phase }, { on := 2, ground := Ground.phase }, { on := 3, ground := Ground.phase }, { on := 4, ground := Ground.phase }, { on := 5, ground := Ground.phase }, { on := 6, ground := Ground.phase }, { on := 7, ground := Ground.phase }, { on := 8, ground := Ground.phase }, { on := 9, ground := Ground.phase }], guard := none }) (v := ?_) rfl (by kernel_rfl) (by kernel_rfl) (by kernel_rfl) (by kernel_rfl) (by kernel_rfl) (fun _ _ _ h => h) (Or.inl ⟨by rfl, ?_⟩) hHeld ?_
      rotate_left 1
      · intro u hSu
        have cL1 := hSu.out.last.1
        have cL2 := hSu.out.last.2
        go_simp
        first | done | with_reducible rfl
      (try simp only [Act.put, List.setIfInBounds_toArray, List.set_cons_zero, List.set_cons_succ])
      refine anyU_ready (rs := [12]) (by kernel_rfl) (by simp) ?_
      refine EachU.cons (o := { dst := none, op := Op.store 23 (Operand.tmp 98) (Operand.tmp 96), type := 0, pos := "ref.go:205", after := #[{ on := 11, ground := Ground.data }, { on := 9, ground := Ground.data }, { on := 8, ground := Ground.chain }, { on := 0, ground := Ground.phase }, { on := 1, ground := Ground.phase }, { on := 2, ground := Ground.phase }, { on := 3, ground := Ground.phase }, { on := 4, ground := Ground.phase }, { on := 5, ground := Ground.phase }, { on := 6, ground := Ground.phase }, { on := 7, ground := Ground.phase }, { on := 8, ground := Ground.phase }, { on := 9, ground := Ground.phase }], guard := none }) rfl (fun Kz hK => ?_) EachU.nil
      have cS := hHeld.out.last.2
      have fS := hHeld.out.frz (M.length * 2 + 1)
      go_simp
      refine hK.out _ _ (fun h => by cases h) (fun _ => ?_)
      clear hK Kz
      (try simp only [Act.put, List.setIfInBounds_toArray, List.set_cons_zero, List.set_cons_succ])
      refine anyU_done (by kernel_rfl) ?_ _
      have S4 := Lib.hid (hHeld.out.setLast (b2 m))
      rw [HW.out]
      clear hHeld HKd S3 HW cS fS n1 n3 HST HOP
      generalize (World.setCell _ _ _) = w7 at *
      go_wp2_with fail
      exact ⟨⟨k + 1, some ⟨g, 0, none⟩, cap, by omega, congrArg _ (by omega), by rw [HM2.out, HMM.out, List.length_append]; rfl, by rw [HM2.out, HMM.out, List.length_append]; exact S4⟩, by simp only [RowKit.intOf]; omega⟩
    · have hne : M ≠ [] := fun e => hM0 (by rw [e]; rfl)
      obtain ⟨N0, y, hMe⟩ := snoc_of_ne hne
      have hlen : M.length = N0.length + 1 := by rw [hMe]; simp
      obtain ⟨g0, rfl⟩ : ∃ g, q = some ⟨g, 0, none⟩ := by
        rcases S1.out.own.2 with ⟨e1, h0⟩ | ⟨g, cap, cur, e1, _⟩
        · omega
        · injection e1 with e2; exact ⟨g, e2⟩
      have hys : y.s ≠ s := by
        rw [hMe, lastS_snoc] at hl
        exact of_decide_eq_false hl
      have hc0 : w6.cell? ⟨g0, (M.length - 1) * 2, none⟩ = some (.int .i64 y.s) := by
        have h := S1.out
        rw [hMe] at h
        rw [show (N0 ++ [y]).length = N0.length + 1 by simp] at h
        rw [show M.length - 1 = N0.length by omega]
        exact h.last.1
      have hys' : (y.s != s) = true := by simpa using hys
      obtain ⟨J, hJ⟩ : ∃ J, M.length - 1 = J := ⟨_, rfl⟩
      rw [hJ] at hc0
      have hJ0 : ((M.length : Int) == 0) = false := beq_eq_false_iff_ne.2 (by omega)
      have hJ1 : (M.length : Int) - 1 = (J : Int) := by omega
      have hJ2 : IntKind.i64.wrap ((M.length : Int) - 1) = (J : Int) := by rw [hJ1]; exact IntWalk.i64_in _ (by omega)
      have hJ3 : (0 : Int) ≤ (J : Int) := by omega
      have hJ4 : (J : Int) < (M.length : Int) := by omega
      clear hM0 hne hMe hlen hJ
      have HO2 := Lib.hid S1.out.own
      have hsz : w.heap.size < w6.heap.size := S1.out.lo
      go_wp2_with (at_builtin; refine hold_on ?_)
      refine Lib.hid ?_
      refine wpList_append_lies _ rfl _ _ 43 rfl (w.heap.size + 1) 25 ie (.agg #[.int .i64 0, .int .u64 0]) 2 16 Tryd.underlying43 hie he0 he1 he2 rfl (by decide) (.slice (some ⟨g0, 0, none⟩) M.length d) M.length (M.flatMap sbC) rfl (HO2.out.alloc _) ⟨w6.heap.size, 0, none⟩ 1 1 [.int .i64 s, .int .u64 0] rfl rfl (sb_row w6 ⟨s, 0⟩ _) (sb_one ⟨s, 0⟩) (by decide) (by unfold maxLen; omega) (by omega) (by simp; omega) _ rfl ?_
      intro g cap w8 hown hgrow hat hlt8
      have S3 := Lib.hid ((S1.out.keep (World.grownBy_alloc _ _ none)).put (N := M ++ [(⟨s, 0⟩ : Sb)]) (by rw [List.length_append, List.flatMap_append]; simpa [sbC] using hown) hgrow)
      have HOP : Hid (opS M s = M ++ [(⟨s, 0⟩ : Sb)]) := Lib.hid (APP.out hl)
      have hU : U64 0 := u64_mk (by decide)
      clear hown hgrow hat hlt8 HO2 S1 APP hl hsz
      clear hys hys' hc0 hJ0 hJ1 hJ2 hJ3 hJ4
      have n1 : ((M.length : Int) + 1 - 1) = (M.length : Int) := by omega
      have n2 : IntKind.i64.wrap (M.length : Int) = (M.length : Int) := IntWalk.i64_in _ (by omega)
      have n3 : IntKind.i64.wrap ((M.length : Int) + 1 - 1) = (M.length : Int) := by rw [n1]; exact n2
      have n4 : (0 : Int) ≤ (M.length : Int) := by omega
      have n5 : (M.length : Int) < (M.length : Int) + 1 := by omega
      have HW : Hid (bits .or .u64 0 ((b2 m : Nat) : Int) = ((b2 m : Nat) : Int)) := Lib.hid (by rw [show (0 : Int) = ((0 : Nat) : Int) by rfl, orU _ _ hU (b2_u64 hm2), Nat.zero_or])
      have HMM : Hid (M2 = M ++ [(⟨s, b2 m⟩ : Sb)]) := Lib.hid (by rw [HST.out, HOP.out, orS_snoc]; simp)
      have HKd := Lib.hid (S3.out.keep (grown_drew (grown_refl _ none)))
      go_upto_region 21 with fail
      refine region_until (S := fun w' => Hid (SG w sub n E p c X (some ⟨b, off, none⟩) cx (.slice (some ⟨g, 0, none⟩) (M.length + 1) cap) (M ++ [(⟨s, 0⟩ : Sb)]) w')) (fun j => j == 12) (by kernel_rfl) (HKd) (fun hHeld => ?_)
      refine anyU_take (i := 0) (oi := { dst := some 87, op := Op.move (Operand.tmp 10), type := 43, pos := "ref.go:205", after := #[], guard := none }) (v := ?_) rfl (by kernel_rfl) (by kernel_rfl) (by kernel_rfl) (by kernel_rfl) (by kernel_rfl) (fun _ _ _ h => h) (Or.inl ⟨by rfl, ?_⟩) hHeld ?_
      rotate_left 1
      · intro u hSu
        have cL1 := hSu.out.last.1
        have cL2 := hSu.out.last.2
        go_simp
        first | done | with_reducible rfl
      (try simp only [Act.put, List.setIfInBounds_toArray, List.set_cons_zero, List.set_cons_succ])
      refine anyU_take (i := 1) (oi := { dst := some 88, op := Op.move (Operand.tmp 10), type := 43, pos := "ref.go:205", after := #[], guard := none }) (v := ?_) rfl (by kernel_rfl) (by kernel_rfl) (by kernel_rfl) (by kernel_rfl) (by kernel_rfl) (fun _ _ _ h => h) (Or.inl ⟨by rfl, ?_⟩) hHeld ?_
      rotate_left 1
      · intro u hSu
        have cL1 := hSu.out.last.1
        have cL2 := hSu.out.last.2
        go_simp
        first | done | with_reducible rfl
      (try simp only [Act.put, List.setIfInBounds_toArray, List.set_cons_zero, List.set_cons_succ])
      refine anyU_take (i := 2) (oi := { dst := some 89, op := Op.call { callee := Callee.builtin Builtin.len, args := #[Operand.tmp 88], argTypes := #[43] }, type := 3, pos := "ref.go:205", after := #[{ on := 1, ground := Ground.data }], guard := none }) (v := ?_) rfl (by kernel_rfl) (by kernel_rfl) (by kernel_rfl) (by kernel_rfl) (by kernel_rfl) (fun _ _ _ h => h) (Or.inl ⟨by rfl, ?_⟩) hHeld ?_
      rotate_left 1
      · intro u hSu
        have cL1 := hSu.out.last.1
        have cL2 := hSu.out.last.2
        go_simp
        first | done | with_reducible rfl
      (try simp only [Act.put, List.setIfInBounds_toArray, List.set_cons_zero, List.set_cons_succ])
      refine anyU_take (i := 3) (oi := { dst := some 90, op := Op.binOp BinOp.sub 3 (Operand.tmp 89) (Operand.const (Value.int IntKind.i64 1)) 3, type := 3, pos := "ref.go:205", after := #[{ on := 2, ground := Ground.data }], guard := none }) (v := ?_) rfl (by kernel_rfl) (by kernel_rfl) (by kernel_rfl) (by kernel_rfl) (by kernel_rfl) (fun _ _ _ h => h) (Or.inl ⟨by rfl, ?_⟩) hHeld ?_
      rotate_left 1
      · intro u hSu
        have cL1 := hSu.out.last.1
        have cL2 := hSu.out.last.2
        go_simp
        first | done | with_reducible rfl
      (try simp only [Act.put, List.setIfInBounds_toArray, List.set_cons_zero, List.set_cons_succ])
      refine anyU_take (i := 4) (oi := { dst := some 91, op := Op.indexAddr 43 (Operand.tmp 87) (Operand.tmp 90), type := 0, pos := "ref.go:205", after := #[{ on := 0, ground := Ground.data }, { on := 3, ground := Ground.data }], guard := none }) (v := ?_) rfl (by kernel_rfl) (by kernel_rfl) (by kernel_rfl) (by kernel_rfl) (by kernel_rfl) (fun _ _ _ h => h) (Or.inl ⟨by rfl, ?_⟩) hHeld ?_
      rotate_left 1
      · intro u hSu
        have cL1 := hSu.out.last.1
        have cL2 := hSu.out.last.2
        go_simp
        first | done | with_reducible rfl
      (try simp only [Act.put, List.setIfInBounds_toArray, List.set_cons_zero, List.set_cons_succ])
      refine anyU_take (i := 5) (oi := { dst := some 92, op := Op.fieldAddr 25 (Operand.tmp 91) 1, type := 0, pos := "ref.go:205", after := #[{ on := 4, ground := Ground.data }], guard := none }) (v := ?_) rfl (by kernel_rfl) (by kernel_rfl) (by kernel_rfl) (by kernel_rfl) (by kernel_rfl) (fun _ _ _ h => h) (Or.inl ⟨by rfl, ?_⟩) hHeld ?_
      rotate_left 1
      · intro u hSu
        have cL1 := hSu.out.last.1
        have cL2 := hSu.out.last.2
        go_simp
        first | done | with_reducible rfl
      (try simp only [Act.put, List.setIfInBounds_toArray, List.set_cons_zero, List.set_cons_succ])
      refine anyU_take (i := 6) (oi := { dst := some 93, op := Op.load 23 (Operand.tmp 92), type := 23, pos := "ref.go:205", after := #[{ on := 5, ground := Ground.data }], guard := none }) (v := ?_) rfl (by kernel_rfl) (by kernel_rfl) (by kernel_rfl) (by kernel_rfl) (by kernel_rfl) (fun _ _ _ h => h) (Or.inl ⟨by rfl, ?_⟩) hHeld ?_
      rotate_left 1
      · intro u hSu
        have cL1 := hSu.out.last.1
        have cL2 := hSu.out.last.2
        go_simp
        first | done | with_reducible rfl
      (try simp only [Act.put, List.setIfInBounds_toArray, List.set_cons_zero, List.set_cons_succ])
      refine anyU_take (i := 7) (oi := { dst := some 94, op := Op.move (Operand.tmp 13), type := 3, pos := "ref.go:205", after := #[], guard := none }) (v := ?_) rfl (by kernel_rfl) (by kernel_rfl) (by kernel_rfl) (by kernel_rfl) (by kernel_rfl) (fun _ _ _ h => h) (Or.inl ⟨by rfl, ?_⟩) hHeld ?_
      rotate_left 1
      · intro u hSu
        have cL1 := hSu.out.last.1
        have cL2 := hSu.out.last.2
        go_simp
        first | done | with_reducible rfl
      (try simp only [Act.put, List.setIfInBounds_toArray, List.set_cons_zero, List.set_cons_succ])
      refine anyU_ready (rs := [8]) (by kernel_rfl) (by simp) ?_
      refine EachU.cons (o := { dst := some 95, op := Op.call { callee := Callee.value (Operand.func 14), args := #[Operand.tmp 94], argTypes := #[3] }, type := 23, pos := "ref.go:205", after := #[{ on := 7, ground := Ground.data }], guard := none }) rfl (fun Kz hK => ?_) EachU.nil
      go_simp
      go_at_call 14
      refine (bit_any m hm2 _).mono ?_
      rintro e w9 ⟨rfl, rfl⟩
      refine hK.out _ _ (fun _ => hHeld) (fun hH2 => ?_)
      clear hK Kz hHeld
      have hHeld := hH2 rfl
      clear hH2
      (try simp only [Act.put, List.setIfInBounds_toArray, List.set_cons_zero, List.set_cons_succ])
      refine anyU_take (i := 9) (oi := { dst := some 96, op := Op.binOp BinOp.or 23 (Operand.tmp 93) (Operand.tmp 95) 23, type := 23, pos := "ref.go:205", after := #[{ on := 6, ground := Ground.data }, { on := 8, ground := Ground.data }], guard := none }) (v := ?_) rfl (by kernel_rfl) (by kernel_rfl) (by kernel_rfl) (by kernel_rfl) (by kernel_rfl) (fun _ _ _ h => h) (Or.inl ⟨by rfl, ?_⟩) hHeld ?_
      rotate_left 1
      · intro u hSu
        have cL1 := hSu.out.last.1
        have cL2 := hSu.out.last.2
        go_simp
        first | done | with_reducible rfl
      (try simp only [Act.put, List.setIfInBounds_toArray, List.set_cons_zero, List.set_cons_succ])
      refine anyU_take (i := 10) (oi := { dst := some 97, op := Op.indexAddr 43 (Operand.tmp 87) (Operand.tmp 90), type := 0, pos := "ref.go:205", after := #[{ on := 0, ground := Ground.data }, { on := 3, ground := Ground.data }, { on := 0, ground := Ground.phase }, { on := 1, ground := Ground.phase }, { on := 2, ground := Ground.phase }, { on := 3, ground := Ground.phase }, { on := 4, ground := Ground.phase }, { on := 5, ground := Ground.phase }, { on := 6, ground := Ground.phase }, { on := 7, ground := Ground.phase }, { on := 8, ground := Ground.phase }, { on := 9, ground := Ground.phase }], guard := none }) (v := ?_) rfl (by kernel_rfl) (by kernel_rfl) (by kernel_rfl) (by kernel_rfl) (by kernel_rfl) (fun _ _ _ h => h) (Or.inl ⟨by rfl, ?_⟩) hHeld ?_
      rotate_left 1
      · intro u hSu
        have cL1 := hSu.out.last.1
        have cL2 := hSu.out.last.2
        go_simp
        first | done | with_reducible rfl
      (try simp only [Act.put, List.setIfInBounds_toArray, List.set_cons_zero, List.set_cons_succ])
      refine anyU_take (i := 11) (oi := { dst := some 98, op := Op.fieldAddr 25 (Operand.tmp 97) 1, type := 0, pos := "ref.go:205", after := #[{ on := 10, ground := Ground.data }, { on := 0, ground := Ground.phase }, { on := 1, ground := Ground.phase }, { on := 2, ground := Ground.phase }, { on := 3, ground := Ground.phase }, { on := 4, ground := Ground.phase }, { on := 5, ground := Ground.phase }, { on := 6, ground := Ground.phase }, { on := 7, ground := Ground.phase }, { on := 8, ground := Ground.phase }, { on := 9, ground := Ground.phase }], guard := none }) (v := ?_) rfl (by kernel_rfl) (by kernel_rfl) (by kernel_rfl) (by kernel_rfl) (by kernel_rfl) (fun _ _ _ h => h) (Or.inl ⟨by rfl, ?_⟩) hHeld ?_
      rotate_left 1
      · intro u hSu
        have cL1 := hSu.out.last.1
        have cL2 := hSu.out.last.2
        go_simp
        first | done | with_reducible rfl
      (try simp only [Act.put, List.setIfInBounds_toArray, List.set_cons_zero, List.set_cons_succ])
      refine anyU_ready (rs := [12]) (by kernel_rfl) (by simp) ?_
      refine EachU.cons (o := { dst := none, op := Op.store 23 (Operand.tmp 98) (Operand.tmp 96), type := 0, pos := "ref.go:205", after := #[{ on := 11, ground := Ground.data }, { on := 9, ground := Ground.data }, { on := 8, ground := Ground.chain }, { on := 0, ground := Ground.phase }, { on := 1, ground := Ground.phase }, { on := 2, ground := Ground.phase }, { on := 3, ground := Ground.phase }, { on := 4, ground := Ground.phase }, { on := 5, ground := Ground.phase }, { on := 6, ground := Ground.phase }, { on := 7, ground := Ground.phase }, { on := 8, ground := Ground.phase }, { on := 9, ground := Ground.phase }], guard := none }) rfl (fun Kz hK => ?_) EachU.nil
      have cS := hHeld.out.last.2
      have fS := hHeld.out.frz (M.length * 2 + 1)
      go_simp
      refine hK.out _ _ (fun h => by cases h) (fun _ => ?_)
      clear hK Kz
      (try simp only [Act.put, List.setIfInBounds_toArray, List.set_cons_zero, List.set_cons_succ])
      refine anyU_done (by kernel_rfl) ?_ _
      have S4 := Lib.hid (hHeld.out.setLast (b2 m))
      rw [HW.out]
      clear hHeld HKd S3 HW cS fS n1 n3 HST HOP
      generalize (World.setCell _ _ _) = w7 at *
      go_wp2_with fail
      exact ⟨⟨k + 1, some ⟨g, 0, none⟩, cap, by omega, congrArg _ (by omega), by rw [HM2.out, HMM.out, List.length_append]; rfl, by rw [HM2.out, HMM.out, List.length_append]; exact S4⟩, by simp only [RowKit.intOf]; omega⟩
end Go.Proofs.YtlgmankojgjfjaaDoor

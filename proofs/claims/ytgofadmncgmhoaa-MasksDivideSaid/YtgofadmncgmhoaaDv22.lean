/- Parts of the proof, packed: MaDvLaw. -/
import Derived.Test.YtgofadmncgmhoaaDv21
import Derived.Test.YtgofadmncgmhoaaDv17
import Derived.Test.YtgofadmncgmhoaaDv5
/- masks: the law that masks divide the bits. -/
namespace Go.Proofs.Ytgofadmncgmhoaa
open Go.RowKit Bs
set_option maxRecDepth 100000 in
theorem md_atD {w : World} {base : Nat} {f : Int → Option Nat} {ts : List Int} {p : Option Addr} {c i : Nat} {u : Int} (h : w.ownsRow base 40 2 (.slice p (mdL f ts).length c) (mdL f ts).length ((mdL f ts).flatMap mdC)) (hu : ts[i]? = some u) :
    ∃ g, p = some ⟨g, 0, none⟩ ∧ ∀ j v, ts[j]? = some v → w.cell? ⟨g, j * 2, none⟩ = some (.int .i64 v) ∧ w.cell? ⟨g, j * 2 + 1, none⟩ = some (.int .u64 (((f v).getD 0 : Nat) : Int)) := by
  have hi : i < ts.length := (List.getElem?_eq_some_iff.1 hu).1
  obtain ⟨-, b, off, hp, -, hc⟩ := RdF.cells (f := mdC) (k := 2) (fun _ => rfl) (by decide) (rdf_of_own h) (by rw [mdL_len]; omega)
  obtain ⟨g, hg⟩ := own_p3 h (by rw [mdL_len]; omega)
  rw [hg] at hp
  injection hp with hp
  injection hp with e1 e2
  subst e1
  subst e2
  refine ⟨g, hg, fun j v hv => ?_⟩
  have hm : (mdL f ts)[j]? = some ⟨v, (f v).getD 0⟩ := by unfold mdL; rw [List.getElem?_map, hv]; rfl
  have h0 := hc j _ hm 0 _ rfl
  have h1 := hc j _ hm 1 _ rfl
  simp only [Nat.zero_add] at h0 h1
  exact ⟨h0, h1⟩
set_option maxRecDepth 100000 in
set_option maxHeartbeats 12800000 in
theorem divide_walk (v : Value) (w : World) (hv : IntsIn w v) :
    Calls Try.prog 3 #[v] w fun e w' => e = .returned (.bool true) ∧ w.grownBy w' none := by
  have HV := Lib.hid hv
  clear hv
  go_enter Try.func3, Try.ntmps3
  go_wp2_with fail
  refine (new_any v w HV.out).mono ?_
  rintro e w1 ⟨rfl, hg1, hT1⟩
  have H1 := Lib.hid (And.intro hg1 hT1)
  clear hg1 hT1 HV
  obtain ⟨a, ha⟩ : ∃ a, w.heap.size = a := ⟨_, rfl⟩
  have HA := Lib.hid ha
  rw [ha] at H1 ⊢
  clear ha
  go_wp2_with fail
  refine (ttab0_any a 0 (Int.le_refl 0) (by unfold I64; omega) _ H1.out.2).mono ?_
  rintro e w2 ⟨r, s, n, L, p, c, rfl, hO, hck, hs⟩
  obtain ⟨hR, -, hcc, hN⟩ := own_rdw hO
  have HCK := Lib.hid hck
  have HNN := Lib.hid hN
  have HG := Lib.hid (grown_new H1.out.1 hs.1 (by rw [HA.out]; exact Nat.le_refl _) : w.grownBy w2 none)
  have hL256 := (ck_ok hck).2.2.1
  have H3 := Lib.hid (bx_start (r := r) (s := s) (n := n) hR)
  have HT2 := Lib.hid hs.2
  clear hO hck hs hR hcc hN H1
  clear HT2
  go_upto_region 3 with fail
  generalize w2.alloc _ = w3 at *
  obtain ⟨d0, d1, d2, d3⟩ := row4T H3.out.bx
  go_wp2_with fail
  refine (rck11_any r s n p c L w3 H3.out.rd (by omega)).mono ?_
  rintro e w4 ⟨rfl, hg⟩
  rw [HCK.out]
  have H4 := Lib.hid (H3.out.keep hg)
  clear hg H3 d0 d1 d2 d3
  go_wp2_with fail
  go_loopw [5] (fun i wr => ∃ k : Nat, k ≤ 3 ∧ i = .int .i64 (k : Int) ∧ Hid (BX w2 r s n p c L wr)) (fun i _ => 3 - (RowKit.intOf i).toNat)
  case atStart => exact ⟨0, Nat.zero_le _, rfl, H4⟩
  case round =>
  clear H4
  obtain ⟨sN, hsN, rfl, K⟩ := hrel
  obtain ⟨w5, hw5⟩ : ∃ w5, w5 = wr := ⟨_, rfl⟩
  rw [← hw5] at K ⊢
  clear hw5
  by_cases hs3 : sN < 3
  case neg =>
    obtain rfl : sN = 3 := by omega
    have hn3 : ¬ ((3 : Nat) : Int) < 3 := by omega
    go_wp2_with fail
    refine (mawake_any w5).mono ?_
    rintro e w6 ⟨rfl, hg⟩
    have G := Lib.hid (grown_trans (grown_trans HG.out K.out.gr) hg)
    clear hg K
    go_wp2_with fail
    go_ret
    exact ⟨rfl, G.out⟩
  have hs3' : (sN : Int) < 3 := by omega
  go_wp2_with fail
  go_loopw [6, 7] (fun u i wr => ∃ k : Nat, k ≤ L.length ∧ u = .int .u64 ((wantK n (sN : Int) (L.take k) : Nat) : Int) ∧ i = .int .i64 (k : Int) ∧ Hid (U64 (wantK n (sN : Int) (L.take k))) ∧ Hid (BX w2 r s n p c L wr)) (fun _ i _ => L.length - (RowKit.intOf i).toNat)
  case atStart => exact ⟨0, Nat.zero_le _, by rw [List.take_zero]; rfl, rfl, Lib.hid (by rw [List.take_zero]; exact (u64_mk (by decide) : U64 0)), K⟩
  case round =>
  clear K
  obtain ⟨k, hk, rfl, rfl, HU, K⟩ := hrel
  obtain ⟨w6, hw6⟩ : ∃ w6, w6 = wr := ⟨_, rfl⟩
  rw [← hw6] at K ⊢
  clear hw6
  obtain ⟨d0, d1, d2, d3⟩ := row4T K.out.bx
  by_cases hlt : k < L.length
  case pos =>
    have hlt' : (k : Int) < (L.length : Int) := by omega
    have hk0 : (0 : Int) ≤ (k : Int) := by omega
    obtain ⟨x, hx⟩ : ∃ x, L[k]? = some x := ⟨_, List.getElem?_eq_getElem hlt⟩
    obtain ⟨-, b, off, rfl, -, hc⟩ := rw_cells K.out.rd.rd (by omega)
    obtain ⟨a0, a1⟩ := hc k x hx
    have HX := Lib.hid (List.mem_of_getElem? hx)
    have HW := Lib.hid (wantK_take (n := n) (set := (sN : Int)) hx)
    clear hc hx
    obtain ⟨WK, hWK⟩ : ∃ WK, wantK n (sN : Int) (L.take k) = WK := ⟨_, rfl⟩
    rw [hWK] at HU HW ⊢
    clear hWK
    have HU2 := Lib.hid (wantS_u (n := n) (set := (sN : Int)) HU.out x)
    go_upto_region 12 with fail
    refine wp_region_held_drew (S := fun w' => Hid (w6.grownBy w' none)) (by kernel_rfl) (Lib.hid (grown_drew (grown_refl _ none))) (fun hHeld => ?_)
    refine wpAnyH_take (i := 0) (oi := { dst := some 34, op := Op.fieldAddr 27 (Operand.tmp 4) 3, type := 0, pos := "law.go:78", after := #[], guard := none }) (v := ?_) rfl (by kernel_rfl) (by kernel_rfl) (by kernel_rfl) (fun _ _ _ h => h) (Or.inl ⟨by rfl, ?_⟩) hHeld ?_
    rotate_left 1
    · intro u hSu
      obtain ⟨d0u, d1u, d2u, d3u⟩ := row4T (K.out.keep hSu.out).bx
      have a0u := hSu.out.cell a0 (by simp)
      have a1u := hSu.out.cell a1 (by simp)
      go_simp
      first | done | with_reducible rfl
    (try simp only [Act.put, List.setIfInBounds_toArray, List.set_cons_zero, List.set_cons_succ])
    refine wpAnyH_take (i := 1) (oi := { dst := some 35, op := Op.load 25 (Operand.tmp 34), type := 25, pos := "law.go:78", after := #[{ on := 0, ground := Ground.data }], guard := none }) (v := ?_) rfl (by kernel_rfl) (by kernel_rfl) (by kernel_rfl) (fun _ _ _ h => h) (Or.inl ⟨by rfl, ?_⟩) hHeld ?_
    rotate_left 1
    · intro u hSu
      obtain ⟨d0u, d1u, d2u, d3u⟩ := row4T (K.out.keep hSu.out).bx
      have a0u := hSu.out.cell a0 (by simp)
      have a1u := hSu.out.cell a1 (by simp)
      go_simp
      first | done | with_reducible rfl
    (try simp only [Act.put, List.setIfInBounds_toArray, List.set_cons_zero, List.set_cons_succ])
    refine wpAnyH_take (i := 2) (oi := { dst := some 36, op := Op.move (Operand.tmp 7), type := 3, pos := "law.go:78", after := #[], guard := none }) (v := ?_) rfl (by kernel_rfl) (by kernel_rfl) (by kernel_rfl) (fun _ _ _ h => h) (Or.inl ⟨by rfl, ?_⟩) hHeld ?_
    rotate_left 1
    · intro u hSu
      obtain ⟨d0u, d1u, d2u, d3u⟩ := row4T (K.out.keep hSu.out).bx
      have a0u := hSu.out.cell a0 (by simp)
      have a1u := hSu.out.cell a1 (by simp)
      go_simp
      first | done | with_reducible rfl
    (try simp only [Act.put, List.setIfInBounds_toArray, List.set_cons_zero, List.set_cons_succ])
    refine wpAnyH_take (i := 3) (oi := { dst := some 37, op := Op.indexAddr 25 (Operand.tmp 35) (Operand.tmp 36), type := 0, pos := "law.go:78", after := #[{ on := 1, ground := Ground.data }, { on := 2, ground := Ground.data }], guard := none }) (v := ?_) rfl (by kernel_rfl) (by kernel_rfl) (by kernel_rfl) (fun _ _ _ h => h) (Or.inl ⟨by rfl, ?_⟩) hHeld ?_
    rotate_left 1
    · intro u hSu
      obtain ⟨d0u, d1u, d2u, d3u⟩ := row4T (K.out.keep hSu.out).bx
      have a0u := hSu.out.cell a0 (by simp)
      have a1u := hSu.out.cell a1 (by simp)
      go_simp
      first | done | with_reducible rfl
    (try simp only [Act.put, List.setIfInBounds_toArray, List.set_cons_zero, List.set_cons_succ])
    refine wpAnyH_take (i := 4) (oi := { dst := some 38, op := Op.fieldAddr 35 (Operand.tmp 37) 0, type := 0, pos := "law.go:78", after := #[{ on := 3, ground := Ground.data }], guard := none }) (v := ?_) rfl (by kernel_rfl) (by kernel_rfl) (by kernel_rfl) (fun _ _ _ h => h) (Or.inl ⟨by rfl, ?_⟩) hHeld ?_
    rotate_left 1
    · intro u hSu
      obtain ⟨d0u, d1u, d2u, d3u⟩ := row4T (K.out.keep hSu.out).bx
      have a0u := hSu.out.cell a0 (by simp)
      have a1u := hSu.out.cell a1 (by simp)
      go_simp
      first | done | with_reducible rfl
    (try simp only [Act.put, List.setIfInBounds_toArray, List.set_cons_zero, List.set_cons_succ])
    refine wpAnyH_take (i := 5) (oi := { dst := some 39, op := Op.load 3 (Operand.tmp 38), type := 3, pos := "law.go:78", after := #[{ on := 4, ground := Ground.data }], guard := none }) (v := ?_) rfl (by kernel_rfl) (by kernel_rfl) (by kernel_rfl) (fun _ _ _ h => h) (Or.inl ⟨by rfl, ?_⟩) hHeld ?_
    rotate_left 1
    · intro u hSu
      obtain ⟨d0u, d1u, d2u, d3u⟩ := row4T (K.out.keep hSu.out).bx
      have a0u := hSu.out.cell a0 (by simp)
      have a1u := hSu.out.cell a1 (by simp)
      go_simp
      first | done | with_reducible rfl
    (try simp only [Act.put, List.setIfInBounds_toArray, List.set_cons_zero, List.set_cons_succ])
    refine wpAnyH_take (i := 6) (oi := { dst := some 40, op := Op.fieldAddr 27 (Operand.tmp 4) 2, type := 0, pos := "law.go:78", after := #[], guard := none }) (v := ?_) rfl (by kernel_rfl) (by kernel_rfl) (by kernel_rfl) (fun _ _ _ h => h) (Or.inl ⟨by rfl, ?_⟩) hHeld ?_
    rotate_left 1
    · intro u hSu
      obtain ⟨d0u, d1u, d2u, d3u⟩ := row4T (K.out.keep hSu.out).bx
      have a0u := hSu.out.cell a0 (by simp)
      have a1u := hSu.out.cell a1 (by simp)
      go_simp
      first | done | with_reducible rfl
    (try simp only [Act.put, List.setIfInBounds_toArray, List.set_cons_zero, List.set_cons_succ])
    refine wpAnyH_take (i := 7) (oi := { dst := some 41, op := Op.load 3 (Operand.tmp 40), type := 3, pos := "law.go:78", after := #[{ on := 6, ground := Ground.data }], guard := none }) (v := ?_) rfl (by kernel_rfl) (by kernel_rfl) (by kernel_rfl) (fun _ _ _ h => h) (Or.inl ⟨by rfl, ?_⟩) hHeld ?_
    rotate_left 1
    · intro u hSu
      obtain ⟨d0u, d1u, d2u, d3u⟩ := row4T (K.out.keep hSu.out).bx
      have a0u := hSu.out.cell a0 (by simp)
      have a1u := hSu.out.cell a1 (by simp)
      go_simp
      first | done | with_reducible rfl
    (try simp only [Act.put, List.setIfInBounds_toArray, List.set_cons_zero, List.set_cons_succ])
    refine wpAnyH_ready (rs := [8]) (by kernel_rfl) (by simp) ?_
    refine AllReadyH.cons (o := { dst := some 42, op := Op.call { callee := Callee.value (Operand.func 9), args := #[Operand.tmp 39, Operand.tmp 41], argTypes := #[3, 3] }, type := 32, pos := "law.go:78", after := #[{ on := 5, ground := Ground.data }, { on := 7, ground := Ground.data }], guard := none }) rfl (fun Kz hK => ?_) AllReadyH.nil
    go_simp
    go_at_call 9
    refine (irplc_any x.id n _).mono ?_
    rintro e' w7 ⟨rfl, hg⟩
    have HN := Lib.hid (grown_trans hHeld.out hg)
    clear hg
    simp only
    refine hK.out _ _ (HN) (fun hH2 => ?_)
    clear hK Kz hHeld
    have hHeld := hH2
    clear hH2
    (try simp only [Act.put, List.setIfInBounds_toArray, List.set_cons_zero, List.set_cons_succ])
    refine wpAnyH_take (i := 9) (oi := { dst := some 33, op := Op.move (Operand.tmp 42), type := 32, pos := "law.go:78", after := #[{ on := 8, ground := Ground.data }], guard := none }) (v := ?_) rfl (by kernel_rfl) (by kernel_rfl) (by kernel_rfl) (fun _ _ _ h => h) (Or.inl ⟨by rfl, ?_⟩) hHeld ?_
    rotate_left 1
    · intro u hSu
      obtain ⟨d0u, d1u, d2u, d3u⟩ := row4T (K.out.keep hSu.out).bx
      have a0u := hSu.out.cell a0 (by simp)
      have a1u := hSu.out.cell a1 (by simp)
      go_simp
      first | done | with_reducible rfl
    (try simp only [Act.put, List.setIfInBounds_toArray, List.set_cons_zero, List.set_cons_succ])
    refine wpAnyH_take (i := 10) (oi := { dst := some 43, op := Op.extract (Operand.tmp 33) 0, type := 3, pos := "law.go:78", after := #[{ on := 9, ground := Ground.data }], guard := none }) (v := ?_) rfl (by kernel_rfl) (by kernel_rfl) (by kernel_rfl) (fun _ _ _ h => h) (Or.inl ⟨by rfl, ?_⟩) hHeld ?_
    rotate_left 1
    · intro u hSu
      obtain ⟨d0u, d1u, d2u, d3u⟩ := row4T (K.out.keep hSu.out).bx
      have a0u := hSu.out.cell a0 (by simp)
      have a1u := hSu.out.cell a1 (by simp)
      go_simp
      first | done | with_reducible rfl
    (try simp only [Act.put, List.setIfInBounds_toArray, List.set_cons_zero, List.set_cons_succ])
    refine wpAnyH_take (i := 11) (oi := { dst := some 44, op := Op.extract (Operand.tmp 33) 1, type := 3, pos := "law.go:78", after := #[{ on := 9, ground := Ground.data }, { on := 13, ground := Ground.gcOnly Departure.lateStores }], guard := none }) (v := ?_) rfl (by kernel_rfl) (by kernel_rfl) (by kernel_rfl) (fun _ _ _ h => h) (Or.inl ⟨by rfl, ?_⟩) hHeld ?_
    rotate_left 1
    · intro u hSu
      obtain ⟨d0u, d1u, d2u, d3u⟩ := row4T (K.out.keep hSu.out).bx
      have a0u := hSu.out.cell a0 (by simp)
      have a1u := hSu.out.cell a1 (by simp)
      go_simp
      first | done | with_reducible rfl
    (try simp only [Act.put, List.setIfInBounds_toArray, List.set_cons_zero, List.set_cons_succ])
    refine wpAnyH_take (i := 12) (oi := { dst := some 45, op := Op.extract (Operand.tmp 33) 2, type := 4, pos := "law.go:78", after := #[{ on := 9, ground := Ground.data }, { on := 14, ground := Ground.gcOnly Departure.lateStores }], guard := none }) (v := ?_) rfl (by kernel_rfl) (by kernel_rfl) (by kernel_rfl) (fun _ _ _ h => h) (Or.inl ⟨by rfl, ?_⟩) hHeld ?_
    rotate_left 1
    · intro u hSu
      obtain ⟨d0u, d1u, d2u, d3u⟩ := row4T (K.out.keep hSu.out).bx
      have a0u := hSu.out.cell a0 (by simp)
      have a1u := hSu.out.cell a1 (by simp)
      go_simp
      first | done | with_reducible rfl
    (try simp only [Act.put, List.setIfInBounds_toArray, List.set_cons_zero, List.set_cons_succ])
    refine wpAnyH_take (i := 13) (oi := { dst := some 8, op := Op.assign (Operand.tmp 43), type := 3, pos := "law.go:78", after := #[{ on := 10, ground := Ground.data }, { on := 8, ground := Ground.chain }, { on := 0, ground := Ground.phase }, { on := 1, ground := Ground.phase }, { on := 2, ground := Ground.phase }, { on := 3, ground := Ground.phase }, { on := 4, ground := Ground.phase }, { on := 5, ground := Ground.phase }, { on := 6, ground := Ground.phase }, { on := 7, ground := Ground.phase }, { on := 8, ground := Ground.phase }, { on := 9, ground := Ground.phase }, { on := 10, ground := Ground.phase }, { on := 11, ground := Ground.textOnly Departure.lateStores }, { on := 12, ground := Ground.textOnly Departure.lateStores }], guard := none }) (v := ?_) rfl (by kernel_rfl) (by kernel_rfl) (by kernel_rfl) (fun _ _ _ h => h) (Or.inl ⟨by rfl, ?_⟩) hHeld ?_
    rotate_left 1
    · intro u hSu
      obtain ⟨d0u, d1u, d2u, d3u⟩ := row4T (K.out.keep hSu.out).bx
      have a0u := hSu.out.cell a0 (by simp)
      have a1u := hSu.out.cell a1 (by simp)
      go_simp
      first | done | with_reducible rfl
    (try simp only [Act.put, List.setIfInBounds_toArray, List.set_cons_zero, List.set_cons_succ])
    refine wpAnyH_take (i := 14) (oi := { dst := some 9, op := Op.assign (Operand.tmp 44), type := 3, pos := "law.go:78", after := #[{ on := 11, ground := Ground.data }, { on := 13, ground := Ground.chain }, { on := 0, ground := Ground.phase }, { on := 1, ground := Ground.phase }, { on := 2, ground := Ground.phase }, { on := 3, ground := Ground.phase }, { on := 4, ground := Ground.phase }, { on := 5, ground := Ground.phase }, { on := 6, ground := Ground.phase }, { on := 7, ground := Ground.phase }, { on := 8, ground := Ground.phase }, { on := 9, ground := Ground.phase }, { on := 10, ground := Ground.phase }, { on := 11, ground := Ground.phase }, { on := 12, ground := Ground.textOnly Departure.lateStores }, { on := 13, ground := Ground.phase }], guard := none }) (v := ?_) rfl (by kernel_rfl) (by kernel_rfl) (by kernel_rfl) (fun _ _ _ h => h) (Or.inl ⟨by rfl, ?_⟩) hHeld ?_
    rotate_left 1
    · intro u hSu
      obtain ⟨d0u, d1u, d2u, d3u⟩ := row4T (K.out.keep hSu.out).bx
      have a0u := hSu.out.cell a0 (by simp)
      have a1u := hSu.out.cell a1 (by simp)
      go_simp
      first | done | with_reducible rfl
    (try simp only [Act.put, List.setIfInBounds_toArray, List.set_cons_zero, List.set_cons_succ])
    refine wpAnyH_take (i := 15) (oi := { dst := some 10, op := Op.assign (Operand.tmp 45), type := 4, pos := "law.go:78", after := #[{ on := 12, ground := Ground.data }, { on := 14, ground := Ground.chain }, { on := 0, ground := Ground.phase }, { on := 1, ground := Ground.phase }, { on := 2, ground := Ground.phase }, { on := 3, ground := Ground.phase }, { on := 4, ground := Ground.phase }, { on := 5, ground := Ground.phase }, { on := 6, ground := Ground.phase }, { on := 7, ground := Ground.phase }, { on := 8, ground := Ground.phase }, { on := 9, ground := Ground.phase }, { on := 10, ground := Ground.phase }, { on := 11, ground := Ground.phase }, { on := 12, ground := Ground.phase }, { on := 13, ground := Ground.phase }, { on := 14, ground := Ground.phase }], guard := none }) (v := ?_) rfl (by kernel_rfl) (by kernel_rfl) (by kernel_rfl) (fun _ _ _ h => h) (Or.inl ⟨by rfl, ?_⟩) hHeld ?_
    rotate_left 1
    · intro u hSu
      obtain ⟨d0u, d1u, d2u, d3u⟩ := row4T (K.out.keep hSu.out).bx
      have a0u := hSu.out.cell a0 (by simp)
      have a1u := hSu.out.cell a1 (by simp)
      go_simp
      first | done | with_reducible rfl
    (try simp only [Act.put, List.setIfInBounds_toArray, List.set_cons_zero, List.set_cons_succ])
    refine wpAnyH_done (by kernel_rfl) ?_ _
    have K6 := Lib.hid (K.out.keep hHeld.out)
    have A6 := Lib.hid (And.intro (hHeld.out.cell a0 (by simp)) (hHeld.out.cell a1 (by simp)))
    clear hHeld d0 d1 d2 d3 a0 a1 K
    rw [row_pl HCK.out HX.out]
    have hb64 := plB_lt64 x.id n
    obtain ⟨jb, hjb⟩ : ∃ jb : Nat, plB x.id n = (jb : Int) := ⟨(plB x.id n).toNat, by have := plB_nn x.id n; omega⟩
    obtain ⟨NL, hNL⟩ : ∃ NL, x.nx.length = NL := ⟨_, rfl⟩
    unfold wantS at HW HU2
    rw [hjb, Int.toNat_natCast, hNL] at HW HU2
    rw [hjb, Int.toNat_natCast] at hb64
    rw [hNL] at A6
    rw [hjb]
    obtain ⟨sv, hsv⟩ : ∃ sv, plS x.id n = sv := ⟨_, rfl⟩
    rw [hsv] at HW HU2 ⊢
    clear hjb hsv hNL
    obtain ⟨a0, a1⟩ := A6.out
    obtain ⟨d0, d1, d2, d3⟩ := row4T K6.out.bx
    by_cases hsv : sv = (sN : Int)
    case neg =>
      have hsv' : (sv == (sN : Int)) = false := by simpa using hsv
      rw [if_neg (fun h => hsv h.1)] at HW HU2
      rw [← HW.out] at HU2
      clear HU hsv
      go_wp2_with fail
      exact ⟨⟨k + 1, by omega, by rw [HW.out], congrArg (Value.int .i64) (by omega), HU2, K6⟩, by simp only [RowKit.intOf]; omega⟩
    subst hsv
    have hsv' : ((sN : Int) == (sN : Int)) = true := by simp
    by_cases h0 : 0 < NL
    case neg =>
      have h0' : ¬ (0 : Int) < (NL : Int) := by omega
      rw [if_neg (fun h => h0 h.2)] at HW HU2
      rw [← HW.out] at HU2
      clear HU h0
      go_wp2_with fail
      exact ⟨⟨k + 1, by omega, by rw [HW.out], congrArg (Value.int .i64) (by omega), HU2, K6⟩, by simp only [RowKit.intOf]; omega⟩
    have h0' : (0 : Int) < (NL : Int) := by omega
    rw [if_pos ⟨rfl, h0⟩] at HW HU2
    clear h0
    go_upto_region 14 with fail
    go_wp2_with fail
    refine (bit1_any jb hb64 w7).mono ?_
    rintro e w8 ⟨rfl, rfl⟩
    have hor := u64_or_nat WK (b2 jb) HU.out (b2_u64 hb64)
    obtain ⟨BJ, hBJ⟩ : ∃ BJ, b2 jb = BJ := ⟨_, rfl⟩
    rw [hBJ] at HW HU2 hor ⊢
    clear hBJ HU
    rw [← HW.out] at HU2 hor
    go_wp2_with fail
    exact ⟨⟨k + 1, by omega, rfl, congrArg (Value.int .i64) (by omega), HU2, K6⟩, by simp only [RowKit.intOf]; omega⟩
  obtain rfl : k = L.length := by omega
  have hnl : ¬ (L.length : Int) < (L.length : Int) := by omega
  rw [List.take_length] at HU ⊢
  have HWD := Lib.hid (fun (P : Nat) (hP : P < 8) ts (hA : AscM (coF r s n L (P : Int) (sN : Int)) ts) => dv_full HCK.out hP hA)
  have HWR := Lib.hid (fun R (hR : RcO (coF r s n L 0 (sN : Int)) R) => dv_reach HCK.out hR)
  obtain ⟨WT, hWT⟩ : ∃ WT, wantK n (sN : Int) L = WT := ⟨_, rfl⟩
  rw [hWT] at HU HWD HWR ⊢
  clear hWT d0 d1 d2 d3
  obtain ⟨d0, d1, d2, d3⟩ := row4T K.out.bx
  go_upto_region 15 with fail
  clear d0 d1 d2 d3
  go_wp2_with fail
  go_loopw [11] (fun i wr => ∃ k : Nat, k ≤ 8 ∧ i = .int .i64 (k : Int) ∧ Hid (BX w2 r s n p c L wr)) (fun i _ => 8 - (RowKit.intOf i).toNat)
  case atStart => exact ⟨0, Nat.zero_le _, rfl, K⟩
  case round =>
  clear K
  obtain ⟨P, hP, rfl, K⟩ := hrel
  obtain ⟨w7, hw7⟩ : ∃ w7, w7 = wr := ⟨_, rfl⟩
  rw [← hw7] at K ⊢
  clear hw7
  obtain ⟨d0, d1, d2, d3⟩ := row4T K.out.bx
  by_cases hP8 : P < 8
  case neg =>
    obtain rfl : P = 8 := by omega
    have hn8 : ¬ ((8 : Nat) : Int) < 8 := by omega
    go_wp2_with fail
    refine (mreach_any r s n p c L (sN : Int) w7 K.out.rd (by omega)).mono ?_
    rintro e w8 ⟨R, rfl, hR, hg⟩
    obtain rfl := HWR.out R hR
    have K8 := Lib.hid (K.out.keep hg)
    have hne : ((R : Int) != (R : Int)) = false := by simp
    clear hR hg K d0 d1 d2 d3
    go_wp2_with fail
    exact ⟨⟨sN + 1, by omega, congrArg (Value.int .i64) (by omega), K8⟩, by simp only [RowKit.intOf]; omega⟩
  have hP8' : (P : Int) < 8 := by omega
  go_upto_region 19 with fail
  go_wp2_with fail
  refine (mall_any r s n p c L (P : Int) (sN : Int) w7 K.out.rd (by omega)).mono ?_
  rintro e w8 ⟨ts, pm, cm, rfl, hA, hO, hg⟩
  have K8 := Lib.hid (K.out.keep hg)
  have HO := Lib.hid hO
  have HA2 := Lib.hid hA
  have HFU := Lib.hid (HWD.out P hP8 ts hA)
  have HOW := Lib.hid (dv_own (set := (sN : Int)) HCK.out hP8)
  have HAP := Lib.hid (fun i u (hu : ts[i]? = some u) => dv_apart HCK.out hP8 hA hu)
  have HSM := Lib.hid (fun i u (hu : ts[i]? = some u) => dv_some HCK.out hP8 hA hu)
  have HCO := Lib.hid (coF_ok r s n L (P : Int) (sN : Int))
  have hl99 := ascM_len hA (coF_ok r s n L (P : Int) (sN : Int))
  have hml := mdL_len (coF r s n L (P : Int) (sN : Int)) ts
  have HF := Lib.hid (fun (u : Int) (hu : I64 u) (w : World) (hR : RdW w (· < w.heap.size) p c L) => mmask_any r s n p c L (P : Int) (sN : Int) u hu w hR (by omega))
  obtain ⟨f, hf⟩ : ∃ f, coF r s n L (P : Int) (sN : Int) = f := ⟨_, rfl⟩
  rw [hf] at HO HA2 HFU HOW HAP HSM HCO HF hml ⊢
  rw [hml]
  clear hf hA hO hg K d0 d1 d2 d3 hml
  go_upto_region 20 with fail
  go_wp2_with fail
  go_loopw [12, 14] (fun u i wr => ∃ k : Nat, k ≤ ts.length ∧ u = .int .u64 ((allK f (ts.take k) : Nat) : Int) ∧ i = .int .i64 (k : Int) ∧ Hid (w8.grownBy wr none)) (fun _ i _ => ts.length - (RowKit.intOf i).toNat)
  case atStart => exact ⟨0, Nat.zero_le _, by rw [List.take_zero]; rfl, rfl, Lib.hid (grown_refl _ _)⟩
  case round =>
  obtain ⟨i, hi, rfl, rfl, G⟩ := hrel
  obtain ⟨w9, hw9⟩ : ∃ w9, w9 = wr := ⟨_, rfl⟩
  rw [← hw9] at G ⊢
  clear hw9
  by_cases hlt : i < ts.length
  case neg =>
    obtain rfl : i = ts.length := by omega
    have hnl2 : ¬ (ts.length : Int) < (ts.length : Int) := by omega
    rw [List.take_length, HFU.out]
    have hne : ((WT : Int) != (WT : Int)) = false := by simp
    have K9 := Lib.hid (K8.out.keep G.out)
    obtain ⟨d0, d1, d2, d3⟩ := row4T K9.out.bx
    clear G
    have hri : I64 r := by
      have h1 := (ck_ok HCK.out).1
      unfold hdT inV at h1
      rw [Bool.not_eq_false'] at h1
      simp only [Bool.and_eq_true, decide_eq_true_eq] at h1
      unfold I64; omega
    go_upto_region 26 with fail
    refine wp_region_held_drew (S := fun w' => Hid (w9.grownBy w' none)) (by kernel_rfl) (Lib.hid (grown_drew (grown_refl _ none))) (fun hHeld => ?_)
    refine wpAnyH_take (i := 0) (oi := { dst := some 138, op := Op.move (Operand.tmp 12), type := 31, pos := "law.go:92", after := #[], guard := none }) (v := ?_) rfl (by kernel_rfl) (by kernel_rfl) (by kernel_rfl) (fun _ _ _ h => h) (Or.inl ⟨by rfl, ?_⟩) hHeld ?_
    rotate_left 1
    · intro u hSu
      obtain ⟨d0u, d1u, d2u, d3u⟩ := row4T (K9.out.keep hSu.out).bx
      go_simp
      first | done | with_reducible rfl
    (try simp only [Act.put, List.setIfInBounds_toArray, List.set_cons_zero, List.set_cons_succ])
    refine wpAnyH_take (i := 1) (oi := { dst := some 139, op := Op.move (Operand.tmp 6), type := 31, pos := "law.go:92", after := #[], guard := none }) (v := ?_) rfl (by kernel_rfl) (by kernel_rfl) (by kernel_rfl) (fun _ _ _ h => h) (Or.inl ⟨by rfl, ?_⟩) hHeld ?_
    rotate_left 1
    · intro u hSu
      obtain ⟨d0u, d1u, d2u, d3u⟩ := row4T (K9.out.keep hSu.out).bx
      go_simp
      first | done | with_reducible rfl
    (try simp only [Act.put, List.setIfInBounds_toArray, List.set_cons_zero, List.set_cons_succ])
    refine wpAnyH_take (i := 2) (oi := { dst := some 140, op := Op.binOp BinOp.neq 31 (Operand.tmp 138) (Operand.tmp 139) 31, type := 4, pos := "law.go:92", after := #[{ on := 0, ground := Ground.data }, { on := 1, ground := Ground.data }], guard := none }) (v := .bool false) rfl (by kernel_rfl) (by kernel_rfl) (by kernel_rfl) (fun _ _ _ h => h) (Or.inl ⟨by rfl, ?_⟩) hHeld ?_
    · intro u hSu
      obtain ⟨d0u, d1u, d2u, d3u⟩ := row4T (K9.out.keep hSu.out).bx
      go_simp
      first | done | exact hne | rfl
    (try simp only [Act.put, List.setIfInBounds_toArray, List.set_cons_zero, List.set_cons_succ])
    refine wpAnyH_take (i := 3) (oi := { dst := some 141, op := Op.move (Operand.tmp 140), type := 4, pos := "law.go:92", after := #[{ on := 2, ground := Ground.data }], guard := none }) (v := .bool false) rfl (by kernel_rfl) (by kernel_rfl) (by kernel_rfl) (fun _ _ _ h => h) (Or.inl ⟨by rfl, ?_⟩) hHeld ?_
    · intro u hSu
      obtain ⟨d0u, d1u, d2u, d3u⟩ := row4T (K9.out.keep hSu.out).bx
      go_simp
      first | done | rfl
    (try simp only [Act.put, List.setIfInBounds_toArray, List.set_cons_zero, List.set_cons_succ])
    refine wpAnyH_take (i := 4) (oi := { dst := some 142, op := Op.load 27 (Operand.tmp 4), type := 27, pos := "law.go:92", after := #[{ on := 3, ground := Ground.guard }], guard := some (3, false) }) (v := ?_) rfl (by kernel_rfl) (by kernel_rfl) (by kernel_rfl) (fun _ _ _ h => h) (Or.inl ⟨by rfl, ?_⟩) hHeld ?_
    rotate_left 1
    · intro u hSu
      obtain ⟨d0u, d1u, d2u, d3u⟩ := row4T (K9.out.keep hSu.out).bx
      go_simp
      first | done | with_reducible rfl
    (try simp only [Act.put, List.setIfInBounds_toArray, List.set_cons_zero, List.set_cons_succ])
    refine wpAnyH_take (i := 5) (oi := { dst := some 143, op := Op.move (Operand.tmp 11), type := 3, pos := "law.go:92", after := #[{ on := 3, ground := Ground.guard }], guard := some (3, false) }) (v := ?_) rfl (by kernel_rfl) (by kernel_rfl) (by kernel_rfl) (fun _ _ _ h => h) (Or.inl ⟨by rfl, ?_⟩) hHeld ?_
    rotate_left 1
    · intro u hSu
      obtain ⟨d0u, d1u, d2u, d3u⟩ := row4T (K9.out.keep hSu.out).bx
      go_simp
      first | done | with_reducible rfl
    (try simp only [Act.put, List.setIfInBounds_toArray, List.set_cons_zero, List.set_cons_succ])
    refine wpAnyH_take (i := 6) (oi := { dst := some 144, op := Op.move (Operand.tmp 5), type := 3, pos := "law.go:92", after := #[{ on := 3, ground := Ground.guard }], guard := some (3, false) }) (v := ?_) rfl (by kernel_rfl) (by kernel_rfl) (by kernel_rfl) (fun _ _ _ h => h) (Or.inl ⟨by rfl, ?_⟩) hHeld ?_
    rotate_left 1
    · intro u hSu
      obtain ⟨d0u, d1u, d2u, d3u⟩ := row4T (K9.out.keep hSu.out).bx
      go_simp
      first | done | with_reducible rfl
    (try simp only [Act.put, List.setIfInBounds_toArray, List.set_cons_zero, List.set_cons_succ])
    refine wpAnyH_take (i := 7) (oi := { dst := some 145, op := Op.fieldAddr 27 (Operand.tmp 4) 0, type := 0, pos := "law.go:92", after := #[{ on := 3, ground := Ground.guard }], guard := some (3, false) }) (v := ?_) rfl (by kernel_rfl) (by kernel_rfl) (by kernel_rfl) (fun _ _ _ h => h) (Or.inl ⟨by rfl, ?_⟩) hHeld ?_
    rotate_left 1
    · intro u hSu
      obtain ⟨d0u, d1u, d2u, d3u⟩ := row4T (K9.out.keep hSu.out).bx
      go_simp
      first | done | with_reducible rfl
    (try simp only [Act.put, List.setIfInBounds_toArray, List.set_cons_zero, List.set_cons_succ])
    refine wpAnyH_take (i := 8) (oi := { dst := some 146, op := Op.load 3 (Operand.tmp 145), type := 3, pos := "law.go:92", after := #[{ on := 7, ground := Ground.data }, { on := 3, ground := Ground.guard }], guard := some (3, false) }) (v := ?_) rfl (by kernel_rfl) (by kernel_rfl) (by kernel_rfl) (fun _ _ _ h => h) (Or.inl ⟨by rfl, ?_⟩) hHeld ?_
    rotate_left 1
    · intro u hSu
      obtain ⟨d0u, d1u, d2u, d3u⟩ := row4T (K9.out.keep hSu.out).bx
      go_simp
      first | done | with_reducible rfl
    (try simp only [Act.put, List.setIfInBounds_toArray, List.set_cons_zero, List.set_cons_succ])
    refine wpAnyH_take (i := 10) (oi := { dst := some 148, op := Op.load 27 (Operand.tmp 4), type := 27, pos := "law.go:92", after := #[{ on := 3, ground := Ground.guard }], guard := some (3, false) }) (v := ?_) rfl (by kernel_rfl) (by kernel_rfl) (by kernel_rfl) (fun _ _ _ h => h) (Or.inl ⟨by rfl, ?_⟩) hHeld ?_
    rotate_left 1
    · intro u hSu
      obtain ⟨d0u, d1u, d2u, d3u⟩ := row4T (K9.out.keep hSu.out).bx
      go_simp
      first | done | with_reducible rfl
    (try simp only [Act.put, List.setIfInBounds_toArray, List.set_cons_zero, List.set_cons_succ])
    refine wpAnyH_take (i := 11) (oi := { dst := some 149, op := Op.move (Operand.tmp 5), type := 3, pos := "law.go:92", after := #[{ on := 3, ground := Ground.guard }], guard := some (3, false) }) (v := ?_) rfl (by kernel_rfl) (by kernel_rfl) (by kernel_rfl) (fun _ _ _ h => h) (Or.inl ⟨by rfl, ?_⟩) hHeld ?_
    rotate_left 1
    · intro u hSu
      obtain ⟨d0u, d1u, d2u, d3u⟩ := row4T (K9.out.keep hSu.out).bx
      go_simp
      first | done | with_reducible rfl
    (try simp only [Act.put, List.setIfInBounds_toArray, List.set_cons_zero, List.set_cons_succ])
    refine wpAnyH_ready (rs := [9]) (by kernel_rfl) (by simp) ?_
    refine AllReadyH.cons (o := { dst := some 147, op := Op.call { callee := Callee.value (Operand.func 12), args := #[Operand.tmp 142, Operand.tmp 143, Operand.tmp 144, Operand.tmp 146], argTypes := #[27, 3, 3, 3] }, type := 31, pos := "law.go:92", after := #[{ on := 4, ground := Ground.data }, { on := 5, ground := Ground.data }, { on := 6, ground := Ground.data }, { on := 8, ground := Ground.data }, { on := 3, ground := Ground.chain }, { on := 3, ground := Ground.guard }], guard := some (3, false) }) rfl (fun Kz hK => ?_) AllReadyH.nil
    go_simp
    go_at_call 12
    refine (HF.out r hri _ (K9.out.keep hHeld.out).rd).mono ?_
    rintro e' w10 ⟨rfl, hg⟩
    rw [HOW.out]
    have HN := Lib.hid (grown_trans hHeld.out hg)
    clear hg
    simp only
    refine hK.out _ _ (HN) (fun hH2 => ?_)
    clear hK Kz hHeld
    have hHeld := hH2
    clear hH2
    (try simp only [Act.put, List.setIfInBounds_toArray, List.set_cons_zero, List.set_cons_succ])
    refine wpAnyH_ready (rs := [12]) (by kernel_rfl) (by simp) ?_
    refine AllReadyH.cons (o := { dst := some 150, op := Op.call { callee := Callee.value (Operand.func 13), args := #[Operand.tmp 148, Operand.tmp 149], argTypes := #[27, 3] }, type := 31, pos := "law.go:92", after := #[{ on := 10, ground := Ground.data }, { on := 11, ground := Ground.data }, { on := 9, ground := Ground.chain }, { on := 3, ground := Ground.guard }], guard := some (3, false) }) rfl (fun Kz hK => ?_) AllReadyH.nil
    go_simp
    go_at_call 13
    refine (mlocal_any r s n hri p c L (sN : Int) _ (K9.out.keep hHeld.out).rd (by omega)).mono ?_
    rintro e' w11 ⟨rfl, hg⟩
    have HN2 := Lib.hid (grown_trans hHeld.out hg)
    clear hg
    simp only
    refine hK.out _ _ (HN2) (fun hH2 => ?_)
    clear hK Kz hHeld
    have hHeld := hH2
    clear hH2
    (try simp only [Act.put, List.setIfInBounds_toArray, List.set_cons_zero, List.set_cons_succ])
    refine wpAnyH_take (i := 13) (oi := { dst := some 151, op := Op.binOp BinOp.neq 31 (Operand.tmp 147) (Operand.tmp 150) 31, type := 4, pos := "law.go:92", after := #[{ on := 9, ground := Ground.data }, { on := 12, ground := Ground.data }, { on := 3, ground := Ground.guard }], guard := some (3, false) }) (v := ?_) rfl (by kernel_rfl) (by kernel_rfl) (by kernel_rfl) (fun _ _ _ h => h) (Or.inl ⟨by rfl, ?_⟩) hHeld ?_
    rotate_left 1
    · intro u hSu
      obtain ⟨d0u, d1u, d2u, d3u⟩ := row4T (K9.out.keep hSu.out).bx
      go_simp
      first | done | with_reducible rfl
    (try simp only [Act.put, List.setIfInBounds_toArray, List.set_cons_zero, List.set_cons_succ])
    refine wpAnyH_take (i := 14) (oi := { dst := some 152, op := Op.pick (Operand.tmp 141) (Operand.const (Value.bool true)) (Operand.tmp 151), type := 4, pos := "law.go:92", after := #[{ on := 3, ground := Ground.data }, { on := 13, ground := Ground.data }], guard := none }) (v := ?_) rfl (by kernel_rfl) (by kernel_rfl) (by kernel_rfl) (fun _ _ _ h => h) (Or.inl ⟨by rfl, ?_⟩) hHeld ?_
    rotate_left 1
    · intro u hSu
      obtain ⟨d0u, d1u, d2u, d3u⟩ := row4T (K9.out.keep hSu.out).bx
      go_simp
      first | done | with_reducible rfl
    (try simp only [Act.put, List.setIfInBounds_toArray, List.set_cons_zero, List.set_cons_succ])
    refine wpAnyH_done (by kernel_rfl) ?_ _
    have K11 := Lib.hid (K9.out.keep hHeld.out)
    clear hHeld K9 d0 d1 d2 d3
    go_wp2_with fail
    exact ⟨⟨P + 1, by omega, congrArg (Value.int .i64) (by omega), K11⟩, by simp only [RowKit.intOf]; omega⟩
  have hlt' : (i : Int) < (ts.length : Int) := by omega
  have hi0 : (0 : Int) ≤ (i : Int) := by omega
  obtain ⟨u, hu⟩ : ∃ u, ts[i]? = some u := ⟨_, List.getElem?_eq_getElem hlt⟩
  obtain ⟨gm, rfl, hcm⟩ := md_atD HO.out hu
  obtain ⟨m0, m1⟩ := hcm i u hu
  have hap := HAP.out i u hu
  obtain ⟨hs0, hs1, hs2⟩ := HSM.out i u hu
  have HTK := Lib.hid (allK_take (f := f) hu)
  have hau := allK_u HCO.out (ts.take i)
  have hbu := HCO.out.getD u
  have HMK := Lib.hid (HF.out u (by unfold I64; omega))
  have HPREV : Hid (i ≠ 0 → ∃ y, y < u ∧ w8.cell? ⟨gm, (i - 1) * 2, none⟩ = some (.int .i64 y)) := Lib.hid (fun h0 => by
    have hi1 : i - 1 < ts.length := by omega
    obtain ⟨hi2, hz⟩ := List.getElem?_eq_some_iff.1 hu
    refine ⟨ts[i - 1], ?_, (hcm (i - 1) _ (List.getElem?_eq_getElem hi1)).1⟩
    have := List.pairwise_iff_getElem.1 HA2.out.asc (i - 1) i hi1 hi2 (by omega)
    omega)
  obtain ⟨AK, hAK⟩ : ∃ AK, allK f (ts.take i) = AK := ⟨_, rfl⟩
  rw [hAK] at hap hau HTK ⊢
  obtain ⟨BU, hBU⟩ : ∃ BU, (f u).getD 0 = BU := ⟨_, rfl⟩
  rw [hBU] at hap hs0 hbu HTK HMK m1
  clear hAK hBU hcm hu
  have hand := u64_and_nat AK BU hau hbu
  rw [hap] at hand
  have hor := u64_or_nat AK BU hau hbu
  rw [← HTK.out] at hor
  have hB0 : ((BU : Int) == 0) = false := by rw [beq_eq_false_iff_ne]; omega
  have hBne : ((BU : Int) != (BU : Int)) = false := by simp
  have M0 := Lib.hid (And.intro m0 m1)
  clear m0 m1 hap hau hbu
  by_cases hi00 : i = 0
  case pos =>
    have hig : ¬ (0 : Int) < (i : Int) := by omega
    have hgd : decide ((0 : Int) < (i : Int)) = false := by simpa using hig
    clear hi00
    go_upto_region 23 with fail
    refine wp_region_held_drew (S := fun w' => Hid (w8.grownBy w' none)) (by kernel_rfl) (Lib.hid (grown_trans G.out (grown_drew (grown_refl _ none)))) (fun hHeld => ?_)
    refine wpAnyH_take (i := 0) (oi := { dst := some 80, op := Op.move (Operand.tmp 12), type := 31, pos := "law.go:87", after := #[], guard := none }) (v := ?_) rfl (by kernel_rfl) (by kernel_rfl) (by kernel_rfl) (fun _ _ _ h => h) (Or.inl ⟨by rfl, ?_⟩) hHeld ?_
    rotate_left 1
    · intro u hSu
      obtain ⟨d0u, d1u, d2u, d3u⟩ := row4T (K8.out.keep hSu.out).bx
      have m0u := hSu.out.cell M0.out.1 (by simp)
      have m1u := hSu.out.cell M0.out.2 (by simp)
      go_simp
      first | done | with_reducible rfl
    (try simp only [Act.put, List.setIfInBounds_toArray, List.set_cons_zero, List.set_cons_succ])
    refine wpAnyH_take (i := 1) (oi := { dst := some 81, op := Op.move (Operand.tmp 13), type := 37, pos := "law.go:87", after := #[], guard := none }) (v := ?_) rfl (by kernel_rfl) (by kernel_rfl) (by kernel_rfl) (fun _ _ _ h => h) (Or.inl ⟨by rfl, ?_⟩) hHeld ?_
    rotate_left 1
    · intro u hSu
      obtain ⟨d0u, d1u, d2u, d3u⟩ := row4T (K8.out.keep hSu.out).bx
      have m0u := hSu.out.cell M0.out.1 (by simp)
      have m1u := hSu.out.cell M0.out.2 (by simp)
      go_simp
      first | done | with_reducible rfl
    (try simp only [Act.put, List.setIfInBounds_toArray, List.set_cons_zero, List.set_cons_succ])
    refine wpAnyH_take (i := 2) (oi := { dst := some 82, op := Op.move (Operand.tmp 14), type := 3, pos := "law.go:87", after := #[], guard := none }) (v := ?_) rfl (by kernel_rfl) (by kernel_rfl) (by kernel_rfl) (fun _ _ _ h => h) (Or.inl ⟨by rfl, ?_⟩) hHeld ?_
    rotate_left 1
    · intro u hSu
      obtain ⟨d0u, d1u, d2u, d3u⟩ := row4T (K8.out.keep hSu.out).bx
      have m0u := hSu.out.cell M0.out.1 (by simp)
      have m1u := hSu.out.cell M0.out.2 (by simp)
      go_simp
      first | done | with_reducible rfl
    (try simp only [Act.put, List.setIfInBounds_toArray, List.set_cons_zero, List.set_cons_succ])
    refine wpAnyH_take (i := 3) (oi := { dst := some 83, op := Op.indexAddr 37 (Operand.tmp 81) (Operand.tmp 82), type := 0, pos := "law.go:87", after := #[{ on := 1, ground := Ground.data }, { on := 2, ground := Ground.data }], guard := none }) (v := ?_) rfl (by kernel_rfl) (by kernel_rfl) (by kernel_rfl) (fun _ _ _ h => h) (Or.inl ⟨by rfl, ?_⟩) hHeld ?_
    rotate_left 1
    · intro u hSu
      obtain ⟨d0u, d1u, d2u, d3u⟩ := row4T (K8.out.keep hSu.out).bx
      have m0u := hSu.out.cell M0.out.1 (by simp)
      have m1u := hSu.out.cell M0.out.2 (by simp)
      go_simp
      first | done | with_reducible rfl
    (try simp only [Act.put, List.setIfInBounds_toArray, List.set_cons_zero, List.set_cons_succ])
    refine wpAnyH_take (i := 4) (oi := { dst := some 84, op := Op.fieldAddr 40 (Operand.tmp 83) 1, type := 0, pos := "law.go:87", after := #[{ on := 3, ground := Ground.data }], guard := none }) (v := ?_) rfl (by kernel_rfl) (by kernel_rfl) (by kernel_rfl) (fun _ _ _ h => h) (Or.inl ⟨by rfl, ?_⟩) hHeld ?_
    rotate_left 1
    · intro u hSu
      obtain ⟨d0u, d1u, d2u, d3u⟩ := row4T (K8.out.keep hSu.out).bx
      have m0u := hSu.out.cell M0.out.1 (by simp)
      have m1u := hSu.out.cell M0.out.2 (by simp)
      go_simp
      first | done | with_reducible rfl
    (try simp only [Act.put, List.setIfInBounds_toArray, List.set_cons_zero, List.set_cons_succ])
    refine wpAnyH_take (i := 5) (oi := { dst := some 85, op := Op.load 31 (Operand.tmp 84), type := 31, pos := "law.go:87", after := #[{ on := 4, ground := Ground.data }], guard := none }) (v := ?_) rfl (by kernel_rfl) (by kernel_rfl) (by kernel_rfl) (fun _ _ _ h => h) (Or.inl ⟨by rfl, ?_⟩) hHeld ?_
    rotate_left 1
    · intro u hSu
      obtain ⟨d0u, d1u, d2u, d3u⟩ := row4T (K8.out.keep hSu.out).bx
      have m0u := hSu.out.cell M0.out.1 (by simp)
      have m1u := hSu.out.cell M0.out.2 (by simp)
      go_simp
      first | done | with_reducible rfl
    (try simp only [Act.put, List.setIfInBounds_toArray, List.set_cons_zero, List.set_cons_succ])
    refine wpAnyH_take (i := 6) (oi := { dst := some 86, op := Op.binOp BinOp.and 31 (Operand.tmp 80) (Operand.tmp 85) 31, type := 31, pos := "law.go:87", after := #[{ on := 0, ground := Ground.data }, { on := 5, ground := Ground.data }], guard := none }) (v := .int .u64 0) rfl (by kernel_rfl) (by kernel_rfl) (by kernel_rfl) (fun _ _ _ h => h) (Or.inl ⟨by rfl, ?_⟩) hHeld ?_
    · intro u hSu
      obtain ⟨d0u, d1u, d2u, d3u⟩ := row4T (K8.out.keep hSu.out).bx
      have m0u := hSu.out.cell M0.out.1 (by simp)
      have m1u := hSu.out.cell M0.out.2 (by simp)
      go_simp
      first | done | exact hand | simp_all
    (try simp only [Act.put, List.setIfInBounds_toArray, List.set_cons_zero, List.set_cons_succ])
    refine wpAnyH_take (i := 7) (oi := { dst := some 87, op := Op.binOp BinOp.neq 31 (Operand.tmp 86) (Operand.const (Value.int IntKind.u64 0)) 31, type := 4, pos := "law.go:87", after := #[{ on := 6, ground := Ground.data }], guard := none }) (v := .bool false) rfl (by kernel_rfl) (by kernel_rfl) (by kernel_rfl) (fun _ _ _ h => h) (Or.inl ⟨by rfl, ?_⟩) hHeld ?_
    · intro u hSu
      obtain ⟨d0u, d1u, d2u, d3u⟩ := row4T (K8.out.keep hSu.out).bx
      have m0u := hSu.out.cell M0.out.1 (by simp)
      have m1u := hSu.out.cell M0.out.2 (by simp)
      go_simp
      first | done | rfl | simp_all
    (try simp only [Act.put, List.setIfInBounds_toArray, List.set_cons_zero, List.set_cons_succ])
    refine wpAnyH_take (i := 8) (oi := { dst := some 88, op := Op.move (Operand.tmp 87), type := 4, pos := "law.go:87", after := #[{ on := 7, ground := Ground.data }], guard := none }) (v := .bool false) rfl (by kernel_rfl) (by kernel_rfl) (by kernel_rfl) (fun _ _ _ h => h) (Or.inl ⟨by rfl, ?_⟩) hHeld ?_
    · intro u hSu
      obtain ⟨d0u, d1u, d2u, d3u⟩ := row4T (K8.out.keep hSu.out).bx
      have m0u := hSu.out.cell M0.out.1 (by simp)
      have m1u := hSu.out.cell M0.out.2 (by simp)
      go_simp
      first | done | rfl | simp_all
    (try simp only [Act.put, List.setIfInBounds_toArray, List.set_cons_zero, List.set_cons_succ])
    refine wpAnyH_take (i := 9) (oi := { dst := some 89, op := Op.move (Operand.tmp 13), type := 37, pos := "law.go:87", after := #[{ on := 8, ground := Ground.guard }], guard := some (8, false) }) (v := ?_) rfl (by kernel_rfl) (by kernel_rfl) (by kernel_rfl) (fun _ _ _ h => h) (Or.inl ⟨by rfl, ?_⟩) hHeld ?_
    rotate_left 1
    · intro u hSu
      obtain ⟨d0u, d1u, d2u, d3u⟩ := row4T (K8.out.keep hSu.out).bx
      have m0u := hSu.out.cell M0.out.1 (by simp)
      have m1u := hSu.out.cell M0.out.2 (by simp)
      go_simp
      first | done | with_reducible rfl
    (try simp only [Act.put, List.setIfInBounds_toArray, List.set_cons_zero, List.set_cons_succ])
    refine wpAnyH_take (i := 10) (oi := { dst := some 90, op := Op.move (Operand.tmp 14), type := 3, pos := "law.go:87", after := #[{ on := 8, ground := Ground.guard }], guard := some (8, false) }) (v := ?_) rfl (by kernel_rfl) (by kernel_rfl) (by kernel_rfl) (fun _ _ _ h => h) (Or.inl ⟨by rfl, ?_⟩) hHeld ?_
    rotate_left 1
    · intro u hSu
      obtain ⟨d0u, d1u, d2u, d3u⟩ := row4T (K8.out.keep hSu.out).bx
      have m0u := hSu.out.cell M0.out.1 (by simp)
      have m1u := hSu.out.cell M0.out.2 (by simp)
      go_simp
      first | done | with_reducible rfl
    (try simp only [Act.put, List.setIfInBounds_toArray, List.set_cons_zero, List.set_cons_succ])
    refine wpAnyH_take (i := 11) (oi := { dst := some 91, op := Op.indexAddr 37 (Operand.tmp 89) (Operand.tmp 90), type := 0, pos := "law.go:87", after := #[{ on := 9, ground := Ground.data }, { on := 10, ground := Ground.data }, { on := 8, ground := Ground.guard }], guard := some (8, false) }) (v := ?_) rfl (by kernel_rfl) (by kernel_rfl) (by kernel_rfl) (fun _ _ _ h => h) (Or.inl ⟨by rfl, ?_⟩) hHeld ?_
    rotate_left 1
    · intro u hSu
      obtain ⟨d0u, d1u, d2u, d3u⟩ := row4T (K8.out.keep hSu.out).bx
      have m0u := hSu.out.cell M0.out.1 (by simp)
      have m1u := hSu.out.cell M0.out.2 (by simp)
      go_simp
      first | done | with_reducible rfl
    (try simp only [Act.put, List.setIfInBounds_toArray, List.set_cons_zero, List.set_cons_succ])
    refine wpAnyH_take (i := 12) (oi := { dst := some 92, op := Op.fieldAddr 40 (Operand.tmp 91) 1, type := 0, pos := "law.go:87", after := #[{ on := 11, ground := Ground.data }, { on := 8, ground := Ground.guard }], guard := some (8, false) }) (v := ?_) rfl (by kernel_rfl) (by kernel_rfl) (by kernel_rfl) (fun _ _ _ h => h) (Or.inl ⟨by rfl, ?_⟩) hHeld ?_
    rotate_left 1
    · intro u hSu
      obtain ⟨d0u, d1u, d2u, d3u⟩ := row4T (K8.out.keep hSu.out).bx
      have m0u := hSu.out.cell M0.out.1 (by simp)
      have m1u := hSu.out.cell M0.out.2 (by simp)
      go_simp
      first | done | with_reducible rfl
    (try simp only [Act.put, List.setIfInBounds_toArray, List.set_cons_zero, List.set_cons_succ])
    refine wpAnyH_take (i := 13) (oi := { dst := some 93, op := Op.load 31 (Operand.tmp 92), type := 31, pos := "law.go:87", after := #[{ on := 12, ground := Ground.data }, { on := 8, ground := Ground.guard }], guard := some (8, false) }) (v := ?_) rfl (by kernel_rfl) (by kernel_rfl) (by kernel_rfl) (fun _ _ _ h => h) (Or.inl ⟨by rfl, ?_⟩) hHeld ?_
    rotate_left 1
    · intro u hSu
      obtain ⟨d0u, d1u, d2u, d3u⟩ := row4T (K8.out.keep hSu.out).bx
      have m0u := hSu.out.cell M0.out.1 (by simp)
      have m1u := hSu.out.cell M0.out.2 (by simp)
      go_simp
      first | done | with_reducible rfl
    (try simp only [Act.put, List.setIfInBounds_toArray, List.set_cons_zero, List.set_cons_succ])
    refine wpAnyH_take (i := 14) (oi := { dst := some 94, op := Op.binOp BinOp.eql 31 (Operand.tmp 93) (Operand.const (Value.int IntKind.u64 0)) 31, type := 4, pos := "law.go:87", after := #[{ on := 13, ground := Ground.data }, { on := 8, ground := Ground.guard }], guard := some (8, false) }) (v := .bool false) rfl (by kernel_rfl) (by kernel_rfl) (by kernel_rfl) (fun _ _ _ h => h) (Or.inl ⟨by rfl, ?_⟩) hHeld ?_
    · intro u hSu
      obtain ⟨d0u, d1u, d2u, d3u⟩ := row4T (K8.out.keep hSu.out).bx
      have m0u := hSu.out.cell M0.out.1 (by simp)
      have m1u := hSu.out.cell M0.out.2 (by simp)
      go_simp
      first | done | rfl | simp_all
    (try simp only [Act.put, List.setIfInBounds_toArray, List.set_cons_zero, List.set_cons_succ])
    refine wpAnyH_take (i := 15) (oi := { dst := some 95, op := Op.pick (Operand.tmp 88) (Operand.const (Value.bool true)) (Operand.tmp 94), type := 4, pos := "law.go:87", after := #[{ on := 8, ground := Ground.data }, { on := 14, ground := Ground.data }], guard := none }) (v := .bool false) rfl (by kernel_rfl) (by kernel_rfl) (by kernel_rfl) (fun _ _ _ h => h) (Or.inl ⟨by rfl, ?_⟩) hHeld ?_
    · intro u hSu
      obtain ⟨d0u, d1u, d2u, d3u⟩ := row4T (K8.out.keep hSu.out).bx
      have m0u := hSu.out.cell M0.out.1 (by simp)
      have m1u := hSu.out.cell M0.out.2 (by simp)
      go_simp
      first | done | rfl | simp_all
    (try simp only [Act.put, List.setIfInBounds_toArray, List.set_cons_zero, List.set_cons_succ])
    refine wpAnyH_take (i := 16) (oi := { dst := some 96, op := Op.move (Operand.tmp 95), type := 4, pos := "law.go:87", after := #[{ on := 15, ground := Ground.data }, { on := 8, ground := Ground.chain }], guard := none }) (v := .bool false) rfl (by kernel_rfl) (by kernel_rfl) (by kernel_rfl) (fun _ _ _ h => h) (Or.inl ⟨by rfl, ?_⟩) hHeld ?_
    · intro u hSu
      obtain ⟨d0u, d1u, d2u, d3u⟩ := row4T (K8.out.keep hSu.out).bx
      have m0u := hSu.out.cell M0.out.1 (by simp)
      have m1u := hSu.out.cell M0.out.2 (by simp)
      go_simp
      first | done | rfl | simp_all
    (try simp only [Act.put, List.setIfInBounds_toArray, List.set_cons_zero, List.set_cons_succ])
    refine wpAnyH_take (i := 17) (oi := { dst := some 97, op := Op.move (Operand.tmp 14), type := 3, pos := "law.go:87", after := #[{ on := 16, ground := Ground.guard }], guard := some (16, false) }) (v := ?_) rfl (by kernel_rfl) (by kernel_rfl) (by kernel_rfl) (fun _ _ _ h => h) (Or.inl ⟨by rfl, ?_⟩) hHeld ?_
    rotate_left 1
    · intro u hSu
      obtain ⟨d0u, d1u, d2u, d3u⟩ := row4T (K8.out.keep hSu.out).bx
      have m0u := hSu.out.cell M0.out.1 (by simp)
      have m1u := hSu.out.cell M0.out.2 (by simp)
      go_simp
      first | done | with_reducible rfl
    (try simp only [Act.put, List.setIfInBounds_toArray, List.set_cons_zero, List.set_cons_succ])
    refine wpAnyH_take (i := 18) (oi := { dst := some 98, op := Op.binOp BinOp.gtr 3 (Operand.tmp 97) (Operand.const (Value.int IntKind.i64 0)) 3, type := 4, pos := "law.go:87", after := #[{ on := 17, ground := Ground.data }, { on := 16, ground := Ground.guard }], guard := some (16, false) }) (v := .bool false) rfl (by kernel_rfl) (by kernel_rfl) (by kernel_rfl) (fun _ _ _ h => h) (Or.inl ⟨by rfl, ?_⟩) hHeld ?_
    · intro u hSu
      obtain ⟨d0u, d1u, d2u, d3u⟩ := row4T (K8.out.keep hSu.out).bx
      have m0u := hSu.out.cell M0.out.1 (by simp)
      have m1u := hSu.out.cell M0.out.2 (by simp)
      go_simp
      first | done | rfl | simp_all
    (try simp only [Act.put, List.setIfInBounds_toArray, List.set_cons_zero, List.set_cons_succ])
    refine wpAnyH_take (i := 19) (oi := { dst := some 99, op := Op.move (Operand.tmp 98), type := 4, pos := "law.go:87", after := #[{ on := 18, ground := Ground.data }, { on := 16, ground := Ground.chain }, { on := 16, ground := Ground.guard }], guard := some (16, false) }) (v := .bool false) rfl (by kernel_rfl) (by kernel_rfl) (by kernel_rfl) (fun _ _ _ h => h) (Or.inl ⟨by rfl, ?_⟩) hHeld ?_
    · intro u hSu
      obtain ⟨d0u, d1u, d2u, d3u⟩ := row4T (K8.out.keep hSu.out).bx
      have m0u := hSu.out.cell M0.out.1 (by simp)
      have m1u := hSu.out.cell M0.out.2 (by simp)
      go_simp
      first | done | rfl | simp_all
    (try simp only [Act.put, List.setIfInBounds_toArray, List.set_cons_zero, List.set_cons_succ])
    refine wpAnyH_take (i := 20) (oi := { dst := some 100, op := Op.move (Operand.tmp 13), type := 37, pos := "law.go:87", after := #[{ on := 19, ground := Ground.guard }], guard := some (19, true) }) (v := undef) rfl (by kernel_rfl) (by kernel_rfl) (by kernel_rfl) (fun _ _ _ h => h) (Or.inr ⟨by rfl, rfl⟩) hHeld ?_
    (try simp only [Act.put, List.setIfInBounds_toArray, List.set_cons_zero, List.set_cons_succ])
    refine wpAnyH_take (i := 21) (oi := { dst := some 101, op := Op.move (Operand.tmp 14), type := 3, pos := "law.go:87", after := #[{ on := 19, ground := Ground.guard }], guard := some (19, true) }) (v := undef) rfl (by kernel_rfl) (by kernel_rfl) (by kernel_rfl) (fun _ _ _ h => h) (Or.inr ⟨by rfl, rfl⟩) hHeld ?_
    (try simp only [Act.put, List.setIfInBounds_toArray, List.set_cons_zero, List.set_cons_succ])
    refine wpAnyH_take (i := 22) (oi := { dst := some 102, op := Op.binOp BinOp.sub 3 (Operand.tmp 101) (Operand.const (Value.int IntKind.i64 1)) 3, type := 3, pos := "law.go:87", after := #[{ on := 21, ground := Ground.data }, { on := 19, ground := Ground.guard }], guard := some (19, true) }) (v := undef) rfl (by kernel_rfl) (by kernel_rfl) (by kernel_rfl) (fun _ _ _ h => h) (Or.inr ⟨by rfl, rfl⟩) hHeld ?_
    (try simp only [Act.put, List.setIfInBounds_toArray, List.set_cons_zero, List.set_cons_succ])
    refine wpAnyH_take (i := 23) (oi := { dst := some 103, op := Op.indexAddr 37 (Operand.tmp 100) (Operand.tmp 102), type := 0, pos := "law.go:87", after := #[{ on := 20, ground := Ground.data }, { on := 22, ground := Ground.data }, { on := 19, ground := Ground.guard }], guard := some (19, true) }) (v := undef) rfl (by kernel_rfl) (by kernel_rfl) (by kernel_rfl) (fun _ _ _ h => h) (Or.inr ⟨by rfl, rfl⟩) hHeld ?_
    (try simp only [Act.put, List.setIfInBounds_toArray, List.set_cons_zero, List.set_cons_succ])
    refine wpAnyH_take (i := 24) (oi := { dst := some 104, op := Op.fieldAddr 40 (Operand.tmp 103) 0, type := 0, pos := "law.go:87", after := #[{ on := 23, ground := Ground.data }, { on := 19, ground := Ground.guard }], guard := some (19, true) }) (v := undef) rfl (by kernel_rfl) (by kernel_rfl) (by kernel_rfl) (fun _ _ _ h => h) (Or.inr ⟨by rfl, rfl⟩) hHeld ?_
    (try simp only [Act.put, List.setIfInBounds_toArray, List.set_cons_zero, List.set_cons_succ])
    refine wpAnyH_take (i := 25) (oi := { dst := some 105, op := Op.load 3 (Operand.tmp 104), type := 3, pos := "law.go:87", after := #[{ on := 24, ground := Ground.data }, { on := 19, ground := Ground.guard }], guard := some (19, true) }) (v := undef) rfl (by kernel_rfl) (by kernel_rfl) (by kernel_rfl) (fun _ _ _ h => h) (Or.inr ⟨by rfl, rfl⟩) hHeld ?_
    (try simp only [Act.put, List.setIfInBounds_toArray, List.set_cons_zero, List.set_cons_succ])
    refine wpAnyH_take (i := 26) (oi := { dst := some 106, op := Op.move (Operand.tmp 13), type := 37, pos := "law.go:87", after := #[{ on := 19, ground := Ground.guard }], guard := some (19, true) }) (v := undef) rfl (by kernel_rfl) (by kernel_rfl) (by kernel_rfl) (fun _ _ _ h => h) (Or.inr ⟨by rfl, rfl⟩) hHeld ?_
    (try simp only [Act.put, List.setIfInBounds_toArray, List.set_cons_zero, List.set_cons_succ])
    refine wpAnyH_take (i := 27) (oi := { dst := some 107, op := Op.move (Operand.tmp 14), type := 3, pos := "law.go:87", after := #[{ on := 19, ground := Ground.guard }], guard := some (19, true) }) (v := undef) rfl (by kernel_rfl) (by kernel_rfl) (by kernel_rfl) (fun _ _ _ h => h) (Or.inr ⟨by rfl, rfl⟩) hHeld ?_
    (try simp only [Act.put, List.setIfInBounds_toArray, List.set_cons_zero, List.set_cons_succ])
    refine wpAnyH_take (i := 28) (oi := { dst := some 108, op := Op.indexAddr 37 (Operand.tmp 106) (Operand.tmp 107), type := 0, pos := "law.go:87", after := #[{ on := 26, ground := Ground.data }, { on := 27, ground := Ground.data }, { on := 19, ground := Ground.guard }], guard := some (19, true) }) (v := undef) rfl (by kernel_rfl) (by kernel_rfl) (by kernel_rfl) (fun _ _ _ h => h) (Or.inr ⟨by rfl, rfl⟩) hHeld ?_
    (try simp only [Act.put, List.setIfInBounds_toArray, List.set_cons_zero, List.set_cons_succ])
    refine wpAnyH_take (i := 29) (oi := { dst := some 109, op := Op.fieldAddr 40 (Operand.tmp 108) 0, type := 0, pos := "law.go:87", after := #[{ on := 28, ground := Ground.data }, { on := 19, ground := Ground.guard }], guard := some (19, true) }) (v := undef) rfl (by kernel_rfl) (by kernel_rfl) (by kernel_rfl) (fun _ _ _ h => h) (Or.inr ⟨by rfl, rfl⟩) hHeld ?_
    (try simp only [Act.put, List.setIfInBounds_toArray, List.set_cons_zero, List.set_cons_succ])
    refine wpAnyH_take (i := 30) (oi := { dst := some 110, op := Op.load 3 (Operand.tmp 109), type := 3, pos := "law.go:87", after := #[{ on := 29, ground := Ground.data }, { on := 19, ground := Ground.guard }], guard := some (19, true) }) (v := undef) rfl (by kernel_rfl) (by kernel_rfl) (by kernel_rfl) (fun _ _ _ h => h) (Or.inr ⟨by rfl, rfl⟩) hHeld ?_
    (try simp only [Act.put, List.setIfInBounds_toArray, List.set_cons_zero, List.set_cons_succ])
    refine wpAnyH_take (i := 31) (oi := { dst := some 111, op := Op.binOp BinOp.geq 3 (Operand.tmp 105) (Operand.tmp 110) 3, type := 4, pos := "law.go:87", after := #[{ on := 25, ground := Ground.data }, { on := 30, ground := Ground.data }, { on := 19, ground := Ground.guard }], guard := some (19, true) }) (v := undef) rfl (by kernel_rfl) (by kernel_rfl) (by kernel_rfl) (fun _ _ _ h => h) (Or.inr ⟨by rfl, rfl⟩) hHeld ?_
    (try simp only [Act.put, List.setIfInBounds_toArray, List.set_cons_zero, List.set_cons_succ])
    refine wpAnyH_take (i := 32) (oi := { dst := some 112, op := Op.pick (Operand.tmp 99) (Operand.tmp 111) (Operand.const (Value.bool false)), type := 4, pos := "law.go:87", after := #[{ on := 19, ground := Ground.data }, { on := 31, ground := Ground.data }, { on := 16, ground := Ground.guard }], guard := some (16, false) }) (v := .bool false) rfl (by kernel_rfl) (by kernel_rfl) (by kernel_rfl) (fun _ _ _ h => h) (Or.inl ⟨by rfl, ?_⟩) hHeld ?_
    · intro u hSu
      obtain ⟨d0u, d1u, d2u, d3u⟩ := row4T (K8.out.keep hSu.out).bx
      have m0u := hSu.out.cell M0.out.1 (by simp)
      have m1u := hSu.out.cell M0.out.2 (by simp)
      go_simp
      first | done | rfl | simp_all
    (try simp only [Act.put, List.setIfInBounds_toArray, List.set_cons_zero, List.set_cons_succ])
    refine wpAnyH_take (i := 33) (oi := { dst := some 113, op := Op.pick (Operand.tmp 96) (Operand.const (Value.bool true)) (Operand.tmp 112), type := 4, pos := "law.go:87", after := #[{ on := 16, ground := Ground.data }, { on := 32, ground := Ground.data }], guard := none }) (v := .bool false) rfl (by kernel_rfl) (by kernel_rfl) (by kernel_rfl) (fun _ _ _ h => h) (Or.inl ⟨by rfl, ?_⟩) hHeld ?_
    · intro u hSu
      obtain ⟨d0u, d1u, d2u, d3u⟩ := row4T (K8.out.keep hSu.out).bx
      have m0u := hSu.out.cell M0.out.1 (by simp)
      have m1u := hSu.out.cell M0.out.2 (by simp)
      go_simp
      first | done | rfl | simp_all
    (try simp only [Act.put, List.setIfInBounds_toArray, List.set_cons_zero, List.set_cons_succ])
    refine wpAnyH_take (i := 34) (oi := { dst := some 114, op := Op.move (Operand.tmp 113), type := 4, pos := "law.go:87", after := #[{ on := 33, ground := Ground.data }, { on := 19, ground := Ground.chain }], guard := none }) (v := .bool false) rfl (by kernel_rfl) (by kernel_rfl) (by kernel_rfl) (fun _ _ _ h => h) (Or.inl ⟨by rfl, ?_⟩) hHeld ?_
    · intro u hSu
      obtain ⟨d0u, d1u, d2u, d3u⟩ := row4T (K8.out.keep hSu.out).bx
      have m0u := hSu.out.cell M0.out.1 (by simp)
      have m1u := hSu.out.cell M0.out.2 (by simp)
      go_simp
      first | done | rfl | simp_all
    (try simp only [Act.put, List.setIfInBounds_toArray, List.set_cons_zero, List.set_cons_succ])
    refine wpAnyH_take (i := 35) (oi := { dst := some 115, op := Op.load 27 (Operand.tmp 4), type := 27, pos := "law.go:87", after := #[{ on := 34, ground := Ground.guard }], guard := some (34, false) }) (v := ?_) rfl (by kernel_rfl) (by kernel_rfl) (by kernel_rfl) (fun _ _ _ h => h) (Or.inl ⟨by rfl, ?_⟩) hHeld ?_
    rotate_left 1
    · intro u hSu
      obtain ⟨d0u, d1u, d2u, d3u⟩ := row4T (K8.out.keep hSu.out).bx
      have m0u := hSu.out.cell M0.out.1 (by simp)
      have m1u := hSu.out.cell M0.out.2 (by simp)
      go_simp
      first | done | with_reducible rfl
    (try simp only [Act.put, List.setIfInBounds_toArray, List.set_cons_zero, List.set_cons_succ])
    refine wpAnyH_take (i := 36) (oi := { dst := some 116, op := Op.move (Operand.tmp 11), type := 3, pos := "law.go:87", after := #[{ on := 34, ground := Ground.guard }], guard := some (34, false) }) (v := ?_) rfl (by kernel_rfl) (by kernel_rfl) (by kernel_rfl) (fun _ _ _ h => h) (Or.inl ⟨by rfl, ?_⟩) hHeld ?_
    rotate_left 1
    · intro u hSu
      obtain ⟨d0u, d1u, d2u, d3u⟩ := row4T (K8.out.keep hSu.out).bx
      have m0u := hSu.out.cell M0.out.1 (by simp)
      have m1u := hSu.out.cell M0.out.2 (by simp)
      go_simp
      first | done | with_reducible rfl
    (try simp only [Act.put, List.setIfInBounds_toArray, List.set_cons_zero, List.set_cons_succ])
    refine wpAnyH_take (i := 37) (oi := { dst := some 117, op := Op.move (Operand.tmp 5), type := 3, pos := "law.go:87", after := #[{ on := 34, ground := Ground.guard }], guard := some (34, false) }) (v := ?_) rfl (by kernel_rfl) (by kernel_rfl) (by kernel_rfl) (fun _ _ _ h => h) (Or.inl ⟨by rfl, ?_⟩) hHeld ?_
    rotate_left 1
    · intro u hSu
      obtain ⟨d0u, d1u, d2u, d3u⟩ := row4T (K8.out.keep hSu.out).bx
      have m0u := hSu.out.cell M0.out.1 (by simp)
      have m1u := hSu.out.cell M0.out.2 (by simp)
      go_simp
      first | done | with_reducible rfl
    (try simp only [Act.put, List.setIfInBounds_toArray, List.set_cons_zero, List.set_cons_succ])
    refine wpAnyH_take (i := 38) (oi := { dst := some 118, op := Op.move (Operand.tmp 13), type := 37, pos := "law.go:87", after := #[{ on := 34, ground := Ground.guard }], guard := some (34, false) }) (v := ?_) rfl (by kernel_rfl) (by kernel_rfl) (by kernel_rfl) (fun _ _ _ h => h) (Or.inl ⟨by rfl, ?_⟩) hHeld ?_
    rotate_left 1
    · intro u hSu
      obtain ⟨d0u, d1u, d2u, d3u⟩ := row4T (K8.out.keep hSu.out).bx
      have m0u := hSu.out.cell M0.out.1 (by simp)
      have m1u := hSu.out.cell M0.out.2 (by simp)
      go_simp
      first | done | with_reducible rfl
    (try simp only [Act.put, List.setIfInBounds_toArray, List.set_cons_zero, List.set_cons_succ])
    refine wpAnyH_take (i := 39) (oi := { dst := some 119, op := Op.move (Operand.tmp 14), type := 3, pos := "law.go:87", after := #[{ on := 34, ground := Ground.guard }], guard := some (34, false) }) (v := ?_) rfl (by kernel_rfl) (by kernel_rfl) (by kernel_rfl) (fun _ _ _ h => h) (Or.inl ⟨by rfl, ?_⟩) hHeld ?_
    rotate_left 1
    · intro u hSu
      obtain ⟨d0u, d1u, d2u, d3u⟩ := row4T (K8.out.keep hSu.out).bx
      have m0u := hSu.out.cell M0.out.1 (by simp)
      have m1u := hSu.out.cell M0.out.2 (by simp)
      go_simp
      first | done | with_reducible rfl
    (try simp only [Act.put, List.setIfInBounds_toArray, List.set_cons_zero, List.set_cons_succ])
    refine wpAnyH_take (i := 40) (oi := { dst := some 120, op := Op.indexAddr 37 (Operand.tmp 118) (Operand.tmp 119), type := 0, pos := "law.go:87", after := #[{ on := 38, ground := Ground.data }, { on := 39, ground := Ground.data }, { on := 34, ground := Ground.guard }], guard := some (34, false) }) (v := ?_) rfl (by kernel_rfl) (by kernel_rfl) (by kernel_rfl) (fun _ _ _ h => h) (Or.inl ⟨by rfl, ?_⟩) hHeld ?_
    rotate_left 1
    · intro u hSu
      obtain ⟨d0u, d1u, d2u, d3u⟩ := row4T (K8.out.keep hSu.out).bx
      have m0u := hSu.out.cell M0.out.1 (by simp)
      have m1u := hSu.out.cell M0.out.2 (by simp)
      go_simp
      first | done | with_reducible rfl
    (try simp only [Act.put, List.setIfInBounds_toArray, List.set_cons_zero, List.set_cons_succ])
    refine wpAnyH_take (i := 41) (oi := { dst := some 121, op := Op.fieldAddr 40 (Operand.tmp 120) 0, type := 0, pos := "law.go:87", after := #[{ on := 40, ground := Ground.data }, { on := 34, ground := Ground.guard }], guard := some (34, false) }) (v := ?_) rfl (by kernel_rfl) (by kernel_rfl) (by kernel_rfl) (fun _ _ _ h => h) (Or.inl ⟨by rfl, ?_⟩) hHeld ?_
    rotate_left 1
    · intro u hSu
      obtain ⟨d0u, d1u, d2u, d3u⟩ := row4T (K8.out.keep hSu.out).bx
      have m0u := hSu.out.cell M0.out.1 (by simp)
      have m1u := hSu.out.cell M0.out.2 (by simp)
      go_simp
      first | done | with_reducible rfl
    (try simp only [Act.put, List.setIfInBounds_toArray, List.set_cons_zero, List.set_cons_succ])
    refine wpAnyH_take (i := 42) (oi := { dst := some 122, op := Op.load 3 (Operand.tmp 121), type := 3, pos := "law.go:87", after := #[{ on := 41, ground := Ground.data }, { on := 34, ground := Ground.guard }], guard := some (34, false) }) (v := ?_) rfl (by kernel_rfl) (by kernel_rfl) (by kernel_rfl) (fun _ _ _ h => h) (Or.inl ⟨by rfl, ?_⟩) hHeld ?_
    rotate_left 1
    · intro u hSu
      obtain ⟨d0u, d1u, d2u, d3u⟩ := row4T (K8.out.keep hSu.out).bx
      have m0u := hSu.out.cell M0.out.1 (by simp)
      have m1u := hSu.out.cell M0.out.2 (by simp)
      go_simp
      first | done | with_reducible rfl
    (try simp only [Act.put, List.setIfInBounds_toArray, List.set_cons_zero, List.set_cons_succ])
    refine wpAnyH_take (i := 44) (oi := { dst := some 124, op := Op.move (Operand.tmp 13), type := 37, pos := "law.go:87", after := #[{ on := 34, ground := Ground.guard }], guard := some (34, false) }) (v := ?_) rfl (by kernel_rfl) (by kernel_rfl) (by kernel_rfl) (fun _ _ _ h => h) (Or.inl ⟨by rfl, ?_⟩) hHeld ?_
    rotate_left 1
    · intro u hSu
      obtain ⟨d0u, d1u, d2u, d3u⟩ := row4T (K8.out.keep hSu.out).bx
      have m0u := hSu.out.cell M0.out.1 (by simp)
      have m1u := hSu.out.cell M0.out.2 (by simp)
      go_simp
      first | done | with_reducible rfl
    (try simp only [Act.put, List.setIfInBounds_toArray, List.set_cons_zero, List.set_cons_succ])
    refine wpAnyH_take (i := 45) (oi := { dst := some 125, op := Op.move (Operand.tmp 14), type := 3, pos := "law.go:87", after := #[{ on := 34, ground := Ground.guard }], guard := some (34, false) }) (v := ?_) rfl (by kernel_rfl) (by kernel_rfl) (by kernel_rfl) (fun _ _ _ h => h) (Or.inl ⟨by rfl, ?_⟩) hHeld ?_
    rotate_left 1
    · intro u hSu
      obtain ⟨d0u, d1u, d2u, d3u⟩ := row4T (K8.out.keep hSu.out).bx
      have m0u := hSu.out.cell M0.out.1 (by simp)
      have m1u := hSu.out.cell M0.out.2 (by simp)
      go_simp
      first | done | with_reducible rfl
    (try simp only [Act.put, List.setIfInBounds_toArray, List.set_cons_zero, List.set_cons_succ])
    refine wpAnyH_take (i := 46) (oi := { dst := some 126, op := Op.indexAddr 37 (Operand.tmp 124) (Operand.tmp 125), type := 0, pos := "law.go:87", after := #[{ on := 44, ground := Ground.data }, { on := 45, ground := Ground.data }, { on := 34, ground := Ground.guard }], guard := some (34, false) }) (v := ?_) rfl (by kernel_rfl) (by kernel_rfl) (by kernel_rfl) (fun _ _ _ h => h) (Or.inl ⟨by rfl, ?_⟩) hHeld ?_
    rotate_left 1
    · intro u hSu
      obtain ⟨d0u, d1u, d2u, d3u⟩ := row4T (K8.out.keep hSu.out).bx
      have m0u := hSu.out.cell M0.out.1 (by simp)
      have m1u := hSu.out.cell M0.out.2 (by simp)
      go_simp
      first | done | with_reducible rfl
    (try simp only [Act.put, List.setIfInBounds_toArray, List.set_cons_zero, List.set_cons_succ])
    refine wpAnyH_take (i := 47) (oi := { dst := some 127, op := Op.fieldAddr 40 (Operand.tmp 126) 1, type := 0, pos := "law.go:87", after := #[{ on := 46, ground := Ground.data }, { on := 34, ground := Ground.guard }], guard := some (34, false) }) (v := ?_) rfl (by kernel_rfl) (by kernel_rfl) (by kernel_rfl) (fun _ _ _ h => h) (Or.inl ⟨by rfl, ?_⟩) hHeld ?_
    rotate_left 1
    · intro u hSu
      obtain ⟨d0u, d1u, d2u, d3u⟩ := row4T (K8.out.keep hSu.out).bx
      have m0u := hSu.out.cell M0.out.1 (by simp)
      have m1u := hSu.out.cell M0.out.2 (by simp)
      go_simp
      first | done | with_reducible rfl
    (try simp only [Act.put, List.setIfInBounds_toArray, List.set_cons_zero, List.set_cons_succ])
    refine wpAnyH_take (i := 48) (oi := { dst := some 128, op := Op.load 31 (Operand.tmp 127), type := 31, pos := "law.go:87", after := #[{ on := 47, ground := Ground.data }, { on := 34, ground := Ground.guard }], guard := some (34, false) }) (v := ?_) rfl (by kernel_rfl) (by kernel_rfl) (by kernel_rfl) (fun _ _ _ h => h) (Or.inl ⟨by rfl, ?_⟩) hHeld ?_
    rotate_left 1
    · intro u hSu
      obtain ⟨d0u, d1u, d2u, d3u⟩ := row4T (K8.out.keep hSu.out).bx
      have m0u := hSu.out.cell M0.out.1 (by simp)
      have m1u := hSu.out.cell M0.out.2 (by simp)
      go_simp
      first | done | with_reducible rfl
    (try simp only [Act.put, List.setIfInBounds_toArray, List.set_cons_zero, List.set_cons_succ])
    refine wpAnyH_ready (rs := [43]) (by kernel_rfl) (by simp) ?_
    refine AllReadyH.cons (o := { dst := some 123, op := Op.call { callee := Callee.value (Operand.func 12), args := #[Operand.tmp 115, Operand.tmp 116, Operand.tmp 117, Operand.tmp 122], argTypes := #[27, 3, 3, 3] }, type := 31, pos := "law.go:87", after := #[{ on := 35, ground := Ground.data }, { on := 36, ground := Ground.data }, { on := 37, ground := Ground.data }, { on := 42, ground := Ground.data }, { on := 34, ground := Ground.chain }, { on := 34, ground := Ground.guard }], guard := some (34, false) }) rfl (fun Kz hK => ?_) AllReadyH.nil
    go_simp
    go_at_call 12
    refine (HMK.out _ (K8.out.keep hHeld.out).rd).mono ?_
    rintro e' w10 ⟨rfl, hg⟩
    have HN := Lib.hid (grown_trans hHeld.out hg)
    clear hg
    simp only
    refine hK.out _ _ (HN) (fun hH2 => ?_)
    clear hK Kz hHeld
    have hHeld := hH2
    clear hH2
    (try simp only [Act.put, List.setIfInBounds_toArray, List.set_cons_zero, List.set_cons_succ])
    refine wpAnyH_take (i := 49) (oi := { dst := some 129, op := Op.binOp BinOp.neq 31 (Operand.tmp 123) (Operand.tmp 128) 31, type := 4, pos := "law.go:87", after := #[{ on := 43, ground := Ground.data }, { on := 48, ground := Ground.data }, { on := 34, ground := Ground.guard }], guard := some (34, false) }) (v := ?_) rfl (by kernel_rfl) (by kernel_rfl) (by kernel_rfl) (fun _ _ _ h => h) (Or.inl ⟨by rfl, ?_⟩) hHeld ?_
    rotate_left 1
    · intro u hSu
      obtain ⟨d0u, d1u, d2u, d3u⟩ := row4T (K8.out.keep hSu.out).bx
      have m0u := hSu.out.cell M0.out.1 (by simp)
      have m1u := hSu.out.cell M0.out.2 (by simp)
      go_simp
      first | done | with_reducible rfl
    (try simp only [Act.put, List.setIfInBounds_toArray, List.set_cons_zero, List.set_cons_succ])
    refine wpAnyH_take (i := 50) (oi := { dst := some 130, op := Op.pick (Operand.tmp 114) (Operand.const (Value.bool true)) (Operand.tmp 129), type := 4, pos := "law.go:87", after := #[{ on := 34, ground := Ground.data }, { on := 49, ground := Ground.data }], guard := none }) (v := ?_) rfl (by kernel_rfl) (by kernel_rfl) (by kernel_rfl) (fun _ _ _ h => h) (Or.inl ⟨by rfl, ?_⟩) hHeld ?_
    rotate_left 1
    · intro u hSu
      obtain ⟨d0u, d1u, d2u, d3u⟩ := row4T (K8.out.keep hSu.out).bx
      have m0u := hSu.out.cell M0.out.1 (by simp)
      have m1u := hSu.out.cell M0.out.2 (by simp)
      go_simp
      first | done | with_reducible rfl
    (try simp only [Act.put, List.setIfInBounds_toArray, List.set_cons_zero, List.set_cons_succ])
    refine wpAnyH_done (by kernel_rfl) ?_ _
    have m0 := (M0.out)
    have G10 := Lib.hid hHeld.out
    clear hHeld G M0 HMK hand
    have m1 := G10.out.cell m0.2 (by simp)
    clear m0
    go_wp2_with fail
    exact ⟨⟨i + 1, by omega, rfl, congrArg (Value.int .i64) (by omega), G10⟩, by simp only [RowKit.intOf]; omega⟩
  obtain ⟨y, hy, my⟩ := HPREV.out hi00
  have hig : (0 : Int) < (i : Int) := by omega
  have hgd : decide ((0 : Int) < (i : Int)) = true := by simpa using hig
  have hyu : ¬ u ≤ y := by omega
  have hyd : decide (u ≤ y) = false := by simpa using hyu
  obtain ⟨j', hj', hji⟩ : ∃ j' : Nat, (i : Int) - 1 = (j' : Int) ∧ i - 1 = j' := ⟨i - 1, by omega, rfl⟩
  have hi'0 : (0 : Int) ≤ (j' : Int) := by omega
  have hi'l : (j' : Int) < (ts.length : Int) := by omega
  have hwj : IntKind.i64.wrap (j' : Int) = (j' : Int) := IntWalk.i64_in _ (by omega)
  have hwr : IntKind.i64.wrap ((i : Int) - 1) = (j' : Int) := by rw [hj']; exact hwj
  rw [hji] at my
  clear hi00 hji
  go_upto_region 23 with fail
  refine wp_region_held_drew (S := fun w' => Hid (w8.grownBy w' none)) (by kernel_rfl) (Lib.hid (grown_trans G.out (grown_drew (grown_refl _ none)))) (fun hHeld => ?_)
  refine wpAnyH_take (i := 0) (oi := { dst := some 80, op := Op.move (Operand.tmp 12), type := 31, pos := "law.go:87", after := #[], guard := none }) (v := ?_) rfl (by kernel_rfl) (by kernel_rfl) (by kernel_rfl) (fun _ _ _ h => h) (Or.inl ⟨by rfl, ?_⟩) hHeld ?_
  rotate_left 1
  · intro u hSu
    obtain ⟨d0u, d1u, d2u, d3u⟩ := row4T (K8.out.keep hSu.out).bx
    have m0u := hSu.out.cell M0.out.1 (by simp)
    have m1u := hSu.out.cell M0.out.2 (by simp)
    have myu := hSu.out.cell my (by simp)
    go_simp
    first | done | with_reducible rfl
  (try simp only [Act.put, List.setIfInBounds_toArray, List.set_cons_zero, List.set_cons_succ])
  refine wpAnyH_take (i := 1) (oi := { dst := some 81, op := Op.move (Operand.tmp 13), type := 37, pos := "law.go:87", after := #[], guard := none }) (v := ?_) rfl (by kernel_rfl) (by kernel_rfl) (by kernel_rfl) (fun _ _ _ h => h) (Or.inl ⟨by rfl, ?_⟩) hHeld ?_
  rotate_left 1
  · intro u hSu
    obtain ⟨d0u, d1u, d2u, d3u⟩ := row4T (K8.out.keep hSu.out).bx
    have m0u := hSu.out.cell M0.out.1 (by simp)
    have m1u := hSu.out.cell M0.out.2 (by simp)
    have myu := hSu.out.cell my (by simp)
    go_simp
    first | done | with_reducible rfl
  (try simp only [Act.put, List.setIfInBounds_toArray, List.set_cons_zero, List.set_cons_succ])
  refine wpAnyH_take (i := 2) (oi := { dst := some 82, op := Op.move (Operand.tmp 14), type := 3, pos := "law.go:87", after := #[], guard := none }) (v := ?_) rfl (by kernel_rfl) (by kernel_rfl) (by kernel_rfl) (fun _ _ _ h => h) (Or.inl ⟨by rfl, ?_⟩) hHeld ?_
  rotate_left 1
  · intro u hSu
    obtain ⟨d0u, d1u, d2u, d3u⟩ := row4T (K8.out.keep hSu.out).bx
    have m0u := hSu.out.cell M0.out.1 (by simp)
    have m1u := hSu.out.cell M0.out.2 (by simp)
    have myu := hSu.out.cell my (by simp)
    go_simp
    first | done | with_reducible rfl
  (try simp only [Act.put, List.setIfInBounds_toArray, List.set_cons_zero, List.set_cons_succ])
  refine wpAnyH_take (i := 3) (oi := { dst := some 83, op := Op.indexAddr 37 (Operand.tmp 81) (Operand.tmp 82), type := 0, pos := "law.go:87", after := #[{ on := 1, ground := Ground.data }, { on := 2, ground := Ground.data }], guard := none }) (v := ?_) rfl (by kernel_rfl) (by kernel_rfl) (by kernel_rfl) (fun _ _ _ h => h) (Or.inl ⟨by rfl, ?_⟩) hHeld ?_
  rotate_left 1
  · intro u hSu
    obtain ⟨d0u, d1u, d2u, d3u⟩ := row4T (K8.out.keep hSu.out).bx
    have m0u := hSu.out.cell M0.out.1 (by simp)
    have m1u := hSu.out.cell M0.out.2 (by simp)
    have myu := hSu.out.cell my (by simp)
    go_simp
    first | done | with_reducible rfl
  (try simp only [Act.put, List.setIfInBounds_toArray, List.set_cons_zero, List.set_cons_succ])
  refine wpAnyH_take (i := 4) (oi := { dst := some 84, op := Op.fieldAddr 40 (Operand.tmp 83) 1, type := 0, pos := "law.go:87", after := #[{ on := 3, ground := Ground.data }], guard := none }) (v := ?_) rfl (by kernel_rfl) (by kernel_rfl) (by kernel_rfl) (fun _ _ _ h => h) (Or.inl ⟨by rfl, ?_⟩) hHeld ?_
  rotate_left 1
  · intro u hSu
    obtain ⟨d0u, d1u, d2u, d3u⟩ := row4T (K8.out.keep hSu.out).bx
    have m0u := hSu.out.cell M0.out.1 (by simp)
    have m1u := hSu.out.cell M0.out.2 (by simp)
    have myu := hSu.out.cell my (by simp)
    go_simp
    first | done | with_reducible rfl
  (try simp only [Act.put, List.setIfInBounds_toArray, List.set_cons_zero, List.set_cons_succ])
  refine wpAnyH_take (i := 5) (oi := { dst := some 85, op := Op.load 31 (Operand.tmp 84), type := 31, pos := "law.go:87", after := #[{ on := 4, ground := Ground.data }], guard := none }) (v := ?_) rfl (by kernel_rfl) (by kernel_rfl) (by kernel_rfl) (fun _ _ _ h => h) (Or.inl ⟨by rfl, ?_⟩) hHeld ?_
  rotate_left 1
  · intro u hSu
    obtain ⟨d0u, d1u, d2u, d3u⟩ := row4T (K8.out.keep hSu.out).bx
    have m0u := hSu.out.cell M0.out.1 (by simp)
    have m1u := hSu.out.cell M0.out.2 (by simp)
    have myu := hSu.out.cell my (by simp)
    go_simp
    first | done | with_reducible rfl
  (try simp only [Act.put, List.setIfInBounds_toArray, List.set_cons_zero, List.set_cons_succ])
  refine wpAnyH_take (i := 6) (oi := { dst := some 86, op := Op.binOp BinOp.and 31 (Operand.tmp 80) (Operand.tmp 85) 31, type := 31, pos := "law.go:87", after := #[{ on := 0, ground := Ground.data }, { on := 5, ground := Ground.data }], guard := none }) (v := .int .u64 0) rfl (by kernel_rfl) (by kernel_rfl) (by kernel_rfl) (fun _ _ _ h => h) (Or.inl ⟨by rfl, ?_⟩) hHeld ?_
  · intro u hSu
    obtain ⟨d0u, d1u, d2u, d3u⟩ := row4T (K8.out.keep hSu.out).bx
    have m0u := hSu.out.cell M0.out.1 (by simp)
    have m1u := hSu.out.cell M0.out.2 (by simp)
    have myu := hSu.out.cell my (by simp)
    go_simp
    first | done | exact hand | simp_all
  (try simp only [Act.put, List.setIfInBounds_toArray, List.set_cons_zero, List.set_cons_succ])
  refine wpAnyH_take (i := 7) (oi := { dst := some 87, op := Op.binOp BinOp.neq 31 (Operand.tmp 86) (Operand.const (Value.int IntKind.u64 0)) 31, type := 4, pos := "law.go:87", after := #[{ on := 6, ground := Ground.data }], guard := none }) (v := .bool false) rfl (by kernel_rfl) (by kernel_rfl) (by kernel_rfl) (fun _ _ _ h => h) (Or.inl ⟨by rfl, ?_⟩) hHeld ?_
  · intro u hSu
    obtain ⟨d0u, d1u, d2u, d3u⟩ := row4T (K8.out.keep hSu.out).bx
    have m0u := hSu.out.cell M0.out.1 (by simp)
    have m1u := hSu.out.cell M0.out.2 (by simp)
    have myu := hSu.out.cell my (by simp)
    go_simp
    first | done | rfl | simp_all
  (try simp only [Act.put, List.setIfInBounds_toArray, List.set_cons_zero, List.set_cons_succ])
  refine wpAnyH_take (i := 8) (oi := { dst := some 88, op := Op.move (Operand.tmp 87), type := 4, pos := "law.go:87", after := #[{ on := 7, ground := Ground.data }], guard := none }) (v := .bool false) rfl (by kernel_rfl) (by kernel_rfl) (by kernel_rfl) (fun _ _ _ h => h) (Or.inl ⟨by rfl, ?_⟩) hHeld ?_
  · intro u hSu
    obtain ⟨d0u, d1u, d2u, d3u⟩ := row4T (K8.out.keep hSu.out).bx
    have m0u := hSu.out.cell M0.out.1 (by simp)
    have m1u := hSu.out.cell M0.out.2 (by simp)
    have myu := hSu.out.cell my (by simp)
    go_simp
    first | done | rfl | simp_all
  (try simp only [Act.put, List.setIfInBounds_toArray, List.set_cons_zero, List.set_cons_succ])
  refine wpAnyH_take (i := 9) (oi := { dst := some 89, op := Op.move (Operand.tmp 13), type := 37, pos := "law.go:87", after := #[{ on := 8, ground := Ground.guard }], guard := some (8, false) }) (v := ?_) rfl (by kernel_rfl) (by kernel_rfl) (by kernel_rfl) (fun _ _ _ h => h) (Or.inl ⟨by rfl, ?_⟩) hHeld ?_
  rotate_left 1
  · intro u hSu
    obtain ⟨d0u, d1u, d2u, d3u⟩ := row4T (K8.out.keep hSu.out).bx
    have m0u := hSu.out.cell M0.out.1 (by simp)
    have m1u := hSu.out.cell M0.out.2 (by simp)
    have myu := hSu.out.cell my (by simp)
    go_simp
    first | done | with_reducible rfl
  (try simp only [Act.put, List.setIfInBounds_toArray, List.set_cons_zero, List.set_cons_succ])
  refine wpAnyH_take (i := 10) (oi := { dst := some 90, op := Op.move (Operand.tmp 14), type := 3, pos := "law.go:87", after := #[{ on := 8, ground := Ground.guard }], guard := some (8, false) }) (v := ?_) rfl (by kernel_rfl) (by kernel_rfl) (by kernel_rfl) (fun _ _ _ h => h) (Or.inl ⟨by rfl, ?_⟩) hHeld ?_
  rotate_left 1
  · intro u hSu
    obtain ⟨d0u, d1u, d2u, d3u⟩ := row4T (K8.out.keep hSu.out).bx
    have m0u := hSu.out.cell M0.out.1 (by simp)
    have m1u := hSu.out.cell M0.out.2 (by simp)
    have myu := hSu.out.cell my (by simp)
    go_simp
    first | done | with_reducible rfl
  (try simp only [Act.put, List.setIfInBounds_toArray, List.set_cons_zero, List.set_cons_succ])
  refine wpAnyH_take (i := 11) (oi := { dst := some 91, op := Op.indexAddr 37 (Operand.tmp 89) (Operand.tmp 90), type := 0, pos := "law.go:87", after := #[{ on := 9, ground := Ground.data }, { on := 10, ground := Ground.data }, { on := 8, ground := Ground.guard }], guard := some (8, false) }) (v := ?_) rfl (by kernel_rfl) (by kernel_rfl) (by kernel_rfl) (fun _ _ _ h => h) (Or.inl ⟨by rfl, ?_⟩) hHeld ?_
  rotate_left 1
  · intro u hSu
    obtain ⟨d0u, d1u, d2u, d3u⟩ := row4T (K8.out.keep hSu.out).bx
    have m0u := hSu.out.cell M0.out.1 (by simp)
    have m1u := hSu.out.cell M0.out.2 (by simp)
    have myu := hSu.out.cell my (by simp)
    go_simp
    first | done | with_reducible rfl
  (try simp only [Act.put, List.setIfInBounds_toArray, List.set_cons_zero, List.set_cons_succ])
  refine wpAnyH_take (i := 12) (oi := { dst := some 92, op := Op.fieldAddr 40 (Operand.tmp 91) 1, type := 0, pos := "law.go:87", after := #[{ on := 11, ground := Ground.data }, { on := 8, ground := Ground.guard }], guard := some (8, false) }) (v := ?_) rfl (by kernel_rfl) (by kernel_rfl) (by kernel_rfl) (fun _ _ _ h => h) (Or.inl ⟨by rfl, ?_⟩) hHeld ?_
  rotate_left 1
  · intro u hSu
    obtain ⟨d0u, d1u, d2u, d3u⟩ := row4T (K8.out.keep hSu.out).bx
    have m0u := hSu.out.cell M0.out.1 (by simp)
    have m1u := hSu.out.cell M0.out.2 (by simp)
    have myu := hSu.out.cell my (by simp)
    go_simp
    first | done | with_reducible rfl
  (try simp only [Act.put, List.setIfInBounds_toArray, List.set_cons_zero, List.set_cons_succ])
  refine wpAnyH_take (i := 13) (oi := { dst := some 93, op := Op.load 31 (Operand.tmp 92), type := 31, pos := "law.go:87", after := #[{ on := 12, ground := Ground.data }, { on := 8, ground := Ground.guard }], guard := some (8, false) }) (v := ?_) rfl (by kernel_rfl) (by kernel_rfl) (by kernel_rfl) (fun _ _ _ h => h) (Or.inl ⟨by rfl, ?_⟩) hHeld ?_
  rotate_left 1
  · intro u hSu
    obtain ⟨d0u, d1u, d2u, d3u⟩ := row4T (K8.out.keep hSu.out).bx
    have m0u := hSu.out.cell M0.out.1 (by simp)
    have m1u := hSu.out.cell M0.out.2 (by simp)
    have myu := hSu.out.cell my (by simp)
    go_simp
    first | done | with_reducible rfl
  (try simp only [Act.put, List.setIfInBounds_toArray, List.set_cons_zero, List.set_cons_succ])
  refine wpAnyH_take (i := 14) (oi := { dst := some 94, op := Op.binOp BinOp.eql 31 (Operand.tmp 93) (Operand.const (Value.int IntKind.u64 0)) 31, type := 4, pos := "law.go:87", after := #[{ on := 13, ground := Ground.data }, { on := 8, ground := Ground.guard }], guard := some (8, false) }) (v := .bool false) rfl (by kernel_rfl) (by kernel_rfl) (by kernel_rfl) (fun _ _ _ h => h) (Or.inl ⟨by rfl, ?_⟩) hHeld ?_
  · intro u hSu
    obtain ⟨d0u, d1u, d2u, d3u⟩ := row4T (K8.out.keep hSu.out).bx
    have m0u := hSu.out.cell M0.out.1 (by simp)
    have m1u := hSu.out.cell M0.out.2 (by simp)
    have myu := hSu.out.cell my (by simp)
    go_simp
    first | done | rfl | simp_all
  (try simp only [Act.put, List.setIfInBounds_toArray, List.set_cons_zero, List.set_cons_succ])
  refine wpAnyH_take (i := 15) (oi := { dst := some 95, op := Op.pick (Operand.tmp 88) (Operand.const (Value.bool true)) (Operand.tmp 94), type := 4, pos := "law.go:87", after := #[{ on := 8, ground := Ground.data }, { on := 14, ground := Ground.data }], guard := none }) (v := .bool false) rfl (by kernel_rfl) (by kernel_rfl) (by kernel_rfl) (fun _ _ _ h => h) (Or.inl ⟨by rfl, ?_⟩) hHeld ?_
  · intro u hSu
    obtain ⟨d0u, d1u, d2u, d3u⟩ := row4T (K8.out.keep hSu.out).bx
    have m0u := hSu.out.cell M0.out.1 (by simp)
    have m1u := hSu.out.cell M0.out.2 (by simp)
    have myu := hSu.out.cell my (by simp)
    go_simp
    first | done | rfl | simp_all
  (try simp only [Act.put, List.setIfInBounds_toArray, List.set_cons_zero, List.set_cons_succ])
  refine wpAnyH_take (i := 16) (oi := { dst := some 96, op := Op.move (Operand.tmp 95), type := 4, pos := "law.go:87", after := #[{ on := 15, ground := Ground.data }, { on := 8, ground := Ground.chain }], guard := none }) (v := .bool false) rfl (by kernel_rfl) (by kernel_rfl) (by kernel_rfl) (fun _ _ _ h => h) (Or.inl ⟨by rfl, ?_⟩) hHeld ?_
  · intro u hSu
    obtain ⟨d0u, d1u, d2u, d3u⟩ := row4T (K8.out.keep hSu.out).bx
    have m0u := hSu.out.cell M0.out.1 (by simp)
    have m1u := hSu.out.cell M0.out.2 (by simp)
    have myu := hSu.out.cell my (by simp)
    go_simp
    first | done | rfl | simp_all
  (try simp only [Act.put, List.setIfInBounds_toArray, List.set_cons_zero, List.set_cons_succ])
  refine wpAnyH_take (i := 17) (oi := { dst := some 97, op := Op.move (Operand.tmp 14), type := 3, pos := "law.go:87", after := #[{ on := 16, ground := Ground.guard }], guard := some (16, false) }) (v := ?_) rfl (by kernel_rfl) (by kernel_rfl) (by kernel_rfl) (fun _ _ _ h => h) (Or.inl ⟨by rfl, ?_⟩) hHeld ?_
  rotate_left 1
  · intro u hSu
    obtain ⟨d0u, d1u, d2u, d3u⟩ := row4T (K8.out.keep hSu.out).bx
    have m0u := hSu.out.cell M0.out.1 (by simp)
    have m1u := hSu.out.cell M0.out.2 (by simp)
    have myu := hSu.out.cell my (by simp)
    go_simp
    first | done | with_reducible rfl
  (try simp only [Act.put, List.setIfInBounds_toArray, List.set_cons_zero, List.set_cons_succ])
  refine wpAnyH_take (i := 18) (oi := { dst := some 98, op := Op.binOp BinOp.gtr 3 (Operand.tmp 97) (Operand.const (Value.int IntKind.i64 0)) 3, type := 4, pos := "law.go:87", after := #[{ on := 17, ground := Ground.data }, { on := 16, ground := Ground.guard }], guard := some (16, false) }) (v := .bool true) rfl (by kernel_rfl) (by kernel_rfl) (by kernel_rfl) (fun _ _ _ h => h) (Or.inl ⟨by rfl, ?_⟩) hHeld ?_
  · intro u hSu
    obtain ⟨d0u, d1u, d2u, d3u⟩ := row4T (K8.out.keep hSu.out).bx
    have m0u := hSu.out.cell M0.out.1 (by simp)
    have m1u := hSu.out.cell M0.out.2 (by simp)
    have myu := hSu.out.cell my (by simp)
    go_simp
    first | done | rfl | simp_all
  (try simp only [Act.put, List.setIfInBounds_toArray, List.set_cons_zero, List.set_cons_succ])
  refine wpAnyH_take (i := 19) (oi := { dst := some 99, op := Op.move (Operand.tmp 98), type := 4, pos := "law.go:87", after := #[{ on := 18, ground := Ground.data }, { on := 16, ground := Ground.chain }, { on := 16, ground := Ground.guard }], guard := some (16, false) }) (v := .bool true) rfl (by kernel_rfl) (by kernel_rfl) (by kernel_rfl) (fun _ _ _ h => h) (Or.inl ⟨by rfl, ?_⟩) hHeld ?_
  · intro u hSu
    obtain ⟨d0u, d1u, d2u, d3u⟩ := row4T (K8.out.keep hSu.out).bx
    have m0u := hSu.out.cell M0.out.1 (by simp)
    have m1u := hSu.out.cell M0.out.2 (by simp)
    have myu := hSu.out.cell my (by simp)
    go_simp
    first | done | rfl | simp_all
  (try simp only [Act.put, List.setIfInBounds_toArray, List.set_cons_zero, List.set_cons_succ])
  refine wpAnyH_take (i := 20) (oi := { dst := some 100, op := Op.move (Operand.tmp 13), type := 37, pos := "law.go:87", after := #[{ on := 19, ground := Ground.guard }], guard := some (19, true) }) (v := ?_) rfl (by kernel_rfl) (by kernel_rfl) (by kernel_rfl) (fun _ _ _ h => h) (Or.inl ⟨by rfl, ?_⟩) hHeld ?_
  rotate_left 1
  · intro u hSu
    obtain ⟨d0u, d1u, d2u, d3u⟩ := row4T (K8.out.keep hSu.out).bx
    have m0u := hSu.out.cell M0.out.1 (by simp)
    have m1u := hSu.out.cell M0.out.2 (by simp)
    have myu := hSu.out.cell my (by simp)
    go_simp
    first | done | with_reducible rfl
  (try simp only [Act.put, List.setIfInBounds_toArray, List.set_cons_zero, List.set_cons_succ])
  refine wpAnyH_take (i := 21) (oi := { dst := some 101, op := Op.move (Operand.tmp 14), type := 3, pos := "law.go:87", after := #[{ on := 19, ground := Ground.guard }], guard := some (19, true) }) (v := ?_) rfl (by kernel_rfl) (by kernel_rfl) (by kernel_rfl) (fun _ _ _ h => h) (Or.inl ⟨by rfl, ?_⟩) hHeld ?_
  rotate_left 1
  · intro u hSu
    obtain ⟨d0u, d1u, d2u, d3u⟩ := row4T (K8.out.keep hSu.out).bx
    have m0u := hSu.out.cell M0.out.1 (by simp)
    have m1u := hSu.out.cell M0.out.2 (by simp)
    have myu := hSu.out.cell my (by simp)
    go_simp
    first | done | with_reducible rfl
  (try simp only [Act.put, List.setIfInBounds_toArray, List.set_cons_zero, List.set_cons_succ])
  refine wpAnyH_take (i := 22) (oi := { dst := some 102, op := Op.binOp BinOp.sub 3 (Operand.tmp 101) (Operand.const (Value.int IntKind.i64 1)) 3, type := 3, pos := "law.go:87", after := #[{ on := 21, ground := Ground.data }, { on := 19, ground := Ground.guard }], guard := some (19, true) }) (v := .int .i64 (j' : Int)) rfl (by kernel_rfl) (by kernel_rfl) (by kernel_rfl) (fun _ _ _ h => h) (Or.inl ⟨by rfl, ?_⟩) hHeld ?_
  · intro u hSu
    obtain ⟨d0u, d1u, d2u, d3u⟩ := row4T (K8.out.keep hSu.out).bx
    have m0u := hSu.out.cell M0.out.1 (by simp)
    have m1u := hSu.out.cell M0.out.2 (by simp)
    have myu := hSu.out.cell my (by simp)
    go_simp
    first | done | rfl | simp_all
  (try simp only [Act.put, List.setIfInBounds_toArray, List.set_cons_zero, List.set_cons_succ])
  refine wpAnyH_take (i := 23) (oi := { dst := some 103, op := Op.indexAddr 37 (Operand.tmp 100) (Operand.tmp 102), type := 0, pos := "law.go:87", after := #[{ on := 20, ground := Ground.data }, { on := 22, ground := Ground.data }, { on := 19, ground := Ground.guard }], guard := some (19, true) }) (v := ?_) rfl (by kernel_rfl) (by kernel_rfl) (by kernel_rfl) (fun _ _ _ h => h) (Or.inl ⟨by rfl, ?_⟩) hHeld ?_
  rotate_left 1
  · intro u hSu
    obtain ⟨d0u, d1u, d2u, d3u⟩ := row4T (K8.out.keep hSu.out).bx
    have m0u := hSu.out.cell M0.out.1 (by simp)
    have m1u := hSu.out.cell M0.out.2 (by simp)
    have myu := hSu.out.cell my (by simp)
    go_simp
    first | done | with_reducible rfl
  (try simp only [Act.put, List.setIfInBounds_toArray, List.set_cons_zero, List.set_cons_succ])
  refine wpAnyH_take (i := 24) (oi := { dst := some 104, op := Op.fieldAddr 40 (Operand.tmp 103) 0, type := 0, pos := "law.go:87", after := #[{ on := 23, ground := Ground.data }, { on := 19, ground := Ground.guard }], guard := some (19, true) }) (v := ?_) rfl (by kernel_rfl) (by kernel_rfl) (by kernel_rfl) (fun _ _ _ h => h) (Or.inl ⟨by rfl, ?_⟩) hHeld ?_
  rotate_left 1
  · intro u hSu
    obtain ⟨d0u, d1u, d2u, d3u⟩ := row4T (K8.out.keep hSu.out).bx
    have m0u := hSu.out.cell M0.out.1 (by simp)
    have m1u := hSu.out.cell M0.out.2 (by simp)
    have myu := hSu.out.cell my (by simp)
    go_simp
    first | done | with_reducible rfl
  (try simp only [Act.put, List.setIfInBounds_toArray, List.set_cons_zero, List.set_cons_succ])
  refine wpAnyH_take (i := 25) (oi := { dst := some 105, op := Op.load 3 (Operand.tmp 104), type := 3, pos := "law.go:87", after := #[{ on := 24, ground := Ground.data }, { on := 19, ground := Ground.guard }], guard := some (19, true) }) (v := ?_) rfl (by kernel_rfl) (by kernel_rfl) (by kernel_rfl) (fun _ _ _ h => h) (Or.inl ⟨by rfl, ?_⟩) hHeld ?_
  rotate_left 1
  · intro u hSu
    obtain ⟨d0u, d1u, d2u, d3u⟩ := row4T (K8.out.keep hSu.out).bx
    have m0u := hSu.out.cell M0.out.1 (by simp)
    have m1u := hSu.out.cell M0.out.2 (by simp)
    have myu := hSu.out.cell my (by simp)
    go_simp
    first | done | with_reducible rfl
  (try simp only [Act.put, List.setIfInBounds_toArray, List.set_cons_zero, List.set_cons_succ])
  refine wpAnyH_take (i := 26) (oi := { dst := some 106, op := Op.move (Operand.tmp 13), type := 37, pos := "law.go:87", after := #[{ on := 19, ground := Ground.guard }], guard := some (19, true) }) (v := ?_) rfl (by kernel_rfl) (by kernel_rfl) (by kernel_rfl) (fun _ _ _ h => h) (Or.inl ⟨by rfl, ?_⟩) hHeld ?_
  rotate_left 1
  · intro u hSu
    obtain ⟨d0u, d1u, d2u, d3u⟩ := row4T (K8.out.keep hSu.out).bx
    have m0u := hSu.out.cell M0.out.1 (by simp)
    have m1u := hSu.out.cell M0.out.2 (by simp)
    have myu := hSu.out.cell my (by simp)
    go_simp
    first | done | with_reducible rfl
  (try simp only [Act.put, List.setIfInBounds_toArray, List.set_cons_zero, List.set_cons_succ])
  refine wpAnyH_take (i := 27) (oi := { dst := some 107, op := Op.move (Operand.tmp 14), type := 3, pos := "law.go:87", after := #[{ on := 19, ground := Ground.guard }], guard := some (19, true) }) (v := ?_) rfl (by kernel_rfl) (by kernel_rfl) (by kernel_rfl) (fun _ _ _ h => h) (Or.inl ⟨by rfl, ?_⟩) hHeld ?_
  rotate_left 1
  · intro u hSu
    obtain ⟨d0u, d1u, d2u, d3u⟩ := row4T (K8.out.keep hSu.out).bx
    have m0u := hSu.out.cell M0.out.1 (by simp)
    have m1u := hSu.out.cell M0.out.2 (by simp)
    have myu := hSu.out.cell my (by simp)
    go_simp
    first | done | with_reducible rfl
  (try simp only [Act.put, List.setIfInBounds_toArray, List.set_cons_zero, List.set_cons_succ])
  refine wpAnyH_take (i := 28) (oi := { dst := some 108, op := Op.indexAddr 37 (Operand.tmp 106) (Operand.tmp 107), type := 0, pos := "law.go:87", after := #[{ on := 26, ground := Ground.data }, { on := 27, ground := Ground.data }, { on := 19, ground := Ground.guard }], guard := some (19, true) }) (v := ?_) rfl (by kernel_rfl) (by kernel_rfl) (by kernel_rfl) (fun _ _ _ h => h) (Or.inl ⟨by rfl, ?_⟩) hHeld ?_
  rotate_left 1
  · intro u hSu
    obtain ⟨d0u, d1u, d2u, d3u⟩ := row4T (K8.out.keep hSu.out).bx
    have m0u := hSu.out.cell M0.out.1 (by simp)
    have m1u := hSu.out.cell M0.out.2 (by simp)
    have myu := hSu.out.cell my (by simp)
    go_simp
    first | done | with_reducible rfl
  (try simp only [Act.put, List.setIfInBounds_toArray, List.set_cons_zero, List.set_cons_succ])
  refine wpAnyH_take (i := 29) (oi := { dst := some 109, op := Op.fieldAddr 40 (Operand.tmp 108) 0, type := 0, pos := "law.go:87", after := #[{ on := 28, ground := Ground.data }, { on := 19, ground := Ground.guard }], guard := some (19, true) }) (v := ?_) rfl (by kernel_rfl) (by kernel_rfl) (by kernel_rfl) (fun _ _ _ h => h) (Or.inl ⟨by rfl, ?_⟩) hHeld ?_
  rotate_left 1
  · intro u hSu
    obtain ⟨d0u, d1u, d2u, d3u⟩ := row4T (K8.out.keep hSu.out).bx
    have m0u := hSu.out.cell M0.out.1 (by simp)
    have m1u := hSu.out.cell M0.out.2 (by simp)
    have myu := hSu.out.cell my (by simp)
    go_simp
    first | done | with_reducible rfl
  (try simp only [Act.put, List.setIfInBounds_toArray, List.set_cons_zero, List.set_cons_succ])
  refine wpAnyH_take (i := 30) (oi := { dst := some 110, op := Op.load 3 (Operand.tmp 109), type := 3, pos := "law.go:87", after := #[{ on := 29, ground := Ground.data }, { on := 19, ground := Ground.guard }], guard := some (19, true) }) (v := ?_) rfl (by kernel_rfl) (by kernel_rfl) (by kernel_rfl) (fun _ _ _ h => h) (Or.inl ⟨by rfl, ?_⟩) hHeld ?_
  rotate_left 1
  · intro u hSu
    obtain ⟨d0u, d1u, d2u, d3u⟩ := row4T (K8.out.keep hSu.out).bx
    have m0u := hSu.out.cell M0.out.1 (by simp)
    have m1u := hSu.out.cell M0.out.2 (by simp)
    have myu := hSu.out.cell my (by simp)
    go_simp
    first | done | with_reducible rfl
  (try simp only [Act.put, List.setIfInBounds_toArray, List.set_cons_zero, List.set_cons_succ])
  refine wpAnyH_take (i := 31) (oi := { dst := some 111, op := Op.binOp BinOp.geq 3 (Operand.tmp 105) (Operand.tmp 110) 3, type := 4, pos := "law.go:87", after := #[{ on := 25, ground := Ground.data }, { on := 30, ground := Ground.data }, { on := 19, ground := Ground.guard }], guard := some (19, true) }) (v := .bool false) rfl (by kernel_rfl) (by kernel_rfl) (by kernel_rfl) (fun _ _ _ h => h) (Or.inl ⟨by rfl, ?_⟩) hHeld ?_
  · intro u hSu
    obtain ⟨d0u, d1u, d2u, d3u⟩ := row4T (K8.out.keep hSu.out).bx
    have m0u := hSu.out.cell M0.out.1 (by simp)
    have m1u := hSu.out.cell M0.out.2 (by simp)
    have myu := hSu.out.cell my (by simp)
    go_simp
    first | done | rfl | simp_all
  (try simp only [Act.put, List.setIfInBounds_toArray, List.set_cons_zero, List.set_cons_succ])
  refine wpAnyH_take (i := 32) (oi := { dst := some 112, op := Op.pick (Operand.tmp 99) (Operand.tmp 111) (Operand.const (Value.bool false)), type := 4, pos := "law.go:87", after := #[{ on := 19, ground := Ground.data }, { on := 31, ground := Ground.data }, { on := 16, ground := Ground.guard }], guard := some (16, false) }) (v := .bool false) rfl (by kernel_rfl) (by kernel_rfl) (by kernel_rfl) (fun _ _ _ h => h) (Or.inl ⟨by rfl, ?_⟩) hHeld ?_
  · intro u hSu
    obtain ⟨d0u, d1u, d2u, d3u⟩ := row4T (K8.out.keep hSu.out).bx
    have m0u := hSu.out.cell M0.out.1 (by simp)
    have m1u := hSu.out.cell M0.out.2 (by simp)
    have myu := hSu.out.cell my (by simp)
    go_simp
    first | done | rfl | simp_all
  (try simp only [Act.put, List.setIfInBounds_toArray, List.set_cons_zero, List.set_cons_succ])
  refine wpAnyH_take (i := 33) (oi := { dst := some 113, op := Op.pick (Operand.tmp 96) (Operand.const (Value.bool true)) (Operand.tmp 112), type := 4, pos := "law.go:87", after := #[{ on := 16, ground := Ground.data }, { on := 32, ground := Ground.data }], guard := none }) (v := .bool false) rfl (by kernel_rfl) (by kernel_rfl) (by kernel_rfl) (fun _ _ _ h => h) (Or.inl ⟨by rfl, ?_⟩) hHeld ?_
  · intro u hSu
    obtain ⟨d0u, d1u, d2u, d3u⟩ := row4T (K8.out.keep hSu.out).bx
    have m0u := hSu.out.cell M0.out.1 (by simp)
    have m1u := hSu.out.cell M0.out.2 (by simp)
    have myu := hSu.out.cell my (by simp)
    go_simp
    first | done | rfl | simp_all
  (try simp only [Act.put, List.setIfInBounds_toArray, List.set_cons_zero, List.set_cons_succ])
  refine wpAnyH_take (i := 34) (oi := { dst := some 114, op := Op.move (Operand.tmp 113), type := 4, pos := "law.go:87", after := #[{ on := 33, ground := Ground.data }, { on := 19, ground := Ground.chain }], guard := none }) (v := .bool false) rfl (by kernel_rfl) (by kernel_rfl) (by kernel_rfl) (fun _ _ _ h => h) (Or.inl ⟨by rfl, ?_⟩) hHeld ?_
  · intro u hSu
    obtain ⟨d0u, d1u, d2u, d3u⟩ := row4T (K8.out.keep hSu.out).bx
    have m0u := hSu.out.cell M0.out.1 (by simp)
    have m1u := hSu.out.cell M0.out.2 (by simp)
    have myu := hSu.out.cell my (by simp)
    go_simp
    first | done | rfl | simp_all
  (try simp only [Act.put, List.setIfInBounds_toArray, List.set_cons_zero, List.set_cons_succ])
  refine wpAnyH_take (i := 35) (oi := { dst := some 115, op := Op.load 27 (Operand.tmp 4), type := 27, pos := "law.go:87", after := #[{ on := 34, ground := Ground.guard }], guard := some (34, false) }) (v := ?_) rfl (by kernel_rfl) (by kernel_rfl) (by kernel_rfl) (fun _ _ _ h => h) (Or.inl ⟨by rfl, ?_⟩) hHeld ?_
  rotate_left 1
  · intro u hSu
    obtain ⟨d0u, d1u, d2u, d3u⟩ := row4T (K8.out.keep hSu.out).bx
    have m0u := hSu.out.cell M0.out.1 (by simp)
    have m1u := hSu.out.cell M0.out.2 (by simp)
    have myu := hSu.out.cell my (by simp)
    go_simp
    first | done | with_reducible rfl
  (try simp only [Act.put, List.setIfInBounds_toArray, List.set_cons_zero, List.set_cons_succ])
  refine wpAnyH_take (i := 36) (oi := { dst := some 116, op := Op.move (Operand.tmp 11), type := 3, pos := "law.go:87", after := #[{ on := 34, ground := Ground.guard }], guard := some (34, false) }) (v := ?_) rfl (by kernel_rfl) (by kernel_rfl) (by kernel_rfl) (fun _ _ _ h => h) (Or.inl ⟨by rfl, ?_⟩) hHeld ?_
  rotate_left 1
  · intro u hSu
    obtain ⟨d0u, d1u, d2u, d3u⟩ := row4T (K8.out.keep hSu.out).bx
    have m0u := hSu.out.cell M0.out.1 (by simp)
    have m1u := hSu.out.cell M0.out.2 (by simp)
    have myu := hSu.out.cell my (by simp)
    go_simp
    first | done | with_reducible rfl
  (try simp only [Act.put, List.setIfInBounds_toArray, List.set_cons_zero, List.set_cons_succ])
  refine wpAnyH_take (i := 37) (oi := { dst := some 117, op := Op.move (Operand.tmp 5), type := 3, pos := "law.go:87", after := #[{ on := 34, ground := Ground.guard }], guard := some (34, false) }) (v := ?_) rfl (by kernel_rfl) (by kernel_rfl) (by kernel_rfl) (fun _ _ _ h => h) (Or.inl ⟨by rfl, ?_⟩) hHeld ?_
  rotate_left 1
  · intro u hSu
    obtain ⟨d0u, d1u, d2u, d3u⟩ := row4T (K8.out.keep hSu.out).bx
    have m0u := hSu.out.cell M0.out.1 (by simp)
    have m1u := hSu.out.cell M0.out.2 (by simp)
    have myu := hSu.out.cell my (by simp)
    go_simp
    first | done | with_reducible rfl
  (try simp only [Act.put, List.setIfInBounds_toArray, List.set_cons_zero, List.set_cons_succ])
  refine wpAnyH_take (i := 38) (oi := { dst := some 118, op := Op.move (Operand.tmp 13), type := 37, pos := "law.go:87", after := #[{ on := 34, ground := Ground.guard }], guard := some (34, false) }) (v := ?_) rfl (by kernel_rfl) (by kernel_rfl) (by kernel_rfl) (fun _ _ _ h => h) (Or.inl ⟨by rfl, ?_⟩) hHeld ?_
  rotate_left 1
  · intro u hSu
    obtain ⟨d0u, d1u, d2u, d3u⟩ := row4T (K8.out.keep hSu.out).bx
    have m0u := hSu.out.cell M0.out.1 (by simp)
    have m1u := hSu.out.cell M0.out.2 (by simp)
    have myu := hSu.out.cell my (by simp)
    go_simp
    first | done | with_reducible rfl
  (try simp only [Act.put, List.setIfInBounds_toArray, List.set_cons_zero, List.set_cons_succ])
  refine wpAnyH_take (i := 39) (oi := { dst := some 119, op := Op.move (Operand.tmp 14), type := 3, pos := "law.go:87", after := #[{ on := 34, ground := Ground.guard }], guard := some (34, false) }) (v := ?_) rfl (by kernel_rfl) (by kernel_rfl) (by kernel_rfl) (fun _ _ _ h => h) (Or.inl ⟨by rfl, ?_⟩) hHeld ?_
  rotate_left 1
  · intro u hSu
    obtain ⟨d0u, d1u, d2u, d3u⟩ := row4T (K8.out.keep hSu.out).bx
    have m0u := hSu.out.cell M0.out.1 (by simp)
    have m1u := hSu.out.cell M0.out.2 (by simp)
    have myu := hSu.out.cell my (by simp)
    go_simp
    first | done | with_reducible rfl
  (try simp only [Act.put, List.setIfInBounds_toArray, List.set_cons_zero, List.set_cons_succ])
  refine wpAnyH_take (i := 40) (oi := { dst := some 120, op := Op.indexAddr 37 (Operand.tmp 118) (Operand.tmp 119), type := 0, pos := "law.go:87", after := #[{ on := 38, ground := Ground.data }, { on := 39, ground := Ground.data }, { on := 34, ground := Ground.guard }], guard := some (34, false) }) (v := ?_) rfl (by kernel_rfl) (by kernel_rfl) (by kernel_rfl) (fun _ _ _ h => h) (Or.inl ⟨by rfl, ?_⟩) hHeld ?_
  rotate_left 1
  · intro u hSu
    obtain ⟨d0u, d1u, d2u, d3u⟩ := row4T (K8.out.keep hSu.out).bx
    have m0u := hSu.out.cell M0.out.1 (by simp)
    have m1u := hSu.out.cell M0.out.2 (by simp)
    have myu := hSu.out.cell my (by simp)
    go_simp
    first | done | with_reducible rfl
  (try simp only [Act.put, List.setIfInBounds_toArray, List.set_cons_zero, List.set_cons_succ])
  refine wpAnyH_take (i := 41) (oi := { dst := some 121, op := Op.fieldAddr 40 (Operand.tmp 120) 0, type := 0, pos := "law.go:87", after := #[{ on := 40, ground := Ground.data }, { on := 34, ground := Ground.guard }], guard := some (34, false) }) (v := ?_) rfl (by kernel_rfl) (by kernel_rfl) (by kernel_rfl) (fun _ _ _ h => h) (Or.inl ⟨by rfl, ?_⟩) hHeld ?_
  rotate_left 1
  · intro u hSu
    obtain ⟨d0u, d1u, d2u, d3u⟩ := row4T (K8.out.keep hSu.out).bx
    have m0u := hSu.out.cell M0.out.1 (by simp)
    have m1u := hSu.out.cell M0.out.2 (by simp)
    have myu := hSu.out.cell my (by simp)
    go_simp
    first | done | with_reducible rfl
  (try simp only [Act.put, List.setIfInBounds_toArray, List.set_cons_zero, List.set_cons_succ])
  refine wpAnyH_take (i := 42) (oi := { dst := some 122, op := Op.load 3 (Operand.tmp 121), type := 3, pos := "law.go:87", after := #[{ on := 41, ground := Ground.data }, { on := 34, ground := Ground.guard }], guard := some (34, false) }) (v := ?_) rfl (by kernel_rfl) (by kernel_rfl) (by kernel_rfl) (fun _ _ _ h => h) (Or.inl ⟨by rfl, ?_⟩) hHeld ?_
  rotate_left 1
  · intro u hSu
    obtain ⟨d0u, d1u, d2u, d3u⟩ := row4T (K8.out.keep hSu.out).bx
    have m0u := hSu.out.cell M0.out.1 (by simp)
    have m1u := hSu.out.cell M0.out.2 (by simp)
    have myu := hSu.out.cell my (by simp)
    go_simp
    first | done | with_reducible rfl
  (try simp only [Act.put, List.setIfInBounds_toArray, List.set_cons_zero, List.set_cons_succ])
  refine wpAnyH_take (i := 44) (oi := { dst := some 124, op := Op.move (Operand.tmp 13), type := 37, pos := "law.go:87", after := #[{ on := 34, ground := Ground.guard }], guard := some (34, false) }) (v := ?_) rfl (by kernel_rfl) (by kernel_rfl) (by kernel_rfl) (fun _ _ _ h => h) (Or.inl ⟨by rfl, ?_⟩) hHeld ?_
  rotate_left 1
  · intro u hSu
    obtain ⟨d0u, d1u, d2u, d3u⟩ := row4T (K8.out.keep hSu.out).bx
    have m0u := hSu.out.cell M0.out.1 (by simp)
    have m1u := hSu.out.cell M0.out.2 (by simp)
    have myu := hSu.out.cell my (by simp)
    go_simp
    first | done | with_reducible rfl
  (try simp only [Act.put, List.setIfInBounds_toArray, List.set_cons_zero, List.set_cons_succ])
  refine wpAnyH_take (i := 45) (oi := { dst := some 125, op := Op.move (Operand.tmp 14), type := 3, pos := "law.go:87", after := #[{ on := 34, ground := Ground.guard }], guard := some (34, false) }) (v := ?_) rfl (by kernel_rfl) (by kernel_rfl) (by kernel_rfl) (fun _ _ _ h => h) (Or.inl ⟨by rfl, ?_⟩) hHeld ?_
  rotate_left 1
  · intro u hSu
    obtain ⟨d0u, d1u, d2u, d3u⟩ := row4T (K8.out.keep hSu.out).bx
    have m0u := hSu.out.cell M0.out.1 (by simp)
    have m1u := hSu.out.cell M0.out.2 (by simp)
    have myu := hSu.out.cell my (by simp)
    go_simp
    first | done | with_reducible rfl
  (try simp only [Act.put, List.setIfInBounds_toArray, List.set_cons_zero, List.set_cons_succ])
  refine wpAnyH_take (i := 46) (oi := { dst := some 126, op := Op.indexAddr 37 (Operand.tmp 124) (Operand.tmp 125), type := 0, pos := "law.go:87", after := #[{ on := 44, ground := Ground.data }, { on := 45, ground := Ground.data }, { on := 34, ground := Ground.guard }], guard := some (34, false) }) (v := ?_) rfl (by kernel_rfl) (by kernel_rfl) (by kernel_rfl) (fun _ _ _ h => h) (Or.inl ⟨by rfl, ?_⟩) hHeld ?_
  rotate_left 1
  · intro u hSu
    obtain ⟨d0u, d1u, d2u, d3u⟩ := row4T (K8.out.keep hSu.out).bx
    have m0u := hSu.out.cell M0.out.1 (by simp)
    have m1u := hSu.out.cell M0.out.2 (by simp)
    have myu := hSu.out.cell my (by simp)
    go_simp
    first | done | with_reducible rfl
  (try simp only [Act.put, List.setIfInBounds_toArray, List.set_cons_zero, List.set_cons_succ])
  refine wpAnyH_take (i := 47) (oi := { dst := some 127, op := Op.fieldAddr 40 (Operand.tmp 126) 1, type := 0, pos := "law.go:87", after := #[{ on := 46, ground := Ground.data }, { on := 34, ground := Ground.guard }], guard := some (34, false) }) (v := ?_) rfl (by kernel_rfl) (by kernel_rfl) (by kernel_rfl) (fun _ _ _ h => h) (Or.inl ⟨by rfl, ?_⟩) hHeld ?_
  rotate_left 1
  · intro u hSu
    obtain ⟨d0u, d1u, d2u, d3u⟩ := row4T (K8.out.keep hSu.out).bx
    have m0u := hSu.out.cell M0.out.1 (by simp)
    have m1u := hSu.out.cell M0.out.2 (by simp)
    have myu := hSu.out.cell my (by simp)
    go_simp
    first | done | with_reducible rfl
  (try simp only [Act.put, List.setIfInBounds_toArray, List.set_cons_zero, List.set_cons_succ])
  refine wpAnyH_take (i := 48) (oi := { dst := some 128, op := Op.load 31 (Operand.tmp 127), type := 31, pos := "law.go:87", after := #[{ on := 47, ground := Ground.data }, { on := 34, ground := Ground.guard }], guard := some (34, false) }) (v := ?_) rfl (by kernel_rfl) (by kernel_rfl) (by kernel_rfl) (fun _ _ _ h => h) (Or.inl ⟨by rfl, ?_⟩) hHeld ?_
  rotate_left 1
  · intro u hSu
    obtain ⟨d0u, d1u, d2u, d3u⟩ := row4T (K8.out.keep hSu.out).bx
    have m0u := hSu.out.cell M0.out.1 (by simp)
    have m1u := hSu.out.cell M0.out.2 (by simp)
    have myu := hSu.out.cell my (by simp)
    go_simp
    first | done | with_reducible rfl
  (try simp only [Act.put, List.setIfInBounds_toArray, List.set_cons_zero, List.set_cons_succ])
  refine wpAnyH_ready (rs := [43]) (by kernel_rfl) (by simp) ?_
  refine AllReadyH.cons (o := { dst := some 123, op := Op.call { callee := Callee.value (Operand.func 12), args := #[Operand.tmp 115, Operand.tmp 116, Operand.tmp 117, Operand.tmp 122], argTypes := #[27, 3, 3, 3] }, type := 31, pos := "law.go:87", after := #[{ on := 35, ground := Ground.data }, { on := 36, ground := Ground.data }, { on := 37, ground := Ground.data }, { on := 42, ground := Ground.data }, { on := 34, ground := Ground.chain }, { on := 34, ground := Ground.guard }], guard := some (34, false) }) rfl (fun Kz hK => ?_) AllReadyH.nil
  go_simp
  go_at_call 12
  refine (HMK.out _ (K8.out.keep hHeld.out).rd).mono ?_
  rintro e' w10 ⟨rfl, hg⟩
  have HN := Lib.hid (grown_trans hHeld.out hg)
  clear hg
  simp only
  refine hK.out _ _ (HN) (fun hH2 => ?_)
  clear hK Kz hHeld
  have hHeld := hH2
  clear hH2
  (try simp only [Act.put, List.setIfInBounds_toArray, List.set_cons_zero, List.set_cons_succ])
  refine wpAnyH_take (i := 49) (oi := { dst := some 129, op := Op.binOp BinOp.neq 31 (Operand.tmp 123) (Operand.tmp 128) 31, type := 4, pos := "law.go:87", after := #[{ on := 43, ground := Ground.data }, { on := 48, ground := Ground.data }, { on := 34, ground := Ground.guard }], guard := some (34, false) }) (v := ?_) rfl (by kernel_rfl) (by kernel_rfl) (by kernel_rfl) (fun _ _ _ h => h) (Or.inl ⟨by rfl, ?_⟩) hHeld ?_
  rotate_left 1
  · intro u hSu
    obtain ⟨d0u, d1u, d2u, d3u⟩ := row4T (K8.out.keep hSu.out).bx
    have m0u := hSu.out.cell M0.out.1 (by simp)
    have m1u := hSu.out.cell M0.out.2 (by simp)
    have myu := hSu.out.cell my (by simp)
    go_simp
    first | done | with_reducible rfl
  (try simp only [Act.put, List.setIfInBounds_toArray, List.set_cons_zero, List.set_cons_succ])
  refine wpAnyH_take (i := 50) (oi := { dst := some 130, op := Op.pick (Operand.tmp 114) (Operand.const (Value.bool true)) (Operand.tmp 129), type := 4, pos := "law.go:87", after := #[{ on := 34, ground := Ground.data }, { on := 49, ground := Ground.data }], guard := none }) (v := ?_) rfl (by kernel_rfl) (by kernel_rfl) (by kernel_rfl) (fun _ _ _ h => h) (Or.inl ⟨by rfl, ?_⟩) hHeld ?_
  rotate_left 1
  · intro u hSu
    obtain ⟨d0u, d1u, d2u, d3u⟩ := row4T (K8.out.keep hSu.out).bx
    have m0u := hSu.out.cell M0.out.1 (by simp)
    have m1u := hSu.out.cell M0.out.2 (by simp)
    have myu := hSu.out.cell my (by simp)
    go_simp
    first | done | with_reducible rfl
  (try simp only [Act.put, List.setIfInBounds_toArray, List.set_cons_zero, List.set_cons_succ])
  refine wpAnyH_done (by kernel_rfl) ?_ _
  have m0 := (M0.out)
  have G10 := Lib.hid hHeld.out
  clear hHeld G M0 HMK hand
  have m1 := G10.out.cell m0.2 (by simp)
  clear m0
  go_wp2_with fail
  exact ⟨⟨i + 1, by omega, rfl, congrArg (Value.int .i64) (by omega), G10⟩, by simp only [RowKit.intOf]; omega⟩
end Go.Proofs.Ytgofadmncgmhoaa

/- Parts of the proof, packed: DbRs, DbRk, DbCkM. -/
import Derived.Test.YtnpkihioklpnmaaCk17
import Derived.Test.YtnpkihioklpnmaaCk16
/- The reference's Same of databases. -/
namespace Go.Proofs.Ytnpkihioklpnmaa
open Go.RowKit Bs
/-- Two databases and their boxes. -/
structure D2 (W : World) (s : List Ad) (p1 : Option Addr) (c1 : Nat) (t : List Ad) (p2 : Option Addr) (c2 : Nat) (w : World) : Prop where
  b1 : w.heap[W.heap.size]? = some (.cells #[.slice p1 s.length c1] 25 (0, 0))
  b2 : w.heap[W.heap.size + 1]? = some (.cells #[.slice p2 t.length c2] 25 (0, 0))
  r1 : RdA w (· < W.heap.size) (.slice p1 s.length c1) s
  r2 : RdA w (· < W.heap.size) (.slice p2 t.length c2) t
  gr : W.grownBy w none
set_option maxRecDepth 100000 in
theorem D2.keep {W w w1 : World} {s t : List Ad} {p1 p2 : Option Addr} {c1 c2 : Nat} (h : D2 W s p1 c1 t p2 c2 w) (g : w.grownBy w1 none) : D2 W s p1 c1 t p2 c2 w1 := ⟨kept_row h.b1 g (by simp), kept_row h.b2 g (by simp), h.r1.keep g, h.r2.keep g, grown_trans h.gr g⟩
set_option maxRecDepth 100000 in
theorem d2_start {w : World} {s t : List Ad} {p1 p2 : Option Addr} {c1 c2 : Nat} {q1 q2 : Nat → Prop} (h1 : RdA w q1 (.slice p1 s.length c1) s) (h2 : RdA w q2 (.slice p2 t.length c2) t) : D2 w s p1 c1 t p2 c2 ((w.alloc (.cells #[.slice p1 s.length c1] 25)).alloc (.cells #[.slice p2 t.length c2] 25)) := by
  obtain ⟨k1, k2, k3, -⟩ := two_boxes w #[.slice p1 s.length c1] #[.slice p2 t.length c2] 25 25
  exact ⟨k1, k2, (RdA.old h1).keep k3, (RdA.old h2).keep k3, k3⟩
set_option maxRecDepth 100000 in
theorem D2.e1 {W w : World} {s t : List Ad} {p1 p2 : Option Addr} {c1 c2 : Nat} (h : D2 W s p1 c1 t p2 c2 w) : w.cell? ⟨W.heap.size, 0, none⟩ = some (.slice p1 s.length c1) := cell_of_row _ _ _ _ _ _ h.b1
set_option maxRecDepth 100000 in
theorem D2.e2 {W w : World} {s t : List Ad} {p1 p2 : Option Addr} {c1 c2 : Nat} (h : D2 W s p1 c1 t p2 c2 w) : w.cell? ⟨W.heap.size + 1, 0, none⟩ = some (.slice p2 t.length c2) := cell_of_row _ _ _ _ _ _ h.b2
set_option maxRecDepth 100000 in
set_option maxHeartbeats 6400000 in
theorem rsame8_any (s t : List Ad) (p1 p2 : Option Addr) (c1 c2 : Nat) (q1 q2 : Nat → Prop) (w : World) (h1 : RdA w q1 (.slice p1 s.length c1) s) (h2 : RdA w q2 (.slice p2 t.length c2) t) (hm : s.length ≤ 9223372036854775807 ∧ t.length ≤ 9223372036854775807) :
    Calls Try.prog 17 #[.agg #[.slice p1 s.length c1], .agg #[.slice p2 t.length c2]] w fun e w' => e = .returned (.bool (smD s t)) ∧ w.grownBy w' none := by
  have H0 := Lib.hid (d2_start h1 h2)
  have hm1 := hm.1
  have hm2 := hm.2
  clear h1 h2 hm
  obtain ⟨X, hX⟩ : ∃ X, smD s t = X := ⟨_, rfl⟩
  have HX := Lib.hid hX
  rw [hX]
  clear hX
  by_cases hlen : s.length = t.length
  · have hli : (s.length : Int) = (t.length : Int) := by omega
    have HLEN := Lib.hid hlen
    have HX0 : Hid (smD (s.drop 0) (t.drop 0) = X) := Lib.hid HX.out
    clear hlen
    go_enter Try.func17, Try.ntmps17
    go_upto_region 1 with fail
    generalize (w.alloc _).alloc _ = wa at *
    have c0 : wa.cell? ⟨w.heap.size, 0, none⟩ = some (.slice p1 s.length c1) := cell_of_row _ _ _ _ _ _ H0.out.b1
    have c0' : wa.cell? ⟨w.heap.size + 1, 0, none⟩ = some (.slice p2 t.length c2) := cell_of_row _ _ _ _ _ _ H0.out.b2
    go_wp2_with fail
    clear c0 c0'
    go_loopw [5] (fun a wr => ∃ k : Nat, k ≤ s.length ∧ a = .int .i64 (k : Int) ∧ Hid (smD (s.drop k) (t.drop k) = X) ∧ Hid (D2 w s p1 c1 t p2 c2 wr)) (fun a _ => s.length - (RowKit.intOf a).toNat)
    case atStart => exact ⟨0, Nat.zero_le _, rfl, HX0, H0⟩
    case round =>
    obtain ⟨k, hk, rfl, HI, K⟩ := hrel
    clear HX0 H0
    have hkt : k ≤ t.length := by have := HLEN.out; omega
    have c0 : wr.cell? ⟨w.heap.size, 0, none⟩ = some (.slice p1 s.length c1) := cell_of_row _ _ _ _ _ _ K.out.b1
    by_cases hlt : k < s.length
    · have hltt : k < t.length := by have := HLEN.out; omega
      have hltI : (k : Int) < (t.length : Int) := by omega
      have hltS : (k : Int) < (s.length : Int) := by omega
      obtain ⟨-, a1, off1, rfl, -, -⟩ := rda_cells K.out.r1 (by omega)
      obtain ⟨-, a2, off2, rfl, -, -⟩ := rda_cells K.out.r2 (by omega)
      obtain ⟨x, hx⟩ : ∃ x, s[k]? = some x := ⟨_, List.getElem?_eq_getElem hlt⟩
      obtain ⟨y, hy⟩ : ∃ y, t[k]? = some y := ⟨_, List.getElem?_eq_getElem hltt⟩
      have HST := Lib.hid (HI.out.symm.trans (smD_step hx hy))
      have HM := Lib.hid (And.intro (List.mem_of_getElem? hx) (List.mem_of_getElem? hy))
      have HXY := Lib.hid (And.intro hx hy)
      clear hx hy HI
      obtain ⟨z, hz⟩ : ∃ z, decide (cmpA x y = 0) = z := ⟨_, rfl⟩
      rw [hz] at HST
      have HZ := Lib.hid hz
      clear hz
      go_upto_region 6 with fail
      clear c0
      have HD := Lib.hid (K.out.keep (grown_drew (grown_refl wr none)))
      clear K
      refine wp_region_held_drew (S := fun w' => Hid (D2 w s (some ⟨a1, off1, none⟩) c1 t (some ⟨a2, off2, none⟩) c2 w')) (by kernel_rfl) (HD) (fun hHeld => ?_)
      refine wpAnyH_take (i := 0) (oi := { dst := some 20, op := Op.fieldAddr 25 (Operand.tmp 2) 0, type := 0, pos := "ref.go:35", after := #[], guard := none }) (v := ?_) rfl (by kernel_rfl) (by kernel_rfl) (by kernel_rfl) (fun _ _ _ h => h) (Or.inl ⟨by rfl, ?_⟩) hHeld ?_
      rotate_left 1
      · intro u hSu
        have c0 := hSu.out.e1
        have c0' := hSu.out.e2
        obtain ⟨d0, d1, d2, d3, d4⟩ := rda_at hSu.out.r1 HXY.out.1
        obtain ⟨e0, e1, e2, e3, e4⟩ := rda_at hSu.out.r2 HXY.out.2
        go_simp
        first | done | with_reducible rfl
      (try simp only [Act.put, List.setIfInBounds_toArray, List.set_cons_zero, List.set_cons_succ])
      refine wpAnyH_take (i := 1) (oi := { dst := some 21, op := Op.load 23 (Operand.tmp 20), type := 23, pos := "ref.go:35", after := #[{ on := 0, ground := Ground.data }], guard := none }) (v := ?_) rfl (by kernel_rfl) (by kernel_rfl) (by kernel_rfl) (fun _ _ _ h => h) (Or.inl ⟨by rfl, ?_⟩) hHeld ?_
      rotate_left 1
      · intro u hSu
        have c0 := hSu.out.e1
        have c0' := hSu.out.e2
        obtain ⟨d0, d1, d2, d3, d4⟩ := rda_at hSu.out.r1 HXY.out.1
        obtain ⟨e0, e1, e2, e3, e4⟩ := rda_at hSu.out.r2 HXY.out.2
        go_simp
        first | done | with_reducible rfl
      (try simp only [Act.put, List.setIfInBounds_toArray, List.set_cons_zero, List.set_cons_succ])
      refine wpAnyH_take (i := 2) (oi := { dst := some 22, op := Op.move (Operand.tmp 5), type := 3, pos := "ref.go:35", after := #[], guard := none }) (v := ?_) rfl (by kernel_rfl) (by kernel_rfl) (by kernel_rfl) (fun _ _ _ h => h) (Or.inl ⟨by rfl, ?_⟩) hHeld ?_
      rotate_left 1
      · intro u hSu
        have c0 := hSu.out.e1
        have c0' := hSu.out.e2
        obtain ⟨d0, d1, d2, d3, d4⟩ := rda_at hSu.out.r1 HXY.out.1
        obtain ⟨e0, e1, e2, e3, e4⟩ := rda_at hSu.out.r2 HXY.out.2
        go_simp
        first | done | with_reducible rfl
      (try simp only [Act.put, List.setIfInBounds_toArray, List.set_cons_zero, List.set_cons_succ])
      refine wpAnyH_take (i := 3) (oi := { dst := some 23, op := Op.indexAddr 23 (Operand.tmp 21) (Operand.tmp 22), type := 0, pos := "ref.go:35", after := #[{ on := 1, ground := Ground.data }, { on := 2, ground := Ground.data }], guard := none }) (v := ?_) rfl (by kernel_rfl) (by kernel_rfl) (by kernel_rfl) (fun _ _ _ h => h) (Or.inl ⟨by rfl, ?_⟩) hHeld ?_
      rotate_left 1
      · intro u hSu
        have c0 := hSu.out.e1
        have c0' := hSu.out.e2
        obtain ⟨d0, d1, d2, d3, d4⟩ := rda_at hSu.out.r1 HXY.out.1
        obtain ⟨e0, e1, e2, e3, e4⟩ := rda_at hSu.out.r2 HXY.out.2
        go_simp
        first | done | with_reducible rfl
      (try simp only [Act.put, List.setIfInBounds_toArray, List.set_cons_zero, List.set_cons_succ])
      refine wpAnyH_take (i := 4) (oi := { dst := some 24, op := Op.load 38 (Operand.tmp 23), type := 38, pos := "ref.go:35", after := #[{ on := 3, ground := Ground.data }], guard := none }) (v := ?_) rfl (by kernel_rfl) (by kernel_rfl) (by kernel_rfl) (fun _ _ _ h => h) (Or.inl ⟨by rfl, ?_⟩) hHeld ?_
      rotate_left 1
      · intro u hSu
        have c0 := hSu.out.e1
        have c0' := hSu.out.e2
        obtain ⟨d0, d1, d2, d3, d4⟩ := rda_at hSu.out.r1 HXY.out.1
        obtain ⟨e0, e1, e2, e3, e4⟩ := rda_at hSu.out.r2 HXY.out.2
        go_simp
        first | done | with_reducible rfl
      (try simp only [Act.put, List.setIfInBounds_toArray, List.set_cons_zero, List.set_cons_succ])
      refine wpAnyH_take (i := 5) (oi := { dst := some 25, op := Op.fieldAddr 25 (Operand.tmp 3) 0, type := 0, pos := "ref.go:35", after := #[], guard := none }) (v := ?_) rfl (by kernel_rfl) (by kernel_rfl) (by kernel_rfl) (fun _ _ _ h => h) (Or.inl ⟨by rfl, ?_⟩) hHeld ?_
      rotate_left 1
      · intro u hSu
        have c0 := hSu.out.e1
        have c0' := hSu.out.e2
        obtain ⟨d0, d1, d2, d3, d4⟩ := rda_at hSu.out.r1 HXY.out.1
        obtain ⟨e0, e1, e2, e3, e4⟩ := rda_at hSu.out.r2 HXY.out.2
        go_simp
        first | done | with_reducible rfl
      (try simp only [Act.put, List.setIfInBounds_toArray, List.set_cons_zero, List.set_cons_succ])
      refine wpAnyH_take (i := 6) (oi := { dst := some 26, op := Op.load 23 (Operand.tmp 25), type := 23, pos := "ref.go:35", after := #[{ on := 5, ground := Ground.data }], guard := none }) (v := ?_) rfl (by kernel_rfl) (by kernel_rfl) (by kernel_rfl) (fun _ _ _ h => h) (Or.inl ⟨by rfl, ?_⟩) hHeld ?_
      rotate_left 1
      · intro u hSu
        have c0 := hSu.out.e1
        have c0' := hSu.out.e2
        obtain ⟨d0, d1, d2, d3, d4⟩ := rda_at hSu.out.r1 HXY.out.1
        obtain ⟨e0, e1, e2, e3, e4⟩ := rda_at hSu.out.r2 HXY.out.2
        go_simp
        first | done | with_reducible rfl
      (try simp only [Act.put, List.setIfInBounds_toArray, List.set_cons_zero, List.set_cons_succ])
      refine wpAnyH_take (i := 7) (oi := { dst := some 27, op := Op.move (Operand.tmp 5), type := 3, pos := "ref.go:35", after := #[], guard := none }) (v := ?_) rfl (by kernel_rfl) (by kernel_rfl) (by kernel_rfl) (fun _ _ _ h => h) (Or.inl ⟨by rfl, ?_⟩) hHeld ?_
      rotate_left 1
      · intro u hSu
        have c0 := hSu.out.e1
        have c0' := hSu.out.e2
        obtain ⟨d0, d1, d2, d3, d4⟩ := rda_at hSu.out.r1 HXY.out.1
        obtain ⟨e0, e1, e2, e3, e4⟩ := rda_at hSu.out.r2 HXY.out.2
        go_simp
        first | done | with_reducible rfl
      (try simp only [Act.put, List.setIfInBounds_toArray, List.set_cons_zero, List.set_cons_succ])
      refine wpAnyH_take (i := 8) (oi := { dst := some 28, op := Op.indexAddr 23 (Operand.tmp 26) (Operand.tmp 27), type := 0, pos := "ref.go:35", after := #[{ on := 6, ground := Ground.data }, { on := 7, ground := Ground.data }], guard := none }) (v := ?_) rfl (by kernel_rfl) (by kernel_rfl) (by kernel_rfl) (fun _ _ _ h => h) (Or.inl ⟨by rfl, ?_⟩) hHeld ?_
      rotate_left 1
      · intro u hSu
        have c0 := hSu.out.e1
        have c0' := hSu.out.e2
        obtain ⟨d0, d1, d2, d3, d4⟩ := rda_at hSu.out.r1 HXY.out.1
        obtain ⟨e0, e1, e2, e3, e4⟩ := rda_at hSu.out.r2 HXY.out.2
        go_simp
        first | done | with_reducible rfl
      (try simp only [Act.put, List.setIfInBounds_toArray, List.set_cons_zero, List.set_cons_succ])
      refine wpAnyH_take (i := 9) (oi := { dst := some 29, op := Op.load 38 (Operand.tmp 28), type := 38, pos := "ref.go:35", after := #[{ on := 8, ground := Ground.data }], guard := none }) (v := ?_) rfl (by kernel_rfl) (by kernel_rfl) (by kernel_rfl) (fun _ _ _ h => h) (Or.inl ⟨by rfl, ?_⟩) hHeld ?_
      rotate_left 1
      · intro u hSu
        have c0 := hSu.out.e1
        have c0' := hSu.out.e2
        obtain ⟨d0, d1, d2, d3, d4⟩ := rda_at hSu.out.r1 HXY.out.1
        obtain ⟨e0, e1, e2, e3, e4⟩ := rda_at hSu.out.r2 HXY.out.2
        go_simp
        first | done | with_reducible rfl
      (try simp only [Act.put, List.setIfInBounds_toArray, List.set_cons_zero, List.set_cons_succ])
      refine wpAnyH_ready (rs := [10]) (by kernel_rfl) (by simp) ?_
      refine AllReadyH.cons (o := { dst := some 30, op := Op.call { callee := Callee.value (Operand.func 21), args := #[Operand.tmp 24, Operand.tmp 29], argTypes := #[38, 38] }, type := 4, pos := "ref.go:35", after := #[{ on := 4, ground := Ground.data }, { on := 9, ground := Ground.data }], guard := none }) rfl (fun Kz hK => ?_) AllReadyH.nil
      go_simp
      go_at_call 21
      have hcall := rsame_any x y _ _ _ (hHeld.out.r1.ok x HM.out.1) (hHeld.out.r2.ok y HM.out.2)
      rw [HZ.out] at hcall
      unfold Ad.val at hcall
      refine hcall.mono ?_
      rintro e w5 ⟨rfl, hg⟩
      clear hcall
      have hHn := Lib.hid (hHeld.out.keep hg)
      clear hg
      refine hK.out _ _ (hHn) (fun hH2 => ?_)
      clear hK Kz hHeld
      have hHeld := hH2
      clear hH2
      (try simp only [Act.put, List.setIfInBounds_toArray, List.set_cons_zero, List.set_cons_succ])
      refine wpAnyH_take (i := 11) (oi := { dst := some 31, op := Op.unOp UnOp.not 4 (Operand.tmp 30), type := 4, pos := "ref.go:35", after := #[{ on := 10, ground := Ground.data }], guard := none }) (v := ?_) rfl (by kernel_rfl) (by kernel_rfl) (by kernel_rfl) (fun _ _ _ h => h) (Or.inl ⟨by rfl, ?_⟩) hHeld ?_
      rotate_left 1
      · intro u hSu
        have c0 := hSu.out.e1
        have c0' := hSu.out.e2
        obtain ⟨d0, d1, d2, d3, d4⟩ := rda_at hSu.out.r1 HXY.out.1
        obtain ⟨e0, e1, e2, e3, e4⟩ := rda_at hSu.out.r2 HXY.out.2
        go_simp
        first | done | with_reducible rfl
      (try simp only [Act.put, List.setIfInBounds_toArray, List.set_cons_zero, List.set_cons_succ])
      refine wpAnyH_done (by kernel_rfl) ?_ _
      clear HD
      cases z with
      | false =>
        have hX : X = false := by rw [HST.out]; rfl
        subst hX
        go_wp2_with fail
        go_ret
        exact ⟨rfl, hHeld.out.gr⟩
      | true =>
        have HI2 : Hid (smD (s.drop (k + 1)) (t.drop (k + 1)) = X) := Lib.hid (by rw [HST.out]; rfl)
        go_wp2_with fail
        exact ⟨⟨k + 1, by omega, congrArg _ (by omega), HI2, hHeld⟩, by simp only [RowKit.intOf]; omega⟩
    · obtain rfl : k = s.length := by omega
      have hX : X = true := by rw [← HI.out]; exact smD_end HLEN.out
      subst hX
      go_wp2_with fail
      go_ret
      exact ⟨rfl, K.out.gr⟩
  · have hX : X = false := by rw [← HX.out]; exact smD_len s t hlen
    subst hX
    have hli : ¬ (s.length : Int) = (t.length : Int) := by omega
    have hlb : ((s.length : Int) == (t.length : Int)) = false := beq_false_of_ne hli
    go_enter Try.func17, Try.ntmps17
    go_upto_region 1 with fail
    generalize (w.alloc _).alloc _ = wa at *
    have c0 : wa.cell? ⟨w.heap.size, 0, none⟩ = some (.slice p1 s.length c1) := cell_of_row _ _ _ _ _ _ H0.out.b1
    have c0' : wa.cell? ⟨w.heap.size + 1, 0, none⟩ = some (.slice p2 t.length c2) := cell_of_row _ _ _ _ _ _ H0.out.b2
    go_wp2_with fail
    go_ret
    exact ⟨rfl, H0.out.gr⟩
end Go.Proofs.Ytnpkihioklpnmaa

/- The reference's Check of databases. -/
namespace Go.Proofs.Ytnpkihioklpnmaa
open Go.RowKit Bs
set_option maxRecDepth 100000 in
theorem asc_start {l : List Ad} (hv : ∀ A ∈ l, vAd A = true) (h : 1 ≤ l.length) : ascD (lastD l 1) (l.drop 1) = ascD 0 l := by
  cases l with
  | nil => simp at h
  | cons A t =>
    have h1 := (VA.of (hv A List.mem_cons_self)).r.1
    show ascD (lastD (A :: t) 1) t = _
    rw [lastD_succ (k := 0) (x := A) rfl, ascD, decide_eq_true (show (0 : Int) < A.r by omega), Bool.true_and]
set_option maxRecDepth 100000 in
set_option maxHeartbeats 6400000 in
theorem rcheck8_any (l : List Ad) (p : Option Addr) (c : Nat) (q : Nat → Prop) (w : World) (hR : RdA w q (.slice p l.length c) l) (hm : l.length ≤ 9223372036854775807) :
    Calls Try.prog 15 #[.agg #[.slice p l.length c]] w fun e w' => e = .returned (.int .i64 (chkD l)) ∧ w.grownBy w' none := by
  have H0 := Lib.hid (d1_start hR)
  clear hR
  obtain ⟨X, hX⟩ : ∃ X, chkD l = X := ⟨_, rfl⟩
  have HX := Lib.hid hX
  rw [hX]
  clear hX
  go_enter Try.func15, Try.ntmps15
  go_upto_region 1 with fail
  generalize w.alloc _ = wa at *
  have c0 : wa.cell? ⟨w.heap.size, 0, none⟩ = some (.slice p l.length c) := cell_of_row _ _ _ _ _ _ H0.out.d
  by_cases h99 : (99 : Int) < (l.length : Int)
  · obtain rfl : X = 3 := by rw [← HX.out]; unfold chkD; rw [if_pos (by omega)]
    go_wp2_with fail
    go_ret
    exact ⟨rfl, H0.out.gr⟩
  have h99n : ¬ 99 < l.length := by omega
  have H99 := Lib.hid h99n
  clear h99n
  go_wp2_with fail
  clear c0
  go_loopw [3] (fun a wr => ∃ k : Nat, k ≤ l.length ∧ a = .int .i64 (k : Int) ∧ Hid ((l.take k).any notV = false) ∧ Hid (D1 w l p c wr)) (fun a _ => l.length - (RowKit.intOf a).toNat)
  case atStart => exact ⟨0, Nat.zero_le _, rfl, Lib.hid rfl, H0⟩
  case round =>
  obtain ⟨k, hk, rfl, HN, K⟩ := hrel
  clear H0
  have c0 : wr.cell? ⟨w.heap.size, 0, none⟩ = some (.slice p l.length c) := cell_of_row _ _ _ _ _ _ K.out.d
  by_cases hlt : k < l.length
  · have hltI : (k : Int) < (l.length : Int) := by omega
    obtain ⟨-, b, off, rfl, -, -⟩ := rda_cells K.out.db (by omega)
    obtain ⟨A, hA⟩ : ∃ A, l[k]? = some A := ⟨_, List.getElem?_eq_getElem hlt⟩
    obtain ⟨a0, a1, a2, a3, a4⟩ := rda_at K.out.db hA
    have HA := Lib.hid (And.intro hA (List.mem_of_getElem? hA))
    clear hA
    go_wp2_with fail
    refine (rvalidA_any A _ wr (K.out.db.ok A HA.out.2)).mono ?_
    rintro e w1 ⟨rfl, hg⟩
    have K2 := Lib.hid (K.out.keep hg)
    obtain ⟨v, hv⟩ : ∃ v, vAd A = v := ⟨_, rfl⟩
    rw [hv]
    cases v with
    | false =>
      obtain rfl : X = 1 := by rw [← HX.out]; unfold chkD; rw [if_neg H99.out, if_pos (anyD_hit HA.out.1 (by unfold notV; rw [hv]; rfl))]
      clear hv hg K a0 a1 a2 a3 a4 c0
      go_wp2_with fail
      go_ret
      exact ⟨rfl, K2.out.gr⟩
    | true =>
      have HN2 := Lib.hid (anyD_take HN.out HA.out.1 (P := notV) (by unfold notV; rw [hv]; rfl))
      clear hv hg K a0 a1 a2 a3 a4 c0
      go_wp2_with fail
      exact ⟨⟨k + 1, by omega, congrArg _ (by omega), HN2, K2⟩, by simp only [RowKit.intOf]; omega⟩
  · obtain rfl : k = l.length := by omega
    have hN := HN.out
    rw [List.take_length] at hN
    have HVV : Hid (∀ A ∈ l, vAd A = true) := Lib.hid (fun A hA => by have := List.any_eq_false.1 hN A hA; unfold notV at this; simpa using this)
    have HXX : Hid (X = if ascD 0 l = false then 25 else 0) := Lib.hid (by rw [← HX.out]; unfold chkD; rw [if_neg H99.out, hN, if_neg (by decide)])
    clear hN HN hlt hk
    go_wp2_with fail
    clear c0
    go_loopw [4] (fun a wr => ∃ k : Nat, 1 ≤ k ∧ (k ≤ l.length ∨ k = 1) ∧ a = .int .i64 (k : Int) ∧ Hid (1 ≤ l.length → ascD (lastD l k) (l.drop k) = ascD 0 l) ∧ Hid (D1 w l p c wr)) (fun a _ => l.length - (RowKit.intOf a).toNat)
    case atStart => exact ⟨1, by omega, Or.inr rfl, rfl, Lib.hid (asc_start HVV.out), K⟩
    case round =>
    clear K
    obtain ⟨k, hk1, hk, rfl, HI, K⟩ := hrel
    have c0 : wr.cell? ⟨w.heap.size, 0, none⟩ = some (.slice p l.length c) := cell_of_row _ _ _ _ _ _ K.out.d
    by_cases hlt : k < l.length
    · obtain ⟨j, rfl⟩ : ∃ j, k = j + 1 := ⟨k - 1, by omega⟩
      obtain ⟨-, b, off, rfl, -, -⟩ := rda_cells K.out.db (by omega)
      obtain ⟨x, hx⟩ : ∃ x, l[j]? = some x := ⟨_, List.getElem?_eq_getElem (by omega)⟩
      obtain ⟨y, hy⟩ : ∃ y, l[j + 1]? = some y := ⟨_, List.getElem?_eq_getElem hlt⟩
      obtain ⟨a0, a1, a2, a3, a4⟩ := rda_at K.out.db hx
      obtain ⟨b0, b1, b2, b3, b4⟩ := rda_at K.out.db hy
      have HS : Hid (ascD 0 l = (decide (x.r < y.r) && ascD (lastD l (j + 1 + 1)) (l.drop (j + 1 + 1)))) := Lib.hid (by
        rw [← HI.out (by omega), ascD_step hy, lastD_succ hx])
      have ew1 : ((j : Int) + 1 - 1) = (j : Int) := by omega
      have ew2 : IntKind.i64.wrap ((j : Int) + 1 - 1) = (j : Int) := by rw [ew1, IntWalk.i64_in _ (by omega)]
      have ew3 : IntKind.i64.wrap (j : Int) = (j : Int) := IntWalk.i64_in _ (by omega)
      have j0 : (0 : Int) ≤ (j : Int) := by omega
      have j1 : (0 : Int) ≤ (j : Int) + 1 := by omega
      have j2 : (j : Int) < (l.length : Int) := by omega
      have j3 : (j : Int) + 1 < (l.length : Int) := by omega
      have j4 : ((j : Int) + 1).toNat = j + 1 := by omega
      have hcast : ((j + 1 : Nat) : Int) = (j : Int) + 1 := by omega
      clear hx hy HI
      rw [hcast]
      by_cases hge : y.r ≤ x.r
      · obtain rfl : X = 25 := by rw [HXX.out, HS.out, decide_eq_false (by omega), Bool.false_and, if_pos rfl]
        go_wp2_with fail
        go_region
        go_wp2_with fail
        go_ret
        exact ⟨rfl, (K.out.keep (grown_drew (grown_refl _ none))).gr⟩
      · have HI2 : Hid (1 ≤ l.length → ascD (lastD l (j + 1 + 1)) (l.drop (j + 1 + 1)) = ascD 0 l) := Lib.hid (fun _ => by rw [HS.out, decide_eq_true (by omega), Bool.true_and])
        go_wp2_with fail
        go_region
        have K2 := Lib.hid (K.out.keep (grown_drew (grown_refl wr none)))
        go_wp2_with fail
        exact ⟨⟨j + 1 + 1, by omega, Or.inl (by omega), congrArg _ (by omega), HI2, K2⟩, by simp only [RowKit.intOf]; omega⟩
    · have hltI : ¬ (k : Int) < (l.length : Int) := by omega
      obtain rfl : X = 0 := by
        rw [HXX.out]
        by_cases h0 : l.length = 0
        · rw [List.eq_nil_of_length_eq_zero h0]; rfl
        · rw [← HI.out (by omega), List.drop_of_length_le (by omega)]; rfl
      go_wp2_with fail
      go_ret
      exact ⟨rfl, K.out.gr⟩
end Go.Proofs.Ytnpkihioklpnmaa

/- The law DatabaseChecks: what memory holds. -/
namespace Go.Proofs.Ytnpkihioklpnmaa
open Go.RowKit Bs
/-- A database as it lies in memory. -/
structure Dv where
  l : List Ad
  p : Option Addr
  c : Nat
structure Dv.Sm (x : Dv) : Prop where
  n : x.l.length ≤ 120
  s : ∀ A ∈ x.l, A.L.length ≤ 60 ∧ A.C.length ≤ 60
/-- Databases while the tape makes more of them; raw lies in a box of the call's. -/
structure LW (W : World) (a : Nat) (raw : Dv) (X : List Dv) (w : World) : Prop where
  ok : ∀ x ∈ X, RdA w (· ≠ a) (.slice x.p x.l.length x.c) x.l
  bx : w.heap[W.heap.size]? = some (.cells #[.slice raw.p raw.l.length raw.c] 25 (0, 0))
  gr : W.grownBy w none
  tp : Tp w a
  al : W.heap.size < a
section
variable {W w w1 : World} {a : Nat} {raw : Dv} {X : List Dv}
set_option maxRecDepth 100000 in
theorem LW.keep (h : LW W a raw X w) (g : w.grownBy w1 none) : LW W a raw X w1 := ⟨fun x hx => (h.ok x hx).keep g, kept_row h.bx g (by simp), grown_trans h.gr g, h.tp.keep g, h.al⟩
set_option maxRecDepth 100000 in
theorem LW.tape (h : LW W a raw X w) (k : St a w w1) : LW W a raw X w1 := by
  have hal := h.al
  exact ⟨fun x hx => (h.ok x hx).grown k.1 (fun _ hb e => hb (Option.some.inj e)), kept_row h.bx k.1 (fun e => by have := Option.some.inj e; omega), grown_new h.gr k.1 (by omega), k.2, h.al⟩
set_option maxRecDepth 100000 in
theorem LW.add (h : LW W a raw X w) (k : St a w w1) {x : Dv} (hx : RdA w1 (w.heap.size ≤ ·) (.slice x.p x.l.length x.c) x.l) : LW W a raw (X ++ [x]) w1 := by
  have h1 := h.tape k
  have hlt := h.tp.lt
  refine ⟨fun y hy => ?_, h1.bx, h1.gr, h1.tp, h1.al⟩
  rcases List.mem_append.1 hy with hy | hy
  · exact h1.ok y hy
  · rw [List.mem_singleton] at hy; subst hy; exact hx.mono fun b hb => by omega
set_option maxRecDepth 100000 in
theorem LW.e0 (h : LW W a raw X w) : w.cell? ⟨W.heap.size, 0, none⟩ = some (.slice raw.p raw.l.length raw.c) := cell_of_row _ _ _ _ _ _ h.bx
end
/-- Databases in a row in block D. -/
structure OW (W : World) (a D : Nat) (raw : Dv) (X : List Dv) (w : World) : Prop where
  b : LW W a raw X w
  row : ∀ (i : Nat) (x : Dv), X[i]? = some x → w.cell? ⟨D, i, none⟩ = some (.slice x.p x.l.length x.c)
  dl : D ≠ a ∧ D < w.heap.size
/-- And the routers to look for, in block E. -/
structure OE (W : World) (a D E : Nat) (raw : Dv) (X : List Dv) (R : List Int) (w : World) : Prop where
  o : OW W a D raw X w
  e : ∀ (i : Nat) (x : Int), R[i]? = some x → w.cell? ⟨E, i, none⟩ = some (.int .i64 x)
section
variable {W w w1 : World} {a D E : Nat} {raw : Dv} {X : List Dv} {R : List Int}
set_option maxRecDepth 100000 in
theorem OW.keep (h : OW W a D raw X w) (g : w.grownBy w1 none) : OW W a D raw X w1 := ⟨h.b.keep g, fun i x hx => g.cell (h.row i x hx) (by simp), h.dl.1, Nat.lt_of_lt_of_le h.dl.2 g.size⟩
set_option maxRecDepth 100000 in
theorem OW.tape (h : OW W a D raw X w) (k : St a w w1) : OW W a D raw X w1 := ⟨h.b.tape k, fun i x hx => k.1.cell (h.row i x hx) (fun e => h.dl.1 (Option.some.inj e)), h.dl.1, Nat.lt_of_lt_of_le h.dl.2 k.1.size⟩
set_option maxRecDepth 100000 in
theorem OE.keep (h : OE W a D E raw X R w) (g : w.grownBy w1 none) : OE W a D E raw X R w1 := ⟨h.o.keep g, fun i x hx => g.cell (h.e i x hx) (by simp)⟩
set_option maxRecDepth 100000 in
theorem OW.start {x y : Dv} (h : LW W a raw ([raw] ++ [x] ++ [y]) w) : OW W a w.heap.size raw [x, y, raw] (w.alloc (.cells #[.slice x.p x.l.length x.c, .slice y.p y.l.length y.c, .slice raw.p raw.l.length raw.c] 25)) := by
  have g := World.grownBy_alloc w (.cells #[.slice x.p x.l.length x.c, .slice y.p y.l.length y.c, .slice raw.p raw.l.length raw.c] 25) none
  have hb := heap_alloc_new w (.cells #[.slice x.p x.l.length x.c, .slice y.p y.l.length y.c, .slice raw.p raw.l.length raw.c] 25)
  have h1 := h.keep g
  have hlt := h.tp.lt
  refine ⟨⟨fun z hz => h1.ok z ?_, h1.bx, h1.gr, h1.tp, h1.al⟩, fun i z hz => ?_, by omega, World.lt_of_row' hb⟩
  · simp only [List.mem_cons, List.not_mem_nil, or_false] at hz
    rcases hz with rfl | rfl | rfl <;> simp
  · rw [cell_of_row _ _ _ _ _ _ hb]
    match i, hz with
    | 0, hz => cases hz; rfl
    | 1, hz => cases hz; rfl
    | 2, hz => cases hz; rfl
set_option maxRecDepth 100000 in
theorem OE.start (h : OW W a D raw X w) (r s : Int) : OE W a D w.heap.size raw X [r, s] (w.alloc (.cells #[.int .i64 r, .int .i64 s] 3)) := by
  have g := World.grownBy_alloc w (.cells #[.int .i64 r, .int .i64 s] 3) none
  have hb := heap_alloc_new w (.cells #[.int .i64 r, .int .i64 s] 3)
  refine ⟨h.keep g, fun i z hz => ?_⟩
  rw [cell_of_row _ _ _ _ _ _ hb]
  match i, hz with
  | 0, hz => cases hz; rfl
  | 1, hz => cases hz; rfl
end
/-- A box for an advert has come since w. -/
structure NA (w : World) (b : Nat) (wr : World) : Prop where
  ab : wr.heap[b]? = some (.cells #[.int .i64 0, .int .i64 0, .bool false, .slice none 0 0, .slice none 0 0] 38 (0, 0))
  lo : w.heap.size ≤ b
set_option maxRecDepth 100000 in
theorem NA.keep {w w1 w2 : World} {b : Nat} (h : NA w b w1) (g : w1.grownBy w2 none) : NA w b w2 := ⟨kept_row h.ab g (by simp), h.lo⟩
/-- An advert that was found lies in a box. -/
structure FA (w : World) (l : List Ad) (r : Int) (b : Nat) (A : Ad) (wr : World) : Prop where
  ab : wr.heap[b]? = some (.cells #[.int .i64 A.r, .int .i64 A.q, .bool A.cp, .slice A.pL A.L.length A.cL, .slice A.pC A.C.length A.cC] 38 (0, 0))
  sm : A.r = ((fndA l r).getD zAd).r ∧ A.q = ((fndA l r).getD zAd).q ∧ A.cp = ((fndA l r).getD zAd).cp ∧ A.L = ((fndA l r).getD zAd).L ∧ A.C = ((fndA l r).getD zAd).C
  ok : ∃ q, AdOk wr q A
  gr : w.grownBy wr none
set_option maxRecDepth 100000 in
theorem FA.keep {w w1 w2 : World} {l : List Ad} {r : Int} {b : Nat} {A : Ad} (h : FA w l r b A w1) (g : w1.grownBy w2 none) : FA w l r b A w2 := by
  obtain ⟨q, hq⟩ := h.ok
  exact ⟨kept_row h.ab g (by simp), h.sm, ⟨q, hq.keep g⟩, grown_trans h.gr g⟩
set_option maxRecDepth 100000 in
theorem fa_same {w1 w2 w3 w4 : World} {l : List Ad} {r : Int} {b c : Nat} {A B : Ad} (h : FA w1 l r b A w2) (k : FA w3 l r c B w4) : decide (cmpA A B = 0) = true := by
  obtain ⟨a1, a2, a3, a4, a5⟩ := h.sm
  obtain ⟨b1, b2, b3, b4, b5⟩ := k.sm
  exact decide_eq_true (cmpA_zero.2 ⟨a1.trans b1.symm, a2.trans b2.symm, a3.trans b3.symm, a4.trans b4.symm, a5.trans b5.symm⟩)
set_option maxRecDepth 100000 in
/-- The box is filled. -/
theorem NA.fill {w w5 : World} {l : List Ad} {r : Int} {b : Nat} {A : Ad} {q : Nat → Prop} (h : NA w b w5) (g : w.grownBy w5 none) (hsm : A.r = ((fndA l r).getD zAd).r ∧ A.q = ((fndA l r).getD zAd).q ∧ A.cp = ((fndA l r).getD zAd).cp ∧ A.L = ((fndA l r).getD zAd).L ∧ A.C = ((fndA l r).getD zAd).C) (hok : AdOk w5 q A) (hq : ¬ q b) :
    FA w l r b A (((((w5.setCell ⟨b, 0, none⟩ (.int .i64 A.r)).setCell ⟨b, 1, none⟩ (.int .i64 A.q)).setCell ⟨b, 2, none⟩ (.bool A.cp)).setCell ⟨b, 3, none⟩ (.slice A.pL A.L.length A.cL)).setCell ⟨b, 4, none⟩ (.slice A.pC A.C.length A.cC)) := by
  obtain ⟨t1, t2⟩ := store5 (.int .i64 A.r) (.int .i64 A.q) (.bool A.cp) (.slice A.pL A.L.length A.cL) (.slice A.pC A.C.length A.cC) h.ab
  exact ⟨t1, hsm, ⟨q, hok.grown t2 (fun x hx e => hq (Option.some.inj e ▸ hx))⟩, grown_new g t2 h.lo⟩
set_option maxRecDepth 100000 in
theorem fa_new {w w5 : World} {l : List Ad} {r : Int} {A : Ad} {q : Nat → Prop} (g : w.grownBy w5 none) (hsm : A.r = ((fndA l r).getD zAd).r ∧ A.q = ((fndA l r).getD zAd).q ∧ A.cp = ((fndA l r).getD zAd).cp ∧ A.L = ((fndA l r).getD zAd).L ∧ A.C = ((fndA l r).getD zAd).C) (hok : AdOk w5 q A) :
    FA w l r w5.heap.size A (w5.alloc (.cells #[.int .i64 A.r, .int .i64 A.q, .bool A.cp, .slice A.pL A.L.length A.cL, .slice A.pC A.C.length A.cC] 38)) := by
  have ga := World.grownBy_alloc w5 (.cells #[.int .i64 A.r, .int .i64 A.q, .bool A.cp, .slice A.pL A.L.length A.cL, .slice A.pC A.C.length A.cC] 38) none
  exact ⟨heap_alloc_new _ _, hsm, ⟨q, hok.keep ga⟩, grown_trans g ga⟩
end Go.Proofs.Ytnpkihioklpnmaa

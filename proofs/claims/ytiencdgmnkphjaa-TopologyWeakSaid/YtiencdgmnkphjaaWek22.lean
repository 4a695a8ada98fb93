/- Parts of the proof, packed: ToRBr, ToWkM, ToRCu. -/
import Derived.Test.YtiencdgmnkphjaaWek15
import Derived.Test.YtiencdgmnkphjaaWek19
import Derived.Test.YtiencdgmnkphjaaWek20
import Derived.BigQuiet
/- The reference's Bridges. -/
namespace Go.Proofs.Ytiencdgmnkphjaa
open Go.RowKit Bs
theorem rwb_any {R : List Rt} {L : List Lk} (hv : okT R L = true) (x : Lk) (pR pL : Option Addr) (cR cL g : Nat) (q q2 : Nat → Prop) (w : World) (hT : TgOk w q ⟨R, L, pR, cR, pL, cL⟩) (hF : FlOk w q2 ⟨[⟨x.a, x.b⟩], [], some ⟨g, 0, none⟩, 1, none, 0⟩) :
    Calls Try.prog 33 #[.agg #[.slice pR R.length cR, .slice pL L.length cL], .agg #[.slice (some ⟨g, 0, none⟩) 1 1, .slice none 0 0]] w fun e w' => TWPost (woR (brF x) R) (woL (brF x) L) w e w' := by
  have h := rwithout_any ⟨R, L, pR, cR, pL, cL⟩ _ q q2 w hT hF
  simp only [hv, if_true] at h
  exact h
theorem rcb_any {R : List Rt} {L : List Lk} (x : Lk) (pR pL : Option Addr) (cR cL : Nat) (q : Nat → Prop) (w : World) (hT : TgOk w q ⟨woR (brF x) R, woL (brF x) L, pR, cR, pL, cL⟩) :
    Calls Try.prog 40 #[.agg #[.slice pR (woR (brF x) R).length cR, .slice pL (woL (brF x) L).length cL], .int .i64 x.a, .int .i64 x.b] w fun e w' => ∃ B, e = .returned (.bool B) ∧ Hid (isBr R L x = !B) ∧ w.grownBy w' none := by
  refine (rconn_any ⟨woR (brF x) R, woL (brF x) L, pR, cR, pL, cL⟩ x.a x.b q w hT).mono ?_
  rintro e w' ⟨rfl, hg⟩
  exact ⟨_, rfl, Lib.hid rfl, hg⟩
set_option maxRecDepth 100000 in
set_option maxHeartbeats 6400000 in
theorem rbri_any (T : Tg) (q : Nat → Prop) (w : World) (hT : TgOk w q T) :
    Calls Try.prog 44 #[.agg #[.slice T.pR T.R.length T.cR, .slice T.pL T.L.length T.cL]] w fun e w' => THPost (bridges T.R T.L) w e w' := by
  obtain ⟨ii, hii, hi0, hi1, hi2⟩ := info_parts info_hop
  obtain ⟨R, L, pR, cR, pL, cL⟩ := T
  obtain ⟨k1, k2⟩ := tone_box w #[.slice pR R.length cR, .slice pL L.length cL] 26
  have S0 : Hid (BM w R L pR cR pL cL [] (.slice none 0 0) (w.alloc (.cells #[.slice pR R.length cR, .slice pL L.length cL] 26))) := Lib.hid ⟨k1, hT.old.keep k2, World.ownsRow_nil _ _ _ _, by simp, k2⟩
  have hmL := Nat.le_trans hT.cl.1 hT.cl.2
  simp only at hmL ⊢
  clear hT k1 k2
  obtain ⟨Hr, hHr⟩ : ∃ Hr, bridges R L = Hr := ⟨_, rfl⟩
  rw [hHr]
  have HHR := Lib.hid hHr
  clear hHr
  go_enter Try.func44, Try.ntmps44
  go_upto_region 1 with fail
  generalize w.alloc _ = wa at *
  obtain ⟨c0, c1⟩ := row_cells S0.out.topo
  go_wp2_with fail
  refine (rcheck_any ⟨R, L, pR, cR, pL, cL⟩ _ wa S0.out.ok).mono ?_
  rintro e w1 ⟨rfl, hg⟩
  simp only
  have S1 := Lib.hid (S0.out.keep hg)
  clear hg S0 c0 c1
  by_cases hv0 : chk R L = 0
  case neg =>
    have hv' : (chk R L != 0) = true := by simpa using hv0
    obtain rfl : Hr = [] := by
      have := HHR.out
      unfold bridges okT at this
      rw [if_neg (by simpa using hv0)] at this
      exact this.symm
    clear hv0
    go_wp2_with fail
    go_ret
    exact ⟨none, 0, rfl, rdf_nil _ _ _ _, ⟨Nat.le_refl _, by show 0 ≤ _; omega⟩, S1.out.gr⟩
  have hv : okT R L = true := by unfold okT; simpa using hv0
  have HV := Lib.hid hv
  obtain ⟨h24, h60⟩ := okT_len hv
  have HH2 : Hid ((L.filter (isBr R L)).map hopOf = Hr) := Lib.hid (by have := HHR.out; unfold bridges at this; rw [hv] at this; exact this)
  rw [hv0]
  clear hv HHR hv0
  have M0 : Hid (BM w R L pR cR pL cL (((L.take 0).filter (isBr R L)).map hopOf) (.slice none 0 0) w1) := S1
  obtain ⟨c0, c1⟩ := row_cells S1.out.topo
  clear S1
  go_wp2_with fail
  go_loopw [3, 4] (fun v a wr => ∃ (k : Nat) (va : Value), va = v ∧ k ≤ L.length ∧ a = .int .i64 (k : Int) ∧ Hid (BM w R L pR cR pL cL (((L.take k).filter (isBr R L)).map hopOf) va wr)) (fun _ a _ => L.length - (intOf a).toNat)
  case atStart => exact ⟨0, _, rfl, Nat.zero_le _, rfl, M0⟩
  case round =>
    obtain ⟨k, va, rfl, hk, rfl, M⟩ := hrel
    clear M0 c0 c1
    obtain ⟨c0, c1⟩ := row_cells M.out.topo
    by_cases hlt : k < L.length
    · obtain ⟨-, b, off, rfl, -, -⟩ := rdl_cells (L := L) M.out.ok.l (by omega)
      obtain ⟨x, hx⟩ : ∃ x, L[k]? = some x := ⟨_, List.getElem?_eq_getElem hlt⟩
      have HC : Hid (∀ u, Hid (wr.grownBy u none) → u.cell? ⟨b, off + k * 5, none⟩ = some (.int .i64 x.a) ∧ u.cell? ⟨b, off + k * 5 + 1, none⟩ = some (.int .i64 x.b)) := Lib.hid (fun u hu => by
        obtain ⟨-, b', off', e, -, hc⟩ := rdl_cells (L := L) (M.out.ok.keep hu.out).l (by omega)
        injection e with e
        injection e with e4 e5
        subst e4
        subst e5
        exact ⟨(hc k x hx).1, (hc k x hx).2.1⟩)
      have HK := Lib.hid (bri_take (R := R) hx)
      have hln : ((((L.take k).filter (isBr R L)).map hopOf)).length ≤ 60 := by
        rw [List.length_map]
        have := List.length_filter_le (isBr R L) (L.take k)
        have := List.length_take_le k L
        omega
      have i0 : (0 : Int) ≤ (k : Int) := by omega
      have i1 : (k : Int) < (L.length : Int) := by omega
      obtain ⟨Hs, hHs⟩ : ∃ Hs, (((L.take k).filter (isBr R L)).map hopOf) = Hs := ⟨_, rfl⟩
      rw [hHs] at M HK hln
      clear hHs hx
      go_upto_region 7 with fail
      clear c0 c1
      refine region_until (S := fun w' => Hid (wr.grownBy w' none)) (fun j => j == 14) (by kernel_rfl) (Lib.hid (grown_drew (grown_refl _ _))) (fun hHeld => ?_)
      refine anyU_take (i := 0) (oi := { dst := some 16, op := Op.fieldAddr 26 (Operand.tmp 1) 1, type := 0, pos := "ref.go:255", after := #[], guard := none }) (v := ?_) rfl (by kernel_rfl) (by kernel_rfl) (by kernel_rfl) (by kernel_rfl) (by kernel_rfl) (fun _ _ _ h => h) (Or.inl ⟨by rfl, ?_⟩) hHeld ?_
      rotate_left 1
      · intro u hSu
        obtain ⟨q0, q1⟩ := row_cells (kept_row M.out.topo hSu.out (by simp))
        obtain ⟨q2, q3⟩ := HC.out _ hSu
        go_simp
        first | done | with_reducible rfl
      (try simp only [Act.put, List.setIfInBounds_toArray, List.set_cons_zero, List.set_cons_succ])
      refine anyU_take (i := 1) (oi := { dst := some 17, op := Op.load 24 (Operand.tmp 16), type := 24, pos := "ref.go:255", after := #[{ on := 0, ground := Ground.data }], guard := none }) (v := ?_) rfl (by kernel_rfl) (by kernel_rfl) (by kernel_rfl) (by kernel_rfl) (by kernel_rfl) (fun _ _ _ h => h) (Or.inl ⟨by rfl, ?_⟩) hHeld ?_
      rotate_left 1
      · intro u hSu
        obtain ⟨q0, q1⟩ := row_cells (kept_row M.out.topo hSu.out (by simp))
        obtain ⟨q2, q3⟩ := HC.out _ hSu
        go_simp
        first | done | with_reducible rfl
      (try simp only [Act.put, List.setIfInBounds_toArray, List.set_cons_zero, List.set_cons_succ])
      refine anyU_take (i := 2) (oi := { dst := some 18, op := Op.move (Operand.tmp 4), type := 3, pos := "ref.go:255", after := #[], guard := none }) (v := ?_) rfl (by kernel_rfl) (by kernel_rfl) (by kernel_rfl) (by kernel_rfl) (by kernel_rfl) (fun _ _ _ h => h) (Or.inl ⟨by rfl, ?_⟩) hHeld ?_
      rotate_left 1
      · intro u hSu
        obtain ⟨q0, q1⟩ := row_cells (kept_row M.out.topo hSu.out (by simp))
        obtain ⟨q2, q3⟩ := HC.out _ hSu
        go_simp
        first | done | with_reducible rfl
      (try simp only [Act.put, List.setIfInBounds_toArray, List.set_cons_zero, List.set_cons_succ])
      refine anyU_take (i := 3) (oi := { dst := some 19, op := Op.indexAddr 24 (Operand.tmp 17) (Operand.tmp 18), type := 0, pos := "ref.go:255", after := #[{ on := 1, ground := Ground.data }, { on := 2, ground := Ground.data }], guard := none }) (v := ?_) rfl (by kernel_rfl) (by kernel_rfl) (by kernel_rfl) (by kernel_rfl) (by kernel_rfl) (fun _ _ _ h => h) (Or.inl ⟨by rfl, ?_⟩) hHeld ?_
      rotate_left 1
      · intro u hSu
        obtain ⟨q0, q1⟩ := row_cells (kept_row M.out.topo hSu.out (by simp))
        obtain ⟨q2, q3⟩ := HC.out _ hSu
        go_simp
        first | done | with_reducible rfl
      (try simp only [Act.put, List.setIfInBounds_toArray, List.set_cons_zero, List.set_cons_succ])
      refine anyU_take (i := 4) (oi := { dst := some 20, op := Op.fieldAddr 68 (Operand.tmp 19) 0, type := 0, pos := "ref.go:255", after := #[{ on := 3, ground := Ground.data }], guard := none }) (v := ?_) rfl (by kernel_rfl) (by kernel_rfl) (by kernel_rfl) (by kernel_rfl) (by kernel_rfl) (fun _ _ _ h => h) (Or.inl ⟨by rfl, ?_⟩) hHeld ?_
      rotate_left 1
      · intro u hSu
        obtain ⟨q0, q1⟩ := row_cells (kept_row M.out.topo hSu.out (by simp))
        obtain ⟨q2, q3⟩ := HC.out _ hSu
        go_simp
        first | done | with_reducible rfl
      (try simp only [Act.put, List.setIfInBounds_toArray, List.set_cons_zero, List.set_cons_succ])
      refine anyU_take (i := 5) (oi := { dst := some 21, op := Op.load 3 (Operand.tmp 20), type := 3, pos := "ref.go:255", after := #[{ on := 4, ground := Ground.data }], guard := none }) (v := ?_) rfl (by kernel_rfl) (by kernel_rfl) (by kernel_rfl) (by kernel_rfl) (by kernel_rfl) (fun _ _ _ h => h) (Or.inl ⟨by rfl, ?_⟩) hHeld ?_
      rotate_left 1
      · intro u hSu
        obtain ⟨q0, q1⟩ := row_cells (kept_row M.out.topo hSu.out (by simp))
        obtain ⟨q2, q3⟩ := HC.out _ hSu
        go_simp
        first | done | with_reducible rfl
      (try simp only [Act.put, List.setIfInBounds_toArray, List.set_cons_zero, List.set_cons_succ])
      refine anyU_take (i := 6) (oi := { dst := some 22, op := Op.fieldAddr 26 (Operand.tmp 1) 1, type := 0, pos := "ref.go:255", after := #[], guard := none }) (v := ?_) rfl (by kernel_rfl) (by kernel_rfl) (by kernel_rfl) (by kernel_rfl) (by kernel_rfl) (fun _ _ _ h => h) (Or.inl ⟨by rfl, ?_⟩) hHeld ?_
      rotate_left 1
      · intro u hSu
        obtain ⟨q0, q1⟩ := row_cells (kept_row M.out.topo hSu.out (by simp))
        obtain ⟨q2, q3⟩ := HC.out _ hSu
        go_simp
        first | done | with_reducible rfl
      (try simp only [Act.put, List.setIfInBounds_toArray, List.set_cons_zero, List.set_cons_succ])
      refine anyU_take (i := 7) (oi := { dst := some 23, op := Op.load 24 (Operand.tmp 22), type := 24, pos := "ref.go:255", after := #[{ on := 6, ground := Ground.data }], guard := none }) (v := ?_) rfl (by kernel_rfl) (by kernel_rfl) (by kernel_rfl) (by kernel_rfl) (by kernel_rfl) (fun _ _ _ h => h) (Or.inl ⟨by rfl, ?_⟩) hHeld ?_
      rotate_left 1
      · intro u hSu
        obtain ⟨q0, q1⟩ := row_cells (kept_row M.out.topo hSu.out (by simp))
        obtain ⟨q2, q3⟩ := HC.out _ hSu
        go_simp
        first | done | with_reducible rfl
      (try simp only [Act.put, List.setIfInBounds_toArray, List.set_cons_zero, List.set_cons_succ])
      refine anyU_take (i := 8) (oi := { dst := some 24, op := Op.move (Operand.tmp 4), type := 3, pos := "ref.go:255", after := #[], guard := none }) (v := ?_) rfl (by kernel_rfl) (by kernel_rfl) (by kernel_rfl) (by kernel_rfl) (by kernel_rfl) (fun _ _ _ h => h) (Or.inl ⟨by rfl, ?_⟩) hHeld ?_
      rotate_left 1
      · intro u hSu
        obtain ⟨q0, q1⟩ := row_cells (kept_row M.out.topo hSu.out (by simp))
        obtain ⟨q2, q3⟩ := HC.out _ hSu
        go_simp
        first | done | with_reducible rfl
      (try simp only [Act.put, List.setIfInBounds_toArray, List.set_cons_zero, List.set_cons_succ])
      refine anyU_take (i := 9) (oi := { dst := some 25, op := Op.indexAddr 24 (Operand.tmp 23) (Operand.tmp 24), type := 0, pos := "ref.go:255", after := #[{ on := 7, ground := Ground.data }, { on := 8, ground := Ground.data }], guard := none }) (v := ?_) rfl (by kernel_rfl) (by kernel_rfl) (by kernel_rfl) (by kernel_rfl) (by kernel_rfl) (fun _ _ _ h => h) (Or.inl ⟨by rfl, ?_⟩) hHeld ?_
      rotate_left 1
      · intro u hSu
        obtain ⟨q0, q1⟩ := row_cells (kept_row M.out.topo hSu.out (by simp))
        obtain ⟨q2, q3⟩ := HC.out _ hSu
        go_simp
        first | done | with_reducible rfl
      (try simp only [Act.put, List.setIfInBounds_toArray, List.set_cons_zero, List.set_cons_succ])
      refine anyU_take (i := 10) (oi := { dst := some 26, op := Op.fieldAddr 68 (Operand.tmp 25) 1, type := 0, pos := "ref.go:255", after := #[{ on := 9, ground := Ground.data }], guard := none }) (v := ?_) rfl (by kernel_rfl) (by kernel_rfl) (by kernel_rfl) (by kernel_rfl) (by kernel_rfl) (fun _ _ _ h => h) (Or.inl ⟨by rfl, ?_⟩) hHeld ?_
      rotate_left 1
      · intro u hSu
        obtain ⟨q0, q1⟩ := row_cells (kept_row M.out.topo hSu.out (by simp))
        obtain ⟨q2, q3⟩ := HC.out _ hSu
        go_simp
        first | done | with_reducible rfl
      (try simp only [Act.put, List.setIfInBounds_toArray, List.set_cons_zero, List.set_cons_succ])
      refine anyU_take (i := 11) (oi := { dst := some 27, op := Op.load 3 (Operand.tmp 26), type := 3, pos := "ref.go:255", after := #[{ on := 10, ground := Ground.data }], guard := none }) (v := ?_) rfl (by kernel_rfl) (by kernel_rfl) (by kernel_rfl) (by kernel_rfl) (by kernel_rfl) (fun _ _ _ h => h) (Or.inl ⟨by rfl, ?_⟩) hHeld ?_
      rotate_left 1
      · intro u hSu
        obtain ⟨q0, q1⟩ := row_cells (kept_row M.out.topo hSu.out (by simp))
        obtain ⟨q2, q3⟩ := HC.out _ hSu
        go_simp
        first | done | with_reducible rfl
      (try simp only [Act.put, List.setIfInBounds_toArray, List.set_cons_zero, List.set_cons_succ])
      refine anyU_take (i := 12) (oi := { dst := some 28, op := Op.build 70 #[(0, Operand.tmp 21), (1, Operand.tmp 27)], type := 70, pos := "ref.go:255", after := #[{ on := 5, ground := Ground.data }, { on := 11, ground := Ground.data }], guard := none }) (v := ?_) rfl (by kernel_rfl) (by kernel_rfl) (by kernel_rfl) (by kernel_rfl) (by kernel_rfl) (fun _ _ _ h => h) (Or.inl ⟨by rfl, ?_⟩) hHeld ?_
      rotate_left 1
      · intro u hSu
        obtain ⟨q0, q1⟩ := row_cells (kept_row M.out.topo hSu.out (by simp))
        obtain ⟨q2, q3⟩ := HC.out _ hSu
        go_simp
        first | done | with_reducible rfl
      (try simp only [Act.put, List.setIfInBounds_toArray, List.set_cons_zero, List.set_cons_succ])
      refine anyU_ready (rs := [13]) (by kernel_rfl) (by simp) ?_
      refine EachU.cons (o := { dst := some 5, op := Op.alloc 70, type := 0, pos := "ref.go:255", after := #[], guard := none }) rfl (fun Kz hK => ?_) EachU.nil
      go_simp
      refine hK.out _ _ (fun _ => Lib.hid (grown_trans hHeld.out (World.grownBy_alloc _ _ _))) (fun hH2 => ?_)
      clear hK Kz hHeld
      have hHeld := hH2 rfl
      clear hH2
      (try simp only [Act.put, List.setIfInBounds_toArray, List.set_cons_zero, List.set_cons_succ])
      refine anyU_ready (rs := [14]) (by kernel_rfl) (by simp) ?_
      refine EachU.cons (o := { dst := none, op := Op.store 70 (Operand.tmp 5) (Operand.tmp 28), type := 0, pos := "ref.go:255", after := #[{ on := 13, ground := Ground.data }, { on := 12, ground := Ground.data }, { on := 0, ground := Ground.phase }, { on := 1, ground := Ground.phase }, { on := 2, ground := Ground.phase }, { on := 3, ground := Ground.phase }, { on := 4, ground := Ground.phase }, { on := 5, ground := Ground.phase }, { on := 6, ground := Ground.phase }, { on := 7, ground := Ground.phase }, { on := 8, ground := Ground.phase }, { on := 9, ground := Ground.phase }, { on := 10, ground := Ground.phase }, { on := 11, ground := Ground.phase }, { on := 12, ground := Ground.phase }, { on := 13, ground := Ground.phase }], guard := none }) rfl (fun Kz hK => ?_) EachU.nil
      go_simp
      refine hK.out _ _ (fun h => by cases h) (fun _ => ?_)
      clear hK Kz
      (try simp only [Act.put, List.setIfInBounds_toArray, List.set_cons_zero, List.set_cons_succ])
      refine anyU_done (by kernel_rfl) ?_ _
      have gal := grown_drew (World.grownBy_alloc wr (.cells #[.int .i64 x.a, .int .i64 x.b] 70) none)
      have hbh : (wr.alloc (.cells #[.int .i64 x.a, .int .i64 x.b] 70)).drew.heap[wr.heap.size]? = some (.cells #[.int .i64 x.a, .int .i64 x.b] 70 (0, 0)) := heap_alloc_new wr (.cells #[.int .i64 x.a, .int .i64 x.b] 70)
      have M3 := Lib.hid (M.out.keep gal)
      have HZ := Lib.hid (And.intro M3.out.topo (And.intro hbh M3.out.ok))
      clear gal hbh hHeld HC M
      go_upto_region 8 with fail
      generalize (wr.alloc (.cells #[.int .i64 x.a, .int .i64 x.b] 70)).drew = wz at *
      refine wp_region_held_drew (S := fun w' => Hid (wz.grownBy w' none)) (by kernel_rfl) (Lib.hid (grown_drew (grown_refl _ _))) (fun hHeld => ?_)
      refine wpAnyH_take (i := 0) (oi := { dst := some 29, op := Op.load 26 (Operand.tmp 1), type := 26, pos := "ref.go:256", after := #[], guard := none }) (v := ?_) rfl (by kernel_rfl) (by kernel_rfl) (by kernel_rfl) (fun _ _ _ h => h) (Or.inl ⟨by rfl, ?_⟩) hHeld ?_
      rotate_left 1
      · intro u hSu
        obtain ⟨z0, z1⟩ := row_cells (kept_row HZ.out.1 hSu.out (by simp))
        obtain ⟨z7, z8⟩ := row_cells (kept_row HZ.out.2.1 hSu.out (by simp))
        go_simp
        first | done | with_reducible rfl
      (try simp only [Act.put, List.setIfInBounds_toArray, List.set_cons_zero, List.set_cons_succ])
      refine wpAnyH_take (i := 1) (oi := { dst := some 30, op := Op.load 70 (Operand.tmp 5), type := 70, pos := "ref.go:256", after := #[], guard := none }) (v := ?_) rfl (by kernel_rfl) (by kernel_rfl) (by kernel_rfl) (fun _ _ _ h => h) (Or.inl ⟨by rfl, ?_⟩) hHeld ?_
      rotate_left 1
      · intro u hSu
        obtain ⟨z0, z1⟩ := row_cells (kept_row HZ.out.1 hSu.out (by simp))
        obtain ⟨z7, z8⟩ := row_cells (kept_row HZ.out.2.1 hSu.out (by simp))
        go_simp
        first | done | with_reducible rfl
      (try simp only [Act.put, List.setIfInBounds_toArray, List.set_cons_zero, List.set_cons_succ])
      refine wpAnyH_take (i := 5) (oi := { dst := some 34, op := Op.fieldAddr 70 (Operand.tmp 5) 0, type := 0, pos := "ref.go:256", after := #[], guard := none }) (v := ?_) rfl (by kernel_rfl) (by kernel_rfl) (by kernel_rfl) (fun _ _ _ h => h) (Or.inl ⟨by rfl, ?_⟩) hHeld ?_
      rotate_left 1
      · intro u hSu
        obtain ⟨z0, z1⟩ := row_cells (kept_row HZ.out.1 hSu.out (by simp))
        obtain ⟨z7, z8⟩ := row_cells (kept_row HZ.out.2.1 hSu.out (by simp))
        go_simp
        first | done | with_reducible rfl
      (try simp only [Act.put, List.setIfInBounds_toArray, List.set_cons_zero, List.set_cons_succ])
      refine wpAnyH_take (i := 6) (oi := { dst := some 35, op := Op.load 3 (Operand.tmp 34), type := 3, pos := "ref.go:256", after := #[{ on := 5, ground := Ground.data }], guard := none }) (v := ?_) rfl (by kernel_rfl) (by kernel_rfl) (by kernel_rfl) (fun _ _ _ h => h) (Or.inl ⟨by rfl, ?_⟩) hHeld ?_
      rotate_left 1
      · intro u hSu
        obtain ⟨z0, z1⟩ := row_cells (kept_row HZ.out.1 hSu.out (by simp))
        obtain ⟨z7, z8⟩ := row_cells (kept_row HZ.out.2.1 hSu.out (by simp))
        go_simp
        first | done | with_reducible rfl
      (try simp only [Act.put, List.setIfInBounds_toArray, List.set_cons_zero, List.set_cons_succ])
      refine wpAnyH_take (i := 7) (oi := { dst := some 36, op := Op.fieldAddr 70 (Operand.tmp 5) 1, type := 0, pos := "ref.go:256", after := #[], guard := none }) (v := ?_) rfl (by kernel_rfl) (by kernel_rfl) (by kernel_rfl) (fun _ _ _ h => h) (Or.inl ⟨by rfl, ?_⟩) hHeld ?_
      rotate_left 1
      · intro u hSu
        obtain ⟨z0, z1⟩ := row_cells (kept_row HZ.out.1 hSu.out (by simp))
        obtain ⟨z7, z8⟩ := row_cells (kept_row HZ.out.2.1 hSu.out (by simp))
        go_simp
        first | done | with_reducible rfl
      (try simp only [Act.put, List.setIfInBounds_toArray, List.set_cons_zero, List.set_cons_succ])
      refine wpAnyH_take (i := 8) (oi := { dst := some 37, op := Op.load 3 (Operand.tmp 36), type := 3, pos := "ref.go:256", after := #[{ on := 7, ground := Ground.data }], guard := none }) (v := ?_) rfl (by kernel_rfl) (by kernel_rfl) (by kernel_rfl) (fun _ _ _ h => h) (Or.inl ⟨by rfl, ?_⟩) hHeld ?_
      rotate_left 1
      · intro u hSu
        obtain ⟨z0, z1⟩ := row_cells (kept_row HZ.out.1 hSu.out (by simp))
        obtain ⟨z7, z8⟩ := row_cells (kept_row HZ.out.2.1 hSu.out (by simp))
        go_simp
        first | done | with_reducible rfl
      (try simp only [Act.put, List.setIfInBounds_toArray, List.set_cons_zero, List.set_cons_succ])
      refine wpAnyH_ready (rs := [2]) (by kernel_rfl) (by simp) ?_
      refine AllReadyH.cons (o := { dst := some 31, op := Op.buildSlice 45 1 #[(0, Operand.tmp 30)], type := 45, pos := "ref.go:256", after := #[{ on := 1, ground := Ground.data }], guard := none }) rfl (fun Kz hK => ?_) AllReadyH.nil
      go_simp
      refine hK.out _ _ (hid_more hHeld (World.grownBy_alloc _ _ _)) (fun hH2 => ?_)
      clear hK Kz hHeld
      have hHeld := hH2
      clear hH2
      (try simp only [Act.put, List.setIfInBounds_toArray, List.set_cons_zero, List.set_cons_succ])
      refine wpAnyH_take (i := 3) (oi := { dst := some 32, op := Op.build 47 #[(0, Operand.tmp 31)], type := 47, pos := "ref.go:256", after := #[{ on := 2, ground := Ground.data }], guard := none }) (v := ?_) rfl (by kernel_rfl) (by kernel_rfl) (by kernel_rfl) (fun _ _ _ h => h) (Or.inl ⟨by rfl, ?_⟩) hHeld ?_
      rotate_left 1
      · intro u hSu
        obtain ⟨z0, z1⟩ := row_cells (kept_row HZ.out.1 hSu.out (by simp))
        obtain ⟨z7, z8⟩ := row_cells (kept_row HZ.out.2.1 hSu.out (by simp))
        go_simp
        first | done | with_reducible rfl
      (try simp only [Act.put, List.setIfInBounds_toArray, List.set_cons_zero, List.set_cons_succ])
      refine wpAnyH_ready (rs := [4]) (by kernel_rfl) (by simp) ?_
      refine AllReadyH.cons (o := { dst := some 33, op := Op.call { callee := Callee.value (Operand.func 33), args := #[Operand.tmp 29, Operand.tmp 32], argTypes := #[26, 47] }, type := 26, pos := "ref.go:256", after := #[{ on := 0, ground := Ground.data }, { on := 3, ground := Ground.data }], guard := none }) rfl (fun Kz hK => ?_) AllReadyH.nil
      go_simp
      go_at_call 33
      refine (rwb_any HV.out x pR (some ⟨b, off, none⟩) cR cL wz.heap.size _ _ _ (HZ.out.2.2.keep hHeld.out) (fl_one wz x.a x.b)).mono ?_
      rintro e w2 ⟨pR2, cR2, pL2, cL2, rfl, hT2, hg2⟩
      have HT2 := Lib.hid hT2
      clear hT2
      refine hK.out _ _ (Lib.hid (grown_trans hHeld.out hg2)) (fun hH2 => ?_)
      clear hK Kz hHeld
      have hHeld := hH2
      clear hH2
      (try simp only [Act.put, List.setIfInBounds_toArray, List.set_cons_zero, List.set_cons_succ])
      refine wpAnyH_ready (rs := [9]) (by kernel_rfl) (by simp) ?_
      refine AllReadyH.cons (o := { dst := some 38, op := Op.call { callee := Callee.value (Operand.func 40), args := #[Operand.tmp 33, Operand.tmp 35, Operand.tmp 37], argTypes := #[26, 3, 3] }, type := 4, pos := "ref.go:256", after := #[{ on := 4, ground := Ground.data }, { on := 6, ground := Ground.data }, { on := 8, ground := Ground.data }, { on := 4, ground := Ground.chain }], guard := none }) rfl (fun Kz hK => ?_) AllReadyH.nil
      go_simp
      go_at_call 40
      refine (rcb_any x pR2 pL2 cR2 cL2 _ _ HT2.out).mono ?_
      rintro e w3 ⟨B, rfl, hB, hg3⟩
      refine hK.out _ _ (Lib.hid (grown_trans hHeld.out hg3)) (fun hH2 => ?_)
      clear hK Kz hHeld
      have hHeld := hH2
      clear hH2
      (try simp only [Act.put, List.setIfInBounds_toArray, List.set_cons_zero, List.set_cons_succ])
      refine wpAnyH_take (i := 10) (oi := { dst := some 39, op := Op.unOp UnOp.not 4 (Operand.tmp 38), type := 4, pos := "ref.go:256", after := #[{ on := 9, ground := Ground.data }], guard := none }) (v := ?_) rfl (by kernel_rfl) (by kernel_rfl) (by kernel_rfl) (fun _ _ _ h => h) (Or.inl ⟨by rfl, ?_⟩) hHeld ?_
      rotate_left 1
      · intro u hSu
        obtain ⟨z0, z1⟩ := row_cells (kept_row HZ.out.1 hSu.out (by simp))
        obtain ⟨z7, z8⟩ := row_cells (kept_row HZ.out.2.1 hSu.out (by simp))
        go_simp
        first | done | with_reducible rfl
      (try simp only [Act.put, List.setIfInBounds_toArray, List.set_cons_zero, List.set_cons_succ])
      refine wpAnyH_done (by kernel_rfl) ?_ _
      have M4 := Lib.hid (M3.out.keep hHeld.out)
      obtain ⟨z7, z8⟩ := row_cells (kept_row HZ.out.2.1 hHeld.out (by simp))
      clear M3 HZ HT2 hHeld
      cases B
      · have HB : Hid (((L.take (k + 1)).filter (isBr R L)).map hopOf = Hs ++ [hopOf x]) := Lib.hid (by rw [HK.out, hB.out]; rfl)
        have hown := M4.out.own
        have hsz4 := M4.out.size
        go_wp2_with (at_builtin; refine wpList_append_own _ rfl _ _ 45 rfl (w.heap.size + 1) 70 ii (.agg #[.int .i64 0, .int .i64 0]) 2 16 Try.underlying45 hii hi0 hi1 hi2 rfl (by decide) _ _ _ rfl (hown.alloc _) ⟨w3.heap.size, 0, none⟩ 1 1 [.int .i64 x.a, .int .i64 x.b] rfl rfl ?c1 ?c2 ?c3 ?c4 ?c5 ?_)
        try (case c1 => exact cells2 _ _ _ _)
        case c2 => intro u hu; simp at hu; rcases hu with rfl | rfl <;> rfl
        case c3 => first | omega | (unfold maxLen; omega)
        case c4 => omega
        case c5 => first | omega | (simp; omega)
        intro v' w4 hown' hg _
        have M5 := Lib.hid (M4.out.app (x := hopOf x) hown' hg)
        clear hown' hg hown z7 z8
        go_wp2_with fail
        refine ⟨⟨k + 1, _, rfl, by omega, congrArg _ (by omega), Lib.hid ?_⟩, by simp only [intOf]; omega⟩
        rw [HB.out]
        exact M5.out
      · have HB : Hid (((L.take (k + 1)).filter (isBr R L)).map hopOf = Hs) := Lib.hid (by rw [HK.out, hB.out]; simp)
        go_wp2_with fail
        refine ⟨⟨k + 1, _, rfl, by omega, congrArg _ (by omega), Lib.hid ?_⟩, by simp only [intOf]; omega⟩
        rw [HB.out]
        exact M4.out
    · obtain rfl : k = L.length := by omega
      go_wp2_with fail
      go_ret
      have hM := M.out
      rw [List.take_length, HH2.out] at hM
      exact hM.ret
end Go.Proofs.Ytiencdgmnkphjaa

/- Bridges and cuts: how many components there are (the mathematics). -/
namespace Go.Proofs.Ytiencdgmnkphjaa
open Go.RowKit Bs
/-- The least router of its component. -/
def lst (L : List Lk) (r : Rt) : Bool := decide ((cls L r.id).head? = some r.id)
theorem lst_iff {R : List Rt} {L : List Lk} (hv : okT R L = true) {r : Rt} (hr : r ∈ R) : lst L r = true ↔ ∀ y, Rch L r.id y → r.id ≤ y := by
  obtain ⟨n, en, hn⟩ := rt_nat hv hr
  obtain ⟨c1, c2⟩ := cls_spec (okT_near100 hv) hn
  rw [← en] at c1 c2
  unfold lst
  rw [decide_eq_true_eq, ← head_least c1 ((c2 _).2 (Rch.refl L _))]
  exact ⟨fun h y hy => h y ((c2 y).2 hy), fun h y hy => h y ((c2 y).1 hy)⟩
theorem comps_count {R : List Rt} {L : List Lk} (hv : okT R L = true) : (comps R L).length = R.countP (lst L) := by
  rw [comps_eq hv]
  unfold rcomps
  rw [List.length_map, List.countP_eq_length_filter]
  rfl
theorem least_ex {R : List Rt} {L : List Lk} (hv : okT R L = true) {r : Rt} (hr : r ∈ R) : ∃ m ∈ R, Rch L r.id m.id ∧ lst L m = true := by
  obtain ⟨n, en, hn⟩ := rt_nat hv hr
  obtain ⟨c1, c2⟩ := cls_spec (okT_near100 hv) hn
  rw [← en] at c1 c2
  have hin := (c2 _).2 (Rch.refl L r.id)
  cases hc : cls L r.id with
  | nil => rw [hc] at hin; cases hin
  | cons h t =>
    rw [hc] at c1 c2
    have hh : h ∈ h :: t := List.mem_cons_self
    have hrh := (c2 h).1 hh
    obtain ⟨m, hm, rfl⟩ := reach_id hv ⟨r, hr, rfl⟩ hrh
    refine ⟨m, hm, hrh, (lst_iff hv hm).2 (fun y hy => ?_)⟩
    exact (head_least c1 hh).2 rfl y ((c2 y).2 (hrh.trans hy))
theorem rt_pair {R : List Rt} {L : List Lk} (hv : okT R L = true) : R.Pairwise (fun x z => x.id < z.id) :=
  (pair_of_asc ltR ltR_trans R (okT_all hv).rs).imp (fun h => of_decide_eq_true h)
theorem rt_nodup {R : List Rt} {L : List Lk} (hv : okT R L = true) : R.Nodup := (rt_pair hv).imp (fun h e => by subst e; omega)
theorem rt_inj {R : List Rt} {L : List Lk} (hv : okT R L = true) {x y : Rt} (hx : x ∈ R) (hy : y ∈ R) (e : x.id = y.id) : x = y := by
  obtain ⟨i, hi⟩ := List.mem_iff_getElem?.1 hx
  obtain ⟨j, hj⟩ := List.mem_iff_getElem?.1 hy
  obtain ⟨hi1, hi2⟩ := List.getElem?_eq_some_iff.1 hi
  obtain ⟨hj1, hj2⟩ := List.getElem?_eq_some_iff.1 hj
  have hp := List.pairwise_iff_getElem.1 (rt_pair hv)
  rcases Nat.lt_trichotomy i j with h | h | h
  · have := hp i j hi1 hj1 h
    rw [hi2, hj2] at this
    omega
  · subst h
    rw [← hi2, ← hj2]
  · have := hp j i hj1 hi1 h
    rw [hi2, hj2] at this
    omega
theorem count_split {α : Type} (p c : α → Bool) : ∀ l : List α, l.countP p = l.countP (fun x => p x && c x) + l.countP (fun x => p x && !c x)
  | [] => rfl
  | a :: l => by
    rw [List.countP_cons, List.countP_cons, List.countP_cons, count_split p c l]
    cases p a <;> cases c a <;> simp <;> omega
theorem count_one {α : Type} {p : α → Bool} : ∀ {l : List α}, l.Nodup → (∀ x ∈ l, ∀ y ∈ l, p x = true → p y = true → x = y) → l.countP p ≤ 1
  | [], _, _ => by simp
  | a :: l, h, hu => by
    obtain ⟨h1, h2⟩ := List.nodup_cons.1 h
    rw [List.countP_cons]
    cases hp : p a
    · have := count_one h2 (fun x hx y hy => hu x (List.mem_cons_of_mem _ hx) y (List.mem_cons_of_mem _ hy))
      simpa using this
    · have : l.countP p = 0 := List.countP_eq_zero.2 (fun x hx hpx => h1 (by
        have := hu a List.mem_cons_self x (List.mem_cons_of_mem _ hx) hp hpx
        rw [this]
        exact hx))
      rw [this]
      simp
theorem count_pos {α : Type} {p : α → Bool} {l : List α} {x : α} (hx : x ∈ l) (hp : p x = true) : 1 ≤ l.countP p := List.countP_pos_iff.2 ⟨x, hx, hp⟩
theorem count_two {α : Type} {p : α → Bool} : ∀ {l : List α} {x y : α}, x ∈ l → y ∈ l → x ≠ y → p x = true → p y = true → 2 ≤ l.countP p
  | [], x, _, hx, _, _, _, _ => by cases hx
  | a :: l, x, y, hx, hy, hne, px, py => by
    rw [List.countP_cons]
    rcases List.mem_cons.1 hx with ex | hx2
    · rcases List.mem_cons.1 hy with ey | hy2
      · exact absurd (ex.trans ey.symm) hne
      · have := count_pos hy2 py
        rw [← ex, if_pos px]
        omega
    · rcases List.mem_cons.1 hy with ey | hy2
      · have := count_pos hx2 px
        rw [← ey, if_pos py]
        omega
      · have := count_two hx2 hy2 hne px py
        omega
theorem more_link {R : List Rt} {L L' : List Lk} (hv : okT R L = true) (hv' : okT R L' = true) (hsub : ∀ x y, Rch L' x y → Rch L x y) :
    (comps R L).length < (comps R L').length ↔ ∃ x ∈ R, ∃ y ∈ R, Rch L x.id y.id ∧ ¬ Rch L' x.id y.id := by
  rw [comps_count hv, comps_count hv']
  have mono : ∀ x ∈ R, lst L x = true → lst L' x = true := fun x hx h => (lst_iff hv' hx).2 (fun y hy => (lst_iff hv hx).1 h y (hsub _ _ hy))
  constructor
  · intro h
    refine Classical.byContradiction fun hn => ?_
    have hall : ∀ x ∈ R, ∀ y ∈ R, Rch L x.id y.id → Rch L' x.id y.id := fun x hx y hy hxy => Classical.byContradiction fun hc => hn ⟨x, hx, y, hy, hxy, hc⟩
    have : R.countP (lst L') ≤ R.countP (lst L) := List.countP_mono_left (fun x hx h => (lst_iff hv hx).2 (fun y hy => by
      obtain ⟨m, hm, rfl⟩ := reach_id hv ⟨x, hx, rfl⟩ hy
      exact (lst_iff hv' hx).1 h _ (hall x hx m hm hy)))
    omega
  · rintro ⟨x, hx, y, hy, hxy, hn⟩
    obtain ⟨m1, h1, r1, l1⟩ := least_ex hv' hx
    obtain ⟨m2, h2, r2, l2⟩ := least_ex hv' hy
    have hne : m1 ≠ m2 := fun e => hn (by subst e; exact r1.trans r2.symm)
    have h12 : Rch L m1.id m2.id := ((hsub _ _ r1).symm.trans hxy).trans (hsub _ _ r2)
    have hs := count_split (lst L') (lst L) R
    have hge : R.countP (lst L) ≤ R.countP (fun x => lst L' x && lst L x) := List.countP_mono_left (fun x hx h => by rw [mono x hx h, h]; rfl)
    have hone : 1 ≤ R.countP (fun x => lst L' x && !lst L x) := by
      cases e1 : lst L m1
      · exact count_pos h1 (by rw [l1, e1]; rfl)
      · cases e2 : lst L m2
        · exact count_pos h2 (by rw [l2, e2]; rfl)
        · have k1 := (lst_iff hv h1).1 e1 _ h12
          have k2 := (lst_iff hv h2).1 e2 _ h12.symm
          exact absurd (rt_inj hv h1 h2 (by omega)) hne
    omega
theorem more_router {R : List Rt} {L : List Lk} {r : Rt} (hv : okT R L = true) (hr : r ∈ R) (hv' : okT (woR (cutF r) R) (woL (cutF r) L) = true) :
    (comps R L).length < (comps (woR (cutF r) R) (woL (cutF r) L)).length ↔ ∃ x ∈ woR (cutF r) R, ∃ y ∈ woR (cutF r) R, Rch L x.id y.id ∧ ¬ Rch (woL (cutF r) L) x.id y.id := by
  have hkeep : ∀ x, x ∈ woR (cutF r) R ↔ x ∈ R ∧ x.id ≠ r.id := fun x => by
    unfold woR cutF
    rw [List.mem_filter]
    simp [hasI]
    exact fun _ => ⟨fun h e => h e.symm, fun h e => h e.symm⟩
  have hlink : ∀ l, l ∈ woL (cutF r) L ↔ l ∈ L ∧ l.a ≠ r.id ∧ l.b ≠ r.id := fun l => by
    unfold woL woK cutF
    rw [List.mem_filter]
    simp [hasI, nmd]
    exact fun _ => ⟨fun h => ⟨fun e => h.1 e.symm, fun e => h.2 e.symm⟩, fun h => ⟨fun e => h.1 e.symm, fun e => h.2 e.symm⟩⟩
  obtain ⟨L', hL'⟩ : ∃ L', woL (cutF r) L = L' := ⟨_, rfl⟩
  obtain ⟨R', hR'⟩ : ∃ R', woR (cutF r) R = R' := ⟨_, rfl⟩
  have hfil : R' = R.filter fun x => !hasI (cutF r).X x.id := hR'.symm
  rw [hL'] at hv' hlink ⊢
  rw [hR'] at hv' hkeep ⊢
  have hnb : ∀ u v, v ∈ nbL L' u → v ∈ nbL L u := fun u v h => by
    unfold nbL at *
    obtain ⟨l, hl, h1⟩ := List.mem_flatMap.1 h
    exact List.mem_flatMap.2 ⟨l, ((hlink l).1 hl).1, h1⟩
  have hsub : ∀ x y, Rch L' x y → Rch L x y := fun x y h => h (Rch L x) (Rch.refl L x) (fun u v hu hv => hu.step (hnb u v hv))
  have hout : ∀ x y, ¬ Rch L r.id x → Rch L x y → Rch L' x y := fun x y hx h =>
    (h (fun z => Rch L' x z) (Rch.refl L' x) (fun u v hu hv => by
      have hu2 := hsub _ _ hu
      refine hu.step ?_
      have hv2 := hu2.step hv
      unfold nbL at *
      obtain ⟨l, hl, h1⟩ := List.mem_flatMap.1 hv
      refine List.mem_flatMap.2 ⟨l, (hlink l).2 ⟨hl, ?_⟩, h1⟩
      rw [nb1_mem] at h1
      have e1 : u ≠ r.id := fun e => hx (by subst e; exact hu2.symm)
      have e2 : v ≠ r.id := fun e => hx (by subst e; exact hv2.symm)
      rcases h1 with ⟨a1, a2⟩ | ⟨a1, a2⟩
      · exact ⟨by rw [← a2]; exact e2, by rw [a1]; exact e1⟩
      · exact ⟨by rw [a1]; exact e1, by rw [← a2]; exact e2⟩))
  obtain ⟨n, en, hn⟩ := rt_nat hv hr
  obtain ⟨-, c2⟩ := cls_spec (okT_near100 hv) hn
  rw [← en] at c2
  obtain ⟨c, hc⟩ : ∃ c : Rt → Bool, c = fun x => hasI (cls L r.id) x.id := ⟨_, rfl⟩
  have hc1 : ∀ x, c x = true ↔ Rch L r.id x.id := fun x => by rw [hc]; exact hasI_mem.trans (c2 _)
  obtain ⟨p2, hp2⟩ : ∃ p2 : Rt → Bool, p2 = fun x => lst L' x && !hasI (cutF r).X x.id := ⟨_, rfl⟩
  have hp2t : ∀ x ∈ R, p2 x = true ↔ x ∈ R' ∧ lst L' x = true := fun x hx => by
    rw [hp2, hfil, List.mem_filter]
    simp only [Bool.and_eq_true]
    exact ⟨fun h => ⟨⟨hx, h.2⟩, h.1⟩, fun h => ⟨h.2, h.1.2⟩⟩
  have hcount' : (comps R' L').length = R.countP p2 := by
    rw [comps_count hv', hfil, List.countP_filter, hp2]
  rw [hcount', comps_count hv, count_split (lst L) c R, count_split p2 c R]
  have hsame : R.countP (fun x => lst L x && !c x) = R.countP (fun x => p2 x && !c x) := List.countP_congr (fun x hx => by
    simp only [Bool.and_eq_true, Bool.not_eq_true']
    refine and_congr_left fun hcx => ?_
    have hnx : ¬ Rch L r.id x.id := fun h => by rw [(hc1 x).2 h] at hcx; cases hcx
    have hxR : x ∈ R' := (hkeep x).2 ⟨hx, fun e => hnx (by rw [e]; exact Rch.refl L _)⟩
    rw [hp2t x hx, lst_iff hv hx, lst_iff hv' hxR]
    exact ⟨fun h => ⟨hxR, fun y hy => h y (hsub _ _ hy)⟩, fun h y hy => h.2 y (hout _ _ hnx hy)⟩)
  have hp1 : R.countP (fun x => lst L x && c x) = 1 := by
    have h1 : R.countP (fun x => lst L x && c x) ≤ 1 := count_one (rt_nodup hv) (fun x hx y hy px py => by
      rw [Bool.and_eq_true, hc1] at px py
      have hxy := px.2.symm.trans py.2
      have k1 := (lst_iff hv hx).1 px.1 _ hxy
      have k2 := (lst_iff hv hy).1 py.1 _ hxy.symm
      exact rt_inj hv hx hy (by omega))
    obtain ⟨m, hm, hrm, hlm⟩ := least_ex hv hr
    have h2 : 1 ≤ R.countP (fun x => lst L x && c x) := count_pos hm (by rw [hlm, (hc1 m).2 hrm]; rfl)
    omega
  rw [hsame, hp1]
  have key : 2 ≤ R.countP (fun x => p2 x && c x) ↔ ∃ x ∈ R', ∃ y ∈ R', Rch L x.id y.id ∧ ¬ Rch L' x.id y.id := by
    constructor
    · intro h
      refine Classical.byContradiction fun hn => ?_
      have : R.countP (fun x => p2 x && c x) ≤ 1 := count_one (rt_nodup hv) (fun x hx y hy px py => by
        rw [Bool.and_eq_true, hc1] at px py
        obtain ⟨x1, x2⟩ := (hp2t x hx).1 px.1
        obtain ⟨y1, y2⟩ := (hp2t y hy).1 py.1
        have hxy := px.2.symm.trans py.2
        have hxy' : Rch L' x.id y.id := Classical.byContradiction fun hc => hn ⟨x, x1, y, y1, hxy, hc⟩
        have k1 := (lst_iff hv' x1).1 x2 _ hxy'
        have k2 := (lst_iff hv' y1).1 y2 _ hxy'.symm
        exact rt_inj hv hx hy (by omega))
      omega
    · rintro ⟨x, hx, y, hy, hxy, hn⟩
      have hcx : Rch L r.id x.id := Classical.byContradiction fun hc => hn (hout _ _ hc hxy)
      obtain ⟨m1, h1, r1, l1⟩ := least_ex hv' hx
      obtain ⟨m2, h2, r2, l2⟩ := least_ex hv' hy
      have hne : m1 ≠ m2 := fun e => hn (by subst e; exact r1.trans r2.symm)
      have k1 := ((hkeep m1).1 h1).1
      have k2 := ((hkeep m2).1 h2).1
      exact count_two k1 k2 hne (by rw [(hp2t m1 k1).2 ⟨h1, l1⟩, (hc1 m1).2 (hcx.trans (hsub _ _ r1))]; rfl) (by rw [(hp2t m2 k2).2 ⟨h2, l2⟩, (hc1 m2).2 (hcx.trans (hxy.trans (hsub _ _ r2)))]; rfl)
  rw [← key]
  omega
theorem wo_okT {F : Fl} {R : List Rt} {L : List Lk} (hv : okT R L = true) : okT (woR F R) (woL F L) = true := by
  have := wo_chk F R L
  rw [if_pos hv, if_pos hv] at this
  unfold okT
  simpa using this
/-- A link whose removal divides is a bridge. -/
theorem link_more {R : List Rt} {L : List Lk} (hv : okT R L = true) {l : Lk} (hl : l ∈ L) : decide ((comps R L).length < (comps (woR (brF l) R) (woL (brF l) L)).length) = isBr R L l := by
  have hR : woR (brF l) R = R := by
    unfold woR brF
    simp [hasI]
  have hv' := wo_okT (F := brF l) hv
  have hlink : ∀ m, m ∈ woL (brF l) L ↔ m ∈ L ∧ ¬ ((l.a = m.a ∧ l.b = m.b) ∨ (l.a = m.b ∧ l.b = m.a)) := fun m => by
    unfold woL woK brF
    rw [List.mem_filter]
    simp [hasI, nmd, isH]
    intro _
    omega
  unfold isBr
  rw [hR] at hv' ⊢
  obtain ⟨L', hL'⟩ : ∃ L', woL (brF l) L = L' := ⟨_, rfl⟩
  rw [hL'] at hv' hlink ⊢
  have hnb : ∀ u v, v ∈ nbL L' u → v ∈ nbL L u := fun u v h => by
    unfold nbL at *
    obtain ⟨m, hm, h1⟩ := List.mem_flatMap.1 h
    exact List.mem_flatMap.2 ⟨m, ((hlink m).1 hm).1, h1⟩
  have hsub : ∀ x y, Rch L' x y → Rch L x y := fun x y h => h (Rch L x) (Rch.refl L x) (fun u v hu hv => hu.step (hnb u v hv))
  have hend := unk_not (okT_ids hv).2 l hl
  have hid : ∀ x, hasR R x = true → ∃ r ∈ R, r.id = x := fun x h => by
    obtain ⟨r, hr, e⟩ := List.any_eq_true.1 h
    exact ⟨r, hr, of_decide_eq_true e⟩
  obtain ⟨ra, hra, ea⟩ := hid _ hend.1
  obtain ⟨rb, hrb, eb⟩ := hid _ hend.2
  rw [Bool.eq_iff_iff, decide_eq_true_eq, more_link hv hv' hsub, Bool.not_eq_true', ← Bool.not_eq_true, conn_iff hv']
  constructor
  · rintro ⟨x, hx, y, hy, hxy, hn⟩ ⟨-, hab⟩
    refine hn (hxy (fun z => Rch L' x.id z) (Rch.refl L' _) (fun u v hu hv => ?_))
    unfold nbL at hv
    obtain ⟨m, hm, h1⟩ := List.mem_flatMap.1 hv
    by_cases hm' : m ∈ L'
    · exact hu.step (by unfold nbL; exact List.mem_flatMap.2 ⟨m, hm', h1⟩)
    · have hnm : (l.a = m.a ∧ l.b = m.b) ∨ (l.a = m.b ∧ l.b = m.a) := Classical.byContradiction fun hc => hm' ((hlink m).2 ⟨hm, hc⟩)
      rw [nb1_mem] at h1
      have : (u = l.a ∧ v = l.b) ∨ (u = l.b ∧ v = l.a) := by omega
      rcases this with ⟨e1, e2⟩ | ⟨e1, e2⟩
      · subst e1
        subst e2
        exact hu.trans hab
      · subst e1
        subst e2
        exact hu.trans hab.symm
  · intro h
    refine ⟨ra, hra, rb, hrb, ?_, fun hc => h ⟨⟨ra, hra, ea⟩, by rw [← ea, ← eb]; exact hc⟩⟩
    rw [ea, eb]
    refine Rch.step (Rch.refl L _) ?_
    unfold nbL
    exact List.mem_flatMap.2 ⟨l, hl, (nb1_mem _ _ _).2 (.inr ⟨rfl, rfl⟩)⟩
theorem named_br {R : List Rt} {L : List Lk} (hv : okT R L = true) {l : Lk} (hl : l ∈ L) : nmH (bridges R L) l.a l.b = isBr R L l := by
  have he := ends_lt (okT_all hv)
  unfold bridges
  rw [if_pos hv, Bool.eq_iff_iff]
  unfold nmH
  rw [List.any_eq_true]
  constructor
  · rintro ⟨h, hh, hb⟩
    obtain ⟨m, hm, rfl⟩ := List.mem_map.1 hh
    obtain ⟨h1, h2⟩ := List.mem_filter.1 hm
    have k1 := he m h1
    have k2 := he l hl
    unfold isB isH hopOf at hb
    simp only [Bool.or_eq_true, decide_eq_true_eq] at hb
    have e1 : m.a = l.a := by omega
    have e2 : m.b = l.b := by omega
    unfold isBr brF at h2 ⊢
    rw [e1, e2] at h2
    exact h2
  · intro h
    refine ⟨hopOf l, List.mem_map.2 ⟨l, List.mem_filter.2 ⟨hl, h⟩, rfl⟩, ?_⟩
    unfold isB isH hopOf
    simp
theorem has_cut {R : List Rt} {L : List Lk} (hv : okT R L = true) {r : Rt} (hr : r ∈ R) : hasI (cuts R L) r.id = isCut R L r := by
  unfold cuts
  rw [if_pos hv, Bool.eq_iff_iff, hasI_mem, List.mem_map]
  constructor
  · rintro ⟨m, hm, e⟩
    obtain ⟨h1, h2⟩ := List.mem_filter.1 hm
    rw [← rt_inj hv h1 hr e]
    exact h2
  · intro h
    exact ⟨r, List.mem_filter.2 ⟨hr, h⟩, rfl⟩
/-- Two routers that are divided. -/
def badP (R : List Rt) (L : List Lk) (r x y : Rt) : Bool := conn R L x.id y.id && !conn (woR (cutF r) R) (woL (cutF r) L) x.id y.id
theorem cut_iff {R : List Rt} {L : List Lk} (hv : okT R L = true) {r : Rt} (hr : r ∈ R) : isCut R L r = true ↔ ∃ (i j : Nat) (x y : Rt), (woR (cutF r) R)[i]? = some x ∧ (woR (cutF r) R)[j]? = some y ∧ j < i ∧ badP R L r x y = true := by
  have hv' := wo_okT (F := cutF r) hv
  unfold isCut
  rw [decide_eq_true_eq, more_router hv hr hv']
  have hsubR : ∀ x, x ∈ woR (cutF r) R → x ∈ R := fun x hx => (List.mem_filter.1 hx).1
  have hbad : ∀ x ∈ woR (cutF r) R, ∀ y, badP R L r x y = true ↔ Rch L x.id y.id ∧ ¬ Rch (woL (cutF r) L) x.id y.id := fun x hx y => by
    unfold badP
    rw [Bool.and_eq_true, conn_iff hv, Bool.not_eq_true', ← Bool.not_eq_true, conn_iff hv']
    exact ⟨fun h => ⟨h.1.2, fun hc => h.2 ⟨⟨x, hx, rfl⟩, hc⟩⟩, fun h => ⟨⟨⟨x, hsubR x hx, rfl⟩, h.1⟩, fun hc => h.2 hc.2⟩⟩
  constructor
  · rintro ⟨x, hx, y, hy, h1, h2⟩
    obtain ⟨i, hi⟩ := List.mem_iff_getElem?.1 hx
    obtain ⟨j, hj⟩ := List.mem_iff_getElem?.1 hy
    rcases Nat.lt_trichotomy j i with h | h | h
    · exact ⟨i, j, x, y, hi, hj, h, (hbad x hx y).2 ⟨h1, h2⟩⟩
    · subst h
      rw [hi] at hj
      obtain rfl := Option.some.inj hj
      exact absurd (Rch.refl _ _) h2
    · exact ⟨j, i, y, x, hj, hi, h, (hbad y hy x).2 ⟨h1.symm, fun hc => h2 hc.symm⟩⟩
  · rintro ⟨i, j, x, y, hi, hj, -, hb⟩
    have hx := List.mem_of_getElem? hi
    obtain ⟨h1, h2⟩ := (hbad x hx y).1 hb
    exact ⟨x, hx, y, List.mem_of_getElem? hj, h1, h2⟩
end Go.Proofs.Ytiencdgmnkphjaa

/- The reference's Cuts. -/
namespace Go.Proofs.Ytiencdgmnkphjaa
open Go.RowKit Bs
theorem rwc_any {R : List Rt} {L : List Lk} (hv : okT R L = true) (x : Rt) (pR pL : Option Addr) (cR cL g : Nat) (q q2 : Nat → Prop) (w : World) (n : Int) (hn : x.id = n) (hT : TgOk w q ⟨R, L, pR, cR, pL, cL⟩) (hF : FlOk w q2 ⟨[], [n], none, 0, some ⟨g, 0, none⟩, 1⟩) :
    Calls Try.prog 33 #[.agg #[.slice pR R.length cR, .slice pL L.length cL], .agg #[.slice none 0 0, .slice (some ⟨g, 0, none⟩) 1 1]] w fun e w' => TWPost (woR (cutF x) R) (woL (cutF x) L) w e w' := by
  subst hn
  have h := rwithout_any ⟨R, L, pR, cR, pL, cL⟩ _ q q2 w hT hF
  simp only [hv, if_true] at h
  exact h
/-- Of the pairs ahead of (a, b) z tells whether one is divided. -/
def VB (R : List Rt) (L : List Lk) (r : Rt) (U : List Rt) (a b : Nat) (z : Bool) : Prop := z = true ↔ ∃ (i j : Nat) (x y : Rt), U[i]? = some x ∧ U[j]? = some y ∧ j < i ∧ (i < a ∨ (i = a ∧ j < b)) ∧ badP R L r x y = true
theorem VB.start (R : List Rt) (L : List Lk) (r : Rt) (U : List Rt) : VB R L r U 0 0 false :=
  ⟨fun h => (by cases h), fun ⟨i, j, x, y, _, _, _, h, _⟩ => by omega⟩
theorem VB.next {R : List Rt} {L : List Lk} {r : Rt} {U : List Rt} {a b : Nat} {z : Bool} {x y : Rt} (h : VB R L r U a b z) (hx : U[a]? = some x) (hy : U[b]? = some y) (hab : b < a) : VB R L r U a (b + 1) (z || badP R L r x y) := by
  unfold VB at *
  rw [Bool.or_eq_true, h]
  constructor
  · rintro (⟨i, j, x', y', h1, h2, h3, h4, h5⟩ | hb)
    · exact ⟨i, j, x', y', h1, h2, h3, by omega, h5⟩
    · exact ⟨a, b, x, y, hx, hy, hab, by omega, hb⟩
  · rintro ⟨i, j, x', y', h1, h2, h3, h4, h5⟩
    by_cases e : i = a ∧ j = b
    · obtain ⟨rfl, rfl⟩ := e
      rw [hx] at h1
      rw [hy] at h2
      obtain rfl := Option.some.inj h1
      obtain rfl := Option.some.inj h2
      exact .inr h5
    · exact .inl ⟨i, j, x', y', h1, h2, h3, by omega, h5⟩
theorem VB.row {R : List Rt} {L : List Lk} {r : Rt} {U : List Rt} {a : Nat} {z : Bool} (h : VB R L r U a a z) : VB R L r U (a + 1) 0 z := by
  unfold VB at *
  rw [h]
  constructor
  · rintro ⟨i, j, x', y', h1, h2, h3, h4, h5⟩
    exact ⟨i, j, x', y', h1, h2, h3, by omega, h5⟩
  · rintro ⟨i, j, x', y', h1, h2, h3, h4, h5⟩
    exact ⟨i, j, x', y', h1, h2, h3, by omega, h5⟩
theorem VB.done {R : List Rt} {L : List Lk} {r : Rt} {z : Bool} (hv : okT R L = true) (hr : r ∈ R) (h : VB R L r (woR (cutF r) R) (woR (cutF r) R).length 0 z) : isCut R L r = z := by
  unfold VB at h
  rw [Bool.eq_iff_iff, cut_iff hv hr, h]
  constructor
  · rintro ⟨i, j, x', y', h1, h2, h3, h5⟩
    have := (List.getElem?_eq_some_iff.1 h1).1
    exact ⟨i, j, x', y', h1, h2, h3, by omega, h5⟩
  · rintro ⟨i, j, x', y', h1, h2, h3, _, h5⟩
    exact ⟨i, j, x', y', h1, h2, h3, h5⟩
set_option maxRecDepth 100000 in
set_option maxHeartbeats 6400000 in
theorem rcuts_any (T : Tg) (q : Nat → Prop) (w : World) (hT : TgOk w q T) :
    Calls Try.prog 45 #[.agg #[.slice T.pR T.R.length T.cR, .slice T.pL T.L.length T.cL]] w fun e w' => TRet (cuts T.R T.L) w e w' := by
  obtain ⟨ii, hii, hi0, hi1, hi2⟩ := info_parts info_int
  obtain ⟨R, L, pR, cR, pL, cL⟩ := T
  obtain ⟨k1, k2⟩ := tone_box w #[.slice pR R.length cR, .slice pL L.length cL] 26
  have S0 : Hid (CUM w R L pR cR pL cL [] (.slice none 0 0) (w.alloc (.cells #[.slice pR R.length cR, .slice pL L.length cL] 26))) := Lib.hid ⟨k1, hT.old.keep k2, World.ownsRow_nil _ _ _ _, by simp, k2⟩
  have hmR := Nat.le_trans hT.cr.1 hT.cr.2
  simp only at hmR ⊢
  clear hT k1 k2
  obtain ⟨Xr, hXr⟩ : ∃ Xr, cuts R L = Xr := ⟨_, rfl⟩
  rw [hXr]
  have HXR := Lib.hid hXr
  clear hXr
  go_enter Try.func45, Try.ntmps45
  go_upto_region 1 with fail
  generalize w.alloc _ = wa at *
  obtain ⟨c0, c1⟩ := row_cells S0.out.topo
  go_wp2_with fail
  refine (rcheck_any ⟨R, L, pR, cR, pL, cL⟩ _ wa S0.out.ok).mono ?_
  rintro e w1 ⟨rfl, hg⟩
  simp only
  have S1 := Lib.hid (S0.out.keep hg)
  clear hg S0 c0 c1
  by_cases hv0 : chk R L = 0
  case neg =>
    have hv' : (chk R L != 0) = true := by simpa using hv0
    obtain rfl : Xr = [] := by
      have := HXR.out
      unfold cuts okT at this
      rw [if_neg (by simpa using hv0)] at this
      exact this.symm
    clear hv0
    go_wp2_with fail
    go_ret
    exact ⟨none, 0, rfl, ⟨none, 0, rfl, fun h => absurd rfl h⟩, ⟨Nat.le_refl _, by show 0 ≤ _; omega⟩, fun _ => rfl, S1.out.gr⟩
  have hv : okT R L = true := by unfold okT; simpa using hv0
  have HV := Lib.hid hv
  obtain ⟨h24, h60⟩ := okT_len hv
  have HH2 : Hid ((R.filter (isCut R L)).map Rt.id = Xr) := Lib.hid (by have := HXR.out; unfold cuts at this; rw [hv] at this; exact this)
  rw [hv0]
  clear hv HXR hv0
  have M0 : Hid (CUM w R L pR cR pL cL (((R.take 0).filter (isCut R L)).map Rt.id) (.slice none 0 0) w1) := S1
  obtain ⟨c0, c1⟩ := row_cells S1.out.topo
  clear S1
  go_wp2_with fail
  go_loopw [3, 4] (fun v a wr => ∃ (k : Nat) (va : Value), va = v ∧ k ≤ R.length ∧ a = .int .i64 (k : Int) ∧ Hid (CUM w R L pR cR pL cL (((R.take k).filter (isCut R L)).map Rt.id) va wr)) (fun _ a _ => R.length - (intOf a).toNat)
  case atStart => exact ⟨0, _, rfl, Nat.zero_le _, rfl, M0⟩
  case round =>
    obtain ⟨k, va, rfl, hk, rfl, M⟩ := hrel
    clear M0 c0 c1
    obtain ⟨c0, c1⟩ := row_cells M.out.topo
    by_cases hlt : k < R.length
    · obtain ⟨-, b, off, rfl, hq, hc⟩ := rdr_cells (R := R) M.out.ok.r (by omega)
      obtain ⟨x, hx⟩ : ∃ x, R[k]? = some x := ⟨_, List.getElem?_eq_getElem hlt⟩
      obtain ⟨a0, a1⟩ := hc k x hx
      have HX := Lib.hid (List.mem_of_getElem? hx)
      have HK := Lib.hid (cut_take (L := L) hx)
      have hln : ((((R.take k).filter (isCut R L)).map Rt.id)).length ≤ 24 := by
        rw [List.length_map]
        have := List.length_filter_le (isCut R L) (R.take k)
        have := List.length_take_le k R
        omega
      have i0 : (0 : Int) ≤ (k : Int) := by omega
      have i1 : (k : Int) < (R.length : Int) := by omega
      obtain ⟨Xs, hXs⟩ : ∃ Xs, (((R.take k).filter (isCut R L)).map Rt.id) = Xs := ⟨_, rfl⟩
      rw [hXs] at M HK hln
      have gal := World.grownBy_alloc wr (.cells #[.int .i64 x.id] 3) none
      have HTF := Lib.hid (And.intro (M.out.ok.keep gal) (And.intro (fl_oneX wr x.id) gal))
      clear hXs hx hc gal
      go_wp2_with fail
      refine (rwc_any HV.out x (some ⟨b, off, none⟩) pL cR cL wr.heap.size _ _ _ x.id rfl HTF.out.1 HTF.out.2.1).mono ?_
      rintro e w3 ⟨pR2, cR2, pL2, cL2, rfl, hT3, hg3⟩
      obtain ⟨U, hU⟩ : ∃ U, woR (cutF x) R = U := ⟨_, rfl⟩
      obtain ⟨LU, hLU⟩ : ∃ LU, woL (cutF x) L = LU := ⟨_, rfl⟩
      have HU := Lib.hid (And.intro hU hLU)
      have hUl : U.length ≤ 24 := by
        rw [← hU]
        exact Nat.le_trans (List.length_filter_le _ _) h24
      simp only at hT3 ⊢
      rw [hU, hLU] at hT3 ⊢
      have gal2 := World.grownBy_alloc w3 (.cells #[.slice pR2 U.length cR2, .slice pL2 LU.length cL2] 26) none
      have M3 := Lib.hid (M.out.keep (grown_trans HTF.out.2.2 (grown_trans hg3 gal2)))
      have HT3 := Lib.hid (hT3.keep gal2)
      have HB3 := Lib.hid (heap_alloc_new w3 (.cells #[.slice pR2 U.length cR2, .slice pL2 LU.length cL2] 26))
      clear hU hLU hT3 hg3 gal2 M HTF c0 c1 a0 a1 i0 i1
      go_upto_region 9 with fail
      generalize w3.alloc _ = w4 at *
      obtain ⟨Bu, hBu⟩ : ∃ Bu, Bu = w3.heap.size := ⟨_, rfl⟩
      rw [← hBu] at HB3 ⊢
      clear hBu
      have V0 := Lib.hid (VB.start R L x U)
      obtain ⟨c0, c1⟩ := row_cells HB3.out
      go_wp2_with fail
      go_loopw [7, 8] (fun zz aa wr => ∃ (a : Nat) (z : Bool), zz = .bool z ∧ a ≤ U.length ∧ aa = .int .i64 (a : Int) ∧ Hid (VB R L x U a 0 z) ∧ Hid (w4.grownBy wr none)) (fun _ aa _ => U.length - (intOf aa).toNat)
      case atStart => exact ⟨0, false, rfl, Nat.zero_le _, rfl, V0, Lib.hid (grown_refl _ _)⟩
      case round =>
      obtain ⟨a, z, rfl, ha, rfl, V, G⟩ := hrel
      clear V0 c0 c1
      obtain ⟨c0, c1⟩ := row_cells (kept_row HB3.out G.out (by simp))
      by_cases hat : a < U.length
      · obtain ⟨-, b2, off2, rfl, -, -⟩ := rdr_cells (R := U) HT3.out.r (by omega)
        obtain ⟨m, hm⟩ : ∃ x, U[a]? = some x := ⟨_, List.getElem?_eq_getElem hat⟩
        have HM := Lib.hid hm
        have HCU : Hid (∀ u, Hid (w4.grownBy u none) → ∀ (i : Nat) (m : Rt), U[i]? = some m → u.cell? ⟨b2, off2 + i * 2, none⟩ = some (.int .i64 m.id) ∧ u.cell? ⟨b2, off2 + i * 2 + 1, none⟩ = some (.bool m.cap)) := Lib.hid (fun u hu i m hm => by
          have h1 := (List.getElem?_eq_some_iff.1 hm).1
          obtain ⟨-, b', off', e, -, hc⟩ := rdr_cells (R := U) (HT3.out.keep hu.out).r (by omega)
          injection e with e
          injection e with e4 e5
          subst e4
          subst e5
          exact hc i m hm)
        have i0 : (0 : Int) ≤ (a : Int) := by omega
        have i1 : (a : Int) < (U.length : Int) := by omega
        clear hm
        go_wp2_with fail
        go_loopw [7, 9] (fun zz bb wr => ∃ (b : Nat) (z : Bool), zz = .bool z ∧ b ≤ a ∧ bb = .int .i64 (b : Int) ∧ Hid (VB R L x U a b z) ∧ Hid (w4.grownBy wr none)) (fun _ bb _ => a - (intOf bb).toNat)
        case atStart => exact ⟨0, z, rfl, Nat.zero_le _, rfl, V, G⟩
        case round =>
        obtain ⟨b3, z, rfl, hb, rfl, V, G⟩ := hrel
        clear c0 c1
        obtain ⟨c0, c1⟩ := row_cells (kept_row HB3.out G.out (by simp))
        by_cases hbt : b3 < a
        · obtain ⟨m2, hm2⟩ : ∃ x, U[b3]? = some x := ⟨_, List.getElem?_eq_getElem (show b3 < U.length by omega)⟩
          obtain ⟨q0, q1⟩ := HCU.out _ G a m HM.out
          obtain ⟨q2, q3⟩ := HCU.out _ G b3 m2 hm2
          have HVN := Lib.hid (V.out.next HM.out hm2 hbt)
          have k0 : (0 : Int) ≤ (b3 : Int) := by omega
          have k1 : (b3 : Int) < (U.length : Int) := by omega
          have k2 : (b3 : Int) < (a : Int) := by omega
          have G5 : ∀ n, Hid (w4.grownBy (wr.drewN n) none) := fun n => Lib.hid (grown_trans G.out (grown_drewN _ n _))
          clear hm2 G
          go_upto_region 16 with fail
          go_quiet (fail)
          have G6 := G5 nq
          clear G5 c0 c1 q0 q1 q2 q3
          generalize wr.drewN nq = wq at *
          obtain ⟨c0, c1⟩ := row_cells (kept_row HB3.out G6.out (by simp))
          obtain ⟨d0, d1⟩ := row_cells (kept_row M3.out.topo G6.out (by simp))
          cases z
          · have hbd : badP R L x m m2 = (conn R L m.id m2.id && !conn U LU m.id m2.id) := by unfold badP; rw [HU.out.1, HU.out.2]
            rw [hbd, Bool.false_or] at HVN
            clear hbd
            obtain ⟨z1, hz1⟩ : ∃ z1, conn R L m.id m2.id = z1 := ⟨_, rfl⟩
            obtain ⟨z2, hz2⟩ : ∃ z2, conn U LU m.id m2.id = z2 := ⟨_, rfl⟩
            rw [hz1, hz2] at HVN
            have HZ := Lib.hid (And.intro hz1 hz2)
            clear hz1 hz2
            go_wp2_with fail
            refine (rconn_any ⟨R, L, some ⟨b, off, none⟩, cR, pL, cL⟩ m.id m2.id _ _ (M3.out.ok.keep G6.out)).mono ?_
            simp only
            rw [HZ.out.1]
            rintro e w5 ⟨rfl, hg5⟩
            have G7 := Lib.hid (grown_trans G6.out hg5)
            clear hg5 c0 c1 d0 d1
            obtain ⟨c0, c1⟩ := row_cells (kept_row HB3.out G7.out (by simp))
            cases z1
            · go_wp2_with fail
              exact ⟨⟨b3 + 1, _, rfl, by omega, congrArg _ (by omega), HVN, G7⟩, by simp only [intOf]; omega⟩
            · go_wp2_with fail
              refine (rconn_any ⟨U, LU, some ⟨b2, off2, none⟩, cR2, pL2, cL2⟩ m.id m2.id _ _ (HT3.out.keep G7.out)).mono ?_
              simp only
              rw [HZ.out.2]
              rintro e w6 ⟨rfl, hg6⟩
              have G8 := Lib.hid (grown_trans G7.out hg6)
              clear hg6 c0 c1
              go_wp2_with fail
              refine ⟨⟨b3 + 1, _, rfl, by omega, congrArg _ (by omega), ?_, G8⟩, by simp only [intOf]; omega⟩
              first | exact HVN | (rw [Bool.true_and] at HVN; exact HVN) | (cases z2 <;> exact HVN)
          · go_wp2_with fail
            exact ⟨⟨b3 + 1, true, rfl, by omega, congrArg _ (by omega), HVN, G6⟩, by simp only [intOf]; omega⟩
        · obtain rfl : b3 = a := by omega
          have VR := Lib.hid V.out.row
          go_wp2_with fail
          exact ⟨⟨b3 + 1, z, rfl, by omega, congrArg _ (by omega), VR, G⟩, by simp only [intOf]; omega⟩
      · obtain rfl : a = U.length := by omega
        have HD : Hid (isCut R L x = z) := Lib.hid (by
          have := V.out
          rw [← HU.out.1] at this
          exact this.done HV.out HX.out)
        have M4 := Lib.hid (M3.out.keep G.out)
        cases z
        · have HB : Hid (((R.take (k + 1)).filter (isCut R L)).map Rt.id = Xs) := Lib.hid (by rw [HK.out, HD.out]; simp)
          have hlx : decide ((U.length : Int) < (U.length : Int)) = false := by simp
          go_wp2_with fail
          refine ⟨⟨k + 1, _, rfl, by omega, congrArg _ (by omega), Lib.hid ?_⟩, by simp only [intOf]; omega⟩
          rw [HB.out]
          exact M4.out
        · have HB : Hid (((R.take (k + 1)).filter (isCut R L)).map Rt.id = Xs ++ [x.id]) := Lib.hid (by rw [HK.out, HD.out]; rfl)
          have hown := M4.out.own
          have hsz4 := M4.out.size
          go_wp2_with (at_builtin; refine wpList_append_own _ rfl _ _ 22 rfl (w.heap.size + 1) 3 ii (.int .i64 0) 1 8 Try.underlying22 hii hi0 hi1 hi2 rfl (by decide) _ _ _ rfl (hown.alloc _) ⟨wr.heap.size, 0, none⟩ 1 1 [.int .i64 x.id] rfl rfl ?c1 ?c2 ?c3 ?c4 ?c5 ?_)
          try (case c1 => exact cell_one _ _ _)
          case c2 => first | rfl | (intro u hu; simp at hu; subst hu; rfl)
          case c3 => first | omega | (unfold maxLen; omega)
          case c4 => omega
          case c5 => first | omega | (simp; omega)
          intro v' w5 hown' hg _
          have M5 := Lib.hid (M4.out.app hown' hg)
          clear hown' hg hown
          go_wp2_with fail
          refine ⟨⟨k + 1, _, rfl, by omega, congrArg _ (by omega), Lib.hid ?_⟩, by simp only [intOf]; omega⟩
          rw [HB.out]
          exact M5.out
    · obtain rfl : k = R.length := by omega
      go_wp2_with fail
      go_ret
      have hM := M.out
      rw [List.take_length, HH2.out] at hM
      exact hM.ret
end Go.Proofs.Ytiencdgmnkphjaa

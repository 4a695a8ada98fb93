/- Parts of the proof, packed: DbCkLaw. -/
import Derived.Test.YtnpkihioklpnmaaCk18
import Derived.Test.YtnpkihioklpnmaaCk11
import Derived.Deep.CutBlock
import Derived.Deep.CutRange
/- The law DatabaseChecks: Check, Same and Find return what the reference says. -/
namespace Go.Proofs.Ytnpkihioklpnmaa
open Go.RowKit Bs
set_option maxRecDepth 100000 in
theorem IntsIn.grownD {w w' : World} {v : Value} (h : IntsIn w v) (g : w.grownBy w' none) : IntsIn w' v := by
  obtain ⟨p, n, c, rfl, h1, h2, h3⟩ := h
  refine ⟨p, n, c, rfl, h1, h2, fun hn => ?_⟩
  obtain ⟨b, off, hp, hb, hx⟩ := h3 hn
  refine ⟨b, off, hp, Nat.lt_of_lt_of_le hb g.size, fun i hi => ?_⟩
  obtain ⟨x, hx1, hx2⟩ := hx i hi
  exact ⟨x, hx1, g.cell hx2 (by simp)⟩
set_option maxRecDepth 100000 in
theorem na_start {w w1 : World} (g : w.grownBy w1 none) : ∀ b, b = w1.heap.size → NA w b (w1.alloc (.cells #[.int .i64 0, .int .i64 0, .bool false, .slice none 0 0, .slice none 0 0] 38)) := by
  rintro b rfl
  exact ⟨heap_alloc_new _ _, g.size⟩
set_option maxRecDepth 100000 in
theorem na_lt {w wr : World} {n : Nat} (h : ∀ b, b = n → NA w b wr) : n < wr.heap.size := World.lt_of_row' (h n rfl).ab
set_option maxRecDepth 100000 in
theorem sm_of {rl : List Ad} {rp p1 p2 : Option Addr} {rc c1 c2 : Nat} {l1 l2 : List Ad} (hb : bigD rl = false) (h1 : l1.length ≤ 7 ∧ DL l1) (h2 : l2.length ≤ 7 ∧ DL l2) : ∀ x ∈ [⟨l1, p1, c1⟩, ⟨l2, p2, c2⟩, (⟨rl, rp, rc⟩ : Dv)], x.Sm := by
  intro x hx
  simp only [List.mem_cons, List.not_mem_nil, or_false] at hx
  rcases hx with rfl | rfl | rfl
  · exact ⟨by have := h1.1; simp only; omega, fun A hA => by have := h1.2 A hA; omega⟩
  · exact ⟨by have := h2.1; simp only; omega, fun A hA => by have := h2.2 A hA; omega⟩
  · exact ⟨(big_sm hb).1, (big_sm hb).2⟩
set_option maxRecDepth 100000 in
set_option maxHeartbeats 25600000 in
theorem checks_walk (v : Value) (rl : List Ad) (rp : Option Addr) (rc : Nat) (r : Int) (w : World) (hv : IntsIn w v) (hR : RdA w (· < w.heap.size) (.slice rp rl.length rc) rl) (hm : rl.length ≤ 9223372036854775807) :
    Calls Try.prog 3 #[v, .agg #[.slice rp rl.length rc], .int .i64 r] w fun e w' => e = .returned (.bool true) ∧ w.grownBy w' none := by
  obtain ⟨k1, k2⟩ := tone_box w #[.slice rp rl.length rc] 25
  have hlt := World.lt_of_row' k1
  have H0 := Lib.hid (And.intro k1 (And.intro k2 (And.intro (hR.keep k2) hlt)))
  have HVV := Lib.hid (hv.grownD k2)
  clear k1 k2 hR hv hlt
  go_enter Try.func3, Try.ntmps3
  go_upto_region 1 with fail
  generalize w.alloc _ = w0 at *
  go_wp2_with fail
  refine (new_any v w0 HVV.out).mono ?_
  rintro e w1 ⟨rfl, hg1, hT1⟩
  have H1 : Hid (LW w w0.heap.size ⟨rl, rp, rc⟩ [⟨rl, rp, rc⟩] w1) := Lib.hid ⟨fun x hx => (by
    rw [List.mem_singleton] at hx
    subst hx
    exact (H0.out.2.2.1.keep hg1).mono (fun b hb => by have := H0.out.2.2.2; omega)), kept_row H0.out.1 hg1 (by simp), grown_trans H0.out.2.1 hg1, hT1, H0.out.2.2.2⟩
  clear hg1 hT1 H0 HVV
  obtain ⟨a, ha⟩ : ∃ a, w0.heap.size = a := ⟨_, rfl⟩
  rw [ha] at H1 ⊢
  clear ha
  go_upto_region 2 with fail
  have HD := Lib.hid (H1.out.keep (grown_drew (grown_refl w1 none)))
  clear H1
  refine region_until (S := fun w' => Hid (w'.heap[w.heap.size]? = some (.cells #[.slice rp rl.length rc] 25 (0, 0)))) (fun j => j == 5 || j == 6) (by kernel_rfl) (Lib.hid HD.out.bx) (fun hHeld => ?_)
  refine anyU_take (i := 0) (oi := { dst := some 19, op := Op.move (Operand.tmp 7), type := 26, pos := "law.go:34", after := #[], guard := none }) (v := ?_) rfl (by kernel_rfl) (by kernel_rfl) (by kernel_rfl) (by kernel_rfl) (by kernel_rfl) (fun _ _ _ h => h) (Or.inl ⟨by rfl, ?_⟩) hHeld ?_
  rotate_left 1
  · intro u hSu
    have q0 := (cell_of_row _ _ 0 _ _ _ hSu.out)
    go_simp
    first | done | with_reducible rfl
  (try simp only [Act.put, List.setIfInBounds_toArray, List.set_cons_zero, List.set_cons_succ])
  refine anyU_take (i := 2) (oi := { dst := some 21, op := Op.move (Operand.tmp 7), type := 26, pos := "law.go:34", after := #[], guard := none }) (v := ?_) rfl (by kernel_rfl) (by kernel_rfl) (by kernel_rfl) (by kernel_rfl) (by kernel_rfl) (fun _ _ _ h => h) (Or.inl ⟨by rfl, ?_⟩) hHeld ?_
  rotate_left 1
  · intro u hSu
    have q0 := (cell_of_row _ _ 0 _ _ _ hSu.out)
    go_simp
    first | done | with_reducible rfl
  (try simp only [Act.put, List.setIfInBounds_toArray, List.set_cons_zero, List.set_cons_succ])
  refine anyU_take (i := 4) (oi := { dst := some 23, op := Op.load 25 (Operand.tmp 4), type := 25, pos := "law.go:34", after := #[], guard := none }) (v := ?_) rfl (by kernel_rfl) (by kernel_rfl) (by kernel_rfl) (by kernel_rfl) (by kernel_rfl) (fun _ _ _ h => h) (Or.inl ⟨by rfl, ?_⟩) hHeld ?_
  rotate_left 1
  · intro u hSu
    have q0 := (cell_of_row _ _ 0 _ _ _ hSu.out)
    go_simp
    first | done | with_reducible rfl
  (try simp only [Act.put, List.setIfInBounds_toArray, List.set_cons_zero, List.set_cons_succ])
  refine anyU_ready (rs := [1]) (by kernel_rfl) (by simp) ?_
  refine EachU.cons (o := { dst := some 20, op := Op.call { callee := Callee.value (Operand.func 12), args := #[Operand.tmp 19, Operand.const (Value.int IntKind.i64 2)], argTypes := #[26, 3] }, type := 25, pos := "law.go:34", after := #[{ on := 0, ground := Ground.data }], guard := none }) rfl (fun Kz hK => ?_) EachU.nil
  go_simp
  go_at_call 12
  refine (tdb_any a 2 (by unfold I64; omega) _ HD.out.tp).mono ?_
  rintro e w5 ⟨l1, p1, c1, rfl, h7, hdl, -, hrd, -, -, hs⟩
  have HDn := Lib.hid (HD.out.add hs (x := ⟨l1, p1, c1⟩) hrd)
  have HB1 := Lib.hid (And.intro h7 hdl)
  clear hs hrd h7 hdl HD
  have HD := HDn
  clear HDn
  refine hK.out _ _ (fun _ => Lib.hid HD.out.bx) (fun hH2 => ?_)
  clear hK Kz hHeld
  have hHeld := hH2 rfl
  clear hH2
  (try simp only [Act.put, List.setIfInBounds_toArray, List.set_cons_zero, List.set_cons_succ])
  refine anyU_ready (rs := [3]) (by kernel_rfl) (by simp) ?_
  refine EachU.cons (o := { dst := some 22, op := Op.call { callee := Callee.value (Operand.func 12), args := #[Operand.tmp 21, Operand.const (Value.int IntKind.i64 0)], argTypes := #[26, 3] }, type := 25, pos := "law.go:34", after := #[{ on := 2, ground := Ground.data }, { on := 1, ground := Ground.chain }], guard := none }) rfl (fun Kz hK => ?_) EachU.nil
  go_simp
  go_at_call 12
  refine (tdb_any a 0 (by unfold I64; omega) _ HD.out.tp).mono ?_
  rintro e w5 ⟨l2, p2, c2, rfl, h7, hdl, -, hrd, -, -, hs⟩
  have HDn := Lib.hid (HD.out.add hs (x := ⟨l2, p2, c2⟩) hrd)
  have HB2 := Lib.hid (And.intro h7 hdl)
  clear hs hrd h7 hdl HD
  have HD := HDn
  clear HDn
  refine hK.out _ _ (fun _ => Lib.hid HD.out.bx) (fun hH2 => ?_)
  clear hK Kz hHeld
  have hHeld := hH2 rfl
  clear hH2
  (try simp only [Act.put, List.setIfInBounds_toArray, List.set_cons_zero, List.set_cons_succ])
  refine anyU_ready (rs := [5]) (by kernel_rfl) (by simp) ?_
  refine EachU.cons (o := { dst := some 24, op := Op.buildSlice 29 3 #[(0, Operand.tmp 20), (1, Operand.tmp 22), (2, Operand.tmp 23)], type := 29, pos := "law.go:34", after := #[{ on := 1, ground := Ground.data }, { on := 3, ground := Ground.data }, { on := 4, ground := Ground.data }], guard := none }) rfl (fun Kz hK => ?_) EachU.nil
  go_simp
  have HQ := Lib.hid (OW.start HD.out)
  refine hK.out _ _ (fun h => by cases h) (fun _ => ?_)
  clear hK Kz
  (try simp only [Act.put, List.setIfInBounds_toArray, List.set_cons_zero, List.set_cons_succ])
  refine anyU_ready (rs := [6]) (by kernel_rfl) (by simp) ?_
  refine EachU.cons (o := { dst := some 8, op := Op.assign (Operand.tmp 24), type := 29, pos := "law.go:34", after := #[{ on := 5, ground := Ground.data }, { on := 3, ground := Ground.chain }, { on := 0, ground := Ground.phase }, { on := 1, ground := Ground.phase }, { on := 2, ground := Ground.phase }, { on := 3, ground := Ground.phase }, { on := 4, ground := Ground.phase }, { on := 5, ground := Ground.phase }], guard := none }) rfl (fun Kz hK => ?_) EachU.nil
  go_simp
  refine hK.out _ _ (fun h => by cases h) (fun _ => ?_)
  clear hK Kz
  (try simp only [Act.put, List.setIfInBounds_toArray, List.set_cons_zero, List.set_cons_succ])
  refine anyU_done (by kernel_rfl) ?_ _
  have HSM : Hid (bigD rl = false → ∀ x ∈ [⟨l1, p1, c1⟩, ⟨l2, p2, c2⟩, (⟨rl, rp, rc⟩ : Dv)], x.Sm) := Lib.hid (fun hb => sm_of hb HB1.out HB2.out)
  have hRM : (⟨rl, rp, rc⟩ : Dv) ∈ [⟨l1, p1, c1⟩, ⟨l2, p2, c2⟩, (⟨rl, rp, rc⟩ : Dv)] := by simp
  obtain ⟨X, hX⟩ : ∃ X, [⟨l1, p1, c1⟩, ⟨l2, p2, c2⟩, (⟨rl, rp, rc⟩ : Dv)] = X := ⟨_, rfl⟩
  have hX3 : X.length = 3 := by rw [← hX]; rfl
  rw [hX] at HQ HSM hRM
  have HRM := Lib.hid hRM
  clear hX hRM HB1 HB2 HD hHeld
  go_upto_block 0 with fail
  generalize w5.alloc _ = w3 at *
  generalize w5.heap.size = D at *
  go_wp2_with fail
  go_loopw [9] (fun x wr => ∃ i : Nat, i ≤ 3 ∧ x = .int .i64 (i : Int) ∧ Hid (OW w a D ⟨rl, rp, rc⟩ X wr)) (fun x _ => 3 - (RowKit.intOf x).toNat)
  case atStart => exact ⟨0, Nat.zero_le _, rfl, HQ⟩
  case round =>
  obtain ⟨i, hi, rfl, K⟩ := hrel
  clear HQ
  have c0 : wr.cell? ⟨w.heap.size, 0, none⟩ = some (.slice rp rl.length rc) := K.out.b.e0
  by_cases hlt : i < 3
  · have hltI : (i : Int) < 3 := by omega
    go_wp2_with fail
    refine (dbig_any rl rp rc _ wr (K.out.b.ok _ HRM.out) hm).mono ?_
    rintro e w4 ⟨rfl, hg⟩
    have K1 := Lib.hid (K.out.keep hg)
    clear hg K c0
    obtain ⟨bb, hbb⟩ : ∃ bb, bigD rl = bb := ⟨_, rfl⟩
    rw [hbb]
    cases bb with
    | true =>
      clear hbb
      go_wp2_with fail
      refine (dawake_any w4).mono ?_
      rintro e w5 ⟨rfl, hg⟩
      have HG := Lib.hid (grown_trans K1.out.b.gr hg)
      clear hg K1
      go_wp2_with fail
      go_ret
      exact ⟨rfl, HG.out⟩
    | false =>
      obtain ⟨x, hx⟩ : ∃ x, X[i]? = some x := ⟨_, List.getElem?_eq_getElem (by omega)⟩
      have HXX := Lib.hid (And.intro hx (List.mem_of_getElem? hx))
      have HS := Lib.hid (HSM.out hbb)
      have HXS := Lib.hid (HS.out x HXX.out.2)
      have hxn : x.l.length ≤ 9223372036854775807 := by have := HXS.out.n; omega
      clear hx hbb
      obtain ⟨z1, hz1⟩ : ∃ z1, chkD x.l = z1 := ⟨_, rfl⟩
      have HZ1 := Lib.hid hz1
      clear hz1
      go_upto_region 6 with fail
      have HD := Lib.hid (K1.out.keep (grown_drew (grown_refl w4 none)))
      clear K1
      refine wp_region_held_drew (S := fun w' => Hid (OW w a D ⟨rl, rp, rc⟩ X w')) (by kernel_rfl) (HD) (fun hHeld => ?_)
      refine wpAnyH_take (i := 0) (oi := { dst := some 36, op := Op.move (Operand.tmp 8), type := 29, pos := "law.go:36", after := #[], guard := none }) (v := ?_) rfl (by kernel_rfl) (by kernel_rfl) (by kernel_rfl) (fun _ _ _ h => h) (Or.inl ⟨by rfl, ?_⟩) hHeld ?_
      rotate_left 1
      · intro u hSu
        have q0 := hSu.out.row i x HXX.out.1
        go_simp
        first | done | with_reducible rfl
      (try simp only [Act.put, List.setIfInBounds_toArray, List.set_cons_zero, List.set_cons_succ])
      refine wpAnyH_take (i := 1) (oi := { dst := some 37, op := Op.move (Operand.tmp 9), type := 3, pos := "law.go:36", after := #[], guard := none }) (v := ?_) rfl (by kernel_rfl) (by kernel_rfl) (by kernel_rfl) (fun _ _ _ h => h) (Or.inl ⟨by rfl, ?_⟩) hHeld ?_
      rotate_left 1
      · intro u hSu
        have q0 := hSu.out.row i x HXX.out.1
        go_simp
        first | done | with_reducible rfl
      (try simp only [Act.put, List.setIfInBounds_toArray, List.set_cons_zero, List.set_cons_succ])
      refine wpAnyH_take (i := 2) (oi := { dst := some 38, op := Op.indexAddr 29 (Operand.tmp 36) (Operand.tmp 37), type := 0, pos := "law.go:36", after := #[{ on := 0, ground := Ground.data }, { on := 1, ground := Ground.data }], guard := none }) (v := ?_) rfl (by kernel_rfl) (by kernel_rfl) (by kernel_rfl) (fun _ _ _ h => h) (Or.inl ⟨by rfl, ?_⟩) hHeld ?_
      rotate_left 1
      · intro u hSu
        have q0 := hSu.out.row i x HXX.out.1
        go_simp
        first | done | with_reducible rfl
      (try simp only [Act.put, List.setIfInBounds_toArray, List.set_cons_zero, List.set_cons_succ])
      refine wpAnyH_take (i := 3) (oi := { dst := some 39, op := Op.load 25 (Operand.tmp 38), type := 25, pos := "law.go:36", after := #[{ on := 2, ground := Ground.data }], guard := none }) (v := ?_) rfl (by kernel_rfl) (by kernel_rfl) (by kernel_rfl) (fun _ _ _ h => h) (Or.inl ⟨by rfl, ?_⟩) hHeld ?_
      rotate_left 1
      · intro u hSu
        have q0 := hSu.out.row i x HXX.out.1
        go_simp
        first | done | with_reducible rfl
      (try simp only [Act.put, List.setIfInBounds_toArray, List.set_cons_zero, List.set_cons_succ])
      refine wpAnyH_take (i := 5) (oi := { dst := some 41, op := Op.move (Operand.tmp 8), type := 29, pos := "law.go:36", after := #[], guard := none }) (v := ?_) rfl (by kernel_rfl) (by kernel_rfl) (by kernel_rfl) (fun _ _ _ h => h) (Or.inl ⟨by rfl, ?_⟩) hHeld ?_
      rotate_left 1
      · intro u hSu
        have q0 := hSu.out.row i x HXX.out.1
        go_simp
        first | done | with_reducible rfl
      (try simp only [Act.put, List.setIfInBounds_toArray, List.set_cons_zero, List.set_cons_succ])
      refine wpAnyH_take (i := 6) (oi := { dst := some 42, op := Op.move (Operand.tmp 9), type := 3, pos := "law.go:36", after := #[], guard := none }) (v := ?_) rfl (by kernel_rfl) (by kernel_rfl) (by kernel_rfl) (fun _ _ _ h => h) (Or.inl ⟨by rfl, ?_⟩) hHeld ?_
      rotate_left 1
      · intro u hSu
        have q0 := hSu.out.row i x HXX.out.1
        go_simp
        first | done | with_reducible rfl
      (try simp only [Act.put, List.setIfInBounds_toArray, List.set_cons_zero, List.set_cons_succ])
      refine wpAnyH_take (i := 7) (oi := { dst := some 43, op := Op.indexAddr 29 (Operand.tmp 41) (Operand.tmp 42), type := 0, pos := "law.go:36", after := #[{ on := 5, ground := Ground.data }, { on := 6, ground := Ground.data }], guard := none }) (v := ?_) rfl (by kernel_rfl) (by kernel_rfl) (by kernel_rfl) (fun _ _ _ h => h) (Or.inl ⟨by rfl, ?_⟩) hHeld ?_
      rotate_left 1
      · intro u hSu
        have q0 := hSu.out.row i x HXX.out.1
        go_simp
        first | done | with_reducible rfl
      (try simp only [Act.put, List.setIfInBounds_toArray, List.set_cons_zero, List.set_cons_succ])
      refine wpAnyH_take (i := 8) (oi := { dst := some 44, op := Op.load 25 (Operand.tmp 43), type := 25, pos := "law.go:36", after := #[{ on := 7, ground := Ground.data }], guard := none }) (v := ?_) rfl (by kernel_rfl) (by kernel_rfl) (by kernel_rfl) (fun _ _ _ h => h) (Or.inl ⟨by rfl, ?_⟩) hHeld ?_
      rotate_left 1
      · intro u hSu
        have q0 := hSu.out.row i x HXX.out.1
        go_simp
        first | done | with_reducible rfl
      (try simp only [Act.put, List.setIfInBounds_toArray, List.set_cons_zero, List.set_cons_succ])
      refine wpAnyH_ready (rs := [4]) (by kernel_rfl) (by simp) ?_
      refine AllReadyH.cons (o := { dst := some 40, op := Op.call { callee := Callee.value (Operand.func 14), args := #[Operand.tmp 39], argTypes := #[25] }, type := 31, pos := "law.go:36", after := #[{ on := 3, ground := Ground.data }], guard := none }) rfl (fun Kz hK => ?_) AllReadyH.nil
      go_simp
      go_at_call 14
      refine (dcheck_any x.l x.p x.c _ _ (hHeld.out.b.ok x HXX.out.2) hxn).mono ?_
      rintro e w5 ⟨rfl, hg⟩
      rw [HZ1.out]
      have hHn := Lib.hid (hHeld.out.keep hg)
      clear hg
      refine hK.out _ _ (hHn) (fun hH2 => ?_)
      clear hK Kz hHeld
      have hHeld := hH2
      clear hH2
      (try simp only [Act.put, List.setIfInBounds_toArray, List.set_cons_zero, List.set_cons_succ])
      refine wpAnyH_ready (rs := [9]) (by kernel_rfl) (by simp) ?_
      refine AllReadyH.cons (o := { dst := some 45, op := Op.call { callee := Callee.value (Operand.func 15), args := #[Operand.tmp 44], argTypes := #[25] }, type := 31, pos := "law.go:36", after := #[{ on := 8, ground := Ground.data }, { on := 4, ground := Ground.chain }], guard := none }) rfl (fun Kz hK => ?_) AllReadyH.nil
      go_simp
      go_at_call 15
      refine (rcheck8_any x.l x.p x.c _ _ (hHeld.out.b.ok x HXX.out.2) hxn).mono ?_
      rintro e w5 ⟨rfl, hg⟩
      rw [HZ1.out]
      have hHn := Lib.hid (hHeld.out.keep hg)
      clear hg
      refine hK.out _ _ (hHn) (fun hH2 => ?_)
      clear hK Kz hHeld
      have hHeld := hH2
      clear hH2
      (try simp only [Act.put, List.setIfInBounds_toArray, List.set_cons_zero, List.set_cons_succ])
      refine wpAnyH_take (i := 10) (oi := { dst := some 46, op := Op.binOp BinOp.neq 31 (Operand.tmp 40) (Operand.tmp 45) 31, type := 4, pos := "law.go:36", after := #[{ on := 4, ground := Ground.data }, { on := 9, ground := Ground.data }], guard := none }) (v := ?_) rfl (by kernel_rfl) (by kernel_rfl) (by kernel_rfl) (fun _ _ _ h => h) (Or.inl ⟨by rfl, ?_⟩) hHeld ?_
      rotate_left 1
      · intro u hSu
        have q0 := hSu.out.row i x HXX.out.1
        go_simp
        first | done | with_reducible rfl
      (try simp only [Act.put, List.setIfInBounds_toArray, List.set_cons_zero, List.set_cons_succ])
      refine wpAnyH_done (by kernel_rfl) ?_ _
      have K2 := hHeld
      clear hHeld HD
      go_wp2_with fail
      go_loopw [10] (fun y wq => ∃ k : Nat, k ≤ 3 ∧ y = .int .i64 (k : Int) ∧ Hid (OW w a D ⟨rl, rp, rc⟩ X wq)) (fun y _ => 3 - (RowKit.intOf y).toNat)
      case atStart => exact ⟨0, Nat.zero_le _, rfl, K2⟩
      case round =>
      obtain ⟨k, hk, rfl, K3⟩ := hrel
      clear K2
      by_cases hlk : k < 3
      · have hlkI : (k : Int) < 3 := by omega
        obtain ⟨y, hy⟩ : ∃ y, X[k]? = some y := ⟨_, List.getElem?_eq_getElem (by omega)⟩
        have HYY := Lib.hid (And.intro hy (List.mem_of_getElem? hy))
        have hyn : y.l.length ≤ 9223372036854775807 := by have := (HS.out y HYY.out.2).n; omega
        clear hy
        obtain ⟨z2, hz2⟩ : ∃ z2, smD x.l y.l = z2 := ⟨_, rfl⟩
        have HZ2 := Lib.hid hz2
        clear hz2
        go_upto_region 11 with fail
        have HD := Lib.hid (K3.out.keep (grown_drew (grown_refl wr none)))
        clear K3
        refine wp_region_held_drew (S := fun w' => Hid (OW w a D ⟨rl, rp, rc⟩ X w')) (by kernel_rfl) (HD) (fun hHeld => ?_)
        refine wpAnyH_take (i := 0) (oi := { dst := some 53, op := Op.move (Operand.tmp 8), type := 29, pos := "law.go:40", after := #[], guard := none }) (v := ?_) rfl (by kernel_rfl) (by kernel_rfl) (by kernel_rfl) (fun _ _ _ h => h) (Or.inl ⟨by rfl, ?_⟩) hHeld ?_
        rotate_left 1
        · intro u hSu
          have q0 := hSu.out.row i x HXX.out.1
          have q1 := hSu.out.row k y HYY.out.1
          go_simp
          first | done | with_reducible rfl
        (try simp only [Act.put, List.setIfInBounds_toArray, List.set_cons_zero, List.set_cons_succ])
        refine wpAnyH_take (i := 1) (oi := { dst := some 54, op := Op.move (Operand.tmp 9), type := 3, pos := "law.go:40", after := #[], guard := none }) (v := ?_) rfl (by kernel_rfl) (by kernel_rfl) (by kernel_rfl) (fun _ _ _ h => h) (Or.inl ⟨by rfl, ?_⟩) hHeld ?_
        rotate_left 1
        · intro u hSu
          have q0 := hSu.out.row i x HXX.out.1
          have q1 := hSu.out.row k y HYY.out.1
          go_simp
          first | done | with_reducible rfl
        (try simp only [Act.put, List.setIfInBounds_toArray, List.set_cons_zero, List.set_cons_succ])
        refine wpAnyH_take (i := 2) (oi := { dst := some 55, op := Op.indexAddr 29 (Operand.tmp 53) (Operand.tmp 54), type := 0, pos := "law.go:40", after := #[{ on := 0, ground := Ground.data }, { on := 1, ground := Ground.data }], guard := none }) (v := ?_) rfl (by kernel_rfl) (by kernel_rfl) (by kernel_rfl) (fun _ _ _ h => h) (Or.inl ⟨by rfl, ?_⟩) hHeld ?_
        rotate_left 1
        · intro u hSu
          have q0 := hSu.out.row i x HXX.out.1
          have q1 := hSu.out.row k y HYY.out.1
          go_simp
          first | done | with_reducible rfl
        (try simp only [Act.put, List.setIfInBounds_toArray, List.set_cons_zero, List.set_cons_succ])
        refine wpAnyH_take (i := 3) (oi := { dst := some 56, op := Op.load 25 (Operand.tmp 55), type := 25, pos := "law.go:40", after := #[{ on := 2, ground := Ground.data }], guard := none }) (v := ?_) rfl (by kernel_rfl) (by kernel_rfl) (by kernel_rfl) (fun _ _ _ h => h) (Or.inl ⟨by rfl, ?_⟩) hHeld ?_
        rotate_left 1
        · intro u hSu
          have q0 := hSu.out.row i x HXX.out.1
          have q1 := hSu.out.row k y HYY.out.1
          go_simp
          first | done | with_reducible rfl
        (try simp only [Act.put, List.setIfInBounds_toArray, List.set_cons_zero, List.set_cons_succ])
        refine wpAnyH_take (i := 4) (oi := { dst := some 57, op := Op.move (Operand.tmp 8), type := 29, pos := "law.go:40", after := #[], guard := none }) (v := ?_) rfl (by kernel_rfl) (by kernel_rfl) (by kernel_rfl) (fun _ _ _ h => h) (Or.inl ⟨by rfl, ?_⟩) hHeld ?_
        rotate_left 1
        · intro u hSu
          have q0 := hSu.out.row i x HXX.out.1
          have q1 := hSu.out.row k y HYY.out.1
          go_simp
          first | done | with_reducible rfl
        (try simp only [Act.put, List.setIfInBounds_toArray, List.set_cons_zero, List.set_cons_succ])
        refine wpAnyH_take (i := 5) (oi := { dst := some 58, op := Op.move (Operand.tmp 10), type := 3, pos := "law.go:40", after := #[], guard := none }) (v := ?_) rfl (by kernel_rfl) (by kernel_rfl) (by kernel_rfl) (fun _ _ _ h => h) (Or.inl ⟨by rfl, ?_⟩) hHeld ?_
        rotate_left 1
        · intro u hSu
          have q0 := hSu.out.row i x HXX.out.1
          have q1 := hSu.out.row k y HYY.out.1
          go_simp
          first | done | with_reducible rfl
        (try simp only [Act.put, List.setIfInBounds_toArray, List.set_cons_zero, List.set_cons_succ])
        refine wpAnyH_take (i := 6) (oi := { dst := some 59, op := Op.indexAddr 29 (Operand.tmp 57) (Operand.tmp 58), type := 0, pos := "law.go:40", after := #[{ on := 4, ground := Ground.data }, { on := 5, ground := Ground.data }], guard := none }) (v := ?_) rfl (by kernel_rfl) (by kernel_rfl) (by kernel_rfl) (fun _ _ _ h => h) (Or.inl ⟨by rfl, ?_⟩) hHeld ?_
        rotate_left 1
        · intro u hSu
          have q0 := hSu.out.row i x HXX.out.1
          have q1 := hSu.out.row k y HYY.out.1
          go_simp
          first | done | with_reducible rfl
        (try simp only [Act.put, List.setIfInBounds_toArray, List.set_cons_zero, List.set_cons_succ])
        refine wpAnyH_take (i := 7) (oi := { dst := some 60, op := Op.load 25 (Operand.tmp 59), type := 25, pos := "law.go:40", after := #[{ on := 6, ground := Ground.data }], guard := none }) (v := ?_) rfl (by kernel_rfl) (by kernel_rfl) (by kernel_rfl) (fun _ _ _ h => h) (Or.inl ⟨by rfl, ?_⟩) hHeld ?_
        rotate_left 1
        · intro u hSu
          have q0 := hSu.out.row i x HXX.out.1
          have q1 := hSu.out.row k y HYY.out.1
          go_simp
          first | done | with_reducible rfl
        (try simp only [Act.put, List.setIfInBounds_toArray, List.set_cons_zero, List.set_cons_succ])
        refine wpAnyH_take (i := 9) (oi := { dst := some 62, op := Op.move (Operand.tmp 8), type := 29, pos := "law.go:40", after := #[], guard := none }) (v := ?_) rfl (by kernel_rfl) (by kernel_rfl) (by kernel_rfl) (fun _ _ _ h => h) (Or.inl ⟨by rfl, ?_⟩) hHeld ?_
        rotate_left 1
        · intro u hSu
          have q0 := hSu.out.row i x HXX.out.1
          have q1 := hSu.out.row k y HYY.out.1
          go_simp
          first | done | with_reducible rfl
        (try simp only [Act.put, List.setIfInBounds_toArray, List.set_cons_zero, List.set_cons_succ])
        refine wpAnyH_take (i := 10) (oi := { dst := some 63, op := Op.move (Operand.tmp 9), type := 3, pos := "law.go:40", after := #[], guard := none }) (v := ?_) rfl (by kernel_rfl) (by kernel_rfl) (by kernel_rfl) (fun _ _ _ h => h) (Or.inl ⟨by rfl, ?_⟩) hHeld ?_
        rotate_left 1
        · intro u hSu
          have q0 := hSu.out.row i x HXX.out.1
          have q1 := hSu.out.row k y HYY.out.1
          go_simp
          first | done | with_reducible rfl
        (try simp only [Act.put, List.setIfInBounds_toArray, List.set_cons_zero, List.set_cons_succ])
        refine wpAnyH_take (i := 11) (oi := { dst := some 64, op := Op.indexAddr 29 (Operand.tmp 62) (Operand.tmp 63), type := 0, pos := "law.go:40", after := #[{ on := 9, ground := Ground.data }, { on := 10, ground := Ground.data }], guard := none }) (v := ?_) rfl (by kernel_rfl) (by kernel_rfl) (by kernel_rfl) (fun _ _ _ h => h) (Or.inl ⟨by rfl, ?_⟩) hHeld ?_
        rotate_left 1
        · intro u hSu
          have q0 := hSu.out.row i x HXX.out.1
          have q1 := hSu.out.row k y HYY.out.1
          go_simp
          first | done | with_reducible rfl
        (try simp only [Act.put, List.setIfInBounds_toArray, List.set_cons_zero, List.set_cons_succ])
        refine wpAnyH_take (i := 12) (oi := { dst := some 65, op := Op.load 25 (Operand.tmp 64), type := 25, pos := "law.go:40", after := #[{ on := 11, ground := Ground.data }], guard := none }) (v := ?_) rfl (by kernel_rfl) (by kernel_rfl) (by kernel_rfl) (fun _ _ _ h => h) (Or.inl ⟨by rfl, ?_⟩) hHeld ?_
        rotate_left 1
        · intro u hSu
          have q0 := hSu.out.row i x HXX.out.1
          have q1 := hSu.out.row k y HYY.out.1
          go_simp
          first | done | with_reducible rfl
        (try simp only [Act.put, List.setIfInBounds_toArray, List.set_cons_zero, List.set_cons_succ])
        refine wpAnyH_take (i := 13) (oi := { dst := some 66, op := Op.move (Operand.tmp 8), type := 29, pos := "law.go:40", after := #[], guard := none }) (v := ?_) rfl (by kernel_rfl) (by kernel_rfl) (by kernel_rfl) (fun _ _ _ h => h) (Or.inl ⟨by rfl, ?_⟩) hHeld ?_
        rotate_left 1
        · intro u hSu
          have q0 := hSu.out.row i x HXX.out.1
          have q1 := hSu.out.row k y HYY.out.1
          go_simp
          first | done | with_reducible rfl
        (try simp only [Act.put, List.setIfInBounds_toArray, List.set_cons_zero, List.set_cons_succ])
        refine wpAnyH_take (i := 14) (oi := { dst := some 67, op := Op.move (Operand.tmp 10), type := 3, pos := "law.go:40", after := #[], guard := none }) (v := ?_) rfl (by kernel_rfl) (by kernel_rfl) (by kernel_rfl) (fun _ _ _ h => h) (Or.inl ⟨by rfl, ?_⟩) hHeld ?_
        rotate_left 1
        · intro u hSu
          have q0 := hSu.out.row i x HXX.out.1
          have q1 := hSu.out.row k y HYY.out.1
          go_simp
          first | done | with_reducible rfl
        (try simp only [Act.put, List.setIfInBounds_toArray, List.set_cons_zero, List.set_cons_succ])
        refine wpAnyH_take (i := 15) (oi := { dst := some 68, op := Op.indexAddr 29 (Operand.tmp 66) (Operand.tmp 67), type := 0, pos := "law.go:40", after := #[{ on := 13, ground := Ground.data }, { on := 14, ground := Ground.data }], guard := none }) (v := ?_) rfl (by kernel_rfl) (by kernel_rfl) (by kernel_rfl) (fun _ _ _ h => h) (Or.inl ⟨by rfl, ?_⟩) hHeld ?_
        rotate_left 1
        · intro u hSu
          have q0 := hSu.out.row i x HXX.out.1
          have q1 := hSu.out.row k y HYY.out.1
          go_simp
          first | done | with_reducible rfl
        (try simp only [Act.put, List.setIfInBounds_toArray, List.set_cons_zero, List.set_cons_succ])
        refine wpAnyH_take (i := 16) (oi := { dst := some 69, op := Op.load 25 (Operand.tmp 68), type := 25, pos := "law.go:40", after := #[{ on := 15, ground := Ground.data }], guard := none }) (v := ?_) rfl (by kernel_rfl) (by kernel_rfl) (by kernel_rfl) (fun _ _ _ h => h) (Or.inl ⟨by rfl, ?_⟩) hHeld ?_
        rotate_left 1
        · intro u hSu
          have q0 := hSu.out.row i x HXX.out.1
          have q1 := hSu.out.row k y HYY.out.1
          go_simp
          first | done | with_reducible rfl
        (try simp only [Act.put, List.setIfInBounds_toArray, List.set_cons_zero, List.set_cons_succ])
        refine wpAnyH_ready (rs := [8]) (by kernel_rfl) (by simp) ?_
        refine AllReadyH.cons (o := { dst := some 61, op := Op.call { callee := Callee.value (Operand.func 16), args := #[Operand.tmp 56, Operand.tmp 60], argTypes := #[25, 25] }, type := 4, pos := "law.go:40", after := #[{ on := 3, ground := Ground.data }, { on := 7, ground := Ground.data }], guard := none }) rfl (fun Kz hK => ?_) AllReadyH.nil
        go_simp
        go_at_call 16
        refine (dsame_any x.l y.l x.p y.p x.c y.c _ _ _ (hHeld.out.b.ok x HXX.out.2) (hHeld.out.b.ok y HYY.out.2) ⟨hxn, hyn⟩).mono ?_
        rintro e w5 ⟨rfl, hg⟩
        rw [HZ2.out]
        have hHn := Lib.hid (hHeld.out.keep hg)
        clear hg
        refine hK.out _ _ (hHn) (fun hH2 => ?_)
        clear hK Kz hHeld
        have hHeld := hH2
        clear hH2
        (try simp only [Act.put, List.setIfInBounds_toArray, List.set_cons_zero, List.set_cons_succ])
        refine wpAnyH_ready (rs := [17]) (by kernel_rfl) (by simp) ?_
        refine AllReadyH.cons (o := { dst := some 70, op := Op.call { callee := Callee.value (Operand.func 17), args := #[Operand.tmp 65, Operand.tmp 69], argTypes := #[25, 25] }, type := 4, pos := "law.go:40", after := #[{ on := 12, ground := Ground.data }, { on := 16, ground := Ground.data }, { on := 8, ground := Ground.chain }], guard := none }) rfl (fun Kz hK => ?_) AllReadyH.nil
        go_simp
        go_at_call 17
        refine (rsame8_any x.l y.l x.p y.p x.c y.c _ _ _ (hHeld.out.b.ok x HXX.out.2) (hHeld.out.b.ok y HYY.out.2) ⟨hxn, hyn⟩).mono ?_
        rintro e w5 ⟨rfl, hg⟩
        rw [HZ2.out]
        have hHn := Lib.hid (hHeld.out.keep hg)
        clear hg
        refine hK.out _ _ (hHn) (fun hH2 => ?_)
        clear hK Kz hHeld
        have hHeld := hH2
        clear hH2
        (try simp only [Act.put, List.setIfInBounds_toArray, List.set_cons_zero, List.set_cons_succ])
        refine wpAnyH_take (i := 18) (oi := { dst := some 71, op := Op.binOp BinOp.neq 4 (Operand.tmp 61) (Operand.tmp 70) 4, type := 4, pos := "law.go:40", after := #[{ on := 8, ground := Ground.data }, { on := 17, ground := Ground.data }], guard := none }) (v := ?_) rfl (by kernel_rfl) (by kernel_rfl) (by kernel_rfl) (fun _ _ _ h => h) (Or.inl ⟨by rfl, ?_⟩) hHeld ?_
        rotate_left 1
        · intro u hSu
          have q0 := hSu.out.row i x HXX.out.1
          have q1 := hSu.out.row k y HYY.out.1
          go_simp
          first | done | with_reducible rfl
        (try simp only [Act.put, List.setIfInBounds_toArray, List.set_cons_zero, List.set_cons_succ])
        refine wpAnyH_done (by kernel_rfl) ?_ _
        have K4 := hHeld
        clear hHeld HD
        go_wp2_with fail
        exact ⟨⟨k + 1, by omega, congrArg _ (by omega), K4⟩, by simp only [RowKit.intOf]; omega⟩
      · have hlkI : ¬ (k : Int) < 3 := by omega
        go_wp2_with fail
        refine (range_any a 0 7 (by omega) (by omega) (by omega) (by omega) wr K3.out.b.tp).mono ?_
        rintro e w6 ⟨s, rfl, hxr, hs⟩
        have K4 := Lib.hid (OE.start (K3.out.tape hs) r s)
        clear hxr hs K3
        go_upto_block 4 with fail
        generalize w6.alloc _ = w7 at *
        generalize w6.heap.size = E at *
        go_wp2_with fail
        go_loopw [12] (fun y wq => ∃ m : Nat, m ≤ 2 ∧ y = .int .i64 (m : Int) ∧ Hid (OE w a D E ⟨rl, rp, rc⟩ X [r, s] wq)) (fun y _ => 2 - (RowKit.intOf y).toNat)
        case atStart => exact ⟨0, Nat.zero_le _, rfl, K4⟩
        case round =>
        obtain ⟨m, hm2, rfl, K5⟩ := hrel
        clear K4
        by_cases hlm : m < 2
        · have hlmI : (m : Int) < 2 := by omega
          obtain ⟨t, ht⟩ : ∃ t, [r, s][m]? = some t := ⟨_, List.getElem?_eq_getElem hlm⟩
          have HT := Lib.hid ht
          clear ht
          obtain ⟨z3, hz3⟩ : ∃ z3, (fndA x.l t).isSome = z3 := ⟨_, rfl⟩
          have HZ3 := Lib.hid hz3
          clear hz3
          have hxs : ∀ A ∈ x.l, A.L.length ≤ 1000 ∧ A.C.length ≤ 1000 := fun A hA => by have := HXS.out.s A hA; omega
          have HXL := Lib.hid hxs
          clear hxs
          go_upto_region 17 with fail
          go_cut [13, 14] from 80 to 91 (fun u o wx => ∃ (b : Nat) (A1 : Ad), u = .pointer (some ⟨b, 0, none⟩) ∧ o = .bool z3 ∧ Hid (FA wr x.l t b A1 wx))
          case first =>
            have HD := Lib.hid (grown_drew (grown_refl wr none))
            refine region_until2 (S := fun w' => Hid (wr.grownBy w' none)) (fun j => j == 13 || j == 14) (by kernel_rfl) (HD) (fun hHeld => ?_)
            refine anyV_take (i := 0) (oi := { dst := some 81, op := Op.move (Operand.tmp 8), type := 29, pos := "law.go:46", after := #[], guard := none }) (v := ?_) rfl (by kernel_rfl) (by kernel_rfl) (by kernel_rfl) (by kernel_rfl) (by kernel_rfl) (fun _ _ _ h => h) (Or.inl ⟨by rfl, ?_⟩) hHeld ?_
            rotate_left 1
            · intro u hSu
              have hO := K5.out.keep hSu.out
              have q0 := hO.o.row i x HXX.out.1
              have q1 := hO.e m t HT.out
              go_simp
              first | done | with_reducible rfl
            (try simp only [Act.put, List.setIfInBounds_toArray, List.set_cons_zero, List.set_cons_succ])
            refine anyV_take (i := 1) (oi := { dst := some 82, op := Op.move (Operand.tmp 9), type := 3, pos := "law.go:46", after := #[], guard := none }) (v := ?_) rfl (by kernel_rfl) (by kernel_rfl) (by kernel_rfl) (by kernel_rfl) (by kernel_rfl) (fun _ _ _ h => h) (Or.inl ⟨by rfl, ?_⟩) hHeld ?_
            rotate_left 1
            · intro u hSu
              have hO := K5.out.keep hSu.out
              have q0 := hO.o.row i x HXX.out.1
              have q1 := hO.e m t HT.out
              go_simp
              first | done | with_reducible rfl
            (try simp only [Act.put, List.setIfInBounds_toArray, List.set_cons_zero, List.set_cons_succ])
            refine anyV_take (i := 2) (oi := { dst := some 83, op := Op.indexAddr 29 (Operand.tmp 81) (Operand.tmp 82), type := 0, pos := "law.go:46", after := #[{ on := 0, ground := Ground.data }, { on := 1, ground := Ground.data }], guard := none }) (v := ?_) rfl (by kernel_rfl) (by kernel_rfl) (by kernel_rfl) (by kernel_rfl) (by kernel_rfl) (fun _ _ _ h => h) (Or.inl ⟨by rfl, ?_⟩) hHeld ?_
            rotate_left 1
            · intro u hSu
              have hO := K5.out.keep hSu.out
              have q0 := hO.o.row i x HXX.out.1
              have q1 := hO.e m t HT.out
              go_simp
              first | done | with_reducible rfl
            (try simp only [Act.put, List.setIfInBounds_toArray, List.set_cons_zero, List.set_cons_succ])
            refine anyV_take (i := 3) (oi := { dst := some 84, op := Op.load 25 (Operand.tmp 83), type := 25, pos := "law.go:46", after := #[{ on := 2, ground := Ground.data }], guard := none }) (v := ?_) rfl (by kernel_rfl) (by kernel_rfl) (by kernel_rfl) (by kernel_rfl) (by kernel_rfl) (fun _ _ _ h => h) (Or.inl ⟨by rfl, ?_⟩) hHeld ?_
            rotate_left 1
            · intro u hSu
              have hO := K5.out.keep hSu.out
              have q0 := hO.o.row i x HXX.out.1
              have q1 := hO.e m t HT.out
              go_simp
              first | done | with_reducible rfl
            (try simp only [Act.put, List.setIfInBounds_toArray, List.set_cons_zero, List.set_cons_succ])
            refine anyV_take (i := 4) (oi := { dst := some 85, op := Op.move (Operand.tmp 11), type := 22, pos := "law.go:46", after := #[], guard := none }) (v := ?_) rfl (by kernel_rfl) (by kernel_rfl) (by kernel_rfl) (by kernel_rfl) (by kernel_rfl) (fun _ _ _ h => h) (Or.inl ⟨by rfl, ?_⟩) hHeld ?_
            rotate_left 1
            · intro u hSu
              have hO := K5.out.keep hSu.out
              have q0 := hO.o.row i x HXX.out.1
              have q1 := hO.e m t HT.out
              go_simp
              first | done | with_reducible rfl
            (try simp only [Act.put, List.setIfInBounds_toArray, List.set_cons_zero, List.set_cons_succ])
            refine anyV_take (i := 5) (oi := { dst := some 86, op := Op.move (Operand.tmp 12), type := 3, pos := "law.go:46", after := #[], guard := none }) (v := ?_) rfl (by kernel_rfl) (by kernel_rfl) (by kernel_rfl) (by kernel_rfl) (by kernel_rfl) (fun _ _ _ h => h) (Or.inl ⟨by rfl, ?_⟩) hHeld ?_
            rotate_left 1
            · intro u hSu
              have hO := K5.out.keep hSu.out
              have q0 := hO.o.row i x HXX.out.1
              have q1 := hO.e m t HT.out
              go_simp
              first | done | with_reducible rfl
            (try simp only [Act.put, List.setIfInBounds_toArray, List.set_cons_zero, List.set_cons_succ])
            refine anyV_take (i := 6) (oi := { dst := some 87, op := Op.indexAddr 22 (Operand.tmp 85) (Operand.tmp 86), type := 0, pos := "law.go:46", after := #[{ on := 4, ground := Ground.data }, { on := 5, ground := Ground.data }], guard := none }) (v := ?_) rfl (by kernel_rfl) (by kernel_rfl) (by kernel_rfl) (by kernel_rfl) (by kernel_rfl) (fun _ _ _ h => h) (Or.inl ⟨by rfl, ?_⟩) hHeld ?_
            rotate_left 1
            · intro u hSu
              have hO := K5.out.keep hSu.out
              have q0 := hO.o.row i x HXX.out.1
              have q1 := hO.e m t HT.out
              go_simp
              first | done | with_reducible rfl
            (try simp only [Act.put, List.setIfInBounds_toArray, List.set_cons_zero, List.set_cons_succ])
            refine anyV_take (i := 7) (oi := { dst := some 88, op := Op.load 3 (Operand.tmp 87), type := 3, pos := "law.go:46", after := #[{ on := 6, ground := Ground.data }], guard := none }) (v := ?_) rfl (by kernel_rfl) (by kernel_rfl) (by kernel_rfl) (by kernel_rfl) (by kernel_rfl) (fun _ _ _ h => h) (Or.inl ⟨by rfl, ?_⟩) hHeld ?_
            rotate_left 1
            · intro u hSu
              have hO := K5.out.keep hSu.out
              have q0 := hO.o.row i x HXX.out.1
              have q1 := hO.e m t HT.out
              go_simp
              first | done | with_reducible rfl
            (try simp only [Act.put, List.setIfInBounds_toArray, List.set_cons_zero, List.set_cons_succ])
            refine anyV_ready (rs := [8, 12]) (by kernel_rfl) (by simp) ?_
            refine EachV.cons (o := { dst := some 89, op := Op.call { callee := Callee.value (Operand.func 19), args := #[Operand.tmp 84, Operand.tmp 88], argTypes := #[25, 3] }, type := 39, pos := "law.go:46", after := #[{ on := 3, ground := Ground.data }, { on := 7, ground := Ground.data }], guard := none }) rfl (fun Kz hK => ?_) (EachV.cons (o := { dst := some 13, op := Op.alloc 38, type := 0, pos := "law.go:46", after := #[], guard := none }) rfl (fun Kz hK => ?_) EachV.nil)
            · go_simp
              go_at_call 19
              try have HQ9 := Lib.hid (na_lt HS9.out)
              refine (dfind_any x.l t x.p x.c _ _ ((K5.out.keep hHeld.out).o.b.ok x HXX.out.2) hxn HXL.out).mono ?_
              rintro e w5 ⟨A1, rfl, hsm, hok, hg⟩
              rw [HZ3.out]
              have HA := Lib.hid (And.intro hsm hok.and)
              have hHn := Lib.hid (grown_trans hHeld.out hg)
              try replace HS9 := Lib.hid (show ∀ b, b = _ → _ from fun b hb => (HS9.out b hb).keep hg)
              clear hg hsm hok
              refine hK.out _ _ (fun _ _ => hHn) (fun hH2 => ?_)
              have hHeld2 := hH2 rfl hHeld
              clear hK Kz hHeld hH2
              have hHeld := hHeld2
              clear hHeld2
              (try simp only [Act.put, List.setIfInBounds_toArray, List.set_cons_zero, List.set_cons_succ])
              refine anyV_take (i := 9) (oi := { dst := some 80, op := Op.move (Operand.tmp 89), type := 39, pos := "law.go:46", after := #[{ on := 8, ground := Ground.data }], guard := none }) (v := ?_) rfl (by kernel_rfl) (by kernel_rfl) (by kernel_rfl) (by kernel_rfl) (by kernel_rfl) (fun _ _ _ h => h) (Or.inl ⟨by rfl, ?_⟩) hHeld ?_
              rotate_left 1
              · intro u hSu
                have hO := K5.out.keep hSu.out
                have q0 := hO.o.row i x HXX.out.1
                have q1 := hO.e m t HT.out
                go_simp
                first | done | with_reducible rfl
              (try simp only [Act.put, List.setIfInBounds_toArray, List.set_cons_zero, List.set_cons_succ])
              refine anyV_take (i := 10) (oi := { dst := some 90, op := Op.extract (Operand.tmp 80) 0, type := 38, pos := "law.go:46", after := #[{ on := 9, ground := Ground.data }], guard := none }) (v := ?_) rfl (by kernel_rfl) (by kernel_rfl) (by kernel_rfl) (by kernel_rfl) (by kernel_rfl) (fun _ _ _ h => h) (Or.inl ⟨by rfl, ?_⟩) hHeld ?_
              rotate_left 1
              · intro u hSu
                have hO := K5.out.keep hSu.out
                have q0 := hO.o.row i x HXX.out.1
                have q1 := hO.e m t HT.out
                go_simp
                first | done | with_reducible rfl
              (try simp only [Act.put, List.setIfInBounds_toArray, List.set_cons_zero, List.set_cons_succ])
              refine anyV_ready (rs := [11, 12]) (by kernel_rfl) (by simp) ?_
              refine EachV.cons (o := { dst := some 91, op := Op.extract (Operand.tmp 80) 1, type := 4, pos := "law.go:46", after := #[{ on := 9, ground := Ground.data }, { on := 13, ground := Ground.gcOnly Departure.lateStores }], guard := none }) rfl (fun Kz hK => ?_) (EachV.cons (o := { dst := some 13, op := Op.alloc 38, type := 0, pos := "law.go:46", after := #[], guard := none }) rfl (fun Kz hK => ?_) EachV.nil)
              · go_simp
                refine hK.out _ _ (fun _ h => h) (fun _ => ?_)
                clear hK Kz
                (try simp only [Act.put, List.setIfInBounds_toArray, List.set_cons_zero, List.set_cons_succ])
                refine anyV_ready (rs := [12]) (by kernel_rfl) (by simp) ?_
                refine EachV.cons (o := { dst := some 13, op := Op.alloc 38, type := 0, pos := "law.go:46", after := #[], guard := none }) rfl (fun Kz hK => ?_) EachV.nil
                go_simp
                try have HE2 := Lib.hid (fa_new hHeld.out HA.out.1 HA.out.2)
                try replace HA := Lib.hid (And.intro HA.out.1 (HA.out.2.keep (World.grownBy_alloc _ (.cells #[.int .i64 0, .int .i64 0, .bool false, .slice none 0 0, .slice none 0 0] 38) none)))
                have HSN := na_start hHeld.out
                have hHn := Lib.hid (grown_trans hHeld.out (World.grownBy_alloc _ (.cells #[.int .i64 0, .int .i64 0, .bool false, .slice none 0 0, .slice none 0 0] 38) none))
                have HS9 := Lib.hid HSN
                clear HSN
                refine hK.out _ _ (fun _ _ => hHn) (fun hH2 => ?_)
                have hHeld2 := hH2 rfl hHeld
                clear hK Kz hHeld hH2
                have hHeld := hHeld2
                clear hHeld2
                (try simp only [Act.put, List.setIfInBounds_toArray, List.set_cons_zero, List.set_cons_succ])
                refine anyV_ready (rs := [13]) (by kernel_rfl) (by simp) ?_
                refine EachV.cons (o := { dst := none, op := Op.store 38 (Operand.tmp 13) (Operand.tmp 90), type := 0, pos := "law.go:46", after := #[{ on := 12, ground := Ground.data }, { on := 10, ground := Ground.data }, { on := 8, ground := Ground.chain }, { on := 0, ground := Ground.phase }, { on := 1, ground := Ground.phase }, { on := 2, ground := Ground.phase }, { on := 3, ground := Ground.phase }, { on := 4, ground := Ground.phase }, { on := 5, ground := Ground.phase }, { on := 6, ground := Ground.phase }, { on := 7, ground := Ground.phase }, { on := 8, ground := Ground.phase }, { on := 9, ground := Ground.phase }, { on := 10, ground := Ground.phase }, { on := 11, ground := Ground.textOnly Departure.lateStores }, { on := 12, ground := Ground.phase }], guard := none }) rfl (fun Kz hK => ?_) EachV.nil
                have hna := HS9.out _ (by first | rfl | simp)
                obtain ⟨k0, k1, k2, k3, k4⟩ := row5 hna.ab
                have f0 := frozen_of_row _ _ 0 _ _ hna.ab
                have f1 := frozen_of_row _ _ 1 _ _ hna.ab
                have f2 := frozen_of_row _ _ 2 _ _ hna.ab
                have f3 := frozen_of_row _ _ 3 _ _ hna.ab
                have f4 := frozen_of_row _ _ 4 _ _ hna.ab
                try (have hna2 : NA _ wr.heap.size _ := hna; obtain ⟨j0, j1, j2, j3, j4⟩ := row5 hna2.ab; have g0 := frozen_of_row _ _ 0 _ _ hna2.ab; have g1 := frozen_of_row _ _ 1 _ _ hna2.ab; have g2 := frozen_of_row _ _ 2 _ _ hna2.ab; have g3 := frozen_of_row _ _ 3 _ _ hna2.ab; have g4 := frozen_of_row _ _ 4 _ _ hna2.ab)
                have HE := Lib.hid (hna.fill hHeld.out HA.out.1 HA.out.2 (fun hq9 => by first | exact absurd hq9.1 (Nat.not_le.2 HQ9.out) | omega))
                go_simp
                refine hK.out _ _ (fun h => by cases h) (fun _ => ?_)
                clear hK Kz
                (try simp only [Act.put, List.setIfInBounds_toArray, List.set_cons_zero, List.set_cons_succ])
                refine anyV_ready (rs := [14]) (by kernel_rfl) (by simp) ?_
                refine EachV.cons (o := { dst := some 14, op := Op.assign (Operand.tmp 91), type := 4, pos := "law.go:46", after := #[{ on := 11, ground := Ground.data }, { on := 13, ground := Ground.chain }, { on := 0, ground := Ground.phase }, { on := 1, ground := Ground.phase }, { on := 2, ground := Ground.phase }, { on := 3, ground := Ground.phase }, { on := 4, ground := Ground.phase }, { on := 5, ground := Ground.phase }, { on := 6, ground := Ground.phase }, { on := 7, ground := Ground.phase }, { on := 8, ground := Ground.phase }, { on := 9, ground := Ground.phase }, { on := 10, ground := Ground.phase }, { on := 11, ground := Ground.phase }, { on := 12, ground := Ground.phase }, { on := 13, ground := Ground.phase }], guard := none }) rfl (fun Kz hK => ?_) EachV.nil
                go_simp
                refine hK.out _ _ (fun h => by cases h) (fun _ => ?_)
                clear hK Kz
                (try simp only [Act.put, List.setIfInBounds_toArray, List.set_cons_zero, List.set_cons_succ])
                refine anyV_done (by kernel_rfl) ?_ _
                clear HD HS9
                go_wp2_with fail
                go_meet
                first | exact ⟨_, A1, rfl, rfl, HE⟩ | exact ⟨_, A1, rfl, rfl, HE2⟩
              · go_simp
                try have HE2 := Lib.hid (fa_new hHeld.out HA.out.1 HA.out.2)
                try replace HA := Lib.hid (And.intro HA.out.1 (HA.out.2.keep (World.grownBy_alloc _ (.cells #[.int .i64 0, .int .i64 0, .bool false, .slice none 0 0, .slice none 0 0] 38) none)))
                have HSN := na_start hHeld.out
                have hHn := Lib.hid (grown_trans hHeld.out (World.grownBy_alloc _ (.cells #[.int .i64 0, .int .i64 0, .bool false, .slice none 0 0, .slice none 0 0] 38) none))
                have HS9 := Lib.hid HSN
                clear HSN
                refine hK.out _ _ (fun _ _ => hHn) (fun hH2 => ?_)
                have hHeld2 := hH2 rfl hHeld
                clear hK Kz hHeld hH2
                have hHeld := hHeld2
                clear hHeld2
                (try simp only [Act.put, List.setIfInBounds_toArray, List.set_cons_zero, List.set_cons_succ])
                refine anyV_ready (rs := [11, 13]) (by kernel_rfl) (by simp) ?_
                refine EachV.cons (o := { dst := some 91, op := Op.extract (Operand.tmp 80) 1, type := 4, pos := "law.go:46", after := #[{ on := 9, ground := Ground.data }, { on := 13, ground := Ground.gcOnly Departure.lateStores }], guard := none }) rfl (fun Kz hK => ?_) (EachV.cons (o := { dst := none, op := Op.store 38 (Operand.tmp 13) (Operand.tmp 90), type := 0, pos := "law.go:46", after := #[{ on := 12, ground := Ground.data }, { on := 10, ground := Ground.data }, { on := 8, ground := Ground.chain }, { on := 0, ground := Ground.phase }, { on := 1, ground := Ground.phase }, { on := 2, ground := Ground.phase }, { on := 3, ground := Ground.phase }, { on := 4, ground := Ground.phase }, { on := 5, ground := Ground.phase }, { on := 6, ground := Ground.phase }, { on := 7, ground := Ground.phase }, { on := 8, ground := Ground.phase }, { on := 9, ground := Ground.phase }, { on := 10, ground := Ground.phase }, { on := 11, ground := Ground.textOnly Departure.lateStores }, { on := 12, ground := Ground.phase }], guard := none }) rfl (fun Kz hK => ?_) EachV.nil)
                · go_simp
                  refine hK.out _ _ (fun _ h => h) (fun _ => ?_)
                  clear hK Kz
                  (try simp only [Act.put, List.setIfInBounds_toArray, List.set_cons_zero, List.set_cons_succ])
                  refine anyV_ready (rs := [13]) (by kernel_rfl) (by simp) ?_
                  refine EachV.cons (o := { dst := none, op := Op.store 38 (Operand.tmp 13) (Operand.tmp 90), type := 0, pos := "law.go:46", after := #[{ on := 12, ground := Ground.data }, { on := 10, ground := Ground.data }, { on := 8, ground := Ground.chain }, { on := 0, ground := Ground.phase }, { on := 1, ground := Ground.phase }, { on := 2, ground := Ground.phase }, { on := 3, ground := Ground.phase }, { on := 4, ground := Ground.phase }, { on := 5, ground := Ground.phase }, { on := 6, ground := Ground.phase }, { on := 7, ground := Ground.phase }, { on := 8, ground := Ground.phase }, { on := 9, ground := Ground.phase }, { on := 10, ground := Ground.phase }, { on := 11, ground := Ground.textOnly Departure.lateStores }, { on := 12, ground := Ground.phase }], guard := none }) rfl (fun Kz hK => ?_) EachV.nil
                  have hna := HS9.out _ (by first | rfl | simp)
                  obtain ⟨k0, k1, k2, k3, k4⟩ := row5 hna.ab
                  have f0 := frozen_of_row _ _ 0 _ _ hna.ab
                  have f1 := frozen_of_row _ _ 1 _ _ hna.ab
                  have f2 := frozen_of_row _ _ 2 _ _ hna.ab
                  have f3 := frozen_of_row _ _ 3 _ _ hna.ab
                  have f4 := frozen_of_row _ _ 4 _ _ hna.ab
                  try (have hna2 : NA _ wr.heap.size _ := hna; obtain ⟨j0, j1, j2, j3, j4⟩ := row5 hna2.ab; have g0 := frozen_of_row _ _ 0 _ _ hna2.ab; have g1 := frozen_of_row _ _ 1 _ _ hna2.ab; have g2 := frozen_of_row _ _ 2 _ _ hna2.ab; have g3 := frozen_of_row _ _ 3 _ _ hna2.ab; have g4 := frozen_of_row _ _ 4 _ _ hna2.ab)
                  have HE := Lib.hid (hna.fill hHeld.out HA.out.1 HA.out.2 (fun hq9 => by first | exact absurd hq9.1 (Nat.not_le.2 HQ9.out) | omega))
                  go_simp
                  refine hK.out _ _ (fun h => by cases h) (fun _ => ?_)
                  clear hK Kz
                  (try simp only [Act.put, List.setIfInBounds_toArray, List.set_cons_zero, List.set_cons_succ])
                  refine anyV_ready (rs := [14]) (by kernel_rfl) (by simp) ?_
                  refine EachV.cons (o := { dst := some 14, op := Op.assign (Operand.tmp 91), type := 4, pos := "law.go:46", after := #[{ on := 11, ground := Ground.data }, { on := 13, ground := Ground.chain }, { on := 0, ground := Ground.phase }, { on := 1, ground := Ground.phase }, { on := 2, ground := Ground.phase }, { on := 3, ground := Ground.phase }, { on := 4, ground := Ground.phase }, { on := 5, ground := Ground.phase }, { on := 6, ground := Ground.phase }, { on := 7, ground := Ground.phase }, { on := 8, ground := Ground.phase }, { on := 9, ground := Ground.phase }, { on := 10, ground := Ground.phase }, { on := 11, ground := Ground.phase }, { on := 12, ground := Ground.phase }, { on := 13, ground := Ground.phase }], guard := none }) rfl (fun Kz hK => ?_) EachV.nil
                  go_simp
                  refine hK.out _ _ (fun h => by cases h) (fun _ => ?_)
                  clear hK Kz
                  (try simp only [Act.put, List.setIfInBounds_toArray, List.set_cons_zero, List.set_cons_succ])
                  refine anyV_done (by kernel_rfl) ?_ _
                  clear HD HS9
                  go_wp2_with fail
                  go_meet
                  first | exact ⟨_, A1, rfl, rfl, HE⟩ | exact ⟨_, A1, rfl, rfl, HE2⟩
                · have hna := HS9.out _ (by first | rfl | simp)
                  obtain ⟨k0, k1, k2, k3, k4⟩ := row5 hna.ab
                  have f0 := frozen_of_row _ _ 0 _ _ hna.ab
                  have f1 := frozen_of_row _ _ 1 _ _ hna.ab
                  have f2 := frozen_of_row _ _ 2 _ _ hna.ab
                  have f3 := frozen_of_row _ _ 3 _ _ hna.ab
                  have f4 := frozen_of_row _ _ 4 _ _ hna.ab
                  try (have hna2 : NA _ wr.heap.size _ := hna; obtain ⟨j0, j1, j2, j3, j4⟩ := row5 hna2.ab; have g0 := frozen_of_row _ _ 0 _ _ hna2.ab; have g1 := frozen_of_row _ _ 1 _ _ hna2.ab; have g2 := frozen_of_row _ _ 2 _ _ hna2.ab; have g3 := frozen_of_row _ _ 3 _ _ hna2.ab; have g4 := frozen_of_row _ _ 4 _ _ hna2.ab)
                  have HE := Lib.hid (hna.fill hHeld.out HA.out.1 HA.out.2 (fun hq9 => by first | exact absurd hq9.1 (Nat.not_le.2 HQ9.out) | omega))
                  go_simp
                  refine hK.out _ _ (fun h => by cases h) (fun _ => ?_)
                  clear hK Kz
                  (try simp only [Act.put, List.setIfInBounds_toArray, List.set_cons_zero, List.set_cons_succ])
                  refine anyV_ready (rs := [11]) (by kernel_rfl) (by simp) ?_
                  refine EachV.cons (o := { dst := some 91, op := Op.extract (Operand.tmp 80) 1, type := 4, pos := "law.go:46", after := #[{ on := 9, ground := Ground.data }, { on := 13, ground := Ground.gcOnly Departure.lateStores }], guard := none }) rfl (fun Kz hK => ?_) EachV.nil
                  go_simp
                  refine hK.out _ _ (fun _ h => h) (fun _ => ?_)
                  clear hK Kz
                  (try simp only [Act.put, List.setIfInBounds_toArray, List.set_cons_zero, List.set_cons_succ])
                  refine anyV_ready (rs := [14]) (by kernel_rfl) (by simp) ?_
                  refine EachV.cons (o := { dst := some 14, op := Op.assign (Operand.tmp 91), type := 4, pos := "law.go:46", after := #[{ on := 11, ground := Ground.data }, { on := 13, ground := Ground.chain }, { on := 0, ground := Ground.phase }, { on := 1, ground := Ground.phase }, { on := 2, ground := Ground.phase }, { on := 3, ground := Ground.phase }, { on := 4, ground := Ground.phase }, { on := 5, ground := Ground.phase }, { on := 6, ground := Ground.phase }, { on := 7, ground := Ground.phase }, { on := 8, ground := Ground.phase }, { on := 9, ground := Ground.phase }, { on := 10, ground := Ground.phase }, { on := 11, ground := Ground.phase }, { on := 12, ground := Ground.phase }, { on := 13, ground := Ground.phase }], guard := none }) rfl (fun Kz hK => ?_) EachV.nil
                  go_simp
                  refine hK.out _ _ (fun h => by cases h) (fun _ => ?_)
                  clear hK Kz
                  (try simp only [Act.put, List.setIfInBounds_toArray, List.set_cons_zero, List.set_cons_succ])
                  refine anyV_done (by kernel_rfl) ?_ _
                  clear HD HS9
                  go_wp2_with fail
                  go_meet
                  first | exact ⟨_, A1, rfl, rfl, HE⟩ | exact ⟨_, A1, rfl, rfl, HE2⟩
            · go_simp
              try have HE2 := Lib.hid (fa_new hHeld.out HA.out.1 HA.out.2)
              try replace HA := Lib.hid (And.intro HA.out.1 (HA.out.2.keep (World.grownBy_alloc _ (.cells #[.int .i64 0, .int .i64 0, .bool false, .slice none 0 0, .slice none 0 0] 38) none)))
              have HSN := na_start hHeld.out
              have hHn := Lib.hid (grown_trans hHeld.out (World.grownBy_alloc _ (.cells #[.int .i64 0, .int .i64 0, .bool false, .slice none 0 0, .slice none 0 0] 38) none))
              have HS9 := Lib.hid HSN
              clear HSN
              refine hK.out _ _ (fun _ _ => hHn) (fun hH2 => ?_)
              have hHeld2 := hH2 rfl hHeld
              clear hK Kz hHeld hH2
              have hHeld := hHeld2
              clear hHeld2
              (try simp only [Act.put, List.setIfInBounds_toArray, List.set_cons_zero, List.set_cons_succ])
              refine anyV_ready (rs := [8]) (by kernel_rfl) (by simp) ?_
              refine EachV.cons (o := { dst := some 89, op := Op.call { callee := Callee.value (Operand.func 19), args := #[Operand.tmp 84, Operand.tmp 88], argTypes := #[25, 3] }, type := 39, pos := "law.go:46", after := #[{ on := 3, ground := Ground.data }, { on := 7, ground := Ground.data }], guard := none }) rfl (fun Kz hK => ?_) EachV.nil
              go_simp
              go_at_call 19
              try have HQ9 := Lib.hid (na_lt HS9.out)
              refine (dfind_any x.l t x.p x.c _ _ ((K5.out.keep hHeld.out).o.b.ok x HXX.out.2) hxn HXL.out).mono ?_
              rintro e w5 ⟨A1, rfl, hsm, hok, hg⟩
              rw [HZ3.out]
              have HA := Lib.hid (And.intro hsm hok.and)
              have hHn := Lib.hid (grown_trans hHeld.out hg)
              try replace HS9 := Lib.hid (show ∀ b, b = _ → _ from fun b hb => (HS9.out b hb).keep hg)
              clear hg hsm hok
              refine hK.out _ _ (fun _ _ => hHn) (fun hH2 => ?_)
              have hHeld2 := hH2 rfl hHeld
              clear hK Kz hHeld hH2
              have hHeld := hHeld2
              clear hHeld2
              (try simp only [Act.put, List.setIfInBounds_toArray, List.set_cons_zero, List.set_cons_succ])
              refine anyV_take (i := 9) (oi := { dst := some 80, op := Op.move (Operand.tmp 89), type := 39, pos := "law.go:46", after := #[{ on := 8, ground := Ground.data }], guard := none }) (v := ?_) rfl (by kernel_rfl) (by kernel_rfl) (by kernel_rfl) (by kernel_rfl) (by kernel_rfl) (fun _ _ _ h => h) (Or.inl ⟨by rfl, ?_⟩) hHeld ?_
              rotate_left 1
              · intro u hSu
                have hO := K5.out.keep hSu.out
                have q0 := hO.o.row i x HXX.out.1
                have q1 := hO.e m t HT.out
                go_simp
                first | done | with_reducible rfl
              (try simp only [Act.put, List.setIfInBounds_toArray, List.set_cons_zero, List.set_cons_succ])
              refine anyV_take (i := 10) (oi := { dst := some 90, op := Op.extract (Operand.tmp 80) 0, type := 38, pos := "law.go:46", after := #[{ on := 9, ground := Ground.data }], guard := none }) (v := ?_) rfl (by kernel_rfl) (by kernel_rfl) (by kernel_rfl) (by kernel_rfl) (by kernel_rfl) (fun _ _ _ h => h) (Or.inl ⟨by rfl, ?_⟩) hHeld ?_
              rotate_left 1
              · intro u hSu
                have hO := K5.out.keep hSu.out
                have q0 := hO.o.row i x HXX.out.1
                have q1 := hO.e m t HT.out
                go_simp
                first | done | with_reducible rfl
              (try simp only [Act.put, List.setIfInBounds_toArray, List.set_cons_zero, List.set_cons_succ])
              refine anyV_ready (rs := [11, 13]) (by kernel_rfl) (by simp) ?_
              refine EachV.cons (o := { dst := some 91, op := Op.extract (Operand.tmp 80) 1, type := 4, pos := "law.go:46", after := #[{ on := 9, ground := Ground.data }, { on := 13, ground := Ground.gcOnly Departure.lateStores }], guard := none }) rfl (fun Kz hK => ?_) (EachV.cons (o := { dst := none, op := Op.store 38 (Operand.tmp 13) (Operand.tmp 90), type := 0, pos := "law.go:46", after := #[{ on := 12, ground := Ground.data }, { on := 10, ground := Ground.data }, { on := 8, ground := Ground.chain }, { on := 0, ground := Ground.phase }, { on := 1, ground := Ground.phase }, { on := 2, ground := Ground.phase }, { on := 3, ground := Ground.phase }, { on := 4, ground := Ground.phase }, { on := 5, ground := Ground.phase }, { on := 6, ground := Ground.phase }, { on := 7, ground := Ground.phase }, { on := 8, ground := Ground.phase }, { on := 9, ground := Ground.phase }, { on := 10, ground := Ground.phase }, { on := 11, ground := Ground.textOnly Departure.lateStores }, { on := 12, ground := Ground.phase }], guard := none }) rfl (fun Kz hK => ?_) EachV.nil)
              · go_simp
                refine hK.out _ _ (fun _ h => h) (fun _ => ?_)
                clear hK Kz
                (try simp only [Act.put, List.setIfInBounds_toArray, List.set_cons_zero, List.set_cons_succ])
                refine anyV_ready (rs := [13]) (by kernel_rfl) (by simp) ?_
                refine EachV.cons (o := { dst := none, op := Op.store 38 (Operand.tmp 13) (Operand.tmp 90), type := 0, pos := "law.go:46", after := #[{ on := 12, ground := Ground.data }, { on := 10, ground := Ground.data }, { on := 8, ground := Ground.chain }, { on := 0, ground := Ground.phase }, { on := 1, ground := Ground.phase }, { on := 2, ground := Ground.phase }, { on := 3, ground := Ground.phase }, { on := 4, ground := Ground.phase }, { on := 5, ground := Ground.phase }, { on := 6, ground := Ground.phase }, { on := 7, ground := Ground.phase }, { on := 8, ground := Ground.phase }, { on := 9, ground := Ground.phase }, { on := 10, ground := Ground.phase }, { on := 11, ground := Ground.textOnly Departure.lateStores }, { on := 12, ground := Ground.phase }], guard := none }) rfl (fun Kz hK => ?_) EachV.nil
                have hna := HS9.out _ (by first | rfl | simp)
                obtain ⟨k0, k1, k2, k3, k4⟩ := row5 hna.ab
                have f0 := frozen_of_row _ _ 0 _ _ hna.ab
                have f1 := frozen_of_row _ _ 1 _ _ hna.ab
                have f2 := frozen_of_row _ _ 2 _ _ hna.ab
                have f3 := frozen_of_row _ _ 3 _ _ hna.ab
                have f4 := frozen_of_row _ _ 4 _ _ hna.ab
                try (have hna2 : NA _ wr.heap.size _ := hna; obtain ⟨j0, j1, j2, j3, j4⟩ := row5 hna2.ab; have g0 := frozen_of_row _ _ 0 _ _ hna2.ab; have g1 := frozen_of_row _ _ 1 _ _ hna2.ab; have g2 := frozen_of_row _ _ 2 _ _ hna2.ab; have g3 := frozen_of_row _ _ 3 _ _ hna2.ab; have g4 := frozen_of_row _ _ 4 _ _ hna2.ab)
                have HE := Lib.hid (hna.fill hHeld.out HA.out.1 HA.out.2 (fun hq9 => by first | exact absurd hq9.1 (Nat.not_le.2 HQ9.out) | omega))
                go_simp
                refine hK.out _ _ (fun h => by cases h) (fun _ => ?_)
                clear hK Kz
                (try simp only [Act.put, List.setIfInBounds_toArray, List.set_cons_zero, List.set_cons_succ])
                refine anyV_ready (rs := [14]) (by kernel_rfl) (by simp) ?_
                refine EachV.cons (o := { dst := some 14, op := Op.assign (Operand.tmp 91), type := 4, pos := "law.go:46", after := #[{ on := 11, ground := Ground.data }, { on := 13, ground := Ground.chain }, { on := 0, ground := Ground.phase }, { on := 1, ground := Ground.phase }, { on := 2, ground := Ground.phase }, { on := 3, ground := Ground.phase }, { on := 4, ground := Ground.phase }, { on := 5, ground := Ground.phase }, { on := 6, ground := Ground.phase }, { on := 7, ground := Ground.phase }, { on := 8, ground := Ground.phase }, { on := 9, ground := Ground.phase }, { on := 10, ground := Ground.phase }, { on := 11, ground := Ground.phase }, { on := 12, ground := Ground.phase }, { on := 13, ground := Ground.phase }], guard := none }) rfl (fun Kz hK => ?_) EachV.nil
                go_simp
                refine hK.out _ _ (fun h => by cases h) (fun _ => ?_)
                clear hK Kz
                (try simp only [Act.put, List.setIfInBounds_toArray, List.set_cons_zero, List.set_cons_succ])
                refine anyV_done (by kernel_rfl) ?_ _
                clear HD HS9
                go_wp2_with fail
                go_meet
                first | exact ⟨_, A1, rfl, rfl, HE⟩ | exact ⟨_, A1, rfl, rfl, HE2⟩
              · have hna := HS9.out _ (by first | rfl | simp)
                obtain ⟨k0, k1, k2, k3, k4⟩ := row5 hna.ab
                have f0 := frozen_of_row _ _ 0 _ _ hna.ab
                have f1 := frozen_of_row _ _ 1 _ _ hna.ab
                have f2 := frozen_of_row _ _ 2 _ _ hna.ab
                have f3 := frozen_of_row _ _ 3 _ _ hna.ab
                have f4 := frozen_of_row _ _ 4 _ _ hna.ab
                try (have hna2 : NA _ wr.heap.size _ := hna; obtain ⟨j0, j1, j2, j3, j4⟩ := row5 hna2.ab; have g0 := frozen_of_row _ _ 0 _ _ hna2.ab; have g1 := frozen_of_row _ _ 1 _ _ hna2.ab; have g2 := frozen_of_row _ _ 2 _ _ hna2.ab; have g3 := frozen_of_row _ _ 3 _ _ hna2.ab; have g4 := frozen_of_row _ _ 4 _ _ hna2.ab)
                have HE := Lib.hid (hna.fill hHeld.out HA.out.1 HA.out.2 (fun hq9 => by first | exact absurd hq9.1 (Nat.not_le.2 HQ9.out) | omega))
                go_simp
                refine hK.out _ _ (fun h => by cases h) (fun _ => ?_)
                clear hK Kz
                (try simp only [Act.put, List.setIfInBounds_toArray, List.set_cons_zero, List.set_cons_succ])
                refine anyV_ready (rs := [11]) (by kernel_rfl) (by simp) ?_
                refine EachV.cons (o := { dst := some 91, op := Op.extract (Operand.tmp 80) 1, type := 4, pos := "law.go:46", after := #[{ on := 9, ground := Ground.data }, { on := 13, ground := Ground.gcOnly Departure.lateStores }], guard := none }) rfl (fun Kz hK => ?_) EachV.nil
                go_simp
                refine hK.out _ _ (fun _ h => h) (fun _ => ?_)
                clear hK Kz
                (try simp only [Act.put, List.setIfInBounds_toArray, List.set_cons_zero, List.set_cons_succ])
                refine anyV_ready (rs := [14]) (by kernel_rfl) (by simp) ?_
                refine EachV.cons (o := { dst := some 14, op := Op.assign (Operand.tmp 91), type := 4, pos := "law.go:46", after := #[{ on := 11, ground := Ground.data }, { on := 13, ground := Ground.chain }, { on := 0, ground := Ground.phase }, { on := 1, ground := Ground.phase }, { on := 2, ground := Ground.phase }, { on := 3, ground := Ground.phase }, { on := 4, ground := Ground.phase }, { on := 5, ground := Ground.phase }, { on := 6, ground := Ground.phase }, { on := 7, ground := Ground.phase }, { on := 8, ground := Ground.phase }, { on := 9, ground := Ground.phase }, { on := 10, ground := Ground.phase }, { on := 11, ground := Ground.phase }, { on := 12, ground := Ground.phase }, { on := 13, ground := Ground.phase }], guard := none }) rfl (fun Kz hK => ?_) EachV.nil
                go_simp
                refine hK.out _ _ (fun h => by cases h) (fun _ => ?_)
                clear hK Kz
                (try simp only [Act.put, List.setIfInBounds_toArray, List.set_cons_zero, List.set_cons_succ])
                refine anyV_done (by kernel_rfl) ?_ _
                clear HD HS9
                go_wp2_with fail
                go_meet
                first | exact ⟨_, A1, rfl, rfl, HE⟩ | exact ⟨_, A1, rfl, rfl, HE2⟩
          case rest =>
          obtain ⟨b1, A1, rfl, rfl, F1⟩ := hcut
          have K6 := Lib.hid (K5.out.keep F1.out.gr)
          clear K5
          go_upto_region 18 with fail
          go_cut [15, 16] from 92 to 103 (fun u o wy => ∃ (b : Nat) (A2 : Ad), u = .pointer (some ⟨b, 0, none⟩) ∧ o = .bool z3 ∧ Hid (FA wc x.l t b A2 wy))
          case first =>
            have HD := Lib.hid (grown_drew (grown_refl wc none))
            refine region_until2 (S := fun w' => Hid (wc.grownBy w' none)) (fun j => j == 13 || j == 14) (by kernel_rfl) (HD) (fun hHeld => ?_)
            refine anyV_take (i := 0) (oi := { dst := some 93, op := Op.move (Operand.tmp 8), type := 29, pos := "law.go:47", after := #[], guard := none }) (v := ?_) rfl (by kernel_rfl) (by kernel_rfl) (by kernel_rfl) (by kernel_rfl) (by kernel_rfl) (fun _ _ _ h => h) (Or.inl ⟨by rfl, ?_⟩) hHeld ?_
            rotate_left 1
            · intro u hSu
              have hO := K6.out.keep hSu.out
              have q0 := hO.o.row i x HXX.out.1
              have q1 := hO.e m t HT.out
              go_simp
              first | done | with_reducible rfl
            (try simp only [Act.put, List.setIfInBounds_toArray, List.set_cons_zero, List.set_cons_succ])
            refine anyV_take (i := 1) (oi := { dst := some 94, op := Op.move (Operand.tmp 9), type := 3, pos := "law.go:47", after := #[], guard := none }) (v := ?_) rfl (by kernel_rfl) (by kernel_rfl) (by kernel_rfl) (by kernel_rfl) (by kernel_rfl) (fun _ _ _ h => h) (Or.inl ⟨by rfl, ?_⟩) hHeld ?_
            rotate_left 1
            · intro u hSu
              have hO := K6.out.keep hSu.out
              have q0 := hO.o.row i x HXX.out.1
              have q1 := hO.e m t HT.out
              go_simp
              first | done | with_reducible rfl
            (try simp only [Act.put, List.setIfInBounds_toArray, List.set_cons_zero, List.set_cons_succ])
            refine anyV_take (i := 2) (oi := { dst := some 95, op := Op.indexAddr 29 (Operand.tmp 93) (Operand.tmp 94), type := 0, pos := "law.go:47", after := #[{ on := 0, ground := Ground.data }, { on := 1, ground := Ground.data }], guard := none }) (v := ?_) rfl (by kernel_rfl) (by kernel_rfl) (by kernel_rfl) (by kernel_rfl) (by kernel_rfl) (fun _ _ _ h => h) (Or.inl ⟨by rfl, ?_⟩) hHeld ?_
            rotate_left 1
            · intro u hSu
              have hO := K6.out.keep hSu.out
              have q0 := hO.o.row i x HXX.out.1
              have q1 := hO.e m t HT.out
              go_simp
              first | done | with_reducible rfl
            (try simp only [Act.put, List.setIfInBounds_toArray, List.set_cons_zero, List.set_cons_succ])
            refine anyV_take (i := 3) (oi := { dst := some 96, op := Op.load 25 (Operand.tmp 95), type := 25, pos := "law.go:47", after := #[{ on := 2, ground := Ground.data }], guard := none }) (v := ?_) rfl (by kernel_rfl) (by kernel_rfl) (by kernel_rfl) (by kernel_rfl) (by kernel_rfl) (fun _ _ _ h => h) (Or.inl ⟨by rfl, ?_⟩) hHeld ?_
            rotate_left 1
            · intro u hSu
              have hO := K6.out.keep hSu.out
              have q0 := hO.o.row i x HXX.out.1
              have q1 := hO.e m t HT.out
              go_simp
              first | done | with_reducible rfl
            (try simp only [Act.put, List.setIfInBounds_toArray, List.set_cons_zero, List.set_cons_succ])
            refine anyV_take (i := 4) (oi := { dst := some 97, op := Op.move (Operand.tmp 11), type := 22, pos := "law.go:47", after := #[], guard := none }) (v := ?_) rfl (by kernel_rfl) (by kernel_rfl) (by kernel_rfl) (by kernel_rfl) (by kernel_rfl) (fun _ _ _ h => h) (Or.inl ⟨by rfl, ?_⟩) hHeld ?_
            rotate_left 1
            · intro u hSu
              have hO := K6.out.keep hSu.out
              have q0 := hO.o.row i x HXX.out.1
              have q1 := hO.e m t HT.out
              go_simp
              first | done | with_reducible rfl
            (try simp only [Act.put, List.setIfInBounds_toArray, List.set_cons_zero, List.set_cons_succ])
            refine anyV_take (i := 5) (oi := { dst := some 98, op := Op.move (Operand.tmp 12), type := 3, pos := "law.go:47", after := #[], guard := none }) (v := ?_) rfl (by kernel_rfl) (by kernel_rfl) (by kernel_rfl) (by kernel_rfl) (by kernel_rfl) (fun _ _ _ h => h) (Or.inl ⟨by rfl, ?_⟩) hHeld ?_
            rotate_left 1
            · intro u hSu
              have hO := K6.out.keep hSu.out
              have q0 := hO.o.row i x HXX.out.1
              have q1 := hO.e m t HT.out
              go_simp
              first | done | with_reducible rfl
            (try simp only [Act.put, List.setIfInBounds_toArray, List.set_cons_zero, List.set_cons_succ])
            refine anyV_take (i := 6) (oi := { dst := some 99, op := Op.indexAddr 22 (Operand.tmp 97) (Operand.tmp 98), type := 0, pos := "law.go:47", after := #[{ on := 4, ground := Ground.data }, { on := 5, ground := Ground.data }], guard := none }) (v := ?_) rfl (by kernel_rfl) (by kernel_rfl) (by kernel_rfl) (by kernel_rfl) (by kernel_rfl) (fun _ _ _ h => h) (Or.inl ⟨by rfl, ?_⟩) hHeld ?_
            rotate_left 1
            · intro u hSu
              have hO := K6.out.keep hSu.out
              have q0 := hO.o.row i x HXX.out.1
              have q1 := hO.e m t HT.out
              go_simp
              first | done | with_reducible rfl
            (try simp only [Act.put, List.setIfInBounds_toArray, List.set_cons_zero, List.set_cons_succ])
            refine anyV_take (i := 7) (oi := { dst := some 100, op := Op.load 3 (Operand.tmp 99), type := 3, pos := "law.go:47", after := #[{ on := 6, ground := Ground.data }], guard := none }) (v := ?_) rfl (by kernel_rfl) (by kernel_rfl) (by kernel_rfl) (by kernel_rfl) (by kernel_rfl) (fun _ _ _ h => h) (Or.inl ⟨by rfl, ?_⟩) hHeld ?_
            rotate_left 1
            · intro u hSu
              have hO := K6.out.keep hSu.out
              have q0 := hO.o.row i x HXX.out.1
              have q1 := hO.e m t HT.out
              go_simp
              first | done | with_reducible rfl
            (try simp only [Act.put, List.setIfInBounds_toArray, List.set_cons_zero, List.set_cons_succ])
            refine anyV_ready (rs := [8, 12]) (by kernel_rfl) (by simp) ?_
            refine EachV.cons (o := { dst := some 101, op := Op.call { callee := Callee.value (Operand.func 20), args := #[Operand.tmp 96, Operand.tmp 100], argTypes := #[25, 3] }, type := 39, pos := "law.go:47", after := #[{ on := 3, ground := Ground.data }, { on := 7, ground := Ground.data }], guard := none }) rfl (fun Kz hK => ?_) (EachV.cons (o := { dst := some 15, op := Op.alloc 38, type := 0, pos := "law.go:47", after := #[], guard := none }) rfl (fun Kz hK => ?_) EachV.nil)
            · go_simp
              go_at_call 20
              refine (rfind_any x.l t x.p x.c _ _ ((RdA.old (K6.out.o.b.ok x HXX.out.2)).keep hHeld.out) hxn).mono ?_
              rintro e w5 ⟨A2, rfl, hsm, hok, hg⟩
              rw [HZ3.out]
              have HA := Lib.hid (And.intro hsm hok)
              have hHn := Lib.hid (grown_trans hHeld.out hg)
              try replace HS9 := Lib.hid (show ∀ b, b = _ → _ from fun b hb => (HS9.out b hb).keep hg)
              clear hg hsm hok
              refine hK.out _ _ (fun _ _ => hHn) (fun hH2 => ?_)
              have hHeld2 := hH2 rfl hHeld
              clear hK Kz hHeld hH2
              have hHeld := hHeld2
              clear hHeld2
              (try simp only [Act.put, List.setIfInBounds_toArray, List.set_cons_zero, List.set_cons_succ])
              refine anyV_take (i := 9) (oi := { dst := some 92, op := Op.move (Operand.tmp 101), type := 39, pos := "law.go:47", after := #[{ on := 8, ground := Ground.data }], guard := none }) (v := ?_) rfl (by kernel_rfl) (by kernel_rfl) (by kernel_rfl) (by kernel_rfl) (by kernel_rfl) (fun _ _ _ h => h) (Or.inl ⟨by rfl, ?_⟩) hHeld ?_
              rotate_left 1
              · intro u hSu
                have hO := K6.out.keep hSu.out
                have q0 := hO.o.row i x HXX.out.1
                have q1 := hO.e m t HT.out
                go_simp
                first | done | with_reducible rfl
              (try simp only [Act.put, List.setIfInBounds_toArray, List.set_cons_zero, List.set_cons_succ])
              refine anyV_take (i := 10) (oi := { dst := some 102, op := Op.extract (Operand.tmp 92) 0, type := 38, pos := "law.go:47", after := #[{ on := 9, ground := Ground.data }], guard := none }) (v := ?_) rfl (by kernel_rfl) (by kernel_rfl) (by kernel_rfl) (by kernel_rfl) (by kernel_rfl) (fun _ _ _ h => h) (Or.inl ⟨by rfl, ?_⟩) hHeld ?_
              rotate_left 1
              · intro u hSu
                have hO := K6.out.keep hSu.out
                have q0 := hO.o.row i x HXX.out.1
                have q1 := hO.e m t HT.out
                go_simp
                first | done | with_reducible rfl
              (try simp only [Act.put, List.setIfInBounds_toArray, List.set_cons_zero, List.set_cons_succ])
              refine anyV_ready (rs := [11, 12]) (by kernel_rfl) (by simp) ?_
              refine EachV.cons (o := { dst := some 103, op := Op.extract (Operand.tmp 92) 1, type := 4, pos := "law.go:47", after := #[{ on := 9, ground := Ground.data }, { on := 13, ground := Ground.gcOnly Departure.lateStores }], guard := none }) rfl (fun Kz hK => ?_) (EachV.cons (o := { dst := some 15, op := Op.alloc 38, type := 0, pos := "law.go:47", after := #[], guard := none }) rfl (fun Kz hK => ?_) EachV.nil)
              · go_simp
                refine hK.out _ _ (fun _ h => h) (fun _ => ?_)
                clear hK Kz
                (try simp only [Act.put, List.setIfInBounds_toArray, List.set_cons_zero, List.set_cons_succ])
                refine anyV_ready (rs := [12]) (by kernel_rfl) (by simp) ?_
                refine EachV.cons (o := { dst := some 15, op := Op.alloc 38, type := 0, pos := "law.go:47", after := #[], guard := none }) rfl (fun Kz hK => ?_) EachV.nil
                go_simp
                try have HE2 := Lib.hid (fa_new hHeld.out HA.out.1 HA.out.2)
                try replace HA := Lib.hid (And.intro HA.out.1 (HA.out.2.keep (World.grownBy_alloc _ (.cells #[.int .i64 0, .int .i64 0, .bool false, .slice none 0 0, .slice none 0 0] 38) none)))
                have HSN := na_start hHeld.out
                have hHn := Lib.hid (grown_trans hHeld.out (World.grownBy_alloc _ (.cells #[.int .i64 0, .int .i64 0, .bool false, .slice none 0 0, .slice none 0 0] 38) none))
                have HS9 := Lib.hid HSN
                clear HSN
                refine hK.out _ _ (fun _ _ => hHn) (fun hH2 => ?_)
                have hHeld2 := hH2 rfl hHeld
                clear hK Kz hHeld hH2
                have hHeld := hHeld2
                clear hHeld2
                (try simp only [Act.put, List.setIfInBounds_toArray, List.set_cons_zero, List.set_cons_succ])
                refine anyV_ready (rs := [13]) (by kernel_rfl) (by simp) ?_
                refine EachV.cons (o := { dst := none, op := Op.store 38 (Operand.tmp 15) (Operand.tmp 102), type := 0, pos := "law.go:47", after := #[{ on := 12, ground := Ground.data }, { on := 10, ground := Ground.data }, { on := 8, ground := Ground.chain }, { on := 0, ground := Ground.phase }, { on := 1, ground := Ground.phase }, { on := 2, ground := Ground.phase }, { on := 3, ground := Ground.phase }, { on := 4, ground := Ground.phase }, { on := 5, ground := Ground.phase }, { on := 6, ground := Ground.phase }, { on := 7, ground := Ground.phase }, { on := 8, ground := Ground.phase }, { on := 9, ground := Ground.phase }, { on := 10, ground := Ground.phase }, { on := 11, ground := Ground.textOnly Departure.lateStores }, { on := 12, ground := Ground.phase }], guard := none }) rfl (fun Kz hK => ?_) EachV.nil
                have hna := HS9.out _ (by first | rfl | simp)
                obtain ⟨k0, k1, k2, k3, k4⟩ := row5 hna.ab
                have f0 := frozen_of_row _ _ 0 _ _ hna.ab
                have f1 := frozen_of_row _ _ 1 _ _ hna.ab
                have f2 := frozen_of_row _ _ 2 _ _ hna.ab
                have f3 := frozen_of_row _ _ 3 _ _ hna.ab
                have f4 := frozen_of_row _ _ 4 _ _ hna.ab
                try (have hna2 : NA _ wc.heap.size _ := hna; obtain ⟨j0, j1, j2, j3, j4⟩ := row5 hna2.ab; have g0 := frozen_of_row _ _ 0 _ _ hna2.ab; have g1 := frozen_of_row _ _ 1 _ _ hna2.ab; have g2 := frozen_of_row _ _ 2 _ _ hna2.ab; have g3 := frozen_of_row _ _ 3 _ _ hna2.ab; have g4 := frozen_of_row _ _ 4 _ _ hna2.ab)
                have HE := Lib.hid (hna.fill hHeld.out HA.out.1 HA.out.2 (fun hq9 => by have := hna.lo; first | omega | (simp only at hq9; omega)))
                go_simp
                refine hK.out _ _ (fun h => by cases h) (fun _ => ?_)
                clear hK Kz
                (try simp only [Act.put, List.setIfInBounds_toArray, List.set_cons_zero, List.set_cons_succ])
                refine anyV_ready (rs := [14]) (by kernel_rfl) (by simp) ?_
                refine EachV.cons (o := { dst := some 16, op := Op.assign (Operand.tmp 103), type := 4, pos := "law.go:47", after := #[{ on := 11, ground := Ground.data }, { on := 13, ground := Ground.chain }, { on := 0, ground := Ground.phase }, { on := 1, ground := Ground.phase }, { on := 2, ground := Ground.phase }, { on := 3, ground := Ground.phase }, { on := 4, ground := Ground.phase }, { on := 5, ground := Ground.phase }, { on := 6, ground := Ground.phase }, { on := 7, ground := Ground.phase }, { on := 8, ground := Ground.phase }, { on := 9, ground := Ground.phase }, { on := 10, ground := Ground.phase }, { on := 11, ground := Ground.phase }, { on := 12, ground := Ground.phase }, { on := 13, ground := Ground.phase }], guard := none }) rfl (fun Kz hK => ?_) EachV.nil
                go_simp
                refine hK.out _ _ (fun h => by cases h) (fun _ => ?_)
                clear hK Kz
                (try simp only [Act.put, List.setIfInBounds_toArray, List.set_cons_zero, List.set_cons_succ])
                refine anyV_done (by kernel_rfl) ?_ _
                clear HD HS9
                go_wp2_with fail
                go_meet
                first | exact ⟨_, A2, rfl, rfl, HE⟩ | exact ⟨_, A2, rfl, rfl, HE2⟩
              · go_simp
                try have HE2 := Lib.hid (fa_new hHeld.out HA.out.1 HA.out.2)
                try replace HA := Lib.hid (And.intro HA.out.1 (HA.out.2.keep (World.grownBy_alloc _ (.cells #[.int .i64 0, .int .i64 0, .bool false, .slice none 0 0, .slice none 0 0] 38) none)))
                have HSN := na_start hHeld.out
                have hHn := Lib.hid (grown_trans hHeld.out (World.grownBy_alloc _ (.cells #[.int .i64 0, .int .i64 0, .bool false, .slice none 0 0, .slice none 0 0] 38) none))
                have HS9 := Lib.hid HSN
                clear HSN
                refine hK.out _ _ (fun _ _ => hHn) (fun hH2 => ?_)
                have hHeld2 := hH2 rfl hHeld
                clear hK Kz hHeld hH2
                have hHeld := hHeld2
                clear hHeld2
                (try simp only [Act.put, List.setIfInBounds_toArray, List.set_cons_zero, List.set_cons_succ])
                refine anyV_ready (rs := [11, 13]) (by kernel_rfl) (by simp) ?_
                refine EachV.cons (o := { dst := some 103, op := Op.extract (Operand.tmp 92) 1, type := 4, pos := "law.go:47", after := #[{ on := 9, ground := Ground.data }, { on := 13, ground := Ground.gcOnly Departure.lateStores }], guard := none }) rfl (fun Kz hK => ?_) (EachV.cons (o := { dst := none, op := Op.store 38 (Operand.tmp 15) (Operand.tmp 102), type := 0, pos := "law.go:47", after := #[{ on := 12, ground := Ground.data }, { on := 10, ground := Ground.data }, { on := 8, ground := Ground.chain }, { on := 0, ground := Ground.phase }, { on := 1, ground := Ground.phase }, { on := 2, ground := Ground.phase }, { on := 3, ground := Ground.phase }, { on := 4, ground := Ground.phase }, { on := 5, ground := Ground.phase }, { on := 6, ground := Ground.phase }, { on := 7, ground := Ground.phase }, { on := 8, ground := Ground.phase }, { on := 9, ground := Ground.phase }, { on := 10, ground := Ground.phase }, { on := 11, ground := Ground.textOnly Departure.lateStores }, { on := 12, ground := Ground.phase }], guard := none }) rfl (fun Kz hK => ?_) EachV.nil)
                · go_simp
                  refine hK.out _ _ (fun _ h => h) (fun _ => ?_)
                  clear hK Kz
                  (try simp only [Act.put, List.setIfInBounds_toArray, List.set_cons_zero, List.set_cons_succ])
                  refine anyV_ready (rs := [13]) (by kernel_rfl) (by simp) ?_
                  refine EachV.cons (o := { dst := none, op := Op.store 38 (Operand.tmp 15) (Operand.tmp 102), type := 0, pos := "law.go:47", after := #[{ on := 12, ground := Ground.data }, { on := 10, ground := Ground.data }, { on := 8, ground := Ground.chain }, { on := 0, ground := Ground.phase }, { on := 1, ground := Ground.phase }, { on := 2, ground := Ground.phase }, { on := 3, ground := Ground.phase }, { on := 4, ground := Ground.phase }, { on := 5, ground := Ground.phase }, { on := 6, ground := Ground.phase }, { on := 7, ground := Ground.phase }, { on := 8, ground := Ground.phase }, { on := 9, ground := Ground.phase }, { on := 10, ground := Ground.phase }, { on := 11, ground := Ground.textOnly Departure.lateStores }, { on := 12, ground := Ground.phase }], guard := none }) rfl (fun Kz hK => ?_) EachV.nil
                  have hna := HS9.out _ (by first | rfl | simp)
                  obtain ⟨k0, k1, k2, k3, k4⟩ := row5 hna.ab
                  have f0 := frozen_of_row _ _ 0 _ _ hna.ab
                  have f1 := frozen_of_row _ _ 1 _ _ hna.ab
                  have f2 := frozen_of_row _ _ 2 _ _ hna.ab
                  have f3 := frozen_of_row _ _ 3 _ _ hna.ab
                  have f4 := frozen_of_row _ _ 4 _ _ hna.ab
                  try (have hna2 : NA _ wc.heap.size _ := hna; obtain ⟨j0, j1, j2, j3, j4⟩ := row5 hna2.ab; have g0 := frozen_of_row _ _ 0 _ _ hna2.ab; have g1 := frozen_of_row _ _ 1 _ _ hna2.ab; have g2 := frozen_of_row _ _ 2 _ _ hna2.ab; have g3 := frozen_of_row _ _ 3 _ _ hna2.ab; have g4 := frozen_of_row _ _ 4 _ _ hna2.ab)
                  have HE := Lib.hid (hna.fill hHeld.out HA.out.1 HA.out.2 (fun hq9 => by have := hna.lo; first | omega | (simp only at hq9; omega)))
                  go_simp
                  refine hK.out _ _ (fun h => by cases h) (fun _ => ?_)
                  clear hK Kz
                  (try simp only [Act.put, List.setIfInBounds_toArray, List.set_cons_zero, List.set_cons_succ])
                  refine anyV_ready (rs := [14]) (by kernel_rfl) (by simp) ?_
                  refine EachV.cons (o := { dst := some 16, op := Op.assign (Operand.tmp 103), type := 4, pos := "law.go:47", after := #[{ on := 11, ground := Ground.data }, { on := 13, ground := Ground.chain }, { on := 0, ground := Ground.phase }, { on := 1, ground := Ground.phase }, { on := 2, ground := Ground.phase }, { on := 3, ground := Ground.phase }, { on := 4, ground := Ground.phase }, { on := 5, ground := Ground.phase }, { on := 6, ground := Ground.phase }, { on := 7, ground := Ground.phase }, { on := 8, ground := Ground.phase }, { on := 9, ground := Ground.phase }, { on := 10, ground := Ground.phase }, { on := 11, ground := Ground.phase }, { on := 12, ground := Ground.phase }, { on := 13, ground := Ground.phase }], guard := none }) rfl (fun Kz hK => ?_) EachV.nil
                  go_simp
                  refine hK.out _ _ (fun h => by cases h) (fun _ => ?_)
                  clear hK Kz
                  (try simp only [Act.put, List.setIfInBounds_toArray, List.set_cons_zero, List.set_cons_succ])
                  refine anyV_done (by kernel_rfl) ?_ _
                  clear HD HS9
                  go_wp2_with fail
                  go_meet
                  first | exact ⟨_, A2, rfl, rfl, HE⟩ | exact ⟨_, A2, rfl, rfl, HE2⟩
                · have hna := HS9.out _ (by first | rfl | simp)
                  obtain ⟨k0, k1, k2, k3, k4⟩ := row5 hna.ab
                  have f0 := frozen_of_row _ _ 0 _ _ hna.ab
                  have f1 := frozen_of_row _ _ 1 _ _ hna.ab
                  have f2 := frozen_of_row _ _ 2 _ _ hna.ab
                  have f3 := frozen_of_row _ _ 3 _ _ hna.ab
                  have f4 := frozen_of_row _ _ 4 _ _ hna.ab
                  try (have hna2 : NA _ wc.heap.size _ := hna; obtain ⟨j0, j1, j2, j3, j4⟩ := row5 hna2.ab; have g0 := frozen_of_row _ _ 0 _ _ hna2.ab; have g1 := frozen_of_row _ _ 1 _ _ hna2.ab; have g2 := frozen_of_row _ _ 2 _ _ hna2.ab; have g3 := frozen_of_row _ _ 3 _ _ hna2.ab; have g4 := frozen_of_row _ _ 4 _ _ hna2.ab)
                  have HE := Lib.hid (hna.fill hHeld.out HA.out.1 HA.out.2 (fun hq9 => by have := hna.lo; first | omega | (simp only at hq9; omega)))
                  go_simp
                  refine hK.out _ _ (fun h => by cases h) (fun _ => ?_)
                  clear hK Kz
                  (try simp only [Act.put, List.setIfInBounds_toArray, List.set_cons_zero, List.set_cons_succ])
                  refine anyV_ready (rs := [11]) (by kernel_rfl) (by simp) ?_
                  refine EachV.cons (o := { dst := some 103, op := Op.extract (Operand.tmp 92) 1, type := 4, pos := "law.go:47", after := #[{ on := 9, ground := Ground.data }, { on := 13, ground := Ground.gcOnly Departure.lateStores }], guard := none }) rfl (fun Kz hK => ?_) EachV.nil
                  go_simp
                  refine hK.out _ _ (fun _ h => h) (fun _ => ?_)
                  clear hK Kz
                  (try simp only [Act.put, List.setIfInBounds_toArray, List.set_cons_zero, List.set_cons_succ])
                  refine anyV_ready (rs := [14]) (by kernel_rfl) (by simp) ?_
                  refine EachV.cons (o := { dst := some 16, op := Op.assign (Operand.tmp 103), type := 4, pos := "law.go:47", after := #[{ on := 11, ground := Ground.data }, { on := 13, ground := Ground.chain }, { on := 0, ground := Ground.phase }, { on := 1, ground := Ground.phase }, { on := 2, ground := Ground.phase }, { on := 3, ground := Ground.phase }, { on := 4, ground := Ground.phase }, { on := 5, ground := Ground.phase }, { on := 6, ground := Ground.phase }, { on := 7, ground := Ground.phase }, { on := 8, ground := Ground.phase }, { on := 9, ground := Ground.phase }, { on := 10, ground := Ground.phase }, { on := 11, ground := Ground.phase }, { on := 12, ground := Ground.phase }, { on := 13, ground := Ground.phase }], guard := none }) rfl (fun Kz hK => ?_) EachV.nil
                  go_simp
                  refine hK.out _ _ (fun h => by cases h) (fun _ => ?_)
                  clear hK Kz
                  (try simp only [Act.put, List.setIfInBounds_toArray, List.set_cons_zero, List.set_cons_succ])
                  refine anyV_done (by kernel_rfl) ?_ _
                  clear HD HS9
                  go_wp2_with fail
                  go_meet
                  first | exact ⟨_, A2, rfl, rfl, HE⟩ | exact ⟨_, A2, rfl, rfl, HE2⟩
            · go_simp
              try have HE2 := Lib.hid (fa_new hHeld.out HA.out.1 HA.out.2)
              try replace HA := Lib.hid (And.intro HA.out.1 (HA.out.2.keep (World.grownBy_alloc _ (.cells #[.int .i64 0, .int .i64 0, .bool false, .slice none 0 0, .slice none 0 0] 38) none)))
              have HSN := na_start hHeld.out
              have hHn := Lib.hid (grown_trans hHeld.out (World.grownBy_alloc _ (.cells #[.int .i64 0, .int .i64 0, .bool false, .slice none 0 0, .slice none 0 0] 38) none))
              have HS9 := Lib.hid HSN
              clear HSN
              refine hK.out _ _ (fun _ _ => hHn) (fun hH2 => ?_)
              have hHeld2 := hH2 rfl hHeld
              clear hK Kz hHeld hH2
              have hHeld := hHeld2
              clear hHeld2
              (try simp only [Act.put, List.setIfInBounds_toArray, List.set_cons_zero, List.set_cons_succ])
              refine anyV_ready (rs := [8]) (by kernel_rfl) (by simp) ?_
              refine EachV.cons (o := { dst := some 101, op := Op.call { callee := Callee.value (Operand.func 20), args := #[Operand.tmp 96, Operand.tmp 100], argTypes := #[25, 3] }, type := 39, pos := "law.go:47", after := #[{ on := 3, ground := Ground.data }, { on := 7, ground := Ground.data }], guard := none }) rfl (fun Kz hK => ?_) EachV.nil
              go_simp
              go_at_call 20
              refine (rfind_any x.l t x.p x.c _ _ ((RdA.old (K6.out.o.b.ok x HXX.out.2)).keep hHeld.out) hxn).mono ?_
              rintro e w5 ⟨A2, rfl, hsm, hok, hg⟩
              rw [HZ3.out]
              have HA := Lib.hid (And.intro hsm hok)
              have hHn := Lib.hid (grown_trans hHeld.out hg)
              try replace HS9 := Lib.hid (show ∀ b, b = _ → _ from fun b hb => (HS9.out b hb).keep hg)
              clear hg hsm hok
              refine hK.out _ _ (fun _ _ => hHn) (fun hH2 => ?_)
              have hHeld2 := hH2 rfl hHeld
              clear hK Kz hHeld hH2
              have hHeld := hHeld2
              clear hHeld2
              (try simp only [Act.put, List.setIfInBounds_toArray, List.set_cons_zero, List.set_cons_succ])
              refine anyV_take (i := 9) (oi := { dst := some 92, op := Op.move (Operand.tmp 101), type := 39, pos := "law.go:47", after := #[{ on := 8, ground := Ground.data }], guard := none }) (v := ?_) rfl (by kernel_rfl) (by kernel_rfl) (by kernel_rfl) (by kernel_rfl) (by kernel_rfl) (fun _ _ _ h => h) (Or.inl ⟨by rfl, ?_⟩) hHeld ?_
              rotate_left 1
              · intro u hSu
                have hO := K6.out.keep hSu.out
                have q0 := hO.o.row i x HXX.out.1
                have q1 := hO.e m t HT.out
                go_simp
                first | done | with_reducible rfl
              (try simp only [Act.put, List.setIfInBounds_toArray, List.set_cons_zero, List.set_cons_succ])
              refine anyV_take (i := 10) (oi := { dst := some 102, op := Op.extract (Operand.tmp 92) 0, type := 38, pos := "law.go:47", after := #[{ on := 9, ground := Ground.data }], guard := none }) (v := ?_) rfl (by kernel_rfl) (by kernel_rfl) (by kernel_rfl) (by kernel_rfl) (by kernel_rfl) (fun _ _ _ h => h) (Or.inl ⟨by rfl, ?_⟩) hHeld ?_
              rotate_left 1
              · intro u hSu
                have hO := K6.out.keep hSu.out
                have q0 := hO.o.row i x HXX.out.1
                have q1 := hO.e m t HT.out
                go_simp
                first | done | with_reducible rfl
              (try simp only [Act.put, List.setIfInBounds_toArray, List.set_cons_zero, List.set_cons_succ])
              refine anyV_ready (rs := [11, 13]) (by kernel_rfl) (by simp) ?_
              refine EachV.cons (o := { dst := some 103, op := Op.extract (Operand.tmp 92) 1, type := 4, pos := "law.go:47", after := #[{ on := 9, ground := Ground.data }, { on := 13, ground := Ground.gcOnly Departure.lateStores }], guard := none }) rfl (fun Kz hK => ?_) (EachV.cons (o := { dst := none, op := Op.store 38 (Operand.tmp 15) (Operand.tmp 102), type := 0, pos := "law.go:47", after := #[{ on := 12, ground := Ground.data }, { on := 10, ground := Ground.data }, { on := 8, ground := Ground.chain }, { on := 0, ground := Ground.phase }, { on := 1, ground := Ground.phase }, { on := 2, ground := Ground.phase }, { on := 3, ground := Ground.phase }, { on := 4, ground := Ground.phase }, { on := 5, ground := Ground.phase }, { on := 6, ground := Ground.phase }, { on := 7, ground := Ground.phase }, { on := 8, ground := Ground.phase }, { on := 9, ground := Ground.phase }, { on := 10, ground := Ground.phase }, { on := 11, ground := Ground.textOnly Departure.lateStores }, { on := 12, ground := Ground.phase }], guard := none }) rfl (fun Kz hK => ?_) EachV.nil)
              · go_simp
                refine hK.out _ _ (fun _ h => h) (fun _ => ?_)
                clear hK Kz
                (try simp only [Act.put, List.setIfInBounds_toArray, List.set_cons_zero, List.set_cons_succ])
                refine anyV_ready (rs := [13]) (by kernel_rfl) (by simp) ?_
                refine EachV.cons (o := { dst := none, op := Op.store 38 (Operand.tmp 15) (Operand.tmp 102), type := 0, pos := "law.go:47", after := #[{ on := 12, ground := Ground.data }, { on := 10, ground := Ground.data }, { on := 8, ground := Ground.chain }, { on := 0, ground := Ground.phase }, { on := 1, ground := Ground.phase }, { on := 2, ground := Ground.phase }, { on := 3, ground := Ground.phase }, { on := 4, ground := Ground.phase }, { on := 5, ground := Ground.phase }, { on := 6, ground := Ground.phase }, { on := 7, ground := Ground.phase }, { on := 8, ground := Ground.phase }, { on := 9, ground := Ground.phase }, { on := 10, ground := Ground.phase }, { on := 11, ground := Ground.textOnly Departure.lateStores }, { on := 12, ground := Ground.phase }], guard := none }) rfl (fun Kz hK => ?_) EachV.nil
                have hna := HS9.out _ (by first | rfl | simp)
                obtain ⟨k0, k1, k2, k3, k4⟩ := row5 hna.ab
                have f0 := frozen_of_row _ _ 0 _ _ hna.ab
                have f1 := frozen_of_row _ _ 1 _ _ hna.ab
                have f2 := frozen_of_row _ _ 2 _ _ hna.ab
                have f3 := frozen_of_row _ _ 3 _ _ hna.ab
                have f4 := frozen_of_row _ _ 4 _ _ hna.ab
                try (have hna2 : NA _ wc.heap.size _ := hna; obtain ⟨j0, j1, j2, j3, j4⟩ := row5 hna2.ab; have g0 := frozen_of_row _ _ 0 _ _ hna2.ab; have g1 := frozen_of_row _ _ 1 _ _ hna2.ab; have g2 := frozen_of_row _ _ 2 _ _ hna2.ab; have g3 := frozen_of_row _ _ 3 _ _ hna2.ab; have g4 := frozen_of_row _ _ 4 _ _ hna2.ab)
                have HE := Lib.hid (hna.fill hHeld.out HA.out.1 HA.out.2 (fun hq9 => by have := hna.lo; first | omega | (simp only at hq9; omega)))
                go_simp
                refine hK.out _ _ (fun h => by cases h) (fun _ => ?_)
                clear hK Kz
                (try simp only [Act.put, List.setIfInBounds_toArray, List.set_cons_zero, List.set_cons_succ])
                refine anyV_ready (rs := [14]) (by kernel_rfl) (by simp) ?_
                refine EachV.cons (o := { dst := some 16, op := Op.assign (Operand.tmp 103), type := 4, pos := "law.go:47", after := #[{ on := 11, ground := Ground.data }, { on := 13, ground := Ground.chain }, { on := 0, ground := Ground.phase }, { on := 1, ground := Ground.phase }, { on := 2, ground := Ground.phase }, { on := 3, ground := Ground.phase }, { on := 4, ground := Ground.phase }, { on := 5, ground := Ground.phase }, { on := 6, ground := Ground.phase }, { on := 7, ground := Ground.phase }, { on := 8, ground := Ground.phase }, { on := 9, ground := Ground.phase }, { on := 10, ground := Ground.phase }, { on := 11, ground := Ground.phase }, { on := 12, ground := Ground.phase }, { on := 13, ground := Ground.phase }], guard := none }) rfl (fun Kz hK => ?_) EachV.nil
                go_simp
                refine hK.out _ _ (fun h => by cases h) (fun _ => ?_)
                clear hK Kz
                (try simp only [Act.put, List.setIfInBounds_toArray, List.set_cons_zero, List.set_cons_succ])
                refine anyV_done (by kernel_rfl) ?_ _
                clear HD HS9
                go_wp2_with fail
                go_meet
                first | exact ⟨_, A2, rfl, rfl, HE⟩ | exact ⟨_, A2, rfl, rfl, HE2⟩
              · have hna := HS9.out _ (by first | rfl | simp)
                obtain ⟨k0, k1, k2, k3, k4⟩ := row5 hna.ab
                have f0 := frozen_of_row _ _ 0 _ _ hna.ab
                have f1 := frozen_of_row _ _ 1 _ _ hna.ab
                have f2 := frozen_of_row _ _ 2 _ _ hna.ab
                have f3 := frozen_of_row _ _ 3 _ _ hna.ab
                have f4 := frozen_of_row _ _ 4 _ _ hna.ab
                try (have hna2 : NA _ wc.heap.size _ := hna; obtain ⟨j0, j1, j2, j3, j4⟩ := row5 hna2.ab; have g0 := frozen_of_row _ _ 0 _ _ hna2.ab; have g1 := frozen_of_row _ _ 1 _ _ hna2.ab; have g2 := frozen_of_row _ _ 2 _ _ hna2.ab; have g3 := frozen_of_row _ _ 3 _ _ hna2.ab; have g4 := frozen_of_row _ _ 4 _ _ hna2.ab)
                have HE := Lib.hid (hna.fill hHeld.out HA.out.1 HA.out.2 (fun hq9 => by have := hna.lo; first | omega | (simp only at hq9; omega)))
                go_simp
                refine hK.out _ _ (fun h => by cases h) (fun _ => ?_)
                clear hK Kz
                (try simp only [Act.put, List.setIfInBounds_toArray, List.set_cons_zero, List.set_cons_succ])
                refine anyV_ready (rs := [11]) (by kernel_rfl) (by simp) ?_
                refine EachV.cons (o := { dst := some 103, op := Op.extract (Operand.tmp 92) 1, type := 4, pos := "law.go:47", after := #[{ on := 9, ground := Ground.data }, { on := 13, ground := Ground.gcOnly Departure.lateStores }], guard := none }) rfl (fun Kz hK => ?_) EachV.nil
                go_simp
                refine hK.out _ _ (fun _ h => h) (fun _ => ?_)
                clear hK Kz
                (try simp only [Act.put, List.setIfInBounds_toArray, List.set_cons_zero, List.set_cons_succ])
                refine anyV_ready (rs := [14]) (by kernel_rfl) (by simp) ?_
                refine EachV.cons (o := { dst := some 16, op := Op.assign (Operand.tmp 103), type := 4, pos := "law.go:47", after := #[{ on := 11, ground := Ground.data }, { on := 13, ground := Ground.chain }, { on := 0, ground := Ground.phase }, { on := 1, ground := Ground.phase }, { on := 2, ground := Ground.phase }, { on := 3, ground := Ground.phase }, { on := 4, ground := Ground.phase }, { on := 5, ground := Ground.phase }, { on := 6, ground := Ground.phase }, { on := 7, ground := Ground.phase }, { on := 8, ground := Ground.phase }, { on := 9, ground := Ground.phase }, { on := 10, ground := Ground.phase }, { on := 11, ground := Ground.phase }, { on := 12, ground := Ground.phase }, { on := 13, ground := Ground.phase }], guard := none }) rfl (fun Kz hK => ?_) EachV.nil
                go_simp
                refine hK.out _ _ (fun h => by cases h) (fun _ => ?_)
                clear hK Kz
                (try simp only [Act.put, List.setIfInBounds_toArray, List.set_cons_zero, List.set_cons_succ])
                refine anyV_done (by kernel_rfl) ?_ _
                clear HD HS9
                go_wp2_with fail
                go_meet
                first | exact ⟨_, A2, rfl, rfl, HE⟩ | exact ⟨_, A2, rfl, rfl, HE2⟩
          case rest =>
          obtain ⟨b2, A2, rfl, rfl, F2⟩ := hcut
          have K7 := Lib.hid (K6.out.keep F2.out.gr)
          have F3 := Lib.hid (F1.out.keep F2.out.gr)
          clear K6 F1
          obtain ⟨d0, d1, d2, d3, d4⟩ := row5 F3.out.ab
          obtain ⟨e0, e1, e2, e3, e4⟩ := row5 F2.out.ab
          obtain ⟨q1, hq1⟩ := F3.out.ok
          obtain ⟨q2, hq2⟩ := F2.out.ok
          have hcall := rsame_any A1 A2 q1 q2 _ hq1 hq2
          rw [fa_same F3.out F2.out] at hcall
          unfold Ad.val at hcall
          have HCALL := Lib.hid hcall
          clear hcall hq1 hq2
          go_wp2_with fail
          refine HCALL.out.mono ?_
          rintro e w8 ⟨rfl, hg⟩
          have K8 := Lib.hid (K7.out.keep hg)
          clear hg K7 HCALL F2 F3 d0 d1 d2 d3 d4 e0 e1 e2 e3 e4
          go_wp2_with fail
          exact ⟨⟨m + 1, by omega, congrArg _ (by omega), K8⟩, by simp only [RowKit.intOf]; omega⟩
        · have hlmI : ¬ (m : Int) < 2 := by omega
          have K6 := Lib.hid K5.out.o
          clear K5
          go_wp2_with fail
          exact ⟨⟨i + 1, by omega, congrArg _ (by omega), K6⟩, by simp only [RowKit.intOf]; omega⟩
  · have hltI : ¬ (i : Int) < 3 := by omega
    go_wp2_with fail
    refine (dawake_any wr).mono ?_
    rintro e w5 ⟨rfl, hg⟩
    have HG := Lib.hid (grown_trans K.out.b.gr hg)
    clear hg K c0
    go_wp2_with fail
    go_ret
    exact ⟨rfl, HG.out⟩
end Go.Proofs.Ytnpkihioklpnmaa

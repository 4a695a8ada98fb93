/- Parts of the proof, packed: MaMeLaw. -/
import Derived.Test.YtgofadmncgmhoaaMe19
import Derived.Test.YtgofadmncgmhoaaMe5
/- masks: the law of a single ID. -/
namespace Go.Proofs.Ytgofadmncgmhoaa
open Go.RowKit Bs
set_option maxRecDepth 100000 in
theorem pl_inj {a b len : Int} (ha : plOk a len = true) (hb : plOk b len = true) (h1 : plS a len = plS b len) (h2 : plB a len = plB b len) : a = b := by
  unfold plS at h1
  unfold plB at h2
  rw [if_pos ha, if_pos hb] at h1 h2
  obtain ⟨hl, a1, a2⟩ := pl_fields ha
  obtain ⟨-, b1, b2⟩ := pl_fields hb
  have e1 := Int.mul_tdiv_add_tmod (a - 1) len
  have e2 := Int.mul_tdiv_add_tmod (b - 1) len
  rw [Int.tmod_eq_emod_of_nonneg (by omega)] at e1 e2
  rw [h1, h2] at e1
  omega
set_option maxRecDepth 100000 in
theorem row_pl {r s n : Int} {L : List Rw} (h : ckT r s n L = 0) {x : Rw} (hx : x ∈ L) : plOk x.id n = true := by
  obtain ⟨-, -, -, h4, -⟩ := row_asc h hx
  have h1 := (ck_ok h).1
  unfold hdT at h1
  rw [Bool.not_eq_false'] at h1
  simp only [Bool.and_eq_true, Bool.or_eq_true, decide_eq_true_eq] at h1
  unfold plOk inV
  rw [Bool.and_eq_true]
  refine ⟨?_, by simpa using h4⟩
  rcases h1.2 with h2 | h2
  · exact h2
  · have := List.length_pos_of_mem hx; omega
set_option maxRecDepth 100000 in
theorem nxI_zero {r s n : Int} {L : List Rw} (h : ckT r s n L = 0) {x : Rw} (hx : x ∈ L) (k : Nat) : (x.nx.length = 0 → nxI x.nx k = 0) ∧ (x.nx.length ≠ 0 → nxI x.nx k ≠ 0 ∧ nxI x.nx k ∈ x.nx) := by
  obtain ⟨-, -, h3, -⟩ := row_asc h hx
  refine ⟨fun h0 => by unfold nxI; rw [if_pos h0], fun h0 => ?_⟩
  have hm : nxI x.nx k ∈ x.nx := List.mem_of_getElem? (nxI_at h0)
  have := h3 _ hm
  exact ⟨by omega, hm⟩
set_option maxRecDepth 100000 in
theorem plB_nn (id len : Int) : 0 ≤ plB id len := by
  unfold plB
  split
  · rename_i h
    obtain ⟨hl, h1, h2⟩ := pl_fields h
    rcases hl with rfl | rfl | rfl | rfl <;> omega
  · exact Int.le_refl _
set_option maxRecDepth 100000 in
/-- The bit of an ID is in the mask of its next hop alone. -/
theorem mem_bit {r s n : Int} {L : List Rw} (h : ckT r s n L = 0) {x : Rw} (hx : x ∈ L) {k : Nat} (hk : k < 8) {u : Int} (hu : u ≠ 0) : (((coF r s n L (k : Int) (plS x.id n) u).getD 0).testBit (plB x.id n).toNat) = (nxI x.nx k == u) := by
  have hco : coF r s n L (k : Int) (plS x.id n) = colL n (plS x.id n) k L := by
    unfold coF
    rw [if_pos ⟨by omega, h⟩, Int.toNat_natCast]
  rw [hco, Bool.eq_iff_iff, colL_bit, beq_iff_eq]
  constructor
  · rintro ⟨y, hy, h1, h2, -, h4⟩
    have hb : plB y.id n = plB x.id n := by
      have e1 := plB_nn y.id n
      have e2 := plB_nn x.id n
      omega
    have hid := pl_inj (row_pl h hy) (row_pl h hx) h1 hb
    have f1 := fdW_mem (ck_ok h).2.2.2.2.1 hy
    rw [hid, fdW_mem (ck_ok h).2.2.2.2.1 hx] at f1
    obtain rfl := Option.some.inj f1
    exact h2
  · intro e
    exact ⟨x, hx, rfl, e, hu, rfl⟩
set_option maxRecDepth 100000 in
set_option maxHeartbeats 6400000 in
theorem member_walk (v : Value) (w : World) (hv : IntsIn w v) :
    Calls Try.prog 4 #[v] w fun e w' => e = .returned (.bool true) ∧ w.grownBy w' none := by
  have HV := Lib.hid hv
  clear hv
  go_enter Try.func4, Try.ntmps4
  go_wp2_with fail
  refine (new_any v w HV.out).mono ?_
  rintro e w1 ⟨rfl, hg1, hT1⟩
  have H1 := Lib.hid (And.intro hg1 hT1)
  clear hg1 hT1 HV
  obtain ⟨a, ha⟩ : ∃ a, w.heap.size = a := ⟨_, rfl⟩
  have HA := Lib.hid ha
  rw [ha] at H1 ⊢
  clear ha
  go_wp2_with fail
  refine (ttab0_any a 0 (Int.le_refl 0) (by unfold I64; omega) _ H1.out.2).mono ?_
  rintro e w2 ⟨r, s, n, L, p, c, rfl, hO, hck, hs⟩
  obtain ⟨hR, -, hcc, hN⟩ := own_rdw hO
  have HCK := Lib.hid hck
  have HNN := Lib.hid hN
  have HG := Lib.hid (grown_new H1.out.1 hs.1 (by rw [HA.out]; exact Nat.le_refl _) : w.grownBy w2 none)
  have hL256 := (ck_ok hck).2.2.1
  have HO := Lib.hid hO
  have HT2 := Lib.hid (And.intro hs.2 hs.1.size)
  have HLO := Lib.hid (H1.out.2.lt)
  clear hO hck hs hR hcc hN H1
  have HT3 := Lib.hid (HT2.out.1.keep (World.grownBy_alloc w2 (.cells #[.int .i64 r, .int .i64 s, .int .i64 n, .slice p L.length c] 27) none))
  go_upto_region 3 with fail
  go_wp2_with fail
  refine (next_any a 8 (by unfold I64; omega) _ HT3.out).mono ?_
  rintro e w4 ⟨pl, rfl, hpl, hs⟩
  have K4 := Lib.hid (by_tape HO.out HLO.out (by rw [HA.out]; exact Nat.le_refl _) HT2.out.2 HG.out hs)
  have hpl2 : 0 ≤ pl ∧ pl < 8 := by unfold CutOf at hpl; omega
  obtain ⟨P, rfl⟩ : ∃ P : Nat, pl = (P : Int) := ⟨pl.toNat, by omega⟩
  have hP8 : P < 8 := by omega
  generalize w2.heap.size = B at *
  clear hs hpl hpl2 HT3 HT2 HLO HO HG
  go_wp2_with fail
  go_loopw [6] (fun i wr => ∃ k : Nat, k ≤ L.length ∧ i = .int .i64 (k : Int) ∧ Hid (BY w B r s n p c L wr)) (fun i _ => L.length - (RowKit.intOf i).toNat)
  case atStart => exact ⟨0, Nat.zero_le _, rfl, K4⟩
  case round =>
  clear K4
  obtain ⟨i, hi, rfl, K⟩ := hrel
  obtain ⟨w5, hw5⟩ : ∃ w5, w5 = wr := ⟨_, rfl⟩
  rw [← hw5] at K ⊢
  clear hw5
  obtain ⟨d0, d1, d2, d3⟩ := row4T K.out.bx
  by_cases hlt : i < L.length
  case neg =>
    obtain rfl : i = L.length := by omega
    have hnl : ¬ (L.length : Int) < (L.length : Int) := by omega
    go_wp2_with fail
    refine (mawake_any w5).mono ?_
    rintro e w6 ⟨rfl, hg⟩
    have G := Lib.hid (grown_trans K.out.gr hg)
    clear hg K d0 d1 d2 d3
    go_wp2_with fail
    go_ret
    exact ⟨rfl, G.out⟩
  have hlt' : (i : Int) < (L.length : Int) := by omega
  have hi0 : (0 : Int) ≤ (i : Int) := by omega
  obtain ⟨x, hx⟩ : ∃ x, L[i]? = some x := ⟨_, List.getElem?_eq_getElem hlt⟩
  obtain ⟨-, b, off, rfl, -, hc⟩ := rw_cells K.out.rd.rd (by omega)
  obtain ⟨a0, a1⟩ := hc i x hx
  have HX := Lib.hid (List.mem_of_getElem? hx)
  clear hc hx
  go_upto_region 7 with fail
  refine wp_region_held_drew (S := fun w' => Hid (w5.grownBy w' none)) (by kernel_rfl) (Lib.hid (grown_drew (grown_refl _ none))) (fun hHeld => ?_)
  refine wpAnyH_take (i := 0) (oi := { dst := some 26, op := Op.fieldAddr 27 (Operand.tmp 4) 3, type := 0, pos := "law.go:109", after := #[], guard := none }) (v := ?_) rfl (by kernel_rfl) (by kernel_rfl) (by kernel_rfl) (fun _ _ _ h => h) (Or.inl ⟨by rfl, ?_⟩) hHeld ?_
  rotate_left 1
  · intro u hSu
    obtain ⟨d0u, d1u, d2u, d3u⟩ := row4T (K.out.keep hSu.out).bx
    have a0u := hSu.out.cell a0 (by simp)
    have a1u := hSu.out.cell a1 (by simp)
    go_simp
    first | done | with_reducible rfl
  (try simp only [Act.put, List.setIfInBounds_toArray, List.set_cons_zero, List.set_cons_succ])
  refine wpAnyH_take (i := 1) (oi := { dst := some 27, op := Op.load 25 (Operand.tmp 26), type := 25, pos := "law.go:109", after := #[{ on := 0, ground := Ground.data }], guard := none }) (v := ?_) rfl (by kernel_rfl) (by kernel_rfl) (by kernel_rfl) (fun _ _ _ h => h) (Or.inl ⟨by rfl, ?_⟩) hHeld ?_
  rotate_left 1
  · intro u hSu
    obtain ⟨d0u, d1u, d2u, d3u⟩ := row4T (K.out.keep hSu.out).bx
    have a0u := hSu.out.cell a0 (by simp)
    have a1u := hSu.out.cell a1 (by simp)
    go_simp
    first | done | with_reducible rfl
  (try simp only [Act.put, List.setIfInBounds_toArray, List.set_cons_zero, List.set_cons_succ])
  refine wpAnyH_take (i := 2) (oi := { dst := some 28, op := Op.move (Operand.tmp 6), type := 3, pos := "law.go:109", after := #[], guard := none }) (v := ?_) rfl (by kernel_rfl) (by kernel_rfl) (by kernel_rfl) (fun _ _ _ h => h) (Or.inl ⟨by rfl, ?_⟩) hHeld ?_
  rotate_left 1
  · intro u hSu
    obtain ⟨d0u, d1u, d2u, d3u⟩ := row4T (K.out.keep hSu.out).bx
    have a0u := hSu.out.cell a0 (by simp)
    have a1u := hSu.out.cell a1 (by simp)
    go_simp
    first | done | with_reducible rfl
  (try simp only [Act.put, List.setIfInBounds_toArray, List.set_cons_zero, List.set_cons_succ])
  refine wpAnyH_take (i := 3) (oi := { dst := some 29, op := Op.indexAddr 25 (Operand.tmp 27) (Operand.tmp 28), type := 0, pos := "law.go:109", after := #[{ on := 1, ground := Ground.data }, { on := 2, ground := Ground.data }], guard := none }) (v := ?_) rfl (by kernel_rfl) (by kernel_rfl) (by kernel_rfl) (fun _ _ _ h => h) (Or.inl ⟨by rfl, ?_⟩) hHeld ?_
  rotate_left 1
  · intro u hSu
    obtain ⟨d0u, d1u, d2u, d3u⟩ := row4T (K.out.keep hSu.out).bx
    have a0u := hSu.out.cell a0 (by simp)
    have a1u := hSu.out.cell a1 (by simp)
    go_simp
    first | done | with_reducible rfl
  (try simp only [Act.put, List.setIfInBounds_toArray, List.set_cons_zero, List.set_cons_succ])
  refine wpAnyH_take (i := 4) (oi := { dst := some 30, op := Op.fieldAddr 35 (Operand.tmp 29) 0, type := 0, pos := "law.go:109", after := #[{ on := 3, ground := Ground.data }], guard := none }) (v := ?_) rfl (by kernel_rfl) (by kernel_rfl) (by kernel_rfl) (fun _ _ _ h => h) (Or.inl ⟨by rfl, ?_⟩) hHeld ?_
  rotate_left 1
  · intro u hSu
    obtain ⟨d0u, d1u, d2u, d3u⟩ := row4T (K.out.keep hSu.out).bx
    have a0u := hSu.out.cell a0 (by simp)
    have a1u := hSu.out.cell a1 (by simp)
    go_simp
    first | done | with_reducible rfl
  (try simp only [Act.put, List.setIfInBounds_toArray, List.set_cons_zero, List.set_cons_succ])
  refine wpAnyH_take (i := 5) (oi := { dst := some 31, op := Op.load 3 (Operand.tmp 30), type := 3, pos := "law.go:109", after := #[{ on := 4, ground := Ground.data }], guard := none }) (v := ?_) rfl (by kernel_rfl) (by kernel_rfl) (by kernel_rfl) (fun _ _ _ h => h) (Or.inl ⟨by rfl, ?_⟩) hHeld ?_
  rotate_left 1
  · intro u hSu
    obtain ⟨d0u, d1u, d2u, d3u⟩ := row4T (K.out.keep hSu.out).bx
    have a0u := hSu.out.cell a0 (by simp)
    have a1u := hSu.out.cell a1 (by simp)
    go_simp
    first | done | with_reducible rfl
  (try simp only [Act.put, List.setIfInBounds_toArray, List.set_cons_zero, List.set_cons_succ])
  refine wpAnyH_take (i := 6) (oi := { dst := some 32, op := Op.fieldAddr 27 (Operand.tmp 4) 2, type := 0, pos := "law.go:109", after := #[], guard := none }) (v := ?_) rfl (by kernel_rfl) (by kernel_rfl) (by kernel_rfl) (fun _ _ _ h => h) (Or.inl ⟨by rfl, ?_⟩) hHeld ?_
  rotate_left 1
  · intro u hSu
    obtain ⟨d0u, d1u, d2u, d3u⟩ := row4T (K.out.keep hSu.out).bx
    have a0u := hSu.out.cell a0 (by simp)
    have a1u := hSu.out.cell a1 (by simp)
    go_simp
    first | done | with_reducible rfl
  (try simp only [Act.put, List.setIfInBounds_toArray, List.set_cons_zero, List.set_cons_succ])
  refine wpAnyH_take (i := 7) (oi := { dst := some 33, op := Op.load 3 (Operand.tmp 32), type := 3, pos := "law.go:109", after := #[{ on := 6, ground := Ground.data }], guard := none }) (v := ?_) rfl (by kernel_rfl) (by kernel_rfl) (by kernel_rfl) (fun _ _ _ h => h) (Or.inl ⟨by rfl, ?_⟩) hHeld ?_
  rotate_left 1
  · intro u hSu
    obtain ⟨d0u, d1u, d2u, d3u⟩ := row4T (K.out.keep hSu.out).bx
    have a0u := hSu.out.cell a0 (by simp)
    have a1u := hSu.out.cell a1 (by simp)
    go_simp
    first | done | with_reducible rfl
  (try simp only [Act.put, List.setIfInBounds_toArray, List.set_cons_zero, List.set_cons_succ])
  refine wpAnyH_ready (rs := [8]) (by kernel_rfl) (by simp) ?_
  refine AllReadyH.cons (o := { dst := some 34, op := Op.call { callee := Callee.value (Operand.func 9), args := #[Operand.tmp 31, Operand.tmp 33], argTypes := #[3, 3] }, type := 32, pos := "law.go:109", after := #[{ on := 5, ground := Ground.data }, { on := 7, ground := Ground.data }], guard := none }) rfl (fun Kz hK => ?_) AllReadyH.nil
  go_simp
  go_at_call 9
  refine (irplc_any x.id n _).mono ?_
  rintro e' w6 ⟨rfl, hg⟩
  have HN := Lib.hid (grown_trans hHeld.out hg)
  clear hg
  simp only
  refine hK.out _ _ (HN) (fun hH2 => ?_)
  clear hK Kz hHeld
  have hHeld := hH2
  clear hH2
  (try simp only [Act.put, List.setIfInBounds_toArray, List.set_cons_zero, List.set_cons_succ])
  refine wpAnyH_take (i := 9) (oi := { dst := some 25, op := Op.move (Operand.tmp 34), type := 32, pos := "law.go:109", after := #[{ on := 8, ground := Ground.data }], guard := none }) (v := ?_) rfl (by kernel_rfl) (by kernel_rfl) (by kernel_rfl) (fun _ _ _ h => h) (Or.inl ⟨by rfl, ?_⟩) hHeld ?_
  rotate_left 1
  · intro u hSu
    obtain ⟨d0u, d1u, d2u, d3u⟩ := row4T (K.out.keep hSu.out).bx
    have a0u := hSu.out.cell a0 (by simp)
    have a1u := hSu.out.cell a1 (by simp)
    go_simp
    first | done | with_reducible rfl
  (try simp only [Act.put, List.setIfInBounds_toArray, List.set_cons_zero, List.set_cons_succ])
  refine wpAnyH_take (i := 10) (oi := { dst := some 35, op := Op.extract (Operand.tmp 25) 0, type := 3, pos := "law.go:109", after := #[{ on := 9, ground := Ground.data }], guard := none }) (v := ?_) rfl (by kernel_rfl) (by kernel_rfl) (by kernel_rfl) (fun _ _ _ h => h) (Or.inl ⟨by rfl, ?_⟩) hHeld ?_
  rotate_left 1
  · intro u hSu
    obtain ⟨d0u, d1u, d2u, d3u⟩ := row4T (K.out.keep hSu.out).bx
    have a0u := hSu.out.cell a0 (by simp)
    have a1u := hSu.out.cell a1 (by simp)
    go_simp
    first | done | with_reducible rfl
  (try simp only [Act.put, List.setIfInBounds_toArray, List.set_cons_zero, List.set_cons_succ])
  refine wpAnyH_take (i := 11) (oi := { dst := some 36, op := Op.extract (Operand.tmp 25) 1, type := 3, pos := "law.go:109", after := #[{ on := 9, ground := Ground.data }, { on := 13, ground := Ground.gcOnly Departure.lateStores }], guard := none }) (v := ?_) rfl (by kernel_rfl) (by kernel_rfl) (by kernel_rfl) (fun _ _ _ h => h) (Or.inl ⟨by rfl, ?_⟩) hHeld ?_
  rotate_left 1
  · intro u hSu
    obtain ⟨d0u, d1u, d2u, d3u⟩ := row4T (K.out.keep hSu.out).bx
    have a0u := hSu.out.cell a0 (by simp)
    have a1u := hSu.out.cell a1 (by simp)
    go_simp
    first | done | with_reducible rfl
  (try simp only [Act.put, List.setIfInBounds_toArray, List.set_cons_zero, List.set_cons_succ])
  refine wpAnyH_take (i := 12) (oi := { dst := some 37, op := Op.extract (Operand.tmp 25) 2, type := 4, pos := "law.go:109", after := #[{ on := 9, ground := Ground.data }, { on := 14, ground := Ground.gcOnly Departure.lateStores }], guard := none }) (v := ?_) rfl (by kernel_rfl) (by kernel_rfl) (by kernel_rfl) (fun _ _ _ h => h) (Or.inl ⟨by rfl, ?_⟩) hHeld ?_
  rotate_left 1
  · intro u hSu
    obtain ⟨d0u, d1u, d2u, d3u⟩ := row4T (K.out.keep hSu.out).bx
    have a0u := hSu.out.cell a0 (by simp)
    have a1u := hSu.out.cell a1 (by simp)
    go_simp
    first | done | with_reducible rfl
  (try simp only [Act.put, List.setIfInBounds_toArray, List.set_cons_zero, List.set_cons_succ])
  refine wpAnyH_take (i := 13) (oi := { dst := some 7, op := Op.assign (Operand.tmp 35), type := 3, pos := "law.go:109", after := #[{ on := 10, ground := Ground.data }, { on := 8, ground := Ground.chain }, { on := 0, ground := Ground.phase }, { on := 1, ground := Ground.phase }, { on := 2, ground := Ground.phase }, { on := 3, ground := Ground.phase }, { on := 4, ground := Ground.phase }, { on := 5, ground := Ground.phase }, { on := 6, ground := Ground.phase }, { on := 7, ground := Ground.phase }, { on := 8, ground := Ground.phase }, { on := 9, ground := Ground.phase }, { on := 10, ground := Ground.phase }, { on := 11, ground := Ground.textOnly Departure.lateStores }, { on := 12, ground := Ground.textOnly Departure.lateStores }], guard := none }) (v := ?_) rfl (by kernel_rfl) (by kernel_rfl) (by kernel_rfl) (fun _ _ _ h => h) (Or.inl ⟨by rfl, ?_⟩) hHeld ?_
  rotate_left 1
  · intro u hSu
    obtain ⟨d0u, d1u, d2u, d3u⟩ := row4T (K.out.keep hSu.out).bx
    have a0u := hSu.out.cell a0 (by simp)
    have a1u := hSu.out.cell a1 (by simp)
    go_simp
    first | done | with_reducible rfl
  (try simp only [Act.put, List.setIfInBounds_toArray, List.set_cons_zero, List.set_cons_succ])
  refine wpAnyH_take (i := 14) (oi := { dst := some 8, op := Op.assign (Operand.tmp 36), type := 3, pos := "law.go:109", after := #[{ on := 11, ground := Ground.data }, { on := 13, ground := Ground.chain }, { on := 0, ground := Ground.phase }, { on := 1, ground := Ground.phase }, { on := 2, ground := Ground.phase }, { on := 3, ground := Ground.phase }, { on := 4, ground := Ground.phase }, { on := 5, ground := Ground.phase }, { on := 6, ground := Ground.phase }, { on := 7, ground := Ground.phase }, { on := 8, ground := Ground.phase }, { on := 9, ground := Ground.phase }, { on := 10, ground := Ground.phase }, { on := 11, ground := Ground.phase }, { on := 12, ground := Ground.textOnly Departure.lateStores }, { on := 13, ground := Ground.phase }], guard := none }) (v := ?_) rfl (by kernel_rfl) (by kernel_rfl) (by kernel_rfl) (fun _ _ _ h => h) (Or.inl ⟨by rfl, ?_⟩) hHeld ?_
  rotate_left 1
  · intro u hSu
    obtain ⟨d0u, d1u, d2u, d3u⟩ := row4T (K.out.keep hSu.out).bx
    have a0u := hSu.out.cell a0 (by simp)
    have a1u := hSu.out.cell a1 (by simp)
    go_simp
    first | done | with_reducible rfl
  (try simp only [Act.put, List.setIfInBounds_toArray, List.set_cons_zero, List.set_cons_succ])
  refine wpAnyH_take (i := 15) (oi := { dst := some 9, op := Op.assign (Operand.tmp 37), type := 4, pos := "law.go:109", after := #[{ on := 12, ground := Ground.data }, { on := 14, ground := Ground.chain }, { on := 0, ground := Ground.phase }, { on := 1, ground := Ground.phase }, { on := 2, ground := Ground.phase }, { on := 3, ground := Ground.phase }, { on := 4, ground := Ground.phase }, { on := 5, ground := Ground.phase }, { on := 6, ground := Ground.phase }, { on := 7, ground := Ground.phase }, { on := 8, ground := Ground.phase }, { on := 9, ground := Ground.phase }, { on := 10, ground := Ground.phase }, { on := 11, ground := Ground.phase }, { on := 12, ground := Ground.phase }, { on := 13, ground := Ground.phase }, { on := 14, ground := Ground.phase }], guard := none }) (v := ?_) rfl (by kernel_rfl) (by kernel_rfl) (by kernel_rfl) (fun _ _ _ h => h) (Or.inl ⟨by rfl, ?_⟩) hHeld ?_
  rotate_left 1
  · intro u hSu
    obtain ⟨d0u, d1u, d2u, d3u⟩ := row4T (K.out.keep hSu.out).bx
    have a0u := hSu.out.cell a0 (by simp)
    have a1u := hSu.out.cell a1 (by simp)
    go_simp
    first | done | with_reducible rfl
  (try simp only [Act.put, List.setIfInBounds_toArray, List.set_cons_zero, List.set_cons_succ])
  refine wpAnyH_done (by kernel_rfl) ?_ _
  have K6 := Lib.hid (K.out.keep hHeld.out)
  have A6 := Lib.hid (And.intro (hHeld.out.cell a0 (by simp)) (hHeld.out.cell a1 (by simp)))
  clear hHeld d0 d1 d2 d3 a0 a1 K
  rw [row_pl HCK.out HX.out]
  have HBT : Hid (∀ u : Int, u ≠ 0 → ((coF r s n L (P : Int) (plS x.id n) u).getD 0).testBit (plB x.id n).toNat = (nxI x.nx P == u)) := Lib.hid (fun u hu => mem_bit HCK.out HX.out hP8 hu)
  have hb64 := plB_lt64 x.id n
  obtain ⟨jb, hjb⟩ : ∃ jb : Nat, plB x.id n = (jb : Int) := ⟨(plB x.id n).toNat, by have := plB_nn x.id n; omega⟩
  rw [hjb, Int.toNat_natCast] at HBT hb64
  rw [hjb]
  obtain ⟨sv, hsv⟩ : ∃ sv, plS x.id n = sv := ⟨_, rfl⟩
  rw [hsv] at HBT ⊢
  clear hjb hsv
  obtain ⟨hzN, hpN⟩ := nxI_zero HCK.out HX.out P
  have HZP := Lib.hid (And.intro hzN hpN)
  clear hzN hpN
  have HNX := Lib.hid (nxO_row HCK.out HX.out hP8)
  obtain ⟨nn, hnn⟩ : ∃ nn, nxI x.nx P = nn := ⟨_, rfl⟩
  rw [hnn] at HBT HZP HNX
  clear hnn
  obtain ⟨a0, a1⟩ := A6.out
  obtain ⟨d0, d1, d2, d3⟩ := row4T K6.out.bx
  have h24 := (row_asc HCK.out HX.out).2.1
  go_upto_region 8 with fail
  refine wp_region_held_drew (S := fun w' => Hid (w6.grownBy w' none)) (by kernel_rfl) (Lib.hid (grown_drew (grown_refl _ none))) (fun hHeld => ?_)
  refine wpAnyH_take (i := 0) (oi := { dst := some 38, op := Op.load 27 (Operand.tmp 4), type := 27, pos := "law.go:110", after := #[], guard := none }) (v := ?_) rfl (by kernel_rfl) (by kernel_rfl) (by kernel_rfl) (fun _ _ _ h => h) (Or.inl ⟨by rfl, ?_⟩) hHeld ?_
  rotate_left 1
  · intro u hSu
    obtain ⟨d0u, d1u, d2u, d3u⟩ := row4T (K6.out.keep hSu.out).bx
    have a0u := hSu.out.cell a0 (by simp)
    have a1u := hSu.out.cell a1 (by simp)
    go_simp
    first | done | with_reducible rfl
  (try simp only [Act.put, List.setIfInBounds_toArray, List.set_cons_zero, List.set_cons_succ])
  refine wpAnyH_take (i := 1) (oi := { dst := some 39, op := Op.fieldAddr 27 (Operand.tmp 4) 3, type := 0, pos := "law.go:110", after := #[], guard := none }) (v := ?_) rfl (by kernel_rfl) (by kernel_rfl) (by kernel_rfl) (fun _ _ _ h => h) (Or.inl ⟨by rfl, ?_⟩) hHeld ?_
  rotate_left 1
  · intro u hSu
    obtain ⟨d0u, d1u, d2u, d3u⟩ := row4T (K6.out.keep hSu.out).bx
    have a0u := hSu.out.cell a0 (by simp)
    have a1u := hSu.out.cell a1 (by simp)
    go_simp
    first | done | with_reducible rfl
  (try simp only [Act.put, List.setIfInBounds_toArray, List.set_cons_zero, List.set_cons_succ])
  refine wpAnyH_take (i := 2) (oi := { dst := some 40, op := Op.load 25 (Operand.tmp 39), type := 25, pos := "law.go:110", after := #[{ on := 1, ground := Ground.data }], guard := none }) (v := ?_) rfl (by kernel_rfl) (by kernel_rfl) (by kernel_rfl) (fun _ _ _ h => h) (Or.inl ⟨by rfl, ?_⟩) hHeld ?_
  rotate_left 1
  · intro u hSu
    obtain ⟨d0u, d1u, d2u, d3u⟩ := row4T (K6.out.keep hSu.out).bx
    have a0u := hSu.out.cell a0 (by simp)
    have a1u := hSu.out.cell a1 (by simp)
    go_simp
    first | done | with_reducible rfl
  (try simp only [Act.put, List.setIfInBounds_toArray, List.set_cons_zero, List.set_cons_succ])
  refine wpAnyH_take (i := 3) (oi := { dst := some 41, op := Op.move (Operand.tmp 6), type := 3, pos := "law.go:110", after := #[], guard := none }) (v := ?_) rfl (by kernel_rfl) (by kernel_rfl) (by kernel_rfl) (fun _ _ _ h => h) (Or.inl ⟨by rfl, ?_⟩) hHeld ?_
  rotate_left 1
  · intro u hSu
    obtain ⟨d0u, d1u, d2u, d3u⟩ := row4T (K6.out.keep hSu.out).bx
    have a0u := hSu.out.cell a0 (by simp)
    have a1u := hSu.out.cell a1 (by simp)
    go_simp
    first | done | with_reducible rfl
  (try simp only [Act.put, List.setIfInBounds_toArray, List.set_cons_zero, List.set_cons_succ])
  refine wpAnyH_take (i := 4) (oi := { dst := some 42, op := Op.indexAddr 25 (Operand.tmp 40) (Operand.tmp 41), type := 0, pos := "law.go:110", after := #[{ on := 2, ground := Ground.data }, { on := 3, ground := Ground.data }], guard := none }) (v := ?_) rfl (by kernel_rfl) (by kernel_rfl) (by kernel_rfl) (fun _ _ _ h => h) (Or.inl ⟨by rfl, ?_⟩) hHeld ?_
  rotate_left 1
  · intro u hSu
    obtain ⟨d0u, d1u, d2u, d3u⟩ := row4T (K6.out.keep hSu.out).bx
    have a0u := hSu.out.cell a0 (by simp)
    have a1u := hSu.out.cell a1 (by simp)
    go_simp
    first | done | with_reducible rfl
  (try simp only [Act.put, List.setIfInBounds_toArray, List.set_cons_zero, List.set_cons_succ])
  refine wpAnyH_take (i := 5) (oi := { dst := some 43, op := Op.fieldAddr 35 (Operand.tmp 42) 0, type := 0, pos := "law.go:110", after := #[{ on := 4, ground := Ground.data }], guard := none }) (v := ?_) rfl (by kernel_rfl) (by kernel_rfl) (by kernel_rfl) (fun _ _ _ h => h) (Or.inl ⟨by rfl, ?_⟩) hHeld ?_
  rotate_left 1
  · intro u hSu
    obtain ⟨d0u, d1u, d2u, d3u⟩ := row4T (K6.out.keep hSu.out).bx
    have a0u := hSu.out.cell a0 (by simp)
    have a1u := hSu.out.cell a1 (by simp)
    go_simp
    first | done | with_reducible rfl
  (try simp only [Act.put, List.setIfInBounds_toArray, List.set_cons_zero, List.set_cons_succ])
  refine wpAnyH_take (i := 6) (oi := { dst := some 44, op := Op.load 3 (Operand.tmp 43), type := 3, pos := "law.go:110", after := #[{ on := 5, ground := Ground.data }], guard := none }) (v := ?_) rfl (by kernel_rfl) (by kernel_rfl) (by kernel_rfl) (fun _ _ _ h => h) (Or.inl ⟨by rfl, ?_⟩) hHeld ?_
  rotate_left 1
  · intro u hSu
    obtain ⟨d0u, d1u, d2u, d3u⟩ := row4T (K6.out.keep hSu.out).bx
    have a0u := hSu.out.cell a0 (by simp)
    have a1u := hSu.out.cell a1 (by simp)
    go_simp
    first | done | with_reducible rfl
  (try simp only [Act.put, List.setIfInBounds_toArray, List.set_cons_zero, List.set_cons_succ])
  refine wpAnyH_take (i := 7) (oi := { dst := some 45, op := Op.move (Operand.tmp 5), type := 3, pos := "law.go:110", after := #[], guard := none }) (v := ?_) rfl (by kernel_rfl) (by kernel_rfl) (by kernel_rfl) (fun _ _ _ h => h) (Or.inl ⟨by rfl, ?_⟩) hHeld ?_
  rotate_left 1
  · intro u hSu
    obtain ⟨d0u, d1u, d2u, d3u⟩ := row4T (K6.out.keep hSu.out).bx
    have a0u := hSu.out.cell a0 (by simp)
    have a1u := hSu.out.cell a1 (by simp)
    go_simp
    first | done | with_reducible rfl
  (try simp only [Act.put, List.setIfInBounds_toArray, List.set_cons_zero, List.set_cons_succ])
  refine wpAnyH_ready (rs := [8]) (by kernel_rfl) (by simp) ?_
  refine AllReadyH.cons (o := { dst := some 46, op := Op.call { callee := Callee.value (Operand.func 17), args := #[Operand.tmp 38, Operand.tmp 44, Operand.tmp 45], argTypes := #[27, 3, 3] }, type := 3, pos := "law.go:110", after := #[{ on := 0, ground := Ground.data }, { on := 6, ground := Ground.data }, { on := 7, ground := Ground.data }], guard := none }) rfl (fun Kz hK => ?_) AllReadyH.nil
  go_simp
  go_at_call 17
  refine (mnxt_any r s n (some ⟨b, off, none⟩) c L x.id (P : Int) _ (K6.out.keep hHeld.out).rd (by omega) HNN.out).mono ?_
  rintro e' w7 ⟨rfl, hg⟩
  rw [HNX.out]
  have HN := Lib.hid (grown_trans hHeld.out hg)
  clear hg
  simp only
  refine hK.out _ _ (HN) (fun hH2 => ?_)
  clear hK Kz hHeld
  have hHeld := hH2
  clear hH2
  (try simp only [Act.put, List.setIfInBounds_toArray, List.set_cons_zero, List.set_cons_succ])
  refine wpAnyH_take (i := 9) (oi := { dst := some 10, op := Op.assign (Operand.tmp 46), type := 3, pos := "law.go:110", after := #[{ on := 8, ground := Ground.data }, { on := 8, ground := Ground.chain }, { on := 0, ground := Ground.phase }, { on := 1, ground := Ground.phase }, { on := 2, ground := Ground.phase }, { on := 3, ground := Ground.phase }, { on := 4, ground := Ground.phase }, { on := 5, ground := Ground.phase }, { on := 6, ground := Ground.phase }, { on := 7, ground := Ground.phase }, { on := 8, ground := Ground.phase }], guard := none }) (v := ?_) rfl (by kernel_rfl) (by kernel_rfl) (by kernel_rfl) (fun _ _ _ h => h) (Or.inl ⟨by rfl, ?_⟩) hHeld ?_
  rotate_left 1
  · intro u hSu
    obtain ⟨d0u, d1u, d2u, d3u⟩ := row4T (K6.out.keep hSu.out).bx
    have a0u := hSu.out.cell a0 (by simp)
    have a1u := hSu.out.cell a1 (by simp)
    go_simp
    first | done | with_reducible rfl
  (try simp only [Act.put, List.setIfInBounds_toArray, List.set_cons_zero, List.set_cons_succ])
  refine wpAnyH_done (by kernel_rfl) ?_ _
  have K7 := Lib.hid (K6.out.keep hHeld.out)
  have A7 := Lib.hid (And.intro (hHeld.out.cell a0 (by simp)) (hHeld.out.cell a1 (by simp)))
  have HRX := Lib.hid (K7.out.rd.ok x HX.out).rd
  clear hHeld d0 d1 d2 d3 a0 a1 K6 A6
  obtain ⟨d0, d1, d2, d3⟩ := row4T K7.out.bx
  obtain ⟨a0, a1⟩ := A7.out
  clear A7
  obtain ⟨wq, hwq⟩ : ∃ wq, wq = w7 := ⟨_, rfl⟩
  obtain ⟨xp, hxp⟩ : ∃ xp, x.p = xp := ⟨_, rfl⟩
  rw [hxp] at HRX a1
  clear hxp hwq wq
  obtain ⟨NL, hNL⟩ : ∃ NL, x.nx.length = NL := ⟨_, rfl⟩
  have HNL := Lib.hid hNL
  rw [hNL] at HRX a1 HZP h24
  clear hNL
  have hfin : ∀ Q : Prop, Q → Q := fun _ h => h
  by_cases h0 : NL = 0
  case pos =>
    have hz := HZP.out.1 h0
    have h0' : ¬ (0 : Int) < (NL : Int) := by omega
    have h1' : ((nn : Int) != 0) = false := by rw [hz]; rfl
    have h2' : ¬ ((nn : Int) ≠ 0) := by rw [hz]; simp
    have h3' : decide ((0 : Int) < (NL : Int)) = false := by simpa using h0'
    clear h0 hz
    go_upto_region 11 with fail
    clear d0 d1 d2 d3 a0 a1 h0' h1' h2' h3'
    go_wp2_with fail
    go_loopw [11] (fun u wr => ∃ k : Nat, 1 ≤ k ∧ k ≤ 9 ∧ u = .int .i64 (k : Int) ∧ Hid (BY w B r s n (some ⟨b, off, none⟩) c L wr)) (fun u _ => 9 - (RowKit.intOf u).toNat)
    case atStart => exact ⟨1, by omega, by omega, rfl, K7⟩
    case round =>
    clear K7
    obtain ⟨k, hk1, hk9, rfl, K⟩ := hrel
    obtain ⟨w8, hw8⟩ : ∃ w8, w8 = wr := ⟨_, rfl⟩
    rw [← hw8] at K ⊢
    clear hw8
    by_cases hk8 : k ≤ 8
    case neg =>
      obtain rfl : k = 9 := by omega
      have hn8 : ¬ ((9 : Nat) : Int) ≤ 8 := by omega
      go_wp2_with fail
      exact ⟨⟨i + 1, by omega, congrArg _ (by omega), K⟩, by simp only [RowKit.intOf]; omega⟩
    have hk8' : (k : Int) ≤ 8 := by omega
    obtain ⟨d0, d1, d2, d3⟩ := row4T K.out.bx
    have HTB := Lib.hid (HBT.out (k : Int) (by omega))
    go_wp2_with fail
    refine (mmask_any r s n (some ⟨b, off, none⟩) c L (P : Int) sv (k : Int) (by unfold I64; omega) w8 K.out.rd (by omega)).mono ?_
    rintro e w9 ⟨rfl, hg⟩
    have hU : U64 ((coF r s n L (P : Int) sv (k : Int)).getD 0) := (coF_ok r s n L (P : Int) sv).getD _
    obtain ⟨MM, hMM⟩ : ∃ MM, (coF r s n L (P : Int) sv (k : Int)).getD 0 = MM := ⟨_, rfl⟩
    rw [hMM] at hU HTB ⊢
    clear hMM
    have K9 := Lib.hid (K.out.keep hg)
    clear hg K d0 d1 d2 d3
    go_wp2_with fail
    refine (has1_any MM jb hb64 hU w9).mono ?_
    rintro e w10 ⟨rfl, rfl⟩
    rw [HTB.out]
    obtain ⟨bb, hbb⟩ : ∃ bb, (nn == (k : Int)) = bb := ⟨_, rfl⟩
    rw [hbb]
    have hbn : (bb != bb) = false := by cases bb <;> rfl
    go_wp2_with fail
    exact ⟨⟨k + 1, by omega, by omega, congrArg _ (by omega), K9⟩, by simp only [RowKit.intOf]; omega⟩
  obtain ⟨hn0, hnm⟩ := HZP.out.2 h0
  have h0' : (0 : Int) < (NL : Int) := by omega
  have h1' : ((nn : Int) != 0) = true := by simpa using hn0
  have HHI : Hid (hasI x.nx nn = true) := Lib.hid (by unfold hasI; exact List.any_eq_true.2 ⟨nn, hnm, by simp⟩)
  clear hnm
  go_upto_region 9 with fail
  go_wp2_with fail
  have hcall := rhas4_any x.nx nn xp x.c _ w7 (by rw [HNL.out]; exact HRX.out) (by rw [HNL.out]; omega)
  rw [HNL.out] at hcall
  refine hcall.mono ?_
  clear hcall
  rintro e w8 ⟨rfl, rfl⟩
  rw [HHI.out]
  go_upto_region 11 with fail
  clear d0 d1 d2 d3 a0 a1 h0' h1' hn0
  go_wp2_with fail
  go_loopw [11] (fun u wr => ∃ k : Nat, 1 ≤ k ∧ k ≤ 9 ∧ u = .int .i64 (k : Int) ∧ Hid (BY w B r s n (some ⟨b, off, none⟩) c L wr)) (fun u _ => 9 - (RowKit.intOf u).toNat)
  case atStart => exact ⟨1, by omega, by omega, rfl, K7⟩
  case round =>
  clear K7
  obtain ⟨k, hk1, hk9, rfl, K⟩ := hrel
  obtain ⟨w8, hw8⟩ : ∃ w8, w8 = wr := ⟨_, rfl⟩
  rw [← hw8] at K ⊢
  clear hw8
  by_cases hk8 : k ≤ 8
  case neg =>
    obtain rfl : k = 9 := by omega
    have hn8 : ¬ ((9 : Nat) : Int) ≤ 8 := by omega
    go_wp2_with fail
    exact ⟨⟨i + 1, by omega, congrArg _ (by omega), K⟩, by simp only [RowKit.intOf]; omega⟩
  have hk8' : (k : Int) ≤ 8 := by omega
  obtain ⟨d0, d1, d2, d3⟩ := row4T K.out.bx
  have HTB := Lib.hid (HBT.out (k : Int) (by omega))
  go_wp2_with fail
  refine (mmask_any r s n (some ⟨b, off, none⟩) c L (P : Int) sv (k : Int) (by unfold I64; omega) w8 K.out.rd (by omega)).mono ?_
  rintro e w9 ⟨rfl, hg⟩
  have hU : U64 ((coF r s n L (P : Int) sv (k : Int)).getD 0) := (coF_ok r s n L (P : Int) sv).getD _
  obtain ⟨MM, hMM⟩ : ∃ MM, (coF r s n L (P : Int) sv (k : Int)).getD 0 = MM := ⟨_, rfl⟩
  rw [hMM] at hU HTB ⊢
  clear hMM
  have K9 := Lib.hid (K.out.keep hg)
  clear hg K d0 d1 d2 d3
  go_wp2_with fail
  refine (has1_any MM jb hb64 hU w9).mono ?_
  rintro e w10 ⟨rfl, rfl⟩
  rw [HTB.out]
  obtain ⟨bb, hbb⟩ : ∃ bb, (nn == (k : Int)) = bb := ⟨_, rfl⟩
  rw [hbb]
  have hbn : (bb != bb) = false := by cases bb <;> rfl
  go_wp2_with fail
  exact ⟨⟨k + 1, by omega, by omega, congrArg _ (by omega), K9⟩, by simp only [RowKit.intOf]; omega⟩
end Go.Proofs.Ytgofadmncgmhoaa

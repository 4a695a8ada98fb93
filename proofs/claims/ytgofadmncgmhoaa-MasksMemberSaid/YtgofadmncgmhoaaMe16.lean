/- Parts of the proof, packed: TaRAl, MaRHp, MaBit, MaRBt, TaRck, MaRMk, MaNxt, TaCpM. -/
import Derived.Test.YtgofadmncgmhoaaMe14
import Derived.Test.YtgofadmncgmhoaaMe15
import Derived.Test.YtgofadmncgmhoaaMe3
import Derived.Test.YtgofadmncgmhoaaMe13
import Derived.Test.YtgofadmncgmhoaaMe7
import Derived.Test.YtgofadmncgmhoaaMe4
/- tables, the reference's functions: All. -/
namespace Go.Proofs.Ytgofadmncgmhoaa
open Go.RowKit Bs
set_option maxRecDepth 100000 in
set_option maxHeartbeats 12800000 in
theorem rall11_any (T : Tg) (s n : Int) (E : List Ed) (pE : Option Addr) (cE : Nat) (q q2 : Nat → Prop) (w : World) (hT : TgOk w q T) (hE : RdF w q2 (.slice pE E.length cE) E.length (E.flatMap edC)) (hm : E.length ≤ 9223372036854775807) :
    Calls Try.prog 23 #[.agg #[.slice T.pR T.R.length T.cR, .slice T.pL T.L.length T.cL], .agg #[.int .i64 s, .int .i64 n, .slice pE E.length cE]] w fun e w' => RAllPost T.R T.L s n E w e w' := by
  obtain ⟨R, L0, pR, cR, pL, cL⟩ := T
  simp only
  obtain ⟨ii, hii, hi0, hi1, hi2⟩ := info_parts info_tabT
  have H0 := Lib.hid (alT_start s n hT hE)
  clear hT hE
  go_enter Try.func23, Try.ntmps23
  go_upto_region 1 with fail
  generalize (w.alloc _).alloc _ = wa at *
  have hnil : ∀ w', ¬ (okT R L0 = true ∧ vPl s n E = true) → w.grownBy w' none → RAllPost R L0 s n E w (.returned (.tuple #[.slice none 0 0, .int .i64 1])) w' := fun w' hno g => ⟨[], none, 0, 1, rfl, Or.inr ⟨rfl, hno, rfl⟩, World.ownsRow_nil _ _ _ _, fun x hx => (by cases hx), g⟩
  have HNIL := Lib.hid hnil
  clear hnil
  obtain ⟨t0, t1⟩ := row_cells H0.out.bT
  obtain ⟨q0, q1, q2⟩ := row3B H0.out.bP
  go_wp2_with fail
  refine (rcheck_any ⟨R, L0, pR, cR, pL, cL⟩ _ wa H0.out.t).mono ?_
  rintro e w1 ⟨rfl, hg⟩
  have H1 := Lib.hid (H0.out.keep hg)
  clear hg H0 t0 t1 q0 q1 q2
  simp only
  by_cases hck : chk R L0 = 0
  case neg =>
    have hck' : (chk R L0 != 0) = true := by simpa using hck
    have HF := Lib.hid hck
    clear hck
    go_wp2_with fail
    go_ret2
    exact HNIL.out _ (fun h => HF.out (by have := h.1; unfold okT at this; simpa using this)) H1.out.gr
  have HOK : Hid (okT R L0 = true) := Lib.hid (by unfold okT; simpa using hck)
  rw [hck]
  clear hck
  obtain ⟨t0, t1⟩ := row_cells H1.out.bT
  obtain ⟨q0, q1, q2⟩ := row3B H1.out.bP
  go_wp2_with fail
  refine (irvplan_any s n E pE cE _ w1 H1.out.e hm).mono ?_
  rintro e w2 ⟨rfl, hg⟩
  have H2 := Lib.hid (H1.out.keep hg)
  clear hg H1 t0 t1 q0 q1 q2
  simp only
  cases hvp : vPl s n E
  case false =>
    have HF := Lib.hid hvp
    clear hvp
    go_wp2_with fail
    go_ret2
    exact HNIL.out _ (fun h => by rw [HF.out] at h; cases h.2) H2.out.gr
  have HVP := Lib.hid hvp
  clear hvp HNIL hm
  have hRl := (okT_len HOK.out).1
  have hEl : E.length ≤ 1000 := by
    have h := HVP.out
    unfold vPl at h
    simp only [Bool.and_eq_true, decide_eq_true_eq] at h
    omega
  go_wp2_with fail
  go_loopw [6, 7] (fun v a wr => ∃ (k : Nat) (Ts : List Tb) (p : Option Addr) (c : Nat), k ≤ R.length ∧ v = .slice p Ts.length c ∧ a = .int .i64 (k : Int) ∧ Hid (AllM R L0 s n E (R.take k) Ts) ∧ Hid (AlT w ⟨R, L0, pR, cR, pL, cL⟩ s n E pE cE (.slice p Ts.length c) Ts wr)) (fun _ a _ => R.length - (RowKit.intOf a).toNat)
  case atStart => exact ⟨0, [], none, 0, Nat.zero_le _, rfl, rfl, Lib.hid (by rw [List.take_zero]; exact AllM.nil), H2⟩
  case round =>
  clear H2
  obtain ⟨k, Ts, p, c, hk, rfl, rfl, HB, K⟩ := hrel
  obtain ⟨w5, hw5⟩ : ∃ w5, w5 = wr := ⟨_, rfl⟩
  rw [← hw5] at K ⊢
  clear hw5
  obtain ⟨t0, t1⟩ := row_cells K.out.bT
  by_cases hlt : k < R.length
  case neg =>
    obtain rfl : k = R.length := by omega
    have hnl : ¬ (R.length : Int) < (R.length : Int) := by omega
    rw [List.take_length] at HB
    have HK := Lib.hid K.out
    clear K
    go_wp2_with fail
    go_ret2
    exact ⟨Ts, p, c, 0, rfl, Or.inl ⟨rfl, HOK.out, HVP.out, HB.out⟩, HK.out.own.mono (by omega), fun x hx => by
      have h := HK.out.tabs x hx
      exact ⟨h.rd.mono (fun b hb => ⟨by have := hb.1; omega, hb.2⟩), h.hn, h.hc, h.hy⟩, HK.out.gr⟩
  have hlt' : (k : Int) < (R.length : Int) := by omega
  have hk0 : (0 : Int) ≤ (k : Int) := by omega
  obtain ⟨y, hy⟩ : ∃ y, R[k]? = some y := ⟨_, List.getElem?_eq_getElem hlt⟩
  obtain ⟨-, b, off, rfl, -, hc⟩ := rdr_cells (R := R) K.out.t.r (by omega)
  obtain ⟨a0, a1⟩ := hc k y hy
  have HY := Lib.hid hy
  clear hc hy
  cases hcap : y.cap
  case false =>
    rw [hcap] at a1
    have HB2 := Lib.hid (HB.out.skip HY.out hcap)
    clear hcap HB a0
    go_wp2_with fail
    exact ⟨⟨k + 1, Ts, p, c, by omega, rfl, congrArg _ (by omega), HB2, K⟩, by simp only [RowKit.intOf]; omega⟩
  rw [hcap] at a1
  have HC := Lib.hid hcap
  clear hcap
  have hLE : Hid (Ts.length ≤ 1000) := Lib.hid (by have := HB.out.len; rw [List.length_take] at this; omega)
  have hLl := hLE.out
  go_upto_region 8 with fail
  refine region_until (S := fun w' => Hid (w5.grownBy w' none)) (fun j => j == 11 || j == 12) (by kernel_rfl) (Lib.hid (grown_drew (grown_refl _ none))) (fun hHeld => ?_)
  refine anyU_take (i := 0) (oi := { dst := some 29, op := Op.move (Operand.tmp 6), type := 61, pos := "ref.go:165", after := #[], guard := none }) (v := ?_) rfl (by kernel_rfl) (by kernel_rfl) (by kernel_rfl) (by kernel_rfl) (by kernel_rfl) (fun _ _ _ h => h) (Or.inl ⟨by rfl, ?_⟩) hHeld ?_
  rotate_left 1
  · intro u hSu
    obtain ⟨t0u, t1u⟩ := row_cells (kept_row K.out.bT hSu.out (by simp))
    obtain ⟨q0u, q1u, q2u⟩ := row3B (kept_row K.out.bP hSu.out (by simp))
    have a0u := hSu.out.cell a0 (by simp)
    go_simp
    first | done | with_reducible rfl
  (try simp only [Act.put, List.setIfInBounds_toArray, List.set_cons_zero, List.set_cons_succ])
  refine anyU_take (i := 1) (oi := { dst := some 30, op := Op.load 55 (Operand.tmp 2), type := 55, pos := "ref.go:165", after := #[], guard := none }) (v := ?_) rfl (by kernel_rfl) (by kernel_rfl) (by kernel_rfl) (by kernel_rfl) (by kernel_rfl) (fun _ _ _ h => h) (Or.inl ⟨by rfl, ?_⟩) hHeld ?_
  rotate_left 1
  · intro u hSu
    obtain ⟨t0u, t1u⟩ := row_cells (kept_row K.out.bT hSu.out (by simp))
    obtain ⟨q0u, q1u, q2u⟩ := row3B (kept_row K.out.bP hSu.out (by simp))
    have a0u := hSu.out.cell a0 (by simp)
    go_simp
    first | done | with_reducible rfl
  (try simp only [Act.put, List.setIfInBounds_toArray, List.set_cons_zero, List.set_cons_succ])
  refine anyU_take (i := 2) (oi := { dst := some 31, op := Op.load 59 (Operand.tmp 3), type := 59, pos := "ref.go:165", after := #[], guard := none }) (v := ?_) rfl (by kernel_rfl) (by kernel_rfl) (by kernel_rfl) (by kernel_rfl) (by kernel_rfl) (fun _ _ _ h => h) (Or.inl ⟨by rfl, ?_⟩) hHeld ?_
  rotate_left 1
  · intro u hSu
    obtain ⟨t0u, t1u⟩ := row_cells (kept_row K.out.bT hSu.out (by simp))
    obtain ⟨q0u, q1u, q2u⟩ := row3B (kept_row K.out.bP hSu.out (by simp))
    have a0u := hSu.out.cell a0 (by simp)
    go_simp
    first | done | with_reducible rfl
  (try simp only [Act.put, List.setIfInBounds_toArray, List.set_cons_zero, List.set_cons_succ])
  refine anyU_take (i := 3) (oi := { dst := some 32, op := Op.fieldAddr 55 (Operand.tmp 2) 0, type := 0, pos := "ref.go:165", after := #[], guard := none }) (v := ?_) rfl (by kernel_rfl) (by kernel_rfl) (by kernel_rfl) (by kernel_rfl) (by kernel_rfl) (fun _ _ _ h => h) (Or.inl ⟨by rfl, ?_⟩) hHeld ?_
  rotate_left 1
  · intro u hSu
    obtain ⟨t0u, t1u⟩ := row_cells (kept_row K.out.bT hSu.out (by simp))
    obtain ⟨q0u, q1u, q2u⟩ := row3B (kept_row K.out.bP hSu.out (by simp))
    have a0u := hSu.out.cell a0 (by simp)
    go_simp
    first | done | with_reducible rfl
  (try simp only [Act.put, List.setIfInBounds_toArray, List.set_cons_zero, List.set_cons_succ])
  refine anyU_take (i := 4) (oi := { dst := some 33, op := Op.load 52 (Operand.tmp 32), type := 52, pos := "ref.go:165", after := #[{ on := 3, ground := Ground.data }], guard := none }) (v := ?_) rfl (by kernel_rfl) (by kernel_rfl) (by kernel_rfl) (by kernel_rfl) (by kernel_rfl) (fun _ _ _ h => h) (Or.inl ⟨by rfl, ?_⟩) hHeld ?_
  rotate_left 1
  · intro u hSu
    obtain ⟨t0u, t1u⟩ := row_cells (kept_row K.out.bT hSu.out (by simp))
    obtain ⟨q0u, q1u, q2u⟩ := row3B (kept_row K.out.bP hSu.out (by simp))
    have a0u := hSu.out.cell a0 (by simp)
    go_simp
    first | done | with_reducible rfl
  (try simp only [Act.put, List.setIfInBounds_toArray, List.set_cons_zero, List.set_cons_succ])
  refine anyU_take (i := 5) (oi := { dst := some 34, op := Op.move (Operand.tmp 7), type := 3, pos := "ref.go:165", after := #[], guard := none }) (v := ?_) rfl (by kernel_rfl) (by kernel_rfl) (by kernel_rfl) (by kernel_rfl) (by kernel_rfl) (fun _ _ _ h => h) (Or.inl ⟨by rfl, ?_⟩) hHeld ?_
  rotate_left 1
  · intro u hSu
    obtain ⟨t0u, t1u⟩ := row_cells (kept_row K.out.bT hSu.out (by simp))
    obtain ⟨q0u, q1u, q2u⟩ := row3B (kept_row K.out.bP hSu.out (by simp))
    have a0u := hSu.out.cell a0 (by simp)
    go_simp
    first | done | with_reducible rfl
  (try simp only [Act.put, List.setIfInBounds_toArray, List.set_cons_zero, List.set_cons_succ])
  refine anyU_take (i := 6) (oi := { dst := some 35, op := Op.indexAddr 52 (Operand.tmp 33) (Operand.tmp 34), type := 0, pos := "ref.go:165", after := #[{ on := 4, ground := Ground.data }, { on := 5, ground := Ground.data }], guard := none }) (v := ?_) rfl (by kernel_rfl) (by kernel_rfl) (by kernel_rfl) (by kernel_rfl) (by kernel_rfl) (fun _ _ _ h => h) (Or.inl ⟨by rfl, ?_⟩) hHeld ?_
  rotate_left 1
  · intro u hSu
    obtain ⟨t0u, t1u⟩ := row_cells (kept_row K.out.bT hSu.out (by simp))
    obtain ⟨q0u, q1u, q2u⟩ := row3B (kept_row K.out.bP hSu.out (by simp))
    have a0u := hSu.out.cell a0 (by simp)
    go_simp
    first | done | with_reducible rfl
  (try simp only [Act.put, List.setIfInBounds_toArray, List.set_cons_zero, List.set_cons_succ])
  refine anyU_take (i := 7) (oi := { dst := some 36, op := Op.fieldAddr 82 (Operand.tmp 35) 0, type := 0, pos := "ref.go:165", after := #[{ on := 6, ground := Ground.data }], guard := none }) (v := ?_) rfl (by kernel_rfl) (by kernel_rfl) (by kernel_rfl) (by kernel_rfl) (by kernel_rfl) (fun _ _ _ h => h) (Or.inl ⟨by rfl, ?_⟩) hHeld ?_
  rotate_left 1
  · intro u hSu
    obtain ⟨t0u, t1u⟩ := row_cells (kept_row K.out.bT hSu.out (by simp))
    obtain ⟨q0u, q1u, q2u⟩ := row3B (kept_row K.out.bP hSu.out (by simp))
    have a0u := hSu.out.cell a0 (by simp)
    go_simp
    first | done | with_reducible rfl
  (try simp only [Act.put, List.setIfInBounds_toArray, List.set_cons_zero, List.set_cons_succ])
  refine anyU_take (i := 8) (oi := { dst := some 37, op := Op.load 3 (Operand.tmp 36), type := 3, pos := "ref.go:165", after := #[{ on := 7, ground := Ground.data }], guard := none }) (v := ?_) rfl (by kernel_rfl) (by kernel_rfl) (by kernel_rfl) (by kernel_rfl) (by kernel_rfl) (fun _ _ _ h => h) (Or.inl ⟨by rfl, ?_⟩) hHeld ?_
  rotate_left 1
  · intro u hSu
    obtain ⟨t0u, t1u⟩ := row_cells (kept_row K.out.bT hSu.out (by simp))
    obtain ⟨q0u, q1u, q2u⟩ := row3B (kept_row K.out.bP hSu.out (by simp))
    have a0u := hSu.out.cell a0 (by simp)
    go_simp
    first | done | with_reducible rfl
  (try simp only [Act.put, List.setIfInBounds_toArray, List.set_cons_zero, List.set_cons_succ])
  refine anyU_ready (rs := [9]) (by kernel_rfl) (by simp) ?_
  refine EachU.cons (o := { dst := some 38, op := Op.call { callee := Callee.value (Operand.func 45), args := #[Operand.tmp 30, Operand.tmp 31, Operand.tmp 37], argTypes := #[55, 59, 3] }, type := 27, pos := "ref.go:165", after := #[{ on := 1, ground := Ground.data }, { on := 2, ground := Ground.data }, { on := 8, ground := Ground.data }], guard := none }) rfl (fun Kz hK => ?_) EachU.nil
  go_simp
  go_at_call 45
  refine (rbuild_any ⟨R, L0, some ⟨b, off, none⟩, cR, pL, cL⟩ s n y.id E pE cE _ _ _ (K.out.keep hHeld.out).t (K.out.keep hHeld.out).e hEl).mono ?_
  rintro e' w7 ⟨L, p2, c2, rfl, hown, hrows, hM, hg⟩
  have HBL := Lib.hid (And.intro (hown.mono (base := _) hHeld.out.size) (And.intro (fun x hx => (⟨(hrows x hx).1.mono (fun b hb => ⟨Nat.le_trans hHeld.out.size hb.1, hb.2⟩), (hrows x hx).2⟩ : RdX w5.heap.size w7 _ _ _ _)) hM))
  have HN := Lib.hid (grown_trans hHeld.out hg)
  clear hown hrows hM hg
  simp only
  refine hK.out _ _ (fun _ => HN) (fun hH2 => ?_)
  clear hK Kz hHeld
  have hHeld := hH2 rfl
  clear hH2
  (try simp only [Act.put, List.setIfInBounds_toArray, List.set_cons_zero, List.set_cons_succ])
  refine anyU_ready (rs := [10]) (by kernel_rfl) (by simp) ?_
  refine EachU.cons (o := { dst := some 39, op := Op.buildSlice 61 1 #[(0, Operand.tmp 38)], type := 61, pos := "ref.go:165", after := #[{ on := 9, ground := Ground.data }], guard := none }) rfl (fun Kz hK => ?_) EachU.nil
  have K7 := Lib.hid (K.out.keep hHeld.out)
  go_simp
  refine hK.out _ _ (fun _ => hid_more hHeld (World.grownBy_alloc _ _ _)) (fun hH2 => ?_)
  clear hK Kz hHeld
  have hHeld := hH2 rfl
  clear hH2
  (try simp only [Act.put, List.setIfInBounds_toArray, List.set_cons_zero, List.set_cons_succ])
  refine anyU_ready (rs := [11]) (by kernel_rfl) (by simp) ?_
  refine EachU.cons (o := { dst := some 40, op := Op.call { callee := Callee.builtin Builtin.append, args := #[Operand.tmp 29, Operand.tmp 39], argTypes := #[61, 61] }, type := 61, pos := "ref.go:165", after := #[{ on := 0, ground := Ground.data }, { on := 10, ground := Ground.data }, { on := 9, ground := Ground.chain }], guard := none }) rfl (fun Kz hK => ?_) EachU.nil
  refine step_append_lies _ (by rfl) _ _ 61 (by rfl) (w.heap.size + 2) 27 ii (.agg #[.int .i64 0, .int .i64 0, .int .i64 0, .slice none 0 0]) 4 48 Try.underlying61 hii hi0 hi1 hi2 rfl (by decide) (.slice p Ts.length c) Ts.length (Ts.flatMap tbC) (by rfl) (K7.out.own.alloc _) ⟨w7.heap.size, 0, none⟩ 1 1 (tbC ⟨y.id, s, n, L, p2, c2⟩) (by rfl) (by rfl) (tb_row w7 ⟨y.id, s, n, L, p2, c2⟩ _) (tb_one ⟨y.id, s, n, L, p2, c2⟩) (by decide) (by unfold maxLen; omega) (by omega) (by have := K7.out.lo; simp; omega) _ rfl ?_
  intro g cap w8 hown8 hgrow hat hlt8
  have ga := World.grownBy_alloc w7 (.cells #[.int .i64 y.id, .int .i64 s, .int .i64 n, .slice p2 L.length c2] 27) none
  have hv : (Value.slice (some ⟨g, 0, none⟩) (Ts.length + 1) cap).ownBlock = (Value.slice p Ts.length c).ownBlock ∨ ∀ b, some b = (Value.slice (some ⟨g, 0, none⟩) (Ts.length + 1) cap).ownBlock → (w7.alloc (.cells #[.int .i64 y.id, .int .i64 s, .int .i64 n, .slice p2 L.length c2] 27)).heap.size ≤ b := by
    rcases hat with h | h
    · exact Or.inl h.symm
    · refine Or.inr fun b e => ?_
      have e2 : some b = some g := e
      have := Option.some.inj e2
      rw [this, h]
      exact Nat.le_refl _
  have K8 := (K7.out.keep ga).push (x := ⟨y.id, s, n, L, p2, c2⟩) (v' := .slice (some ⟨g, 0, none⟩) (Ts.length + 1) cap) ((tbx_of_bld y.id s n HBL.out.1 HBL.out.2.1 (fun b e => (K.out.own.lt b e).2) K.out.lo).keep ga) (by rw [List.length_append, List.flatMap_append]; simpa [tbC] using hown8) hgrow hv
  have HB2 := Lib.hid (HB.out.push HY.out HC.out HBL.out.2.2 p2 c2)
  have HLL : Hid ((Ts ++ [(⟨y.id, s, n, L, p2, c2⟩ : Tb)]).length = Ts.length + 1) := Lib.hid (by rw [List.length_append]; rfl)
  have K8 := Lib.hid K8
  clear hown8 hgrow hat hlt8 ga hv K7 HBL
  refine hK.out _ _ (fun h => by cases h) (fun _ => ?_)
  clear hK Kz
  (try simp only [Act.put, List.setIfInBounds_toArray, List.set_cons_zero, List.set_cons_succ])
  refine anyU_ready (rs := [12]) (by kernel_rfl) (by simp) ?_
  refine EachU.cons (o := { dst := some 6, op := Op.assign (Operand.tmp 40), type := 61, pos := "ref.go:165", after := #[{ on := 11, ground := Ground.data }, { on := 11, ground := Ground.chain }, { on := 0, ground := Ground.phase }, { on := 1, ground := Ground.phase }, { on := 2, ground := Ground.phase }, { on := 3, ground := Ground.phase }, { on := 4, ground := Ground.phase }, { on := 5, ground := Ground.phase }, { on := 6, ground := Ground.phase }, { on := 7, ground := Ground.phase }, { on := 8, ground := Ground.phase }, { on := 9, ground := Ground.phase }, { on := 10, ground := Ground.phase }, { on := 11, ground := Ground.phase }], guard := none }) rfl (fun Kz hK => ?_) EachU.nil
  go_simp
  refine hK.out _ _ (fun h => by cases h) (fun _ => ?_)
  clear hK Kz
  (try simp only [Act.put, List.setIfInBounds_toArray, List.set_cons_zero, List.set_cons_succ])
  refine anyU_done (by kernel_rfl) ?_ _
  clear hHeld t0 t1 a0 a1
  go_wp2_with fail
  exact ⟨⟨k + 1, Ts ++ [⟨y.id, s, n, L, p2, c2⟩], some ⟨g, 0, none⟩, cap, by omega, by rw [HLL.out], congrArg _ (by omega), HB2, by rw [HLL.out]; exact K8⟩, by simp only [RowKit.intOf]; omega⟩
end Go.Proofs.Ytgofadmncgmhoaa

/- tables, the reference's functions: Hop. -/
namespace Go.Proofs.Ytgofadmncgmhoaa
open Go.RowKit Go.Maps Bs
/-- The next hop of an ID in a plane. -/
def hopI (L : List Rw) (id : Int) (k : Nat) : Int := nxI ((fdW L id).getD zRw).nx k
end Go.Proofs.Ytgofadmncgmhoaa

/- masks, the reference's Bits: the mathematics. -/
namespace Go.Proofs.Ytgofadmncgmhoaa
open Go.RowKit Go.Maps Bs
set_option maxRecDepth 100000 in
theorem ascW_pair : ∀ E : List Rw, ascB ltW E = true → E.Pairwise (fun x y => x.id < y.id)
  | [], _ => List.Pairwise.nil
  | [a], _ => List.pairwise_singleton _ _
  | a :: b :: t, h => by
    rw [ascB, Bool.and_eq_true] at h
    have ih := ascW_pair (b :: t) h.2
    have hab : a.id < b.id := of_decide_eq_true h.1
    refine List.pairwise_cons.2 ⟨fun y hy => ?_, ih⟩
    rcases List.mem_cons.1 hy with rfl | hy
    · exact hab
    · have := (List.pairwise_cons.1 ih).1 y hy; omega
set_option maxRecDepth 100000 in
theorem fdW_mem {L : List Rw} (h : ascB ltW L = true) {x : Rw} (hx : x ∈ L) : fdW L x.id = some x := by
  have hp := ascW_pair L h
  clear h
  unfold fdW
  induction L with
  | nil => cases hx
  | cons a t ih =>
    obtain ⟨h1, h2⟩ := List.pairwise_cons.1 hp
    rw [List.find?_cons]
    rcases List.mem_cons.1 hx with rfl | hm
    · simp [isW]
    · have := h1 x hm
      have e : isW x.id a = false := by unfold isW; simp; omega
      rw [e]
      exact ih hm h2
end Go.Proofs.Ytgofadmncgmhoaa

/- masks, the reference's functions: Bits. -/
namespace Go.Proofs.Ytgofadmncgmhoaa
open Go.RowKit Go.Maps Bs
/-- The box of a table. -/
structure BX (W : World) (r s n : Int) (p : Option Addr) (c : Nat) (L : List Rw) (w : World) : Prop where
  bx : w.heap[W.heap.size]? = some (.cells #[.int .i64 r, .int .i64 s, .int .i64 n, .slice p L.length c] 27 (0, 0))
  rd : RdW w (· < w.heap.size) p c L
  gr : W.grownBy w none
set_option maxRecDepth 100000 in
theorem BX.keep {W w w1 : World} {r s n : Int} {p : Option Addr} {c : Nat} {L : List Rw} (h : BX W r s n p c L w) (g : w.grownBy w1 none) : BX W r s n p c L w1 :=
  ⟨kept_row h.bx g (by simp), (h.rd.keep g).mono (fun b (hb : b < w.heap.size) => Nat.lt_of_lt_of_le hb g.size), grown_trans h.gr g⟩
set_option maxRecDepth 100000 in
theorem bx_start {w : World} {r s n : Int} {p : Option Addr} {c : Nat} {L : List Rw} (hR : RdW w (· < w.heap.size) p c L) : BX w r s n p c L (w.alloc (.cells #[.int .i64 r, .int .i64 s, .int .i64 n, .slice p L.length c] 27)) := by
  obtain ⟨k1, k2⟩ := tone_box w #[.int .i64 r, .int .i64 s, .int .i64 n, .slice p L.length c] 27
  exact ⟨k1, (hR.keep k2).mono (fun b (hb : b < w.heap.size) => Nat.lt_of_lt_of_le hb k2.size), k2⟩
end Go.Proofs.Ytgofadmncgmhoaa

/- tables, the reference's functions: Check. -/
namespace Go.Proofs.Ytgofadmncgmhoaa
open Go.RowKit Go.Maps Bs
end Go.Proofs.Ytgofadmncgmhoaa

/- masks, the reference's functions: Mask, Next, Local. -/
namespace Go.Proofs.Ytgofadmncgmhoaa
open Go.RowKit Go.Maps Bs
/-- What Next returns. -/
def nxO (r s n : Int) (L : List Rw) (id pl : Int) : Int := if vaT r s n L pl = true then hopI L id pl.toNat else 0
set_option maxRecDepth 100000 in
theorem nxO_no {r s n : Int} {L : List Rw} {id pl : Int} (h : vaT r s n L pl = false) : nxO r s n L id pl = 0 := by unfold nxO; rw [h]; rfl
set_option maxRecDepth 100000 in
theorem nxO_yes {r s n : Int} {L : List Rw} {id : Int} {k : Nat} (h : vaT r s n L (k : Int) = true) : nxO r s n L id (k : Int) = hopI L id k := by unfold nxO; rw [if_pos h, Int.toNat_natCast]
end Go.Proofs.Ytgofadmncgmhoaa

/- tables: Row; masks: Next. -/
namespace Go.Proofs.Ytgofadmncgmhoaa
open Go.RowKit Go.Maps Bs
def ivF (x : Int) : List Value := [tv x]
set_option maxRecDepth 100000 in
theorem ivF_one (x : Int) : ∀ u ∈ ivF x, u.oneCell' = true := by
  intro u hu
  simp [ivF, tv] at hu
  subst hu; rfl
set_option maxRecDepth 100000 in
theorem flat_ivF : ∀ X : List Int, X.flatMap ivF = X.map tv
  | [] => rfl
  | a :: t => by rw [List.flatMap_cons, flat_ivF t]; rfl
set_option maxRecDepth 100000 in
theorem rdf_ints {w : World} {q : Nat → Prop} {v : Value} {X : List Int} (h : Rd w q v (X.map tv)) : RdF w q v X.length (X.flatMap ivF) := by
  obtain ⟨p, c, h1, h2⟩ := h
  rw [List.length_map] at h1
  exact ⟨p, c, h1, fun hne => by
    rw [flat_ivF] at hne ⊢
    exact h2 hne⟩
set_option maxRecDepth 100000 in
set_option maxHeartbeats 1600000 in
theorem tcloneI_any (X : List Int) (p : Option Addr) (c : Nat) (q : Nat → Prop) (w : World) (hR : Rd w q (.slice p X.length c) (X.map tv)) (hn : p = none → c = 0) (hc : X.length ≤ c ∧ c ≤ 9223372036854775807) (hm : X.length ≤ 1000) :
    Calls Try.prog 75 #[.slice p X.length c] w fun e w' => ∃ v, e = .returned v ∧ w'.ownsRow w.heap.size 3 1 v X.length (X.map tv) ∧ w.grownBy w' none := by
  obtain ⟨ii, hii, hi0, hi1, hi2⟩ := info_parts info_int
  rw [← flat_ivF]
  have hRF := rdf_ints hR
  cases p with
  | none =>
    obtain rfl := hn rfl
    have h0 : X.length = 0 := by omega
    obtain rfl := List.eq_nil_of_length_eq_zero h0
    clear hR hRF
    have heq : ∀ w : World, (binOp .eql 22 (.slice none 0 0) (.slice none 0 0)).run Try.prog w = .ok (.bool true) w := fun w => Lib.run_eql_slice_nil w _ _ none 0 0 0 0 Try.underlying22
    go_enter Try.func75, Try.ntmps75
    go_wp2_with fail
    go_ret
    exact ⟨_, rfl, World.ownsRow_nil _ _ _ _, grown_refl _ _⟩
  | some ad =>
    have k0 := World.grownBy_alloc w (.cells #[] 3) none
    have hlit : (w.alloc (.cells #[] 3)).ownsRow w.heap.size 3 1 (.slice (some ⟨w.heap.size, 0, none⟩) 0 0) 0 (([] : List Int).flatMap ivF) := World.ownsRow_lit w #[] 0 (Nat.le_refl _) (by decide) rfl
    have HL := Lib.hid (And.intro hlit (And.intro k0 (hRF.keep k0)))
    clear hlit k0 hR hRF
    have heq : ∀ w : World, (binOp .eql 22 (.slice (some ad) X.length c) (.slice none 0 0)).run Try.prog w = .ok (.bool false) w := fun w => Lib.run_eql_slice_nil w _ _ (some ad) X.length c 0 0 Try.underlying22
    go_enter Try.func75, Try.ntmps75
    go_wp2_with (at_builtin; refine hold_on ?_)
    refine Lib.hid ?_
    refine wpList_append_f ivF 1 8 (by decide) (fun _ => rfl) ivF_one 3 22 ii _ Try.underlying22 hii hi0 hi1 hi2 rfl (by decide) rfl _ _ rfl w.heap.size _ [] 0 rfl rfl HL.out.1 _ _ _ X rfl rfl (fun h => by cases h) q HL.out.2.2 hc.1 (by omega) (by simp) ?_
    intro v' w1 hown hg
    rw [List.nil_append] at hown
    have HO := Lib.hid (And.intro hown (old_grow HL.out.2.1 HL.out.1 (Nat.le_refl _) hg))
    clear hown hg
    go_wp2_with fail
    go_ret
    exact ⟨v', rfl, HO.out.1, HO.out.2⟩
set_option maxRecDepth 100000 in
theorem lt_rowN {w : World} {b : Nat} {o : Obj} (h : w.heap[b]? = some o) : b < w.heap.size := by
  rcases Nat.lt_or_ge b w.heap.size with hz | hz
  · exact hz
  · rw [Array.getElem?_eq_none hz] at h; cases h
/-- The two boxes of copied. -/
structure CB (W : World) (x : Rw) (w : World) : Prop where
  bx : w.heap[W.heap.size]? = some (.cells (rwC x).toArray 35 (0, 0))
  z : w.heap[W.heap.size + 1]? = some (.cells #[.int .i64 0, .slice none 0 0] 35 (0, 0))
  rd : RwOk w (· < W.heap.size) x
  gr : W.grownBy w none
set_option maxRecDepth 100000 in
theorem CB.keep {W w w1 : World} {x : Rw} (h : CB W x w) (g : w.grownBy w1 none) : CB W x w1 := ⟨kept_row h.bx g (by simp), kept_row h.z g (by simp), h.rd.keep g, grown_trans h.gr g⟩
set_option maxRecDepth 100000 in
theorem res_row1 {fn : Func} {p : Tmp} (h : fn.results = #[.cell p 35]) (tmps : Array Value) (w : World) (g : Nat) (x y : Value) (hp : tmps.getD p undef = .pointer (some ⟨g, 0, none⟩)) (hg : w.heap[g]? = some (.cells #[x, y] 35 (0, 0))) :
    (results fn tmps).run Try.prog w = .ok (.agg #[x, y]) w :=
  results_cell_row h tmps w g _ _ _ _ hp hg Try.underlying35 rfl row_size
set_option maxRecDepth 100000 in
set_option maxHeartbeats 3200000 in
theorem tcopied_any (x : Rw) (w : World) (hx : RwOk w (· < w.heap.size) x) (hn : x.p = none → x.c = 0) (hm : x.nx.length ≤ 1000) :
    Calls Try.prog 53 #[.agg #[.int .i64 x.id, .slice x.p x.nx.length x.c]] w fun e w' => ∃ (p1 : Option Addr) (c1 : Nat), e = .returned (.agg #[.int .i64 x.id, .slice p1 x.nx.length c1]) ∧ RwOk w' (w.heap.size ≤ ·) ⟨x.id, x.nx, p1, c1⟩ ∧ w.grownBy w' none := by
  obtain ⟨k1, k2, k3, k4⟩ := two_boxes w #[.int .i64 x.id, .slice x.p x.nx.length x.c] #[.int .i64 0, .slice none 0 0] 35 35
  have H0 : Hid (CB w x _) := Lib.hid ⟨k1, k2, hx.keep k3, k3⟩
  clear k1 k2 k3 k4 hx
  go_enter Try.func53, Try.ntmps53
  go_upto_region 1 with fail
  generalize (w.alloc _).alloc _ = wa at *
  refine region_until (S := fun w' => Hid (CB w x w')) (fun j => j == 6) (by kernel_rfl) (Lib.hid (H0.out.keep (grown_drew (grown_refl _ none)))) (fun hHeld => ?_)
  refine anyU_take (i := 0) (oi := { dst := some 3, op := Op.fieldAddr 35 (Operand.tmp 1) 0, type := 0, pos := "table.go:193", after := #[], guard := none }) (v := ?_) rfl (by kernel_rfl) (by kernel_rfl) (by kernel_rfl) (by kernel_rfl) (by kernel_rfl) (fun _ _ _ h => h) (Or.inl ⟨by rfl, ?_⟩) hHeld ?_
  rotate_left 1
  · intro u hSu
    obtain ⟨b0, b1⟩ := rowR2 hSu.out.bx
    go_simp
    first | done | with_reducible rfl
  (try simp only [Act.put, List.setIfInBounds_toArray, List.set_cons_zero, List.set_cons_succ])
  refine anyU_take (i := 1) (oi := { dst := some 4, op := Op.load 3 (Operand.tmp 3), type := 3, pos := "table.go:193", after := #[{ on := 0, ground := Ground.data }], guard := none }) (v := ?_) rfl (by kernel_rfl) (by kernel_rfl) (by kernel_rfl) (by kernel_rfl) (by kernel_rfl) (fun _ _ _ h => h) (Or.inl ⟨by rfl, ?_⟩) hHeld ?_
  rotate_left 1
  · intro u hSu
    obtain ⟨b0, b1⟩ := rowR2 hSu.out.bx
    go_simp
    first | done | with_reducible rfl
  (try simp only [Act.put, List.setIfInBounds_toArray, List.set_cons_zero, List.set_cons_succ])
  refine anyU_take (i := 2) (oi := { dst := some 5, op := Op.fieldAddr 35 (Operand.tmp 1) 1, type := 0, pos := "table.go:193", after := #[], guard := none }) (v := ?_) rfl (by kernel_rfl) (by kernel_rfl) (by kernel_rfl) (by kernel_rfl) (by kernel_rfl) (fun _ _ _ h => h) (Or.inl ⟨by rfl, ?_⟩) hHeld ?_
  rotate_left 1
  · intro u hSu
    obtain ⟨b0, b1⟩ := rowR2 hSu.out.bx
    go_simp
    first | done | with_reducible rfl
  (try simp only [Act.put, List.setIfInBounds_toArray, List.set_cons_zero, List.set_cons_succ])
  refine anyU_take (i := 3) (oi := { dst := some 6, op := Op.load 22 (Operand.tmp 5), type := 22, pos := "table.go:193", after := #[{ on := 2, ground := Ground.data }], guard := none }) (v := ?_) rfl (by kernel_rfl) (by kernel_rfl) (by kernel_rfl) (by kernel_rfl) (by kernel_rfl) (fun _ _ _ h => h) (Or.inl ⟨by rfl, ?_⟩) hHeld ?_
  rotate_left 1
  · intro u hSu
    obtain ⟨b0, b1⟩ := rowR2 hSu.out.bx
    go_simp
    first | done | with_reducible rfl
  (try simp only [Act.put, List.setIfInBounds_toArray, List.set_cons_zero, List.set_cons_succ])
  refine anyU_ready (rs := [4]) (by kernel_rfl) (by simp) ?_
  refine EachU.cons (o := { dst := some 7, op := Op.call { callee := Callee.value (Operand.func 75), args := #[Operand.tmp 6], argTypes := #[22] }, type := 22, pos := "table.go:193", after := #[{ on := 3, ground := Ground.data }], guard := none }) rfl (fun Kz hK => ?_) EachU.nil
  go_simp
  go_at_call 75
  refine (tcloneI_any x.nx x.p x.c _ _ hHeld.out.rd.rd hn hHeld.out.rd.hc hm).mono ?_
  rintro e w2 ⟨v, rfl, ho, hg⟩
  obtain ⟨p1, c1, rfl, hc1, hc2⟩ := own_shape ho
  have HO := Lib.hid (And.intro (rd_of_own ho) (And.intro hc1 hc2))
  have HWS := Lib.hid (lt_rowN hHeld.out.z)
  have HN := Lib.hid (hHeld.out.keep hg)
  clear ho hg hc1 hc2
  refine hK.out _ _ (fun _ => HN) (fun hH2 => ?_)
  clear hK Kz hHeld
  have hHeld := hH2 rfl
  clear hH2
  (try simp only [Act.put, List.setIfInBounds_toArray, List.set_cons_zero, List.set_cons_succ])
  refine anyU_take (i := 5) (oi := { dst := some 8, op := Op.build 35 #[(0, Operand.tmp 4), (1, Operand.tmp 7)], type := 35, pos := "table.go:193", after := #[{ on := 1, ground := Ground.data }, { on := 4, ground := Ground.data }], guard := none }) (v := ?_) rfl (by kernel_rfl) (by kernel_rfl) (by kernel_rfl) (by kernel_rfl) (by kernel_rfl) (fun _ _ _ h => h) (Or.inl ⟨by rfl, ?_⟩) hHeld ?_
  rotate_left 1
  · intro u hSu
    obtain ⟨b0, b1⟩ := rowR2 hSu.out.bx
    go_simp
    first | done | with_reducible rfl
  (try simp only [Act.put, List.setIfInBounds_toArray, List.set_cons_zero, List.set_cons_succ])
  refine anyU_ready (rs := [6]) (by kernel_rfl) (by simp) ?_
  refine EachU.cons (o := { dst := none, op := Op.store 35 (Operand.tmp 2) (Operand.tmp 8), type := 0, pos := "table.go:193", after := #[{ on := 5, ground := Ground.data }, { on := 4, ground := Ground.chain }, { on := 0, ground := Ground.phase }, { on := 1, ground := Ground.phase }, { on := 2, ground := Ground.phase }, { on := 3, ground := Ground.phase }, { on := 4, ground := Ground.phase }, { on := 5, ground := Ground.phase }], guard := none }) rfl (fun Kz hK => ?_) EachU.nil
  have H9 := hHeld
  obtain ⟨z0, z1⟩ := rowR2 hHeld.out.z
  have f0 := frozen_of_row _ _ 0 _ _ hHeld.out.z
  have f1 := frozen_of_row _ _ 1 _ _ hHeld.out.z
  go_simp
  refine hK.out _ _ (fun h => by cases h) (fun _ => ?_)
  clear hK Kz
  (try simp only [Act.put, List.setIfInBounds_toArray, List.set_cons_zero, List.set_cons_succ])
  refine anyU_done (by kernel_rfl) ?_ _
  obtain ⟨t1, t2⟩ := storeR (.int .i64 x.id) (.slice p1 x.nx.length c1) H9.out.z
  have HT := Lib.hid (And.intro t1 (And.intro (grown_new H9.out.gr t2 (by omega)) (HO.out.1.grown t2 (fun b hb e => by have := Option.some.inj e; have := HWS.out; omega))))
  clear t1 t2 H9 z0 z1 f0 f1
  go_wp2_with fail
  refine bodyPost_ret (res_row1 rfl _ _ (w.heap.size + 1) _ _ rfl HT.out.1) rfl ?_
  exact ⟨p1, c1, rfl, ⟨HT.out.2.2.mono (fun b hb => by have := HWS.out; omega), HO.out.2.1, HO.out.2.2⟩, HT.out.2.1⟩
set_option maxRecDepth 100000 in
set_option maxHeartbeats 1600000 in
theorem tidxW2_any (g : Nat) (lb : Array Value) (P : Rw → Bool) (eg : EnterF g) (R : List Rw) (p : Option Addr) (c : Nat) (q : Nat → Prop) (w : World) (hR : RdF w q (.slice p R.length c) R.length (R.flatMap rwC)) (hm : R.length ≤ 9223372036854775807)
    (hP : ∀ (r : Rw) (w' : World), r ∈ R → w.grownBy w' none → Calls Try.prog g (#[.agg #[.int .i64 r.id, .slice r.p r.nx.length r.c]] ++ lb) w' fun e w2 => e = .returned (.bool (P r)) ∧ w'.grownBy w2 none) :
    Calls Try.prog 51 #[.slice p R.length c, .func (.func g) #[] lb] w fun e w' => ∃ i : Int, e = .returned (.int .i64 i) ∧ ((i = -1 ∧ (R.take R.length).any P = false) ∨ ∃ (k : Nat) (x : Rw), i = (k : Int) ∧ R[k]? = some x ∧ P x = true ∧ (R.take k).any P = false) ∧ w.grownBy w' none := by
  have HR := Lib.hid hR
  have HP := Lib.hid hP
  clear hR hP
  go_enter Try.func51, Try.ntmps51
  go_wp2_with fail
  go_loopw [8] (fun a wr => ∃ k : Nat, k ≤ R.length ∧ a = .int .i64 (k : Int) ∧ Hid (w.grownBy wr none) ∧ Hid ((R.take k).any P = false)) (fun a _ => R.length - (RowKit.intOf a).toNat)
  case atStart => exact ⟨0, Nat.zero_le _, rfl, Lib.hid (grown_refl _ _), Lib.hid (by simp)⟩
  case round =>
    obtain ⟨k, hk, rfl, G, HN⟩ := hrel
    by_cases hlt : k < R.length
    · obtain ⟨x, hx⟩ : ∃ x, R[k]? = some x := ⟨_, List.getElem?_eq_getElem hlt⟩
      obtain ⟨-, b, off, rfl, hq, hc⟩ := rw_cells (HR.out.keep G.out) (by omega)
      obtain ⟨a0, a1⟩ := hc k x hx
      have HX := Lib.hid hx
      clear hc hx
      have hcall := HP.out x wr (List.mem_of_getElem? HX.out) G.out
      cases hp : P x
      · rw [hp] at hcall
        have HY := Lib.hid hp
        clear hp
        go_wp2_with (go_at_fn g; refine hcall.mono ?_; rintro e w' ⟨rfl, hg⟩; have HG := Lib.hid (grown_trans G.out hg); clear hg)
        exact ⟨⟨k + 1, by omega, congrArg _ (by omega), HG, Lib.hid (any_take HN.out HX.out HY.out)⟩, by simp only [RowKit.intOf]; omega⟩
      · rw [hp] at hcall
        have HY := Lib.hid hp
        clear hp
        go_wp2_with (go_at_fn g; refine hcall.mono ?_; rintro e w' ⟨rfl, hg⟩; have HG := Lib.hid (grown_trans G.out hg); clear hg)
        go_ret
        exact ⟨_, rfl, Or.inr ⟨k, x, rfl, HX.out, HY.out, HN.out⟩, HG.out⟩
    · obtain rfl : k = R.length := by omega
      go_wp2_with fail
      go_ret
      exact ⟨_, rfl, Or.inl ⟨rfl, HN.out⟩, G.out⟩
set_option maxRecDepth 100000 in
theorem trow1_any (x : Rw) (g : Nat) (id : Int) (w : World) (hg : w.cell? ⟨g, 0, none⟩ = some (.int .i64 id)) :
    Calls Try.prog 52 #[.agg #[.int .i64 x.id, .slice x.p x.nx.length x.c], .pointer (some ⟨g, 0, none⟩)] w fun e w' => e = .returned (.bool (isW id x)) ∧ w.grownBy w' none := by
  obtain ⟨k1, k2⟩ := tone_box w #[.int .i64 x.id, .slice x.p x.nx.length x.c] 35
  have HB := Lib.hid (And.intro k1 k2)
  have hg2 := k2.cell hg (by simp)
  have HI : Hid (isW id x = decide (x.id = id)) := Lib.hid rfl
  clear k1 k2 hg
  go_enter Try.func52, Try.ntmps52
  go_upto_region 1 with fail
  generalize w.alloc _ = w1 at *
  obtain ⟨c0, c1⟩ := rowR2 HB.out.1
  by_cases e : x.id = id
  · have e' : (x.id == id) = true := by simpa using e
    have HE : Hid (isW id x = true) := Lib.hid (by rw [HI.out]; exact decide_eq_true e)
    clear e
    go_wp2_with fail
    go_ret
    exact ⟨by rw [HE.out]; rfl, HB.out.2⟩
  · have e' : (x.id == id) = false := by simpa using e
    have HE : Hid (isW id x = false) := Lib.hid (by rw [HI.out]; exact decide_eq_false e)
    clear e
    go_wp2_with fail
    go_ret
    exact ⟨by rw [HE.out]; rfl, HB.out.2⟩
set_option maxRecDepth 100000 in
theorem fw_none {L : List Rw} {id : Int} (h : (L.take L.length).any (isW id) = false) : fdW L id = none := by
  rw [List.take_length] at h
  unfold fdW
  rw [List.find?_eq_none]
  intro x hx hw
  have := List.any_eq_false.1 h x hx
  exact this hw
set_option maxRecDepth 100000 in
theorem fw_some {L : List Rw} {id : Int} {k : Nat} {x : Rw} (h : (L.take k).any (isW id) = false) (hx : L[k]? = some x) (hp : isW id x = true) : fdW L id = some x := by
  refine fw_hit (k := k) ?_ hx (of_decide_eq_true hp)
  rw [List.find?_eq_none]
  intro y hy hw
  exact List.any_eq_false.1 h y hy hw
/-- The boxes of Row. -/
structure TRW (W : World) (r s n : Int) (p : Option Addr) (c : Nat) (L : List Rw) (id : Int) (w : World) : Prop where
  bx : w.heap[W.heap.size]? = some (.cells #[.int .i64 r, .int .i64 s, .int .i64 n, .slice p L.length c] 27 (0, 0))
  ib : w.cell? ⟨W.heap.size + 1, 0, none⟩ = some (.int .i64 id)
  z : w.heap[W.heap.size + 2]? = some (.cells #[.int .i64 0, .slice none 0 0] 35 (0, 0))
  rd : RdW w (· < W.heap.size) p c L
  gr : W.grownBy w none
set_option maxRecDepth 100000 in
theorem TRW.keep {W w w1 : World} {r s n : Int} {p : Option Addr} {c : Nat} {L : List Rw} {id : Int} (h : TRW W r s n p c L id w) (g : w.grownBy w1 none) : TRW W r s n p c L id w1 :=
  ⟨kept_row h.bx g (by simp), g.cell h.ib (by simp), kept_row h.z g (by simp), h.rd.keep g, grown_trans h.gr g⟩
set_option maxRecDepth 100000 in
theorem trw_start {w : World} {r s n : Int} {p : Option Addr} {c : Nat} {L : List Rw} (id : Int) (hR : RdW w (· < w.heap.size) p c L) : TRW w r s n p c L id (((w.alloc (.cells #[.int .i64 r, .int .i64 s, .int .i64 n, .slice p L.length c] 27)).alloc (.cells #[.int .i64 id] 3)).alloc (.cells #[.int .i64 0, .slice none 0 0] 35)) := by
  obtain ⟨k1, k2, k3, k4⟩ := two_boxes w #[.int .i64 r, .int .i64 s, .int .i64 n, .slice p L.length c] #[.int .i64 id] 27 3
  obtain ⟨w2, hw2⟩ : ∃ w2, (w.alloc (.cells #[.int .i64 r, .int .i64 s, .int .i64 n, .slice p L.length c] 27)).alloc (.cells #[.int .i64 id] 3) = w2 := ⟨_, rfl⟩
  rw [hw2] at k1 k2 k3 k4 ⊢
  obtain ⟨m1, m2⟩ := tone_box w2 #[.int .i64 0, .slice none 0 0] 35
  rw [k4] at m1
  exact ⟨kept_row k1 m2 (by simp), m2.cell (cell_of_row _ _ 0 _ _ _ k2) (by simp), m1, (hR.keep k3).keep m2, grown_trans k3 m2⟩
set_option maxRecDepth 100000 in
set_option maxHeartbeats 3200000 in
theorem trow_any (r s n : Int) (p : Option Addr) (c : Nat) (L : List Rw) (id : Int) (w : World) (hR : RdW w (· < w.heap.size) p c L) (hm : L.length ≤ 9223372036854775807) (hN : ∀ x ∈ L, x.p = none → x.c = 0) (hl : ∀ x ∈ L, x.nx.length ≤ 1000) :
    Calls Try.prog 36 #[.agg #[.int .i64 r, .int .i64 s, .int .i64 n, .slice p L.length c], .int .i64 id] w fun e w' => ∃ (p1 : Option Addr) (c1 : Nat), e = .returned (.tuple #[.agg #[.int .i64 ((fdW L id).getD zRw).id, .slice p1 ((fdW L id).getD zRw).nx.length c1], .bool (fdW L id).isSome]) ∧ RwOk w' (w.heap.size ≤ ·) ⟨((fdW L id).getD zRw).id, ((fdW L id).getD zRw).nx, p1, c1⟩ ∧ w.grownBy w' none := by
  have e1 : EnterF 52 := enters_of Try.func52 (by kernel_rfl) rfl
  have H0 := Lib.hid (trw_start (r := r) (s := s) (n := n) id hR)
  have HNL := Lib.hid (And.intro hN hl)
  have EG := Lib.hid e1
  clear hR hN hl e1
  go_enter Try.func36, Try.ntmps36
  go_upto_region 1 with fail
  generalize ((w.alloc _).alloc _).alloc _ = wa at *
  obtain ⟨d0, d1, d2, d3⟩ := row4T H0.out.bx
  go_wp2_with fail
  refine (tidxW2_any 52 #[.pointer (some ⟨w.heap.size + 1, 0, none⟩)] (isW id) EG.out L p c _ wa H0.out.rd.rd hm (fun x w' hx g => trow1_any x (w.heap.size + 1) id w' (g.cell H0.out.ib (by simp)))).mono ?_
  rintro e w2 ⟨i, rfl, hi, hg⟩
  have K := Lib.hid (H0.out.keep hg)
  clear hg H0 d0 d1 d2 d3
  rcases hi with ⟨rfl, hi⟩ | ⟨k, x, rfl, hx, hp, hn⟩
  · have HF := Lib.hid (fw_none hi)
    clear hi
    obtain ⟨z0, z1⟩ := rowR2 K.out.z
    have f0 := frozen_of_row _ _ 0 _ _ K.out.z
    have f1 := frozen_of_row _ _ 1 _ _ K.out.z
    obtain ⟨t1, t2⟩ := storeR (.int .i64 0) (.slice none 0 0) K.out.z
    have HT := Lib.hid (And.intro t1 (grown_new K.out.gr t2 (by omega)))
    clear t1 t2 K
    go_wp2_with fail
    refine bodyPost_ret (res_row_b rfl _ _ (w.heap.size + 2) _ _ rfl HT.out.1) rfl ?_
    exact ⟨none, 0, by rw [HF.out]; rfl, by rw [HF.out]; exact ⟨⟨none, 0, rfl, fun h => absurd rfl h⟩, ⟨Nat.le_refl _, by show (0 : Nat) ≤ _; omega⟩⟩, HT.out.2⟩
  · have HF := Lib.hid (fw_some hn hx hp)
    have hk0 : ¬ (k : Int) < 0 := by omega
    have hk00 : (0 : Int) ≤ (k : Int) := by omega
    have hkl : k < L.length := by
      rcases Nat.lt_or_ge k L.length with h | h
      · exact h
      · rw [List.getElem?_eq_none h] at hx; cases hx
    have hkl' : (k : Int) < (L.length : Int) := by omega
    obtain ⟨-, b, off, rfl, -, hc⟩ := rw_cells K.out.rd.rd (by omega)
    obtain ⟨a0, a1⟩ := hc k x hx
    have HX := Lib.hid (List.mem_of_getElem? hx)
    obtain ⟨d0, d1, d2, d3⟩ := row4T K.out.bx
    clear hc hx hn hp
    go_wp2_with fail
    refine (tcopied_any x w2 ((K.out.rd.ok x HX.out).mono (fun b (hb : b < w.heap.size) => Nat.lt_of_lt_of_le hb K.out.gr.size)) (HNL.out.1 x HX.out) (HNL.out.2 x HX.out)).mono ?_
    rintro e w3 ⟨p1, c1, rfl, hok, hg⟩
    have K2 := Lib.hid (K.out.keep hg)
    have HO := Lib.hid hok
    have HW2 := Lib.hid (lt_rowN K.out.z)
    clear hg hok K d0 d1 d2 d3 a0 a1
    obtain ⟨z0, z1⟩ := rowR2 K2.out.z
    have f0 := frozen_of_row _ _ 0 _ _ K2.out.z
    have f1 := frozen_of_row _ _ 1 _ _ K2.out.z
    obtain ⟨t1, t2⟩ := storeR (.int .i64 x.id) (.slice p1 x.nx.length c1) K2.out.z
    have HT := Lib.hid (And.intro t1 (And.intro (grown_new K2.out.gr t2 (by omega)) (HO.out.grown t2 (fun b hb e => by have := Option.some.inj e; have := HW2.out; omega))))
    clear t1 t2 K2 HO
    go_wp2_with fail
    refine bodyPost_ret (res_row_b rfl _ _ (w.heap.size + 2) _ _ rfl HT.out.1) rfl ?_
    exact ⟨p1, c1, by rw [HF.out]; rfl, by rw [HF.out]; exact HT.out.2.2.mono (fun b hb => by have := HW2.out; omega), HT.out.2.1⟩
set_option maxRecDepth 100000 in
set_option maxHeartbeats 3200000 in
theorem mnxt_any (r s n : Int) (p : Option Addr) (c : Nat) (L : List Rw) (id pl : Int) (w : World) (hR : RdW w (· < w.heap.size) p c L) (hm : L.length ≤ 9223372036854775807) (hN : ∀ x ∈ L, x.p = none → x.c = 0) :
    Calls Try.prog 17 #[.agg #[.int .i64 r, .int .i64 s, .int .i64 n, .slice p L.length c], .int .i64 id, .int .i64 pl] w fun e w' => e = .returned (.int .i64 (nxO r s n L id pl)) ∧ w.grownBy w' none := by
  have H0 := Lib.hid (bx_start (r := r) (s := s) (n := n) hR)
  have HNN := Lib.hid hN
  clear hR hN
  go_enter Try.func17, Try.ntmps17
  go_upto_region 1 with fail
  generalize w.alloc _ = wa at *
  obtain ⟨d0, d1, d2, d3⟩ := row4T H0.out.bx
  go_wp2_with fail
  refine (mvalid_any r s n p c L pl _ wa H0.out.rd hm).mono ?_
  rintro e w1 ⟨rfl, hg⟩
  have K := Lib.hid (H0.out.keep hg)
  clear hg H0 d0 d1 d2 d3
  cases hv : vaT r s n L pl
  case false =>
    have HZ := Lib.hid (nxO_no (id := id) hv)
    clear hv
    go_wp2_with fail
    go_ret
    exact ⟨by rw [HZ.out]; rfl, K.out.gr⟩
  have hv2 : (0 ≤ pl ∧ pl < 8) ∧ ckT r s n L = 0 := by unfold vaT at hv; exact of_decide_eq_true hv
  obtain ⟨k, rfl⟩ := Int.eq_ofNat_of_zero_le hv2.1.1
  have hk : k < 8 := by have := hv2.1.2; omega
  have HZ := Lib.hid (nxO_yes (id := id) hv)
  have HL : Hid (∀ x ∈ L, x.nx.length ≤ 1000) := Lib.hid (fun x hx => by
    have := any_memT (ck_ok hv2.2).2.2.2.1 hx
    unfold lgW at this
    simp at this
    omega)
  clear hv hv2
  obtain ⟨d0, d1, d2, d3⟩ := row4T K.out.bx
  go_wp2_with fail
  refine (trow_any r s n p c L id w1 K.out.rd hm HNN.out HL.out).mono ?_
  rintro e w2 ⟨p1, c1, rfl, hok, hg⟩
  have HH : Hid (hopI L id k = nxI ((fdW L id).getD zRw).nx k) := Lib.hid rfl
  have G2 := Lib.hid (grown_trans K.out.gr hg)
  have HX := Lib.hid hok
  clear hg hok K d0 d1 d2 d3
  generalize (fdW L id).isSome = ob at *
  obtain ⟨X, hX⟩ : ∃ X, ((fdW L id).getD zRw).nx = X := ⟨_, rfl⟩
  obtain ⟨xi, hxi⟩ : ∃ xi, ((fdW L id).getD zRw).id = xi := ⟨_, rfl⟩
  rw [hX, hxi] at HX
  rw [hX] at HH
  rw [hX, hxi]
  clear hX hxi
  obtain ⟨k1, k2⟩ := tone_box w2 #[.int .i64 xi, .slice p1 X.length c1] 35
  have HB := Lib.hid (And.intro k1 (And.intro (grown_trans G2.out k2) (HX.out.keep k2)))
  clear k1 k2 G2 HX
  go_upto_region 4 with fail
  generalize w2.alloc _ = w3 at *
  obtain ⟨c0, c1'⟩ := rowR2 HB.out.1
  go_wp2_with fail
  refine (mnext_any ⟨xi, X, p1, c1⟩ k hk _ w3 HB.out.2.2).mono ?_
  rintro e w4 ⟨rfl, hg⟩
  have G := Lib.hid (grown_trans HB.out.2.1 hg)
  clear hg HB c0 c1'
  go_wp2_with fail
  go_ret
  exact ⟨by rw [HZ.out, HH.out]; rfl, G.out⟩
end Go.Proofs.Ytgofadmncgmhoaa

/- tables: rows that are their owner's. -/
namespace Go.Proofs.Ytgofadmncgmhoaa
open Go.RowKit Bs
def Rw.v (x : Rw) : Value := .slice x.p x.nx.length x.c
/-- A slice of rows, and the next hops of each, are in blocks of their own. -/
structure OwnT (lo : Nat) (w : World) (v : Value) (M : List Rw) : Prop where
  own : w.ownsRow lo 35 2 v M.length (M.flatMap rwC)
  nx : ∀ x ∈ M, w.ownsRow lo 3 1 x.v x.nx.length (x.nx.map tv)
  ap : ∀ x ∈ M, ∀ g, x.v.ownBlock = some g → v.ownBlock ≠ some g
  pw : M.Pairwise fun x y => ∀ g, x.v.ownBlock = some g → y.v.ownBlock ≠ some g
set_option maxRecDepth 100000 in
theorem own_keptN {w w1 : World} {base size n : Nat} {e : TypeId} {v : Value} {xs : List Value} (h : w.ownsRow base e size v n xs) (g : w.grownBy w1 none) : w1.ownsRow base e size v n xs := h.kept g (by cases v.ownBlock <;> simp)
set_option maxRecDepth 100000 in
theorem own_keptV {w w1 : World} {base size n : Nat} {e : TypeId} {v : Value} {u : Value} {xs : List Value} (h : w.ownsRow base e size v n xs) (g : w.grownBy w1 u.ownBlock) (hne : ∀ b, v.ownBlock = some b → u.ownBlock ≠ some b) : w1.ownsRow base e size v n xs := by
  refine h.kept g ?_
  cases hv : v.ownBlock with
  | none => exact .inl rfl
  | some b => exact .inr (fun e => hne b hv e.symm)
set_option maxRecDepth 100000 in
theorem own_otherL {w w' : World} {base size n b : Nat} {e : TypeId} {v : Value} {xs : List Value} (h : w.ownsRow base e size v n xs) (g : w.grownBy w' (some b)) (hb : b < base) : w'.ownsRow base e size v n xs := by
  refine h.kept g ?_
  cases hv : v.ownBlock with
  | none => exact .inl rfl
  | some k => exact .inr (fun e => by have := (h.lt k hv).1; have := Option.some.inj e; omega)
set_option maxRecDepth 100000 in
theorem OwnT.nil (lo : Nat) (w : World) : OwnT lo w (.slice none 0 0) [] := ⟨World.ownsRow_nil _ _ _ _, fun x hx => (by cases hx), fun x hx => (by cases hx), List.Pairwise.nil⟩
set_option maxRecDepth 100000 in
theorem OwnT.keep {lo : Nat} {w w1 : World} {v : Value} {M : List Rw} (h : OwnT lo w v M) (g : w.grownBy w1 none) : OwnT lo w1 v M := ⟨own_keptN h.own g, fun x hx => own_keptN (h.nx x hx) g, h.ap, h.pw⟩
set_option maxRecDepth 100000 in
theorem OwnT.mono {lo lo2 : Nat} {w : World} {v : Value} {M : List Rw} (h : OwnT lo w v M) (hl : lo2 ≤ lo) : OwnT lo2 w v M := ⟨h.own.mono hl, fun x hx => (h.nx x hx).mono hl, h.ap, h.pw⟩
set_option maxRecDepth 100000 in
/-- A store elsewhere. -/
theorem OwnT.over {lo r : Nat} {w w1 : World} {v : Value} {M : List Rw} (h : OwnT lo w v M) (g : w.grownBy w1 (some r)) (hr : r < lo) : OwnT lo w1 v M :=
  ⟨own_otherL h.own g hr, fun x hx => own_otherL (h.nx x hx) g hr, h.ap, h.pw⟩
set_option maxRecDepth 100000 in
theorem OwnT.push {lo : Nat} {w0 w w1 : World} {v v' : Value} {M : List Rw} {x : Rw} (h : OwnT lo w0 v M) (hlo : lo ≤ w0.heap.size) (g0 : w0.grownBy w none) (hx : w.ownsRow w0.heap.size 3 1 x.v x.nx.length (x.nx.map tv)) (hown : w1.ownsRow lo 35 2 v' (M ++ [x]).length ((M ++ [x]).flatMap rwC)) (g : w.grownBy w1 v.ownBlock) (hv : v'.ownBlock = v.ownBlock ∨ ∀ b, some b = v'.ownBlock → w.heap.size ≤ b) : OwnT lo w1 v' (M ++ [x]) := by
  have hvl : ∀ b, v.ownBlock = some b → b < w0.heap.size := fun b e => (h.own.lt b e).2
  have hyl : ∀ y ∈ M, ∀ b, y.v.ownBlock = some b → b < w0.heap.size := fun y hy b e => ((h.nx y hy).lt b e).2
  have hxl : ∀ b, x.v.ownBlock = some b → w0.heap.size ≤ b ∧ b < w.heap.size := fun b e => hx.lt b e
  have hv' : ∀ b, v'.ownBlock = some b → (v.ownBlock = some b ∨ w.heap.size ≤ b) := fun b e => by
    rcases hv with hv | hv
    · exact Or.inl (hv ▸ e)
    · exact Or.inr (hv b e.symm)
  refine ⟨hown, fun y hy => ?_, fun y hy b hb e => ?_, ?_⟩
  · rcases List.mem_append.1 hy with hy | hy
    · exact own_keptV (own_keptN (h.nx y hy) g0) g (h.ap y hy)
    · rw [List.mem_singleton.1 hy]
      exact (own_keptV hx g (fun b hb e => by have := hxl b hb; have := hvl b e; omega)).mono hlo
  · have h0 := g0.size
    rcases List.mem_append.1 hy with hy | hy
    · rcases hv' b e with e | e
      · exact h.ap y hy b hb e
      · have := hyl y hy b hb; omega
    · rw [List.mem_singleton.1 hy] at hb
      have := hxl b hb
      rcases hv' b e with e | e
      · have := hvl b e; omega
      · omega
  · refine List.pairwise_append.2 ⟨h.pw, List.pairwise_singleton _ _, fun y hy z hz b hb e => ?_⟩
    rw [List.mem_singleton.1 hz] at e
    have := hyl y hy b hb
    have := hxl b e
    omega
set_option maxRecDepth 100000 in
theorem RdW.old {w : World} {q : Nat → Prop} {p : Option Addr} {c : Nat} {L : List Rw} (h : RdW w q p c L) : RdW w (· < w.heap.size) p c L := ⟨h.rd.old, fun x hx => ⟨(h.ok x hx).rd.old, (h.ok x hx).hc⟩⟩
/-- What copied keeps in memory. -/
structure CP (W : World) (r s n : Int) (L : List Rw) (p : Option Addr) (c : Nat) (v : Value) (M : List Rw) (w : World) : Prop where
  bT : w.heap[W.heap.size]? = some (.cells #[.int .i64 r, .int .i64 s, .int .i64 n, .slice p L.length c] 27 (0, 0))
  bR : w.heap[W.heap.size + 1]? = some (.cells #[.int .i64 0, .int .i64 0, .int .i64 0, .slice none 0 0] 27 (0, 0))
  rd : RdW w (· < W.heap.size) p c L
  own : OwnT (W.heap.size + 2) w v M
  gr : W.grownBy w none
  lo : W.heap.size + 2 ≤ w.heap.size
set_option maxRecDepth 100000 in
theorem CP.keep {W : World} {r s n : Int} {L : List Rw} {p : Option Addr} {c : Nat} {v : Value} {M : List Rw} {w w1 : World} (h : CP W r s n L p c v M w) (g : w.grownBy w1 none) : CP W r s n L p c v M w1 :=
  ⟨kept_row h.bT g (by simp), kept_row h.bR g (by simp), h.rd.keep g, h.own.keep g, grown_trans h.gr g, Nat.le_trans h.lo g.size⟩
set_option maxRecDepth 100000 in
theorem CP.push {W : World} {r s n : Int} {L : List Rw} {p : Option Addr} {c : Nat} {v v' : Value} {M : List Rw} {x : Rw} {w0 w w1 : World} (h : CP W r s n L p c v M w0) (g0 : w0.grownBy w none) (hx : w.ownsRow w0.heap.size 3 1 x.v x.nx.length (x.nx.map tv)) (hown : w1.ownsRow (W.heap.size + 2) 35 2 v' (M ++ [x]).length ((M ++ [x]).flatMap rwC)) (g : w.grownBy w1 v.ownBlock) (hv : v'.ownBlock = v.ownBlock ∨ ∀ b, some b = v'.ownBlock → w.heap.size ≤ b) : CP W r s n L p c v' (M ++ [x]) w1 := by
  have hk := h.keep g0
  have hne : ∀ b, b < W.heap.size + 2 → some b ≠ v.ownBlock := fun b hb e => by have := (h.own.own.lt b e.symm).1; omega
  exact ⟨kept_row hk.bT g (hne _ (by omega)), kept_row hk.bR g (hne _ (by omega)), hk.rd.grown g (fun b hb => hne b (by omega)), h.own.push h.lo g0 hx hown g hv, grown_any hk.gr g (fun b hb => hne b (by omega)), Nat.le_trans hk.lo g.size⟩
set_option maxRecDepth 100000 in
theorem cp_start {w : World} {q : Nat → Prop} (r s n : Int) {L : List Rw} {p : Option Addr} {c : Nat} (hR : RdW w q p c L) :
    CP w r s n L p c (.slice none 0 0) [] ((w.alloc (.cells #[.int .i64 r, .int .i64 s, .int .i64 n, .slice p L.length c] 27)).alloc (.cells #[.int .i64 0, .int .i64 0, .int .i64 0, .slice none 0 0] 27)) := by
  obtain ⟨a1, g1, z1⟩ := alloc_row (w := w) #[.int .i64 r, .int .i64 s, .int .i64 n, .slice p L.length c] 27 rfl
  generalize w.alloc _ = w1 at *
  obtain ⟨a2, g2, z2⟩ := alloc_row (w := w1) #[.int .i64 0, .int .i64 0, .int .i64 0, .slice none 0 0] 27 z1
  generalize w1.alloc _ = w2 at *
  have gg := grown_trans g1 g2
  exact ⟨kept_row a1 g2 (by simp), a2, hR.old.keep gg, OwnT.nil _ _, gg, by omega⟩
/-- The same rows, wherever they lie. -/
def rw0 (x : Rw) : Int × List Int := (x.id, x.nx)
end Go.Proofs.Ytgofadmncgmhoaa

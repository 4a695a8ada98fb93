/- Parts of the proof, packed: TaRAl, MaRHp, MaBit, MaRBt. -/
import Derived.Test.YtgofadmncgmhoaaDv14
import Derived.Test.YtgofadmncgmhoaaDv15
import Derived.Test.YtgofadmncgmhoaaDv3
import Derived.Test.YtgofadmncgmhoaaDv13
/- tables, the reference's functions: All. -/
namespace Go.Proofs.Ytgofadmncgmhoaa
open Go.RowKit Bs
set_option maxRecDepth 100000 in
set_option maxHeartbeats 12800000 in
theorem rall11_any (T : Tg) (s n : Int) (E : List Ed) (pE : Option Addr) (cE : Nat) (q q2 : Nat → Prop) (w : World) (hT : TgOk w q T) (hE : RdF w q2 (.slice pE E.length cE) E.length (E.flatMap edC)) (hm : E.length ≤ 9223372036854775807) :
    Calls Try.prog 23 #[.agg #[.slice T.pR T.R.length T.cR, .slice T.pL T.L.length T.cL], .agg #[.int .i64 s, .int .i64 n, .slice pE E.length cE]] w fun e w' => RAllPost T.R T.L s n E w e w' := by
  obtain ⟨R, L0, pR, cR, pL, cL⟩ := T
  simp only
  obtain ⟨ii, hii, hi0, hi1, hi2⟩ := info_parts info_tabT
  have H0 := Lib.hid (alT_start s n hT hE)
  clear hT hE
  go_enter Try.func23, Try.ntmps23
  go_upto_region 1 with fail
  generalize (w.alloc _).alloc _ = wa at *
  have hnil : ∀ w', ¬ (okT R L0 = true ∧ vPl s n E = true) → w.grownBy w' none → RAllPost R L0 s n E w (.returned (.tuple #[.slice none 0 0, .int .i64 1])) w' := fun w' hno g => ⟨[], none, 0, 1, rfl, Or.inr ⟨rfl, hno, rfl⟩, World.ownsRow_nil _ _ _ _, fun x hx => (by cases hx), g⟩
  have HNIL := Lib.hid hnil
  clear hnil
  obtain ⟨t0, t1⟩ := row_cells H0.out.bT
  obtain ⟨q0, q1, q2⟩ := row3B H0.out.bP
  go_wp2_with fail
  refine (rcheck_any ⟨R, L0, pR, cR, pL, cL⟩ _ wa H0.out.t).mono ?_
  rintro e w1 ⟨rfl, hg⟩
  have H1 := Lib.hid (H0.out.keep hg)
  clear hg H0 t0 t1 q0 q1 q2
  simp only
  by_cases hck : chk R L0 = 0
  case neg =>
    have hck' : (chk R L0 != 0) = true := by simpa using hck
    have HF := Lib.hid hck
    clear hck
    go_wp2_with fail
    go_ret2
    exact HNIL.out _ (fun h => HF.out (by have := h.1; unfold okT at this; simpa using this)) H1.out.gr
  have HOK : Hid (okT R L0 = true) := Lib.hid (by unfold okT; simpa using hck)
  rw [hck]
  clear hck
  obtain ⟨t0, t1⟩ := row_cells H1.out.bT
  obtain ⟨q0, q1, q2⟩ := row3B H1.out.bP
  go_wp2_with fail
  refine (irvplan_any s n E pE cE _ w1 H1.out.e hm).mono ?_
  rintro e w2 ⟨rfl, hg⟩
  have H2 := Lib.hid (H1.out.keep hg)
  clear hg H1 t0 t1 q0 q1 q2
  simp only
  cases hvp : vPl s n E
  case false =>
    have HF := Lib.hid hvp
    clear hvp
    go_wp2_with fail
    go_ret2
    exact HNIL.out _ (fun h => by rw [HF.out] at h; cases h.2) H2.out.gr
  have HVP := Lib.hid hvp
  clear hvp HNIL hm
  have hRl := (okT_len HOK.out).1
  have hEl : E.length ≤ 1000 := by
    have h := HVP.out
    unfold vPl at h
    simp only [Bool.and_eq_true, decide_eq_true_eq] at h
    omega
  go_wp2_with fail
  go_loopw [6, 7] (fun v a wr => ∃ (k : Nat) (Ts : List Tb) (p : Option Addr) (c : Nat), k ≤ R.length ∧ v = .slice p Ts.length c ∧ a = .int .i64 (k : Int) ∧ Hid (AllM R L0 s n E (R.take k) Ts) ∧ Hid (AlT w ⟨R, L0, pR, cR, pL, cL⟩ s n E pE cE (.slice p Ts.length c) Ts wr)) (fun _ a _ => R.length - (RowKit.intOf a).toNat)
  case atStart => exact ⟨0, [], none, 0, Nat.zero_le _, rfl, rfl, Lib.hid (by rw [List.take_zero]; exact AllM.nil), H2⟩
  case round =>
  clear H2
  obtain ⟨k, Ts, p, c, hk, rfl, rfl, HB, K⟩ := hrel
  obtain ⟨w5, hw5⟩ : ∃ w5, w5 = wr := ⟨_, rfl⟩
  rw [← hw5] at K ⊢
  clear hw5
  obtain ⟨t0, t1⟩ := row_cells K.out.bT
  by_cases hlt : k < R.length
  case neg =>
    obtain rfl : k = R.length := by omega
    have hnl : ¬ (R.length : Int) < (R.length : Int) := by omega
    rw [List.take_length] at HB
    have HK := Lib.hid K.out
    clear K
    go_wp2_with fail
    go_ret2
    exact ⟨Ts, p, c, 0, rfl, Or.inl ⟨rfl, HOK.out, HVP.out, HB.out⟩, HK.out.own.mono (by omega), fun x hx => by
      have h := HK.out.tabs x hx
      exact ⟨h.rd.mono (fun b hb => ⟨by have := hb.1; omega, hb.2⟩), h.hn, h.hc, h.hy⟩, HK.out.gr⟩
  have hlt' : (k : Int) < (R.length : Int) := by omega
  have hk0 : (0 : Int) ≤ (k : Int) := by omega
  obtain ⟨y, hy⟩ : ∃ y, R[k]? = some y := ⟨_, List.getElem?_eq_getElem hlt⟩
  obtain ⟨-, b, off, rfl, -, hc⟩ := rdr_cells (R := R) K.out.t.r (by omega)
  obtain ⟨a0, a1⟩ := hc k y hy
  have HY := Lib.hid hy
  clear hc hy
  cases hcap : y.cap
  case false =>
    rw [hcap] at a1
    have HB2 := Lib.hid (HB.out.skip HY.out hcap)
    clear hcap HB a0
    go_wp2_with fail
    exact ⟨⟨k + 1, Ts, p, c, by omega, rfl, congrArg _ (by omega), HB2, K⟩, by simp only [RowKit.intOf]; omega⟩
  rw [hcap] at a1
  have HC := Lib.hid hcap
  clear hcap
  have hLE : Hid (Ts.length ≤ 1000) := Lib.hid (by have := HB.out.len; rw [List.length_take] at this; omega)
  have hLl := hLE.out
  go_upto_region 8 with fail
  refine region_until (S := fun w' => Hid (w5.grownBy w' none)) (fun j => j == 11 || j == 12) (by kernel_rfl) (Lib.hid (grown_drew (grown_refl _ none))) (fun hHeld => ?_)
  refine anyU_take (i := 0) (oi := { dst := some 29, op := Op.move (Operand.tmp 6), type := 61, pos := "ref.go:165", after := #[], guard := none }) (v := ?_) rfl (by kernel_rfl) (by kernel_rfl) (by kernel_rfl) (by kernel_rfl) (by kernel_rfl) (fun _ _ _ h => h) (Or.inl ⟨by rfl, ?_⟩) hHeld ?_
  rotate_left 1
  · intro u hSu
    obtain ⟨t0u, t1u⟩ := row_cells (kept_row K.out.bT hSu.out (by simp))
    obtain ⟨q0u, q1u, q2u⟩ := row3B (kept_row K.out.bP hSu.out (by simp))
    have a0u := hSu.out.cell a0 (by simp)
    go_simp
    first | done | with_reducible rfl
  (try simp only [Act.put, List.setIfInBounds_toArray, List.set_cons_zero, List.set_cons_succ])
  refine anyU_take (i := 1) (oi := { dst := some 30, op := Op.load 55 (Operand.tmp 2), type := 55, pos := "ref.go:165", after := #[], guard := none }) (v := ?_) rfl (by kernel_rfl) (by kernel_rfl) (by kernel_rfl) (by kernel_rfl) (by kernel_rfl) (fun _ _ _ h => h) (Or.inl ⟨by rfl, ?_⟩) hHeld ?_
  rotate_left 1
  · intro u hSu
    obtain ⟨t0u, t1u⟩ := row_cells (kept_row K.out.bT hSu.out (by simp))
    obtain ⟨q0u, q1u, q2u⟩ := row3B (kept_row K.out.bP hSu.out (by simp))
    have a0u := hSu.out.cell a0 (by simp)
    go_simp
    first | done | with_reducible rfl
  (try simp only [Act.put, List.setIfInBounds_toArray, List.set_cons_zero, List.set_cons_succ])
  refine anyU_take (i := 2) (oi := { dst := some 31, op := Op.load 59 (Operand.tmp 3), type := 59, pos := "ref.go:165", after := #[], guard := none }) (v := ?_) rfl (by kernel_rfl) (by kernel_rfl) (by kernel_rfl) (by kernel_rfl) (by kernel_rfl) (fun _ _ _ h => h) (Or.inl ⟨by rfl, ?_⟩) hHeld ?_
  rotate_left 1
  · intro u hSu
    obtain ⟨t0u, t1u⟩ := row_cells (kept_row K.out.bT hSu.out (by simp))
    obtain ⟨q0u, q1u, q2u⟩ := row3B (kept_row K.out.bP hSu.out (by simp))
    have a0u := hSu.out.cell a0 (by simp)
    go_simp
    first | done | with_reducible rfl
  (try simp only [Act.put, List.setIfInBounds_toArray, List.set_cons_zero, List.set_cons_succ])
  refine anyU_take (i := 3) (oi := { dst := some 32, op := Op.fieldAddr 55 (Operand.tmp 2) 0, type := 0, pos := "ref.go:165", after := #[], guard := none }) (v := ?_) rfl (by kernel_rfl) (by kernel_rfl) (by kernel_rfl) (by kernel_rfl) (by kernel_rfl) (fun _ _ _ h => h) (Or.inl ⟨by rfl, ?_⟩) hHeld ?_
  rotate_left 1
  · intro u hSu
    obtain ⟨t0u, t1u⟩ := row_cells (kept_row K.out.bT hSu.out (by simp))
    obtain ⟨q0u, q1u, q2u⟩ := row3B (kept_row K.out.bP hSu.out (by simp))
    have a0u := hSu.out.cell a0 (by simp)
    go_simp
    first | done | with_reducible rfl
  (try simp only [Act.put, List.setIfInBounds_toArray, List.set_cons_zero, List.set_cons_succ])
  refine anyU_take (i := 4) (oi := { dst := some 33, op := Op.load 52 (Operand.tmp 32), type := 52, pos := "ref.go:165", after := #[{ on := 3, ground := Ground.data }], guard := none }) (v := ?_) rfl (by kernel_rfl) (by kernel_rfl) (by kernel_rfl) (by kernel_rfl) (by kernel_rfl) (fun _ _ _ h => h) (Or.inl ⟨by rfl, ?_⟩) hHeld ?_
  rotate_left 1
  · intro u hSu
    obtain ⟨t0u, t1u⟩ := row_cells (kept_row K.out.bT hSu.out (by simp))
    obtain ⟨q0u, q1u, q2u⟩ := row3B (kept_row K.out.bP hSu.out (by simp))
    have a0u := hSu.out.cell a0 (by simp)
    go_simp
    first | done | with_reducible rfl
  (try simp only [Act.put, List.setIfInBounds_toArray, List.set_cons_zero, List.set_cons_succ])
  refine anyU_take (i := 5) (oi := { dst := some 34, op := Op.move (Operand.tmp 7), type := 3, pos := "ref.go:165", after := #[], guard := none }) (v := ?_) rfl (by kernel_rfl) (by kernel_rfl) (by kernel_rfl) (by kernel_rfl) (by kernel_rfl) (fun _ _ _ h => h) (Or.inl ⟨by rfl, ?_⟩) hHeld ?_
  rotate_left 1
  · intro u hSu
    obtain ⟨t0u, t1u⟩ := row_cells (kept_row K.out.bT hSu.out (by simp))
    obtain ⟨q0u, q1u, q2u⟩ := row3B (kept_row K.out.bP hSu.out (by simp))
    have a0u := hSu.out.cell a0 (by simp)
    go_simp
    first | done | with_reducible rfl
  (try simp only [Act.put, List.setIfInBounds_toArray, List.set_cons_zero, List.set_cons_succ])
  refine anyU_take (i := 6) (oi := { dst := some 35, op := Op.indexAddr 52 (Operand.tmp 33) (Operand.tmp 34), type := 0, pos := "ref.go:165", after := #[{ on := 4, ground := Ground.data }, { on := 5, ground := Ground.data }], guard := none }) (v := ?_) rfl (by kernel_rfl) (by kernel_rfl) (by kernel_rfl) (by kernel_rfl) (by kernel_rfl) (fun _ _ _ h => h) (Or.inl ⟨by rfl, ?_⟩) hHeld ?_
  rotate_left 1
  · intro u hSu
    obtain ⟨t0u, t1u⟩ := row_cells (kept_row K.out.bT hSu.out (by simp))
    obtain ⟨q0u, q1u, q2u⟩ := row3B (kept_row K.out.bP hSu.out (by simp))
    have a0u := hSu.out.cell a0 (by simp)
    go_simp
    first | done | with_reducible rfl
  (try simp only [Act.put, List.setIfInBounds_toArray, List.set_cons_zero, List.set_cons_succ])
  refine anyU_take (i := 7) (oi := { dst := some 36, op := Op.fieldAddr 82 (Operand.tmp 35) 0, type := 0, pos := "ref.go:165", after := #[{ on := 6, ground := Ground.data }], guard := none }) (v := ?_) rfl (by kernel_rfl) (by kernel_rfl) (by kernel_rfl) (by kernel_rfl) (by kernel_rfl) (fun _ _ _ h => h) (Or.inl ⟨by rfl, ?_⟩) hHeld ?_
  rotate_left 1
  · intro u hSu
    obtain ⟨t0u, t1u⟩ := row_cells (kept_row K.out.bT hSu.out (by simp))
    obtain ⟨q0u, q1u, q2u⟩ := row3B (kept_row K.out.bP hSu.out (by simp))
    have a0u := hSu.out.cell a0 (by simp)
    go_simp
    first | done | with_reducible rfl
  (try simp only [Act.put, List.setIfInBounds_toArray, List.set_cons_zero, List.set_cons_succ])
  refine anyU_take (i := 8) (oi := { dst := some 37, op := Op.load 3 (Operand.tmp 36), type := 3, pos := "ref.go:165", after := #[{ on := 7, ground := Ground.data }], guard := none }) (v := ?_) rfl (by kernel_rfl) (by kernel_rfl) (by kernel_rfl) (by kernel_rfl) (by kernel_rfl) (fun _ _ _ h => h) (Or.inl ⟨by rfl, ?_⟩) hHeld ?_
  rotate_left 1
  · intro u hSu
    obtain ⟨t0u, t1u⟩ := row_cells (kept_row K.out.bT hSu.out (by simp))
    obtain ⟨q0u, q1u, q2u⟩ := row3B (kept_row K.out.bP hSu.out (by simp))
    have a0u := hSu.out.cell a0 (by simp)
    go_simp
    first | done | with_reducible rfl
  (try simp only [Act.put, List.setIfInBounds_toArray, List.set_cons_zero, List.set_cons_succ])
  refine anyU_ready (rs := [9]) (by kernel_rfl) (by simp) ?_
  refine EachU.cons (o := { dst := some 38, op := Op.call { callee := Callee.value (Operand.func 45), args := #[Operand.tmp 30, Operand.tmp 31, Operand.tmp 37], argTypes := #[55, 59, 3] }, type := 27, pos := "ref.go:165", after := #[{ on := 1, ground := Ground.data }, { on := 2, ground := Ground.data }, { on := 8, ground := Ground.data }], guard := none }) rfl (fun Kz hK => ?_) EachU.nil
  go_simp
  go_at_call 45
  refine (rbuild_any ⟨R, L0, some ⟨b, off, none⟩, cR, pL, cL⟩ s n y.id E pE cE _ _ _ (K.out.keep hHeld.out).t (K.out.keep hHeld.out).e hEl).mono ?_
  rintro e' w7 ⟨L, p2, c2, rfl, hown, hrows, hM, hg⟩
  have HBL := Lib.hid (And.intro (hown.mono (base := _) hHeld.out.size) (And.intro (fun x hx => (⟨(hrows x hx).1.mono (fun b hb => ⟨Nat.le_trans hHeld.out.size hb.1, hb.2⟩), (hrows x hx).2⟩ : RdX w5.heap.size w7 _ _ _ _)) hM))
  have HN := Lib.hid (grown_trans hHeld.out hg)
  clear hown hrows hM hg
  simp only
  refine hK.out _ _ (fun _ => HN) (fun hH2 => ?_)
  clear hK Kz hHeld
  have hHeld := hH2 rfl
  clear hH2
  (try simp only [Act.put, List.setIfInBounds_toArray, List.set_cons_zero, List.set_cons_succ])
  refine anyU_ready (rs := [10]) (by kernel_rfl) (by simp) ?_
  refine EachU.cons (o := { dst := some 39, op := Op.buildSlice 61 1 #[(0, Operand.tmp 38)], type := 61, pos := "ref.go:165", after := #[{ on := 9, ground := Ground.data }], guard := none }) rfl (fun Kz hK => ?_) EachU.nil
  have K7 := Lib.hid (K.out.keep hHeld.out)
  go_simp
  refine hK.out _ _ (fun _ => hid_more hHeld (World.grownBy_alloc _ _ _)) (fun hH2 => ?_)
  clear hK Kz hHeld
  have hHeld := hH2 rfl
  clear hH2
  (try simp only [Act.put, List.setIfInBounds_toArray, List.set_cons_zero, List.set_cons_succ])
  refine anyU_ready (rs := [11]) (by kernel_rfl) (by simp) ?_
  refine EachU.cons (o := { dst := some 40, op := Op.call { callee := Callee.builtin Builtin.append, args := #[Operand.tmp 29, Operand.tmp 39], argTypes := #[61, 61] }, type := 61, pos := "ref.go:165", after := #[{ on := 0, ground := Ground.data }, { on := 10, ground := Ground.data }, { on := 9, ground := Ground.chain }], guard := none }) rfl (fun Kz hK => ?_) EachU.nil
  refine step_append_lies _ (by rfl) _ _ 61 (by rfl) (w.heap.size + 2) 27 ii (.agg #[.int .i64 0, .int .i64 0, .int .i64 0, .slice none 0 0]) 4 48 Try.underlying61 hii hi0 hi1 hi2 rfl (by decide) (.slice p Ts.length c) Ts.length (Ts.flatMap tbC) (by rfl) (K7.out.own.alloc _) ⟨w7.heap.size, 0, none⟩ 1 1 (tbC ⟨y.id, s, n, L, p2, c2⟩) (by rfl) (by rfl) (tb_row w7 ⟨y.id, s, n, L, p2, c2⟩ _) (tb_one ⟨y.id, s, n, L, p2, c2⟩) (by decide) (by unfold maxLen; omega) (by omega) (by have := K7.out.lo; simp; omega) _ rfl ?_
  intro g cap w8 hown8 hgrow hat hlt8
  have ga := World.grownBy_alloc w7 (.cells #[.int .i64 y.id, .int .i64 s, .int .i64 n, .slice p2 L.length c2] 27) none
  have hv : (Value.slice (some ⟨g, 0, none⟩) (Ts.length + 1) cap).ownBlock = (Value.slice p Ts.length c).ownBlock ∨ ∀ b, some b = (Value.slice (some ⟨g, 0, none⟩) (Ts.length + 1) cap).ownBlock → (w7.alloc (.cells #[.int .i64 y.id, .int .i64 s, .int .i64 n, .slice p2 L.length c2] 27)).heap.size ≤ b := by
    rcases hat with h | h
    · exact Or.inl h.symm
    · refine Or.inr fun b e => ?_
      have e2 : some b = some g := e
      have := Option.some.inj e2
      rw [this, h]
      exact Nat.le_refl _
  have K8 := (K7.out.keep ga).push (x := ⟨y.id, s, n, L, p2, c2⟩) (v' := .slice (some ⟨g, 0, none⟩) (Ts.length + 1) cap) ((tbx_of_bld y.id s n HBL.out.1 HBL.out.2.1 (fun b e => (K.out.own.lt b e).2) K.out.lo).keep ga) (by rw [List.length_append, List.flatMap_append]; simpa [tbC] using hown8) hgrow hv
  have HB2 := Lib.hid (HB.out.push HY.out HC.out HBL.out.2.2 p2 c2)
  have HLL : Hid ((Ts ++ [(⟨y.id, s, n, L, p2, c2⟩ : Tb)]).length = Ts.length + 1) := Lib.hid (by rw [List.length_append]; rfl)
  have K8 := Lib.hid K8
  clear hown8 hgrow hat hlt8 ga hv K7 HBL
  refine hK.out _ _ (fun h => by cases h) (fun _ => ?_)
  clear hK Kz
  (try simp only [Act.put, List.setIfInBounds_toArray, List.set_cons_zero, List.set_cons_succ])
  refine anyU_ready (rs := [12]) (by kernel_rfl) (by simp) ?_
  refine EachU.cons (o := { dst := some 6, op := Op.assign (Operand.tmp 40), type := 61, pos := "ref.go:165", after := #[{ on := 11, ground := Ground.data }, { on := 11, ground := Ground.chain }, { on := 0, ground := Ground.phase }, { on := 1, ground := Ground.phase }, { on := 2, ground := Ground.phase }, { on := 3, ground := Ground.phase }, { on := 4, ground := Ground.phase }, { on := 5, ground := Ground.phase }, { on := 6, ground := Ground.phase }, { on := 7, ground := Ground.phase }, { on := 8, ground := Ground.phase }, { on := 9, ground := Ground.phase }, { on := 10, ground := Ground.phase }, { on := 11, ground := Ground.phase }], guard := none }) rfl (fun Kz hK => ?_) EachU.nil
  go_simp
  refine hK.out _ _ (fun h => by cases h) (fun _ => ?_)
  clear hK Kz
  (try simp only [Act.put, List.setIfInBounds_toArray, List.set_cons_zero, List.set_cons_succ])
  refine anyU_done (by kernel_rfl) ?_ _
  clear hHeld t0 t1 a0 a1
  go_wp2_with fail
  exact ⟨⟨k + 1, Ts ++ [⟨y.id, s, n, L, p2, c2⟩], some ⟨g, 0, none⟩, cap, by omega, by rw [HLL.out], congrArg _ (by omega), HB2, by rw [HLL.out]; exact K8⟩, by simp only [RowKit.intOf]; omega⟩
end Go.Proofs.Ytgofadmncgmhoaa

/- tables, the reference's functions: Hop. -/
namespace Go.Proofs.Ytgofadmncgmhoaa
open Go.RowKit Go.Maps Bs
end Go.Proofs.Ytgofadmncgmhoaa

/- masks, the reference's Bits: the mathematics. -/
namespace Go.Proofs.Ytgofadmncgmhoaa
open Go.RowKit Go.Maps Bs
set_option maxRecDepth 100000 in
theorem ascW_pair : ∀ E : List Rw, ascB ltW E = true → E.Pairwise (fun x y => x.id < y.id)
  | [], _ => List.Pairwise.nil
  | [a], _ => List.pairwise_singleton _ _
  | a :: b :: t, h => by
    rw [ascB, Bool.and_eq_true] at h
    have ih := ascW_pair (b :: t) h.2
    have hab : a.id < b.id := of_decide_eq_true h.1
    refine List.pairwise_cons.2 ⟨fun y hy => ?_, ih⟩
    rcases List.mem_cons.1 hy with rfl | hy
    · exact hab
    · have := (List.pairwise_cons.1 ih).1 y hy; omega
set_option maxRecDepth 100000 in
theorem fdW_mem {L : List Rw} (h : ascB ltW L = true) {x : Rw} (hx : x ∈ L) : fdW L x.id = some x := by
  have hp := ascW_pair L h
  clear h
  unfold fdW
  induction L with
  | nil => cases hx
  | cons a t ih =>
    obtain ⟨h1, h2⟩ := List.pairwise_cons.1 hp
    rw [List.find?_cons]
    rcases List.mem_cons.1 hx with rfl | hm
    · simp [isW]
    · have := h1 x hm
      have e : isW x.id a = false := by unfold isW; simp; omega
      rw [e]
      exact ih hm h2
end Go.Proofs.Ytgofadmncgmhoaa

/- masks, the reference's functions: Bits. -/
namespace Go.Proofs.Ytgofadmncgmhoaa
open Go.RowKit Go.Maps Bs
/-- The box of a table. -/
structure BX (W : World) (r s n : Int) (p : Option Addr) (c : Nat) (L : List Rw) (w : World) : Prop where
  bx : w.heap[W.heap.size]? = some (.cells #[.int .i64 r, .int .i64 s, .int .i64 n, .slice p L.length c] 27 (0, 0))
  rd : RdW w (· < w.heap.size) p c L
  gr : W.grownBy w none
set_option maxRecDepth 100000 in
theorem BX.keep {W w w1 : World} {r s n : Int} {p : Option Addr} {c : Nat} {L : List Rw} (h : BX W r s n p c L w) (g : w.grownBy w1 none) : BX W r s n p c L w1 :=
  ⟨kept_row h.bx g (by simp), (h.rd.keep g).mono (fun b (hb : b < w.heap.size) => Nat.lt_of_lt_of_le hb g.size), grown_trans h.gr g⟩
set_option maxRecDepth 100000 in
theorem bx_start {w : World} {r s n : Int} {p : Option Addr} {c : Nat} {L : List Rw} (hR : RdW w (· < w.heap.size) p c L) : BX w r s n p c L (w.alloc (.cells #[.int .i64 r, .int .i64 s, .int .i64 n, .slice p L.length c] 27)) := by
  obtain ⟨k1, k2⟩ := tone_box w #[.int .i64 r, .int .i64 s, .int .i64 n, .slice p L.length c] 27
  exact ⟨k1, (hR.keep k2).mono (fun b (hb : b < w.heap.size) => Nat.lt_of_lt_of_le hb k2.size), k2⟩
end Go.Proofs.Ytgofadmncgmhoaa

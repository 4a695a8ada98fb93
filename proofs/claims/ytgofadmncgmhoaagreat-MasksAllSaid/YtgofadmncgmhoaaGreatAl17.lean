/- Parts of the proof, packed: TaRAl, MaRHp, MaBit, MaRBt. -/
import Derived.Test.YtgofadmncgmhoaaGreatAl14
import Derived.Test.YtgofadmncgmhoaaGreatAl16
import Derived.Test.YtgofadmncgmhoaaGreatAl3
import Derived.Test.YtgofadmncgmhoaaGreatAl13
/- tables, the reference's functions: All. -/
namespace Go.Proofs.YtgofadmncgmhoaaGreat
open Go.RowKit Bs
set_option maxRecDepth 100000 in
set_option maxHeartbeats 12800000 in
theorem rall11_any (T : Tg) (s n : Int) (E : List Ed) (pE : Option Addr) (cE : Nat) (q q2 : Nat → Prop) (w : World) (hT : TgOk w q T) (hE : RdF w q2 (.slice pE E.length cE) E.length (E.flatMap edC)) (hm : E.length ≤ 9223372036854775807) :
    Calls Tryz.prog 39 #[.agg #[.slice T.pR T.R.length T.cR, .slice T.pL T.L.length T.cL], .agg #[.int .i64 s, .int .i64 n, .slice pE E.length cE]] w fun e w' => RAllPost T.R T.L s n E w e w' := by
  obtain ⟨R, L0, pR, cR, pL, cL⟩ := T
  simp only
  obtain ⟨ii, hii, hi0, hi1, hi2⟩ := info_parts info_tabT
  have H0 := Lib.hid (alT_start s n hT hE)
  clear hT hE
  go_enter Tryz.func39, Tryz.ntmps39
  go_upto_region 1 with fail
  generalize (w.alloc _).alloc _ = wa at *
  have hnil : ∀ w', ¬ (okT R L0 = true ∧ vPl s n E = true) → w.grownBy w' none → RAllPost R L0 s n E w (.returned (.tuple #[.slice none 0 0, .int .i64 1])) w' := fun w' hno g => ⟨[], none, 0, 1, rfl, Or.inr ⟨rfl, hno, rfl⟩, World.ownsRow_nil _ _ _ _, fun x hx => (by cases hx), g⟩
  have HNIL := Lib.hid hnil
  clear hnil
  obtain ⟨t0, t1⟩ := row_cells H0.out.bT
  obtain ⟨q0, q1, q2⟩ := row3B H0.out.bP
  go_wp2_with fail
  refine (rcheck_any ⟨R, L0, pR, cR, pL, cL⟩ _ wa H0.out.t).mono ?_
  rintro e w1 ⟨rfl, hg⟩
  have H1 := Lib.hid (H0.out.keep hg)
  clear hg H0 t0 t1 q0 q1 q2
  simp only
  by_cases hck : chk R L0 = 0
  case neg =>
    have hck' : (chk R L0 != 0) = true := by simpa using hck
    have HF := Lib.hid hck
    clear hck
    go_wp2_with fail
    go_ret2
    exact HNIL.out _ (fun h => HF.out (by have := h.1; unfold okT at this; simpa using this)) H1.out.gr
  have HOK : Hid (okT R L0 = true) := Lib.hid (by unfold okT; simpa using hck)
  rw [hck]
  clear hck
  obtain ⟨t0, t1⟩ := row_cells H1.out.bT
  obtain ⟨q0, q1, q2⟩ := row3B H1.out.bP
  go_wp2_with fail
  refine (irvplan_any s n E pE cE _ w1 H1.out.e hm).mono ?_
  rintro e w2 ⟨rfl, hg⟩
  have H2 := Lib.hid (H1.out.keep hg)
  clear hg H1 t0 t1 q0 q1 q2
  simp only
  cases hvp : vPl s n E
  case false =>
    have HF := Lib.hid hvp
    clear hvp
    go_wp2_with fail
    go_ret2
    exact HNIL.out _ (fun h => by rw [HF.out] at h; cases h.2) H2.out.gr
  have HVP := Lib.hid hvp
  clear hvp HNIL hm
  have hRl := (okT_len HOK.out).1
  have hEl : E.length ≤ 1000 := by
    have h := HVP.out
    unfold vPl at h
    simp only [Bool.and_eq_true, decide_eq_true_eq] at h
    omega
  go_wp2_with fail
  go_loopw [6, 7] (fun v a wr => ∃ (k : Nat) (Ts : List Tb) (p : Option Addr) (c : Nat), k ≤ R.length ∧ v = .slice p Ts.length c ∧ a = .int .i64 (k : Int) ∧ Hid (AllM R L0 s n E (R.take k) Ts) ∧ Hid (AlT w ⟨R, L0, pR, cR, pL, cL⟩ s n E pE cE (.slice p Ts.length c) Ts wr)) (fun _ a _ => R.length - (RowKit.intOf a).toNat)
  case atStart => exact ⟨0, [], none, 0, Nat.zero_le _, rfl, rfl, Lib.hid (by rw [List.take_zero]; exact AllM.nil), H2⟩
  case round =>
  clear H2
  obtain ⟨k, Ts, p, c, hk, rfl, rfl, HB, K⟩ := hrel
  obtain ⟨w5, hw5⟩ : ∃ w5, w5 = wr := ⟨_, rfl⟩
  rw [← hw5] at K ⊢
  clear hw5
  obtain ⟨t0, t1⟩ := row_cells K.out.bT
  by_cases hlt : k < R.length
  case neg =>
    obtain rfl : k = R.length := by omega
    have hnl : ¬ (R.length : Int) < (R.length : Int) := by omega
    rw [List.take_length] at HB
    have HK := Lib.hid K.out
    clear K
    go_wp2_with fail
    go_ret2
    exact ⟨Ts, p, c, 0, rfl, Or.inl ⟨rfl, HOK.out, HVP.out, HB.out⟩, HK.out.own.mono (by omega), fun x hx => by
      have h := HK.out.tabs x hx
      exact ⟨h.rd.mono (fun b hb => ⟨by have := hb.1; omega, hb.2⟩), h.hn, h.hc, h.hy⟩, HK.out.gr⟩
  have hlt' : (k : Int) < (R.length : Int) := by omega
  have hk0 : (0 : Int) ≤ (k : Int) := by omega
  obtain ⟨y, hy⟩ : ∃ y, R[k]? = some y := ⟨_, List.getElem?_eq_getElem hlt⟩
  obtain ⟨-, b, off, rfl, -, hc⟩ := rdr_cells (R := R) K.out.t.r (by omega)
  obtain ⟨a0, a1⟩ := hc k y hy
  have HY := Lib.hid hy
  clear hc hy
  cases hcap : y.cap
  case false =>
    rw [hcap] at a1
    have HB2 := Lib.hid (HB.out.skip HY.out hcap)
    clear hcap HB a0
    go_wp2_with fail
    exact ⟨⟨k + 1, Ts, p, c, by omega, rfl, congrArg _ (by omega), HB2, K⟩, by simp only [RowKit.intOf]; omega⟩
  rw [hcap] at a1
  have HC := Lib.hid hcap
  clear hcap
  have hLE : Hid (Ts.length ≤ 1000) := Lib.hid (by have := HB.out.len; rw [List.length_take] at this; omega)
  have hLl := hLE.out
  go_upto_region 8 with fail
  refine region_until (S := fun w' => Hid (w5.grownBy w' none)) (fun j => j == 11 || j == 12) (by kernel_rfl) (Lib.hid (grown_drew (grown_refl _ none))) (fun hHeld => ?_)
  refine anyU_take (i := 0) (oi := { dst := some 29, op := Op.move (Operand.tmp 6), type := 29, pos := "ref.go:165", after := #[], guard := none }) (v := ?_) rfl (by kernel_rfl) (by kernel_rfl) (by kernel_rfl) (by kernel_rfl) (by kernel_rfl) (fun _ _ _ h => h) (Or.inl ⟨by rfl, ?_⟩) hHeld ?_
  rotate_left 1
  · intro u hSu
    obtain ⟨t0u, t1u⟩ := row_cells (kept_row K.out.bT hSu.out (by simp))
    obtain ⟨q0u, q1u, q2u⟩ := row3B (kept_row K.out.bP hSu.out (by simp))
    have a0u := hSu.out.cell a0 (by simp)
    go_simp
    first | done | with_reducible rfl
  (try simp only [Act.put, List.setIfInBounds_toArray, List.set_cons_zero, List.set_cons_succ])
  refine anyU_take (i := 1) (oi := { dst := some 30, op := Op.load 45 (Operand.tmp 2), type := 45, pos := "ref.go:165", after := #[], guard := none }) (v := ?_) rfl (by kernel_rfl) (by kernel_rfl) (by kernel_rfl) (by kernel_rfl) (by kernel_rfl) (fun _ _ _ h => h) (Or.inl ⟨by rfl, ?_⟩) hHeld ?_
  rotate_left 1
  · intro u hSu
    obtain ⟨t0u, t1u⟩ := row_cells (kept_row K.out.bT hSu.out (by simp))
    obtain ⟨q0u, q1u, q2u⟩ := row3B (kept_row K.out.bP hSu.out (by simp))
    have a0u := hSu.out.cell a0 (by simp)
    go_simp
    first | done | with_reducible rfl
  (try simp only [Act.put, List.setIfInBounds_toArray, List.set_cons_zero, List.set_cons_succ])
  refine anyU_take (i := 2) (oi := { dst := some 31, op := Op.load 48 (Operand.tmp 3), type := 48, pos := "ref.go:165", after := #[], guard := none }) (v := ?_) rfl (by kernel_rfl) (by kernel_rfl) (by kernel_rfl) (by kernel_rfl) (by kernel_rfl) (fun _ _ _ h => h) (Or.inl ⟨by rfl, ?_⟩) hHeld ?_
  rotate_left 1
  · intro u hSu
    obtain ⟨t0u, t1u⟩ := row_cells (kept_row K.out.bT hSu.out (by simp))
    obtain ⟨q0u, q1u, q2u⟩ := row3B (kept_row K.out.bP hSu.out (by simp))
    have a0u := hSu.out.cell a0 (by simp)
    go_simp
    first | done | with_reducible rfl
  (try simp only [Act.put, List.setIfInBounds_toArray, List.set_cons_zero, List.set_cons_succ])
  refine anyU_take (i := 3) (oi := { dst := some 32, op := Op.fieldAddr 45 (Operand.tmp 2) 0, type := 0, pos := "ref.go:165", after := #[], guard := none }) (v := ?_) rfl (by kernel_rfl) (by kernel_rfl) (by kernel_rfl) (by kernel_rfl) (by kernel_rfl) (fun _ _ _ h => h) (Or.inl ⟨by rfl, ?_⟩) hHeld ?_
  rotate_left 1
  · intro u hSu
    obtain ⟨t0u, t1u⟩ := row_cells (kept_row K.out.bT hSu.out (by simp))
    obtain ⟨q0u, q1u, q2u⟩ := row3B (kept_row K.out.bP hSu.out (by simp))
    have a0u := hSu.out.cell a0 (by simp)
    go_simp
    first | done | with_reducible rfl
  (try simp only [Act.put, List.setIfInBounds_toArray, List.set_cons_zero, List.set_cons_succ])
  refine anyU_take (i := 4) (oi := { dst := some 33, op := Op.load 42 (Operand.tmp 32), type := 42, pos := "ref.go:165", after := #[{ on := 3, ground := Ground.data }], guard := none }) (v := ?_) rfl (by kernel_rfl) (by kernel_rfl) (by kernel_rfl) (by kernel_rfl) (by kernel_rfl) (fun _ _ _ h => h) (Or.inl ⟨by rfl, ?_⟩) hHeld ?_
  rotate_left 1
  · intro u hSu
    obtain ⟨t0u, t1u⟩ := row_cells (kept_row K.out.bT hSu.out (by simp))
    obtain ⟨q0u, q1u, q2u⟩ := row3B (kept_row K.out.bP hSu.out (by simp))
    have a0u := hSu.out.cell a0 (by simp)
    go_simp
    first | done | with_reducible rfl
  (try simp only [Act.put, List.setIfInBounds_toArray, List.set_cons_zero, List.set_cons_succ])
  refine anyU_take (i := 5) (oi := { dst := some 34, op := Op.move (Operand.tmp 7), type := 3, pos := "ref.go:165", after := #[], guard := none }) (v := ?_) rfl (by kernel_rfl) (by kernel_rfl) (by kernel_rfl) (by kernel_rfl) (by kernel_rfl) (fun _ _ _ h => h) (Or.inl ⟨by rfl, ?_⟩) hHeld ?_
  rotate_left 1
  · intro u hSu
    obtain ⟨t0u, t1u⟩ := row_cells (kept_row K.out.bT hSu.out (by simp))
    obtain ⟨q0u, q1u, q2u⟩ := row3B (kept_row K.out.bP hSu.out (by simp))
    have a0u := hSu.out.cell a0 (by simp)
    go_simp
    first | done | with_reducible rfl
  (try simp only [Act.put, List.setIfInBounds_toArray, List.set_cons_zero, List.set_cons_succ])
  refine anyU_take (i := 6) (oi := { dst := some 35, op := Op.indexAddr 42 (Operand.tmp 33) (Operand.tmp 34), type := 0, pos := "ref.go:165", after := #[{ on := 4, ground := Ground.data }, { on := 5, ground := Ground.data }], guard := none }) (v := ?_) rfl (by kernel_rfl) (by kernel_rfl) (by kernel_rfl) (by kernel_rfl) (by kernel_rfl) (fun _ _ _ h => h) (Or.inl ⟨by rfl, ?_⟩) hHeld ?_
  rotate_left 1
  · intro u hSu
    obtain ⟨t0u, t1u⟩ := row_cells (kept_row K.out.bT hSu.out (by simp))
    obtain ⟨q0u, q1u, q2u⟩ := row3B (kept_row K.out.bP hSu.out (by simp))
    have a0u := hSu.out.cell a0 (by simp)
    go_simp
    first | done | with_reducible rfl
  (try simp only [Act.put, List.setIfInBounds_toArray, List.set_cons_zero, List.set_cons_succ])
  refine anyU_take (i := 7) (oi := { dst := some 36, op := Op.fieldAddr 105 (Operand.tmp 35) 0, type := 0, pos := "ref.go:165", after := #[{ on := 6, ground := Ground.data }], guard := none }) (v := ?_) rfl (by kernel_rfl) (by kernel_rfl) (by kernel_rfl) (by kernel_rfl) (by kernel_rfl) (fun _ _ _ h => h) (Or.inl ⟨by rfl, ?_⟩) hHeld ?_
  rotate_left 1
  · intro u hSu
    obtain ⟨t0u, t1u⟩ := row_cells (kept_row K.out.bT hSu.out (by simp))
    obtain ⟨q0u, q1u, q2u⟩ := row3B (kept_row K.out.bP hSu.out (by simp))
    have a0u := hSu.out.cell a0 (by simp)
    go_simp
    first | done | with_reducible rfl
  (try simp only [Act.put, List.setIfInBounds_toArray, List.set_cons_zero, List.set_cons_succ])
  refine anyU_take (i := 8) (oi := { dst := some 37, op := Op.load 3 (Operand.tmp 36), type := 3, pos := "ref.go:165", after := #[{ on := 7, ground := Ground.data }], guard := none }) (v := ?_) rfl (by kernel_rfl) (by kernel_rfl) (by kernel_rfl) (by kernel_rfl) (by kernel_rfl) (fun _ _ _ h => h) (Or.inl ⟨by rfl, ?_⟩) hHeld ?_
  rotate_left 1
  · intro u hSu
    obtain ⟨t0u, t1u⟩ := row_cells (kept_row K.out.bT hSu.out (by simp))
    obtain ⟨q0u, q1u, q2u⟩ := row3B (kept_row K.out.bP hSu.out (by simp))
    have a0u := hSu.out.cell a0 (by simp)
    go_simp
    first | done | with_reducible rfl
  (try simp only [Act.put, List.setIfInBounds_toArray, List.set_cons_zero, List.set_cons_succ])
  refine anyU_ready (rs := [9]) (by kernel_rfl) (by simp) ?_
  refine EachU.cons (o := { dst := some 38, op := Op.call { callee := Callee.value (Operand.func 101), args := #[Operand.tmp 30, Operand.tmp 31, Operand.tmp 37], argTypes := #[45, 48, 3] }, type := 25, pos := "ref.go:165", after := #[{ on := 1, ground := Ground.data }, { on := 2, ground := Ground.data }, { on := 8, ground := Ground.data }], guard := none }) rfl (fun Kz hK => ?_) EachU.nil
  go_simp
  go_at_call 101
  refine (rbuild_any ⟨R, L0, some ⟨b, off, none⟩, cR, pL, cL⟩ s n y.id E pE cE _ _ _ (K.out.keep hHeld.out).t (K.out.keep hHeld.out).e hEl).mono ?_
  rintro e' w7 ⟨L, p2, c2, rfl, hown, hrows, hM, hg⟩
  have HBL := Lib.hid (And.intro (hown.mono (base := _) hHeld.out.size) (And.intro (fun x hx => (⟨(hrows x hx).1.mono (fun b hb => ⟨Nat.le_trans hHeld.out.size hb.1, hb.2⟩), (hrows x hx).2⟩ : RdX w5.heap.size w7 _ _ _ _)) hM))
  have HN := Lib.hid (grown_trans hHeld.out hg)
  clear hown hrows hM hg
  simp only
  refine hK.out _ _ (fun _ => HN) (fun hH2 => ?_)
  clear hK Kz hHeld
  have hHeld := hH2 rfl
  clear hH2
  (try simp only [Act.put, List.setIfInBounds_toArray, List.set_cons_zero, List.set_cons_succ])
  refine anyU_ready (rs := [10]) (by kernel_rfl) (by simp) ?_
  refine EachU.cons (o := { dst := some 39, op := Op.buildSlice 29 1 #[(0, Operand.tmp 38)], type := 29, pos := "ref.go:165", after := #[{ on := 9, ground := Ground.data }], guard := none }) rfl (fun Kz hK => ?_) EachU.nil
  have K7 := Lib.hid (K.out.keep hHeld.out)
  go_simp
  refine hK.out _ _ (fun _ => hid_more hHeld (World.grownBy_alloc _ _ _)) (fun hH2 => ?_)
  clear hK Kz hHeld
  have hHeld := hH2 rfl
  clear hH2
  (try simp only [Act.put, List.setIfInBounds_toArray, List.set_cons_zero, List.set_cons_succ])
  refine anyU_ready (rs := [11]) (by kernel_rfl) (by simp) ?_
  refine EachU.cons (o := { dst := some 40, op := Op.call { callee := Callee.builtin Builtin.append, args := #[Operand.tmp 29, Operand.tmp 39], argTypes := #[29, 29] }, type := 29, pos := "ref.go:165", after := #[{ on := 0, ground := Ground.data }, { on := 10, ground := Ground.data }, { on := 9, ground := Ground.chain }], guard := none }) rfl (fun Kz hK => ?_) EachU.nil
  refine step_append_lies _ (by rfl) _ _ 29 (by rfl) (w.heap.size + 2) 25 ii (.agg #[.int .i64 0, .int .i64 0, .int .i64 0, .slice none 0 0]) 4 48 Tryz.underlying29 hii hi0 hi1 hi2 rfl (by decide) (.slice p Ts.length c) Ts.length (Ts.flatMap tbC) (by rfl) (K7.out.own.alloc _) ⟨w7.heap.size, 0, none⟩ 1 1 (tbC ⟨y.id, s, n, L, p2, c2⟩) (by rfl) (by rfl) (tb_row w7 ⟨y.id, s, n, L, p2, c2⟩ _) (tb_one ⟨y.id, s, n, L, p2, c2⟩) (by decide) (by unfold maxLen; omega) (by omega) (by have := K7.out.lo; simp; omega) _ rfl ?_
  intro g cap w8 hown8 hgrow hat hlt8
  have ga := World.grownBy_alloc w7 (.cells #[.int .i64 y.id, .int .i64 s, .int .i64 n, .slice p2 L.length c2] 25) none
  have hv : (Value.slice (some ⟨g, 0, none⟩) (Ts.length + 1) cap).ownBlock = (Value.slice p Ts.length c).ownBlock ∨ ∀ b, some b = (Value.slice (some ⟨g, 0, none⟩) (Ts.length + 1) cap).ownBlock → (w7.alloc (.cells #[.int .i64 y.id, .int .i64 s, .int .i64 n, .slice p2 L.length c2] 25)).heap.size ≤ b := by
    rcases hat with h | h
    · exact Or.inl h.symm
    · refine Or.inr fun b e => ?_
      have e2 : some b = some g := e
      have := Option.some.inj e2
      rw [this, h]
      exact Nat.le_refl _
  have K8 := (K7.out.keep ga).push (x := ⟨y.id, s, n, L, p2, c2⟩) (v' := .slice (some ⟨g, 0, none⟩) (Ts.length + 1) cap) ((tbx_of_bld y.id s n HBL.out.1 HBL.out.2.1 (fun b e => (K.out.own.lt b e).2) K.out.lo).keep ga) (by rw [List.length_append, List.flatMap_append]; simpa [tbC] using hown8) hgrow hv
  have HB2 := Lib.hid (HB.out.push HY.out HC.out HBL.out.2.2 p2 c2)
  have HLL : Hid ((Ts ++ [(⟨y.id, s, n, L, p2, c2⟩ : Tb)]).length = Ts.length + 1) := Lib.hid (by rw [List.length_append]; rfl)
  have K8 := Lib.hid K8
  clear hown8 hgrow hat hlt8 ga hv K7 HBL
  refine hK.out _ _ (fun h => by cases h) (fun _ => ?_)
  clear hK Kz
  (try simp only [Act.put, List.setIfInBounds_toArray, List.set_cons_zero, List.set_cons_succ])
  refine anyU_ready (rs := [12]) (by kernel_rfl) (by simp) ?_
  refine EachU.cons (o := { dst := some 6, op := Op.assign (Operand.tmp 40), type := 29, pos := "ref.go:165", after := #[{ on := 11, ground := Ground.data }, { on := 11, ground := Ground.chain }, { on := 0, ground := Ground.phase }, { on := 1, ground := Ground.phase }, { on := 2, ground := Ground.phase }, { on := 3, ground := Ground.phase }, { on := 4, ground := Ground.phase }, { on := 5, ground := Ground.phase }, { on := 6, ground := Ground.phase }, { on := 7, ground := Ground.phase }, { on := 8, ground := Ground.phase }, { on := 9, ground := Ground.phase }, { on := 10, ground := Ground.phase }, { on := 11, ground := Ground.phase }], guard := none }) rfl (fun Kz hK => ?_) EachU.nil
  go_simp
  refine hK.out _ _ (fun h => by cases h) (fun _ => ?_)
  clear hK Kz
  (try simp only [Act.put, List.setIfInBounds_toArray, List.set_cons_zero, List.set_cons_succ])
  refine anyU_done (by kernel_rfl) ?_ _
  clear hHeld t0 t1 a0 a1
  go_wp2_with fail
  exact ⟨⟨k + 1, Ts ++ [⟨y.id, s, n, L, p2, c2⟩], some ⟨g, 0, none⟩, cap, by omega, by rw [HLL.out], congrArg _ (by omega), HB2, by rw [HLL.out]; exact K8⟩, by simp only [RowKit.intOf]; omega⟩
end Go.Proofs.YtgofadmncgmhoaaGreat

/- tables, the reference's functions: Hop. -/
namespace Go.Proofs.YtgofadmncgmhoaaGreat
open Go.RowKit Go.Maps Bs
/-- The next hop of an ID in a plane. -/
def hopI (L : List Rw) (id : Int) (k : Nat) : Int := nxI ((fdW L id).getD zRw).nx k
set_option maxRecDepth 100000 in
theorem fdW_ok {w : World} {q : Nat → Prop} {p : Option Addr} {c : Nat} {L : List Rw} {id : Int} (h : RdW w q p c L) : RwOk w q ((fdW L id).getD zRw) := by
  cases hf : fdW L id with
  | none => exact ⟨⟨none, 0, rfl, fun h => absurd rfl h⟩, ⟨Nat.le_refl _, by show (0 : Nat) ≤ _; omega⟩⟩
  | some x => exact h.ok x (List.mem_of_find?_eq_some hf)
set_option maxRecDepth 100000 in
set_option maxHeartbeats 3200000 in
theorem rhop_any (r s n : Int) (p : Option Addr) (c : Nat) (L : List Rw) (id : Int) (k : Nat) (hk : k < 8) (w : World) (hR : RdW w (· < w.heap.size) p c L) (hm : L.length ≤ 9223372036854775807) :
    Calls Tryz.prog 109 #[.agg #[.int .i64 r, .int .i64 s, .int .i64 n, .slice p L.length c], .int .i64 id, .int .i64 (k : Int)] w fun e w' => e = .returned (.int .i64 (hopI L id k)) ∧ w.grownBy w' none := by
  obtain ⟨k1, k2⟩ := tone_box w #[.int .i64 r, .int .i64 s, .int .i64 n, .slice p L.length c] 25
  have H0 := Lib.hid (And.intro k1 (And.intro k2 ((hR.keep k2).mono (q' := (· < (w.alloc (.cells #[.int .i64 r, .int .i64 s, .int .i64 n, .slice p L.length c] 25)).heap.size)) (fun b (hb : b < w.heap.size) => by show b < _; simp; omega))))
  clear k1 k2 hR
  go_enter Tryz.func109, Tryz.ntmps109
  go_upto_region 1 with fail
  generalize w.alloc _ = w1 at *
  obtain ⟨d0, d1, d2, d3⟩ := row4T H0.out.1
  go_wp2_with fail
  refine (rrow_any r s n p c L id w1 H0.out.2.2 hm).mono ?_
  rintro e w2 ⟨rfl, hg⟩
  have HX := Lib.hid (fdW_ok (id := id) (H0.out.2.2.keep hg))
  have HZ : Hid ((fdW L id).isSome = false → ((fdW L id).getD zRw).nx.length = 0) := Lib.hid (fun h => by cases hf : fdW L id with
    | none => rfl
    | some x => rw [hf] at h; cases h)
  have HH : Hid (hopI L id k = nxI ((fdW L id).getD zRw).nx k) := Lib.hid rfl
  have G2 := Lib.hid (grown_trans H0.out.2.1 hg)
  clear hg H0 d0 d1 d2 d3
  obtain ⟨res, hres⟩ : ∃ res, hopI L id k = res := ⟨_, rfl⟩
  have HRS := Lib.hid hres
  rw [hres] at HH
  clear hres
  generalize (fdW L id).getD zRw = x at *
  generalize (fdW L id).isSome = ob at *
  obtain ⟨k1, k2⟩ := tone_box w2 #[.int .i64 x.id, .slice x.p x.nx.length x.c] 36
  have HB := Lib.hid (And.intro k1 (And.intro (grown_trans G2.out k2) (HX.out.keep k2)))
  clear k1 k2 G2 HX
  go_upto_region 2 with fail
  generalize w2.alloc _ = w3 at *
  have c1 : w3.cell? ⟨w2.heap.size, 1, none⟩ = some (.slice x.p x.nx.length x.c) := cell_of_row _ _ _ _ _ _ HB.out.1
  by_cases h0 : x.nx.length = 0
  · have h0' : ((x.nx.length : Int) == 0) = true := beq_iff_eq.2 (by omega)
    have HO : Hid (res = 0) := Lib.hid (by rw [HH.out]; unfold nxI; rw [if_pos h0])
    clear h0
    cases ob
    · go_wp2_with fail
      go_ret
      exact ⟨by rw [HRS.out, HO.out]; rfl, HB.out.2.1⟩
    · go_wp2_with fail
      go_ret
      exact ⟨by rw [HRS.out, HO.out]; rfl, HB.out.2.1⟩
  · cases ob
    · exact absurd (HZ.out rfl) h0
    have h0' : ((x.nx.length : Int) == 0) = false := beq_eq_false_iff_ne.2 (by omega)
    have hmx : x.nx.length ≤ 9223372036854775807 := Nat.le_trans HB.out.2.2.hc.1 HB.out.2.2.hc.2
    have hat := nxI_at (k := k) h0
    rw [← HH.out] at hat
    have hrd := HB.out.2.2.rd
    obtain ⟨-, b, off, hp, hq, hc⟩ := tvT_at hrd hat
    have a0 := hc _ _ hat
    obtain ⟨j, hj⟩ : ∃ j, k % x.nx.length = j := ⟨_, rfl⟩
    have hjl : j < x.nx.length := by rw [← hj]; exact Nat.mod_lt _ (by omega)
    rw [hj] at a0
    rw [hp] at c1
    have r1 : ((k : Int)).tmod (x.nx.length : Int) = (j : Int) := by rw [Int.tmod_eq_emod_of_nonneg (by omega), ← hj]; exact (Int.natCast_emod k x.nx.length).symm
    have r1b : ((k : Int)) % (x.nx.length : Int) = (j : Int) := by rw [← hj]; exact (Int.natCast_emod k x.nx.length).symm
    have r2 : IntKind.i64.wrap (j : Int) = (j : Int) := IntWalk.i64_in _ (by omega)
    have r0 : (x.nx.length : Int) ≠ 0 := by omega
    have j0 : (0 : Int) ≤ (j : Int) := by omega
    have j1 : (j : Int) < (x.nx.length : Int) := by omega
    clear h0 hat hrd hc hj HZ HH
    go_upto_region 4 with fail
    go_region
    have G := Lib.hid (grown_drew HB.out.2.1)
    clear a0 c1 r1 r1b r2 r0 j0 j1
    go_wp2_with fail
    go_ret
    exact ⟨by rw [HRS.out]; rfl, G.out⟩
end Go.Proofs.YtgofadmncgmhoaaGreat

/- masks, the reference's Bits: the mathematics. -/
namespace Go.Proofs.YtgofadmncgmhoaaGreat
open Go.RowKit Go.Maps Bs
set_option maxRecDepth 100000 in
theorem place_at {s b len : Int} (h : atOk s b len = true) : plOk (atI s b len) len = true ∧ plS (atI s b len) len = s ∧ plB (atI s b len) len = b := by
  have h0 := h
  unfold atOk inV at h
  simp only [Bool.and_eq_true, decide_eq_true_eq] at h
  obtain ⟨⟨⟨hv, hb⟩, hs⟩, hm⟩ := h
  have hl : len = 8 ∨ len = 16 ∨ len = 32 ∨ len = 64 := by
    have := pl_fields (id := 1) (len := len) (by unfold plOk inV; simp [hv])
    exact this.1
  have e : atI s b len = s * len + b + 1 := by unfold atI; rw [if_pos h0]
  have hp : plOk (s * len + b + 1) len = true := by
    unfold plOk inV
    simp only [Bool.and_eq_true, decide_eq_true_eq]
    refine ⟨hv, ?_, hm⟩
    rcases hl with rfl | rfl | rfl | rfl <;> omega
  rw [e]
  refine ⟨hp, ?_, ?_⟩
  · unfold plS
    rw [if_pos hp, Int.tdiv_eq_ediv_of_nonneg (by rcases hl with rfl | rfl | rfl | rfl <;> omega)]
    rcases hl with rfl | rfl | rfl | rfl <;> omega
  · unfold plB
    rw [if_pos hp]
    rcases hl with rfl | rfl | rfl | rfl <;> omega
/-- Whether bit j of a mask is set. -/
def btP (L : List Rw) (n set u : Int) (k : Nat) (j : Nat) : Bool := atOk set (j : Int) n && decide (0 < u) && decide (hopI L (atI set (j : Int) n) k = u)
def btA (P : Nat → Bool) : Nat → Nat
  | 0 => 0
  | i + 1 => if P i = true then btA P i ||| b2 i else btA P i
set_option maxRecDepth 100000 in
theorem btA_u64 (P : Nat → Bool) : ∀ i, i ≤ 64 → U64 (btA P i)
  | 0, _ => by unfold btA; exact u64_mk (by decide)
  | i + 1, h => by
    unfold btA
    split
    · exact Nat.or_lt_two_pow (n := 64) (btA_u64 P i (by omega)) (b2_u64 (by omega))
    · exact btA_u64 P i (by omega)
set_option maxRecDepth 100000 in
theorem btA_bit (P : Nat → Bool) : ∀ N j, (btA P N).testBit j = true ↔ j < N ∧ P j = true
  | 0, j => by unfold btA; simp
  | i + 1, j => by
    have ih := btA_bit P i j
    unfold btA
    by_cases hp : P i = true
    · rw [if_pos hp, Nat.testBit_or]
      unfold b2
      rw [Nat.testBit_two_pow]
      simp only [Bool.or_eq_true, decide_eq_true_eq, ih]
      constructor
      · rintro (h | rfl)
        · exact ⟨by omega, h.2⟩
        · exact ⟨by omega, hp⟩
      · rintro ⟨h1, h2⟩
        by_cases e : i = j
        · exact Or.inr e
        · exact Or.inl ⟨by omega, h2⟩
    · rw [if_neg hp, ih]
      constructor
      · rintro h; exact ⟨by omega, h.2⟩
      · rintro ⟨h1, h2⟩
        by_cases e : i = j
        · subst e; exact absurd h2 hp
        · exact ⟨by omega, h2⟩
set_option maxRecDepth 100000 in
theorem ascW_pair : ∀ E : List Rw, ascB ltW E = true → E.Pairwise (fun x y => x.id < y.id)
  | [], _ => List.Pairwise.nil
  | [a], _ => List.pairwise_singleton _ _
  | a :: b :: t, h => by
    rw [ascB, Bool.and_eq_true] at h
    have ih := ascW_pair (b :: t) h.2
    have hab : a.id < b.id := of_decide_eq_true h.1
    refine List.pairwise_cons.2 ⟨fun y hy => ?_, ih⟩
    rcases List.mem_cons.1 hy with rfl | hy
    · exact hab
    · have := (List.pairwise_cons.1 ih).1 y hy; omega
set_option maxRecDepth 100000 in
theorem fdW_mem {L : List Rw} (h : ascB ltW L = true) {x : Rw} (hx : x ∈ L) : fdW L x.id = some x := by
  have hp := ascW_pair L h
  clear h
  unfold fdW
  induction L with
  | nil => cases hx
  | cons a t ih =>
    obtain ⟨h1, h2⟩ := List.pairwise_cons.1 hp
    rw [List.find?_cons]
    rcases List.mem_cons.1 hx with rfl | hm
    · simp [isW]
    · have := h1 x hm
      have e : isW x.id a = false := by unfold isW; simp; omega
      rw [e]
      exact ih hm h2
set_option maxRecDepth 100000 in
/-- The mask of the reference is the mask. -/
theorem mask_eq {r s n : Int} {L : List Rw} (h : ckT r s n L = 0) {N : Nat} (hN : n = (N : Int)) {k : Nat} {set u : Int} (hu : 0 < u) :
    btA (btP L n set u k) N = (colL n set k L u).getD 0 := by
  have ho := ck_ok h
  refine Nat.eq_of_testBit_eq fun j => ?_
  rw [Bool.eq_iff_iff, btA_bit, colL_bit]
  unfold btP
  simp only [Bool.and_eq_true, decide_eq_true_eq]
  constructor
  · rintro ⟨hj, ⟨h1, -⟩, h3⟩
    obtain ⟨p1, p2, p3⟩ := place_at h1
    unfold hopI at h3
    cases hf : fdW L (atI set (j : Int) n) with
    | none =>
      rw [hf] at h3
      have : nxI ([] : List Int) k = 0 := rfl
      simp only [Option.getD_none] at h3
      have h4 : (0 : Int) = u := h3
      omega
    | some x =>
      rw [hf, Option.getD_some] at h3
      have hx := List.mem_of_find?_eq_some hf
      have he : x.id = atI set (j : Int) n := by
        have := List.find?_some hf
        unfold isW at this
        simpa using this
      refine ⟨x, hx, by rw [he]; exact p2, h3, by omega, by rw [he, p3]; omega⟩
  · rintro ⟨x, hx, h1, h2, h3, h4⟩
    have hw := any_memT ho.2.1 hx
    have hid : 1 ≤ x.id ∧ x.id ≤ 256 := by
      unfold wrW inV at hw
      rw [Bool.or_eq_false_iff] at hw
      simpa using hw.1
    have hvl : vl n = true := by
      have := ho.1
      unfold hdT at this
      have hl : ¬ L.length = 0 := by
        intro e
        have := List.eq_nil_of_length_eq_zero e
        subst this
        cases hx
      simp [hl] at this
      exact this.2
    have hp : plOk x.id n = true := by unfold plOk inV; simp [hvl, hid.1, hid.2]
    obtain ⟨a1, a2⟩ := at_place hp
    have hB : plB x.id n = (j : Int) := by
      have : 0 ≤ plB x.id n := by
        obtain ⟨hl, -⟩ := pl_fields hp
        unfold plB
        rw [if_pos hp]
        rcases hl with rfl | rfl | rfl | rfl <;> omega
      omega
    have hjn : (j : Int) < n := by
      rw [← hB]
      obtain ⟨hl, -⟩ := pl_fields hp
      unfold plB
      rw [if_pos hp]
      rcases hl with rfl | rfl | rfl | rfl <;> omega
    rw [h1, hB] at a1 a2
    refine ⟨by omega, ⟨a1, hu⟩, ?_⟩
    unfold hopI
    rw [a2, fdW_mem ho.2.2.2.2.1 hx, Option.getD_some]
    exact h2
end Go.Proofs.YtgofadmncgmhoaaGreat

/- masks, the reference's functions: Bits. -/
namespace Go.Proofs.YtgofadmncgmhoaaGreat
open Go.RowKit Go.Maps Bs
/-- The box of a table. -/
structure BX (W : World) (r s n : Int) (p : Option Addr) (c : Nat) (L : List Rw) (w : World) : Prop where
  bx : w.heap[W.heap.size]? = some (.cells #[.int .i64 r, .int .i64 s, .int .i64 n, .slice p L.length c] 25 (0, 0))
  rd : RdW w (· < w.heap.size) p c L
  gr : W.grownBy w none
set_option maxRecDepth 100000 in
theorem BX.keep {W w w1 : World} {r s n : Int} {p : Option Addr} {c : Nat} {L : List Rw} (h : BX W r s n p c L w) (g : w.grownBy w1 none) : BX W r s n p c L w1 :=
  ⟨kept_row h.bx g (by simp), (h.rd.keep g).mono (fun b (hb : b < w.heap.size) => Nat.lt_of_lt_of_le hb g.size), grown_trans h.gr g⟩
set_option maxRecDepth 100000 in
theorem bx_start {w : World} {r s n : Int} {p : Option Addr} {c : Nat} {L : List Rw} (hR : RdW w (· < w.heap.size) p c L) : BX w r s n p c L (w.alloc (.cells #[.int .i64 r, .int .i64 s, .int .i64 n, .slice p L.length c] 25)) := by
  obtain ⟨k1, k2⟩ := tone_box w #[.int .i64 r, .int .i64 s, .int .i64 n, .slice p L.length c] 25
  exact ⟨k1, (hR.keep k2).mono (fun b (hb : b < w.heap.size) => Nat.lt_of_lt_of_le hb k2.size), k2⟩
set_option maxRecDepth 100000 in
set_option maxHeartbeats 3200000 in
theorem rbits_any (r s : Int) (N : Nat) (hN : N ≤ 64) (p : Option Addr) (c : Nat) (L : List Rw) (k : Nat) (hk : k < 8) (set u : Int) (w : World) (hR : RdW w (· < w.heap.size) p c L) (hm : L.length ≤ 9223372036854775807) :
    Calls Tryz.prog 111 #[.agg #[.int .i64 r, .int .i64 s, .int .i64 (N : Int), .slice p L.length c], .int .i64 (k : Int), .int .i64 set, .int .i64 u] w fun e w' => e = .returned (.int .u64 ((btA (btP L (N : Int) set u k) N : Nat) : Int)) ∧ w.grownBy w' none := by
  have H0 := Lib.hid (bx_start (r := r) (s := s) (n := (N : Int)) hR)
  obtain ⟨P, hP⟩ : ∃ P, btP L (N : Int) set u k = P := ⟨_, rfl⟩
  have HP := Lib.hid hP
  rw [hP]
  clear hR hP
  go_enter Tryz.func111, Tryz.ntmps111
  go_upto_region 1 with fail
  generalize w.alloc _ = wa at *
  go_wp2_with fail
  go_loopw [9, 10] (fun o a wr => ∃ i : Nat, i ≤ N ∧ a = .int .i64 (i : Int) ∧ o = .int .u64 ((btA P i : Nat) : Int) ∧ Hid (BX w r s (N : Int) p c L wr)) (fun _ a _ => N - (RowKit.intOf a).toNat)
  case atStart => exact ⟨0, Nat.zero_le _, rfl, rfl, H0⟩
  case round =>
  obtain ⟨i, hi, rfl, rfl, K⟩ := hrel
  clear H0
  obtain ⟨d0, d1, d2, d3⟩ := row4T K.out.bx
  by_cases hlt : i < N
  case neg =>
    obtain rfl : i = N := by omega
    have hnl : ¬ (i : Int) < (i : Int) := by omega
    go_wp2_with fail
    go_ret
    exact ⟨rfl, K.out.gr⟩
  have hlt' : (i : Int) < (N : Int) := by omega
  have HU := Lib.hid (btA_u64 P i (by omega))
  have HS : Hid (btA P (i + 1) = if P i = true then btA P i ||| b2 i else btA P i) := Lib.hid rfl
  have hPi : Hid (P i = (atOk set (i : Int) (N : Int) && decide (0 < u) && decide (hopI L (atI set (i : Int) (N : Int)) k = u))) := Lib.hid (by rw [← HP.out]; rfl)
  obtain ⟨B, hB⟩ : ∃ B, btA P i = B := ⟨_, rfl⟩
  rw [hB] at HU HS ⊢
  clear hB
  go_wp2_with fail
  refine (irat_any set i N wr).mono ?_
  rintro e w1 ⟨rfl, hg⟩
  have K1 := Lib.hid (K.out.keep hg)
  clear hg K d0 d1 d2 d3
  obtain ⟨ok, hok⟩ : ∃ ok, atOk set (i : Int) (N : Int) = ok := ⟨_, rfl⟩
  obtain ⟨id, hid⟩ : ∃ id, atI set (i : Int) (N : Int) = id := ⟨_, rfl⟩
  rw [hok, hid] at hPi ⊢
  clear hok hid
  obtain ⟨d0, d1, d2, d3⟩ := row4T K1.out.bx
  cases ok
  case false =>
    have HE : Hid (btA P (i + 1) = B) := Lib.hid (by rw [HS.out, hPi.out]; simp)
    go_wp2_with fail
    exact ⟨⟨i + 1, by omega, congrArg _ (by omega), by rw [HE.out], K1⟩, by simp only [RowKit.intOf]; omega⟩
  by_cases hu : 0 < u
  case neg =>
    have HE : Hid (btA P (i + 1) = B) := Lib.hid (by rw [HS.out, hPi.out]; simp [hu])
    go_wp2_with fail
    exact ⟨⟨i + 1, by omega, congrArg _ (by omega), by rw [HE.out], K1⟩, by simp only [RowKit.intOf]; omega⟩
  go_wp2_with fail
  refine (rhop_any r s N p c L id k hk w1 K1.out.rd hm).mono ?_
  rintro e w2 ⟨rfl, hg⟩
  have K2 := Lib.hid (K1.out.keep hg)
  clear hg K1 d0 d1 d2 d3
  obtain ⟨h, hh⟩ : ∃ h, hopI L id k = h := ⟨_, rfl⟩
  rw [hh] at hPi ⊢
  clear hh
  by_cases he : h = u
  case neg =>
    have he' : (h == u) = false := by simpa using he
    have HE : Hid (btA P (i + 1) = B) := Lib.hid (by rw [HS.out, hPi.out]; simp [he])
    clear he
    go_wp2_with fail
    exact ⟨⟨i + 1, by omega, congrArg _ (by omega), by rw [HE.out], K2⟩, by simp only [RowKit.intOf]; omega⟩
  have he' : (h == u) = true := by simpa using he
  have HE : Hid (btA P (i + 1) = B ||| b2 i) := Lib.hid (by rw [HS.out, hPi.out]; simp [he, hu])
  clear he
  go_wp2_with fail
  refine (bit_any i (by omega) w2).mono ?_
  rintro e w3 ⟨rfl, rfl⟩
  have HU2 := HU.out
  have HB2 : U64 (b2 i) := b2_u64 (by omega)
  go_wp2_with fail
  exact ⟨⟨i + 1, by omega, congrArg _ (by omega), by rw [HE.out]; exact congrArg _ (orU _ _ HU2 HB2), K2⟩, by simp only [RowKit.intOf]; omega⟩
end Go.Proofs.YtgofadmncgmhoaaGreat

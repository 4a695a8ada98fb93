/- Parts of the proof, packed: ToArnd, ToRcp. -/
import Derived.Test.YtiencdgmnkphjaaWek13
import Derived.Test.YtiencdgmnkphjaaWek14
import Derived.Deep.AppendLies
import Derived.BigQuiet
/- The reference's Around. -/
namespace Go.Proofs.Ytiencdgmnkphjaa
open Go.RowKit Bs
/-- While the found routers are sorted. -/
def IR (w0 : World) (l : List Int) (v : Value) (wz : World) : Prop := ∃ p c, v = .slice p l.length c ∧ Rd wz (w0.heap.size ≤ ·) (.slice p l.length c) (l.map tv) ∧ (p = none → c = 0) ∧ (l.length ≤ c ∧ c ≤ 9223372036854775807) ∧ w0.grownBy wz none
theorem IR.nil (w0 : World) : IR w0 [] (.slice none 0 0) w0 := ⟨none, 0, rfl, ⟨none, 0, rfl, fun h => absurd rfl h⟩, fun _ => rfl, ⟨Nat.le_refl _, by show 0 ≤ _; omega⟩, grown_refl _ _⟩
/-- While the neighbours of one router are gone through: what its neighbours' list keeps. -/
structure BI (wr w5 : World) (vn : Value) (M : List Int) (v : Value) (wz : World) : Prop where
  rd : Rd wz (fun b => wr.heap.size ≤ b ∧ b < w5.heap.size) vn (M.map tv)
  ap : ∀ g, v.ownBlock = some g → g < wr.heap.size ∨ w5.heap.size ≤ g
  sz : w5.heap.size ≤ wz.heap.size
theorem BI.app {wr w5 wz w6 : World} {vn v : Value} {M : List Int} {o : Obj} {g n cap : Nat} (h : BI wr w5 vn M v wz) (hg : (wz.alloc o).grownBy w6 v.ownBlock) (hat : v.ownBlock = some g ∨ g = (wz.alloc o).heap.size) : BI wr w5 vn M (.slice (some ⟨g, 0, none⟩) n cap) w6 := by
  have k0 := World.grownBy_alloc wz o none
  have hs := h.sz
  have hs2 : (wz.alloc o).heap.size = wz.heap.size + 1 := by simp
  refine ⟨(h.rd.grown k0 (by simp)).grown hg (fun b hb e => ?_), fun g' e => ?_, Nat.le_trans hs (Nat.le_trans k0.size hg.size)⟩
  · have := h.ap b e.symm
    omega
  · have eg : g = g' := Option.some.inj e
    subst eg
    rcases hat with e2 | e2
    · exact h.ap g e2
    · omega
set_option maxRecDepth 100000 in
set_option maxHeartbeats 3200000 in
theorem rarnd_any (T : Tg) (r : Int) (q : Nat → Prop) (w : World) (hT : TgOk w q T) (hv : okT T.R T.L = true) (hr : ∃ x ∈ T.R, x.id = r) :
    Calls Try.prog 85 #[.agg #[.slice T.pR T.R.length T.cR, .slice T.pL T.L.length T.cL], .int .i64 r] w fun e w' => TRet (cls T.L r) w e w' := by
  obtain ⟨R, L, pR, cR, pL, cL⟩ := T
  simp only at hv hr ⊢
  obtain ⟨h24, h60⟩ := okT_len hv
  obtain ⟨k1, k2⟩ := tone_box w #[.slice pR R.length cR, .slice pL L.length cL] 26
  have HB := Lib.hid (And.intro k1 (And.intro k2 (hT.keep k2)))
  have HV := Lib.hid (And.intro hv hr)
  clear k1 k2 hT hv hr
  go_enter Try.func85, Try.ntmps85
  obtain ⟨ii, hii, hi0, hi1, hi2⟩ := info_parts info_int
  go_upto_region 1 with fail
  generalize w.alloc _ = wa at *
  have N0 : Hid (NK wa (.slice (some ⟨wa.heap.size, 0, none⟩) 1 1) [r] (wa.alloc (.cells #[.int .i64 r] 3))) := Lib.hid ⟨World.ownsRow_lit wa #[.int .i64 r] 1 (Nat.le_refl _) (by decide) rfl, World.grownBy_alloc _ _ _⟩
  go_upto_region 2 with fail
  generalize wa.alloc _ = w1 at *
  go_wp2_with fail
  go_loopw [5, 6] (fun v a wr => ∃ (i : Nat) (O : List Int), i ≤ O.length ∧ a = .int .i64 (i : Int) ∧ Hid (NK wa v O wr) ∧ Hid (BF L r O i)) (fun _ a _ => R.length - (intOf a).toNat)
  case atStart => exact ⟨0, [r], Nat.zero_le _, rfl, N0, Lib.hid (BF.start L r)⟩
  case round =>
  obtain ⟨w4, rfl⟩ : ∃ w4, w4 = wr := ⟨_, rfl⟩
  obtain ⟨i, O, hi, rfl, N, B⟩ := hrel
  clear N0
  have hOl : O.length ≤ R.length := B.out.len HV.out.1 HV.out.2
  have HBR := Lib.hid (kept_row HB.out.1 N.out.gr (by simp))
  have HT := Lib.hid (HB.out.2.2.keep N.out.gr)
  obtain ⟨pv, cv, rfl, hv1, hv2⟩ := own_shape N.out.own
  by_cases hlt : i < O.length
  · have hrd := rd_of_own N.out.own
    obtain ⟨-, b, off, rfl, -, -⟩ := rdi_at hrd (by omega)
    obtain ⟨x, hx⟩ : ∃ x, O[i]? = some x := ⟨_, List.getElem?_eq_getElem hlt⟩
    have HC : Hid (∀ u, Hid (w4.grownBy u none) → u.cell? ⟨b, off + i, none⟩ = some (.int .i64 x)) := Lib.hid (fun u hu => by
      obtain ⟨-, b', off', e, -, hc⟩ := rdi_at (hrd.grown hu.out (by simp)) (by omega)
      injection e with e
      injection e with e4 e5
      subst e4
      subst e5
      exact hc i x hx)
    have i0 : (0 : Int) ≤ (i : Int) := by omega
    have i1 : (i : Int) < (O.length : Int) := by omega
    obtain ⟨M, hM⟩ : ∃ M, nbL L x = M := ⟨_, rfl⟩
    have hNM : nearR R L x = M := by rw [← near_eq (okT_all HV.out.1), hM]
    have HX := Lib.hid (And.intro hx (And.intro hM hNM))
    have hb0 : b < w4.heap.size := (N.out.own.lt b (by rfl)).2
    have HBO : Hid (∀ g, (Value.slice (some ⟨b, off, none⟩) O.length cv).ownBlock = some g → g < w4.heap.size) := Lib.hid (fun g e => (N.out.own.lt g e).2)
    clear hx hM hNM hrd hb0
    go_upto_region 5 with fail
    refine wp_region_held_drew (S := fun w' => Hid (w4.grownBy w' none)) (by kernel_rfl) (Lib.hid (grown_drew (grown_refl _ _))) (fun hHeld => ?_)
    refine wpAnyH_take (i := 0) (oi := { dst := some 19, op := Op.load 26 (Operand.tmp 2), type := 26, pos := "ref.go:214", after := #[], guard := none }) (v := ?_) rfl (by kernel_rfl) (by kernel_rfl) (by kernel_rfl) (fun _ _ _ h => h) (Or.inl ⟨by rfl, ?_⟩) hHeld ?_
    rotate_left 1
    · intro u hSu
      obtain ⟨q0, q1⟩ := row_cells (kept_row HBR.out hSu.out (by simp))
      have q2 := HC.out _ hSu
      go_simp
      first | done | with_reducible rfl
    (try simp only [Act.put, List.setIfInBounds_toArray, List.set_cons_zero, List.set_cons_succ])
    refine wpAnyH_take (i := 1) (oi := { dst := some 20, op := Op.move (Operand.tmp 5), type := 22, pos := "ref.go:214", after := #[], guard := none }) (v := ?_) rfl (by kernel_rfl) (by kernel_rfl) (by kernel_rfl) (fun _ _ _ h => h) (Or.inl ⟨by rfl, ?_⟩) hHeld ?_
    rotate_left 1
    · intro u hSu
      obtain ⟨q0, q1⟩ := row_cells (kept_row HBR.out hSu.out (by simp))
      have q2 := HC.out _ hSu
      go_simp
      first | done | with_reducible rfl
    (try simp only [Act.put, List.setIfInBounds_toArray, List.set_cons_zero, List.set_cons_succ])
    refine wpAnyH_take (i := 2) (oi := { dst := some 21, op := Op.move (Operand.tmp 6), type := 3, pos := "ref.go:214", after := #[], guard := none }) (v := ?_) rfl (by kernel_rfl) (by kernel_rfl) (by kernel_rfl) (fun _ _ _ h => h) (Or.inl ⟨by rfl, ?_⟩) hHeld ?_
    rotate_left 1
    · intro u hSu
      obtain ⟨q0, q1⟩ := row_cells (kept_row HBR.out hSu.out (by simp))
      have q2 := HC.out _ hSu
      go_simp
      first | done | with_reducible rfl
    (try simp only [Act.put, List.setIfInBounds_toArray, List.set_cons_zero, List.set_cons_succ])
    refine wpAnyH_take (i := 3) (oi := { dst := some 22, op := Op.indexAddr 22 (Operand.tmp 20) (Operand.tmp 21), type := 0, pos := "ref.go:214", after := #[{ on := 1, ground := Ground.data }, { on := 2, ground := Ground.data }], guard := none }) (v := ?_) rfl (by kernel_rfl) (by kernel_rfl) (by kernel_rfl) (fun _ _ _ h => h) (Or.inl ⟨by rfl, ?_⟩) hHeld ?_
    rotate_left 1
    · intro u hSu
      obtain ⟨q0, q1⟩ := row_cells (kept_row HBR.out hSu.out (by simp))
      have q2 := HC.out _ hSu
      go_simp
      first | done | with_reducible rfl
    (try simp only [Act.put, List.setIfInBounds_toArray, List.set_cons_zero, List.set_cons_succ])
    refine wpAnyH_take (i := 4) (oi := { dst := some 23, op := Op.load 3 (Operand.tmp 22), type := 3, pos := "ref.go:214", after := #[{ on := 3, ground := Ground.data }], guard := none }) (v := ?_) rfl (by kernel_rfl) (by kernel_rfl) (by kernel_rfl) (fun _ _ _ h => h) (Or.inl ⟨by rfl, ?_⟩) hHeld ?_
    rotate_left 1
    · intro u hSu
      obtain ⟨q0, q1⟩ := row_cells (kept_row HBR.out hSu.out (by simp))
      have q2 := HC.out _ hSu
      go_simp
      first | done | with_reducible rfl
    (try simp only [Act.put, List.setIfInBounds_toArray, List.set_cons_zero, List.set_cons_succ])
    refine wpAnyH_ready (rs := [5]) (by kernel_rfl) (by simp) ?_
    refine AllReadyH.cons (o := { dst := some 24, op := Op.call { callee := Callee.value (Operand.func 71), args := #[Operand.tmp 19, Operand.tmp 23], argTypes := #[26, 3] }, type := 22, pos := "ref.go:214", after := #[{ on := 0, ground := Ground.data }, { on := 4, ground := Ground.data }], guard := none }) rfl (fun Kz hK => ?_) AllReadyH.nil
    go_simp
    go_at_call 71
    refine (rnear_any ⟨R, L, pR, cR, pL, cL⟩ x _ _ (HT.out.keep hHeld.out) (show R.length ≤ 1000 by omega)).mono ?_
    rintro e w5 ⟨pn, cn, rfl, hRN0, hcn0, -, hg5⟩
    simp only at hRN0 hcn0 ⊢
    rw [HX.out.2.2] at hRN0 hcn0
    rw [HX.out.2.2]
    have hRN := And.intro (Rd.mono hRN0.lt (q' := fun b => w4.heap.size ≤ b ∧ b < w5.heap.size) (fun b hb => ⟨Nat.le_trans hHeld.out.size hb.1, hb.2⟩)) hcn0
    clear hRN0 hcn0
    refine hK.out _ _ (Lib.hid (grown_trans hHeld.out hg5)) (fun hH2 => ?_)
    clear hK Kz hHeld
    have hHeld := hH2
    clear hH2
    (try simp only [Act.put, List.setIfInBounds_toArray, List.set_cons_zero, List.set_cons_succ])
    refine wpAnyH_take (i := 6) (oi := { dst := some 7, op := Op.assign (Operand.tmp 24), type := 22, pos := "ref.go:214", after := #[{ on := 5, ground := Ground.data }, { on := 5, ground := Ground.chain }, { on := 0, ground := Ground.phase }, { on := 1, ground := Ground.phase }, { on := 2, ground := Ground.phase }, { on := 3, ground := Ground.phase }, { on := 4, ground := Ground.phase }, { on := 5, ground := Ground.phase }], guard := none }) (v := ?_) rfl (by kernel_rfl) (by kernel_rfl) (by kernel_rfl) (fun _ _ _ h => h) (Or.inl ⟨by rfl, ?_⟩) hHeld ?_
    rotate_left 1
    · intro u hSu
      obtain ⟨q0, q1⟩ := row_cells (kept_row HBR.out hSu.out (by simp))
      have q2 := HC.out _ hSu
      go_simp
      first | done | with_reducible rfl
    (try simp only [Act.put, List.setIfInBounds_toArray, List.set_cons_zero, List.set_cons_succ])
    refine wpAnyH_done (by kernel_rfl) ?_ _
    have HR5 := Lib.hid hRN
    clear hRN
    have N5 := Lib.hid (N.out.keep hHeld.out)
    have hMl : M.length ≤ 24 := by rw [← HX.out.2.2]; unfold nearR; rw [List.length_map]; exact Nat.le_trans (List.length_filter_le _ _) h24
    have HI0 : Hid (BI w4 w5 (.slice pn M.length cn) M (.slice (some ⟨b, off, none⟩) O.length cv) w5) := Lib.hid ⟨HR5.out.1, fun g e => .inl (HBO.out g e), Nat.le_refl _⟩
    have hcn1 := HR5.out.2
    clear hHeld HBR HT HC HBO HR5 N i0 i1
    go_wp2_with fail
    go_loopw [5, 8] (fun v a wr => ∃ (k : Nat) (O' : List Int), k ≤ M.length ∧ i < O'.length ∧ a = .int .i64 (k : Int) ∧ Hid (NK wa v O' wr) ∧ Hid (BF L r O' i) ∧ Hid (O'[i]? = some x ∧ ∀ y ∈ M.take k, y ∈ O') ∧ Hid (BI w4 w5 (.slice pn M.length cn) M v wr)) (fun _ a _ => M.length - (intOf a).toNat)
    case atStart => exact ⟨0, O, Nat.zero_le _, hlt, rfl, N5, B, Lib.hid ⟨HX.out.1, fun y h => by cases h⟩, HI0⟩
    case round =>
    obtain ⟨k, O', hk, hiO, rfl, N', B', HO, HI⟩ := hrel
    clear N5 B HI0
    have hOl' : O'.length ≤ R.length := B'.out.len HV.out.1 HV.out.2
    have hrow := N'.out.own
    have hwz := N'.out.gr.size
    obtain ⟨pv', cv', rfl, hv1', hv2'⟩ := own_shape hrow
    by_cases hkt : k < M.length
    · obtain ⟨-, b2, off2, rfl, -, hc2⟩ := rdi_at HI.out.rd (by omega)
      obtain ⟨y, hy⟩ : ∃ y, M[k]? = some y := ⟨_, List.getElem?_eq_getElem hkt⟩
      have a0 := hc2 k y hy
      have HY := Lib.hid hy
      have k0 : (0 : Int) ≤ (k : Int) := by omega
      have k1 : (k : Int) < (M.length : Int) := by omega
      clear hc2 hy
      cases hh : hasI O' y
      · have HH := Lib.hid hh
        go_wp2_with fail
        refine (rhas4_any O' y pv' cv' _ wr (rd_of_own N'.out.own) (by omega)).mono ?_
        rw [hh]
        rintro e w' ⟨rfl, rfl⟩
        go_wp2_with (at_builtin; refine wpList_append_lies _ rfl _ _ 22 rfl wa.heap.size 3 ii (.int .i64 0) 1 8 Try.underlying22 hii hi0 hi1 hi2 rfl (by decide) _ _ _ rfl (hrow.alloc _) ⟨wr.heap.size, 0, none⟩ 1 1 [.int .i64 y] rfl rfl ?c1 ?c2 (by decide) ?c3 ?c4 ?c5 _ rfl ?_)
        try (case c1 => exact cell_one _ _ _)
        case c2 => first | rfl | (intro u hu; simp at hu; subst hu; rfl)
        case c3 => first | omega | (unfold maxLen; omega)
        case c4 => omega
        case c5 => first | omega | (simp; omega)
        intro g6 cap6 w6 hown6 hg6 hat6 hlt6
        have N6 := Lib.hid (N'.out.more (grown_refl _ _) hown6 hg6).1
        have I6 := Lib.hid (HI.out.app (n := O'.length + 1) (cap := cap6) hg6 (hat6.imp id fun e => by rw [e]; try simp))
        have B6 := Lib.hid (B'.out.add (by omega) (List.mem_of_getElem? HO.out.1) (y := y) (by rw [HX.out.2.1]; exact List.mem_of_getElem? HY.out) HH.out)
        have HO6 : Hid ((O' ++ [y])[i]? = some x ∧ ∀ z ∈ M.take (k + 1), z ∈ O' ++ [y]) := Lib.hid ⟨by rw [List.getElem?_append_left hiO]; exact HO.out.1, fun z hz => by
          rw [List.take_add_one, HY.out] at hz
          rcases List.mem_append.1 hz with hz | hz
          · exact List.mem_append_left _ (HO.out.2 z hz)
          · exact List.mem_append_right _ (by simpa using hz)⟩
        clear hown6 hg6 hat6 hlt6 hrow hh a0 N' B' HO HI
        go_wp2_with fail
        refine ⟨⟨k + 1, O' ++ [y], by omega, by rw [List.length_append]; omega, congrArg _ (by omega), ?_, B6, HO6, ?_⟩, by simp only [intOf]; omega⟩
        · exact N6
        · exact I6
      · have HO6 : Hid (O'[i]? = some x ∧ ∀ z ∈ M.take (k + 1), z ∈ O') := Lib.hid ⟨HO.out.1, fun z hz => by
          rw [List.take_add_one, HY.out] at hz
          rcases List.mem_append.1 hz with hz | hz
          · exact HO.out.2 z hz
          · have : z = y := by simpa using hz
            subst this
            exact hasI_mem.1 hh⟩
        go_wp2_with fail
        refine (rhas4_any O' y pv' cv' _ wr (rd_of_own N'.out.own) (by omega)).mono ?_
        rw [hh]
        rintro e w' ⟨rfl, rfl⟩
        clear hh
        go_wp2_with fail
        exact ⟨⟨k + 1, O', by omega, hiO, congrArg _ (by omega), N', B', HO6, HI⟩, by simp only [intOf]; omega⟩
    · obtain rfl : k = M.length := by omega
      have B2 : Hid (BF L r O' (i + 1)) := Lib.hid (B'.out.next HO.out.1 (fun y hy => HO.out.2 y (by rw [List.take_length, ← HX.out.2.1]; exact hy)))
      clear hrow
      go_wp2_with fail
      exact ⟨⟨i + 1, O', by omega, congrArg _ (by omega), N', B2⟩, by simp only [intOf]; omega⟩
  · obtain rfl : i = O.length := by omega
    have HD : Hid (insO O = cls L r) := Lib.hid (B.out.done HV.out.1 HV.out.2)
    have I0 : Hid (IR w4 (insO (O.take 0)) (.slice none 0 0) w4) := Lib.hid (IR.nil w4)
    go_wp2_with fail
    go_loopw [9, 10] (fun v a wr => ∃ k : Nat, k ≤ O.length ∧ a = .int .i64 (k : Int) ∧ Hid (IR w4 (insO (O.take k)) v wr)) (fun _ a _ => O.length - (intOf a).toNat)
    case atStart => exact ⟨0, Nat.zero_le _, rfl, I0⟩
    case round =>
    obtain ⟨k, hk, rfl, I⟩ := hrel
    clear I0
    by_cases hkt : k < O.length
    · have hg := I.out
      obtain ⟨p, c, rfl, hR, hpn, hc12, hgw⟩ := hg
      have HR := Lib.hid (And.intro hR (And.intro hpn hgw))
      obtain ⟨-, b, off, rfl, -, hc2⟩ := rdi_at ((rd_of_own N.out.own).grown hgw (by simp)) (by omega)
      obtain ⟨y, hy⟩ : ∃ y, O[k]? = some y := ⟨_, List.getElem?_eq_getElem hkt⟩
      have a0 := hc2 k y hy
      have hil := insO_len O k
      have HT2 := Lib.hid (insO_take hy)
      have k0 : (0 : Int) ≤ (k : Int) := by omega
      have k1 : (k : Int) < (O.length : Int) := by omega
      obtain ⟨l, hl⟩ : ∃ l, insO (O.take k) = l := ⟨_, rfl⟩
      rw [hl] at HR hil HT2 hc12 ⊢
      clear hc2 hy hR hpn hgw I hl
      go_wp2_with fail
      refine (rins_any l y p c _ wr HR.out.1 HR.out.2.1 hc12.1 hc12.2 (by omega)).mono ?_
      rintro e w7 ⟨p7, c7, rfl, hR7, hp7, hc7, hg7⟩
      have I7 : Hid (IR w4 (insU l y) (.slice p7 (insU l y).length c7) w7) := Lib.hid ⟨p7, c7, rfl, hR7.mono (fun b hb => by rcases hb with hb | hb; exact hb; exact Nat.le_trans HR.out.2.2.size hb), hp7, hc7, grown_trans HR.out.2.2 hg7⟩
      clear hR7 hp7 hc7 hg7
      go_wp2_with fail
      refine ⟨⟨k + 1, by omega, congrArg _ (by omega), ?_⟩, by simp only [intOf]; omega⟩
      rw [HT2.out]
      exact I7
    · obtain rfl : k = O.length := by omega
      rw [List.take_length, HD.out] at I
      have hg := I.out
      obtain ⟨p, c, rfl, hR, hpn, hc12, hgw⟩ := hg
      have HR := Lib.hid (And.intro hR (And.intro hpn (And.intro hc12 hgw)))
      have hcl : (cls L r).length ≤ c := hc12.1
      obtain ⟨l, hl⟩ : ∃ l, cls L r = l := ⟨_, rfl⟩
      have HL := Lib.hid hl
      rw [hl] at HR ⊢
      clear hR hpn hc12 hgw I hl hcl HD
      go_wp2_with fail
      go_ret
      rw [HL.out]
      have g1 := grown_trans HB.out.2.1 N.out.gr
      exact ⟨p, c, rfl, HR.out.1.mono (fun b hb => Nat.le_trans g1.size hb), HR.out.2.2.1, HR.out.2.1, grown_trans g1 HR.out.2.2.2⟩
end Go.Proofs.Ytiencdgmnkphjaa

/- The reference's Components and Connected. -/
namespace Go.Proofs.Ytiencdgmnkphjaa
open Go.RowKit Bs
theorem CC.keep {w w' : World} {q : Nat → Prop} {x : Value} {C : List Int} (h : CC w q x C) (g : w.grownBy w' none) : CC w' q x C := by
  obtain ⟨p, c, e, hr, hc⟩ := h
  exact ⟨p, c, e, hr.grown g (by simp), hc⟩
/-- Rows of lists of numbers, while they grow. -/
structure RC (w0 : World) (Bs : Nat) (Cs : List (List Int)) (va : Value) (vals : List Value) (w : World) : Prop where
  row : w.ownsRow Bs 22 1 va vals.length vals
  len : vals.length = Cs.length
  at_ : ∀ (i : Nat) (C : List Int) (x : Value), Cs[i]? = some C → vals[i]? = some x → CC w (fun b => w0.heap.size ≤ b ∧ va.ownBlock ≠ some b) x C
  gr : w0.grownBy w none
  le : w0.heap.size ≤ Bs ∧ Bs ≤ w.heap.size
theorem RC.nil {w0 w : World} {Bs : Nat} (g : w0.grownBy w none) (h : w0.heap.size ≤ Bs) (h2 : Bs ≤ w.heap.size) : RC w0 Bs [] (.slice none 0 0) [] w :=
  ⟨World.ownsRow_nil _ _ _ _, rfl, fun i C x h _ => by simp at h, g, h, h2⟩
theorem RC.keep {w0 w w' : World} {Bs : Nat} {Cs : List (List Int)} {va : Value} {vals : List Value} (h : RC w0 Bs Cs va vals w) (g : w.grownBy w' none) : RC w0 Bs Cs va vals w' :=
  ⟨h.row.kept g (by cases hv : va.ownBlock <;> simp), h.len, fun i C x h1 h2 => by
    obtain ⟨p, c, e, hr, hc⟩ := h.at_ i C x h1 h2
    exact ⟨p, c, e, hr.grown g (by simp), hc⟩, grown_trans h.gr g, h.le.1, Nat.le_trans h.le.2 g.size⟩
theorem RC.app {w0 w w1 : World} {Bs : Nat} {va v' : Value} {Cs : List (List Int)} {C : List Int} {vals : List Value} {o : Obj} {g n cap : Nat} (h : RC w0 Bs Cs va vals w) (hv : CC w (fun b => w0.heap.size ≤ b ∧ va.ownBlock ≠ some b) v' C)
    (hown : w1.ownsRow Bs 22 1 (.slice (some ⟨g, 0, none⟩) n cap) (vals.length + 1) (vals ++ [v'])) (hg : (w.alloc o).grownBy w1 va.ownBlock) (hat : va.ownBlock = some g ∨ g = (w.alloc o).heap.size) :
    RC w0 Bs (Cs ++ [C]) (.slice (some ⟨g, 0, none⟩) n cap) (vals ++ [v']) w1 := by
  have k0 := World.grownBy_alloc w o none
  have hle := h.le
  have hne : ∀ b, b < Bs → some b ≠ va.ownBlock := fun b hb e => by
    have := (h.row.lt b e.symm).1
    omega
  have hk := h.keep k0
  have hsz : (w.alloc o).heap.size = w.heap.size + 1 := by simp
  have rd : ∀ (x : Value) (D : List Int), CC w (fun b => w0.heap.size ≤ b ∧ va.ownBlock ≠ some b) x D → CC w1 (fun b => w0.heap.size ≤ b ∧ (Value.slice (some ⟨g, 0, none⟩) n cap).ownBlock ≠ some b) x D := by
    rintro x D ⟨p, c, e, hr, hc⟩
    refine ⟨p, c, e, ?_, hc⟩
    refine Rd.mono ((hr.lt.grown k0 (by simp)).grown hg (fun b hb e => hb.1.2 e.symm)) (fun b hb => ⟨hb.1.1, fun e => ?_⟩)
    have eg : g = b := Option.some.inj e
    subst eg
    rcases hat with e2 | e2
    · exact hb.1.2 e2
    · have := hb.2
      omega
  refine ⟨?_, ?_, ?_, grown_any hk.gr hg (fun b hb => hne b (by omega)), hle.1, Nat.le_trans hk.le.2 hg.size⟩
  · rw [List.length_append]
    exact hown
  · rw [List.length_append, List.length_append, h.len]
    rfl
  · intro i D x h1 h2
    have hl := h.len
    by_cases hi : i < Cs.length
    · rw [List.getElem?_append_left hi] at h1
      rw [List.getElem?_append_left (by omega)] at h2
      exact rd x D (h.at_ i D x h1 h2)
    · rw [List.getElem?_append_right (by omega)] at h1 h2
      rw [hl] at h2
      by_cases hi2 : i - Cs.length = 0
      · rw [hi2] at h1 h2
        obtain rfl : C = D := by simpa using h1
        obtain rfl : v' = x := by simpa using h2
        exact rd _ _ hv
      · rw [List.getElem?_eq_none (by simp; omega)] at h1
        cases h1
theorem RC.ret {w0 w : World} {Bs : Nat} {va : Value} {Cs : List (List Int)} {vals : List Value} (h : RC w0 Bs Cs va vals w) : TCPost Cs w0 (.returned va) w := by
  have hle := h.le
  have hr := rd_of_own h.row
  have at2 : ∀ (i : Nat) (C : List Int) (x : Value), Cs[i]? = some C → vals[i]? = some x → CC w (w0.heap.size ≤ ·) x C := fun i C x h1 h2 => by
    obtain ⟨p, c, e, hr, hc⟩ := h.at_ i C x h1 h2
    exact ⟨p, c, e, hr.mono (fun b hb => hb.1), hc⟩
  have hro := h.row
  have hl := h.len
  rw [hl] at hro
  rcases Joins.ownsRow_forms hro with ⟨e, e0⟩ | ⟨g, cap, e⟩
  · subst e
    have hn : Cs.length = 0 := by omega
    refine ⟨none, 0, vals, by rw [hn], ?_, hl, ⟨by omega, by omega⟩, at2, h.gr⟩
    have h2 := hr.mono (q' := (w0.heap.size ≤ ·)) (fun b hb => by show _ ≤ b; omega)
    rw [hn]
    exact h2
  · subst e
    have := own_cap hro
    unfold maxLen at this
    exact ⟨_, cap, vals, rfl, hr.mono (fun b hb => by show _ ≤ b; omega), hl, ⟨this.1, by omega⟩, at2, h.gr⟩
theorem rcomps_take {R : List Rt} {L : List Lk} {k : Nat} {m : Rt} (h : R[k]? = some m) : rcomps (R.take (k + 1)) L = rcomps (R.take k) L ++ (if (cls L m.id).head? = some m.id then [cls L m.id] else []) := by
  unfold rcomps
  rw [List.take_add_one, h, List.filter_append, List.map_append]
  congr 1
  by_cases e : (cls L m.id).head? = some m.id <;> simp [e]
theorem rcomps_len (R : List Rt) (L : List Lk) : (rcomps R L).length ≤ R.length := by
  unfold rcomps
  rw [List.length_map]
  exact List.length_filter_le _ _
set_option maxRecDepth 100000 in
set_option maxHeartbeats 3200000 in
theorem rcomps_any (T : Tg) (q : Nat → Prop) (w : World) (hT : TgOk w q T) :
    Calls Try.prog 38 #[.agg #[.slice T.pR T.R.length T.cR, .slice T.pL T.L.length T.cL]] w fun e w' => TCPost (comps T.R T.L) w e w' := by
  obtain ⟨ii, hii, hi0, hi1, hi2⟩ := info_parts info_ints2
  obtain ⟨R, L, pR, cR, pL, cL⟩ := T
  have hm1 := Nat.le_trans hT.cr.1 hT.cr.2
  have hm2 := Nat.le_trans hT.cl.1 hT.cl.2
  simp only at hm1 hm2 ⊢
  obtain ⟨k1, k2⟩ := tone_box w #[.slice pR R.length cR, .slice pL L.length cL] 26
  have HB := Lib.hid (And.intro k1 (And.intro k2 (hT.keep k2)))
  clear k1 k2 hT
  obtain ⟨Cr, hCr⟩ : ∃ Cr, comps R L = Cr := ⟨_, rfl⟩
  rw [hCr]
  have HCR := Lib.hid hCr
  clear hCr
  go_enter Try.func38, Try.ntmps38
  go_upto_region 1 with fail
  generalize w.alloc _ = wa at *
  obtain ⟨c0, c1⟩ := row_cells HB.out.1
  go_wp2_with fail
  refine (rcheck_any ⟨R, L, pR, cR, pL, cL⟩ _ wa HB.out.2.2).mono ?_
  rintro e w1 ⟨rfl, hg⟩
  simp only
  have HG := Lib.hid hg
  clear hg c0 c1
  by_cases hv : chk R L = 0
  case neg =>
    have hv' : (chk R L != 0) = true := by simpa using hv
    obtain rfl : Cr = [] := by
      have := HCR.out
      unfold comps okT at this
      rw [if_neg (by simpa using hv)] at this
      exact this.symm
    clear hv
    go_wp2_with fail
    go_ret
    exact ⟨none, 0, [], rfl, ⟨none, 0, rfl, fun h => absurd rfl h⟩, rfl, ⟨Nat.le_refl _, by show 0 ≤ _; omega⟩, (fun i C x h1 _ => by simp at h1), grown_trans HB.out.2.1 HG.out⟩
  have hvt : okT R L = true := by unfold okT; simpa using hv
  obtain ⟨h24, h60⟩ := okT_len hvt
  have HV := Lib.hid hvt
  have HCE : Hid (rcomps R L = Cr) := Lib.hid (by rw [← comps_eq hvt]; exact HCR.out)
  have HW := Lib.hid (And.intro (kept_row HB.out.1 HG.out (by simp)) (And.intro (grown_trans HB.out.2.1 HG.out) (HB.out.2.2.keep HG.out)))
  rw [hv]
  clear hvt HCR HB HG hv
  have R0 : Hid (RC w w1.heap.size (rcomps (R.take 0) L) (.slice none 0 0) [] w1) := Lib.hid (RC.nil HW.out.2.1 HW.out.2.1.size (Nat.le_refl _))
  obtain ⟨c0, c1⟩ := row_cells HW.out.1
  go_wp2_with fail
  go_loopw [3, 4] (fun v a wr => ∃ (k : Nat) (vals : List Value) (va : Value), va = v ∧ k ≤ R.length ∧ vals.length ≤ k ∧ a = .int .i64 (k : Int) ∧ Hid (RC w w1.heap.size (rcomps (R.take k) L) va vals wr) ∧ Hid (w1.grownBy wr none)) (fun _ a _ => R.length - (intOf a).toNat)
  case atStart => exact ⟨0, [], _, rfl, Nat.zero_le _, Nat.le_refl _, rfl, R0, Lib.hid (grown_refl _ _)⟩
  case round =>
  obtain ⟨k, vals, va, rfl, hk, hvl, rfl, M, G⟩ := hrel
  clear R0 c0 c1
  have HBR := Lib.hid (kept_row HW.out.1 G.out (by simp))
  have HT := Lib.hid (HW.out.2.2.keep G.out)
  obtain ⟨c0, c1⟩ := row_cells HBR.out
  by_cases hlt : k < R.length
  · obtain ⟨-, b, off, rfl, -, -⟩ := rdr_cells (R := R) HT.out.r (by omega)
    obtain ⟨m, hm⟩ : ∃ m, R[k]? = some m := ⟨_, List.getElem?_eq_getElem hlt⟩
    have HC : Hid (∀ u, Hid (wr.grownBy u none) → u.cell? ⟨b, off + k * 2, none⟩ = some (.int .i64 m.id) ∧ u.cell? ⟨b, off + k * 2 + 1, none⟩ = some (.bool m.cap)) := Lib.hid (fun u hu => by
      obtain ⟨-, b', off', e, -, hc⟩ := rdr_cells (R := R) (HT.out.keep hu.out).r (by omega)
      injection e with e
      injection e with e4 e5
      subst e4
      subst e5
      exact hc k m hm)
    have i0 : (0 : Int) ≤ (k : Int) := by omega
    have i1 : (k : Int) < (R.length : Int) := by omega
    have HM := Lib.hid hm
    have HRT := Lib.hid (rcomps_take (L := L) hm)
    clear hm
    go_upto_region 7 with fail
    clear c0 c1
    refine wp_region_held_drew (S := fun w' => Hid (wr.grownBy w' none)) (by kernel_rfl) (Lib.hid (grown_drew (grown_refl _ _))) (fun hHeld => ?_)
    refine wpAnyH_take (i := 0) (oi := { dst := some 16, op := Op.load 26 (Operand.tmp 1), type := 26, pos := "ref.go:235", after := #[], guard := none }) (v := ?_) rfl (by kernel_rfl) (by kernel_rfl) (by kernel_rfl) (fun _ _ _ h => h) (Or.inl ⟨by rfl, ?_⟩) hHeld ?_
    rotate_left 1
    · intro u hSu
      obtain ⟨q0, q1⟩ := row_cells (kept_row HBR.out hSu.out (by simp))
      obtain ⟨q2, q3⟩ := HC.out _ hSu
      go_simp
      first | done | with_reducible rfl
    (try simp only [Act.put, List.setIfInBounds_toArray, List.set_cons_zero, List.set_cons_succ])
    refine wpAnyH_take (i := 1) (oi := { dst := some 17, op := Op.fieldAddr 26 (Operand.tmp 1) 0, type := 0, pos := "ref.go:235", after := #[], guard := none }) (v := ?_) rfl (by kernel_rfl) (by kernel_rfl) (by kernel_rfl) (fun _ _ _ h => h) (Or.inl ⟨by rfl, ?_⟩) hHeld ?_
    rotate_left 1
    · intro u hSu
      obtain ⟨q0, q1⟩ := row_cells (kept_row HBR.out hSu.out (by simp))
      obtain ⟨q2, q3⟩ := HC.out _ hSu
      go_simp
      first | done | with_reducible rfl
    (try simp only [Act.put, List.setIfInBounds_toArray, List.set_cons_zero, List.set_cons_succ])
    refine wpAnyH_take (i := 2) (oi := { dst := some 18, op := Op.load 23 (Operand.tmp 17), type := 23, pos := "ref.go:235", after := #[{ on := 1, ground := Ground.data }], guard := none }) (v := ?_) rfl (by kernel_rfl) (by kernel_rfl) (by kernel_rfl) (fun _ _ _ h => h) (Or.inl ⟨by rfl, ?_⟩) hHeld ?_
    rotate_left 1
    · intro u hSu
      obtain ⟨q0, q1⟩ := row_cells (kept_row HBR.out hSu.out (by simp))
      obtain ⟨q2, q3⟩ := HC.out _ hSu
      go_simp
      first | done | with_reducible rfl
    (try simp only [Act.put, List.setIfInBounds_toArray, List.set_cons_zero, List.set_cons_succ])
    refine wpAnyH_take (i := 3) (oi := { dst := some 19, op := Op.move (Operand.tmp 4), type := 3, pos := "ref.go:235", after := #[], guard := none }) (v := ?_) rfl (by kernel_rfl) (by kernel_rfl) (by kernel_rfl) (fun _ _ _ h => h) (Or.inl ⟨by rfl, ?_⟩) hHeld ?_
    rotate_left 1
    · intro u hSu
      obtain ⟨q0, q1⟩ := row_cells (kept_row HBR.out hSu.out (by simp))
      obtain ⟨q2, q3⟩ := HC.out _ hSu
      go_simp
      first | done | with_reducible rfl
    (try simp only [Act.put, List.setIfInBounds_toArray, List.set_cons_zero, List.set_cons_succ])
    refine wpAnyH_take (i := 4) (oi := { dst := some 20, op := Op.indexAddr 23 (Operand.tmp 18) (Operand.tmp 19), type := 0, pos := "ref.go:235", after := #[{ on := 2, ground := Ground.data }, { on := 3, ground := Ground.data }], guard := none }) (v := ?_) rfl (by kernel_rfl) (by kernel_rfl) (by kernel_rfl) (fun _ _ _ h => h) (Or.inl ⟨by rfl, ?_⟩) hHeld ?_
    rotate_left 1
    · intro u hSu
      obtain ⟨q0, q1⟩ := row_cells (kept_row HBR.out hSu.out (by simp))
      obtain ⟨q2, q3⟩ := HC.out _ hSu
      go_simp
      first | done | with_reducible rfl
    (try simp only [Act.put, List.setIfInBounds_toArray, List.set_cons_zero, List.set_cons_succ])
    refine wpAnyH_take (i := 5) (oi := { dst := some 21, op := Op.fieldAddr 73 (Operand.tmp 20) 0, type := 0, pos := "ref.go:235", after := #[{ on := 4, ground := Ground.data }], guard := none }) (v := ?_) rfl (by kernel_rfl) (by kernel_rfl) (by kernel_rfl) (fun _ _ _ h => h) (Or.inl ⟨by rfl, ?_⟩) hHeld ?_
    rotate_left 1
    · intro u hSu
      obtain ⟨q0, q1⟩ := row_cells (kept_row HBR.out hSu.out (by simp))
      obtain ⟨q2, q3⟩ := HC.out _ hSu
      go_simp
      first | done | with_reducible rfl
    (try simp only [Act.put, List.setIfInBounds_toArray, List.set_cons_zero, List.set_cons_succ])
    refine wpAnyH_take (i := 6) (oi := { dst := some 22, op := Op.load 3 (Operand.tmp 21), type := 3, pos := "ref.go:235", after := #[{ on := 5, ground := Ground.data }], guard := none }) (v := ?_) rfl (by kernel_rfl) (by kernel_rfl) (by kernel_rfl) (fun _ _ _ h => h) (Or.inl ⟨by rfl, ?_⟩) hHeld ?_
    rotate_left 1
    · intro u hSu
      obtain ⟨q0, q1⟩ := row_cells (kept_row HBR.out hSu.out (by simp))
      obtain ⟨q2, q3⟩ := HC.out _ hSu
      go_simp
      first | done | with_reducible rfl
    (try simp only [Act.put, List.setIfInBounds_toArray, List.set_cons_zero, List.set_cons_succ])
    refine wpAnyH_ready (rs := [7]) (by kernel_rfl) (by simp) ?_
    refine AllReadyH.cons (o := { dst := some 23, op := Op.call { callee := Callee.value (Operand.func 85), args := #[Operand.tmp 16, Operand.tmp 22], argTypes := #[26, 3] }, type := 22, pos := "ref.go:235", after := #[{ on := 0, ground := Ground.data }, { on := 6, ground := Ground.data }], guard := none }) rfl (fun Kz hK => ?_) AllReadyH.nil
    go_simp
    go_at_call 85
    refine (rarnd_any ⟨R, L, _, cR, pL, cL⟩ m.id _ _ (HT.out.keep hHeld.out) HV.out ⟨m, List.mem_of_getElem? HM.out, rfl⟩).mono ?_
    rintro e w5 ⟨pn, cn, rfl, hRN0, hcn0, -, hg5⟩
    simp only at hRN0 hcn0 ⊢
    have hRN := And.intro (hRN0.mono (q' := (wr.heap.size ≤ ·)) (fun b hb => Nat.le_trans hHeld.out.size hb)) hcn0
    clear hRN0 hcn0
    refine hK.out _ _ (Lib.hid (grown_trans hHeld.out hg5)) (fun hH2 => ?_)
    clear hK Kz hHeld
    have hHeld := hH2
    clear hH2
    (try simp only [Act.put, List.setIfInBounds_toArray, List.set_cons_zero, List.set_cons_succ])
    refine wpAnyH_take (i := 8) (oi := { dst := some 5, op := Op.assign (Operand.tmp 23), type := 22, pos := "ref.go:235", after := #[{ on := 7, ground := Ground.data }, { on := 7, ground := Ground.chain }, { on := 0, ground := Ground.phase }, { on := 1, ground := Ground.phase }, { on := 2, ground := Ground.phase }, { on := 3, ground := Ground.phase }, { on := 4, ground := Ground.phase }, { on := 5, ground := Ground.phase }, { on := 6, ground := Ground.phase }, { on := 7, ground := Ground.phase }], guard := none }) (v := ?_) rfl (by kernel_rfl) (by kernel_rfl) (by kernel_rfl) (fun _ _ _ h => h) (Or.inl ⟨by rfl, ?_⟩) hHeld ?_
    rotate_left 1
    · intro u hSu
      obtain ⟨q0, q1⟩ := row_cells (kept_row HBR.out hSu.out (by simp))
      obtain ⟨q2, q3⟩ := HC.out _ hSu
      go_simp
      first | done | with_reducible rfl
    (try simp only [Act.put, List.setIfInBounds_toArray, List.set_cons_zero, List.set_cons_succ])
    refine wpAnyH_done (by kernel_rfl) ?_ _
    obtain ⟨n, en, hn⟩ := rt_nat HV.out (List.mem_of_getElem? HM.out)
    obtain ⟨e1, e2⟩ := cls_spec (okT_near100 HV.out) hn
    rw [← en] at e1 e2
    have hin : m.id ∈ cls L m.id := (e2 _).2 (Rch.refl L _)
    have hRN2 := hRN
    obtain ⟨C, hC⟩ : ∃ C, cls L m.id = C := ⟨_, rfl⟩
    rw [hC] at hin hRN2 HRT
    rw [hC]
    clear hRN e1 e2 en hC
    obtain ⟨h, t, rfl⟩ : ∃ h t, C = h :: t := by
      cases C with
      | nil => cases hin
      | cons h t => exact ⟨h, t, rfl⟩
    have HN := Lib.hid hRN2
    have hg5 := Lib.hid hHeld.out
    clear hRN2 hin hHeld n hn
    have M5 := Lib.hid (M.out.keep hg5.out)
    have HO : Hid (∀ g, va.ownBlock = some g → g < wr.heap.size) := Lib.hid (fun g e => (M.out.row.lt g e).2)
    obtain ⟨-, b2, off2, rfl, -, hc2⟩ := rdi_at HN.out.1 (by simp)
    have d0 := hc2 0 h rfl
    rw [Nat.add_zero] at d0
    obtain ⟨c0, c1⟩ := row_cells (kept_row HBR.out hg5.out (by simp))
    obtain ⟨c2, c3⟩ := HC.out _ hg5
    have hl1 : (0 : Int) < ((h :: t).length : Int) := by simp <;> omega
    have hl2 : 0 < (h :: t).length := by simp
    have HCC : Hid (CC w5 (fun b => w.heap.size ≤ b ∧ va.ownBlock ≠ some b) (.slice (some ⟨b2, off2, none⟩) (h :: t).length cn) (h :: t)) := Lib.hid ⟨_, cn, rfl, HN.out.1.mono (fun b hb => ⟨Nat.le_trans M.out.gr.size hb, fun e => by have := HO.out b e; omega⟩), HN.out.2⟩
    have G5 := Lib.hid (grown_trans G.out hg5.out)
    obtain ⟨N, hN⟩ : ∃ N, (h :: t).length = N := ⟨_, rfl⟩
    have HNN := Lib.hid hN
    rw [hN] at hl1 hl2 HCC ⊢
    have N5 : ∀ n, Hid (RC w w1.heap.size (rcomps (R.take k) L) va vals (w5.drewN n) ∧ w1.grownBy (w5.drewN n) none ∧ CC (w5.drewN n) (fun b => w.heap.size ≤ b ∧ va.ownBlock ≠ some b) (.slice (some ⟨b2, off2, none⟩) N cn) (h :: t)) := fun n => Lib.hid ⟨M5.out.keep (grown_drewN _ n _), grown_trans G5.out (grown_drewN _ n _), HCC.out.keep (grown_drewN _ n _)⟩
    clear hc2 HBR HT HC M HO HN hg5 G hN M5 G5 HCC
    by_cases e : h = m.id
    · have e' : (h == m.id) = true := by simpa using e
      have HR2 : Hid (rcomps (R.take (k + 1)) L = rcomps (R.take k) L ++ [h :: t]) := Lib.hid (by rw [HRT.out, if_pos (by rw [e]; rfl)])
      clear HRT e
      go_upto_region 8 with fail
      go_quiet (fail)
      have M5 := N5 nq
      clear N5 c0 c1 c2 c3 d0
      generalize w5.drewN nq = wq at *
      have hrow := M5.out.1.row
      have hsz := M5.out.1.le
      go_wp2_with (at_builtin; refine wpList_append_lies _ rfl _ _ 60 rfl w1.heap.size 22 ii (.slice none 0 0) 1 24 Try.underlying60 hii hi0 hi1 hi2 rfl (by decide) _ _ _ rfl (hrow.alloc _) ⟨wq.heap.size, 0, none⟩ 1 1 [.slice (some ⟨b2, off2, none⟩) N cn] rfl rfl ?c1 ?c2 (by decide) ?c3 ?c4 ?c5 _ rfl ?_)
      try (case c1 => exact cell_one _ _ _)
      case c2 => first | rfl | (intro u hu; simp at hu; subst hu; rfl)
      case c3 => first | omega | (unfold maxLen; omega)
      case c4 => omega
      case c5 => first | omega | (simp; omega)
      intro g6 cap6 w6 hown6 hg6 hat6 hlt6
      have M6 := Lib.hid (M5.out.1.app M5.out.2.2 hown6 hg6 (hat6.imp id fun e => by rw [e]; try simp))
      have G6 : Hid (w1.grownBy w6 none) := Lib.hid (grown_any (grown_trans M5.out.2.1 (World.grownBy_alloc _ _ none)) hg6 (fun b hb e => by have := (M5.out.1.row.lt b e.symm).1; omega))
      clear hown6 hg6 hat6 hlt6 hrow M5
      go_wp2_with fail
      refine ⟨⟨k + 1, vals ++ [.slice (some ⟨b2, off2, none⟩) N cn], _, rfl, by omega, by rw [List.length_append]; simp; omega, congrArg _ (by omega), Lib.hid ?_, G6⟩, by simp only [intOf]; omega⟩
      rw [HR2.out]
      exact M6.out
    · have e' : (h == m.id) = false := by simpa using e
      have HR2 : Hid (rcomps (R.take (k + 1)) L = rcomps (R.take k) L) := Lib.hid (by rw [HRT.out, if_neg (by simpa using e), List.append_nil])
      clear HRT e
      go_upto_region 8 with fail
      go_quiet (fail)
      have M5 := N5 nq
      clear N5 c0 c1 c2 c3 d0
      generalize w5.drewN nq = wq at *
      go_wp2_with fail
      refine ⟨⟨k + 1, vals, _, rfl, by omega, by omega, congrArg _ (by omega), Lib.hid ?_, Lib.hid M5.out.2.1⟩, by simp only [intOf]; omega⟩
      rw [HR2.out]
      exact M5.out.1
  · obtain rfl : k = R.length := by omega
    rw [List.take_length, HCE.out] at M
    clear HCE
    go_wp2_with fail
    go_ret
    exact M.out.ret
theorem conn_ref (R : List Rt) (L : List Lk) (a b : Int) : conn R L a b = (hasV R L a && (hasV R L b && hasI (cls L a) b)) := by
  cases hv : okT R L
  · unfold conn comps hasV
    rw [hv]
    rfl
  · rw [Bool.eq_iff_iff, conn_iff hv]
    unfold hasV
    rw [hv]
    simp only [Bool.true_and, Bool.and_eq_true]
    have hR : ∀ x, hasR R x = true ↔ ∃ r ∈ R, r.id = x := fun x => by
      unfold hasR
      rw [List.any_eq_true]
      simp
    rw [hR, hR, hasI_mem]
    constructor
    · rintro ⟨⟨r, hr, rfl⟩, h⟩
      obtain ⟨n, en, hn⟩ := rt_nat hv hr
      obtain ⟨-, e2⟩ := cls_spec (okT_near100 hv) hn
      rw [← en] at e2
      exact ⟨⟨r, hr, rfl⟩, reach_id hv ⟨r, hr, rfl⟩ h, (e2 b).2 h⟩
    · rintro ⟨⟨r, hr, rfl⟩, -, h⟩
      obtain ⟨n, en, hn⟩ := rt_nat hv hr
      obtain ⟨-, e2⟩ := cls_spec (okT_near100 hv) hn
      rw [← en] at e2
      exact ⟨⟨r, hr, rfl⟩, (e2 b).1 h⟩
set_option maxRecDepth 100000 in
set_option maxHeartbeats 3200000 in
theorem rconn_any (T : Tg) (a b : Int) (q : Nat → Prop) (w : World) (hT : TgOk w q T) :
    Calls Try.prog 40 #[.agg #[.slice T.pR T.R.length T.cR, .slice T.pL T.L.length T.cL], .int .i64 a, .int .i64 b] w fun e w' => e = .returned (.bool (conn T.R T.L a b)) ∧ w.grownBy w' none := by
  obtain ⟨R, L, pR, cR, pL, cL⟩ := T
  simp only
  obtain ⟨k1, k2⟩ := tone_box w #[.slice pR R.length cR, .slice pL L.length cL] 26
  have HB := Lib.hid (And.intro k1 (And.intro k2 (hT.keep k2)))
  clear k1 k2 hT
  obtain ⟨z, hz⟩ : ∃ z, conn R L a b = z := ⟨_, rfl⟩
  rw [hz]
  have HZ : Hid ((hasV R L a && (hasV R L b && hasI (cls L a) b)) = z) := Lib.hid (by rw [← conn_ref]; exact hz)
  clear hz
  go_enter Try.func40, Try.ntmps40
  go_upto_region 1 with fail
  generalize w.alloc _ = wa at *
  have G0 := Lib.hid (grown_refl wa none)
  obtain ⟨c0, c1⟩ := row_cells HB.out.1
  cases ha : hasV R L a
  · have HA := Lib.hid ha
    obtain rfl : z = false := by have := HZ.out; rw [ha] at this; exact this.symm
    clear ha
    go_wp2_with fail
    refine (rhasV_any ⟨R, L, pR, cR, pL, cL⟩ a _ _ (HB.out.2.2.keep G0.out)).mono ?_
    simp only
    rw [HA.out]
    rintro e w1 ⟨rfl, hg⟩
    have G1 := Lib.hid (grown_trans G0.out hg)
    clear hg c0 c1
    obtain ⟨c0, c1⟩ := row_cells (kept_row HB.out.1 G1.out (by simp))
    have HG := Lib.hid (grown_trans HB.out.2.1 G1.out)
    go_wp2_with fail
    go_ret
    exact ⟨rfl, HG.out⟩
  cases hb : hasV R L b
  · have HA := Lib.hid ha
    have HE := Lib.hid hb
    obtain rfl : z = false := by have := HZ.out; rw [ha, hb] at this; exact this.symm
    clear ha hb
    go_wp2_with fail
    refine (rhasV_any ⟨R, L, pR, cR, pL, cL⟩ a _ _ (HB.out.2.2.keep G0.out)).mono ?_
    simp only
    rw [HA.out]
    rintro e w1 ⟨rfl, hg⟩
    have G1 := Lib.hid (grown_trans G0.out hg)
    clear hg c0 c1
    obtain ⟨c0, c1⟩ := row_cells (kept_row HB.out.1 G1.out (by simp))
    go_wp2_with fail
    refine (rhasV_any ⟨R, L, pR, cR, pL, cL⟩ b _ _ (HB.out.2.2.keep G1.out)).mono ?_
    simp only
    rw [HE.out]
    rintro e w2 ⟨rfl, hg⟩
    have G2 := Lib.hid (grown_trans G1.out hg)
    clear hg c0 c1
    obtain ⟨c0, c1⟩ := row_cells (kept_row HB.out.1 G2.out (by simp))
    have HG := Lib.hid (grown_trans HB.out.2.1 G2.out)
    go_wp2_with fail
    go_ret
    exact ⟨rfl, HG.out⟩
  · have HA := Lib.hid ha
    have HE := Lib.hid hb
    have HZ2 : Hid (hasI (cls L a) b = z) := Lib.hid (by have := HZ.out; rw [ha, hb] at this; exact this)
    have hv : okT R L = true := by unfold hasV at ha; rw [Bool.and_eq_true] at ha; exact ha.1
    have hra : ∃ x ∈ R, x.id = a := by
      unfold hasV at ha
      rw [Bool.and_eq_true] at ha
      obtain ⟨x, hx, e⟩ := List.any_eq_true.1 ha.2
      exact ⟨x, hx, of_decide_eq_true e⟩
    have HV := Lib.hid (And.intro hv hra)
    clear ha hb hv hra
    go_wp2_with fail
    refine (rhasV_any ⟨R, L, pR, cR, pL, cL⟩ a _ _ (HB.out.2.2.keep G0.out)).mono ?_
    simp only
    rw [HA.out]
    rintro e w1 ⟨rfl, hg⟩
    have G1 := Lib.hid (grown_trans G0.out hg)
    clear hg c0 c1
    obtain ⟨c0, c1⟩ := row_cells (kept_row HB.out.1 G1.out (by simp))
    go_wp2_with fail
    refine (rhasV_any ⟨R, L, pR, cR, pL, cL⟩ b _ _ (HB.out.2.2.keep G1.out)).mono ?_
    simp only
    rw [HE.out]
    rintro e w2 ⟨rfl, hg⟩
    have G2 := Lib.hid (grown_trans G1.out hg)
    clear hg c0 c1
    obtain ⟨c0, c1⟩ := row_cells (kept_row HB.out.1 G2.out (by simp))
    go_wp2_with fail
    refine (rarnd_any ⟨R, L, pR, cR, pL, cL⟩ a _ _ (HB.out.2.2.keep G2.out) HV.out.1 HV.out.2).mono ?_
    rintro e w5 ⟨pn, cn, rfl, hRN0, hcn0, -, hg⟩
    simp only at hRN0 hcn0 ⊢
    have HRN := Lib.hid (And.intro hRN0 hcn0)
    have hcm := Nat.le_trans hcn0.1 hcn0.2
    have G3 := Lib.hid (grown_trans G2.out hg)
    obtain ⟨C, hC⟩ : ∃ C, cls L a = C := ⟨_, rfl⟩
    rw [hC] at HRN HZ2 hcm ⊢
    clear hRN0 hcn0 hg hC c0 c1
    go_wp2_with fail
    refine (rhas4_any C b pn cn _ _ HRN.out.1 hcm).mono ?_
    rw [HZ2.out]
    rintro e w6 ⟨rfl, rfl⟩
    have HG := Lib.hid (grown_trans HB.out.2.1 G3.out)
    go_wp2_with fail
    go_ret
    exact ⟨rfl, HG.out⟩
end Go.Proofs.Ytiencdgmnkphjaa

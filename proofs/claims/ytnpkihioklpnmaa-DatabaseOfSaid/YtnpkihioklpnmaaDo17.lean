/- Parts of the proof, packed: ToArnd, ToRcp, DbOfM. -/
import Derived.Test.YtnpkihioklpnmaaDo15
import Derived.Test.YtnpkihioklpnmaaDo16
import Derived.Deep.AppendLies
import Derived.BigQuiet
import Derived.Test.YtnpkihioklpnmaaDo14
/- The reference's Around. -/
namespace Go.Proofs.Ytnpkihioklpnmaa
open Go.RowKit Bs
/-- While the found routers are sorted. -/
def IR (w0 : World) (l : List Int) (v : Value) (wz : World) : Prop := ∃ p c, v = .slice p l.length c ∧ Rd wz (w0.heap.size ≤ ·) (.slice p l.length c) (l.map tv) ∧ (p = none → c = 0) ∧ (l.length ≤ c ∧ c ≤ 9223372036854775807) ∧ w0.grownBy wz none
set_option maxRecDepth 100000 in
theorem IR.nil (w0 : World) : IR w0 [] (.slice none 0 0) w0 := ⟨none, 0, rfl, ⟨none, 0, rfl, fun h => absurd rfl h⟩, fun _ => rfl, ⟨Nat.le_refl _, by show 0 ≤ _; omega⟩, grown_refl _ _⟩
/-- While the neighbours of one router are gone through: what its neighbours' list keeps. -/
structure BIa (wr w5 : World) (vn : Value) (M : List Int) (v : Value) (wz : World) : Prop where
  rd : Rd wz (fun b => wr.heap.size ≤ b ∧ b < w5.heap.size) vn (M.map tv)
  ap : ∀ g, v.ownBlock = some g → g < wr.heap.size ∨ w5.heap.size ≤ g
  sz : w5.heap.size ≤ wz.heap.size
set_option maxRecDepth 100000 in
theorem BIa.app {wr w5 wz w6 : World} {vn v : Value} {M : List Int} {o : Obj} {g n cap : Nat} (h : BIa wr w5 vn M v wz) (hg : (wz.alloc o).grownBy w6 v.ownBlock) (hat : v.ownBlock = some g ∨ g = (wz.alloc o).heap.size) : BIa wr w5 vn M (.slice (some ⟨g, 0, none⟩) n cap) w6 := by
  have k0 := World.grownBy_alloc wz o none
  have hs := h.sz
  have hs2 : (wz.alloc o).heap.size = wz.heap.size + 1 := by simp
  refine ⟨(h.rd.grown k0 (by simp)).grown hg (fun b hb e => ?_), fun g' e => ?_, Nat.le_trans hs (Nat.le_trans k0.size hg.size)⟩
  · have := h.ap b e.symm
    omega
  · have eg : g = g' := Option.some.inj e
    subst eg
    rcases hat with e2 | e2
    · exact h.ap g e2
    · omega
set_option maxRecDepth 100000 in
set_option maxHeartbeats 3200000 in
theorem rarnd_any (T : Tg) (r : Int) (q : Nat → Prop) (w : World) (hT : TgOk w q T) (hv : okT T.R T.L = true) (hr : ∃ x ∈ T.R, x.id = r) :
    Calls Try.prog 43 #[.agg #[.slice T.pR T.R.length T.cR, .slice T.pL T.L.length T.cL], .int .i64 r] w fun e w' => TRet (cls T.L r) w e w' := by
  obtain ⟨R, L, pR, cR, pL, cL⟩ := T
  simp only at hv hr ⊢
  obtain ⟨h24, h60⟩ := okT_len hv
  obtain ⟨k1, k2⟩ := tone_box w #[.slice pR R.length cR, .slice pL L.length cL] 59
  have HB := Lib.hid (And.intro k1 (And.intro k2 (hT.keep k2)))
  have HV := Lib.hid (And.intro hv hr)
  clear k1 k2 hT hv hr
  go_enter Try.func43, Try.ntmps43
  obtain ⟨ii, hii, hi0, hi1, hi2⟩ := info_parts info_int
  go_upto_region 1 with fail
  generalize w.alloc _ = wa at *
  have N0 : Hid (NK wa (.slice (some ⟨wa.heap.size, 0, none⟩) 1 1) [r] (wa.alloc (.cells #[.int .i64 r] 3))) := Lib.hid ⟨World.ownsRow_lit wa #[.int .i64 r] 1 (Nat.le_refl _) (by decide) rfl, World.grownBy_alloc _ _ _⟩
  go_upto_region 2 with fail
  generalize wa.alloc _ = w1 at *
  go_wp2_with fail
  go_loopw [5, 6] (fun v a wr => ∃ (i : Nat) (O : List Int), i ≤ O.length ∧ a = .int .i64 (i : Int) ∧ Hid (NK wa v O wr) ∧ Hid (BF L r O i)) (fun _ a _ => R.length - (RowKit.intOf a).toNat)
  case atStart => exact ⟨0, [r], Nat.zero_le _, rfl, N0, Lib.hid (BF.start L r)⟩
  case round =>
  obtain ⟨w4, rfl⟩ : ∃ w4, w4 = wr := ⟨_, rfl⟩
  obtain ⟨i, O, hi, rfl, N, B⟩ := hrel
  clear N0
  have hOl : O.length ≤ R.length := B.out.len HV.out.1 HV.out.2
  have HBR := Lib.hid (kept_row HB.out.1 N.out.gr (by simp))
  have HT := Lib.hid (HB.out.2.2.keep N.out.gr)
  obtain ⟨pv, cv, rfl, hv1, hv2⟩ := own_shape N.out.own
  by_cases hlt : i < O.length
  · have hrd := rd_of_own N.out.own
    obtain ⟨-, b, off, rfl, -, -⟩ := rdi_at hrd (by omega)
    obtain ⟨x, hx⟩ : ∃ x, O[i]? = some x := ⟨_, List.getElem?_eq_getElem hlt⟩
    have HC : Hid (∀ u, Hid (w4.grownBy u none) → u.cell? ⟨b, off + i, none⟩ = some (.int .i64 x)) := Lib.hid (fun u hu => by
      obtain ⟨-, b', off', e, -, hc⟩ := rdi_at (hrd.grown hu.out (by simp)) (by omega)
      injection e with e
      injection e with e4 e5
      subst e4
      subst e5
      exact hc i x hx)
    have i0 : (0 : Int) ≤ (i : Int) := by omega
    have i1 : (i : Int) < (O.length : Int) := by omega
    obtain ⟨M, hM⟩ : ∃ M, nbL L x = M := ⟨_, rfl⟩
    have hNM : nearR R L x = M := by rw [← near_eq (okT_all HV.out.1), hM]
    have HX := Lib.hid (And.intro hx (And.intro hM hNM))
    have hb0 : b < w4.heap.size := (N.out.own.lt b (by rfl)).2
    have HBO : Hid (∀ g, (Value.slice (some ⟨b, off, none⟩) O.length cv).ownBlock = some g → g < w4.heap.size) := Lib.hid (fun g e => (N.out.own.lt g e).2)
    clear hx hM hNM hrd hb0
    go_upto_region 5 with fail
    refine wp_region_held_drew (S := fun w' => Hid (w4.grownBy w' none)) (by kernel_rfl) (Lib.hid (grown_drew (grown_refl _ _))) (fun hHeld => ?_)
    refine wpAnyH_take (i := 0) (oi := { dst := some 19, op := Op.load 59 (Operand.tmp 2), type := 59, pos := "ref.go:214", after := #[], guard := none }) (v := ?_) rfl (by kernel_rfl) (by kernel_rfl) (by kernel_rfl) (fun _ _ _ h => h) (Or.inl ⟨by rfl, ?_⟩) hHeld ?_
    rotate_left 1
    · intro u hSu
      obtain ⟨q0, q1⟩ := row_cells (kept_row HBR.out hSu.out (by simp))
      have q2 := HC.out _ hSu
      go_simp
      first | done | with_reducible rfl
    (try simp only [Act.put, List.setIfInBounds_toArray, List.set_cons_zero, List.set_cons_succ])
    refine wpAnyH_take (i := 1) (oi := { dst := some 20, op := Op.move (Operand.tmp 5), type := 22, pos := "ref.go:214", after := #[], guard := none }) (v := ?_) rfl (by kernel_rfl) (by kernel_rfl) (by kernel_rfl) (fun _ _ _ h => h) (Or.inl ⟨by rfl, ?_⟩) hHeld ?_
    rotate_left 1
    · intro u hSu
      obtain ⟨q0, q1⟩ := row_cells (kept_row HBR.out hSu.out (by simp))
      have q2 := HC.out _ hSu
      go_simp
      first | done | with_reducible rfl
    (try simp only [Act.put, List.setIfInBounds_toArray, List.set_cons_zero, List.set_cons_succ])
    refine wpAnyH_take (i := 2) (oi := { dst := some 21, op := Op.move (Operand.tmp 6), type := 3, pos := "ref.go:214", after := #[], guard := none }) (v := ?_) rfl (by kernel_rfl) (by kernel_rfl) (by kernel_rfl) (fun _ _ _ h => h) (Or.inl ⟨by rfl, ?_⟩) hHeld ?_
    rotate_left 1
    · intro u hSu
      obtain ⟨q0, q1⟩ := row_cells (kept_row HBR.out hSu.out (by simp))
      have q2 := HC.out _ hSu
      go_simp
      first | done | with_reducible rfl
    (try simp only [Act.put, List.setIfInBounds_toArray, List.set_cons_zero, List.set_cons_succ])
    refine wpAnyH_take (i := 3) (oi := { dst := some 22, op := Op.indexAddr 22 (Operand.tmp 20) (Operand.tmp 21), type := 0, pos := "ref.go:214", after := #[{ on := 1, ground := Ground.data }, { on := 2, ground := Ground.data }], guard := none }) (v := ?_) rfl (by kernel_rfl) (by kernel_rfl) (by kernel_rfl) (fun _ _ _ h => h) (Or.inl ⟨by rfl, ?_⟩) hHeld ?_
    rotate_left 1
    · intro u hSu
      obtain ⟨q0, q1⟩ := row_cells (kept_row HBR.out hSu.out (by simp))
      have q2 := HC.out _ hSu
      go_simp
      first | done | with_reducible rfl
    (try simp only [Act.put, List.setIfInBounds_toArray, List.set_cons_zero, List.set_cons_succ])
    refine wpAnyH_take (i := 4) (oi := { dst := some 23, op := Op.load 3 (Operand.tmp 22), type := 3, pos := "ref.go:214", after := #[{ on := 3, ground := Ground.data }], guard := none }) (v := ?_) rfl (by kernel_rfl) (by kernel_rfl) (by kernel_rfl) (fun _ _ _ h => h) (Or.inl ⟨by rfl, ?_⟩) hHeld ?_
    rotate_left 1
    · intro u hSu
      obtain ⟨q0, q1⟩ := row_cells (kept_row HBR.out hSu.out (by simp))
      have q2 := HC.out _ hSu
      go_simp
      first | done | with_reducible rfl
    (try simp only [Act.put, List.setIfInBounds_toArray, List.set_cons_zero, List.set_cons_succ])
    refine wpAnyH_ready (rs := [5]) (by kernel_rfl) (by simp) ?_
    refine AllReadyH.cons (o := { dst := some 24, op := Op.call { callee := Callee.value (Operand.func 74), args := #[Operand.tmp 19, Operand.tmp 23], argTypes := #[59, 3] }, type := 22, pos := "ref.go:214", after := #[{ on := 0, ground := Ground.data }, { on := 4, ground := Ground.data }], guard := none }) rfl (fun Kz hK => ?_) AllReadyH.nil
    go_simp
    go_at_call 74
    refine (rnear_any ⟨R, L, pR, cR, pL, cL⟩ x _ _ (HT.out.keep hHeld.out) (show R.length ≤ 1000 by omega)).mono ?_
    rintro e w5 ⟨pn, cn, rfl, hRN0, hcn0, -, hg5⟩
    simp only at hRN0 hcn0 ⊢
    rw [HX.out.2.2] at hRN0 hcn0
    rw [HX.out.2.2]
    have hRN := And.intro (Rd.mono hRN0.lt (q' := fun b => w4.heap.size ≤ b ∧ b < w5.heap.size) (fun b hb => ⟨Nat.le_trans hHeld.out.size hb.1, hb.2⟩)) hcn0
    clear hRN0 hcn0
    refine hK.out _ _ (Lib.hid (grown_trans hHeld.out hg5)) (fun hH2 => ?_)
    clear hK Kz hHeld
    have hHeld := hH2
    clear hH2
    (try simp only [Act.put, List.setIfInBounds_toArray, List.set_cons_zero, List.set_cons_succ])
    refine wpAnyH_take (i := 6) (oi := { dst := some 7, op := Op.assign (Operand.tmp 24), type := 22, pos := "ref.go:214", after := #[{ on := 5, ground := Ground.data }, { on := 5, ground := Ground.chain }, { on := 0, ground := Ground.phase }, { on := 1, ground := Ground.phase }, { on := 2, ground := Ground.phase }, { on := 3, ground := Ground.phase }, { on := 4, ground := Ground.phase }, { on := 5, ground := Ground.phase }], guard := none }) (v := ?_) rfl (by kernel_rfl) (by kernel_rfl) (by kernel_rfl) (fun _ _ _ h => h) (Or.inl ⟨by rfl, ?_⟩) hHeld ?_
    rotate_left 1
    · intro u hSu
      obtain ⟨q0, q1⟩ := row_cells (kept_row HBR.out hSu.out (by simp))
      have q2 := HC.out _ hSu
      go_simp
      first | done | with_reducible rfl
    (try simp only [Act.put, List.setIfInBounds_toArray, List.set_cons_zero, List.set_cons_succ])
    refine wpAnyH_done (by kernel_rfl) ?_ _
    have HR5 := Lib.hid hRN
    clear hRN
    have N5 := Lib.hid (N.out.keep hHeld.out)
    have hMl : M.length ≤ 24 := by rw [← HX.out.2.2]; unfold nearR; rw [List.length_map]; exact Nat.le_trans (List.length_filter_le _ _) h24
    have HI0 : Hid (BIa w4 w5 (.slice pn M.length cn) M (.slice (some ⟨b, off, none⟩) O.length cv) w5) := Lib.hid ⟨HR5.out.1, fun g e => .inl (HBO.out g e), Nat.le_refl _⟩
    have hcn1 := HR5.out.2
    clear hHeld HBR HT HC HBO HR5 N i0 i1
    go_wp2_with fail
    go_loopw [5, 8] (fun v a wr => ∃ (k : Nat) (O' : List Int), k ≤ M.length ∧ i < O'.length ∧ a = .int .i64 (k : Int) ∧ Hid (NK wa v O' wr) ∧ Hid (BF L r O' i) ∧ Hid (O'[i]? = some x ∧ ∀ y ∈ M.take k, y ∈ O') ∧ Hid (BIa w4 w5 (.slice pn M.length cn) M v wr)) (fun _ a _ => M.length - (RowKit.intOf a).toNat)
    case atStart => exact ⟨0, O, Nat.zero_le _, hlt, rfl, N5, B, Lib.hid ⟨HX.out.1, fun y h => by cases h⟩, HI0⟩
    case round =>
    obtain ⟨k, O', hk, hiO, rfl, N', B', HO, HI⟩ := hrel
    clear N5 B HI0
    have hOl' : O'.length ≤ R.length := B'.out.len HV.out.1 HV.out.2
    have hrow := N'.out.own
    have hwz := N'.out.gr.size
    obtain ⟨pv', cv', rfl, hv1', hv2'⟩ := own_shape hrow
    by_cases hkt : k < M.length
    · obtain ⟨-, b2, off2, rfl, -, hc2⟩ := rdi_at HI.out.rd (by omega)
      obtain ⟨y, hy⟩ : ∃ y, M[k]? = some y := ⟨_, List.getElem?_eq_getElem hkt⟩
      have a0 := hc2 k y hy
      have HY := Lib.hid hy
      have k0 : (0 : Int) ≤ (k : Int) := by omega
      have k1 : (k : Int) < (M.length : Int) := by omega
      clear hc2 hy
      cases hh : hasI O' y
      · have HH := Lib.hid hh
        go_wp2_with fail
        refine (rhas4_any O' y pv' cv' _ wr (rd_of_own N'.out.own) (by omega)).mono ?_
        rw [hh]
        rintro e w' ⟨rfl, rfl⟩
        go_wp2_with (at_builtin; refine wpList_append_lies _ rfl _ _ 22 rfl wa.heap.size 3 ii (.int .i64 0) 1 8 Try.underlying22 hii hi0 hi1 hi2 rfl (by decide) _ _ _ rfl (hrow.alloc _) ⟨wr.heap.size, 0, none⟩ 1 1 [.int .i64 y] rfl rfl ?c1 ?c2 (by decide) ?c3 ?c4 ?c5 _ rfl ?_)
        try (case c1 => exact cell_one _ _ _)
        case c2 => first | rfl | (intro u hu; simp at hu; subst hu; rfl)
        case c3 => first | omega | (unfold maxLen; omega)
        case c4 => omega
        case c5 => first | omega | (simp; omega)
        intro g6 cap6 w6 hown6 hg6 hat6 hlt6
        have N6 := Lib.hid (N'.out.more (grown_refl _ _) hown6 hg6).1
        have I6 := Lib.hid (HI.out.app (n := O'.length + 1) (cap := cap6) hg6 (hat6.imp id fun e => by rw [e]; try simp))
        have B6 := Lib.hid (B'.out.add (by omega) (List.mem_of_getElem? HO.out.1) (y := y) (by rw [HX.out.2.1]; exact List.mem_of_getElem? HY.out) HH.out)
        have HO6 : Hid ((O' ++ [y])[i]? = some x ∧ ∀ z ∈ M.take (k + 1), z ∈ O' ++ [y]) := Lib.hid ⟨by rw [List.getElem?_append_left hiO]; exact HO.out.1, fun z hz => by
          rw [List.take_add_one, HY.out] at hz
          rcases List.mem_append.1 hz with hz | hz
          · exact List.mem_append_left _ (HO.out.2 z hz)
          · exact List.mem_append_right _ (by simpa using hz)⟩
        clear hown6 hg6 hat6 hlt6 hrow hh a0 N' B' HO HI
        go_wp2_with fail
        refine ⟨⟨k + 1, O' ++ [y], by omega, by rw [List.length_append]; omega, congrArg _ (by omega), ?_, B6, HO6, ?_⟩, by simp only [RowKit.intOf]; omega⟩
        · exact N6
        · exact I6
      · have HO6 : Hid (O'[i]? = some x ∧ ∀ z ∈ M.take (k + 1), z ∈ O') := Lib.hid ⟨HO.out.1, fun z hz => by
          rw [List.take_add_one, HY.out] at hz
          rcases List.mem_append.1 hz with hz | hz
          · exact HO.out.2 z hz
          · have : z = y := by simpa using hz
            subst this
            exact hasI_mem.1 hh⟩
        go_wp2_with fail
        refine (rhas4_any O' y pv' cv' _ wr (rd_of_own N'.out.own) (by omega)).mono ?_
        rw [hh]
        rintro e w' ⟨rfl, rfl⟩
        clear hh
        go_wp2_with fail
        exact ⟨⟨k + 1, O', by omega, hiO, congrArg _ (by omega), N', B', HO6, HI⟩, by simp only [RowKit.intOf]; omega⟩
    · obtain rfl : k = M.length := by omega
      have B2 : Hid (BF L r O' (i + 1)) := Lib.hid (B'.out.next HO.out.1 (fun y hy => HO.out.2 y (by rw [List.take_length, ← HX.out.2.1]; exact hy)))
      clear hrow
      go_wp2_with fail
      exact ⟨⟨i + 1, O', by omega, congrArg _ (by omega), N', B2⟩, by simp only [RowKit.intOf]; omega⟩
  · obtain rfl : i = O.length := by omega
    have HD : Hid (insO O = cls L r) := Lib.hid (B.out.done HV.out.1 HV.out.2)
    have I0 : Hid (IR w4 (insO (O.take 0)) (.slice none 0 0) w4) := Lib.hid (IR.nil w4)
    go_wp2_with fail
    go_loopw [9, 10] (fun v a wr => ∃ k : Nat, k ≤ O.length ∧ a = .int .i64 (k : Int) ∧ Hid (IR w4 (insO (O.take k)) v wr)) (fun _ a _ => O.length - (RowKit.intOf a).toNat)
    case atStart => exact ⟨0, Nat.zero_le _, rfl, I0⟩
    case round =>
    obtain ⟨k, hk, rfl, I⟩ := hrel
    clear I0
    by_cases hkt : k < O.length
    · have hg := I.out
      obtain ⟨p, c, rfl, hR, hpn, hc12, hgw⟩ := hg
      have HR := Lib.hid (And.intro hR (And.intro hpn hgw))
      obtain ⟨-, b, off, rfl, -, hc2⟩ := rdi_at ((rd_of_own N.out.own).grown hgw (by simp)) (by omega)
      obtain ⟨y, hy⟩ : ∃ y, O[k]? = some y := ⟨_, List.getElem?_eq_getElem hkt⟩
      have a0 := hc2 k y hy
      have hil := insO_len O k
      have HT2 := Lib.hid (insO_take hy)
      have k0 : (0 : Int) ≤ (k : Int) := by omega
      have k1 : (k : Int) < (O.length : Int) := by omega
      obtain ⟨l, hl⟩ : ∃ l, insO (O.take k) = l := ⟨_, rfl⟩
      rw [hl] at HR hil HT2 hc12 ⊢
      clear hc2 hy hR hpn hgw I hl
      go_wp2_with fail
      refine (rins_any l y p c _ wr HR.out.1 HR.out.2.1 hc12.1 hc12.2 (by omega)).mono ?_
      rintro e w7 ⟨p7, c7, rfl, hR7, hp7, hc7, hg7⟩
      have I7 : Hid (IR w4 (insU l y) (.slice p7 (insU l y).length c7) w7) := Lib.hid ⟨p7, c7, rfl, hR7.mono (fun b hb => by rcases hb with hb | hb; exact hb; exact Nat.le_trans HR.out.2.2.size hb), hp7, hc7, grown_trans HR.out.2.2 hg7⟩
      clear hR7 hp7 hc7 hg7
      go_wp2_with fail
      refine ⟨⟨k + 1, by omega, congrArg _ (by omega), ?_⟩, by simp only [RowKit.intOf]; omega⟩
      rw [HT2.out]
      exact I7
    · obtain rfl : k = O.length := by omega
      rw [List.take_length, HD.out] at I
      have hg := I.out
      obtain ⟨p, c, rfl, hR, hpn, hc12, hgw⟩ := hg
      have HR := Lib.hid (And.intro hR (And.intro hpn (And.intro hc12 hgw)))
      have hcl : (cls L r).length ≤ c := hc12.1
      obtain ⟨l, hl⟩ : ∃ l, cls L r = l := ⟨_, rfl⟩
      have HL := Lib.hid hl
      rw [hl] at HR ⊢
      clear hR hpn hc12 hgw I hl hcl HD
      go_wp2_with fail
      go_ret
      rw [HL.out]
      have g1 := grown_trans HB.out.2.1 N.out.gr
      exact ⟨p, c, rfl, HR.out.1.mono (fun b hb => Nat.le_trans g1.size hb), HR.out.2.2.1, HR.out.2.1, grown_trans g1 HR.out.2.2.2⟩
end Go.Proofs.Ytnpkihioklpnmaa

/- The reference's Components and Connected. -/
namespace Go.Proofs.Ytnpkihioklpnmaa
open Go.RowKit Bs
set_option maxRecDepth 100000 in
theorem conn_ref (R : List Rt) (L : List Lk) (a b : Int) : conn R L a b = (hasV R L a && (hasV R L b && hasI (cls L a) b)) := by
  cases hv : okT R L
  · unfold conn comps hasV
    rw [hv]
    rfl
  · rw [Bool.eq_iff_iff, conn_iff hv]
    unfold hasV
    rw [hv]
    simp only [Bool.true_and, Bool.and_eq_true]
    have hR : ∀ x, hasR R x = true ↔ ∃ r ∈ R, r.id = x := fun x => by
      unfold hasR
      rw [List.any_eq_true]
      simp
    rw [hR, hR, hasI_mem]
    constructor
    · rintro ⟨⟨r, hr, rfl⟩, h⟩
      obtain ⟨n, en, hn⟩ := rt_nat hv hr
      obtain ⟨-, e2⟩ := cls_spec (okT_near100 hv) hn
      rw [← en] at e2
      exact ⟨⟨r, hr, rfl⟩, reach_id hv ⟨r, hr, rfl⟩ h, (e2 b).2 h⟩
    · rintro ⟨⟨r, hr, rfl⟩, -, h⟩
      obtain ⟨n, en, hn⟩ := rt_nat hv hr
      obtain ⟨-, e2⟩ := cls_spec (okT_near100 hv) hn
      rw [← en] at e2
      exact ⟨⟨r, hr, rfl⟩, (e2 b).1 h⟩
end Go.Proofs.Ytnpkihioklpnmaa

/- The adverts of all routers of a topology: the view is the component. The mathematics. -/
namespace Go.Proofs.Ytnpkihioklpnmaa
open Go.RowKit Bs
/-- What the view reads of an advert; what a router's own advert says. -/
def k3 (A : Ad) : Int × Bool × List T3 := (A.r, A.cp, A.L)
def k3R (L : List Lk) (t : Rt) : Int × Bool × List T3 := (t.id, t.cap, reL L t.id)
/-- A database of the first routers' own adverts. -/
structure OfD (R : List Rt) (L : List Lk) (k : Nat) (l : List Ad) : Prop where
  e : l.map k3 = (R.take k).map (k3R L)
  v : ∀ A ∈ l, vAd A = true
section
variable {R : List Rt} {L : List Lk} {k : Nat} {l : List Ad}
set_option maxRecDepth 100000 in
theorem OfD.nil : OfD R L 0 [] := ⟨by rw [List.take_zero]; rfl, fun A h => by cases h⟩
set_option maxRecDepth 100000 in
theorem OfD.add (h : OfD R L k l) {t : Rt} (ht : R[k]? = some t) {A : Ad} (hA : k3 A = k3R L t) (hv : vAd A = true) : OfD R L (k + 1) (l ++ [A]) := by
  refine ⟨?_, fun B hB => ?_⟩
  · rw [List.take_add_one, ht, List.map_append, List.map_append, h.e]
    show _ ++ [k3 A] = _ ++ [k3R L t]
    rw [hA]
  · rcases List.mem_append.1 hB with hB | hB
    · exact h.v B hB
    · rw [List.mem_singleton] at hB; subst hB; exact hv
set_option maxRecDepth 100000 in
theorem OfD.mem (h : OfD R L k l) {A : Ad} (hA : A ∈ l) : ∃ t ∈ R.take k, A.r = t.id ∧ A.cp = t.cap ∧ A.L = reL L t.id := by
  have h1 : k3 A ∈ l.map k3 := List.mem_map.2 ⟨A, hA, rfl⟩
  rw [h.e] at h1
  obtain ⟨t, ht, e⟩ := List.mem_map.1 h1
  unfold k3 k3R at e
  injection e with e1 e2
  injection e2 with e2 e3
  exact ⟨t, ht, e1.symm, e2.symm, e3.symm⟩
set_option maxRecDepth 100000 in
theorem OfD.of (h : OfD R L k l) {t : Rt} (ht : t ∈ R.take k) : ∃ A ∈ l, A.r = t.id ∧ A.cp = t.cap ∧ A.L = reL L t.id := by
  have h1 : k3R L t ∈ (R.take k).map (k3R L) := List.mem_map.2 ⟨t, ht, rfl⟩
  rw [← h.e] at h1
  obtain ⟨A, hA, e⟩ := List.mem_map.1 h1
  unfold k3 k3R at e
  injection e with e1 e2
  injection e2 with e2 e3
  exact ⟨A, hA, e1, e2, e3⟩
set_option maxRecDepth 100000 in
theorem OfD.len (h : OfD R L k l) : l.length = (R.take k).length := by
  have := congrArg List.length h.e
  rwa [List.length_map, List.length_map] at this
set_option maxRecDepth 100000 in
theorem rt_pairD (ho : OkAll R L) : R.Pairwise (fun s t => s.id < t.id) :=
  (pair_of_asc ltR (fun _ _ _ h1 h2 => by unfold ltR at *; have := of_decide_eq_true h1; have := of_decide_eq_true h2; exact decide_eq_true (by omega)) R ho.rs).imp (fun {a b} h => of_decide_eq_true h)
set_option maxRecDepth 100000 in
theorem rt_id (ho : OkAll R L) {t : Rt} (ht : t ∈ R) : 1 ≤ t.id ∧ t.id ≤ 99 := by
  have := List.any_eq_false.1 ho.id t ht
  unfold wrId at this
  simpa using this
set_option maxRecDepth 100000 in
theorem OfD.pair (h : OfD R L k l) (ho : OkAll R L) : l.Pairwise (fun A B => A.r < B.r) := by
  have h1 : (l.map k3).Pairwise (fun a b => a.1 < b.1) := by
    rw [h.e, List.pairwise_map]
    exact (rt_pairD ho).sublist (List.take_sublist _ _)
  rw [List.pairwise_map] at h1
  exact h1
set_option maxRecDepth 100000 in
theorem ascD_of : ∀ {l : List Ad} {j : Int}, (∀ A ∈ l, j < A.r) → l.Pairwise (fun A B => A.r < B.r) → ascD j l = true
  | [], _, _, _ => rfl
  | A :: t, j, h1, h2 => by
    obtain ⟨p1, p2⟩ := List.pairwise_cons.1 h2
    rw [ascD, decide_eq_true (h1 A List.mem_cons_self), ascD_of p1 p2]; rfl
set_option maxRecDepth 100000 in
theorem OfD.ok (h : OfD R L k l) (ho : OkAll R L) : OkD l := by
  refine ⟨?_, h.v, ascD_of (fun A hA => ?_) (h.pair ho)⟩
  · rw [h.len, List.length_take]; have := ho.l1; omega
  · obtain ⟨t, ht, e, -⟩ := h.mem hA
    have := rt_id ho (List.mem_of_mem_take ht)
    omega
set_option maxRecDepth 100000 in
/-- Who comes next is greater than all that are there. -/
theorem OfD.lt (h : OfD R L k l) (ho : OkAll R L) {t : Rt} (ht : R[k]? = some t) : ∀ A ∈ l, A.r < t.id := by
  intro A hA
  obtain ⟨s, hs, e, -⟩ := h.mem hA
  obtain ⟨j, hj⟩ := List.mem_iff_getElem?.1 hs
  rw [List.getElem?_take] at hj
  split at hj
  · rename_i hjk
    obtain ⟨h1, e1⟩ := List.getElem?_eq_some_iff.1 hj
    obtain ⟨h2, e2⟩ := List.getElem?_eq_some_iff.1 ht
    have := List.pairwise_iff_getElem.1 (rt_pairD ho) j k h1 h2 hjk
    rw [e1, e2] at this
    omega
  · cases hj
end
/-! All routers' own adverts. -/
set_option maxRecDepth 100000 in
theorem re1_mem {x : Int} {m : Lk} {z : T3} : z ∈ re1 x m ↔ (m.b = x ∧ z = ⟨m.a, m.cb, m.cp⟩) ∨ (m.a = x ∧ z = ⟨m.b, m.ca, m.cp⟩) := by
  unfold re1
  rw [List.mem_append]
  by_cases h1 : m.b = x <;> by_cases h2 : m.a = x <;> simp [h1, h2]
section
variable {R : List Rt} {L : List Lk} {l : List Ad}
set_option maxRecDepth 100000 in
/-- The link to a neighbour, as the advert says it. -/
theorem rc_of (ho : OkAll R L) {A : Ad} {x : Int} (hL : A.L = reL L x) {z : T3} (hz : z ∈ reL L x) : rcA A z.a = some z := by
  unfold rcA
  rw [hL]
  cases hf : (reL L x).find? (isN z.a) with
  | none =>
    have := List.find?_eq_none.1 hf z hz
    unfold isN at this
    rw [decide_eq_true rfl] at this
    exact absurd rfl this
  | some y =>
    have h1 := List.mem_of_find?_eq_some hf
    have h2 : isN z.a y = true := List.find?_some hf
    have h2 := of_decide_eq_true h2
    rw [← ent_ok ho x h1, h2, ent_ok ho x hz]
set_option maxRecDepth 100000 in
theorem rc_iff {A : Ad} {x y : Int} (hL : A.L = reL L x) : (rcA A y).isSome = true ↔ y ∈ nbL L x := by
  rw [← reL_ids, List.mem_map]
  constructor
  · intro h
    obtain ⟨z, hz⟩ := Option.isSome_iff_exists.1 h
    obtain ⟨h1, h2⟩ := rcA_some hz
    rw [hL] at h1
    exact ⟨z, h1, h2⟩
  · rintro ⟨z, hz, e⟩
    unfold rcA
    rw [hL, List.find?_isSome]
    exact ⟨z, hz, by unfold isN; rw [decide_eq_true e]⟩
set_option maxRecDepth 100000 in
theorem OfD.all (h : OfD R L R.length l) {A : Ad} (hA : A ∈ l) : ∃ t ∈ R, A.r = t.id ∧ A.cp = t.cap ∧ A.L = reL L A.r := by
  obtain ⟨t, ht, e1, e2, e3⟩ := h.mem hA
  rw [List.take_length] at ht
  exact ⟨t, ht, e1, e2, by rw [e1]; exact e3⟩
set_option maxRecDepth 100000 in
theorem OfD.adv (h : OfD R L R.length l) {t : Rt} (ht : t ∈ R) : ∃ A ∈ l, A.r = t.id ∧ A.cp = t.cap ∧ A.L = reL L A.r := by
  obtain ⟨A, hA, e1, e2, e3⟩ := h.of (by rw [List.take_length]; exact ht)
  exact ⟨A, hA, e1, e2, by rw [e1]; exact e3⟩
set_option maxRecDepth 100000 in
theorem OfD.lk (h : OfD R L R.length l) {A B : Ad} (hA : A ∈ l) (hB : B ∈ l) : lkAd A B = true ↔ B.r ∈ nbL L A.r := by
  obtain ⟨-, -, -, -, a⟩ := h.all hA
  obtain ⟨-, -, -, -, b⟩ := h.all hB
  unfold lkAd
  rw [Bool.and_eq_true, rc_iff a, rc_iff b]
  exact ⟨fun h => h.1, fun h => ⟨h, nb_symm h⟩⟩
set_option maxRecDepth 100000 in
theorem ends_in (ho : OkAll R L) {m : Lk} (hm : m ∈ L) : (∃ s ∈ R, s.id = m.a) ∧ ∃ t ∈ R, t.id = m.b := by
  have h := List.any_eq_false.1 ho.un m hm
  unfold unk at h
  have hh : ∀ x, hasR R x = true → ∃ s ∈ R, s.id = x := fun x hx => by
    unfold hasR at hx
    obtain ⟨s, hs, e⟩ := List.any_eq_true.1 hx
    exact ⟨s, hs, of_decide_eq_true e⟩
  cases h1 : hasR R m.a with
  | false => rw [h1] at h; exact absurd rfl h
  | true =>
    cases h2 : hasR R m.b with
    | false => rw [h1, h2] at h; exact absurd rfl h
    | true => exact ⟨hh _ h1, hh _ h2⟩
set_option maxRecDepth 100000 in
theorem nb_in (ho : OkAll R L) {x y : Int} (h : y ∈ nbL L x) : ∃ t ∈ R, t.id = y := by
  unfold nbL at h
  obtain ⟨m, hm, h1⟩ := List.mem_flatMap.1 h
  rw [nb1_mem] at h1
  obtain ⟨e1, e2⟩ := ends_in ho hm
  rcases h1 with ⟨-, rfl⟩ | ⟨-, rfl⟩ <;> first | exact e1 | exact e2
set_option maxRecDepth 100000 in
/-- What is reached is the component. -/
theorem of_rch (h : OfD R L R.length l) (ho : OkAll R L) {r : Int} (hr : ∃ t ∈ R, t.id = r) (y : Int) : inS (reS l r) y = true ↔ Rch L r y := by
  have hok := h.ok ho
  obtain ⟨t, ht, rfl⟩ := hr
  obtain ⟨C, hC, c1, -⟩ := h.adv ht
  have hf := fnd_selfV hok.asc C hC
  rw [c1] at hf
  constructor
  · exact reS_min hok (fun y => Rch L t.id y) (Rch.refl _ _) (fun A hA B hB _ hp hk => Rch.step hp ((h.lk hA hB).1 hk)) y
  · intro hy
    refine hy (fun y => inS (reS l t.id) y = true) (reS_self hok hf).1 (fun u v hu hv => ?_)
    obtain ⟨U, hU⟩ := reS_mem hok hu
    obtain ⟨u1, u2⟩ := fndA_some hU
    obtain ⟨s, hs, e⟩ := nb_in ho hv
    obtain ⟨V, hV, v1, -⟩ := h.adv hs
    have := reS_closed hok u1 (by rw [u2]; exact hu) hV ((h.lk u1 hV).2 (by rw [u2, v1, e]; exact hv))
    rw [v1, e] at this
    exact this
set_option maxRecDepth 100000 in
theorem of_vwR (h : OfD R L R.length l) (S : List Int) : vwR l S = R.filter (fun t => inS S t.id) := by
  have e : l.map toR = R := by
    have h1 := congrArg (List.map (fun z : Int × Bool × List T3 => (⟨z.1, z.2.1⟩ : Rt))) h.e
    rw [List.take_length, List.map_map, List.map_map] at h1
    have h2 : l.map toR = R.map (fun t => (⟨t.id, t.cap⟩ : Rt)) := h1
    rw [h2]
    exact List.map_id R
  unfold vwR
  conv => rhs; rw [← e]
  rw [List.filter_map]
  rfl
set_option maxRecDepth 100000 in
theorem ascL_ext {α : Type} {f : α → α → Bool} (hirr : ∀ a, f a a = false) (htr : ∀ a b, f a b = true → f b a = false) : ∀ {l m : List α}, l.Pairwise (fun a b => f a b = true) → m.Pairwise (fun a b => f a b = true) → (∀ x, x ∈ l ↔ x ∈ m) → l = m
  | [], [], _, _, _ => rfl
  | [], b :: m, _, _, h => by have := (h b).2 List.mem_cons_self; cases this
  | a :: l, [], _, _, h => by have := (h a).1 List.mem_cons_self; cases this
  | a :: l, b :: m, h1, h2, h => by
    obtain ⟨a1, a2⟩ := List.pairwise_cons.1 h1
    obtain ⟨b1, b2⟩ := List.pairwise_cons.1 h2
    have e : a = b := by
      rcases List.mem_cons.1 ((h a).1 List.mem_cons_self) with e | ha
      · exact e
      · rcases List.mem_cons.1 ((h b).2 List.mem_cons_self) with e | hb
        · exact e.symm
        · have h3 := b1 a ha
          have h4 := a1 b hb
          rw [htr _ _ h4] at h3; cases h3
    subst e
    congr 1
    refine ascL_ext hirr htr a2 b2 (fun x => ?_)
    constructor
    · intro hx
      rcases List.mem_cons.1 ((h x).1 (List.mem_cons_of_mem _ hx)) with rfl | hx2
      · have := a1 x hx; rw [hirr] at this; cases this
      · exact hx2
    · intro hx
      rcases List.mem_cons.1 ((h x).2 (List.mem_cons_of_mem _ hx)) with rfl | hx2
      · have := b1 x hx; rw [hirr] at this; cases this
      · exact hx2
set_option maxRecDepth 100000 in
theorem lk_btw (h : OfD R L R.length l) (ho : OkAll R L) {m : Lk} (hm : m ∈ L) {A B : Ad} (hA : A ∈ l) (hB : B ∈ l) (ea : A.r = m.a) (eb : B.r = m.b) : btw A B = m := by
  obtain ⟨-, -, -, -, a⟩ := h.all hA
  obtain ⟨-, -, -, -, b⟩ := h.all hB
  have z1 : (⟨m.b, m.ca, m.cp⟩ : T3) ∈ reL L A.r := List.mem_flatMap.2 ⟨m, hm, re1_mem.2 (.inr ⟨ea.symm, rfl⟩)⟩
  have z2 : (⟨m.a, m.cb, m.cp⟩ : T3) ∈ reL L B.r := List.mem_flatMap.2 ⟨m, hm, re1_mem.2 (.inl ⟨eb.symm, rfl⟩)⟩
  have r1 := rc_of ho a z1
  have r2 := rc_of ho b z2
  simp only at r1 r2
  unfold btw
  rw [eb, ea, rcV_some r1, rcV_some r2]
  simp
set_option maxRecDepth 100000 in
theorem of_vwL (h : OfD R L R.length l) (ho : OkAll R L) (S : List Int) : vwL l S = L.filter (fun m => inS S m.a) := by
  have hok := h.ok ho
  have hlt := ends_lt ho
  refine ascL_ext (f := ltL) (fun a => by unfold ltL; exact decide_eq_false (by omega)) (fun a b hab => by unfold ltL at *; have := of_decide_eq_true hab; exact decide_eq_false (by omega)) (vwL_asc hok S) ?_ (fun m => ?_)
  · exact (pair_of_asc ltL (fun _ _ _ => ltL_trans) L ho.ls).filter _
  · rw [vwL_mem hok, List.mem_filter]
    constructor
    · rintro ⟨A, hA, hi, B, hB, hk, hl, rfl⟩
      have hn := (h.lk hA hB).1 hk
      unfold nbL at hn
      obtain ⟨m, hm, hmn⟩ := List.mem_flatMap.1 hn
      have := hlt m hm
      rw [nb1_mem] at hmn
      have hm2 : A.r = m.a ∧ B.r = m.b := by omega
      rw [lk_btw h ho hm hA hB hm2.1 hm2.2]
      exact ⟨hm, by rw [← hm2.1]; exact hi⟩
    · rintro ⟨hm, hi⟩
      obtain ⟨⟨s, hs, e1⟩, t, ht, e2⟩ := ends_in ho hm
      obtain ⟨A, hA, a1, -⟩ := h.adv hs
      obtain ⟨B, hB, b1, -⟩ := h.adv ht
      refine ⟨A, hA, by rw [a1, e1]; exact hi, B, hB, (h.lk hA hB).2 ?_, by have := hlt m hm; omega, (lk_btw h ho hm hA hB (by omega) (by omega)).symm⟩
      unfold nbL
      refine List.mem_flatMap.2 ⟨m, hm, ?_⟩
      rw [nb1_mem]
      omega
set_option maxRecDepth 100000 in
theorem cls_rch (ok : okT R L = true) {a b : Int} (ha : hasR R a = true) (hb : hasR R b = true) : hasI (cls L a) b = true ↔ Rch L a b := by
  have h1 := conn_ref R L a b
  have h2 : hasV R L a = true := by unfold hasV; rw [ok, ha]; rfl
  have h3 : hasV R L b = true := by unfold hasV; rw [ok, hb]; rfl
  rw [h2, h3, Bool.true_and, Bool.true_and] at h1
  rw [← h1, conn_iff ok]
  refine ⟨fun h => h.2, fun h => ⟨?_, h⟩⟩
  unfold hasR at ha
  obtain ⟨s, hs, e⟩ := List.any_eq_true.1 ha
  exact ⟨s, hs, of_decide_eq_true e⟩
set_option maxRecDepth 100000 in
/-- The view of all routers' own adverts is the topology without the routers outside the component. -/
theorem of_view (h : OfD R L R.length l) (ok : okT R L = true) {r : Int} (hr : ∃ t ∈ R, t.id = r) {F : Fl} (hH : F.H = []) (hX : ∀ t ∈ R, hasI F.X t.id = !hasI (cls L r) t.id) : viewV l r = (woR F R, woL F L) := by
  have ho := okT_all ok
  have hok := h.ok ho
  have hhas : ∀ t ∈ R, hasR R t.id = true := fun t ht => List.any_eq_true.2 ⟨t, ht, decide_eq_true rfl⟩
  have hrr : hasR R r = true := by obtain ⟨t, ht, rfl⟩ := hr; exact hhas t ht
  have hin : ∀ t ∈ R, inS (reS l r) t.id = !hasI F.X t.id := fun t ht => by
    rw [hX t ht, Bool.not_not, Bool.eq_iff_iff, of_rch h ho hr, cls_rch ok hrr (hhas t ht)]
  have eR : vwR l (reS l r) = woR F R := by
    rw [of_vwR h]
    unfold woR
    exact List.filter_congr (fun t ht => hin t ht)
  have eL : vwL l (reS l r) = woL F L := by
    rw [of_vwL h ho]
    unfold woL
    refine List.filter_congr (fun m hm => ?_)
    obtain ⟨⟨s, hs, e1⟩, t, ht, e2⟩ := ends_in ho hm
    have hn : nmd F.H m = false := by unfold nmd; rw [hH]; rfl
    have h1 := hin s hs
    have h2 := hin t ht
    rw [e1] at h1
    rw [e2] at h2
    have hab : inS (reS l r) m.a = inS (reS l r) m.b := by
      have hnb : m.b ∈ nbL L m.a := by
        unfold nbL
        refine List.mem_flatMap.2 ⟨m, hm, ?_⟩
        rw [nb1_mem]; omega
      rw [Bool.eq_iff_iff, of_rch h ho hr, of_rch h ho hr]
      exact ⟨fun h => Rch.step h hnb, fun h => Rch.step h (nb_symm hnb)⟩
    unfold woK
    rw [hn, ← h1, ← h2, ← hab]
    cases inS (reS l r) m.a <;> rfl
  unfold viewV
  have hc := vw_chk2 hok r (by rw [eR]; exact Nat.le_trans (List.length_filter_le _ _) ho.l1) (by rw [eL]; exact Nat.le_trans (List.length_filter_le _ _) ho.l2)
  rw [if_pos (okD_of hok), if_pos hc, eR, eL]
/-! A router's own advert is valid. -/
set_option maxRecDepth 100000 in
theorem vRe_of {x : Int} : ∀ {M : List T3} {last : Int}, (∀ z ∈ M, last < z.a) → (M.map (·.a)).Pairwise (· < ·) → (∀ z ∈ M, z.a ≤ 99 ∧ z.a ≠ x ∧ (1 ≤ z.b ∧ z.b ≤ 1000) ∧ 0 ≤ z.c ∧ z.c ≤ 1000) → vRe x last M = true
  | [], _, _, _, _ => rfl
  | z :: M, last, h1, h2, h3 => by
    rw [List.map_cons] at h2
    obtain ⟨p1, p2⟩ := List.pairwise_cons.1 h2
    have hz := h3 z List.mem_cons_self
    rw [vRe]
    have e : okRe x last z = true := by unfold okRe; exact decide_eq_true ⟨h1 z List.mem_cons_self, hz⟩
    rw [e, vRe_of (fun y hy => p1 y.a (List.mem_map.2 ⟨y, hy, rfl⟩)) p2 (fun y hy => h3 y (List.mem_cons_of_mem _ hy))]
    rfl
set_option maxRecDepth 100000 in
theorem lk_num (ho : OkAll R L) {m : Lk} (hm : m ∈ L) : (1 ≤ m.ca ∧ m.ca ≤ 1000) ∧ (1 ≤ m.cb ∧ m.cb ≤ 1000) ∧ (0 ≤ m.cp ∧ m.cp ≤ 1000) := by
  have := List.any_eq_false.1 ho.nm m hm
  unfold wrNum at this
  simpa using this
set_option maxRecDepth 100000 in
theorem of_valid (ho : OkAll R L) (h23 : R.length ≤ 23) {t : Rt} (ht : t ∈ R) {A : Ad} (hr : A.r = t.id) (hq : 1 ≤ A.q ∧ A.q ≤ 5) (hL : A.L = reL L t.id) (hC : A.C = []) : vAd A = true := by
  have hid := rt_id ho ht
  have hmap : (reL L t.id).map (·.a) = nearR R L t.id := by rw [reL_ids, near_eq ho]
  have hlen : (reL L t.id).length ≤ 23 := by
    have h1 := congrArg List.length hmap
    unfold nearR at h1
    rw [List.length_map, List.length_map] at h1
    have := List.length_filter_le (fun r => (priceV L t.id r.id).2) R
    omega
  have hpw : ((reL L t.id).map (·.a)).Pairwise (· < ·) := by
    rw [hmap]
    unfold nearR
    rw [List.pairwise_map]
    exact (rt_pairD ho).filter _
  have hall : ∀ z ∈ reL L t.id, (0 < z.a ∧ z.a ≤ 99) ∧ z.a ≠ t.id ∧ (1 ≤ z.b ∧ z.b ≤ 1000) ∧ 0 ≤ z.c ∧ z.c ≤ 1000 := fun z hz => by
    unfold reL at hz
    obtain ⟨m, hm, hz⟩ := List.mem_flatMap.1 hz
    have hn := lk_num ho hm
    have hlt := ends_lt ho m hm
    obtain ⟨⟨s, hs, e1⟩, u, hu, e2⟩ := ends_in ho hm
    have i1 := rt_id ho hs
    have i2 := rt_id ho hu
    rcases re1_mem.1 hz with ⟨e, rfl⟩ | ⟨e, rfl⟩
    · simp only; omega
    · simp only; omega
  unfold vAd vHd vClaims
  rw [hr, hL, hC, decide_eq_true (by omega), vRe_of (fun z hz => (hall z hz).1.1) hpw (fun z hz => ⟨(hall z hz).1.2, (hall z hz).2⟩)]
  rfl
set_option maxRecDepth 100000 in
theorem cap_of (ho : OkAll R L) (ok : okT R L = true) {t : Rt} (ht : t ∈ R) : capV R L t.id = t.cap := by
  unfold capV capR
  rw [ok, Bool.true_and]
  cases hf : R.find? (fun r => decide (r.id = t.id)) with
  | none =>
    have := List.find?_eq_none.1 hf t ht
    rw [decide_eq_true rfl] at this
    exact absurd rfl this
  | some s =>
    have h1 := List.mem_of_find?_eq_some hf
    have h2 := List.find?_some hf
    have h2 := of_decide_eq_true h2
    simp only
    rcases pair_mem (R := fun a b : Rt => a.id < b.id) (fun a b h3 h4 => by omega) (rt_pairD ho) s h1 t ht with e | e | e
    · rw [e]
    · omega
    · omega
end
end Go.Proofs.Ytnpkihioklpnmaa

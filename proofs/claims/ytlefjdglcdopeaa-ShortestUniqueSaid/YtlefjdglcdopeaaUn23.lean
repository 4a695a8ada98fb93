/- Parts of the proof, packed: ShRPa. -/
import Derived.Test.YtlefjdglcdopeaaUn22
/- The reference's Paths. -/
namespace Go.Proofs.Ytlefjdglcdopeaa
open Go.RowKit Bs
/-- A row while it is filled with f. -/
def tabF (V : List Int) (f : Int → Int) (i : Nat) : Int → Int := fun u => if u ∈ V.take i then f u else 0
set_option maxRecDepth 100000 in
theorem tabF_zero (V : List Int) (f : Int → Int) : clV V (tabF V f 0) = clV V (fun _ => 0) := clV_congr (fun v _ => by unfold tabF; rw [if_neg (by simp)])
set_option maxRecDepth 100000 in
theorem tabF_step {V : List Int} {f : Int → Int} {v : Int} {i : Nat} (h : V[i]? = some v) : updF (tabF V f i) v (f v) = tabF V f (i + 1) := by
  funext u
  unfold updF tabF
  rw [List.take_add_one, h]
  by_cases hu : u = v
  · rw [if_pos hu, hu, if_pos (by simp)]
  · rw [if_neg hu]
    by_cases hm : u ∈ V.take i
    · rw [if_pos hm, if_pos (by simp [hm])]
    · rw [if_neg hm, if_neg (by simp [hm, hu])]
set_option maxRecDepth 100000 in
theorem tabF_end (V : List Int) (f : Int → Int) : clV V (tabF V f V.length) = clV V f := clV_congr (fun v hv => by unfold tabF; rw [List.take_length, if_pos hv])
set_option maxRecDepth 100000 in
theorem tabF_new {V : List Int} (hn : V.Nodup) {f : Int → Int} {v : Int} {i : Nat} (h : V[i]? = some v) : tabF V f i v = 0 := by
  unfold tabF
  rw [if_neg]
  intro hm
  obtain ⟨j, hj⟩ := List.mem_iff_getElem?.1 hm
  have hji : j < i := by
    have := (List.getElem?_eq_some_iff.1 hj).1
    rw [List.length_take] at this
    omega
  rw [List.getElem?_take_of_lt hji] at hj
  have := nodup_at hn hj h
  omega
set_option maxRecDepth 100000 in
theorem tabF_mid {V : List Int} (hn : V.Nodup) {f : Int → Int} {v : Int} {i : Nat} (h : V[i]? = some v) (c : Int → Int) (Y : List Int) : updF (tabF V f i) v (prt c Y 0) = tabF V f i := by
  have h1 : prt c Y 0 = tabF V f i v := by rw [tabF_new hn h]; rfl
  rw [h1, updF_self]
/-- What memory holds while paths are counted: the row of the last round is at gn. -/
structure PN (w : World) (T : Tg) (G B : Nat) (A : List Int) (pt : Option Addr) (ct gn : Nat) (D : Int → Int) (wr : World) : Prop where
  gb : wr.heap[G]? = some (.cells #[.slice T.pR T.R.length T.cR, .slice T.pL T.L.length T.cL] 28 (0, 0))
  t : TgOk wr (· < B) T
  a : Rd wr (· < B) (.slice pt A.length ct) (A.map tv)
  n : TRow wr gn 3 (clV (ids T.R) D)
  gr : w.grownBy wr none
  lt : G < B ∧ w.heap.size ≤ G ∧ B ≤ gn
set_option maxRecDepth 100000 in
theorem PN.keep {w wr w' : World} {T : Tg} {G B : Nat} {A : List Int} {pt : Option Addr} {ct gn : Nat} {D : Int → Int} (h : PN w T G B A pt ct gn D wr) (g : wr.grownBy w' none) : PN w T G B A pt ct gn D w' :=
  ⟨kept_row h.gb g (by simp), h.t.keep g, h.a.keep g, h.n.kept g (by simp), grown_trans h.gr g, h.lt⟩
/-- The same, and the row of this round at gx. -/
structure PX (w : World) (T : Tg) (G B : Nat) (A : List Int) (pt : Option Addr) (ct gn gx : Nat) (D E : Int → Int) (wr : World) : Prop where
  pn : PN w T G B A pt ct gn D wr
  x : TRow wr gx 3 (clV (ids T.R) E)
  lt : gn < gx
set_option maxRecDepth 100000 in
theorem PX.keep {w wr w' : World} {T : Tg} {G B : Nat} {A : List Int} {pt : Option Addr} {ct gn gx : Nat} {D E : Int → Int} (h : PX w T G B A pt ct gn gx D E wr) (g : wr.grownBy w' none) : PX w T G B A pt ct gn gx D E w' :=
  ⟨h.pn.keep g, h.x.kept g (by simp), h.lt⟩
set_option maxRecDepth 100000 in
theorem PX.put {w wr : World} {T : Tg} {G B : Nat} {A : List Int} {pt : Option Addr} {ct gn gx : Nat} {D E : Int → Int} (h : PX w T G B A pt ct gn gx D E wr) (hn : (ids T.R).Nodup) {i : Nat} {v : Int} (hi : (ids T.R)[i]? = some v) (x : Int) :
    PX w T G B A pt ct gn gx D (updF E v x) (wr.setCell ⟨gx, i, none⟩ (tv x)) := by
  have g := grown_setCell wr ⟨gx, i, none⟩ (tv x)
  have h1 := h.lt
  have h2 := h.pn.lt
  have hne : ∀ b, b < gx → some b ≠ some (⟨gx, i, none⟩ : Addr).block := fun b hb e => by have := Option.some.inj e; simp only at this; omega
  refine ⟨⟨kept_row h.pn.gb g (hne G (by omega)), h.pn.t.grown g (fun b hb => hne b (by omega)), h.pn.a.grown g (fun b hb => hne b (by omega)), h.pn.n.kept g (hne gn h1), grown_new h.pn.gr g (by show w.heap.size ≤ gx; omega), h2⟩, ?_, h1⟩
  have := h.x.set i (tv x)
  rwa [clV_set hn hi] at this
set_option maxRecDepth 100000 in
theorem row_rd {R : List Rt} {D : Int → Int} {w : World} {g : Nat} (h : TRow w g 3 (clV (ids R) D)) : Rd w (fun _ => True) (.slice (some ⟨g, 0, none⟩) ((ids R).map D).length R.length) (((ids R).map D).map tv) := by
  refine ⟨some ⟨g, 0, none⟩, R.length, by simp only [List.length_map], fun _ => ⟨g, 0, rfl, trivial, fun i x hx => ?_⟩⟩
  have h1 := h.cell (j := i) (x := x) (by unfold clV; rw [List.map_map] at hx; exact hx)
  rw [Nat.zero_add]
  exact h1
set_option maxRecDepth 100000 in
set_option maxHeartbeats 25600000 in
theorem rpa_any (T : Tg) (a z : Int) (q : Nat → Prop) (w : World) (hT : TgOk w q T) :
    Calls Try.prog 20 #[.agg #[.slice T.pR T.R.length T.cR, .slice T.pL T.L.length T.cL], .int .i64 a, .int .i64 z] w fun e w' => e = .returned (.int .i64 (pV T.R T.L a z)) ∧ w.grownBy w' none := by
  obtain ⟨R, L, pR, cR, pL, cL⟩ := T
  simp only at *
  obtain ⟨k1, k2⟩ := tone_box w #[.slice pR R.length cR, .slice pL L.length cL] 28
  have HB := Lib.hid (And.intro k1 (And.intro k2 (hT.keep k2)))
  clear k1 k2 hT
  obtain ⟨X, hX⟩ : ∃ X, pV R L a z = X := ⟨_, rfl⟩
  have HX := Lib.hid hX
  rw [hX]
  clear hX
  go_enter Try.func20, Try.ntmps20
  go_upto_region 1 with fail
  generalize w.alloc _ = wb at *
  obtain ⟨c0, c1⟩ := row_cells HB.out.1
  cases ha : hasV R L a with
  | false =>
    have HA : Hid (hasV R L a = false ∨ hasV R L z = false) := Lib.hid (.inl ha)
    have H1 := Lib.hid ha
    clear ha
    go_wp2_with fail
    refine (rhasV_any ⟨R, L, pR, cR, pL, cL⟩ a _ wb HB.out.2.2).mono ?_
    rintro e w1 ⟨rfl, hg⟩
    simp only
    rw [H1.out]
    have HG := Lib.hid (grown_trans HB.out.2.1 hg)
    clear hg c0 c1
    go_wp2_with fail
    go_ret
    obtain rfl : X = 0 := by rw [← HX.out]; exact pV_no HA.out
    exact ⟨rfl, HG.out⟩
  | true =>
    cases hz : hasV R L z with
    | false =>
      have HA : Hid (hasV R L a = false ∨ hasV R L z = false) := Lib.hid (.inr hz)
      have H1 := Lib.hid ha
      have H2 := Lib.hid hz
      clear ha hz
      go_wp2_with fail
      refine (rhasV_any ⟨R, L, pR, cR, pL, cL⟩ a _ wb HB.out.2.2).mono ?_
      rintro e w1 ⟨rfl, hg⟩
      simp only
      rw [H1.out]
      have HB1 := Lib.hid (And.intro (kept_row HB.out.1 hg (by simp)) (And.intro (grown_trans HB.out.2.1 hg) (HB.out.2.2.keep hg)))
      clear hg c0 c1 HB
      obtain ⟨c0, c1⟩ := row_cells HB1.out.1
      go_wp2_with fail
      refine (rhasV_any ⟨R, L, pR, cR, pL, cL⟩ z _ w1 HB1.out.2.2).mono ?_
      rintro e w2 ⟨rfl, hg⟩
      simp only
      rw [H2.out]
      have HG := Lib.hid (grown_trans HB1.out.2.1 hg)
      clear hg c0 c1
      go_wp2_with fail
      go_ret
      obtain rfl : X = 0 := by rw [← HX.out]; exact pV_no HA.out
      exact ⟨rfl, HG.out⟩
    | true =>
      have H1 := Lib.hid ha
      have H2 := Lib.hid hz
      clear ha hz
      go_wp2_with fail
      refine (rhasV_any ⟨R, L, pR, cR, pL, cL⟩ a _ wb HB.out.2.2).mono ?_
      rintro e w1 ⟨rfl, hg⟩
      simp only
      rw [H1.out]
      have HB1 := Lib.hid (And.intro (kept_row HB.out.1 hg (by simp)) (And.intro (grown_trans HB.out.2.1 hg) (HB.out.2.2.keep hg)))
      clear hg c0 c1 HB
      obtain ⟨c0, c1⟩ := row_cells HB1.out.1
      go_wp2_with fail
      refine (rhasV_any ⟨R, L, pR, cR, pL, cL⟩ z _ w1 HB1.out.2.2).mono ?_
      rintro e w2 ⟨rfl, hg⟩
      simp only
      rw [H2.out]
      have HB2 := Lib.hid (And.intro (kept_row HB1.out.1 hg (by simp)) (And.intro (grown_trans HB1.out.2.1 hg) (HB1.out.2.2.keep hg)))
      clear hg c0 c1 HB1
      obtain ⟨c0, c1⟩ := row_cells HB2.out.1
      obtain ⟨hok, -⟩ := hasV_iff.1 H2.out
      have hl := (okT_g hok).len
      rw [ids_len] at hl
      obtain ⟨hR24, hL60⟩ := hl
      have HOK := Lib.hid hok
      have HN := Lib.hid (ids_nodup hok)
      clear hok
      go_wp2_with fail
      refine (rto_any ⟨R, L, pR, cR, pL, cL⟩ z _ w2 HB2.out.2.2 H2.out).mono ?_
      rintro e w7 ⟨pt, ct, rfl, hrt, -, -, hg⟩
      (try simp only at hrt ⊢)
      obtain ⟨A, hA⟩ : ∃ A, (ids R).map (toK L z R.length) = A := ⟨_, rfl⟩
      rw [hA] at hrt ⊢
      have HAE := Lib.hid hA.symm
      obtain ⟨G, hG⟩ : ∃ G, w.heap.size = G := ⟨_, rfl⟩
      obtain ⟨B, hB⟩ : ∃ B, w7.heap.size = B := ⟨_, rfl⟩
      have HAT : Hid (Rd w7 (· < w7.heap.size) (.slice pt A.length ct) (A.map tv)) := Lib.hid hrt.old
      have HB7 := Lib.hid (And.intro (kept_row HB2.out.1 hg (by simp)) (And.intro (grown_trans HB2.out.2.1 hg) (HB2.out.2.2.keep hg).old))
      rw [hB] at HAT HB7
      have hGB : G < B := by rw [← hG, ← hB]; exact box_lt HB7.out.1
      have HGS : Hid (w.heap.size = G) := Lib.hid hG
      clear hrt hA hg c0 c1 HB2
      rw [hG] at HB7 ⊢
      obtain ⟨c0, c1⟩ := row_cells HB7.out.1
      clear hG
      go_wp2_with (at_make; refine wpList_make_ints _ rfl _ _ rfl R.length rfl rfl (by omega) ?_; intro hrow hgm)
      (try rw [hB] at hrow)
      have M0 : Hid (PN w ⟨R, L, pR, cR, pL, cL⟩ G B A pt ct B (itC (fun r => nxt R L r z) z 0) (w7.alloc (.cells (Array.replicate R.length (tv 0)) 3))) := by
        refine Lib.hid ⟨kept_row HB7.out.1 hgm (by simp), HB7.out.2.2.keep hgm, HAT.out.keep hgm, ?_, grown_trans HB7.out.2.1 hgm, hGB, by have := HGS.out; omega, Nat.le_refl _⟩
        show TRow _ _ _ (clV (ids R) (fun _ => 0))
        rw [clV_zero, ids_len]
        exact hrow
      generalize w7.alloc _ = w8 at *
      clear hrow hgm hB HB7 HAT c0 c1
      go_wp2_with fail
      go_loopw [8, 9] (fun n a wr => ∃ k gn : Nat, k ≤ R.length ∧ a = .int .i64 (k : Int) ∧ n = .slice (some ⟨gn, 0, none⟩) R.length R.length ∧ Hid (PN w ⟨R, L, pR, cR, pL, cL⟩ G B A pt ct gn (itC (fun r => nxt R L r z) z k) wr)) (fun _ a _ => R.length - (RowKit.intOf a).toNat)
      case atStart => exact ⟨0, _, Nat.zero_le _, rfl, rfl, M0⟩
      case round =>
      obtain ⟨w9, rfl⟩ : ∃ w9, w9 = wr := ⟨_, rfl⟩
      obtain ⟨k, gn, hk, rfl, rfl, M⟩ := hrel
      clear M0
      obtain ⟨c0, c1⟩ := row_cells M.out.gb
      by_cases hlt : k < R.length
      · have HD : Hid (∀ u, 0 ≤ itC (fun r => nxt R L r z) z k u ∧ itC (fun r => nxt R L r z) z k u ≤ 1000000) := Lib.hid (itC_bd _ _ k)
        have HF : Hid (∀ r, itC (fun r => nxt R L r z) z (k + 1) r = cntS (fun r => nxt R L r z) z (itC (fun r => nxt R L r z) z k) r) := Lib.hid (fun r => rfl)
        obtain ⟨D, hD⟩ : ∃ D, itC (fun r => nxt R L r z) z k = D := ⟨_, rfl⟩
        obtain ⟨f, hf⟩ : ∃ f, itC (fun r => nxt R L r z) z (k + 1) = f := ⟨_, rfl⟩
        have HFE := Lib.hid hf
        rw [hD] at M HD HF
        rw [hf] at HF
        clear hD hf
        go_wp2_with (at_make; refine wpList_make_ints _ rfl _ _ rfl R.length rfl rfl (by omega) ?_; intro hrow hgm)
        obtain ⟨gx, hgx⟩ : ∃ gx, w9.heap.size = gx := ⟨_, rfl⟩
        have X0 : Hid (PX w ⟨R, L, pR, cR, pL, cL⟩ G B A pt ct gn gx D (tabF (ids R) f 0) (w9.alloc (.cells (Array.replicate R.length (tv 0)) 3))) := by
          refine Lib.hid ⟨M.out.keep hgm, ?_, by rw [← hgx]; exact M.out.n.lt⟩
          show TRow _ _ _ (clV (ids R) (tabF (ids R) f 0))
          rw [tabF_zero, clV_zero, ids_len, ← hgx]
          exact hrow
        rw [hgx]
        generalize w9.alloc _ = w10 at *
        clear hrow hgm hgx M c0 c1
        go_wp2_with fail
        go_loopw [11] (fun a wr => ∃ i : Nat, i ≤ R.length ∧ a = .int .i64 (i : Int) ∧ Hid (PX w ⟨R, L, pR, cR, pL, cL⟩ G B A pt ct gn gx D (tabF (ids R) f i) wr)) (fun a _ => R.length - (RowKit.intOf a).toNat)
        case atStart => exact ⟨0, Nat.zero_le _, rfl, X0⟩
        case round =>
        obtain ⟨w11, rfl⟩ : ∃ w11, w11 = wr := ⟨_, rfl⟩
        obtain ⟨i, hi, rfl, X⟩ := hrel
        clear X0
        obtain ⟨c0, c1⟩ := row_cells X.out.pn.gb
        by_cases hlti : i < R.length
        · obtain ⟨y, hy⟩ : ∃ y, R[i]? = some y := ⟨_, List.getElem?_eq_getElem hlti⟩
          have HY := Lib.hid (And.intro hy (ids_at hy))
          obtain ⟨-, bR, oR, rfl, -, hc⟩ := rdr_cells (R := R) X.out.pn.t.r (by omega)
          obtain ⟨a0, a1⟩ := hc i y hy
          clear hy hc
          by_cases e : y.id = z
          · have e' : (y.id == z) = true := by simpa using e
            have d0 := X.out.x.cell (clV_at (D := tabF (ids R) f i) HY.out.2)
            have d1 := X.out.x.frozen i
            have X1 : Hid (PX w ⟨R, L, some ⟨bR, oR, none⟩, cR, pL, cL⟩ G B A pt ct gn gx D (tabF (ids R) f (i + 1)) (w11.setCell ⟨gx, i, none⟩ (.int .i64 1))) := by
              have h1 := X.out.put HN.out HY.out.2 (f y.id)
              rw [tabF_step HY.out.2] at h1
              rw [show f y.id = 1 by rw [HF.out]; unfold cntS; rw [if_pos e]] at h1
              exact Lib.hid h1
            clear e X
            go_wp2_with fail
            exact ⟨⟨i + 1, by omega, congrArg _ (by omega), X1⟩, by simp only [RowKit.intOf]; omega⟩
          · have e' : (y.id == z) = false := by simpa using e
            have HE := Lib.hid e
            clear e
            go_upto_region 14 with fail
            refine wp_region_held_drew (S := fun w' => Hid (w11.grownBy w' none)) (by kernel_rfl) (Lib.hid (grown_drew (grown_refl _ _))) (fun hHeld => ?_)
            refine wpAnyH_take (i := 0) (oi := { dst := some 57, op := Op.load 28 (Operand.tmp 3), type := 28, pos := "ref.go:139", after := #[], guard := none }) (v := ?_) rfl (by kernel_rfl) (by kernel_rfl) (by kernel_rfl) (fun _ _ _ h => h) (Or.inl ⟨by rfl, ?_⟩) hHeld ?_
            rotate_left 1
            · intro u hSu
              obtain ⟨q0, q1⟩ := row_cells (kept_row X.out.pn.gb hSu.out (by simp))
              have q2 : u.cell? ⟨bR, oR + i * 2, none⟩ = some (.int .i64 y.id) := by
                obtain ⟨-, b, o, e, -, hc⟩ := rdr_cells (R := R) (X.out.pn.t.keep hSu.out).r (by show 0 < R.length; omega)
                injection e with e
                injection e with e1 e2
                subst e1
                subst e2
                exact (hc i y HY.out.1).1
              go_simp
              first | done | with_reducible rfl
            (try simp only [Act.put, List.setIfInBounds_toArray, List.set_cons_zero, List.set_cons_succ])
            refine wpAnyH_take (i := 1) (oi := { dst := some 58, op := Op.move (Operand.tmp 7), type := 22, pos := "ref.go:139", after := #[], guard := none }) (v := ?_) rfl (by kernel_rfl) (by kernel_rfl) (by kernel_rfl) (fun _ _ _ h => h) (Or.inl ⟨by rfl, ?_⟩) hHeld ?_
            rotate_left 1
            · intro u hSu
              obtain ⟨q0, q1⟩ := row_cells (kept_row X.out.pn.gb hSu.out (by simp))
              have q2 : u.cell? ⟨bR, oR + i * 2, none⟩ = some (.int .i64 y.id) := by
                obtain ⟨-, b, o, e, -, hc⟩ := rdr_cells (R := R) (X.out.pn.t.keep hSu.out).r (by show 0 < R.length; omega)
                injection e with e
                injection e with e1 e2
                subst e1
                subst e2
                exact (hc i y HY.out.1).1
              go_simp
              first | done | with_reducible rfl
            (try simp only [Act.put, List.setIfInBounds_toArray, List.set_cons_zero, List.set_cons_succ])
            refine wpAnyH_take (i := 2) (oi := { dst := some 59, op := Op.fieldAddr 28 (Operand.tmp 3) 0, type := 0, pos := "ref.go:139", after := #[], guard := none }) (v := ?_) rfl (by kernel_rfl) (by kernel_rfl) (by kernel_rfl) (fun _ _ _ h => h) (Or.inl ⟨by rfl, ?_⟩) hHeld ?_
            rotate_left 1
            · intro u hSu
              obtain ⟨q0, q1⟩ := row_cells (kept_row X.out.pn.gb hSu.out (by simp))
              have q2 : u.cell? ⟨bR, oR + i * 2, none⟩ = some (.int .i64 y.id) := by
                obtain ⟨-, b, o, e, -, hc⟩ := rdr_cells (R := R) (X.out.pn.t.keep hSu.out).r (by show 0 < R.length; omega)
                injection e with e
                injection e with e1 e2
                subst e1
                subst e2
                exact (hc i y HY.out.1).1
              go_simp
              first | done | with_reducible rfl
            (try simp only [Act.put, List.setIfInBounds_toArray, List.set_cons_zero, List.set_cons_succ])
            refine wpAnyH_take (i := 3) (oi := { dst := some 60, op := Op.load 25 (Operand.tmp 59), type := 25, pos := "ref.go:139", after := #[{ on := 2, ground := Ground.data }], guard := none }) (v := ?_) rfl (by kernel_rfl) (by kernel_rfl) (by kernel_rfl) (fun _ _ _ h => h) (Or.inl ⟨by rfl, ?_⟩) hHeld ?_
            rotate_left 1
            · intro u hSu
              obtain ⟨q0, q1⟩ := row_cells (kept_row X.out.pn.gb hSu.out (by simp))
              have q2 : u.cell? ⟨bR, oR + i * 2, none⟩ = some (.int .i64 y.id) := by
                obtain ⟨-, b, o, e, -, hc⟩ := rdr_cells (R := R) (X.out.pn.t.keep hSu.out).r (by show 0 < R.length; omega)
                injection e with e
                injection e with e1 e2
                subst e1
                subst e2
                exact (hc i y HY.out.1).1
              go_simp
              first | done | with_reducible rfl
            (try simp only [Act.put, List.setIfInBounds_toArray, List.set_cons_zero, List.set_cons_succ])
            refine wpAnyH_take (i := 4) (oi := { dst := some 61, op := Op.move (Operand.tmp 11), type := 3, pos := "ref.go:139", after := #[], guard := none }) (v := ?_) rfl (by kernel_rfl) (by kernel_rfl) (by kernel_rfl) (fun _ _ _ h => h) (Or.inl ⟨by rfl, ?_⟩) hHeld ?_
            rotate_left 1
            · intro u hSu
              obtain ⟨q0, q1⟩ := row_cells (kept_row X.out.pn.gb hSu.out (by simp))
              have q2 : u.cell? ⟨bR, oR + i * 2, none⟩ = some (.int .i64 y.id) := by
                obtain ⟨-, b, o, e, -, hc⟩ := rdr_cells (R := R) (X.out.pn.t.keep hSu.out).r (by show 0 < R.length; omega)
                injection e with e
                injection e with e1 e2
                subst e1
                subst e2
                exact (hc i y HY.out.1).1
              go_simp
              first | done | with_reducible rfl
            (try simp only [Act.put, List.setIfInBounds_toArray, List.set_cons_zero, List.set_cons_succ])
            refine wpAnyH_take (i := 5) (oi := { dst := some 62, op := Op.indexAddr 25 (Operand.tmp 60) (Operand.tmp 61), type := 0, pos := "ref.go:139", after := #[{ on := 3, ground := Ground.data }, { on := 4, ground := Ground.data }], guard := none }) (v := ?_) rfl (by kernel_rfl) (by kernel_rfl) (by kernel_rfl) (fun _ _ _ h => h) (Or.inl ⟨by rfl, ?_⟩) hHeld ?_
            rotate_left 1
            · intro u hSu
              obtain ⟨q0, q1⟩ := row_cells (kept_row X.out.pn.gb hSu.out (by simp))
              have q2 : u.cell? ⟨bR, oR + i * 2, none⟩ = some (.int .i64 y.id) := by
                obtain ⟨-, b, o, e, -, hc⟩ := rdr_cells (R := R) (X.out.pn.t.keep hSu.out).r (by show 0 < R.length; omega)
                injection e with e
                injection e with e1 e2
                subst e1
                subst e2
                exact (hc i y HY.out.1).1
              go_simp
              first | done | with_reducible rfl
            (try simp only [Act.put, List.setIfInBounds_toArray, List.set_cons_zero, List.set_cons_succ])
            refine wpAnyH_take (i := 6) (oi := { dst := some 63, op := Op.fieldAddr 63 (Operand.tmp 62) 0, type := 0, pos := "ref.go:139", after := #[{ on := 5, ground := Ground.data }], guard := none }) (v := ?_) rfl (by kernel_rfl) (by kernel_rfl) (by kernel_rfl) (fun _ _ _ h => h) (Or.inl ⟨by rfl, ?_⟩) hHeld ?_
            rotate_left 1
            · intro u hSu
              obtain ⟨q0, q1⟩ := row_cells (kept_row X.out.pn.gb hSu.out (by simp))
              have q2 : u.cell? ⟨bR, oR + i * 2, none⟩ = some (.int .i64 y.id) := by
                obtain ⟨-, b, o, e, -, hc⟩ := rdr_cells (R := R) (X.out.pn.t.keep hSu.out).r (by show 0 < R.length; omega)
                injection e with e
                injection e with e1 e2
                subst e1
                subst e2
                exact (hc i y HY.out.1).1
              go_simp
              first | done | with_reducible rfl
            (try simp only [Act.put, List.setIfInBounds_toArray, List.set_cons_zero, List.set_cons_succ])
            refine wpAnyH_take (i := 7) (oi := { dst := some 64, op := Op.load 3 (Operand.tmp 63), type := 3, pos := "ref.go:139", after := #[{ on := 6, ground := Ground.data }], guard := none }) (v := ?_) rfl (by kernel_rfl) (by kernel_rfl) (by kernel_rfl) (fun _ _ _ h => h) (Or.inl ⟨by rfl, ?_⟩) hHeld ?_
            rotate_left 1
            · intro u hSu
              obtain ⟨q0, q1⟩ := row_cells (kept_row X.out.pn.gb hSu.out (by simp))
              have q2 : u.cell? ⟨bR, oR + i * 2, none⟩ = some (.int .i64 y.id) := by
                obtain ⟨-, b, o, e, -, hc⟩ := rdr_cells (R := R) (X.out.pn.t.keep hSu.out).r (by show 0 < R.length; omega)
                injection e with e
                injection e with e1 e2
                subst e1
                subst e2
                exact (hc i y HY.out.1).1
              go_simp
              first | done | with_reducible rfl
            (try simp only [Act.put, List.setIfInBounds_toArray, List.set_cons_zero, List.set_cons_succ])
            refine wpAnyH_ready (rs := [8]) (by kernel_rfl) (by simp) ?_
            refine AllReadyH.cons (o := { dst := some 65, op := Op.call { callee := Callee.value (Operand.func 45), args := #[Operand.tmp 57, Operand.tmp 58, Operand.tmp 64], argTypes := #[28, 22, 3] }, type := 22, pos := "ref.go:139", after := #[{ on := 0, ground := Ground.data }, { on := 1, ground := Ground.data }, { on := 7, ground := Ground.data }], guard := none }) rfl (fun Kz hK => ?_) AllReadyH.nil
            go_simp
            go_at_call 45
            refine (rsteps_any ⟨R, L, some ⟨bR, oR, none⟩, cR, pL, cL⟩ (toK L z R.length) y.id A pt ct _ _ _ (X.out.pn.t.keep hHeld.out) HOK.out HAE.out (X.out.pn.a.keep hHeld.out) (toK_bd HOK.out z R.length)).mono ?_
            rintro e w12 ⟨p8, c8, rfl, hr8, hc8, hn8, hg8⟩
            (try simp only at hr8 hc8 ⊢)
            rw [stV_nxt H2.out y.id] at hr8 hc8 ⊢
            refine hK.out _ _ (Lib.hid (grown_trans hHeld.out hg8)) (fun hH2 => ?_)
            clear hK Kz hHeld
            have hHeld := hH2
            clear hH2
            (try simp only [Act.put, List.setIfInBounds_toArray, List.set_cons_zero, List.set_cons_succ])
            refine wpAnyH_take (i := 9) (oi := { dst := some 12, op := Op.assign (Operand.tmp 65), type := 22, pos := "ref.go:139", after := #[{ on := 8, ground := Ground.data }, { on := 8, ground := Ground.chain }, { on := 0, ground := Ground.phase }, { on := 1, ground := Ground.phase }, { on := 2, ground := Ground.phase }, { on := 3, ground := Ground.phase }, { on := 4, ground := Ground.phase }, { on := 5, ground := Ground.phase }, { on := 6, ground := Ground.phase }, { on := 7, ground := Ground.phase }, { on := 8, ground := Ground.phase }], guard := none }) (v := ?_) rfl (by kernel_rfl) (by kernel_rfl) (by kernel_rfl) (fun _ _ _ h => h) (Or.inl ⟨by rfl, ?_⟩) hHeld ?_
            rotate_left 1
            · intro u hSu
              obtain ⟨q0, q1⟩ := row_cells (kept_row X.out.pn.gb hSu.out (by simp))
              have q2 : u.cell? ⟨bR, oR + i * 2, none⟩ = some (.int .i64 y.id) := by
                obtain ⟨-, b, o, e, -, hc⟩ := rdr_cells (R := R) (X.out.pn.t.keep hSu.out).r (by show 0 < R.length; omega)
                injection e with e
                injection e with e1 e2
                subst e1
                subst e2
                exact (hc i y HY.out.1).1
              go_simp
              first | done | with_reducible rfl
            (try simp only [Act.put, List.setIfInBounds_toArray, List.set_cons_zero, List.set_cons_succ])
            refine wpAnyH_done (by kernel_rfl) ?_ _
            have hyl := nxt_len R L y.id z
            have HYI : Hid (∀ u ∈ nxt R L y.id z, u ∈ ids R) := Lib.hid (fun u hu => (nxt_near hu).1)
            obtain ⟨Y, hY⟩ : ∃ Y, nxt R L y.id z = Y := ⟨_, rfl⟩
            have HYE : Hid (nxt R L y.id z = Y) := Lib.hid hY
            rw [hY] at hr8 hc8 hyl HYI ⊢
            have hy2 : Y.length ≤ 1000 := by omega
            have X8 : Hid (PX w ⟨R, L, some ⟨bR, oR, none⟩, cR, pL, cL⟩ G B A pt ct gn gx D (updF (tabF (ids R) f i) y.id (prt D Y 0)) w12) := Lib.hid (by rw [tabF_mid HN.out HY.out.2]; exact X.out.keep hHeld.out)
            have Y8 : Hid (Rd w12 (· ≠ gx) (.slice p8 Y.length c8) (Y.map tv)) := Lib.hid (hr8.mono (fun b hb e => by have h1 : gx < w11.heap.size := X.out.x.lt; have h2 := hg8.size; have h3 : w11.drew.heap.size = w11.heap.size := rfl; omega))
            have HPB : Hid (∀ k, 0 ≤ prt D Y k ∧ prt D Y k ≤ 1000000) := Lib.hid (prt_bd HD.out Y)
            clear hHeld hr8 hc8 hn8 hg8 hY hyl X c0 c1 a0 a1
            go_wp2_with fail
            go_loopw [13] (fun a wq => ∃ m : Nat, m ≤ Y.length ∧ a = .int .i64 (m : Int) ∧ Hid (PX w ⟨R, L, some ⟨bR, oR, none⟩, cR, pL, cL⟩ G B A pt ct gn gx D (updF (tabF (ids R) f i) y.id (prt D Y m)) wq) ∧ Hid (Rd wq (· ≠ gx) (.slice p8 Y.length c8) (Y.map tv))) (fun a _ => Y.length - (RowKit.intOf a).toNat)
            case atStart => exact ⟨0, Nat.zero_le _, rfl, X8, Y8⟩
            case round =>
            obtain ⟨w13, rfl⟩ : ∃ w13, w13 = wr := ⟨_, rfl⟩
            obtain ⟨m, hm, rfl, X9, Y9⟩ := hrel
            clear X8 Y8
            by_cases hltm : m < Y.length
            · obtain ⟨-, b9, o9, rfl, -, -⟩ := rdi_at Y9.out (by omega)
              obtain ⟨u9, hu9⟩ : ∃ u9, Y[m]? = some u9 := ⟨_, List.getElem?_eq_getElem hltm⟩
              have HU := Lib.hid hu9
              have HUI := Lib.hid (HYI.out u9 (List.mem_of_getElem? hu9))
              have hA9 := HPB.out m
              have hD9 := HD.out u9
              have HPS := Lib.hid (prt_snoc (c := D) hu9)
              obtain ⟨P, hP⟩ : ∃ P, prt D Y m = P := ⟨_, rfl⟩
              rw [hP] at X9 hA9 HPS
              have i0 : (0 : Int) ≤ (m : Int) := by omega
              have i1 : (m : Int) < (Y.length : Int) := by omega
              have hEV : Hid (updF (tabF (ids R) f i) y.id P y.id = P) := Lib.hid (by unfold updF; rw [if_pos rfl])
              clear hu9 hP
              go_upto_region 18 with fail
              refine region_until (S := fun w' => Hid (PX w ⟨R, L, some ⟨bR, oR, none⟩, cR, pL, cL⟩ G B A pt ct gn gx D (updF (tabF (ids R) f i) y.id P) w' ∧ Rd w' (· ≠ gx) (.slice (some ⟨b9, o9, none⟩) Y.length c8) (Y.map tv))) (fun j => j == 16) (by kernel_rfl) (Lib.hid ⟨X9.out.keep (grown_drew (grown_refl _ _)), Y9.out.grown (r := none) (grown_drew (grown_refl _ _)) (fun _ _ => by simp)⟩) (fun hHeld => ?_)
              refine anyU_take (i := 0) (oi := { dst := some 72, op := Op.move (Operand.tmp 10), type := 22, pos := "ref.go:141", after := #[], guard := none }) (v := ?_) rfl (by kernel_rfl) (by kernel_rfl) (by kernel_rfl) (by kernel_rfl) (by kernel_rfl) (fun _ _ _ h => h) (Or.inl ⟨by rfl, ?_⟩) hHeld ?_
              rotate_left 1
              · intro u hSu
                obtain ⟨q0, q1⟩ := row_cells hSu.out.1.pn.gb
                have q2 : u.cell? ⟨gx, i, none⟩ = some (.int .i64 P) := by have h := hSu.out.1.x.cell (clV_at (D := updF (tabF (ids R) f i) y.id P) HY.out.2); rw [hEV.out] at h; exact h
                have q3 : u.cell? ⟨b9, o9 + m, none⟩ = some (.int .i64 u9) := by
                  obtain ⟨-, b, o, e, -, hc⟩ := rdi_at hSu.out.2 (by omega)
                  injection e with e
                  injection e with e1 e2
                  subst e1
                  subst e2
                  exact hc m u9 HU.out
                go_simp
                first | done | with_reducible rfl
              (try simp only [Act.put, List.setIfInBounds_toArray, List.set_cons_zero, List.set_cons_succ])
              refine anyU_take (i := 1) (oi := { dst := some 73, op := Op.move (Operand.tmp 11), type := 3, pos := "ref.go:141", after := #[], guard := none }) (v := ?_) rfl (by kernel_rfl) (by kernel_rfl) (by kernel_rfl) (by kernel_rfl) (by kernel_rfl) (fun _ _ _ h => h) (Or.inl ⟨by rfl, ?_⟩) hHeld ?_
              rotate_left 1
              · intro u hSu
                obtain ⟨q0, q1⟩ := row_cells hSu.out.1.pn.gb
                have q2 : u.cell? ⟨gx, i, none⟩ = some (.int .i64 P) := by have h := hSu.out.1.x.cell (clV_at (D := updF (tabF (ids R) f i) y.id P) HY.out.2); rw [hEV.out] at h; exact h
                have q3 : u.cell? ⟨b9, o9 + m, none⟩ = some (.int .i64 u9) := by
                  obtain ⟨-, b, o, e, -, hc⟩ := rdi_at hSu.out.2 (by omega)
                  injection e with e
                  injection e with e1 e2
                  subst e1
                  subst e2
                  exact hc m u9 HU.out
                go_simp
                first | done | with_reducible rfl
              (try simp only [Act.put, List.setIfInBounds_toArray, List.set_cons_zero, List.set_cons_succ])
              refine anyU_take (i := 2) (oi := { dst := some 74, op := Op.move (Operand.tmp 10), type := 22, pos := "ref.go:141", after := #[], guard := none }) (v := ?_) rfl (by kernel_rfl) (by kernel_rfl) (by kernel_rfl) (by kernel_rfl) (by kernel_rfl) (fun _ _ _ h => h) (Or.inl ⟨by rfl, ?_⟩) hHeld ?_
              rotate_left 1
              · intro u hSu
                obtain ⟨q0, q1⟩ := row_cells hSu.out.1.pn.gb
                have q2 : u.cell? ⟨gx, i, none⟩ = some (.int .i64 P) := by have h := hSu.out.1.x.cell (clV_at (D := updF (tabF (ids R) f i) y.id P) HY.out.2); rw [hEV.out] at h; exact h
                have q3 : u.cell? ⟨b9, o9 + m, none⟩ = some (.int .i64 u9) := by
                  obtain ⟨-, b, o, e, -, hc⟩ := rdi_at hSu.out.2 (by omega)
                  injection e with e
                  injection e with e1 e2
                  subst e1
                  subst e2
                  exact hc m u9 HU.out
                go_simp
                first | done | with_reducible rfl
              (try simp only [Act.put, List.setIfInBounds_toArray, List.set_cons_zero, List.set_cons_succ])
              refine anyU_take (i := 3) (oi := { dst := some 75, op := Op.move (Operand.tmp 11), type := 3, pos := "ref.go:141", after := #[], guard := none }) (v := ?_) rfl (by kernel_rfl) (by kernel_rfl) (by kernel_rfl) (by kernel_rfl) (by kernel_rfl) (fun _ _ _ h => h) (Or.inl ⟨by rfl, ?_⟩) hHeld ?_
              rotate_left 1
              · intro u hSu
                obtain ⟨q0, q1⟩ := row_cells hSu.out.1.pn.gb
                have q2 : u.cell? ⟨gx, i, none⟩ = some (.int .i64 P) := by have h := hSu.out.1.x.cell (clV_at (D := updF (tabF (ids R) f i) y.id P) HY.out.2); rw [hEV.out] at h; exact h
                have q3 : u.cell? ⟨b9, o9 + m, none⟩ = some (.int .i64 u9) := by
                  obtain ⟨-, b, o, e, -, hc⟩ := rdi_at hSu.out.2 (by omega)
                  injection e with e
                  injection e with e1 e2
                  subst e1
                  subst e2
                  exact hc m u9 HU.out
                go_simp
                first | done | with_reducible rfl
              (try simp only [Act.put, List.setIfInBounds_toArray, List.set_cons_zero, List.set_cons_succ])
              refine anyU_take (i := 4) (oi := { dst := some 76, op := Op.indexAddr 22 (Operand.tmp 74) (Operand.tmp 75), type := 0, pos := "ref.go:141", after := #[{ on := 2, ground := Ground.data }, { on := 3, ground := Ground.data }], guard := none }) (v := ?_) rfl (by kernel_rfl) (by kernel_rfl) (by kernel_rfl) (by kernel_rfl) (by kernel_rfl) (fun _ _ _ h => h) (Or.inl ⟨by rfl, ?_⟩) hHeld ?_
              rotate_left 1
              · intro u hSu
                obtain ⟨q0, q1⟩ := row_cells hSu.out.1.pn.gb
                have q2 : u.cell? ⟨gx, i, none⟩ = some (.int .i64 P) := by have h := hSu.out.1.x.cell (clV_at (D := updF (tabF (ids R) f i) y.id P) HY.out.2); rw [hEV.out] at h; exact h
                have q3 : u.cell? ⟨b9, o9 + m, none⟩ = some (.int .i64 u9) := by
                  obtain ⟨-, b, o, e, -, hc⟩ := rdi_at hSu.out.2 (by omega)
                  injection e with e
                  injection e with e1 e2
                  subst e1
                  subst e2
                  exact hc m u9 HU.out
                go_simp
                first | done | with_reducible rfl
              (try simp only [Act.put, List.setIfInBounds_toArray, List.set_cons_zero, List.set_cons_succ])
              refine anyU_take (i := 5) (oi := { dst := some 77, op := Op.load 3 (Operand.tmp 76), type := 3, pos := "ref.go:141", after := #[{ on := 4, ground := Ground.data }], guard := none }) (v := ?_) rfl (by kernel_rfl) (by kernel_rfl) (by kernel_rfl) (by kernel_rfl) (by kernel_rfl) (fun _ _ _ h => h) (Or.inl ⟨by rfl, ?_⟩) hHeld ?_
              rotate_left 1
              · intro u hSu
                obtain ⟨q0, q1⟩ := row_cells hSu.out.1.pn.gb
                have q2 : u.cell? ⟨gx, i, none⟩ = some (.int .i64 P) := by have h := hSu.out.1.x.cell (clV_at (D := updF (tabF (ids R) f i) y.id P) HY.out.2); rw [hEV.out] at h; exact h
                have q3 : u.cell? ⟨b9, o9 + m, none⟩ = some (.int .i64 u9) := by
                  obtain ⟨-, b, o, e, -, hc⟩ := rdi_at hSu.out.2 (by omega)
                  injection e with e
                  injection e with e1 e2
                  subst e1
                  subst e2
                  exact hc m u9 HU.out
                go_simp
                first | done | with_reducible rfl
              (try simp only [Act.put, List.setIfInBounds_toArray, List.set_cons_zero, List.set_cons_succ])
              refine anyU_take (i := 6) (oi := { dst := some 78, op := Op.load 28 (Operand.tmp 3), type := 28, pos := "ref.go:141", after := #[], guard := none }) (v := ?_) rfl (by kernel_rfl) (by kernel_rfl) (by kernel_rfl) (by kernel_rfl) (by kernel_rfl) (fun _ _ _ h => h) (Or.inl ⟨by rfl, ?_⟩) hHeld ?_
              rotate_left 1
              · intro u hSu
                obtain ⟨q0, q1⟩ := row_cells hSu.out.1.pn.gb
                have q2 : u.cell? ⟨gx, i, none⟩ = some (.int .i64 P) := by have h := hSu.out.1.x.cell (clV_at (D := updF (tabF (ids R) f i) y.id P) HY.out.2); rw [hEV.out] at h; exact h
                have q3 : u.cell? ⟨b9, o9 + m, none⟩ = some (.int .i64 u9) := by
                  obtain ⟨-, b, o, e, -, hc⟩ := rdi_at hSu.out.2 (by omega)
                  injection e with e
                  injection e with e1 e2
                  subst e1
                  subst e2
                  exact hc m u9 HU.out
                go_simp
                first | done | with_reducible rfl
              (try simp only [Act.put, List.setIfInBounds_toArray, List.set_cons_zero, List.set_cons_succ])
              refine anyU_take (i := 7) (oi := { dst := some 79, op := Op.move (Operand.tmp 8), type := 22, pos := "ref.go:141", after := #[], guard := none }) (v := ?_) rfl (by kernel_rfl) (by kernel_rfl) (by kernel_rfl) (by kernel_rfl) (by kernel_rfl) (fun _ _ _ h => h) (Or.inl ⟨by rfl, ?_⟩) hHeld ?_
              rotate_left 1
              · intro u hSu
                obtain ⟨q0, q1⟩ := row_cells hSu.out.1.pn.gb
                have q2 : u.cell? ⟨gx, i, none⟩ = some (.int .i64 P) := by have h := hSu.out.1.x.cell (clV_at (D := updF (tabF (ids R) f i) y.id P) HY.out.2); rw [hEV.out] at h; exact h
                have q3 : u.cell? ⟨b9, o9 + m, none⟩ = some (.int .i64 u9) := by
                  obtain ⟨-, b, o, e, -, hc⟩ := rdi_at hSu.out.2 (by omega)
                  injection e with e
                  injection e with e1 e2
                  subst e1
                  subst e2
                  exact hc m u9 HU.out
                go_simp
                first | done | with_reducible rfl
              (try simp only [Act.put, List.setIfInBounds_toArray, List.set_cons_zero, List.set_cons_succ])
              refine anyU_take (i := 8) (oi := { dst := some 80, op := Op.move (Operand.tmp 12), type := 22, pos := "ref.go:141", after := #[], guard := none }) (v := ?_) rfl (by kernel_rfl) (by kernel_rfl) (by kernel_rfl) (by kernel_rfl) (by kernel_rfl) (fun _ _ _ h => h) (Or.inl ⟨by rfl, ?_⟩) hHeld ?_
              rotate_left 1
              · intro u hSu
                obtain ⟨q0, q1⟩ := row_cells hSu.out.1.pn.gb
                have q2 : u.cell? ⟨gx, i, none⟩ = some (.int .i64 P) := by have h := hSu.out.1.x.cell (clV_at (D := updF (tabF (ids R) f i) y.id P) HY.out.2); rw [hEV.out] at h; exact h
                have q3 : u.cell? ⟨b9, o9 + m, none⟩ = some (.int .i64 u9) := by
                  obtain ⟨-, b, o, e, -, hc⟩ := rdi_at hSu.out.2 (by omega)
                  injection e with e
                  injection e with e1 e2
                  subst e1
                  subst e2
                  exact hc m u9 HU.out
                go_simp
                first | done | with_reducible rfl
              (try simp only [Act.put, List.setIfInBounds_toArray, List.set_cons_zero, List.set_cons_succ])
              refine anyU_take (i := 9) (oi := { dst := some 81, op := Op.move (Operand.tmp 13), type := 3, pos := "ref.go:141", after := #[], guard := none }) (v := ?_) rfl (by kernel_rfl) (by kernel_rfl) (by kernel_rfl) (by kernel_rfl) (by kernel_rfl) (fun _ _ _ h => h) (Or.inl ⟨by rfl, ?_⟩) hHeld ?_
              rotate_left 1
              · intro u hSu
                obtain ⟨q0, q1⟩ := row_cells hSu.out.1.pn.gb
                have q2 : u.cell? ⟨gx, i, none⟩ = some (.int .i64 P) := by have h := hSu.out.1.x.cell (clV_at (D := updF (tabF (ids R) f i) y.id P) HY.out.2); rw [hEV.out] at h; exact h
                have q3 : u.cell? ⟨b9, o9 + m, none⟩ = some (.int .i64 u9) := by
                  obtain ⟨-, b, o, e, -, hc⟩ := rdi_at hSu.out.2 (by omega)
                  injection e with e
                  injection e with e1 e2
                  subst e1
                  subst e2
                  exact hc m u9 HU.out
                go_simp
                first | done | with_reducible rfl
              (try simp only [Act.put, List.setIfInBounds_toArray, List.set_cons_zero, List.set_cons_succ])
              refine anyU_take (i := 10) (oi := { dst := some 82, op := Op.indexAddr 22 (Operand.tmp 80) (Operand.tmp 81), type := 0, pos := "ref.go:141", after := #[{ on := 8, ground := Ground.data }, { on := 9, ground := Ground.data }], guard := none }) (v := ?_) rfl (by kernel_rfl) (by kernel_rfl) (by kernel_rfl) (by kernel_rfl) (by kernel_rfl) (fun _ _ _ h => h) (Or.inl ⟨by rfl, ?_⟩) hHeld ?_
              rotate_left 1
              · intro u hSu
                obtain ⟨q0, q1⟩ := row_cells hSu.out.1.pn.gb
                have q2 : u.cell? ⟨gx, i, none⟩ = some (.int .i64 P) := by have h := hSu.out.1.x.cell (clV_at (D := updF (tabF (ids R) f i) y.id P) HY.out.2); rw [hEV.out] at h; exact h
                have q3 : u.cell? ⟨b9, o9 + m, none⟩ = some (.int .i64 u9) := by
                  obtain ⟨-, b, o, e, -, hc⟩ := rdi_at hSu.out.2 (by omega)
                  injection e with e
                  injection e with e1 e2
                  subst e1
                  subst e2
                  exact hc m u9 HU.out
                go_simp
                first | done | with_reducible rfl
              (try simp only [Act.put, List.setIfInBounds_toArray, List.set_cons_zero, List.set_cons_succ])
              refine anyU_take (i := 11) (oi := { dst := some 83, op := Op.load 3 (Operand.tmp 82), type := 3, pos := "ref.go:141", after := #[{ on := 10, ground := Ground.data }], guard := none }) (v := ?_) rfl (by kernel_rfl) (by kernel_rfl) (by kernel_rfl) (by kernel_rfl) (by kernel_rfl) (fun _ _ _ h => h) (Or.inl ⟨by rfl, ?_⟩) hHeld ?_
              rotate_left 1
              · intro u hSu
                obtain ⟨q0, q1⟩ := row_cells hSu.out.1.pn.gb
                have q2 : u.cell? ⟨gx, i, none⟩ = some (.int .i64 P) := by have h := hSu.out.1.x.cell (clV_at (D := updF (tabF (ids R) f i) y.id P) HY.out.2); rw [hEV.out] at h; exact h
                have q3 : u.cell? ⟨b9, o9 + m, none⟩ = some (.int .i64 u9) := by
                  obtain ⟨-, b, o, e, -, hc⟩ := rdi_at hSu.out.2 (by omega)
                  injection e with e
                  injection e with e1 e2
                  subst e1
                  subst e2
                  exact hc m u9 HU.out
                go_simp
                first | done | with_reducible rfl
              (try simp only [Act.put, List.setIfInBounds_toArray, List.set_cons_zero, List.set_cons_succ])
              refine anyU_ready (rs := [12]) (by kernel_rfl) (by simp) ?_
              refine EachU.cons (o := { dst := some 84, op := Op.call { callee := Callee.value (Operand.func 48), args := #[Operand.tmp 78, Operand.tmp 79, Operand.tmp 83], argTypes := #[28, 22, 3] }, type := 3, pos := "ref.go:141", after := #[{ on := 6, ground := Ground.data }, { on := 7, ground := Ground.data }, { on := 11, ground := Ground.data }], guard := none }) rfl (fun Kz hK => ?_) EachU.nil
              go_simp
              go_at_call 48
              have hlen : ((ids R).map D).length = R.length := by rw [List.length_map, ids_len]
              have hcall := rat_any ⟨R, L, some ⟨bR, oR, none⟩, cR, pL, cL⟩ D u9 ((ids R).map D) (some ⟨gn, 0, none⟩) R.length _ (fun _ => True) _ hHeld.out.1.pn.t rfl (row_rd hHeld.out.1.pn.n)
              rw [hlen] at hcall
              refine hcall.mono ?_
              rintro e wc ⟨rfl, hgc⟩
              simp only
              rw [show atV R D u9 = D u9 by unfold atV; rw [if_pos HUI.out]]
              clear hcall hlen
              refine hK.out _ _ (fun _ => Lib.hid ⟨hHeld.out.1.keep hgc, hHeld.out.2.grown hgc (fun _ _ => by simp)⟩) (fun hH2 => ?_)
              clear hK Kz hHeld
              have hHeld := hH2 rfl
              clear hH2
              (try simp only [Act.put, List.setIfInBounds_toArray, List.set_cons_zero, List.set_cons_succ])
              refine anyU_take (i := 13) (oi := { dst := some 85, op := Op.binOp BinOp.add 3 (Operand.tmp 77) (Operand.tmp 84) 3, type := 3, pos := "ref.go:141", after := #[{ on := 5, ground := Ground.data }, { on := 12, ground := Ground.data }], guard := none }) (v := (.int .i64 (P + D u9))) rfl (by kernel_rfl) (by kernel_rfl) (by kernel_rfl) (by kernel_rfl) (by kernel_rfl) (fun _ _ _ h => h) (Or.inl ⟨by rfl, ?_⟩) hHeld ?_
              · intro u hSu
                obtain ⟨q0, q1⟩ := row_cells hSu.out.1.pn.gb
                have q2 : u.cell? ⟨gx, i, none⟩ = some (.int .i64 P) := by have h := hSu.out.1.x.cell (clV_at (D := updF (tabF (ids R) f i) y.id P) HY.out.2); rw [hEV.out] at h; exact h
                have q3 : u.cell? ⟨b9, o9 + m, none⟩ = some (.int .i64 u9) := by
                  obtain ⟨-, b, o, e, -, hc⟩ := rdi_at hSu.out.2 (by omega)
                  injection e with e
                  injection e with e1 e2
                  subst e1
                  subst e2
                  exact hc m u9 HU.out
                go_simp
                first | done | exact Go.IntWalk.i64_in _ (by omega) | omega
              (try simp only [Act.put, List.setIfInBounds_toArray, List.set_cons_zero, List.set_cons_succ])
              refine anyU_take (i := 14) (oi := { dst := some 86, op := Op.call { callee := Callee.builtin Builtin.min, args := #[Operand.const (Value.int IntKind.i64 1000000), Operand.tmp 85], argTypes := #[3, 3] }, type := 3, pos := "ref.go:141", after := #[{ on := 13, ground := Ground.data }], guard := none }) (v := (.int .i64 (min 1000000 (P + D u9)))) rfl (by kernel_rfl) (by kernel_rfl) (by kernel_rfl) (by kernel_rfl) (by kernel_rfl) (fun _ _ _ h => h) (Or.inl ⟨by rfl, ?_⟩) hHeld ?_
              · intro u hSu
                obtain ⟨q0, q1⟩ := row_cells hSu.out.1.pn.gb
                have q2 : u.cell? ⟨gx, i, none⟩ = some (.int .i64 P) := by have h := hSu.out.1.x.cell (clV_at (D := updF (tabF (ids R) f i) y.id P) HY.out.2); rw [hEV.out] at h; exact h
                have q3 : u.cell? ⟨b9, o9 + m, none⟩ = some (.int .i64 u9) := by
                  obtain ⟨-, b, o, e, -, hc⟩ := rdi_at hSu.out.2 (by omega)
                  injection e with e
                  injection e with e1 e2
                  subst e1
                  subst e2
                  exact hc m u9 HU.out
                go_simp
              (try simp only [Act.put, List.setIfInBounds_toArray, List.set_cons_zero, List.set_cons_succ])
              refine anyU_take (i := 15) (oi := { dst := some 87, op := Op.indexAddr 22 (Operand.tmp 72) (Operand.tmp 73), type := 0, pos := "ref.go:141", after := #[{ on := 0, ground := Ground.data }, { on := 1, ground := Ground.data }, { on := 0, ground := Ground.phase }, { on := 1, ground := Ground.phase }, { on := 2, ground := Ground.phase }, { on := 3, ground := Ground.phase }, { on := 4, ground := Ground.phase }, { on := 5, ground := Ground.phase }, { on := 6, ground := Ground.phase }, { on := 7, ground := Ground.phase }, { on := 8, ground := Ground.phase }, { on := 9, ground := Ground.phase }, { on := 10, ground := Ground.phase }, { on := 11, ground := Ground.phase }, { on := 12, ground := Ground.phase }, { on := 13, ground := Ground.phase }, { on := 14, ground := Ground.phase }], guard := none }) (v := ?_) rfl (by kernel_rfl) (by kernel_rfl) (by kernel_rfl) (by kernel_rfl) (by kernel_rfl) (fun _ _ _ h => h) (Or.inl ⟨by rfl, ?_⟩) hHeld ?_
              rotate_left 1
              · intro u hSu
                obtain ⟨q0, q1⟩ := row_cells hSu.out.1.pn.gb
                have q2 : u.cell? ⟨gx, i, none⟩ = some (.int .i64 P) := by have h := hSu.out.1.x.cell (clV_at (D := updF (tabF (ids R) f i) y.id P) HY.out.2); rw [hEV.out] at h; exact h
                have q3 : u.cell? ⟨b9, o9 + m, none⟩ = some (.int .i64 u9) := by
                  obtain ⟨-, b, o, e, -, hc⟩ := rdi_at hSu.out.2 (by omega)
                  injection e with e
                  injection e with e1 e2
                  subst e1
                  subst e2
                  exact hc m u9 HU.out
                go_simp
                first | done | with_reducible rfl
              (try simp only [Act.put, List.setIfInBounds_toArray, List.set_cons_zero, List.set_cons_succ])
              refine anyU_ready (rs := [16]) (by kernel_rfl) (by simp) ?_
              refine EachU.cons (o := { dst := none, op := Op.store 3 (Operand.tmp 87) (Operand.tmp 86), type := 0, pos := "ref.go:141", after := #[{ on := 15, ground := Ground.data }, { on := 14, ground := Ground.data }, { on := 12, ground := Ground.chain }, { on := 0, ground := Ground.phase }, { on := 1, ground := Ground.phase }, { on := 2, ground := Ground.phase }, { on := 3, ground := Ground.phase }, { on := 4, ground := Ground.phase }, { on := 5, ground := Ground.phase }, { on := 6, ground := Ground.phase }, { on := 7, ground := Ground.phase }, { on := 8, ground := Ground.phase }, { on := 9, ground := Ground.phase }, { on := 10, ground := Ground.phase }, { on := 11, ground := Ground.phase }, { on := 12, ground := Ground.phase }, { on := 13, ground := Ground.phase }, { on := 14, ground := Ground.phase }], guard := none }) rfl (fun Kz hK => ?_) EachU.nil
              have H9 := hHeld
              have e9 := H9.out.1.x.cell (clV_at (D := updF (tabF (ids R) f i) y.id P) HY.out.2)
              have f9 := H9.out.1.x.frozen i
              go_simp
              refine hK.out _ _ (fun h => by cases h) (fun _ => ?_)
              clear hK Kz
              (try simp only [Act.put, List.setIfInBounds_toArray, List.set_cons_zero, List.set_cons_succ])
              refine anyU_done (by kernel_rfl) ?_ _
              clear hHeld
              have M9 := Lib.hid (H9.out.1.put HN.out HY.out.2 (min 1000000 (P + D u9)))
              have Y10 := Lib.hid (H9.out.2.grown (grown_setCell _ ⟨gx, i, none⟩ (tv (min 1000000 (P + D u9)))) (fun b hb e => hb (Option.some.inj e)))
              rw [updF_twice, Int.min_comm 1000000 (P + D u9), ← HPS.out] at M9
              rw [Int.min_comm 1000000 (P + D u9), ← HPS.out] at Y10 ⊢
              change Hid (PX _ _ _ _ _ _ _ _ _ _ _ (World.setCell _ ⟨gx, i, none⟩ (.int .i64 (prt D Y (m + 1))))) at M9
              change Hid (Rd (World.setCell _ ⟨gx, i, none⟩ (.int .i64 (prt D Y (m + 1)))) _ _ _) at Y10
              clear H9 e9 f9 X9 Y9
              go_wp2_with fail
              exact ⟨⟨m + 1, by omega, congrArg _ (by omega), M9, Y10⟩, by simp only [RowKit.intOf]; omega⟩
            · obtain rfl : m = Y.length := by omega
              have X10 : Hid (PX w ⟨R, L, some ⟨bR, oR, none⟩, cR, pL, cL⟩ G B A pt ct gn gx D (tabF (ids R) f (i + 1)) w13) := by
                have h1 := X9.out
                rw [show prt D Y Y.length = f y.id by rw [HF.out]; unfold cntS prt; rw [if_neg HE.out, List.take_length]; simp only; rw [HYE.out], tabF_step HY.out.2] at h1
                exact Lib.hid h1
              clear X9
              go_wp2_with fail
              exact ⟨⟨i + 1, by omega, congrArg _ (by omega), X10⟩, by simp only [RowKit.intOf]; omega⟩
        · obtain rfl : i = R.length := by omega
          have M9 : Hid (PN w ⟨R, L, pR, cR, pL, cL⟩ G B A pt ct gx (itC (fun r => nxt R L r z) z (k + 1)) w11) := by
            have h1 := X.out.x
            simp only at h1
            rw [← ids_len R, tabF_end, ← HFE.out] at h1
            have h2 := X.out.pn
            have h3 := X.out.lt
            exact Lib.hid ⟨h2.gb, h2.t, h2.a, h1, h2.gr, h2.lt.1, h2.lt.2.1, by have := h2.lt.2.2; omega⟩
          clear X
          go_wp2_with fail
          exact ⟨⟨k + 1, gx, by omega, congrArg _ (by omega), rfl, M9⟩, by simp only [RowKit.intOf]; omega⟩
      · obtain rfl : k = R.length := by omega
        have hrd : Rd w9 (fun _ => True) (.slice (some ⟨gn, 0, none⟩) ((ids R).map (itC (fun r => nxt R L r z) z R.length)).length R.length) (((ids R).map (itC (fun r => nxt R L r z) z R.length)).map tv) := by
          refine ⟨some ⟨gn, 0, none⟩, R.length, by simp only [List.length_map], fun _ => ⟨gn, 0, rfl, trivial, fun i x hx => ?_⟩⟩
          have h1 := M.out.n.cell (j := i) (x := x) (by unfold clV; rw [List.map_map] at hx; exact hx)
          rw [Nat.zero_add]
          exact h1
        have hlen : ((ids R).map (itC (fun r => nxt R L r z) z R.length)).length = R.length := by rw [List.length_map, ids_len]
        have HRD := Lib.hid hrd
        have HLEN := Lib.hid hlen
        clear hrd hlen
        go_wp2_with fail
        have hcall := rat_any ⟨R, L, pR, cR, pL, cL⟩ (itC (fun r => nxt R L r z) z R.length) a _ (some ⟨gn, 0, none⟩) R.length _ _ w9 M.out.t rfl HRD.out
        rw [HLEN.out] at hcall
        refine hcall.mono ?_
        rintro e w12 ⟨rfl, hg⟩
        have HV : Hid (atV R (itC (fun r => nxt R L r z) z R.length) a = X) := Lib.hid (by
          unfold atV
          rw [if_pos (hasV_iff.1 H1.out).2, itC_cnt H2.out, cnt_pV H2.out]
          exact HX.out)
        rw [HV.out]
        have HG := Lib.hid (grown_trans M.out.gr hg)
        clear hg hcall c0 c1
        go_wp2_with fail
        go_ret
        exact ⟨rfl, HG.out⟩
end Go.Proofs.Ytlefjdglcdopeaa

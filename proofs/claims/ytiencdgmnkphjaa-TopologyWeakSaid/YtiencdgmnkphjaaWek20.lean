/- Parts of the proof, packed: ToCuts, ToAwake. -/
import Derived.Test.YtiencdgmnkphjaaWek19
/- topology: Cuts. -/
namespace Go.Proofs.Ytiencdgmnkphjaa
open Go.RowKit Bs
/-- Without a router. -/
def cutF (r : Rt) : Fl := ⟨[], [r.id], none, 0, none, 0⟩
def isCut (R : List Rt) (L : List Lk) (r : Rt) : Bool := decide ((comps R L).length < (comps (woR (cutF r) R) (woL (cutF r) L)).length)
def cuts (R : List Rt) (L : List Lk) : List Int := if okT R L then (R.filter (isCut R L)).map Rt.id else []
theorem cut_take {R : List Rt} {L : List Lk} {k : Nat} {x : Rt} (h : R[k]? = some x) : ((R.take (k + 1)).filter (isCut R L)).map Rt.id = ((R.take k).filter (isCut R L)).map Rt.id ++ (if isCut R L x then [x.id] else []) := by
  rw [filter_snoc h, List.map_append]
  split <;> rfl
/-- While cuts are found. -/
structure CUM (w0 : World) (R : List Rt) (L : List Lk) (pR : Option Addr) (cR : Nat) (pL : Option Addr) (cL : Nat) (Xs : List Int) (va : Value) (w : World) : Prop where
  topo : w.heap[w0.heap.size]? = some (.cells #[.slice pR R.length cR, .slice pL L.length cL] 26 (0, 0))
  ok : TgOk w (· < w0.heap.size) ⟨R, L, pR, cR, pL, cL⟩
  own : w.ownsRow (w0.heap.size + 1) 3 1 va Xs.length (Xs.map tv)
  size : w0.heap.size + 1 ≤ w.heap.size
  gr : w0.grownBy w none
theorem CUM.keep {w0 w w' : World} {R : List Rt} {L : List Lk} {pR pL : Option Addr} {cR cL : Nat} {Xs : List Int} {va : Value} (h : CUM w0 R L pR cR pL cL Xs va w) (g : w.grownBy w' none) : CUM w0 R L pR cR pL cL Xs va w' :=
  ⟨kept_row h.topo g (by simp), h.ok.keep g, h.own.kept g (by cases hv : va.ownBlock <;> simp), Nat.le_trans h.size g.size, grown_trans h.gr g⟩
theorem CUM.app {w0 w w1 : World} {R : List Rt} {L : List Lk} {pR pL : Option Addr} {cR cL : Nat} {Xs : List Int} {va v' : Value} {x : Int} {o : Obj} (h : CUM w0 R L pR cR pL cL Xs va w)
    (hown : w1.ownsRow (w0.heap.size + 1) 3 1 v' (Xs.length + 1) (Xs.map tv ++ [.int .i64 x])) (hg : (w.alloc o).grownBy w1 va.ownBlock) : CUM w0 R L pR cR pL cL (Xs ++ [x]) v' w1 := by
  have k0 := World.grownBy_alloc w o none
  have hne : ∀ b, b < w0.heap.size + 1 → some b ≠ va.ownBlock := fun b hb e => by
    have := (h.own.lt b e.symm).1
    omega
  have hk := h.keep k0
  refine ⟨kept_row hk.topo hg (hne _ (by omega)), hk.ok.grown hg (fun b hb => hne b (by omega)), ?_, Nat.le_trans hk.size hg.size, grown_any hk.gr hg (fun b hb => hne b (by omega))⟩
  rw [List.length_append, List.map_append]
  exact hown
theorem CUM.ret {w0 w : World} {R : List Rt} {L : List Lk} {pR pL : Option Addr} {cR cL : Nat} {Xs : List Int} {va : Value} (h : CUM w0 R L pR cR pL cL Xs va w) : TRet Xs w0 (.returned va) w := by
  have hr := rd_of_own h.own
  rcases Joins.ownsRow_forms h.own with ⟨e, e0⟩ | ⟨g, cap, e⟩
  · subst e
    obtain rfl := List.eq_nil_of_length_eq_zero e0
    exact ⟨none, 0, rfl, hr.mono (fun b hb => by show _ ≤ b; omega), ⟨Nat.le_refl _, by omega⟩, fun _ => rfl, h.gr⟩
  · subst e
    have := own_cap h.own
    unfold maxLen at this
    exact ⟨_, cap, rfl, hr.mono (fun b hb => by show _ ≤ b; omega), ⟨this.1, by omega⟩, (fun e => by cases e), h.gr⟩
theorem fl_oneX (w : World) (a : Int) : FlOk (w.alloc (.cells #[.int .i64 a] 3)) (fun _ => True) ⟨[], [a], none, 0, some ⟨w.heap.size, 0, none⟩, 1⟩ := by
  have h0 : (w.alloc (.cells #[.int .i64 a] 3)).heap[w.heap.size]? = some (.cells #[.int .i64 a] 3 (0, 0)) := heap_alloc_new w _
  refine ⟨⟨none, 0, rfl, fun h => absurd rfl h⟩, ⟨some ⟨w.heap.size, 0, none⟩, 1, rfl, fun _ => ⟨w.heap.size, 0, rfl, trivial, fun i x hi => ?_⟩⟩, ⟨Nat.le_refl _, by show 0 ≤ _; omega⟩, ⟨Nat.le_refl _, by show 1 ≤ _; omega⟩⟩
  match i, hi with
  | 0, hi =>
    obtain rfl : tv a = x := by simpa using hi
    rw [cell_of_row _ _ _ _ _ _ h0]; rfl
theorem twc_any {R : List Rt} {L : List Lk} (hv : okT R L = true) (x : Rt) (pR pL : Option Addr) (cR cL g : Nat) (q q2 : Nat → Prop) (w : World) (n : Int) (hn : x.id = n) (hT : TgOk w q ⟨R, L, pR, cR, pL, cL⟩) (hF : FlOk w q2 ⟨[], [n], none, 0, some ⟨g, 0, none⟩, 1⟩) :
    Calls Try.prog 31 #[.agg #[.slice pR R.length cR, .slice pL L.length cL], .agg #[.slice none 0 0, .slice (some ⟨g, 0, none⟩) 1 1]] w fun e w' => TWPost (woR (cutF x) R) (woL (cutF x) L) w e w' := by
  subst hn
  have h := twithout_any ⟨R, L, pR, cR, pL, cL⟩ _ q q2 w hT hF
  simp only [hv, if_true] at h
  exact h
set_option maxRecDepth 100000 in
set_option maxHeartbeats 6400000 in
theorem tcuts_any (T : Tg) (q : Nat → Prop) (w : World) (hT : TgOk w q T) (h12 : okT T.R T.L = true → T.R.length ≤ 12) :
    Calls Try.prog 42 #[.agg #[.slice T.pR T.R.length T.cR, .slice T.pL T.L.length T.cL]] w fun e w' => TRet (cuts T.R T.L) w e w' := by
  obtain ⟨ii, hii, hi0, hi1, hi2⟩ := info_parts info_int
  obtain ⟨R, L, pR, cR, pL, cL⟩ := T
  obtain ⟨k1, k2⟩ := tone_box w #[.slice pR R.length cR, .slice pL L.length cL] 26
  have S0 : Hid (CUM w R L pR cR pL cL [] (.slice none 0 0) (w.alloc (.cells #[.slice pR R.length cR, .slice pL L.length cL] 26))) := Lib.hid ⟨k1, hT.old.keep k2, World.ownsRow_nil _ _ _ _, by simp, k2⟩
  have hmR := Nat.le_trans hT.cr.1 hT.cr.2
  simp only at h12 hmR ⊢
  clear hT k1 k2
  obtain ⟨Xr, hXr⟩ : ∃ Xr, cuts R L = Xr := ⟨_, rfl⟩
  rw [hXr]
  have HXR := Lib.hid hXr
  clear hXr
  go_enter Try.func42, Try.ntmps42
  go_upto_region 1 with fail
  generalize w.alloc _ = wa at *
  obtain ⟨c0, c1⟩ := row_cells S0.out.topo
  go_wp2_with fail
  refine (tvalid_any ⟨R, L, pR, cR, pL, cL⟩ _ wa S0.out.ok).mono ?_
  rintro e w1 ⟨rfl, hg⟩
  simp only
  have S1 := Lib.hid (S0.out.keep hg)
  clear hg S0 c0 c1
  cases hv : okT R L
  · obtain rfl : Xr = [] := by have := HXR.out; unfold cuts at this; rw [hv] at this; exact this.symm
    go_wp2_with fail
    go_ret
    exact ⟨none, 0, rfl, ⟨none, 0, rfl, fun h => absurd rfl h⟩, ⟨Nat.le_refl _, by show 0 ≤ _; omega⟩, fun _ => rfl, S1.out.gr⟩
  have HV := Lib.hid hv
  obtain ⟨h24, h60⟩ := okT_len hv
  replace h12 := h12 hv
  have HH2 : Hid ((R.filter (isCut R L)).map Rt.id = Xr) := Lib.hid (by have := HXR.out; unfold cuts at this; rw [hv] at this; exact this)
  clear hv HXR
  obtain ⟨c0, c1⟩ := row_cells S1.out.topo
  go_wp2_with fail
  refine (tcomps_any ⟨R, L, pR, cR, pL, cL⟩ _ w1 S1.out.ok (fun _ => h12)).mono ?_
  rintro e w2 ⟨pC, cC, valsC, rfl, -, -, -, -, hg⟩
  have M0 : Hid (CUM w R L pR cR pL cL (((R.take 0).filter (isCut R L)).map Rt.id) (.slice none 0 0) w2) := Lib.hid (S1.out.keep hg)
  clear hg S1 c0 c1
  obtain ⟨N, hN⟩ : ∃ N, (comps R L).length = N := ⟨_, rfl⟩
  simp only
  try rw [hN]
  have HN := Lib.hid hN
  clear hN
  obtain ⟨c0, c1⟩ := row_cells M0.out.topo
  go_wp2_with fail
  go_loopw [3, 16] (fun va a wr => ∃ (k : Nat), k ≤ R.length ∧ a = .int .i64 (k : Int) ∧ Hid (CUM w R L pR cR pL cL (((R.take k).filter (isCut R L)).map Rt.id) va wr)) (fun _ a _ => R.length - (intOf a).toNat)
  case atStart => exact ⟨0, Nat.zero_le _, rfl, M0⟩
  case round =>
    obtain ⟨k, hk, rfl, M⟩ := hrel
    clear M0 c0 c1
    by_cases hlt : k < R.length
    · obtain ⟨-, b, off, rfl, hq, hc⟩ := rdr_cells (R := R) M.out.ok.r (by omega)
      obtain ⟨x, hx⟩ : ∃ x, R[k]? = some x := ⟨_, List.getElem?_eq_getElem hlt⟩
      obtain ⟨a0, a1⟩ := hc k x hx
      have HK := Lib.hid (cut_take (L := L) hx)
      have hln : ((((R.take k).filter (isCut R L)).map Rt.id)).length ≤ 24 := by
        rw [List.length_map]
        have := List.length_filter_le (isCut R L) (R.take k)
        have := List.length_take_le k R
        omega
      have gal := World.grownBy_alloc wr (.cells #[.int .i64 x.id, .bool x.cap] 73) none
      have hbx := heap_alloc_new wr (.cells #[.int .i64 x.id, .bool x.cap] 73)
      have M2 := Lib.hid (M.out.keep gal)
      clear hc hx gal M
      obtain ⟨Xs, hXs⟩ : ∃ Xs, (((R.take k).filter (isCut R L)).map Rt.id) = Xs := ⟨_, rfl⟩
      rw [hXs] at M2 HK hln
      clear hXs
      go_upto_region 8 with fail
      clear a0 a1
      generalize wr.alloc _ = wy at *
      obtain ⟨d0, d1⟩ := row_cells hbx
      obtain ⟨c0, c1⟩ := row_cells M2.out.topo
      have HBX := Lib.hid hbx
      have gal := World.grownBy_alloc wy (.cells #[.int .i64 x.id] 3) none
      have hT2 := M2.out.ok.keep gal
      have hF2 := fl_oneX wy x.id
      have HTF := Lib.hid (And.intro hT2 (And.intro hF2 gal))
      clear hbx gal hT2 hF2
      go_wp2_with fail
      refine (twc_any HV.out x (some ⟨b, off, none⟩) pL cR cL wy.heap.size _ _ _ x.id rfl HTF.out.1 HTF.out.2.1).mono ?_
      rintro e w3 ⟨pR2, cR2, pL2, cL2, rfl, hT3, hg3⟩
      have HT3 := Lib.hid hT3
      have M3 := Lib.hid (M2.out.keep (grown_trans HTF.out.2.2 hg3))
      have HBX3 := Lib.hid (kept_row HBX.out (grown_trans HTF.out.2.2 hg3) (by simp))
      clear hT3 hg3 HTF M2 HBX c0 c1 d0 d1
      go_wp2_with fail
      refine (tcomps_any ⟨woR (cutF x) R, woL (cutF x) L, pR2, cR2, pL2, cL2⟩ _ w3 HT3.out (fun _ => Nat.le_trans (List.length_filter_le _ _) h12)).mono ?_
      rintro e w4 ⟨pC2, cC2, vals2, rfl, -, -, hcap2, -, hg4⟩
      obtain ⟨N2, hN2⟩ : ∃ N2, (comps (woR (cutF x) R) (woL (cutF x) L)).length = N2 := ⟨_, rfl⟩
      simp only at hcap2 ⊢
      rw [hN2] at hcap2 ⊢
      have HC : Hid (isCut R L x = decide (N < N2)) := Lib.hid (by unfold isCut; rw [HN.out, hN2])
      have M4 := Lib.hid (M3.out.keep hg4)
      have HBX4 := Lib.hid (kept_row HBX3.out hg4 (by simp))
      obtain ⟨d0, d1⟩ := row_cells HBX4.out
      have hown := M4.out.own
      have hsz4 := M4.out.size
      clear hg4 M3 HBX3 HT3 hN2
      by_cases hlt2 : N < N2
      · have HB : Hid (((R.take (k + 1)).filter (isCut R L)).map Rt.id = Xs ++ [x.id]) := Lib.hid (by rw [HK.out, HC.out, decide_eq_true hlt2]; rfl)
        go_wp2_with (at_builtin; refine wpList_append_own _ rfl _ _ 22 rfl (w.heap.size + 1) 3 ii (.int .i64 0) 1 8 Try.underlying22 hii hi0 hi1 hi2 rfl (by decide) _ _ _ rfl (hown.alloc _) ⟨w4.heap.size, 0, none⟩ 1 1 [.int .i64 x.id] rfl rfl ?c1 ?c2 ?c3 ?c4 ?c5 ?_)
        try (case c1 => exact cell_one _ _ _)
        case c2 => first | rfl | (intro u hu; simp at hu; subst hu; rfl)
        case c3 => first | omega | (unfold maxLen; omega)
        case c4 => omega
        case c5 => first | omega | (simp; omega)
        intro v' w5 hown' hg _
        have M5 := Lib.hid (M4.out.app (x := x.id) hown' hg)
        clear hown' hg hown d0 d1
        go_wp2_with fail
        refine ⟨⟨k + 1, by omega, congrArg _ (by omega), Lib.hid ?_⟩, by simp only [intOf]; omega⟩
        rw [HB.out]
        exact M5.out
      · have HB : Hid (((R.take (k + 1)).filter (isCut R L)).map Rt.id = Xs) := Lib.hid (by rw [HK.out, HC.out, decide_eq_false hlt2]; simp)
        go_wp2_with fail
        refine ⟨⟨k + 1, by omega, congrArg _ (by omega), Lib.hid ?_⟩, by simp only [intOf]; omega⟩
        rw [HB.out]
        exact M4.out
    · obtain rfl : k = R.length := by omega
      go_wp2_with fail
      go_ret
      have hM := M.out
      rw [List.take_length, HH2.out] at hM
      exact hM.ret
end Go.Proofs.Ytiencdgmnkphjaa

/- The laws of topology: the example. -/
namespace Go.Proofs.Ytiencdgmnkphjaa
open Go.RowKit Bs
def exR : List Rt := [⟨1, false⟩, ⟨2, false⟩, ⟨3, false⟩, ⟨4, false⟩]
def exL : List Lk := [⟨1, 2, 1, 1, 0⟩, ⟨2, 3, 1, 1, 0⟩, ⟨2, 4, 1, 1, 0⟩, ⟨3, 4, 1, 1, 0⟩]
set_option maxRecDepth 100000 in
theorem ex_bri : bridges exR exL = [⟨1, 2⟩] := by kernel_rfl
set_option maxRecDepth 100000 in
theorem ex_cut : cuts exR exL = [2] := by kernel_rfl
set_option maxRecDepth 100000 in
theorem ex_chk : chk exR exL = 0 := by kernel_rfl
theorem rdf_row {w : World} {g : Nat} {t : TypeId} {n c : Nat} {xs : List Value} (h : w.heap[g]? = some (.cells xs.toArray t (0, 0))) : RdF w (· = g) (.slice (some ⟨g, 0, none⟩) n c) n xs :=
  ⟨some ⟨g, 0, none⟩, c, rfl, fun _ => ⟨g, 0, rfl, rfl, fun i x hi => by
    rw [cell_of_row _ _ _ _ _ _ h, Nat.zero_add]
    simpa using hi⟩⟩
set_option maxRecDepth 100000 in
set_option maxHeartbeats 3200000 in
theorem ex_any (w : World) : Calls Try.prog 65 #[] w fun e w' => TWPost exR exL w e w' := by
  go_enter Try.func65, Try.ntmps65
  go_upto_region 1 with fail
  go_wp2_with fail
  obtain ⟨wb, hwb, b1, b2, b3, b4, b5⟩ := boxes3 w #[.slice (some ⟨w.heap.size + 1, 0, none⟩) 4 4, .slice (some ⟨w.heap.size + 1 + 1, 0, none⟩) 4 4] (exR.flatMap rtC).toArray (exL.flatMap lkC).toArray 26 73 68
  subst hwb
  refine bodyPost_ret (res_topo rfl _ _ w.heap.size _ _ rfl b1) rfl ?_
  refine ⟨some ⟨w.heap.size + 1, 0, none⟩, 4, some ⟨w.heap.size + 1 + 1, 0, none⟩, 4, rfl, ⟨(rdf_row b2).mono (fun b hb => ?_), (rdf_row b3).mono (fun b hb => ?_), ⟨(by decide : 4 ≤ 4), (by decide : 4 ≤ 9223372036854775807)⟩, (by decide : 4 ≤ 4), (by decide : 4 ≤ 9223372036854775807)⟩, b4⟩
  · subst hb; show w.heap.size ≤ w.heap.size + 1; omega
  · subst hb; show w.heap.size ≤ w.heap.size + 2; omega
set_option maxRecDepth 100000 in
set_option maxHeartbeats 1600000 in
theorem rints_any (r : List Int) (p1 p2 : Option Addr) (c1 c2 : Nat) (q1 q2 : Nat → Prop) (w : World) (h1 : Rd w q1 (.slice p1 r.length c1) (r.map tv)) (h2 : Rd w q2 (.slice p2 r.length c2) (r.map tv)) (hm : r.length ≤ 9223372036854775807) :
    Calls Try.prog 24 #[.slice p1 r.length c1, .slice p2 r.length c2] w fun e w' => e = .returned (.bool true) ∧ w.grownBy w' none := by
  have H := Lib.hid (And.intro h1 h2)
  clear h1 h2
  go_enter Try.func24, Try.ntmps24
  go_wp2_with fail
  go_loopw [5] (fun a wr => ∃ k : Nat, k ≤ r.length ∧ a = .int .i64 (k : Int) ∧ w.grownBy wr none) (fun a _ => r.length - (intOf a).toNat)
  case atStart => exact ⟨0, Nat.zero_le _, rfl, grown_refl _ _⟩
  case round =>
    obtain ⟨k, hk, rfl, hG⟩ := hrel
    by_cases hlt : k < r.length
    · obtain ⟨-, b1, o1, rfl, _, hc1⟩ := rdi_at (H.out.1.keep hG) (by omega)
      obtain ⟨-, b2, o2, rfl, _, hc2⟩ := rdi_at (H.out.2.keep hG) (by omega)
      obtain ⟨y, hy⟩ : ∃ y, r[k]? = some y := ⟨_, List.getElem?_eq_getElem hlt⟩
      have e1 := hc1 k y hy
      have e2 := hc2 k y hy
      clear hy
      have HG := Lib.hid hG
      clear hc1 hc2 hG
      go_wp2_with fail
      go_region
      have HG2 := Lib.hid (grown_drew HG.out)
      clear HG e1 e2
      change Exit.then _ _ _ _ wr.drew
      generalize wr.drew = w2 at *
      go_wp2_with fail
      exact ⟨⟨k + 1, by omega, congrArg _ (by omega), HG2.out⟩, by simp only [intOf]; omega⟩
    · obtain rfl : k = r.length := by omega
      have HG := Lib.hid hG
      clear hG
      go_wp2_with fail
      go_ret
      exact ⟨rfl, HG.out⟩
set_option maxRecDepth 100000 in
set_option maxHeartbeats 6400000 in
theorem tawake_any (w : World) : Calls Try.prog 16 #[] w fun e w' => e = .returned (.bool true) ∧ w.grownBy w' none := by
  go_enter Try.func16, Try.ntmps16
  go_wp2_with fail
  refine (ex_any w).mono ?_
  rintro e w1 ⟨pR, cR, pL, cL, rfl, hT, hg⟩
  have HT := Lib.hid hT
  have G1 := Lib.hid hg
  clear hT hg
  go_wp2_with fail
  refine (tbri_any ⟨exR, exL, pR, cR, pL, cL⟩ _ w1 HT.out (fun _ => (show 4 ≤ 12 by decide))).mono ?_
  rw [show (Tg.mk exR exL pR cR pL cL).R = exR from rfl, show (Tg.mk exR exL pR cR pL cL).L = exL from rfl, ex_bri]
  rintro e w2 ⟨pB, cB, rfl, hH, hcB, hg⟩
  have G2 := Lib.hid (grown_trans G1.out hg)
  have HH := Lib.hid hH
  clear hH hg G1 HT
  obtain ⟨-, bH, oH, rfl, -, hcH⟩ := rdh_cells HH.out (by decide)
  obtain ⟨z0, z1⟩ := hcH 0 ⟨1, 2⟩ rfl
  simp only [Nat.zero_mul, Nat.add_zero] at z0 z1
  have HZ := Lib.hid (And.intro z0 z1)
  clear hcH z0 z1 HH
  go_wp2_with fail
  refine (ex_any w2).mono ?_
  rintro e w3 ⟨pR3, cR3, pL3, cL3, rfl, hT, hg⟩
  have HT := Lib.hid hT
  have G3 := Lib.hid hg
  clear hT hg
  go_wp2_with fail
  refine (tcheck_any ⟨exR, exL, pR3, cR3, pL3, cL3⟩ _ w3 HT.out).mono ?_
  rw [show (Tg.mk exR exL pR3 cR3 pL3 cL3).R = exR from rfl, show (Tg.mk exR exL pR3 cR3 pL3 cL3).L = exL from rfl, ex_chk]
  rintro e w4 ⟨rfl, hg⟩
  have G4 := Lib.hid (grown_trans G2.out (grown_trans G3.out hg))
  have z0 := (grown_trans G3.out hg).cell HZ.out.1 (by simp)
  have z1 := (grown_trans G3.out hg).cell HZ.out.2 (by simp)
  clear hg G3 G2 HT HZ
  go_wp2_with fail
  refine (ex_any w4).mono ?_
  rintro e w5 ⟨pR5, cR5, pL5, cL5, rfl, hT, hg⟩
  have HT := Lib.hid hT
  have G5 := Lib.hid (grown_trans G4.out hg)
  clear hT hg z0 z1 G4
  go_wp2_with fail
  refine (tcuts_any ⟨exR, exL, pR5, cR5, pL5, cL5⟩ _ w5 HT.out (fun _ => (show 4 ≤ 12 by decide))).mono ?_
  rw [show (Tg.mk exR exL pR5 cR5 pL5 cL5).R = exR from rfl, show (Tg.mk exR exL pR5 cR5 pL5 cL5).L = exL from rfl, ex_cut]
  rintro e w6 ⟨pX, cX, rfl, hX, -, -, hg⟩
  obtain ⟨k1, k2⟩ := tone_box w6 #[.int .i64 2] 3
  have G7 := Lib.hid (grown_trans G5.out (grown_trans hg k2))
  have HX := Lib.hid (hX.keep k2)
  have H1 : Hid (Rd (w6.alloc (.cells #[.int .i64 2] 3)) (fun _ => True) (.slice (some ⟨w6.heap.size, 0, none⟩) 1 1) ([(2 : Int)].map tv)) := Lib.hid ⟨some ⟨w6.heap.size, 0, none⟩, 1, rfl, fun _ => ⟨w6.heap.size, 0, rfl, trivial, fun i x hi => by
    match i, hi with
    | 0, hi =>
      obtain rfl : tv 2 = x := by simpa using hi
      rw [cell_of_row _ _ _ _ _ _ k1]; rfl⟩⟩
  clear hX hg k1 k2 HT G5
  go_wp2_with fail
  refine (rints_any [2] pX (some ⟨w6.heap.size, 0, none⟩) cX 1 _ _ _ HX.out H1.out (by decide)).mono ?_
  rintro e w8 ⟨rfl, hg⟩
  have G8 := Lib.hid (grown_trans G7.out hg)
  clear hg
  go_wp2_with fail
  go_ret
  exact ⟨rfl, G8.out⟩
end Go.Proofs.Ytiencdgmnkphjaa

/- Parts of the proof, packed: IdSeek, IdChk, IdFre, IdCon, IdLen, IdLay, IdSrt. -/
import Derived.Test.YtndfhgklhjfhkaaPn2
import Derived.Shelf.SlSortCmp.WholeK
import Derived.Shelf.SlSortCmp.NoneTotal
/- identify: IndexFunc, ContainsFunc and ascending at claims and at edges. -/
namespace Go.Proofs.Ytndfhgklhjfhkaa
open Go.RowKit Bs
set_option maxRecDepth 100000 in
theorem icmpe2_any (r s : Ed) (w : World) :
    Calls Try.prog 57 #[.agg #[.int .i64 r.r, .int .i64 r.i], .agg #[.int .i64 s.r, .int .i64 s.i]] w fun e w' => e = .returned (.int .i64 (cmpV r.i s.i)) ∧ w.grownBy w' none := by
  refine (icmpe_any r s w).mono ?_
  rintro e w' ⟨rfl, rfl⟩
  exact ⟨rfl, grown_trans (World.grownBy_alloc w _ _) (World.grownBy_alloc _ _ _)⟩
set_option maxRecDepth 100000 in
set_option maxHeartbeats 1600000 in
theorem iidxO_any (g : Nat) (lb : Array Value) (P : Od → Bool) (eg : EnterF g) (R : List Od) (p : Option Addr) (c : Nat) (q : Nat → Prop) (w : World) (hR : RdF w q (.slice p R.length c) R.length (R.flatMap odC)) (hm : R.length ≤ 9223372036854775807)
    (hP : ∀ (r : Od) (w' : World), w.grownBy w' none → Calls Try.prog g (#[.agg #[.int .i64 r.r, .int .i64 r.s, .int .i64 r.i, .int .i64 r.l]] ++ lb) w' fun e w2 => e = .returned (.bool (P r)) ∧ w'.grownBy w2 none) :
    Calls Try.prog 68 #[.slice p R.length c, .func (.func g) #[] lb] w fun e w' => ∃ i : Int, e = .returned (.int .i64 i) ∧ decide (0 ≤ i) = R.any P ∧ w.grownBy w' none := by
  have HR := Lib.hid hR
  have HP := Lib.hid hP
  clear hR hP
  go_enter Try.func68, Try.ntmps68
  go_wp2_with fail
  go_loopw [8] (fun a wr => ∃ k : Nat, k ≤ R.length ∧ a = .int .i64 (k : Int) ∧ Hid (w.grownBy wr none) ∧ Hid ((R.take k).any P = false)) (fun a _ => R.length - (RowKit.intOf a).toNat)
  case atStart => exact ⟨0, Nat.zero_le _, rfl, Lib.hid (grown_refl _ _), Lib.hid rfl⟩
  case round =>
    obtain ⟨k, hk, rfl, G, HN⟩ := hrel
    by_cases hlt : k < R.length
    · obtain ⟨-, b, off, rfl, hq, hc⟩ := od_cells (HR.out.keep G.out) (by omega)
      obtain ⟨x, hx⟩ : ∃ x, R[k]? = some x := ⟨_, List.getElem?_eq_getElem hlt⟩
      obtain ⟨a0, a1, a2, a3⟩ := hc k x hx
      have HX := Lib.hid hx
      clear hc hx
      have hcall := HP.out x wr G.out
      cases hp : P x
      · rw [hp] at hcall
        have HY := Lib.hid hp
        clear hp
        go_wp2_with (go_at_fn g; refine hcall.mono ?_; rintro e w' ⟨rfl, hg⟩; have HG := Lib.hid (grown_trans G.out hg); clear hg)
        exact ⟨⟨k + 1, by omega, congrArg _ (by omega), HG, Lib.hid (any_take HN.out HX.out HY.out)⟩, by simp only [RowKit.intOf]; omega⟩
      · rw [hp] at hcall
        have HY := Lib.hid hp
        clear hp
        go_wp2_with (go_at_fn g; refine hcall.mono ?_; rintro e w' ⟨rfl, hg⟩; have HG := Lib.hid (grown_trans G.out hg); clear hg)
        go_ret
        refine ⟨_, rfl, ?_, HG.out⟩
        rw [any_at HX.out HY.out, decide_eq_true_eq]; omega
    · obtain rfl : k = R.length := by omega
      go_wp2_with fail
      go_ret
      refine ⟨_, rfl, ?_, G.out⟩
      rw [any_end HN.out (Nat.le_refl _)]; decide
set_option maxRecDepth 100000 in
set_option maxHeartbeats 1600000 in
theorem icontO_any (g : Nat) (lb : Array Value) (P : Od → Bool) (eg : EnterF g) (R : List Od) (p : Option Addr) (c : Nat) (q : Nat → Prop) (w : World) (hR : RdF w q (.slice p R.length c) R.length (R.flatMap odC)) (hm : R.length ≤ 9223372036854775807)
    (hP : ∀ (r : Od) (w' : World), w.grownBy w' none → Calls Try.prog g (#[.agg #[.int .i64 r.r, .int .i64 r.s, .int .i64 r.i, .int .i64 r.l]] ++ lb) w' fun e w2 => e = .returned (.bool (P r)) ∧ w'.grownBy w2 none) :
    Calls Try.prog 46 #[.slice p R.length c, .func (.func g) #[] lb] w fun e w' => e = .returned (.bool (R.any P)) ∧ w.grownBy w' none := by
  have HR := Lib.hid hR
  have HP := Lib.hid hP
  clear hR hP
  go_enter Try.func46, Try.ntmps46
  go_wp2_with (go_at_call 68; refine (iidxO_any g lb P eg R p c q w HR.out hm HP.out).mono ?_; rintro e w' ⟨i, rfl, hi, hg⟩; have HI := Lib.hid (And.intro hi hg); clear hi hg)
  go_ret
  rw [← HI.out.1]
  exact ⟨rfl, HI.out.2⟩
set_option maxRecDepth 100000 in
theorem ascO_end {R : List Od} (h : ∀ i x y, i + 1 < R.length → R[i]? = some x → R[i + 1]? = some y → ltO x y = true) : ascB ltO R = true :=
  (ascB_iff _ _).2 fun i x y hx hy => h i x y ((List.getElem?_eq_some_iff.1 hy).1) hx hy
set_option maxRecDepth 100000 in
theorem ascO_hit {R : List Od} {i : Nat} {x y : Od} (hx : R[i]? = some x) (hy : R[i + 1]? = some y) (h : ltO x y = false) : ascB ltO R = false := by
  rw [Bool.eq_false_iff]
  intro h2
  have := (ascB_iff _ _).1 h2 i x y hx hy
  rw [h] at this; cases this
set_option maxRecDepth 100000 in
theorem ltO_of_ge {x y : Od} (h : 0 ≤ cmpO x y) : ltO x y = false := by
  exact cmpO_ge.1 h
set_option maxRecDepth 100000 in
theorem ltO_of_lt {x y : Od} (h : ¬ 0 ≤ cmpO x y) : ltO x y = true := by
  exact (by have : ¬ ltO x y = false := fun e => h (cmpO_ge.2 e); simpa using this)
set_option maxRecDepth 100000 in
theorem keepAO {wr w' : World} {b i j : Nat} {x y : Od} (h : wr.cell? ⟨b, i, none⟩ = some (.int .i64 x.r) ∧ wr.cell? ⟨b, i + 1, none⟩ = some (.int .i64 x.s) ∧ wr.cell? ⟨b, i + 2, none⟩ = some (.int .i64 x.i) ∧ wr.cell? ⟨b, i + 3, none⟩ = some (.int .i64 x.l) ∧ wr.cell? ⟨b, j, none⟩ = some (.int .i64 y.r) ∧ wr.cell? ⟨b, j + 1, none⟩ = some (.int .i64 y.s) ∧ wr.cell? ⟨b, j + 2, none⟩ = some (.int .i64 y.i) ∧ wr.cell? ⟨b, j + 3, none⟩ = some (.int .i64 y.l)) (hg : Hid (wr.grownBy w' none)) : w'.cell? ⟨b, i, none⟩ = some (.int .i64 x.r) ∧ w'.cell? ⟨b, i + 1, none⟩ = some (.int .i64 x.s) ∧ w'.cell? ⟨b, i + 2, none⟩ = some (.int .i64 x.i) ∧ w'.cell? ⟨b, i + 3, none⟩ = some (.int .i64 x.l) ∧ w'.cell? ⟨b, j, none⟩ = some (.int .i64 y.r) ∧ w'.cell? ⟨b, j + 1, none⟩ = some (.int .i64 y.s) ∧ w'.cell? ⟨b, j + 2, none⟩ = some (.int .i64 y.i) ∧ w'.cell? ⟨b, j + 3, none⟩ = some (.int .i64 y.l) ∧ Hid (wr.grownBy w' none) := by
  obtain ⟨h0, h1, h2, h3, h4, h5, h6, h7⟩ := h
  exact ⟨hg.out.cell h0 (by simp), hg.out.cell h1 (by simp), hg.out.cell h2 (by simp), hg.out.cell h3 (by simp), hg.out.cell h4 (by simp), hg.out.cell h5 (by simp), hg.out.cell h6 (by simp), hg.out.cell h7 (by simp), hg⟩
set_option maxRecDepth 100000 in
set_option maxHeartbeats 3200000 in
theorem iascO_any (R : List Od) (p : Option Addr) (c : Nat) (q : Nat → Prop) (w : World) (hR : RdF w q (.slice p R.length c) R.length (R.flatMap odC)) (hm : R.length ≤ 9223372036854775807) :
    Calls Try.prog 48 #[.slice p R.length c, .func (.func 49) #[] #[]] w fun e w' => e = .returned (.bool (ascB ltO R)) ∧ w.grownBy w' none := by
  have eg : EnterF 49 := enters_of Try.func49 (by kernel_rfl) rfl
  have HR := Lib.hid hR
  clear hR
  go_enter Try.func48, Try.ntmps48
  go_wp2_with fail
  go_loopw [5] (fun a wr => ∃ k : Nat, 1 ≤ k ∧ (k ≤ R.length ∨ k = 1) ∧ a = .int .i64 (k : Int) ∧ Hid (w.grownBy wr none) ∧ Hid (∀ i x y, i + 1 < k → R[i]? = some x → R[i + 1]? = some y → ltO x y = true)) (fun a _ => R.length - (RowKit.intOf a).toNat)
  case atStart => exact ⟨1, by omega, Or.inr rfl, rfl, Lib.hid (grown_refl _ _), Lib.hid (fun i x y h => by omega)⟩
  case round =>
    obtain ⟨k, hk1, hk, rfl, G, HN⟩ := hrel
    by_cases hlt : k < R.length
    · obtain ⟨j, rfl⟩ : ∃ j, k = j + 1 := ⟨k - 1, by omega⟩
      obtain ⟨-, b, off, rfl, hq, hc⟩ := od_cells (HR.out.keep G.out) (by omega)
      obtain ⟨x, hx⟩ : ∃ x, R[j]? = some x := ⟨_, List.getElem?_eq_getElem (by omega)⟩
      obtain ⟨y, hy⟩ : ∃ y, R[j + 1]? = some y := ⟨_, List.getElem?_eq_getElem hlt⟩
      obtain ⟨a0, a1, a2, a3⟩ := hc j x hx
      obtain ⟨b0, b1, b2, b3⟩ := hc (j + 1) y hy
      have HXY := Lib.hid (And.intro hx hy)
      have ew1 : ((j : Int) + 1 - 1) = (j : Int) := by omega
      have ew2 : IntKind.i64.wrap ((j : Int) + 1 - 1) = (j : Int) := by rw [ew1, IntWalk.i64_in _ (by omega)]
      have ew3 : IntKind.i64.wrap (j : Int) = (j : Int) := IntWalk.i64_in _ (by omega)
      have j0 : (0 : Int) ≤ (j : Int) := by omega
      have j1 : (0 : Int) ≤ (j : Int) + 1 := by omega
      have j2 : (j : Int) < (R.length : Int) := by omega
      have j3 : (j : Int) + 1 < (R.length : Int) := by omega
      have j4 : ((j : Int) + 1).toNat = j + 1 := by omega
      clear hc hx hy
      have hcast : ((j + 1 : Nat) : Int) = (j : Int) + 1 := by omega
      rw [hcast]
      have HF := Lib.hid (show wr.cell? ⟨b, off + j * 4, none⟩ = some (.int .i64 x.r) ∧ wr.cell? ⟨b, off + j * 4 + 1, none⟩ = some (.int .i64 x.s) ∧ wr.cell? ⟨b, off + j * 4 + 2, none⟩ = some (.int .i64 x.i) ∧ wr.cell? ⟨b, off + j * 4 + 3, none⟩ = some (.int .i64 x.l) ∧ wr.cell? ⟨b, off + (j + 1) * 4, none⟩ = some (.int .i64 y.r) ∧ wr.cell? ⟨b, off + (j + 1) * 4 + 1, none⟩ = some (.int .i64 y.s) ∧ wr.cell? ⟨b, off + (j + 1) * 4 + 2, none⟩ = some (.int .i64 y.i) ∧ wr.cell? ⟨b, off + (j + 1) * 4 + 3, none⟩ = some (.int .i64 y.l) from ⟨a0, a1, a2, a3, b0, b1, b2, b3⟩)
      have GZ : Hid (wr.grownBy wr none) := Lib.hid (grown_refl _ _)
      go_upto_region 4 with fail
      cases hlt2 : ltO x y
      · have hge : 0 ≤ cmpO x y := by
          by_cases h : 0 ≤ cmpO x y
          · exact h
          · rw [ltO_of_lt h] at hlt2; cases hlt2
        have HL := Lib.hid hlt2
        clear hlt2
        go_region_held3 (fun w' => w'.cell? ⟨b, off + j * 4, none⟩ = some (.int .i64 x.r) ∧ w'.cell? ⟨b, off + j * 4 + 1, none⟩ = some (.int .i64 x.s) ∧ w'.cell? ⟨b, off + j * 4 + 2, none⟩ = some (.int .i64 x.i) ∧ w'.cell? ⟨b, off + j * 4 + 3, none⟩ = some (.int .i64 x.l) ∧ w'.cell? ⟨b, off + (j + 1) * 4, none⟩ = some (.int .i64 y.r) ∧ w'.cell? ⟨b, off + (j + 1) * 4 + 1, none⟩ = some (.int .i64 y.s) ∧ w'.cell? ⟨b, off + (j + 1) * 4 + 2, none⟩ = some (.int .i64 y.i) ∧ w'.cell? ⟨b, off + (j + 1) * 4 + 3, none⟩ = some (.int .i64 y.l) ∧ Hid (wr.grownBy w' none))
          (first | with_reducible exact keepAO HF.out (hid_drew GZ) | (with_reducible exact keepAO HF.out (hid_drew (hid_more GZ hg))) | (go_split_ands; with_reducible refine keepAO HF.out ?_; with_reducible assumption) | (go_split_ands; with_reducible refine keepAO HF.out (hid_more ?_ hg); with_reducible assumption))
          ((go_at_call 49; refine (icmpo_any x y _).mono ?_; rintro e w' ⟨rfl, hg⟩))
        all_goals
          go_split_ands
          go_wp2_with fail
          go_ret
          rw [ascO_hit HXY.out.1 HXY.out.2 HL.out]
          exact ⟨rfl, grown_trans G.out (Hid.out (by assumption))⟩
      · have hge : ¬ 0 ≤ cmpO x y := by
          intro h
          rw [ltO_of_ge h] at hlt2; cases hlt2
        have HL := Lib.hid hlt2
        clear hlt2
        go_region_held3 (fun w' => w'.cell? ⟨b, off + j * 4, none⟩ = some (.int .i64 x.r) ∧ w'.cell? ⟨b, off + j * 4 + 1, none⟩ = some (.int .i64 x.s) ∧ w'.cell? ⟨b, off + j * 4 + 2, none⟩ = some (.int .i64 x.i) ∧ w'.cell? ⟨b, off + j * 4 + 3, none⟩ = some (.int .i64 x.l) ∧ w'.cell? ⟨b, off + (j + 1) * 4, none⟩ = some (.int .i64 y.r) ∧ w'.cell? ⟨b, off + (j + 1) * 4 + 1, none⟩ = some (.int .i64 y.s) ∧ w'.cell? ⟨b, off + (j + 1) * 4 + 2, none⟩ = some (.int .i64 y.i) ∧ w'.cell? ⟨b, off + (j + 1) * 4 + 3, none⟩ = some (.int .i64 y.l) ∧ Hid (wr.grownBy w' none))
          (first | with_reducible exact keepAO HF.out (hid_drew GZ) | (with_reducible exact keepAO HF.out (hid_drew (hid_more GZ hg))) | (go_split_ands; with_reducible refine keepAO HF.out ?_; with_reducible assumption) | (go_split_ands; with_reducible refine keepAO HF.out (hid_more ?_ hg); with_reducible assumption))
          ((go_at_call 49; refine (icmpo_any x y _).mono ?_; rintro e w' ⟨rfl, hg⟩))
        all_goals
          go_split_ands
          have HGW := Lib.hid (grown_trans G.out (Hid.out (by assumption)))
          go_wp2_with fail
          refine ⟨⟨j + 1 + 1, by omega, Or.inl (by omega), congrArg _ (by omega), HGW, Lib.hid fun i x2 y2 hi hx2 hy2 => ?_⟩, by simp only [RowKit.intOf]; omega⟩
          by_cases hij : i = j
          · subst hij
            have e1 := HXY.out.1.symm.trans hx2
            have e2 := HXY.out.2.symm.trans hy2
            injection e1 with e1
            injection e2 with e2
            subst e1
            subst e2
            exact HL.out
          · exact HN.out i x2 y2 (by omega) hx2 hy2
    · have h1 : ¬ (k : Int) < (R.length : Int) := by omega
      go_wp2_with fail
      go_ret
      rw [ascO_end fun i x y hi hx hy => HN.out i x y (by omega) hx hy]
      exact ⟨rfl, G.out⟩
set_option maxRecDepth 100000 in
set_option maxHeartbeats 1600000 in
theorem iidxE_any (g : Nat) (lb : Array Value) (P : Ed → Bool) (eg : EnterF g) (R : List Ed) (p : Option Addr) (c : Nat) (q : Nat → Prop) (w : World) (hR : RdF w q (.slice p R.length c) R.length (R.flatMap edC)) (hm : R.length ≤ 9223372036854775807)
    (hP : ∀ (r : Ed) (w' : World), w.grownBy w' none → Calls Try.prog g (#[.agg #[.int .i64 r.r, .int .i64 r.i]] ++ lb) w' fun e w2 => e = .returned (.bool (P r)) ∧ w'.grownBy w2 none) :
    Calls Try.prog 72 #[.slice p R.length c, .func (.func g) #[] lb] w fun e w' => ∃ i : Int, e = .returned (.int .i64 i) ∧ decide (0 ≤ i) = R.any P ∧ w.grownBy w' none := by
  have HR := Lib.hid hR
  have HP := Lib.hid hP
  clear hR hP
  go_enter Try.func72, Try.ntmps72
  go_wp2_with fail
  go_loopw [8] (fun a wr => ∃ k : Nat, k ≤ R.length ∧ a = .int .i64 (k : Int) ∧ Hid (w.grownBy wr none) ∧ Hid ((R.take k).any P = false)) (fun a _ => R.length - (RowKit.intOf a).toNat)
  case atStart => exact ⟨0, Nat.zero_le _, rfl, Lib.hid (grown_refl _ _), Lib.hid rfl⟩
  case round =>
    obtain ⟨k, hk, rfl, G, HN⟩ := hrel
    by_cases hlt : k < R.length
    · obtain ⟨-, b, off, rfl, hq, hc⟩ := ed_cells (HR.out.keep G.out) (by omega)
      obtain ⟨x, hx⟩ : ∃ x, R[k]? = some x := ⟨_, List.getElem?_eq_getElem hlt⟩
      obtain ⟨a0, a1⟩ := hc k x hx
      have HX := Lib.hid hx
      clear hc hx
      have hcall := HP.out x wr G.out
      cases hp : P x
      · rw [hp] at hcall
        have HY := Lib.hid hp
        clear hp
        go_wp2_with (go_at_fn g; refine hcall.mono ?_; rintro e w' ⟨rfl, hg⟩; have HG := Lib.hid (grown_trans G.out hg); clear hg)
        exact ⟨⟨k + 1, by omega, congrArg _ (by omega), HG, Lib.hid (any_take HN.out HX.out HY.out)⟩, by simp only [RowKit.intOf]; omega⟩
      · rw [hp] at hcall
        have HY := Lib.hid hp
        clear hp
        go_wp2_with (go_at_fn g; refine hcall.mono ?_; rintro e w' ⟨rfl, hg⟩; have HG := Lib.hid (grown_trans G.out hg); clear hg)
        go_ret
        refine ⟨_, rfl, ?_, HG.out⟩
        rw [any_at HX.out HY.out, decide_eq_true_eq]; omega
    · obtain rfl : k = R.length := by omega
      go_wp2_with fail
      go_ret
      refine ⟨_, rfl, ?_, G.out⟩
      rw [any_end HN.out (Nat.le_refl _)]; decide
set_option maxRecDepth 100000 in
set_option maxHeartbeats 1600000 in
theorem icontE_any (g : Nat) (lb : Array Value) (P : Ed → Bool) (eg : EnterF g) (R : List Ed) (p : Option Addr) (c : Nat) (q : Nat → Prop) (w : World) (hR : RdF w q (.slice p R.length c) R.length (R.flatMap edC)) (hm : R.length ≤ 9223372036854775807)
    (hP : ∀ (r : Ed) (w' : World), w.grownBy w' none → Calls Try.prog g (#[.agg #[.int .i64 r.r, .int .i64 r.i]] ++ lb) w' fun e w2 => e = .returned (.bool (P r)) ∧ w'.grownBy w2 none) :
    Calls Try.prog 54 #[.slice p R.length c, .func (.func g) #[] lb] w fun e w' => e = .returned (.bool (R.any P)) ∧ w.grownBy w' none := by
  have HR := Lib.hid hR
  have HP := Lib.hid hP
  clear hR hP
  go_enter Try.func54, Try.ntmps54
  go_wp2_with (go_at_call 72; refine (iidxE_any g lb P eg R p c q w HR.out hm HP.out).mono ?_; rintro e w' ⟨i, rfl, hi, hg⟩; have HI := Lib.hid (And.intro hi hg); clear hi hg)
  go_ret
  rw [← HI.out.1]
  exact ⟨rfl, HI.out.2⟩
set_option maxRecDepth 100000 in
theorem ascE_end {R : List Ed} (h : ∀ i x y, i + 1 < R.length → R[i]? = some x → R[i + 1]? = some y → ltE x y = true) : ascB ltE R = true :=
  (ascB_iff _ _).2 fun i x y hx hy => h i x y ((List.getElem?_eq_some_iff.1 hy).1) hx hy
set_option maxRecDepth 100000 in
theorem ascE_hit {R : List Ed} {i : Nat} {x y : Ed} (hx : R[i]? = some x) (hy : R[i + 1]? = some y) (h : ltE x y = false) : ascB ltE R = false := by
  rw [Bool.eq_false_iff]
  intro h2
  have := (ascB_iff _ _).1 h2 i x y hx hy
  rw [h] at this; cases this
set_option maxRecDepth 100000 in
theorem ltE_of_ge {x y : Ed} (h : 0 ≤ cmpV x.i y.i) : ltE x y = false := by
  exact (by have := cmpV_ge.1 h; unfold ltE; rw [decide_eq_false_iff_not]; omega)
set_option maxRecDepth 100000 in
theorem ltE_of_lt {x y : Ed} (h : ¬ 0 ≤ cmpV x.i y.i) : ltE x y = true := by
  exact (by have : ¬ y.i ≤ x.i := fun e => h (cmpV_ge.2 e); unfold ltE; rw [decide_eq_true_eq]; omega)
set_option maxRecDepth 100000 in
theorem keepAE {wr w' : World} {b i j : Nat} {x y : Ed} (h : wr.cell? ⟨b, i, none⟩ = some (.int .i64 x.r) ∧ wr.cell? ⟨b, i + 1, none⟩ = some (.int .i64 x.i) ∧ wr.cell? ⟨b, j, none⟩ = some (.int .i64 y.r) ∧ wr.cell? ⟨b, j + 1, none⟩ = some (.int .i64 y.i)) (hg : Hid (wr.grownBy w' none)) : w'.cell? ⟨b, i, none⟩ = some (.int .i64 x.r) ∧ w'.cell? ⟨b, i + 1, none⟩ = some (.int .i64 x.i) ∧ w'.cell? ⟨b, j, none⟩ = some (.int .i64 y.r) ∧ w'.cell? ⟨b, j + 1, none⟩ = some (.int .i64 y.i) ∧ Hid (wr.grownBy w' none) := by
  obtain ⟨h0, h1, h2, h3⟩ := h
  exact ⟨hg.out.cell h0 (by simp), hg.out.cell h1 (by simp), hg.out.cell h2 (by simp), hg.out.cell h3 (by simp), hg⟩
set_option maxRecDepth 100000 in
set_option maxHeartbeats 3200000 in
theorem iascE_any (R : List Ed) (p : Option Addr) (c : Nat) (q : Nat → Prop) (w : World) (hR : RdF w q (.slice p R.length c) R.length (R.flatMap edC)) (hm : R.length ≤ 9223372036854775807) :
    Calls Try.prog 56 #[.slice p R.length c, .func (.func 57) #[] #[]] w fun e w' => e = .returned (.bool (ascB ltE R)) ∧ w.grownBy w' none := by
  have eg : EnterF 57 := enters_of Try.func57 (by kernel_rfl) rfl
  have HR := Lib.hid hR
  clear hR
  go_enter Try.func56, Try.ntmps56
  go_wp2_with fail
  go_loopw [5] (fun a wr => ∃ k : Nat, 1 ≤ k ∧ (k ≤ R.length ∨ k = 1) ∧ a = .int .i64 (k : Int) ∧ Hid (w.grownBy wr none) ∧ Hid (∀ i x y, i + 1 < k → R[i]? = some x → R[i + 1]? = some y → ltE x y = true)) (fun a _ => R.length - (RowKit.intOf a).toNat)
  case atStart => exact ⟨1, by omega, Or.inr rfl, rfl, Lib.hid (grown_refl _ _), Lib.hid (fun i x y h => by omega)⟩
  case round =>
    obtain ⟨k, hk1, hk, rfl, G, HN⟩ := hrel
    by_cases hlt : k < R.length
    · obtain ⟨j, rfl⟩ : ∃ j, k = j + 1 := ⟨k - 1, by omega⟩
      obtain ⟨-, b, off, rfl, hq, hc⟩ := ed_cells (HR.out.keep G.out) (by omega)
      obtain ⟨x, hx⟩ : ∃ x, R[j]? = some x := ⟨_, List.getElem?_eq_getElem (by omega)⟩
      obtain ⟨y, hy⟩ : ∃ y, R[j + 1]? = some y := ⟨_, List.getElem?_eq_getElem hlt⟩
      obtain ⟨a0, a1⟩ := hc j x hx
      obtain ⟨b0, b1⟩ := hc (j + 1) y hy
      have HXY := Lib.hid (And.intro hx hy)
      have ew1 : ((j : Int) + 1 - 1) = (j : Int) := by omega
      have ew2 : IntKind.i64.wrap ((j : Int) + 1 - 1) = (j : Int) := by rw [ew1, IntWalk.i64_in _ (by omega)]
      have ew3 : IntKind.i64.wrap (j : Int) = (j : Int) := IntWalk.i64_in _ (by omega)
      have j0 : (0 : Int) ≤ (j : Int) := by omega
      have j1 : (0 : Int) ≤ (j : Int) + 1 := by omega
      have j2 : (j : Int) < (R.length : Int) := by omega
      have j3 : (j : Int) + 1 < (R.length : Int) := by omega
      have j4 : ((j : Int) + 1).toNat = j + 1 := by omega
      clear hc hx hy
      have hcast : ((j + 1 : Nat) : Int) = (j : Int) + 1 := by omega
      rw [hcast]
      have HF := Lib.hid (show wr.cell? ⟨b, off + j * 2, none⟩ = some (.int .i64 x.r) ∧ wr.cell? ⟨b, off + j * 2 + 1, none⟩ = some (.int .i64 x.i) ∧ wr.cell? ⟨b, off + (j + 1) * 2, none⟩ = some (.int .i64 y.r) ∧ wr.cell? ⟨b, off + (j + 1) * 2 + 1, none⟩ = some (.int .i64 y.i) from ⟨a0, a1, b0, b1⟩)
      have GZ : Hid (wr.grownBy wr none) := Lib.hid (grown_refl _ _)
      go_upto_region 4 with fail
      cases hlt2 : ltE x y
      · have hge : 0 ≤ cmpV x.i y.i := by
          by_cases h : 0 ≤ cmpV x.i y.i
          · exact h
          · rw [ltE_of_lt h] at hlt2; cases hlt2
        have HL := Lib.hid hlt2
        clear hlt2
        go_region_held3 (fun w' => w'.cell? ⟨b, off + j * 2, none⟩ = some (.int .i64 x.r) ∧ w'.cell? ⟨b, off + j * 2 + 1, none⟩ = some (.int .i64 x.i) ∧ w'.cell? ⟨b, off + (j + 1) * 2, none⟩ = some (.int .i64 y.r) ∧ w'.cell? ⟨b, off + (j + 1) * 2 + 1, none⟩ = some (.int .i64 y.i) ∧ Hid (wr.grownBy w' none))
          (first | with_reducible exact keepAE HF.out (hid_drew GZ) | (with_reducible exact keepAE HF.out (hid_drew (hid_more GZ hg))) | (go_split_ands; with_reducible refine keepAE HF.out ?_; with_reducible assumption) | (go_split_ands; with_reducible refine keepAE HF.out (hid_more ?_ hg); with_reducible assumption))
          ((go_at_call 57; refine (icmpe2_any x y _).mono ?_; rintro e w' ⟨rfl, hg⟩))
        all_goals
          go_split_ands
          go_wp2_with fail
          go_ret
          rw [ascE_hit HXY.out.1 HXY.out.2 HL.out]
          exact ⟨rfl, grown_trans G.out (Hid.out (by assumption))⟩
      · have hge : ¬ 0 ≤ cmpV x.i y.i := by
          intro h
          rw [ltE_of_ge h] at hlt2; cases hlt2
        have HL := Lib.hid hlt2
        clear hlt2
        go_region_held3 (fun w' => w'.cell? ⟨b, off + j * 2, none⟩ = some (.int .i64 x.r) ∧ w'.cell? ⟨b, off + j * 2 + 1, none⟩ = some (.int .i64 x.i) ∧ w'.cell? ⟨b, off + (j + 1) * 2, none⟩ = some (.int .i64 y.r) ∧ w'.cell? ⟨b, off + (j + 1) * 2 + 1, none⟩ = some (.int .i64 y.i) ∧ Hid (wr.grownBy w' none))
          (first | with_reducible exact keepAE HF.out (hid_drew GZ) | (with_reducible exact keepAE HF.out (hid_drew (hid_more GZ hg))) | (go_split_ands; with_reducible refine keepAE HF.out ?_; with_reducible assumption) | (go_split_ands; with_reducible refine keepAE HF.out (hid_more ?_ hg); with_reducible assumption))
          ((go_at_call 57; refine (icmpe2_any x y _).mono ?_; rintro e w' ⟨rfl, hg⟩))
        all_goals
          go_split_ands
          have HGW := Lib.hid (grown_trans G.out (Hid.out (by assumption)))
          go_wp2_with fail
          refine ⟨⟨j + 1 + 1, by omega, Or.inl (by omega), congrArg _ (by omega), HGW, Lib.hid fun i x2 y2 hi hx2 hy2 => ?_⟩, by simp only [RowKit.intOf]; omega⟩
          by_cases hij : i = j
          · subst hij
            have e1 := HXY.out.1.symm.trans hx2
            have e2 := HXY.out.2.symm.trans hy2
            injection e1 with e1
            injection e2 with e2
            subst e1
            subst e2
            exact HL.out
          · exact HN.out i x2 y2 (by omega) hx2 hy2
    · have h1 : ¬ (k : Int) < (R.length : Int) := by omega
      go_wp2_with fail
      go_ret
      rw [ascE_end fun i x y hi hx hy => HN.out i x y (by omega) hx hy]
      exact ⟨rfl, G.out⟩
end Go.Proofs.Ytndfhgklhjfhkaa

/- identify: Check. -/
namespace Go.Proofs.Ytndfhgklhjfhkaa
open Go.RowKit Bs
set_option maxRecDepth 100000 in
set_option maxHeartbeats 3200000 in
theorem icheck_any (l : List Od) (p : Option Addr) (c : Nat) (q : Nat → Prop) (w : World) (hR : RdF w q (.slice p l.length c) l.length (l.flatMap odC)) (hm : l.length ≤ 9223372036854775807) :
    Calls Try.prog 15 #[.slice p l.length c] w fun e w' => e = .returned (.int .i64 (ckO l)) ∧ w.grownBy w' none := by
  have HR := Lib.hid hR
  have e1 : EnterF 47 := enters_of Try.func47 (by kernel_rfl) rfl
  have E1 := Lib.hid e1
  clear hR e1
  go_enter Try.func15, Try.ntmps15
  by_cases h1 : 192 < l.length
  · have h1' : (192 : Int) < (l.length : Int) := by omega
    go_wp2_with fail
    go_ret
    exact ⟨by unfold ckO; rw [if_pos h1]; rfl, grown_refl _ _⟩
  have h1' : ¬ (192 : Int) < (l.length : Int) := by omega
  go_wp2_with fail
  refine (icontO_any 47 #[] wrO E1.out l p c _ w HR.out hm (fun r w' _ => iwrc_any r w')).mono ?_
  rintro e w1 ⟨rfl, hg⟩
  have G1 := Lib.hid hg
  clear hg
  cases f1 : l.any wrO
  case true =>
    have F1 := Lib.hid f1
    clear f1
    go_wp2_with fail
    go_ret
    exact ⟨by unfold ckO; rw [if_neg h1, F1.out]; rfl, G1.out⟩
  have F1 := Lib.hid f1
  clear f1
  go_wp2_with fail
  refine (iascO_any l p c _ w1 (HR.out.keep G1.out) hm).mono ?_
  rintro e w2 ⟨rfl, hg⟩
  have G2 := Lib.hid (grown_trans G1.out hg)
  clear hg
  cases f2 : ascB ltO l
  case false =>
    have F2 := Lib.hid f2
    clear f2
    go_wp2_with fail
    go_ret
    exact ⟨by unfold ckO; rw [if_neg h1, F1.out, F2.out]; rfl, G2.out⟩
  have F2 := Lib.hid f2
  clear f2
  go_wp2_with fail
  go_ret
  exact ⟨by unfold ckO; rw [if_neg h1, F1.out, F2.out]; rfl, G2.out⟩
end Go.Proofs.Ytndfhgklhjfhkaa

/- identify: free. -/
namespace Go.Proofs.Ytndfhgklhjfhkaa
open Go.RowKit Bs
set_option maxRecDepth 100000 in
set_option maxHeartbeats 3200000 in
theorem ifree_any (f : Nat → Nat) (w : World) :
    Calls Try.prog 61 #[.agg (arrV 257 (ivN f))] w fun e w' => ∃ n ok, e = .returned (.tuple #[.int .i64 n, .bool ok]) ∧ FreeIs f n ok ∧ w.grownBy w' none := by
  obtain ⟨k1, k2⟩ := tone_box w (arrV 257 (ivN f)) 92
  have HB := Lib.hid k1
  have K := Lib.hid k2
  clear k1 k2
  go_enter Try.func61, Try.ntmps61
  go_upto_region 1 with fail
  generalize w.alloc _ = wa at *
  go_wp2_with fail
  go_loopw [4] (fun a wr => ∃ k : Nat, 1 ≤ k ∧ k ≤ 257 ∧ a = .int .i64 (k : Int) ∧ wr = wa ∧ Hid (∀ j : Nat, 1 ≤ j → j < k → f j ≠ 0)) (fun a _ => 257 - (RowKit.intOf a).toNat)
  case atStart => exact ⟨1, Nat.le_refl _, by omega, rfl, rfl, Lib.hid (fun j h1 h2 => by omega)⟩
  case round =>
    obtain ⟨k, hk1, hk, rfl, rfl, HN⟩ := hrel
    by_cases hlt : k ≤ 256
    · obtain ⟨n, hn⟩ : ∃ n, f k = n := ⟨_, rfl⟩
      have hc := arr_row HB.out (show k < 257 by omega)
      unfold ivN at hc
      rw [hn] at hc
      have h3 : (k : Int) ≤ 256 := by omega
      have HF := Lib.hid hn
      clear hn
      by_cases h0 : n = 0
      · subst h0
        go_wp2_with fail
        go_ret2
        refine ⟨_, _, rfl, Or.inl ⟨rfl, by omega, by omega, by rw [Int.toNat_natCast]; exact HF.out, fun j h1 h2 => HN.out j h1 (by omega)⟩, K.out⟩
      · have h4 : ((n : Int) == 0) = false := by simpa using h0
        have HN2 : Hid (∀ j : Nat, 1 ≤ j → j < k + 1 → f j ≠ 0) := Lib.hid (fun j h1 h2 => by
          by_cases hj : j = k
          · subst hj; rw [HF.out]; exact h0
          · exact HN.out j h1 (by omega))
        go_wp2_with fail
        exact ⟨⟨k + 1, by omega, by omega, congrArg _ (by omega), (by first | rfl | trivial), HN2⟩, by simp only [RowKit.intOf]; omega⟩
    · obtain rfl : k = 257 := by omega
      go_wp2_with fail
      go_ret2
      exact ⟨_, _, rfl, Or.inr ⟨rfl, rfl, fun j h1 h2 => HN.out j h1 (by omega)⟩, K.out⟩
end Go.Proofs.Ytndfhgklhjfhkaa

/- identify: Conflicts, Length, Free. -/
namespace Go.Proofs.Ytndfhgklhjfhkaa
open Go.RowKit Bs
def ivC (z : Int) : List Value := [.int .i64 z]
set_option maxRecDepth 100000 in
theorem ivC_one (z : Int) : ∀ u ∈ ivC z, u.oneCell' = true := by
  intro u hu
  simp [ivC] at hu
  subst hu
  rfl
/-- A row of numbers that grows, in memory of the call's own. -/
structure RI (W : World) (v : Value) (M : List Int) (w : World) : Prop where
  own : w.ownsRow W.heap.size 3 1 v M.length (M.flatMap ivC)
  gr : W.grownBy w none
set_option maxRecDepth 100000 in
theorem RI.start {W w : World} (g : W.grownBy w none) : RI W (.slice none 0 0) [] w := ⟨World.ownsRow_nil _ _ _ _, g⟩
set_option maxRecDepth 100000 in
theorem RI.keep {W w w1 : World} {v : Value} {M : List Int} (h : RI W v M w) (g : w.grownBy w1 none) : RI W v M w1 := ⟨h.own.kept g (by cases v.ownBlock <;> simp), grown_trans h.gr g⟩
set_option maxRecDepth 100000 in
theorem RI.app {W w w1 : World} {o : Obj} {v v' : Value} {M N : List Int} (h : RI W v M w) (hown : w1.ownsRow W.heap.size 3 1 v' N.length (N.flatMap ivC)) (hg : (w.alloc o).grownBy w1 v.ownBlock) : RI W v' N w1 := ⟨hown, own_step h.gr h.own hg⟩
set_option maxRecDepth 100000 in
theorem flat_iv : ∀ X : List Int, X.flatMap ivC = X.map (fun z => Value.int .i64 z)
  | [] => rfl
  | a :: t => by rw [List.flatMap_cons, flat_iv t]; rfl
set_option maxRecDepth 100000 in
theorem RI.rd {W w : World} {v : Value} {M : List Int} (h : RI W v M w) : Rd w (W.heap.size ≤ ·) v (M.map fun z => Value.int .i64 z) := by
  have := h.own
  rw [flat_iv] at this
  exact rd_of_own this
set_option maxRecDepth 100000 in
theorem cfK_len (l : List Od) (sub : Int) (n : Nat) : (cfK l sub n).length ≤ n := by
  unfold cfK
  refine Nat.le_trans (List.length_filter_le _ _) ?_
  unfold idr
  simp
set_option maxRecDepth 100000 in
theorem iv_row (w : World) (z : Int) (t : TypeId) (j : Nat) (u : Value) (hu : ([z].flatMap ivC)[j]? = some u) : (w.alloc (.cells #[.int .i64 z] t)).cell? ((⟨w.heap.size, 0, none⟩ : Addr).add j) = some u :=
  cell_one w (.int .i64 z) t j u (by simpa [ivC] using hu)
set_option maxRecDepth 100000 in
theorem idx_run {F : Array Value} {k : Nat} {v : Value} (hk : k < 257) (h : F[k]? = some v) (w : World) : (Instr.index 92 (.agg F) (.int .i64 (k : Int))).run Try.prog w = .ok v w := by
  have hu := Try.underlying92
  have hi := Try.underlying3
  have hs := (zero_of_info (P := Try.prog) (t := 3) (v := .int .i64 0) (n := 1) (by kernel_rfl)).2
  cases hq : Try.prog.info? 3 with
  | none => simp [hq] at hs
  | some i =>
    simp [hq] at hs
    simp [Instr.index, asIntOf, underlying, hu, part, isAgg, hi, sizeOf, typeInfo, hq, hs, h, Result.andThen]
    omega
set_option maxRecDepth 100000 in
set_option maxHeartbeats 6400000 in
theorem iconf_any (l : List Od) (p : Option Addr) (c : Nat) (sub : Int) (q : Nat → Prop) (w : World) (hR : RdF w q (.slice p l.length c) l.length (l.flatMap odC)) (hm : l.length ≤ 9223372036854775807) :
    Calls Try.prog 23 #[.slice p l.length c, .int .i64 sub] w fun e w' => ∃ v, e = .returned v ∧ RI w v (cfO l sub) w' := by
  have HR := Lib.hid hR
  clear hR
  obtain ⟨ii, hi, hi0, hi1, hi2⟩ := info_parts info_int
  go_enter Try.func23, Try.ntmps23
  go_wp2_with fail
  refine (icheck_any l p c _ w HR.out hm).mono ?_
  rintro e w1 ⟨rfl, hg⟩
  have G1 := Lib.hid hg
  clear hg
  by_cases h0 : ckO l = 0
  case neg =>
    have h0' : (ckO l != 0) = true := by simpa using h0
    have HC : Hid (cfO l sub = []) := Lib.hid (if_neg h0)
    clear h0
    go_wp2_with fail
    go_ret
    rw [HC.out]
    exact ⟨_, rfl, RI.start G1.out⟩
  have HC : Hid (cfO l sub = cfK l sub 257) := Lib.hid (if_pos h0)
  obtain ⟨hl, -, -⟩ := ck_any h0
  have H0 := Lib.hid h0
  rw [h0]
  clear h0
  go_wp2_with fail
  refine (icount_any l p c sub _ w1 (HR.out.keep G1.out) (by omega) (fun x hx => ck_id H0.out hx)).mono ?_
  rintro e w2 ⟨rfl, hg⟩
  have G2 := Lib.hid (grown_trans G1.out hg)
  clear hg
  obtain ⟨F, hF⟩ : ∃ F, arrV 257 (ivN fun k => cnt l sub k) = F := ⟨_, rfl⟩
  have FA : Hid (∀ k, k < 257 → F[k]? = some (.int .i64 (cnt l sub k : Int))) := Lib.hid (fun k hk => by rw [← hF, arr_at _ hk]; rfl)
  rw [hF]
  clear hF
  have R0 : Hid (RI w (.slice none 0 0) (cfK l sub 0) w2) := Lib.hid (RI.start G2.out)
  clear G1 G2
  go_wp2_with fail
  go_loopw [5, 14] (fun v a wr => ∃ k : Nat, k ≤ 257 ∧ a = .int .i64 (k : Int) ∧ (∃ pv nv cv, v = .slice pv nv cv) ∧ Hid (RI w v (cfK l sub k) wr)) (fun _ a _ => 257 - (RowKit.intOf a).toNat)
  case atStart => exact ⟨0, by omega, rfl, ⟨_, _, _, rfl⟩, R0⟩
  case round =>
    obtain ⟨k, hk, rfl, ⟨pv, nv, cv, rfl⟩, N⟩ := hrel
    clear R0
    by_cases hlt : k < 257
    · have e1 := FA.out k hlt
      obtain ⟨n, hn⟩ : ∃ n, cnt l sub k = n := ⟨_, rfl⟩
      rw [hn] at e1
      have hix := idx_run hlt e1
      clear e1
      have hlt1 : (k : Int) < 257 := by omega
      have hlen := cfK_len l sub k
      have HY : Hid (1 < n → cfK l sub (k + 1) = cfK l sub k ++ [(k : Int)]) := Lib.hid (fun h => cfK_yes (by rw [hn]; exact h))
      have HN : Hid (¬ 1 < n → cfK l sub (k + 1) = cfK l sub k) := Lib.hid (fun h => cfK_no (by rw [hn]; exact h))
      obtain ⟨M, hM⟩ : ∃ M, cfK l sub k = M := ⟨_, rfl⟩
      rw [hM] at N HY HN hlen
      have hn2 : n ≤ 200 := by rw [← hn]; exact Nat.le_trans (cnt_le _ _ _) (by omega)
      clear hn hM
      obtain rfl : nv = M.length := by
        obtain ⟨p', c', e, _⟩ := own_shape N.out.own
        injection e
      have HO := Lib.hid N.out.own
      by_cases h1 : 1 < n
      · have h1' : (1 : Int) < (n : Int) := by omega
        have hbs : w.heap.size ≤ wr.heap.size := N.out.gr.size
        go_wp2_with (at_builtin; refine wpList_append_f ivC 1 8 (by decide) (fun _ => rfl) ivC_one 3 22 ii _ Try.underlying22 hi hi0 hi1 hi2 rfl (by decide) rfl _ _ rfl w.heap.size _ M _ ?c0 rfl (HO.out.alloc _) (some ⟨wr.heap.size, 0, none⟩) 1 1 [(k : Int)] rfl rfl (by simp) (fun _ => True) (rdf_one _ trivial (fun j u hu => iv_row _ _ _ _ _ hu) 1) (by decide) (by simp; omega) (by simp; omega) ?_)
        try (case c0 => rfl)
        intro v' w3 hown' hg
        have N1 : Hid (RI w v' (cfK l sub (k + 1)) w3) := Lib.hid (by rw [HY.out h1]; exact N.out.app (by simpa using hown') hg)
        obtain ⟨p1, c1, rfl, -, -⟩ := own_shape hown'
        clear hown' hg HO
        go_wp2_with fail
        exact ⟨⟨k + 1, by omega, congrArg _ (by omega), ⟨_, _, _, rfl⟩, N1⟩, by simp only [RowKit.intOf]; omega⟩
      · have h1' : ¬ (1 : Int) < (n : Int) := by omega
        have N1 : Hid (RI w _ (cfK l sub (k + 1)) wr) := Lib.hid (by rw [HN.out h1]; exact N.out)
        go_wp2_with fail
        exact ⟨⟨k + 1, by omega, congrArg _ (by omega), ⟨_, _, _, rfl⟩, N1⟩, by simp only [RowKit.intOf]; omega⟩
    · obtain rfl : k = 257 := by omega
      go_wp2_with fail
      go_ret
      rw [HC.out]
      exact ⟨_, rfl, N.out⟩
end Go.Proofs.Ytndfhgklhjfhkaa

/- identify: Length, Free. -/
namespace Go.Proofs.Ytndfhgklhjfhkaa
open Go.RowKit Bs
set_option maxRecDepth 100000 in
set_option maxHeartbeats 6400000 in
theorem ilen_any (l : List Od) (p : Option Addr) (c : Nat) (sub : Int) (q : Nat → Prop) (w : World) (hR : RdF w q (.slice p l.length c) l.length (l.flatMap odC)) (hm : l.length ≤ 9223372036854775807) :
    Calls Try.prog 25 #[.slice p l.length c, .int .i64 sub] w fun e w' => e = .returned (.int .i64 (lnO l sub)) ∧ w.grownBy w' none := by
  have HR := Lib.hid hR
  clear hR
  go_enter Try.func25, Try.ntmps25
  go_wp2_with fail
  refine (icheck_any l p c _ w HR.out hm).mono ?_
  rintro e w1 ⟨rfl, hg⟩
  have G1 := Lib.hid hg
  clear hg
  by_cases h0 : ckO l = 0
  case neg =>
    have h0' : (ckO l != 0) = true := by simpa using h0
    have HC : Hid (lnO l sub = 0) := Lib.hid (if_neg h0)
    clear h0
    go_wp2_with fail
    go_ret
    rw [HC.out]
    exact ⟨rfl, G1.out⟩
  have HC : Hid (lnO l sub = lnK l sub) := Lib.hid (if_pos h0)
  obtain ⟨hl, -, -⟩ := ck_any h0
  rw [h0]
  clear h0
  go_wp2_with fail
  go_loopw [5, 13] (fun v a wr => ∃ k : Nat, k ≤ l.length ∧ a = .int .i64 (k : Int) ∧ v = .int .i64 (lnK (l.take k) sub) ∧ Hid (w.grownBy wr none)) (fun _ a _ => l.length - (RowKit.intOf a).toNat)
  case atStart => exact ⟨0, by omega, rfl, rfl, G1⟩
  case round =>
    obtain ⟨w2, rfl⟩ : ∃ w2, w2 = wr := ⟨_, rfl⟩
    obtain ⟨k, hk, rfl, rfl, N⟩ := hrel
    clear G1
    by_cases hlt : k < l.length
    · obtain ⟨-, b, off, rfl, -, hc⟩ := od_cells (HR.out.keep N.out) (by omega)
      obtain ⟨x, hx⟩ : ∃ x, l[k]? = some x := ⟨_, List.getElem?_eq_getElem hlt⟩
      obtain ⟨a0, a1, a2, a3⟩ := hc k x hx
      have HS := Lib.hid (lnK_take hx sub)
      have HB := Lib.hid (heap_alloc_new w2 (.cells #[.int .i64 x.r, .int .i64 x.s, .int .i64 x.i, .int .i64 x.l] 62))
      have HG := Lib.hid (World.grownBy_alloc w2 (.cells #[.int .i64 x.r, .int .i64 x.s, .int .i64 x.i, .int .i64 x.l] 62) none)
      clear hc hx
      go_upto_region 7 with fail
      clear a0 a1 a2 a3
      generalize w2.alloc _ = w3 at *
      have N1 := Lib.hid (grown_trans N.out HG.out)
      obtain ⟨d0, d1, d2, d3⟩ := row4i HB.out
      obtain ⟨n, hn⟩ : ∃ n, lnK (l.take k) sub = n := ⟨_, rfl⟩
      rw [hn] at HS ⊢
      clear hn N HG
      by_cases h1 : x.s = sub
      · have h1' : (x.s == sub) = true := by simpa using h1
        by_cases h2 : n = 0
        · have h2' : (n == 0) = true := by simpa using h2
          have HE : Hid (lnK (l.take (k + 1)) sub = x.l) := Lib.hid (by rw [HS.out]; unfold lnS; rw [if_pos ⟨h1, Or.inl h2⟩])
          clear HS h1 h2
          go_wp2_with fail
          exact ⟨⟨k + 1, by omega, congrArg _ (by omega), by rw [HE.out], N1⟩, by simp only [RowKit.intOf]; omega⟩
        · have h2' : (n == 0) = false := by simpa using h2
          by_cases h3 : x.l < n
          · have HE : Hid (lnK (l.take (k + 1)) sub = x.l) := Lib.hid (by rw [HS.out]; unfold lnS; rw [if_pos ⟨h1, Or.inr h3⟩])
            clear HS h1 h2
            go_wp2_with fail
            exact ⟨⟨k + 1, by omega, congrArg _ (by omega), by rw [HE.out], N1⟩, by simp only [RowKit.intOf]; omega⟩
          · have HE : Hid (lnK (l.take (k + 1)) sub = n) := Lib.hid (by rw [HS.out]; unfold lnS; rw [if_neg (fun h => by have := h.2; omega)])
            clear HS h1 h2
            go_wp2_with fail
            exact ⟨⟨k + 1, by omega, congrArg _ (by omega), by rw [HE.out], N1⟩, by simp only [RowKit.intOf]; omega⟩
      · have h1' : (x.s == sub) = false := by simpa using h1
        have HE : Hid (lnK (l.take (k + 1)) sub = n) := Lib.hid (by rw [HS.out]; unfold lnS; rw [if_neg (fun h => h1 h.1)])
        clear HS h1
        go_wp2_with fail
        exact ⟨⟨k + 1, by omega, congrArg _ (by omega), by rw [HE.out], N1⟩, by simp only [RowKit.intOf]; omega⟩
    · obtain rfl : k = l.length := by omega
      have HE : Hid (lnK (l.take l.length) sub = lnK l sub) := Lib.hid (by rw [List.take_length])
      go_wp2_with fail
      go_ret
      rw [HC.out, HE.out]
      exact ⟨rfl, N.out⟩
end Go.Proofs.Ytndfhgklhjfhkaa

/- The library's contract on slices.SortFunc, laid at this program. -/
namespace Go.Proofs.Ytndfhgklhjfhkaa
open Go.Shelf
def sortE_ren : Go.Shelf.Ren := ⟨fun | 6 => 73 | 15 => 76 | 14 => 75 | 28 => 85 | 29 => 86 | 20 => 77 | 21 => 78 | 22 => 79 | 23 => 80 | 24 => 81 | 25 => 82 | 26 => 83 | 27 => 84 | 46 => 87 | 47 => 88 | 48 => 89 | 49 => 90 | 50 => 91 | 57 => 92 | n => n, fun | 22 => 24 | 24 => 54 | 25 => 89 | 3 => 3 | 39 => 106 | 0 => 0 | 53 => 115 | 55 => 117 | 4 => 4 | 46 => 109 | 45 => 108 | 50 => 43 | 5 => 5 | 9 => 9 | 66 => 118 | 70 => 122 | 76 => 124 | 77 => 125 | n => n, fun | n => n⟩
set_option maxRecDepth 100000 in
theorem sortE : Go.Proofs.SlLaysF0.n6 Try.prog sortE_ren where
  mixed := by kernel_rfl
  f6 := ⟨ "slices.SortFunc[[]bitcast/api.Edge,bitcast/api.Edge]", by decide, Try.func73.trans (congrArg some (by kernel_rfl))⟩
  f14 := ⟨ "slices.pdqsortCmpFunc[bitcast/api.Edge]", by decide, Try.func75.trans (congrArg some (by kernel_rfl))⟩
  f15 := Try.func76.trans (congrArg some (by kernel_rfl))
  f20 := ⟨ "slices.insertionSortCmpFunc[bitcast/api.Edge]", by decide, Try.func77.trans (congrArg some (by kernel_rfl))⟩
  f21 := ⟨ "slices.heapSortCmpFunc[bitcast/api.Edge]", by decide, Try.func78.trans (congrArg some (by kernel_rfl))⟩
  f22 := ⟨ "slices.breakPatternsCmpFunc[bitcast/api.Edge]", by decide, Try.func79.trans (congrArg some (by kernel_rfl))⟩
  f23 := ⟨ "slices.choosePivotCmpFunc[bitcast/api.Edge]", by decide, Try.func80.trans (congrArg some (by kernel_rfl))⟩
  f24 := ⟨ "slices.reverseRangeCmpFunc[bitcast/api.Edge]", by decide, Try.func81.trans (congrArg some (by kernel_rfl))⟩
  f25 := ⟨ "slices.partialInsertionSortCmpFunc[bitcast/api.Edge]", by decide, Try.func82.trans (congrArg some (by kernel_rfl))⟩
  f26 := ⟨ "slices.partitionEqualCmpFunc[bitcast/api.Edge]", by decide, Try.func83.trans (congrArg some (by kernel_rfl))⟩
  f27 := ⟨ "slices.partitionCmpFunc[bitcast/api.Edge]", by decide, Try.func84.trans (congrArg some (by kernel_rfl))⟩
  f28 := Try.func85.trans (congrArg some (by kernel_rfl))
  f29 := Try.func86.trans (congrArg some (by kernel_rfl))
  f46 := ⟨ "slices.siftDownCmpFunc[bitcast/api.Edge]", by decide, Try.func87.trans (congrArg some (by kernel_rfl))⟩
  f47 := Try.func88.trans (congrArg some (by kernel_rfl))
  f48 := Try.func89.trans (congrArg some (by kernel_rfl))
  f49 := ⟨ "slices.medianAdjacentCmpFunc[bitcast/api.Edge]", by decide, Try.func90.trans (congrArg some (by kernel_rfl))⟩
  f50 := ⟨ "slices.medianCmpFunc[bitcast/api.Edge]", by decide, Try.func91.trans (congrArg some (by kernel_rfl))⟩
  f57 := ⟨ "slices.order2CmpFunc[bitcast/api.Edge]", by decide, Try.func92.trans (congrArg some (by kernel_rfl))⟩
  t0 := Try.underlying0
  a0 := Try.isAgg0
  z0 := Try.sizeOf0
  v0 := Try.zeroValue0
  t3 := Try.underlying3
  a3 := Try.isAgg3
  z3 := Try.sizeOf3
  v3 := Try.zeroValue3
  t4 := Try.underlying4
  a4 := Try.isAgg4
  z4 := Try.sizeOf4
  v4 := Try.zeroValue4
  t5 := Try.underlying5
  a5 := Try.isAgg5
  z5 := Try.sizeOf5
  v5 := Try.zeroValue5
  t9 := Try.underlying9
  a9 := Try.isAgg9
  z9 := Try.sizeOf9
  v9 := Try.zeroValue9
  t22 := Try.underlying24
  a22 := Try.isAgg24
  z22 := Try.sizeOf24
  v22 := Try.zeroValue24
  t25 := Try.underlying89
  a25 := Try.isAgg89
  z25 := Try.sizeOf89
  v25 := Try.zeroValue89
  t39 := Try.underlying106
  a39 := Try.isAgg106
  z39 := Try.sizeOf106
  v39 := Try.zeroValue106
  t45 := Try.underlying108
  a45 := Try.isAgg108
  z45 := Try.sizeOf108
  v45 := Try.zeroValue108
  t46 := Try.underlying109
  a46 := Try.isAgg109
  z46 := Try.sizeOf109
  v46 := Try.zeroValue109
  t50 := Try.underlying43
  a50 := Try.isAgg43
  z50 := Try.sizeOf43
  v50 := Try.zeroValue43
  t53 := Try.underlying115
  a53 := Try.isAgg115
  z53 := Try.sizeOf115
  v53 := Try.zeroValue115
  t55 := Try.underlying117
  a55 := Try.isAgg117
  z55 := Try.sizeOf117
  v55 := Try.zeroValue117
  t66 := Try.underlying118
  a66 := Try.isAgg118
  z66 := Try.sizeOf118
  v66 := Try.zeroValue118
  t70 := Try.underlying122
  a70 := Try.isAgg122
  z70 := Try.sizeOf122
  v70 := Try.zeroValue122
  t76 := Try.underlying124
  a76 := Try.isAgg124
  z76 := Try.sizeOf124
  v76 := Try.zeroValue124
  t77 := Try.underlying125
  a77 := Try.isAgg125
  z77 := Try.sizeOf125
  v77 := Try.zeroValue125
end Go.Proofs.Ytndfhgklhjfhkaa

/- slices.SortFunc at edges. -/
namespace Go.Proofs.Ytndfhgklhjfhkaa
open Go.RowKit Go.Proofs Bs
open Go.Sort (flatK get_flatK size_flatK HoldsK putRowK size_putRowK)
instance : Inhabited Ed := ⟨⟨0, 0⟩⟩
def cfE (x y : Ed) : Int := cmpV x.i y.i
set_option maxRecDepth 100000 in
theorem lt_cfE (x y : Ed) : ltOf cfE x y = decide (x.i < y.i) := by
  unfold ltOf cfE
  exact decide_eq_decide.2 cmpV_lt
set_option maxRecDepth 100000 in
theorem swoE : Go.Sort.SWO (ltOf cfE) := by
  refine ⟨fun x => by rw [lt_cfE]; simp, fun x y z h1 h2 => ?_, fun x y z h1 h2 => ?_⟩
  · rw [lt_cfE] at h1 h2 ⊢
    have := of_decide_eq_true h1
    have := of_decide_eq_true h2
    exact decide_eq_true (by omega)
  · rw [lt_cfE] at h1 h2 ⊢
    have := of_decide_eq_false h1
    have := of_decide_eq_false h2
    exact decide_eq_false (by omega)
set_option maxRecDepth 100000 in
theorem flatK_at (d : Array Ed) (t : Nat) (h : t < d.size * 2) : (flatK edC 2 d)[t]! = (d.toList.flatMap edC)[t]?.getD default := by
  rw [get_flatK _ _ _ _ h]
  have h1 : t / 2 < d.size := by omega
  have h2 : t % 2 < 2 := Nat.mod_lt _ (by decide)
  have h3 := flat_at edC 2 (fun _ => rfl) d.toList (t / 2) (t % 2) d[t / 2] (by rw [Array.getElem?_toList, Array.getElem?_eq_getElem h1]) h2
  rw [show t / 2 * 2 + t % 2 = t by omega] at h3
  rw [h3, getElem!_pos d (t / 2) h1]
  rw [List.getElem!_eq_getElem?_getD]
set_option maxRecDepth 100000 in
theorem holdsE {w : World} {g : Nat} {cur : Array Value} {e : TypeId} {E : List Ed} (hb : w.heap[g]? = some (.cells cur e (0, 0))) (ht : cur.toList.take (E.length * 2) = E.flatMap edC) : HoldsK edC 2 w g 0 E.toArray := by
  intro j hj
  rw [size_flatK] at hj
  have hj' : j < E.length * 2 := by simpa using hj
  refine ⟨?_, by simp [World.frozen?, hb]⟩
  rw [flatK_at _ _ (by simpa using hj'), Nat.zero_add, cell_of_row _ _ _ _ _ _ hb]
  have h1 : (cur.toList.take (E.length * 2))[j]? = (E.flatMap edC)[j]? := by rw [ht]
  rw [List.getElem?_take_of_lt hj'] at h1
  show cur[j]? = some (id _)
  rw [← Array.getElem?_toList, h1]
  have h2 : j < (E.flatMap edC).length := by rw [flat_len edC 2 (fun _ => rfl)]; exact hj'
  rw [List.getElem?_eq_getElem h2]
  simp
set_option maxRecDepth 100000 in
theorem take_putE (cur : Array Value) (F : List Ed) (h : F.length * 2 ≤ cur.size) : (Go.Sort.putCells id 0 (flatK edC 2 F.toArray) cur).toList.take (F.length * 2) = F.flatMap edC := by
  apply List.ext_getElem?
  intro j
  have hl : (F.flatMap edC).length = F.length * 2 := flat_len edC 2 (fun _ => rfl) F
  by_cases hj : j < F.length * 2
  · rw [List.getElem?_take_of_lt hj, Array.getElem?_toList]
    have h1 := flatK_at F.toArray j (by simpa using hj)
    have hj2 : j < (F.flatMap edC).length := by omega
    have hcs : j < cur.size := by omega
    unfold Go.Sort.putCells
    rw [Array.getElem?_mapIdx, Array.getElem?_eq_getElem hcs]
    simp only [Option.map_some]
    rw [if_pos ⟨Nat.zero_le _, by rw [size_flatK]; simpa using hj⟩, Nat.sub_zero]
    show some ((flatK edC 2 F.toArray)[j]!) = _
    rw [h1, show F.toArray.toList = F from rfl, List.getElem?_eq_getElem hj2]
    rfl
  · rw [List.getElem?_take_eq_none (by omega), List.getElem?_eq_none (by omega)]
set_option maxRecDepth 100000 in
theorem heap_sortE {w : World} {g n : Nat} {os : Array Obj} {cur : Array Value} {e : TypeId} {fr : Nat × Nat} (d : Array Ed) (hb : w.heap[g]? = some (.cells cur e fr)) :
    (sortWorldK edC 2 w g 0 n d os).heap[g]? = some (.cells (Go.Sort.putCells id 0 (flatK edC 2 d) cur) e fr) := by
  have hg : g < w.heap.size := (Array.getElem?_eq_some_iff.1 hb).1
  unfold sortWorldK
  rw [Go.Sort.heap_grow_old _ _ (by rw [size_putRowK]; exact hg)]
  simp [putRowK, Go.Sort.putRow, Go.Sort.mapBlock, Go.Sort.ahead, Array.getElem?_modify, hb, Go.Sort.onCells]
set_option maxRecDepth 100000 in
theorem grown_sortE (w : World) (g n : Nat) (d : Array Ed) (os : Array Obj) : w.grownBy (sortWorldK edC 2 w g 0 n d os) (some g) := by
  refine ⟨rfl, rfl, rfl, by simp [sortWorldK, Go.Sort.grow, putRowK, Go.Sort.putRow, Go.Sort.mapBlock, Go.Sort.ahead], fun k hk hne => ?_⟩
  unfold sortWorldK
  rw [Go.Sort.heap_grow_old _ _ (by rw [size_putRowK]; exact hk)]
  have : g ≠ k := fun e => hne (by rw [e])
  simp [putRowK, Go.Sort.putRow, Go.Sort.mapBlock, Go.Sort.ahead, Array.getElem?_modify, this]
set_option maxRecDepth 100000 in
theorem cmpLaysE (blk off size : Nat) (w : World) : CmpLays Try.prog 57 #[] edC 2 cfE blk off size w := fun m os dk hs x y => by
  refine (icmpe_any x y _).mono ?_
  rintro e w' ⟨rfl, rfl⟩
  exact ⟨rfl, 0, _, by rw [Go.Sort.alloc_eq_grow, Go.Sort.alloc_eq_grow, Go.Sort.grow_grow]; rfl⟩
/-- What SortFunc leaves: the same edges, by ID; the row is the same. -/
def SrtPost (base : Nat) (E : List Ed) (p : Option Addr) (c : Nat) (w : World) (e : Ending) (w' : World) : Prop :=
  ∃ F : List Ed, e = .returned (.tuple #[]) ∧ F.Perm E ∧ F.Pairwise (fun x y => x.i ≤ y.i) ∧ w'.ownsRow base 54 2 (.slice p F.length c) F.length (F.flatMap edC) ∧ w.grownBy w' (Value.slice p E.length c).ownBlock
set_option maxRecDepth 100000 in
theorem isort_any (base : Nat) (E : List Ed) (p : Option Addr) (c : Nat) (w : World) (hO : w.ownsRow base 54 2 (.slice p E.length c) E.length (E.flatMap edC)) (hn : E.length ≤ 100000) :
    Calls Try.prog 73 #[.slice p E.length c, .func (.func 57) #[] #[]] w fun e w' => SrtPost base E p c w e w' := by
  have hO0 := hO
  rcases hO.2 with ⟨e1, h0⟩ | ⟨g, cap, cur, e1, hbase, hb, r1, r2, r3, r4⟩
  · injection e1 with a1 a2 a3
    subst a1
    subst a3
    rw [h0]
    have cS := AnyF.slices_SortFunc_none (P := Try.prog) (ρ := sortE_ren) { sortE with } none 0 (.func (.func 57) #[] #[]) w
    change Calls Try.prog 73 _ _ _ at cS
    refine cS.mono ?_
    rintro e w' ⟨rfl, rfl⟩
    obtain rfl : E = [] := List.eq_nil_of_length_eq_zero h0
    exact ⟨[], rfl, List.Perm.refl _, List.Pairwise.nil, hO0, grown_refl _ _⟩
  · injection e1 with a1 a2 a3
    subst a1
    subst a3
    have hg : g < w.heap.size := (Array.getElem?_eq_some_iff.1 hb).1
    have eg : EnterF 57 := enters_of Try.func57 (by kernel_rfl) rfl
    have cS := AnyQ.slices_SortFunc sortE 2 Try.isAgg54 Try.sizeOf54 edC (fun _ => rfl) ed_one cfE swoE 57 #[] g 0 c E.toArray w eg (cmpLaysE _ _ _ _) (holdsE hb r4) hg (by simp; omega)
    change Calls Try.prog 73 _ _ _ at cS
    rw [show E.toArray.size = E.length by simp] at cS
    refine cS.mono ?_
    rintro e w' ⟨rfl, d', n, os, hp, hs, rfl⟩
    obtain ⟨p1, -, p3⟩ := hp
    have hsz : d'.size = E.length := by simpa using p1
    have hpm : d'.toList.Perm E := by
      have e1 : d'.extract 0 E.length = d' := by rw [← hsz, Array.extract_size]
      have e2 : E.toArray.extract 0 E.length = E.toArray := by rw [show E.length = E.toArray.size by simp, Array.extract_size]
      rw [e1, e2] at p3
      exact p3
    have hlen : d'.toList.length = E.length := hpm.length_eq
    refine ⟨d'.toList, rfl, hpm, ?_, ?_, ?_⟩
    · rw [List.pairwise_iff_getElem]
      intro i j hi hj hij
      have h1 := hs i j (Nat.zero_le _) hij (by omega)
      rw [lt_cfE, getElem!_pos d' j (by omega), getElem!_pos d' i (by omega)] at h1
      have := of_decide_eq_false h1
      simp only [Array.getElem_toList]
      omega
    · refine ⟨by rw [flat_len edC 2 (fun _ => rfl)], .inr ⟨g, c, _, rfl, hbase, heap_sortE _ hb, by omega, r2, by simp [Go.Sort.putCells, r3], ?_⟩⟩
      have h5 := take_putE cur d'.toList (by rw [hlen, r3]; exact Nat.mul_le_mul_right _ r1)
      rw [Array.toArray_toList] at h5
      exact h5
    · exact grown_sortE w g n d' os
end Go.Proofs.Ytndfhgklhjfhkaa

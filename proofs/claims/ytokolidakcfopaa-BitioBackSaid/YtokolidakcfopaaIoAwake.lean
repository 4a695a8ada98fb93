/- The chapter's examples. -/
import Derived.Test.YtokolidakcfopaaIoAppendR
import Derived.Test.YtokolidakcfopaaIoCheckR
namespace Go.Proofs.Ytokolidakcfopaa
open Go.RowKit Bs
theorem Rd.bound {w : World} {q : Nat → Prop} {v : Value} {vs : List Value} (h : Rd w q v vs) : Rd w (· < w.heap.size) v vs := by
  obtain ⟨p, c, hv, hc⟩ := h
  refine ⟨p, c, hv, fun hne => ?_⟩
  obtain ⟨b, off, hp, _, hx⟩ := hc hne
  refine ⟨b, off, hp, ?_, hx⟩
  cases vs with
  | nil => exact absurd rfl hne
  | cons y r => exact World.block_lt_of_cell? w ⟨b, off + 0, none⟩ (hx 0 y rfl)
theorem SPost.op {r : List Nat × Int × Int} {l : List Nat} {n x : Int} {k : Nat} {w w' : World} {e : Ending} (h : SPost r w e w') (hr : r = (l, n, x)) (hk : l.length = k) :
    ∃ p c, e = .returned (.tuple #[.agg #[.slice p k c, .int .i64 n], .int .i64 x]) ∧ Rd w' (w.heap.size ≤ ·) (.slice p k c) (l.map nv) ∧ (p = none → c = 0) ∧ By l ∧ w.grownBy w' none := by
  subst hr
  subst hk
  obtain ⟨v, he, ⟨p, c, rfl, h1, h2, h3⟩, h4⟩ := h
  exact ⟨p, c, he, h1, h2, h3, h4⟩
theorem RPost.op {r : List Nat × Int × Int} {l : List Nat} {n x : Int} {k : Nat} {w w' : World} {e : Ending} (h : RPost r w e w') (hr : r = (l, n, x)) (hk : l.length = k) :
    ∃ p c, e = .returned (.tuple #[.agg #[.slice p k c, .int .i64 n], .int .i64 x]) ∧ Rd w' (fun _ => True) (.slice p k c) (l.map nv) ∧ (p = none → c = 0) ∧ By l ∧ w.grownBy w' none := by
  subst hr
  subst hk
  obtain ⟨v, he, ⟨p, c, rfl, h1, h2, h3⟩, h4⟩ := h
  exact ⟨p, c, he, h1, h2, h3, h4⟩
theorem ex1 : apV [] 0 5 3 = ([160], 3, 0) := by decide +kernel
theorem ex2 : apV [160] 3 1 6 = ([160, 128], 9, 0) := by decide +kernel
theorem ex3 : chkV [] 0 = (65535, 0) := by decide +kernel
theorem ex4 : chkV [128] 1 = (65534, 0) := by decide +kernel
theorem by_small {l : List Nat} (h : l.all (fun x => decide (x < 256)) = true) : By l := fun x hx => by simpa using List.all_eq_true.1 h x hx
theorem CheckPost.op {l : List Nat} {n : Int} {x : Nat} {y : Int} {w w' : World} {e : Ending} (h : CheckPost l n w e w') (hr : chkV l n = (x, y)) : e = .returned (.tuple #[.int .u64 (x : Int), .int .i64 y]) ∧ w.grownBy w' none := by
  obtain ⟨h1, h2⟩ := h
  rw [hr] at h1
  exact ⟨h1, h2⟩
theorem bs1 : bs [160] = ⟨#[160]⟩ := by rfl
theorem bs2 : bs [160, 128] = ⟨#[160, 128]⟩ := by rfl
set_option maxHeartbeats 1600000 in
theorem awake_any (w : World) :
    Calls Try.prog 7 #[] w fun e w' => e = .returned (.bool true) ∧ w.grownBy w' none := by
  go_enter Try.func7, Try.ntmps7
  go_wp2_with fail
  refine (appendp_any [] 0 5 3 (fun _ => False) none 0 (fun x hx => by cases hx) (by unfold U64; decide) _ (fun _ h => h.elim) (Rd.nil_ _ _ _ _)).mono ?_
  intro e w1 h
  obtain ⟨p1, s1, rfl, hR1, hp1, hb1, hg1⟩ := h.op ex1 (k := 1) rfl
  clear h
  obtain ⟨r1, gg1⟩ := one_box w1 #[.slice p1 1 s1, .int .i64 3] 25
  have hRa := (hR1.keep gg1).bound
  have G1 := Lib.hid (grown_trans hg1 gg1)
  have R1 := Lib.hid r1
  clear hR1 hg1 r1 gg1
  go_wp2_with fail
  generalize w1.alloc (.cells #[.slice p1 1 s1, .int .i64 3] 25) = w2 at *
  refine (appendp_any [160] 3 1 6 (· < w2.heap.size) p1 s1 hb1 (by unfold U64; decide) _ (fun _ h => h) hRa).mono ?_
  intro e w3 h
  obtain ⟨p2, s2, rfl, hR2, hp2, hb2, hg2⟩ := h.op ex2 (k := 2) rfl
  clear h
  obtain ⟨r2, gg2⟩ := one_box w3 #[.slice p2 2 s2, .int .i64 9] 25
  have hg3 := grown_trans hg2 gg2
  have hRb := hR2.keep gg2
  have hRa2 := hRa.keep hg3
  have G2 := Lib.hid (grown_trans G1.out hg3)
  have R1' := Lib.hid (kept_row R1.out hg3 (by simp))
  have R2 := Lib.hid r2
  clear hR2 hg2 r2 gg2 hRa G1 R1 hg3
  go_wp2_with fail
  generalize w3.alloc (.cells #[.slice p2 2 s2, .int .i64 9] 25) = w4 at *
  refine (checkp_any [] 0 (fun _ => False) none 0 (fun x hx => by cases hx) _ (Rd.nil_ _ _ _ _)).mono ?_
  intro e w5 h
  obtain ⟨rfl, hg4⟩ := h.op ex3
  clear h
  obtain ⟨r3, gg3⟩ := one_box w5 #[nv 128] 5
  have hRc := rd_new w5 #[nv 128] 5 1
  have hg5 := grown_trans hg4 gg3
  have hRb2 := hRb.keep hg5
  have hRa3 := hRa2.keep hg5
  have G3 := Lib.hid (grown_trans G2.out hg5)
  have R1a := Lib.hid (kept_row R1'.out hg5 (by simp))
  have R2a := Lib.hid (kept_row R2.out hg5 (by simp))
  have HRC := Lib.hid hRc
  clear hg4 r3 gg3 hg5 hRb hRa2 G2 R1' R2 hRc
  go_wp2_with fail
  refine (checkp_any [128] 1 (· = w5.heap.size) (some ⟨w5.heap.size, 0, none⟩) 1 (by_small rfl) _ HRC.out).mono ?_
  intro e w6 h
  obtain ⟨rfl, hg6⟩ := h.op ex4
  clear h
  have k1 := conv_nv hb1 (k := 1) rfl (hRa3.keep hg6) hp1
  have k2 := conv_nv hb2 (k := 2) rfl (hRb2.keep hg6) hp2
  rw [bs1] at k1
  rw [bs2] at k2
  obtain ⟨c0, c1⟩ := row_cells (kept_row R1a.out hg6 (by simp))
  obtain ⟨d0, d1⟩ := row_cells (kept_row R2a.out hg6 (by simp))
  have G4 := Lib.hid (grown_trans G3.out hg6)
  clear hg6 hRa3 hRb2 R1a R2a G3 HRC
  go_wp2_with fail
  go_ret
  exact ⟨rfl, G4.out⟩
end Go.Proofs.Ytokolidakcfopaa

/- BitioValid: the walk. -/
import Derived.Test.YthnjiknmlakkkaaIoStream1
import Derived.Test.YthnjiknmlakkkaaIoAwake
import Derived.Deep.RegionHeld3
namespace Go.Proofs.Ythnjiknmlakkkaa
open Go.RowKit Bs
theorem IntsIn.keep {w w' : World} {v : Value} (h : IntsIn w v) (g : w.grownBy w' none) : IntsIn w' v := by
  obtain ⟨p, n, c, hv, h1, h2, hc⟩ := h
  refine ⟨p, n, c, hv, h1, h2, fun hn => ?_⟩
  obtain ⟨b, off, hp, hb, hx⟩ := hc hn
  refine ⟨b, off, hp, Nat.lt_of_lt_of_le hb g.size, fun i hi => ?_⟩
  obtain ⟨x, hx, hcell⟩ := hx i hi
  exact ⟨x, hx, g.cell hcell (by simp)⟩
/-- A stream that stands, wherever the world has grown since. -/
def Std (w0 : World) (p : Option Addr) (c : Nat) (l : List Nat) : Prop := Rd w0 (· < w0.heap.size) (.slice p l.length c) (l.map nv) ∧ (p = none → c = 0) ∧ By l
theorem Std.rd {w0 w1 : World} {p : Option Addr} {c : Nat} {l : List Nat} (h : Hid (Std w0 p c l)) (g : Hid (w0.grownBy w1 none)) : Rd w1 (· < w0.heap.size) (.slice p l.length c) (l.map nv) := h.out.1.keep g.out
theorem Std.keep {w0 w1 : World} {p : Option Addr} {c : Nat} {l : List Nat} (h : Hid (Std w0 p c l)) (g : w0.grownBy w1 none) : Hid (Std w1 p c l) := Lib.hid ⟨(h.out.1.keep g).bound, h.out.2.1, h.out.2.2⟩
theorem Std.tape {w0 w1 : World} {p : Option Addr} {a c : Nat} {l : List Nat} (h : Hid (Std w0 p c l)) (g : w0.grownBy w1 (some a)) (ha : Rd w0 (· ≠ a) (.slice p l.length c) (l.map nv)) : Hid (Std w1 p c l) := Lib.hid ⟨(ha.grown g (by intro b hb e; exact hb (Option.some.inj e))).bound, h.out.2.1, h.out.2.2⟩
section
variable {w0 w1 w2 : World} {p p' : Option Addr} {c c' : Nat} {l l' : List Nat} {n n' : Int}
theorem validp_at (g : Hid (w0.grownBy w1 none)) (n : Int) (h : Hid (Std w0 p c l)) : Calls Try.prog 13 #[.agg #[.slice p l.length c, .int .i64 n]] w1 fun e w' => ValidPost l n w1 e w' :=
  validp_any l n _ p c h.out.2.2 w1 (Std.rd h g)
theorem validr_at (g : Hid (w0.grownBy w1 none)) (n : Int) (h : Hid (Std w0 p c l)) : Calls Try.prog 14 #[.agg #[.slice p l.length c, .int .i64 n]] w1 fun e w' => ValidPost l n w1 e w' :=
  validr_any l n _ p c h.out.2.2 w1 (fun _ hb => Nat.lt_of_lt_of_le hb g.out.size) (Std.rd h g)
theorem keep4 {a1 a2 a3 a4 : Addr} {v1 v2 v3 v4 : Value} (h : Hid (w0.grownBy w1 none)) (k : w1.grownBy w2 none) (c1 : w0.cell? a1 = some v1) (c2 : w0.cell? a2 = some v2) (c3 : w0.cell? a3 = some v3) (c4 : w0.cell? a4 = some v4) :
    w2.cell? a1 = some v1 ∧ w2.cell? a2 = some v2 ∧ w2.cell? a3 = some v3 ∧ w2.cell? a4 = some v4 ∧ Hid (w0.grownBy w2 none) :=
  have g := grown_trans h.out k
  ⟨g.cell c1 (by simp), g.cell c2 (by simp), g.cell c3 (by simp), g.cell c4 (by simp), Lib.hid g⟩
end
theorem hid_refl (w : World) : Hid (w.grownBy w none) := Lib.hid (grown_refl _ _)
theorem hid_drew0 (w : World) : Hid (w.grownBy w.drew none) := Lib.hid (grown_drew (grown_refl _ _))
set_option maxHeartbeats 3200000 in
theorem valid_walk (v : Value) (raw : List Nat) (nr : Int) (pr : Option Addr) (cr : Nat) (hb : By raw) (hpc : pr = none → cr = 0) (w : World) (hv : IntsIn w v) (hR : Rd w (· < w.heap.size) (.slice pr raw.length cr) (raw.map nv)) :
    Calls Try.prog 3 #[v, .agg #[.slice pr raw.length cr, .int .i64 nr]] w fun e w' => e = .returned (.bool true) ∧ w.grownBy w' none := by
  obtain ⟨k1, k2⟩ := one_box w #[.slice pr raw.length cr, .int .i64 nr] 25
  have hv1 := hv.keep k2
  have hR1 : Hid (Std (w.alloc (.cells #[.slice pr raw.length cr, .int .i64 nr] 25)) pr cr raw) := Lib.hid ⟨(hR.keep k2).bound, hpc, hb⟩
  have K1 := Lib.hid k1
  have K2 := Lib.hid k2
  clear k1 k2 hv hR
  go_enter Try.func3, Try.ntmps3
  go_wp2_with fail
  generalize w.alloc (.cells #[.slice pr raw.length cr, .int .i64 nr] 25) = w1 at *
  refine (new_any v w1 hv1).mono ?_
  rintro e w2 ⟨rfl, hg1, hT1⟩
  go_wp2_with fail
  refine (stream1_any _ 40 2 (by omega) (by unfold I64; omega) (by omega) _ hT1).mono ?_
  rintro e w3 ⟨l, n, ⟨p, c, rfl, hown⟩, hP, hs⟩
  have g13 := grown_tape hg1 hs.1
  obtain ⟨r1, r2⟩ := one_box w3 #[.slice p l.length c, .int .i64 n] 25
  have S1 : Hid (Std (w3.alloc (.cells #[.slice p l.length c, .int .i64 n] 25)) p c l) := Lib.hid ⟨(hown.rd.keep r2).bound, hown.pc, hown.by_⟩
  have S2 := Std.keep hR1 (grown_trans g13 r2)
  have G := Lib.hid (grown_trans K2.out (grown_trans g13 r2))
  have R1 := Lib.hid (kept_row K1.out (grown_trans g13 r2) (by simp))
  have R2 := Lib.hid r1
  clear hown hP hs g13 r1 r2 hR1 K1 K2 hg1 hT1 hv1
  by_cases hbig : 2000 < raw.length
  · have b1 : (2000 : Int) < (raw.length : Int) := by omega
    have b2 : decide ((2000 : Int) < (raw.length : Int)) = true := by simp; omega
    go_wp2_with fail
    generalize w3.alloc (.cells #[.slice p l.length c, .int .i64 n] 25) = w4 at *
    obtain ⟨c0, c1⟩ := row_cells R1.out
    obtain ⟨d0, d1⟩ := row_cells R2.out
    have G0 := hid_drew0 w4
    go_region_law (first
      | (go_simp; go_at_call 13; refine (validp_at (w0 := w4) ?_ _ ?_).mono ?_; assumption; assumption; rintro e w' ⟨rfl, hap⟩; obtain ⟨x1, x2, x3, x4, x5⟩ := keep4 (w0 := w4) (by assumption) hap c0 c1 d0 d1; clear hap)
      | (go_simp; go_at_call 14; refine (validr_at (w0 := w4) ?_ _ ?_).mono ?_; assumption; assumption; rintro e w' ⟨rfl, hap⟩; obtain ⟨x1, x2, x3, x4, x5⟩ := keep4 (w0 := w4) (by assumption) hap c0 c1 d0 d1; clear hap)
      | (go_simp; go_at_call 15; refine (awake_any _).mono ?_; rintro e w' ⟨rfl, hap⟩; obtain ⟨x1, x2, x3, x4, x5⟩ := keep4 (w0 := w4) (by assumption) hap c0 c1 d0 d1; clear hap))
    all_goals
      have GF := Lib.hid (grown_trans G.out x5.out)
      go_wp2_with fail
      go_ret
      exact ⟨rfl, GF.out⟩
  · have b1 : ¬ (2000 : Int) < (raw.length : Int) := by omega
    have b2 : decide ((2000 : Int) < (raw.length : Int)) = false := by simp; omega
    go_wp2_with fail
    generalize w3.alloc (.cells #[.slice p l.length c, .int .i64 n] 25) = w4 at *
    obtain ⟨c0, c1⟩ := row_cells R1.out
    obtain ⟨d0, d1⟩ := row_cells R2.out
    go_region_held3 (fun w' => w'.cell? ⟨w.heap.size, 0, none⟩ = some (.slice pr raw.length cr) ∧ w'.cell? ⟨w.heap.size, 1, none⟩ = some (.int .i64 nr) ∧ w'.cell? ⟨w3.heap.size, 0, none⟩ = some (.slice p l.length c) ∧ w'.cell? ⟨w3.heap.size, 1, none⟩ = some (.int .i64 n) ∧ Hid (w4.grownBy w' none))
      (first | exact ⟨c0, c1, d0, d1, hid_drew0 w4⟩ | (go_split_ands; refine keep4 ?_ hap c0 c1 d0 d1; assumption))
      (first
        | (go_at_call 13; go_split_ands; refine (validp_at (w0 := w4) ?_ _ ?_).mono ?_; assumption; assumption; rintro e w' ⟨rfl, hap⟩)
        | (go_at_call 14; go_split_ands; refine (validr_at (w0 := w4) ?_ _ ?_).mono ?_; assumption; assumption; rintro e w' ⟨rfl, hap⟩)
        | (go_at_call 15; refine (awake_any _).mono ?_; rintro e w' ⟨rfl, hap⟩))
    go_split_ands
    have GF : Hid (w4.grownBy w' none) := by assumption
    go_wp2_with fail
    go_ret
    exact ⟨rfl, grown_trans G.out GF.out⟩
end Go.Proofs.Ythnjiknmlakkkaa

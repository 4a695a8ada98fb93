/- Parts of the proof, packed: ToSameT. -/
import Derived.Test.YtnpkihioklpnmaaAg4
import Derived.BigQuiet
/- The reference's Same, of equal topologies. -/
namespace Go.Proofs.Ytnpkihioklpnmaa
open Go.RowKit Bs
/-- Two equal topologies in two boxes. -/
structure S2 (w : World) (R : List Rt) (L : List Lk) (pR pL pR2 pL2 : Option Addr) (cR cL cR2 cL2 : Nat) (wr : World) : Prop where
  b1 : wr.heap[w.heap.size]? = some (.cells #[.slice pR R.length cR, .slice pL L.length cL] 59 (0, 0))
  b2 : wr.heap[w.heap.size + 1]? = some (.cells #[.slice pR2 R.length cR2, .slice pL2 L.length cL2] 59 (0, 0))
  t1 : TgOk wr (fun _ => True) ⟨R, L, pR, cR, pL, cL⟩
  t2 : TgOk wr (fun _ => True) ⟨R, L, pR2, cR2, pL2, cL2⟩
  gr : w.grownBy wr none
set_option maxRecDepth 100000 in
theorem S2.keep {w wr w' : World} {R : List Rt} {L : List Lk} {pR pL pR2 pL2 : Option Addr} {cR cL cR2 cL2 : Nat} (h : S2 w R L pR pL pR2 pL2 cR cL cR2 cL2 wr) (g : wr.grownBy w' none) : S2 w R L pR pL pR2 pL2 cR cL cR2 cL2 w' :=
  ⟨kept_row h.b1 g (by simp), kept_row h.b2 g (by simp), h.t1.keep g, h.t2.keep g, grown_trans h.gr g⟩
set_option maxRecDepth 100000 in
set_option maxHeartbeats 3200000 in
theorem rsameT_any (T U : Tg) (hRR : U.R = T.R) (hLL : U.L = T.L) (q q2 : Nat → Prop) (w : World) (hT : TgOk w q T) (hU : TgOk w q2 U) :
    Calls Try.prog 33 #[.agg #[.slice T.pR T.R.length T.cR, .slice T.pL T.L.length T.cL], .agg #[.slice U.pR U.R.length U.cR, .slice U.pL U.L.length U.cL]] w fun e w' => e = .returned (.bool true) ∧ w.grownBy w' none := by
  obtain ⟨R, L, pR, cR, pL, cL⟩ := T
  obtain ⟨R2, L2, pR2, cR2, pL2, cL2⟩ := U
  simp only at hRR hLL
  subst hRR
  subst hLL
  simp only
  have hm1 := Nat.le_trans hT.cr.1 hT.cr.2
  have hm2 := Nat.le_trans hT.cl.1 hT.cl.2
  simp only at hm1 hm2
  obtain ⟨k1, k2, k3, _⟩ := two_boxes w #[.slice pR R2.length cR, .slice pL L2.length cL] #[.slice pR2 R2.length cR2, .slice pL2 L2.length cL2] 59 59
  have H0 : Hid (S2 w R2 L2 pR pL pR2 pL2 cR cL cR2 cL2 _) := Lib.hid ⟨k1, k2, (hT.mono (fun _ _ => trivial)).keep k3, (hU.mono (fun _ _ => trivial)).keep k3, k3⟩
  clear k1 k2 k3 hT hU
  go_enter Try.func33, Try.ntmps33
  go_upto_region 1 with fail
  generalize ((w.alloc _).alloc _) = wa at *
  obtain ⟨c0, c1⟩ := row_cells H0.out.b1
  obtain ⟨c2, c3⟩ := row_cells H0.out.b2
  go_wp2_with fail
  go_loopw [5] (fun a wr => ∃ k : Nat, k ≤ R2.length ∧ a = .int .i64 (k : Int) ∧ Hid (S2 w R2 L2 pR pL pR2 pL2 cR cL cR2 cL2 wr)) (fun a _ => R2.length - (RowKit.intOf a).toNat)
  case atStart => exact ⟨0, Nat.zero_le _, rfl, H0⟩
  case round =>
  obtain ⟨k, hk, rfl, HK⟩ := hrel
  clear H0 c0 c1 c2 c3
  by_cases hlt : k < R2.length
  case pos =>
    obtain ⟨-, g1, o1, e1, -, hc1⟩ := rdr_cells HK.out.t1.r (by show 0 < R2.length; omega)
    obtain ⟨-, g2, o2, e2, -, hc2⟩ := rdr_cells HK.out.t2.r (by show 0 < R2.length; omega)
    simp only at e1 e2
    subst e1
    subst e2
    obtain ⟨y, hy⟩ : ∃ y, R2[k]? = some y := ⟨_, List.getElem?_eq_getElem hlt⟩
    obtain ⟨a0, a1⟩ := hc1 k y hy
    obtain ⟨a2, a3⟩ := hc2 k y hy
    obtain ⟨c0, c1⟩ := row_cells HK.out.b1
    obtain ⟨c2, c3⟩ := row_cells HK.out.b2
    have i0 : (0 : Int) ≤ (k : Int) := by omega
    have i1 : (k : Int) < (R2.length : Int) := by omega
    have HN : ∀ n, Hid (S2 w R2 L2 (some ⟨g1, o1, none⟩) pL (some ⟨g2, o2, none⟩) pL2 cR cL cR2 cL2 (wr.drewN n)) := fun n => Lib.hid (HK.out.keep (grown_drewN _ n _))
    clear hc1 hc2 hy HK
    go_wp2_with fail
    go_quiet (fail)
    clear a0 a1 a2 a3
    go_wp2_with fail
    exact ⟨⟨k + 1, by omega, congrArg _ (by omega), HN _⟩, by simp only [RowKit.intOf]; omega⟩
  obtain rfl : k = R2.length := by omega
  obtain ⟨c0, c1⟩ := row_cells HK.out.b1
  obtain ⟨c2, c3⟩ := row_cells HK.out.b2
  go_wp2_with fail
  go_loopw [6] (fun a wr => ∃ k : Nat, k ≤ L2.length ∧ a = .int .i64 (k : Int) ∧ Hid (S2 w R2 L2 pR pL pR2 pL2 cR cL cR2 cL2 wr)) (fun a _ => L2.length - (RowKit.intOf a).toNat)
  case atStart => exact ⟨0, Nat.zero_le _, rfl, HK⟩
  case round =>
  obtain ⟨k, hk, rfl, HK⟩ := hrel
  clear c0 c1 c2 c3
  by_cases hlt : k < L2.length
  case pos =>
    obtain ⟨-, g1, o1, e1, -, hc1⟩ := rdl_cells HK.out.t1.l (by show 0 < L2.length; omega)
    obtain ⟨-, g2, o2, e2, -, hc2⟩ := rdl_cells HK.out.t2.l (by show 0 < L2.length; omega)
    simp only at e1 e2
    subst e1
    subst e2
    obtain ⟨y, hy⟩ : ∃ y, L2[k]? = some y := ⟨_, List.getElem?_eq_getElem hlt⟩
    obtain ⟨a0, a1, a2, a3, a4⟩ := hc1 k y hy
    obtain ⟨d0, d1, d2, d3, d4⟩ := hc2 k y hy
    obtain ⟨c0, c1⟩ := row_cells HK.out.b1
    obtain ⟨c2, c3⟩ := row_cells HK.out.b2
    have i0 : (0 : Int) ≤ (k : Int) := by omega
    have i1 : (k : Int) < (L2.length : Int) := by omega
    have HN : ∀ n, Hid (S2 w R2 L2 pR (some ⟨g1, o1, none⟩) pR2 (some ⟨g2, o2, none⟩) cR cL cR2 cL2 (wr.drewN n)) := fun n => Lib.hid (HK.out.keep (grown_drewN _ n _))
    clear hc1 hc2 hy HK
    go_wp2_with fail
    go_quiet (fail)
    clear a0 a1 a2 a3 a4 d0 d1 d2 d3 d4
    go_wp2_with fail
    exact ⟨⟨k + 1, by omega, congrArg _ (by omega), HN _⟩, by simp only [RowKit.intOf]; omega⟩
  obtain rfl : k = L2.length := by omega
  obtain ⟨c0, c1⟩ := row_cells HK.out.b1
  obtain ⟨c2, c3⟩ := row_cells HK.out.b2
  go_wp2_with fail
  go_ret
  exact ⟨rfl, HK.out.gr⟩
end Go.Proofs.Ytnpkihioklpnmaa

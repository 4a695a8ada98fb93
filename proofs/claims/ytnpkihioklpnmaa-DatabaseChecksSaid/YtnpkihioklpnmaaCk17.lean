/- Parts of the proof, packed: DbAwk, DbSam, AdSq, AdRSm, AdRVa, DbRef, DbRf. -/
import Derived.Test.YtnpkihioklpnmaaCk16
import Derived.Test.YtnpkihioklpnmaaCk14
import Derived.Test.YtnpkihioklpnmaaCk9
import Derived.Deep.CutBlock
import Derived.Test.YtnpkihioklpnmaaCk10
import Derived.Laws.StructEq
import Derived.BigQuiet
import Derived.Test.YtnpkihioklpnmaaCk6
/- The laws of databases: the example. -/
namespace Go.Proofs.Ytnpkihioklpnmaa
open Go.RowKit Bs
set_option maxRecDepth 100000 in
theorem rdf_rowD {w : World} {g : Nat} {t : TypeId} {n c : Nat} {xs : List Value} (h : w.heap[g]? = some (.cells xs.toArray t (0, 0))) : RdF w (· = g) (.slice (some ⟨g, 0, none⟩) n c) n xs :=
  ⟨some ⟨g, 0, none⟩, c, rfl, fun _ => ⟨g, 0, rfl, rfl, fun i x hi => by
    rw [cell_of_row _ _ _ _ _ _ h, Nat.zero_add]
    simpa using hi⟩⟩
def xD (p1 p2 : Option Addr) : List Ad := [⟨1, 1, false, [⟨2, 1, 0⟩, ⟨3, 1, 0⟩], [], p1, 2, none, 0⟩, ⟨2, 1, false, [⟨1, 4, 0⟩], [], p2, 1, none, 0⟩, ⟨3, 1, false, [], [], none, 0, none, 0⟩]
set_option maxRecDepth 100000 in
theorem xD_chk (p1 p2 : Option Addr) : chkD (xD p1 p2) = 0 := by kernel_rfl
set_option maxRecDepth 100000 in
theorem xD_view (p1 p2 : Option Addr) : viewV (xD p1 p2) 1 = ([⟨1, false⟩, ⟨2, false⟩], [⟨1, 2, 1, 4, 0⟩]) := by kernel_rfl
/-- The example in memory. -/
structure XM (w : World) (wb : World) : Prop where
  box : wb.heap[w.heap.size + 1 + 1 + 1]? = some (.cells #[.slice (some ⟨w.heap.size + 1 + 1, 0, none⟩) 3 3] 25 (0, 0))
  r : RdA wb (fun _ => True) (.slice (some ⟨w.heap.size + 1 + 1, 0, none⟩) 3 3) (xD (some ⟨w.heap.size, 0, none⟩) (some ⟨w.heap.size + 1, 0, none⟩))
  gr : w.grownBy wb none
set_option maxRecDepth 100000 in
theorem XM.keep {w wb w1 : World} (h : XM w wb) (g : wb.grownBy w1 none) : XM w w1 := ⟨kept_row h.box g (by simp), h.r.keep g, grown_trans h.gr g⟩
set_option maxRecDepth 100000 in
theorem xm_start (w : World) : XM w ((((w.alloc (.cells #[.int .i64 2, .int .i64 1, .int .i64 0, .int .i64 3, .int .i64 1, .int .i64 0] 73)).alloc (.cells #[.int .i64 1, .int .i64 4, .int .i64 0] 73)).alloc (.cells #[.int .i64 1, .int .i64 1, .bool false, .slice (some ⟨w.heap.size, 0, none⟩) 2 2, .slice none 0 0, .int .i64 2, .int .i64 1, .bool false, .slice (some ⟨w.heap.size + 1, 0, none⟩) 1 1, .slice none 0 0, .int .i64 3, .int .i64 1, .bool false, .slice none 0 0, .slice none 0 0] 38)).alloc (.cells #[.slice (some ⟨w.heap.size + 1 + 1, 0, none⟩) 3 3] 25)) := by
  obtain ⟨k1, k2, k3, k4⟩ := two_boxes w #[.int .i64 2, .int .i64 1, .int .i64 0, .int .i64 3, .int .i64 1, .int .i64 0] #[.int .i64 1, .int .i64 4, .int .i64 0] 73 73
  obtain ⟨wb, hwb⟩ : ∃ wb, wb = (w.alloc (.cells #[.int .i64 2, .int .i64 1, .int .i64 0, .int .i64 3, .int .i64 1, .int .i64 0] 73)).alloc (.cells #[.int .i64 1, .int .i64 4, .int .i64 0] 73) := ⟨_, rfl⟩
  rw [← hwb] at k1 k2 k3 k4 ⊢
  obtain ⟨j1, j2, j3, j4⟩ := two_boxes wb #[.int .i64 1, .int .i64 1, .bool false, .slice (some ⟨w.heap.size, 0, none⟩) 2 2, .slice none 0 0, .int .i64 2, .int .i64 1, .bool false, .slice (some ⟨w.heap.size + 1, 0, none⟩) 1 1, .slice none 0 0, .int .i64 3, .int .i64 1, .bool false, .slice none 0 0, .slice none 0 0] #[.slice (some ⟨w.heap.size + 1 + 1, 0, none⟩) 3 3] 38 25
  rw [k4] at j1 j2
  have a1 := kept_row k1 j3 (by simp)
  have a2 := kept_row k2 j3 (by simp)
  refine ⟨j2, ⟨(rdf_rowD (xs := (xD (some ⟨w.heap.size, 0, none⟩) (some ⟨w.heap.size + 1, 0, none⟩)).flatMap adL) j1).mono (fun _ _ => trivial), fun A hA => ?_, fun A hA => ?_⟩, grown_trans k3 j3⟩
  · simp only [xD, List.mem_cons, List.not_mem_nil, or_false] at hA
    rcases hA with rfl | rfl | rfl
    · exact ⟨(rdf_rowD (xs := [(⟨2, 1, 0⟩ : T3), ⟨3, 1, 0⟩].flatMap t3C) a1).mono (fun _ _ => trivial), ⟨none, 0, rfl, fun h => absurd rfl h⟩, ⟨Nat.le_refl 2, by show (2 : Nat) ≤ _; decide⟩, ⟨Nat.le_refl 0, by show (0 : Nat) ≤ _; decide⟩⟩
    · exact ⟨(rdf_rowD (xs := [(⟨1, 4, 0⟩ : T3)].flatMap t3C) a2).mono (fun _ _ => trivial), ⟨none, 0, rfl, fun h => absurd rfl h⟩, ⟨Nat.le_refl 1, by show (1 : Nat) ≤ _; decide⟩, ⟨Nat.le_refl 0, by show (0 : Nat) ≤ _; decide⟩⟩
    · exact ⟨⟨none, 0, rfl, fun h => absurd rfl h⟩, ⟨none, 0, rfl, fun h => absurd rfl h⟩, ⟨Nat.le_refl 0, by show (0 : Nat) ≤ _; decide⟩, ⟨Nat.le_refl 0, by show (0 : Nat) ≤ _; decide⟩⟩
  · simp only [xD, List.mem_cons, List.not_mem_nil, or_false] at hA
    rcases hA with rfl | rfl | rfl
    · exact ⟨fun h => (by cases h), fun _ => rfl⟩
    · exact ⟨fun h => (by cases h), fun _ => rfl⟩
    · exact ⟨fun _ => rfl, fun _ => rfl⟩
set_option maxRecDepth 100000 in
set_option maxHeartbeats 3200000 in
theorem dawake_any (w : World) : Calls Try.prog 22 #[] w fun e w' => e = .returned (.bool true) ∧ w.grownBy w' none := by
  have H0 := Lib.hid (xm_start w)
  go_enter Try.func22, Try.ntmps22
  go_upto_region 2 with fail
  generalize World.alloc (((w.alloc _).alloc _).alloc _) _ = wb at *
  have c0 : wb.cell? ⟨w.heap.size + 1 + 1 + 1, 0, none⟩ = some (.slice (some ⟨w.heap.size + 1 + 1, 0, none⟩) 3 3) := cell_of_row _ _ _ _ _ _ H0.out.box
  go_wp2_with fail
  refine (dview_any (xD (some ⟨w.heap.size, 0, none⟩) (some ⟨w.heap.size + 1, 0, none⟩)) 1 (some ⟨w.heap.size + 1 + 1, 0, none⟩) 3 _ wb H0.out.r (show 3 ≤ 9223372036854775807 by decide)).mono ?_
  rintro e w1 ⟨⟨R, L, pR, cR, pL, cL⟩, rfl, hv, hT, hg⟩
  rw [xD_view] at hv
  injection hv with e1 e2
  simp only at e1 e2
  subst e1 e2
  have gal := World.grownBy_alloc w1 (.cells #[.slice pR 2 cR, .slice pL 1 cL] 59) none
  have H1 := Lib.hid (And.intro (H0.out.keep (grown_trans hg gal)) (And.intro (heap_alloc_new w1 (.cells #[.slice pR 2 cR, .slice pL 1 cL] 59)) (hT.keep gal)))
  clear hT hg gal H0 c0
  go_upto_region 3 with fail
  generalize w1.alloc _ = w2 at *
  have c0 : w2.cell? ⟨w.heap.size + 1 + 1 + 1, 0, none⟩ = some (.slice (some ⟨w.heap.size + 1 + 1, 0, none⟩) 3 3) := cell_of_row _ _ _ _ _ _ H1.out.1.box
  go_wp2_with fail
  refine (dcheck_any (xD (some ⟨w.heap.size, 0, none⟩) (some ⟨w.heap.size + 1, 0, none⟩)) (some ⟨w.heap.size + 1 + 1, 0, none⟩) 3 _ w2 H1.out.1.r (show 3 ≤ 9223372036854775807 by decide)).mono ?_
  rw [xD_chk]
  rintro e w3 ⟨rfl, hg⟩
  have H2 := Lib.hid (And.intro (kept_row H1.out.2.1 hg (by simp)) (And.intro (grown_trans H1.out.1.gr hg) (H1.out.2.2.keep hg)))
  clear hg H1 c0
  obtain ⟨b0, b1⟩ := row_cells H2.out.1
  obtain ⟨-, b, off, rfl, -, hc⟩ := RdF.cells (f := lkC) (k := 5) (fun _ => rfl) (by decide) H2.out.2.2.l (show 0 < 1 by decide)
  have l0 := hc 0 ⟨1, 2, 1, 4, 0⟩ rfl 0 _ rfl
  have l1 := hc 0 ⟨1, 2, 1, 4, 0⟩ rfl 1 _ rfl
  have l2 := hc 0 ⟨1, 2, 1, 4, 0⟩ rfl 2 _ rfl
  have l3 := hc 0 ⟨1, 2, 1, 4, 0⟩ rfl 3 _ rfl
  have l4 := hc 0 ⟨1, 2, 1, 4, 0⟩ rfl 4 _ rfl
  simp only [Nat.zero_mul, Nat.add_zero] at l0 l1 l2 l3 l4
  clear hc
  go_wp2_with fail
  go_ret
  exact ⟨rfl, H2.out.2.1⟩
end Go.Proofs.Ytnpkihioklpnmaa

/- database: Same (slices.EqualFunc of adverts). -/
namespace Go.Proofs.Ytnpkihioklpnmaa
open Go.RowKit Bs
def smD : List Ad → List Ad → Bool
  | [], [] => true
  | A :: s, B :: t => decide (cmpA A B = 0) && smD s t
  | _, _ => false
set_option maxRecDepth 100000 in
theorem smD_len : ∀ (s t : List Ad), s.length ≠ t.length → smD s t = false
  | [], [], h => absurd rfl h
  | [], _ :: _, _ => rfl
  | _ :: _, [], _ => rfl
  | A :: s, B :: t, h => by rw [smD, smD_len s t (fun e => h (by simp [e])), Bool.and_false]
set_option maxRecDepth 100000 in
theorem smD_step {s t : List Ad} {k : Nat} {x y : Ad} (hx : s[k]? = some x) (hy : t[k]? = some y) : smD (s.drop k) (t.drop k) = (decide (cmpA x y = 0) && smD (s.drop (k + 1)) (t.drop (k + 1))) := by
  rw [dropA_at hx, dropA_at hy, smD]
set_option maxRecDepth 100000 in
theorem smD_end {s t : List Ad} (h : s.length = t.length) : smD (s.drop s.length) (t.drop s.length) = true := by
  rw [List.drop_length, h, List.drop_length]
  rfl
set_option maxRecDepth 100000 in
set_option maxHeartbeats 3200000 in
theorem deqf_any (g : Nat) (eg : EnterF g) (s t : List Ad) (p1 p2 : Option Addr) (c1 c2 : Nat) (q1 q2 : Nat → Prop) (w : World) (h1 : RdA w q1 (.slice p1 s.length c1) s) (h2 : RdA w q2 (.slice p2 t.length c2) t) (hm : s.length ≤ 9223372036854775807 ∧ t.length ≤ 9223372036854775807)
    (hP : ∀ (x y : Ad) (w' : World), x ∈ s → y ∈ t → w.grownBy w' none → Calls Try.prog g #[.agg #[.int .i64 x.r, .int .i64 x.q, .bool x.cp, .slice x.pL x.L.length x.cL, .slice x.pC x.C.length x.cC], .agg #[.int .i64 y.r, .int .i64 y.q, .bool y.cp, .slice y.pL y.L.length y.cL, .slice y.pC y.C.length y.cC]] w' fun e w2 => e = .returned (.bool (decide (cmpA x y = 0))) ∧ w'.grownBy w2 none) :
    Calls Try.prog 52 #[.slice p1 s.length c1, .slice p2 t.length c2, .func (.func g) #[] #[]] w fun e w' => e = .returned (.bool (smD s t)) ∧ w.grownBy w' none := by
  have HP := Lib.hid hP
  have H1 := Lib.hid h1
  have H2 := Lib.hid h2
  have hm1 := hm.1
  have hm2 := hm.2
  clear h1 h2 hm hP
  obtain ⟨X, hX⟩ : ∃ X, smD s t = X := ⟨_, rfl⟩
  rw [hX]
  have HX := Lib.hid hX
  clear hX
  have GZ : Hid (w.grownBy w none) := Lib.hid (grown_refl _ _)
  by_cases hlen : s.length = t.length
  · have hli : (s.length : Int) = (t.length : Int) := by omega
    have HLEN := Lib.hid hlen
    have HX0 : Hid (smD (s.drop 0) (t.drop 0) = X) := Lib.hid HX.out
    clear hlen
    go_enter Try.func52, Try.ntmps52
    go_wp2_with fail
    go_loopw [17] (fun a wr => ∃ k : Nat, k ≤ s.length ∧ a = .int .i64 (k : Int) ∧ Hid (smD (s.drop k) (t.drop k) = X) ∧ Hid (w.grownBy wr none)) (fun a _ => s.length - (RowKit.intOf a).toNat)
    case atStart => exact ⟨0, Nat.zero_le _, rfl, HX0, GZ⟩
    case round =>
    obtain ⟨k, hk, rfl, HI, G⟩ := hrel
    clear HX0 GZ
    have hkt : k ≤ t.length := by have := HLEN.out; omega
    by_cases hlt : k < s.length
    · have hltt : k < t.length := by have := HLEN.out; omega
      have hltI : (k : Int) < (t.length : Int) := by omega
      obtain ⟨-, b1, off1, rfl, -, -⟩ := rda_cells H1.out (by omega)
      obtain ⟨-, b2, off2, rfl, -, -⟩ := rda_cells H2.out (by omega)
      obtain ⟨x, hx⟩ : ∃ x, s[k]? = some x := ⟨_, List.getElem?_eq_getElem hlt⟩
      obtain ⟨y, hy⟩ : ∃ y, t[k]? = some y := ⟨_, List.getElem?_eq_getElem hltt⟩
      have HST := Lib.hid (HI.out.symm.trans (smD_step hx hy))
      have HM := Lib.hid (And.intro (List.mem_of_getElem? hx) (List.mem_of_getElem? hy))
      have HY := Lib.hid hy
      obtain ⟨a0, a1, a2, a3, a4⟩ := rda_at (H1.out.keep G.out) hx
      have gal := World.grownBy_alloc wr (.cells #[.int .i64 x.r, .int .i64 x.q, .bool x.cp, .slice x.pL x.L.length x.cL, .slice x.pC x.C.length x.cC] 38) none
      have G1 := Lib.hid (And.intro (grown_trans G.out gal) (heap_alloc_new wr (.cells #[.int .i64 x.r, .int .i64 x.q, .bool x.cp, .slice x.pL x.L.length x.cL, .slice x.pC x.C.length x.cC] 38)))
      clear hx hy gal HI G
      go_upto_region 6 with fail
      clear a0 a1 a2 a3 a4
      generalize wr.alloc _ = wy at *
      generalize wr.heap.size = Y at *
      obtain ⟨b0, b1', b2', b3, b4⟩ := rda_at (H2.out.keep G1.out.1) HY.out
      have gal := World.grownBy_alloc wy (.cells #[.int .i64 y.r, .int .i64 y.q, .bool y.cp, .slice y.pL y.L.length y.cL, .slice y.pC y.C.length y.cC] 38) none
      have G2 := Lib.hid (And.intro (grown_trans G1.out.1 gal) (And.intro (kept_row G1.out.2 gal (by simp)) (heap_alloc_new wy (.cells #[.int .i64 y.r, .int .i64 y.q, .bool y.cp, .slice y.pL y.L.length y.cL, .slice y.pC y.C.length y.cC] 38))))
      clear gal G1
      go_upto_region 7 with fail
      clear b0 b1' b2' b3 b4
      generalize wy.alloc _ = wz at *
      generalize wy.heap.size = Z at *
      obtain ⟨d0, d1, d2, d3, d4⟩ := row5 G2.out.2.1
      obtain ⟨e0, e1, e2, e3, e4⟩ := row5 G2.out.2.2
      obtain ⟨z, hz⟩ : ∃ z, decide (cmpA x y = 0) = z := ⟨_, rfl⟩
      rw [hz] at HST
      have hcall := HP.out x y wz HM.out.1 HM.out.2 G2.out.1
      rw [hz] at hcall
      clear hz
      cases z with
      | false =>
        have hX : X = false := by rw [HST.out]; rfl
        subst hX
        go_wp2_with (go_at_fn g; refine hcall.mono ?_; rintro e w' ⟨rfl, hg⟩; have HG := Lib.hid (grown_trans G2.out.1 hg); clear hg)
        go_ret
        exact ⟨rfl, HG.out⟩
      | true =>
        have HI2 : Hid (smD (s.drop (k + 1)) (t.drop (k + 1)) = X) := Lib.hid (by rw [HST.out]; rfl)
        go_wp2_with (go_at_fn g; refine hcall.mono ?_; rintro e w' ⟨rfl, hg⟩; have HG := Lib.hid (grown_trans G2.out.1 hg); clear hg)
        exact ⟨⟨k + 1, by omega, congrArg _ (by omega), HI2, HG⟩, by simp only [RowKit.intOf]; omega⟩
    · obtain rfl : k = s.length := by omega
      have hX : X = true := by rw [← HI.out]; exact smD_end HLEN.out
      subst hX
      go_wp2_with fail
      go_ret
      exact ⟨rfl, G.out⟩
  · have hX : X = false := by rw [← HX.out]; exact smD_len s t hlen
    subst hX
    have hli : ¬ (s.length : Int) = (t.length : Int) := by omega
    have hlb : ((s.length : Int) == (t.length : Int)) = false := beq_false_of_ne hli
    go_enter Try.func52, Try.ntmps52
    go_wp2_with fail
    go_ret
    exact ⟨rfl, GZ.out⟩
set_option maxRecDepth 100000 in
set_option maxHeartbeats 1600000 in
theorem dsame_any (s t : List Ad) (p1 p2 : Option Addr) (c1 c2 : Nat) (q1 q2 : Nat → Prop) (w : World) (h1 : RdA w q1 (.slice p1 s.length c1) s) (h2 : RdA w q2 (.slice p2 t.length c2) t) (hm : s.length ≤ 9223372036854775807 ∧ t.length ≤ 9223372036854775807) :
    Calls Try.prog 16 #[.agg #[.slice p1 s.length c1], .agg #[.slice p2 t.length c2]] w fun e w' => e = .returned (.bool (smD s t)) ∧ w.grownBy w' none := by
  have eg : EnterF 53 := enters_of Try.func53 (by kernel_rfl) rfl
  obtain ⟨k1, k2, k3, -⟩ := two_boxes w #[.slice p1 s.length c1] #[.slice p2 t.length c2] 25 25
  have H0 := Lib.hid (And.intro k1 (And.intro k2 (And.intro k3 (And.intro (h1.keep k3) (h2.keep k3)))))
  clear k1 k2 k3 h1 h2
  obtain ⟨X, hX⟩ : ∃ X, smD s t = X := ⟨_, rfl⟩
  have HX := Lib.hid hX
  rw [hX]
  clear hX
  go_enter Try.func16, Try.ntmps16
  go_upto_region 1 with fail
  generalize (w.alloc _).alloc _ = wa at *
  have c0 : wa.cell? ⟨w.heap.size, 0, none⟩ = some (.slice p1 s.length c1) := cell_of_row _ _ _ _ _ _ H0.out.1
  have c1' : wa.cell? ⟨w.heap.size + 1, 0, none⟩ = some (.slice p2 t.length c2) := cell_of_row _ _ _ _ _ _ H0.out.2.1
  go_wp2_with fail
  refine (deqf_any _ eg s t p1 p2 c1 c2 _ _ wa H0.out.2.2.2.1 H0.out.2.2.2.2 hm (fun x y w' hx hy hg => by have h := asame_any x y _ _ w' ((H0.out.2.2.2.1.ok x hx).keep hg) ((H0.out.2.2.2.2.ok y hy).keep hg); unfold Ad.val at h; exact h)).mono ?_
  rintro e w1 ⟨rfl, hg⟩
  have HG := Lib.hid (grown_trans H0.out.2.2.1 hg)
  rw [HX.out]
  clear hg H0 c0 c1'
  go_wp2_with fail
  go_ret
  exact ⟨rfl, HG.out⟩
end Go.Proofs.Ytnpkihioklpnmaa

/- Two links compared, two claims compared. -/
namespace Go.Proofs.Ytnpkihioklpnmaa
open Go.RowKit Bs
set_option maxRecDepth 100000 in
theorem neq_reach (x y : T3) (w : World) : (binOp .neq 73 (.agg #[.int .i64 x.a, .int .i64 x.b, .int .i64 x.c]) (.agg #[.int .i64 y.a, .int .i64 y.b, .int .i64 y.c])).run Try.prog w = .ok (.bool (!(x.a == y.a && (x.b == y.b && x.c == y.c)))) w := by
  go_simp
  by_cases h1 : x.a = y.a <;> by_cases h2 : x.b = y.b <;> by_cases h3 : x.c = y.c <;> simp [h1, h2, h3]
set_option maxRecDepth 100000 in
theorem neq_claim (x y : T3) (w : World) : (binOp .neq 62 (.agg #[.int .i64 x.a, .int .i64 x.b, .int .i64 x.c]) (.agg #[.int .i64 y.a, .int .i64 y.b, .int .i64 y.c])).run Try.prog w = .ok (.bool (!(x.a == y.a && (x.b == y.b && x.c == y.c)))) w := by
  go_simp
  by_cases h1 : x.a = y.a <;> by_cases h2 : x.b = y.b <;> by_cases h3 : x.c = y.c <;> simp [h1, h2, h3]
set_option maxRecDepth 100000 in
theorem t3_eq (x y : T3) : (x.a == y.a && (x.b == y.b && x.c == y.c)) = decide (x = y) := by
  cases x; cases y
  simp only [T3.mk.injEq, Bool.decide_and]
  rfl
end Go.Proofs.Ytnpkihioklpnmaa

/- The reference's Same. -/
namespace Go.Proofs.Ytnpkihioklpnmaa
open Go.RowKit Bs
set_option maxRecDepth 100000 in
set_option maxHeartbeats 6400000 in
theorem rsame_any (A B : Ad) (q q2 : Nat → Prop) (w : World) (hA : AdOk w q A) (hB : AdOk w q2 B) :
    Calls Try.prog 21 #[A.val, B.val] w fun e w' => e = .returned (.bool (decide (cmpA A B = 0))) ∧ w.grownBy w' none := by
  have hm1 := Nat.le_trans hA.hl.1 hA.hl.2
  have hm2 := Nat.le_trans hA.hc.1 hA.hc.2
  have HZ := Lib.hid (two_ads w A B)
  have HOK : Hid (TwoA _ A B q q2) := Lib.hid ⟨hA.keep HZ.out.2, hB.keep HZ.out.2⟩
  have HB := Lib.hid HZ.out.1
  have K := Lib.hid HZ.out.2
  clear HZ hA hB
  obtain ⟨X, hX⟩ : ∃ X, decide (cmpA A B = 0) = X := ⟨_, rfl⟩
  rw [hX]
  have HX := Lib.hid hX
  clear hX
  unfold Ad.val
  obtain ⟨pL, hpL⟩ : ∃ p, A.pL = p := ⟨_, rfl⟩
  obtain ⟨pC, hpC⟩ : ∃ p, A.pC = p := ⟨_, rfl⟩
  obtain ⟨pL2, hpL2⟩ : ∃ p, B.pL = p := ⟨_, rfl⟩
  obtain ⟨pC2, hpC2⟩ : ∃ p, B.pC = p := ⟨_, rfl⟩
  rw [hpL, hpC, hpL2, hpC2]
  have HP := Lib.hid (And.intro hpL (And.intro hpC (And.intro hpL2 hpC2)))
  unfold adC at HB K HOK
  rw [hpL, hpC, hpL2, hpC2] at HB K HOK
  go_enter Try.func21, Try.ntmps21
  go_upto_region 1 with fail
  generalize (w.alloc _).alloc _ = wa at *
  have HB : Hid (wa.heap[w.heap.size]? = some (.cells (adC A) 38 (0, 0)) ∧ wa.heap[w.heap.size + 1]? = some (.cells (adC B) 38 (0, 0))) := Lib.hid (by unfold adC; rw [hpL, hpC, hpL2, hpC2]; exact HB.out)
  have GZ : Hid (wa.grownBy wa none) := Lib.hid (grown_refl _ _)
  clear hpL hpC hpL2 hpC2
  obtain ⟨a0, a1, a2, a3, a4, b0, b1, b2, b3, b4, -⟩ := keepTA HB.out GZ
  rw [HP.out.1] at a3
  rw [HP.out.2.1] at a4
  rw [HP.out.2.2.1] at b3
  rw [HP.out.2.2.2] at b4
  by_cases h0 : A.r = B.r
  rotate_left
  · obtain rfl : X = false := by rw [← HX.out]; exact decide_eq_false (fun h => h0 (cmpA_zero.1 h).1)
    have h' : (A.r == B.r) = false := by simpa using h0
    go_wp2_with fail
    go_ret
    exact ⟨rfl, K.out⟩
  by_cases h1 : A.q = B.q
  rotate_left
  · obtain rfl : X = false := by rw [← HX.out]; exact decide_eq_false (fun h => h1 (cmpA_zero.1 h).2.1)
    have h' : (A.q == B.q) = false := by simpa using h1
    go_wp2_with fail
    go_ret
    exact ⟨rfl, K.out⟩
  by_cases h2 : A.cp = B.cp
  rotate_left
  · obtain rfl : X = false := by rw [← HX.out]; exact decide_eq_false (fun h => h2 (cmpA_zero.1 h).2.2.1)
    have h' : (A.cp == B.cp) = false := by simpa using h2
    clear h2
    go_wp2_with fail
    go_ret
    exact ⟨rfl, K.out⟩
  have h2' : (A.cp == B.cp) = true := by simpa using h2
  have HE := Lib.hid (And.intro h0 (And.intro h1 h2))
  clear h2
  by_cases h3 : A.L.length = B.L.length
  rotate_left
  · obtain rfl : X = false := by rw [← HX.out]; exact decide_eq_false (fun h => h3 (congrArg List.length (cmpA_zero.1 h).2.2.2.1))
    have h3' : ¬ (A.L.length : Int) = (B.L.length : Int) := by omega
    clear h3
    go_wp2_with fail
    go_ret
    exact ⟨rfl, K.out⟩
  by_cases h4 : A.C.length = B.C.length
  rotate_left
  · obtain rfl : X = false := by rw [← HX.out]; exact decide_eq_false (fun h => h4 (congrArg List.length (cmpA_zero.1 h).2.2.2.2))
    have h4' : ¬ (A.C.length : Int) = (B.C.length : Int) := by omega
    rw [← h3] at b3 ⊢
    clear h3 h4
    go_wp2_with fail
    go_ret
    exact ⟨rfl, K.out⟩
  rw [← h3] at b3 ⊢
  rw [← h4] at b4 ⊢
  have H34 := Lib.hid (And.intro h3 h4)
  clear h3 h4
  go_wp2_with fail
  clear h2' h0 h1 a0 a1 a2 a3 a4 b0 b1 b2 b3 b4
  go_loopw [5] (fun a wr => ∃ k : Nat, k ≤ A.L.length ∧ a = .int .i64 (k : Int) ∧ Hid (A.L.take k = B.L.take k) ∧ Hid (wa.grownBy wr none)) (fun a _ => A.L.length - (RowKit.intOf a).toNat)
  case atStart => exact ⟨0, Nat.zero_le _, rfl, Lib.hid rfl, GZ⟩
  case round =>
  obtain ⟨w2, rfl⟩ : ∃ w2, w2 = wr := ⟨_, rfl⟩
  obtain ⟨k, hk, rfl, HI, HG⟩ := hrel
  clear GZ
  obtain ⟨a0, a1, a2, a3, a4, b0, b1, b2, b3, b4, -⟩ := keepTA HB.out HG
  rw [HP.out.1] at a3
  rw [HP.out.2.1] at a4
  rw [HP.out.2.2.1, ← H34.out.1] at b3
  rw [HP.out.2.2.2, ← H34.out.2] at b4
  clear a0 a1 a2 b0 b1 b2
  by_cases hlt : k < A.L.length
  · obtain ⟨-, bL, oL, hp, -, hc⟩ := rd3_cells (HOK.out.a.keep HG.out).l (by omega)
    obtain rfl : pL = some ⟨bL, oL, none⟩ := HP.out.1.symm.trans hp
    obtain ⟨x, hx⟩ : ∃ x, A.L[k]? = some x := ⟨_, List.getElem?_eq_getElem hlt⟩
    obtain ⟨x0, x1, x2⟩ := hc k x hx
    have hlt2 : k < B.L.length := by have := H34.out.1; omega
    obtain ⟨-, bM, oM, hp2, -, hd⟩ := rd3_cells (HOK.out.b.keep HG.out).l (by omega)
    obtain rfl : pL2 = some ⟨bM, oM, none⟩ := HP.out.2.2.1.symm.trans hp2
    obtain ⟨y, hy⟩ : ∃ y, B.L[k]? = some y := ⟨_, List.getElem?_eq_getElem hlt2⟩
    obtain ⟨y0, y1, y2⟩ := hd k y hy
    have HXY := Lib.hid (And.intro hx hy)
    clear hp hp2 hc hd hx hy hlt2
    obtain ⟨v, hv⟩ : ∃ v, decide (x = y) = v := ⟨_, rfl⟩
    have hn : ∀ w, (binOp .neq 73 (.agg #[.int .i64 x.a, .int .i64 x.b, .int .i64 x.c]) (.agg #[.int .i64 y.a, .int .i64 y.b, .int .i64 y.c])).run Try.prog w = .ok (.bool (!v)) w := fun w => by rw [neq_reach, t3_eq, hv]
    have HV := Lib.hid hv
    clear hv
    go_wp2_with fail
    go_quiet (fail)
    clear x0 x1 x2 y0 y1 y2 hn a3 a4 b3 b4
    cases v with
    | false =>
      obtain rfl : X = false := by
        rw [← HX.out]
        exact decide_eq_false (fun h => by
          have e := (cmpA_zero.1 h).2.2.2.1
          have h1 := HXY.out.1
          rw [e, HXY.out.2] at h1
          exact of_decide_eq_false HV.out (Option.some.inj h1).symm)
      go_wp2_with fail
      go_ret
      exact ⟨rfl, grown_trans K.out (grown_trans HG.out (grown_drewN _ _ _))⟩
    | true =>
      have HI2 : Hid (A.L.take (k + 1) = B.L.take (k + 1)) := Lib.hid (by
        rw [List.take_add_one, List.take_add_one, HI.out, HXY.out.1, HXY.out.2, of_decide_eq_true HV.out])
      go_wp2_with fail
      exact ⟨⟨k + 1, by omega, congrArg _ (by omega), HI2, Lib.hid (grown_trans HG.out (grown_drewN _ _ _))⟩, by simp only [RowKit.intOf]; omega⟩
  · obtain rfl : k = A.L.length := by omega
    have HLE : Hid (A.L = B.L) := Lib.hid (by
      have := HI.out
      rw [List.take_length, H34.out.1, List.take_length] at this
      exact this)
    clear HI
    go_wp2_with fail
    clear a3 a4 b3 b4
    go_loopw [6] (fun a wr => ∃ k : Nat, k ≤ A.C.length ∧ a = .int .i64 (k : Int) ∧ Hid (A.C.take k = B.C.take k) ∧ Hid (wa.grownBy wr none)) (fun a _ => A.C.length - (RowKit.intOf a).toNat)
    case atStart => exact ⟨0, Nat.zero_le _, rfl, Lib.hid rfl, HG⟩
    case round =>
    obtain ⟨w3, rfl⟩ : ∃ w3, w3 = wr := ⟨_, rfl⟩
    obtain ⟨k, hk, rfl, HI, HG3⟩ := hrel
    clear HG
    obtain ⟨a0, a1, a2, a3, a4, b0, b1, b2, b3, b4, -⟩ := keepTA HB.out HG3
    rw [HP.out.1] at a3
    rw [HP.out.2.1] at a4
    rw [HP.out.2.2.1, ← H34.out.1] at b3
    rw [HP.out.2.2.2, ← H34.out.2] at b4
    clear a0 a1 a2 b0 b1 b2
    by_cases hlt : k < A.C.length
    · obtain ⟨-, bL, oL, hp, -, hc⟩ := rd3_cells (HOK.out.a.keep HG3.out).c (by omega)
      obtain rfl : pC = some ⟨bL, oL, none⟩ := HP.out.2.1.symm.trans hp
      obtain ⟨x, hx⟩ : ∃ x, A.C[k]? = some x := ⟨_, List.getElem?_eq_getElem hlt⟩
      obtain ⟨x0, x1, x2⟩ := hc k x hx
      have hlt2 : k < B.C.length := by have := H34.out.2; omega
      obtain ⟨-, bM, oM, hp2, -, hd⟩ := rd3_cells (HOK.out.b.keep HG3.out).c (by omega)
      obtain rfl : pC2 = some ⟨bM, oM, none⟩ := HP.out.2.2.2.symm.trans hp2
      obtain ⟨y, hy⟩ : ∃ y, B.C[k]? = some y := ⟨_, List.getElem?_eq_getElem hlt2⟩
      obtain ⟨y0, y1, y2⟩ := hd k y hy
      have HXY := Lib.hid (And.intro hx hy)
      clear hp hp2 hc hd hx hy hlt2
      obtain ⟨v, hv⟩ : ∃ v, decide (x = y) = v := ⟨_, rfl⟩
      have hn : ∀ w, (binOp .neq 62 (.agg #[.int .i64 x.a, .int .i64 x.b, .int .i64 x.c]) (.agg #[.int .i64 y.a, .int .i64 y.b, .int .i64 y.c])).run Try.prog w = .ok (.bool (!v)) w := fun w => by rw [neq_claim, t3_eq, hv]
      have HV := Lib.hid hv
      clear hv
      go_wp2_with fail
      go_quiet (fail)
      clear x0 x1 x2 y0 y1 y2 hn a3 a4 b3 b4
      cases v with
      | false =>
        obtain rfl : X = false := by
          rw [← HX.out]
          exact decide_eq_false (fun h => by
            have e := (cmpA_zero.1 h).2.2.2.2
            have h1 := HXY.out.1
            rw [e, HXY.out.2] at h1
            exact of_decide_eq_false HV.out (Option.some.inj h1).symm)
        go_wp2_with fail
        go_ret
        exact ⟨rfl, grown_trans K.out (grown_trans HG3.out (grown_drewN _ _ _))⟩
      | true =>
        have HI2 : Hid (A.C.take (k + 1) = B.C.take (k + 1)) := Lib.hid (by
          rw [List.take_add_one, List.take_add_one, HI.out, HXY.out.1, HXY.out.2, of_decide_eq_true HV.out])
        go_wp2_with fail
        exact ⟨⟨k + 1, by omega, congrArg _ (by omega), HI2, Lib.hid (grown_trans HG3.out (grown_drewN _ _ _))⟩, by simp only [RowKit.intOf]; omega⟩
    · obtain rfl : k = A.C.length := by omega
      have hCE : A.C = B.C := by
        have := HI.out
        rw [List.take_length, H34.out.2, List.take_length] at this
        exact this
      obtain rfl : X = true := by
        rw [← HX.out]
        exact decide_eq_true (cmpA_zero.2 ⟨HE.out.1, HE.out.2.1, HE.out.2.2, HLE.out, hCE⟩)
      clear hCE
      go_wp2_with fail
      go_ret
      exact ⟨rfl, grown_trans K.out HG3.out⟩
end Go.Proofs.Ytnpkihioklpnmaa

/- The reference: when the claims of an advert are valid, and when an advert is. -/
namespace Go.Proofs.Ytnpkihioklpnmaa
open Go.RowKit Bs
set_option maxRecDepth 100000 in
theorem rin_any (n lo hi : Int) (w : World) :
    Calls Try.prog 82 #[.int .i64 n, .int .i64 lo, .int .i64 hi] w fun e w' => e = .returned (.bool (decide (lo ≤ n ∧ n ≤ hi))) ∧ w = w' := by
  by_cases h1 : lo ≤ n
  · by_cases h2 : n ≤ hi
    · rw [decide_eq_true (show lo ≤ n ∧ n ≤ hi from ⟨h1, h2⟩)]
      go_enter Try.func82, Try.ntmps82
      go_wp2_with fail
      go_ret
      exact ⟨rfl, rfl⟩
    · rw [decide_eq_false (show ¬ (lo ≤ n ∧ n ≤ hi) from fun h => h2 h.2)]
      go_enter Try.func82, Try.ntmps82
      go_wp2_with fail
      go_ret
      exact ⟨rfl, rfl⟩
  · rw [decide_eq_false (show ¬ (lo ≤ n ∧ n ≤ hi) from fun h => h1 h.1)]
    go_enter Try.func82, Try.ntmps82
    go_wp2_with fail
    go_ret
    exact ⟨rfl, rfl⟩
set_option maxRecDepth 100000 in
theorem rin_lit (n lo hi : Int) (b : Bool) (h : decide (lo ≤ n ∧ n ≤ hi) = b) (w : World) :
    Calls Try.prog 82 #[.int .i64 n, .int .i64 lo, .int .i64 hi] w fun e w' => e = .returned (.bool b) ∧ w = w' := by
  rw [← h]; exact rin_any n lo hi w
set_option maxRecDepth 100000 in
theorem vlr_lit (n : Int) (b : Bool) (h : vl n = b) (w : World) :
    Calls Try.prog 110 #[.int .i64 n] w fun e w' => e = .returned (.bool b) ∧ w = w' := by
  rw [← h]; exact vlr_any n w
set_option maxRecDepth 100000 in
set_option maxHeartbeats 6400000 in
theorem rvc_any (L : List T3) (p : Option Addr) (c : Nat) (q : Nat → Prop) (w : World) (hR : Rd3 w q (.slice p L.length c) L) (hm : L.length ≤ 9223372036854775807) :
    Calls Try.prog 83 #[.slice p L.length c] w fun e w' => e = .returned (.bool (vClaims L)) ∧ w.grownBy w' none := by
  have HR := Lib.hid hR
  clear hR
  by_cases h8 : 8 < L.length
  · have hX : vClaims L = false := by unfold vClaims; rw [decide_eq_false (by omega)]; rfl
    rw [hX]
    clear hX
    go_enter Try.func83, Try.ntmps83
    go_wp2_with fail
    go_ret
    exact ⟨rfl, grown_refl _ _⟩
  · obtain ⟨X, hX⟩ : ∃ X, vClaims L = X := ⟨_, rfl⟩
    rw [hX]
    have I0 : Hid (vCm (lastA (-1) L 0) (L.drop 0) = X ∧ -1 ≤ lastA (-1) L 0) := Lib.hid (by
      rw [lastA_zero]
      refine ⟨?_, by omega⟩
      unfold vClaims at hX
      rw [decide_eq_true (by omega)] at hX
      exact hX)
    have G0 : Hid (w.grownBy w none) := Lib.hid (grown_refl _ _)
    clear hX
    go_enter Try.func83, Try.ntmps83
    go_wp2_with fail
    go_loopw [3] (fun a wr => ∃ k : Nat, k ≤ L.length ∧ a = .int .i64 (k : Int) ∧ Hid (vCm (lastA (-1) L k) (L.drop k) = X ∧ -1 ≤ lastA (-1) L k) ∧ Hid (w.grownBy wr none)) (fun a _ => L.length - (RowKit.intOf a).toNat)
    case atStart => exact ⟨0, Nat.zero_le _, rfl, I0, G0⟩
    case round =>
      obtain ⟨k, hk, rfl, HI, HG⟩ := hrel
      clear I0 G0
      by_cases hlt : k < L.length
      · have hlti : (k : Int) < (L.length : Int) := by omega
        obtain ⟨-, b, off, rfl, -, -⟩ := rd3_cells HR.out (by omega)
        obtain ⟨x, hx⟩ : ∃ x, L[k]? = some x := ⟨_, List.getElem?_eq_getElem hlt⟩
        have HXX := Lib.hid hx
        have HS := Lib.hid (HI.out.1.symm.trans (vCm_step (d := -1) hx))
        have HLA := Lib.hid (lastA_succ (d := -1) hx)
        have hlo := HI.out.2
        obtain ⟨t, ht⟩ : ∃ t, lastA (-1) L k = t := ⟨_, rfl⟩
        rw [ht] at HS hlo
        have HTT := Lib.hid ht
        obtain ⟨v1, hv1⟩ : ∃ v1, decide ((0 : Int) ≤ x.a ∧ x.a ≤ 7) = v1 := ⟨_, rfl⟩
        obtain ⟨v2, hv2⟩ : ∃ v2, decide ((1 : Int) ≤ x.b ∧ x.b ≤ 256) = v2 := ⟨_, rfl⟩
        obtain ⟨v3, hv3⟩ : ∃ v3, decide (x.c = 8 ∨ x.c = 16 ∨ x.c = 32 ∨ x.c = 64) = v3 := ⟨_, rfl⟩
        have HV1 := Lib.hid hv1
        have HV2 := Lib.hid hv2
        have HV3 : Hid (vl x.c = v3) := Lib.hid (by rw [← hv3]; exact vl_dec x.c)
        have HO : Hid (okCm t x = (v1 && (v2 && (v3 && decide (t < x.a))))) := Lib.hid (by
          rw [← hv1, ← hv2, ← hv3, ← Bool.decide_and, ← Bool.decide_and, ← Bool.decide_and]
          unfold okCm
          exact decide_eq_decide.2 ⟨fun h => ⟨⟨by omega, h.2.1⟩, h.2.2.1, h.2.2.2, h.1⟩, fun h => ⟨h.2.2.2, h.1.2, h.2.1, h.2.2.1⟩⟩)
        clear hx ht hv1 hv2 hv3 HI
        obtain ⟨a0, a1, a2⟩ := rd3_at (HR.out.keep HG.out) HXX.out
        cases v1 with
        | false =>
          have hX : X = false := by rw [HS.out, HO.out]; rfl
          subst hX
          go_wp2_with fail
          go_big_quiet ((first | (go_at_call 82; first | with_reducible exact qt1 (rin_lit x.a 0 7 _ HV1.out _) | with_reducible exact qt1 (rin_lit x.b 1 256 _ HV2.out _)) | (go_at_call 110; first | with_reducible exact qt1 (vlr_lit x.c _ HV3.out _))))
          go_wp2_with fail
          go_ret
          exact ⟨rfl, grown_trans HG.out (grown_drewN _ _ _)⟩
        | true =>
        cases v2 with
        | false =>
          have hX : X = false := by rw [HS.out, HO.out]; rfl
          subst hX
          go_wp2_with fail
          go_big_quiet ((first | (go_at_call 82; first | with_reducible exact qt1 (rin_lit x.a 0 7 _ HV1.out _) | with_reducible exact qt1 (rin_lit x.b 1 256 _ HV2.out _)) | (go_at_call 110; first | with_reducible exact qt1 (vlr_lit x.c _ HV3.out _))))
          go_wp2_with fail
          go_ret
          exact ⟨rfl, grown_trans HG.out (grown_drewN _ _ _)⟩
        | true =>
        cases v3 with
        | false =>
          have hX : X = false := by rw [HS.out, HO.out]; rfl
          subst hX
          go_wp2_with fail
          go_big_quiet ((first | (go_at_call 82; first | with_reducible exact qt1 (rin_lit x.a 0 7 _ HV1.out _) | with_reducible exact qt1 (rin_lit x.b 1 256 _ HV2.out _)) | (go_at_call 110; first | with_reducible exact qt1 (vlr_lit x.c _ HV3.out _))))
          go_wp2_with fail
          go_ret
          exact ⟨rfl, grown_trans HG.out (grown_drewN _ _ _)⟩
        | true =>
        have hxa : 0 ≤ x.a ∧ x.a ≤ 7 := of_decide_eq_true HV1.out
        by_cases hk0 : k = 0
        · have ht0 : t = -1 := by rw [← HTT.out, hk0, lastA_zero]
          have hta : t < x.a := by omega
          have hkb : decide (0 < k) = false := decide_eq_false (by omega)
          clear hk0
          have HN : Hid (vCm (lastA (-1) L (k + 1)) (L.drop (k + 1)) = X ∧ -1 ≤ lastA (-1) L (k + 1)) := Lib.hid ⟨by rw [HS.out, HO.out, decide_eq_true hta]; rfl, by rw [HLA.out]; omega⟩
          go_wp2_with fail
          go_big_quiet ((first | (go_at_call 82; first | with_reducible exact qt1 (rin_lit x.a 0 7 _ HV1.out _) | with_reducible exact qt1 (rin_lit x.b 1 256 _ HV2.out _)) | (go_at_call 110; first | with_reducible exact qt1 (vlr_lit x.c _ HV3.out _))))
          go_wp2_with fail
          exact ⟨⟨k + 1, by omega, congrArg _ (by omega), HN, Lib.hid (grown_trans HG.out (grown_drewN _ _ _))⟩, by simp only [RowKit.intOf]; omega⟩
        · obtain ⟨j, rfl⟩ : ∃ j, k = j + 1 := ⟨k - 1, by omega⟩
          obtain ⟨y, hy⟩ : ∃ y, L[j]? = some y := ⟨_, List.getElem?_eq_getElem (by omega)⟩
          have hty : t = y.a := by rw [← HTT.out, lastA_succ hy]
          obtain ⟨z0, z1, z2⟩ := rd3_at (HR.out.keep HG.out) hy
          have hjp : (0 : Int) < ((j + 1 : Nat) : Int) := by omega
          have hjl : (j : Int) < (L.length : Int) := by omega
          have hj2 : ((j + 1 : Nat) : Int) - 1 = (j : Int) := by omega
          clear hy
          by_cases hta : t < x.a
          · have hc1 : ¬ x.a ≤ y.a := by omega
            have hc2 : decide (x.a ≤ y.a) = false := decide_eq_false hc1
            have HN : Hid (vCm (lastA (-1) L (j + 1 + 1)) (L.drop (j + 1 + 1)) = X ∧ -1 ≤ lastA (-1) L (j + 1 + 1)) := Lib.hid ⟨by rw [HS.out, HO.out, decide_eq_true hta]; rfl, by rw [HLA.out]; omega⟩
            go_wp2_with fail
            go_big_quiet ((first | (go_at_call 82; first | with_reducible exact qt1 (rin_lit x.a 0 7 _ HV1.out _) | with_reducible exact qt1 (rin_lit x.b 1 256 _ HV2.out _)) | (go_at_call 110; first | with_reducible exact qt1 (vlr_lit x.c _ HV3.out _))))
            go_wp2_with fail
            exact ⟨⟨j + 1 + 1, by omega, congrArg _ (by omega), HN, Lib.hid (grown_trans HG.out (grown_drewN _ _ _))⟩, by simp only [RowKit.intOf]; omega⟩
          · have hc1 : x.a ≤ y.a := by omega
            have hc2 : decide (x.a ≤ y.a) = true := decide_eq_true hc1
            have hX : X = false := by rw [HS.out, HO.out, decide_eq_false hta]; rfl
            subst hX
            go_wp2_with fail
            go_big_quiet ((first | (go_at_call 82; first | with_reducible exact qt1 (rin_lit x.a 0 7 _ HV1.out _) | with_reducible exact qt1 (rin_lit x.b 1 256 _ HV2.out _)) | (go_at_call 110; first | with_reducible exact qt1 (vlr_lit x.c _ HV3.out _))))
            go_wp2_with fail
            go_ret
            exact ⟨rfl, grown_trans HG.out (grown_drewN _ _ _)⟩
      · obtain rfl : k = L.length := by omega
        obtain rfl : X = true := by rw [← HI.out.1]; exact vCm_end
        go_wp2_with fail
        go_ret
        exact ⟨rfl, HG.out⟩
set_option maxRecDepth 100000 in
set_option maxHeartbeats 6400000 in
theorem rvalidA_any (A : Ad) (q : Nat → Prop) (w : World) (hA : AdOk w q A) :
    Calls Try.prog 51 #[A.val] w fun e w' => e = .returned (.bool (vAd A)) ∧ w.grownBy w' none := by
  have hm1 := Nat.le_trans hA.hl.1 hA.hl.2
  have hm2 := Nat.le_trans hA.hc.1 hA.hc.2
  obtain ⟨X, hX⟩ : ∃ X, vAd A = X := ⟨_, rfl⟩
  rw [hX]
  obtain ⟨r, q2, cp, L, C, pL, cL, pC, cC⟩ := A
  have hb := heap_alloc_new w (.cells #[.int .i64 r, .int .i64 q2, .bool cp, .slice pL L.length cL, .slice pC C.length cC] 38)
  have hg := World.grownBy_alloc w (.cells #[.int .i64 r, .int .i64 q2, .bool cp, .slice pL L.length cL, .slice pC C.length cC] 38) none
  have HL : Hid (Rd3 _ q (.slice pL L.length cL) L) := Lib.hid (hA.l.keep hg)
  have HC : Hid (Rd3 _ q (.slice pC C.length cC) C) := Lib.hid (hA.c.keep hg)
  have HB := Lib.hid (And.intro hb hg)
  simp only at hm1 hm2
  obtain ⟨v1, hv1⟩ : ∃ v1, decide ((1 : Int) ≤ r ∧ r ≤ 99) = v1 := ⟨_, rfl⟩
  obtain ⟨v2, hv2⟩ : ∃ v2, decide ((1 : Int) ≤ q2 ∧ q2 ≤ 1000000) = v2 := ⟨_, rfl⟩
  have HV1 := Lib.hid hv1
  have HV2 := Lib.hid hv2
  have HX : Hid (X = (v1 && (v2 && (decide (L.length ≤ 23) && (vRe r 0 L && vClaims C))))) := Lib.hid (by
    rw [← hX, ← hv1, ← hv2]
    unfold vAd vHd
    simp only [Bool.decide_and, Bool.and_assoc])
  clear hX hb hg hA hv1 hv2
  unfold Ad.val
  go_enter Try.func51, Try.ntmps51
  go_upto_region 1 with fail
  generalize w.alloc _ = wa at *
  obtain ⟨c0, c1, c2, c3, c4⟩ := row5 HB.out.1
  go_wp2_with fail
  refine (rin_lit r 1 99 _ HV1.out _).mono ?_
  rintro e w' ⟨rfl, rfl⟩
  cases v1 with
  | false =>
    obtain rfl : X = false := by rw [HX.out]; rfl
    go_wp2_with fail
    go_ret
    exact ⟨rfl, HB.out.2⟩
  | true =>
  go_wp2_with fail
  refine (rin_lit q2 1 1000000 _ HV2.out _).mono ?_
  rintro e w' ⟨rfl, rfl⟩
  cases v2 with
  | false =>
    obtain rfl : X = false := by rw [HX.out]; rfl
    go_wp2_with fail
    go_ret
    exact ⟨rfl, HB.out.2⟩
  | true =>
  by_cases h23 : 23 < L.length
  · obtain rfl : X = false := by rw [HX.out, decide_eq_false (show ¬ L.length ≤ 23 by omega)]; rfl
    go_wp2_with fail
    go_ret
    exact ⟨rfl, HB.out.2⟩
  obtain ⟨Y, hY⟩ : ∃ Y, vRe r 0 L = Y := ⟨_, rfl⟩
  have HXY : Hid (X = (Y && vClaims C)) := Lib.hid (by rw [HX.out, hY, decide_eq_true (show L.length ≤ 23 by omega)]; rfl)
  have I0 : Hid (vRe r (lastA 0 L 0) (L.drop 0) = Y ∧ 0 ≤ lastA 0 L 0) := Lib.hid (by rw [lastA_zero]; exact ⟨hY, by omega⟩)
  have G0 : Hid (wa.grownBy wa none) := Lib.hid (grown_refl _ _)
  clear hY HX
  go_wp2_with fail
  go_loopw [3] (fun a wr => ∃ k : Nat, k ≤ L.length ∧ a = .int .i64 (k : Int) ∧ Hid (vRe r (lastA 0 L k) (L.drop k) = Y ∧ 0 ≤ lastA 0 L k) ∧ Hid (wa.grownBy wr none)) (fun a _ => L.length - (RowKit.intOf a).toNat)
  case atStart => exact ⟨0, Nat.zero_le _, rfl, I0, G0⟩
  case round =>
    obtain ⟨k, hk, rfl, HI, HG⟩ := hrel
    clear I0 G0 c0 c1 c2 c3 c4
    obtain ⟨c0, c1, c2, c3, c4⟩ := row5 (kept_row HB.out.1 HG.out (by simp))
    by_cases hlt : k < L.length
    · have hlti : (k : Int) < (L.length : Int) := by omega
      obtain ⟨-, b, off, rfl, -, -⟩ := rd3_cells HL.out (by omega)
      obtain ⟨x, hx⟩ : ∃ x, L[k]? = some x := ⟨_, List.getElem?_eq_getElem hlt⟩
      obtain ⟨a0, a1, a2⟩ := rd3_at (HL.out.keep HG.out) hx
      have HS := Lib.hid (HI.out.1.symm.trans (vRe_step (r := r) (d := 0) hx))
      have HLA := Lib.hid (lastA_succ (d := 0) hx)
      have hlo := HI.out.2
      obtain ⟨t, ht⟩ : ∃ t, lastA 0 L k = t := ⟨_, rfl⟩
      rw [ht] at HS hlo
      have HTT := Lib.hid ht
      obtain ⟨v1, hv1⟩ : ∃ v1, decide ((1 : Int) ≤ x.a ∧ x.a ≤ 99) = v1 := ⟨_, rfl⟩
      obtain ⟨v2, hv2⟩ : ∃ v2, decide (x.a = r) = v2 := ⟨_, rfl⟩
      obtain ⟨v3, hv3⟩ : ∃ v3, decide ((1 : Int) ≤ x.b ∧ x.b ≤ 1000) = v3 := ⟨_, rfl⟩
      obtain ⟨v4, hv4⟩ : ∃ v4, decide ((0 : Int) ≤ x.c ∧ x.c ≤ 1000) = v4 := ⟨_, rfl⟩
      have HV1 := Lib.hid hv1
      have HV3 := Lib.hid hv3
      have HV4 := Lib.hid hv4
      have HO : Hid (okRe r t x = (v1 && (!v2 && (v3 && (v4 && decide (t < x.a)))))) := Lib.hid (by
        rw [← hv1, ← hv2, ← hv3, ← hv4]
        unfold okRe
        rw [Bool.eq_iff_iff]
        simp only [Bool.and_eq_true, Bool.not_eq_true', decide_eq_true_eq, decide_eq_false_iff_not]
        exact ⟨fun h => ⟨⟨by omega, h.2.1⟩, h.2.2.1, h.2.2.2.1, h.2.2.2.2, h.1⟩, fun h => ⟨h.2.2.2.2, h.1.2, h.2.1, h.2.2.1, h.2.2.2.1⟩⟩)
      have HEQ : Hid ((x.a == r) = v2 ∧ (x.a != r) = !v2) := Lib.hid (by rw [← hv2]; exact ⟨rfl, rfl⟩)
      have HBX := Lib.hid (heap_alloc_new wr (.cells #[.int .i64 x.a, .int .i64 x.b, .int .i64 x.c] 73))
      have HGA := Lib.hid (World.grownBy_alloc wr (.cells #[.int .i64 x.a, .int .i64 x.b, .int .i64 x.c] 73) none)
      have HXX := Lib.hid hx
      clear hx ht hv1 hv2 hv3 hv4 HI
      go_upto_region 7 with fail
      clear a0 a1 a2 c0 c1 c2 c3 c4
      generalize wr.alloc _ = w3 at *
      have HG3 := Lib.hid (grown_trans HG.out HGA.out)
      obtain ⟨c0, c1, c2, c3, c4⟩ := row5 (kept_row HB.out.1 HG3.out (by simp))
      obtain ⟨d0, d1, d2⟩ := row3 HBX.out
      clear HG HGA
      cases v1 with
      | false =>
        obtain rfl : X = false := by rw [HXY.out, HS.out, HO.out]; rfl
        go_big_quiet ((first | (go_at_call 82; first | with_reducible exact qt1 (rin_lit x.a 1 99 _ HV1.out _) | with_reducible exact qt1 (rin_lit x.b 1 1000 _ HV3.out _) | with_reducible exact qt1 (rin_lit x.c 0 1000 _ HV4.out _))))
        go_wp2_with fail
        go_ret
        exact ⟨rfl, grown_trans HB.out.2 (grown_trans HG3.out (grown_drewN _ _ _))⟩
      | true =>
      cases v2 with
      | true =>
        have he1 : (x.a == r) = true := HEQ.out.1
        have he2 : (x.a != r) = false := HEQ.out.2
        obtain rfl : X = false := by rw [HXY.out, HS.out, HO.out]; rfl
        go_big_quiet ((first | (go_at_call 82; first | with_reducible exact qt1 (rin_lit x.a 1 99 _ HV1.out _) | with_reducible exact qt1 (rin_lit x.b 1 1000 _ HV3.out _) | with_reducible exact qt1 (rin_lit x.c 0 1000 _ HV4.out _))))
        go_wp2_with fail
        go_ret
        exact ⟨rfl, grown_trans HB.out.2 (grown_trans HG3.out (grown_drewN _ _ _))⟩
      | false =>
      have he1 : (x.a == r) = false := HEQ.out.1
      have he2 : (x.a != r) = true := HEQ.out.2
      cases v3 with
      | false =>
        obtain rfl : X = false := by rw [HXY.out, HS.out, HO.out]; rfl
        go_big_quiet ((first | (go_at_call 82; first | with_reducible exact qt1 (rin_lit x.a 1 99 _ HV1.out _) | with_reducible exact qt1 (rin_lit x.b 1 1000 _ HV3.out _) | with_reducible exact qt1 (rin_lit x.c 0 1000 _ HV4.out _))))
        go_wp2_with fail
        go_ret
        exact ⟨rfl, grown_trans HB.out.2 (grown_trans HG3.out (grown_drewN _ _ _))⟩
      | true =>
      cases v4 with
      | false =>
        obtain rfl : X = false := by rw [HXY.out, HS.out, HO.out]; rfl
        go_big_quiet ((first | (go_at_call 82; first | with_reducible exact qt1 (rin_lit x.a 1 99 _ HV1.out _) | with_reducible exact qt1 (rin_lit x.b 1 1000 _ HV3.out _) | with_reducible exact qt1 (rin_lit x.c 0 1000 _ HV4.out _))))
        go_wp2_with fail
        go_ret
        exact ⟨rfl, grown_trans HB.out.2 (grown_trans HG3.out (grown_drewN _ _ _))⟩
      | true =>
      have hxa : 1 ≤ x.a ∧ x.a ≤ 99 := of_decide_eq_true HV1.out
      by_cases hk0 : k = 0
      · have ht0 : t = 0 := by rw [← HTT.out, hk0, lastA_zero]
        have hta : t < x.a := by omega
        have hkb : decide (0 < k) = false := decide_eq_false (by omega)
        clear hk0
        have HN : Hid (vRe r (lastA 0 L (k + 1)) (L.drop (k + 1)) = Y ∧ 0 ≤ lastA 0 L (k + 1)) := Lib.hid ⟨by rw [HS.out, HO.out, decide_eq_true hta]; rfl, by rw [HLA.out]; omega⟩
        go_big_quiet ((first | (go_at_call 82; first | with_reducible exact qt1 (rin_lit x.a 1 99 _ HV1.out _) | with_reducible exact qt1 (rin_lit x.b 1 1000 _ HV3.out _) | with_reducible exact qt1 (rin_lit x.c 0 1000 _ HV4.out _))))
        go_wp2_with fail
        exact ⟨⟨k + 1, by omega, congrArg _ (by omega), HN, Lib.hid (grown_trans HG3.out (grown_drewN _ _ _))⟩, by simp only [RowKit.intOf]; omega⟩
      · obtain ⟨j, rfl⟩ : ∃ j, k = j + 1 := ⟨k - 1, by omega⟩
        obtain ⟨y, hy⟩ : ∃ y, L[j]? = some y := ⟨_, List.getElem?_eq_getElem (by omega)⟩
        have hty : t = y.a := by rw [← HTT.out, lastA_succ hy]
        obtain ⟨z0, z1, z2⟩ := rd3_at (HL.out.keep HG3.out) hy
        have hjp : (0 : Int) < ((j + 1 : Nat) : Int) := by omega
        have hjl : (j : Int) < (L.length : Int) := by omega
        have hj2 : ((j + 1 : Nat) : Int) - 1 = (j : Int) := by omega
        clear hy
        by_cases hta : t < x.a
        · have hc1 : ¬ x.a ≤ y.a := by omega
          have hc2 : decide (x.a ≤ y.a) = false := decide_eq_false hc1
          have HN : Hid (vRe r (lastA 0 L (j + 1 + 1)) (L.drop (j + 1 + 1)) = Y ∧ 0 ≤ lastA 0 L (j + 1 + 1)) := Lib.hid ⟨by rw [HS.out, HO.out, decide_eq_true hta]; rfl, by rw [HLA.out]; omega⟩
          go_big_quiet ((first | (go_at_call 82; first | with_reducible exact qt1 (rin_lit x.a 1 99 _ HV1.out _) | with_reducible exact qt1 (rin_lit x.b 1 1000 _ HV3.out _) | with_reducible exact qt1 (rin_lit x.c 0 1000 _ HV4.out _))))
          go_wp2_with fail
          exact ⟨⟨j + 1 + 1, by omega, congrArg _ (by omega), HN, Lib.hid (grown_trans HG3.out (grown_drewN _ _ _))⟩, by simp only [RowKit.intOf]; omega⟩
        · have hc1 : x.a ≤ y.a := by omega
          have hc2 : decide (x.a ≤ y.a) = true := decide_eq_true hc1
          obtain rfl : X = false := by rw [HXY.out, HS.out, HO.out, decide_eq_false hta]; rfl
          go_big_quiet ((first | (go_at_call 82; first | with_reducible exact qt1 (rin_lit x.a 1 99 _ HV1.out _) | with_reducible exact qt1 (rin_lit x.b 1 1000 _ HV3.out _) | with_reducible exact qt1 (rin_lit x.c 0 1000 _ HV4.out _))))
          go_wp2_with fail
          go_ret
          exact ⟨rfl, grown_trans HB.out.2 (grown_trans HG3.out (grown_drewN _ _ _))⟩
    · obtain rfl : k = L.length := by omega
      obtain rfl : Y = true := by rw [← HI.out.1]; exact vRe_end
      go_wp2_with fail
      have hC := rvc_any C pC cC q wr (HC.out.keep HG.out) hm2
      rw [show vClaims C = X by rw [HXY.out]; rfl] at hC
      refine hC.mono ?_
      rintro e w4 ⟨rfl, hg⟩
      have HF := Lib.hid (grown_trans HB.out.2 (grown_trans HG.out hg))
      clear hg hC
      go_wp2_with fail
      go_ret
      exact ⟨rfl, HF.out⟩
end Go.Proofs.Ytnpkihioklpnmaa

/- The reference's Find, Same, Check of databases; big. -/
namespace Go.Proofs.Ytnpkihioklpnmaa
open Go.RowKit Bs
structure D1 (W : World) (l : List Ad) (p : Option Addr) (c : Nat) (w : World) : Prop where
  db : RdA w (· < W.heap.size) (.slice p l.length c) l
  d : w.heap[W.heap.size]? = some (.cells #[.slice p l.length c] 25 (0, 0))
  gr : W.grownBy w none
set_option maxRecDepth 100000 in
theorem D1.keep {W w w1 : World} {l : List Ad} {p : Option Addr} {c : Nat} (h : D1 W l p c w) (g : w.grownBy w1 none) : D1 W l p c w1 := ⟨h.db.keep g, kept_row h.d g (by simp), grown_trans h.gr g⟩
set_option maxRecDepth 100000 in
theorem d1_start {w : World} {l : List Ad} {p : Option Addr} {c : Nat} {q : Nat → Prop} (hR : RdA w q (.slice p l.length c) l) : D1 w l p c (w.alloc (.cells #[.slice p l.length c] 25)) := by
  obtain ⟨k1, k2⟩ := tone_box w #[.slice p l.length c] 25
  exact ⟨(RdA.old hR).keep k2, k1, k2⟩
/-- Has an advert too long lists? -/
def bg1 (A : Ad) : Bool := decide (60 < A.L.length ∨ 60 < A.C.length)
def bigD (l : List Ad) : Bool := if l.any bg1 = true then true else decide (120 < l.length)
set_option maxRecDepth 100000 in
theorem big_sm {l : List Ad} (h : bigD l = false) : l.length ≤ 120 ∧ ∀ A ∈ l, A.L.length ≤ 60 ∧ A.C.length ≤ 60 := by
  unfold bigD at h
  by_cases e : l.any bg1 = true
  · rw [if_pos e] at h; cases h
  · rw [if_neg e] at h
    refine ⟨by have := of_decide_eq_false h; omega, fun A hA => ?_⟩
    have h2 := List.any_eq_false.1 (by simpa using e) A hA
    unfold bg1 at h2
    have h4 : ¬ (60 < A.L.length ∨ 60 < A.C.length) := fun h3 => h2 (decide_eq_true h3)
    omega
set_option maxRecDepth 100000 in
theorem anyD_take {l : List Ad} {P : Ad → Bool} {k : Nat} {x : Ad} (h : (l.take k).any P = false) (hx : l[k]? = some x) (hp : P x = false) : (l.take (k + 1)).any P = false := by
  rw [List.take_add_one, hx, List.any_append, h]
  simp [hp]
set_option maxRecDepth 100000 in
theorem anyD_hit {l : List Ad} {P : Ad → Bool} {k : Nat} {x : Ad} (hx : l[k]? = some x) (hp : P x = true) : l.any P = true := List.any_eq_true.2 ⟨x, List.mem_of_getElem? hx, hp⟩
set_option maxRecDepth 100000 in
set_option maxHeartbeats 3200000 in
theorem dbig_any (l : List Ad) (p : Option Addr) (c : Nat) (q : Nat → Prop) (w : World) (hR : RdA w q (.slice p l.length c) l) (hm : l.length ≤ 9223372036854775807) :
    Calls Try.prog 13 #[.agg #[.slice p l.length c]] w fun e w' => e = .returned (.bool (bigD l)) ∧ w.grownBy w' none := by
  have H0 := Lib.hid (d1_start hR)
  clear hR
  obtain ⟨X, hX⟩ : ∃ X, bigD l = X := ⟨_, rfl⟩
  have HX := Lib.hid hX
  rw [hX]
  clear hX
  go_enter Try.func13, Try.ntmps13
  go_upto_region 1 with fail
  generalize w.alloc _ = wa at *
  go_wp2_with fail
  go_loopw [3] (fun a wr => ∃ k : Nat, k ≤ l.length ∧ a = .int .i64 (k : Int) ∧ Hid ((l.take k).any bg1 = false) ∧ Hid (D1 w l p c wr)) (fun a _ => l.length - (RowKit.intOf a).toNat)
  case atStart => exact ⟨0, Nat.zero_le _, rfl, Lib.hid rfl, H0⟩
  case round =>
  obtain ⟨k, hk, rfl, HN, K⟩ := hrel
  clear H0
  have c0 : wr.cell? ⟨w.heap.size, 0, none⟩ = some (.slice p l.length c) := cell_of_row _ _ _ _ _ _ K.out.d
  by_cases hlt : k < l.length
  · have hltI : (k : Int) < (l.length : Int) := by omega
    obtain ⟨-, b, off, rfl, -, -⟩ := rda_cells K.out.db (by omega)
    obtain ⟨A, hA⟩ : ∃ A, l[k]? = some A := ⟨_, List.getElem?_eq_getElem hlt⟩
    obtain ⟨a0, a1, a2, a3, a4⟩ := rda_at K.out.db hA
    have HA := Lib.hid hA
    clear hA
    by_cases e1 : 60 < A.L.length
    · have e1' : (60 : Int) < (A.L.length : Int) := by omega
      obtain rfl : true = X := by rw [← HX.out]; unfold bigD; rw [if_pos (anyD_hit HA.out (decide_eq_true (Or.inl e1)))]
      clear e1
      go_wp2_with fail
      go_ret
      exact ⟨rfl, K.out.gr⟩
    · have e1' : ¬ (60 : Int) < (A.L.length : Int) := by omega
      by_cases e2 : 60 < A.C.length
      · have e2' : (60 : Int) < (A.C.length : Int) := by omega
        obtain rfl : true = X := by rw [← HX.out]; unfold bigD; rw [if_pos (anyD_hit HA.out (decide_eq_true (Or.inr e2)))]
        clear e1 e2
        go_wp2_with fail
        go_ret
        exact ⟨rfl, K.out.gr⟩
      · have e2' : ¬ (60 : Int) < (A.C.length : Int) := by omega
        have HN2 := Lib.hid (anyD_take HN.out HA.out (decide_eq_false (by omega)))
        clear e1 e2
        go_wp2_with fail
        exact ⟨⟨k + 1, by omega, congrArg _ (by omega), HN2, K⟩, by simp only [RowKit.intOf]; omega⟩
  · obtain rfl : k = l.length := by omega
    have hN := HN.out
    rw [List.take_length] at hN
    have HXX : Hid (X = decide ((120 : Int) < (l.length : Int))) := Lib.hid (by rw [← HX.out]; unfold bigD; rw [hN, if_neg (by decide)]; exact decide_eq_decide.2 (by omega))
    clear hN
    by_cases e3 : (120 : Int) < (l.length : Int)
    · obtain rfl : X = true := by rw [HXX.out, decide_eq_true e3]
      go_wp2_with fail
      go_ret
      exact ⟨rfl, K.out.gr⟩
    · obtain rfl : X = false := by rw [HXX.out, decide_eq_false e3]
      go_wp2_with fail
      go_ret
      exact ⟨rfl, K.out.gr⟩
end Go.Proofs.Ytnpkihioklpnmaa

/- The reference's Find of databases. -/
namespace Go.Proofs.Ytnpkihioklpnmaa
open Go.RowKit Bs
set_option maxRecDepth 100000 in
set_option maxHeartbeats 3200000 in
theorem rfind_any (l : List Ad) (r : Int) (p : Option Addr) (c : Nat) (q : Nat → Prop) (w : World) (hR : RdA w q (.slice p l.length c) l) (hm : l.length ≤ 9223372036854775807) :
    Calls Try.prog 20 #[.agg #[.slice p l.length c], .int .i64 r] w fun e w' => FinPost l r q w e w' := by
  have H0 := Lib.hid (fb_start hR)
  have HR := Lib.hid hR
  clear hR
  go_enter Try.func20, Try.ntmps20
  go_upto_region 1 with fail
  generalize (w.alloc _).alloc _ = wa at *
  go_wp2_with fail
  go_loopw [6] (fun a wr => ∃ k : Nat, k ≤ l.length ∧ a = .int .i64 (k : Int) ∧ Hid ((l.take k).find? (isR r) = none) ∧ Hid (FB w l p c wr)) (fun a _ => l.length - (RowKit.intOf a).toNat)
  case atStart => exact ⟨0, Nat.zero_le _, rfl, Lib.hid rfl, H0⟩
  case round =>
  obtain ⟨k, hk, rfl, HN, K⟩ := hrel
  clear H0
  have c0 : wr.cell? ⟨w.heap.size, 0, none⟩ = some (.slice p l.length c) := cell_of_row _ _ _ _ _ _ K.out.d
  obtain ⟨z0, z1, z2, z3, z4⟩ := row5 K.out.z
  have f0 := frozen_of_row _ _ 0 _ _ K.out.z
  have f1 := frozen_of_row _ _ 1 _ _ K.out.z
  have f2 := frozen_of_row _ _ 2 _ _ K.out.z
  have f3 := frozen_of_row _ _ 3 _ _ K.out.z
  have f4 := frozen_of_row _ _ 4 _ _ K.out.z
  by_cases hlt : k < l.length
  · have hltI : (k : Int) < (l.length : Int) := by omega
    obtain ⟨-, b, off, rfl, -, -⟩ := rda_cells K.out.db (by omega)
    obtain ⟨A, hA⟩ : ∃ A, l[k]? = some A := ⟨_, List.getElem?_eq_getElem hlt⟩
    obtain ⟨a0, a1, a2, a3, a4⟩ := rda_at K.out.db hA
    have HA := Lib.hid (And.intro hA (List.mem_of_getElem? hA))
    clear hA
    by_cases e : A.r = r
    · have e' : (A.r == r) = true := by simpa using e
      have HF := Lib.hid (fn_hit HN.out HA.out.1 e)
      obtain ⟨t1, t2⟩ := store5 (.int .i64 A.r) (.int .i64 A.q) (.bool A.cp) (.slice A.pL A.L.length A.cL) (.slice A.pC A.C.length A.cC) K.out.z
      have HT := Lib.hid (And.intro t1 (And.intro (grown_new K.out.gr t2 (by omega)) (((((HR.out.ok A HA.out.2).and.keep K.out.gr).grown t2 (fun b hb e => by have := Option.some.inj e; have := hb.2; omega))).mono (fun _ hb => hb.1))))
      clear t1 t2 K e
      go_wp2_with fail
      refine bodyPost_ret (res_adv_b rfl _ _ (w.heap.size + 1) _ _ _ _ _ rfl HT.out.1) rfl ?_
      exact ⟨A, by rw [HF.out]; rfl, by rw [HF.out]; exact ⟨rfl, rfl, rfl, rfl, rfl⟩, HT.out.2.2, HT.out.2.1⟩
    · have e' : (A.r == r) = false := by simpa using e
      have HN2 : Hid ((l.take (k + 1)).find? (isR r) = none) := Lib.hid (by rw [fn_take HN.out HA.out.1, if_neg e])
      clear e HN
      go_wp2_with fail
      exact ⟨⟨k + 1, by omega, congrArg _ (by omega), HN2, K⟩, by simp only [RowKit.intOf]; omega⟩
  · obtain rfl : k = l.length := by omega
    have HF := Lib.hid (fn_end HN.out)
    obtain ⟨t1, t2⟩ := store5 (.int .i64 0) (.int .i64 0) (.bool false) (.slice none 0 0) (.slice none 0 0) K.out.z
    have HT := Lib.hid (And.intro t1 (grown_new K.out.gr t2 (by omega)))
    clear t1 t2 K HN
    go_wp2_with fail
    refine bodyPost_ret (res_adv_b rfl _ _ (w.heap.size + 1) _ _ _ _ _ rfl HT.out.1) rfl ?_
    exact ⟨zAd, by rw [HF.out]; rfl, by rw [HF.out]; exact ⟨rfl, rfl, rfl, rfl, rfl⟩, zAd_ok _ _, HT.out.2⟩
end Go.Proofs.Ytnpkihioklpnmaa

/- Parts of the proof, packed: IdPln, IdVpl, IdPlc, IdSeM, ToHasF, IdSeK, ToUntil, ToUnt2, IdHas. -/
import Derived.Test.YtlgmankojgjfjaaDoorBk4
import Derived.Test.YtlgmankojgjfjaaDoorBk3
import Derived.Test.YtlgmankojgjfjaaDoorBk1
import Derived.Test.YtlgmankojgjfjaaDoorBk2
import Derived.BigQuiet
import Derived.Deep.CutBlock
import Derived.Deep.RegionHeld
/- identify: Plan. -/
namespace Go.Proofs.YtlgmankojgjfjaaDoor
open Go.RowKit Bs
set_option maxRecDepth 100000 in
theorem res_pl_e {fn : Func} {p u : Tmp} (h : fn.results = #[.cell p 30, .tmp u]) (tmps : Array Value) (w : World) (g : Nat) (x y z : Value) (hp : tmps.getD p undef = .pointer (some ⟨g, 0, none⟩)) (hg : w.heap[g]? = some (.cells #[x, y, z] 30 (0, 0))) :
    (results fn tmps).run Tryd.prog w = .ok (.tuple #[.agg #[x, y, z], tmps.getD u undef]) w := by
  have hp' : tmps[p]?.getD undef = .pointer (some ⟨g, 0, none⟩) := by simpa using hp
  simp [results, h, hp', asAddr, run_loadVar_row w g 30 30 #[x, y, z] (0, 0) _ hg Tryd.underlying30 rfl (by kernel_rfl)]
set_option maxRecDepth 100000 in
theorem store3p {w : World} {b : Nat} {t : TypeId} {x y z : Value} (u0 u1 u2 : Value) (h : w.heap[b]? = some (.cells #[x, y, z] t (0, 0))) :
    (((w.setCell ⟨b, 0, none⟩ u0).setCell ⟨b, 1, none⟩ u1).setCell ⟨b, 2, none⟩ u2).heap[b]? = some (.cells #[u0, u1, u2] t (0, 0)) ∧ w.grownBy (((w.setCell ⟨b, 0, none⟩ u0).setCell ⟨b, 1, none⟩ u1).setCell ⟨b, 2, none⟩ u2) (some b) := by
  have h1 := heap_setCell_same w b 0 _ _ u0 h
  have h2 := heap_setCell_same _ b 1 _ _ u1 h1
  have h3 := heap_setCell_same _ b 2 _ _ u2 h2
  refine ⟨h3, ?_⟩
  exact grown_trans (grown_trans (grown_setCell w ⟨b, 0, none⟩ u0) (grown_setCell _ ⟨b, 1, none⟩ u1)) (grown_setCell _ ⟨b, 2, none⟩ u2)
set_option maxRecDepth 100000 in
theorem row3i {w : World} {b : Nat} {t : TypeId} {x y z : Value} (h : w.heap[b]? = some (.cells #[x, y, z] t (0, 0))) : (w.cell? ⟨b, 0, none⟩ = some x ∧ w.cell? ⟨b, 1, none⟩ = some y ∧ w.cell? ⟨b, 2, none⟩ = some z) ∧ ∀ o, w.frozen? ⟨b, o, none⟩ = false :=
  ⟨⟨cell_of_row _ _ _ _ _ _ h, cell_of_row _ _ _ _ _ _ h, cell_of_row _ _ _ _ _ _ h⟩, fun o => frozen_of_row _ _ o _ _ h⟩
/-- The error of Plan; its plan. -/
def plnX (l : List Od) (sub : Int) : Int := if ckO l ≠ 0 then ckO l else if inV sub 0 7 = false then 2 else if 24 < (e2K l sub 257).length then 3 else 0
def plnS (l : List Od) (sub : Int) : Int := if plnX l sub = 0 then sub else 0
def plnL (l : List Od) (sub : Int) : Int := if plnX l sub = 0 then lnK l sub else 0
def plnE (l : List Od) (sub : Int) : List Ed := if plnX l sub = 0 then e2K l sub 257 else []
/-- A plan in memory of the call's own. -/
def PlnPost (l : List Od) (sub : Int) (w : World) (e : Ending) (w' : World) : Prop :=
  ∃ p c, e = .returned (.tuple #[.agg #[.int .i64 (plnS l sub), .int .i64 (plnL l sub), .slice p (plnE l sub).length c], .int .i64 (plnX l sub)]) ∧ w'.ownsRow (w.heap.size + 1) 39 2 (.slice p (plnE l sub).length c) (plnE l sub).length ((plnE l sub).flatMap edC) ∧ w.grownBy w' none
set_option maxRecDepth 100000 in
theorem pln_no {l : List Od} {sub : Int} {x : Int} (h : plnX l sub = x) (hx : x ≠ 0) {w w' : World} (g : w.grownBy w' none) : PlnPost l sub w (.returned (.tuple #[.agg #[.int .i64 0, .int .i64 0, .slice none 0 0], .int .i64 x])) w' := by
  have h1 : plnX l sub ≠ 0 := by rw [h]; exact hx
  refine ⟨none, 0, ?_, ?_, g⟩
  · unfold plnS plnL plnE
    rw [if_neg h1, if_neg h1, if_neg h1, h]; rfl
  · unfold plnE
    rw [if_neg h1]
    exact World.ownsRow_nil _ _ _ _
set_option maxRecDepth 100000 in
set_option maxHeartbeats 6400000 in
theorem iplan_any (l : List Od) (p : Option Addr) (c : Nat) (sub : Int) (q : Nat → Prop) (w : World) (hR : RdF w q (.slice p l.length c) l.length (l.flatMap odC)) (hm : l.length ≤ 9223372036854775807) :
    Calls Tryd.prog 42 #[.slice p l.length c, .int .i64 sub] w fun e w' => PlnPost l sub w e w' := by
  obtain ⟨k1, k2⟩ := tone_box w #[.int .i64 0, .int .i64 0, .slice none 0 0] 30
  have H0 := Lib.hid (And.intro k1 (And.intro k2 (hR.old.keep k2)))
  have hsz : w.heap.size + 1 = (w.alloc (.cells #[.int .i64 0, .int .i64 0, .slice none 0 0] 30)).heap.size := by simp
  have HSZ := Lib.hid (Nat.le_of_eq hsz)
  clear k1 k2 hR hsz
  go_enter Tryd.func42, Tryd.ntmps42
  go_upto_region 1 with fail
  generalize w.alloc _ = wa at *
  go_wp2_with fail
  refine (icheck_any l p c _ wa H0.out.2.2 hm).mono ?_
  rintro e w1 ⟨rfl, hg⟩
  have H1 := Lib.hid (And.intro (kept_row H0.out.1 hg (by simp)) (And.intro (grown_trans H0.out.2.1 hg) (And.intro (H0.out.2.2.keep hg) (Nat.le_trans HSZ.out hg.size))))
  clear hg H0 HSZ
  by_cases h0 : ckO l = 0
  case neg =>
    have h0' : (ckO l != 0) = true := by simpa using h0
    have HX : Hid (plnX l sub = ckO l) := Lib.hid (by unfold plnX; rw [if_pos h0])
    have HN := Lib.hid h0
    clear h0
    obtain ⟨⟨c0, c1, c2⟩, f⟩ := row3i H1.out.1
    have f0 := f 0
    have f1 := f 1
    have f2 := f 2
    obtain ⟨t1, t2⟩ := store3p (.int .i64 0) (.int .i64 0) (.slice none 0 0) H1.out.1
    have HT := Lib.hid (And.intro t1 (grown_new H1.out.2.1 t2 (Nat.le_refl _)))
    clear t1 t2 f
    go_wp2_with fail
    refine bodyPost_ret (res_pl_e rfl _ _ w.heap.size _ _ _ rfl HT.out.1) rfl ?_
    exact pln_no HX.out HN.out HT.out.2
  have H0 := Lib.hid h0
  have hl := (ck_any h0).1
  rw [h0]
  clear h0
  obtain ⟨b, hb⟩ : ∃ b, inV sub 0 7 = b := ⟨_, rfl⟩
  have HB := Lib.hid hb
  clear hb
  go_wp2_with fail
  refine (ivs_lit sub _ HB.out w1).mono ?_
  rintro e w' ⟨rfl, rfl⟩
  cases b
  case false =>
    have HX : Hid (plnX l sub = 2) := Lib.hid (by unfold plnX; rw [if_neg (fun h => h H0.out), if_pos HB.out])
    obtain ⟨⟨c0, c1, c2⟩, f⟩ := row3i H1.out.1
    have f0 := f 0
    have f1 := f 1
    have f2 := f 2
    obtain ⟨t1, t2⟩ := store3p (.int .i64 0) (.int .i64 0) (.slice none 0 0) H1.out.1
    have HT := Lib.hid (And.intro t1 (grown_new H1.out.2.1 t2 (Nat.le_refl _)))
    clear t1 t2 f
    go_wp2_with fail
    refine bodyPost_ret (res_pl_e rfl _ _ w.heap.size _ _ _ rfl HT.out.1) rfl ?_
    exact pln_no HX.out (by decide) HT.out.2
  go_wp2_with fail
  refine (ilen_any l p c sub _ w1 H1.out.2.2.1 hm).mono ?_
  rintro e w2 ⟨rfl, hg⟩
  have H2 := Lib.hid (And.intro (kept_row H1.out.1 hg (by simp)) (And.intro (grown_trans H1.out.2.1 hg) (And.intro (H1.out.2.2.1.keep hg) (Nat.le_trans H1.out.2.2.2 hg.size))))
  have HL : Hid (lnO l sub = lnK l sub) := Lib.hid (if_pos H0.out)
  rw [HL.out]
  clear hg H1 HL
  go_wp2_with fail
  refine (iedges_any l p c sub _ w2 H2.out.2.2.1 H0.out).mono ?_
  rintro e w3 ⟨p3, c3, rfl, ho, hg⟩
  have H3 := Lib.hid (And.intro (kept_row H2.out.1 hg (by simp)) (And.intro (grown_trans H2.out.2.1 hg) (own_low ho H2.out.2.2.2)))
  clear hg ho H2
  obtain ⟨E, hE⟩ : ∃ E, e2K l sub 257 = E := ⟨_, rfl⟩
  have HE := Lib.hid hE
  rw [hE] at H3 ⊢
  clear hE
  obtain ⟨n1, n2⟩ := tone_box w3 #[.int .i64 sub, .int .i64 (lnK l sub), .slice p3 E.length c3] 30
  have H4 : Hid (_ ∧ _ ∧ _ ∧ _) := Lib.hid (And.intro (kept_row H3.out.1 n2 (by simp)) (And.intro (grown_trans H3.out.2.1 n2) (And.intro (H3.out.2.2.kept n2 (by cases (Value.slice p3 E.length c3).ownBlock <;> simp)) n1)))
  clear n1 n2 H3
  go_upto_region 7 with fail
  generalize w3.alloc _ = w4 at *
  obtain ⟨⟨d0, d1, d2⟩, -⟩ := row3i H4.out.2.2.2
  obtain ⟨⟨c0, c1, c2⟩, f⟩ := row3i H4.out.1
  have f0 := f 0
  have f1 := f 1
  have f2 := f 2
  clear f
  by_cases h24 : 24 < E.length
  · have h24' : (24 : Int) < (E.length : Int) := by omega
    have HX : Hid (plnX l sub = 3) := Lib.hid (by unfold plnX; rw [if_neg (fun h => h H0.out), if_neg (by rw [HB.out]; decide), HE.out, if_pos h24])
    obtain ⟨t1, t2⟩ := store3p (.int .i64 0) (.int .i64 0) (.slice none 0 0) H4.out.1
    have HT := Lib.hid (And.intro t1 (grown_new H4.out.2.1 t2 (Nat.le_refl _)))
    clear t1 t2 h24
    go_wp2_with fail
    refine bodyPost_ret (res_pl_e rfl _ _ w.heap.size _ _ _ rfl HT.out.1) rfl ?_
    exact pln_no HX.out (by decide) HT.out.2
  · have h24' : ¬ (24 : Int) < (E.length : Int) := by omega
    have HX : Hid (plnX l sub = 0) := Lib.hid (by unfold plnX; rw [if_neg (fun h => h H0.out), if_neg (by rw [HB.out]; decide), HE.out, if_neg h24])
    obtain ⟨t1, t2⟩ := store3p (.int .i64 sub) (.int .i64 (lnK l sub)) (.slice p3 E.length c3) H4.out.1
    have HT := Lib.hid t1
    have HP : Hid (PlnPost l sub w (.returned (.tuple #[.agg #[.int .i64 sub, .int .i64 (lnK l sub), .slice p3 E.length c3], .int .i64 0])) _) := Lib.hid ⟨p3, c3, by unfold plnS plnL plnE; rw [if_pos HX.out, if_pos HX.out, if_pos HX.out, HX.out, HE.out], by
      unfold plnE
      rw [if_pos HX.out, HE.out]
      refine H4.out.2.2.1.kept t2 ?_
      cases hv : (Value.slice p3 E.length c3).ownBlock with
      | none => exact .inl rfl
      | some g =>
        refine .inr fun e => ?_
        have := (H4.out.2.2.1.lt g hv).1
        have := Option.some.inj e
        omega, grown_new H4.out.2.1 t2 (Nat.le_refl _)⟩
    clear t1 t2 h24
    go_wp2_with fail
    refine bodyPost_ret (res_pl_e rfl _ _ w.heap.size _ _ _ rfl HT.out) rfl ?_
    exact HP.out
end Go.Proofs.YtlgmankojgjfjaaDoor

/- identify: ValidPlan. -/
namespace Go.Proofs.YtlgmankojgjfjaaDoor
open Go.RowKit Bs
set_option maxRecDepth 100000 in
set_option maxHeartbeats 6400000 in
theorem ivplan_any (sub n : Int) (E : List Ed) (p : Option Addr) (c : Nat) (q : Nat → Prop) (w : World) (hR : RdF w q (.slice p E.length c) E.length (E.flatMap edC)) (hm : E.length ≤ 9223372036854775807) :
    Calls Tryd.prog 26 #[.agg #[.int .i64 sub, .int .i64 n, .slice p E.length c]] w fun e w' => e = .returned (.bool (vPl sub n E)) ∧ w.grownBy w' none := by
  obtain ⟨k1, k2⟩ := tone_box w #[.int .i64 sub, .int .i64 n, .slice p E.length c] 30
  have H0 := Lib.hid (And.intro k1 (And.intro k2 (hR.keep k2)))
  have e1 : EnterF 47 := enters_of Tryd.func47 (by kernel_rfl) rfl
  have E1 := Lib.hid e1
  clear k1 k2 hR e1
  go_enter Tryd.func26, Tryd.ntmps26
  go_upto_region 1 with fail
  generalize w.alloc _ = w1 at *
  obtain ⟨⟨d0, d1, d2⟩, -⟩ := row3i H0.out.1
  obtain ⟨b1, hb1⟩ : ∃ b, inV sub 0 7 = b := ⟨_, rfl⟩
  have B1 := Lib.hid hb1
  clear hb1
  go_wp2_with fail
  refine (ivs_lit sub _ B1.out w1).mono ?_
  rintro e w' ⟨rfl, rfl⟩
  cases b1
  case false =>
    go_wp2_with fail
    go_ret
    exact ⟨by unfold vPl; rw [B1.out]; rfl, H0.out.2.1⟩
  by_cases h24 : 24 < E.length
  · have h24' : (24 : Int) < (E.length : Int) := by omega
    go_wp2_with fail
    go_ret
    exact ⟨by unfold vPl; rw [decide_eq_false (show ¬ E.length ≤ 24 by omega)]; simp, H0.out.2.1⟩
  have h24' : ¬ (24 : Int) < (E.length : Int) := by omega
  obtain ⟨b2, hb2⟩ : ∃ b, vl n = b := ⟨_, rfl⟩
  have B2 := Lib.hid hb2
  clear hb2
  go_wp2_with fail
  refine (vlp_lit n _ B2.out w1).mono ?_
  rintro e w' ⟨rfl, rfl⟩
  cases b2
  case true =>
    have HP : Hid (vPl sub n E = (!E.any wrE && ascB ltE E && !repI (rsE E))) := Lib.hid (by
      unfold vPl rsE
      rw [B1.out, B2.out, decide_eq_true (show E.length ≤ 24 by omega)]
      simp)
    go_wp2_with fail
    refine (icontE_any 47 #[] wrE E1.out E p c _ w1 H0.out.2.2 hm (fun r w' _ => iwre_any r w')).mono ?_
    rintro e w2 ⟨rfl, hg⟩
    have H2 := Lib.hid (And.intro (kept_row H0.out.1 hg (by simp)) (And.intro (grown_trans H0.out.2.1 hg) (H0.out.2.2.keep hg)))
    clear hg
    clear d0 d1 d2
    obtain ⟨⟨d0, d1, d2⟩, -⟩ := row3i H2.out.1
    cases f1 : E.any wrE
    case true =>
      have F1 := Lib.hid f1
      clear f1
      go_wp2_with fail
      go_ret
      exact ⟨by rw [HP.out, F1.out]; rfl, H2.out.2.1⟩
    have F1 := Lib.hid f1
    clear f1
    go_wp2_with fail
    refine (iascE_any E p c _ w2 H2.out.2.2 hm).mono ?_
    rintro e w3 ⟨rfl, hg⟩
    have H3 := Lib.hid (And.intro (kept_row H2.out.1 hg (by simp)) (And.intro (grown_trans H2.out.2.1 hg) (H2.out.2.2.keep hg)))
    clear hg
    clear d0 d1 d2 H2
    obtain ⟨⟨d0, d1, d2⟩, -⟩ := row3i H3.out.1
    cases f2 : ascB ltE E
    case false =>
      have F2 := Lib.hid f2
      clear f2
      go_wp2_with fail
      go_ret
      exact ⟨by rw [HP.out, F1.out, F2.out]; rfl, H3.out.2.1⟩
    have F2 := Lib.hid f2
    clear f2
    go_wp2_with fail
    refine (irtw_any E p c _ w3 H3.out.2.2 F1.out hm).mono ?_
    rintro e w4 ⟨rfl, hg⟩
    have G4 := Lib.hid (grown_trans H3.out.2.1 hg)
    clear hg
    clear d0 d1 d2 H3
    have HRP : Hid (vPl sub n E = !repI (rsE E)) := Lib.hid (by rw [HP.out, F1.out, F2.out]; rfl)
    go_wp2_with fail
    go_ret
    rw [HRP.out]
    exact ⟨rfl, G4.out⟩
  by_cases hn0 : n = 0
  case neg =>
    have hn0' : (n != 0) = true := by simpa using hn0
    have HF : Hid (vPl sub n E = false) := Lib.hid (by unfold vPl; rw [B2.out, decide_eq_false hn0]; simp)
    clear hn0
    go_wp2_with fail
    go_ret
    rw [HF.out]
    exact ⟨rfl, H0.out.2.1⟩
  have hn0' : (n != 0) = false := by simpa using hn0
  by_cases hE : 0 < E.length
  case pos =>
    have hE' : (0 : Int) < (E.length : Int) := by omega
    have HF : Hid (vPl sub n E = false) := Lib.hid (by unfold vPl; rw [B2.out, decide_eq_false (show ¬ E.length = 0 by omega)]; simp)
    clear hE
    go_wp2_with fail
    go_ret
    rw [HF.out]
    exact ⟨rfl, H0.out.2.1⟩
  have hE' : ¬ (0 : Int) < (E.length : Int) := by omega
  have HP : Hid (vPl sub n E = (!E.any wrE && ascB ltE E && !repI (rsE E))) := Lib.hid (by
    unfold vPl rsE
    rw [B1.out, decide_eq_true (show E.length ≤ 24 by omega), decide_eq_true hn0, decide_eq_true (show E.length = 0 by omega)]
    simp)
  clear hn0 hE
  go_wp2_with fail
  refine (icontE_any 47 #[] wrE E1.out E p c _ w1 H0.out.2.2 hm (fun r w' _ => iwre_any r w')).mono ?_
  rintro e w2 ⟨rfl, hg⟩
  have H2 := Lib.hid (And.intro (kept_row H0.out.1 hg (by simp)) (And.intro (grown_trans H0.out.2.1 hg) (H0.out.2.2.keep hg)))
  clear hg
  clear d0 d1 d2
  obtain ⟨⟨d0, d1, d2⟩, -⟩ := row3i H2.out.1
  cases f1 : E.any wrE
  case true =>
    have F1 := Lib.hid f1
    clear f1
    go_wp2_with fail
    go_ret
    exact ⟨by rw [HP.out, F1.out]; rfl, H2.out.2.1⟩
  have F1 := Lib.hid f1
  clear f1
  go_wp2_with fail
  refine (iascE_any E p c _ w2 H2.out.2.2 hm).mono ?_
  rintro e w3 ⟨rfl, hg⟩
  have H3 := Lib.hid (And.intro (kept_row H2.out.1 hg (by simp)) (And.intro (grown_trans H2.out.2.1 hg) (H2.out.2.2.keep hg)))
  clear hg
  clear d0 d1 d2 H2
  obtain ⟨⟨d0, d1, d2⟩, -⟩ := row3i H3.out.1
  cases f2 : ascB ltE E
  case false =>
    have F2 := Lib.hid f2
    clear f2
    go_wp2_with fail
    go_ret
    exact ⟨by rw [HP.out, F1.out, F2.out]; rfl, H3.out.2.1⟩
  have F2 := Lib.hid f2
  clear f2
  go_wp2_with fail
  refine (irtw_any E p c _ w3 H3.out.2.2 F1.out hm).mono ?_
  rintro e w4 ⟨rfl, hg⟩
  have G4 := Lib.hid (grown_trans H3.out.2.1 hg)
  clear hg
  clear d0 d1 d2 H3
  have HRP : Hid (vPl sub n E = !repI (rsE E)) := Lib.hid (by rw [HP.out, F1.out, F2.out]; rfl)
  go_wp2_with fail
  go_ret
  rw [HRP.out]
  exact ⟨rfl, G4.out⟩
end Go.Proofs.YtlgmankojgjfjaaDoor

/- identify: Place and At, of the program and of the reference. -/
namespace Go.Proofs.YtlgmankojgjfjaaDoor
open Go.RowKit Bs
/-- The set and the bit of an ID. -/
def plOk (id len : Int) : Bool := vl len && inV id 1 256
def plS (id len : Int) : Int := if plOk id len = true then (id - 1).tdiv len else 0
def plB (id len : Int) : Int := if plOk id len = true then (id - 1) % len else 0
set_option maxRecDepth 100000 in
theorem pl_fields {id len : Int} (h : plOk id len = true) : (len = 8 ∨ len = 16 ∨ len = 32 ∨ len = 64) ∧ 1 ≤ id ∧ id ≤ 256 := by
  unfold plOk inV at h
  rw [Bool.and_eq_true, decide_eq_true_eq] at h
  exact ⟨vl_cases h.1, h.2⟩
/-- The ID of a set and a bit. -/
def atOk (s b len : Int) : Bool := vl len && inV b 0 (len - 1) && inV s 0 31 && decide (s * len + b + 1 ≤ 256)
def atI (s b len : Int) : Int := if atOk s b len = true then s * len + b + 1 else 0
set_option maxRecDepth 100000 in
set_option maxHeartbeats 3200000 in
theorem iplc_any (id len : Int) (w : World) :
    Calls Tryd.prog 32 #[.int .i64 id, .int .i64 len] w fun e w' => e = .returned (.tuple #[.int .i64 (plS id len), .int .i64 (plB id len), .bool (plOk id len)]) ∧ w.grownBy w' none := by
  obtain ⟨b1, h1⟩ : ∃ b, vl len = b := ⟨_, rfl⟩
  obtain ⟨b2, h2⟩ : ∃ b, inV id 1 256 = b := ⟨_, rfl⟩
  have HO : Hid (plOk id len = (b1 && b2)) := Lib.hid (by unfold plOk; rw [h1, h2])
  have HL := Lib.hid h1
  have HI := Lib.hid h2
  clear h1 h2
  go_enter Tryd.func32, Tryd.ntmps32
  cases b1
  case false =>
    go_wp2_with (go_at_call 45; refine (vlp_lit _ _ HL.out _).mono ?_; rintro e w' ⟨rfl, rfl⟩)
    go_ret3
    have h0 : plOk id len = false := HO.out
    exact ⟨by unfold plS plB; rw [h0]; rfl, grown_refl _ _⟩
  cases b2
  case false =>
    go_wp2_with (first | (go_at_call 45; refine (vlp_lit _ _ HL.out _).mono ?_; rintro e w' ⟨rfl, rfl⟩) | (go_at_call 55; refine (ivi_lit _ _ HI.out _).mono ?_; rintro e w' ⟨rfl, rfl⟩))
    go_ret3
    have h0 : plOk id len = false := HO.out
    exact ⟨by unfold plS plB; rw [h0]; rfl, grown_refl _ _⟩
  have h0 : plOk id len = true := HO.out
  obtain ⟨hl, hi1, hi2⟩ := pl_fields h0
  have hS : plS id len = (id - 1).tdiv len := by unfold plS; rw [if_pos h0]
  have hB : plB id len = (id - 1) % len := by unfold plB; rw [if_pos h0]
  rw [h0, hS, hB]
  clear hS hB h0
  obtain ⟨m, rfl⟩ : ∃ m : Int, id = m + 1 := ⟨id - 1, by omega⟩
  rw [show m + 1 - 1 = m by omega]
  have e1 : m + 1 - 1 = m := by omega
  have e2 : IntKind.i64.wrap (m + 1 - 1) = m := by rw [e1, IntWalk.i64_in _ (by omega)]
  have e3 : IntKind.i64.wrap m = m := IntWalk.i64_in _ (by omega)
  have hm0 : 0 ≤ m := by omega
  have hm1 : m ≤ 255 := by omega
  have d0 : IntKind.i64.wrap (m.tdiv len) = m.tdiv len := IntWalk.i64_in _ (by
    rw [Int.tdiv_eq_ediv_of_nonneg hm0]
    rcases hl with rfl | rfl | rfl | rfl <;> omega)
  have d1 : IntKind.i64.wrap (m % len) = m % len := IntWalk.i64_in _ (by
    rcases hl with rfl | rfl | rfl | rfl <;> omega)
  have hn0 : (len == 0) = false := by rcases hl with rfl | rfl | rfl | rfl <;> rfl
  have hn1 : ¬ len = 0 := by rcases hl with rfl | rfl | rfl | rfl <;> decide
  clear hi1 hi2 hl
  go_wp2_with (first | (go_at_call 45; refine (vlp_lit _ _ HL.out _).mono ?_; rintro e w' ⟨rfl, rfl⟩) | (go_at_call 55; refine (ivi_lit _ _ HI.out _).mono ?_; rintro e w' ⟨rfl, rfl⟩))
  go_region
  all_goals
    go_wp2_with fail
    go_ret3
    exact ⟨rfl, grown_drew (grown_refl _ _)⟩
set_option maxRecDepth 100000 in
set_option maxHeartbeats 3200000 in
theorem iat_any (s b len : Int) (w : World) :
    Calls Tryd.prog 38 #[.int .i64 s, .int .i64 b, .int .i64 len] w fun e w' => e = .returned (.tuple #[.int .i64 (atI s b len), .bool (atOk s b len)]) ∧ w.grownBy w' none := by
  obtain ⟨b1, h1⟩ : ∃ b, vl len = b := ⟨_, rfl⟩
  obtain ⟨b2, h2⟩ : ∃ q, inV b 0 (len - 1) = q := ⟨_, rfl⟩
  obtain ⟨b3, h3⟩ : ∃ q, inV s 0 31 = q := ⟨_, rfl⟩
  obtain ⟨b4, h4⟩ : ∃ q, decide (s * len + b + 1 ≤ 256) = q := ⟨_, rfl⟩
  have HO : Hid (atOk s b len = (b1 && b2 && b3 && b4)) := Lib.hid (by unfold atOk; rw [h1, h2, h3, h4])
  have HL := Lib.hid h1
  have HB := Lib.hid h2
  have HS := Lib.hid h3
  have H4 := Lib.hid h4
  clear h1 h2 h3 h4
  go_enter Tryd.func38, Tryd.ntmps38
  cases b1
  case false =>
    go_wp2_with (go_at_call 45; refine (vlp_lit _ _ HL.out _).mono ?_; rintro e w' ⟨rfl, rfl⟩)
    go_ret2
    have h0 : atOk s b len = false := HO.out
    exact ⟨by unfold atI; rw [h0]; rfl, grown_refl _ _⟩
  have hl := vl_cases HL.out
  have ew : IntKind.i64.wrap (len - 1) = len - 1 := IntWalk.i64_in _ (by rcases hl with rfl | rfl | rfl | rfl <;> omega)
  clear hl
  cases b2
  case false =>
    have hb : ¬ (0 ≤ b ∧ b ≤ len - 1) := of_decide_eq_false HB.out
    by_cases q1 : b < 0
    · go_wp2_with (go_at_call 45; refine (vlp_lit _ _ HL.out _).mono ?_; rintro e w' ⟨rfl, rfl⟩)
      go_ret2
      have h0 : atOk s b len = false := HO.out
      exact ⟨by unfold atI; rw [h0]; rfl, grown_refl _ _⟩
    · have q2 : len ≤ b := by omega
      clear hb
      go_wp2_with (go_at_call 45; refine (vlp_lit _ _ HL.out _).mono ?_; rintro e w' ⟨rfl, rfl⟩)
      go_ret2
      have h0 : atOk s b len = false := HO.out
      exact ⟨by unfold atI; rw [h0]; rfl, grown_refl _ _⟩
  obtain ⟨q1, q2⟩ : 0 ≤ b ∧ b ≤ len - 1 := of_decide_eq_true HB.out
  have q3 : ¬ len ≤ b := by omega
  have q4 : ¬ b < 0 := by omega
  cases b3
  case false =>
    have hs : ¬ (0 ≤ s ∧ s ≤ 31) := of_decide_eq_false HS.out
    clear q1 q2
    by_cases q1 : s < 0
    · go_wp2_with (go_at_call 45; refine (vlp_lit _ _ HL.out _).mono ?_; rintro e w' ⟨rfl, rfl⟩)
      go_ret2
      have h0 : atOk s b len = false := HO.out
      exact ⟨by unfold atI; rw [h0]; rfl, grown_refl _ _⟩
    · have q2 : 31 < s := by omega
      clear hs
      go_wp2_with (go_at_call 45; refine (vlp_lit _ _ HL.out _).mono ?_; rintro e w' ⟨rfl, rfl⟩)
      go_ret2
      have h0 : atOk s b len = false := HO.out
      exact ⟨by unfold atI; rw [h0]; rfl, grown_refl _ _⟩
  clear q1 q2
  obtain ⟨z1, z2⟩ : 0 ≤ b ∧ b ≤ len - 1 := of_decide_eq_true HB.out
  obtain ⟨z3, z4⟩ : 0 ≤ s ∧ s ≤ 31 := of_decide_eq_true HS.out
  have hl := vl_cases HL.out
  have z5 : ¬ s < 0 := by omega
  have z6 : ¬ 31 < s := by omega
  have w1 : IntKind.i64.wrap (s * len) = s * len := IntWalk.i64_in _ (by rcases hl with rfl | rfl | rfl | rfl <;> omega)
  have w2 : IntKind.i64.wrap (s * len + b) = s * len + b := IntWalk.i64_in _ (by rcases hl with rfl | rfl | rfl | rfl <;> omega)
  have w3 : IntKind.i64.wrap (s * len + b + 1) = s * len + b + 1 := IntWalk.i64_in _ (by rcases hl with rfl | rfl | rfl | rfl <;> omega)
  clear hl z1 z2 z3 z4
  cases b4
  case false =>
    have z7 : 256 < s * len + b + 1 := by have := of_decide_eq_false H4.out; omega
    go_wp2_with (go_at_call 45; refine (vlp_lit _ _ HL.out _).mono ?_; rintro e w' ⟨rfl, rfl⟩)
    go_ret2
    have h0 : atOk s b len = false := HO.out
    exact ⟨by unfold atI; rw [h0]; rfl, grown_refl _ _⟩
  have z7 : ¬ 256 < s * len + b + 1 := by have := of_decide_eq_true H4.out; omega
  go_wp2_with (go_at_call 45; refine (vlp_lit _ _ HL.out _).mono ?_; rintro e w' ⟨rfl, rfl⟩)
  go_ret2
  have h0 : atOk s b len = true := HO.out
  exact ⟨by unfold atI; rw [h0]; rfl, grown_refl _ _⟩
set_option maxRecDepth 100000 in
theorem at_place {id len : Int} (h : plOk id len = true) : atOk (plS id len) (plB id len) len = true ∧ atI (plS id len) (plB id len) len = id := by
  obtain ⟨hl, h1, h2⟩ := pl_fields h
  have e1 : plS id len = (id - 1) / len := by unfold plS; rw [if_pos h, Int.tdiv_eq_ediv_of_nonneg (by omega)]
  have e2 : plB id len = (id - 1) % len := by unfold plB; rw [if_pos h]
  have hv : vl len = true := by unfold plOk at h; rw [Bool.and_eq_true] at h; exact h.1
  have h3 : atOk (plS id len) (plB id len) len = true := by
    unfold atOk inV
    rw [hv, e1, e2]
    simp only [Bool.true_and, Bool.and_eq_true, decide_eq_true_eq]
    rcases hl with rfl | rfl | rfl | rfl <;> omega
  refine ⟨h3, ?_⟩
  unfold atI
  rw [if_pos h3, e1, e2]
  rcases hl with rfl | rfl | rfl | rfl <;> omega
end Go.Proofs.YtlgmankojgjfjaaDoor

/- identify: the bits of IDs by sets, and the IDs of bits: the mathematics. -/
namespace Go.Proofs.YtlgmankojgjfjaaDoor
open Go.RowKit Bs
/-- A set's bits. -/
structure Sb where
  s : Int
  b : Nat
def sbC (x : Sb) : List Value := [.int .i64 x.s, .int .u64 (x.b : Int)]
set_option maxRecDepth 100000 in
theorem sb_one (x : Sb) : ∀ u ∈ sbC x, u.oneCell' = true := by
  intro u hu
  simp [sbC] at hu
  rcases hu with rfl | rfl <;> rfl
def ltZ (x y : Int) : Bool := decide (x < y)
/-- Has an edge this ID? -/
def knE (E : List Ed) (id : Int) : Bool := E.any fun e => decide (e.i = id)
def ukE (E : List Ed) (id : Int) : Bool := !knE E id
/-- The last set is this one. -/
def lastS (M : List Sb) (s : Int) : Bool := match M.getLast? with
  | some x => decide (x.s = s)
  | none => false
def opS (M : List Sb) (s : Int) : List Sb := if lastS M s = true then M else M ++ [⟨s, 0⟩]
def orS (M : List Sb) (m : Nat) : List Sb := match M.getLast? with
  | some x => M.dropLast ++ [⟨x.s, x.b ||| m⟩]
  | none => []
def seS (len : Int) (M : List Sb) (id : Int) : List Sb := orS (opS M (plS id len)) (b2 (plB id len).toNat)
def seL (len : Int) (ids : List Int) : List Sb := ids.foldl (seS len) []
/-- The error of Sets, its answer. -/
def seX (sub len : Int) (E : List Ed) (ids : List Int) : Int := if vPl sub len E = false then 1 else if ascB ltZ ids = false then 25 else if ids.any (ukE E) = true then 4 else 0
def seO (sub len : Int) (E : List Ed) (ids : List Int) : List Sb := if seX sub len E ids = 0 then seL len ids else []
set_option maxRecDepth 100000 in
theorem seL_take {len : Int} {ids : List Int} {k : Nat} {x : Int} (hx : ids[k]? = some x) : seL len (ids.take (k + 1)) = seS len (seL len (ids.take k)) x := by
  unfold seL
  rw [List.take_add_one, hx, List.foldl_append]; rfl
set_option maxRecDepth 100000 in
theorem opS_ne (M : List Sb) (s : Int) : opS M s ≠ [] := by
  intro e
  unfold opS at e
  cases h : lastS M s
  · rw [h] at e; simp at e
  · rw [h, if_pos rfl] at e
    subst e
    cases h
set_option maxRecDepth 100000 in
theorem orS_snoc (M : List Sb) (x : Sb) (m : Nat) : orS (M ++ [x]) m = M ++ [⟨x.s, x.b ||| m⟩] := by
  unfold orS
  simp
set_option maxRecDepth 100000 in
theorem snoc_of_ne {α : Type} {M : List α} (h : M ≠ []) : ∃ N x, M = N ++ [x] := ⟨M.dropLast, M.getLast h, (List.dropLast_concat_getLast h).symm⟩
set_option maxRecDepth 100000 in
theorem orS_len (M : List Sb) (m : Nat) (h : M ≠ []) : (orS M m).length = M.length := by
  obtain ⟨N, x, rfl⟩ := snoc_of_ne h
  rw [orS_snoc]; simp
set_option maxRecDepth 100000 in
theorem seL_len (len : Int) : ∀ ids : List Int, ∀ M : List Sb, (ids.foldl (seS len) M).length ≤ M.length + ids.length
  | [], M => by simp
  | x :: t, M => by
    rw [List.foldl_cons]
    have h1 := seL_len len t (seS len M x)
    have h2 : (seS len M x).length ≤ M.length + 1 := by
      unfold seS
      rw [orS_len _ _ (opS_ne _ _)]
      unfold opS
      split <;> simp
    simp only [List.length_cons]; omega
/-- The error of Names, its answer. -/
def nmI (s len : Int) (k : Nat) : Int := atI s (k : Int) len
def nmL (s len : Int) (b : Nat) : List Int := (bl b).map (nmI s len)
def nmX (sub len : Int) (E : List Ed) (s : Int) (b : Nat) : Int := if vPl sub len E = false then 1 else if (nmL s len b).any (ukE E) = true then 4 else 0
def nmO (sub len : Int) (E : List Ed) (s : Int) (b : Nat) : List Int := if nmX sub len E s b = 0 then nmL s len b else []
set_option maxRecDepth 100000 in
theorem vPl_asc {sub len : Int} {E : List Ed} (h : vPl sub len E = true) : ascB ltE E = true ∧ E.length ≤ 24 ∧ E.any wrE = false := by
  unfold vPl at h
  simp only [Bool.and_eq_true, Bool.not_eq_true', decide_eq_true_eq] at h
  exact ⟨h.1.2, h.1.1.1.2, h.1.1.2⟩
set_option maxRecDepth 100000 in
theorem asc_pairE : ∀ E : List Ed, ascB ltE E = true → E.Pairwise (fun x y => x.i < y.i)
  | [], _ => List.Pairwise.nil
  | [a], _ => List.pairwise_singleton _ _
  | a :: b :: t, h => by
    rw [ascB, Bool.and_eq_true] at h
    have ih := asc_pairE (b :: t) h.2
    have hab : a.i < b.i := of_decide_eq_true h.1
    refine List.pairwise_cons.2 ⟨fun y hy => ?_, ih⟩
    rcases List.mem_cons.1 hy with rfl | hy
    · exact hab
    · have := (List.pairwise_cons.1 ih).1 y hy; omega
/-- Where a binary search for an ID ends. -/
structure BsE (E : List Ed) (id : Int) (i : Nat) (b : Bool) : Prop where
  le : i ≤ E.length
  lo : ∀ x, 0 < i → E[i - 1]? = some x → x.i < id
  hi : ∀ x, E[i]? = some x → id ≤ x.i
  eq : b = (match E[i]? with | some x => decide (x.i = id) | none => false)
set_option maxRecDepth 100000 in
theorem bs_edge {E : List Ed} (h : ascB ltE E = true) {id : Int} {i : Nat} {b : Bool} (hb : BsE E id i b) : b = knE E id := by
  have hp := List.pairwise_iff_getElem.1 (asc_pairE E h)
  have he := hb.eq
  cases hk : knE E id
  · cases hx : E[i]? with
    | none => rw [hx] at he; exact he
    | some x =>
      rw [hx] at he
      rw [he]
      show decide (x.i = id) = false
      unfold knE at hk
      have := (List.any_eq_false.1 hk) x (List.mem_of_getElem? hx)
      simpa using this
  · obtain ⟨e, hem, hei⟩ := List.any_eq_true.1 hk
    have hei := of_decide_eq_true hei
    obtain ⟨j, hj, hje⟩ := List.mem_iff_getElem.1 hem
    have hij : i = j := by
      rcases Nat.lt_trichotomy i j with hlt | hlt | hlt
      · have h1 := hb.hi E[i] (List.getElem?_eq_getElem (by omega))
        have h2 := hp i j (by omega) hj hlt
        rw [hje] at h2; omega
      · exact hlt
      · have hi1 : i - 1 < E.length := by have := hb.le; omega
        have h1 := hb.lo E[i - 1] (by omega) (List.getElem?_eq_getElem hi1)
        by_cases h3 : j = i - 1
        · subst h3; rw [hje] at h1; omega
        · have h2 := hp j (i - 1) hj (by have := hb.le; omega) (by omega)
          rw [hje] at h2; omega
    subst hij
    rw [he, List.getElem?_eq_getElem hj]
    show decide (E[i].i = id) = true
    rw [hje]; exact decide_eq_true hei
end Go.Proofs.YtlgmankojgjfjaaDoor

/- The reference's Has and Named; Same of equal topologies. -/
namespace Go.Proofs.YtlgmankojgjfjaaDoor
open Go.RowKit Bs
end Go.Proofs.YtlgmankojgjfjaaDoor

/- identify: ContainsFunc and ascending at numbers; a binary search for an ID; has; the reference's Edge. -/
namespace Go.Proofs.YtlgmankojgjfjaaDoor
open Go.RowKit Bs
set_option maxRecDepth 100000 in
theorem tv_at {w : World} {q : Nat → Prop} {p : Option Addr} {n c i : Nat} {x : Int} {X : List Int} (h : Rd w q (.slice p n c) (X.map tv)) (hi : X[i]? = some x) :
    n = X.length ∧ ∃ b off, p = some ⟨b, off, none⟩ ∧ q b ∧ ∀ j y, X[j]? = some y → w.cell? ⟨b, off + j, none⟩ = some (.int .i64 y) := by
  obtain ⟨p1, c1, e1, hx⟩ := h
  injection e1 with a1 a2 a3
  subst a1
  have hne : X.map tv ≠ [] := by
    intro e
    have := List.map_eq_nil_iff.1 e
    subst this
    simp at hi
  obtain ⟨b, off, hp, hq, hc⟩ := hx hne
  exact ⟨by rw [a2, List.length_map], b, off, hp, hq, fun j y hj => hc j (tv y) (by rw [List.getElem?_map, hj]; rfl)⟩
set_option maxRecDepth 100000 in
set_option maxHeartbeats 1600000 in
theorem iidxZ_any (g : Nat) (lb : Array Value) (P : Int → Bool) (eg : EnterF g) (R : List Int) (p : Option Addr) (c : Nat) (q : Nat → Prop) (w : World) (hR : Rd w q (.slice p R.length c) (R.map tv)) (hm : R.length ≤ 9223372036854775807)
    (hP : ∀ (r : Int) (w' : World), w.grownBy w' none → Calls Tryd.prog g (#[.int .i64 r] ++ lb) w' fun e w2 => e = .returned (.bool (P r)) ∧ w'.grownBy w2 none) :
    Calls Tryd.prog 52 #[.slice p R.length c, .func (.func g) #[] lb] w fun e w' => ∃ i : Int, e = .returned (.int .i64 i) ∧ decide (0 ≤ i) = R.any P ∧ w.grownBy w' none := by
  have HR := Lib.hid hR
  have HP := Lib.hid hP
  clear hR hP
  go_enter Tryd.func52, Tryd.ntmps52
  go_wp2_with fail
  go_loopw [8] (fun a wr => ∃ k : Nat, k ≤ R.length ∧ a = .int .i64 (k : Int) ∧ Hid (w.grownBy wr none) ∧ Hid ((R.take k).any P = false)) (fun a _ => R.length - (RowKit.intOf a).toNat)
  case atStart => exact ⟨0, Nat.zero_le _, rfl, Lib.hid (grown_refl _ _), Lib.hid rfl⟩
  case round =>
    obtain ⟨k, hk, rfl, G, HN⟩ := hrel
    by_cases hlt : k < R.length
    · obtain ⟨x, hx⟩ : ∃ x, R[k]? = some x := ⟨_, List.getElem?_eq_getElem hlt⟩
      obtain ⟨-, b, off, rfl, hq, hc⟩ := tv_at (HR.out.keep G.out) hx
      have a0 := hc k x hx
      have HX := Lib.hid hx
      clear hc hx
      have hcall := HP.out x wr G.out
      cases hp : P x
      · rw [hp] at hcall
        have HY := Lib.hid hp
        clear hp
        go_wp2_with (go_at_fn g; refine hcall.mono ?_; rintro e w' ⟨rfl, hg⟩; have HG := Lib.hid (grown_trans G.out hg); clear hg)
        exact ⟨⟨k + 1, by omega, congrArg _ (by omega), HG, Lib.hid (any_take HN.out HX.out HY.out)⟩, by simp only [RowKit.intOf]; omega⟩
      · rw [hp] at hcall
        have HY := Lib.hid hp
        clear hp
        go_wp2_with (go_at_fn g; refine hcall.mono ?_; rintro e w' ⟨rfl, hg⟩; have HG := Lib.hid (grown_trans G.out hg); clear hg)
        go_ret
        refine ⟨_, rfl, ?_, HG.out⟩
        rw [any_at HX.out HY.out, decide_eq_true_eq]; omega
    · obtain rfl : k = R.length := by omega
      go_wp2_with fail
      go_ret
      refine ⟨_, rfl, ?_, G.out⟩
      rw [any_end HN.out (Nat.le_refl _)]; decide
set_option maxRecDepth 100000 in
set_option maxHeartbeats 1600000 in
theorem icontZ_any (g : Nat) (lb : Array Value) (P : Int → Bool) (eg : EnterF g) (R : List Int) (p : Option Addr) (c : Nat) (q : Nat → Prop) (w : World) (hR : Rd w q (.slice p R.length c) (R.map tv)) (hm : R.length ≤ 9223372036854775807)
    (hP : ∀ (r : Int) (w' : World), w.grownBy w' none → Calls Tryd.prog g (#[.int .i64 r] ++ lb) w' fun e w2 => e = .returned (.bool (P r)) ∧ w'.grownBy w2 none) :
    Calls Tryd.prog 29 #[.slice p R.length c, .func (.func g) #[] lb] w fun e w' => e = .returned (.bool (R.any P)) ∧ w.grownBy w' none := by
  have HR := Lib.hid hR
  have HP := Lib.hid hP
  clear hR hP
  go_enter Tryd.func29, Tryd.ntmps29
  go_wp2_with (go_at_call 52; refine (iidxZ_any g lb P eg R p c q w HR.out hm HP.out).mono ?_; rintro e w' ⟨i, rfl, hi, hg⟩; have HI := Lib.hid (And.intro hi hg); clear hi hg)
  go_ret
  rw [← HI.out.1]
  exact ⟨rfl, HI.out.2⟩
set_option maxRecDepth 100000 in
theorem ascZ_end {R : List Int} (h : ∀ i x y, i + 1 < R.length → R[i]? = some x → R[i + 1]? = some y → ltZ x y = true) : ascB ltZ R = true :=
  (ascB_iff _ _).2 fun i x y hx hy => h i x y ((List.getElem?_eq_some_iff.1 hy).1) hx hy
set_option maxRecDepth 100000 in
theorem ascZ_hit {R : List Int} {i : Nat} {x y : Int} (hx : R[i]? = some x) (hy : R[i + 1]? = some y) (h : ltZ x y = false) : ascB ltZ R = false := by
  rw [Bool.eq_false_iff]
  intro h2
  have := (ascB_iff _ _).1 h2 i x y hx hy
  rw [h] at this; cases this
set_option maxRecDepth 100000 in
set_option maxHeartbeats 3200000 in
theorem iascZ_any (R : List Int) (p : Option Addr) (c : Nat) (q : Nat → Prop) (w : World) (hR : Rd w q (.slice p R.length c) (R.map tv)) (hm : R.length ≤ 9223372036854775807) :
    Calls Tryd.prog 27 #[.slice p R.length c, .func (.func 28) #[] #[]] w fun e w' => e = .returned (.bool (ascB ltZ R)) ∧ w.grownBy w' none := by
  have eg : EnterF 28 := enters_of Tryd.func28 (by kernel_rfl) rfl
  have HR := Lib.hid hR
  clear hR
  go_enter Tryd.func27, Tryd.ntmps27
  go_wp2_with fail
  go_loopw [5] (fun a wr => ∃ k : Nat, 1 ≤ k ∧ (k ≤ R.length ∨ k = 1) ∧ a = .int .i64 (k : Int) ∧ Hid (w.grownBy wr none) ∧ Hid (∀ i x y, i + 1 < k → R[i]? = some x → R[i + 1]? = some y → ltZ x y = true)) (fun a _ => R.length - (RowKit.intOf a).toNat)
  case atStart => exact ⟨1, by omega, Or.inr rfl, rfl, Lib.hid (grown_refl _ _), Lib.hid (fun i x y h => by omega)⟩
  case round =>
    obtain ⟨k, hk1, hk, rfl, G, HN⟩ := hrel
    by_cases hlt : k < R.length
    · obtain ⟨j, rfl⟩ : ∃ j, k = j + 1 := ⟨k - 1, by omega⟩
      obtain ⟨x, hx⟩ : ∃ x, R[j]? = some x := ⟨_, List.getElem?_eq_getElem (by omega)⟩
      obtain ⟨y, hy⟩ : ∃ y, R[j + 1]? = some y := ⟨_, List.getElem?_eq_getElem hlt⟩
      obtain ⟨-, b, off, rfl, hq, hc⟩ := tv_at (HR.out.keep G.out) hx
      have a0 := hc j x hx
      have b0 := hc (j + 1) y hy
      have HXY := Lib.hid (And.intro hx hy)
      have ew1 : ((j : Int) + 1 - 1) = (j : Int) := by omega
      have ew2 : IntKind.i64.wrap ((j : Int) + 1 - 1) = (j : Int) := by rw [ew1, IntWalk.i64_in _ (by omega)]
      have ew3 : IntKind.i64.wrap (j : Int) = (j : Int) := IntWalk.i64_in _ (by omega)
      have j0 : (0 : Int) ≤ (j : Int) := by omega
      have j1 : (0 : Int) ≤ (j : Int) + 1 := by omega
      have j2 : (j : Int) < (R.length : Int) := by omega
      have j3 : (j : Int) + 1 < (R.length : Int) := by omega
      have j4 : ((j : Int) + 1).toNat = j + 1 := by omega
      clear hc hx hy
      have hcast : ((j + 1 : Nat) : Int) = (j : Int) + 1 := by omega
      rw [hcast]
      have HF := Lib.hid (And.intro a0 b0)
      have GZ : Hid (wr.grownBy wr none) := Lib.hid (grown_refl _ _)
      go_upto_region 4 with fail
      cases hlt2 : ltZ x y
      · have hge : 0 ≤ cmpV x y := cmpV_ge.2 (by have := of_decide_eq_false hlt2; omega)
        have HL := Lib.hid hlt2
        clear hlt2
        go_region_held3 (fun w' => w'.cell? ⟨b, off + j, none⟩ = some (.int .i64 x) ∧ w'.cell? ⟨b, off + (j + 1), none⟩ = some (.int .i64 y) ∧ Hid (wr.grownBy w' none))
          (first | with_reducible exact ⟨(hid_drew GZ).out.cell HF.out.1 (by simp), (hid_drew GZ).out.cell HF.out.2 (by simp), hid_drew GZ⟩ | (go_split_ands; with_reducible refine ⟨?_, ?_, ?_⟩ <;> with_reducible assumption))
          ((go_at_call 28; refine (tcmp_any x y _).mono ?_; rintro e w' ⟨rfl, rfl⟩))
        all_goals
          go_split_ands
          go_wp2_with fail
          go_ret
          rw [ascZ_hit HXY.out.1 HXY.out.2 HL.out]
          exact ⟨rfl, grown_trans G.out (Hid.out (by assumption))⟩
      · have hge : ¬ 0 ≤ cmpV x y := fun h => by have := cmpV_ge.1 h; have := of_decide_eq_true hlt2; omega
        have HL := Lib.hid hlt2
        clear hlt2
        go_region_held3 (fun w' => w'.cell? ⟨b, off + j, none⟩ = some (.int .i64 x) ∧ w'.cell? ⟨b, off + (j + 1), none⟩ = some (.int .i64 y) ∧ Hid (wr.grownBy w' none))
          (first | with_reducible exact ⟨(hid_drew GZ).out.cell HF.out.1 (by simp), (hid_drew GZ).out.cell HF.out.2 (by simp), hid_drew GZ⟩ | (go_split_ands; with_reducible refine ⟨?_, ?_, ?_⟩ <;> with_reducible assumption))
          ((go_at_call 28; refine (tcmp_any x y _).mono ?_; rintro e w' ⟨rfl, rfl⟩))
        all_goals
          go_split_ands
          have HGW := Lib.hid (grown_trans G.out (Hid.out (by assumption)))
          go_wp2_with fail
          refine ⟨⟨j + 1 + 1, by omega, Or.inl (by omega), congrArg _ (by omega), HGW, Lib.hid fun i x2 y2 hi hx2 hy2 => ?_⟩, by simp only [RowKit.intOf]; omega⟩
          by_cases hij : i = j
          · subst hij
            have e1 := HXY.out.1.symm.trans hx2
            have e2 := HXY.out.2.symm.trans hy2
            injection e1 with e1
            injection e2 with e2
            subst e1
            subst e2
            exact HL.out
          · exact HN.out i x2 y2 (by omega) hx2 hy2
    · have h1 : ¬ (k : Int) < (R.length : Int) := by omega
      go_wp2_with fail
      go_ret
      rw [ascZ_end fun i x y hi hx hy => HN.out i x y (by omega) hx hy]
      exact ⟨rfl, G.out⟩
end Go.Proofs.YtlgmankojgjfjaaDoor

/- A region that draws its order: loads are taken first although a late operation writes their cells; what they want of the world holds until then. -/
namespace Go.Proofs.YtlgmankojgjfjaaDoor
open Go
section
variable {P : Program} {ops : Array Oper} {Q : Exit → Act → World → Prop} {md : Region.Mode} {S : World → Prop} {late : Nat → Bool}
/-- Any order from here on; S holds behind whatever is not late. -/
def anyU (P : Program) (md : Region.Mode) (ops : Array Oper) (Q : Exit → Act → World → Prop) (S : World → Prop) (late : Nat → Bool) : Nat → Array Bool → Act → World → Prop
  | 0, seen, a, w => Region.ready md ops seen = [] ∧ Q .normal a w
  | n + 1, seen, a, w => (Region.ready md ops seen = [] → Q .normal a w) ∧
      ∀ k, k ∈ Region.ready md ops seen → wpOp P ops Q k (fun b v => (late k = false → S v) ∧ anyU P md ops Q S late n (seen.setIfInBounds k true) b v) a w
set_option maxRecDepth 100000 in
theorem anyU_any (n : Nat) : ∀ (seen : Array Bool) (a : Act) (w : World), anyU P md ops Q S late n seen a w → wpAny P md ops Q n seen a w := by
  induction n with
  | zero => intro seen a w h; exact h
  | succ n ih => intro seen a w h; exact ⟨h.1, fun k hk => wpOp_mono (fun b v hb => ih _ b v hb.2) (h.2 k hk)⟩
/-- Number j waits for number i, perhaps by way of others. -/
def reach (md : Region.Mode) (ops : Array Oper) : Nat → Nat → Nat → Bool
  | 0, _, _ => false
  | n + 1, j, i => match ops[j]? with
    | some o => o.after.any fun e => Region.binds md e && (e.on == i || reach md ops n e.on i)
    | none => false
/-- Whatever is late waits for number i. -/
def waits (md : Region.Mode) (ops : Array Oper) (late : Nat → Bool) (i : Nat) : Bool :=
  (List.range ops.size).all fun j => !late j || reach md ops ops.size j i
/-- What has come up has come up behind all that it waits for. -/
def Shut1 (md : Region.Mode) (ops : Array Oper) (seen : Array Bool) : Prop :=
  ∀ (j : Nat) (o : Oper), ops[j]? = some o → seen.getD j false = true → ∀ e ∈ o.after, Region.binds md e = true → seen.getD e.on false = true
def shut1 (md : Region.Mode) (ops : Array Oper) (seen : Array Bool) : Bool :=
  (List.range ops.size).all fun j => !seen.getD j false || (match ops[j]? with
    | some o => o.after.all fun e => !Region.binds md e || seen.getD e.on false
    | none => true)
set_option maxRecDepth 100000 in
theorem shut1_spec {seen : Array Bool} (h : shut1 md ops seen = true) : Shut1 md ops seen := by
  intro j o ho hj e he hb
  unfold shut1 at h
  rw [List.all_eq_true] at h
  have h1 := h j (List.mem_range.2 (Array.getElem?_eq_some_iff.1 ho).1)
  rw [hj, ho] at h1
  simp only [Bool.not_true, Bool.false_or] at h1
  rw [Array.all_eq_true_iff_forall_mem] at h1
  have h2 := h1 e he
  rw [hb] at h2
  simpa using h2
set_option maxRecDepth 100000 in
theorem Shut1.step {seen : Array Bool} {j : Nat} (h : Shut1 md ops seen) (hj : j ∈ Region.ready md ops seen) : Shut1 md ops (seen.setIfInBounds j true) := by
  intro k o ho hk e he hb
  by_cases hjk : j = k
  · subst hjk
    obtain ⟨_, o2, ho2, hall⟩ := mem_ready.1 hj
    rw [ho] at ho2
    obtain rfl := Option.some.inj ho2
    exact getD_set_true (hall e he hb)
  · rw [getD_set_ne false hjk] at hk
    exact getD_set_true (h k o ho hk e he hb)
set_option maxRecDepth 100000 in
theorem reach_seen {seen : Array Bool} (hc : Shut1 md ops seen) (i : Nat) : ∀ (n j : Nat) (o : Oper), ops[j]? = some o → (∀ e ∈ o.after, Region.binds md e = true → seen.getD e.on false = true) → reach md ops n j i = true → seen.getD i false = true := by
  intro n
  induction n with
  | zero => intro j o _ _ h; cases h
  | succ n ih =>
    intro j o ho hall h
    unfold reach at h
    rw [ho] at h
    simp only at h
    rw [Array.any_eq_true'] at h
    obtain ⟨e, he, hb⟩ := h
    rw [Bool.and_eq_true, Bool.or_eq_true] at hb
    have h1 := hall e he hb.1
    rcases hb.2 with h2 | h2
    · have : e.on = i := by simpa using h2
      rwa [this] at h1
    · cases ho2 : ops[e.on]? with
      | none =>
        cases n with
        | zero => cases h2
        | succ n =>
          unfold reach at h2
          rw [ho2] at h2
          cases h2
      | some o2 => exact ih e.on o2 ho2 (hc e.on o2 ho2 h1) h2
set_option maxRecDepth 100000 in
theorem waits_seen {seen : Array Bool} {i j : Nat} (hw : waits md ops late i = true) (hc : Shut1 md ops seen) (hj : j ∈ Region.ready md ops seen) (hl : late j = true) : seen.getD i false = true := by
  obtain ⟨_, o, ho, hall⟩ := mem_ready.1 hj
  unfold waits at hw
  rw [List.all_eq_true] at hw
  have h1 := hw j (List.mem_range.2 (Array.getElem?_eq_some_iff.1 ho).1)
  rw [hl] at h1
  exact reach_seen hc i _ j o ho hall (by simpa using h1)
set_option maxRecDepth 100000 in
theorem anyU_first {i : Nat} {oi : Oper} {v : Value} (hi : ops[i]? = some oi) (hsel : ∀ (j : Nat) (o : Oper) cs b, ops[j]? = some o → o.op ≠ .select cs b)
    (hQ : ∀ c a w, Q (.panic c) (a.put oi.dst v) w → Q (.panic c) a w) (hw : waits md ops late i = true) (n : Nat) :
    ∀ (seen : Array Bool) (a : Act) (w : World),
      (∀ j oj, ops[j]? = some oj → j ≠ i → seen.getD j true = false → (∀ e ∈ oj.after, Region.binds md e = true → e.on ≠ i) → oi.apart ops oj = true) →
      Shut1 md ops seen → i ∈ Region.ready md ops seen → YieldsIf P ops S oi v a → S w → anyU P md ops Q S late n (seen.setIfInBounds i true) (a.put oi.dst v) w → anyU P md ops Q S late (n + 1) seen a w := by
  have now : ∀ (m : Nat) (seen : Array Bool) (a : Act) (w : World), YieldsIf P ops S oi v a → S w → anyU P md ops Q S late m (seen.setIfInBounds i true) (a.put oi.dst v) w →
      wpOp P ops Q i (fun b u => (late i = false → S u) ∧ anyU P md ops Q S late m (seen.setIfInBounds i true) b u) a w := fun m seen a w hy hS h => hy.wpOp hi hS ⟨fun _ => hS, h⟩
  induction n with
  | zero =>
    intro seen a w _ _ hr hy hS h
    refine ⟨fun e => (by rw [e] at hr; cases hr), fun j hj => ?_⟩
    by_cases e : j = i
    · exact e ▸ now 0 seen a w hy hS h
    · have := ready_mono hj e
      rw [h.1] at this
      cases this
  | succ n ih =>
    intro seen a w hf hc hr hy hS h
    refine ⟨fun e => (by rw [e] at hr; cases hr), fun j hj => ?_⟩
    by_cases e : j = i
    · exact e ▸ now (n + 1) seen a w hy hS h
    obtain ⟨hun, oj, hoj, hall⟩ := mem_ready.1 hj
    have hno : ∀ e ∈ oj.after, Region.binds md e = true → e.on ≠ i := fun e he hb hei => by
      have h1 := hall e he hb
      have h0 := (mem_ready.1 hr).1
      rw [hei] at h1
      by_cases hlt : i < seen.size
      · simp [hlt] at h0 h1
        rw [h0] at h1
        cases h1
      · simp [Array.getElem?_eq_none (Nat.le_of_not_lt hlt)] at h1
    have hl : late j = false := by
      cases hl : late j with
      | false => rfl
      | true =>
        have h1 := waits_seen hw hc hj hl
        have h0 := (mem_ready.1 hr).1
        by_cases hlt : i < seen.size
        · simp [hlt] at h0 h1
          rw [h0] at h1
          cases h1
        · simp [Array.getElem?_eq_none (Nat.le_of_not_lt hlt)] at h1
    refine wpOp_mono (fun b u hb => ⟨hb.2.1, ih _ b u (fun k ok hk hki hsk hnk => hf k ok hk hki ?_ hnk) (hc.step hj) (ready_mono hr (Ne.symm e)) hb.1 (hb.2.1 hl) (by rw [Array.setIfInBounds_comm _ _ e]; exact hb.2.2)⟩)
      (wpOp_putIf hoj (hf j oj hoj e hun hno) (fun cs b => hsel i oi cs b hi) (fun cs b => hsel j oj cs b hoj) hQ hy (h.2 j (ready_mono hj e)))
    by_cases hjk : j = k
    · exact hjk ▸ hun
    · rwa [getD_set_ne true hjk] at hsk
set_option maxRecDepth 100000 in
theorem anyU_take {i : Nat} {oi : Oper} {v : Value} {n : Nat} {seen : Array Bool} {a : Act} {w : World} (hi : ops[i]? = some oi) (hw : waits md ops late i = true)
    (hc : shut1 md ops seen = true) (hs : Region.noSelect ops = true) (hf : Region.free md ops seen i = true) (hr : (Region.ready md ops seen).contains i = true)
    (hQ : ∀ c a w, Q (.panic c) (a.put oi.dst v) w → Q (.panic c) a w) (hy : YieldsIf P ops S oi v a) (hS : S w)
    (h : anyU P md ops Q S late n (seen.setIfInBounds i true) (a.put oi.dst v) w) : anyU P md ops Q S late (n + 1) seen a w :=
  anyU_first hi (Region.noSelect_spec hs) hQ hw n seen a w (Region.free_spec hi hf) (shut1_spec hc) (by simpa using hr) hy hS h
/-- Each of some operations comes up next. -/
def EachU (P : Program) (md : Region.Mode) (ops : Array Oper) (Q : Exit → Act → World → Prop) (S : World → Prop) (late : Nat → Bool) (n : Nat) (seen : Array Bool) (a : Act) (w : World) (rs : List Nat) : Prop :=
  ∀ k ∈ rs, wpOp P ops Q k (fun b v => (late k = false → S v) ∧ anyU P md ops Q S late n (seen.setIfInBounds k true) b v) a w
set_option maxRecDepth 100000 in
theorem EachU.nil {n : Nat} {seen : Array Bool} {a : Act} {w : World} : EachU P md ops Q S late n seen a w [] := fun _ h => by cases h
set_option maxRecDepth 100000 in
theorem EachU.cons {n : Nat} {seen : Array Bool} {a : Act} {w : World} {i : Nat} {o : Oper} {rs : List Nat} (ho : ops[i]? = some o)
    (h : ∀ K : Act → World → Prop, Shut (∀ b v, (late i = false → S v) → ((late i = false → S v) → anyU P md ops Q S late n (seen.setIfInBounds i true) b v) → K b v) → if Region.wanted o (yielded ops a.tmps) = true then Oper.wp P o a w K Q else K (a.put o.dst undef) w)
    (hs : EachU P md ops Q S late n seen a w rs) : EachU P md ops Q S late n seen a w (i :: rs) := fun j hj => by
  rcases List.mem_cons.1 hj with rfl | hj
  · exact wpOp_step ho (fun K hK => h K (fun b v hS hW => hK b v ⟨hS, hW hS⟩))
  · exact hs j hj
set_option maxRecDepth 100000 in
theorem anyU_ready {rs : List Nat} {n : Nat} {seen : Array Bool} {a : Act} {w : World} (hr : Region.ready md ops seen = rs) (hne : rs ≠ []) (h : EachU P md ops Q S late n seen a w rs) : anyU P md ops Q S late (n + 1) seen a w :=
  ⟨fun e => absurd (hr ▸ e) hne, hr ▸ h⟩
set_option maxRecDepth 100000 in
theorem anyU_done {seen : Array Bool} {a : Act} {w : World} (hr : Region.ready md ops seen = []) (h : Q .normal a w) (n : Nat) : anyU P md ops Q S late n seen a w := by
  cases n with
  | zero => exact ⟨hr, h⟩
  | succ n => exact ⟨fun _ => h, by rw [hr]; intro k hk; cases hk⟩
set_option maxRecDepth 100000 in
theorem region_until {id : Nat} {a : Act} {w : World} (late : Nat → Bool) (hm : P.follows .mixedOrders = true) (hS : S w.drew) (h : S w.drew → anyU P .any ops Q S late ops.size (Array.replicate ops.size false) a w.drew) :
    (Code.region id ops true).wp P Q a w := wp_region_any hm (anyU_any _ _ _ _ (h hS))
end
end Go.Proofs.YtlgmankojgjfjaaDoor

/- As until: what is not late keeps what holds. -/
namespace Go.Proofs.YtlgmankojgjfjaaDoor
open Go
section
variable {P : Program} {ops : Array Oper} {Q : Exit → Act → World → Prop} {md : Region.Mode} {S : World → Prop} {late : Nat → Bool}
end
end Go.Proofs.YtlgmankojgjfjaaDoor

/- identify: a binary search for an ID; has; the reference's Edge. -/
namespace Go.Proofs.YtlgmankojgjfjaaDoor
open Go.RowKit Bs
set_option maxRecDepth 100000 in
theorem ihas1_any (r : Ed) (id : Int) (w : World) :
    Calls Tryd.prog 54 #[.agg #[.int .i64 r.r, .int .i64 r.i], .int .i64 id] w fun e w' => e = .returned (.int .i64 (cmpV r.i id)) ∧ w.grownBy w' none := by
  obtain ⟨k1, k2⟩ := tone_box w #[.int .i64 r.r, .int .i64 r.i] 39
  have HB := Lib.hid (And.intro k1 k2)
  clear k1 k2
  go_enter Tryd.func54, Tryd.ntmps54
  go_upto_region 1 with fail
  generalize w.alloc _ = w1 at *
  have c1 : w1.cell? ⟨w.heap.size, 1, none⟩ = some (.int .i64 r.i) := cell_of_row _ _ _ _ _ _ HB.out.1
  go_wp2_with (go_at_call 28; refine (tcmp_any _ _ _).mono ?_; rintro e w' ⟨rfl, rfl⟩)
  go_ret
  exact ⟨rfl, HB.out.2⟩
def BsEPost (E : List Ed) (id : Int) (w : World) (e : Ending) (w' : World) : Prop := ∃ (i : Nat) (b : Bool), e = .returned (.tuple #[.int .i64 (i : Int), .bool b]) ∧ Hid (BsE E id i b) ∧ w.grownBy w' none
set_option maxRecDepth 100000 in
set_option maxHeartbeats 3200000 in
theorem ibsE_any (E : List Ed) (id : Int) (p : Option Addr) (c : Nat) (q : Nat → Prop) (w : World) (hR : RdF w q (.slice p E.length c) E.length (E.flatMap edC)) (hm : E.length ≤ 1000000) :
    Calls Tryd.prog 53 #[.slice p E.length c, .int .i64 id, .func (.func 54) #[] #[]] w fun e w' => BsEPost E id w e w' := by
  have eg : EnterF 54 := enters_of Tryd.func54 (by kernel_rfl) rfl
  have HR := Lib.hid hR
  clear hR
  go_enter Tryd.func53, Tryd.ntmps53
  have GZ : Hid (w.grownBy w none) := Lib.hid (grown_refl _ _)
  go_wp2_with fail
  go_loopw [9, 10] (fun vi vj wr => ∃ I J : Nat, I ≤ J ∧ J ≤ E.length ∧ vi = .int .i64 (I : Int) ∧ vj = .int .i64 (J : Int) ∧ Hid ((∀ x, 0 < I → E[I - 1]? = some x → x.i < id) ∧ ∀ x, E[J]? = some x → id ≤ x.i) ∧ Hid (w.grownBy wr none)) (fun vi vj _ => ((RowKit.intOf vj) - (RowKit.intOf vi)).toNat)
  case atStart => exact ⟨0, E.length, Nat.zero_le _, Nat.le_refl _, rfl, rfl, Lib.hid ⟨fun x h => by omega, fun x h => by rw [List.getElem?_eq_none (Nat.le_refl _)] at h; cases h⟩, GZ⟩
  case round =>
  obtain ⟨I, J, hIJ, hJ, rfl, rfl, HI, G⟩ := hrel
  obtain ⟨w2, hw2⟩ : ∃ w2, w2 = wr := ⟨_, rfl⟩
  rw [← hw2] at G ⊢
  clear GZ hw2
  by_cases hlt : I < J
  · have hlt' : (I : Int) < (J : Int) := by omega
    obtain ⟨h, hh⟩ : ∃ h, (I + J) / 2 = h := ⟨_, rfl⟩
    have h1 : I ≤ h := by omega
    have h2 : h < J := by omega
    have hsum : (I : Int) + (J : Int) ≤ 2000000 := by omega
    go_upto_region 4 with fail
    go_cut [11] from 18 to 23 (fun v wx => v = .int .i64 (h : Int) ∧ w2 = wx)
    case first =>
      go_wp2_with fail
      go_meet
      exact ⟨congrArg _ (by omega), rfl⟩
    case rest =>
    obtain ⟨rfl, rfl⟩ := hcut
    clear hh hsum
    obtain ⟨-, b, off, rfl, -, hc⟩ := ed_cells (HR.out.keep G.out) (by omega)
    obtain ⟨y, hy⟩ : ∃ y, E[h]? = some y := ⟨_, List.getElem?_eq_getElem (by omega)⟩
    obtain ⟨q0, q1⟩ := hc h y hy
    have HY := Lib.hid hy
    have i0 : (0 : Int) ≤ (h : Int) := by omega
    have i1 : (h : Int) < (E.length : Int) := by omega
    obtain ⟨z, hz⟩ : ∃ z, cmpV y.i id = z := ⟨_, rfl⟩
    have HZ := Lib.hid hz
    have hcall : ∀ w', Calls Tryd.prog 54 #[.agg #[.int .i64 y.r, .int .i64 y.i], .int .i64 id] w' fun e w2 => e = .returned (.int .i64 z) ∧ w'.grownBy w2 none := fun w' => by
      have := ihas1_any y id w'
      rw [hz] at this
      exact this
    clear hc hy hz
    by_cases hzn : z < 0
    · go_wp2_with (go_at_call 54; refine (hcall _).mono ?_; rintro e w' ⟨rfl, hg⟩; have HG := Lib.hid (grown_trans G.out hg); clear hg)
      refine ⟨⟨h + 1, J, by omega, hJ, congrArg _ (by omega), rfl, Lib.hid ⟨fun x _ hx => ?_, HI.out.2⟩, HG⟩, by simp only [RowKit.intOf]; omega⟩
      rw [show h + 1 - 1 = h by omega, HY.out] at hx
      obtain rfl := Option.some.inj hx
      exact cmpV_lt.1 (by rw [HZ.out]; exact hzn)
    · go_wp2_with (go_at_call 54; refine (hcall _).mono ?_; rintro e w' ⟨rfl, hg⟩; have HG := Lib.hid (grown_trans G.out hg); clear hg)
      refine ⟨⟨I, h, h1, by omega, rfl, rfl, Lib.hid ⟨HI.out.1, fun x hx => ?_⟩, HG⟩, by simp only [RowKit.intOf]; omega⟩
      rw [HY.out] at hx
      obtain rfl := Option.some.inj hx
      exact cmpV_ge.1 (by rw [HZ.out]; omega)
  · obtain rfl : I = J := by omega
    by_cases hlt2 : I < E.length
    · have hlt2' : (I : Int) < (E.length : Int) := by omega
      obtain ⟨-, b, off, rfl, -, hc⟩ := ed_cells (HR.out.keep G.out) (by omega)
      obtain ⟨y, hy⟩ : ∃ y, E[I]? = some y := ⟨_, List.getElem?_eq_getElem hlt2⟩
      obtain ⟨q0, q1⟩ := hc I y hy
      have HY := Lib.hid hy
      have i0 : (0 : Int) ≤ (I : Int) := by omega
      obtain ⟨z, hz⟩ : ∃ z, cmpV y.i id = z := ⟨_, rfl⟩
      have HZ := Lib.hid hz
      have hcall : ∀ w', Calls Tryd.prog 54 #[.agg #[.int .i64 y.r, .int .i64 y.i], .int .i64 id] w' fun e w2 => e = .returned (.int .i64 z) ∧ w'.grownBy w2 none := fun w' => by
        have := ihas1_any y id w'
        rw [hz] at this
        exact this
      clear hc hy hz
      go_wp2_with (go_at_call 54; refine (hcall _).mono ?_; rintro e w' ⟨rfl, hg⟩; have HG := Lib.hid (grown_trans G.out hg); clear hg)
      all_goals
        go_ret2
      refine ⟨I, _, rfl, Lib.hid ⟨by omega, HI.out.1, HI.out.2, ?_⟩, HG.out⟩
      rw [HY.out]
      show (z == 0) = decide (y.i = id)
      rw [← HZ.out]
      by_cases h0 : y.i = id
      · rw [decide_eq_true h0, cmpV_eq.2 h0]; rfl
      · rw [decide_eq_false h0]
        have : cmpV y.i id ≠ 0 := fun h => h0 (cmpV_eq.1 h)
        simpa using this
    · have hnl : ¬ (I : Int) < (E.length : Int) := by omega
      go_wp2_with fail
      go_ret2
      refine ⟨I, _, rfl, Lib.hid ⟨by omega, HI.out.1, HI.out.2, ?_⟩, G.out⟩
      rw [List.getElem?_eq_none (by omega)]
set_option maxRecDepth 100000 in
set_option maxHeartbeats 3200000 in
theorem ihas_any (sub n : Int) (E : List Ed) (id : Int) (p : Option Addr) (c : Nat) (q : Nat → Prop) (w : World) (hR : RdF w q (.slice p E.length c) E.length (E.flatMap edC)) (hv : vPl sub n E = true) :
    Calls Tryd.prog 31 #[.agg #[.int .i64 sub, .int .i64 n, .slice p E.length c], .int .i64 id] w fun e w' => e = .returned (.bool (knE E id)) ∧ w.grownBy w' none := by
  obtain ⟨h1, h2, -⟩ := vPl_asc hv
  have HE := Lib.hid h1
  obtain ⟨k1, k2⟩ := tone_box w #[.int .i64 sub, .int .i64 n, .slice p E.length c] 30
  have H0 := Lib.hid (And.intro k1 (And.intro k2 (hR.keep k2)))
  clear k1 k2 hR h1 hv
  go_enter Tryd.func31, Tryd.ntmps31
  go_upto_region 1 with fail
  generalize w.alloc _ = w1 at *
  obtain ⟨⟨d0, d1, d2⟩, -⟩ := row3i H0.out.1
  go_wp2_with fail
  refine (ibsE_any E id p c _ w1 H0.out.2.2 (by omega)).mono ?_
  rintro e w2 ⟨i, b, rfl, hb, hg⟩
  have HB : Hid (b = knE E id) := Lib.hid (bs_edge HE.out hb.out)
  have G2 := Lib.hid (grown_trans H0.out.2.1 hg)
  clear hb hg
  go_wp2_with fail
  go_ret
  rw [HB.out]
  exact ⟨rfl, G2.out⟩
end Go.Proofs.YtlgmankojgjfjaaDoor

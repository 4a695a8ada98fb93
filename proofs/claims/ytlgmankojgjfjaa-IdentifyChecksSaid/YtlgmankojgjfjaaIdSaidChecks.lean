/- The statement IdentifyChecks returns true for every input, and each argument reads afterwards as it did: Check and ValidPlan return what P10.1 says.
   Conditions: none but that the code is that of the claim's COMMIT. -/
import Derived.Test.YtlgmankojgjfjaaCk1
import Derived.Test.YtlgmankojgjfjaaRows
import Derived.Test.YtlgmankojgjfjaaCk4
import Derived.Test.YtlgmankojgjfjaaCk12
namespace Go.Proofs.Ytlgmankojgjfjaa
namespace LawIdentifyChecks
open Go.ChangeShapes Go.WideShapes Go.ChangeAt Go.RowKit Bs
set_option maxRecDepth 100000 in
theorem contract (H : Type) (enc : TypeId × Value → H) (W : World) (base : Nat) (args : Array Value) (ds gs : List (DataW H)) (before : List MemPlace)
    (hval : ∀ (j : Nat) t v, Try.f3.params[j]? = some t → args[j]? = some v → Value.okWide Try.prog W .any base t v)
    (hW : DataW.Whole enc Try.prog Try.f3.params.toList Rows.identifyChecksSpec.vars false W args.toList ds gs before) :
    Calls Try.prog 3 args W fun e W' => ∃ v, e = .returned v ∧ Rows.identifyChecksSpec.post enc Try.prog Try.f3 false true false false W args v W' := by
  have hW' := hW
  obtain ⟨p, q, hA0, hV, _, _, _⟩ := hW
  have hA : DataW.TrodAll enc Try.prog W 0 (fun _ => true) true Try.f3.params.toList args.toList ds p := hA0
  rw [Try.params3] at hA hval
  obtain ⟨rfl, _⟩ := trodVars_none hV
  obtain ⟨v0, vs0, d0, ds0, p0, q0, hargs0, rfl, _, h0, r0⟩ := trodAll_cons hA
  obtain ⟨v1, vs1, d1, ds1, p1, q1, hargs1, rfl, _, h1, r1⟩ := trodAll_cons r0
  obtain ⟨v2, vs2, d2, ds2, p2, q2, hargs2, rfl, _, h2, r2⟩ := trodAll_cons r1
  obtain ⟨he3, rfl, _⟩ := trodAll_nil r2
  obtain rfl : args = #[v0, v1, v2] := by cases args; simp_all
  obtain ⟨zs0, hz0, hr0, hs0⟩ := opn_ints (hval 0 _ v0 rfl rfl) h0
  obtain ⟨l1, p1, c1, rfl, hR1, hnp1, hl1, hc1⟩ := opn_owneds (hval 1 _ v1 rfl rfl) h1
  obtain ⟨s2, n2, l2, p2, c2, rfl, hR2, hnp2, hl2, hc2⟩ := opn_plan (hval 2 _ v2 rfl rfl) h2
  refine (icks_walk v0 l1 p1 c1 s2 n2 l2 p2 c2 W (ints_in hz0 hr0 hs0) hR1 hR2 (Nat.le_trans hl1 hc1) (Nat.le_trans hl2 hc2)).mono fun e W' ⟨he, hg⟩ => ?_
  exact ⟨_, he, law_post (by kernel_rfl) rfl (by kernel_rfl) ⟨rfl, rfl, rfl⟩ hW' hg⟩
/-- The witness's world: nothing is laid. -/
noncomputable def start (os : Os) : World := (World.holding Try.prog os ⟨#[], #[], []⟩)
set_option maxRecDepth 100000 in
theorem met (os : Os) : laidMet Try.prog Rows.identifyChecksRow.laid ((start os).forCall (fun _ _ => 0) ⟨#[], #[.slice none 0 0, .slice none 0 0, .agg #[.int .i64 0, .int .i64 0, .slice none 0 0]], []⟩).memory :=
  laidMet_of_run' 8 (by kernel_rfl) (by kernel_rfl)
set_option maxRecDepth 100000 in
theorem reads (os : Os) {H : Type} (enc : TypeId × Value → H) : ∃ places, DataW.whole enc Try.prog ((start os).forCall (fun _ _ => 0) ⟨#[], #[.slice none 0 0, .slice none 0 0, .agg #[.int .i64 0, .int .i64 0, .slice none 0 0]], []⟩).memory Try.f3.params.toList Rows.identifyChecksSpec.vars false (#[.slice none 0 0, .slice none 0 0, .agg #[.int .i64 0, .int .i64 0, .slice none 0 0]] : Array Value).toList 8 = some ([.nil, .nil, .agg [.lit (.int .i64 0), .lit (.int .i64 0), .nil]], [], places) :=
  ⟨[], by kernel_rfl⟩
set_option maxRecDepth 100000 in
theorem lifted (os : Os) (started : os.Started) (H : Type) (enc : TypeId × Value → H) (F : Stop.Interp) :
    ReturnsInHanded {} Try.checked os 3 .any ((OpenSpec.ofChange Rows.identifyChecksSpec).preRow enc Try.prog Try.f3 Rows.identifyChecksRow.domain false Rows.identifyChecksRow.laid) (((OpenSpec.ofChange Rows.identifyChecksSpec).at F).post enc Try.prog Try.f3 false true false false) := by
  obtain ⟨places, hx⟩ := reads os enc
  refine returnsInHanded_of_row (C := Try.checked) (s := OpenSpec.ofChange Rows.identifyChecksSpec) kit_own started (by kernel_rfl) Try.func3
    (witness_row_at (enc := enc) (C := Try.checked) false (start os) #[.slice none 0 0, .slice none 0 0, .agg #[.int .i64 0, .int .i64 0, .slice none 0 0]] rfl (by kernel_rfl) (by kernel_rfl) (by kernel_rfl)
      (OpenSpec.preRow_of_cond 8 hx (by kernel_rfl) (fun k hk => by cases hk) (by kernel_rfl) (met os))) ?_
  intro W base args ds gs before hval hW _ _ _ hL _ _
  exact contract H enc W base args ds gs before hval hW
set_option maxRecDepth 100000 in
theorem said : Rows.IdentifyChecksSaid :=
  OpenClaim.holds_of_cond 3 Try.f3 rfl rfl rfl rfl rfl rfl rfl ⟨rfl, rfl, rfl, rfl, rfl⟩ rfl rfl rfl rfl rfl (by kernel_rfl) Try.func3 (by kernel_rfl)
    (of_decide_eq_true (by kernel_rfl)) (by unfold Func.isWrapper; first | (rw [if_pos (by decide +kernel)]; kernel_rfl) | (rw [if_neg (by decide +kernel)]; exact ⟨rfl, rfl⟩))
    (fun os started H enc _ F => by rw [OpenClaim.pre_eq_preRow]; exact lifted os started H enc F)
end LawIdentifyChecks
set_option maxRecDepth 100000 in
/-- The statement IdentifyChecks. -/
theorem identifyChecks_holds : Rows.IdentifyChecksSaid := LawIdentifyChecks.said
end Go.Proofs.Ytlgmankojgjfjaa

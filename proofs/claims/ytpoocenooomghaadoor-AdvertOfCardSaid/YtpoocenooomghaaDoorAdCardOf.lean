/- The statement AdvertOf returns true for every input, and each argument reads afterwards as it did: Of returns what P7.4 says.
   Conditions: the package variable math/bits.deBruijn64tab stands as the program's text lays it (the card ties it to that text); the code is that of the claim's COMMIT. -/
import Derived.Test.YtpoocenooomghaaDoorOf2
import Derived.Test.YtpoocenooomghaaDoorOf22
namespace Go.Proofs.YtpoocenooomghaaDoor
namespace LawAdvertOf
open Go.ChangeShapes Go.WideShapes Go.ChangeAt Go.RowKit Bs
set_option maxRecDepth 100000 in
theorem contract (H : Type) (enc : TypeId × Value → H) (W : World) (base : Nat) (args : Array Value) (ds gs : List (DataW H)) (before : List MemPlace)
    (hval : ∀ (j : Nat) t v, Tryd.f9.params[j]? = some t → args[j]? = some v → Value.okWide Tryd.prog W .any base t v)
    (hW : DataW.Whole enc Tryd.prog Tryd.f9.params.toList Rows.advertOfSpec.vars false W args.toList ds gs before) (hL : laidMetH Tryd.prog Rows.advertOfRow.laid W) :
    Calls Tryd.prog 9 args W fun e W' => ∃ v, e = .returned v ∧ Rows.advertOfSpec.post enc Tryd.prog Tryd.f9 false true false false W args v W' := by
  have hT : Tb W := kit_table hL
  have hW' := hW
  obtain ⟨p, q, hA0, hV, _, _, _⟩ := hW
  have hA : DataW.TrodAll enc Tryd.prog W 0 (fun _ => true) true Tryd.f9.params.toList args.toList ds p := hA0
  rw [Tryd.params9] at hA hval
  obtain ⟨rfl, _⟩ := trodVars_none hV
  obtain ⟨v0, vs0, d0, ds0, p0, q0, hargs0, rfl, _, h0, r0⟩ := trodAll_cons hA
  obtain ⟨v1, vs1, d1, ds1, p1, q1, hargs1, rfl, _, h1, r1⟩ := trodAll_cons r0
  obtain ⟨v2, vs2, d2, ds2, p2, q2, hargs2, rfl, _, h2, r2⟩ := trodAll_cons r1
  obtain ⟨v3, vs3, d3, ds3, p3, q3, hargs3, rfl, _, h3, r3⟩ := trodAll_cons r2
  obtain ⟨he4, rfl, _⟩ := trodAll_nil r3
  obtain rfl : args = #[v0, v1, v2, v3] := by cases args; simp_all
  obtain ⟨zs0, hz0, hr0, hs0⟩ := opn_ints (hval 0 _ v0 rfl rfl) h0
  obtain ⟨n1, rfl, hn1⟩ := opn_i64 (hval 1 _ v1 rfl rfl) h1
  obtain ⟨n2, rfl, hn2⟩ := opn_i64 (hval 2 _ v2 rfl rfl) h2
  obtain ⟨M3, cp3, cc3, rfl, hr3, hn3, hl3, hc3⟩ := opn_claims (hval 3 _ v3 rfl rfl) h3
  refine (of_walk v0 n1 n2 M3 cp3 cc3 hn3 ⟨hl3, hc3⟩ W (ints_in hz0 hr0 hs0) hr3 hT).mono fun e W' ⟨he, hg⟩ => ?_
  exact ⟨_, he, law_post (by kernel_rfl) rfl (by kernel_rfl) ⟨rfl, rfl, rfl⟩ hW' hg⟩
set_option maxRecDepth 100000 in
theorem met (os : Os) : laidMet Tryd.prog Rows.advertOfRow.laid ((laidWorld os).forCall (fun _ _ => 0) ⟨#[], #[.slice none 0 0, .int .i64 0, .int .i64 0, .slice none 0 0], []⟩).memory :=
  laidMet_of_run' 8 (by kernel_rfl) (by kernel_rfl)
set_option maxRecDepth 100000 in
theorem reads (os : Os) {H : Type} (enc : TypeId × Value → H) : ∃ places, DataW.whole enc Tryd.prog ((laidWorld os).forCall (fun _ _ => 0) ⟨#[], #[.slice none 0 0, .int .i64 0, .int .i64 0, .slice none 0 0], []⟩).memory Tryd.f9.params.toList Rows.advertOfSpec.vars false (#[.slice none 0 0, .int .i64 0, .int .i64 0, .slice none 0 0] : Array Value).toList 8 = some ([.nil, .lit (.int .i64 0), .lit (.int .i64 0), .nil], [], places) :=
  ⟨[], by kernel_rfl⟩
set_option maxRecDepth 100000 in
theorem lifted (os : Os) (started : os.Started) (H : Type) (enc : TypeId × Value → H) (F : Stop.Interp) :
    ReturnsInHanded {} Tryd.checked os 9 .any ((OpenSpec.ofChange Rows.advertOfSpec).preRow enc Tryd.prog Tryd.f9 Rows.advertOfRow.domain false Rows.advertOfRow.laid) (((OpenSpec.ofChange Rows.advertOfSpec).at F).post enc Tryd.prog Tryd.f9 false true false false) := by
  obtain ⟨places, hx⟩ := reads os enc
  refine returnsInHanded_of_row (C := Tryd.checked) (s := OpenSpec.ofChange Rows.advertOfSpec) kit_own started (by kernel_rfl) Tryd.func9
    (witness_row_at (enc := enc) (C := Tryd.checked) false (laidWorld os) #[.slice none 0 0, .int .i64 0, .int .i64 0, .slice none 0 0] rfl (by kernel_rfl) (by kernel_rfl) (by kernel_rfl)
      (OpenSpec.preRow_of_cond 8 hx (by kernel_rfl) (fun k hk => by cases hk) (by kernel_rfl) (met os))) ?_
  intro W base args ds gs before hval hW _ _ _ hL _ _
  exact contract H enc W base args ds gs before hval hW hL
set_option maxRecDepth 100000 in
theorem said : Rows.AdvertOfSaid :=
  OpenClaim.holds_of_cond 9 Tryd.f9 rfl rfl rfl rfl rfl rfl rfl ⟨rfl, rfl, rfl, rfl, rfl⟩ rfl rfl rfl rfl rfl (by kernel_rfl) Tryd.func9 (by kernel_rfl)
    (of_decide_eq_true (by kernel_rfl)) (by unfold Func.isWrapper; first | (rw [if_pos (by decide +kernel)]; kernel_rfl) | (rw [if_neg (by decide +kernel)]; exact ⟨rfl, rfl⟩))
    (fun os started H enc _ F => by rw [OpenClaim.pre_eq_preRow]; exact lifted os started H enc F)
set_option maxRecDepth 100000 in
theorem plain (f : FuncId) (fn : Func) (hf : Tryd.pinned.checked.prog.funcNamed "bitcast/bitcastlaw07.AdvertOf" = some f) (hfn : Tryd.pinned.checked.prog.funcs[f]? = some fn) :
    false = Tryd.pinned.checked.prog.looks [] ∧ ∀ (j : Nat) t, fn.params[j]? = some t → Tryd.pinned.checked.prog.wantsStandIn t = false := by
  obtain rfl : f = 9 := Option.some.inj ((show Tryd.prog.funcNamed "bitcast/bitcastlaw07.AdvertOf" = some 9 by kernel_rfl).symm.trans hf) |>.symm
  obtain rfl : fn = Tryd.f9 := (Option.some.inj (Tryd.func9.symm.trans hfn)).symm
  refine ⟨by kernel_rfl, fun j t ht => ?_⟩
  rw [Tryd.params9] at ht
  have hm : t ∈ [22, 3, 3, 24] := by simpa using Array.mem_of_getElem? ht
  have hall : ([22, 3, 3, 24].all fun u => !Tryd.prog.wantsStandIn u) = true := by kernel_rfl
  exact (show Tryd.prog.wantsStandIn t = false by simpa using List.all_eq_true.1 hall t hm)
end LawAdvertOf
set_option maxRecDepth 100000 in
/-- The card of AdvertOf. -/
theorem advertOf_holds : Rows.AdvertOfCardSaid :=
  Claim7.holds_tied_plain_at .later [] _ _ _ _ LawAdvertOf.said (fun _ h => by cases h) (by kernel_rfl) (fun _ h => by cases h) advertOf_row_tie rfl ⟨rfl, rfl⟩ (by kernel_rfl) rfl LawAdvertOf.plain (by kernel_rfl)
end Go.Proofs.YtpoocenooomghaaDoor

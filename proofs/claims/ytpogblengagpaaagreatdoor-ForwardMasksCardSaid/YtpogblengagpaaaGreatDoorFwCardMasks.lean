/- The statement ForwardMasks returns true for every input, and each argument reads afterwards as it did: each copy has the bits of the packet that the mask of its receiver has, and Local has those of the own mask (P13.4).
  Conditions: the package variable math/bits.deBruijn64tab stands as the program's text lays it (the card ties it to that text); the code is that of the claim's COMMIT. -/
import Derived.Test.YtpogblengagpaaaGreatDoorMk1
import Derived.Test.YtpogblengagpaaaGreatDoorMk17
namespace Go.Proofs.YtpogblengagpaaaGreatDoor
set_option maxRecDepth 100000
namespace LawForwardMasks
open Go.ChangeShapes Go.WideShapes Go.ChangeAt Go.RowKit Bs
theorem contract (H : Type) (enc : TypeId × Value → H) (W : World) (base : Nat) (args : Array Value) (ds gs : List (DataW H)) (before : List MemPlace)
  (hval : ∀ (j : Nat) t v, Tryz.f5.params[j]? = some t → args[j]? = some v → Value.okWide Tryz.prog W .any base t v)
  (hW : DataW.Whole enc Tryz.prog Tryz.f5.params.toList Rows.forwardMasksSpec.vars false W args.toList ds gs before) (hL : laidMetH Tryz.prog Rows.forwardMasksRow.laid W) :
  Calls Tryz.prog 5 args W fun e W' => ∃ v, e = .returned v ∧ Rows.forwardMasksSpec.post enc Tryz.prog Tryz.f5 false true false false W args v W' := by
 have hT : Tb W := kit_table hL
 have hW' := hW
 obtain ⟨p, q, hA0, hV, _, _, _⟩ := hW
 have hA : DataW.TrodAll enc Tryz.prog W 0 (fun _ => true) true Tryz.f5.params.toList args.toList ds p := hA0
 rw [Tryz.params5] at hA hval
 obtain ⟨rfl, _⟩ := trodVars_none hV
 obtain ⟨v0, vs0, d0, ds0, p0, q0, hargs0, rfl, _, h0, r0⟩ := trodAll_cons hA
 obtain ⟨he1, rfl, _⟩ := trodAll_nil r0
 obtain rfl : args = #[v0] := by cases args; simp_all
 obtain ⟨zs0, hz0, hr0, hs0⟩ := opn_ints (hval 0 _ v0 rfl rfl) h0
 refine (masks_walkF v0 W (ints_in hz0 hr0 hs0) hT).mono fun e W' ⟨he, hg⟩ => ?_
 exact ⟨_, he, law_post (by kernel_rfl) rfl (by kernel_rfl) ⟨rfl, rfl, rfl⟩ hW' hg⟩
theorem met (os : Os) : laidMet Tryz.prog Rows.forwardMasksRow.laid ((laidWorld os).forCall (fun _ _ => 0) ⟨#[], #[.slice none 0 0], []⟩).memory :=
 laidMet_of_run' 8 (by kernel_rfl) (by kernel_rfl)
theorem reads (os : Os) {H : Type} (enc : TypeId × Value → H) : ∃ places, DataW.whole enc Tryz.prog ((laidWorld os).forCall (fun _ _ => 0) ⟨#[], #[.slice none 0 0], []⟩).memory Tryz.f5.params.toList Rows.forwardMasksSpec.vars false (#[.slice none 0 0] : Array Value).toList 8 = some ([.nil], [], places) :=
 ⟨[], by kernel_rfl⟩
theorem lifted (os : Os) (started : os.Started) (H : Type) (enc : TypeId × Value → H) (F : Stop.Interp) :
  ReturnsInHanded {} Tryz.checked os 5 .any ((OpenSpec.ofChange Rows.forwardMasksSpec).preRow enc Tryz.prog Tryz.f5 Rows.forwardMasksRow.domain false Rows.forwardMasksRow.laid) (((OpenSpec.ofChange Rows.forwardMasksSpec).at F).post enc Tryz.prog Tryz.f5 false true false false) := by
 obtain ⟨places, hx⟩ := reads os enc
 refine returnsInHanded_of_row (C := Tryz.checked) (s := OpenSpec.ofChange Rows.forwardMasksSpec) kit_own started (by kernel_rfl) Tryz.func5
  (witness_row_at (enc := enc) (C := Tryz.checked) false (laidWorld os) #[.slice none 0 0] rfl (by kernel_rfl) (by kernel_rfl) (by kernel_rfl)
   (OpenSpec.preRow_of_cond 8 hx (by kernel_rfl) (fun k hk => by cases hk) (by kernel_rfl) (met os))) ?_
 intro W base args ds gs before hval hW _ _ _ hL _ _
 exact contract H enc W base args ds gs before hval hW hL
theorem said : Rows.ForwardMasksSaid :=
 OpenClaim.holds_of_cond 5 Tryz.f5 rfl rfl rfl rfl rfl rfl rfl ⟨rfl, rfl, rfl, rfl, rfl⟩ rfl rfl rfl rfl rfl (by kernel_rfl) Tryz.func5 (by kernel_rfl)
  (of_decide_eq_true (by kernel_rfl)) (by unfold Func.isWrapper; first | (rw [if_pos (by decide +kernel)]; kernel_rfl) | (rw [if_neg (by decide +kernel)]; exact ⟨rfl, rfl⟩))
  (fun os started H enc _ F => by rw [OpenClaim.pre_eq_preRow]; exact lifted os started H enc F)
theorem plain (f : FuncId) (fn : Func) (hf : Tryz.pinned.checked.prog.funcNamed "bitcast/bitcastlaw13.ForwardMasks" = some f) (hfn : Tryz.pinned.checked.prog.funcs[f]? = some fn) :
  false = Tryz.pinned.checked.prog.looks [] ∧ ∀ (j : Nat) t, fn.params[j]? = some t → Tryz.pinned.checked.prog.wantsStandIn t = false := by
 obtain rfl : f = 5 := Option.some.inj ((show Tryz.prog.funcNamed "bitcast/bitcastlaw13.ForwardMasks" = some 5 by kernel_rfl).symm.trans hf) |>.symm
 obtain rfl : fn = Tryz.f5 := (Option.some.inj (Tryz.func5.symm.trans hfn)).symm
 refine ⟨by kernel_rfl, fun j t ht => ?_⟩
 rw [Tryz.params5] at ht
 have hm : t ∈ [22] := by simpa using Array.mem_of_getElem? ht
 have hall : ([22].all fun u => !Tryz.prog.wantsStandIn u) = true := by kernel_rfl
 exact (show Tryz.prog.wantsStandIn t = false by simpa using List.all_eq_true.1 hall t hm)
end LawForwardMasks
theorem forwardMasks_holds : Rows.ForwardMasksCardSaid :=
 Claim7.holds_tied_plain_at .later [] _ _ _ _ LawForwardMasks.said (fun _ h => by cases h) (by kernel_rfl) (fun _ h => by cases h) forwardMasks_row_tie rfl ⟨rfl, rfl⟩ (by kernel_rfl) rfl LawForwardMasks.plain (by kernel_rfl)
end Go.Proofs.YtpogblengagpaaaGreatDoor

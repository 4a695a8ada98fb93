/- The statement ForwardSingly returns true for every input, and each argument reads afterwards as it did: forwarding packets with the single bits of a packet gives the same routers and bits as forwarding the packet (P13.4).
  Conditions: the package variable math/bits.deBruijn64tab stands as the program's text lays it (the card ties it to that text); the code is that of the claim's COMMIT. -/
import Derived.Test.YtpogblengagpaaaDoorSi1
import Derived.Test.YtpogblengagpaaaDoorSi15
namespace Go.Proofs.YtpogblengagpaaaDoor
set_option maxRecDepth 100000
namespace LawForwardSingly
open Go.ChangeShapes Go.WideShapes Go.ChangeAt Go.RowKit Bs
theorem contract (H : Type) (enc : TypeId × Value → H) (W : World) (base : Nat) (args : Array Value) (ds gs : List (DataW H)) (before : List MemPlace)
  (hval : ∀ (j : Nat) t v, Tryd.f4.params[j]? = some t → args[j]? = some v → Value.okWide Tryd.prog W .any base t v)
  (hW : DataW.Whole enc Tryd.prog Tryd.f4.params.toList Rows.forwardSinglySpec.vars false W args.toList ds gs before) (hL : laidMetH Tryd.prog Rows.forwardSinglyRow.laid W) :
  Calls Tryd.prog 4 args W fun e W' => ∃ v, e = .returned v ∧ Rows.forwardSinglySpec.post enc Tryd.prog Tryd.f4 false true false false W args v W' := by
 have hT : Tb W := kit_table hL
 have hW' := hW
 obtain ⟨p, q, hA0, hV, _, _, _⟩ := hW
 have hA : DataW.TrodAll enc Tryd.prog W 0 (fun _ => true) true Tryd.f4.params.toList args.toList ds p := hA0
 rw [Tryd.params4] at hA hval
 obtain ⟨rfl, _⟩ := trodVars_none hV
 obtain ⟨v0, vs0, d0, ds0, p0, q0, hargs0, rfl, _, h0, r0⟩ := trodAll_cons hA
 obtain ⟨he1, rfl, _⟩ := trodAll_nil r0
 obtain rfl : args = #[v0] := by cases args; simp_all
 obtain ⟨zs0, hz0, hr0, hs0⟩ := opn_ints (hval 0 _ v0 rfl rfl) h0
 refine (singly_walkF v0 W (ints_in hz0 hr0 hs0) hT).mono fun e W' ⟨he, hg⟩ => ?_
 exact ⟨_, he, law_post (by kernel_rfl) rfl (by kernel_rfl) ⟨rfl, rfl, rfl⟩ hW' hg⟩
theorem met (os : Os) : laidMet Tryd.prog Rows.forwardSinglyRow.laid ((laidWorld os).forCall (fun _ _ => 0) ⟨#[], #[.slice none 0 0], []⟩).memory :=
 laidMet_of_run' 8 (by kernel_rfl) (by kernel_rfl)
theorem reads (os : Os) {H : Type} (enc : TypeId × Value → H) : ∃ places, DataW.whole enc Tryd.prog ((laidWorld os).forCall (fun _ _ => 0) ⟨#[], #[.slice none 0 0], []⟩).memory Tryd.f4.params.toList Rows.forwardSinglySpec.vars false (#[.slice none 0 0] : Array Value).toList 8 = some ([.nil], [], places) :=
 ⟨[], by kernel_rfl⟩
theorem lifted (os : Os) (started : os.Started) (H : Type) (enc : TypeId × Value → H) (F : Stop.Interp) :
  ReturnsInHanded {} Tryd.checked os 4 .any ((OpenSpec.ofChange Rows.forwardSinglySpec).preRow enc Tryd.prog Tryd.f4 Rows.forwardSinglyRow.domain false Rows.forwardSinglyRow.laid) (((OpenSpec.ofChange Rows.forwardSinglySpec).at F).post enc Tryd.prog Tryd.f4 false true false false) := by
 obtain ⟨places, hx⟩ := reads os enc
 refine returnsInHanded_of_row (C := Tryd.checked) (s := OpenSpec.ofChange Rows.forwardSinglySpec) kit_own started (by kernel_rfl) Tryd.func4
  (witness_row_at (enc := enc) (C := Tryd.checked) false (laidWorld os) #[.slice none 0 0] rfl (by kernel_rfl) (by kernel_rfl) (by kernel_rfl)
   (OpenSpec.preRow_of_cond 8 hx (by kernel_rfl) (fun k hk => by cases hk) (by kernel_rfl) (met os))) ?_
 intro W base args ds gs before hval hW _ _ _ hL _ _
 exact contract H enc W base args ds gs before hval hW hL
theorem said : Rows.ForwardSinglySaid :=
 OpenClaim.holds_of_cond 4 Tryd.f4 rfl rfl rfl rfl rfl rfl rfl ⟨rfl, rfl, rfl, rfl, rfl⟩ rfl rfl rfl rfl rfl (by kernel_rfl) Tryd.func4 (by kernel_rfl)
  (of_decide_eq_true (by kernel_rfl)) (by unfold Func.isWrapper; first | (rw [if_pos (by decide +kernel)]; kernel_rfl) | (rw [if_neg (by decide +kernel)]; exact ⟨rfl, rfl⟩))
  (fun os started H enc _ F => by rw [OpenClaim.pre_eq_preRow]; exact lifted os started H enc F)
theorem plain (f : FuncId) (fn : Func) (hf : Tryd.pinned.checked.prog.funcNamed "bitcast/bitcastlaw13.ForwardSingly" = some f) (hfn : Tryd.pinned.checked.prog.funcs[f]? = some fn) :
  false = Tryd.pinned.checked.prog.looks [] ∧ ∀ (j : Nat) t, fn.params[j]? = some t → Tryd.pinned.checked.prog.wantsStandIn t = false := by
 obtain rfl : f = 4 := Option.some.inj ((show Tryd.prog.funcNamed "bitcast/bitcastlaw13.ForwardSingly" = some 4 by kernel_rfl).symm.trans hf) |>.symm
 obtain rfl : fn = Tryd.f4 := (Option.some.inj (Tryd.func4.symm.trans hfn)).symm
 refine ⟨by kernel_rfl, fun j t ht => ?_⟩
 rw [Tryd.params4] at ht
 have hm : t ∈ [22] := by simpa using Array.mem_of_getElem? ht
 have hall : ([22].all fun u => !Tryd.prog.wantsStandIn u) = true := by kernel_rfl
 exact (show Tryd.prog.wantsStandIn t = false by simpa using List.all_eq_true.1 hall t hm)
end LawForwardSingly
theorem forwardSingly_holds : Rows.ForwardSinglyCardSaid :=
 Claim7.holds_tied_plain_at .later [] _ _ _ _ LawForwardSingly.said (fun _ h => by cases h) (by kernel_rfl) (fun _ h => by cases h) forwardSingly_row_tie rfl ⟨rfl, rfl⟩ (by kernel_rfl) rfl LawForwardSingly.plain (by kernel_rfl)
end Go.Proofs.YtpogblengagpaaaDoor

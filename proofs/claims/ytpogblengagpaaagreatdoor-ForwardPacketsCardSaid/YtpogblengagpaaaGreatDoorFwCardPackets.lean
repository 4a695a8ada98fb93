/- The statement ForwardPackets returns true for every input, and each argument reads afterwards as it did: Packet and Bits return the specified outcome or error (P13.1, P13.3)
  Conditions: the package variable math/bits.deBruijn64tab stands as the program's text lays it (the card ties it to that text); the code is that of the claim's COMMIT. -/
import Derived.Test.YtpogblengagpaaaGreatDoorPa1
import Derived.Test.YtpogblengagpaaaGreatDoorPa2
import Derived.Test.YtpogblengagpaaaGreatDoorPa7
import Derived.Test.YtpogblengagpaaaGreatDoorPa26
namespace Go.Proofs.YtpogblengagpaaaGreatDoor
set_option maxRecDepth 100000
namespace LawForwardPackets
open Go.ChangeShapes Go.WideShapes Go.ChangeAt Go.RowKit Bs
theorem contract (H : Type) (enc : TypeId × Value → H) (W : World) (base : Nat) (args : Array Value) (ds gs : List (DataW H)) (before : List MemPlace)
  (hval : ∀ (j : Nat) t v, Tryz.f3.params[j]? = some t → args[j]? = some v → Value.okWide Tryz.prog W .any base t v)
  (hW : DataW.Whole enc Tryz.prog Tryz.f3.params.toList Rows.forwardPacketsSpec.vars false W args.toList ds gs before) (hL : laidMetH Tryz.prog Rows.forwardPacketsRow.laid W) :
  Calls Tryz.prog 3 args W fun e W' => ∃ v, e = .returned v ∧ Rows.forwardPacketsSpec.post enc Tryz.prog Tryz.f3 false true false false W args v W' := by
 have hT : Tb W := kit_table hL
 have hW' := hW
 obtain ⟨p, q, hA0, hV, _, _, _⟩ := hW
 have hA : DataW.TrodAll enc Tryz.prog W 0 (fun _ => true) true Tryz.f3.params.toList args.toList ds p := hA0
 rw [Tryz.params3] at hA hval
 obtain ⟨rfl, _⟩ := trodVars_none hV
 obtain ⟨v0, vs0, d0, ds0, p0, q0, hargs0, rfl, _, h0, r0⟩ := trodAll_cons hA
 obtain ⟨v1, vs1, d1, ds1, p1, q1, hargs1, rfl, _, h1, r1⟩ := trodAll_cons r0
 obtain ⟨v2, vs2, d2, ds2, p2, q2, hargs2, rfl, _, h2, r2⟩ := trodAll_cons r1
 obtain ⟨he3, rfl, _⟩ := trodAll_nil r2
 obtain rfl : args = #[v0, v1, v2] := by cases args; simp_all
 obtain ⟨zs0, hz0, hr0, hs0⟩ := opn_ints (hval 0 _ v0 rfl rfl) h0
 obtain ⟨tr1, ts1, tn1, l1, tp1, tc1, rfl, hri1, hR1, hN1, hnp1, hl1, hc1⟩ := opn_table (hval 1 _ v1 rfl rfl) h1
 obtain ⟨P2, rfl, hP2⟩ := opn_packet (hval 2 _ v2 rfl rfl) h2
 refine (packets_walkF v0 tr1 ts1 tn1 tp1 tc1 l1 P2 hP2 W (ints_in hz0 hr0 hs0) hT hR1 (Nat.le_trans hl1 hc1)).mono fun e W' ⟨he, hg⟩ => ?_
 exact ⟨_, he, law_post (by kernel_rfl) rfl (by kernel_rfl) ⟨rfl, rfl, rfl⟩ hW' hg⟩
theorem met (os : Os) : laidMet Tryz.prog Rows.forwardPacketsRow.laid ((laidWorld os).forCall (fun _ _ => 0) ⟨#[], #[.slice none 0 0, .agg #[.int .i64 0, .int .i64 0, .int .i64 0, .slice none 0 0], .agg #[.int .i64 0, .int .i64 0, .int .i64 0, .int .i64 0, .int .i64 0, .int .i64 0, .int .i64 0, .int .i64 0, .int .u64 0, .string ⟨#[]⟩]], []⟩).memory :=
 laidMet_of_run' 8 (by kernel_rfl) (by kernel_rfl)
theorem reads (os : Os) {H : Type} (enc : TypeId × Value → H) : ∃ places, DataW.whole enc Tryz.prog ((laidWorld os).forCall (fun _ _ => 0) ⟨#[], #[.slice none 0 0, .agg #[.int .i64 0, .int .i64 0, .int .i64 0, .slice none 0 0], .agg #[.int .i64 0, .int .i64 0, .int .i64 0, .int .i64 0, .int .i64 0, .int .i64 0, .int .i64 0, .int .i64 0, .int .u64 0, .string ⟨#[]⟩]], []⟩).memory Tryz.f3.params.toList Rows.forwardPacketsSpec.vars false (#[.slice none 0 0, .agg #[.int .i64 0, .int .i64 0, .int .i64 0, .slice none 0 0], .agg #[.int .i64 0, .int .i64 0, .int .i64 0, .int .i64 0, .int .i64 0, .int .i64 0, .int .i64 0, .int .i64 0, .int .u64 0, .string ⟨#[]⟩]] : Array Value).toList 8 = some ([.nil, .agg [.lit (.int .i64 0), .lit (.int .i64 0), .lit (.int .i64 0), .nil], .agg [.lit (.int .i64 0), .lit (.int .i64 0), .lit (.int .i64 0), .lit (.int .i64 0), .lit (.int .i64 0), .lit (.int .i64 0), .lit (.int .i64 0), .lit (.int .i64 0), .lit (.int .u64 0), .lit (.string [])]], [], places) :=
 ⟨[], by kernel_rfl⟩
theorem lifted (os : Os) (started : os.Started) (H : Type) (enc : TypeId × Value → H) (F : Stop.Interp) :
  ReturnsInHanded {} Tryz.checked os 3 .any ((OpenSpec.ofChange Rows.forwardPacketsSpec).preRow enc Tryz.prog Tryz.f3 Rows.forwardPacketsRow.domain false Rows.forwardPacketsRow.laid) (((OpenSpec.ofChange Rows.forwardPacketsSpec).at F).post enc Tryz.prog Tryz.f3 false true false false) := by
 obtain ⟨places, hx⟩ := reads os enc
 refine returnsInHanded_of_row (C := Tryz.checked) (s := OpenSpec.ofChange Rows.forwardPacketsSpec) kit_own started (by kernel_rfl) Tryz.func3
  (witness_row_at (enc := enc) (C := Tryz.checked) false (laidWorld os) #[.slice none 0 0, .agg #[.int .i64 0, .int .i64 0, .int .i64 0, .slice none 0 0], .agg #[.int .i64 0, .int .i64 0, .int .i64 0, .int .i64 0, .int .i64 0, .int .i64 0, .int .i64 0, .int .i64 0, .int .u64 0, .string ⟨#[]⟩]] rfl (by kernel_rfl) (by kernel_rfl) (by kernel_rfl)
   (OpenSpec.preRow_of_cond 8 hx (by kernel_rfl) (fun k hk => by cases hk) (by kernel_rfl) (met os))) ?_
 intro W base args ds gs before hval hW _ _ _ hL _ _
 exact contract H enc W base args ds gs before hval hW hL
theorem said : Rows.ForwardPacketsSaid :=
 OpenClaim.holds_of_cond 3 Tryz.f3 rfl rfl rfl rfl rfl rfl rfl ⟨rfl, rfl, rfl, rfl, rfl⟩ rfl rfl rfl rfl rfl (by kernel_rfl) Tryz.func3 (by kernel_rfl)
  (of_decide_eq_true (by kernel_rfl)) (by unfold Func.isWrapper; first | (rw [if_pos (by decide +kernel)]; kernel_rfl) | (rw [if_neg (by decide +kernel)]; exact ⟨rfl, rfl⟩))
  (fun os started H enc _ F => by rw [OpenClaim.pre_eq_preRow]; exact lifted os started H enc F)
theorem plain (f : FuncId) (fn : Func) (hf : Tryz.pinned.checked.prog.funcNamed "bitcast/bitcastlaw13.ForwardPackets" = some f) (hfn : Tryz.pinned.checked.prog.funcs[f]? = some fn) :
  false = Tryz.pinned.checked.prog.looks [] ∧ ∀ (j : Nat) t, fn.params[j]? = some t → Tryz.pinned.checked.prog.wantsStandIn t = false := by
 obtain rfl : f = 3 := Option.some.inj ((show Tryz.prog.funcNamed "bitcast/bitcastlaw13.ForwardPackets" = some 3 by kernel_rfl).symm.trans hf) |>.symm
 obtain rfl : fn = Tryz.f3 := (Option.some.inj (Tryz.func3.symm.trans hfn)).symm
 refine ⟨by kernel_rfl, fun j t ht => ?_⟩
 rw [Tryz.params3] at ht
 have hm : t ∈ [22, 25, 28] := by simpa using Array.mem_of_getElem? ht
 have hall : ([22, 25, 28].all fun u => !Tryz.prog.wantsStandIn u) = true := by kernel_rfl
 exact (show Tryz.prog.wantsStandIn t = false by simpa using List.all_eq_true.1 hall t hm)
end LawForwardPackets
theorem forwardPackets_holds : Rows.ForwardPacketsCardSaid :=
 Claim7.holds_tied_plain_at .later [] _ _ _ _ LawForwardPackets.said (fun _ h => by cases h) (by kernel_rfl) (fun _ h => by cases h) forwardPackets_row_tie rfl ⟨rfl, rfl⟩ (by kernel_rfl) rfl LawForwardPackets.plain (by kernel_rfl)
end Go.Proofs.YtpogblengagpaaaGreatDoor

/- The statement TableTogether returns true for every input, and each argument reads afterwards as it did: CheckAll and Find answer as P11.1 and P11.4 ask, for a table list of the tape with two of its tables changing places, and for any list that comes in.
  Conditions: none but that the code is that of the claim's COMMIT. -/
import Derived.Test.YtahafijpcmphaaaGreatQt1
import Derived.Test.YtahafijpcmphaaaGreatRows
import Derived.Test.YtahafijpcmphaaaGreatQt27
import Derived.Test.YtahafijpcmphaaaGreatQt26
namespace Go.Proofs.YtahafijpcmphaaaGreat
set_option maxRecDepth 100000
namespace LawTableTogether
open Go.ChangeShapes Go.WideShapes Go.ChangeAt Go.RowKit Bs
theorem contract (H : Type) (enc : TypeId × Value → H) (W : World) (base : Nat) (args : Array Value) (ds gs : List (DataW H)) (before : List MemPlace)
  (hval : ∀ (j : Nat) t v, Tryz.f4.params[j]? = some t → args[j]? = some v → Value.okWide Tryz.prog W .any base t v)
  (hW : DataW.Whole enc Tryz.prog Tryz.f4.params.toList Rows.tableTogetherSpec.vars false W args.toList ds gs before) :
  Calls Tryz.prog 4 args W fun e W' => ∃ v, e = .returned v ∧ Rows.tableTogetherSpec.post enc Tryz.prog Tryz.f4 false true false false W args v W' := by
 have hW' := hW
 obtain ⟨p, q, hA0, hV, _, _, _⟩ := hW
 have hA : DataW.TrodAll enc Tryz.prog W 0 (fun _ => true) true Tryz.f4.params.toList args.toList ds p := hA0
 rw [Tryz.params4] at hA hval
 obtain ⟨rfl, _⟩ := trodVars_none hV
 obtain ⟨v0, vs0, d0, ds0, p0, q0, hargs0, rfl, _, h0, r0⟩ := trodAll_cons hA
 obtain ⟨v1, vs1, d1, ds1, p1, q1, hargs1, rfl, _, h1, r1⟩ := trodAll_cons r0
 obtain ⟨v2, vs2, d2, ds2, p2, q2, hargs2, rfl, _, h2, r2⟩ := trodAll_cons r1
 obtain ⟨he3, rfl, _⟩ := trodAll_nil r2
 obtain rfl : args = #[v0, v1, v2] := by cases args; simp_all
 obtain ⟨zs0, hz0, hr0, hs0⟩ := opn_ints (hval 0 _ v0 rfl rfl) h0
 obtain ⟨l1, p1, c1, rfl, hR1, hnp1, hl1, hc1, hT1⟩ := opn_tables (hval 1 _ v1 rfl rfl) h1
 obtain ⟨n2, rfl, hn2⟩ := opn_i64 (hval 2 _ v2 rfl rfl) h2
 refine (togl_walk v0 l1 p1 c1 n2 W (ints_in hz0 hr0 hs0) hR1 hT1 (Nat.le_trans hl1 hc1)).mono fun e W' ⟨he, hg⟩ => ?_
 exact ⟨_, he, law_post (by kernel_rfl) rfl (by kernel_rfl) ⟨rfl, rfl, rfl⟩ hW' hg⟩
noncomputable def start (os : Os) : World := (World.holding Tryz.prog os ⟨#[], #[], []⟩)
theorem met (os : Os) : laidMet Tryz.prog Rows.tableTogetherRow.laid ((start os).forCall (fun _ _ => 0) ⟨#[], #[.slice none 0 0, .slice none 0 0, .int .i64 0], []⟩).memory :=
 laidMet_of_run' 8 (by kernel_rfl) (by kernel_rfl)
theorem reads (os : Os) {H : Type} (enc : TypeId × Value → H) : ∃ places, DataW.whole enc Tryz.prog ((start os).forCall (fun _ _ => 0) ⟨#[], #[.slice none 0 0, .slice none 0 0, .int .i64 0], []⟩).memory Tryz.f4.params.toList Rows.tableTogetherSpec.vars false (#[.slice none 0 0, .slice none 0 0, .int .i64 0] : Array Value).toList 8 = some ([.nil, .nil, .lit (.int .i64 0)], [], places) :=
 ⟨[], by kernel_rfl⟩
theorem lifted (os : Os) (started : os.Started) (H : Type) (enc : TypeId × Value → H) (F : Stop.Interp) :
  ReturnsInHanded {} Tryz.checked os 4 .any ((OpenSpec.ofChange Rows.tableTogetherSpec).preRow enc Tryz.prog Tryz.f4 Rows.tableTogetherRow.domain false Rows.tableTogetherRow.laid) (((OpenSpec.ofChange Rows.tableTogetherSpec).at F).post enc Tryz.prog Tryz.f4 false true false false) := by
 obtain ⟨places, hx⟩ := reads os enc
 refine returnsInHanded_of_row (C := Tryz.checked) (s := OpenSpec.ofChange Rows.tableTogetherSpec) kit_own started (by kernel_rfl) Tryz.func4
  (witness_row_at (enc := enc) (C := Tryz.checked) false (start os) #[.slice none 0 0, .slice none 0 0, .int .i64 0] rfl (by kernel_rfl) (by kernel_rfl) (by kernel_rfl)
   (OpenSpec.preRow_of_cond 8 hx (by kernel_rfl) (fun k hk => by cases hk) (by kernel_rfl) (met os))) ?_
 intro W base args ds gs before hval hW _ _ _ hL _ _
 exact contract H enc W base args ds gs before hval hW
theorem said : Rows.TableTogetherSaid :=
 OpenClaim.holds_of_cond 4 Tryz.f4 rfl rfl rfl rfl rfl rfl rfl ⟨rfl, rfl, rfl, rfl, rfl⟩ rfl rfl rfl rfl rfl (by kernel_rfl) Tryz.func4 (by kernel_rfl)
  (of_decide_eq_true (by kernel_rfl)) (by unfold Func.isWrapper; first | (rw [if_pos (by decide +kernel)]; kernel_rfl) | (rw [if_neg (by decide +kernel)]; exact ⟨rfl, rfl⟩))
  (fun os started H enc _ F => by rw [OpenClaim.pre_eq_preRow]; exact lifted os started H enc F)
end LawTableTogether
theorem tableTogether_holds : Rows.TableTogetherSaid := LawTableTogether.said
end Go.Proofs.YtahafijpcmphaaaGreat

/- Parts of the proof, packed: ShOpn. -/
import Derived.Test.YtlefjdglcdopeaaUs16
/- A hop that comes in as an argument. -/
namespace Go.Proofs.Ytlefjdglcdopeaa
open Go.ChangeShapes Go.WideShapes Go.ChangeAt Go.RowKit Go.Joins Bs
set_option maxRecDepth 100000 in
theorem slist2 {α : Type} {l : List α} (h : l.length = 2) : ∃ a b, l = [a, b] := by
  match l, h with
  | [a, b], _ => exact ⟨a, b, rfl⟩
section
variable {H : Type} {enc : TypeId × Value → H} {W : World} {base : Nat} {v : Value} {d : DataW H} {ps : List MemPlace}
set_option maxRecDepth 100000 in
theorem opn_hop (hval : Value.okWide Try.prog W .any base 41 v) (h : DataW.Trod enc Try.prog W 0 (fun _ => true) true 41 v d ps) :
    ∃ h k : Int, v = .agg #[.int .i64 h, .int .i64 k] ∧ I64 h := by
  have hs := Try.underlying41
  obtain ⟨cs, rfl, hsz⟩ := okWide_struct hs hval
  obtain ⟨fuel, hf⟩ := h
  obtain ⟨xs, n, _, _, hl, hlen, hf⟩ := DataW.trod_struct hs hf
  have h2 : cs.toList.length = 2 := hsz.trans (by kernel_rfl)
  obtain ⟨c0, c1, hct⟩ := slist2 h2
  obtain ⟨x0, x1, rfl⟩ := slist2 hlen
  have h0 : DataW.trod enc Try.prog W 0 (fun _ => true) true n 3 [c0] = some x0 := by simpa [Value.cells, kit_cellsInt, hct] using hf 0 _ rfl
  have h1 : DataW.trod enc Try.prog W 0 (fun _ => true) true n 3 [c1] = some x1 := by simpa [Value.cells, kit_cellsInt, hct] using hf 1 _ rfl
  obtain ⟨m0, e0, _, wf⟩ := DataW.trod_int Try.underlying3 h0
  obtain rfl : c0 = .int .i64 m0 := by simpa using e0
  obtain ⟨m1, e1, _, _⟩ := DataW.trod_int Try.underlying3 h1
  obtain rfl : c1 = .int .i64 m1 := by simpa using e1
  exact ⟨m0, m1, congrArg Value.agg (Array.ext' hct), i64_wf wf⟩
end
end Go.Proofs.Ytlefjdglcdopeaa

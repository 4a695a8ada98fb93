/- Parts of the proof, packed: DbOpA. -/
import Derived.Test.YtnpkihioklpnmaaPu19
/- An advert that comes in as an argument; its lists, if they are nil, have no room. -/
namespace Go.Proofs.Ytnpkihioklpnmaa
open Go.ChangeShapes Go.WideShapes Go.ChangeAt Go.RowKit Go.Joins Bs
section
variable {H : Type} {enc : TypeId × Value → H} {W : World} {base : Nat} {v : Value} {d : DataW H} {ps : List MemPlace}
set_option maxRecDepth 100000 in
theorem opn_advertN (hval : Value.okWide Try.prog W .any base 38 v) (h : DataW.Trod enc Try.prog W 0 (fun _ => true) true 38 v d ps) :
    ∃ A : Ad, v = .agg #[.int .i64 A.r, .int .i64 A.q, .bool A.cp, .slice A.pL A.L.length A.cL, .slice A.pC A.C.length A.cC] ∧ AdOk W (· < W.heap.size) A ∧ AdNl A := by
  have hs := Try.underlying38
  obtain ⟨cs, rfl, hsz⟩ := okWide_struct hs hval
  obtain ⟨fuel, hf⟩ := h
  obtain ⟨xs, n, _, _, hl, hlen, hf⟩ := DataW.trod_struct hs hf
  have h5 : cs.toList.length = 5 := hsz.trans (by kernel_rfl)
  obtain ⟨c0, c1, c2, c3, c4, hct⟩ := tlistA5 h5
  obtain ⟨x0, x1, x2, x3, x4, rfl⟩ := tlistA5 hlen
  have h0 : DataW.trod enc Try.prog W 0 (fun _ => true) true n 3 [c0] = some x0 := by simpa [Value.cells, kit_cellsInt, hct] using hf 0 _ rfl
  have h1 : DataW.trod enc Try.prog W 0 (fun _ => true) true n 3 [c1] = some x1 := by simpa [Value.cells, kit_cellsInt, hct] using hf 1 _ rfl
  have h2 : DataW.trod enc Try.prog W 0 (fun _ => true) true n 4 [c2] = some x2 := by simpa [Value.cells, kit_cellsBoolA, kit_cellsInt, hct] using hf 2 _ rfl
  have h3 : DataW.trod enc Try.prog W 0 (fun _ => true) true n 35 [c3] = some x3 := by simpa [Value.cells, kit_cellsres, kit_cellsBoolA, kit_cellsInt, hct] using hf 3 _ rfl
  have h4 : DataW.trod enc Try.prog W 0 (fun _ => true) true n 36 [c4] = some x4 := by simpa [Value.cells, kit_cellsres, kit_cellscms, kit_cellsBoolA, kit_cellsInt, hct] using hf 4 _ rfl
  obtain ⟨m0, e0, _, w0⟩ := DataW.trod_int Try.underlying3 h0
  obtain rfl : c0 = .int .i64 m0 := by simpa using e0
  obtain ⟨m1, e1, _, w1⟩ := DataW.trod_int Try.underlying3 h1
  obtain rfl : c1 = .int .i64 m1 := by simpa using e1
  obtain ⟨m2, e2, _⟩ := DataW.trod_bool Try.underlying4 h2
  obtain rfl : c2 = .bool m2 := by simpa using e2
  obtain ⟨L, pL, cL, rfl, hL, hl1, hl2, hn1, -⟩ := rowsP_trod t3C (fun _ => True) 3 (by decide) (fun _ => rfl) ⟨0, 0, 0⟩ Try.underlying35 kit_cellsre (fun h => by obtain ⟨r, hr⟩ := re_trod h; exact ⟨r, hr, trivial⟩) h3
  obtain ⟨C, pC, cC, rfl, hC, hr1, hr2, hn2, -⟩ := rowsP_trod t3C (fun _ => True) 3 (by decide) (fun _ => rfl) ⟨0, 0, 0⟩ Try.underlying36 kit_cellscm (fun h => by obtain ⟨r, hr⟩ := cm_trod h; exact ⟨r, hr, trivial⟩) h4
  exact ⟨⟨m0, m1, m2, L, C, pL, cL, pC, cC⟩, congrArg Value.agg (Array.ext' hct), ⟨hL, hC, ⟨hl1, hl2⟩, ⟨hr1, hr2⟩⟩, ⟨hn1, hn2⟩⟩
end
end Go.Proofs.Ytnpkihioklpnmaa

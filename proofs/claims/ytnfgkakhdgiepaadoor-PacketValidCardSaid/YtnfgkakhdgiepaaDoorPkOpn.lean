/- A packet that comes in as an argument. -/
import Derived.Test.YtnfgkakhdgiepaaDoorIoKit
import Derived.Test.YtnfgkakhdgiepaaDoorPkBits
namespace Go.Proofs.YtnfgkakhdgiepaaDoor
open Go.ChangeShapes Go.WideShapes Go.ChangeAt Go.RowKit Go.Joins Bs
set_option maxRecDepth 100000 in
theorem array10 {xs : Array Value} (h : xs.size = 10) : ∃ c0 c1 c2 c3 c4 c5 c6 c7 c8 c9, xs = #[c0, c1, c2, c3, c4, c5, c6, c7, c8, c9] := by
  obtain ⟨l⟩ := xs
  match l, h with
  | [c0, c1, c2, c3, c4, c5, c6, c7, c8, c9], _ => exact ⟨c0, c1, c2, c3, c4, c5, c6, c7, c8, c9, rfl⟩
set_option maxRecDepth 100000 in
theorem list10 {A : Type} {xs : List A} (h : xs.length = 10) : ∃ x0 x1 x2 x3 x4 x5 x6 x7 x8 x9, xs = [x0, x1, x2, x3, x4, x5, x6, x7, x8, x9] := by
  match xs, h with
  | [x0, x1, x2, x3, x4, x5, x6, x7, x8, x9], _ => exact ⟨x0, x1, x2, x3, x4, x5, x6, x7, x8, x9, rfl⟩
set_option maxRecDepth 100000 in
theorem kit_cellsStr : Tryd.prog.cellsOf 9 = 1 := by kernel_rfl
section
variable {H : Type} {enc : TypeId × Value → H} {W : World} {base : Nat} {v : Value} {d : DataW H} {ps : List MemPlace}
set_option maxRecDepth 100000 in
theorem opn_packet (hval : Value.okWide Tryd.prog W .any base 25 v) (h : DataW.Trod enc Tryd.prog W 0 (fun _ => true) true 25 v d ps) : ∃ P : Pk, v = P.val ∧ P.Wf := by
  have hs := Tryd.underlying25
  obtain ⟨cs, rfl, hsz⟩ := okWide_struct hs hval
  obtain ⟨c0, c1, c2, c3, c4, c5, c6, c7, c8, c9, rfl⟩ := array10 (hsz.trans (by kernel_rfl))
  obtain ⟨fuel, hf⟩ := h
  obtain ⟨xs, n, _, _, hl, hlen, hf⟩ := DataW.trod_struct hs hf
  obtain ⟨x0, x1, x2, x3, x4, x5, x6, x7, x8, x9, rfl⟩ := list10 hlen
  have h0 : DataW.trod enc Tryd.prog W 0 (fun _ => true) true n 3 [c0] = some x0 := by simpa [Value.cells, kit_cellsInt] using hf 0 _ rfl
  have h1 : DataW.trod enc Tryd.prog W 0 (fun _ => true) true n 3 [c1] = some x1 := by simpa [Value.cells, kit_cellsInt] using hf 1 _ rfl
  have h2 : DataW.trod enc Tryd.prog W 0 (fun _ => true) true n 3 [c2] = some x2 := by simpa [Value.cells, kit_cellsInt] using hf 2 _ rfl
  have h3 : DataW.trod enc Tryd.prog W 0 (fun _ => true) true n 3 [c3] = some x3 := by simpa [Value.cells, kit_cellsInt] using hf 3 _ rfl
  have h4 : DataW.trod enc Tryd.prog W 0 (fun _ => true) true n 3 [c4] = some x4 := by simpa [Value.cells, kit_cellsInt] using hf 4 _ rfl
  have h5 : DataW.trod enc Tryd.prog W 0 (fun _ => true) true n 3 [c5] = some x5 := by simpa [Value.cells, kit_cellsInt] using hf 5 _ rfl
  have h6 : DataW.trod enc Tryd.prog W 0 (fun _ => true) true n 3 [c6] = some x6 := by simpa [Value.cells, kit_cellsInt] using hf 6 _ rfl
  have h7 : DataW.trod enc Tryd.prog W 0 (fun _ => true) true n 3 [c7] = some x7 := by simpa [Value.cells, kit_cellsInt] using hf 7 _ rfl
  have h8 : DataW.trod enc Tryd.prog W 0 (fun _ => true) true n 23 [c8] = some x8 := by simpa [Value.cells, kit_cellsU64] using hf 8 _ rfl
  have h9 : DataW.trod enc Tryd.prog W 0 (fun _ => true) true n 9 [c9] = some x9 := by simpa [Value.cells, kit_cellsStr] using hf 9 _ rfl
  obtain ⟨m0, e0, _, w0⟩ := DataW.trod_int Tryd.underlying3 h0
  obtain rfl : c0 = .int .i64 m0 := by simpa using e0
  obtain ⟨m1, e1, _, w1⟩ := DataW.trod_int Tryd.underlying3 h1
  obtain rfl : c1 = .int .i64 m1 := by simpa using e1
  obtain ⟨m2, e2, _, w2⟩ := DataW.trod_int Tryd.underlying3 h2
  obtain rfl : c2 = .int .i64 m2 := by simpa using e2
  obtain ⟨m3, e3, _, w3⟩ := DataW.trod_int Tryd.underlying3 h3
  obtain rfl : c3 = .int .i64 m3 := by simpa using e3
  obtain ⟨m4, e4, _, w4⟩ := DataW.trod_int Tryd.underlying3 h4
  obtain rfl : c4 = .int .i64 m4 := by simpa using e4
  obtain ⟨m5, e5, _, w5⟩ := DataW.trod_int Tryd.underlying3 h5
  obtain rfl : c5 = .int .i64 m5 := by simpa using e5
  obtain ⟨m6, e6, _, w6⟩ := DataW.trod_int Tryd.underlying3 h6
  obtain rfl : c6 = .int .i64 m6 := by simpa using e6
  obtain ⟨m7, e7, _, w7⟩ := DataW.trod_int Tryd.underlying3 h7
  obtain rfl : c7 = .int .i64 m7 := by simpa using e7
  obtain ⟨m8, e8, _, w8⟩ := DataW.trod_int Tryd.underlying23 h8
  obtain rfl : c8 = .int .u64 m8 := by simpa using e8
  obtain ⟨s9, e9, _, w9⟩ := DataW.trod_string Tryd.underlying9 h9
  obtain rfl : c9 = .string s9 := by simpa using e9
  have hb : 0 ≤ m8 ∧ m8 < 18446744073709551616 := by
    simp [Lit.wf, IntKind.min, IntKind.max, IntKind.bits, IntKind.signed] at w8
    omega
  obtain ⟨b, rfl⟩ := Int.eq_ofNat_of_zero_le hb.1
  exact ⟨⟨m0, m1, m2, m3, m4, m5, m6, m7, b, s9⟩, rfl, ⟨i64_wf w0, i64_wf w1, i64_wf w2, i64_wf w3, i64_wf w4, i64_wf w5, i64_wf w6, i64_wf w7, (show U64 b by unfold U64; omega), w9⟩⟩
end
end Go.Proofs.YtnfgkakhdgiepaaDoor

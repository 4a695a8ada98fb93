/- Parts of the proof, packed: IdOpn. -/
import Derived.Test.YtndfhgklhjfhkaaRe1
import Derived.Test.YtndfhgklhjfhkaaRe3
/- Claims and plans that come in as arguments. -/
namespace Go.Proofs.Ytndfhgklhjfhkaa
open Go.ChangeShapes Go.WideShapes Go.ChangeAt Go.RowKit Go.Joins Bs
set_option maxRecDepth 100000 in
theorem kit_cellsow : Try.prog.cellsOf 62 = 4 := by kernel_rfl
set_option maxRecDepth 100000 in
theorem kit_cellscl : Try.prog.cellsOf 60 = 3 := by kernel_rfl
set_option maxRecDepth 100000 in
theorem ilist2 {A : Type} {xs : List A} (h : xs.length = 2) : ∃ x0 x1, xs = [x0, x1] := by
  match xs, h with
  | [x0, x1], _ => exact ⟨x0, x1, rfl⟩
set_option maxRecDepth 100000 in
theorem ilist3 {A : Type} {xs : List A} (h : xs.length = 3) : ∃ x0 x1 x2, xs = [x0, x1, x2] := by
  match xs, h with
  | [x0, x1, x2], _ => exact ⟨x0, x1, x2, rfl⟩
set_option maxRecDepth 100000 in
theorem ilist4 {A : Type} {xs : List A} (h : xs.length = 4) : ∃ x0 x1 x2 x3, xs = [x0, x1, x2, x3] := by
  match xs, h with
  | [x0, x1, x2, x3], _ => exact ⟨x0, x1, x2, x3, rfl⟩
section
variable {H : Type} {enc : TypeId × Value → H} {W : World} {base : Nat} {v : Value} {d : DataW H} {ps : List MemPlace}
set_option maxRecDepth 100000 in
/-- A slice of structs of k cells. -/
theorem rowsI_trod {α : Type} (f : α → List Value) (P : α → Prop) (k : Nat) (hk : 0 < k) (hf : ∀ x, (f x).length = k) (x0 : α) {E T : TypeId} (hT : Try.prog.underlying T = some (.slice E)) (hc : Try.prog.cellsOf E = k)
    (hE : ∀ {fuel : Nat} {cs : List Value} {y : DataW H × List MemPlace}, DataW.trod enc Try.prog W 0 (fun _ => true) true fuel E cs = some y → ∃ r : α, cs = f r ∧ P r)
    {fuel : Nat} {c0 : Value} {y : DataW H × List MemPlace} (h : DataW.trod enc Try.prog W 0 (fun _ => true) true fuel T [c0] = some y) :
    ∃ (l : List α) (p : Option Addr) (c : Nat), c0 = .slice p l.length c ∧ RdF W (· < W.heap.size) (.slice p l.length c) l.length (l.flatMap f) ∧ l.length ≤ c ∧ c ≤ 9223372036854775807 ∧ (p = none → c = 0) ∧ ∀ x ∈ l, P x := by
  rcases DataW.trod_slice hT h with ⟨hcs, _⟩ | ⟨a, len, cap, elems, rest, n, _, hcs, _, _, hl, hm, hlen, hel, _, _⟩
  · obtain rfl : c0 = .slice none 0 0 := by simpa using hcs
    exact ⟨[], none, 0, rfl, rdf_nil _ _ _ _, Nat.le_refl _, by omega, fun _ => rfl, fun x h => by cases h⟩
  · obtain rfl : c0 = .slice (some a) len cap := by simpa using hcs
    rw [hc] at hel
    have each : ∀ i, ∃ l : α, i < len → (∀ j, j < k → W.cell? ((a.add (i * k)).add j) = (f l)[j]?) ∧ P l := by
      intro i
      by_cases hi : i < len
      · have h1 := hel i hi
        rw [List.getElem?_eq_getElem (by omega)] at h1
        obtain ⟨cs, hc1, hc2⟩ := Option.bind_eq_some_iff.1 h1
        obtain ⟨l, rfl, hPl⟩ := hE hc2
        obtain ⟨_, _, hc3⟩ := World.cells?_some hc1
        exact ⟨l, fun _ => ⟨fun j hj => hc3 j hj, hPl⟩⟩
      · exact ⟨x0, fun h => absurd h hi⟩
    obtain ⟨g, hfn2⟩ := Classical.axiomOfChoice each
    have hfn : ∀ i, i < len → ∀ j, j < k → W.cell? ((a.add (i * k)).add j) = (f (g i))[j]? := fun i hi => (hfn2 i hi).1
    have hll : ((List.range len).map g).length = len := by simp
    refine ⟨(List.range len).map g, some a, cap, by rw [hll], ?_, by rw [hll]; exact hl, hm, (fun e => by cases e), fun x hx => by
      obtain ⟨i, hi, rfl⟩ := List.mem_map.1 hx
      exact (hfn2 i (List.mem_range.1 hi)).2⟩
    rw [hll]
    refine ⟨some a, cap, rfl, fun hne => ?_⟩
    have hpos : 0 < len := by
      rcases Nat.eq_zero_or_pos len with h0 | h0
      · subst h0
        exact absurd rfl hne
      · exact h0
    obtain ⟨b, off, spot⟩ := a
    have hget : ∀ i, i < len → ∀ j, j < k → ∃ u, (f (g i))[j]? = some u := fun i _ j hj => ⟨_, List.getElem?_eq_getElem (by rw [hf]; exact hj)⟩
    have hspot : spot = none := by
      obtain ⟨u, hu⟩ := hget 0 hpos 0 hk
      have := (hfn 0 hpos 0 hk).trans hu
      simpa [Addr.add] using World.cell?_spot this
    subst hspot
    have hcell : ∀ i j, i < len → j < k → W.cell? ⟨b, off + (i * k + j), none⟩ = (f (g i))[j]? := by
      intro i j hi hj
      have := hfn i hi j hj
      rw [Go.WideShapes.add_plain, Go.WideShapes.add_plain] at this
      rw [← this]
      congr 2
      omega
    refine ⟨b, off, rfl, ?_, fun j x hj => ?_⟩
    · obtain ⟨u, hu⟩ := hget 0 hpos 0 hk
      exact World.block_lt_of_cell? W ⟨b, off + (0 * k + 0), none⟩ ((hcell 0 0 hpos hk).trans hu)
    have hj2 : j < len * k := by
      have := (List.getElem?_eq_some_iff.1 hj).1
      rw [flat_len f k hf, hll] at this
      exact this
    have hm1 : j / k < len := (Nat.div_lt_iff_lt_mul hk).2 hj2
    have hm2 : j % k < k := Nat.mod_lt _ hk
    have hd : j = j / k * k + j % k := by rw [Nat.mul_comm]; exact (Nat.div_add_mod j k).symm
    have hat : ((List.range len).map g)[j / k]? = some (g (j / k)) := by
      rw [List.getElem?_map, List.getElem?_range hm1]; rfl
    rw [hd] at hj ⊢
    rw [flat_at f k hf _ _ _ _ hat hm2] at hj
    rw [hcell _ _ hm1 hm2]
    exact hj
set_option maxRecDepth 100000 in
theorem ow_trod {fuel : Nat} {cs : List Value} {y : DataW H × List MemPlace} (h : DataW.trod enc Try.prog W 0 (fun _ => true) true fuel 62 cs = some y) : ∃ x : Od, cs = odC x ∧ True := by
  obtain ⟨xs, n, _, _, hl, hlen, hf⟩ := DataW.trod_struct Try.underlying62 h
  rw [kit_cellsow] at hl
  obtain ⟨c0, c1, c2, c3, rfl⟩ := ilist4 hl
  obtain ⟨x0, x1, rfl⟩ := ilist2 hlen
  have h0 : DataW.trod enc Try.prog W 0 (fun _ => true) true n 3 [c0] = some x0 := by simpa [Value.cells, kit_cellsInt] using hf 0 _ rfl
  have h1 : DataW.trod enc Try.prog W 0 (fun _ => true) true n 60 [c1, c2, c3] = some x1 := by simpa [Value.cells, kit_cellsInt, kit_cellscl] using hf 1 _ rfl
  obtain ⟨m0, e0, _, w0⟩ := DataW.trod_int Try.underlying3 h0
  obtain rfl : c0 = .int .i64 m0 := by simpa using e0
  obtain ⟨ys, k, _, _, hl2, hlen2, hg⟩ := DataW.trod_struct Try.underlying60 h1
  obtain ⟨y0, y1, y2, rfl⟩ := ilist3 hlen2
  have g0 : DataW.trod enc Try.prog W 0 (fun _ => true) true k 3 [c1] = some y0 := by simpa [Value.cells, kit_cellsInt] using hg 0 _ rfl
  have g1 : DataW.trod enc Try.prog W 0 (fun _ => true) true k 3 [c2] = some y1 := by simpa [Value.cells, kit_cellsInt] using hg 1 _ rfl
  have g2 : DataW.trod enc Try.prog W 0 (fun _ => true) true k 3 [c3] = some y2 := by simpa [Value.cells, kit_cellsInt] using hg 2 _ rfl
  obtain ⟨m1, e1, _, w1⟩ := DataW.trod_int Try.underlying3 g0
  obtain rfl : c1 = .int .i64 m1 := by simpa using e1
  obtain ⟨m2, e2, _, w2⟩ := DataW.trod_int Try.underlying3 g1
  obtain rfl : c2 = .int .i64 m2 := by simpa using e2
  obtain ⟨m3, e3, _, w3⟩ := DataW.trod_int Try.underlying3 g2
  obtain rfl : c3 = .int .i64 m3 := by simpa using e3
  exact ⟨⟨m0, m1, m2, m3⟩, rfl, trivial⟩
set_option maxRecDepth 100000 in
theorem opn_owneds (hval : Value.okWide Try.prog W .any base 23 v) (h : DataW.Trod enc Try.prog W 0 (fun _ => true) true 23 v d ps) :
    ∃ (l : List Od) (p : Option Addr) (c : Nat), v = .slice p l.length c ∧ RdF W (· < W.heap.size) (.slice p l.length c) l.length (l.flatMap odC) ∧ (p = none → c = 0) ∧ l.length ≤ c ∧ c ≤ 9223372036854775807 := by
  obtain ⟨p0, n0, c0, rfl⟩ := okWide_slice Try.underlying23 hval
  obtain ⟨fuel, hf⟩ := h
  obtain ⟨l, p, c, e, h1, h2, h3, h4, -⟩ := rowsI_trod odC (fun _ => True) 4 (by decide) (fun _ => rfl) ⟨0, 0, 0, 0⟩ Try.underlying23 kit_cellsow ow_trod (by simpa [Value.cells] using hf)
  injection e with e1 e2 e3
  subst e1
  subst e2
  subst e3
  exact ⟨l, p0, c0, rfl, h1, h4, h2, h3⟩
end
end Go.Proofs.Ytndfhgklhjfhkaa

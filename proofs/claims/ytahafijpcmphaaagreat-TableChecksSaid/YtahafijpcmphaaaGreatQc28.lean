/- Parts of the proof, packed: MaOpn. -/
import Derived.Test.YtahafijpcmphaaaGreatQc10
import Derived.Test.YtahafijpcmphaaaGreatQc18
/- A table that comes in as an argument. -/
namespace Go.Proofs.YtahafijpcmphaaaGreat
set_option maxRecDepth 100000
open Go.ChangeShapes Go.WideShapes Go.ChangeAt Go.RowKit Go.Joins Bs
theorem kit_cellsrwT : Tryz.prog.cellsOf 36 = 2 := by kernel_rfl
theorem kit_cellsrwsT : Tryz.prog.cellsOf 23 = 1 := by kernel_rfl
theorem kit_cellsisT : Tryz.prog.cellsOf 22 = 1 := by kernel_rfl
theorem kit_cellstbT : Tryz.prog.cellsOf 25 = 4 := by kernel_rfl
theorem tlistT2 {A : Type} {xs : List A} (h : xs.length = 2) : ∃ x0 x1, xs = [x0, x1] := by
 match xs, h with
 | [x0, x1], _ => exact ⟨x0, x1, rfl⟩
theorem tlistT4 {A : Type} {xs : List A} (h : xs.length = 4) : ∃ x0 x1 x2 x3, xs = [x0, x1, x2, x3] := by
 match xs, h with
 | [x0, x1, x2, x3], _ => exact ⟨x0, x1, x2, x3, rfl⟩
section
variable {H : Type} {enc : TypeId × Value → H} {W : World} {base : Nat} {v : Value} {d : DataW H} {ps : List MemPlace}
theorem rowsT_trod {α : Type} (f : α → List Value) (P : α → Prop) (k : Nat) (hk : 0 < k) (hf : ∀ x, (f x).length = k) (x0 : α) {E T : TypeId} (hT : Tryz.prog.underlying T = some (.slice E)) (hc : Tryz.prog.cellsOf E = k)
  (hE : ∀ {fuel : Nat} {cs : List Value} {y : DataW H × List MemPlace}, DataW.trod enc Tryz.prog W 0 (fun _ => true) true fuel E cs = some y → ∃ r : α, cs = f r ∧ P r)
  {fuel : Nat} {c0 : Value} {y : DataW H × List MemPlace} (h : DataW.trod enc Tryz.prog W 0 (fun _ => true) true fuel T [c0] = some y) :
  ∃ (l : List α) (p : Option Addr) (c : Nat), c0 = .slice p l.length c ∧ RdF W (· < W.heap.size) (.slice p l.length c) l.length (l.flatMap f) ∧ l.length ≤ c ∧ c ≤ 9223372036854775807 ∧ (p = none → c = 0) ∧ ∀ x ∈ l, P x := by
 rcases DataW.trod_slice hT h with ⟨hcs, _⟩ | ⟨a, len, cap, elems, rest, n, _, hcs, _, _, hl, hm, hlen, hel, _, _⟩
 ·obtain rfl : c0 = .slice none 0 0 := by simpa using hcs
  exact ⟨[], none, 0, rfl, rdf_nil _ _ _ _, Nat.le_refl _, by omega, fun _ => rfl, fun x h => by cases h⟩
 ·obtain rfl : c0 = .slice (some a) len cap := by simpa using hcs
  rw [hc] at hel
  have each : ∀ i, ∃ l : α, i < len → (∀ j, j < k → W.cell? ((a.add (i * k)).add j) = (f l)[j]?) ∧ P l := by
   intro i
   by_cases hi : i < len
   ·have h1 := hel i hi
    rw [List.getElem?_eq_getElem (by omega)] at h1
    obtain ⟨cs, hc1, hc2⟩ := Option.bind_eq_some_iff.1 h1
    obtain ⟨l, rfl, hPl⟩ := hE hc2
    obtain ⟨_, _, hc3⟩ := World.cells?_some hc1
    exact ⟨l, fun _ => ⟨fun j hj => hc3 j hj, hPl⟩⟩
   ·exact ⟨x0, fun h => absurd h hi⟩
  obtain ⟨g, hfn2⟩ := Classical.axiomOfChoice each
  have hfn : ∀ i, i < len → ∀ j, j < k → W.cell? ((a.add (i * k)).add j) = (f (g i))[j]? := fun i hi => (hfn2 i hi).1
  have hll : ((List.range len).map g).length = len := by simp
  refine ⟨(List.range len).map g, some a, cap, by rw [hll], ?_, by rw [hll]; exact hl, hm, (fun e => by cases e), fun x hx => by
   obtain ⟨i, hi, rfl⟩ := List.mem_map.1 hx
   exact (hfn2 i (List.mem_range.1 hi)).2⟩
  rw [hll]
  refine ⟨some a, cap, rfl, fun hne => ?_⟩
  have hpos : 0 < len := by
   rcases Nat.eq_zero_or_pos len with h0 | h0
   ·subst h0
    exact absurd rfl hne
   ·exact h0
  obtain ⟨b, off, spot⟩ := a
  have hget : ∀ i, i < len → ∀ j, j < k → ∃ u, (f (g i))[j]? = some u := fun i _ j hj => ⟨_, List.getElem?_eq_getElem (by rw [hf]; exact hj)⟩
  have hspot : spot = none := by
   obtain ⟨u, hu⟩ := hget 0 hpos 0 hk
   have := (hfn 0 hpos 0 hk).trans hu
   simpa [Addr.add] using World.cell?_spot this
  subst hspot
  have hcell : ∀ i j, i < len → j < k → W.cell? ⟨b, off + (i * k + j), none⟩ = (f (g i))[j]? := by
   intro i j hi hj
   have := hfn i hi j hj
   rw [Go.WideShapes.add_plain, Go.WideShapes.add_plain] at this
   rw [← this]
   congr 2
   omega
  refine ⟨b, off, rfl, ?_, fun j x hj => ?_⟩
  ·obtain ⟨u, hu⟩ := hget 0 hpos 0 hk
   exact World.block_lt_of_cell? W ⟨b, off + (0 * k + 0), none⟩ ((hcell 0 0 hpos hk).trans hu)
  have hj2 : j < len * k := by
   have := (List.getElem?_eq_some_iff.1 hj).1
   rw [flat_len f k hf, hll] at this
   exact this
  have hm1 : j / k < len := (Nat.div_lt_iff_lt_mul hk).2 hj2
  have hm2 : j % k < k := Nat.mod_lt _ hk
  have hd : j = j / k * k + j % k := by rw [Nat.mul_comm]; exact (Nat.div_add_mod j k).symm
  have hat : ((List.range len).map g)[j / k]? = some (g (j / k)) := by
   rw [List.getElem?_map, List.getElem?_range hm1]; rfl
  rw [hd] at hj ⊢
  rw [flat_at f k hf _ _ _ _ hat hm2] at hj
  rw [hcell _ _ hm1 hm2]
  exact hj
theorem rd_of_rdfO {w : World} {q : Nat → Prop} {v : Value} {X : List Int} (h : RdF w q v X.length (X.flatMap ivF)) : Rd w q v (X.map tv) := by
 obtain ⟨p, c, h1, h2⟩ := h
 rw [flat_ivF] at h2
 exact ⟨p, c, by rw [List.length_map]; exact h1, h2⟩
theorem iT_trod {fuel : Nat} {cs : List Value} {y : DataW H × List MemPlace} (h : DataW.trod enc Tryz.prog W 0 (fun _ => true) true fuel 3 cs = some y) : ∃ x : Int, cs = ivF x ∧ True := by
 obtain ⟨m0, e0, _, w0⟩ := DataW.trod_int Tryz.underlying3 h
 exact ⟨m0, e0, trivial⟩
theorem rw_trod {fuel : Nat} {cs : List Value} {y : DataW H × List MemPlace} (h : DataW.trod enc Tryz.prog W 0 (fun _ => true) true fuel 36 cs = some y) : ∃ x : Rw, cs = rwC x ∧ (RwOk W (· < W.heap.size) x ∧ (x.p = none → x.c = 0)) := by
 have hs := Tryz.underlying36
 obtain ⟨xs, n, _, _, hl, hlen, hf⟩ := DataW.trod_struct hs h
 rw [kit_cellsrwT] at hl
 obtain ⟨c0, c1, rfl⟩ := tlistT2 hl
 obtain ⟨x0, x1, rfl⟩ := tlistT2 hlen
 have h0 : DataW.trod enc Tryz.prog W 0 (fun _ => true) true n 3 [c0] = some x0 := by simpa [Value.cells, kit_cellsInt] using hf 0 _ rfl
 have h1 : DataW.trod enc Tryz.prog W 0 (fun _ => true) true n 22 [c1] = some x1 := by simpa [Value.cells, kit_cellsInt, kit_cellsisT] using hf 1 _ rfl
 obtain ⟨m0, e0, _, w0⟩ := DataW.trod_int Tryz.underlying3 h0
 obtain rfl : c0 = .int .i64 m0 := by simpa using e0
 obtain ⟨X, p, c, rfl, r1, r2, r3, r4, -⟩ := rowsT_trod ivF (fun _ => True) 1 (by decide) (fun _ => rfl) 0 Tryz.underlying22 kit_cellsInt iT_trod h1
 exact ⟨⟨m0, X, p, c⟩, rfl, ⟨rd_of_rdfO r1, ⟨r2, r3⟩⟩, r4⟩
theorem opn_table (hval : Value.okWide Tryz.prog W .any base 25 v) (h : DataW.Trod enc Tryz.prog W 0 (fun _ => true) true 25 v d ps) :
  ∃ (r s n : Int) (L : List Rw) (p : Option Addr) (c : Nat), v = .agg #[.int .i64 r, .int .i64 s, .int .i64 n, .slice p L.length c] ∧ I64 r ∧ RdW W (· < W.heap.size) p c L ∧ (∀ x ∈ L, x.p = none → x.c = 0) ∧ (p = none → c = 0) ∧ L.length ≤ c ∧ c ≤ 9223372036854775807 := by
 have hs := Tryz.underlying25
 obtain ⟨cs, rfl, hcs⟩ := okWide_struct hs hval
 obtain ⟨fuel, hf0⟩ := h
 obtain ⟨xs, n, _, _, hl, hlen, hf⟩ := DataW.trod_struct hs hf0
 rw [kit_cellstbT] at hl
 obtain ⟨c0, c1, c2, c3, hl3⟩ := tlistT4 hl
 obtain ⟨x0, x1, x2, x3, rfl⟩ := tlistT4 hlen
 obtain rfl : cs = #[c0, c1, c2, c3] := by
  apply Array.ext'
  simpa [Value.cells] using hl3
 have h0 : DataW.trod enc Tryz.prog W 0 (fun _ => true) true n 3 [c0] = some x0 := by simpa [Value.cells, kit_cellsInt] using hf 0 _ rfl
 have h1 : DataW.trod enc Tryz.prog W 0 (fun _ => true) true n 3 [c1] = some x1 := by simpa [Value.cells, kit_cellsInt] using hf 1 _ rfl
 have h2 : DataW.trod enc Tryz.prog W 0 (fun _ => true) true n 3 [c2] = some x2 := by simpa [Value.cells, kit_cellsInt] using hf 2 _ rfl
 have h3 : DataW.trod enc Tryz.prog W 0 (fun _ => true) true n 23 [c3] = some x3 := by simpa [Value.cells, kit_cellsInt, kit_cellsrwsT] using hf 3 _ rfl
 obtain ⟨m0, e0, _, w0⟩ := DataW.trod_int Tryz.underlying3 h0
 obtain rfl : c0 = .int .i64 m0 := by simpa using e0
 obtain ⟨m1, e1, _, w1⟩ := DataW.trod_int Tryz.underlying3 h1
 obtain rfl : c1 = .int .i64 m1 := by simpa using e1
 obtain ⟨m2, e2, _, w2⟩ := DataW.trod_int Tryz.underlying3 h2
 obtain rfl : c2 = .int .i64 m2 := by simpa using e2
 obtain ⟨L, p, c, rfl, r1, r2, r3, r4, hP⟩ := rowsT_trod rwC (fun x => RwOk W (· < W.heap.size) x ∧ (x.p = none → x.c = 0)) 2 (by decide) (fun _ => rfl) ⟨0, [], none, 0⟩ Tryz.underlying23 kit_cellsrwT rw_trod h3
 exact ⟨m0, m1, m2, L, p, c, rfl, i64_wf w0, ⟨r1, fun x hx => (hP x hx).1⟩, fun x hx => (hP x hx).2, r4, r2, r3⟩
end
end Go.Proofs.YtahafijpcmphaaaGreat

/- Parts of the proof, packed: StRoute, StJoin, StRow, StLabs, StTape, StRtOf, StDecL, StVFrame. -/
import Derived.Test.YtpabfjhjehjebaaDoorSDec8
import Derived.Test.YtpabfjhjehjebaaDoorSDec9
import Derived.Test.YtpabfjhjehjebaaDoorSDec3
import Derived.Test.YtpabfjhjehjebaaDoorSDec2
import Derived.Test.YtpabfjhjehjebaaDoorSDec7
import Derived.Lib.SmallJoins
import Derived.Test.YtpabfjhjehjebaaDoorSDec6
/- stack: allValid, allDifferent; slices.Index and Contains of numbers. -/
namespace Go.Proofs.YtpabfjhjehjebaaDoor
open Go.RowKit Bs
def iv (z : Int) : Value := .int .i64 z
set_option maxRecDepth 100000 in
theorem rdi_cells {w : World} {q : Nat → Prop} {p : Option Addr} {n c : Nat} {r : List Int} (h : Rd w q (.slice p n c) (r.map iv)) (hn : 0 < r.length) :
    ∃ b off, p = some ⟨b, off, none⟩ ∧ q b ∧ ∀ i, i < r.length → w.cell? ⟨b, off + i, none⟩ = some (.int .i64 (r.getD i 0)) := by
  obtain ⟨p1, c1, e1, hx⟩ := h
  injection e1 with a1 a2 a3
  subst a1
  obtain ⟨b, off, hp, hq, hc⟩ := hx (by intro e; have := congrArg List.length e; simp only [List.length_map, List.length_nil] at this; omega)
  refine ⟨b, off, hp, hq, fun i hi => hc i _ ?_⟩
  rw [List.getElem?_map, List.getElem?_eq_getElem hi, List.getD_eq_getElem?_getD, List.getElem?_eq_getElem hi]; rfl
set_option maxRecDepth 100000 in
theorem rdi_take {w : World} {q : Nat → Prop} {p : Option Addr} {n c : Nat} {r : List Int} (h : Rd w q (.slice p n c) (r.map iv)) (k : Nat) (hk : k ≤ r.length) : Rd w q (.slice p k c) ((r.take k).map iv) := by
  obtain ⟨p1, c1, e1, hx⟩ := h
  injection e1 with a1 a2 a3
  subst a1
  refine ⟨p, c, by rw [List.length_map, List.length_take, Nat.min_eq_left hk], fun hne => ?_⟩
  obtain ⟨b, off, hp, hq, hc⟩ := hx (by intro e; apply hne; rw [List.map_take, e]; simp)
  refine ⟨b, off, hp, hq, fun i x hi => hc i x ?_⟩
  rw [List.map_take] at hi
  rw [List.getElem?_take] at hi
  split at hi
  · exact hi
  · cases hi
set_option maxHeartbeats 1600000 in
set_option maxRecDepth 100000 in
theorem sidx_any (r : List Int) (x : Int) (p : Option Addr) (c : Nat) (q : Nat → Prop) (w : World) (hR : Rd w q (.slice p r.length c) (r.map iv)) (hm : r.length ≤ 9223372036854775807) :
    Calls Tryd.prog 90 #[.slice p r.length c, .int .i64 x] w fun e w' => ∃ i : Int, e = .returned (.int .i64 i) ∧ (decide (0 ≤ i) = r.contains x) ∧ w' = w := by
  have HR := Lib.hid hR
  clear hR
  go_enter Tryd.func90, Tryd.ntmps90
  go_wp2_with fail
  go_loopw [8] (fun a wr => ∃ k : Nat, k ≤ r.length ∧ a = .int .i64 (k : Int) ∧ wr = w ∧ ∀ j, j < k → r.getD j 0 ≠ x) (fun a _ => r.length - (intOf a).toNat)
  case atStart => exact ⟨0, Nat.zero_le _, rfl, rfl, fun j hj => absurd hj (Nat.not_lt_zero _)⟩
  case round =>
    obtain ⟨k, hk, rfl, rfl, hne⟩ := hrel
    by_cases hlt : k < r.length
    · obtain ⟨b, off, rfl, hq, hc⟩ := rdi_cells HR.out (by omega)
      have c0 := hc k hlt
      clear hc
      obtain ⟨y, hy⟩ : ∃ y, r.getD k 0 = y := ⟨_, rfl⟩
      rw [hy] at c0
      by_cases e : x = y
      · subst e
        have HY := Lib.hid hy
        clear hy
        go_wp2_with fail
        go_ret
        refine ⟨k, rfl, ?_, rfl⟩
        rw [Bool.eq_iff_iff, decide_eq_true_eq, List.contains_iff_mem]
        refine ⟨fun _ => ?_, fun _ => by omega⟩
        have h3 := HY.out
        rw [List.getD_eq_getElem?_getD, List.getElem?_eq_getElem hlt] at h3
        rw [← h3]; exact List.getElem_mem hlt
      · have HY := Lib.hid hy
        clear hy
        go_wp2_with fail
        refine ⟨⟨k + 1, by omega, congrArg _ (by omega), trivial, fun j hj => ?_⟩, by simp only [intOf]; omega⟩
        by_cases h2 : j = k
        · subst h2
          rw [HY.out]
          exact fun h => e h.symm
        · exact hne j (by omega)
    · obtain rfl : k = r.length := by omega
      go_wp2_with fail
      go_ret
      refine ⟨-1, rfl, ?_, rfl⟩
      rw [Bool.eq_iff_iff, decide_eq_true_eq, List.contains_iff_mem]
      refine ⟨fun h => by omega, fun h => ?_⟩
      obtain ⟨i, hi, he⟩ := List.getElem_of_mem h
      refine absurd ?_ (hne i hi)
      rw [List.getD_eq_getElem?_getD, List.getElem?_eq_getElem hi]
      exact he
set_option maxRecDepth 100000 in
theorem scontains_any (r : List Int) (x : Int) (p : Option Addr) (n c : Nat) (hn : n = r.length) (q : Nat → Prop) (w : World) (hR : Rd w q (.slice p n c) (r.map iv)) (hm : r.length ≤ 9223372036854775807) :
    Calls Tryd.prog 73 #[.slice p n c, .int .i64 x] w fun e w' => e = .returned (.bool (r.contains x)) ∧ w' = w := by
  subst hn
  go_enter Tryd.func73, Tryd.ntmps73
  go_wp2_with (go_at_call 90; refine (sidx_any r x p c q _ hR hm).mono ?_; rintro e w' ⟨i, rfl, hi, rfl⟩; have HI := Lib.hid hi; clear hi)
  go_ret
  rw [← HI.out]
  exact ⟨rfl, rfl⟩
set_option maxRecDepth 100000 in
theorem svr_any (z : Int) (w : World) :
    Calls Tryd.prog 54 #[.int .i64 z] w fun e w' => e = .returned (.bool (okR z)) ∧ w' = w := by
  go_enter Tryd.func54, Tryd.ntmps54
  go_wp2_with (go_at_call 65; refine (swithin_any _ _ _ _).mono ?_; rintro e w' ⟨rfl, rfl⟩)
  go_ret
  refine ⟨?_, rfl⟩
  unfold okR
  rw [Bool.decide_and]; rfl
set_option maxHeartbeats 1600000 in
set_option maxRecDepth 100000 in
theorem sallv_any (r : List Int) (p : Option Addr) (c : Nat) (q : Nat → Prop) (w : World) (hR : Rd w q (.slice p r.length c) (r.map iv)) (hm : r.length ≤ 9223372036854775807) :
    Calls Tryd.prog 39 #[.slice p r.length c] w fun e w' => e = .returned (.bool (allR r)) ∧ w' = w := by
  have HR := Lib.hid hR
  clear hR
  go_enter Tryd.func39, Tryd.ntmps39
  go_wp2_with fail
  go_loopw [7] (fun a wr => ∃ k : Nat, k ≤ r.length ∧ a = .int .i64 (k : Int) ∧ wr = w ∧ ∀ j, j < k → okR (r.getD j 0) = true) (fun a _ => r.length - (intOf a).toNat)
  case atStart => exact ⟨0, Nat.zero_le _, rfl, rfl, fun j hj => absurd hj (Nat.not_lt_zero _)⟩
  case round =>
    obtain ⟨k, hk, rfl, rfl, hne⟩ := hrel
    by_cases hlt : k < r.length
    · obtain ⟨b, off, rfl, hq, hc⟩ := rdi_cells HR.out (by omega)
      have c0 := hc k hlt
      clear hc
      obtain ⟨y, hy⟩ : ∃ y, r.getD k 0 = y := ⟨_, rfl⟩
      rw [hy] at c0
      have HY := Lib.hid hy
      clear hy
      go_wp2_with fail
      refine (svr_any y _).mono ?_
      rintro e w' ⟨rfl, rfl⟩
      cases hz : okR y
      · go_wp2_with fail
        go_ret
        refine ⟨?_, rfl⟩
        have h3 := HY.out
        rw [List.getD_eq_getElem?_getD, List.getElem?_eq_getElem hlt] at h3
        have : allR r = false := by
          rw [Bool.eq_false_iff]
          intro h
          have := List.all_eq_true.1 h _ (List.getElem_mem hlt)
          rw [show r[k] = y from h3, hz] at this
          cases this
        rw [this]; rfl
      · go_wp2_with fail
        refine ⟨⟨k + 1, by omega, congrArg _ (by omega), trivial, fun j hj => ?_⟩, by simp only [intOf]; omega⟩
        by_cases h2 : j = k
        · subst h2
          rw [HY.out]
          exact hz
        · exact hne j (by omega)
    · obtain rfl : k = r.length := by omega
      go_wp2_with fail
      go_ret
      have : allR r = true := by
        refine List.all_eq_true.2 fun x hx => ?_
        obtain ⟨i, hi, he⟩ := List.getElem_of_mem hx
        have := hne i hi
        rw [List.getD_eq_getElem?_getD, List.getElem?_eq_getElem hi] at this
        rw [← he]; exact this
      rw [this]
      exact ⟨rfl, rfl⟩
set_option maxRecDepth 100000 in
theorem rep_hit {r : List Int} {k : Nat} {y : Int} (hk : k < r.length) (hy : r.getD k 0 = y) (h : (r.take k).contains y = true) : rep r = true := by
  refine List.any_eq_true.2 ⟨k, List.mem_range.2 hk, ?_⟩
  rw [hy]; exact h
set_option maxRecDepth 100000 in
theorem rep_miss {r : List Int} (h : ∀ j, j < r.length → (r.take j).contains (r.getD j 0) = false) : rep r = false := by
  rw [Bool.eq_false_iff]
  intro hr
  obtain ⟨k, hk, h2⟩ := List.any_eq_true.1 hr
  rw [h k (List.mem_range.1 hk)] at h2
  cases h2
set_option maxHeartbeats 1600000 in
set_option maxRecDepth 100000 in
theorem salld_any (r : List Int) (p : Option Addr) (c : Nat) (hc0 : r.length ≤ c) (hcm : c ≤ 9223372036854775807) (q : Nat → Prop) (w : World) (hR : Rd w q (.slice p r.length c) (r.map iv)) :
    Calls Tryd.prog 41 #[.slice p r.length c] w fun e w' => e = .returned (.bool (!rep r)) ∧ w' = w := by
  have HR := Lib.hid hR
  have hm := Nat.le_trans hc0 hcm
  clear hR
  go_enter Tryd.func41, Tryd.ntmps41
  go_wp2_with fail
  go_loopw [7] (fun a wr => ∃ k : Nat, k ≤ r.length ∧ a = .int .i64 (k : Int) ∧ wr = w ∧ ∀ j, j < k → (r.take j).contains (r.getD j 0) = false) (fun a _ => r.length - (intOf a).toNat)
  case atStart => exact ⟨0, Nat.zero_le _, rfl, rfl, fun j hj => absurd hj (Nat.not_lt_zero _)⟩
  case round =>
    obtain ⟨k, hk, rfl, rfl, hne⟩ := hrel
    by_cases hlt : k < r.length
    · obtain ⟨b, off, rfl, hq, hc⟩ := rdi_cells HR.out (by omega)
      have c0 := hc k hlt
      have hkc : k ≤ c := by omega
      clear hc
      obtain ⟨y, hy⟩ : ∃ y, r.getD k 0 = y := ⟨_, rfl⟩
      rw [hy] at c0
      have HY := Lib.hid hy
      clear hy
      go_wp2_with fail
      refine (scontains_any (r.take k) y _ _ _ (by rw [List.length_take]; omega) q _ (rdi_take HR.out k hk) (by rw [List.length_take]; omega)).mono ?_
      rintro e w' ⟨rfl, rfl⟩
      cases hz : (r.take k).contains y
      · go_wp2_with fail
        refine ⟨⟨k + 1, by omega, congrArg _ (by omega), trivial, fun j hj => ?_⟩, by simp only [intOf]; omega⟩
        by_cases h2 : j = k
        · subst h2
          rw [HY.out]
          exact hz
        · exact hne j (by omega)
      · go_wp2_with fail
        go_ret
        rw [rep_hit hlt HY.out hz]
        exact ⟨rfl, rfl⟩
    · obtain rfl : k = r.length := by omega
      have HN := Lib.hid hne
      clear hne
      go_wp2_with fail
      go_ret
      rw [rep_miss HN.out]
      exact ⟨rfl, rfl⟩
end Go.Proofs.YtpabfjhjehjebaaDoor

/- stack: joined. -/
namespace Go.Proofs.YtpabfjhjehjebaaDoor
open Go.RowKit Bs
/-- A slice of slices of bytes. -/
def RdB (w : World) (q : Nat → Prop) (p : Option Addr) (Ls : List (List Nat)) : Prop :=
  Ls ≠ [] → ∃ b off, p = some ⟨b, off, none⟩ ∧ ∀ i L, Ls[i]? = some L → ∃ p' c', w.cell? ⟨b, off + i, none⟩ = some (.slice p' L.length c') ∧ Rd w q (.slice p' L.length c') (L.map nv) ∧ (p' = none → c' = 0)
set_option maxRecDepth 100000 in
theorem RdB.keep {w w' : World} {q : Nat → Prop} {p : Option Addr} {Ls : List (List Nat)} (h : RdB w q p Ls) (g : w.grownBy w' none) : RdB w' q p Ls := by
  intro hne
  obtain ⟨b, off, hp, hx⟩ := h hne
  refine ⟨b, off, hp, fun i L hi => ?_⟩
  obtain ⟨p', c', h1, h2, h3⟩ := hx i L hi
  exact ⟨p', c', g.cell h1 (by simp), h2.keep g, h3⟩
/-- What joined returns. -/
def JPost (L : List Nat) (w : World) (e : Ending) (w' : World) : Prop := ∃ p c, e = .returned (.slice p L.length c) ∧ Own w' w.heap.size p c L ∧ w.grownBy w' none
set_option maxRecDepth 100000 in
theorem flat_next {Ls : List (List Nat)} {k : Nat} {L : List Nat} (h : Ls[k]? = some L) : (Ls.take (k + 1)).flatten = (Ls.take k).flatten ++ L := by
  rw [List.take_add_one, h]; simp
set_option maxRecDepth 100000 in
theorem flat_le {Ls : List (List Nat)} {k : Nat} : ((Ls.take k).flatten).length ≤ Ls.flatten.length := by
  have e : Ls.flatten = (Ls.take k).flatten ++ (Ls.drop k).flatten := by rw [← List.flatten_append, List.take_append_drop]
  rw [e, List.length_append]; omega
set_option maxHeartbeats 1600000 in
set_option maxRecDepth 100000 in
theorem sjoin_any (Ls : List (List Nat)) (hB : ∀ L ∈ Ls, By L) (hsm : Ls.flatten.length ≤ 90000) (p : Option Addr) (n c : Nat) (hn : n = Ls.length) (hn2 : Ls.length ≤ 100) (q : Nat → Prop) (w : World) (hR : RdB w q p Ls) :
    Calls Tryd.prog 68 #[.slice p n c] w fun e w' => JPost Ls.flatten w e w' := by
  subst hn
  have HR := Lib.hid hR
  have HS := Lib.hid hsm
  clear hR hsm
  go_enter Tryd.func68, Tryd.ntmps68
  go_wp2_with fail
  go_loopw [3, 8] (fun v a wr => ∃ k : Nat, k ≤ Ls.length ∧ a = .int .i64 (k : Int) ∧ wr.ownsRow w.heap.size 5 1 v ((Ls.take k).flatten).length (((Ls.take k).flatten).map nv) ∧ w.grownBy wr none) (fun _ a _ => Ls.length - (intOf a).toNat)
  case atStart => exact ⟨0, Nat.zero_le _, rfl, World.ownsRow_nil _ _ _ _, grown_refl _ _⟩
  case round =>
    obtain ⟨k, hk, rfl, hO, hG⟩ := hrel
    have HG := Lib.hid hG
    by_cases hlt : k < Ls.length
    · obtain ⟨F, hF⟩ : ∃ F, (Ls.take k).flatten = F := ⟨_, rfl⟩
      rw [hF] at hO
      have HO := Lib.hid hO
      have HFF := Lib.hid hF
      clear hO hG hF
      obtain ⟨b, off, rfl, hx⟩ := HR.out.keep HG.out (by intro e; rw [e] at hlt; simp at hlt)
      obtain ⟨L, hL⟩ : ∃ L, Ls[k]? = some L := ⟨_, List.getElem?_eq_getElem hlt⟩
      obtain ⟨p', c', h1, h2, h3⟩ := hx k L hL
      have HF : Hid ((Ls.take (k + 1)).flatten = F ++ L) := Lib.hid (by rw [flat_next hL, HFF.out])
      have HLE := Lib.hid (flat_le (Ls := Ls) (k := k + 1))
      have HRD := Lib.hid (And.intro h2 h3)
      clear hx hL h2 h3
      go_wp2_with (at_builtin; refine wpList_append_rd rfl _ _ rfl w.heap.size u3 F.length F rfl HO.out p' L.length c' L rfl rfl q HRD.out.1 HRD.out.2 ?c1 ?c2 ?_)
      case c1 => have h1 := HLE.out; have h2 := HS.out; rw [HF.out, List.length_append] at h1; omega
      case c2 => exact HG.out.size
      intro v' w' hown hg
      have HO2 : Hid (w'.ownsRow w.heap.size 5 1 v' ((Ls.take (k + 1)).flatten).length (((Ls.take (k + 1)).flatten).map nv)) := Lib.hid (by rw [HF.out, List.length_append, List.map_append]; exact hown)
      have HG2 := Lib.hid (grown_own HG.out HO.out (Nat.le_refl _) hg)
      clear hown hg
      go_wp2_with fail
      exact ⟨⟨k + 1, by omega, congrArg _ (by omega), HO2.out, HG2.out⟩, by simp only [intOf]; omega⟩
    · obtain rfl : k = Ls.length := by omega
      have e : Ls.take Ls.length = Ls := List.take_length
      rw [e] at hO
      obtain ⟨p2, c2, rfl, hpc⟩ := own_parts hO
      have HO3 := Lib.hid hO
      clear hO hG e
      go_wp2_with fail
      go_ret
      refine ⟨p2, c2, rfl, ⟨HO3.out, hpc, fun x hx => ?_⟩, HG.out⟩
      obtain ⟨L, hL, hx2⟩ := List.mem_flatten.1 hx
      exact hB L hL x hx2
end Go.Proofs.YtpabfjhjehjebaaDoor

/- Blocks that a call fills: rows; make of several cells. -/
namespace Go.Proofs.YtpabfjhjehjebaaDoor
open Go.RowKit Bs
/-- Block g has the cells xs. -/
def Row (w : World) (g : Nat) (t : TypeId) (xs : List Value) : Prop := w.heap[g]? = some (.cells xs.toArray t (0, 0))
set_option maxRecDepth 100000 in
theorem Row.set {w : World} {g : Nat} {t : TypeId} {xs : List Value} (h : Row w g t xs) (j : Nat) (v : Value) : Row (w.setCell ⟨g, j, none⟩ v) g t (xs.set j v) := by
  have := heap_setCell_same w g j _ _ v h
  rw [List.setIfInBounds_toArray] at this
  exact this
set_option maxRecDepth 100000 in
theorem Row.cell {w : World} {g : Nat} {t : TypeId} {xs : List Value} (h : Row w g t xs) {j : Nat} {x : Value} (hj : xs[j]? = some x) : w.cell? ⟨g, j, none⟩ = some x := by
  rw [cell_of_row _ _ _ _ _ _ h]
  simpa using hj
set_option maxRecDepth 100000 in
theorem Row.frozen {w : World} {g : Nat} {t : TypeId} {xs : List Value} (h : Row w g t xs) (j : Nat) : w.frozen? ⟨g, j, none⟩ = false := frozen_of_row _ _ _ _ _ h
set_option maxRecDepth 100000 in
theorem Row.kept {w w' : World} {g : Nat} {t : TypeId} {xs : List Value} {r : Option Nat} (h : Row w g t xs) (k : w.grownBy w' r) (hr : some g ≠ r) : Row w' g t xs := kept_row h k hr
set_option maxRecDepth 100000 in
theorem Row.lt {w : World} {g : Nat} {t : TypeId} {xs : List Value} (h : Row w g t xs) : g < w.heap.size := by
  unfold Row at h
  rcases Nat.lt_or_ge g w.heap.size with h1 | h1
  · exact h1
  · rw [Array.getElem?_eq_none h1] at h; cases h
set_option maxRecDepth 100000 in
theorem Row.rd {w : World} {g : Nat} {t : TypeId} {xs : List Value} (h : Row w g t xs) (n c : Nat) : RdK w (· = g) (.slice (some ⟨g, 0, none⟩) n c) n xs :=
  ⟨_, c, rfl, fun _ => ⟨g, 0, rfl, rfl, fun i x hi => by rw [Nat.zero_add]; exact h.cell hi⟩⟩
set_option maxRecDepth 100000 in
/-- make, as a law for the walk. -/
theorem wpList_make_k (w : World) {ops : Array Oper} {rest : List Oper} {o : Oper} {a : Act} {Q : Exit → Act → World → Prop} (hg : o.guard = none) (l c : Operand) (t : TypeId) (hop : o.op = Op.makeSlice t l c)
    (e : TypeId) (i : TypeInfo) (z : Value) (ht : Tryd.prog.underlying t = some (.slice e)) (hi : Tryd.prog.info? e = some i) (hz : i.zero = some z) (n : Nat) (hl : a.eval l = .int .i64 (n : Int)) (hc : a.eval c = .int .i64 (n : Int)) (hn : n ≤ 1000000) (hb : i.bytes ≤ 1000)
    (hK : wpList Tryd.prog ops Q rest (a.put o.dst (.slice (some ⟨w.heap.size, 0, none⟩) n n)) (w.alloc (.cells (madeCells z.cells (n * i.size)) e))) : wpList Tryd.prog ops Q (o :: rest) a w := by
  refine wpList_plain hg fun K hK' => ?_
  have hb2 : i.bytes * n ≤ 1000 * 1000000 := Nat.mul_le_mul hb hn
  have hb3 : (i.bytes : Int) * (n : Int) ≤ 281474976710656 := by
    have : ((i.bytes * n : Nat) : Int) ≤ 281474976710656 := by omega
    rwa [Int.natCast_mul] at this
  have hrun := run_make (P := Tryd.prog) w t e i z ht hi hz .i64 .i64 (n : Int) (n : Int) (by omega) (Int.le_refl _) hb3 (by omega)
  rw [Int.toNat_natCast] at hrun
  unfold Oper.wp
  simp [execOp, hop, hl, hc, hrun, Result.andThen]
  exact hK' _ _ hK
set_option maxRecDepth 100000 in
theorem made_same (z : Array Value) (x : Value) (hz : ∀ i, i < z.size → z[i]! = x) (hs : 0 < z.size) (N : Nat) : madeCells z N = (List.replicate N x).toArray := by
  unfold madeCells
  apply Array.ext'
  rw [Array.toList_map, Array.toList_range]
  apply List.ext_getElem?
  intro i
  rw [List.getElem?_map]
  show _ = (List.replicate N x)[i]?
  rw [List.getElem?_replicate]
  by_cases h : i < N
  · rw [List.getElem?_range h, if_pos h]
    show some (z[i % z.size]!) = _
    rw [hz _ (Nat.mod_lt _ hs)]
  · rw [List.getElem?_eq_none (by simpa using h), if_neg h]; rfl
end Go.Proofs.YtpabfjhjehjebaaDoor

/- stack: labelOf, labelsOf. -/
namespace Go.Proofs.YtpabfjhjehjebaaDoor
open Go.RowKit Bs
set_option maxRecDepth 100000 in
theorem res_lab {fn : Func} {p : Tmp} (h : fn.results = #[.cell p 55]) (tmps : Array Value) (w : World) (g : Nat) (xs : Array Value) (hp : tmps.getD p undef = .pointer (some ⟨g, 0, none⟩)) (hn : xs.size = 3) (hg : w.heap[g]? = some (.cells xs 55 (0, 0))) :
    (results fn tmps).run Tryd.prog w = .ok (.agg xs) w := by
  exact results_cell_row h tmps w g _ _ _ _ hp hg Tryd.underlying55 rfl (by rw [hn]; exact lab_size)
set_option maxRecDepth 100000 in
theorem slabof_any (z : Int) (hz : 1 ≤ z ∧ z ≤ 99) (w : World) :
    Calls Tryd.prog 55 #[.int .i64 z] w fun e w' => e = .returned (.agg #[.int .i64 (16 + z), .int .i64 0, .int .i64 255]) ∧ w.grownBy w' none := by
  obtain ⟨k1, k2⟩ := sone_box w #[.int .i64 0, .int .i64 0, .int .i64 0] 55
  have HB := Lib.hid (And.intro k1 k2)
  have f0 := frozen_of_row _ _ 0 _ _ k1
  have f1 := frozen_of_row _ _ 1 _ _ k1
  have f2 := frozen_of_row _ _ 2 _ _ k1
  obtain ⟨e0, e1, e2⟩ := lab_facts (l := ⟨0, 0, 0⟩) k1
  simp only at e0 e1 e2
  clear k1 k2
  obtain ⟨h1, h2⟩ := hz
  go_enter Tryd.func55, Tryd.ntmps55
  go_upto_region 1 with fail
  generalize w.alloc _ = wa at *
  go_wp2_with fail
  refine bodyPost_ret (res_lab rfl _ _ w.heap.size _ rfl rfl (store3 HB.out.1)) rfl ?_
  exact ⟨rfl, grown_new HB.out.2 (grown_store3 _ _ _ _ _) (Nat.le_refl _)⟩
set_option maxRecDepth 100000 in
theorem set3 {α : Type} (x y z a b c : α) (B : List α) : ∀ (A : List α) (i : Nat), A.length = i → (((A ++ x :: y :: z :: B).set i a).set (i + 1) b).set (i + 2) c = A ++ a :: b :: c :: B
  | [], i, h => by
    obtain rfl : i = 0 := h.symm
    rfl
  | d :: A, i, h => by
    rcases i with _ | i
    · simp at h
    · have := set3 x y z a b c B A i (by simpa using h)
      simp only [List.cons_append, List.set_cons_succ]
      rw [this]
def LOPost (r : List Int) (w : World) (e : Ending) (w' : World) : Prop := ∃ g, e = .returned (.slice (some ⟨g, 0, none⟩) r.length r.length) ∧ Row w' g 55 (labsC (r.map lbR)) ∧ w.heap.size ≤ g ∧ w.grownBy w' none
/-- While labels are written. -/
def labZ (r : List Int) (k : Nat) : List Value := labsC ((r.take k).map lbR) ++ List.replicate (3 * (r.length - k)) (iv 0)
set_option maxRecDepth 100000 in
theorem labZ_form {r : List Int} {k : Nat} (h : k < r.length) : labZ r k = labsC ((r.take k).map lbR) ++ iv 0 :: iv 0 :: iv 0 :: List.replicate (3 * (r.length - (k + 1))) (iv 0) := by
  unfold labZ
  rw [show 3 * (r.length - k) = 3 * (r.length - (k + 1)) + 3 by omega, List.replicate_succ, List.replicate_succ, List.replicate_succ]
set_option maxRecDepth 100000 in
theorem labZ_pre {r : List Int} {k : Nat} (h : k ≤ r.length) : (labsC ((r.take k).map lbR)).length = k * 3 := by
  rw [labsC_len, List.length_map, List.length_take, Nat.min_eq_left h, Nat.mul_comm]
set_option maxRecDepth 100000 in
theorem labZ_at {r : List Int} {k : Nat} (h : k < r.length) : (labZ r k)[k * 3]? = some (iv 0) ∧ (labZ r k)[k * 3 + 1]? = some (iv 0) ∧ (labZ r k)[k * 3 + 2]? = some (iv 0) := by
  have hl := labZ_pre (Nat.le_of_lt h)
  rw [labZ_form h]
  refine ⟨?_, ?_, ?_⟩ <;> rw [List.getElem?_append_right (by omega), hl]
  · simp
  · rw [show k * 3 + 1 - k * 3 = 1 by omega]; rfl
  · rw [show k * 3 + 2 - k * 3 = 2 by omega]; rfl
set_option maxRecDepth 100000 in
theorem labZ_set {r : List Int} {k : Nat} {z : Int} (h : k < r.length) (hz : r[k]? = some z) : (((labZ r k).set (k * 3) (iv (16 + z))).set (k * 3 + 1) (iv 0)).set (k * 3 + 2) (iv 255) = labZ r (k + 1) := by
  rw [labZ_form h, set3 _ _ _ _ _ _ _ _ _ (labZ_pre (Nat.le_of_lt h))]
  unfold labZ
  rw [List.take_add_one, hz]
  show _ = labsC (List.map lbR (r.take k ++ [z])) ++ _
  rw [List.map_append, List.map_singleton, labsC_snoc]
  simp [labC, lbR, iv]
set_option maxRecDepth 100000 in
set_option maxHeartbeats 3200000 in
theorem slabs_any (r : List Int) (hr : allR r = true) (p : Option Addr) (c : Nat) (h24 : r.length ≤ 24) (q : Nat → Prop) (w : World) (hR : Rd w q (.slice p r.length c) (r.map iv)) :
    Calls Tryd.prog 70 #[.slice p r.length c] w fun e w' => LOPost r w e w' := by
  have HR := Lib.hid hR
  have HA := Lib.hid hr
  clear hR hr
  obtain ⟨i0, hi, hz0, hz1, hz2⟩ := info_parts info_lab
  go_enter Tryd.func70, Tryd.ntmps70
  go_wp2_with (at_make; refine wpList_make_k _ rfl _ _ 53 rfl 55 i0 _ Tryd.underlying53 hi hz0 r.length rfl rfl (by omega) (by omega) ?_; rw [hz1, made_same _ (iv 0) (by intro i hi; have : i = 0 ∨ i = 1 ∨ i = 2 := by { simp [Value.cells] at hi; omega }; rcases this with rfl | rfl | rfl <;> rfl) (by simp [Value.cells]) _])
  obtain ⟨k1, k2⟩ := sone_box w (Array.replicate (r.length * 3) (iv 0)) 55
  have P0 : Hid (Row (w.alloc (.cells (Array.replicate (r.length * 3) (iv 0)) 55)) w.heap.size 55 (labZ r 0) ∧ w.grownBy (w.alloc (.cells (Array.replicate (r.length * 3) (iv 0)) 55)) none) := by
    refine Lib.hid ⟨?_, k2⟩
    unfold Row labZ
    rw [k1, List.take_zero, show 3 * (r.length - 0) = r.length * 3 by omega]
    show _ = some (Obj.cells (List.replicate (r.length * 3) (iv 0)).toArray _ _)
    rw [List.toArray_replicate]
  clear k1 k2
  generalize w.alloc _ = wa at *
  go_loopw [11] (fun a wr => ∃ k : Nat, k ≤ r.length ∧ a = .int .i64 (k : Int) ∧ Row wr w.heap.size 55 (labZ r k) ∧ w.grownBy wr none) (fun a _ => r.length - (intOf a).toNat)
  case atStart => exact ⟨0, Nat.zero_le _, rfl, P0.out.1, P0.out.2⟩
  case round =>
    obtain ⟨k, hk, rfl, hX, hG⟩ := hrel
    have HX := Lib.hid (And.intro hX hG)
    clear hX hG P0
    by_cases hlt : k < r.length
    · obtain ⟨b, off, rfl, hq, hc⟩ := rdi_cells (HR.out.keep HX.out.2) (by omega)
      have c0 := hc k hlt
      obtain ⟨z, hz⟩ : ∃ z, r.getD k 0 = z := ⟨_, rfl⟩
      rw [hz] at c0
      have hk2 : r[k]? = some z := by rw [← hz, List.getD_eq_getElem?_getD, List.getElem?_eq_getElem hlt]; rfl
      have hz9 : 1 ≤ z ∧ z ≤ 99 := by
        have := List.all_eq_true.1 HA.out z (List.mem_of_getElem? hk2)
        simpa [okR] using this
      have HK := Lib.hid hk2
      have HZ := Lib.hid hz9
      clear hc hz hk2 hz9
      go_wp2_with fail
      refine (slabof_any z HZ.out _).mono ?_
      rintro e w1 ⟨rfl, hg⟩
      have HX1 := Lib.hid (And.intro (HX.out.1.kept hg (by simp)) (grown_trans HX.out.2 hg))
      clear hg HX c0
      obtain ⟨l0, l1, l2⟩ := labZ_at hlt
      have e0 : w1.cell? ⟨w.heap.size, k * 3, none⟩ = some (.int .i64 0) := HX1.out.1.cell l0
      have e1 : w1.cell? ⟨w.heap.size, k * 3 + 1, none⟩ = some (.int .i64 0) := HX1.out.1.cell l1
      have e2 : w1.cell? ⟨w.heap.size, k * 3 + 2, none⟩ = some (.int .i64 0) := HX1.out.1.cell l2
      have f0 := HX1.out.1.frozen (k * 3)
      have f1 := HX1.out.1.frozen (k * 3 + 1)
      have f2 := HX1.out.1.frozen (k * 3 + 2)
      have HS : Hid (Row (((w1.setCell ⟨w.heap.size, k * 3, none⟩ (.int .i64 (16 + z))).setCell ⟨w.heap.size, k * 3 + 1, none⟩ (.int .i64 0)).setCell ⟨w.heap.size, k * 3 + 2, none⟩ (.int .i64 255)) w.heap.size 55 (labZ r (k + 1)) ∧
          w.grownBy (((w1.setCell ⟨w.heap.size, k * 3, none⟩ (.int .i64 (16 + z))).setCell ⟨w.heap.size, k * 3 + 1, none⟩ (.int .i64 0)).setCell ⟨w.heap.size, k * 3 + 2, none⟩ (.int .i64 255)) none) := by
        refine Lib.hid ⟨?_, grown_new HX1.out.2 (grown_trans (grown_trans (grown_setCell w1 ⟨w.heap.size, k * 3, none⟩ _) (grown_setCell _ ⟨w.heap.size, k * 3 + 1, none⟩ _)) (grown_setCell _ ⟨w.heap.size, k * 3 + 2, none⟩ _)) (Nat.le_refl _)⟩
        rw [← labZ_set hlt HK.out]
        exact ((HX1.out.1.set _ _).set _ _).set _ _
      clear l0 l1 l2
      go_wp2_with fail
      exact ⟨⟨k + 1, by omega, congrArg _ (by omega), HS.out.1, HS.out.2⟩, by simp only [intOf]; omega⟩
    · obtain rfl : k = r.length := by omega
      go_wp2_with fail
      go_ret
      refine ⟨w.heap.size, rfl, ?_, Nat.le_refl _, HX.out.2⟩
      have := HX.out.1
      unfold labZ at this
      rw [List.take_length, Nat.sub_self] at this
      simpa using this
end Go.Proofs.YtpabfjhjehjebaaDoor

/- The tape's labels. -/
namespace Go.Proofs.YtpabfjhjehjebaaDoor
open Go.RowKit Bs
def LabelPost (a : Nat) (w : World) (e : Ending) (w' : World) : Prop := ∃ l : Lab, e = .returned (.agg #[.int .i64 l.v, .int .i64 l.c, .int .i64 l.h]) ∧ l.Wf ∧ St a w w'
end Go.Proofs.YtpabfjhjehjebaaDoor

/- stack: routeOf. -/
namespace Go.Proofs.YtpabfjhjehjebaaDoor
open Go.RowKit Bs
def RTPost (ls : List Lab) (w : World) (e : Ending) (w' : World) : Prop :=
  ∃ p c, e = .returned (.tuple #[.slice p (rtV ls).1.length c, .int .i64 (rtV ls).2]) ∧ Rd w' (w.heap.size ≤ ·) (.slice p (rtV ls).1.length c) ((rtV ls).1.map iv) ∧ (rtV ls).1.length ≤ c ∧ c ≤ 9223372036854775807 ∧ (p = none → c = 0) ∧ w.grownBy w' none
set_option maxRecDepth 100000 in
theorem rt_err {ls : List Lab} {w w' : World} {x : Int} (h : rtV ls = ([], x)) (g : w.grownBy w' none) : RTPost ls w (.returned (.tuple #[.slice none 0 0, .int .i64 x])) w' := by
  refine ⟨none, 0, by rw [h]; rfl, ?_, by rw [h]; exact Nat.le_refl _, by omega, fun _ => rfl, g⟩
  rw [h]
  exact Rd.nil_ _ _ _ _
set_option maxRecDepth 100000 in
theorem keep3 {w0 w' : World} {b : Nat} {x y z : Value} (h0 : w0.cell? ⟨b, 0, none⟩ = some x) (h1 : w0.cell? ⟨b, 1, none⟩ = some y) (h2 : w0.cell? ⟨b, 2, none⟩ = some z) (g : Hid (w0.grownBy w' none)) :
    w'.cell? ⟨b, 0, none⟩ = some x ∧ w'.cell? ⟨b, 1, none⟩ = some y ∧ w'.cell? ⟨b, 2, none⟩ = some z ∧ Hid (w0.grownBy w' none) := ⟨g.out.cell h0 (by simp), g.out.cell h1 (by simp), g.out.cell h2 (by simp), g⟩
set_option maxRecDepth 100000 in
theorem grown_dn (w : World) (n : Nat) : w.grownBy (w.drewN n) none := grown_drewN w n none
set_option maxRecDepth 100000 in
theorem hid_dr (w : World) : Hid (w.grownBy w.drew none) := Lib.hid (grown_drew (grown_refl _ _))
def rtZ (ls : List Lab) (k : Nat) : List Value := (rts (ls.take k)).map iv ++ List.replicate (ls.length - k) (iv 0)
set_option maxRecDepth 100000 in
theorem rtZ_pre {ls : List Lab} {k : Nat} (h : k ≤ ls.length) : ((rts (ls.take k)).map iv).length = k := by
  unfold rts
  rw [List.length_map, List.length_map, List.length_take, Nat.min_eq_left h]
set_option maxRecDepth 100000 in
theorem rtZ_at {ls : List Lab} {k : Nat} (h : k < ls.length) : (rtZ ls k)[k]? = some (iv 0) := by
  unfold rtZ
  rw [List.getElem?_append_right (by rw [rtZ_pre (Nat.le_of_lt h)]; exact Nat.le_refl _), rtZ_pre (Nat.le_of_lt h), Nat.sub_self, List.getElem?_replicate, if_pos (by omega)]
set_option maxRecDepth 100000 in
theorem rtZ_set {ls : List Lab} {k : Nat} {l : Lab} (h : k < ls.length) (hl : ls[k]? = some l) : (rtZ ls k).set k (iv (l.v - 16)) = rtZ ls (k + 1) := by
  unfold rtZ
  have hp := rtZ_pre (Nat.le_of_lt h)
  rw [show ls.length - k = (ls.length - (k + 1)) + 1 by omega, List.replicate_succ, List.set_append_right _ _ (by rw [hp]; exact Nat.le_refl _), hp, Nat.sub_self, List.set_cons_zero, List.take_add_one, hl]
  unfold rts
  simp
set_option maxRecDepth 100000 in
theorem okL_iff (l : Lab) : okL l = true ↔ okR (l.v - 16) = true ∧ l.c = 0 ∧ l.h = 255 := by
  unfold okL okR
  rw [decide_eq_true_eq, decide_eq_true_eq]
  omega
set_option maxRecDepth 100000 in
theorem all_bad {ls : List Lab} {k : Nat} {l : Lab} (h : ls[k]? = some l) (hv : ¬ okL l = true) : rtV ls = ([], 2) := by
  have : ls.all okL = false := by
    rw [Bool.eq_false_iff]
    intro ha
    exact hv (List.all_eq_true.1 ha l (List.mem_of_getElem? h))
  unfold rtV
  rw [this]
  rfl
set_option maxRecDepth 100000 in
set_option maxHeartbeats 3200000 in
theorem srtof_any (ls : List Lab) (hv : ∀ l ∈ ls, vlab l = true) (h24 : ls.length ≤ 24) (p : Option Addr) (c : Nat) (q : Nat → Prop) (w : World) (hR : RdL w q (.slice p ls.length c) ls) :
    Calls Tryd.prog 29 #[.slice p ls.length c] w fun e w' => RTPost ls w e w' := by
  have HR := Lib.hid hR
  have HV := Lib.hid hv
  clear hR hv
  obtain ⟨i0, hi, hz0, hz1, hz2⟩ := info_parts info_int
  go_enter Tryd.func29, Tryd.ntmps29
  go_wp2_with (at_make; refine wpList_make_k _ rfl _ _ 22 rfl 3 i0 _ Tryd.underlying22 hi hz0 ls.length rfl rfl (by omega) (by omega) ?_; rw [hz1, made_same _ (iv 0) (by intro i hi; have : i = 0 := by { simp [Value.cells] at hi; omega }; subst this; rfl) (by simp [Value.cells]) _, Nat.mul_one])
  obtain ⟨k1, k2⟩ := sone_box w (Array.replicate ls.length (iv 0)) 3
  have P0 : Hid (Row (w.alloc (.cells (Array.replicate ls.length (iv 0)) 3)) w.heap.size 3 (rtZ ls 0) ∧ w.grownBy (w.alloc (.cells (Array.replicate ls.length (iv 0)) 3)) none) := by
    refine Lib.hid ⟨?_, k2⟩
    unfold Row rtZ
    rw [k1, List.take_zero, Nat.sub_zero]
    show _ = some (Obj.cells (List.replicate ls.length (iv 0)).toArray _ _)
    rw [List.toArray_replicate]
  clear k1 k2
  generalize w.alloc _ = wa at *
  go_loopw [13] (fun a wr => ∃ k : Nat, k ≤ ls.length ∧ a = .int .i64 (k : Int) ∧ Row wr w.heap.size 3 (rtZ ls k) ∧ w.grownBy wr none ∧ ∀ x ∈ ls.take k, okL x = true) (fun a _ => ls.length - (intOf a).toNat)
  case atStart => exact ⟨0, Nat.zero_le _, rfl, P0.out.1, P0.out.2, fun x hx => by simp at hx⟩
  case round =>
    obtain ⟨k, hk, rfl, hX, hG, hA⟩ := hrel
    have HX := Lib.hid (And.intro hX hG)
    have HA := Lib.hid hA
    clear hX hG P0 hA
    by_cases hlt : k < ls.length
    · obtain ⟨-, b, off, rfl, hq, hc⟩ := (HR.out.keep HX.out.2).cells (by omega)
      obtain ⟨c0, c1, c2⟩ := hc k hlt
      obtain ⟨l, hl⟩ : ∃ l, ls[k] = l := ⟨_, rfl⟩
      rw [hl] at c0 c1 c2
      have HL : Hid (ls[k]? = some l) := Lib.hid (by rw [← hl]; exact List.getElem?_eq_getElem hlt)
      have hv9 := (vlab_iff l).1 (HV.out l (List.mem_of_getElem? HL.out))
      clear hc hl
      obtain ⟨y, hy⟩ : ∃ y, l.v - 16 = y := ⟨_, rfl⟩
      have hv' : l.v = 16 + y := by omega
      obtain ⟨v0, v1⟩ : -16 ≤ y ∧ y ≤ 1048559 := by omega
      have HOK := Lib.hid (okL_iff l)
      rw [hy] at HOK
      have HY := Lib.hid hy
      rw [hv'] at c0
      obtain ⟨cc, hcc⟩ : ∃ cc, l.c = cc := ⟨_, rfl⟩
      obtain ⟨hh, hhh⟩ : ∃ hh, l.h = hh := ⟨_, rfl⟩
      rw [hcc] at c1 HOK
      rw [hhh] at c2 HOK
      clear hv' hcc hhh hy hv9
      go_upto_region 5 with fail
      obtain ⟨k1, k2⟩ := sone_box wr #[.int .i64 (16 + y), .int .i64 cc, .int .i64 hh] 55
      have HX1 := Lib.hid (And.intro (HX.out.1.kept k2 (by simp)) (grown_trans HX.out.2 k2))
      obtain ⟨d0, d1, d2⟩ := lab_facts (l := ⟨16 + y, cc, hh⟩) k1
      simp only at d0 d1 d2
      clear k1 k2 HX c0 c1 c2
      generalize wr.alloc _ = wb at *
      go_upto_region 6 with fail
      rw [show 16 + y - 16 = y by omega]
      cases hok : okR y
      · have hVR : ∀ w, Calls Tryd.prog 54 #[.int .i64 y] w fun e w' => e = .returned (.bool false) ∧ w = w' := fun w => (svr_any y w).mono (by rw [hok]; rintro e w' ⟨rfl, rfl⟩; exact ⟨rfl, rfl⟩)
        have HB := Lib.hid (all_bad HL.out (fun h => by have := (HOK.out.1 h).1; rw [hok] at this; cases this))
        clear hok
        go_quiet (first | (go_at_call 54; first | exact qt0 (hVR _) | exact qt1 (hVR _) | exact qt2 (hVR _)))
        go_wp2_with fail
        go_ret2
        exact rt_err HB.out (grown_trans HX1.out.2 (grown_dn _ _))
      · have HOKT := Lib.hid hok
        have hz9 : 1 ≤ y ∧ y ≤ 99 := by simpa [okR] using hok
        have HZ := Lib.hid hz9
        clear hok hz9
        by_cases hc0 : cc = 0
        · by_cases hh0 : hh = 255
          · subst hc0
            subst hh0
            go_region_held3 (fun w' => w'.cell? ⟨wr.heap.size, 0, none⟩ = some (.int .i64 (16 + y)) ∧ w'.cell? ⟨wr.heap.size, 1, none⟩ = some (.int .i64 0) ∧ w'.cell? ⟨wr.heap.size, 2, none⟩ = some (.int .i64 255) ∧ Hid (wb.grownBy w' none))
              (first | with_reducible exact keep3 d0 d1 d2 (hid_dr wb) | (go_split_ands; with_reducible refine keep3 d0 d1 d2 (hid_more ?_ hap); with_reducible assumption) | (go_split_ands; with_reducible refine keep3 d0 d1 d2 ?_; with_reducible assumption))
              (first | (go_at_call 54; refine (svr_any _ _).mono ?_; rw [HOKT.out]; rintro e w' ⟨rfl, rfl⟩) | (go_at_call 55; refine (slabof_any _ HZ.out _).mono ?_; rintro e w' ⟨rfl, hap⟩))
            all_goals
              have HGW := Lib.hid (And.intro (HX1.out.1.kept (grown_trans (hid_dr wb).out hap) (by simp)) (grown_trans HX1.out.2 (grown_trans (hid_dr wb).out hap)))
              go_split_ands
              clear hap
              have e0 : w'.cell? ⟨w.heap.size, k, none⟩ = some (.int .i64 0) := HGW.out.1.cell (rtZ_at hlt)
              have f0 := HGW.out.1.frozen k
              have HS : Hid (Row (w'.setCell ⟨w.heap.size, k, none⟩ (.int .i64 y)) w.heap.size 3 (rtZ ls (k + 1)) ∧ w.grownBy (w'.setCell ⟨w.heap.size, k, none⟩ (.int .i64 y)) none) := by
                refine Lib.hid ⟨?_, grown_new HGW.out.2 (grown_setCell w' ⟨w.heap.size, k, none⟩ _) (Nat.le_refl _)⟩
                rw [← rtZ_set hlt HL.out, HY.out]
                exact HGW.out.1.set _ _
              go_wp2_with fail
              refine ⟨⟨k + 1, by omega, congrArg _ (by omega), HS.out.1, HS.out.2, fun x hx => ?_⟩, by simp only [intOf]; omega⟩
              rw [List.take_add_one, HL.out] at hx
              rcases List.mem_append.1 hx with hx | hx
              · exact HA.out x hx
              · obtain rfl : x = l := by simpa using hx
                exact HOK.out.2 (by simp [HOKT.out])
          · subst hc0
            have hhb : (hh == 255) = false := by simpa using hh0
            go_region_held3 (fun w' => w'.cell? ⟨wr.heap.size, 0, none⟩ = some (.int .i64 (16 + y)) ∧ w'.cell? ⟨wr.heap.size, 1, none⟩ = some (.int .i64 0) ∧ w'.cell? ⟨wr.heap.size, 2, none⟩ = some (.int .i64 hh) ∧ Hid (wb.grownBy w' none))
              (first | with_reducible exact keep3 d0 d1 d2 (hid_dr wb) | (go_split_ands; with_reducible refine keep3 d0 d1 d2 (hid_more ?_ hap); with_reducible assumption) | (go_split_ands; with_reducible refine keep3 d0 d1 d2 ?_; with_reducible assumption))
              (first | (go_at_call 54; refine (svr_any _ _).mono ?_; rw [HOKT.out]; rintro e w' ⟨rfl, rfl⟩) | (go_at_call 55; refine (slabof_any _ HZ.out _).mono ?_; rintro e w' ⟨rfl, hap⟩))
            all_goals
              have HGW := Lib.hid (grown_trans HX1.out.2 (grown_trans (hid_dr wb).out hap))
              go_split_ands
              clear hap
              go_wp2_with fail
              go_ret2
              exact rt_err (all_bad HL.out (fun h => by have := (HOK.out.1 h).2; omega)) HGW.out
        · have hcb : (cc == 0) = false := by simpa using hc0
          go_region_held3 (fun w' => w'.cell? ⟨wr.heap.size, 0, none⟩ = some (.int .i64 (16 + y)) ∧ w'.cell? ⟨wr.heap.size, 1, none⟩ = some (.int .i64 cc) ∧ w'.cell? ⟨wr.heap.size, 2, none⟩ = some (.int .i64 hh) ∧ Hid (wb.grownBy w' none))
            (first | with_reducible exact keep3 d0 d1 d2 (hid_dr wb) | (go_split_ands; with_reducible refine keep3 d0 d1 d2 (hid_more ?_ hap); with_reducible assumption) | (go_split_ands; with_reducible refine keep3 d0 d1 d2 ?_; with_reducible assumption))
            (first | (go_at_call 54; refine (svr_any _ _).mono ?_; rw [HOKT.out]; rintro e w' ⟨rfl, rfl⟩) | (go_at_call 55; refine (slabof_any _ HZ.out _).mono ?_; rintro e w' ⟨rfl, hap⟩))
          all_goals
            have HGW := Lib.hid (grown_trans HX1.out.2 (grown_trans (hid_dr wb).out hap))
            go_split_ands
            clear hap
            go_wp2_with fail
            go_ret2
            exact rt_err (all_bad HL.out (fun h => by have := (HOK.out.1 h).2; omega)) HGW.out
    · obtain rfl : k = ls.length := by omega
      have hrow : Row wr w.heap.size 3 ((rts ls).map iv) := by
        have := HX.out.1
        unfold rtZ at this
        rw [List.take_length, Nat.sub_self] at this
        simpa using this
      have hlen : (rts ls).length = ls.length := by unfold rts; rw [List.length_map]
      have hall : ls.all okL = true := by
        rw [List.all_eq_true]
        have := HA.out
        rwa [List.take_length] at this
      have hRd : Rd wr (w.heap.size ≤ ·) (.slice (some ⟨w.heap.size, 0, none⟩) (rts ls).length (rts ls).length) ((rts ls).map iv) :=
        ⟨_, _, by rw [List.length_map], fun _ => ⟨w.heap.size, 0, rfl, Nat.le_refl _, fun i x hi => by rw [Nat.zero_add]; exact hrow.cell hi⟩⟩
      have C := salld_any (rts ls) _ _ (Nat.le_refl _) (by omega) _ wr hRd
      have hrt : rtV ls = if rep (rts ls) then ([], 5) else (rts ls, 0) := by unfold rtV; rw [if_pos hall]
      have HRT := Lib.hid hrt
      have HRD := Lib.hid hRd
      have HLN := Lib.hid hlen
      rw [hlen] at C
      clear hrow hall hRd hrt hlen
      go_wp2_with fail
      refine C.mono ?_
      clear C
      rintro e w' ⟨rfl, rfl⟩
      cases hr : rep (rts ls)
      · have e : rtV ls = (rts ls, 0) := by rw [HRT.out, if_neg (by rw [hr]; decide)]
        have HE := Lib.hid e
        clear e hr
        go_wp2_with fail
        go_ret2
        refine ⟨some ⟨w.heap.size, 0, none⟩, ls.length, ?_, ?_, ?_, by omega, by exact nofun, HX.out.2⟩
        · rw [HE.out]
          show Ending.returned (.tuple #[.slice (some ⟨w.heap.size, 0, none⟩) ls.length ls.length, .int .i64 0]) = .returned (.tuple #[.slice (some ⟨w.heap.size, 0, none⟩) (rts ls).length ls.length, .int .i64 0])
          rw [HLN.out]
        · rw [HE.out, ← HLN.out]
          exact HRD.out
        · rw [HE.out]
          exact Nat.le_of_eq HLN.out
      · have HE := Lib.hid (show rtV ls = ([], 5) by rw [HRT.out, if_pos hr])
        clear hr
        go_wp2_with fail
        go_ret2
        exact rt_err HE.out HX.out.2
end Go.Proofs.YtpabfjhjehjebaaDoor

/- stack: DecodeLabels. -/
namespace Go.Proofs.YtpabfjhjehjebaaDoor
open Go.RowKit Bs
/-- What DecodeLabels returns: the labels lie in memory of the call's own. -/
def DLPost (b : List Nat) (w : World) (e : Ending) (w' : World) : Prop :=
  ∃ v, e = .returned (.tuple #[v, .int .i64 ((4 * (decM b).1 : Nat) : Int), .int .i64 (decM b).2]) ∧ OwnL w' w.heap.size v (labsN b (decM b).1) ∧ w.grownBy w' none
set_option maxRecDepth 100000 in
theorem dl_err {b : List Nat} {w w' : World} {e : Int} (h : decM b = (0, e)) (g : w.grownBy w' none) : DLPost b w (.returned (.tuple #[.slice none 0 0, .int .i64 0, .int .i64 e])) w' := by
  refine ⟨.slice none 0 0, ?_, ?_, g⟩
  · rw [h]; rfl
  · rw [h]; exact World.ownsRow_nil _ _ _ _
set_option maxRecDepth 100000 in
theorem dl_step {b : List Nat} {w wr w1 : World} {k : Nat} {v v' : Value} {o : Obj} {l : Lab} (g : w.grownBy wr none) (h : OwnL wr w.heap.size v (labsN b k)) (hl : l = labN (word4 b k)) (ha : (wr.alloc o).grownBy w1 v.ownBlock)
    (hown : w1.ownsRow w.heap.size 55 3 v' ((labsN b k).length + 1) (labsC (labsN b k) ++ [.int .i64 l.v, .int .i64 l.c, .int .i64 l.h])) : OwnL w1 w.heap.size v' (labsN b (k + 1)) ∧ w.grownBy w1 none := by
  refine ⟨?_, own_step g h ha⟩
  show w1.ownsRow w.heap.size 55 3 v' (labsN b (k + 1)).length (labsC (labsN b (k + 1)))
  rw [labsN_snoc, labsC_snoc, List.length_append, ← hl]
  exact hown
set_option maxRecDepth 100000 in
set_option maxHeartbeats 3200000 in
theorem sdecl_any (L : List Nat) (hL : By L) (p : Option Addr) (c : Nat) (hc : L.length ≤ c) (hcm : c ≤ 9223372036854775807) (q : Nat → Prop) (w : World) (hR : Rd w q (.slice p L.length c) (L.map nv)) :
    Calls Tryd.prog 28 #[.slice p L.length c] w fun e w' => DLPost L w e w' := by
  obtain ⟨i0, hi, hz0, hz1, hz2⟩ := info_parts info_lab
  have HR := Lib.hid hR
  have HL := Lib.hid hL
  have HC := Lib.hid (And.intro hc hcm)
  clear hR hL hc hcm
  have HM : Hid (decM L = decGo L 24 0) := Lib.hid rfl
  go_enter Tryd.func28, Tryd.ntmps28
  go_wp2_with fail
  go_loopw [5, 6] (fun v a wr => ∃ k : Nat, k ≤ 24 ∧ a = .int .i64 ((4 * k : Nat) : Int) ∧ OwnL wr w.heap.size v (labsN L k) ∧ w.grownBy wr none ∧ decM L = decGo L (24 - k) k ∧ ∃ p2 c2, v = .slice p2 k c2) (fun _ a _ => 24 - (intOf a).toNat / 4)
  case atStart => exact ⟨0, by omega, rfl, World.ownsRow_nil _ _ _ _, grown_refl _ _, HM.out, none, 0, rfl⟩
  case round =>
    obtain ⟨k, hk, rfl, hO, hG, hM, p2, c2, rfl⟩ := hrel
    have HO := Lib.hid hO
    have HG := Lib.hid hG
    have HM2 := Lib.hid hM
    clear hO hG hM HM
    by_cases h24 : k < 24
    · by_cases hs : L.length < 4 * k + 4
      · go_wp2_with fail
        go_ret3
        exact dl_err (by rw [HM2.out, show 24 - k = (23 - k) + 1 by omega, decGo, if_pos hs]) HG.out
      · obtain ⟨b, off, rfl, hb, _⟩ := rd_cells HR.out (by omega)
        have hle : 4 * k ≤ L.length := by omega
        have hlc := HC.out.1
        have hlm := Nat.le_trans HC.out.1 HC.out.2
        go_wp2_with fail
        have C := rdlab_any (L.drop (4 * k)) (HL.out.drop _) (by rw [List.length_drop]; omega) q (some ⟨b, off + 4 * k, none⟩) (c - 4 * k) wr (rd_drop (HR.out.keep HG.out) _ _)
        rw [List.length_drop, word4_drop] at C
        refine C.mono ?_
        clear C
        rintro e w1 ⟨rfl, hg1⟩
        obtain ⟨l, hl⟩ : ∃ l, labN (word4 L k) = l := ⟨_, rfl⟩
        obtain ⟨z, hz⟩ : ∃ z, botN (word4 L k) = z := ⟨_, rfl⟩
        rw [hl, hz]
        have HO1 : Hid (OwnL w1 w.heap.size (.slice p2 k c2) (labsN L k)) := Lib.hid (HO.out.kept hg1 (by cases hv : (Value.slice p2 k c2).ownBlock <;> simp))
        have HG1 := Lib.hid (grown_trans HG.out hg1)
        have HLZ := Lib.hid (And.intro hl hz)
        clear hg1 hl hz HO HG
        go_wp2_with (at_builtin; refine wpList_append_own _ rfl _ _ 53 rfl w.heap.size 55 i0 (.agg #[.int .i64 0, .int .i64 0, .int .i64 0]) 3 24 Tryd.underlying53 hi hz0 hz1 hz2 rfl (by decide) (.slice p2 k c2) (labsN L k).length (labsC (labsN L k)) rfl ((HO1.out.alloc _).alloc _) ⟨w1.heap.size + 1, 0, none⟩ 1 1 [.int .i64 l.v, .int .i64 l.c, .int .i64 l.h] rfl rfl ?c1 ?c2 ?c3 ?c4 ?c5 ?_)
        case c1 => rw [← show (w1.alloc (.cells #[.int .i64 l.v, .int .i64 l.c, .int .i64 l.h] 55)).heap.size = w1.heap.size + 1 by simp]; exact cells3 _ _ _ _ _
        case c2 => intro u hu; simp at hu; rcases hu with rfl | rfl | rfl <;> rfl
        case c3 => rw [labsN_len]; unfold maxLen; omega
        case c4 => rw [labsN_len]; omega
        case c5 => have := HG1.out.size; simp; omega
        intro v' w2 hown2 hg2 _
        obtain ⟨O2, G2⟩ := dl_step (grown_trans HG1.out (World.grownBy_alloc w1 _ _)) (HO1.out.alloc _) HLZ.out.1.symm hg2 hown2
        have HO2 := Lib.hid O2
        have HG2 := Lib.hid G2
        have hzz := HLZ.out.2
        clear hown2 hg2 O2 G2 HO1 HG1
        have hM : decM L = if z = true then (k + 1, 0) else decGo L (23 - k) (k + 1) := by
          rw [HM2.out, show 24 - k = (23 - k) + 1 by omega, decGo, if_neg hs, hzz]
        have HM3 := Lib.hid hM
        clear hM hzz HLZ HM2
        cases z
        · go_wp2_with fail
          obtain ⟨g, cap, hv⟩ := Joins.ownsRow_form HO2.out (by rw [labsN_len]; omega)
          rw [labsN_len] at hv
          refine ⟨⟨k + 1, by omega, congrArg _ (by omega), HO2.out, HG2.out, by rw [HM3.out, if_neg (by decide), show 24 - (k + 1) = 23 - k by omega], _, _, hv⟩, ?_⟩
          simp only [intOf]
          omega
        · go_wp2_with fail
          go_ret3
          have e : decM L = (k + 1, 0) := by have := HM3.out; simpa using this
          have e2 : 4 * (k : Int) + 4 = ((4 * (k + 1) : Nat) : Int) := by omega
          refine ⟨v', ?_, ?_, HG2.out⟩
          · show Ending.returned (.tuple #[v', .int .i64 (4 * (k : Int) + 4), .int .i64 0]) = _
            rw [e2, e]
          · rw [e]
            exact HO2.out
    · have hk24 : k = 24 := by omega
      subst hk24
      go_wp2_with fail
      go_ret3
      exact dl_err (by rw [HM2.out]; rfl) HG.out
end Go.Proofs.YtpabfjhjehjebaaDoor

/- stack: ValidFrame. -/
namespace Go.Proofs.YtpabfjhjehjebaaDoor
open Go.RowKit Bs
/-- A frame's cells. -/
def frcells (v : Value) (P : Pk) : Array Value := #[v, .int .i64 P.mode, .int .i64 P.sub, .int .i64 P.set, .int .i64 P.len, .int .i64 P.ttl, .int .i64 P.ent, .int .i64 P.ing, .int .i64 P.pro, .int .u64 (P.bits : Int), .string P.pay]
set_option maxRecDepth 100000 in
theorem fr_facts {w : World} {b : Nat} {v : Value} {P : Pk} (h : w.heap[b]? = some (.cells (frcells v P) 33 (0, 0))) :
    w.cell? ⟨b, 0, none⟩ = some v ∧ w.cell? ⟨b, 1, none⟩ = some (.int .i64 P.mode) ∧ w.cell? ⟨b, 2, none⟩ = some (.int .i64 P.sub) ∧ w.cell? ⟨b, 3, none⟩ = some (.int .i64 P.set) ∧ w.cell? ⟨b, 4, none⟩ = some (.int .i64 P.len) ∧ w.cell? ⟨b, 5, none⟩ = some (.int .i64 P.ttl) ∧ w.cell? ⟨b, 6, none⟩ = some (.int .i64 P.ent) ∧ w.cell? ⟨b, 7, none⟩ = some (.int .i64 P.ing) ∧ w.cell? ⟨b, 8, none⟩ = some (.int .i64 P.pro) ∧ w.cell? ⟨b, 9, none⟩ = some (.int .u64 (P.bits : Int)) ∧ w.cell? ⟨b, 10, none⟩ = some (.string P.pay) :=
  ⟨cell_of_row _ _ _ _ _ _ h, cell_of_row _ _ _ _ _ _ h, cell_of_row _ _ _ _ _ _ h, cell_of_row _ _ _ _ _ _ h, cell_of_row _ _ _ _ _ _ h, cell_of_row _ _ _ _ _ _ h, cell_of_row _ _ _ _ _ _ h, cell_of_row _ _ _ _ _ _ h, cell_of_row _ _ _ _ _ _ h, cell_of_row _ _ _ _ _ _ h, cell_of_row _ _ _ _ _ _ h⟩
/-- A frame as a value. -/
def fval (v : Value) (P : Pk) : Value := .agg #[v, .int .i64 P.mode, .int .i64 P.sub, .int .i64 P.set, .int .i64 P.len, .int .i64 P.ttl, .int .i64 P.ent, .int .i64 P.ing, .int .i64 P.pro, .int .u64 (P.bits : Int), .string P.pay]
set_option maxHeartbeats 3200000 in
set_option maxRecDepth 100000 in
theorem svfr_any (r : List Int) (P : Pk) (hP : P.Wf) (p : Option Addr) (c : Nat) (hc0 : r.length ≤ c) (hcm : c ≤ 9223372036854775807) (q : Nat → Prop) (w : World) (hR : Rd w q (.slice p r.length c) (r.map iv)) :
    Calls Tryd.prog 38 #[fval (.slice p r.length c) P] w fun e w' => e = .returned (.bool (vfr r P)) ∧ w.grownBy w' none := by
  unfold fval
  obtain ⟨k1, k2⟩ := sone_box w (frcells (.slice p r.length c) P) 33
  obtain ⟨c0, c1, c2, c3, c4, c5, c6, c7, c8, c9, c10⟩ := fr_facts k1
  have HR := Lib.hid (hR.keep k2)
  have K := Lib.hid k2
  have hval : P.val = .agg #[.int .i64 P.mode, .int .i64 P.sub, .int .i64 P.set, .int .i64 P.len, .int .i64 P.ttl, .int .i64 P.ent, .int .i64 P.ing, .int .i64 P.pro, .int .u64 (P.bits : Int), .string P.pay] := rfl
  have HV := Lib.hid hval
  have HC := Lib.hid (And.intro hc0 hcm)
  clear k1 k2 hR hval hc0 hcm
  unfold frcells at *
  go_enter Tryd.func38, Tryd.ntmps38
  go_upto_region 1 with fail
  generalize w.alloc _ = wa at *
  by_cases h24 : r.length ≤ 24
  · cases ha : allR r
    · go_wp2_with (go_at_call 39; refine (sallv_any r p c q _ HR.out (by have := HC.out; omega)).mono ?_; rw [ha]; rintro e w' ⟨rfl, rfl⟩)
      go_ret
      exact ⟨by unfold vfr; rw [ha]; simp, K.out⟩
    · cases hr : rep r
      · go_wp2_with (first | (go_at_call 39; refine (sallv_any r p c q _ HR.out (by have := HC.out; omega)).mono ?_; rw [ha]; rintro e w' ⟨rfl, rfl⟩) | (go_at_call 41; go_loud (refine (salld_any r p c HC.out.1 HC.out.2 q _ HR.out).mono ?_; rw [hr]; rintro e w' ⟨rfl, rfl⟩)) | (go_at_call 71; go_loud (rw [← HV.out]; refine (pvalid_any P hP _).mono ?_; rintro e w' ⟨rfl, hg⟩; have G := Lib.hid hg; clear hg)))
        go_ret
        refine ⟨?_, grown_trans K.out G.out⟩
        have : vfr r P = vpk P := by unfold vfr; rw [ha, hr, decide_eq_true h24]; simp
        rw [this]; rfl
      · go_wp2_with (first | (go_at_call 39; refine (sallv_any r p c q _ HR.out (by have := HC.out; omega)).mono ?_; rw [ha]; rintro e w' ⟨rfl, rfl⟩) | (go_at_call 41; go_loud (refine (salld_any r p c HC.out.1 HC.out.2 q _ HR.out).mono ?_; rw [hr]; rintro e w' ⟨rfl, rfl⟩)))
        go_ret
        exact ⟨by unfold vfr; rw [ha, hr]; simp, K.out⟩
  · go_wp2_with fail
    go_ret
    exact ⟨by unfold vfr; rw [decide_eq_false h24]; rfl, K.out⟩
end Go.Proofs.YtpabfjhjehjebaaDoor

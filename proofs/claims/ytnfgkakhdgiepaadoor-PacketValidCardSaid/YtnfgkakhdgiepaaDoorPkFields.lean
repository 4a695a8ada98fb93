/- packet: the table of the fields. -/
import Derived.Test.YtnfgkakhdgiepaaDoorPkBits
namespace Go.Proofs.YtnfgkakhdgiepaaDoor
open Go.RowKit Bs
def fcells (h : Nat) : Array Value := #[.pointer (some ⟨h, 0, none⟩), .int .i64 2, .pointer (some ⟨h, 1, none⟩), .int .i64 2, .pointer (some ⟨h, 2, none⟩), .int .i64 3, .pointer (some ⟨h, 3, none⟩), .int .i64 5, .pointer (some ⟨h, 11, none⟩), .int .i64 2,
  .pointer (some ⟨h, 5, none⟩), .int .i64 6, .pointer (some ⟨h, 6, none⟩), .int .i64 10, .pointer (some ⟨h, 7, none⟩), .int .i64 9, .pointer (some ⟨h, 8, none⟩), .int .i64 3, .pointer (some ⟨h, 12, none⟩), .int .i64 7]
def FieldsPost (h : Nat) (w : World) (e : Ending) (w' : World) : Prop :=
  ∃ g, e = .returned (.slice (some ⟨g, 0, none⟩) 10 10) ∧ w'.heap[g]? = some (.cells (fcells h) 124 (0, 0)) ∧ w.heap.size ≤ g ∧ w.grownBy w' none
set_option maxRecDepth 100000 in
set_option maxHeartbeats 3200000 in
theorem fields_any (h : Nat) (w : World) :
    Calls Tryd.prog 109 #[.pointer (some ⟨h, 0, none⟩)] w fun e w' => FieldsPost h w e w' := by
  go_enter Tryd.func109, Tryd.ntmps109
  go_wp2_with fail
  go_region
  all_goals
    go_wp2_with fail
    go_ret
    exact ⟨w.heap.size, rfl, heap_alloc_new w _, Nat.le_refl _, grown_drew (World.grownBy_alloc w _ none)⟩
def hcells (P : Pk) : Array Value := #[.int .i64 2, .int .i64 P.mode, .int .i64 P.sub, .int .i64 P.set, .int .i64 P.len, .int .i64 P.ttl, .int .i64 P.ent, .int .i64 P.ing, .int .i64 P.pro, .int .u64 (P.bits : Int), .string P.pay, .int .i64 (lcode P.len : Int), .int .i64 (P.pay.size : Int)]
set_option maxRecDepth 100000 in
theorem fst_code {n : Int} (h : vl n = true) : fst (n.toNat / 8) = (lcode n : Int) := by
  rcases vl_cases h with rfl | rfl | rfl | rfl <;> decide
set_option maxRecDepth 100000 in
theorem vpk_parts {P : Pk} (h : vpk P = true) : ((1 ≤ P.mode ∧ P.mode ≤ 3) ∧ (0 ≤ P.sub ∧ P.sub ≤ 7) ∧ (0 ≤ P.set ∧ P.set ≤ 31) ∧ (0 ≤ P.ttl ∧ P.ttl ≤ 63) ∧ (0 ≤ P.ent ∧ P.ent ≤ 1023) ∧ (0 ≤ P.ing ∧ P.ing ≤ 256) ∧ (0 ≤ P.pro ∧ P.pro ≤ 7) ∧ P.pay.size ≤ 64 ∧ vb P.bits P.len = true) := of_decide_eq_true h
set_option maxRecDepth 100000 in
theorem vb_vl {b : Nat} {n : Int} (h : vb b n = true) : vl n = true := by
  unfold vb at h
  exact (Bool.and_eq_true _ _ ▸ h).1
set_option maxRecDepth 100000 in
theorem lcode_lt (n : Int) : lcode n < 4 := by
  unfold lcode
  split
  · decide
  · split
    · decide
    · split <;> decide
set_option maxRecDepth 100000 in
/-- What stands in the table of the fields. -/
theorem field_at {P : Pk} (h : vpk P = true) (hb : Nat) (k : Nat) (hk : k < 10) : ∃ o wd x : Nat, (fcells hb)[k * 2]? = some (.pointer (some ⟨hb, o, none⟩)) ∧ (fcells hb)[k * 2 + 1]? = some (.int .i64 (wd : Int)) ∧ (hcells P)[o]? = some (.int .i64 (x : Int)) ∧ x < 2 ^ wd ∧ wd ≤ 10 ∧ (fl P)[k]? = some (x, wd) := by
  obtain ⟨⟨m1, m2⟩, ⟨s1, s2⟩, ⟨e1, e2⟩, ⟨t1, t2⟩, ⟨n1, n2⟩, ⟨i1, i2⟩, ⟨p1, p2⟩, y1, v1⟩ := vpk_parts h
  have hl := lcode_lt P.len
  rcases (show k = 0 ∨ k = 1 ∨ k = 2 ∨ k = 3 ∨ k = 4 ∨ k = 5 ∨ k = 6 ∨ k = 7 ∨ k = 8 ∨ k = 9 by omega) with rfl | rfl | rfl | rfl | rfl | rfl | rfl | rfl | rfl | rfl
  · exact ⟨0, 2, 2, rfl, rfl, rfl, by decide, by decide, rfl⟩
  · exact ⟨1, 2, P.mode.toNat, rfl, rfl, by rw [Int.toNat_of_nonneg (by omega)]; rfl, by omega, by decide, rfl⟩
  · exact ⟨2, 3, P.sub.toNat, rfl, rfl, by rw [Int.toNat_of_nonneg (by omega)]; rfl, by omega, by decide, rfl⟩
  · exact ⟨3, 5, P.set.toNat, rfl, rfl, by rw [Int.toNat_of_nonneg (by omega)]; rfl, by omega, by decide, rfl⟩
  · exact ⟨11, 2, lcode P.len, rfl, rfl, rfl, by omega, by decide, rfl⟩
  · exact ⟨5, 6, P.ttl.toNat, rfl, rfl, by rw [Int.toNat_of_nonneg (by omega)]; rfl, by omega, by decide, rfl⟩
  · exact ⟨6, 10, P.ent.toNat, rfl, rfl, by rw [Int.toNat_of_nonneg (by omega)]; rfl, by omega, by decide, rfl⟩
  · exact ⟨7, 9, P.ing.toNat, rfl, rfl, by rw [Int.toNat_of_nonneg (by omega)]; rfl, by omega, by decide, rfl⟩
  · exact ⟨8, 3, P.pro.toNat, rfl, rfl, by rw [Int.toNat_of_nonneg (by omega)]; rfl, by omega, by decide, rfl⟩
  · exact ⟨12, 7, P.pay.size, rfl, rfl, rfl, by omega, by decide, rfl⟩
set_option maxRecDepth 100000 in
theorem flb_snoc {f : List (Nat × Nat)} {k x wd : Nat} (h : f[k]? = some (x, wd)) : flb (f.take (k + 1)) = flb (f.take k) ++ nb x wd := by
  unfold flb
  rw [List.take_add_one, h, List.flatMap_append]
  simp
set_option maxRecDepth 100000 in
theorem flb_take_le (P : Pk) (k : Nat) : (flb ((fl P).take k)).length ≤ 49 := by
  have h := hdr_len P
  have e : fl P = (fl P).take k ++ (fl P).drop k := (List.take_append_drop _ _).symm
  have e2 : flb (fl P) = flb ((fl P).take k) ++ flb ((fl P).drop k) := by
    unfold flb
    rw [← List.flatMap_append, List.take_append_drop]
  rw [e2, List.length_append] at h
  omega
end Go.Proofs.YtnfgkakhdgiepaaDoor

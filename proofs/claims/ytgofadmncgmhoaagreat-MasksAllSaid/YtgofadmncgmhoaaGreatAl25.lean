/- Parts of the proof, packed: MaAlLaw. -/
import Derived.Test.YtgofadmncgmhoaaGreatAl24
import Derived.Test.YtgofadmncgmhoaaGreatAl22
import Derived.Test.YtgofadmncgmhoaaGreatAl5
import Derived.Laws.StructEq
/- masks: the law of All, Local and Reach. -/
namespace Go.Proofs.YtgofadmncgmhoaaGreat
open Go.RowKit Bs
def q2 (x : Int × Int) : List Value := [.int .i64 x.1, .int .i64 x.2]
set_option maxRecDepth 100000 in
theorem neq_md (x : Int) (b : Nat) (w : World) : (binOp .neq 90 (.agg #[.int .i64 x, .int .u64 (b : Int)]) (.agg #[.int .i64 x, .int .u64 (b : Int)])).run Tryz.prog w = .ok (.bool false) w := by
  go_simp
set_option maxRecDepth 100000 in
theorem md_atA {w : World} {base : Nat} {f : Int → Option Nat} {ts : List Int} {p : Option Addr} {c i : Nat} {u : Int} (h : w.ownsRow base 90 2 (.slice p (mdL f ts).length c) (mdL f ts).length ((mdL f ts).flatMap mdC)) (hu : ts[i]? = some u) :
    ∃ g, p = some ⟨g, 0, none⟩ ∧ w.cell? ⟨g, i * 2, none⟩ = some (.int .i64 u) ∧ w.cell? ⟨g, i * 2 + 1, none⟩ = some (.int .u64 (((f u).getD 0 : Nat) : Int)) := by
  have hi : i < ts.length := (List.getElem?_eq_some_iff.1 hu).1
  obtain ⟨-, b, off, hp, -, hc⟩ := RdF.cells (f := mdC) (k := 2) (fun _ => rfl) (by decide) (rdf_of_own h) (by rw [mdL_len]; omega)
  obtain ⟨g, hg⟩ := own_p3 h (by rw [mdL_len]; omega)
  rw [hg] at hp
  injection hp with hp
  injection hp with e1 e2
  subst e1
  subst e2
  have hm : (mdL f ts)[i]? = some ⟨u, (f u).getD 0⟩ := by unfold mdL; rw [List.getElem?_map, hu]; rfl
  have h0 := hc i _ hm 0 _ rfl
  have h1 := hc i _ hm 1 _ rfl
  simp only [Nat.zero_add] at h0 h1
  exact ⟨g, hg, h0, h1⟩
set_option maxRecDepth 100000 in
set_option maxHeartbeats 12800000 in
theorem all_walk (v : Value) (i0 i1 : Int) (w : World) (hv : IntsIn w v) :
    Calls Tryz.prog 11 #[v, .int .i64 i0, .int .i64 i1] w fun e w' => e = .returned (.bool true) ∧ w.grownBy w' none := by
  have HV := Lib.hid hv
  clear hv
  go_enter Tryz.func11, Tryz.ntmps11
  go_wp2_with fail
  refine (new_any v w HV.out).mono ?_
  rintro e w1 ⟨rfl, hg1, hT1⟩
  have H1 := Lib.hid (And.intro hg1 hT1)
  clear hg1 hT1 HV
  obtain ⟨a, ha⟩ : ∃ a, w.heap.size = a := ⟨_, rfl⟩
  have HA := Lib.hid ha
  rw [ha] at H1 ⊢
  clear ha
  go_wp2_with fail
  refine (ttab1_any a 4 (by omega) (by unfold I64; omega) _ H1.out.2).mono ?_
  rintro e w2 ⟨r, s, n, L, p, c, rfl, hR, -, hc, hN, hri, hl, hln, hs⟩
  have HNN := Lib.hid hN
  have HRI := Lib.hid hri
  have HLN := Lib.hid hln
  have K3 := Lib.hid (bz_start (r := r) (s := s) (n := n) hR H1.out.2.lt (by rw [HA.out]; exact Nat.le_refl _) hs.2.lt (grown_new H1.out.1 hs.1 (by rw [HA.out]; exact Nat.le_refl _)) hs.2)
  clear hR hc hN hri hln hs H1 HA
  go_upto_region 3 with fail
  generalize w2.alloc _ = wb at *
  generalize w2.heap.size = B at *
  go_wp2_with fail
  refine (range_any a (0) (7) (by omega) (by omega) (by omega) (by omega) _ K3.out.tp).mono ?_
  rintro e w10 ⟨x10, rfl, -, hs⟩
  have KR0 := Lib.hid (K3.out.tape hs)
  clear hs K3
  go_wp2_with fail
  refine (range_any a (-1) (8) (by omega) (by omega) (by omega) (by omega) _ KR0.out.tp).mono ?_
  rintro e w11 ⟨x11, rfl, -, hs⟩
  have KR1 := Lib.hid (KR0.out.tape hs)
  clear hs KR0
  go_wp2_with fail
  refine (range_any a (-1) (2) (by omega) (by omega) (by omega) (by omega) _ KR1.out.tp).mono ?_
  rintro e w12 ⟨x12, rfl, -, hs⟩
  have KR2 := Lib.hid (KR1.out.tape hs)
  clear hs KR1
  have g9 := World.grownBy_alloc w12 (.cells #[.int .i64 i0, .int .i64 i1, .int .i64 x10, .int .i64 0, .int .i64 x11, .int .i64 x12] 85) none
  obtain ⟨X, hX⟩ : ∃ X : List (Int × Int), [(i0, i1), (x10, 0), (x11, x12)] = X := ⟨_, rfl⟩
  have HXL : Hid (X.length = 3) := Lib.hid (by rw [← hX]; rfl)
  have K9 : Hid (BZ a w B r s n p c L (w12.alloc (.cells #[.int .i64 i0, .int .i64 i1, .int .i64 x10, .int .i64 0, .int .i64 x11, .int .i64 x12] 85)) ∧ (w12.alloc (.cells #[.int .i64 i0, .int .i64 i1, .int .i64 x10, .int .i64 0, .int .i64 x11, .int .i64 x12] 85)).heap[w12.heap.size]? = some (Obj.cells (X.flatMap q2).toArray 85 (0, 0))) := Lib.hid ⟨KR2.out.keep g9, by rw [← hX]; exact heap_alloc_new w12 _⟩
  clear g9 hX KR2
  go_upto_region 4 with fail
  generalize w12.alloc _ = w18 at *
  generalize w12.heap.size = D at *
  go_wp2_with fail
  go_loopw [10] (fun i wr => ∃ k : Nat, k ≤ 3 ∧ i = .int .i64 (k : Int) ∧ Hid (BZ a w B r s n p c L wr ∧ wr.heap[D]? = some (Obj.cells (X.flatMap q2).toArray 85 (0, 0)))) (fun i _ => 3 - (RowKit.intOf i).toNat)
  case atStart => exact ⟨0, Nat.zero_le _, rfl, K9⟩
  case round =>
  clear K9
  obtain ⟨i, hi, rfl, K⟩ := hrel
  obtain ⟨w19, hw19⟩ : ∃ w19, w19 = wr := ⟨_, rfl⟩
  rw [← hw19] at K ⊢
  clear hw19
  by_cases hi3 : i < 3
  case neg =>
    obtain rfl : i = 3 := by omega
    have hn3 : ¬ ((3 : Nat) : Int) < 3 := by omega
    go_wp2_with fail
    refine (mawake_any w19).mono ?_
    rintro e w20 ⟨rfl, hg⟩
    have G := Lib.hid (grown_trans K.out.1.gr hg)
    clear hg K
    go_wp2_with fail
    go_ret
    exact ⟨rfl, G.out⟩
  have hi3' : (i : Int) < 3 := by omega
  have hi0 : (0 : Int) ≤ (i : Int) := by omega
  obtain ⟨q, hq⟩ : ∃ q, X[i]? = some q := ⟨_, List.getElem?_eq_getElem (by rw [HXL.out]; exact hi3)⟩
  have e0 := cells_list (f := q2) (k := 2) (fun _ => rfl) K.out.2 hq (j := 0) rfl
  have e1 := cells_list (f := q2) (k := 2) (fun _ => rfl) K.out.2 hq (j := 1) rfl
  rw [Nat.add_zero] at e0
  obtain ⟨y0, y1⟩ := q
  simp only at e0 e1
  clear hq
  go_upto_region 7 with fail
  refine wp_region_held_drew (S := fun w' => Hid (w19.grownBy w' none)) (by kernel_rfl) (Lib.hid (grown_drew (grown_refl _ none))) (fun hHeld => ?_)
  refine wpAnyH_take (i := 0) (oi := { dst := some 34, op := Op.load 25 (Operand.tmp 8), type := 25, pos := "law.go:42", after := #[], guard := none }) (v := ?_) rfl (by kernel_rfl) (by kernel_rfl) (by kernel_rfl) (fun _ _ _ h => h) (Or.inl ⟨by rfl, ?_⟩) hHeld ?_
  rotate_left 1
  · intro u hSu
    obtain ⟨d0u, d1u, d2u, d3u⟩ := row4T (K.out.1.keep hSu.out).bx
    have e0u := hSu.out.cell e0 (by simp)
    have e1u := hSu.out.cell e1 (by simp)
    go_simp
    first | done | with_reducible rfl
  (try simp only [Act.put, List.setIfInBounds_toArray, List.set_cons_zero, List.set_cons_succ])
  refine wpAnyH_take (i := 1) (oi := { dst := some 35, op := Op.move (Operand.tmp 10), type := 3, pos := "law.go:42", after := #[], guard := none }) (v := ?_) rfl (by kernel_rfl) (by kernel_rfl) (by kernel_rfl) (fun _ _ _ h => h) (Or.inl ⟨by rfl, ?_⟩) hHeld ?_
  rotate_left 1
  · intro u hSu
    obtain ⟨d0u, d1u, d2u, d3u⟩ := row4T (K.out.1.keep hSu.out).bx
    have e0u := hSu.out.cell e0 (by simp)
    have e1u := hSu.out.cell e1 (by simp)
    go_simp
    first | done | with_reducible rfl
  (try simp only [Act.put, List.setIfInBounds_toArray, List.set_cons_zero, List.set_cons_succ])
  refine wpAnyH_take (i := 2) (oi := { dst := some 36, op := Op.indexAddr 85 (Operand.tmp 9) (Operand.tmp 35), type := 0, pos := "law.go:42", after := #[{ on := 1, ground := Ground.data }], guard := none }) (v := ?_) rfl (by kernel_rfl) (by kernel_rfl) (by kernel_rfl) (fun _ _ _ h => h) (Or.inl ⟨by rfl, ?_⟩) hHeld ?_
  rotate_left 1
  · intro u hSu
    obtain ⟨d0u, d1u, d2u, d3u⟩ := row4T (K.out.1.keep hSu.out).bx
    have e0u := hSu.out.cell e0 (by simp)
    have e1u := hSu.out.cell e1 (by simp)
    go_simp
    first | done | with_reducible rfl
  (try simp only [Act.put, List.setIfInBounds_toArray, List.set_cons_zero, List.set_cons_succ])
  refine wpAnyH_take (i := 3) (oi := { dst := some 37, op := Op.indexAddr 84 (Operand.tmp 36) (Operand.const (Value.int IntKind.i64 0)), type := 0, pos := "law.go:42", after := #[{ on := 2, ground := Ground.data }], guard := none }) (v := ?_) rfl (by kernel_rfl) (by kernel_rfl) (by kernel_rfl) (fun _ _ _ h => h) (Or.inl ⟨by rfl, ?_⟩) hHeld ?_
  rotate_left 1
  · intro u hSu
    obtain ⟨d0u, d1u, d2u, d3u⟩ := row4T (K.out.1.keep hSu.out).bx
    have e0u := hSu.out.cell e0 (by simp)
    have e1u := hSu.out.cell e1 (by simp)
    go_simp
    first | done | with_reducible rfl
  (try simp only [Act.put, List.setIfInBounds_toArray, List.set_cons_zero, List.set_cons_succ])
  refine wpAnyH_take (i := 4) (oi := { dst := some 38, op := Op.load 3 (Operand.tmp 37), type := 3, pos := "law.go:42", after := #[{ on := 3, ground := Ground.data }], guard := none }) (v := ?_) rfl (by kernel_rfl) (by kernel_rfl) (by kernel_rfl) (fun _ _ _ h => h) (Or.inl ⟨by rfl, ?_⟩) hHeld ?_
  rotate_left 1
  · intro u hSu
    obtain ⟨d0u, d1u, d2u, d3u⟩ := row4T (K.out.1.keep hSu.out).bx
    have e0u := hSu.out.cell e0 (by simp)
    have e1u := hSu.out.cell e1 (by simp)
    go_simp
    first | done | with_reducible rfl
  (try simp only [Act.put, List.setIfInBounds_toArray, List.set_cons_zero, List.set_cons_succ])
  refine wpAnyH_take (i := 5) (oi := { dst := some 39, op := Op.move (Operand.tmp 10), type := 3, pos := "law.go:42", after := #[], guard := none }) (v := ?_) rfl (by kernel_rfl) (by kernel_rfl) (by kernel_rfl) (fun _ _ _ h => h) (Or.inl ⟨by rfl, ?_⟩) hHeld ?_
  rotate_left 1
  · intro u hSu
    obtain ⟨d0u, d1u, d2u, d3u⟩ := row4T (K.out.1.keep hSu.out).bx
    have e0u := hSu.out.cell e0 (by simp)
    have e1u := hSu.out.cell e1 (by simp)
    go_simp
    first | done | with_reducible rfl
  (try simp only [Act.put, List.setIfInBounds_toArray, List.set_cons_zero, List.set_cons_succ])
  refine wpAnyH_take (i := 6) (oi := { dst := some 40, op := Op.indexAddr 85 (Operand.tmp 9) (Operand.tmp 39), type := 0, pos := "law.go:42", after := #[{ on := 5, ground := Ground.data }], guard := none }) (v := ?_) rfl (by kernel_rfl) (by kernel_rfl) (by kernel_rfl) (fun _ _ _ h => h) (Or.inl ⟨by rfl, ?_⟩) hHeld ?_
  rotate_left 1
  · intro u hSu
    obtain ⟨d0u, d1u, d2u, d3u⟩ := row4T (K.out.1.keep hSu.out).bx
    have e0u := hSu.out.cell e0 (by simp)
    have e1u := hSu.out.cell e1 (by simp)
    go_simp
    first | done | with_reducible rfl
  (try simp only [Act.put, List.setIfInBounds_toArray, List.set_cons_zero, List.set_cons_succ])
  refine wpAnyH_take (i := 7) (oi := { dst := some 41, op := Op.indexAddr 84 (Operand.tmp 40) (Operand.const (Value.int IntKind.i64 1)), type := 0, pos := "law.go:42", after := #[{ on := 6, ground := Ground.data }], guard := none }) (v := ?_) rfl (by kernel_rfl) (by kernel_rfl) (by kernel_rfl) (fun _ _ _ h => h) (Or.inl ⟨by rfl, ?_⟩) hHeld ?_
  rotate_left 1
  · intro u hSu
    obtain ⟨d0u, d1u, d2u, d3u⟩ := row4T (K.out.1.keep hSu.out).bx
    have e0u := hSu.out.cell e0 (by simp)
    have e1u := hSu.out.cell e1 (by simp)
    go_simp
    first | done | with_reducible rfl
  (try simp only [Act.put, List.setIfInBounds_toArray, List.set_cons_zero, List.set_cons_succ])
  refine wpAnyH_take (i := 8) (oi := { dst := some 42, op := Op.load 3 (Operand.tmp 41), type := 3, pos := "law.go:42", after := #[{ on := 7, ground := Ground.data }], guard := none }) (v := ?_) rfl (by kernel_rfl) (by kernel_rfl) (by kernel_rfl) (fun _ _ _ h => h) (Or.inl ⟨by rfl, ?_⟩) hHeld ?_
  rotate_left 1
  · intro u hSu
    obtain ⟨d0u, d1u, d2u, d3u⟩ := row4T (K.out.1.keep hSu.out).bx
    have e0u := hSu.out.cell e0 (by simp)
    have e1u := hSu.out.cell e1 (by simp)
    go_simp
    first | done | with_reducible rfl
  (try simp only [Act.put, List.setIfInBounds_toArray, List.set_cons_zero, List.set_cons_succ])
  refine wpAnyH_take (i := 10) (oi := { dst := some 44, op := Op.load 25 (Operand.tmp 8), type := 25, pos := "law.go:42", after := #[], guard := none }) (v := ?_) rfl (by kernel_rfl) (by kernel_rfl) (by kernel_rfl) (fun _ _ _ h => h) (Or.inl ⟨by rfl, ?_⟩) hHeld ?_
  rotate_left 1
  · intro u hSu
    obtain ⟨d0u, d1u, d2u, d3u⟩ := row4T (K.out.1.keep hSu.out).bx
    have e0u := hSu.out.cell e0 (by simp)
    have e1u := hSu.out.cell e1 (by simp)
    go_simp
    first | done | with_reducible rfl
  (try simp only [Act.put, List.setIfInBounds_toArray, List.set_cons_zero, List.set_cons_succ])
  refine wpAnyH_take (i := 11) (oi := { dst := some 45, op := Op.move (Operand.tmp 10), type := 3, pos := "law.go:42", after := #[], guard := none }) (v := ?_) rfl (by kernel_rfl) (by kernel_rfl) (by kernel_rfl) (fun _ _ _ h => h) (Or.inl ⟨by rfl, ?_⟩) hHeld ?_
  rotate_left 1
  · intro u hSu
    obtain ⟨d0u, d1u, d2u, d3u⟩ := row4T (K.out.1.keep hSu.out).bx
    have e0u := hSu.out.cell e0 (by simp)
    have e1u := hSu.out.cell e1 (by simp)
    go_simp
    first | done | with_reducible rfl
  (try simp only [Act.put, List.setIfInBounds_toArray, List.set_cons_zero, List.set_cons_succ])
  refine wpAnyH_take (i := 12) (oi := { dst := some 46, op := Op.indexAddr 85 (Operand.tmp 9) (Operand.tmp 45), type := 0, pos := "law.go:42", after := #[{ on := 11, ground := Ground.data }], guard := none }) (v := ?_) rfl (by kernel_rfl) (by kernel_rfl) (by kernel_rfl) (fun _ _ _ h => h) (Or.inl ⟨by rfl, ?_⟩) hHeld ?_
  rotate_left 1
  · intro u hSu
    obtain ⟨d0u, d1u, d2u, d3u⟩ := row4T (K.out.1.keep hSu.out).bx
    have e0u := hSu.out.cell e0 (by simp)
    have e1u := hSu.out.cell e1 (by simp)
    go_simp
    first | done | with_reducible rfl
  (try simp only [Act.put, List.setIfInBounds_toArray, List.set_cons_zero, List.set_cons_succ])
  refine wpAnyH_take (i := 13) (oi := { dst := some 47, op := Op.indexAddr 84 (Operand.tmp 46) (Operand.const (Value.int IntKind.i64 0)), type := 0, pos := "law.go:42", after := #[{ on := 12, ground := Ground.data }], guard := none }) (v := ?_) rfl (by kernel_rfl) (by kernel_rfl) (by kernel_rfl) (fun _ _ _ h => h) (Or.inl ⟨by rfl, ?_⟩) hHeld ?_
  rotate_left 1
  · intro u hSu
    obtain ⟨d0u, d1u, d2u, d3u⟩ := row4T (K.out.1.keep hSu.out).bx
    have e0u := hSu.out.cell e0 (by simp)
    have e1u := hSu.out.cell e1 (by simp)
    go_simp
    first | done | with_reducible rfl
  (try simp only [Act.put, List.setIfInBounds_toArray, List.set_cons_zero, List.set_cons_succ])
  refine wpAnyH_take (i := 14) (oi := { dst := some 48, op := Op.load 3 (Operand.tmp 47), type := 3, pos := "law.go:42", after := #[{ on := 13, ground := Ground.data }], guard := none }) (v := ?_) rfl (by kernel_rfl) (by kernel_rfl) (by kernel_rfl) (fun _ _ _ h => h) (Or.inl ⟨by rfl, ?_⟩) hHeld ?_
  rotate_left 1
  · intro u hSu
    obtain ⟨d0u, d1u, d2u, d3u⟩ := row4T (K.out.1.keep hSu.out).bx
    have e0u := hSu.out.cell e0 (by simp)
    have e1u := hSu.out.cell e1 (by simp)
    go_simp
    first | done | with_reducible rfl
  (try simp only [Act.put, List.setIfInBounds_toArray, List.set_cons_zero, List.set_cons_succ])
  refine wpAnyH_take (i := 15) (oi := { dst := some 49, op := Op.move (Operand.tmp 10), type := 3, pos := "law.go:42", after := #[], guard := none }) (v := ?_) rfl (by kernel_rfl) (by kernel_rfl) (by kernel_rfl) (fun _ _ _ h => h) (Or.inl ⟨by rfl, ?_⟩) hHeld ?_
  rotate_left 1
  · intro u hSu
    obtain ⟨d0u, d1u, d2u, d3u⟩ := row4T (K.out.1.keep hSu.out).bx
    have e0u := hSu.out.cell e0 (by simp)
    have e1u := hSu.out.cell e1 (by simp)
    go_simp
    first | done | with_reducible rfl
  (try simp only [Act.put, List.setIfInBounds_toArray, List.set_cons_zero, List.set_cons_succ])
  refine wpAnyH_take (i := 16) (oi := { dst := some 50, op := Op.indexAddr 85 (Operand.tmp 9) (Operand.tmp 49), type := 0, pos := "law.go:42", after := #[{ on := 15, ground := Ground.data }], guard := none }) (v := ?_) rfl (by kernel_rfl) (by kernel_rfl) (by kernel_rfl) (fun _ _ _ h => h) (Or.inl ⟨by rfl, ?_⟩) hHeld ?_
  rotate_left 1
  · intro u hSu
    obtain ⟨d0u, d1u, d2u, d3u⟩ := row4T (K.out.1.keep hSu.out).bx
    have e0u := hSu.out.cell e0 (by simp)
    have e1u := hSu.out.cell e1 (by simp)
    go_simp
    first | done | with_reducible rfl
  (try simp only [Act.put, List.setIfInBounds_toArray, List.set_cons_zero, List.set_cons_succ])
  refine wpAnyH_take (i := 17) (oi := { dst := some 51, op := Op.indexAddr 84 (Operand.tmp 50) (Operand.const (Value.int IntKind.i64 1)), type := 0, pos := "law.go:42", after := #[{ on := 16, ground := Ground.data }], guard := none }) (v := ?_) rfl (by kernel_rfl) (by kernel_rfl) (by kernel_rfl) (fun _ _ _ h => h) (Or.inl ⟨by rfl, ?_⟩) hHeld ?_
  rotate_left 1
  · intro u hSu
    obtain ⟨d0u, d1u, d2u, d3u⟩ := row4T (K.out.1.keep hSu.out).bx
    have e0u := hSu.out.cell e0 (by simp)
    have e1u := hSu.out.cell e1 (by simp)
    go_simp
    first | done | with_reducible rfl
  (try simp only [Act.put, List.setIfInBounds_toArray, List.set_cons_zero, List.set_cons_succ])
  refine wpAnyH_take (i := 18) (oi := { dst := some 52, op := Op.load 3 (Operand.tmp 51), type := 3, pos := "law.go:42", after := #[{ on := 17, ground := Ground.data }], guard := none }) (v := ?_) rfl (by kernel_rfl) (by kernel_rfl) (by kernel_rfl) (fun _ _ _ h => h) (Or.inl ⟨by rfl, ?_⟩) hHeld ?_
  rotate_left 1
  · intro u hSu
    obtain ⟨d0u, d1u, d2u, d3u⟩ := row4T (K.out.1.keep hSu.out).bx
    have e0u := hSu.out.cell e0 (by simp)
    have e1u := hSu.out.cell e1 (by simp)
    go_simp
    first | done | with_reducible rfl
  (try simp only [Act.put, List.setIfInBounds_toArray, List.set_cons_zero, List.set_cons_succ])
  refine wpAnyH_ready (rs := [9]) (by kernel_rfl) (by simp) ?_
  refine AllReadyH.cons (o := { dst := some 43, op := Op.call { callee := Callee.value (Operand.func 51), args := #[Operand.tmp 34, Operand.tmp 38, Operand.tmp 42], argTypes := #[25, 3, 3] }, type := 86, pos := "law.go:42", after := #[{ on := 0, ground := Ground.data }, { on := 4, ground := Ground.data }, { on := 8, ground := Ground.data }], guard := none }) rfl (fun Kz hK => ?_) AllReadyH.nil
  go_simp
  go_at_call 51
  refine (mall_any r s n p c L y0 y1 _ (K.out.1.keep hHeld.out).rd2 (by omega)).mono ?_
  rintro e' w20 ⟨ts, pm, cm, rfl, hA, hO, hg⟩
  have HAS := Lib.hid hA
  have HOa := Lib.hid hO
  have HN := Lib.hid (grown_trans hHeld.out hg)
  clear hA hO hg
  simp only
  refine hK.out _ _ (HN) (fun hH2 => ?_)
  clear hK Kz hHeld
  have hHeld := hH2
  clear hH2
  (try simp only [Act.put, List.setIfInBounds_toArray, List.set_cons_zero, List.set_cons_succ])
  refine wpAnyH_ready (rs := [19]) (by kernel_rfl) (by simp) ?_
  refine AllReadyH.cons (o := { dst := some 53, op := Op.call { callee := Callee.value (Operand.func 52), args := #[Operand.tmp 44, Operand.tmp 48, Operand.tmp 52], argTypes := #[25, 3, 3] }, type := 86, pos := "law.go:42", after := #[{ on := 10, ground := Ground.data }, { on := 14, ground := Ground.data }, { on := 18, ground := Ground.data }, { on := 9, ground := Ground.chain }], guard := none }) rfl (fun Kz hK => ?_) AllReadyH.nil
  go_simp
  go_at_call 52
  refine (rall12_any r s n p c L y0 y1 _ (K.out.1.keep hHeld.out).rd2 (by omega)).mono ?_
  rintro e' w21 ⟨ts2, pn, cn, rfl, hA, hO, hg⟩
  obtain rfl : ts = ts2 := asc_same HAS.out.asc hA.asc (fun x => (HAS.out.mem x).trans (hA.mem x).symm)
  have HO2 := Lib.hid hO
  have HO1 := Lib.hid (own_keptN HOa.out hg)
  have HN := Lib.hid (grown_trans hHeld.out hg)
  clear hA hO hg HOa
  simp only
  refine hK.out _ _ (HN) (fun hH2 => ?_)
  clear hK Kz hHeld
  have hHeld := hH2
  clear hH2
  (try simp only [Act.put, List.setIfInBounds_toArray, List.set_cons_zero, List.set_cons_succ])
  refine wpAnyH_take (i := 20) (oi := { dst := some 11, op := Op.assign (Operand.tmp 43), type := 86, pos := "law.go:42", after := #[{ on := 9, ground := Ground.data }, { on := 19, ground := Ground.chain }, { on := 0, ground := Ground.phase }, { on := 1, ground := Ground.phase }, { on := 2, ground := Ground.phase }, { on := 3, ground := Ground.phase }, { on := 4, ground := Ground.phase }, { on := 5, ground := Ground.phase }, { on := 6, ground := Ground.phase }, { on := 7, ground := Ground.phase }, { on := 8, ground := Ground.phase }, { on := 9, ground := Ground.phase }, { on := 10, ground := Ground.textOnly Departure.lateStores }, { on := 11, ground := Ground.textOnly Departure.lateStores }, { on := 12, ground := Ground.textOnly Departure.lateStores }, { on := 13, ground := Ground.textOnly Departure.lateStores }, { on := 14, ground := Ground.textOnly Departure.lateStores }, { on := 15, ground := Ground.textOnly Departure.lateStores }, { on := 16, ground := Ground.textOnly Departure.lateStores }, { on := 17, ground := Ground.textOnly Departure.lateStores }, { on := 18, ground := Ground.textOnly Departure.lateStores }, { on := 19, ground := Ground.textOnly Departure.lateStoresUnsure }], guard := none }) (v := ?_) rfl (by kernel_rfl) (by kernel_rfl) (by kernel_rfl) (fun _ _ _ h => h) (Or.inl ⟨by rfl, ?_⟩) hHeld ?_
  rotate_left 1
  · intro u hSu
    obtain ⟨d0u, d1u, d2u, d3u⟩ := row4T (K.out.1.keep hSu.out).bx
    have e0u := hSu.out.cell e0 (by simp)
    have e1u := hSu.out.cell e1 (by simp)
    go_simp
    first | done | with_reducible rfl
  (try simp only [Act.put, List.setIfInBounds_toArray, List.set_cons_zero, List.set_cons_succ])
  refine wpAnyH_take (i := 21) (oi := { dst := some 12, op := Op.assign (Operand.tmp 53), type := 86, pos := "law.go:42", after := #[{ on := 19, ground := Ground.data }, { on := 20, ground := Ground.chain }, { on := 0, ground := Ground.phase }, { on := 1, ground := Ground.phase }, { on := 2, ground := Ground.phase }, { on := 3, ground := Ground.phase }, { on := 4, ground := Ground.phase }, { on := 5, ground := Ground.phase }, { on := 6, ground := Ground.phase }, { on := 7, ground := Ground.phase }, { on := 8, ground := Ground.phase }, { on := 9, ground := Ground.phase }, { on := 10, ground := Ground.phase }, { on := 11, ground := Ground.phase }, { on := 12, ground := Ground.phase }, { on := 13, ground := Ground.phase }, { on := 14, ground := Ground.phase }, { on := 15, ground := Ground.phase }, { on := 16, ground := Ground.phase }, { on := 17, ground := Ground.phase }, { on := 18, ground := Ground.phase }, { on := 19, ground := Ground.phase }, { on := 20, ground := Ground.phase }], guard := none }) (v := ?_) rfl (by kernel_rfl) (by kernel_rfl) (by kernel_rfl) (fun _ _ _ h => h) (Or.inl ⟨by rfl, ?_⟩) hHeld ?_
  rotate_left 1
  · intro u hSu
    obtain ⟨d0u, d1u, d2u, d3u⟩ := row4T (K.out.1.keep hSu.out).bx
    have e0u := hSu.out.cell e0 (by simp)
    have e1u := hSu.out.cell e1 (by simp)
    go_simp
    first | done | with_reducible rfl
  (try simp only [Act.put, List.setIfInBounds_toArray, List.set_cons_zero, List.set_cons_succ])
  refine wpAnyH_done (by kernel_rfl) ?_ _
  have K21 := Lib.hid (And.intro (K.out.1.keep hHeld.out) (kept_row K.out.2 hHeld.out (by simp)))
  have E21 := Lib.hid (And.intro (hHeld.out.cell e0 (by simp)) (hHeld.out.cell e1 (by simp)))
  clear hHeld K e0 e1
  have hml := mdL_len (coF r s n L y0 y1) ts
  have hl99 := ascM_len HAS.out (coF_ok r s n L y0 y1)
  obtain ⟨f, hf⟩ : ∃ f, coF r s n L y0 y1 = f := ⟨_, rfl⟩
  rw [hf] at HO1 HO2 hml ⊢
  rw [hml]
  clear hf HAS
  go_upto_region 8 with fail
  obtain ⟨e0, e1⟩ := E21.out
  refine wp_region_held_drew (S := fun w' => Hid (w21.grownBy w' none)) (by kernel_rfl) (Lib.hid (grown_drew (grown_refl _ none))) (fun hHeld => ?_)
  refine wpAnyH_take (i := 0) (oi := { dst := some 54, op := Op.move (Operand.tmp 11), type := 86, pos := "law.go:43", after := #[], guard := none }) (v := ?_) rfl (by kernel_rfl) (by kernel_rfl) (by kernel_rfl) (fun _ _ _ h => h) (Or.inl ⟨by rfl, ?_⟩) hHeld ?_
  rotate_left 1
  · intro u hSu
    obtain ⟨d0u, d1u, d2u, d3u⟩ := row4T (K21.out.1.keep hSu.out).bx
    have e0u := hSu.out.cell e0 (by simp)
    have e1u := hSu.out.cell e1 (by simp)
    go_simp
    first | done | with_reducible rfl
  (try simp only [Act.put, List.setIfInBounds_toArray, List.set_cons_zero, List.set_cons_succ])
  refine wpAnyH_take (i := 1) (oi := { dst := some 55, op := Op.call { callee := Callee.builtin Builtin.len, args := #[Operand.tmp 54], argTypes := #[86] }, type := 3, pos := "law.go:43", after := #[{ on := 0, ground := Ground.data }], guard := none }) (v := ?_) rfl (by kernel_rfl) (by kernel_rfl) (by kernel_rfl) (fun _ _ _ h => h) (Or.inl ⟨by rfl, ?_⟩) hHeld ?_
  rotate_left 1
  · intro u hSu
    obtain ⟨d0u, d1u, d2u, d3u⟩ := row4T (K21.out.1.keep hSu.out).bx
    have e0u := hSu.out.cell e0 (by simp)
    have e1u := hSu.out.cell e1 (by simp)
    go_simp
    first | done | with_reducible rfl
  (try simp only [Act.put, List.setIfInBounds_toArray, List.set_cons_zero, List.set_cons_succ])
  refine wpAnyH_take (i := 2) (oi := { dst := some 56, op := Op.move (Operand.tmp 12), type := 86, pos := "law.go:43", after := #[], guard := none }) (v := ?_) rfl (by kernel_rfl) (by kernel_rfl) (by kernel_rfl) (fun _ _ _ h => h) (Or.inl ⟨by rfl, ?_⟩) hHeld ?_
  rotate_left 1
  · intro u hSu
    obtain ⟨d0u, d1u, d2u, d3u⟩ := row4T (K21.out.1.keep hSu.out).bx
    have e0u := hSu.out.cell e0 (by simp)
    have e1u := hSu.out.cell e1 (by simp)
    go_simp
    first | done | with_reducible rfl
  (try simp only [Act.put, List.setIfInBounds_toArray, List.set_cons_zero, List.set_cons_succ])
  refine wpAnyH_take (i := 3) (oi := { dst := some 57, op := Op.call { callee := Callee.builtin Builtin.len, args := #[Operand.tmp 56], argTypes := #[86] }, type := 3, pos := "law.go:43", after := #[{ on := 2, ground := Ground.data }], guard := none }) (v := ?_) rfl (by kernel_rfl) (by kernel_rfl) (by kernel_rfl) (fun _ _ _ h => h) (Or.inl ⟨by rfl, ?_⟩) hHeld ?_
  rotate_left 1
  · intro u hSu
    obtain ⟨d0u, d1u, d2u, d3u⟩ := row4T (K21.out.1.keep hSu.out).bx
    have e0u := hSu.out.cell e0 (by simp)
    have e1u := hSu.out.cell e1 (by simp)
    go_simp
    first | done | with_reducible rfl
  (try simp only [Act.put, List.setIfInBounds_toArray, List.set_cons_zero, List.set_cons_succ])
  refine wpAnyH_take (i := 4) (oi := { dst := some 58, op := Op.binOp BinOp.neq 3 (Operand.tmp 55) (Operand.tmp 57) 3, type := 4, pos := "law.go:43", after := #[{ on := 1, ground := Ground.data }, { on := 3, ground := Ground.data }], guard := none }) (v := .bool false) rfl (by kernel_rfl) (by kernel_rfl) (by kernel_rfl) (fun _ _ _ h => h) (Or.inl ⟨by rfl, ?_⟩) hHeld ?_
  · intro u hSu
    obtain ⟨d0u, d1u, d2u, d3u⟩ := row4T (K21.out.1.keep hSu.out).bx
    have e0u := hSu.out.cell e0 (by simp)
    have e1u := hSu.out.cell e1 (by simp)
    go_simp
    first | done | rfl | simp
  (try simp only [Act.put, List.setIfInBounds_toArray, List.set_cons_zero, List.set_cons_succ])
  refine wpAnyH_take (i := 5) (oi := { dst := some 59, op := Op.move (Operand.tmp 58), type := 4, pos := "law.go:43", after := #[{ on := 4, ground := Ground.data }], guard := none }) (v := .bool false) rfl (by kernel_rfl) (by kernel_rfl) (by kernel_rfl) (fun _ _ _ h => h) (Or.inl ⟨by rfl, ?_⟩) hHeld ?_
  · intro u hSu
    obtain ⟨d0u, d1u, d2u, d3u⟩ := row4T (K21.out.1.keep hSu.out).bx
    have e0u := hSu.out.cell e0 (by simp)
    have e1u := hSu.out.cell e1 (by simp)
    go_simp
    first | done | rfl | simp
  (try simp only [Act.put, List.setIfInBounds_toArray, List.set_cons_zero, List.set_cons_succ])
  refine wpAnyH_take (i := 6) (oi := { dst := some 60, op := Op.load 25 (Operand.tmp 8), type := 25, pos := "law.go:43", after := #[{ on := 5, ground := Ground.guard }], guard := some (5, false) }) (v := ?_) rfl (by kernel_rfl) (by kernel_rfl) (by kernel_rfl) (fun _ _ _ h => h) (Or.inl ⟨by rfl, ?_⟩) hHeld ?_
  rotate_left 1
  · intro u hSu
    obtain ⟨d0u, d1u, d2u, d3u⟩ := row4T (K21.out.1.keep hSu.out).bx
    have e0u := hSu.out.cell e0 (by simp)
    have e1u := hSu.out.cell e1 (by simp)
    go_simp
    first | done | with_reducible rfl
  (try simp only [Act.put, List.setIfInBounds_toArray, List.set_cons_zero, List.set_cons_succ])
  refine wpAnyH_take (i := 7) (oi := { dst := some 61, op := Op.move (Operand.tmp 10), type := 3, pos := "law.go:43", after := #[{ on := 5, ground := Ground.guard }], guard := some (5, false) }) (v := ?_) rfl (by kernel_rfl) (by kernel_rfl) (by kernel_rfl) (fun _ _ _ h => h) (Or.inl ⟨by rfl, ?_⟩) hHeld ?_
  rotate_left 1
  · intro u hSu
    obtain ⟨d0u, d1u, d2u, d3u⟩ := row4T (K21.out.1.keep hSu.out).bx
    have e0u := hSu.out.cell e0 (by simp)
    have e1u := hSu.out.cell e1 (by simp)
    go_simp
    first | done | with_reducible rfl
  (try simp only [Act.put, List.setIfInBounds_toArray, List.set_cons_zero, List.set_cons_succ])
  refine wpAnyH_take (i := 8) (oi := { dst := some 62, op := Op.indexAddr 85 (Operand.tmp 9) (Operand.tmp 61), type := 0, pos := "law.go:43", after := #[{ on := 7, ground := Ground.data }, { on := 5, ground := Ground.guard }], guard := some (5, false) }) (v := ?_) rfl (by kernel_rfl) (by kernel_rfl) (by kernel_rfl) (fun _ _ _ h => h) (Or.inl ⟨by rfl, ?_⟩) hHeld ?_
  rotate_left 1
  · intro u hSu
    obtain ⟨d0u, d1u, d2u, d3u⟩ := row4T (K21.out.1.keep hSu.out).bx
    have e0u := hSu.out.cell e0 (by simp)
    have e1u := hSu.out.cell e1 (by simp)
    go_simp
    first | done | with_reducible rfl
  (try simp only [Act.put, List.setIfInBounds_toArray, List.set_cons_zero, List.set_cons_succ])
  refine wpAnyH_take (i := 9) (oi := { dst := some 63, op := Op.indexAddr 84 (Operand.tmp 62) (Operand.const (Value.int IntKind.i64 1)), type := 0, pos := "law.go:43", after := #[{ on := 8, ground := Ground.data }, { on := 5, ground := Ground.guard }], guard := some (5, false) }) (v := ?_) rfl (by kernel_rfl) (by kernel_rfl) (by kernel_rfl) (fun _ _ _ h => h) (Or.inl ⟨by rfl, ?_⟩) hHeld ?_
  rotate_left 1
  · intro u hSu
    obtain ⟨d0u, d1u, d2u, d3u⟩ := row4T (K21.out.1.keep hSu.out).bx
    have e0u := hSu.out.cell e0 (by simp)
    have e1u := hSu.out.cell e1 (by simp)
    go_simp
    first | done | with_reducible rfl
  (try simp only [Act.put, List.setIfInBounds_toArray, List.set_cons_zero, List.set_cons_succ])
  refine wpAnyH_take (i := 10) (oi := { dst := some 64, op := Op.load 3 (Operand.tmp 63), type := 3, pos := "law.go:43", after := #[{ on := 9, ground := Ground.data }, { on := 5, ground := Ground.guard }], guard := some (5, false) }) (v := ?_) rfl (by kernel_rfl) (by kernel_rfl) (by kernel_rfl) (fun _ _ _ h => h) (Or.inl ⟨by rfl, ?_⟩) hHeld ?_
  rotate_left 1
  · intro u hSu
    obtain ⟨d0u, d1u, d2u, d3u⟩ := row4T (K21.out.1.keep hSu.out).bx
    have e0u := hSu.out.cell e0 (by simp)
    have e1u := hSu.out.cell e1 (by simp)
    go_simp
    first | done | with_reducible rfl
  (try simp only [Act.put, List.setIfInBounds_toArray, List.set_cons_zero, List.set_cons_succ])
  refine wpAnyH_take (i := 12) (oi := { dst := some 66, op := Op.load 25 (Operand.tmp 8), type := 25, pos := "law.go:43", after := #[{ on := 5, ground := Ground.guard }], guard := some (5, false) }) (v := ?_) rfl (by kernel_rfl) (by kernel_rfl) (by kernel_rfl) (fun _ _ _ h => h) (Or.inl ⟨by rfl, ?_⟩) hHeld ?_
  rotate_left 1
  · intro u hSu
    obtain ⟨d0u, d1u, d2u, d3u⟩ := row4T (K21.out.1.keep hSu.out).bx
    have e0u := hSu.out.cell e0 (by simp)
    have e1u := hSu.out.cell e1 (by simp)
    go_simp
    first | done | with_reducible rfl
  (try simp only [Act.put, List.setIfInBounds_toArray, List.set_cons_zero, List.set_cons_succ])
  refine wpAnyH_take (i := 13) (oi := { dst := some 67, op := Op.move (Operand.tmp 10), type := 3, pos := "law.go:43", after := #[{ on := 5, ground := Ground.guard }], guard := some (5, false) }) (v := ?_) rfl (by kernel_rfl) (by kernel_rfl) (by kernel_rfl) (fun _ _ _ h => h) (Or.inl ⟨by rfl, ?_⟩) hHeld ?_
  rotate_left 1
  · intro u hSu
    obtain ⟨d0u, d1u, d2u, d3u⟩ := row4T (K21.out.1.keep hSu.out).bx
    have e0u := hSu.out.cell e0 (by simp)
    have e1u := hSu.out.cell e1 (by simp)
    go_simp
    first | done | with_reducible rfl
  (try simp only [Act.put, List.setIfInBounds_toArray, List.set_cons_zero, List.set_cons_succ])
  refine wpAnyH_take (i := 14) (oi := { dst := some 68, op := Op.indexAddr 85 (Operand.tmp 9) (Operand.tmp 67), type := 0, pos := "law.go:43", after := #[{ on := 13, ground := Ground.data }, { on := 5, ground := Ground.guard }], guard := some (5, false) }) (v := ?_) rfl (by kernel_rfl) (by kernel_rfl) (by kernel_rfl) (fun _ _ _ h => h) (Or.inl ⟨by rfl, ?_⟩) hHeld ?_
  rotate_left 1
  · intro u hSu
    obtain ⟨d0u, d1u, d2u, d3u⟩ := row4T (K21.out.1.keep hSu.out).bx
    have e0u := hSu.out.cell e0 (by simp)
    have e1u := hSu.out.cell e1 (by simp)
    go_simp
    first | done | with_reducible rfl
  (try simp only [Act.put, List.setIfInBounds_toArray, List.set_cons_zero, List.set_cons_succ])
  refine wpAnyH_take (i := 15) (oi := { dst := some 69, op := Op.indexAddr 84 (Operand.tmp 68) (Operand.const (Value.int IntKind.i64 1)), type := 0, pos := "law.go:43", after := #[{ on := 14, ground := Ground.data }, { on := 5, ground := Ground.guard }], guard := some (5, false) }) (v := ?_) rfl (by kernel_rfl) (by kernel_rfl) (by kernel_rfl) (fun _ _ _ h => h) (Or.inl ⟨by rfl, ?_⟩) hHeld ?_
  rotate_left 1
  · intro u hSu
    obtain ⟨d0u, d1u, d2u, d3u⟩ := row4T (K21.out.1.keep hSu.out).bx
    have e0u := hSu.out.cell e0 (by simp)
    have e1u := hSu.out.cell e1 (by simp)
    go_simp
    first | done | with_reducible rfl
  (try simp only [Act.put, List.setIfInBounds_toArray, List.set_cons_zero, List.set_cons_succ])
  refine wpAnyH_take (i := 16) (oi := { dst := some 70, op := Op.load 3 (Operand.tmp 69), type := 3, pos := "law.go:43", after := #[{ on := 15, ground := Ground.data }, { on := 5, ground := Ground.guard }], guard := some (5, false) }) (v := ?_) rfl (by kernel_rfl) (by kernel_rfl) (by kernel_rfl) (fun _ _ _ h => h) (Or.inl ⟨by rfl, ?_⟩) hHeld ?_
  rotate_left 1
  · intro u hSu
    obtain ⟨d0u, d1u, d2u, d3u⟩ := row4T (K21.out.1.keep hSu.out).bx
    have e0u := hSu.out.cell e0 (by simp)
    have e1u := hSu.out.cell e1 (by simp)
    go_simp
    first | done | with_reducible rfl
  (try simp only [Act.put, List.setIfInBounds_toArray, List.set_cons_zero, List.set_cons_succ])
  refine wpAnyH_ready (rs := [11]) (by kernel_rfl) (by simp) ?_
  refine AllReadyH.cons (o := { dst := some 65, op := Op.call { callee := Callee.value (Operand.func 53), args := #[Operand.tmp 60, Operand.tmp 64], argTypes := #[25, 3] }, type := 81, pos := "law.go:43", after := #[{ on := 6, ground := Ground.data }, { on := 10, ground := Ground.data }, { on := 5, ground := Ground.chain }, { on := 5, ground := Ground.guard }], guard := some (5, false) }) rfl (fun Kz hK => ?_) AllReadyH.nil
  go_simp
  go_at_call 53
  refine (mlocal_any r s n HRI.out p c L y1 _ (K21.out.1.keep hHeld.out).rd2 (by omega)).mono ?_
  rintro e' w22 ⟨rfl, hg⟩
  have HN := Lib.hid (grown_trans hHeld.out hg)
  clear hg
  simp only
  refine hK.out _ _ (HN) (fun hH2 => ?_)
  clear hK Kz hHeld
  have hHeld := hH2
  clear hH2
  (try simp only [Act.put, List.setIfInBounds_toArray, List.set_cons_zero, List.set_cons_succ])
  refine wpAnyH_ready (rs := [17]) (by kernel_rfl) (by simp) ?_
  refine AllReadyH.cons (o := { dst := some 71, op := Op.call { callee := Callee.value (Operand.func 54), args := #[Operand.tmp 66, Operand.tmp 70], argTypes := #[25, 3] }, type := 81, pos := "law.go:43", after := #[{ on := 12, ground := Ground.data }, { on := 16, ground := Ground.data }, { on := 11, ground := Ground.chain }, { on := 5, ground := Ground.guard }], guard := some (5, false) }) rfl (fun Kz hK => ?_) AllReadyH.nil
  go_simp
  go_at_call 54
  refine (rlocal_any r s n p c L y1 _ (K21.out.1.keep hHeld.out).rd2 (by omega)).mono ?_
  rintro e' w23 ⟨rfl, hg⟩
  have HN := Lib.hid (grown_trans hHeld.out hg)
  clear hg
  simp only
  refine hK.out _ _ (HN) (fun hH2 => ?_)
  clear hK Kz hHeld
  have hHeld := hH2
  clear hH2
  (try simp only [Act.put, List.setIfInBounds_toArray, List.set_cons_zero, List.set_cons_succ])
  refine wpAnyH_take (i := 18) (oi := { dst := some 72, op := Op.binOp BinOp.neq 81 (Operand.tmp 65) (Operand.tmp 71) 81, type := 4, pos := "law.go:43", after := #[{ on := 11, ground := Ground.data }, { on := 17, ground := Ground.data }, { on := 5, ground := Ground.guard }], guard := some (5, false) }) (v := .bool false) rfl (by kernel_rfl) (by kernel_rfl) (by kernel_rfl) (fun _ _ _ h => h) (Or.inl ⟨by rfl, ?_⟩) hHeld ?_
  · intro u hSu
    obtain ⟨d0u, d1u, d2u, d3u⟩ := row4T (K21.out.1.keep hSu.out).bx
    have e0u := hSu.out.cell e0 (by simp)
    have e1u := hSu.out.cell e1 (by simp)
    go_simp
    first | done | rfl | simp
  (try simp only [Act.put, List.setIfInBounds_toArray, List.set_cons_zero, List.set_cons_succ])
  refine wpAnyH_take (i := 19) (oi := { dst := some 73, op := Op.pick (Operand.tmp 59) (Operand.const (Value.bool true)) (Operand.tmp 72), type := 4, pos := "law.go:43", after := #[{ on := 5, ground := Ground.data }, { on := 18, ground := Ground.data }], guard := none }) (v := .bool false) rfl (by kernel_rfl) (by kernel_rfl) (by kernel_rfl) (fun _ _ _ h => h) (Or.inl ⟨by rfl, ?_⟩) hHeld ?_
  · intro u hSu
    obtain ⟨d0u, d1u, d2u, d3u⟩ := row4T (K21.out.1.keep hSu.out).bx
    have e0u := hSu.out.cell e0 (by simp)
    have e1u := hSu.out.cell e1 (by simp)
    go_simp
    first | done | rfl | simp
  (try simp only [Act.put, List.setIfInBounds_toArray, List.set_cons_zero, List.set_cons_succ])
  refine wpAnyH_take (i := 20) (oi := { dst := some 74, op := Op.move (Operand.tmp 73), type := 4, pos := "law.go:43", after := #[{ on := 19, ground := Ground.data }, { on := 17, ground := Ground.chain }], guard := none }) (v := .bool false) rfl (by kernel_rfl) (by kernel_rfl) (by kernel_rfl) (fun _ _ _ h => h) (Or.inl ⟨by rfl, ?_⟩) hHeld ?_
  · intro u hSu
    obtain ⟨d0u, d1u, d2u, d3u⟩ := row4T (K21.out.1.keep hSu.out).bx
    have e0u := hSu.out.cell e0 (by simp)
    have e1u := hSu.out.cell e1 (by simp)
    go_simp
    first | done | rfl | simp
  (try simp only [Act.put, List.setIfInBounds_toArray, List.set_cons_zero, List.set_cons_succ])
  refine wpAnyH_take (i := 21) (oi := { dst := some 75, op := Op.load 25 (Operand.tmp 8), type := 25, pos := "law.go:43", after := #[{ on := 20, ground := Ground.guard }], guard := some (20, false) }) (v := ?_) rfl (by kernel_rfl) (by kernel_rfl) (by kernel_rfl) (fun _ _ _ h => h) (Or.inl ⟨by rfl, ?_⟩) hHeld ?_
  rotate_left 1
  · intro u hSu
    obtain ⟨d0u, d1u, d2u, d3u⟩ := row4T (K21.out.1.keep hSu.out).bx
    have e0u := hSu.out.cell e0 (by simp)
    have e1u := hSu.out.cell e1 (by simp)
    go_simp
    first | done | with_reducible rfl
  (try simp only [Act.put, List.setIfInBounds_toArray, List.set_cons_zero, List.set_cons_succ])
  refine wpAnyH_take (i := 22) (oi := { dst := some 76, op := Op.move (Operand.tmp 10), type := 3, pos := "law.go:43", after := #[{ on := 20, ground := Ground.guard }], guard := some (20, false) }) (v := ?_) rfl (by kernel_rfl) (by kernel_rfl) (by kernel_rfl) (fun _ _ _ h => h) (Or.inl ⟨by rfl, ?_⟩) hHeld ?_
  rotate_left 1
  · intro u hSu
    obtain ⟨d0u, d1u, d2u, d3u⟩ := row4T (K21.out.1.keep hSu.out).bx
    have e0u := hSu.out.cell e0 (by simp)
    have e1u := hSu.out.cell e1 (by simp)
    go_simp
    first | done | with_reducible rfl
  (try simp only [Act.put, List.setIfInBounds_toArray, List.set_cons_zero, List.set_cons_succ])
  refine wpAnyH_take (i := 23) (oi := { dst := some 77, op := Op.indexAddr 85 (Operand.tmp 9) (Operand.tmp 76), type := 0, pos := "law.go:43", after := #[{ on := 22, ground := Ground.data }, { on := 20, ground := Ground.guard }], guard := some (20, false) }) (v := ?_) rfl (by kernel_rfl) (by kernel_rfl) (by kernel_rfl) (fun _ _ _ h => h) (Or.inl ⟨by rfl, ?_⟩) hHeld ?_
  rotate_left 1
  · intro u hSu
    obtain ⟨d0u, d1u, d2u, d3u⟩ := row4T (K21.out.1.keep hSu.out).bx
    have e0u := hSu.out.cell e0 (by simp)
    have e1u := hSu.out.cell e1 (by simp)
    go_simp
    first | done | with_reducible rfl
  (try simp only [Act.put, List.setIfInBounds_toArray, List.set_cons_zero, List.set_cons_succ])
  refine wpAnyH_take (i := 24) (oi := { dst := some 78, op := Op.indexAddr 84 (Operand.tmp 77) (Operand.const (Value.int IntKind.i64 1)), type := 0, pos := "law.go:43", after := #[{ on := 23, ground := Ground.data }, { on := 20, ground := Ground.guard }], guard := some (20, false) }) (v := ?_) rfl (by kernel_rfl) (by kernel_rfl) (by kernel_rfl) (fun _ _ _ h => h) (Or.inl ⟨by rfl, ?_⟩) hHeld ?_
  rotate_left 1
  · intro u hSu
    obtain ⟨d0u, d1u, d2u, d3u⟩ := row4T (K21.out.1.keep hSu.out).bx
    have e0u := hSu.out.cell e0 (by simp)
    have e1u := hSu.out.cell e1 (by simp)
    go_simp
    first | done | with_reducible rfl
  (try simp only [Act.put, List.setIfInBounds_toArray, List.set_cons_zero, List.set_cons_succ])
  refine wpAnyH_take (i := 25) (oi := { dst := some 79, op := Op.load 3 (Operand.tmp 78), type := 3, pos := "law.go:43", after := #[{ on := 24, ground := Ground.data }, { on := 20, ground := Ground.guard }], guard := some (20, false) }) (v := ?_) rfl (by kernel_rfl) (by kernel_rfl) (by kernel_rfl) (fun _ _ _ h => h) (Or.inl ⟨by rfl, ?_⟩) hHeld ?_
  rotate_left 1
  · intro u hSu
    obtain ⟨d0u, d1u, d2u, d3u⟩ := row4T (K21.out.1.keep hSu.out).bx
    have e0u := hSu.out.cell e0 (by simp)
    have e1u := hSu.out.cell e1 (by simp)
    go_simp
    first | done | with_reducible rfl
  (try simp only [Act.put, List.setIfInBounds_toArray, List.set_cons_zero, List.set_cons_succ])
  refine wpAnyH_take (i := 27) (oi := { dst := some 81, op := Op.load 25 (Operand.tmp 8), type := 25, pos := "law.go:43", after := #[{ on := 20, ground := Ground.guard }], guard := some (20, false) }) (v := ?_) rfl (by kernel_rfl) (by kernel_rfl) (by kernel_rfl) (fun _ _ _ h => h) (Or.inl ⟨by rfl, ?_⟩) hHeld ?_
  rotate_left 1
  · intro u hSu
    obtain ⟨d0u, d1u, d2u, d3u⟩ := row4T (K21.out.1.keep hSu.out).bx
    have e0u := hSu.out.cell e0 (by simp)
    have e1u := hSu.out.cell e1 (by simp)
    go_simp
    first | done | with_reducible rfl
  (try simp only [Act.put, List.setIfInBounds_toArray, List.set_cons_zero, List.set_cons_succ])
  refine wpAnyH_take (i := 28) (oi := { dst := some 82, op := Op.move (Operand.tmp 10), type := 3, pos := "law.go:43", after := #[{ on := 20, ground := Ground.guard }], guard := some (20, false) }) (v := ?_) rfl (by kernel_rfl) (by kernel_rfl) (by kernel_rfl) (fun _ _ _ h => h) (Or.inl ⟨by rfl, ?_⟩) hHeld ?_
  rotate_left 1
  · intro u hSu
    obtain ⟨d0u, d1u, d2u, d3u⟩ := row4T (K21.out.1.keep hSu.out).bx
    have e0u := hSu.out.cell e0 (by simp)
    have e1u := hSu.out.cell e1 (by simp)
    go_simp
    first | done | with_reducible rfl
  (try simp only [Act.put, List.setIfInBounds_toArray, List.set_cons_zero, List.set_cons_succ])
  refine wpAnyH_take (i := 29) (oi := { dst := some 83, op := Op.indexAddr 85 (Operand.tmp 9) (Operand.tmp 82), type := 0, pos := "law.go:43", after := #[{ on := 28, ground := Ground.data }, { on := 20, ground := Ground.guard }], guard := some (20, false) }) (v := ?_) rfl (by kernel_rfl) (by kernel_rfl) (by kernel_rfl) (fun _ _ _ h => h) (Or.inl ⟨by rfl, ?_⟩) hHeld ?_
  rotate_left 1
  · intro u hSu
    obtain ⟨d0u, d1u, d2u, d3u⟩ := row4T (K21.out.1.keep hSu.out).bx
    have e0u := hSu.out.cell e0 (by simp)
    have e1u := hSu.out.cell e1 (by simp)
    go_simp
    first | done | with_reducible rfl
  (try simp only [Act.put, List.setIfInBounds_toArray, List.set_cons_zero, List.set_cons_succ])
  refine wpAnyH_take (i := 30) (oi := { dst := some 84, op := Op.indexAddr 84 (Operand.tmp 83) (Operand.const (Value.int IntKind.i64 1)), type := 0, pos := "law.go:43", after := #[{ on := 29, ground := Ground.data }, { on := 20, ground := Ground.guard }], guard := some (20, false) }) (v := ?_) rfl (by kernel_rfl) (by kernel_rfl) (by kernel_rfl) (fun _ _ _ h => h) (Or.inl ⟨by rfl, ?_⟩) hHeld ?_
  rotate_left 1
  · intro u hSu
    obtain ⟨d0u, d1u, d2u, d3u⟩ := row4T (K21.out.1.keep hSu.out).bx
    have e0u := hSu.out.cell e0 (by simp)
    have e1u := hSu.out.cell e1 (by simp)
    go_simp
    first | done | with_reducible rfl
  (try simp only [Act.put, List.setIfInBounds_toArray, List.set_cons_zero, List.set_cons_succ])
  refine wpAnyH_take (i := 31) (oi := { dst := some 85, op := Op.load 3 (Operand.tmp 84), type := 3, pos := "law.go:43", after := #[{ on := 30, ground := Ground.data }, { on := 20, ground := Ground.guard }], guard := some (20, false) }) (v := ?_) rfl (by kernel_rfl) (by kernel_rfl) (by kernel_rfl) (fun _ _ _ h => h) (Or.inl ⟨by rfl, ?_⟩) hHeld ?_
  rotate_left 1
  · intro u hSu
    obtain ⟨d0u, d1u, d2u, d3u⟩ := row4T (K21.out.1.keep hSu.out).bx
    have e0u := hSu.out.cell e0 (by simp)
    have e1u := hSu.out.cell e1 (by simp)
    go_simp
    first | done | with_reducible rfl
  (try simp only [Act.put, List.setIfInBounds_toArray, List.set_cons_zero, List.set_cons_succ])
  refine wpAnyH_ready (rs := [26]) (by kernel_rfl) (by simp) ?_
  refine AllReadyH.cons (o := { dst := some 80, op := Op.call { callee := Callee.value (Operand.func 55), args := #[Operand.tmp 75, Operand.tmp 79], argTypes := #[25, 3] }, type := 81, pos := "law.go:43", after := #[{ on := 21, ground := Ground.data }, { on := 25, ground := Ground.data }, { on := 20, ground := Ground.chain }, { on := 20, ground := Ground.guard }], guard := some (20, false) }) rfl (fun Kz hK => ?_) AllReadyH.nil
  go_simp
  go_at_call 55
  refine (mreach_any r s n p c L y1 _ (K21.out.1.keep hHeld.out).rd2 (by omega)).mono ?_
  rintro e' w24 ⟨Rc, rfl, hRc, hg⟩
  have HRC := Lib.hid hRc
  clear hRc
  have HN := Lib.hid (grown_trans hHeld.out hg)
  clear hg
  simp only
  refine hK.out _ _ (HN) (fun hH2 => ?_)
  clear hK Kz hHeld
  have hHeld := hH2
  clear hH2
  (try simp only [Act.put, List.setIfInBounds_toArray, List.set_cons_zero, List.set_cons_succ])
  refine wpAnyH_ready (rs := [32]) (by kernel_rfl) (by simp) ?_
  refine AllReadyH.cons (o := { dst := some 86, op := Op.call { callee := Callee.value (Operand.func 56), args := #[Operand.tmp 81, Operand.tmp 85], argTypes := #[25, 3] }, type := 81, pos := "law.go:43", after := #[{ on := 27, ground := Ground.data }, { on := 31, ground := Ground.data }, { on := 26, ground := Ground.chain }, { on := 20, ground := Ground.guard }], guard := some (20, false) }) rfl (fun Kz hK => ?_) AllReadyH.nil
  go_simp
  go_at_call 56
  refine (rreach_any r s n p c L y1 _ (K21.out.1.keep hHeld.out).rd2 (by omega)).mono ?_
  rintro e' w25 ⟨Rd, rfl, hRd, hg⟩
  obtain rfl := HRC.out.uniq hRd
  clear hRd
  have HN := Lib.hid (grown_trans hHeld.out hg)
  clear hg
  simp only
  refine hK.out _ _ (HN) (fun hH2 => ?_)
  clear hK Kz hHeld
  have hHeld := hH2
  clear hH2
  (try simp only [Act.put, List.setIfInBounds_toArray, List.set_cons_zero, List.set_cons_succ])
  refine wpAnyH_take (i := 33) (oi := { dst := some 87, op := Op.binOp BinOp.neq 81 (Operand.tmp 80) (Operand.tmp 86) 81, type := 4, pos := "law.go:43", after := #[{ on := 26, ground := Ground.data }, { on := 32, ground := Ground.data }, { on := 20, ground := Ground.guard }], guard := some (20, false) }) (v := .bool false) rfl (by kernel_rfl) (by kernel_rfl) (by kernel_rfl) (fun _ _ _ h => h) (Or.inl ⟨by rfl, ?_⟩) hHeld ?_
  · intro u hSu
    obtain ⟨d0u, d1u, d2u, d3u⟩ := row4T (K21.out.1.keep hSu.out).bx
    have e0u := hSu.out.cell e0 (by simp)
    have e1u := hSu.out.cell e1 (by simp)
    go_simp
    first | done | rfl | simp
  (try simp only [Act.put, List.setIfInBounds_toArray, List.set_cons_zero, List.set_cons_succ])
  refine wpAnyH_take (i := 34) (oi := { dst := some 88, op := Op.pick (Operand.tmp 74) (Operand.const (Value.bool true)) (Operand.tmp 87), type := 4, pos := "law.go:43", after := #[{ on := 20, ground := Ground.data }, { on := 33, ground := Ground.data }], guard := none }) (v := ?_) rfl (by kernel_rfl) (by kernel_rfl) (by kernel_rfl) (fun _ _ _ h => h) (Or.inl ⟨by rfl, ?_⟩) hHeld ?_
  rotate_left 1
  · intro u hSu
    obtain ⟨d0u, d1u, d2u, d3u⟩ := row4T (K21.out.1.keep hSu.out).bx
    have e0u := hSu.out.cell e0 (by simp)
    have e1u := hSu.out.cell e1 (by simp)
    go_simp
    first | done | with_reducible rfl
  (try simp only [Act.put, List.setIfInBounds_toArray, List.set_cons_zero, List.set_cons_succ])
  refine wpAnyH_done (by kernel_rfl) ?_ _
  have K30 := Lib.hid (And.intro (K21.out.1.keep hHeld.out) (kept_row K21.out.2 hHeld.out (by simp)))
  have HP1 := Lib.hid (own_keptN HO1.out hHeld.out)
  have HP2 := Lib.hid (own_keptN HO2.out hHeld.out)
  clear hHeld K21 E21 e0 e1 HO1 HO2
  go_upto_region 11 with fail
  go_wp2_with fail
  go_loopw [13] (fun u wr => ∃ k : Nat, k ≤ ts.length ∧ u = .int .i64 (k : Int) ∧ Hid (w25.grownBy wr none)) (fun u _ => ts.length - (RowKit.intOf u).toNat)
  case atStart => exact ⟨0, Nat.zero_le _, rfl, Lib.hid (grown_refl _ _)⟩
  case round =>
  obtain ⟨k, hk, rfl, G⟩ := hrel
  obtain ⟨w26, hw26⟩ : ∃ w26, w26 = wr := ⟨_, rfl⟩
  rw [← hw26] at G ⊢
  clear hw26
  by_cases hlt : k < ts.length
  case neg =>
    obtain rfl : k = ts.length := by omega
    have hnl : ¬ (ts.length : Int) < (ts.length : Int) := by omega
    have K31 := Lib.hid (And.intro (K30.out.1.keep G.out) (kept_row K30.out.2 G.out (by simp)))
    clear K30 G
    go_wp2_with fail
    exact ⟨⟨i + 1, by omega, congrArg (Value.int .i64) (by omega), K31⟩, by simp only [RowKit.intOf]; omega⟩
  have hlt' : (k : Int) < (ts.length : Int) := by omega
  have hk0 : (0 : Int) ≤ (k : Int) := by omega
  obtain ⟨u, hu⟩ : ∃ u, ts[k]? = some u := ⟨_, List.getElem?_eq_getElem hlt⟩
  obtain ⟨gm, rfl, m0, m1⟩ := md_atA HP1.out hu
  obtain ⟨gn, rfl, n0, n1⟩ := md_atA HP2.out hu
  clear hu
  obtain ⟨BU, hBU⟩ : ∃ BU, (f u).getD 0 = BU := ⟨_, rfl⟩
  rw [hBU] at m1 n1
  clear hBU
  have hne := neq_md u BU
  go_upto_region 13 with fail
  refine wp_region_held_drew (S := fun w' => Hid (w25.grownBy w' none)) (by kernel_rfl) (Lib.hid (grown_trans G.out (grown_drew (grown_refl _ none)))) (fun hHeld => ?_)
  refine wpAnyH_take (i := 0) (oi := { dst := some 95, op := Op.move (Operand.tmp 11), type := 86, pos := "law.go:47", after := #[], guard := none }) (v := ?_) rfl (by kernel_rfl) (by kernel_rfl) (by kernel_rfl) (fun _ _ _ h => h) (Or.inl ⟨by rfl, ?_⟩) hHeld ?_
  rotate_left 1
  · intro u hSu
    have m0u := hSu.out.cell m0 (by simp)
    have m1u := hSu.out.cell m1 (by simp)
    have n0u := hSu.out.cell n0 (by simp)
    have n1u := hSu.out.cell n1 (by simp)
    go_simp
    first | done | with_reducible rfl
  (try simp only [Act.put, List.setIfInBounds_toArray, List.set_cons_zero, List.set_cons_succ])
  refine wpAnyH_take (i := 1) (oi := { dst := some 96, op := Op.move (Operand.tmp 13), type := 3, pos := "law.go:47", after := #[], guard := none }) (v := ?_) rfl (by kernel_rfl) (by kernel_rfl) (by kernel_rfl) (fun _ _ _ h => h) (Or.inl ⟨by rfl, ?_⟩) hHeld ?_
  rotate_left 1
  · intro u hSu
    have m0u := hSu.out.cell m0 (by simp)
    have m1u := hSu.out.cell m1 (by simp)
    have n0u := hSu.out.cell n0 (by simp)
    have n1u := hSu.out.cell n1 (by simp)
    go_simp
    first | done | with_reducible rfl
  (try simp only [Act.put, List.setIfInBounds_toArray, List.set_cons_zero, List.set_cons_succ])
  refine wpAnyH_take (i := 2) (oi := { dst := some 97, op := Op.indexAddr 86 (Operand.tmp 95) (Operand.tmp 96), type := 0, pos := "law.go:47", after := #[{ on := 0, ground := Ground.data }, { on := 1, ground := Ground.data }], guard := none }) (v := ?_) rfl (by kernel_rfl) (by kernel_rfl) (by kernel_rfl) (fun _ _ _ h => h) (Or.inl ⟨by rfl, ?_⟩) hHeld ?_
  rotate_left 1
  · intro u hSu
    have m0u := hSu.out.cell m0 (by simp)
    have m1u := hSu.out.cell m1 (by simp)
    have n0u := hSu.out.cell n0 (by simp)
    have n1u := hSu.out.cell n1 (by simp)
    go_simp
    first | done | with_reducible rfl
  (try simp only [Act.put, List.setIfInBounds_toArray, List.set_cons_zero, List.set_cons_succ])
  refine wpAnyH_take (i := 3) (oi := { dst := some 98, op := Op.load 90 (Operand.tmp 97), type := 90, pos := "law.go:47", after := #[{ on := 2, ground := Ground.data }], guard := none }) (v := ?_) rfl (by kernel_rfl) (by kernel_rfl) (by kernel_rfl) (fun _ _ _ h => h) (Or.inl ⟨by rfl, ?_⟩) hHeld ?_
  rotate_left 1
  · intro u hSu
    have m0u := hSu.out.cell m0 (by simp)
    have m1u := hSu.out.cell m1 (by simp)
    have n0u := hSu.out.cell n0 (by simp)
    have n1u := hSu.out.cell n1 (by simp)
    go_simp
    first | done | with_reducible rfl
  (try simp only [Act.put, List.setIfInBounds_toArray, List.set_cons_zero, List.set_cons_succ])
  refine wpAnyH_take (i := 4) (oi := { dst := some 99, op := Op.move (Operand.tmp 12), type := 86, pos := "law.go:47", after := #[], guard := none }) (v := ?_) rfl (by kernel_rfl) (by kernel_rfl) (by kernel_rfl) (fun _ _ _ h => h) (Or.inl ⟨by rfl, ?_⟩) hHeld ?_
  rotate_left 1
  · intro u hSu
    have m0u := hSu.out.cell m0 (by simp)
    have m1u := hSu.out.cell m1 (by simp)
    have n0u := hSu.out.cell n0 (by simp)
    have n1u := hSu.out.cell n1 (by simp)
    go_simp
    first | done | with_reducible rfl
  (try simp only [Act.put, List.setIfInBounds_toArray, List.set_cons_zero, List.set_cons_succ])
  refine wpAnyH_take (i := 5) (oi := { dst := some 100, op := Op.move (Operand.tmp 13), type := 3, pos := "law.go:47", after := #[], guard := none }) (v := ?_) rfl (by kernel_rfl) (by kernel_rfl) (by kernel_rfl) (fun _ _ _ h => h) (Or.inl ⟨by rfl, ?_⟩) hHeld ?_
  rotate_left 1
  · intro u hSu
    have m0u := hSu.out.cell m0 (by simp)
    have m1u := hSu.out.cell m1 (by simp)
    have n0u := hSu.out.cell n0 (by simp)
    have n1u := hSu.out.cell n1 (by simp)
    go_simp
    first | done | with_reducible rfl
  (try simp only [Act.put, List.setIfInBounds_toArray, List.set_cons_zero, List.set_cons_succ])
  refine wpAnyH_take (i := 6) (oi := { dst := some 101, op := Op.indexAddr 86 (Operand.tmp 99) (Operand.tmp 100), type := 0, pos := "law.go:47", after := #[{ on := 4, ground := Ground.data }, { on := 5, ground := Ground.data }], guard := none }) (v := ?_) rfl (by kernel_rfl) (by kernel_rfl) (by kernel_rfl) (fun _ _ _ h => h) (Or.inl ⟨by rfl, ?_⟩) hHeld ?_
  rotate_left 1
  · intro u hSu
    have m0u := hSu.out.cell m0 (by simp)
    have m1u := hSu.out.cell m1 (by simp)
    have n0u := hSu.out.cell n0 (by simp)
    have n1u := hSu.out.cell n1 (by simp)
    go_simp
    first | done | with_reducible rfl
  (try simp only [Act.put, List.setIfInBounds_toArray, List.set_cons_zero, List.set_cons_succ])
  refine wpAnyH_take (i := 7) (oi := { dst := some 102, op := Op.load 90 (Operand.tmp 101), type := 90, pos := "law.go:47", after := #[{ on := 6, ground := Ground.data }], guard := none }) (v := ?_) rfl (by kernel_rfl) (by kernel_rfl) (by kernel_rfl) (fun _ _ _ h => h) (Or.inl ⟨by rfl, ?_⟩) hHeld ?_
  rotate_left 1
  · intro u hSu
    have m0u := hSu.out.cell m0 (by simp)
    have m1u := hSu.out.cell m1 (by simp)
    have n0u := hSu.out.cell n0 (by simp)
    have n1u := hSu.out.cell n1 (by simp)
    go_simp
    first | done | with_reducible rfl
  (try simp only [Act.put, List.setIfInBounds_toArray, List.set_cons_zero, List.set_cons_succ])
  refine wpAnyH_take (i := 8) (oi := { dst := some 103, op := Op.binOp BinOp.neq 90 (Operand.tmp 98) (Operand.tmp 102) 90, type := 4, pos := "law.go:47", after := #[{ on := 3, ground := Ground.data }, { on := 7, ground := Ground.data }], guard := none }) (v := .bool false) rfl (by kernel_rfl) (by kernel_rfl) (by kernel_rfl) (fun _ _ _ h => h) (Or.inl ⟨by rfl, ?_⟩) hHeld ?_
  · intro u hSu
    have m0u := hSu.out.cell m0 (by simp)
    have m1u := hSu.out.cell m1 (by simp)
    have n0u := hSu.out.cell n0 (by simp)
    have n1u := hSu.out.cell n1 (by simp)
    go_simp
    first | done | rfl | simp
  (try simp only [Act.put, List.setIfInBounds_toArray, List.set_cons_zero, List.set_cons_succ])
  refine wpAnyH_done (by kernel_rfl) ?_ _
  have G2 := Lib.hid hHeld.out
  clear hHeld G m0 m1 n0 n1 hne
  go_wp2_with fail
  exact ⟨⟨k + 1, by omega, congrArg (Value.int .i64) (by omega), G2⟩, by simp only [RowKit.intOf]; omega⟩
end Go.Proofs.YtgofadmncgmhoaaGreat

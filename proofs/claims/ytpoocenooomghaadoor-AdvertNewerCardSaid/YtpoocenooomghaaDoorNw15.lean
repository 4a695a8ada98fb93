/- Parts of the proof, packed: AdVaLaw. -/
import Derived.Test.YtpoocenooomghaaDoorNw13
import Derived.Test.YtpoocenooomghaaDoorNw14
/- The law AdvertValid: Valid and Same return what the reference says. -/
namespace Go.Proofs.YtpoocenooomghaaDoor
open Go.RowKit Bs
set_option maxRecDepth 100000 in
theorem IntsIn.grownW {w w' : World} {v : Value} (h : IntsIn w v) (g : w.grownBy w' none) : IntsIn w' v := by
  obtain ⟨p, n, c, rfl, h1, h2, h3⟩ := h
  refine ⟨p, n, c, rfl, h1, h2, fun hn => ?_⟩
  obtain ⟨b, off, hp, hb, hx⟩ := h3 hn
  refine ⟨b, off, hp, Nat.lt_of_lt_of_le hb g.size, fun i hi => ?_⟩
  obtain ⟨x, hx1, hx2⟩ := hx i hi
  exact ⟨x, hx1, g.cell hx2 (by simp)⟩
def bgA (A : Ad) : Bool := decide (100 < A.L.length ∨ 100 < A.C.length)
set_option maxRecDepth 100000 in
set_option maxHeartbeats 3200000 in
theorem abig_any (A : Ad) (q : Nat → Prop) (w : World) (hA : AdOk w q A) :
    Calls Tryd.prog 13 #[A.val] w fun e w' => e = .returned (.bool (bgA A)) ∧ w.grownBy w' none := by
  have hm1 := Nat.le_trans hA.hl.1 hA.hl.2
  have hm2 := Nat.le_trans hA.hc.1 hA.hc.2
  obtain ⟨X, hX⟩ : ∃ X, bgA A = X := ⟨_, rfl⟩
  rw [hX]
  have HX := Lib.hid hX
  obtain ⟨r, q2, cp, L, C, pL, cL, pC, cC⟩ := A
  have hb := heap_alloc_new w (.cells #[.int .i64 r, .int .i64 q2, .bool cp, .slice pL L.length cL, .slice pC C.length cC] 26)
  have hg := World.grownBy_alloc w (.cells #[.int .i64 r, .int .i64 q2, .bool cp, .slice pL L.length cL, .slice pC C.length cC] 26) none
  have HB := Lib.hid (And.intro hb hg)
  simp only at hm1 hm2
  clear hX hb hg hA
  unfold Ad.val
  go_enter Tryd.func13, Tryd.ntmps13
  go_upto_region 1 with fail
  generalize w.alloc _ = wa at *
  obtain ⟨c0, c1, c2, c3, c4⟩ := row5 HB.out.1
  by_cases h1 : 100 < L.length
  · obtain rfl : X = true := by rw [← HX.out]; exact decide_eq_true (.inl h1)
    go_wp2_with fail
    go_ret
    exact ⟨rfl, HB.out.2⟩
  · by_cases h2 : 100 < C.length
    · obtain rfl : X = true := by rw [← HX.out]; exact decide_eq_true (.inr h2)
      go_wp2_with fail
      go_ret
      exact ⟨by show Ending.returned (Value.bool (decide ((100 : Int) < (L.length : Int)) || decide ((100 : Int) < (C.length : Int)))) = _; rw [decide_eq_false (show ¬ (100 : Int) < (L.length : Int) by omega), decide_eq_true (show (100 : Int) < (C.length : Int) by omega)]; rfl, HB.out.2⟩
    · obtain rfl : X = false := by rw [← HX.out]; exact decide_eq_false (fun h => h.elim h1 h2)
      go_wp2_with fail
      go_ret
      exact ⟨by show Ending.returned (Value.bool (decide ((100 : Int) < (L.length : Int)) || decide ((100 : Int) < (C.length : Int)))) = _; rw [decide_eq_false (show ¬ (100 : Int) < (L.length : Int) by omega), decide_eq_false (show ¬ (100 : Int) < (C.length : Int) by omega)]; rfl, HB.out.2⟩
/-- Adverts while the tape makes more of them; raw lies in a box of the call's. -/
structure LV (W : World) (a : Nat) (raw : Ad) (l : List Ad) (w : World) : Prop where
  ok : ∀ A ∈ l, AdOk w (· ≠ a) A
  rk : AdOk w (· ≠ a) raw
  bx : w.heap[W.heap.size]? = some (.cells (adC raw) 26 (0, 0))
  gr : W.grownBy w none
  tp : Tp w a
  al : W.heap.size < a
set_option maxRecDepth 100000 in
theorem LV.keep {W w w1 : World} {a : Nat} {raw : Ad} {l : List Ad} (h : LV W a raw l w) (g : w.grownBy w1 none) : LV W a raw l w1 :=
  ⟨fun A hA => (h.ok A hA).keep g, h.rk.keep g, kept_row h.bx g (by simp), grown_trans h.gr g, h.tp.keep g, h.al⟩
set_option maxRecDepth 100000 in
theorem LV.tape {W w w1 : World} {a : Nat} {raw : Ad} {l : List Ad} (h : LV W a raw l w) (k : St a w w1) : LV W a raw l w1 := by
  have hal := h.al
  exact ⟨fun A hA => (h.ok A hA).grown k.1 (fun b hb e => hb (Option.some.inj e)), h.rk.grown k.1 (fun b hb e => hb (Option.some.inj e)), kept_row h.bx k.1 (fun e => by have := Option.some.inj e; omega), grown_new h.gr k.1 (by omega), k.2, h.al⟩
set_option maxRecDepth 100000 in
theorem LV.adv {W w w1 : World} {a : Nat} {raw : Ad} {l : List Ad} (h : LV W a raw l w) (k : St a w w1) {A : Ad} (hA : AdOk w1 (w.heap.size ≤ ·) A) : LV W a raw (l ++ [A]) w1 := by
  have h1 := h.tape k
  have hlt := h.tp.lt
  refine ⟨fun B hB => ?_, h1.rk, h1.bx, h1.gr, h1.tp, h1.al⟩
  rcases List.mem_append.1 hB with hB | hB
  · exact h1.ok B hB
  · rw [List.mem_singleton] at hB
    subst hB
    exact hA.mono fun b hb => by omega
set_option maxRecDepth 100000 in
theorem LV.adv2 {W w : World} {a : Nat} {raw : Ad} {l : List Ad} (h : LV W a raw l w) : LV W a raw (l ++ [raw]) w := by
  refine ⟨fun B hB => ?_, h.rk, h.bx, h.gr, h.tp, h.al⟩
  rcases List.mem_append.1 hB with hB | hB
  · exact h.ok B hB
  · rw [List.mem_singleton] at hB
    subst hB
    exact h.rk
/-- A row of adverts. -/
structure OV (W : World) (D : Nat) (raw : Ad) (l : List Ad) (w : World) : Prop where
  row : ∃ (cs : Array Value) (t : TypeId), w.heap[D]? = some (.cells cs t (0, 0)) ∧ ∀ i A, l[i]? = some A → ∀ j u, (adC A)[j]? = some u → cs[i * 5 + j]? = some u
  ok : ∀ A ∈ l, ∃ q, AdOk w q A
  rk : ∃ q, AdOk w q raw
  bx : w.heap[W.heap.size]? = some (.cells (adC raw) 26 (0, 0))
  gr : W.grownBy w none
set_option maxRecDepth 100000 in
theorem OV.keep {W w w1 : World} {D : Nat} {raw : Ad} {l : List Ad} (h : OV W D raw l w) (g : w.grownBy w1 none) : OV W D raw l w1 := by
  obtain ⟨cs, t, h1, h3⟩ := h.row
  obtain ⟨q, hq⟩ := h.rk
  exact ⟨⟨cs, t, kept_row h1 g (by simp), h3⟩, fun A hA => by obtain ⟨q, hq⟩ := h.ok A hA; exact ⟨q, hq.keep g⟩, ⟨q, hq.keep g⟩, kept_row h.bx g (by simp), grown_trans h.gr g⟩
set_option maxRecDepth 100000 in
theorem OV.cells {W w : World} {D i : Nat} {raw : Ad} {l : List Ad} {A : Ad} (h : OV W D raw l w) (hA : l[i]? = some A) :
    w.cell? ⟨D, i * 5, none⟩ = some (.int .i64 A.r) ∧ w.cell? ⟨D, i * 5 + 1, none⟩ = some (.int .i64 A.q) ∧ w.cell? ⟨D, i * 5 + 2, none⟩ = some (.bool A.cp) ∧ w.cell? ⟨D, i * 5 + 3, none⟩ = some (.slice A.pL A.L.length A.cL) ∧ w.cell? ⟨D, i * 5 + 4, none⟩ = some (.slice A.pC A.C.length A.cC) := by
  obtain ⟨cs, t, h1, h3⟩ := h.row
  have hc : ∀ o, w.cell? ⟨D, o, none⟩ = cs[o]? := fun o => cell_of_row _ _ _ _ _ _ h1
  exact ⟨(hc _).trans (h3 i A hA 0 _ rfl), (hc _).trans (h3 i A hA 1 _ rfl), (hc _).trans (h3 i A hA 2 _ rfl), (hc _).trans (h3 i A hA 3 _ rfl), (hc _).trans (h3 i A hA 4 _ rfl)⟩
set_option maxRecDepth 100000 in
theorem OV.start {W w : World} {a : Nat} {raw A B C : Ad} {t : TypeId} (h : LV W a raw [A, B, C] w) {cs : Array Value} (hc : cs = adC A ++ adC B ++ adC C ++ adC raw) : OV W w.heap.size raw [A, B, C, raw] (w.alloc (.cells cs t)) := by
  have g := World.grownBy_alloc w (.cells cs t) none
  have h1 := h.adv2.keep g
  refine ⟨⟨cs, t, heap_alloc_new w _, ?_⟩, fun X hX => ⟨_, h1.ok X hX⟩, ⟨_, h1.rk⟩, h1.bx, h1.gr⟩
  subst hc
  intro i X hX j u hu
  have hj : j < 5 := (Array.getElem?_eq_some_iff.1 hu).1
  have hi : i < 4 := (List.getElem?_eq_some_iff.1 hX).1
  have sz : ∀ X : Ad, (adC X).size = 5 := fun _ => rfl
  rcases (show i = 0 ∨ i = 1 ∨ i = 2 ∨ i = 3 by omega) with rfl | rfl | rfl | rfl
  · obtain rfl : A = X := Option.some.inj hX
    rw [Array.getElem?_append_left (by simp only [Array.size_append, sz]; omega), Array.getElem?_append_left (by simp only [Array.size_append, sz]; omega), Array.getElem?_append_left (by rw [sz]; omega), show 0 * 5 + j = j by omega]
    exact hu
  · obtain rfl : B = X := Option.some.inj hX
    rw [Array.getElem?_append_left (by simp only [Array.size_append, sz]; omega), Array.getElem?_append_left (by simp only [Array.size_append, sz]; omega), Array.getElem?_append_right (by rw [sz]; omega), sz, show 1 * 5 + j - 5 = j by omega]
    exact hu
  · obtain rfl : C = X := Option.some.inj hX
    rw [Array.getElem?_append_left (by simp only [Array.size_append, sz]; omega), Array.getElem?_append_right (by simp only [Array.size_append, sz]; omega), Array.size_append, sz, sz, show 2 * 5 + j - (5 + 5) = j by omega]
    exact hu
  · obtain rfl : raw = X := Option.some.inj hX
    rw [Array.getElem?_append_right (by simp only [Array.size_append, sz]; omega), Array.size_append, Array.size_append, sz, sz, sz, show 3 * 5 + j - (5 + 5 + 5) = j by omega]
    exact hu
set_option maxRecDepth 100000 in
set_option maxHeartbeats 6400000 in
theorem valid_walk (v : Value) (raw : Ad) (w : World) (hv : IntsIn w v) (hr : AdOk w (· < w.heap.size) raw) (hT : Tb w) :
    Calls Tryd.prog 3 #[v, raw.val] w fun e w' => e = .returned (.bool true) ∧ w.grownBy w' none := by
  have HTB := Lib.hid hT
  have hm1 := Nat.le_trans hr.hl.1 hr.hl.2
  have hm2 := Nat.le_trans hr.hc.1 hr.hc.2
  obtain ⟨rr, rq, rcp, rL, rC, rpL, rcL, rpC, rcC⟩ := raw
  obtain ⟨raw, hraw⟩ : ∃ raw : Ad, raw = ⟨rr, rq, rcp, rL, rC, rpL, rcL, rpC, rcC⟩ := ⟨_, rfl⟩
  have hval : raw.val = .agg #[.int .i64 rr, .int .i64 rq, .bool rcp, .slice rpL rL.length rcL, .slice rpC rC.length rcC] := by rw [hraw]; rfl
  have hadc : adC raw = #[.int .i64 rr, .int .i64 rq, .bool rcp, .slice rpL rL.length rcL, .slice rpC rC.length rcC] := by rw [hraw]; rfl
  rw [← hraw] at hr ⊢
  rw [hval]
  have HRV := Lib.hid hval
  have HRC := Lib.hid hadc
  have hb := heap_alloc_new w (.cells (adC raw) 26)
  have hg := World.grownBy_alloc w (.cells (adC raw) 26) none
  have hv2 := hv.grownW hg
  have hlt : w.heap.size < (w.alloc (.cells (adC raw) 26)).heap.size := by simp
  have H0 := Lib.hid (And.intro hb (And.intro hg (And.intro (hr.keep hg) hlt)))
  rw [hadc] at H0
  rw [hadc] at hv2
  have HVV := Lib.hid hv2
  clear hb hg hv hr hT hv2 hlt hval hadc hraw
  simp only at hm1 hm2
  go_enter Tryd.func3, Tryd.ntmps3
  go_upto_region 1 with fail
  generalize w.alloc _ = w0 at *
  go_wp2_with fail
  refine (new_any v w0 HVV.out).mono ?_
  rintro e w1 ⟨rfl, hg1, hT1⟩
  have H1 : Hid (LV w w0.heap.size raw [] w1) := Lib.hid ⟨fun A h => (by cases h), (H0.out.2.2.1.keep hg1).mono (fun b hb => by have := H0.out.2.2.2; omega), by rw [HRC.out]; exact kept_row H0.out.1 hg1 (by simp), grown_trans H0.out.2.1 hg1, hT1, H0.out.2.2.2⟩
  clear hg1 hT1 H0 HVV
  obtain ⟨a, ha⟩ : ∃ a, w0.heap.size = a := ⟨_, rfl⟩
  rw [ha] at H1 ⊢
  clear ha
  go_upto_region 2 with fail
  have HD := Lib.hid (H1.out.keep (grown_drew (grown_refl w1 none)))
  clear H1
  refine wp_region_held_drew (S := fun w' => Hid (w'.heap[w.heap.size]? = some (.cells (adC raw) 26 (0, 0)))) (by kernel_rfl) (Lib.hid HD.out.bx) (fun hHeld => ?_)
  refine wpAnyH_take (i := 0) (oi := { dst := some 11, op := Op.move (Operand.tmp 5), type := 27, pos := "law.go:26", after := #[], guard := none }) (v := ?_) rfl (by kernel_rfl) (by kernel_rfl) (by kernel_rfl) (fun _ _ _ h => h) (Or.inl ⟨by rfl, ?_⟩) hHeld ?_
  rotate_left 1
  · intro u hSu
    have hbx := hSu.out
    rw [HRC.out] at hbx
    obtain ⟨q0, q1, q2, q3, q4⟩ := row5 hbx
    go_simp
    first | done | with_reducible rfl
  (try simp only [Act.put, List.setIfInBounds_toArray, List.set_cons_zero, List.set_cons_succ])
  refine wpAnyH_take (i := 1) (oi := { dst := some 12, op := Op.move (Operand.tmp 5), type := 27, pos := "law.go:26", after := #[], guard := none }) (v := ?_) rfl (by kernel_rfl) (by kernel_rfl) (by kernel_rfl) (fun _ _ _ h => h) (Or.inl ⟨by rfl, ?_⟩) hHeld ?_
  rotate_left 1
  · intro u hSu
    have hbx := hSu.out
    rw [HRC.out] at hbx
    obtain ⟨q0, q1, q2, q3, q4⟩ := row5 hbx
    go_simp
    first | done | with_reducible rfl
  (try simp only [Act.put, List.setIfInBounds_toArray, List.set_cons_zero, List.set_cons_succ])
  refine wpAnyH_take (i := 4) (oi := { dst := some 15, op := Op.move (Operand.tmp 5), type := 27, pos := "law.go:26", after := #[], guard := none }) (v := ?_) rfl (by kernel_rfl) (by kernel_rfl) (by kernel_rfl) (fun _ _ _ h => h) (Or.inl ⟨by rfl, ?_⟩) hHeld ?_
  rotate_left 1
  · intro u hSu
    have hbx := hSu.out
    rw [HRC.out] at hbx
    obtain ⟨q0, q1, q2, q3, q4⟩ := row5 hbx
    go_simp
    first | done | with_reducible rfl
  (try simp only [Act.put, List.setIfInBounds_toArray, List.set_cons_zero, List.set_cons_succ])
  refine wpAnyH_take (i := 5) (oi := { dst := some 16, op := Op.move (Operand.tmp 5), type := 27, pos := "law.go:26", after := #[], guard := none }) (v := ?_) rfl (by kernel_rfl) (by kernel_rfl) (by kernel_rfl) (fun _ _ _ h => h) (Or.inl ⟨by rfl, ?_⟩) hHeld ?_
  rotate_left 1
  · intro u hSu
    have hbx := hSu.out
    rw [HRC.out] at hbx
    obtain ⟨q0, q1, q2, q3, q4⟩ := row5 hbx
    go_simp
    first | done | with_reducible rfl
  (try simp only [Act.put, List.setIfInBounds_toArray, List.set_cons_zero, List.set_cons_succ])
  refine wpAnyH_take (i := 8) (oi := { dst := some 19, op := Op.move (Operand.tmp 5), type := 27, pos := "law.go:26", after := #[], guard := none }) (v := ?_) rfl (by kernel_rfl) (by kernel_rfl) (by kernel_rfl) (fun _ _ _ h => h) (Or.inl ⟨by rfl, ?_⟩) hHeld ?_
  rotate_left 1
  · intro u hSu
    have hbx := hSu.out
    rw [HRC.out] at hbx
    obtain ⟨q0, q1, q2, q3, q4⟩ := row5 hbx
    go_simp
    first | done | with_reducible rfl
  (try simp only [Act.put, List.setIfInBounds_toArray, List.set_cons_zero, List.set_cons_succ])
  refine wpAnyH_take (i := 9) (oi := { dst := some 20, op := Op.move (Operand.tmp 5), type := 27, pos := "law.go:26", after := #[], guard := none }) (v := ?_) rfl (by kernel_rfl) (by kernel_rfl) (by kernel_rfl) (fun _ _ _ h => h) (Or.inl ⟨by rfl, ?_⟩) hHeld ?_
  rotate_left 1
  · intro u hSu
    have hbx := hSu.out
    rw [HRC.out] at hbx
    obtain ⟨q0, q1, q2, q3, q4⟩ := row5 hbx
    go_simp
    first | done | with_reducible rfl
  (try simp only [Act.put, List.setIfInBounds_toArray, List.set_cons_zero, List.set_cons_succ])
  refine wpAnyH_take (i := 12) (oi := { dst := some 23, op := Op.load 26 (Operand.tmp 3), type := 26, pos := "law.go:26", after := #[], guard := none }) (v := ?_) rfl (by kernel_rfl) (by kernel_rfl) (by kernel_rfl) (fun _ _ _ h => h) (Or.inl ⟨by rfl, ?_⟩) hHeld ?_
  rotate_left 1
  · intro u hSu
    have hbx := hSu.out
    rw [HRC.out] at hbx
    obtain ⟨q0, q1, q2, q3, q4⟩ := row5 hbx
    go_simp
    first | done | with_reducible rfl
  (try simp only [Act.put, List.setIfInBounds_toArray, List.set_cons_zero, List.set_cons_succ])
  refine wpAnyH_ready (rs := [2]) (by kernel_rfl) (by simp) ?_
  refine AllReadyH.cons (o := { dst := some 13, op := Op.call { callee := Callee.value (Operand.func 12), args := #[Operand.tmp 12, Operand.const (Value.int IntKind.i64 1), Operand.const (Value.int IntKind.i64 6)], argTypes := #[27, 3, 3] }, type := 3, pos := "law.go:26", after := #[{ on := 1, ground := Ground.data }], guard := none }) rfl (fun Kz hK => ?_) AllReadyH.nil
  go_simp
  go_at_call 12
  refine (range_any a 1 6 (by omega) (by omega) (by omega) (by omega) _ HD.out.tp).mono ?_
  rintro e w5 ⟨x1, rfl, hx, hs⟩
  have HXx1 : I64 x1 := by unfold I64; unfold RangeOf at hx; omega
  have HDn := Lib.hid (HD.out.tape hs)
  clear hs HD hx
  have HD := HDn
  clear HDn
  refine hK.out _ _ (Lib.hid HD.out.bx) (fun hH2 => ?_)
  clear hK Kz hHeld
  have hHeld := hH2
  clear hH2
  (try simp only [Act.put, List.setIfInBounds_toArray, List.set_cons_zero, List.set_cons_succ])
  refine wpAnyH_ready (rs := [3]) (by kernel_rfl) (by simp) ?_
  refine AllReadyH.cons (o := { dst := some 14, op := Op.call { callee := Callee.value (Operand.func 11), args := #[Operand.tmp 11, Operand.tmp 13, Operand.const (Value.int IntKind.i64 2)], argTypes := #[27, 3, 3] }, type := 26, pos := "law.go:26", after := #[{ on := 0, ground := Ground.data }, { on := 2, ground := Ground.data }, { on := 2, ground := Ground.chain }], guard := none }) rfl (fun Kz hK => ?_) AllReadyH.nil
  go_simp
  go_at_call 11
  refine (adv_any a x1 2 HXx1 (by unfold I64; omega) _ HD.out.tp).mono ?_
  rintro e w5 ⟨A1, hAe, -, hA, hs⟩
  have HDn := Lib.hid (HD.out.adv hs hA)
  obtain ⟨r1, q1, cp1, L1, C1, pL1, cL1, pC1, cC1⟩ := A1
  subst hAe
  unfold Ad.val
  clear hA hs HD
  have HD := HDn
  clear HDn
  refine hK.out _ _ (Lib.hid HD.out.bx) (fun hH2 => ?_)
  clear hK Kz hHeld
  have hHeld := hH2
  clear hH2
  (try simp only [Act.put, List.setIfInBounds_toArray, List.set_cons_zero, List.set_cons_succ])
  refine wpAnyH_ready (rs := [6]) (by kernel_rfl) (by simp) ?_
  refine AllReadyH.cons (o := { dst := some 17, op := Op.call { callee := Callee.value (Operand.func 12), args := #[Operand.tmp 16, Operand.const (Value.int IntKind.i64 1), Operand.const (Value.int IntKind.i64 2)], argTypes := #[27, 3, 3] }, type := 3, pos := "law.go:26", after := #[{ on := 5, ground := Ground.data }, { on := 3, ground := Ground.chain }], guard := none }) rfl (fun Kz hK => ?_) AllReadyH.nil
  go_simp
  go_at_call 12
  refine (range_any a 1 2 (by omega) (by omega) (by omega) (by omega) _ HD.out.tp).mono ?_
  rintro e w5 ⟨x2, rfl, hx, hs⟩
  have HXx2 : I64 x2 := by unfold I64; unfold RangeOf at hx; omega
  have HDn := Lib.hid (HD.out.tape hs)
  clear hs HD hx
  have HD := HDn
  clear HDn
  refine hK.out _ _ (Lib.hid HD.out.bx) (fun hH2 => ?_)
  clear hK Kz hHeld
  have hHeld := hH2
  clear hH2
  (try simp only [Act.put, List.setIfInBounds_toArray, List.set_cons_zero, List.set_cons_succ])
  refine wpAnyH_ready (rs := [7]) (by kernel_rfl) (by simp) ?_
  refine AllReadyH.cons (o := { dst := some 18, op := Op.call { callee := Callee.value (Operand.func 11), args := #[Operand.tmp 15, Operand.tmp 17, Operand.const (Value.int IntKind.i64 0)], argTypes := #[27, 3, 3] }, type := 26, pos := "law.go:26", after := #[{ on := 4, ground := Ground.data }, { on := 6, ground := Ground.data }, { on := 6, ground := Ground.chain }], guard := none }) rfl (fun Kz hK => ?_) AllReadyH.nil
  go_simp
  go_at_call 11
  refine (adv_any a x2 0 HXx2 (by unfold I64; omega) _ HD.out.tp).mono ?_
  rintro e w5 ⟨A2, hAe, -, hA, hs⟩
  have HDn := Lib.hid (HD.out.adv hs hA)
  obtain ⟨r2, q2, cp2, L2, C2, pL2, cL2, pC2, cC2⟩ := A2
  subst hAe
  unfold Ad.val
  clear hA hs HD
  have HD := HDn
  clear HDn
  refine hK.out _ _ (Lib.hid HD.out.bx) (fun hH2 => ?_)
  clear hK Kz hHeld
  have hHeld := hH2
  clear hH2
  (try simp only [Act.put, List.setIfInBounds_toArray, List.set_cons_zero, List.set_cons_succ])
  refine wpAnyH_ready (rs := [10]) (by kernel_rfl) (by simp) ?_
  refine AllReadyH.cons (o := { dst := some 21, op := Op.call { callee := Callee.value (Operand.func 12), args := #[Operand.tmp 20, Operand.const (Value.int IntKind.i64 1), Operand.const (Value.int IntKind.i64 2)], argTypes := #[27, 3, 3] }, type := 3, pos := "law.go:26", after := #[{ on := 9, ground := Ground.data }, { on := 7, ground := Ground.chain }], guard := none }) rfl (fun Kz hK => ?_) AllReadyH.nil
  go_simp
  go_at_call 12
  refine (range_any a 1 2 (by omega) (by omega) (by omega) (by omega) _ HD.out.tp).mono ?_
  rintro e w5 ⟨x3, rfl, hx, hs⟩
  have HXx3 : I64 x3 := by unfold I64; unfold RangeOf at hx; omega
  have HDn := Lib.hid (HD.out.tape hs)
  clear hs HD hx
  have HD := HDn
  clear HDn
  refine hK.out _ _ (Lib.hid HD.out.bx) (fun hH2 => ?_)
  clear hK Kz hHeld
  have hHeld := hH2
  clear hH2
  (try simp only [Act.put, List.setIfInBounds_toArray, List.set_cons_zero, List.set_cons_succ])
  refine wpAnyH_ready (rs := [11]) (by kernel_rfl) (by simp) ?_
  refine AllReadyH.cons (o := { dst := some 22, op := Op.call { callee := Callee.value (Operand.func 11), args := #[Operand.tmp 19, Operand.tmp 21, Operand.const (Value.int IntKind.i64 0)], argTypes := #[27, 3, 3] }, type := 26, pos := "law.go:26", after := #[{ on := 8, ground := Ground.data }, { on := 10, ground := Ground.data }, { on := 10, ground := Ground.chain }], guard := none }) rfl (fun Kz hK => ?_) AllReadyH.nil
  go_simp
  go_at_call 11
  refine (adv_any a x3 0 HXx3 (by unfold I64; omega) _ HD.out.tp).mono ?_
  rintro e w5 ⟨A3, hAe, -, hA, hs⟩
  have HDn := Lib.hid (HD.out.adv hs hA)
  obtain ⟨r3, q3, cp3, L3, C3, pL3, cL3, pC3, cC3⟩ := A3
  subst hAe
  unfold Ad.val
  clear hA hs HD
  have HD := HDn
  clear HDn
  refine hK.out _ _ (Lib.hid HD.out.bx) (fun hH2 => ?_)
  clear hK Kz hHeld
  have hHeld := hH2
  clear hH2
  (try simp only [Act.put, List.setIfInBounds_toArray, List.set_cons_zero, List.set_cons_succ])
  refine wpAnyH_ready (rs := [13]) (by kernel_rfl) (by simp) ?_
  refine AllReadyH.cons (o := { dst := some 24, op := Op.buildSlice 31 4 #[(0, Operand.tmp 14), (1, Operand.tmp 18), (2, Operand.tmp 22), (3, Operand.tmp 23)], type := 31, pos := "law.go:26", after := #[{ on := 3, ground := Ground.data }, { on := 7, ground := Ground.data }, { on := 11, ground := Ground.data }, { on := 12, ground := Ground.data }], guard := none }) rfl (fun Kz hK => ?_) AllReadyH.nil
  go_simp
  have HV := Lib.hid (OV.start (W := w) (a := a) (raw := raw) (A := ⟨r1, q1, cp1, L1, C1, pL1, cL1, pC1, cC1⟩) (B := ⟨r2, q2, cp2, L2, C2, pL2, cL2, pC2, cC2⟩) (C := ⟨r3, q3, cp3, L3, C3, pL3, cL3, pC3, cC3⟩) (t := 26) HD.out (cs := #[.int .i64 r1, .int .i64 q1, .bool cp1, .slice pL1 L1.length cL1, .slice pC1 C1.length cC1, .int .i64 r2, .int .i64 q2, .bool cp2, .slice pL2 L2.length cL2, .slice pC2 C2.length cC2, .int .i64 r3, .int .i64 q3, .bool cp3, .slice pL3 L3.length cL3, .slice pC3 C3.length cC3, .int .i64 rr, .int .i64 rq, .bool rcp, .slice rpL rL.length rcL, .slice rpC rC.length rcC]) (by rw [HRC.out]; rfl))
  clear HD
  refine hK.out _ _ (Lib.hid HV.out.bx) (fun hH2 => ?_)
  clear hK Kz hHeld
  have hHeld := hH2
  clear hH2
  (try simp only [Act.put, List.setIfInBounds_toArray, List.set_cons_zero, List.set_cons_succ])
  refine wpAnyH_take (i := 14) (oi := { dst := some 6, op := Op.assign (Operand.tmp 24), type := 31, pos := "law.go:26", after := #[{ on := 13, ground := Ground.data }, { on := 11, ground := Ground.chain }, { on := 0, ground := Ground.phase }, { on := 1, ground := Ground.phase }, { on := 2, ground := Ground.phase }, { on := 3, ground := Ground.phase }, { on := 4, ground := Ground.phase }, { on := 5, ground := Ground.phase }, { on := 6, ground := Ground.phase }, { on := 7, ground := Ground.phase }, { on := 8, ground := Ground.phase }, { on := 9, ground := Ground.phase }, { on := 10, ground := Ground.phase }, { on := 11, ground := Ground.phase }, { on := 12, ground := Ground.phase }, { on := 13, ground := Ground.phase }], guard := none }) (v := ?_) rfl (by kernel_rfl) (by kernel_rfl) (by kernel_rfl) (fun _ _ _ h => h) (Or.inl ⟨by rfl, ?_⟩) hHeld ?_
  rotate_left 1
  · intro u hSu
    have hbx := hSu.out
    rw [HRC.out] at hbx
    obtain ⟨q0, q1, q2, q3, q4⟩ := row5 hbx
    go_simp
    first | done | with_reducible rfl
  (try simp only [Act.put, List.setIfInBounds_toArray, List.set_cons_zero, List.set_cons_succ])
  refine wpAnyH_done (by kernel_rfl) ?_ _
  clear hHeld
  go_upto_region 3 with fail
  generalize w5.alloc _ = w6 at *
  generalize w5.heap.size = D at *
  obtain ⟨l, hl, hll⟩ : ∃ l : List Ad, l = [⟨r1, q1, cp1, L1, C1, pL1, cL1, pC1, cC1⟩, ⟨r2, q2, cp2, L2, C2, pL2, cL2, pC2, cC2⟩, ⟨r3, q3, cp3, L3, C3, pL3, cL3, pC3, cC3⟩, raw] ∧ l.length = 4 := ⟨_, rfl, rfl⟩
  rw [← hl] at HV
  clear hl
  have HL := Lib.hid hll
  clear hll
  have HVh : Hid (∀ A ∈ l, ∀ wz, Hid (OV w D raw l wz) → Calls Tryd.prog 14 #[A.val] wz fun e w' => e = .returned (.bool (vAd A)) ∧ Hid (OV w D raw l w')) := Lib.hid (fun A hA wz H => by
    obtain ⟨q, hq⟩ := H.out.ok A hA
    exact (avalid_any A q wz hq).mono (by rintro e w' ⟨rfl, hg⟩; exact ⟨rfl, Lib.hid (H.out.keep hg)⟩))
  have HWh : Hid (∀ A ∈ l, ∀ wz, Hid (OV w D raw l wz) → Calls Tryd.prog 15 #[A.val] wz fun e w' => e = .returned (.bool (vAd A)) ∧ Hid (OV w D raw l w')) := Lib.hid (fun A hA wz H => by
    obtain ⟨q, hq⟩ := H.out.ok A hA
    exact (rvalidA_any A q wz hq).mono (by rintro e w' ⟨rfl, hg⟩; exact ⟨rfl, Lib.hid (H.out.keep hg)⟩))
  have HSh : Hid (∀ A B : Ad, A ∈ l → B ∈ l → ∀ wz, Hid (OV w D raw l wz) → Calls Tryd.prog 16 #[A.val, B.val] wz fun e w' => e = .returned (.bool (decide (cmpA A B = 0))) ∧ Hid (OV w D raw l w')) := Lib.hid (fun A B hA hB wz H => by
    obtain ⟨q, hq⟩ := H.out.ok A hA
    obtain ⟨q', hq'⟩ := H.out.ok B hB
    exact (asame_any A B q q' wz hq hq').mono (by rintro e w' ⟨rfl, hg⟩; exact ⟨rfl, Lib.hid (H.out.keep hg)⟩))
  have HRh : Hid (∀ A B : Ad, A ∈ l → B ∈ l → ∀ wz, Hid (OV w D raw l wz) → Calls Tryd.prog 17 #[A.val, B.val] wz fun e w' => e = .returned (.bool (decide (cmpA A B = 0))) ∧ Hid (OV w D raw l w')) := Lib.hid (fun A B hA hB wz H => by
    obtain ⟨q, hq⟩ := H.out.ok A hA
    obtain ⟨q', hq'⟩ := H.out.ok B hB
    exact (rsame_any A B q q' wz hq hq').mono (by rintro e w' ⟨rfl, hg⟩; exact ⟨rfl, Lib.hid (H.out.keep hg)⟩))
  have HBh : Hid (∀ wz, Hid (OV w D raw l wz) → Calls Tryd.prog 13 #[.agg #[.int .i64 rr, .int .i64 rq, .bool rcp, .slice rpL rL.length rcL, .slice rpC rC.length rcC]] wz fun e w' => e = .returned (.bool (bgA raw)) ∧ Hid (OV w D raw l w')) := Lib.hid (fun wz H => by
    obtain ⟨q, hq⟩ := H.out.rk
    have h := abig_any raw q wz hq
    rw [HRV.out] at h
    exact h.mono (by rintro e w' ⟨rfl, hg⟩; exact ⟨rfl, Lib.hid (H.out.keep hg)⟩))
  obtain ⟨g, hg⟩ : ∃ g, bgA raw = g := ⟨_, rfl⟩
  rw [hg] at HBh
  clear hg
  go_wp2_with fail
  go_loopw [7] (fun i wr => ∃ k : Nat, k ≤ 4 ∧ i = .int .i64 (k : Int) ∧ Hid (OV w D raw l wr)) (fun i _ => 4 - (RowKit.intOf i).toNat)
  case atStart => exact ⟨0, by omega, rfl, HV⟩
  case round =>
    obtain ⟨i, hi4, rfl, HI⟩ := hrel
    clear HV
    by_cases hli : (i : Int) < 4
    · have hlib : decide ((i : Int) < 4) = true := decide_eq_true hli
      obtain ⟨A, hA⟩ : ∃ A, l[i]? = some A := ⟨_, List.getElem?_eq_getElem (by rw [HL.out]; omega)⟩
      have HA := Lib.hid (And.intro hA (List.mem_of_getElem? hA))
      clear hA
      have hbx := HI.out.bx
      rw [HRC.out] at hbx
      obtain ⟨q0, q1', q2', q3', q4⟩ := row5 hbx
      clear hbx
      go_wp2_with fail
      refine (HBh.out wr HI).mono ?_
      rintro e wi ⟨rfl, HJ⟩
      clear q0 q1' q2' q3' q4 HI
      cases g
      · go_upto_region 6 with fail
        have HD := Lib.hid (HJ.out.keep (grown_drew (grown_refl wi none)))
        clear HJ
        refine wp_region_held_drew (S := fun w' => Hid (OV w D raw l w')) (by kernel_rfl) (HD) (fun hHeld => ?_)
        refine wpAnyH_take (i := 0) (oi := { dst := some 36, op := Op.move (Operand.tmp 6), type := 31, pos := "law.go:28", after := #[], guard := none }) (v := ?_) rfl (by kernel_rfl) (by kernel_rfl) (by kernel_rfl) (fun _ _ _ h => h) (Or.inl ⟨by rfl, ?_⟩) hHeld ?_
        rotate_left 1
        · intro u hSu
          obtain ⟨qHA0, qHA1, qHA2, qHA3, qHA4⟩ := hSu.out.cells HA.out.1
          go_simp
          first | done | with_reducible rfl
        (try simp only [Act.put, List.setIfInBounds_toArray, List.set_cons_zero, List.set_cons_succ])
        refine wpAnyH_take (i := 1) (oi := { dst := some 37, op := Op.move (Operand.tmp 7), type := 3, pos := "law.go:28", after := #[], guard := none }) (v := ?_) rfl (by kernel_rfl) (by kernel_rfl) (by kernel_rfl) (fun _ _ _ h => h) (Or.inl ⟨by rfl, ?_⟩) hHeld ?_
        rotate_left 1
        · intro u hSu
          obtain ⟨qHA0, qHA1, qHA2, qHA3, qHA4⟩ := hSu.out.cells HA.out.1
          go_simp
          first | done | with_reducible rfl
        (try simp only [Act.put, List.setIfInBounds_toArray, List.set_cons_zero, List.set_cons_succ])
        refine wpAnyH_take (i := 2) (oi := { dst := some 38, op := Op.indexAddr 31 (Operand.tmp 36) (Operand.tmp 37), type := 0, pos := "law.go:28", after := #[{ on := 0, ground := Ground.data }, { on := 1, ground := Ground.data }], guard := none }) (v := ?_) rfl (by kernel_rfl) (by kernel_rfl) (by kernel_rfl) (fun _ _ _ h => h) (Or.inl ⟨by rfl, ?_⟩) hHeld ?_
        rotate_left 1
        · intro u hSu
          obtain ⟨qHA0, qHA1, qHA2, qHA3, qHA4⟩ := hSu.out.cells HA.out.1
          go_simp
          first | done | with_reducible rfl
        (try simp only [Act.put, List.setIfInBounds_toArray, List.set_cons_zero, List.set_cons_succ])
        refine wpAnyH_take (i := 3) (oi := { dst := some 39, op := Op.load 26 (Operand.tmp 38), type := 26, pos := "law.go:28", after := #[{ on := 2, ground := Ground.data }], guard := none }) (v := ?_) rfl (by kernel_rfl) (by kernel_rfl) (by kernel_rfl) (fun _ _ _ h => h) (Or.inl ⟨by rfl, ?_⟩) hHeld ?_
        rotate_left 1
        · intro u hSu
          obtain ⟨qHA0, qHA1, qHA2, qHA3, qHA4⟩ := hSu.out.cells HA.out.1
          go_simp
          first | done | with_reducible rfl
        (try simp only [Act.put, List.setIfInBounds_toArray, List.set_cons_zero, List.set_cons_succ])
        refine wpAnyH_take (i := 5) (oi := { dst := some 41, op := Op.move (Operand.tmp 6), type := 31, pos := "law.go:28", after := #[], guard := none }) (v := ?_) rfl (by kernel_rfl) (by kernel_rfl) (by kernel_rfl) (fun _ _ _ h => h) (Or.inl ⟨by rfl, ?_⟩) hHeld ?_
        rotate_left 1
        · intro u hSu
          obtain ⟨qHA0, qHA1, qHA2, qHA3, qHA4⟩ := hSu.out.cells HA.out.1
          go_simp
          first | done | with_reducible rfl
        (try simp only [Act.put, List.setIfInBounds_toArray, List.set_cons_zero, List.set_cons_succ])
        refine wpAnyH_take (i := 6) (oi := { dst := some 42, op := Op.move (Operand.tmp 7), type := 3, pos := "law.go:28", after := #[], guard := none }) (v := ?_) rfl (by kernel_rfl) (by kernel_rfl) (by kernel_rfl) (fun _ _ _ h => h) (Or.inl ⟨by rfl, ?_⟩) hHeld ?_
        rotate_left 1
        · intro u hSu
          obtain ⟨qHA0, qHA1, qHA2, qHA3, qHA4⟩ := hSu.out.cells HA.out.1
          go_simp
          first | done | with_reducible rfl
        (try simp only [Act.put, List.setIfInBounds_toArray, List.set_cons_zero, List.set_cons_succ])
        refine wpAnyH_take (i := 7) (oi := { dst := some 43, op := Op.indexAddr 31 (Operand.tmp 41) (Operand.tmp 42), type := 0, pos := "law.go:28", after := #[{ on := 5, ground := Ground.data }, { on := 6, ground := Ground.data }], guard := none }) (v := ?_) rfl (by kernel_rfl) (by kernel_rfl) (by kernel_rfl) (fun _ _ _ h => h) (Or.inl ⟨by rfl, ?_⟩) hHeld ?_
        rotate_left 1
        · intro u hSu
          obtain ⟨qHA0, qHA1, qHA2, qHA3, qHA4⟩ := hSu.out.cells HA.out.1
          go_simp
          first | done | with_reducible rfl
        (try simp only [Act.put, List.setIfInBounds_toArray, List.set_cons_zero, List.set_cons_succ])
        refine wpAnyH_take (i := 8) (oi := { dst := some 44, op := Op.load 26 (Operand.tmp 43), type := 26, pos := "law.go:28", after := #[{ on := 7, ground := Ground.data }], guard := none }) (v := ?_) rfl (by kernel_rfl) (by kernel_rfl) (by kernel_rfl) (fun _ _ _ h => h) (Or.inl ⟨by rfl, ?_⟩) hHeld ?_
        rotate_left 1
        · intro u hSu
          obtain ⟨qHA0, qHA1, qHA2, qHA3, qHA4⟩ := hSu.out.cells HA.out.1
          go_simp
          first | done | with_reducible rfl
        (try simp only [Act.put, List.setIfInBounds_toArray, List.set_cons_zero, List.set_cons_succ])
        refine wpAnyH_ready (rs := [4]) (by kernel_rfl) (by simp) ?_
        refine AllReadyH.cons (o := { dst := some 40, op := Op.call { callee := Callee.value (Operand.func 14), args := #[Operand.tmp 39], argTypes := #[26] }, type := 4, pos := "law.go:28", after := #[{ on := 3, ground := Ground.data }], guard := none }) rfl (fun Kz hK => ?_) AllReadyH.nil
        go_simp
        refine (HVh.out _ HA.out.2 _ HD).mono ?_
        rintro e w5 ⟨rfl, HDn⟩
        clear HD
        have HD := HDn
        clear HDn
        refine hK.out _ _ (HD) (fun hH2 => ?_)
        clear hK Kz hHeld
        have hHeld := hH2
        clear hH2
        (try simp only [Act.put, List.setIfInBounds_toArray, List.set_cons_zero, List.set_cons_succ])
        refine wpAnyH_ready (rs := [9]) (by kernel_rfl) (by simp) ?_
        refine AllReadyH.cons (o := { dst := some 45, op := Op.call { callee := Callee.value (Operand.func 15), args := #[Operand.tmp 44], argTypes := #[26] }, type := 4, pos := "law.go:28", after := #[{ on := 8, ground := Ground.data }, { on := 4, ground := Ground.chain }], guard := none }) rfl (fun Kz hK => ?_) AllReadyH.nil
        go_simp
        refine (HWh.out _ HA.out.2 _ HD).mono ?_
        rintro e w5 ⟨rfl, HDn⟩
        clear HD
        have HD := HDn
        clear HDn
        refine hK.out _ _ (HD) (fun hH2 => ?_)
        clear hK Kz hHeld
        have hHeld := hH2
        clear hH2
        (try simp only [Act.put, List.setIfInBounds_toArray, List.set_cons_zero, List.set_cons_succ])
        refine wpAnyH_take (i := 10) (oi := { dst := some 46, op := Op.binOp BinOp.neq 4 (Operand.tmp 40) (Operand.tmp 45) 4, type := 4, pos := "law.go:28", after := #[{ on := 4, ground := Ground.data }, { on := 9, ground := Ground.data }], guard := none }) (v := .bool false) rfl (by kernel_rfl) (by kernel_rfl) (by kernel_rfl) (fun _ _ _ h => h) (Or.inl ⟨by rfl, ?_⟩) hHeld ?_
        · intro u hSu
          obtain ⟨qHA0, qHA1, qHA2, qHA3, qHA4⟩ := hSu.out.cells HA.out.1
          go_simp
          first | done | with_reducible rfl | simp
        (try simp only [Act.put, List.setIfInBounds_toArray, List.set_cons_zero, List.set_cons_succ])
        refine wpAnyH_done (by kernel_rfl) ?_ _
        clear hHeld
        go_wp2_with fail
        go_loopw [8] (fun i wr => ∃ k : Nat, k ≤ 4 ∧ i = .int .i64 (k : Int) ∧ Hid (OV w D raw l wr)) (fun i _ => 4 - (RowKit.intOf i).toNat)
        case atStart => exact ⟨0, by omega, rfl, HD⟩
        case round =>
          obtain ⟨k, hk4, rfl, HKK⟩ := hrel
          clear HD
          by_cases hlk : (k : Int) < 4
          · have hlkb : decide ((k : Int) < 4) = true := decide_eq_true hlk
            obtain ⟨B, hB⟩ : ∃ B, l[k]? = some B := ⟨_, List.getElem?_eq_getElem (by rw [HL.out]; omega)⟩
            have HB := Lib.hid (And.intro hB (List.mem_of_getElem? hB))
            clear hB
            go_upto_region 11 with fail
            have HD := Lib.hid (HKK.out.keep (grown_drew (grown_refl wr none)))
            clear HKK
            refine wp_region_held_drew (S := fun w' => Hid (OV w D raw l w')) (by kernel_rfl) (HD) (fun hHeld => ?_)
            refine wpAnyH_take (i := 0) (oi := { dst := some 53, op := Op.move (Operand.tmp 6), type := 31, pos := "law.go:32", after := #[], guard := none }) (v := ?_) rfl (by kernel_rfl) (by kernel_rfl) (by kernel_rfl) (fun _ _ _ h => h) (Or.inl ⟨by rfl, ?_⟩) hHeld ?_
            rotate_left 1
            · intro u hSu
              obtain ⟨qHA0, qHA1, qHA2, qHA3, qHA4⟩ := hSu.out.cells HA.out.1
              obtain ⟨qHB0, qHB1, qHB2, qHB3, qHB4⟩ := hSu.out.cells HB.out.1
              go_simp
              first | done | with_reducible rfl
            (try simp only [Act.put, List.setIfInBounds_toArray, List.set_cons_zero, List.set_cons_succ])
            refine wpAnyH_take (i := 1) (oi := { dst := some 54, op := Op.move (Operand.tmp 7), type := 3, pos := "law.go:32", after := #[], guard := none }) (v := ?_) rfl (by kernel_rfl) (by kernel_rfl) (by kernel_rfl) (fun _ _ _ h => h) (Or.inl ⟨by rfl, ?_⟩) hHeld ?_
            rotate_left 1
            · intro u hSu
              obtain ⟨qHA0, qHA1, qHA2, qHA3, qHA4⟩ := hSu.out.cells HA.out.1
              obtain ⟨qHB0, qHB1, qHB2, qHB3, qHB4⟩ := hSu.out.cells HB.out.1
              go_simp
              first | done | with_reducible rfl
            (try simp only [Act.put, List.setIfInBounds_toArray, List.set_cons_zero, List.set_cons_succ])
            refine wpAnyH_take (i := 2) (oi := { dst := some 55, op := Op.indexAddr 31 (Operand.tmp 53) (Operand.tmp 54), type := 0, pos := "law.go:32", after := #[{ on := 0, ground := Ground.data }, { on := 1, ground := Ground.data }], guard := none }) (v := ?_) rfl (by kernel_rfl) (by kernel_rfl) (by kernel_rfl) (fun _ _ _ h => h) (Or.inl ⟨by rfl, ?_⟩) hHeld ?_
            rotate_left 1
            · intro u hSu
              obtain ⟨qHA0, qHA1, qHA2, qHA3, qHA4⟩ := hSu.out.cells HA.out.1
              obtain ⟨qHB0, qHB1, qHB2, qHB3, qHB4⟩ := hSu.out.cells HB.out.1
              go_simp
              first | done | with_reducible rfl
            (try simp only [Act.put, List.setIfInBounds_toArray, List.set_cons_zero, List.set_cons_succ])
            refine wpAnyH_take (i := 3) (oi := { dst := some 56, op := Op.load 26 (Operand.tmp 55), type := 26, pos := "law.go:32", after := #[{ on := 2, ground := Ground.data }], guard := none }) (v := ?_) rfl (by kernel_rfl) (by kernel_rfl) (by kernel_rfl) (fun _ _ _ h => h) (Or.inl ⟨by rfl, ?_⟩) hHeld ?_
            rotate_left 1
            · intro u hSu
              obtain ⟨qHA0, qHA1, qHA2, qHA3, qHA4⟩ := hSu.out.cells HA.out.1
              obtain ⟨qHB0, qHB1, qHB2, qHB3, qHB4⟩ := hSu.out.cells HB.out.1
              go_simp
              first | done | with_reducible rfl
            (try simp only [Act.put, List.setIfInBounds_toArray, List.set_cons_zero, List.set_cons_succ])
            refine wpAnyH_take (i := 4) (oi := { dst := some 57, op := Op.move (Operand.tmp 6), type := 31, pos := "law.go:32", after := #[], guard := none }) (v := ?_) rfl (by kernel_rfl) (by kernel_rfl) (by kernel_rfl) (fun _ _ _ h => h) (Or.inl ⟨by rfl, ?_⟩) hHeld ?_
            rotate_left 1
            · intro u hSu
              obtain ⟨qHA0, qHA1, qHA2, qHA3, qHA4⟩ := hSu.out.cells HA.out.1
              obtain ⟨qHB0, qHB1, qHB2, qHB3, qHB4⟩ := hSu.out.cells HB.out.1
              go_simp
              first | done | with_reducible rfl
            (try simp only [Act.put, List.setIfInBounds_toArray, List.set_cons_zero, List.set_cons_succ])
            refine wpAnyH_take (i := 5) (oi := { dst := some 58, op := Op.move (Operand.tmp 8), type := 3, pos := "law.go:32", after := #[], guard := none }) (v := ?_) rfl (by kernel_rfl) (by kernel_rfl) (by kernel_rfl) (fun _ _ _ h => h) (Or.inl ⟨by rfl, ?_⟩) hHeld ?_
            rotate_left 1
            · intro u hSu
              obtain ⟨qHA0, qHA1, qHA2, qHA3, qHA4⟩ := hSu.out.cells HA.out.1
              obtain ⟨qHB0, qHB1, qHB2, qHB3, qHB4⟩ := hSu.out.cells HB.out.1
              go_simp
              first | done | with_reducible rfl
            (try simp only [Act.put, List.setIfInBounds_toArray, List.set_cons_zero, List.set_cons_succ])
            refine wpAnyH_take (i := 6) (oi := { dst := some 59, op := Op.indexAddr 31 (Operand.tmp 57) (Operand.tmp 58), type := 0, pos := "law.go:32", after := #[{ on := 4, ground := Ground.data }, { on := 5, ground := Ground.data }], guard := none }) (v := ?_) rfl (by kernel_rfl) (by kernel_rfl) (by kernel_rfl) (fun _ _ _ h => h) (Or.inl ⟨by rfl, ?_⟩) hHeld ?_
            rotate_left 1
            · intro u hSu
              obtain ⟨qHA0, qHA1, qHA2, qHA3, qHA4⟩ := hSu.out.cells HA.out.1
              obtain ⟨qHB0, qHB1, qHB2, qHB3, qHB4⟩ := hSu.out.cells HB.out.1
              go_simp
              first | done | with_reducible rfl
            (try simp only [Act.put, List.setIfInBounds_toArray, List.set_cons_zero, List.set_cons_succ])
            refine wpAnyH_take (i := 7) (oi := { dst := some 60, op := Op.load 26 (Operand.tmp 59), type := 26, pos := "law.go:32", after := #[{ on := 6, ground := Ground.data }], guard := none }) (v := ?_) rfl (by kernel_rfl) (by kernel_rfl) (by kernel_rfl) (fun _ _ _ h => h) (Or.inl ⟨by rfl, ?_⟩) hHeld ?_
            rotate_left 1
            · intro u hSu
              obtain ⟨qHA0, qHA1, qHA2, qHA3, qHA4⟩ := hSu.out.cells HA.out.1
              obtain ⟨qHB0, qHB1, qHB2, qHB3, qHB4⟩ := hSu.out.cells HB.out.1
              go_simp
              first | done | with_reducible rfl
            (try simp only [Act.put, List.setIfInBounds_toArray, List.set_cons_zero, List.set_cons_succ])
            refine wpAnyH_take (i := 9) (oi := { dst := some 62, op := Op.move (Operand.tmp 6), type := 31, pos := "law.go:32", after := #[], guard := none }) (v := ?_) rfl (by kernel_rfl) (by kernel_rfl) (by kernel_rfl) (fun _ _ _ h => h) (Or.inl ⟨by rfl, ?_⟩) hHeld ?_
            rotate_left 1
            · intro u hSu
              obtain ⟨qHA0, qHA1, qHA2, qHA3, qHA4⟩ := hSu.out.cells HA.out.1
              obtain ⟨qHB0, qHB1, qHB2, qHB3, qHB4⟩ := hSu.out.cells HB.out.1
              go_simp
              first | done | with_reducible rfl
            (try simp only [Act.put, List.setIfInBounds_toArray, List.set_cons_zero, List.set_cons_succ])
            refine wpAnyH_take (i := 10) (oi := { dst := some 63, op := Op.move (Operand.tmp 7), type := 3, pos := "law.go:32", after := #[], guard := none }) (v := ?_) rfl (by kernel_rfl) (by kernel_rfl) (by kernel_rfl) (fun _ _ _ h => h) (Or.inl ⟨by rfl, ?_⟩) hHeld ?_
            rotate_left 1
            · intro u hSu
              obtain ⟨qHA0, qHA1, qHA2, qHA3, qHA4⟩ := hSu.out.cells HA.out.1
              obtain ⟨qHB0, qHB1, qHB2, qHB3, qHB4⟩ := hSu.out.cells HB.out.1
              go_simp
              first | done | with_reducible rfl
            (try simp only [Act.put, List.setIfInBounds_toArray, List.set_cons_zero, List.set_cons_succ])
            refine wpAnyH_take (i := 11) (oi := { dst := some 64, op := Op.indexAddr 31 (Operand.tmp 62) (Operand.tmp 63), type := 0, pos := "law.go:32", after := #[{ on := 9, ground := Ground.data }, { on := 10, ground := Ground.data }], guard := none }) (v := ?_) rfl (by kernel_rfl) (by kernel_rfl) (by kernel_rfl) (fun _ _ _ h => h) (Or.inl ⟨by rfl, ?_⟩) hHeld ?_
            rotate_left 1
            · intro u hSu
              obtain ⟨qHA0, qHA1, qHA2, qHA3, qHA4⟩ := hSu.out.cells HA.out.1
              obtain ⟨qHB0, qHB1, qHB2, qHB3, qHB4⟩ := hSu.out.cells HB.out.1
              go_simp
              first | done | with_reducible rfl
            (try simp only [Act.put, List.setIfInBounds_toArray, List.set_cons_zero, List.set_cons_succ])
            refine wpAnyH_take (i := 12) (oi := { dst := some 65, op := Op.load 26 (Operand.tmp 64), type := 26, pos := "law.go:32", after := #[{ on := 11, ground := Ground.data }], guard := none }) (v := ?_) rfl (by kernel_rfl) (by kernel_rfl) (by kernel_rfl) (fun _ _ _ h => h) (Or.inl ⟨by rfl, ?_⟩) hHeld ?_
            rotate_left 1
            · intro u hSu
              obtain ⟨qHA0, qHA1, qHA2, qHA3, qHA4⟩ := hSu.out.cells HA.out.1
              obtain ⟨qHB0, qHB1, qHB2, qHB3, qHB4⟩ := hSu.out.cells HB.out.1
              go_simp
              first | done | with_reducible rfl
            (try simp only [Act.put, List.setIfInBounds_toArray, List.set_cons_zero, List.set_cons_succ])
            refine wpAnyH_take (i := 13) (oi := { dst := some 66, op := Op.move (Operand.tmp 6), type := 31, pos := "law.go:32", after := #[], guard := none }) (v := ?_) rfl (by kernel_rfl) (by kernel_rfl) (by kernel_rfl) (fun _ _ _ h => h) (Or.inl ⟨by rfl, ?_⟩) hHeld ?_
            rotate_left 1
            · intro u hSu
              obtain ⟨qHA0, qHA1, qHA2, qHA3, qHA4⟩ := hSu.out.cells HA.out.1
              obtain ⟨qHB0, qHB1, qHB2, qHB3, qHB4⟩ := hSu.out.cells HB.out.1
              go_simp
              first | done | with_reducible rfl
            (try simp only [Act.put, List.setIfInBounds_toArray, List.set_cons_zero, List.set_cons_succ])
            refine wpAnyH_take (i := 14) (oi := { dst := some 67, op := Op.move (Operand.tmp 8), type := 3, pos := "law.go:32", after := #[], guard := none }) (v := ?_) rfl (by kernel_rfl) (by kernel_rfl) (by kernel_rfl) (fun _ _ _ h => h) (Or.inl ⟨by rfl, ?_⟩) hHeld ?_
            rotate_left 1
            · intro u hSu
              obtain ⟨qHA0, qHA1, qHA2, qHA3, qHA4⟩ := hSu.out.cells HA.out.1
              obtain ⟨qHB0, qHB1, qHB2, qHB3, qHB4⟩ := hSu.out.cells HB.out.1
              go_simp
              first | done | with_reducible rfl
            (try simp only [Act.put, List.setIfInBounds_toArray, List.set_cons_zero, List.set_cons_succ])
            refine wpAnyH_take (i := 15) (oi := { dst := some 68, op := Op.indexAddr 31 (Operand.tmp 66) (Operand.tmp 67), type := 0, pos := "law.go:32", after := #[{ on := 13, ground := Ground.data }, { on := 14, ground := Ground.data }], guard := none }) (v := ?_) rfl (by kernel_rfl) (by kernel_rfl) (by kernel_rfl) (fun _ _ _ h => h) (Or.inl ⟨by rfl, ?_⟩) hHeld ?_
            rotate_left 1
            · intro u hSu
              obtain ⟨qHA0, qHA1, qHA2, qHA3, qHA4⟩ := hSu.out.cells HA.out.1
              obtain ⟨qHB0, qHB1, qHB2, qHB3, qHB4⟩ := hSu.out.cells HB.out.1
              go_simp
              first | done | with_reducible rfl
            (try simp only [Act.put, List.setIfInBounds_toArray, List.set_cons_zero, List.set_cons_succ])
            refine wpAnyH_take (i := 16) (oi := { dst := some 69, op := Op.load 26 (Operand.tmp 68), type := 26, pos := "law.go:32", after := #[{ on := 15, ground := Ground.data }], guard := none }) (v := ?_) rfl (by kernel_rfl) (by kernel_rfl) (by kernel_rfl) (fun _ _ _ h => h) (Or.inl ⟨by rfl, ?_⟩) hHeld ?_
            rotate_left 1
            · intro u hSu
              obtain ⟨qHA0, qHA1, qHA2, qHA3, qHA4⟩ := hSu.out.cells HA.out.1
              obtain ⟨qHB0, qHB1, qHB2, qHB3, qHB4⟩ := hSu.out.cells HB.out.1
              go_simp
              first | done | with_reducible rfl
            (try simp only [Act.put, List.setIfInBounds_toArray, List.set_cons_zero, List.set_cons_succ])
            refine wpAnyH_ready (rs := [8]) (by kernel_rfl) (by simp) ?_
            refine AllReadyH.cons (o := { dst := some 61, op := Op.call { callee := Callee.value (Operand.func 16), args := #[Operand.tmp 56, Operand.tmp 60], argTypes := #[26, 26] }, type := 4, pos := "law.go:32", after := #[{ on := 3, ground := Ground.data }, { on := 7, ground := Ground.data }], guard := none }) rfl (fun Kz hK => ?_) AllReadyH.nil
            go_simp
            refine (HSh.out _ _ HA.out.2 HB.out.2 _ HD).mono ?_
            rintro e w5 ⟨rfl, HDn⟩
            clear HD
            have HD := HDn
            clear HDn
            refine hK.out _ _ (HD) (fun hH2 => ?_)
            clear hK Kz hHeld
            have hHeld := hH2
            clear hH2
            (try simp only [Act.put, List.setIfInBounds_toArray, List.set_cons_zero, List.set_cons_succ])
            refine wpAnyH_ready (rs := [17]) (by kernel_rfl) (by simp) ?_
            refine AllReadyH.cons (o := { dst := some 70, op := Op.call { callee := Callee.value (Operand.func 17), args := #[Operand.tmp 65, Operand.tmp 69], argTypes := #[26, 26] }, type := 4, pos := "law.go:32", after := #[{ on := 12, ground := Ground.data }, { on := 16, ground := Ground.data }, { on := 8, ground := Ground.chain }], guard := none }) rfl (fun Kz hK => ?_) AllReadyH.nil
            go_simp
            refine (HRh.out _ _ HA.out.2 HB.out.2 _ HD).mono ?_
            rintro e w5 ⟨rfl, HDn⟩
            clear HD
            have HD := HDn
            clear HDn
            refine hK.out _ _ (HD) (fun hH2 => ?_)
            clear hK Kz hHeld
            have hHeld := hH2
            clear hH2
            (try simp only [Act.put, List.setIfInBounds_toArray, List.set_cons_zero, List.set_cons_succ])
            refine wpAnyH_take (i := 18) (oi := { dst := some 71, op := Op.binOp BinOp.neq 4 (Operand.tmp 61) (Operand.tmp 70) 4, type := 4, pos := "law.go:32", after := #[{ on := 8, ground := Ground.data }, { on := 17, ground := Ground.data }], guard := none }) (v := .bool false) rfl (by kernel_rfl) (by kernel_rfl) (by kernel_rfl) (fun _ _ _ h => h) (Or.inl ⟨by rfl, ?_⟩) hHeld ?_
            · intro u hSu
              obtain ⟨qHA0, qHA1, qHA2, qHA3, qHA4⟩ := hSu.out.cells HA.out.1
              obtain ⟨qHB0, qHB1, qHB2, qHB3, qHB4⟩ := hSu.out.cells HB.out.1
              go_simp
              first | done | with_reducible rfl | simp
            (try simp only [Act.put, List.setIfInBounds_toArray, List.set_cons_zero, List.set_cons_succ])
            refine wpAnyH_done (by kernel_rfl) ?_ _
            clear hHeld
            go_wp2_with fail
            exact ⟨⟨k + 1, by omega, congrArg _ (by omega), HD⟩, by simp only [RowKit.intOf]; omega⟩
          · go_wp2_with fail
            first
            | exact ⟨⟨i + 1, by omega, congrArg _ (by omega), HKK⟩, by simp only [RowKit.intOf]; omega⟩
            | (go_roundw; case rel => exact ⟨i + 1, by omega, by go_num, HKK⟩; case measure => simp [RowKit.intOf]; omega)
      · go_wp2_with fail
        refine (aawake_any _ (HTB.out.keep HJ.out.gr)).mono ?_
        rintro e w9 ⟨rfl, hg⟩
        have HF := Lib.hid (grown_trans HJ.out.gr hg)
        clear hg HJ
        go_wp2_with fail
        go_ret
        exact ⟨rfl, HF.out⟩
    · go_wp2_with fail
      refine (aawake_any _ (HTB.out.keep HI.out.gr)).mono ?_
      rintro e w9 ⟨rfl, hg⟩
      have HF := Lib.hid (grown_trans HI.out.gr hg)
      clear hg HI
      go_wp2_with fail
      go_ret
      exact ⟨rfl, HF.out⟩
end Go.Proofs.YtpoocenooomghaaDoor

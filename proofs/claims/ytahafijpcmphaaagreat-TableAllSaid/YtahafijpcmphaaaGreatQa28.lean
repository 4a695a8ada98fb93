/- Parts of the proof, packed: TaCaM, TaCa. -/
import Derived.Test.YtahafijpcmphaaaGreatQa19
import Derived.Test.YtahafijpcmphaaaGreatQa18
import Derived.Test.YtahafijpcmphaaaGreatQa25
import Derived.Test.YtahafijpcmphaaaGreatQa13
/- tables: slices of tables that are searched; CheckAll's closures. -/
namespace Go.Proofs.YtahafijpcmphaaaGreat
open Go.RowKit Bs
set_option maxRecDepth 100000 in
set_option maxHeartbeats 1600000 in
theorem tidxT_any (g : Nat) (lb : Array Value) (P : Tb → Bool) (eg : EnterF g) (R : List Tb) (p : Option Addr) (c : Nat) (q : Nat → Prop) (w : World) (hR : RdF w q (.slice p R.length c) R.length (R.flatMap tbC)) (hm : R.length ≤ 9223372036854775807)
    (hP : ∀ (r : Tb) (w' : World), r ∈ R → w.grownBy w' none → Calls Tryz.prog g (#[.agg #[.int .i64 r.r, .int .i64 r.s, .int .i64 r.n, .slice r.p r.L.length r.c]] ++ lb) w' fun e w2 => e = .returned (.bool (P r)) ∧ w'.grownBy w2 none) :
    Calls Tryz.prog 69 #[.slice p R.length c, .func (.func g) #[] lb] w fun e w' => ∃ i : Int, e = .returned (.int .i64 i) ∧ decide (0 ≤ i) = R.any P ∧ w.grownBy w' none := by
  have HR := Lib.hid hR
  have HP := Lib.hid hP
  clear hR hP
  go_enter Tryz.func69, Tryz.ntmps69
  go_wp2_with fail
  go_loopw [8] (fun a wr => ∃ k : Nat, k ≤ R.length ∧ a = .int .i64 (k : Int) ∧ Hid (w.grownBy wr none) ∧ Hid ((R.take k).any P = false)) (fun a _ => R.length - (RowKit.intOf a).toNat)
  case atStart => exact ⟨0, Nat.zero_le _, rfl, Lib.hid (grown_refl _ _), Lib.hid rfl⟩
  case round =>
    obtain ⟨k, hk, rfl, G, HN⟩ := hrel
    by_cases hlt : k < R.length
    · obtain ⟨x, hx⟩ : ∃ x, R[k]? = some x := ⟨_, List.getElem?_eq_getElem hlt⟩
      obtain ⟨-, b, off, rfl, hq, hc⟩ := tb_cells (HR.out.keep G.out) (by omega)
      obtain ⟨a0, a1, a2, a3⟩ := hc k x hx
      have HX := Lib.hid hx
      clear hc hx
      have hcall := HP.out x wr (List.mem_of_getElem? HX.out) G.out
      cases hp : P x
      · rw [hp] at hcall
        have HY := Lib.hid hp
        clear hp
        go_wp2_with (go_at_fn g; refine hcall.mono ?_; rintro e w' ⟨rfl, hg⟩; have HG := Lib.hid (grown_trans G.out hg); clear hg)
        exact ⟨⟨k + 1, by omega, congrArg _ (by omega), HG, Lib.hid (any_take HN.out HX.out HY.out)⟩, by simp only [RowKit.intOf]; omega⟩
      · rw [hp] at hcall
        have HY := Lib.hid hp
        clear hp
        go_wp2_with (go_at_fn g; refine hcall.mono ?_; rintro e w' ⟨rfl, hg⟩; have HG := Lib.hid (grown_trans G.out hg); clear hg)
        go_ret
        refine ⟨_, rfl, ?_, HG.out⟩
        rw [any_at HX.out HY.out, decide_eq_true_eq]; omega
    · obtain rfl : k = R.length := by omega
      go_wp2_with fail
      go_ret
      refine ⟨_, rfl, ?_, G.out⟩
      rw [any_end HN.out (Nat.le_refl _)]; decide
set_option maxRecDepth 100000 in
set_option maxHeartbeats 1600000 in
theorem tcontT_any (g : Nat) (lb : Array Value) (P : Tb → Bool) (eg : EnterF g) (R : List Tb) (p : Option Addr) (c : Nat) (q : Nat → Prop) (w : World) (hR : RdF w q (.slice p R.length c) R.length (R.flatMap tbC)) (hm : R.length ≤ 9223372036854775807)
    (hP : ∀ (r : Tb) (w' : World), r ∈ R → w.grownBy w' none → Calls Tryz.prog g (#[.agg #[.int .i64 r.r, .int .i64 r.s, .int .i64 r.n, .slice r.p r.L.length r.c]] ++ lb) w' fun e w2 => e = .returned (.bool (P r)) ∧ w'.grownBy w2 none) :
    Calls Tryz.prog 64 #[.slice p R.length c, .func (.func g) #[] lb] w fun e w' => e = .returned (.bool (R.any P)) ∧ w.grownBy w' none := by
  have HR := Lib.hid hR
  have HP := Lib.hid hP
  clear hR hP
  go_enter Tryz.func64, Tryz.ntmps64
  go_wp2_with (go_at_call 69; refine (tidxT_any g lb P eg R p c q w HR.out hm HP.out).mono ?_; rintro e w' ⟨i, rfl, hi, hg⟩; have HI := Lib.hid (And.intro hi hg); clear hi hg)
  go_ret
  rw [← HI.out.1]
  exact ⟨rfl, HI.out.2⟩
def ltTb (x y : Tb) : Bool := decide (x.r < y.r)
def caW (x : Tb) : Bool := ckT x.r x.s x.n x.L != 0
def cfTb (s n : Int) (x : Tb) : Bool := x.s != s || x.n != n
/-- What CheckAll returns. -/
def caT (Ts : List Tb) : Int :=
  if 24 < Ts.length then 3 else if Ts.any caW = true then 1 else if ascB ltTb Ts = false then 25 else if Ts.any (cfTb ((Ts.head?.map Tb.s).getD 0) ((Ts.head?.map Tb.n).getD 0)) = true then 8 else 0
set_option maxRecDepth 100000 in
set_option maxHeartbeats 1600000 in
theorem tca1_any (x : Tb) (q : Nat → Prop) (w : World) (hx : RdW w q x.p x.c x.L) (hm : x.L.length ≤ 9223372036854775807) :
    Calls Tryz.prog 65 #[.agg #[.int .i64 x.r, .int .i64 x.s, .int .i64 x.n, .slice x.p x.L.length x.c]] w fun e w' => e = .returned (.bool (caW x)) ∧ w.grownBy w' none := by
  obtain ⟨k1, k2⟩ := tone_box w #[.int .i64 x.r, .int .i64 x.s, .int .i64 x.n, .slice x.p x.L.length x.c] 25
  have HB := Lib.hid (And.intro k1 (And.intro k2 (hx.keep k2)))
  clear k1 k2 hx
  go_enter Tryz.func65, Tryz.ntmps65
  go_upto_region 1 with fail
  generalize w.alloc _ = w1 at *
  obtain ⟨d0, d1, d2, d3⟩ := row4T HB.out.1
  go_wp2_with fail
  refine (tcheckT_any x.r x.s x.n x.p x.c x.L _ w1 HB.out.2.2 hm).mono ?_
  rintro e w2 ⟨rfl, hg⟩
  have G := Lib.hid (grown_trans HB.out.2.1 hg)
  clear hg d0 d1 d2 d3
  simp only
  obtain ⟨z, hz⟩ : ∃ z, ckT x.r x.s x.n x.L = z := ⟨_, rfl⟩
  have HZ : Hid (caW x = (z != 0)) := Lib.hid (by unfold caW; rw [hz])
  rw [hz]
  clear hz
  go_wp2_with fail
  go_ret
  exact ⟨by rw [HZ.out]; rfl, G.out⟩
set_option maxRecDepth 100000 in
set_option maxHeartbeats 1600000 in
theorem tca2_any (x : Tb) (w : World) :
    Calls Tryz.prog 67 #[.agg #[.int .i64 x.r, .int .i64 x.s, .int .i64 x.n, .slice x.p x.L.length x.c]] w fun e w' => e = .returned (.int .i64 x.r) ∧ w.grownBy w' none := by
  obtain ⟨k1, k2⟩ := tone_box w #[.int .i64 x.r, .int .i64 x.s, .int .i64 x.n, .slice x.p x.L.length x.c] 25
  have HB := Lib.hid (And.intro k1 k2)
  clear k1 k2
  go_enter Tryz.func67, Tryz.ntmps67
  go_upto_region 1 with fail
  generalize w.alloc _ = w1 at *
  obtain ⟨d0, d1, d2, d3⟩ := row4T HB.out.1
  go_wp2_with fail
  go_ret
  exact ⟨rfl, HB.out.2⟩
set_option maxRecDepth 100000 in
set_option maxHeartbeats 3200000 in
theorem tca3_any (x : Tb) (g b off : Nat) (n c : Nat) (s0 n0 : Int) (w : World) (hg : w.heap[g]? = some (.cells #[.slice (some ⟨b, off, none⟩) n c] 29 (0, 0))) (hn : 0 < n) (h1 : w.cell? ⟨b, off + 1, none⟩ = some (.int .i64 s0)) (h2 : w.cell? ⟨b, off + 2, none⟩ = some (.int .i64 n0)) :
    Calls Tryz.prog 68 #[.agg #[.int .i64 x.r, .int .i64 x.s, .int .i64 x.n, .slice x.p x.L.length x.c], .pointer (some ⟨g, 0, none⟩)] w fun e w' => e = .returned (.bool (cfTb s0 n0 x)) ∧ w.grownBy w' none := by
  obtain ⟨k1, k2⟩ := tone_box w #[.int .i64 x.r, .int .i64 x.s, .int .i64 x.n, .slice x.p x.L.length x.c] 25
  have HB := Lib.hid (And.intro k1 (And.intro k2 (And.intro (kept_row hg k2 (by simp)) (And.intro (k2.cell h1 (by simp)) (k2.cell h2 (by simp))))))
  clear k1 k2 hg h1 h2
  go_enter Tryz.func68, Tryz.ntmps68
  go_upto_region 1 with fail
  generalize w.alloc _ = w1 at *
  have hn' : (0 : Int) < (n : Int) := by omega
  by_cases es : x.s = s0
  case neg =>
    have es' : (x.s != s0) = true := by simpa using es
    have HO : Hid (cfTb s0 n0 x = true) := Lib.hid (by unfold cfTb; rw [es']; rfl)
    clear es
    refine wp_region_held_drew (S := fun w' => Hid (w1.grownBy w' none)) (by kernel_rfl) (Lib.hid (grown_drew (grown_refl _ none))) (fun hHeld => ?_)
    refine wpAnyH_take (i := 0) (oi := { dst := some 4, op := Op.fieldAddr 25 (Operand.tmp 2) 1, type := 0, pos := "table.go:93", after := #[], guard := none }) (v := ?_) rfl (by kernel_rfl) (by kernel_rfl) (by kernel_rfl) (fun _ _ _ h => h) (Or.inl ⟨by rfl, ?_⟩) hHeld ?_
    rotate_left 1
    · intro u hSu
      obtain ⟨d0u, d1u, d2u, d3u⟩ := row4T (kept_row HB.out.1 hSu.out (by simp))
      have g0u : u.cell? ⟨g, 0, none⟩ = some (.slice (some ⟨b, off, none⟩) n c) := cell_of_row _ _ _ _ _ _ (kept_row HB.out.2.2.1 hSu.out (by simp))
      have c1u := hSu.out.cell HB.out.2.2.2.1 (by simp)
      have c2u := hSu.out.cell HB.out.2.2.2.2 (by simp)
      go_simp
      first | done | with_reducible rfl
    (try simp only [Act.put, List.setIfInBounds_toArray, List.set_cons_zero, List.set_cons_succ])
    refine wpAnyH_take (i := 1) (oi := { dst := some 5, op := Op.load 3 (Operand.tmp 4), type := 3, pos := "table.go:93", after := #[{ on := 0, ground := Ground.data }], guard := none }) (v := ?_) rfl (by kernel_rfl) (by kernel_rfl) (by kernel_rfl) (fun _ _ _ h => h) (Or.inl ⟨by rfl, ?_⟩) hHeld ?_
    rotate_left 1
    · intro u hSu
      obtain ⟨d0u, d1u, d2u, d3u⟩ := row4T (kept_row HB.out.1 hSu.out (by simp))
      have g0u : u.cell? ⟨g, 0, none⟩ = some (.slice (some ⟨b, off, none⟩) n c) := cell_of_row _ _ _ _ _ _ (kept_row HB.out.2.2.1 hSu.out (by simp))
      have c1u := hSu.out.cell HB.out.2.2.2.1 (by simp)
      have c2u := hSu.out.cell HB.out.2.2.2.2 (by simp)
      go_simp
      first | done | with_reducible rfl
    (try simp only [Act.put, List.setIfInBounds_toArray, List.set_cons_zero, List.set_cons_succ])
    refine wpAnyH_take (i := 2) (oi := { dst := some 6, op := Op.load 29 (Operand.tmp 1), type := 29, pos := "table.go:93", after := #[], guard := none }) (v := ?_) rfl (by kernel_rfl) (by kernel_rfl) (by kernel_rfl) (fun _ _ _ h => h) (Or.inl ⟨by rfl, ?_⟩) hHeld ?_
    rotate_left 1
    · intro u hSu
      obtain ⟨d0u, d1u, d2u, d3u⟩ := row4T (kept_row HB.out.1 hSu.out (by simp))
      have g0u : u.cell? ⟨g, 0, none⟩ = some (.slice (some ⟨b, off, none⟩) n c) := cell_of_row _ _ _ _ _ _ (kept_row HB.out.2.2.1 hSu.out (by simp))
      have c1u := hSu.out.cell HB.out.2.2.2.1 (by simp)
      have c2u := hSu.out.cell HB.out.2.2.2.2 (by simp)
      go_simp
      first | done | with_reducible rfl
    (try simp only [Act.put, List.setIfInBounds_toArray, List.set_cons_zero, List.set_cons_succ])
    refine wpAnyH_take (i := 3) (oi := { dst := some 7, op := Op.indexAddr 29 (Operand.tmp 6) (Operand.const (Value.int IntKind.i64 0)), type := 0, pos := "table.go:93", after := #[{ on := 2, ground := Ground.data }], guard := none }) (v := ?_) rfl (by kernel_rfl) (by kernel_rfl) (by kernel_rfl) (fun _ _ _ h => h) (Or.inl ⟨by rfl, ?_⟩) hHeld ?_
    rotate_left 1
    · intro u hSu
      obtain ⟨d0u, d1u, d2u, d3u⟩ := row4T (kept_row HB.out.1 hSu.out (by simp))
      have g0u : u.cell? ⟨g, 0, none⟩ = some (.slice (some ⟨b, off, none⟩) n c) := cell_of_row _ _ _ _ _ _ (kept_row HB.out.2.2.1 hSu.out (by simp))
      have c1u := hSu.out.cell HB.out.2.2.2.1 (by simp)
      have c2u := hSu.out.cell HB.out.2.2.2.2 (by simp)
      go_simp
      first | done | with_reducible rfl
    (try simp only [Act.put, List.setIfInBounds_toArray, List.set_cons_zero, List.set_cons_succ])
    refine wpAnyH_take (i := 4) (oi := { dst := some 8, op := Op.fieldAddr 25 (Operand.tmp 7) 1, type := 0, pos := "table.go:93", after := #[{ on := 3, ground := Ground.data }], guard := none }) (v := ?_) rfl (by kernel_rfl) (by kernel_rfl) (by kernel_rfl) (fun _ _ _ h => h) (Or.inl ⟨by rfl, ?_⟩) hHeld ?_
    rotate_left 1
    · intro u hSu
      obtain ⟨d0u, d1u, d2u, d3u⟩ := row4T (kept_row HB.out.1 hSu.out (by simp))
      have g0u : u.cell? ⟨g, 0, none⟩ = some (.slice (some ⟨b, off, none⟩) n c) := cell_of_row _ _ _ _ _ _ (kept_row HB.out.2.2.1 hSu.out (by simp))
      have c1u := hSu.out.cell HB.out.2.2.2.1 (by simp)
      have c2u := hSu.out.cell HB.out.2.2.2.2 (by simp)
      go_simp
      first | done | with_reducible rfl
    (try simp only [Act.put, List.setIfInBounds_toArray, List.set_cons_zero, List.set_cons_succ])
    refine wpAnyH_take (i := 5) (oi := { dst := some 9, op := Op.load 3 (Operand.tmp 8), type := 3, pos := "table.go:93", after := #[{ on := 4, ground := Ground.data }], guard := none }) (v := ?_) rfl (by kernel_rfl) (by kernel_rfl) (by kernel_rfl) (fun _ _ _ h => h) (Or.inl ⟨by rfl, ?_⟩) hHeld ?_
    rotate_left 1
    · intro u hSu
      obtain ⟨d0u, d1u, d2u, d3u⟩ := row4T (kept_row HB.out.1 hSu.out (by simp))
      have g0u : u.cell? ⟨g, 0, none⟩ = some (.slice (some ⟨b, off, none⟩) n c) := cell_of_row _ _ _ _ _ _ (kept_row HB.out.2.2.1 hSu.out (by simp))
      have c1u := hSu.out.cell HB.out.2.2.2.1 (by simp)
      have c2u := hSu.out.cell HB.out.2.2.2.2 (by simp)
      go_simp
      first | done | with_reducible rfl
    (try simp only [Act.put, List.setIfInBounds_toArray, List.set_cons_zero, List.set_cons_succ])
    refine wpAnyH_take (i := 6) (oi := { dst := some 10, op := Op.binOp BinOp.neq 3 (Operand.tmp 5) (Operand.tmp 9) 3, type := 4, pos := "table.go:93", after := #[{ on := 1, ground := Ground.data }, { on := 5, ground := Ground.data }], guard := none }) (v := ?_) rfl (by kernel_rfl) (by kernel_rfl) (by kernel_rfl) (fun _ _ _ h => h) (Or.inl ⟨by rfl, ?_⟩) hHeld ?_
    rotate_left 1
    · intro u hSu
      obtain ⟨d0u, d1u, d2u, d3u⟩ := row4T (kept_row HB.out.1 hSu.out (by simp))
      have g0u : u.cell? ⟨g, 0, none⟩ = some (.slice (some ⟨b, off, none⟩) n c) := cell_of_row _ _ _ _ _ _ (kept_row HB.out.2.2.1 hSu.out (by simp))
      have c1u := hSu.out.cell HB.out.2.2.2.1 (by simp)
      have c2u := hSu.out.cell HB.out.2.2.2.2 (by simp)
      go_simp
      first | done | with_reducible rfl
    (try simp only [Act.put, List.setIfInBounds_toArray, List.set_cons_zero, List.set_cons_succ])
    refine wpAnyH_take (i := 7) (oi := { dst := some 11, op := Op.move (Operand.tmp 10), type := 4, pos := "table.go:93", after := #[{ on := 6, ground := Ground.data }], guard := none }) (v := ?_) rfl (by kernel_rfl) (by kernel_rfl) (by kernel_rfl) (fun _ _ _ h => h) (Or.inl ⟨by rfl, ?_⟩) hHeld ?_
    rotate_left 1
    · intro u hSu
      obtain ⟨d0u, d1u, d2u, d3u⟩ := row4T (kept_row HB.out.1 hSu.out (by simp))
      have g0u : u.cell? ⟨g, 0, none⟩ = some (.slice (some ⟨b, off, none⟩) n c) := cell_of_row _ _ _ _ _ _ (kept_row HB.out.2.2.1 hSu.out (by simp))
      have c1u := hSu.out.cell HB.out.2.2.2.1 (by simp)
      have c2u := hSu.out.cell HB.out.2.2.2.2 (by simp)
      go_simp
      first | done | with_reducible rfl
    (try simp only [Act.put, List.setIfInBounds_toArray, List.set_cons_zero, List.set_cons_succ])
    refine wpAnyH_take (i := 8) (oi := { dst := some 12, op := Op.fieldAddr 25 (Operand.tmp 2) 2, type := 0, pos := "table.go:93", after := #[{ on := 7, ground := Ground.guard }], guard := some (7, false) }) (v := undef) rfl (by kernel_rfl) (by kernel_rfl) (by kernel_rfl) (fun _ _ _ h => h) (Or.inr ⟨by rfl, rfl⟩) hHeld ?_
    (try simp only [Act.put, List.setIfInBounds_toArray, List.set_cons_zero, List.set_cons_succ])
    refine wpAnyH_take (i := 9) (oi := { dst := some 13, op := Op.load 3 (Operand.tmp 12), type := 3, pos := "table.go:93", after := #[{ on := 8, ground := Ground.data }, { on := 7, ground := Ground.guard }], guard := some (7, false) }) (v := undef) rfl (by kernel_rfl) (by kernel_rfl) (by kernel_rfl) (fun _ _ _ h => h) (Or.inr ⟨by rfl, rfl⟩) hHeld ?_
    (try simp only [Act.put, List.setIfInBounds_toArray, List.set_cons_zero, List.set_cons_succ])
    refine wpAnyH_take (i := 10) (oi := { dst := some 14, op := Op.load 29 (Operand.tmp 1), type := 29, pos := "table.go:93", after := #[{ on := 7, ground := Ground.guard }], guard := some (7, false) }) (v := undef) rfl (by kernel_rfl) (by kernel_rfl) (by kernel_rfl) (fun _ _ _ h => h) (Or.inr ⟨by rfl, rfl⟩) hHeld ?_
    (try simp only [Act.put, List.setIfInBounds_toArray, List.set_cons_zero, List.set_cons_succ])
    refine wpAnyH_take (i := 11) (oi := { dst := some 15, op := Op.indexAddr 29 (Operand.tmp 14) (Operand.const (Value.int IntKind.i64 0)), type := 0, pos := "table.go:93", after := #[{ on := 10, ground := Ground.data }, { on := 7, ground := Ground.guard }], guard := some (7, false) }) (v := undef) rfl (by kernel_rfl) (by kernel_rfl) (by kernel_rfl) (fun _ _ _ h => h) (Or.inr ⟨by rfl, rfl⟩) hHeld ?_
    (try simp only [Act.put, List.setIfInBounds_toArray, List.set_cons_zero, List.set_cons_succ])
    refine wpAnyH_take (i := 12) (oi := { dst := some 16, op := Op.fieldAddr 25 (Operand.tmp 15) 2, type := 0, pos := "table.go:93", after := #[{ on := 11, ground := Ground.data }, { on := 7, ground := Ground.guard }], guard := some (7, false) }) (v := undef) rfl (by kernel_rfl) (by kernel_rfl) (by kernel_rfl) (fun _ _ _ h => h) (Or.inr ⟨by rfl, rfl⟩) hHeld ?_
    (try simp only [Act.put, List.setIfInBounds_toArray, List.set_cons_zero, List.set_cons_succ])
    refine wpAnyH_take (i := 13) (oi := { dst := some 17, op := Op.load 3 (Operand.tmp 16), type := 3, pos := "table.go:93", after := #[{ on := 12, ground := Ground.data }, { on := 7, ground := Ground.guard }], guard := some (7, false) }) (v := undef) rfl (by kernel_rfl) (by kernel_rfl) (by kernel_rfl) (fun _ _ _ h => h) (Or.inr ⟨by rfl, rfl⟩) hHeld ?_
    (try simp only [Act.put, List.setIfInBounds_toArray, List.set_cons_zero, List.set_cons_succ])
    refine wpAnyH_take (i := 14) (oi := { dst := some 18, op := Op.binOp BinOp.neq 3 (Operand.tmp 13) (Operand.tmp 17) 3, type := 4, pos := "table.go:93", after := #[{ on := 9, ground := Ground.data }, { on := 13, ground := Ground.data }, { on := 7, ground := Ground.guard }], guard := some (7, false) }) (v := undef) rfl (by kernel_rfl) (by kernel_rfl) (by kernel_rfl) (fun _ _ _ h => h) (Or.inr ⟨by rfl, rfl⟩) hHeld ?_
    (try simp only [Act.put, List.setIfInBounds_toArray, List.set_cons_zero, List.set_cons_succ])
    refine wpAnyH_take (i := 15) (oi := { dst := some 19, op := Op.pick (Operand.tmp 11) (Operand.const (Value.bool true)) (Operand.tmp 18), type := 4, pos := "table.go:93", after := #[{ on := 7, ground := Ground.data }, { on := 14, ground := Ground.data }], guard := none }) (v := ?_) rfl (by kernel_rfl) (by kernel_rfl) (by kernel_rfl) (fun _ _ _ h => h) (Or.inl ⟨by rfl, ?_⟩) hHeld ?_
    rotate_left 1
    · intro u hSu
      obtain ⟨d0u, d1u, d2u, d3u⟩ := row4T (kept_row HB.out.1 hSu.out (by simp))
      have g0u : u.cell? ⟨g, 0, none⟩ = some (.slice (some ⟨b, off, none⟩) n c) := cell_of_row _ _ _ _ _ _ (kept_row HB.out.2.2.1 hSu.out (by simp))
      have c1u := hSu.out.cell HB.out.2.2.2.1 (by simp)
      have c2u := hSu.out.cell HB.out.2.2.2.2 (by simp)
      go_simp
      first | done | with_reducible rfl
    (try simp only [Act.put, List.setIfInBounds_toArray, List.set_cons_zero, List.set_cons_succ])
    refine wpAnyH_take (i := 16) (oi := { dst := some 3, op := Op.assign (Operand.tmp 19), type := 4, pos := "table.go:93", after := #[{ on := 15, ground := Ground.data }, { on := 7, ground := Ground.chain }, { on := 0, ground := Ground.phase }, { on := 1, ground := Ground.phase }, { on := 2, ground := Ground.phase }, { on := 3, ground := Ground.phase }, { on := 4, ground := Ground.phase }, { on := 5, ground := Ground.phase }, { on := 6, ground := Ground.phase }, { on := 7, ground := Ground.phase }, { on := 8, ground := Ground.phase }, { on := 9, ground := Ground.phase }, { on := 10, ground := Ground.phase }, { on := 11, ground := Ground.phase }, { on := 12, ground := Ground.phase }, { on := 13, ground := Ground.phase }, { on := 14, ground := Ground.phase }, { on := 15, ground := Ground.phase }], guard := none }) (v := ?_) rfl (by kernel_rfl) (by kernel_rfl) (by kernel_rfl) (fun _ _ _ h => h) (Or.inl ⟨by rfl, ?_⟩) hHeld ?_
    rotate_left 1
    · intro u hSu
      obtain ⟨d0u, d1u, d2u, d3u⟩ := row4T (kept_row HB.out.1 hSu.out (by simp))
      have g0u : u.cell? ⟨g, 0, none⟩ = some (.slice (some ⟨b, off, none⟩) n c) := cell_of_row _ _ _ _ _ _ (kept_row HB.out.2.2.1 hSu.out (by simp))
      have c1u := hSu.out.cell HB.out.2.2.2.1 (by simp)
      have c2u := hSu.out.cell HB.out.2.2.2.2 (by simp)
      go_simp
      first | done | with_reducible rfl
    (try simp only [Act.put, List.setIfInBounds_toArray, List.set_cons_zero, List.set_cons_succ])
    refine wpAnyH_done (by kernel_rfl) ?_ _
    have G := Lib.hid (grown_trans HB.out.2.1 hHeld.out)
    clear hHeld
    go_wp2_with fail
    go_ret
    exact ⟨by rw [HO.out]; rfl, G.out⟩
  have es' : (x.s != s0) = false := by simpa using es
  have HO : Hid (cfTb s0 n0 x = (x.n != n0)) := Lib.hid (by unfold cfTb; rw [es', Bool.false_or])
  clear es
  refine wp_region_held_drew (S := fun w' => Hid (w1.grownBy w' none)) (by kernel_rfl) (Lib.hid (grown_drew (grown_refl _ none))) (fun hHeld => ?_)
  refine wpAnyH_take (i := 0) (oi := { dst := some 4, op := Op.fieldAddr 25 (Operand.tmp 2) 1, type := 0, pos := "table.go:93", after := #[], guard := none }) (v := ?_) rfl (by kernel_rfl) (by kernel_rfl) (by kernel_rfl) (fun _ _ _ h => h) (Or.inl ⟨by rfl, ?_⟩) hHeld ?_
  rotate_left 1
  · intro u hSu
    obtain ⟨d0u, d1u, d2u, d3u⟩ := row4T (kept_row HB.out.1 hSu.out (by simp))
    have g0u : u.cell? ⟨g, 0, none⟩ = some (.slice (some ⟨b, off, none⟩) n c) := cell_of_row _ _ _ _ _ _ (kept_row HB.out.2.2.1 hSu.out (by simp))
    have c1u := hSu.out.cell HB.out.2.2.2.1 (by simp)
    have c2u := hSu.out.cell HB.out.2.2.2.2 (by simp)
    go_simp
    first | done | with_reducible rfl
  (try simp only [Act.put, List.setIfInBounds_toArray, List.set_cons_zero, List.set_cons_succ])
  refine wpAnyH_take (i := 1) (oi := { dst := some 5, op := Op.load 3 (Operand.tmp 4), type := 3, pos := "table.go:93", after := #[{ on := 0, ground := Ground.data }], guard := none }) (v := ?_) rfl (by kernel_rfl) (by kernel_rfl) (by kernel_rfl) (fun _ _ _ h => h) (Or.inl ⟨by rfl, ?_⟩) hHeld ?_
  rotate_left 1
  · intro u hSu
    obtain ⟨d0u, d1u, d2u, d3u⟩ := row4T (kept_row HB.out.1 hSu.out (by simp))
    have g0u : u.cell? ⟨g, 0, none⟩ = some (.slice (some ⟨b, off, none⟩) n c) := cell_of_row _ _ _ _ _ _ (kept_row HB.out.2.2.1 hSu.out (by simp))
    have c1u := hSu.out.cell HB.out.2.2.2.1 (by simp)
    have c2u := hSu.out.cell HB.out.2.2.2.2 (by simp)
    go_simp
    first | done | with_reducible rfl
  (try simp only [Act.put, List.setIfInBounds_toArray, List.set_cons_zero, List.set_cons_succ])
  refine wpAnyH_take (i := 2) (oi := { dst := some 6, op := Op.load 29 (Operand.tmp 1), type := 29, pos := "table.go:93", after := #[], guard := none }) (v := ?_) rfl (by kernel_rfl) (by kernel_rfl) (by kernel_rfl) (fun _ _ _ h => h) (Or.inl ⟨by rfl, ?_⟩) hHeld ?_
  rotate_left 1
  · intro u hSu
    obtain ⟨d0u, d1u, d2u, d3u⟩ := row4T (kept_row HB.out.1 hSu.out (by simp))
    have g0u : u.cell? ⟨g, 0, none⟩ = some (.slice (some ⟨b, off, none⟩) n c) := cell_of_row _ _ _ _ _ _ (kept_row HB.out.2.2.1 hSu.out (by simp))
    have c1u := hSu.out.cell HB.out.2.2.2.1 (by simp)
    have c2u := hSu.out.cell HB.out.2.2.2.2 (by simp)
    go_simp
    first | done | with_reducible rfl
  (try simp only [Act.put, List.setIfInBounds_toArray, List.set_cons_zero, List.set_cons_succ])
  refine wpAnyH_take (i := 3) (oi := { dst := some 7, op := Op.indexAddr 29 (Operand.tmp 6) (Operand.const (Value.int IntKind.i64 0)), type := 0, pos := "table.go:93", after := #[{ on := 2, ground := Ground.data }], guard := none }) (v := ?_) rfl (by kernel_rfl) (by kernel_rfl) (by kernel_rfl) (fun _ _ _ h => h) (Or.inl ⟨by rfl, ?_⟩) hHeld ?_
  rotate_left 1
  · intro u hSu
    obtain ⟨d0u, d1u, d2u, d3u⟩ := row4T (kept_row HB.out.1 hSu.out (by simp))
    have g0u : u.cell? ⟨g, 0, none⟩ = some (.slice (some ⟨b, off, none⟩) n c) := cell_of_row _ _ _ _ _ _ (kept_row HB.out.2.2.1 hSu.out (by simp))
    have c1u := hSu.out.cell HB.out.2.2.2.1 (by simp)
    have c2u := hSu.out.cell HB.out.2.2.2.2 (by simp)
    go_simp
    first | done | with_reducible rfl
  (try simp only [Act.put, List.setIfInBounds_toArray, List.set_cons_zero, List.set_cons_succ])
  refine wpAnyH_take (i := 4) (oi := { dst := some 8, op := Op.fieldAddr 25 (Operand.tmp 7) 1, type := 0, pos := "table.go:93", after := #[{ on := 3, ground := Ground.data }], guard := none }) (v := ?_) rfl (by kernel_rfl) (by kernel_rfl) (by kernel_rfl) (fun _ _ _ h => h) (Or.inl ⟨by rfl, ?_⟩) hHeld ?_
  rotate_left 1
  · intro u hSu
    obtain ⟨d0u, d1u, d2u, d3u⟩ := row4T (kept_row HB.out.1 hSu.out (by simp))
    have g0u : u.cell? ⟨g, 0, none⟩ = some (.slice (some ⟨b, off, none⟩) n c) := cell_of_row _ _ _ _ _ _ (kept_row HB.out.2.2.1 hSu.out (by simp))
    have c1u := hSu.out.cell HB.out.2.2.2.1 (by simp)
    have c2u := hSu.out.cell HB.out.2.2.2.2 (by simp)
    go_simp
    first | done | with_reducible rfl
  (try simp only [Act.put, List.setIfInBounds_toArray, List.set_cons_zero, List.set_cons_succ])
  refine wpAnyH_take (i := 5) (oi := { dst := some 9, op := Op.load 3 (Operand.tmp 8), type := 3, pos := "table.go:93", after := #[{ on := 4, ground := Ground.data }], guard := none }) (v := ?_) rfl (by kernel_rfl) (by kernel_rfl) (by kernel_rfl) (fun _ _ _ h => h) (Or.inl ⟨by rfl, ?_⟩) hHeld ?_
  rotate_left 1
  · intro u hSu
    obtain ⟨d0u, d1u, d2u, d3u⟩ := row4T (kept_row HB.out.1 hSu.out (by simp))
    have g0u : u.cell? ⟨g, 0, none⟩ = some (.slice (some ⟨b, off, none⟩) n c) := cell_of_row _ _ _ _ _ _ (kept_row HB.out.2.2.1 hSu.out (by simp))
    have c1u := hSu.out.cell HB.out.2.2.2.1 (by simp)
    have c2u := hSu.out.cell HB.out.2.2.2.2 (by simp)
    go_simp
    first | done | with_reducible rfl
  (try simp only [Act.put, List.setIfInBounds_toArray, List.set_cons_zero, List.set_cons_succ])
  refine wpAnyH_take (i := 6) (oi := { dst := some 10, op := Op.binOp BinOp.neq 3 (Operand.tmp 5) (Operand.tmp 9) 3, type := 4, pos := "table.go:93", after := #[{ on := 1, ground := Ground.data }, { on := 5, ground := Ground.data }], guard := none }) (v := ?_) rfl (by kernel_rfl) (by kernel_rfl) (by kernel_rfl) (fun _ _ _ h => h) (Or.inl ⟨by rfl, ?_⟩) hHeld ?_
  rotate_left 1
  · intro u hSu
    obtain ⟨d0u, d1u, d2u, d3u⟩ := row4T (kept_row HB.out.1 hSu.out (by simp))
    have g0u : u.cell? ⟨g, 0, none⟩ = some (.slice (some ⟨b, off, none⟩) n c) := cell_of_row _ _ _ _ _ _ (kept_row HB.out.2.2.1 hSu.out (by simp))
    have c1u := hSu.out.cell HB.out.2.2.2.1 (by simp)
    have c2u := hSu.out.cell HB.out.2.2.2.2 (by simp)
    go_simp
    first | done | with_reducible rfl
  (try simp only [Act.put, List.setIfInBounds_toArray, List.set_cons_zero, List.set_cons_succ])
  refine wpAnyH_take (i := 7) (oi := { dst := some 11, op := Op.move (Operand.tmp 10), type := 4, pos := "table.go:93", after := #[{ on := 6, ground := Ground.data }], guard := none }) (v := ?_) rfl (by kernel_rfl) (by kernel_rfl) (by kernel_rfl) (fun _ _ _ h => h) (Or.inl ⟨by rfl, ?_⟩) hHeld ?_
  rotate_left 1
  · intro u hSu
    obtain ⟨d0u, d1u, d2u, d3u⟩ := row4T (kept_row HB.out.1 hSu.out (by simp))
    have g0u : u.cell? ⟨g, 0, none⟩ = some (.slice (some ⟨b, off, none⟩) n c) := cell_of_row _ _ _ _ _ _ (kept_row HB.out.2.2.1 hSu.out (by simp))
    have c1u := hSu.out.cell HB.out.2.2.2.1 (by simp)
    have c2u := hSu.out.cell HB.out.2.2.2.2 (by simp)
    go_simp
    first | done | with_reducible rfl
  (try simp only [Act.put, List.setIfInBounds_toArray, List.set_cons_zero, List.set_cons_succ])
  refine wpAnyH_take (i := 8) (oi := { dst := some 12, op := Op.fieldAddr 25 (Operand.tmp 2) 2, type := 0, pos := "table.go:93", after := #[{ on := 7, ground := Ground.guard }], guard := some (7, false) }) (v := ?_) rfl (by kernel_rfl) (by kernel_rfl) (by kernel_rfl) (fun _ _ _ h => h) (Or.inl ⟨by rfl, ?_⟩) hHeld ?_
  rotate_left 1
  · intro u hSu
    obtain ⟨d0u, d1u, d2u, d3u⟩ := row4T (kept_row HB.out.1 hSu.out (by simp))
    have g0u : u.cell? ⟨g, 0, none⟩ = some (.slice (some ⟨b, off, none⟩) n c) := cell_of_row _ _ _ _ _ _ (kept_row HB.out.2.2.1 hSu.out (by simp))
    have c1u := hSu.out.cell HB.out.2.2.2.1 (by simp)
    have c2u := hSu.out.cell HB.out.2.2.2.2 (by simp)
    go_simp
    first | done | with_reducible rfl
  (try simp only [Act.put, List.setIfInBounds_toArray, List.set_cons_zero, List.set_cons_succ])
  refine wpAnyH_take (i := 9) (oi := { dst := some 13, op := Op.load 3 (Operand.tmp 12), type := 3, pos := "table.go:93", after := #[{ on := 8, ground := Ground.data }, { on := 7, ground := Ground.guard }], guard := some (7, false) }) (v := ?_) rfl (by kernel_rfl) (by kernel_rfl) (by kernel_rfl) (fun _ _ _ h => h) (Or.inl ⟨by rfl, ?_⟩) hHeld ?_
  rotate_left 1
  · intro u hSu
    obtain ⟨d0u, d1u, d2u, d3u⟩ := row4T (kept_row HB.out.1 hSu.out (by simp))
    have g0u : u.cell? ⟨g, 0, none⟩ = some (.slice (some ⟨b, off, none⟩) n c) := cell_of_row _ _ _ _ _ _ (kept_row HB.out.2.2.1 hSu.out (by simp))
    have c1u := hSu.out.cell HB.out.2.2.2.1 (by simp)
    have c2u := hSu.out.cell HB.out.2.2.2.2 (by simp)
    go_simp
    first | done | with_reducible rfl
  (try simp only [Act.put, List.setIfInBounds_toArray, List.set_cons_zero, List.set_cons_succ])
  refine wpAnyH_take (i := 10) (oi := { dst := some 14, op := Op.load 29 (Operand.tmp 1), type := 29, pos := "table.go:93", after := #[{ on := 7, ground := Ground.guard }], guard := some (7, false) }) (v := ?_) rfl (by kernel_rfl) (by kernel_rfl) (by kernel_rfl) (fun _ _ _ h => h) (Or.inl ⟨by rfl, ?_⟩) hHeld ?_
  rotate_left 1
  · intro u hSu
    obtain ⟨d0u, d1u, d2u, d3u⟩ := row4T (kept_row HB.out.1 hSu.out (by simp))
    have g0u : u.cell? ⟨g, 0, none⟩ = some (.slice (some ⟨b, off, none⟩) n c) := cell_of_row _ _ _ _ _ _ (kept_row HB.out.2.2.1 hSu.out (by simp))
    have c1u := hSu.out.cell HB.out.2.2.2.1 (by simp)
    have c2u := hSu.out.cell HB.out.2.2.2.2 (by simp)
    go_simp
    first | done | with_reducible rfl
  (try simp only [Act.put, List.setIfInBounds_toArray, List.set_cons_zero, List.set_cons_succ])
  refine wpAnyH_take (i := 11) (oi := { dst := some 15, op := Op.indexAddr 29 (Operand.tmp 14) (Operand.const (Value.int IntKind.i64 0)), type := 0, pos := "table.go:93", after := #[{ on := 10, ground := Ground.data }, { on := 7, ground := Ground.guard }], guard := some (7, false) }) (v := ?_) rfl (by kernel_rfl) (by kernel_rfl) (by kernel_rfl) (fun _ _ _ h => h) (Or.inl ⟨by rfl, ?_⟩) hHeld ?_
  rotate_left 1
  · intro u hSu
    obtain ⟨d0u, d1u, d2u, d3u⟩ := row4T (kept_row HB.out.1 hSu.out (by simp))
    have g0u : u.cell? ⟨g, 0, none⟩ = some (.slice (some ⟨b, off, none⟩) n c) := cell_of_row _ _ _ _ _ _ (kept_row HB.out.2.2.1 hSu.out (by simp))
    have c1u := hSu.out.cell HB.out.2.2.2.1 (by simp)
    have c2u := hSu.out.cell HB.out.2.2.2.2 (by simp)
    go_simp
    first | done | with_reducible rfl
  (try simp only [Act.put, List.setIfInBounds_toArray, List.set_cons_zero, List.set_cons_succ])
  refine wpAnyH_take (i := 12) (oi := { dst := some 16, op := Op.fieldAddr 25 (Operand.tmp 15) 2, type := 0, pos := "table.go:93", after := #[{ on := 11, ground := Ground.data }, { on := 7, ground := Ground.guard }], guard := some (7, false) }) (v := ?_) rfl (by kernel_rfl) (by kernel_rfl) (by kernel_rfl) (fun _ _ _ h => h) (Or.inl ⟨by rfl, ?_⟩) hHeld ?_
  rotate_left 1
  · intro u hSu
    obtain ⟨d0u, d1u, d2u, d3u⟩ := row4T (kept_row HB.out.1 hSu.out (by simp))
    have g0u : u.cell? ⟨g, 0, none⟩ = some (.slice (some ⟨b, off, none⟩) n c) := cell_of_row _ _ _ _ _ _ (kept_row HB.out.2.2.1 hSu.out (by simp))
    have c1u := hSu.out.cell HB.out.2.2.2.1 (by simp)
    have c2u := hSu.out.cell HB.out.2.2.2.2 (by simp)
    go_simp
    first | done | with_reducible rfl
  (try simp only [Act.put, List.setIfInBounds_toArray, List.set_cons_zero, List.set_cons_succ])
  refine wpAnyH_take (i := 13) (oi := { dst := some 17, op := Op.load 3 (Operand.tmp 16), type := 3, pos := "table.go:93", after := #[{ on := 12, ground := Ground.data }, { on := 7, ground := Ground.guard }], guard := some (7, false) }) (v := ?_) rfl (by kernel_rfl) (by kernel_rfl) (by kernel_rfl) (fun _ _ _ h => h) (Or.inl ⟨by rfl, ?_⟩) hHeld ?_
  rotate_left 1
  · intro u hSu
    obtain ⟨d0u, d1u, d2u, d3u⟩ := row4T (kept_row HB.out.1 hSu.out (by simp))
    have g0u : u.cell? ⟨g, 0, none⟩ = some (.slice (some ⟨b, off, none⟩) n c) := cell_of_row _ _ _ _ _ _ (kept_row HB.out.2.2.1 hSu.out (by simp))
    have c1u := hSu.out.cell HB.out.2.2.2.1 (by simp)
    have c2u := hSu.out.cell HB.out.2.2.2.2 (by simp)
    go_simp
    first | done | with_reducible rfl
  (try simp only [Act.put, List.setIfInBounds_toArray, List.set_cons_zero, List.set_cons_succ])
  refine wpAnyH_take (i := 14) (oi := { dst := some 18, op := Op.binOp BinOp.neq 3 (Operand.tmp 13) (Operand.tmp 17) 3, type := 4, pos := "table.go:93", after := #[{ on := 9, ground := Ground.data }, { on := 13, ground := Ground.data }, { on := 7, ground := Ground.guard }], guard := some (7, false) }) (v := ?_) rfl (by kernel_rfl) (by kernel_rfl) (by kernel_rfl) (fun _ _ _ h => h) (Or.inl ⟨by rfl, ?_⟩) hHeld ?_
  rotate_left 1
  · intro u hSu
    obtain ⟨d0u, d1u, d2u, d3u⟩ := row4T (kept_row HB.out.1 hSu.out (by simp))
    have g0u : u.cell? ⟨g, 0, none⟩ = some (.slice (some ⟨b, off, none⟩) n c) := cell_of_row _ _ _ _ _ _ (kept_row HB.out.2.2.1 hSu.out (by simp))
    have c1u := hSu.out.cell HB.out.2.2.2.1 (by simp)
    have c2u := hSu.out.cell HB.out.2.2.2.2 (by simp)
    go_simp
    first | done | with_reducible rfl
  (try simp only [Act.put, List.setIfInBounds_toArray, List.set_cons_zero, List.set_cons_succ])
  refine wpAnyH_take (i := 15) (oi := { dst := some 19, op := Op.pick (Operand.tmp 11) (Operand.const (Value.bool true)) (Operand.tmp 18), type := 4, pos := "table.go:93", after := #[{ on := 7, ground := Ground.data }, { on := 14, ground := Ground.data }], guard := none }) (v := ?_) rfl (by kernel_rfl) (by kernel_rfl) (by kernel_rfl) (fun _ _ _ h => h) (Or.inl ⟨by rfl, ?_⟩) hHeld ?_
  rotate_left 1
  · intro u hSu
    obtain ⟨d0u, d1u, d2u, d3u⟩ := row4T (kept_row HB.out.1 hSu.out (by simp))
    have g0u : u.cell? ⟨g, 0, none⟩ = some (.slice (some ⟨b, off, none⟩) n c) := cell_of_row _ _ _ _ _ _ (kept_row HB.out.2.2.1 hSu.out (by simp))
    have c1u := hSu.out.cell HB.out.2.2.2.1 (by simp)
    have c2u := hSu.out.cell HB.out.2.2.2.2 (by simp)
    go_simp
    first | done | with_reducible rfl
  (try simp only [Act.put, List.setIfInBounds_toArray, List.set_cons_zero, List.set_cons_succ])
  refine wpAnyH_take (i := 16) (oi := { dst := some 3, op := Op.assign (Operand.tmp 19), type := 4, pos := "table.go:93", after := #[{ on := 15, ground := Ground.data }, { on := 7, ground := Ground.chain }, { on := 0, ground := Ground.phase }, { on := 1, ground := Ground.phase }, { on := 2, ground := Ground.phase }, { on := 3, ground := Ground.phase }, { on := 4, ground := Ground.phase }, { on := 5, ground := Ground.phase }, { on := 6, ground := Ground.phase }, { on := 7, ground := Ground.phase }, { on := 8, ground := Ground.phase }, { on := 9, ground := Ground.phase }, { on := 10, ground := Ground.phase }, { on := 11, ground := Ground.phase }, { on := 12, ground := Ground.phase }, { on := 13, ground := Ground.phase }, { on := 14, ground := Ground.phase }, { on := 15, ground := Ground.phase }], guard := none }) (v := ?_) rfl (by kernel_rfl) (by kernel_rfl) (by kernel_rfl) (fun _ _ _ h => h) (Or.inl ⟨by rfl, ?_⟩) hHeld ?_
  rotate_left 1
  · intro u hSu
    obtain ⟨d0u, d1u, d2u, d3u⟩ := row4T (kept_row HB.out.1 hSu.out (by simp))
    have g0u : u.cell? ⟨g, 0, none⟩ = some (.slice (some ⟨b, off, none⟩) n c) := cell_of_row _ _ _ _ _ _ (kept_row HB.out.2.2.1 hSu.out (by simp))
    have c1u := hSu.out.cell HB.out.2.2.2.1 (by simp)
    have c2u := hSu.out.cell HB.out.2.2.2.2 (by simp)
    go_simp
    first | done | with_reducible rfl
  (try simp only [Act.put, List.setIfInBounds_toArray, List.set_cons_zero, List.set_cons_succ])
  refine wpAnyH_done (by kernel_rfl) ?_ _
  have G := Lib.hid (grown_trans HB.out.2.1 hHeld.out)
  clear hHeld
  go_wp2_with fail
  go_ret
  exact ⟨by rw [HO.out]; rfl, G.out⟩
set_option maxRecDepth 100000 in
theorem ascT_end {R : List Tb} (h : ∀ i x y, i + 1 < R.length → R[i]? = some x → R[i + 1]? = some y → ltTb x y = true) : ascB ltTb R = true :=
  (ascB_iff _ _).2 fun i x y hx hy => h i x y ((List.getElem?_eq_some_iff.1 hy).1) hx hy
set_option maxRecDepth 100000 in
theorem ascT_hit {R : List Tb} {i : Nat} {x y : Tb} (hx : R[i]? = some x) (hy : R[i + 1]? = some y) (h : ltTb x y = false) : ascB ltTb R = false := by
  rw [Bool.eq_false_iff]
  intro h2
  have := (ascB_iff _ _).1 h2 i x y hx hy
  rw [h] at this; cases this
set_option maxRecDepth 100000 in
set_option maxHeartbeats 3200000 in
theorem tascT_any (R : List Tb) (p : Option Addr) (c : Nat) (q : Nat → Prop) (w : World) (hR : RdF w q (.slice p R.length c) R.length (R.flatMap tbC)) (hm : R.length ≤ 9223372036854775807) :
    Calls Tryz.prog 66 #[.slice p R.length c, .func (.func 67) #[] #[]] w fun e w' => e = .returned (.bool (ascB ltTb R)) ∧ w.grownBy w' none := by
  have eg : EnterF 67 := enters_of Tryz.func67 (by kernel_rfl) rfl
  have EG := Lib.hid eg
  have HR := Lib.hid hR
  clear hR eg
  go_enter Tryz.func66, Tryz.ntmps66
  go_wp2_with fail
  go_loopw [5] (fun a wr => ∃ k : Nat, 1 ≤ k ∧ (k ≤ R.length ∨ k = 1) ∧ a = .int .i64 (k : Int) ∧ Hid (w.grownBy wr none) ∧ Hid (∀ i x y, i + 1 < k → R[i]? = some x → R[i + 1]? = some y → ltTb x y = true)) (fun a _ => R.length - (RowKit.intOf a).toNat)
  case atStart => exact ⟨1, by omega, Or.inr rfl, rfl, Lib.hid (grown_refl _ _), Lib.hid (fun i x y h => by omega)⟩
  case round =>
  obtain ⟨k, hk1, hk, rfl, G, HN⟩ := hrel
  obtain ⟨w5, hw5⟩ : ∃ w5, w5 = wr := ⟨_, rfl⟩
  rw [← hw5] at G ⊢
  clear hw5
  by_cases hlt : k < R.length
  case neg =>
    have h1 : ¬ (k : Int) < (R.length : Int) := by omega
    have HO := Lib.hid (ascT_end (R := R) fun i x y hi hx hy => HN.out i x y (by omega) hx hy)
    go_wp2_with fail
    go_ret
    rw [HO.out]
    exact ⟨rfl, G.out⟩
  obtain ⟨j, rfl⟩ : ∃ j, k = j + 1 := ⟨k - 1, by omega⟩
  obtain ⟨x, hx⟩ : ∃ x, R[j]? = some x := ⟨_, List.getElem?_eq_getElem (by omega)⟩
  obtain ⟨y, hy⟩ : ∃ y, R[j + 1]? = some y := ⟨_, List.getElem?_eq_getElem hlt⟩
  obtain ⟨-, b, off, rfl, hq, hc⟩ := tb_cells (HR.out.keep G.out) (by omega)
  have HA := Lib.hid (And.intro (hc j x hx) (hc (j + 1) y hy))
  have HXY := Lib.hid (And.intro hx hy)
  clear hc hx hy
  have ew1 : ((j : Int) + 1 - 1) = (j : Int) := by omega
  have ew2 : IntKind.i64.wrap ((j : Int) + 1 - 1) = (j : Int) := by rw [ew1, IntWalk.i64_in _ (by omega)]
  have ew3 : IntKind.i64.wrap (j : Int) = (j : Int) := IntWalk.i64_in _ (by omega)
  have j0 : (0 : Int) ≤ (j : Int) := by omega
  have j1 : (0 : Int) ≤ (j : Int) + 1 := by omega
  have j2 : (j : Int) < (R.length : Int) := by omega
  have j3 : (j : Int) + 1 < (R.length : Int) := by omega
  have j4 : ((j : Int) + 1).toNat = j + 1 := by omega
  have hcast : ((j + 1 : Nat) : Int) = (j : Int) + 1 := by omega
  rw [hcast]
  go_upto_region 4 with fail
  obtain ⟨v, hv⟩ : ∃ v, ltTb x y = v := ⟨_, rfl⟩
  have HV : Hid (decide (y.r ≤ x.r) = !v) := Lib.hid (by rw [← hv]; unfold ltTb; rw [← decide_not, decide_eq_decide]; omega)
  have HL := Lib.hid hv
  clear hv
  refine wp_region_held_drew (S := fun w' => Hid (w5.grownBy w' none)) (by kernel_rfl) (Lib.hid (grown_drew (grown_refl _ none))) (fun hHeld => ?_)
  refine wpAnyH_take (i := 0) (oi := { dst := some 12, op := Op.move (Operand.tmp 1), type := 97, pos := "table.go:182", after := #[], guard := none }) (v := ?_) rfl (by kernel_rfl) (by kernel_rfl) (by kernel_rfl) (fun _ _ _ h => h) (Or.inl ⟨by rfl, ?_⟩) hHeld ?_
  rotate_left 1
  · intro u hSu
    obtain ⟨x0, x1, x2, x3⟩ := HA.out.1
    obtain ⟨y0, y1, y2, y3⟩ := HA.out.2
    have x0u := hSu.out.cell x0 (by simp)
    have x1u := hSu.out.cell x1 (by simp)
    have x2u := hSu.out.cell x2 (by simp)
    have x3u := hSu.out.cell x3 (by simp)
    have y0u := hSu.out.cell y0 (by simp)
    have y1u := hSu.out.cell y1 (by simp)
    have y2u := hSu.out.cell y2 (by simp)
    have y3u := hSu.out.cell y3 (by simp)
    go_simp
    first | done | with_reducible rfl
  (try simp only [Act.put, List.setIfInBounds_toArray, List.set_cons_zero, List.set_cons_succ])
  refine wpAnyH_take (i := 1) (oi := { dst := some 13, op := Op.move (Operand.tmp 0), type := 29, pos := "table.go:182", after := #[], guard := none }) (v := ?_) rfl (by kernel_rfl) (by kernel_rfl) (by kernel_rfl) (fun _ _ _ h => h) (Or.inl ⟨by rfl, ?_⟩) hHeld ?_
  rotate_left 1
  · intro u hSu
    obtain ⟨x0, x1, x2, x3⟩ := HA.out.1
    obtain ⟨y0, y1, y2, y3⟩ := HA.out.2
    have x0u := hSu.out.cell x0 (by simp)
    have x1u := hSu.out.cell x1 (by simp)
    have x2u := hSu.out.cell x2 (by simp)
    have x3u := hSu.out.cell x3 (by simp)
    have y0u := hSu.out.cell y0 (by simp)
    have y1u := hSu.out.cell y1 (by simp)
    have y2u := hSu.out.cell y2 (by simp)
    have y3u := hSu.out.cell y3 (by simp)
    go_simp
    first | done | with_reducible rfl
  (try simp only [Act.put, List.setIfInBounds_toArray, List.set_cons_zero, List.set_cons_succ])
  refine wpAnyH_take (i := 2) (oi := { dst := some 14, op := Op.move (Operand.tmp 5), type := 3, pos := "table.go:182", after := #[], guard := none }) (v := ?_) rfl (by kernel_rfl) (by kernel_rfl) (by kernel_rfl) (fun _ _ _ h => h) (Or.inl ⟨by rfl, ?_⟩) hHeld ?_
  rotate_left 1
  · intro u hSu
    obtain ⟨x0, x1, x2, x3⟩ := HA.out.1
    obtain ⟨y0, y1, y2, y3⟩ := HA.out.2
    have x0u := hSu.out.cell x0 (by simp)
    have x1u := hSu.out.cell x1 (by simp)
    have x2u := hSu.out.cell x2 (by simp)
    have x3u := hSu.out.cell x3 (by simp)
    have y0u := hSu.out.cell y0 (by simp)
    have y1u := hSu.out.cell y1 (by simp)
    have y2u := hSu.out.cell y2 (by simp)
    have y3u := hSu.out.cell y3 (by simp)
    go_simp
    first | done | with_reducible rfl
  (try simp only [Act.put, List.setIfInBounds_toArray, List.set_cons_zero, List.set_cons_succ])
  refine wpAnyH_take (i := 3) (oi := { dst := some 15, op := Op.binOp BinOp.sub 3 (Operand.tmp 14) (Operand.const (Value.int IntKind.i64 1)) 3, type := 3, pos := "table.go:182", after := #[{ on := 2, ground := Ground.data }], guard := none }) (v := ?_) rfl (by kernel_rfl) (by kernel_rfl) (by kernel_rfl) (fun _ _ _ h => h) (Or.inl ⟨by rfl, ?_⟩) hHeld ?_
  rotate_left 1
  · intro u hSu
    obtain ⟨x0, x1, x2, x3⟩ := HA.out.1
    obtain ⟨y0, y1, y2, y3⟩ := HA.out.2
    have x0u := hSu.out.cell x0 (by simp)
    have x1u := hSu.out.cell x1 (by simp)
    have x2u := hSu.out.cell x2 (by simp)
    have x3u := hSu.out.cell x3 (by simp)
    have y0u := hSu.out.cell y0 (by simp)
    have y1u := hSu.out.cell y1 (by simp)
    have y2u := hSu.out.cell y2 (by simp)
    have y3u := hSu.out.cell y3 (by simp)
    go_simp
    first | done | with_reducible rfl
  (try simp only [Act.put, List.setIfInBounds_toArray, List.set_cons_zero, List.set_cons_succ])
  refine wpAnyH_take (i := 4) (oi := { dst := some 16, op := Op.indexAddr 29 (Operand.tmp 13) (Operand.tmp 15), type := 0, pos := "table.go:182", after := #[{ on := 1, ground := Ground.data }, { on := 3, ground := Ground.data }], guard := none }) (v := ?_) rfl (by kernel_rfl) (by kernel_rfl) (by kernel_rfl) (fun _ _ _ h => h) (Or.inl ⟨by rfl, ?_⟩) hHeld ?_
  rotate_left 1
  · intro u hSu
    obtain ⟨x0, x1, x2, x3⟩ := HA.out.1
    obtain ⟨y0, y1, y2, y3⟩ := HA.out.2
    have x0u := hSu.out.cell x0 (by simp)
    have x1u := hSu.out.cell x1 (by simp)
    have x2u := hSu.out.cell x2 (by simp)
    have x3u := hSu.out.cell x3 (by simp)
    have y0u := hSu.out.cell y0 (by simp)
    have y1u := hSu.out.cell y1 (by simp)
    have y2u := hSu.out.cell y2 (by simp)
    have y3u := hSu.out.cell y3 (by simp)
    go_simp
    first | done | with_reducible rfl
  (try simp only [Act.put, List.setIfInBounds_toArray, List.set_cons_zero, List.set_cons_succ])
  refine wpAnyH_take (i := 5) (oi := { dst := some 17, op := Op.load 25 (Operand.tmp 16), type := 25, pos := "table.go:182", after := #[{ on := 4, ground := Ground.data }], guard := none }) (v := ?_) rfl (by kernel_rfl) (by kernel_rfl) (by kernel_rfl) (fun _ _ _ h => h) (Or.inl ⟨by rfl, ?_⟩) hHeld ?_
  rotate_left 1
  · intro u hSu
    obtain ⟨x0, x1, x2, x3⟩ := HA.out.1
    obtain ⟨y0, y1, y2, y3⟩ := HA.out.2
    have x0u := hSu.out.cell x0 (by simp)
    have x1u := hSu.out.cell x1 (by simp)
    have x2u := hSu.out.cell x2 (by simp)
    have x3u := hSu.out.cell x3 (by simp)
    have y0u := hSu.out.cell y0 (by simp)
    have y1u := hSu.out.cell y1 (by simp)
    have y2u := hSu.out.cell y2 (by simp)
    have y3u := hSu.out.cell y3 (by simp)
    go_simp
    first | done | with_reducible rfl
  (try simp only [Act.put, List.setIfInBounds_toArray, List.set_cons_zero, List.set_cons_succ])
  refine wpAnyH_take (i := 7) (oi := { dst := some 19, op := Op.move (Operand.tmp 1), type := 97, pos := "table.go:182", after := #[], guard := none }) (v := ?_) rfl (by kernel_rfl) (by kernel_rfl) (by kernel_rfl) (fun _ _ _ h => h) (Or.inl ⟨by rfl, ?_⟩) hHeld ?_
  rotate_left 1
  · intro u hSu
    obtain ⟨x0, x1, x2, x3⟩ := HA.out.1
    obtain ⟨y0, y1, y2, y3⟩ := HA.out.2
    have x0u := hSu.out.cell x0 (by simp)
    have x1u := hSu.out.cell x1 (by simp)
    have x2u := hSu.out.cell x2 (by simp)
    have x3u := hSu.out.cell x3 (by simp)
    have y0u := hSu.out.cell y0 (by simp)
    have y1u := hSu.out.cell y1 (by simp)
    have y2u := hSu.out.cell y2 (by simp)
    have y3u := hSu.out.cell y3 (by simp)
    go_simp
    first | done | with_reducible rfl
  (try simp only [Act.put, List.setIfInBounds_toArray, List.set_cons_zero, List.set_cons_succ])
  refine wpAnyH_take (i := 8) (oi := { dst := some 20, op := Op.move (Operand.tmp 0), type := 29, pos := "table.go:182", after := #[], guard := none }) (v := ?_) rfl (by kernel_rfl) (by kernel_rfl) (by kernel_rfl) (fun _ _ _ h => h) (Or.inl ⟨by rfl, ?_⟩) hHeld ?_
  rotate_left 1
  · intro u hSu
    obtain ⟨x0, x1, x2, x3⟩ := HA.out.1
    obtain ⟨y0, y1, y2, y3⟩ := HA.out.2
    have x0u := hSu.out.cell x0 (by simp)
    have x1u := hSu.out.cell x1 (by simp)
    have x2u := hSu.out.cell x2 (by simp)
    have x3u := hSu.out.cell x3 (by simp)
    have y0u := hSu.out.cell y0 (by simp)
    have y1u := hSu.out.cell y1 (by simp)
    have y2u := hSu.out.cell y2 (by simp)
    have y3u := hSu.out.cell y3 (by simp)
    go_simp
    first | done | with_reducible rfl
  (try simp only [Act.put, List.setIfInBounds_toArray, List.set_cons_zero, List.set_cons_succ])
  refine wpAnyH_take (i := 9) (oi := { dst := some 21, op := Op.move (Operand.tmp 5), type := 3, pos := "table.go:182", after := #[], guard := none }) (v := ?_) rfl (by kernel_rfl) (by kernel_rfl) (by kernel_rfl) (fun _ _ _ h => h) (Or.inl ⟨by rfl, ?_⟩) hHeld ?_
  rotate_left 1
  · intro u hSu
    obtain ⟨x0, x1, x2, x3⟩ := HA.out.1
    obtain ⟨y0, y1, y2, y3⟩ := HA.out.2
    have x0u := hSu.out.cell x0 (by simp)
    have x1u := hSu.out.cell x1 (by simp)
    have x2u := hSu.out.cell x2 (by simp)
    have x3u := hSu.out.cell x3 (by simp)
    have y0u := hSu.out.cell y0 (by simp)
    have y1u := hSu.out.cell y1 (by simp)
    have y2u := hSu.out.cell y2 (by simp)
    have y3u := hSu.out.cell y3 (by simp)
    go_simp
    first | done | with_reducible rfl
  (try simp only [Act.put, List.setIfInBounds_toArray, List.set_cons_zero, List.set_cons_succ])
  refine wpAnyH_take (i := 10) (oi := { dst := some 22, op := Op.indexAddr 29 (Operand.tmp 20) (Operand.tmp 21), type := 0, pos := "table.go:182", after := #[{ on := 8, ground := Ground.data }, { on := 9, ground := Ground.data }], guard := none }) (v := ?_) rfl (by kernel_rfl) (by kernel_rfl) (by kernel_rfl) (fun _ _ _ h => h) (Or.inl ⟨by rfl, ?_⟩) hHeld ?_
  rotate_left 1
  · intro u hSu
    obtain ⟨x0, x1, x2, x3⟩ := HA.out.1
    obtain ⟨y0, y1, y2, y3⟩ := HA.out.2
    have x0u := hSu.out.cell x0 (by simp)
    have x1u := hSu.out.cell x1 (by simp)
    have x2u := hSu.out.cell x2 (by simp)
    have x3u := hSu.out.cell x3 (by simp)
    have y0u := hSu.out.cell y0 (by simp)
    have y1u := hSu.out.cell y1 (by simp)
    have y2u := hSu.out.cell y2 (by simp)
    have y3u := hSu.out.cell y3 (by simp)
    go_simp
    first | done | with_reducible rfl
  (try simp only [Act.put, List.setIfInBounds_toArray, List.set_cons_zero, List.set_cons_succ])
  refine wpAnyH_take (i := 11) (oi := { dst := some 23, op := Op.load 25 (Operand.tmp 22), type := 25, pos := "table.go:182", after := #[{ on := 10, ground := Ground.data }], guard := none }) (v := ?_) rfl (by kernel_rfl) (by kernel_rfl) (by kernel_rfl) (fun _ _ _ h => h) (Or.inl ⟨by rfl, ?_⟩) hHeld ?_
  rotate_left 1
  · intro u hSu
    obtain ⟨x0, x1, x2, x3⟩ := HA.out.1
    obtain ⟨y0, y1, y2, y3⟩ := HA.out.2
    have x0u := hSu.out.cell x0 (by simp)
    have x1u := hSu.out.cell x1 (by simp)
    have x2u := hSu.out.cell x2 (by simp)
    have x3u := hSu.out.cell x3 (by simp)
    have y0u := hSu.out.cell y0 (by simp)
    have y1u := hSu.out.cell y1 (by simp)
    have y2u := hSu.out.cell y2 (by simp)
    have y3u := hSu.out.cell y3 (by simp)
    go_simp
    first | done | with_reducible rfl
  (try simp only [Act.put, List.setIfInBounds_toArray, List.set_cons_zero, List.set_cons_succ])
  refine wpAnyH_ready (rs := [6]) (by kernel_rfl) (by simp) ?_
  refine AllReadyH.cons (o := { dst := some 18, op := Op.call { callee := Callee.value (Operand.tmp 12), args := #[Operand.tmp 17], argTypes := #[25] }, type := 3, pos := "table.go:182", after := #[{ on := 0, ground := Ground.data }, { on := 5, ground := Ground.data }], guard := none }) rfl (fun Kz hK => ?_) AllReadyH.nil
  go_simp
  have e1 := EG.out
  go_at_call 67
  refine (tca2_any x _).mono ?_
  rintro e wx ⟨rfl, hg⟩
  have HN2 := Lib.hid (grown_trans hHeld.out hg)
  clear hg e1
  simp only
  refine hK.out _ _ (HN2) (fun hH2 => ?_)
  clear hK Kz hHeld
  have hHeld := hH2
  clear hH2
  (try simp only [Act.put, List.setIfInBounds_toArray, List.set_cons_zero, List.set_cons_succ])
  refine wpAnyH_ready (rs := [12]) (by kernel_rfl) (by simp) ?_
  refine AllReadyH.cons (o := { dst := some 24, op := Op.call { callee := Callee.value (Operand.tmp 19), args := #[Operand.tmp 23], argTypes := #[25] }, type := 3, pos := "table.go:182", after := #[{ on := 7, ground := Ground.data }, { on := 11, ground := Ground.data }, { on := 6, ground := Ground.chain }], guard := none }) rfl (fun Kz hK => ?_) AllReadyH.nil
  go_simp
  have e1 := EG.out
  go_at_call 67
  refine (tca2_any y _).mono ?_
  rintro e wx ⟨rfl, hg⟩
  have HN2 := Lib.hid (grown_trans hHeld.out hg)
  clear hg e1
  simp only
  refine hK.out _ _ (HN2) (fun hH2 => ?_)
  clear hK Kz hHeld
  have hHeld := hH2
  clear hH2
  (try simp only [Act.put, List.setIfInBounds_toArray, List.set_cons_zero, List.set_cons_succ])
  refine wpAnyH_take (i := 13) (oi := { dst := some 25, op := Op.binOp BinOp.geq 3 (Operand.tmp 18) (Operand.tmp 24) 3, type := 4, pos := "table.go:182", after := #[{ on := 6, ground := Ground.data }, { on := 12, ground := Ground.data }], guard := none }) (v := .bool (!v)) rfl (by kernel_rfl) (by kernel_rfl) (by kernel_rfl) (fun _ _ _ h => h) (Or.inl ⟨by rfl, ?_⟩) hHeld ?_
  · intro u hSu
    obtain ⟨x0, x1, x2, x3⟩ := HA.out.1
    obtain ⟨y0, y1, y2, y3⟩ := HA.out.2
    have x0u := hSu.out.cell x0 (by simp)
    have x1u := hSu.out.cell x1 (by simp)
    have x2u := hSu.out.cell x2 (by simp)
    have x3u := hSu.out.cell x3 (by simp)
    have y0u := hSu.out.cell y0 (by simp)
    have y1u := hSu.out.cell y1 (by simp)
    have y2u := hSu.out.cell y2 (by simp)
    have y3u := hSu.out.cell y3 (by simp)
    rw [← HV.out]
    go_simp
    first | done | with_reducible rfl
  (try simp only [Act.put, List.setIfInBounds_toArray, List.set_cons_zero, List.set_cons_succ])
  refine wpAnyH_done (by kernel_rfl) ?_ _
  have GW := Lib.hid (grown_trans G.out hHeld.out)
  clear hHeld
  cases v
  case false =>
    go_wp2_with fail
    go_ret
    rw [ascT_hit HXY.out.1 HXY.out.2 HL.out]
    exact ⟨rfl, GW.out⟩
  go_wp2_with fail
  refine ⟨⟨j + 1 + 1, by omega, Or.inl (by omega), congrArg _ (by omega), GW, Lib.hid fun i x2 y2 hi hx2 hy2 => ?_⟩, by simp only [RowKit.intOf]; omega⟩
  by_cases hij : i = j
  · subst hij
    have e1 := HXY.out.1.symm.trans hx2
    have e2 := HXY.out.2.symm.trans hy2
    injection e1 with e1
    injection e2 with e2
    subst e1
    subst e2
    exact HL.out
  · exact HN.out i x2 y2 (by omega) hx2 hy2
end Go.Proofs.YtahafijpcmphaaaGreat

/- tables: the program's CheckAll. -/
namespace Go.Proofs.YtahafijpcmphaaaGreat
open Go.RowKit Bs
/-- Tables in memory, all that they hold too. -/
structure RdT (w : World) (q : Nat → Prop) (p : Option Addr) (c : Nat) (Ts : List Tb) : Prop where
  rd : RdF w q (.slice p Ts.length c) Ts.length (Ts.flatMap tbC)
  ok : ∀ x ∈ Ts, RdW w q x.p x.c x.L ∧ x.L.length ≤ 9223372036854775807
set_option maxRecDepth 100000 in
theorem RdT.keep {w w1 : World} {q : Nat → Prop} {p : Option Addr} {c : Nat} {Ts : List Tb} (h : RdT w q p c Ts) (g : w.grownBy w1 none) : RdT w1 q p c Ts := ⟨h.rd.keep g, fun x hx => ⟨(h.ok x hx).1.keep g, (h.ok x hx).2⟩⟩
/-- While CheckAll looks at tables. -/
structure TQ (W : World) (p : Option Addr) (c : Nat) (Ts : List Tb) (q : Nat → Prop) (w : World) : Prop where
  bx : w.heap[W.heap.size]? = some (.cells #[.slice p Ts.length c] 29 (0, 0))
  rd : RdT w q p c Ts
  gr : W.grownBy w none
set_option maxRecDepth 100000 in
theorem TQ.keep {W : World} {p : Option Addr} {c : Nat} {Ts : List Tb} {q : Nat → Prop} {w w1 : World} (h : TQ W p c Ts q w) (g : w.grownBy w1 none) : TQ W p c Ts q w1 := ⟨kept_row h.bx g (by simp), h.rd.keep g, grown_trans h.gr g⟩
set_option maxRecDepth 100000 in
theorem TQ.c0 {W : World} {p : Option Addr} {c : Nat} {Ts : List Tb} {q : Nat → Prop} {w : World} (h : TQ W p c Ts q w) : w.cell? ⟨W.heap.size, 0, none⟩ = some (.slice p Ts.length c) := cell_of_row _ _ _ _ _ _ h.bx
set_option maxRecDepth 100000 in
set_option maxHeartbeats 3200000 in
theorem tCheckAll_any (p : Option Addr) (c : Nat) (Ts : List Tb) (q : Nat → Prop) (w : World) (hR : RdT w q p c Ts) (hm : Ts.length ≤ 9223372036854775807) :
    Calls Tryz.prog 24 #[.slice p Ts.length c] w fun e w' => e = .returned (.int .i64 (caT Ts)) ∧ w.grownBy w' none := by
  have hmf : ∀ (fn : Fn) (first cap : Array Value) (w : World), (Instr.makeFunc fn first cap).run Tryz.prog w = .ok (.func fn first cap) w := fun _ _ _ _ => rfl
  have e1 : EnterF 65 := enters_of Tryz.func65 (by kernel_rfl) rfl
  have e3 : EnterF 68 := enters_of Tryz.func68 (by kernel_rfl) rfl
  have EG := Lib.hid (And.intro e1 e3)
  obtain ⟨k1, k2⟩ := tone_box w #[.slice p Ts.length c] 29
  have H0 : Hid (TQ w p c Ts q _) := Lib.hid ⟨k1, hR.keep k2, k2⟩
  have HC : Hid (caT Ts = if 24 < Ts.length then 3 else if Ts.any caW = true then 1 else if ascB ltTb Ts = false then 25 else if Ts.any (cfTb ((Ts.head?.map Tb.s).getD 0) ((Ts.head?.map Tb.n).getD 0)) = true then 8 else 0) := Lib.hid rfl
  clear k1 k2 hR e1 e3
  go_enter Tryz.func24, Tryz.ntmps24
  go_upto_region 1 with fail
  generalize w.alloc _ = w1 at *
  have d0 := H0.out.c0
  by_cases h24 : 24 < Ts.length
  case pos =>
    have h24' : (24 : Int) < (Ts.length : Int) := by omega
    have HO : Hid (caT Ts = 3) := Lib.hid (by rw [HC.out, if_pos h24])
    clear h24
    go_wp2_with fail
    go_ret
    rw [HO.out]
    exact ⟨rfl, H0.out.gr⟩
  have h24' : ¬ (24 : Int) < (Ts.length : Int) := by omega
  have HN24 := Lib.hid h24
  clear h24
  go_wp2_with fail
  refine (tcontT_any 65 #[] caW EG.out.1 Ts p c q w1 H0.out.rd.rd hm (fun x w' hx g => tca1_any x _ w' ((H0.out.rd.ok x hx).1.keep g) (H0.out.rd.ok x hx).2)).mono ?_
  rintro e w2 ⟨rfl, hg⟩
  have H1 := Lib.hid (H0.out.keep hg)
  clear hg d0 H0
  cases f1 : Ts.any caW
  case true =>
    have HO : Hid (caT Ts = 1) := Lib.hid (by rw [HC.out, if_neg HN24.out, if_pos f1])
    clear f1
    go_wp2_with fail
    go_ret
    rw [HO.out]
    exact ⟨rfl, H1.out.gr⟩
  have F1 := Lib.hid f1
  clear f1
  have d0 := H1.out.c0
  go_wp2_with fail
  refine (tascT_any Ts p c q w2 H1.out.rd.rd hm).mono ?_
  rintro e w3 ⟨rfl, hg⟩
  have H2 := Lib.hid (H1.out.keep hg)
  clear hg d0 H1
  cases f2 : ascB ltTb Ts
  case false =>
    have HO : Hid (caT Ts = 25) := Lib.hid (by rw [HC.out, if_neg HN24.out, if_neg (by rw [F1.out]; decide), if_pos f2])
    clear f2
    go_wp2_with fail
    go_ret
    rw [HO.out]
    exact ⟨rfl, H2.out.gr⟩
  have F2 := Lib.hid f2
  clear f2
  have d0 := H2.out.c0
  obtain ⟨s0, hs0⟩ : ∃ s0, (Ts.head?.map Tb.s).getD 0 = s0 := ⟨_, rfl⟩
  obtain ⟨n0, hn0⟩ : ∃ n0, (Ts.head?.map Tb.n).getD 0 = n0 := ⟨_, rfl⟩
  have HSN := Lib.hid (And.intro hs0 hn0)
  clear hs0 hn0
  have HP : Hid (∀ (x : Tb) (w' : World), x ∈ Ts → w3.grownBy w' none → Calls Tryz.prog 68 (#[.agg #[.int .i64 x.r, .int .i64 x.s, .int .i64 x.n, .slice x.p x.L.length x.c]] ++ #[.pointer (some ⟨w.heap.size, 0, none⟩)]) w' fun e w2 => e = .returned (.bool (cfTb s0 n0 x)) ∧ w'.grownBy w2 none) := Lib.hid (fun x w' hx g => by
    have hpos : 0 < Ts.length := List.length_pos_of_mem hx
    obtain ⟨y, hy⟩ : ∃ y, Ts[0]? = some y := ⟨_, List.getElem?_eq_getElem hpos⟩
    have hh : Ts.head? = some y := by rw [List.head?_eq_getElem?]; exact hy
    have h3 := H2.out.keep g
    obtain ⟨-, b, off, hp, -, hc⟩ := tb_cells h3.rd.rd hpos
    obtain ⟨-, a1, a2, -⟩ := hc 0 y hy
    have es : s0 = y.s := by rw [← HSN.out.1, hh]; rfl
    have en : n0 = y.n := by rw [← HSN.out.2, hh]; rfl
    rw [es, en]
    have hbx := h3.bx
    rw [hp] at hbx
    simp only [Nat.zero_mul, Nat.add_zero] at a1 a2
    exact tca3_any x w.heap.size b off Ts.length c y.s y.n w' hbx hpos a1 a2)
  go_wp2_with fail
  refine (tcontT_any 68 #[.pointer (some ⟨w.heap.size, 0, none⟩)] (cfTb s0 n0) EG.out.2 Ts p c q w3 H2.out.rd.rd hm HP.out).mono ?_
  rintro e w4 ⟨rfl, hg⟩
  have H3 := Lib.hid (H2.out.keep hg)
  clear hg d0 H2 HP
  cases f3 : Ts.any (cfTb s0 n0)
  case true =>
    have HO : Hid (caT Ts = 8) := Lib.hid (by rw [HC.out, if_neg HN24.out, if_neg (by rw [F1.out]; decide), if_neg (by rw [F2.out]; decide), HSN.out.1, HSN.out.2, if_pos f3])
    clear f3
    go_wp2_with fail
    go_ret
    rw [HO.out]
    exact ⟨rfl, H3.out.gr⟩
  have HO : Hid (caT Ts = 0) := Lib.hid (by rw [HC.out, if_neg HN24.out, if_neg (by rw [F1.out]; decide), if_neg (by rw [F2.out]; decide), HSN.out.1, HSN.out.2, if_neg (by rw [f3]; decide)])
  clear f3
  go_wp2_with fail
  go_ret
  rw [HO.out]
  exact ⟨rfl, H3.out.gr⟩
end Go.Proofs.YtahafijpcmphaaaGreat

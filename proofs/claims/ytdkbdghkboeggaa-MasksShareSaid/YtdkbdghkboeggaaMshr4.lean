/- Parts of the proof, packed: MaShLaw. -/
import Derived.Test.YtdkbdghkboeggaaMshr3
/- The law MasksShare. -/
namespace Go.Proofs.Ytdkbdghkboeggaa
open Go.RowKit Go.Maps Bs
set_option maxRecDepth 100000 in
theorem mplanes_n (id : Int) (n : Nat) (p : Option Addr) (c : Nat) (w : World) (hl : n ≤ 100) :
    Calls Try.prog 10 #[.agg #[.int .i64 id, .slice p n c]] w fun e w' => ∃ v, e = .returned v ∧ w'.ownsRow w.heap.size 3 1 v n ((plL n 8).map tv) ∧ w.grownBy w' none := by
  have h := mplanes_any ⟨id, List.replicate n 0, p, c⟩ w (by rw [List.length_replicate]; exact hl)
  simp only [List.length_replicate] at h
  exact h
def plT (n k : Nat) : Nat := ((List.range k).map (plC n 8)).sum
set_option maxRecDepth 100000 in
theorem plT_succ (n k : Nat) : plT n (k + 1) = plT n k + plC n 8 k := by
  unfold plT
  rw [List.range_succ, List.map_append, List.sum_append]; simp
set_option maxRecDepth 100000 in
theorem pl_all : ∀ n, n < 41 → (n = 0 ∨ plT n n = 8) ∧ (∀ i, i < n → plC n 8 i ≤ plC n 8 0 + 1 ∧ plC n 8 0 ≤ plC n 8 i + 1) ∧ ∀ k, k < n + 1 → plT n k ≤ 8 := by decide +kernel
set_option maxRecDepth 100000 in
theorem tvL_at {w : World} {q : Nat → Prop} {p : Option Addr} {n c : Nat} (h : Rd w q (.slice p n c) ((plL n 8).map tv)) (hn : 0 < n) :
    ∃ b off, p = some ⟨b, off, none⟩ ∧ ∀ j, j < n → w.cell? ⟨b, off + j, none⟩ = some (.int .i64 ((plC n 8 j : Nat) : Int)) := by
  obtain ⟨-, b, off, hp, -, hc⟩ := tvT_at h (plL_at (k := 8) hn)
  exact ⟨b, off, hp, fun j hj => hc j _ (plL_at hj)⟩
set_option maxRecDepth 100000 in
set_option maxHeartbeats 6400000 in
theorem mshare_walk (v : Value) (w : World) (hv : ∃ (n : Nat) (p : Option Addr) (c : Nat), v = .slice p n c ∧ n ≤ c ∧ c ≤ 9223372036854775807) :
    Calls Try.prog 6 #[v] w fun e w' => e = .returned (.bool true) ∧ w.grownBy w' none := by
  obtain ⟨n, p, c, rfl, hnc, hcm⟩ := hv
  go_enter Try.func6, Try.ntmps6
  by_cases h40 : 40 < n
  · have h40' : (40 : Int) < (n : Int) := by omega
    go_wp2_with fail
    refine (mawake_any w).mono ?_
    rintro e w1 ⟨rfl, hg⟩
    go_wp2_with fail
    go_ret
    exact ⟨rfl, hg⟩
  have h40' : ¬ (40 : Int) < (n : Int) := by omega
  go_wp2_with fail
  refine (mplanes_n 1 n p c w (by omega)).mono ?_
  rintro e w1 ⟨v1, rfl, ho, hg⟩
  obtain ⟨p1, c1, rfl, -, -⟩ := own_shape ho
  have HR := Lib.hid (And.intro (rd_of_own ho) hg)
  have HP := Lib.hid (pl_all n (by omega))
  clear ho hg
  go_wp2_with fail
  go_loopw [4, 5] (fun s a wr => ∃ k : Nat, k ≤ n ∧ a = .int .i64 (k : Int) ∧ s = .int .i64 ((plT n k : Nat) : Int) ∧ Hid (w1.grownBy wr none)) (fun _ a _ => n - (RowKit.intOf a).toNat)
  case atStart => exact ⟨0, Nat.zero_le _, rfl, rfl, Lib.hid (grown_refl _ _)⟩
  case round =>
  obtain ⟨k, hk, rfl, rfl, A1⟩ := hrel
  obtain ⟨w6, hw6⟩ : ∃ w6, w6 = wr := ⟨_, rfl⟩
  rw [← hw6] at A1 ⊢
  clear hw6
  by_cases hlt : k < n
  case neg =>
    obtain rfl : k = n := by omega
    have hnl : ¬ (k : Int) < (k : Int) := by omega
    have HG := Lib.hid (grown_trans HR.out.2 A1.out)
    by_cases hk0 : k = 0
    case pos =>
      have hk0' : (k : Int) = 0 := by omega
      go_wp2_with fail
      refine (mawake_any _).mono ?_
      rintro e w7 ⟨rfl, hg⟩
      go_wp2_with fail
      go_ret
      exact ⟨rfl, grown_trans HG.out hg⟩
    have hk0' : ¬ (k : Int) = 0 := by omega
    have h8 : ((plT k k : Nat) : Int) = 8 := by rcases HP.out.1 with h | h <;> omega
    rw [h8]
    go_wp2_with fail
    refine (mawake_any _).mono ?_
    rintro e w7 ⟨rfl, hg⟩
    go_wp2_with fail
    go_ret
    exact ⟨rfl, grown_trans HG.out hg⟩
  case pos =>
  have hlt' : (k : Int) < (n : Int) := by omega
  have hn00 : 0 < n := by omega
  have hn01 : (0 : Int) < (n : Int) := by omega
  obtain ⟨b, off, rfl, hc⟩ := tvL_at HR.out.1 (by omega)
  have d0 := A1.out.cell (hc k hlt) (by simp)
  have d1 := A1.out.cell (hc 0 (by omega)) (by simp)
  rw [Nat.add_zero] at d1
  have hb := HP.out.2.1 k hlt
  have hS := HP.out.2.2 k (by omega)
  have hS1 := HP.out.2.2 (k + 1) (by omega)
  have HS := Lib.hid (plT_succ n k)
  rw [HS.out] at hS1
  generalize plC n 8 k = x at *
  generalize plC n 8 0 = y at *
  obtain ⟨s, hs⟩ : ∃ s, plT n k = s := ⟨_, rfl⟩
  rw [hs] at hS hS1 HS ⊢
  clear hs hc
  go_upto_region 11 with fail
  refine wp_region_held_drew (S := fun w' => Hid (w6.grownBy w' none)) (by kernel_rfl) (Lib.hid (grown_drew (grown_refl _ none))) (fun hHeld => ?_)
  refine wpAnyH_take (i := 0) (oi := { dst := some 30, op := Op.move (Operand.tmp 3), type := 26, pos := "law.go:135", after := #[], guard := none }) (v := ?_) rfl (by kernel_rfl) (by kernel_rfl) (by kernel_rfl) (fun _ _ _ h => h) (Or.inl ⟨by rfl, ?_⟩) hHeld ?_
  rotate_left 1
  · intro u hSu
    have e0 := hSu.out.cell d0 (by simp)
    have e1 := hSu.out.cell d1 (by simp)
    go_simp
    first | done | with_reducible rfl
  (try simp only [Act.put, List.setIfInBounds_toArray, List.set_cons_zero, List.set_cons_succ])
  refine wpAnyH_take (i := 1) (oi := { dst := some 31, op := Op.move (Operand.tmp 5), type := 3, pos := "law.go:135", after := #[], guard := none }) (v := ?_) rfl (by kernel_rfl) (by kernel_rfl) (by kernel_rfl) (fun _ _ _ h => h) (Or.inl ⟨by rfl, ?_⟩) hHeld ?_
  rotate_left 1
  · intro u hSu
    have e0 := hSu.out.cell d0 (by simp)
    have e1 := hSu.out.cell d1 (by simp)
    go_simp
    first | done | with_reducible rfl
  (try simp only [Act.put, List.setIfInBounds_toArray, List.set_cons_zero, List.set_cons_succ])
  refine wpAnyH_take (i := 2) (oi := { dst := some 32, op := Op.indexAddr 26 (Operand.tmp 30) (Operand.tmp 31), type := 0, pos := "law.go:135", after := #[{ on := 0, ground := Ground.data }, { on := 1, ground := Ground.data }], guard := none }) (v := ?_) rfl (by kernel_rfl) (by kernel_rfl) (by kernel_rfl) (fun _ _ _ h => h) (Or.inl ⟨by rfl, ?_⟩) hHeld ?_
  rotate_left 1
  · intro u hSu
    have e0 := hSu.out.cell d0 (by simp)
    have e1 := hSu.out.cell d1 (by simp)
    go_simp
    first | done | with_reducible rfl
  (try simp only [Act.put, List.setIfInBounds_toArray, List.set_cons_zero, List.set_cons_succ])
  refine wpAnyH_take (i := 3) (oi := { dst := some 33, op := Op.load 3 (Operand.tmp 32), type := 3, pos := "law.go:135", after := #[{ on := 2, ground := Ground.data }], guard := none }) (v := ?_) rfl (by kernel_rfl) (by kernel_rfl) (by kernel_rfl) (fun _ _ _ h => h) (Or.inl ⟨by rfl, ?_⟩) hHeld ?_
  rotate_left 1
  · intro u hSu
    have e0 := hSu.out.cell d0 (by simp)
    have e1 := hSu.out.cell d1 (by simp)
    go_simp
    first | done | with_reducible rfl
  (try simp only [Act.put, List.setIfInBounds_toArray, List.set_cons_zero, List.set_cons_succ])
  refine wpAnyH_take (i := 4) (oi := { dst := some 34, op := Op.move (Operand.tmp 3), type := 26, pos := "law.go:135", after := #[], guard := none }) (v := ?_) rfl (by kernel_rfl) (by kernel_rfl) (by kernel_rfl) (fun _ _ _ h => h) (Or.inl ⟨by rfl, ?_⟩) hHeld ?_
  rotate_left 1
  · intro u hSu
    have e0 := hSu.out.cell d0 (by simp)
    have e1 := hSu.out.cell d1 (by simp)
    go_simp
    first | done | with_reducible rfl
  (try simp only [Act.put, List.setIfInBounds_toArray, List.set_cons_zero, List.set_cons_succ])
  refine wpAnyH_take (i := 5) (oi := { dst := some 35, op := Op.indexAddr 26 (Operand.tmp 34) (Operand.const (Value.int IntKind.i64 0)), type := 0, pos := "law.go:135", after := #[{ on := 4, ground := Ground.data }], guard := none }) (v := ?_) rfl (by kernel_rfl) (by kernel_rfl) (by kernel_rfl) (fun _ _ _ h => h) (Or.inl ⟨by rfl, ?_⟩) hHeld ?_
  rotate_left 1
  · intro u hSu
    have e0 := hSu.out.cell d0 (by simp)
    have e1 := hSu.out.cell d1 (by simp)
    go_simp
    first | done | with_reducible rfl
  (try simp only [Act.put, List.setIfInBounds_toArray, List.set_cons_zero, List.set_cons_succ])
  refine wpAnyH_take (i := 6) (oi := { dst := some 36, op := Op.load 3 (Operand.tmp 35), type := 3, pos := "law.go:135", after := #[{ on := 5, ground := Ground.data }], guard := none }) (v := ?_) rfl (by kernel_rfl) (by kernel_rfl) (by kernel_rfl) (fun _ _ _ h => h) (Or.inl ⟨by rfl, ?_⟩) hHeld ?_
  rotate_left 1
  · intro u hSu
    have e0 := hSu.out.cell d0 (by simp)
    have e1 := hSu.out.cell d1 (by simp)
    go_simp
    first | done | with_reducible rfl
  (try simp only [Act.put, List.setIfInBounds_toArray, List.set_cons_zero, List.set_cons_succ])
  refine wpAnyH_take (i := 7) (oi := { dst := some 37, op := Op.binOp BinOp.sub 3 (Operand.tmp 33) (Operand.tmp 36) 3, type := 3, pos := "law.go:135", after := #[{ on := 3, ground := Ground.data }, { on := 6, ground := Ground.data }], guard := none }) (v := .int .i64 ((x : Int) - (y : Int))) rfl (by kernel_rfl) (by kernel_rfl) (by kernel_rfl) (fun _ _ _ h => h) (Or.inl ⟨by rfl, ?_⟩) hHeld ?_
  · intro u hSu
    have e0 := hSu.out.cell d0 (by simp)
    have e1 := hSu.out.cell d1 (by simp)
    go_simp
    first | done | with_reducible rfl | (rw [IntKind.wrap_i64]; omega) | omega
  (try simp only [Act.put, List.setIfInBounds_toArray, List.set_cons_zero, List.set_cons_succ])
  refine wpAnyH_take (i := 8) (oi := { dst := some 38, op := Op.binOp BinOp.gtr 3 (Operand.tmp 37) (Operand.const (Value.int IntKind.i64 1)) 3, type := 4, pos := "law.go:135", after := #[{ on := 7, ground := Ground.data }], guard := none }) (v := .bool false) rfl (by kernel_rfl) (by kernel_rfl) (by kernel_rfl) (fun _ _ _ h => h) (Or.inl ⟨by rfl, ?_⟩) hHeld ?_
  · intro u hSu
    have e0 := hSu.out.cell d0 (by simp)
    have e1 := hSu.out.cell d1 (by simp)
    go_simp
    first | done | omega
  (try simp only [Act.put, List.setIfInBounds_toArray, List.set_cons_zero, List.set_cons_succ])
  refine wpAnyH_take (i := 9) (oi := { dst := some 39, op := Op.move (Operand.tmp 38), type := 4, pos := "law.go:135", after := #[{ on := 8, ground := Ground.data }], guard := none }) (v := ?_) rfl (by kernel_rfl) (by kernel_rfl) (by kernel_rfl) (fun _ _ _ h => h) (Or.inl ⟨by rfl, ?_⟩) hHeld ?_
  rotate_left 1
  · intro u hSu
    have e0 := hSu.out.cell d0 (by simp)
    have e1 := hSu.out.cell d1 (by simp)
    go_simp
    first | done | with_reducible rfl
  (try simp only [Act.put, List.setIfInBounds_toArray, List.set_cons_zero, List.set_cons_succ])
  refine wpAnyH_take (i := 10) (oi := { dst := some 40, op := Op.move (Operand.tmp 3), type := 26, pos := "law.go:135", after := #[{ on := 9, ground := Ground.guard }], guard := some (9, false) }) (v := ?_) rfl (by kernel_rfl) (by kernel_rfl) (by kernel_rfl) (fun _ _ _ h => h) (Or.inl ⟨by rfl, ?_⟩) hHeld ?_
  rotate_left 1
  · intro u hSu
    have e0 := hSu.out.cell d0 (by simp)
    have e1 := hSu.out.cell d1 (by simp)
    go_simp
    first | done | with_reducible rfl
  (try simp only [Act.put, List.setIfInBounds_toArray, List.set_cons_zero, List.set_cons_succ])
  refine wpAnyH_take (i := 11) (oi := { dst := some 41, op := Op.indexAddr 26 (Operand.tmp 40) (Operand.const (Value.int IntKind.i64 0)), type := 0, pos := "law.go:135", after := #[{ on := 10, ground := Ground.data }, { on := 9, ground := Ground.guard }], guard := some (9, false) }) (v := ?_) rfl (by kernel_rfl) (by kernel_rfl) (by kernel_rfl) (fun _ _ _ h => h) (Or.inl ⟨by rfl, ?_⟩) hHeld ?_
  rotate_left 1
  · intro u hSu
    have e0 := hSu.out.cell d0 (by simp)
    have e1 := hSu.out.cell d1 (by simp)
    go_simp
    first | done | with_reducible rfl
  (try simp only [Act.put, List.setIfInBounds_toArray, List.set_cons_zero, List.set_cons_succ])
  refine wpAnyH_take (i := 12) (oi := { dst := some 42, op := Op.load 3 (Operand.tmp 41), type := 3, pos := "law.go:135", after := #[{ on := 11, ground := Ground.data }, { on := 9, ground := Ground.guard }], guard := some (9, false) }) (v := ?_) rfl (by kernel_rfl) (by kernel_rfl) (by kernel_rfl) (fun _ _ _ h => h) (Or.inl ⟨by rfl, ?_⟩) hHeld ?_
  rotate_left 1
  · intro u hSu
    have e0 := hSu.out.cell d0 (by simp)
    have e1 := hSu.out.cell d1 (by simp)
    go_simp
    first | done | with_reducible rfl
  (try simp only [Act.put, List.setIfInBounds_toArray, List.set_cons_zero, List.set_cons_succ])
  refine wpAnyH_take (i := 13) (oi := { dst := some 43, op := Op.move (Operand.tmp 3), type := 26, pos := "law.go:135", after := #[{ on := 9, ground := Ground.guard }], guard := some (9, false) }) (v := ?_) rfl (by kernel_rfl) (by kernel_rfl) (by kernel_rfl) (fun _ _ _ h => h) (Or.inl ⟨by rfl, ?_⟩) hHeld ?_
  rotate_left 1
  · intro u hSu
    have e0 := hSu.out.cell d0 (by simp)
    have e1 := hSu.out.cell d1 (by simp)
    go_simp
    first | done | with_reducible rfl
  (try simp only [Act.put, List.setIfInBounds_toArray, List.set_cons_zero, List.set_cons_succ])
  refine wpAnyH_take (i := 14) (oi := { dst := some 44, op := Op.move (Operand.tmp 5), type := 3, pos := "law.go:135", after := #[{ on := 9, ground := Ground.guard }], guard := some (9, false) }) (v := ?_) rfl (by kernel_rfl) (by kernel_rfl) (by kernel_rfl) (fun _ _ _ h => h) (Or.inl ⟨by rfl, ?_⟩) hHeld ?_
  rotate_left 1
  · intro u hSu
    have e0 := hSu.out.cell d0 (by simp)
    have e1 := hSu.out.cell d1 (by simp)
    go_simp
    first | done | with_reducible rfl
  (try simp only [Act.put, List.setIfInBounds_toArray, List.set_cons_zero, List.set_cons_succ])
  refine wpAnyH_take (i := 15) (oi := { dst := some 45, op := Op.indexAddr 26 (Operand.tmp 43) (Operand.tmp 44), type := 0, pos := "law.go:135", after := #[{ on := 13, ground := Ground.data }, { on := 14, ground := Ground.data }, { on := 9, ground := Ground.guard }], guard := some (9, false) }) (v := ?_) rfl (by kernel_rfl) (by kernel_rfl) (by kernel_rfl) (fun _ _ _ h => h) (Or.inl ⟨by rfl, ?_⟩) hHeld ?_
  rotate_left 1
  · intro u hSu
    have e0 := hSu.out.cell d0 (by simp)
    have e1 := hSu.out.cell d1 (by simp)
    go_simp
    first | done | with_reducible rfl
  (try simp only [Act.put, List.setIfInBounds_toArray, List.set_cons_zero, List.set_cons_succ])
  refine wpAnyH_take (i := 16) (oi := { dst := some 46, op := Op.load 3 (Operand.tmp 45), type := 3, pos := "law.go:135", after := #[{ on := 15, ground := Ground.data }, { on := 9, ground := Ground.guard }], guard := some (9, false) }) (v := ?_) rfl (by kernel_rfl) (by kernel_rfl) (by kernel_rfl) (fun _ _ _ h => h) (Or.inl ⟨by rfl, ?_⟩) hHeld ?_
  rotate_left 1
  · intro u hSu
    have e0 := hSu.out.cell d0 (by simp)
    have e1 := hSu.out.cell d1 (by simp)
    go_simp
    first | done | with_reducible rfl
  (try simp only [Act.put, List.setIfInBounds_toArray, List.set_cons_zero, List.set_cons_succ])
  refine wpAnyH_take (i := 17) (oi := { dst := some 47, op := Op.binOp BinOp.sub 3 (Operand.tmp 42) (Operand.tmp 46) 3, type := 3, pos := "law.go:135", after := #[{ on := 12, ground := Ground.data }, { on := 16, ground := Ground.data }, { on := 9, ground := Ground.guard }], guard := some (9, false) }) (v := .int .i64 ((y : Int) - (x : Int))) rfl (by kernel_rfl) (by kernel_rfl) (by kernel_rfl) (fun _ _ _ h => h) (Or.inl ⟨by rfl, ?_⟩) hHeld ?_
  · intro u hSu
    have e0 := hSu.out.cell d0 (by simp)
    have e1 := hSu.out.cell d1 (by simp)
    go_simp
    first | done | with_reducible rfl | (rw [IntKind.wrap_i64]; omega) | omega
  (try simp only [Act.put, List.setIfInBounds_toArray, List.set_cons_zero, List.set_cons_succ])
  refine wpAnyH_take (i := 18) (oi := { dst := some 48, op := Op.binOp BinOp.gtr 3 (Operand.tmp 47) (Operand.const (Value.int IntKind.i64 1)) 3, type := 4, pos := "law.go:135", after := #[{ on := 17, ground := Ground.data }, { on := 9, ground := Ground.guard }], guard := some (9, false) }) (v := .bool false) rfl (by kernel_rfl) (by kernel_rfl) (by kernel_rfl) (fun _ _ _ h => h) (Or.inl ⟨by rfl, ?_⟩) hHeld ?_
  · intro u hSu
    have e0 := hSu.out.cell d0 (by simp)
    have e1 := hSu.out.cell d1 (by simp)
    go_simp
    first | done | omega
  (try simp only [Act.put, List.setIfInBounds_toArray, List.set_cons_zero, List.set_cons_succ])
  refine wpAnyH_take (i := 19) (oi := { dst := some 49, op := Op.pick (Operand.tmp 39) (Operand.const (Value.bool true)) (Operand.tmp 48), type := 4, pos := "law.go:135", after := #[{ on := 9, ground := Ground.data }, { on := 18, ground := Ground.data }], guard := none }) (v := ?_) rfl (by kernel_rfl) (by kernel_rfl) (by kernel_rfl) (fun _ _ _ h => h) (Or.inl ⟨by rfl, ?_⟩) hHeld ?_
  rotate_left 1
  · intro u hSu
    have e0 := hSu.out.cell d0 (by simp)
    have e1 := hSu.out.cell d1 (by simp)
    go_simp
    first | done | with_reducible rfl
  (try simp only [Act.put, List.setIfInBounds_toArray, List.set_cons_zero, List.set_cons_succ])
  refine wpAnyH_take (i := 20) (oi := { dst := some 50, op := Op.move (Operand.tmp 49), type := 4, pos := "law.go:135", after := #[{ on := 19, ground := Ground.data }, { on := 9, ground := Ground.chain }], guard := none }) (v := ?_) rfl (by kernel_rfl) (by kernel_rfl) (by kernel_rfl) (fun _ _ _ h => h) (Or.inl ⟨by rfl, ?_⟩) hHeld ?_
  rotate_left 1
  · intro u hSu
    have e0 := hSu.out.cell d0 (by simp)
    have e1 := hSu.out.cell d1 (by simp)
    go_simp
    first | done | with_reducible rfl
  (try simp only [Act.put, List.setIfInBounds_toArray, List.set_cons_zero, List.set_cons_succ])
  refine wpAnyH_take (i := 21) (oi := { dst := some 51, op := Op.move (Operand.tmp 3), type := 26, pos := "law.go:135", after := #[{ on := 20, ground := Ground.guard }], guard := some (20, false) }) (v := ?_) rfl (by kernel_rfl) (by kernel_rfl) (by kernel_rfl) (fun _ _ _ h => h) (Or.inl ⟨by rfl, ?_⟩) hHeld ?_
  rotate_left 1
  · intro u hSu
    have e0 := hSu.out.cell d0 (by simp)
    have e1 := hSu.out.cell d1 (by simp)
    go_simp
    first | done | with_reducible rfl
  (try simp only [Act.put, List.setIfInBounds_toArray, List.set_cons_zero, List.set_cons_succ])
  refine wpAnyH_take (i := 22) (oi := { dst := some 52, op := Op.move (Operand.tmp 5), type := 3, pos := "law.go:135", after := #[{ on := 20, ground := Ground.guard }], guard := some (20, false) }) (v := ?_) rfl (by kernel_rfl) (by kernel_rfl) (by kernel_rfl) (fun _ _ _ h => h) (Or.inl ⟨by rfl, ?_⟩) hHeld ?_
  rotate_left 1
  · intro u hSu
    have e0 := hSu.out.cell d0 (by simp)
    have e1 := hSu.out.cell d1 (by simp)
    go_simp
    first | done | with_reducible rfl
  (try simp only [Act.put, List.setIfInBounds_toArray, List.set_cons_zero, List.set_cons_succ])
  refine wpAnyH_take (i := 23) (oi := { dst := some 53, op := Op.indexAddr 26 (Operand.tmp 51) (Operand.tmp 52), type := 0, pos := "law.go:135", after := #[{ on := 21, ground := Ground.data }, { on := 22, ground := Ground.data }, { on := 20, ground := Ground.guard }], guard := some (20, false) }) (v := ?_) rfl (by kernel_rfl) (by kernel_rfl) (by kernel_rfl) (fun _ _ _ h => h) (Or.inl ⟨by rfl, ?_⟩) hHeld ?_
  rotate_left 1
  · intro u hSu
    have e0 := hSu.out.cell d0 (by simp)
    have e1 := hSu.out.cell d1 (by simp)
    go_simp
    first | done | with_reducible rfl
  (try simp only [Act.put, List.setIfInBounds_toArray, List.set_cons_zero, List.set_cons_succ])
  refine wpAnyH_take (i := 24) (oi := { dst := some 54, op := Op.load 3 (Operand.tmp 53), type := 3, pos := "law.go:135", after := #[{ on := 23, ground := Ground.data }, { on := 20, ground := Ground.guard }], guard := some (20, false) }) (v := ?_) rfl (by kernel_rfl) (by kernel_rfl) (by kernel_rfl) (fun _ _ _ h => h) (Or.inl ⟨by rfl, ?_⟩) hHeld ?_
  rotate_left 1
  · intro u hSu
    have e0 := hSu.out.cell d0 (by simp)
    have e1 := hSu.out.cell d1 (by simp)
    go_simp
    first | done | with_reducible rfl
  (try simp only [Act.put, List.setIfInBounds_toArray, List.set_cons_zero, List.set_cons_succ])
  refine wpAnyH_take (i := 25) (oi := { dst := some 55, op := Op.binOp BinOp.lss 3 (Operand.tmp 54) (Operand.const (Value.int IntKind.i64 0)) 3, type := 4, pos := "law.go:135", after := #[{ on := 24, ground := Ground.data }, { on := 20, ground := Ground.guard }], guard := some (20, false) }) (v := .bool false) rfl (by kernel_rfl) (by kernel_rfl) (by kernel_rfl) (fun _ _ _ h => h) (Or.inl ⟨by rfl, ?_⟩) hHeld ?_
  · intro u hSu
    have e0 := hSu.out.cell d0 (by simp)
    have e1 := hSu.out.cell d1 (by simp)
    go_simp
    first | done | omega
  (try simp only [Act.put, List.setIfInBounds_toArray, List.set_cons_zero, List.set_cons_succ])
  refine wpAnyH_take (i := 26) (oi := { dst := some 56, op := Op.pick (Operand.tmp 50) (Operand.const (Value.bool true)) (Operand.tmp 55), type := 4, pos := "law.go:135", after := #[{ on := 20, ground := Ground.data }, { on := 25, ground := Ground.data }], guard := none }) (v := ?_) rfl (by kernel_rfl) (by kernel_rfl) (by kernel_rfl) (fun _ _ _ h => h) (Or.inl ⟨by rfl, ?_⟩) hHeld ?_
  rotate_left 1
  · intro u hSu
    have e0 := hSu.out.cell d0 (by simp)
    have e1 := hSu.out.cell d1 (by simp)
    go_simp
    first | done | with_reducible rfl
  (try simp only [Act.put, List.setIfInBounds_toArray, List.set_cons_zero, List.set_cons_succ])
  refine wpAnyH_done (by kernel_rfl) ?_ _
  have A2 := Lib.hid (grown_trans A1.out hHeld.out)
  clear A1 hHeld d0 d1 hb
  go_wp2_with fail
  exact ⟨⟨k + 1, by omega, congrArg _ (by omega), congrArg _ (by rw [HS.out]; omega), A2⟩, by simp only [RowKit.intOf]; omega⟩
end Go.Proofs.Ytdkbdghkboeggaa

/- Parts of the proof, packed: MaRwLaw. -/
import Derived.Test.YtdkbdghkboeggaaMraw4
import Derived.Test.YtdkbdghkboeggaaMraw6
import Derived.Test.YtdkbdghkboeggaaMraw7
/- The law MasksRaw. -/
namespace Go.Proofs.Ytdkbdghkboeggaa
open Go.RowKit Go.Maps Bs
set_option maxRecDepth 100000 in
set_option maxHeartbeats 1600000 in
theorem rintsT_any (n : Nat) (r : List Int) (hr : r.length = n) (p1 p2 : Option Addr) (c1 c2 : Nat) (q1 q2 : Nat → Prop) (w : World) (h1 : Rd w q1 (.slice p1 n c1) (r.map tv)) (h2 : Rd w q2 (.slice p2 n c2) (r.map tv)) (hm : n ≤ 9223372036854775807) :
    Calls Try.prog 9 #[.slice p1 n c1, .slice p2 n c2] w fun e w' => e = .returned (.bool true) ∧ w.grownBy w' none := by
  have H := Lib.hid (And.intro h1 h2)
  clear h1 h2
  go_enter Try.func9, Try.ntmps9
  go_wp2_with fail
  go_loopw [5] (fun a wr => ∃ k : Nat, k ≤ n ∧ a = .int .i64 (k : Int) ∧ w.grownBy wr none) (fun a _ => n - (RowKit.intOf a).toNat)
  case atStart => exact ⟨0, Nat.zero_le _, rfl, grown_refl _ _⟩
  case round =>
    obtain ⟨k, hk, rfl, hG⟩ := hrel
    by_cases hlt : k < n
    · obtain ⟨y, hy⟩ : ∃ y, r[k]? = some y := ⟨_, List.getElem?_eq_getElem (by omega)⟩
      obtain ⟨-, b1, o1, rfl, _, hc1⟩ := tvT_at (H.out.1) hy
      obtain ⟨-, b2, o2, rfl, _, hc2⟩ := tvT_at (H.out.2) hy
      have e1 := hG.cell (hc1 k y hy) (by simp)
      have e2 := hG.cell (hc2 k y hy) (by simp)
      clear hy
      have HG := Lib.hid hG
      clear hc1 hc2 hG
      go_wp2_with fail
      go_region
      have HG2 := Lib.hid (grown_drew HG.out)
      clear HG e1 e2
      change Exit.then _ _ _ _ wr.drew
      generalize wr.drew = w2 at *
      go_wp2_with fail
      exact ⟨⟨k + 1, by omega, congrArg _ (by omega), HG2.out⟩, by simp only [RowKit.intOf]; omega⟩
    · obtain rfl : k = n := by omega
      have HG := Lib.hid hG
      clear hG
      go_wp2_with fail
      go_ret
      exact ⟨rfl, HG.out⟩
set_option maxRecDepth 100000 in
set_option maxHeartbeats 12800000 in
theorem mraw_walk (r s n : Int) (hr : I64 r) (L : List Rw) (p : Option Addr) (c : Nat) (id pl set u : Int) (hu : I64 u) (w : World) (hR : RdW w (· < w.heap.size) p c L) (hN : ∀ x ∈ L, x.p = none → x.c = 0) (hm : L.length ≤ 9223372036854775807) :
    Calls Try.prog 3 #[.agg #[.int .i64 r, .int .i64 s, .int .i64 n, .slice p L.length c], .int .i64 id, .int .i64 pl, .int .i64 set, .int .i64 u] w fun e w' => e = .returned (.bool true) ∧ w.grownBy w' none := by
  have H0 := Lib.hid (bx_start (r := r) (s := s) (n := n) hR)
  have HNN := Lib.hid hN
  clear hR hN
  go_enter Try.func3, Try.ntmps3
  go_upto_region 1 with fail
  generalize w.alloc _ = wa at *
  obtain ⟨d0, d1, d2, d3⟩ := row4T H0.out.bx
  by_cases h60 : 60 < L.length
  · have h60' : (60 : Int) < (L.length : Int) := by omega
    go_wp2_with fail
    refine (mawake_any wa).mono ?_
    rintro e w1 ⟨rfl, hg⟩
    have G := Lib.hid (grown_trans H0.out.gr hg)
    clear hg
    go_wp2_with fail
    go_ret
    exact ⟨rfl, G.out⟩
  have h60' : ¬ (60 : Int) < (L.length : Int) := by omega
  go_wp2_with fail
  clear d0 d1 d2 d3
  go_loopw [11] (fun a wr => ∃ k : Nat, k ≤ L.length ∧ a = .int .i64 (k : Int) ∧ Hid (BX w r s n p c L wr)) (fun a _ => L.length - (RowKit.intOf a).toNat)
  case atStart => exact ⟨0, Nat.zero_le _, rfl, H0⟩
  case round =>
  clear H0
  obtain ⟨k, hk, rfl, K⟩ := hrel
  obtain ⟨w5, hw5⟩ : ∃ w5, w5 = wr := ⟨_, rfl⟩
  rw [← hw5] at K ⊢
  clear hw5
  obtain ⟨d0, d1, d2, d3⟩ := row4T K.out.bx
  by_cases hlt : k < L.length
  case neg =>
    obtain rfl : k = L.length := by omega
    have hnl : ¬ (L.length : Int) < (L.length : Int) := by omega
    go_upto_region 8 with fail
    refine wp_region_held_drew (S := fun w' => Hid (BX w r s n p c L w')) (by kernel_rfl) (Lib.hid (K.out.keep (grown_drew (grown_refl _ none)))) (fun hHeld => ?_)
    refine wpAnyH_take (i := 0) (oi := { dst := some 59, op := Op.load 24 (Operand.tmp 5), type := 24, pos := "law.go:65", after := #[], guard := none }) (v := ?_) rfl (by kernel_rfl) (by kernel_rfl) (by kernel_rfl) (fun _ _ _ h => h) (Or.inl ⟨by rfl, ?_⟩) hHeld ?_
    rotate_left 1
    · intro u hSu
      obtain ⟨d0u, d1u, d2u, d3u⟩ := row4T hSu.out.bx
      go_simp
      first | done | with_reducible rfl
    (try simp only [Act.put, List.setIfInBounds_toArray, List.set_cons_zero, List.set_cons_succ])
    refine wpAnyH_take (i := 1) (oi := { dst := some 60, op := Op.move (Operand.tmp 1), type := 3, pos := "law.go:65", after := #[], guard := none }) (v := ?_) rfl (by kernel_rfl) (by kernel_rfl) (by kernel_rfl) (fun _ _ _ h => h) (Or.inl ⟨by rfl, ?_⟩) hHeld ?_
    rotate_left 1
    · intro u hSu
      obtain ⟨d0u, d1u, d2u, d3u⟩ := row4T hSu.out.bx
      go_simp
      first | done | with_reducible rfl
    (try simp only [Act.put, List.setIfInBounds_toArray, List.set_cons_zero, List.set_cons_succ])
    refine wpAnyH_take (i := 2) (oi := { dst := some 61, op := Op.move (Operand.tmp 2), type := 3, pos := "law.go:65", after := #[], guard := none }) (v := ?_) rfl (by kernel_rfl) (by kernel_rfl) (by kernel_rfl) (fun _ _ _ h => h) (Or.inl ⟨by rfl, ?_⟩) hHeld ?_
    rotate_left 1
    · intro u hSu
      obtain ⟨d0u, d1u, d2u, d3u⟩ := row4T hSu.out.bx
      go_simp
      first | done | with_reducible rfl
    (try simp only [Act.put, List.setIfInBounds_toArray, List.set_cons_zero, List.set_cons_succ])
    refine wpAnyH_take (i := 4) (oi := { dst := some 63, op := Op.load 24 (Operand.tmp 5), type := 24, pos := "law.go:65", after := #[], guard := none }) (v := ?_) rfl (by kernel_rfl) (by kernel_rfl) (by kernel_rfl) (fun _ _ _ h => h) (Or.inl ⟨by rfl, ?_⟩) hHeld ?_
    rotate_left 1
    · intro u hSu
      obtain ⟨d0u, d1u, d2u, d3u⟩ := row4T hSu.out.bx
      go_simp
      first | done | with_reducible rfl
    (try simp only [Act.put, List.setIfInBounds_toArray, List.set_cons_zero, List.set_cons_succ])
    refine wpAnyH_take (i := 5) (oi := { dst := some 64, op := Op.move (Operand.tmp 1), type := 3, pos := "law.go:65", after := #[], guard := none }) (v := ?_) rfl (by kernel_rfl) (by kernel_rfl) (by kernel_rfl) (fun _ _ _ h => h) (Or.inl ⟨by rfl, ?_⟩) hHeld ?_
    rotate_left 1
    · intro u hSu
      obtain ⟨d0u, d1u, d2u, d3u⟩ := row4T hSu.out.bx
      go_simp
      first | done | with_reducible rfl
    (try simp only [Act.put, List.setIfInBounds_toArray, List.set_cons_zero, List.set_cons_succ])
    refine wpAnyH_take (i := 6) (oi := { dst := some 65, op := Op.move (Operand.tmp 2), type := 3, pos := "law.go:65", after := #[], guard := none }) (v := ?_) rfl (by kernel_rfl) (by kernel_rfl) (by kernel_rfl) (fun _ _ _ h => h) (Or.inl ⟨by rfl, ?_⟩) hHeld ?_
    rotate_left 1
    · intro u hSu
      obtain ⟨d0u, d1u, d2u, d3u⟩ := row4T hSu.out.bx
      go_simp
      first | done | with_reducible rfl
    (try simp only [Act.put, List.setIfInBounds_toArray, List.set_cons_zero, List.set_cons_succ])
    refine wpAnyH_ready (rs := [3]) (by kernel_rfl) (by simp) ?_
    refine AllReadyH.cons (o := { dst := some 62, op := Op.call { callee := Callee.value (Operand.func 12), args := #[Operand.tmp 59, Operand.tmp 60, Operand.tmp 61], argTypes := #[24, 3, 3] }, type := 3, pos := "law.go:65", after := #[{ on := 0, ground := Ground.data }, { on := 1, ground := Ground.data }, { on := 2, ground := Ground.data }], guard := none }) rfl (fun Kz hK => ?_) AllReadyH.nil
    go_simp
    go_at_call 12
    refine (mnxt_any r s n p c L id pl _ hHeld.out.rd hm HNN.out).mono ?_
    rintro e w11 ⟨rfl, hg⟩
    have HN1 := Lib.hid (hHeld.out.keep hg)
    clear hg
    refine hK.out _ _ (HN1) (fun hH2 => ?_)
    clear hK Kz hHeld
    have hHeld := hH2
    clear hH2
    (try simp only [Act.put, List.setIfInBounds_toArray, List.set_cons_zero, List.set_cons_succ])
    refine wpAnyH_ready (rs := [7]) (by kernel_rfl) (by simp) ?_
    refine AllReadyH.cons (o := { dst := some 66, op := Op.call { callee := Callee.value (Operand.func 13), args := #[Operand.tmp 63, Operand.tmp 64, Operand.tmp 65], argTypes := #[24, 3, 3] }, type := 3, pos := "law.go:65", after := #[{ on := 4, ground := Ground.data }, { on := 5, ground := Ground.data }, { on := 6, ground := Ground.data }, { on := 3, ground := Ground.chain }], guard := none }) rfl (fun Kz hK => ?_) AllReadyH.nil
    go_simp
    go_at_call 13
    refine (rnext12_any r s n p c L id pl _ hHeld.out.rd hm).mono ?_
    rintro e w12 ⟨rfl, hg⟩
    have HN2 := Lib.hid (hHeld.out.keep hg)
    clear hg
    refine hK.out _ _ (HN2) (fun hH2 => ?_)
    clear hK Kz hHeld
    have hHeld := hH2
    clear hH2
    (try simp only [Act.put, List.setIfInBounds_toArray, List.set_cons_zero, List.set_cons_succ])
    refine wpAnyH_take (i := 8) (oi := { dst := some 67, op := Op.binOp BinOp.eql 3 (Operand.tmp 62) (Operand.tmp 66) 3, type := 4, pos := "law.go:65", after := #[{ on := 3, ground := Ground.data }, { on := 7, ground := Ground.data }], guard := none }) (v := ?_) rfl (by kernel_rfl) (by kernel_rfl) (by kernel_rfl) (fun _ _ _ h => h) (Or.inl ⟨by rfl, ?_⟩) hHeld ?_
    rotate_left 1
    · intro u hSu
      obtain ⟨d0u, d1u, d2u, d3u⟩ := row4T hSu.out.bx
      go_simp
      first | done | with_reducible rfl
    (try simp only [Act.put, List.setIfInBounds_toArray, List.set_cons_zero, List.set_cons_succ])
    refine wpAnyH_take (i := 9) (oi := { dst := some 68, op := Op.move (Operand.tmp 67), type := 4, pos := "law.go:65", after := #[{ on := 8, ground := Ground.data }, { on := 7, ground := Ground.chain }], guard := none }) (v := ?_) rfl (by kernel_rfl) (by kernel_rfl) (by kernel_rfl) (fun _ _ _ h => h) (Or.inl ⟨by rfl, ?_⟩) hHeld ?_
    rotate_left 1
    · intro u hSu
      obtain ⟨d0u, d1u, d2u, d3u⟩ := row4T hSu.out.bx
      go_simp
      first | done | with_reducible rfl
    (try simp only [Act.put, List.setIfInBounds_toArray, List.set_cons_zero, List.set_cons_succ])
    refine wpAnyH_take (i := 10) (oi := { dst := some 69, op := Op.load 24 (Operand.tmp 5), type := 24, pos := "law.go:65", after := #[{ on := 9, ground := Ground.guard }], guard := some (9, true) }) (v := ?_) rfl (by kernel_rfl) (by kernel_rfl) (by kernel_rfl) (fun _ _ _ h => h) (Or.inl ⟨by rfl, ?_⟩) hHeld ?_
    rotate_left 1
    · intro u hSu
      obtain ⟨d0u, d1u, d2u, d3u⟩ := row4T hSu.out.bx
      go_simp
      first | done | with_reducible rfl
    (try simp only [Act.put, List.setIfInBounds_toArray, List.set_cons_zero, List.set_cons_succ])
    refine wpAnyH_take (i := 11) (oi := { dst := some 70, op := Op.move (Operand.tmp 2), type := 3, pos := "law.go:65", after := #[{ on := 9, ground := Ground.guard }], guard := some (9, true) }) (v := ?_) rfl (by kernel_rfl) (by kernel_rfl) (by kernel_rfl) (fun _ _ _ h => h) (Or.inl ⟨by rfl, ?_⟩) hHeld ?_
    rotate_left 1
    · intro u hSu
      obtain ⟨d0u, d1u, d2u, d3u⟩ := row4T hSu.out.bx
      go_simp
      first | done | with_reducible rfl
    (try simp only [Act.put, List.setIfInBounds_toArray, List.set_cons_zero, List.set_cons_succ])
    refine wpAnyH_take (i := 12) (oi := { dst := some 71, op := Op.move (Operand.tmp 3), type := 3, pos := "law.go:65", after := #[{ on := 9, ground := Ground.guard }], guard := some (9, true) }) (v := ?_) rfl (by kernel_rfl) (by kernel_rfl) (by kernel_rfl) (fun _ _ _ h => h) (Or.inl ⟨by rfl, ?_⟩) hHeld ?_
    rotate_left 1
    · intro u hSu
      obtain ⟨d0u, d1u, d2u, d3u⟩ := row4T hSu.out.bx
      go_simp
      first | done | with_reducible rfl
    (try simp only [Act.put, List.setIfInBounds_toArray, List.set_cons_zero, List.set_cons_succ])
    refine wpAnyH_take (i := 13) (oi := { dst := some 72, op := Op.move (Operand.tmp 4), type := 3, pos := "law.go:65", after := #[{ on := 9, ground := Ground.guard }], guard := some (9, true) }) (v := ?_) rfl (by kernel_rfl) (by kernel_rfl) (by kernel_rfl) (fun _ _ _ h => h) (Or.inl ⟨by rfl, ?_⟩) hHeld ?_
    rotate_left 1
    · intro u hSu
      obtain ⟨d0u, d1u, d2u, d3u⟩ := row4T hSu.out.bx
      go_simp
      first | done | with_reducible rfl
    (try simp only [Act.put, List.setIfInBounds_toArray, List.set_cons_zero, List.set_cons_succ])
    refine wpAnyH_take (i := 15) (oi := { dst := some 74, op := Op.load 24 (Operand.tmp 5), type := 24, pos := "law.go:65", after := #[{ on := 9, ground := Ground.guard }], guard := some (9, true) }) (v := ?_) rfl (by kernel_rfl) (by kernel_rfl) (by kernel_rfl) (fun _ _ _ h => h) (Or.inl ⟨by rfl, ?_⟩) hHeld ?_
    rotate_left 1
    · intro u hSu
      obtain ⟨d0u, d1u, d2u, d3u⟩ := row4T hSu.out.bx
      go_simp
      first | done | with_reducible rfl
    (try simp only [Act.put, List.setIfInBounds_toArray, List.set_cons_zero, List.set_cons_succ])
    refine wpAnyH_take (i := 16) (oi := { dst := some 75, op := Op.move (Operand.tmp 2), type := 3, pos := "law.go:65", after := #[{ on := 9, ground := Ground.guard }], guard := some (9, true) }) (v := ?_) rfl (by kernel_rfl) (by kernel_rfl) (by kernel_rfl) (fun _ _ _ h => h) (Or.inl ⟨by rfl, ?_⟩) hHeld ?_
    rotate_left 1
    · intro u hSu
      obtain ⟨d0u, d1u, d2u, d3u⟩ := row4T hSu.out.bx
      go_simp
      first | done | with_reducible rfl
    (try simp only [Act.put, List.setIfInBounds_toArray, List.set_cons_zero, List.set_cons_succ])
    refine wpAnyH_take (i := 17) (oi := { dst := some 76, op := Op.move (Operand.tmp 3), type := 3, pos := "law.go:65", after := #[{ on := 9, ground := Ground.guard }], guard := some (9, true) }) (v := ?_) rfl (by kernel_rfl) (by kernel_rfl) (by kernel_rfl) (fun _ _ _ h => h) (Or.inl ⟨by rfl, ?_⟩) hHeld ?_
    rotate_left 1
    · intro u hSu
      obtain ⟨d0u, d1u, d2u, d3u⟩ := row4T hSu.out.bx
      go_simp
      first | done | with_reducible rfl
    (try simp only [Act.put, List.setIfInBounds_toArray, List.set_cons_zero, List.set_cons_succ])
    refine wpAnyH_take (i := 18) (oi := { dst := some 77, op := Op.move (Operand.tmp 4), type := 3, pos := "law.go:65", after := #[{ on := 9, ground := Ground.guard }], guard := some (9, true) }) (v := ?_) rfl (by kernel_rfl) (by kernel_rfl) (by kernel_rfl) (fun _ _ _ h => h) (Or.inl ⟨by rfl, ?_⟩) hHeld ?_
    rotate_left 1
    · intro u hSu
      obtain ⟨d0u, d1u, d2u, d3u⟩ := row4T hSu.out.bx
      go_simp
      first | done | with_reducible rfl
    (try simp only [Act.put, List.setIfInBounds_toArray, List.set_cons_zero, List.set_cons_succ])
    refine wpAnyH_ready (rs := [14]) (by kernel_rfl) (by simp) ?_
    refine AllReadyH.cons (o := { dst := some 73, op := Op.call { callee := Callee.value (Operand.func 14), args := #[Operand.tmp 69, Operand.tmp 70, Operand.tmp 71, Operand.tmp 72], argTypes := #[24, 3, 3, 3] }, type := 32, pos := "law.go:65", after := #[{ on := 10, ground := Ground.data }, { on := 11, ground := Ground.data }, { on := 12, ground := Ground.data }, { on := 13, ground := Ground.data }, { on := 9, ground := Ground.chain }, { on := 9, ground := Ground.guard }], guard := some (9, true) }) rfl (fun Kz hK => ?_) AllReadyH.nil
    go_simp
    go_at_call 14
    refine (mmask_any r s n p c L pl set u hu _ hHeld.out.rd hm).mono ?_
    rintro e w13 ⟨rfl, hg⟩
    have HN3 := Lib.hid (hHeld.out.keep hg)
    clear hg
    refine hK.out _ _ (HN3) (fun hH2 => ?_)
    clear hK Kz hHeld
    have hHeld := hH2
    clear hH2
    (try simp only [Act.put, List.setIfInBounds_toArray, List.set_cons_zero, List.set_cons_succ])
    refine wpAnyH_ready (rs := [19]) (by kernel_rfl) (by simp) ?_
    refine AllReadyH.cons (o := { dst := some 78, op := Op.call { callee := Callee.value (Operand.func 15), args := #[Operand.tmp 74, Operand.tmp 75, Operand.tmp 76, Operand.tmp 77], argTypes := #[24, 3, 3, 3] }, type := 32, pos := "law.go:65", after := #[{ on := 15, ground := Ground.data }, { on := 16, ground := Ground.data }, { on := 17, ground := Ground.data }, { on := 18, ground := Ground.data }, { on := 14, ground := Ground.chain }, { on := 9, ground := Ground.guard }], guard := some (9, true) }) rfl (fun Kz hK => ?_) AllReadyH.nil
    go_simp
    go_at_call 15
    refine (rmask_any r s n p c L pl set u _ hHeld.out.rd hm).mono ?_
    rintro e w14 ⟨rfl, hg⟩
    have HN4 := Lib.hid (hHeld.out.keep hg)
    clear hg
    refine hK.out _ _ (HN4) (fun hH2 => ?_)
    clear hK Kz hHeld
    have hHeld := hH2
    clear hH2
    (try simp only [Act.put, List.setIfInBounds_toArray, List.set_cons_zero, List.set_cons_succ])
    refine wpAnyH_take (i := 20) (oi := { dst := some 79, op := Op.binOp BinOp.eql 32 (Operand.tmp 73) (Operand.tmp 78) 32, type := 4, pos := "law.go:65", after := #[{ on := 14, ground := Ground.data }, { on := 19, ground := Ground.data }, { on := 9, ground := Ground.guard }], guard := some (9, true) }) (v := ?_) rfl (by kernel_rfl) (by kernel_rfl) (by kernel_rfl) (fun _ _ _ h => h) (Or.inl ⟨by rfl, ?_⟩) hHeld ?_
    rotate_left 1
    · intro u hSu
      obtain ⟨d0u, d1u, d2u, d3u⟩ := row4T hSu.out.bx
      go_simp
      first | done | with_reducible rfl
    (try simp only [Act.put, List.setIfInBounds_toArray, List.set_cons_zero, List.set_cons_succ])
    refine wpAnyH_take (i := 21) (oi := { dst := some 80, op := Op.pick (Operand.tmp 68) (Operand.tmp 79) (Operand.const (Value.bool false)), type := 4, pos := "law.go:65", after := #[{ on := 9, ground := Ground.data }, { on := 20, ground := Ground.data }], guard := none }) (v := ?_) rfl (by kernel_rfl) (by kernel_rfl) (by kernel_rfl) (fun _ _ _ h => h) (Or.inl ⟨by rfl, ?_⟩) hHeld ?_
    rotate_left 1
    · intro u hSu
      obtain ⟨d0u, d1u, d2u, d3u⟩ := row4T hSu.out.bx
      go_simp
      first | done | with_reducible rfl
    (try simp only [Act.put, List.setIfInBounds_toArray, List.set_cons_zero, List.set_cons_succ])
    refine wpAnyH_take (i := 22) (oi := { dst := some 81, op := Op.move (Operand.tmp 80), type := 4, pos := "law.go:65", after := #[{ on := 21, ground := Ground.data }, { on := 19, ground := Ground.chain }], guard := none }) (v := ?_) rfl (by kernel_rfl) (by kernel_rfl) (by kernel_rfl) (fun _ _ _ h => h) (Or.inl ⟨by rfl, ?_⟩) hHeld ?_
    rotate_left 1
    · intro u hSu
      obtain ⟨d0u, d1u, d2u, d3u⟩ := row4T hSu.out.bx
      go_simp
      first | done | with_reducible rfl
    (try simp only [Act.put, List.setIfInBounds_toArray, List.set_cons_zero, List.set_cons_succ])
    refine wpAnyH_take (i := 23) (oi := { dst := some 82, op := Op.load 24 (Operand.tmp 5), type := 24, pos := "law.go:65", after := #[{ on := 22, ground := Ground.guard }], guard := some (22, true) }) (v := ?_) rfl (by kernel_rfl) (by kernel_rfl) (by kernel_rfl) (fun _ _ _ h => h) (Or.inl ⟨by rfl, ?_⟩) hHeld ?_
    rotate_left 1
    · intro u hSu
      obtain ⟨d0u, d1u, d2u, d3u⟩ := row4T hSu.out.bx
      go_simp
      first | done | with_reducible rfl
    (try simp only [Act.put, List.setIfInBounds_toArray, List.set_cons_zero, List.set_cons_succ])
    refine wpAnyH_take (i := 24) (oi := { dst := some 83, op := Op.move (Operand.tmp 2), type := 3, pos := "law.go:65", after := #[{ on := 22, ground := Ground.guard }], guard := some (22, true) }) (v := ?_) rfl (by kernel_rfl) (by kernel_rfl) (by kernel_rfl) (fun _ _ _ h => h) (Or.inl ⟨by rfl, ?_⟩) hHeld ?_
    rotate_left 1
    · intro u hSu
      obtain ⟨d0u, d1u, d2u, d3u⟩ := row4T hSu.out.bx
      go_simp
      first | done | with_reducible rfl
    (try simp only [Act.put, List.setIfInBounds_toArray, List.set_cons_zero, List.set_cons_succ])
    refine wpAnyH_take (i := 25) (oi := { dst := some 84, op := Op.move (Operand.tmp 3), type := 3, pos := "law.go:65", after := #[{ on := 22, ground := Ground.guard }], guard := some (22, true) }) (v := ?_) rfl (by kernel_rfl) (by kernel_rfl) (by kernel_rfl) (fun _ _ _ h => h) (Or.inl ⟨by rfl, ?_⟩) hHeld ?_
    rotate_left 1
    · intro u hSu
      obtain ⟨d0u, d1u, d2u, d3u⟩ := row4T hSu.out.bx
      go_simp
      first | done | with_reducible rfl
    (try simp only [Act.put, List.setIfInBounds_toArray, List.set_cons_zero, List.set_cons_succ])
    refine wpAnyH_take (i := 28) (oi := { dst := some 87, op := Op.load 24 (Operand.tmp 5), type := 24, pos := "law.go:65", after := #[{ on := 22, ground := Ground.guard }], guard := some (22, true) }) (v := ?_) rfl (by kernel_rfl) (by kernel_rfl) (by kernel_rfl) (fun _ _ _ h => h) (Or.inl ⟨by rfl, ?_⟩) hHeld ?_
    rotate_left 1
    · intro u hSu
      obtain ⟨d0u, d1u, d2u, d3u⟩ := row4T hSu.out.bx
      go_simp
      first | done | with_reducible rfl
    (try simp only [Act.put, List.setIfInBounds_toArray, List.set_cons_zero, List.set_cons_succ])
    refine wpAnyH_take (i := 29) (oi := { dst := some 88, op := Op.move (Operand.tmp 2), type := 3, pos := "law.go:65", after := #[{ on := 22, ground := Ground.guard }], guard := some (22, true) }) (v := ?_) rfl (by kernel_rfl) (by kernel_rfl) (by kernel_rfl) (fun _ _ _ h => h) (Or.inl ⟨by rfl, ?_⟩) hHeld ?_
    rotate_left 1
    · intro u hSu
      obtain ⟨d0u, d1u, d2u, d3u⟩ := row4T hSu.out.bx
      go_simp
      first | done | with_reducible rfl
    (try simp only [Act.put, List.setIfInBounds_toArray, List.set_cons_zero, List.set_cons_succ])
    refine wpAnyH_take (i := 30) (oi := { dst := some 89, op := Op.move (Operand.tmp 3), type := 3, pos := "law.go:65", after := #[{ on := 22, ground := Ground.guard }], guard := some (22, true) }) (v := ?_) rfl (by kernel_rfl) (by kernel_rfl) (by kernel_rfl) (fun _ _ _ h => h) (Or.inl ⟨by rfl, ?_⟩) hHeld ?_
    rotate_left 1
    · intro u hSu
      obtain ⟨d0u, d1u, d2u, d3u⟩ := row4T hSu.out.bx
      go_simp
      first | done | with_reducible rfl
    (try simp only [Act.put, List.setIfInBounds_toArray, List.set_cons_zero, List.set_cons_succ])
    refine wpAnyH_ready (rs := [26]) (by kernel_rfl) (by simp) ?_
    refine AllReadyH.cons (o := { dst := some 85, op := Op.call { callee := Callee.value (Operand.func 16), args := #[Operand.tmp 82, Operand.tmp 83, Operand.tmp 84], argTypes := #[24, 3, 3] }, type := 34, pos := "law.go:65", after := #[{ on := 23, ground := Ground.data }, { on := 24, ground := Ground.data }, { on := 25, ground := Ground.data }, { on := 22, ground := Ground.chain }, { on := 22, ground := Ground.guard }], guard := some (22, true) }) rfl (fun Kz hK => ?_) AllReadyH.nil
    go_simp
    go_at_call 16
    refine (mall_any r s n p c L pl set _ hHeld.out.rd hm).mono ?_
    rintro e w15 ⟨ts1, q1, r1, rfl, hA1, -, hg⟩
    have HA1 := Lib.hid hA1
    have HN5 := Lib.hid (hHeld.out.keep hg)
    clear hg hA1
    refine hK.out _ _ (HN5) (fun hH2 => ?_)
    clear hK Kz hHeld
    have hHeld := hH2
    clear hH2
    (try simp only [Act.put, List.setIfInBounds_toArray, List.set_cons_zero, List.set_cons_succ])
    refine wpAnyH_take (i := 27) (oi := { dst := some 86, op := Op.call { callee := Callee.builtin Builtin.len, args := #[Operand.tmp 85], argTypes := #[34] }, type := 3, pos := "law.go:65", after := #[{ on := 26, ground := Ground.data }, { on := 22, ground := Ground.guard }], guard := some (22, true) }) (v := ?_) rfl (by kernel_rfl) (by kernel_rfl) (by kernel_rfl) (fun _ _ _ h => h) (Or.inl ⟨by rfl, ?_⟩) hHeld ?_
    rotate_left 1
    · intro u hSu
      obtain ⟨d0u, d1u, d2u, d3u⟩ := row4T hSu.out.bx
      go_simp
      first | done | with_reducible rfl
    (try simp only [Act.put, List.setIfInBounds_toArray, List.set_cons_zero, List.set_cons_succ])
    refine wpAnyH_ready (rs := [31]) (by kernel_rfl) (by simp) ?_
    refine AllReadyH.cons (o := { dst := some 90, op := Op.call { callee := Callee.value (Operand.func 17), args := #[Operand.tmp 87, Operand.tmp 88, Operand.tmp 89], argTypes := #[24, 3, 3] }, type := 34, pos := "law.go:65", after := #[{ on := 28, ground := Ground.data }, { on := 29, ground := Ground.data }, { on := 30, ground := Ground.data }, { on := 26, ground := Ground.chain }, { on := 22, ground := Ground.guard }], guard := some (22, true) }) rfl (fun Kz hK => ?_) AllReadyH.nil
    go_simp
    go_at_call 17
    refine (rall12_any r s n p c L pl set _ hHeld.out.rd hm).mono ?_
    rintro e w16 ⟨ts2, q2, r2, rfl, hA2, -, hg⟩
    obtain rfl : ts2 = ts1 := asc_same hA2.asc HA1.out.asc (fun x => (hA2.mem x).trans (HA1.out.mem x).symm)
    have HN6 := Lib.hid (hHeld.out.keep hg)
    clear hg hA2
    refine hK.out _ _ (HN6) (fun hH2 => ?_)
    clear hK Kz hHeld
    have hHeld := hH2
    clear hH2
    (try simp only [Act.put, List.setIfInBounds_toArray, List.set_cons_zero, List.set_cons_succ])
    refine wpAnyH_take (i := 32) (oi := { dst := some 91, op := Op.call { callee := Callee.builtin Builtin.len, args := #[Operand.tmp 90], argTypes := #[34] }, type := 3, pos := "law.go:65", after := #[{ on := 31, ground := Ground.data }, { on := 22, ground := Ground.guard }], guard := some (22, true) }) (v := ?_) rfl (by kernel_rfl) (by kernel_rfl) (by kernel_rfl) (fun _ _ _ h => h) (Or.inl ⟨by rfl, ?_⟩) hHeld ?_
    rotate_left 1
    · intro u hSu
      obtain ⟨d0u, d1u, d2u, d3u⟩ := row4T hSu.out.bx
      go_simp
      first | done | with_reducible rfl
    (try simp only [Act.put, List.setIfInBounds_toArray, List.set_cons_zero, List.set_cons_succ])
    refine wpAnyH_take (i := 33) (oi := { dst := some 92, op := Op.binOp BinOp.eql 3 (Operand.tmp 86) (Operand.tmp 91) 3, type := 4, pos := "law.go:65", after := #[{ on := 27, ground := Ground.data }, { on := 32, ground := Ground.data }, { on := 22, ground := Ground.guard }], guard := some (22, true) }) (v := ?_) rfl (by kernel_rfl) (by kernel_rfl) (by kernel_rfl) (fun _ _ _ h => h) (Or.inl ⟨by rfl, ?_⟩) hHeld ?_
    rotate_left 1
    · intro u hSu
      obtain ⟨d0u, d1u, d2u, d3u⟩ := row4T hSu.out.bx
      go_simp
      first | done | with_reducible rfl
    (try simp only [Act.put, List.setIfInBounds_toArray, List.set_cons_zero, List.set_cons_succ])
    refine wpAnyH_take (i := 34) (oi := { dst := some 93, op := Op.pick (Operand.tmp 81) (Operand.tmp 92) (Operand.const (Value.bool false)), type := 4, pos := "law.go:65", after := #[{ on := 22, ground := Ground.data }, { on := 33, ground := Ground.data }], guard := none }) (v := ?_) rfl (by kernel_rfl) (by kernel_rfl) (by kernel_rfl) (fun _ _ _ h => h) (Or.inl ⟨by rfl, ?_⟩) hHeld ?_
    rotate_left 1
    · intro u hSu
      obtain ⟨d0u, d1u, d2u, d3u⟩ := row4T hSu.out.bx
      go_simp
      first | done | with_reducible rfl
    (try simp only [Act.put, List.setIfInBounds_toArray, List.set_cons_zero, List.set_cons_succ])
    refine wpAnyH_take (i := 35) (oi := { dst := some 94, op := Op.move (Operand.tmp 93), type := 4, pos := "law.go:65", after := #[{ on := 34, ground := Ground.data }, { on := 31, ground := Ground.chain }], guard := none }) (v := ?_) rfl (by kernel_rfl) (by kernel_rfl) (by kernel_rfl) (fun _ _ _ h => h) (Or.inl ⟨by rfl, ?_⟩) hHeld ?_
    rotate_left 1
    · intro u hSu
      obtain ⟨d0u, d1u, d2u, d3u⟩ := row4T hSu.out.bx
      go_simp
      first | done | with_reducible rfl
    (try simp only [Act.put, List.setIfInBounds_toArray, List.set_cons_zero, List.set_cons_succ])
    refine wpAnyH_take (i := 36) (oi := { dst := some 95, op := Op.load 24 (Operand.tmp 5), type := 24, pos := "law.go:65", after := #[{ on := 35, ground := Ground.guard }], guard := some (35, true) }) (v := ?_) rfl (by kernel_rfl) (by kernel_rfl) (by kernel_rfl) (fun _ _ _ h => h) (Or.inl ⟨by rfl, ?_⟩) hHeld ?_
    rotate_left 1
    · intro u hSu
      obtain ⟨d0u, d1u, d2u, d3u⟩ := row4T hSu.out.bx
      go_simp
      first | done | with_reducible rfl
    (try simp only [Act.put, List.setIfInBounds_toArray, List.set_cons_zero, List.set_cons_succ])
    refine wpAnyH_take (i := 37) (oi := { dst := some 96, op := Op.move (Operand.tmp 3), type := 3, pos := "law.go:65", after := #[{ on := 35, ground := Ground.guard }], guard := some (35, true) }) (v := ?_) rfl (by kernel_rfl) (by kernel_rfl) (by kernel_rfl) (fun _ _ _ h => h) (Or.inl ⟨by rfl, ?_⟩) hHeld ?_
    rotate_left 1
    · intro u hSu
      obtain ⟨d0u, d1u, d2u, d3u⟩ := row4T hSu.out.bx
      go_simp
      first | done | with_reducible rfl
    (try simp only [Act.put, List.setIfInBounds_toArray, List.set_cons_zero, List.set_cons_succ])
    refine wpAnyH_take (i := 39) (oi := { dst := some 98, op := Op.load 24 (Operand.tmp 5), type := 24, pos := "law.go:65", after := #[{ on := 35, ground := Ground.guard }], guard := some (35, true) }) (v := ?_) rfl (by kernel_rfl) (by kernel_rfl) (by kernel_rfl) (fun _ _ _ h => h) (Or.inl ⟨by rfl, ?_⟩) hHeld ?_
    rotate_left 1
    · intro u hSu
      obtain ⟨d0u, d1u, d2u, d3u⟩ := row4T hSu.out.bx
      go_simp
      first | done | with_reducible rfl
    (try simp only [Act.put, List.setIfInBounds_toArray, List.set_cons_zero, List.set_cons_succ])
    refine wpAnyH_take (i := 40) (oi := { dst := some 99, op := Op.move (Operand.tmp 3), type := 3, pos := "law.go:65", after := #[{ on := 35, ground := Ground.guard }], guard := some (35, true) }) (v := ?_) rfl (by kernel_rfl) (by kernel_rfl) (by kernel_rfl) (fun _ _ _ h => h) (Or.inl ⟨by rfl, ?_⟩) hHeld ?_
    rotate_left 1
    · intro u hSu
      obtain ⟨d0u, d1u, d2u, d3u⟩ := row4T hSu.out.bx
      go_simp
      first | done | with_reducible rfl
    (try simp only [Act.put, List.setIfInBounds_toArray, List.set_cons_zero, List.set_cons_succ])
    refine wpAnyH_ready (rs := [38]) (by kernel_rfl) (by simp) ?_
    refine AllReadyH.cons (o := { dst := some 97, op := Op.call { callee := Callee.value (Operand.func 18), args := #[Operand.tmp 95, Operand.tmp 96], argTypes := #[24, 3] }, type := 32, pos := "law.go:65", after := #[{ on := 36, ground := Ground.data }, { on := 37, ground := Ground.data }, { on := 35, ground := Ground.chain }, { on := 35, ground := Ground.guard }], guard := some (35, true) }) rfl (fun Kz hK => ?_) AllReadyH.nil
    go_simp
    go_at_call 18
    refine (mlocal_any r s n hr p c L set _ hHeld.out.rd hm).mono ?_
    rintro e w17 ⟨rfl, hg⟩
    have HN7 := Lib.hid (hHeld.out.keep hg)
    clear hg
    refine hK.out _ _ (HN7) (fun hH2 => ?_)
    clear hK Kz hHeld
    have hHeld := hH2
    clear hH2
    (try simp only [Act.put, List.setIfInBounds_toArray, List.set_cons_zero, List.set_cons_succ])
    refine wpAnyH_ready (rs := [41]) (by kernel_rfl) (by simp) ?_
    refine AllReadyH.cons (o := { dst := some 100, op := Op.call { callee := Callee.value (Operand.func 19), args := #[Operand.tmp 98, Operand.tmp 99], argTypes := #[24, 3] }, type := 32, pos := "law.go:65", after := #[{ on := 39, ground := Ground.data }, { on := 40, ground := Ground.data }, { on := 38, ground := Ground.chain }, { on := 35, ground := Ground.guard }], guard := some (35, true) }) rfl (fun Kz hK => ?_) AllReadyH.nil
    go_simp
    go_at_call 19
    refine (rlocal_any r s n p c L set _ hHeld.out.rd hm).mono ?_
    rintro e w18 ⟨rfl, hg⟩
    have HN8 := Lib.hid (hHeld.out.keep hg)
    clear hg
    refine hK.out _ _ (HN8) (fun hH2 => ?_)
    clear hK Kz hHeld
    have hHeld := hH2
    clear hH2
    (try simp only [Act.put, List.setIfInBounds_toArray, List.set_cons_zero, List.set_cons_succ])
    refine wpAnyH_take (i := 42) (oi := { dst := some 101, op := Op.binOp BinOp.eql 32 (Operand.tmp 97) (Operand.tmp 100) 32, type := 4, pos := "law.go:65", after := #[{ on := 38, ground := Ground.data }, { on := 41, ground := Ground.data }, { on := 35, ground := Ground.guard }], guard := some (35, true) }) (v := ?_) rfl (by kernel_rfl) (by kernel_rfl) (by kernel_rfl) (fun _ _ _ h => h) (Or.inl ⟨by rfl, ?_⟩) hHeld ?_
    rotate_left 1
    · intro u hSu
      obtain ⟨d0u, d1u, d2u, d3u⟩ := row4T hSu.out.bx
      go_simp
      first | done | with_reducible rfl
    (try simp only [Act.put, List.setIfInBounds_toArray, List.set_cons_zero, List.set_cons_succ])
    refine wpAnyH_take (i := 43) (oi := { dst := some 102, op := Op.pick (Operand.tmp 94) (Operand.tmp 101) (Operand.const (Value.bool false)), type := 4, pos := "law.go:65", after := #[{ on := 35, ground := Ground.data }, { on := 42, ground := Ground.data }], guard := none }) (v := ?_) rfl (by kernel_rfl) (by kernel_rfl) (by kernel_rfl) (fun _ _ _ h => h) (Or.inl ⟨by rfl, ?_⟩) hHeld ?_
    rotate_left 1
    · intro u hSu
      obtain ⟨d0u, d1u, d2u, d3u⟩ := row4T hSu.out.bx
      go_simp
      first | done | with_reducible rfl
    (try simp only [Act.put, List.setIfInBounds_toArray, List.set_cons_zero, List.set_cons_succ])
    refine wpAnyH_take (i := 44) (oi := { dst := some 103, op := Op.move (Operand.tmp 102), type := 4, pos := "law.go:65", after := #[{ on := 43, ground := Ground.data }, { on := 41, ground := Ground.chain }], guard := none }) (v := ?_) rfl (by kernel_rfl) (by kernel_rfl) (by kernel_rfl) (fun _ _ _ h => h) (Or.inl ⟨by rfl, ?_⟩) hHeld ?_
    rotate_left 1
    · intro u hSu
      obtain ⟨d0u, d1u, d2u, d3u⟩ := row4T hSu.out.bx
      go_simp
      first | done | with_reducible rfl
    (try simp only [Act.put, List.setIfInBounds_toArray, List.set_cons_zero, List.set_cons_succ])
    refine wpAnyH_take (i := 45) (oi := { dst := some 104, op := Op.load 24 (Operand.tmp 5), type := 24, pos := "law.go:65", after := #[{ on := 44, ground := Ground.guard }], guard := some (44, true) }) (v := ?_) rfl (by kernel_rfl) (by kernel_rfl) (by kernel_rfl) (fun _ _ _ h => h) (Or.inl ⟨by rfl, ?_⟩) hHeld ?_
    rotate_left 1
    · intro u hSu
      obtain ⟨d0u, d1u, d2u, d3u⟩ := row4T hSu.out.bx
      go_simp
      first | done | with_reducible rfl
    (try simp only [Act.put, List.setIfInBounds_toArray, List.set_cons_zero, List.set_cons_succ])
    refine wpAnyH_take (i := 46) (oi := { dst := some 105, op := Op.move (Operand.tmp 3), type := 3, pos := "law.go:65", after := #[{ on := 44, ground := Ground.guard }], guard := some (44, true) }) (v := ?_) rfl (by kernel_rfl) (by kernel_rfl) (by kernel_rfl) (fun _ _ _ h => h) (Or.inl ⟨by rfl, ?_⟩) hHeld ?_
    rotate_left 1
    · intro u hSu
      obtain ⟨d0u, d1u, d2u, d3u⟩ := row4T hSu.out.bx
      go_simp
      first | done | with_reducible rfl
    (try simp only [Act.put, List.setIfInBounds_toArray, List.set_cons_zero, List.set_cons_succ])
    refine wpAnyH_take (i := 48) (oi := { dst := some 107, op := Op.load 24 (Operand.tmp 5), type := 24, pos := "law.go:65", after := #[{ on := 44, ground := Ground.guard }], guard := some (44, true) }) (v := ?_) rfl (by kernel_rfl) (by kernel_rfl) (by kernel_rfl) (fun _ _ _ h => h) (Or.inl ⟨by rfl, ?_⟩) hHeld ?_
    rotate_left 1
    · intro u hSu
      obtain ⟨d0u, d1u, d2u, d3u⟩ := row4T hSu.out.bx
      go_simp
      first | done | with_reducible rfl
    (try simp only [Act.put, List.setIfInBounds_toArray, List.set_cons_zero, List.set_cons_succ])
    refine wpAnyH_take (i := 49) (oi := { dst := some 108, op := Op.move (Operand.tmp 3), type := 3, pos := "law.go:65", after := #[{ on := 44, ground := Ground.guard }], guard := some (44, true) }) (v := ?_) rfl (by kernel_rfl) (by kernel_rfl) (by kernel_rfl) (fun _ _ _ h => h) (Or.inl ⟨by rfl, ?_⟩) hHeld ?_
    rotate_left 1
    · intro u hSu
      obtain ⟨d0u, d1u, d2u, d3u⟩ := row4T hSu.out.bx
      go_simp
      first | done | with_reducible rfl
    (try simp only [Act.put, List.setIfInBounds_toArray, List.set_cons_zero, List.set_cons_succ])
    refine wpAnyH_ready (rs := [47]) (by kernel_rfl) (by simp) ?_
    refine AllReadyH.cons (o := { dst := some 106, op := Op.call { callee := Callee.value (Operand.func 20), args := #[Operand.tmp 104, Operand.tmp 105], argTypes := #[24, 3] }, type := 32, pos := "law.go:65", after := #[{ on := 45, ground := Ground.data }, { on := 46, ground := Ground.data }, { on := 44, ground := Ground.chain }, { on := 44, ground := Ground.guard }], guard := some (44, true) }) rfl (fun Kz hK => ?_) AllReadyH.nil
    go_simp
    go_at_call 20
    refine (mreach_any r s n p c L set _ hHeld.out.rd hm).mono ?_
    rintro e w19 ⟨R1, rfl, hO1, hg⟩
    have HO1 := Lib.hid hO1
    have HN9 := Lib.hid (hHeld.out.keep hg)
    clear hg hO1
    refine hK.out _ _ (HN9) (fun hH2 => ?_)
    clear hK Kz hHeld
    have hHeld := hH2
    clear hH2
    (try simp only [Act.put, List.setIfInBounds_toArray, List.set_cons_zero, List.set_cons_succ])
    refine wpAnyH_ready (rs := [50]) (by kernel_rfl) (by simp) ?_
    refine AllReadyH.cons (o := { dst := some 109, op := Op.call { callee := Callee.value (Operand.func 21), args := #[Operand.tmp 107, Operand.tmp 108], argTypes := #[24, 3] }, type := 32, pos := "law.go:65", after := #[{ on := 48, ground := Ground.data }, { on := 49, ground := Ground.data }, { on := 47, ground := Ground.chain }, { on := 44, ground := Ground.guard }], guard := some (44, true) }) rfl (fun Kz hK => ?_) AllReadyH.nil
    go_simp
    go_at_call 21
    refine (rreach_any r s n p c L set _ hHeld.out.rd hm).mono ?_
    rintro e w20 ⟨R2, rfl, hO2, hg⟩
    obtain rfl : R2 = R1 := hO2.uniq HO1.out
    have HN10 := Lib.hid (hHeld.out.keep hg)
    clear hg hO2
    refine hK.out _ _ (HN10) (fun hH2 => ?_)
    clear hK Kz hHeld
    have hHeld := hH2
    clear hH2
    (try simp only [Act.put, List.setIfInBounds_toArray, List.set_cons_zero, List.set_cons_succ])
    refine wpAnyH_take (i := 51) (oi := { dst := some 110, op := Op.binOp BinOp.eql 32 (Operand.tmp 106) (Operand.tmp 109) 32, type := 4, pos := "law.go:65", after := #[{ on := 47, ground := Ground.data }, { on := 50, ground := Ground.data }, { on := 44, ground := Ground.guard }], guard := some (44, true) }) (v := ?_) rfl (by kernel_rfl) (by kernel_rfl) (by kernel_rfl) (fun _ _ _ h => h) (Or.inl ⟨by rfl, ?_⟩) hHeld ?_
    rotate_left 1
    · intro u hSu
      obtain ⟨d0u, d1u, d2u, d3u⟩ := row4T hSu.out.bx
      go_simp
      first | done | with_reducible rfl
    (try simp only [Act.put, List.setIfInBounds_toArray, List.set_cons_zero, List.set_cons_succ])
    refine wpAnyH_take (i := 52) (oi := { dst := some 111, op := Op.pick (Operand.tmp 103) (Operand.tmp 110) (Operand.const (Value.bool false)), type := 4, pos := "law.go:65", after := #[{ on := 44, ground := Ground.data }, { on := 51, ground := Ground.data }], guard := none }) (v := ?_) rfl (by kernel_rfl) (by kernel_rfl) (by kernel_rfl) (fun _ _ _ h => h) (Or.inl ⟨by rfl, ?_⟩) hHeld ?_
    rotate_left 1
    · intro u hSu
      obtain ⟨d0u, d1u, d2u, d3u⟩ := row4T hSu.out.bx
      go_simp
      first | done | with_reducible rfl
    (try simp only [Act.put, List.setIfInBounds_toArray, List.set_cons_zero, List.set_cons_succ])
    refine wpAnyH_take (i := 53) (oi := { dst := some 112, op := Op.move (Operand.tmp 111), type := 4, pos := "law.go:65", after := #[{ on := 52, ground := Ground.data }, { on := 50, ground := Ground.chain }], guard := none }) (v := ?_) rfl (by kernel_rfl) (by kernel_rfl) (by kernel_rfl) (fun _ _ _ h => h) (Or.inl ⟨by rfl, ?_⟩) hHeld ?_
    rotate_left 1
    · intro u hSu
      obtain ⟨d0u, d1u, d2u, d3u⟩ := row4T hSu.out.bx
      go_simp
      first | done | with_reducible rfl
    (try simp only [Act.put, List.setIfInBounds_toArray, List.set_cons_zero, List.set_cons_succ])
    refine wpAnyH_ready (rs := [54]) (by kernel_rfl) (by simp) ?_
    refine AllReadyH.cons (o := { dst := some 113, op := Op.call { callee := Callee.value (Operand.func 8), args := #[], argTypes := #[] }, type := 4, pos := "law.go:65", after := #[{ on := 53, ground := Ground.chain }, { on := 53, ground := Ground.guard }], guard := some (53, true) }) rfl (fun Kz hK => ?_) AllReadyH.nil
    go_simp
    go_at_call 8
    refine (mawake_any _).mono ?_
    rintro e w21 ⟨rfl, hg⟩
    have HN11 := Lib.hid (hHeld.out.keep hg)
    clear hg
    refine hK.out _ _ (HN11) (fun hH2 => ?_)
    clear hK Kz hHeld
    have hHeld := hH2
    clear hH2
    (try simp only [Act.put, List.setIfInBounds_toArray, List.set_cons_zero, List.set_cons_succ])
    refine wpAnyH_take (i := 55) (oi := { dst := some 114, op := Op.pick (Operand.tmp 112) (Operand.tmp 113) (Operand.const (Value.bool false)), type := 4, pos := "law.go:65", after := #[{ on := 53, ground := Ground.data }, { on := 54, ground := Ground.data }], guard := none }) (v := ?_) rfl (by kernel_rfl) (by kernel_rfl) (by kernel_rfl) (fun _ _ _ h => h) (Or.inl ⟨by rfl, ?_⟩) hHeld ?_
    rotate_left 1
    · intro u hSu
      obtain ⟨d0u, d1u, d2u, d3u⟩ := row4T hSu.out.bx
      go_simp
      first | done | with_reducible rfl
    (try simp only [Act.put, List.setIfInBounds_toArray, List.set_cons_zero, List.set_cons_succ])
    refine wpAnyH_take (i := 56) (oi := { dst := some 10, op := Op.assign (Operand.tmp 114), type := 4, pos := "law.go:65", after := #[{ on := 55, ground := Ground.data }, { on := 54, ground := Ground.chain }, { on := 0, ground := Ground.phase }, { on := 1, ground := Ground.phase }, { on := 2, ground := Ground.phase }, { on := 3, ground := Ground.phase }, { on := 4, ground := Ground.phase }, { on := 5, ground := Ground.phase }, { on := 6, ground := Ground.phase }, { on := 7, ground := Ground.phase }, { on := 8, ground := Ground.phase }, { on := 9, ground := Ground.phase }, { on := 10, ground := Ground.phase }, { on := 11, ground := Ground.phase }, { on := 12, ground := Ground.phase }, { on := 13, ground := Ground.phase }, { on := 14, ground := Ground.phase }, { on := 15, ground := Ground.phase }, { on := 16, ground := Ground.phase }, { on := 17, ground := Ground.phase }, { on := 18, ground := Ground.phase }, { on := 19, ground := Ground.phase }, { on := 20, ground := Ground.phase }, { on := 21, ground := Ground.phase }, { on := 22, ground := Ground.phase }, { on := 23, ground := Ground.phase }, { on := 24, ground := Ground.phase }, { on := 25, ground := Ground.phase }, { on := 26, ground := Ground.phase }, { on := 27, ground := Ground.phase }, { on := 28, ground := Ground.phase }, { on := 29, ground := Ground.phase }, { on := 30, ground := Ground.phase }, { on := 31, ground := Ground.phase }, { on := 32, ground := Ground.phase }, { on := 33, ground := Ground.phase }, { on := 34, ground := Ground.phase }, { on := 35, ground := Ground.phase }, { on := 36, ground := Ground.phase }, { on := 37, ground := Ground.phase }, { on := 38, ground := Ground.phase }, { on := 39, ground := Ground.phase }, { on := 40, ground := Ground.phase }, { on := 41, ground := Ground.phase }, { on := 42, ground := Ground.phase }, { on := 43, ground := Ground.phase }, { on := 44, ground := Ground.phase }, { on := 45, ground := Ground.phase }, { on := 46, ground := Ground.phase }, { on := 47, ground := Ground.phase }, { on := 48, ground := Ground.phase }, { on := 49, ground := Ground.phase }, { on := 50, ground := Ground.phase }, { on := 51, ground := Ground.phase }, { on := 52, ground := Ground.phase }, { on := 53, ground := Ground.phase }, { on := 54, ground := Ground.phase }, { on := 55, ground := Ground.phase }], guard := none }) (v := ?_) rfl (by kernel_rfl) (by kernel_rfl) (by kernel_rfl) (fun _ _ _ h => h) (Or.inl ⟨by rfl, ?_⟩) hHeld ?_
    rotate_left 1
    · intro u hSu
      obtain ⟨d0u, d1u, d2u, d3u⟩ := row4T hSu.out.bx
      go_simp
      first | done | with_reducible rfl
    (try simp only [Act.put, List.setIfInBounds_toArray, List.set_cons_zero, List.set_cons_succ])
    refine wpAnyH_done (by kernel_rfl) ?_ _
    go_wp2_with fail
    go_ret
    exact ⟨rfl, hHeld.out.gr⟩
  have hlt' : (k : Int) < (L.length : Int) := by omega
  obtain ⟨x, hx⟩ : ∃ x, L[k]? = some x := ⟨_, List.getElem?_eq_getElem hlt⟩
  obtain ⟨-, b, off, rfl, -, hc⟩ := rw_cells K.out.rd.rd (by omega)
  obtain ⟨a0, a1⟩ := hc k x hx
  have hcx := K.out.rd.ok x (List.mem_of_getElem? hx)
  have hmx : x.nx.length ≤ 9223372036854775807 := Nat.le_trans hcx.hc.1 hcx.hc.2
  have HCC : Hid (∀ u, BX w r s n (some ⟨b, off, none⟩) c L u → u.cell? ⟨b, off + k * 2, none⟩ = some (.int .i64 x.id) ∧ u.cell? ⟨b, off + k * 2 + 1, none⟩ = some (.slice x.p x.nx.length x.c)) := Lib.hid (fun u hu => by
    obtain ⟨-, b', off', hpe, -, hc'⟩ := rw_cells hu.rd.rd (by omega)
    injection hpe with hpe
    injection hpe with e1 e2
    subst e1
    subst e2
    exact hc' k x hx)
  clear hc hx hcx
  go_upto_region 6 with fail
  by_cases hl60 : 60 < x.nx.length
  case pos =>
    have hl60' : (60 : Int) < (x.nx.length : Int) := by omega
    refine wp_region_held_drew (S := fun w' => Hid (BX w r s n (some ⟨b, off, none⟩) c L w')) (by kernel_rfl) (Lib.hid (K.out.keep (grown_drew (grown_refl _ none)))) (fun hHeld => ?_)
    refine wpAnyH_take (i := 0) (oi := { dst := some 24, op := Op.fieldAddr 24 (Operand.tmp 5) 3, type := 0, pos := "law.go:61", after := #[], guard := none }) (v := ?_) rfl (by kernel_rfl) (by kernel_rfl) (by kernel_rfl) (fun _ _ _ h => h) (Or.inl ⟨by rfl, ?_⟩) hHeld ?_
    rotate_left 1
    · intro u hSu
      obtain ⟨d0u, d1u, d2u, d3u⟩ := row4T hSu.out.bx
      obtain ⟨a0u, a1u⟩ := HCC.out _ hSu.out
      go_simp
      first | done | with_reducible rfl
    (try simp only [Act.put, List.setIfInBounds_toArray, List.set_cons_zero, List.set_cons_succ])
    refine wpAnyH_take (i := 1) (oi := { dst := some 25, op := Op.load 22 (Operand.tmp 24), type := 22, pos := "law.go:61", after := #[{ on := 0, ground := Ground.data }], guard := none }) (v := ?_) rfl (by kernel_rfl) (by kernel_rfl) (by kernel_rfl) (fun _ _ _ h => h) (Or.inl ⟨by rfl, ?_⟩) hHeld ?_
    rotate_left 1
    · intro u hSu
      obtain ⟨d0u, d1u, d2u, d3u⟩ := row4T hSu.out.bx
      obtain ⟨a0u, a1u⟩ := HCC.out _ hSu.out
      go_simp
      first | done | with_reducible rfl
    (try simp only [Act.put, List.setIfInBounds_toArray, List.set_cons_zero, List.set_cons_succ])
    refine wpAnyH_take (i := 2) (oi := { dst := some 26, op := Op.move (Operand.tmp 11), type := 3, pos := "law.go:61", after := #[], guard := none }) (v := ?_) rfl (by kernel_rfl) (by kernel_rfl) (by kernel_rfl) (fun _ _ _ h => h) (Or.inl ⟨by rfl, ?_⟩) hHeld ?_
    rotate_left 1
    · intro u hSu
      obtain ⟨d0u, d1u, d2u, d3u⟩ := row4T hSu.out.bx
      obtain ⟨a0u, a1u⟩ := HCC.out _ hSu.out
      go_simp
      first | done | with_reducible rfl
    (try simp only [Act.put, List.setIfInBounds_toArray, List.set_cons_zero, List.set_cons_succ])
    refine wpAnyH_take (i := 3) (oi := { dst := some 27, op := Op.indexAddr 22 (Operand.tmp 25) (Operand.tmp 26), type := 0, pos := "law.go:61", after := #[{ on := 1, ground := Ground.data }, { on := 2, ground := Ground.data }], guard := none }) (v := ?_) rfl (by kernel_rfl) (by kernel_rfl) (by kernel_rfl) (fun _ _ _ h => h) (Or.inl ⟨by rfl, ?_⟩) hHeld ?_
    rotate_left 1
    · intro u hSu
      obtain ⟨d0u, d1u, d2u, d3u⟩ := row4T hSu.out.bx
      obtain ⟨a0u, a1u⟩ := HCC.out _ hSu.out
      go_simp
      first | done | with_reducible rfl
    (try simp only [Act.put, List.setIfInBounds_toArray, List.set_cons_zero, List.set_cons_succ])
    refine wpAnyH_take (i := 4) (oi := { dst := some 28, op := Op.fieldAddr 28 (Operand.tmp 27) 1, type := 0, pos := "law.go:61", after := #[{ on := 3, ground := Ground.data }], guard := none }) (v := ?_) rfl (by kernel_rfl) (by kernel_rfl) (by kernel_rfl) (fun _ _ _ h => h) (Or.inl ⟨by rfl, ?_⟩) hHeld ?_
    rotate_left 1
    · intro u hSu
      obtain ⟨d0u, d1u, d2u, d3u⟩ := row4T hSu.out.bx
      obtain ⟨a0u, a1u⟩ := HCC.out _ hSu.out
      go_simp
      first | done | with_reducible rfl
    (try simp only [Act.put, List.setIfInBounds_toArray, List.set_cons_zero, List.set_cons_succ])
    refine wpAnyH_take (i := 5) (oi := { dst := some 29, op := Op.load 26 (Operand.tmp 28), type := 26, pos := "law.go:61", after := #[{ on := 4, ground := Ground.data }], guard := none }) (v := ?_) rfl (by kernel_rfl) (by kernel_rfl) (by kernel_rfl) (fun _ _ _ h => h) (Or.inl ⟨by rfl, ?_⟩) hHeld ?_
    rotate_left 1
    · intro u hSu
      obtain ⟨d0u, d1u, d2u, d3u⟩ := row4T hSu.out.bx
      obtain ⟨a0u, a1u⟩ := HCC.out _ hSu.out
      go_simp
      first | done | with_reducible rfl
    (try simp only [Act.put, List.setIfInBounds_toArray, List.set_cons_zero, List.set_cons_succ])
    refine wpAnyH_take (i := 6) (oi := { dst := some 30, op := Op.call { callee := Callee.builtin Builtin.len, args := #[Operand.tmp 29], argTypes := #[26] }, type := 3, pos := "law.go:61", after := #[{ on := 5, ground := Ground.data }], guard := none }) (v := ?_) rfl (by kernel_rfl) (by kernel_rfl) (by kernel_rfl) (fun _ _ _ h => h) (Or.inl ⟨by rfl, ?_⟩) hHeld ?_
    rotate_left 1
    · intro u hSu
      obtain ⟨d0u, d1u, d2u, d3u⟩ := row4T hSu.out.bx
      obtain ⟨a0u, a1u⟩ := HCC.out _ hSu.out
      go_simp
      first | done | with_reducible rfl
    (try simp only [Act.put, List.setIfInBounds_toArray, List.set_cons_zero, List.set_cons_succ])
    refine wpAnyH_take (i := 7) (oi := { dst := some 31, op := Op.binOp BinOp.gtr 3 (Operand.tmp 30) (Operand.const (Value.int IntKind.i64 60)) 3, type := 4, pos := "law.go:61", after := #[{ on := 6, ground := Ground.data }], guard := none }) (v := .bool true) rfl (by kernel_rfl) (by kernel_rfl) (by kernel_rfl) (fun _ _ _ h => h) (Or.inl ⟨by rfl, ?_⟩) hHeld ?_
    · intro u hSu
      obtain ⟨d0u, d1u, d2u, d3u⟩ := row4T hSu.out.bx
      obtain ⟨a0u, a1u⟩ := HCC.out _ hSu.out
      go_simp
      first | done | omega
    (try simp only [Act.put, List.setIfInBounds_toArray, List.set_cons_zero, List.set_cons_succ])
    refine wpAnyH_take (i := 8) (oi := { dst := some 32, op := Op.move (Operand.tmp 31), type := 4, pos := "law.go:61", after := #[{ on := 7, ground := Ground.data }], guard := none }) (v := ?_) rfl (by kernel_rfl) (by kernel_rfl) (by kernel_rfl) (fun _ _ _ h => h) (Or.inl ⟨by rfl, ?_⟩) hHeld ?_
    rotate_left 1
    · intro u hSu
      obtain ⟨d0u, d1u, d2u, d3u⟩ := row4T hSu.out.bx
      obtain ⟨a0u, a1u⟩ := HCC.out _ hSu.out
      go_simp
      first | done | with_reducible rfl
    (try simp only [Act.put, List.setIfInBounds_toArray, List.set_cons_zero, List.set_cons_succ])
    refine wpAnyH_take (i := 9) (oi := { dst := some 33, op := Op.fieldAddr 24 (Operand.tmp 5) 3, type := 0, pos := "law.go:61", after := #[{ on := 8, ground := Ground.guard }], guard := some (8, false) }) (v := undef) rfl (by kernel_rfl) (by kernel_rfl) (by kernel_rfl) (fun _ _ _ h => h) (Or.inr ⟨by rfl, rfl⟩) hHeld ?_
    (try simp only [Act.put, List.setIfInBounds_toArray, List.set_cons_zero, List.set_cons_succ])
    refine wpAnyH_take (i := 10) (oi := { dst := some 34, op := Op.load 22 (Operand.tmp 33), type := 22, pos := "law.go:61", after := #[{ on := 9, ground := Ground.data }, { on := 8, ground := Ground.guard }], guard := some (8, false) }) (v := undef) rfl (by kernel_rfl) (by kernel_rfl) (by kernel_rfl) (fun _ _ _ h => h) (Or.inr ⟨by rfl, rfl⟩) hHeld ?_
    (try simp only [Act.put, List.setIfInBounds_toArray, List.set_cons_zero, List.set_cons_succ])
    refine wpAnyH_take (i := 11) (oi := { dst := some 35, op := Op.move (Operand.tmp 11), type := 3, pos := "law.go:61", after := #[{ on := 8, ground := Ground.guard }], guard := some (8, false) }) (v := undef) rfl (by kernel_rfl) (by kernel_rfl) (by kernel_rfl) (fun _ _ _ h => h) (Or.inr ⟨by rfl, rfl⟩) hHeld ?_
    (try simp only [Act.put, List.setIfInBounds_toArray, List.set_cons_zero, List.set_cons_succ])
    refine wpAnyH_take (i := 12) (oi := { dst := some 36, op := Op.indexAddr 22 (Operand.tmp 34) (Operand.tmp 35), type := 0, pos := "law.go:61", after := #[{ on := 10, ground := Ground.data }, { on := 11, ground := Ground.data }, { on := 8, ground := Ground.guard }], guard := some (8, false) }) (v := undef) rfl (by kernel_rfl) (by kernel_rfl) (by kernel_rfl) (fun _ _ _ h => h) (Or.inr ⟨by rfl, rfl⟩) hHeld ?_
    (try simp only [Act.put, List.setIfInBounds_toArray, List.set_cons_zero, List.set_cons_succ])
    refine wpAnyH_take (i := 13) (oi := { dst := some 37, op := Op.load 28 (Operand.tmp 36), type := 28, pos := "law.go:61", after := #[{ on := 12, ground := Ground.data }, { on := 8, ground := Ground.guard }], guard := some (8, false) }) (v := undef) rfl (by kernel_rfl) (by kernel_rfl) (by kernel_rfl) (fun _ _ _ h => h) (Or.inr ⟨by rfl, rfl⟩) hHeld ?_
    (try simp only [Act.put, List.setIfInBounds_toArray, List.set_cons_zero, List.set_cons_succ])
    refine wpAnyH_take (i := 14) (oi := { dst := some 38, op := Op.call { callee := Callee.value (Operand.func 10), args := #[Operand.tmp 37], argTypes := #[28] }, type := 26, pos := "law.go:61", after := #[{ on := 13, ground := Ground.data }, { on := 8, ground := Ground.chain }, { on := 8, ground := Ground.guard }], guard := some (8, false) }) (v := undef) rfl (by kernel_rfl) (by kernel_rfl) (by kernel_rfl) (fun _ _ _ h => h) (Or.inr ⟨by rfl, rfl⟩) hHeld ?_
    (try simp only [Act.put, List.setIfInBounds_toArray, List.set_cons_zero, List.set_cons_succ])
    refine wpAnyH_take (i := 15) (oi := { dst := some 39, op := Op.fieldAddr 24 (Operand.tmp 5) 3, type := 0, pos := "law.go:61", after := #[{ on := 8, ground := Ground.guard }], guard := some (8, false) }) (v := undef) rfl (by kernel_rfl) (by kernel_rfl) (by kernel_rfl) (fun _ _ _ h => h) (Or.inr ⟨by rfl, rfl⟩) hHeld ?_
    (try simp only [Act.put, List.setIfInBounds_toArray, List.set_cons_zero, List.set_cons_succ])
    refine wpAnyH_take (i := 16) (oi := { dst := some 40, op := Op.load 22 (Operand.tmp 39), type := 22, pos := "law.go:61", after := #[{ on := 15, ground := Ground.data }, { on := 8, ground := Ground.guard }], guard := some (8, false) }) (v := undef) rfl (by kernel_rfl) (by kernel_rfl) (by kernel_rfl) (fun _ _ _ h => h) (Or.inr ⟨by rfl, rfl⟩) hHeld ?_
    (try simp only [Act.put, List.setIfInBounds_toArray, List.set_cons_zero, List.set_cons_succ])
    refine wpAnyH_take (i := 17) (oi := { dst := some 41, op := Op.move (Operand.tmp 11), type := 3, pos := "law.go:61", after := #[{ on := 8, ground := Ground.guard }], guard := some (8, false) }) (v := undef) rfl (by kernel_rfl) (by kernel_rfl) (by kernel_rfl) (fun _ _ _ h => h) (Or.inr ⟨by rfl, rfl⟩) hHeld ?_
    (try simp only [Act.put, List.setIfInBounds_toArray, List.set_cons_zero, List.set_cons_succ])
    refine wpAnyH_take (i := 18) (oi := { dst := some 42, op := Op.indexAddr 22 (Operand.tmp 40) (Operand.tmp 41), type := 0, pos := "law.go:61", after := #[{ on := 16, ground := Ground.data }, { on := 17, ground := Ground.data }, { on := 8, ground := Ground.guard }], guard := some (8, false) }) (v := undef) rfl (by kernel_rfl) (by kernel_rfl) (by kernel_rfl) (fun _ _ _ h => h) (Or.inr ⟨by rfl, rfl⟩) hHeld ?_
    (try simp only [Act.put, List.setIfInBounds_toArray, List.set_cons_zero, List.set_cons_succ])
    refine wpAnyH_take (i := 19) (oi := { dst := some 43, op := Op.load 28 (Operand.tmp 42), type := 28, pos := "law.go:61", after := #[{ on := 18, ground := Ground.data }, { on := 8, ground := Ground.guard }], guard := some (8, false) }) (v := undef) rfl (by kernel_rfl) (by kernel_rfl) (by kernel_rfl) (fun _ _ _ h => h) (Or.inr ⟨by rfl, rfl⟩) hHeld ?_
    (try simp only [Act.put, List.setIfInBounds_toArray, List.set_cons_zero, List.set_cons_succ])
    refine wpAnyH_take (i := 20) (oi := { dst := some 44, op := Op.call { callee := Callee.value (Operand.func 11), args := #[Operand.tmp 43], argTypes := #[28] }, type := 26, pos := "law.go:61", after := #[{ on := 19, ground := Ground.data }, { on := 14, ground := Ground.chain }, { on := 8, ground := Ground.guard }], guard := some (8, false) }) (v := undef) rfl (by kernel_rfl) (by kernel_rfl) (by kernel_rfl) (fun _ _ _ h => h) (Or.inr ⟨by rfl, rfl⟩) hHeld ?_
    (try simp only [Act.put, List.setIfInBounds_toArray, List.set_cons_zero, List.set_cons_succ])
    refine wpAnyH_take (i := 21) (oi := { dst := some 45, op := Op.call { callee := Callee.value (Operand.func 9), args := #[Operand.tmp 38, Operand.tmp 44], argTypes := #[26, 26] }, type := 4, pos := "law.go:61", after := #[{ on := 14, ground := Ground.data }, { on := 20, ground := Ground.data }, { on := 20, ground := Ground.chain }, { on := 8, ground := Ground.guard }], guard := some (8, false) }) (v := undef) rfl (by kernel_rfl) (by kernel_rfl) (by kernel_rfl) (fun _ _ _ h => h) (Or.inr ⟨by rfl, rfl⟩) hHeld ?_
    (try simp only [Act.put, List.setIfInBounds_toArray, List.set_cons_zero, List.set_cons_succ])
    refine wpAnyH_take (i := 22) (oi := { dst := some 46, op := Op.unOp UnOp.not 4 (Operand.tmp 45), type := 4, pos := "law.go:61", after := #[{ on := 21, ground := Ground.data }, { on := 8, ground := Ground.guard }], guard := some (8, false) }) (v := undef) rfl (by kernel_rfl) (by kernel_rfl) (by kernel_rfl) (fun _ _ _ h => h) (Or.inr ⟨by rfl, rfl⟩) hHeld ?_
    (try simp only [Act.put, List.setIfInBounds_toArray, List.set_cons_zero, List.set_cons_succ])
    refine wpAnyH_take (i := 23) (oi := { dst := some 47, op := Op.pick (Operand.tmp 32) (Operand.const (Value.bool true)) (Operand.tmp 46), type := 4, pos := "law.go:61", after := #[{ on := 8, ground := Ground.data }, { on := 22, ground := Ground.data }], guard := none }) (v := ?_) rfl (by kernel_rfl) (by kernel_rfl) (by kernel_rfl) (fun _ _ _ h => h) (Or.inl ⟨by rfl, ?_⟩) hHeld ?_
    rotate_left 1
    · intro u hSu
      obtain ⟨d0u, d1u, d2u, d3u⟩ := row4T hSu.out.bx
      obtain ⟨a0u, a1u⟩ := HCC.out _ hSu.out
      go_simp
      first | done | with_reducible rfl
    (try simp only [Act.put, List.setIfInBounds_toArray, List.set_cons_zero, List.set_cons_succ])
    refine wpAnyH_done (by kernel_rfl) ?_ _
    obtain ⟨d0, d1, d2, d3⟩ := row4T hHeld.out.bx
    obtain ⟨a0, a1⟩ := HCC.out _ hHeld.out
    clear K
    generalize w5.drew = w6 at *
    go_wp2_with fail
    refine (mawake_any w6).mono ?_
    rintro e w7 ⟨rfl, hg⟩
    have G := Lib.hid (grown_trans hHeld.out.gr hg)
    clear hg
    go_wp2_with fail
    go_ret
    exact ⟨rfl, G.out⟩
  have hl60' : ¬ (60 : Int) < (x.nx.length : Int) := by omega
  have hl100 : x.nx.length ≤ 100 := by omega
  refine wp_region_held_drew (S := fun w' => Hid (BX w r s n (some ⟨b, off, none⟩) c L w')) (by kernel_rfl) (Lib.hid (K.out.keep (grown_drew (grown_refl _ none)))) (fun hHeld => ?_)
  refine wpAnyH_take (i := 0) (oi := { dst := some 24, op := Op.fieldAddr 24 (Operand.tmp 5) 3, type := 0, pos := "law.go:61", after := #[], guard := none }) (v := ?_) rfl (by kernel_rfl) (by kernel_rfl) (by kernel_rfl) (fun _ _ _ h => h) (Or.inl ⟨by rfl, ?_⟩) hHeld ?_
  rotate_left 1
  · intro u hSu
    obtain ⟨d0u, d1u, d2u, d3u⟩ := row4T hSu.out.bx
    obtain ⟨a0u, a1u⟩ := HCC.out _ hSu.out
    go_simp
    first | done | with_reducible rfl
  (try simp only [Act.put, List.setIfInBounds_toArray, List.set_cons_zero, List.set_cons_succ])
  refine wpAnyH_take (i := 1) (oi := { dst := some 25, op := Op.load 22 (Operand.tmp 24), type := 22, pos := "law.go:61", after := #[{ on := 0, ground := Ground.data }], guard := none }) (v := ?_) rfl (by kernel_rfl) (by kernel_rfl) (by kernel_rfl) (fun _ _ _ h => h) (Or.inl ⟨by rfl, ?_⟩) hHeld ?_
  rotate_left 1
  · intro u hSu
    obtain ⟨d0u, d1u, d2u, d3u⟩ := row4T hSu.out.bx
    obtain ⟨a0u, a1u⟩ := HCC.out _ hSu.out
    go_simp
    first | done | with_reducible rfl
  (try simp only [Act.put, List.setIfInBounds_toArray, List.set_cons_zero, List.set_cons_succ])
  refine wpAnyH_take (i := 2) (oi := { dst := some 26, op := Op.move (Operand.tmp 11), type := 3, pos := "law.go:61", after := #[], guard := none }) (v := ?_) rfl (by kernel_rfl) (by kernel_rfl) (by kernel_rfl) (fun _ _ _ h => h) (Or.inl ⟨by rfl, ?_⟩) hHeld ?_
  rotate_left 1
  · intro u hSu
    obtain ⟨d0u, d1u, d2u, d3u⟩ := row4T hSu.out.bx
    obtain ⟨a0u, a1u⟩ := HCC.out _ hSu.out
    go_simp
    first | done | with_reducible rfl
  (try simp only [Act.put, List.setIfInBounds_toArray, List.set_cons_zero, List.set_cons_succ])
  refine wpAnyH_take (i := 3) (oi := { dst := some 27, op := Op.indexAddr 22 (Operand.tmp 25) (Operand.tmp 26), type := 0, pos := "law.go:61", after := #[{ on := 1, ground := Ground.data }, { on := 2, ground := Ground.data }], guard := none }) (v := ?_) rfl (by kernel_rfl) (by kernel_rfl) (by kernel_rfl) (fun _ _ _ h => h) (Or.inl ⟨by rfl, ?_⟩) hHeld ?_
  rotate_left 1
  · intro u hSu
    obtain ⟨d0u, d1u, d2u, d3u⟩ := row4T hSu.out.bx
    obtain ⟨a0u, a1u⟩ := HCC.out _ hSu.out
    go_simp
    first | done | with_reducible rfl
  (try simp only [Act.put, List.setIfInBounds_toArray, List.set_cons_zero, List.set_cons_succ])
  refine wpAnyH_take (i := 4) (oi := { dst := some 28, op := Op.fieldAddr 28 (Operand.tmp 27) 1, type := 0, pos := "law.go:61", after := #[{ on := 3, ground := Ground.data }], guard := none }) (v := ?_) rfl (by kernel_rfl) (by kernel_rfl) (by kernel_rfl) (fun _ _ _ h => h) (Or.inl ⟨by rfl, ?_⟩) hHeld ?_
  rotate_left 1
  · intro u hSu
    obtain ⟨d0u, d1u, d2u, d3u⟩ := row4T hSu.out.bx
    obtain ⟨a0u, a1u⟩ := HCC.out _ hSu.out
    go_simp
    first | done | with_reducible rfl
  (try simp only [Act.put, List.setIfInBounds_toArray, List.set_cons_zero, List.set_cons_succ])
  refine wpAnyH_take (i := 5) (oi := { dst := some 29, op := Op.load 26 (Operand.tmp 28), type := 26, pos := "law.go:61", after := #[{ on := 4, ground := Ground.data }], guard := none }) (v := ?_) rfl (by kernel_rfl) (by kernel_rfl) (by kernel_rfl) (fun _ _ _ h => h) (Or.inl ⟨by rfl, ?_⟩) hHeld ?_
  rotate_left 1
  · intro u hSu
    obtain ⟨d0u, d1u, d2u, d3u⟩ := row4T hSu.out.bx
    obtain ⟨a0u, a1u⟩ := HCC.out _ hSu.out
    go_simp
    first | done | with_reducible rfl
  (try simp only [Act.put, List.setIfInBounds_toArray, List.set_cons_zero, List.set_cons_succ])
  refine wpAnyH_take (i := 6) (oi := { dst := some 30, op := Op.call { callee := Callee.builtin Builtin.len, args := #[Operand.tmp 29], argTypes := #[26] }, type := 3, pos := "law.go:61", after := #[{ on := 5, ground := Ground.data }], guard := none }) (v := ?_) rfl (by kernel_rfl) (by kernel_rfl) (by kernel_rfl) (fun _ _ _ h => h) (Or.inl ⟨by rfl, ?_⟩) hHeld ?_
  rotate_left 1
  · intro u hSu
    obtain ⟨d0u, d1u, d2u, d3u⟩ := row4T hSu.out.bx
    obtain ⟨a0u, a1u⟩ := HCC.out _ hSu.out
    go_simp
    first | done | with_reducible rfl
  (try simp only [Act.put, List.setIfInBounds_toArray, List.set_cons_zero, List.set_cons_succ])
  refine wpAnyH_take (i := 7) (oi := { dst := some 31, op := Op.binOp BinOp.gtr 3 (Operand.tmp 30) (Operand.const (Value.int IntKind.i64 60)) 3, type := 4, pos := "law.go:61", after := #[{ on := 6, ground := Ground.data }], guard := none }) (v := .bool false) rfl (by kernel_rfl) (by kernel_rfl) (by kernel_rfl) (fun _ _ _ h => h) (Or.inl ⟨by rfl, ?_⟩) hHeld ?_
  · intro u hSu
    obtain ⟨d0u, d1u, d2u, d3u⟩ := row4T hSu.out.bx
    obtain ⟨a0u, a1u⟩ := HCC.out _ hSu.out
    go_simp
    first | done | omega
  (try simp only [Act.put, List.setIfInBounds_toArray, List.set_cons_zero, List.set_cons_succ])
  refine wpAnyH_take (i := 8) (oi := { dst := some 32, op := Op.move (Operand.tmp 31), type := 4, pos := "law.go:61", after := #[{ on := 7, ground := Ground.data }], guard := none }) (v := ?_) rfl (by kernel_rfl) (by kernel_rfl) (by kernel_rfl) (fun _ _ _ h => h) (Or.inl ⟨by rfl, ?_⟩) hHeld ?_
  rotate_left 1
  · intro u hSu
    obtain ⟨d0u, d1u, d2u, d3u⟩ := row4T hSu.out.bx
    obtain ⟨a0u, a1u⟩ := HCC.out _ hSu.out
    go_simp
    first | done | with_reducible rfl
  (try simp only [Act.put, List.setIfInBounds_toArray, List.set_cons_zero, List.set_cons_succ])
  refine wpAnyH_take (i := 9) (oi := { dst := some 33, op := Op.fieldAddr 24 (Operand.tmp 5) 3, type := 0, pos := "law.go:61", after := #[{ on := 8, ground := Ground.guard }], guard := some (8, false) }) (v := ?_) rfl (by kernel_rfl) (by kernel_rfl) (by kernel_rfl) (fun _ _ _ h => h) (Or.inl ⟨by rfl, ?_⟩) hHeld ?_
  rotate_left 1
  · intro u hSu
    obtain ⟨d0u, d1u, d2u, d3u⟩ := row4T hSu.out.bx
    obtain ⟨a0u, a1u⟩ := HCC.out _ hSu.out
    go_simp
    first | done | with_reducible rfl
  (try simp only [Act.put, List.setIfInBounds_toArray, List.set_cons_zero, List.set_cons_succ])
  refine wpAnyH_take (i := 10) (oi := { dst := some 34, op := Op.load 22 (Operand.tmp 33), type := 22, pos := "law.go:61", after := #[{ on := 9, ground := Ground.data }, { on := 8, ground := Ground.guard }], guard := some (8, false) }) (v := ?_) rfl (by kernel_rfl) (by kernel_rfl) (by kernel_rfl) (fun _ _ _ h => h) (Or.inl ⟨by rfl, ?_⟩) hHeld ?_
  rotate_left 1
  · intro u hSu
    obtain ⟨d0u, d1u, d2u, d3u⟩ := row4T hSu.out.bx
    obtain ⟨a0u, a1u⟩ := HCC.out _ hSu.out
    go_simp
    first | done | with_reducible rfl
  (try simp only [Act.put, List.setIfInBounds_toArray, List.set_cons_zero, List.set_cons_succ])
  refine wpAnyH_take (i := 11) (oi := { dst := some 35, op := Op.move (Operand.tmp 11), type := 3, pos := "law.go:61", after := #[{ on := 8, ground := Ground.guard }], guard := some (8, false) }) (v := ?_) rfl (by kernel_rfl) (by kernel_rfl) (by kernel_rfl) (fun _ _ _ h => h) (Or.inl ⟨by rfl, ?_⟩) hHeld ?_
  rotate_left 1
  · intro u hSu
    obtain ⟨d0u, d1u, d2u, d3u⟩ := row4T hSu.out.bx
    obtain ⟨a0u, a1u⟩ := HCC.out _ hSu.out
    go_simp
    first | done | with_reducible rfl
  (try simp only [Act.put, List.setIfInBounds_toArray, List.set_cons_zero, List.set_cons_succ])
  refine wpAnyH_take (i := 12) (oi := { dst := some 36, op := Op.indexAddr 22 (Operand.tmp 34) (Operand.tmp 35), type := 0, pos := "law.go:61", after := #[{ on := 10, ground := Ground.data }, { on := 11, ground := Ground.data }, { on := 8, ground := Ground.guard }], guard := some (8, false) }) (v := ?_) rfl (by kernel_rfl) (by kernel_rfl) (by kernel_rfl) (fun _ _ _ h => h) (Or.inl ⟨by rfl, ?_⟩) hHeld ?_
  rotate_left 1
  · intro u hSu
    obtain ⟨d0u, d1u, d2u, d3u⟩ := row4T hSu.out.bx
    obtain ⟨a0u, a1u⟩ := HCC.out _ hSu.out
    go_simp
    first | done | with_reducible rfl
  (try simp only [Act.put, List.setIfInBounds_toArray, List.set_cons_zero, List.set_cons_succ])
  refine wpAnyH_take (i := 13) (oi := { dst := some 37, op := Op.load 28 (Operand.tmp 36), type := 28, pos := "law.go:61", after := #[{ on := 12, ground := Ground.data }, { on := 8, ground := Ground.guard }], guard := some (8, false) }) (v := ?_) rfl (by kernel_rfl) (by kernel_rfl) (by kernel_rfl) (fun _ _ _ h => h) (Or.inl ⟨by rfl, ?_⟩) hHeld ?_
  rotate_left 1
  · intro u hSu
    obtain ⟨d0u, d1u, d2u, d3u⟩ := row4T hSu.out.bx
    obtain ⟨a0u, a1u⟩ := HCC.out _ hSu.out
    go_simp
    first | done | with_reducible rfl
  (try simp only [Act.put, List.setIfInBounds_toArray, List.set_cons_zero, List.set_cons_succ])
  refine wpAnyH_take (i := 15) (oi := { dst := some 39, op := Op.fieldAddr 24 (Operand.tmp 5) 3, type := 0, pos := "law.go:61", after := #[{ on := 8, ground := Ground.guard }], guard := some (8, false) }) (v := ?_) rfl (by kernel_rfl) (by kernel_rfl) (by kernel_rfl) (fun _ _ _ h => h) (Or.inl ⟨by rfl, ?_⟩) hHeld ?_
  rotate_left 1
  · intro u hSu
    obtain ⟨d0u, d1u, d2u, d3u⟩ := row4T hSu.out.bx
    obtain ⟨a0u, a1u⟩ := HCC.out _ hSu.out
    go_simp
    first | done | with_reducible rfl
  (try simp only [Act.put, List.setIfInBounds_toArray, List.set_cons_zero, List.set_cons_succ])
  refine wpAnyH_take (i := 16) (oi := { dst := some 40, op := Op.load 22 (Operand.tmp 39), type := 22, pos := "law.go:61", after := #[{ on := 15, ground := Ground.data }, { on := 8, ground := Ground.guard }], guard := some (8, false) }) (v := ?_) rfl (by kernel_rfl) (by kernel_rfl) (by kernel_rfl) (fun _ _ _ h => h) (Or.inl ⟨by rfl, ?_⟩) hHeld ?_
  rotate_left 1
  · intro u hSu
    obtain ⟨d0u, d1u, d2u, d3u⟩ := row4T hSu.out.bx
    obtain ⟨a0u, a1u⟩ := HCC.out _ hSu.out
    go_simp
    first | done | with_reducible rfl
  (try simp only [Act.put, List.setIfInBounds_toArray, List.set_cons_zero, List.set_cons_succ])
  refine wpAnyH_take (i := 17) (oi := { dst := some 41, op := Op.move (Operand.tmp 11), type := 3, pos := "law.go:61", after := #[{ on := 8, ground := Ground.guard }], guard := some (8, false) }) (v := ?_) rfl (by kernel_rfl) (by kernel_rfl) (by kernel_rfl) (fun _ _ _ h => h) (Or.inl ⟨by rfl, ?_⟩) hHeld ?_
  rotate_left 1
  · intro u hSu
    obtain ⟨d0u, d1u, d2u, d3u⟩ := row4T hSu.out.bx
    obtain ⟨a0u, a1u⟩ := HCC.out _ hSu.out
    go_simp
    first | done | with_reducible rfl
  (try simp only [Act.put, List.setIfInBounds_toArray, List.set_cons_zero, List.set_cons_succ])
  refine wpAnyH_take (i := 18) (oi := { dst := some 42, op := Op.indexAddr 22 (Operand.tmp 40) (Operand.tmp 41), type := 0, pos := "law.go:61", after := #[{ on := 16, ground := Ground.data }, { on := 17, ground := Ground.data }, { on := 8, ground := Ground.guard }], guard := some (8, false) }) (v := ?_) rfl (by kernel_rfl) (by kernel_rfl) (by kernel_rfl) (fun _ _ _ h => h) (Or.inl ⟨by rfl, ?_⟩) hHeld ?_
  rotate_left 1
  · intro u hSu
    obtain ⟨d0u, d1u, d2u, d3u⟩ := row4T hSu.out.bx
    obtain ⟨a0u, a1u⟩ := HCC.out _ hSu.out
    go_simp
    first | done | with_reducible rfl
  (try simp only [Act.put, List.setIfInBounds_toArray, List.set_cons_zero, List.set_cons_succ])
  refine wpAnyH_take (i := 19) (oi := { dst := some 43, op := Op.load 28 (Operand.tmp 42), type := 28, pos := "law.go:61", after := #[{ on := 18, ground := Ground.data }, { on := 8, ground := Ground.guard }], guard := some (8, false) }) (v := ?_) rfl (by kernel_rfl) (by kernel_rfl) (by kernel_rfl) (fun _ _ _ h => h) (Or.inl ⟨by rfl, ?_⟩) hHeld ?_
  rotate_left 1
  · intro u hSu
    obtain ⟨d0u, d1u, d2u, d3u⟩ := row4T hSu.out.bx
    obtain ⟨a0u, a1u⟩ := HCC.out _ hSu.out
    go_simp
    first | done | with_reducible rfl
  (try simp only [Act.put, List.setIfInBounds_toArray, List.set_cons_zero, List.set_cons_succ])
  refine wpAnyH_ready (rs := [14]) (by kernel_rfl) (by simp) ?_
  refine AllReadyH.cons (o := { dst := some 38, op := Op.call { callee := Callee.value (Operand.func 10), args := #[Operand.tmp 37], argTypes := #[28] }, type := 26, pos := "law.go:61", after := #[{ on := 13, ground := Ground.data }, { on := 8, ground := Ground.chain }, { on := 8, ground := Ground.guard }], guard := some (8, false) }) rfl (fun Kz hK => ?_) AllReadyH.nil
  go_simp
  go_at_call 10
  refine (mplanes_any x _ hl100).mono ?_
  rintro e w11 ⟨v, rfl, ho, hg⟩
  obtain ⟨p1, c1, rfl, -, -⟩ := own_shape ho
  have HP1 := Lib.hid (rd_of_own ho)
  have HN1 := Lib.hid (hHeld.out.keep hg)
  clear ho hg
  refine hK.out _ _ (HN1) (fun hH2 => ?_)
  clear hK Kz hHeld
  have hHeld := hH2
  clear hH2
  (try simp only [Act.put, List.setIfInBounds_toArray, List.set_cons_zero, List.set_cons_succ])
  refine wpAnyH_ready (rs := [20]) (by kernel_rfl) (by simp) ?_
  refine AllReadyH.cons (o := { dst := some 44, op := Op.call { callee := Callee.value (Operand.func 11), args := #[Operand.tmp 43], argTypes := #[28] }, type := 26, pos := "law.go:61", after := #[{ on := 19, ground := Ground.data }, { on := 14, ground := Ground.chain }, { on := 8, ground := Ground.guard }], guard := some (8, false) }) rfl (fun Kz hK => ?_) AllReadyH.nil
  go_simp
  go_at_call 11
  refine (rplanes_any x _ hl100).mono ?_
  rintro e w12 ⟨v, rfl, ho, hg⟩
  obtain ⟨p2, c2, rfl, -, -⟩ := own_shape ho
  have HP2 := Lib.hid (rd_of_own ho)
  have HP1b := Lib.hid (HP1.out.keep hg)
  have HN2 := Lib.hid (hHeld.out.keep hg)
  clear ho hg
  refine hK.out _ _ (HN2) (fun hH2 => ?_)
  clear hK Kz hHeld
  have hHeld := hH2
  clear hH2
  (try simp only [Act.put, List.setIfInBounds_toArray, List.set_cons_zero, List.set_cons_succ])
  refine wpAnyH_ready (rs := [21]) (by kernel_rfl) (by simp) ?_
  refine AllReadyH.cons (o := { dst := some 45, op := Op.call { callee := Callee.value (Operand.func 9), args := #[Operand.tmp 38, Operand.tmp 44], argTypes := #[26, 26] }, type := 4, pos := "law.go:61", after := #[{ on := 14, ground := Ground.data }, { on := 20, ground := Ground.data }, { on := 20, ground := Ground.chain }, { on := 8, ground := Ground.guard }], guard := some (8, false) }) rfl (fun Kz hK => ?_) AllReadyH.nil
  go_simp
  go_at_call 9
  refine (rintsT_any x.nx.length (plL x.nx.length 8) (plL_len _ _) p1 p2 c1 c2 _ _ _ HP1b.out HP2.out hmx).mono ?_
  rintro e w13 ⟨rfl, hg⟩
  have HN3 := Lib.hid (hHeld.out.keep hg)
  clear hg
  refine hK.out _ _ (HN3) (fun hH2 => ?_)
  clear hK Kz hHeld
  have hHeld := hH2
  clear hH2
  (try simp only [Act.put, List.setIfInBounds_toArray, List.set_cons_zero, List.set_cons_succ])
  refine wpAnyH_take (i := 22) (oi := { dst := some 46, op := Op.unOp UnOp.not 4 (Operand.tmp 45), type := 4, pos := "law.go:61", after := #[{ on := 21, ground := Ground.data }, { on := 8, ground := Ground.guard }], guard := some (8, false) }) (v := ?_) rfl (by kernel_rfl) (by kernel_rfl) (by kernel_rfl) (fun _ _ _ h => h) (Or.inl ⟨by rfl, ?_⟩) hHeld ?_
  rotate_left 1
  · intro u hSu
    obtain ⟨d0u, d1u, d2u, d3u⟩ := row4T hSu.out.bx
    obtain ⟨a0u, a1u⟩ := HCC.out _ hSu.out
    go_simp
    first | done | with_reducible rfl
  (try simp only [Act.put, List.setIfInBounds_toArray, List.set_cons_zero, List.set_cons_succ])
  refine wpAnyH_take (i := 23) (oi := { dst := some 47, op := Op.pick (Operand.tmp 32) (Operand.const (Value.bool true)) (Operand.tmp 46), type := 4, pos := "law.go:61", after := #[{ on := 8, ground := Ground.data }, { on := 22, ground := Ground.data }], guard := none }) (v := ?_) rfl (by kernel_rfl) (by kernel_rfl) (by kernel_rfl) (fun _ _ _ h => h) (Or.inl ⟨by rfl, ?_⟩) hHeld ?_
  rotate_left 1
  · intro u hSu
    obtain ⟨d0u, d1u, d2u, d3u⟩ := row4T hSu.out.bx
    obtain ⟨a0u, a1u⟩ := HCC.out _ hSu.out
    go_simp
    first | done | with_reducible rfl
  (try simp only [Act.put, List.setIfInBounds_toArray, List.set_cons_zero, List.set_cons_succ])
  refine wpAnyH_done (by kernel_rfl) ?_ _
  clear a0 a1 d0 d1 d2 d3 K
  go_wp2_with fail
  exact ⟨⟨k + 1, by omega, congrArg _ (by omega), hHeld⟩, by simp only [RowKit.intOf]; omega⟩
end Go.Proofs.Ytdkbdghkboeggaa

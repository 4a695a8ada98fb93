/- Parts of the proof, packed: AdTape. -/
import Derived.Test.YtnpkihioklpnmaaAg5
import Derived.Deep.RegionHeld3
import Derived.Deep.CutBlock
import Derived.Deep.CutRange
/- The tape's Advert: some advert; without mistakes it is valid. -/
namespace Go.Proofs.Ytnpkihioklpnmaa
open Go.RowKit Bs
set_option maxRecDepth 100000 in
set_option maxHeartbeats 12800000 in
theorem adv3_any (a : Nat) (R n : Int) (hR : I64 R) (hn : I64 n) (w : World) (hT : Tp w a) :
    Calls Try.prog 23 #[.pointer (some ⟨a, 0, none⟩), .int .i64 R, .int .i64 n] w fun e w' => TAPost3 a R n w e w' := by
  obtain ⟨ir, hir, hr0, hr1, hr2⟩ := info_parts info_re
  obtain ⟨ic, hic, hc0, hc1, hc2⟩ := info_parts info_cm
  have ha := hT.lt
  have kz := heap_alloc_new w (.cells #[.int .i64 0, .int .i64 0, .bool false, .slice none 0 0, .slice none 0 0] 38)
  have kg := World.grownBy_alloc w (.cells #[.int .i64 0, .int .i64 0, .bool false, .slice none 0 0, .slice none 0 0] 38) none
  have H0 := Lib.hid (And.intro kz (show St a w _ from ⟨grown_none kg _, hT.keep kg⟩))
  have HZ : Hid (w.heap.size < (w.alloc (.cells #[.int .i64 0, .int .i64 0, .bool false, .slice none 0 0, .slice none 0 0] 38)).heap.size) := Lib.hid (by simp)
  clear kz kg hT
  go_enter Try.func23, Try.ntmps23
  go_upto_region 1 with fail
  generalize w.alloc _ = wa at *
  have HT := Lib.hid (H0.out.2.2.alloc (.cells #[.int .i64 1, .int .i64 1, .int .i64 2, .int .i64 3, .int .i64 3, .int .i64 500000, .int .i64 1000000] 3))
  have HA : Hid (Among (fun x => 1 ≤ x ∧ x ≤ 1000000) (wa.alloc (.cells #[.int .i64 1, .int .i64 1, .int .i64 2, .int .i64 3, .int .i64 3, .int .i64 500000, .int .i64 1000000] 3)) a wa.heap.size 0 7) := Lib.hid (among_list _ wa a [1, 1, 2, 3, 3, 500000, 1000000] #[.int .i64 1, .int .i64 1, .int .i64 2, .int .i64 3, .int .i64 3, .int .i64 500000, .int .i64 1000000] 3 H0.out.2.2.lt rfl (by intro x hx; simp at hx; omega))
  go_wp2_with fail
  refine (pick_any _ a _ 0 7 7 (by omega) (by omega) _ HT.out HA.out).mono ?_
  rintro e w1 ⟨q, rfl, hq, hs⟩
  have hs1 := St.alloc_left hs
  have HQ := Lib.hid hq
  have H1 := Lib.hid (And.intro (kept_row H0.out.1 hs1.1 (fun e => by have := Option.some.inj e; omega)) (And.intro (H0.out.2.trans hs1) (Nat.lt_of_lt_of_le HZ.out hs1.1.size)))
  clear hs hs1 hq HT HA H0 HZ
  go_wp2_with fail
  refine (next_any a 3 (by unfold I64; omega) _ H1.out.2.1.2).mono ?_
  rintro e w2 ⟨y, rfl, -, hs⟩
  obtain ⟨cp, hcp⟩ : ∃ cp, decide (0 < y) = cp := ⟨_, rfl⟩
  have H2 := Lib.hid (And.intro (kept_row H1.out.1 hs.1 (fun e => by have := Option.some.inj e; omega)) (And.intro (H1.out.2.1.trans hs) (Nat.lt_of_lt_of_le H1.out.2.2 hs.1.size)))
  have k3 := World.grownBy_alloc w2 (.cells #[.int .i64 R, .int .i64 q, .bool cp, .slice none 0 0, .slice none 0 0] 38) none
  have H3 : Hid (AT a w w.heap.size w2.heap.size R q cp (.slice none 0 0) (.slice none 0 0) (.slice none 0 0) (.slice none 0 0) [] [] (w2.alloc (.cells #[.int .i64 R, .int .i64 q, .bool cp, .slice none 0 0, .slice none 0 0] 38))) := Lib.hid ⟨ag_start H2.out.1 (Nat.le_refl _) H2.out.2.2, H2.out.2.1.trans ⟨grown_none k3 _, H2.out.2.1.2.keep k3⟩⟩
  clear hs H1 H2 k3
  go_upto_region 2 with fail
  clear hcp
  generalize w2.alloc _ = w3 at *
  generalize w2.heap.size = B at *
  unfold I64 at hR hn
  go_upto_block 0 with fail
  go_cut [] from 19 to 41 (fun wx => ∃ vL L, (L : List T3).length ≤ 6 ∧ Hid (GL R 7 L ∧ AT a w w.heap.size B R q cp vL (.slice none 0 0) vL (.slice none 0 0) L [] wx))
  case first =>
    go_wp2_with fail
    go_loopw [8] (fun i wr => ∃ k : Nat, 1 ≤ k ∧ k ≤ 7 ∧ i = .int .i64 (k : Int) ∧ ∃ vL L, (L : List T3).length ≤ k - 1 ∧ Hid (GL R (k : Int) L ∧ AT a w w.heap.size B R q cp vL (.slice none 0 0) vL (.slice none 0 0) L [] wr)) (fun i _ => 7 - (RowKit.intOf i).toNat)
    case atStart => exact ⟨1, by omega, by omega, rfl, _, [], Nat.zero_le _, Lib.hid ⟨GL.nil _ _, H3.out⟩⟩
    case round =>
      obtain ⟨k, hk1, hk7, rfl, vL, L, hLl, HK⟩ := hrel
      clear H3
      by_cases hlt : k ≤ 6
      · by_cases hkR : (k : Int) = R
        · have hb1 : ((k : Int) == R) = true := by simp [hkR]
          have hb2 : ((k : Int) != R) = false := by simp [hkR]
          have HN : Hid (GL R ((k + 1 : Nat) : Int) L ∧ AT a w w.heap.size B R q cp vL (.slice none 0 0) vL (.slice none 0 0) L [] wr) := Lib.hid ⟨by have := HK.out.1.next; rwa [show ((k + 1 : Nat) : Int) = (k : Int) + 1 by omega], HK.out.2⟩
          have hkR' := Lib.hid hkR
          clear HK hkR
          go_wp2_with fail
          exact ⟨⟨k + 1, by omega, by omega, congrArg _ (by omega), vL, L, by omega, HN⟩, by simp only [RowKit.intOf]; omega⟩
        · have hb1 : ((k : Int) == R) = false := by simp [hkR]
          have hb2 : ((k : Int) != R) = true := by simp [hkR]
          have hkR' := Lib.hid hkR
          clear hkR
          go_wp2_with fail
          refine (next_any a 2 (by unfold I64; omega) _ HK.out.2.st.2).mono ?_
          rintro e w4 ⟨y2, rfl, hy2, hs⟩
          have H4 := Lib.hid (And.intro HK.out.1 (HK.out.2.tape ha hs))
          clear hs HK
          have hy3 : y2 = 0 ∨ y2 = 1 := by have := hy2.1; have := hy2.2.1 (by decide); omega
          clear hy2
          rcases hy3 with rfl | rfl
          · go_upto_region 6 with fail
            have HG := Lib.hid H4.out.1
            have HD := Lib.hid (H4.out.2.keep (grown_drew (grown_refl w4 none)))
            clear H4
            refine region_until (S := fun w' => Hid (w'.heap[B]? = some (.cells #[.int .i64 R, .int .i64 q, .bool cp, vL, .slice none 0 0] 38 (0, 0)))) (fun j => j == 9 || j == 10 || j == 11) (by kernel_rfl) (Lib.hid HD.out.g.ab) (fun hHeld => ?_)
            refine anyU_take (i := 0) (oi := { dst := some 31, op := Op.fieldAddr 38 (Operand.tmp 7) 3, type := 0, pos := "make.go:522", after := #[], guard := none }) (v := ?_) rfl (by kernel_rfl) (by kernel_rfl) (by kernel_rfl) (by kernel_rfl) (by kernel_rfl) (fun _ _ _ h => h) (Or.inl ⟨by rfl, ?_⟩) hHeld ?_
            rotate_left 1
            · intro u hSu
              have q0 := (cell_of_row _ _ 3 _ _ _ hSu.out)
              go_simp
              first | done | with_reducible rfl
            (try simp only [Act.put, List.setIfInBounds_toArray, List.set_cons_zero, List.set_cons_succ])
            refine anyU_take (i := 1) (oi := { dst := some 32, op := Op.load 35 (Operand.tmp 31), type := 35, pos := "make.go:522", after := #[{ on := 0, ground := Ground.data }], guard := none }) (v := ?_) rfl (by kernel_rfl) (by kernel_rfl) (by kernel_rfl) (by kernel_rfl) (by kernel_rfl) (fun _ _ _ h => h) (Or.inl ⟨by rfl, ?_⟩) hHeld ?_
            rotate_left 1
            · intro u hSu
              have q0 := (cell_of_row _ _ 3 _ _ _ hSu.out)
              go_simp
              first | done | with_reducible rfl
            (try simp only [Act.put, List.setIfInBounds_toArray, List.set_cons_zero, List.set_cons_succ])
            refine anyU_take (i := 2) (oi := { dst := some 33, op := Op.move (Operand.tmp 8), type := 3, pos := "make.go:522", after := #[], guard := none }) (v := ?_) rfl (by kernel_rfl) (by kernel_rfl) (by kernel_rfl) (by kernel_rfl) (by kernel_rfl) (fun _ _ _ h => h) (Or.inl ⟨by rfl, ?_⟩) hHeld ?_
            rotate_left 1
            · intro u hSu
              have q0 := (cell_of_row _ _ 3 _ _ _ hSu.out)
              go_simp
              first | done | with_reducible rfl
            (try simp only [Act.put, List.setIfInBounds_toArray, List.set_cons_zero, List.set_cons_succ])
            refine anyU_take (i := 3) (oi := { dst := some 34, op := Op.move (Operand.tmp 0), type := 26, pos := "make.go:522", after := #[], guard := none }) (v := ?_) rfl (by kernel_rfl) (by kernel_rfl) (by kernel_rfl) (by kernel_rfl) (by kernel_rfl) (fun _ _ _ h => h) (Or.inl ⟨by rfl, ?_⟩) hHeld ?_
            rotate_left 1
            · intro u hSu
              have q0 := (cell_of_row _ _ 3 _ _ _ hSu.out)
              go_simp
              first | done | with_reducible rfl
            (try simp only [Act.put, List.setIfInBounds_toArray, List.set_cons_zero, List.set_cons_succ])
            refine anyU_take (i := 5) (oi := { dst := some 36, op := Op.move (Operand.tmp 0), type := 26, pos := "make.go:522", after := #[], guard := none }) (v := ?_) rfl (by kernel_rfl) (by kernel_rfl) (by kernel_rfl) (by kernel_rfl) (by kernel_rfl) (fun _ _ _ h => h) (Or.inl ⟨by rfl, ?_⟩) hHeld ?_
            rotate_left 1
            · intro u hSu
              have q0 := (cell_of_row _ _ 3 _ _ _ hSu.out)
              go_simp
              first | done | with_reducible rfl
            (try simp only [Act.put, List.setIfInBounds_toArray, List.set_cons_zero, List.set_cons_succ])
            refine anyU_ready (rs := [4]) (by kernel_rfl) (by simp) ?_
            refine EachU.cons (o := { dst := some 35, op := Op.call { callee := Callee.value (Operand.func 18), args := #[Operand.tmp 34, Operand.const (Value.int IntKind.i64 1), Operand.const (Value.int IntKind.i64 3)], argTypes := #[26, 3, 3] }, type := 3, pos := "make.go:522", after := #[{ on := 3, ground := Ground.data }], guard := none }) rfl (fun Kz hK => ?_) EachU.nil
            go_simp
            go_at_call 18
            refine (range_any a 1 3 (by omega) (by omega) (by omega) (by omega) _ HD.out.st.2).mono ?_
            rintro e w5 ⟨x2, rfl, hx, hs⟩
            have Hx2 := Lib.hid hx
            clear hx
            have HDn := Lib.hid (HD.out.tape ha hs)
            clear hs HD
            have HD := HDn
            clear HDn
            refine hK.out _ _ (fun _ => Lib.hid HD.out.g.ab) (fun hH2 => ?_)
            clear hK Kz hHeld
            have hHeld := hH2 rfl
            clear hH2
            (try simp only [Act.put, List.setIfInBounds_toArray, List.set_cons_zero, List.set_cons_succ])
            refine anyU_ready (rs := [6]) (by kernel_rfl) (by simp) ?_
            refine EachU.cons (o := { dst := some 37, op := Op.call { callee := Callee.value (Operand.func 25), args := #[Operand.tmp 36, Operand.const (Value.int IntKind.i64 3)], argTypes := #[26, 3] }, type := 3, pos := "make.go:522", after := #[{ on := 5, ground := Ground.data }, { on := 4, ground := Ground.chain }], guard := none }) rfl (fun Kz hK => ?_) EachU.nil
            go_simp
            go_at_call 25
            refine (next_any a 3 (by unfold I64; omega) _ HD.out.st.2).mono ?_
            rintro e w5 ⟨x3, rfl, hx, hs⟩
            have Hx3 := Lib.hid hx
            clear hx
            have HDn := Lib.hid (HD.out.tape ha hs)
            clear hs HD
            have HD := HDn
            clear HDn
            refine hK.out _ _ (fun _ => Lib.hid HD.out.g.ab) (fun hH2 => ?_)
            clear hK Kz hHeld
            have hHeld := hH2 rfl
            clear hH2
            (try simp only [Act.put, List.setIfInBounds_toArray, List.set_cons_zero, List.set_cons_succ])
            refine anyU_take (i := 7) (oi := { dst := some 38, op := Op.build 73 #[(0, Operand.tmp 33), (1, Operand.tmp 35), (2, Operand.tmp 37)], type := 73, pos := "make.go:522", after := #[{ on := 2, ground := Ground.data }, { on := 4, ground := Ground.data }, { on := 6, ground := Ground.data }], guard := none }) (v := ?_) rfl (by kernel_rfl) (by kernel_rfl) (by kernel_rfl) (by kernel_rfl) (by kernel_rfl) (fun _ _ _ h => h) (Or.inl ⟨by rfl, ?_⟩) hHeld ?_
            rotate_left 1
            · intro u hSu
              have q0 := (cell_of_row _ _ 3 _ _ _ hSu.out)
              go_simp
              first | done | with_reducible rfl
            (try simp only [Act.put, List.setIfInBounds_toArray, List.set_cons_zero, List.set_cons_succ])
            refine anyU_ready (rs := [8]) (by kernel_rfl) (by simp) ?_
            refine EachU.cons (o := { dst := some 39, op := Op.buildSlice 35 1 #[(0, Operand.tmp 38)], type := 35, pos := "make.go:522", after := #[{ on := 7, ground := Ground.data }], guard := none }) rfl (fun Kz hK => ?_) EachU.nil
            go_simp
            have HDn := Lib.hid (HD.out.keep (World.grownBy_alloc _ (.cells #[.int .i64 (k : Int), .int .i64 x2, .int .i64 x3] 73) none))
            clear HD
            have HD := HDn
            clear HDn
            refine hK.out _ _ (fun _ => Lib.hid HD.out.g.ab) (fun hH2 => ?_)
            clear hK Kz hHeld
            have hHeld := hH2 rfl
            clear hH2
            (try simp only [Act.put, List.setIfInBounds_toArray, List.set_cons_zero, List.set_cons_succ])
            refine anyU_ready (rs := [9]) (by kernel_rfl) (by simp) ?_
            refine EachU.cons (o := { dst := some 40, op := Op.call { callee := Callee.builtin Builtin.append, args := #[Operand.tmp 32, Operand.tmp 39], argTypes := #[35, 35] }, type := 35, pos := "make.go:522", after := #[{ on := 1, ground := Ground.data }, { on := 8, ground := Ground.data }, { on := 6, ground := Ground.chain }], guard := none }) rfl (fun Kz hK => ?_) EachU.nil
            refine (astep_app t3C 3 24 (by decide) (fun _ => rfl) t3_one 73 35 ir _ Try.underlying35 hir hr0 hr1 hr2 rfl (by decide) (by rfl) _ _ (by rfl) (B + 1) vL L (by rfl) HD.out.g.oL (some ⟨_, 0, none⟩) 1 1 [⟨(k : Int), x2, x3⟩] (by rfl) rfl (by simp) (fun _ => True) (rdf_one _ trivial (cells3 _ _ _ _ _) 1) (by omega) (by simp; omega) (by have := HD.out.g.sz; omega) ?_)
            intro p4 c4 w8 hown hg hat
            have HD5 := Lib.hid (HD.out.addL ha (M := L ++ [⟨(k : Int), x2, x3⟩]) hown hg hat)
            obtain ⟨c90, c91, c92, c93, c94⟩ := HD5.out.g.cells
            have fB := frozen_of_row _ _ 3 _ _ HD5.out.g.ab
            clear hown hg hat HD
            refine hK.out _ _ (fun h => by cases h) (fun _ => ?_)
            clear hK Kz
            (try simp only [Act.put, List.setIfInBounds_toArray, List.set_cons_zero, List.set_cons_succ])
            refine anyU_ready (rs := [10]) (by kernel_rfl) (by simp) ?_
            refine EachU.cons (o := { dst := some 41, op := Op.fieldAddr 38 (Operand.tmp 7) 3, type := 0, pos := "make.go:522", after := #[{ on := 0, ground := Ground.phase }, { on := 1, ground := Ground.phase }, { on := 2, ground := Ground.phase }, { on := 3, ground := Ground.phase }, { on := 4, ground := Ground.phase }, { on := 5, ground := Ground.phase }, { on := 6, ground := Ground.phase }, { on := 7, ground := Ground.phase }, { on := 8, ground := Ground.phase }, { on := 9, ground := Ground.phase }], guard := none }) rfl (fun Kz hK => ?_) EachU.nil
            go_simp
            refine hK.out _ _ (fun h => by cases h) (fun _ => ?_)
            clear hK Kz
            (try simp only [Act.put, List.setIfInBounds_toArray, List.set_cons_zero, List.set_cons_succ])
            refine anyU_ready (rs := [11]) (by kernel_rfl) (by simp) ?_
            refine EachU.cons (o := { dst := none, op := Op.store 35 (Operand.tmp 41) (Operand.tmp 40), type := 0, pos := "make.go:522", after := #[{ on := 10, ground := Ground.data }, { on := 9, ground := Ground.data }, { on := 9, ground := Ground.chain }, { on := 0, ground := Ground.phase }, { on := 1, ground := Ground.phase }, { on := 2, ground := Ground.phase }, { on := 3, ground := Ground.phase }, { on := 4, ground := Ground.phase }, { on := 5, ground := Ground.phase }, { on := 6, ground := Ground.phase }, { on := 7, ground := Ground.phase }, { on := 8, ground := Ground.phase }, { on := 9, ground := Ground.phase }], guard := none }) rfl (fun Kz hK => ?_) EachU.nil
            go_simp
            refine hK.out _ _ (fun h => by cases h) (fun _ => ?_)
            clear hK Kz
            (try simp only [Act.put, List.setIfInBounds_toArray, List.set_cons_zero, List.set_cons_succ])
            refine anyU_done (by kernel_rfl) ?_ _
            have HN := Lib.hid (And.intro (HG.out.add x2 x3 (by omega) hkR'.out (by have h := Hx2.out; unfold RangeOf at h; omega) (by have h := Hx3.out; unfold CutOf at h; omega)) (HD5.out.putL ha))
            rw [show (k : Int) + 1 = ((k + 1 : Nat) : Int) by omega] at HN
            clear HD5 hHeld c90 c91 c92 c93 c94 fB HG
            go_wp2_with fail
            exact ⟨⟨k + 1, by omega, by omega, congrArg _ (by omega), _, _, by rw [List.length_append]; simp; omega, HN⟩, by simp only [RowKit.intOf]; omega⟩
          · have HN : Hid (GL R ((k + 1 : Nat) : Int) L ∧ AT a w w.heap.size B R q cp vL (.slice none 0 0) vL (.slice none 0 0) L [] w4) := Lib.hid ⟨by have := H4.out.1.next; rwa [show ((k + 1 : Nat) : Int) = (k : Int) + 1 by omega], H4.out.2⟩
            clear H4
            go_wp2_with fail
            exact ⟨⟨k + 1, by omega, by omega, congrArg _ (by omega), vL, L, by omega, HN⟩, by simp only [RowKit.intOf]; omega⟩
      · obtain rfl : k = 7 := by omega
        go_wp2_with fail
        go_meet
        exact ⟨vL, L, by omega, HK⟩
  case rest =>
  obtain ⟨vL, L, hLl, HK⟩ := hcut
  clear H3
  obtain ⟨vL0, hvL0⟩ : ∃ v, v = vL := ⟨_, rfl⟩
  rw [← hvL0] at HK
  clear hvL0
  go_upto_block 2 with fail
  go_cut [] from 42 to 59 (fun wx => ∃ vC C, (C : List T3).length ≤ 2 ∧ Hid (GC 2 C ∧ AT a w w.heap.size B R q cp vL0 vC vL0 vC L C wx))
  case first =>
    have HGL := Lib.hid HK.out.1
    go_wp2_with fail
    go_loopw [9] (fun i wr => ∃ k : Nat, k ≤ 2 ∧ i = .int .i64 (k : Int) ∧ ∃ vC C, (C : List T3).length ≤ k ∧ Hid (GC (k : Int) C ∧ AT a w w.heap.size B R q cp vL0 vC vL0 vC L C wr)) (fun i _ => 2 - (RowKit.intOf i).toNat)
    case atStart => exact ⟨0, by omega, rfl, _, [], Nat.le_refl _, Lib.hid ⟨GC.nil _, HK.out.2⟩⟩
    case round =>
      obtain ⟨k, hk2, rfl, vC, C, hCl, HKK⟩ := hrel
      clear HK
      by_cases hlt : k < 2
      · go_wp2_with fail
        refine (next_any a 2 (by unfold I64; omega) _ HKK.out.2.st.2).mono ?_
        rintro e w4 ⟨y2, rfl, hy2, hs⟩
        have H4 := Lib.hid (And.intro HKK.out.1 (HKK.out.2.tape ha hs))
        clear hs HKK
        have hy3 : y2 = 0 ∨ y2 = 1 := by have := hy2.1; have := hy2.2.1 (by decide); omega
        clear hy2
        rcases hy3 with rfl | rfl
        · go_upto_region 11 with fail
          have HG := Lib.hid H4.out.1
          have HD := Lib.hid (H4.out.2.keep (grown_drew (grown_refl w4 none)))
          clear H4
          refine region_until (S := fun w' => Hid (w'.heap[B]? = some (.cells #[.int .i64 R, .int .i64 q, .bool cp, vL0, vC] 38 (0, 0)))) (fun j => j == 9 || j == 10 || j == 11) (by kernel_rfl) (Lib.hid HD.out.g.ab) (fun hHeld => ?_)
          refine anyU_take (i := 0) (oi := { dst := some 49, op := Op.fieldAddr 38 (Operand.tmp 7) 4, type := 0, pos := "make.go:527", after := #[], guard := none }) (v := ?_) rfl (by kernel_rfl) (by kernel_rfl) (by kernel_rfl) (by kernel_rfl) (by kernel_rfl) (fun _ _ _ h => h) (Or.inl ⟨by rfl, ?_⟩) hHeld ?_
          rotate_left 1
          · intro u hSu
            have q0 := (cell_of_row _ _ 4 _ _ _ hSu.out)
            go_simp
            first | done | with_reducible rfl
          (try simp only [Act.put, List.setIfInBounds_toArray, List.set_cons_zero, List.set_cons_succ])
          refine anyU_take (i := 1) (oi := { dst := some 50, op := Op.load 36 (Operand.tmp 49), type := 36, pos := "make.go:527", after := #[{ on := 0, ground := Ground.data }], guard := none }) (v := ?_) rfl (by kernel_rfl) (by kernel_rfl) (by kernel_rfl) (by kernel_rfl) (by kernel_rfl) (fun _ _ _ h => h) (Or.inl ⟨by rfl, ?_⟩) hHeld ?_
          rotate_left 1
          · intro u hSu
            have q0 := (cell_of_row _ _ 4 _ _ _ hSu.out)
            go_simp
            first | done | with_reducible rfl
          (try simp only [Act.put, List.setIfInBounds_toArray, List.set_cons_zero, List.set_cons_succ])
          refine anyU_take (i := 2) (oi := { dst := some 51, op := Op.move (Operand.tmp 9), type := 3, pos := "make.go:527", after := #[], guard := none }) (v := ?_) rfl (by kernel_rfl) (by kernel_rfl) (by kernel_rfl) (by kernel_rfl) (by kernel_rfl) (fun _ _ _ h => h) (Or.inl ⟨by rfl, ?_⟩) hHeld ?_
          rotate_left 1
          · intro u hSu
            have q0 := (cell_of_row _ _ 4 _ _ _ hSu.out)
            go_simp
            first | done | with_reducible rfl
          (try simp only [Act.put, List.setIfInBounds_toArray, List.set_cons_zero, List.set_cons_succ])
          refine anyU_take (i := 3) (oi := { dst := some 52, op := Op.move (Operand.tmp 0), type := 26, pos := "make.go:527", after := #[], guard := none }) (v := ?_) rfl (by kernel_rfl) (by kernel_rfl) (by kernel_rfl) (by kernel_rfl) (by kernel_rfl) (fun _ _ _ h => h) (Or.inl ⟨by rfl, ?_⟩) hHeld ?_
          rotate_left 1
          · intro u hSu
            have q0 := (cell_of_row _ _ 4 _ _ _ hSu.out)
            go_simp
            first | done | with_reducible rfl
          (try simp only [Act.put, List.setIfInBounds_toArray, List.set_cons_zero, List.set_cons_succ])
          refine anyU_take (i := 5) (oi := { dst := some 54, op := Op.move (Operand.tmp 0), type := 26, pos := "make.go:527", after := #[], guard := none }) (v := ?_) rfl (by kernel_rfl) (by kernel_rfl) (by kernel_rfl) (by kernel_rfl) (by kernel_rfl) (fun _ _ _ h => h) (Or.inl ⟨by rfl, ?_⟩) hHeld ?_
          rotate_left 1
          · intro u hSu
            have q0 := (cell_of_row _ _ 4 _ _ _ hSu.out)
            go_simp
            first | done | with_reducible rfl
          (try simp only [Act.put, List.setIfInBounds_toArray, List.set_cons_zero, List.set_cons_succ])
          refine anyU_ready (rs := [4]) (by kernel_rfl) (by simp) ?_
          refine EachU.cons (o := { dst := some 53, op := Op.call { callee := Callee.value (Operand.func 18), args := #[Operand.tmp 52, Operand.const (Value.int IntKind.i64 1), Operand.const (Value.int IntKind.i64 9)], argTypes := #[26, 3, 3] }, type := 3, pos := "make.go:527", after := #[{ on := 3, ground := Ground.data }], guard := none }) rfl (fun Kz hK => ?_) EachU.nil
          go_simp
          go_at_call 18
          refine (range_any a 1 9 (by omega) (by omega) (by omega) (by omega) _ HD.out.st.2).mono ?_
          rintro e w5 ⟨x2, rfl, hx, hs⟩
          have Hx2 := Lib.hid hx
          clear hx
          have HDn := Lib.hid (HD.out.tape ha hs)
          clear hs HD
          have HD := HDn
          clear HDn
          refine hK.out _ _ (fun _ => Lib.hid HD.out.g.ab) (fun hH2 => ?_)
          clear hK Kz hHeld
          have hHeld := hH2 rfl
          clear hH2
          (try simp only [Act.put, List.setIfInBounds_toArray, List.set_cons_zero, List.set_cons_succ])
          refine anyU_ready (rs := [6]) (by kernel_rfl) (by simp) ?_
          refine EachU.cons (o := { dst := some 55, op := Op.call { callee := Callee.value (Operand.func 55), args := #[Operand.tmp 54], argTypes := #[26] }, type := 3, pos := "make.go:527", after := #[{ on := 5, ground := Ground.data }, { on := 4, ground := Ground.chain }], guard := none }) rfl (fun Kz hK => ?_) EachU.nil
          go_simp
          go_at_call 55
          refine (length_any a _ HD.out.st.2).mono ?_
          rintro e w5 ⟨x3, rfl, hx, hs⟩
          have Hx3 := Lib.hid hx
          clear hx
          have HDn := Lib.hid (HD.out.tape ha hs)
          clear hs HD
          have HD := HDn
          clear HDn
          refine hK.out _ _ (fun _ => Lib.hid HD.out.g.ab) (fun hH2 => ?_)
          clear hK Kz hHeld
          have hHeld := hH2 rfl
          clear hH2
          (try simp only [Act.put, List.setIfInBounds_toArray, List.set_cons_zero, List.set_cons_succ])
          refine anyU_take (i := 7) (oi := { dst := some 56, op := Op.build 62 #[(0, Operand.tmp 51), (1, Operand.tmp 53), (2, Operand.tmp 55)], type := 62, pos := "make.go:527", after := #[{ on := 2, ground := Ground.data }, { on := 4, ground := Ground.data }, { on := 6, ground := Ground.data }], guard := none }) (v := ?_) rfl (by kernel_rfl) (by kernel_rfl) (by kernel_rfl) (by kernel_rfl) (by kernel_rfl) (fun _ _ _ h => h) (Or.inl ⟨by rfl, ?_⟩) hHeld ?_
          rotate_left 1
          · intro u hSu
            have q0 := (cell_of_row _ _ 4 _ _ _ hSu.out)
            go_simp
            first | done | with_reducible rfl
          (try simp only [Act.put, List.setIfInBounds_toArray, List.set_cons_zero, List.set_cons_succ])
          refine anyU_ready (rs := [8]) (by kernel_rfl) (by simp) ?_
          refine EachU.cons (o := { dst := some 57, op := Op.buildSlice 36 1 #[(0, Operand.tmp 56)], type := 36, pos := "make.go:527", after := #[{ on := 7, ground := Ground.data }], guard := none }) rfl (fun Kz hK => ?_) EachU.nil
          go_simp
          have HDn := Lib.hid (HD.out.keep (World.grownBy_alloc _ (.cells #[.int .i64 (k : Int), .int .i64 x2, .int .i64 x3] 62) none))
          clear HD
          have HD := HDn
          clear HDn
          refine hK.out _ _ (fun _ => Lib.hid HD.out.g.ab) (fun hH2 => ?_)
          clear hK Kz hHeld
          have hHeld := hH2 rfl
          clear hH2
          (try simp only [Act.put, List.setIfInBounds_toArray, List.set_cons_zero, List.set_cons_succ])
          refine anyU_ready (rs := [9]) (by kernel_rfl) (by simp) ?_
          refine EachU.cons (o := { dst := some 58, op := Op.call { callee := Callee.builtin Builtin.append, args := #[Operand.tmp 50, Operand.tmp 57], argTypes := #[36, 36] }, type := 36, pos := "make.go:527", after := #[{ on := 1, ground := Ground.data }, { on := 8, ground := Ground.data }, { on := 6, ground := Ground.chain }], guard := none }) rfl (fun Kz hK => ?_) EachU.nil
          refine (astep_app t3C 3 24 (by decide) (fun _ => rfl) t3_one 62 36 ic _ Try.underlying36 hic hc0 hc1 hc2 rfl (by decide) (by rfl) _ _ (by rfl) (B + 1) vC C (by rfl) HD.out.g.oC (some ⟨_, 0, none⟩) 1 1 [⟨(k : Int), x2, x3⟩] (by rfl) rfl (by simp) (fun _ => True) (rdf_one _ trivial (cells3 _ _ _ _ _) 1) (by omega) (by simp; omega) (by have := HD.out.g.sz; omega) ?_)
          intro p4 c4 w8 hown hg hat
          have HD5 := Lib.hid (HD.out.addC ha (M := C ++ [⟨(k : Int), x2, x3⟩]) hown hg hat)
          obtain ⟨c90, c91, c92, c93, c94⟩ := HD5.out.g.cells
          have fB := frozen_of_row _ _ 4 _ _ HD5.out.g.ab
          clear hown hg hat HD
          refine hK.out _ _ (fun h => by cases h) (fun _ => ?_)
          clear hK Kz
          (try simp only [Act.put, List.setIfInBounds_toArray, List.set_cons_zero, List.set_cons_succ])
          refine anyU_ready (rs := [10]) (by kernel_rfl) (by simp) ?_
          refine EachU.cons (o := { dst := some 59, op := Op.fieldAddr 38 (Operand.tmp 7) 4, type := 0, pos := "make.go:527", after := #[{ on := 0, ground := Ground.phase }, { on := 1, ground := Ground.phase }, { on := 2, ground := Ground.phase }, { on := 3, ground := Ground.phase }, { on := 4, ground := Ground.phase }, { on := 5, ground := Ground.phase }, { on := 6, ground := Ground.phase }, { on := 7, ground := Ground.phase }, { on := 8, ground := Ground.phase }, { on := 9, ground := Ground.phase }], guard := none }) rfl (fun Kz hK => ?_) EachU.nil
          go_simp
          refine hK.out _ _ (fun h => by cases h) (fun _ => ?_)
          clear hK Kz
          (try simp only [Act.put, List.setIfInBounds_toArray, List.set_cons_zero, List.set_cons_succ])
          refine anyU_ready (rs := [11]) (by kernel_rfl) (by simp) ?_
          refine EachU.cons (o := { dst := none, op := Op.store 36 (Operand.tmp 59) (Operand.tmp 58), type := 0, pos := "make.go:527", after := #[{ on := 10, ground := Ground.data }, { on := 9, ground := Ground.data }, { on := 9, ground := Ground.chain }, { on := 0, ground := Ground.phase }, { on := 1, ground := Ground.phase }, { on := 2, ground := Ground.phase }, { on := 3, ground := Ground.phase }, { on := 4, ground := Ground.phase }, { on := 5, ground := Ground.phase }, { on := 6, ground := Ground.phase }, { on := 7, ground := Ground.phase }, { on := 8, ground := Ground.phase }, { on := 9, ground := Ground.phase }], guard := none }) rfl (fun Kz hK => ?_) EachU.nil
          go_simp
          refine hK.out _ _ (fun h => by cases h) (fun _ => ?_)
          clear hK Kz
          (try simp only [Act.put, List.setIfInBounds_toArray, List.set_cons_zero, List.set_cons_succ])
          refine anyU_done (by kernel_rfl) ?_ _
          have HN := Lib.hid (And.intro (HG.out.add x2 x3 (by omega) (by have h := Hx2.out; unfold RangeOf at h; omega) (vl_cases Hx3.out)) (HD5.out.putC ha))
          rw [show (k : Int) + 1 = ((k + 1 : Nat) : Int) by omega] at HN
          clear HD5 hHeld c90 c91 c92 c93 c94 fB HG
          go_wp2_with fail
          exact ⟨⟨k + 1, by omega, congrArg _ (by omega), _, _, by rw [List.length_append]; simp; omega, HN⟩, by simp only [RowKit.intOf]; omega⟩
        · have HN : Hid (GC ((k + 1 : Nat) : Int) C ∧ AT a w w.heap.size B R q cp vL0 vC vL0 vC L C w4) := Lib.hid ⟨by have := H4.out.1.next; rwa [show ((k + 1 : Nat) : Int) = (k : Int) + 1 by omega], H4.out.2⟩
          clear H4
          go_wp2_with fail
          exact ⟨⟨k + 1, by omega, congrArg _ (by omega), vC, C, by omega, HN⟩, by simp only [RowKit.intOf]; omega⟩
      · obtain rfl : k = 2 := by omega
        go_wp2_with fail
        go_meet
        exact ⟨vC, C, by omega, HKK⟩
  case rest =>
  have HGL := Lib.hid HK.out.1
  obtain ⟨vC, C, hCl, HK2⟩ := hcut
  clear HK
  go_upto_region 12 with fail
  go_cut [66] from 60 to 66 (fun bb wx => ∃ z, bb = .bool z ∧ Hid ((z = true → 0 < n) ∧ AT a w w.heap.size B R q cp vL0 vC vL0 vC L C wx))
  case first =>
    by_cases hn1 : 0 < n
    · go_wp2_with fail
      refine (one_any a n (by unfold I64; omega) _ HK2.out.2.st.2).mono ?_
      rintro e w5 ⟨z, rfl, hs⟩
      have H5 := Lib.hid (HK2.out.2.tape ha hs)
      clear hs HK2
      go_wp2_with fail
      go_meet
      exact ⟨z, rfl, Lib.hid ⟨fun _ => hn1, H5.out⟩⟩
    · have H5 := Lib.hid HK2.out.2
      clear HK2
      go_wp2_with fail
      go_meet
      exact ⟨false, rfl, Lib.hid ⟨fun h => (by cases h), H5.out⟩⟩
  case rest =>
  have HGC := Lib.hid HK2.out.1
  obtain ⟨z, rfl, H5⟩ := hcut
  clear HK2
  go_upto_if 66 with fail
  go_cut [] from 67 to 136 (fun wx => ∃ r q vL vC L C, Hid (TA R n r q L C ∧ AT a w w.heap.size B r q cp vL vC vL vC L C wx))
  case first =>
    cases z
    · have HF : Hid (TA R n R q L C) := Lib.hid ⟨by omega, by omega, fun _ => ⟨rfl, HQ.out, by omega, by omega, HGL.out.1, HGC.out.1⟩, fun _ x hx => by have := HGL.out.2 x hx; omega⟩
      have H6 := Lib.hid H5.out.2
      clear H5 HGL HGC
      go_wp2_with fail
      go_meet
      exact ⟨_, _, _, _, _, _, Lib.hid ⟨HF.out, H6.out⟩⟩
    · have hn0 : 0 < n := H5.out.1 rfl
      have H6 := Lib.hid H5.out.2
      clear H5 HGL HGC
      have HBAD : Hid (∀ (r q : Int) (L C : List T3), L.length ≤ 40 → C.length ≤ 10 → TA R n r q L C) := Lib.hid (fun r q L C h1 h2 => ⟨h1, h2, fun h => absurd hn0 h, fun h => absurd hn0 h⟩)
      go_wp2_with fail
      refine (next_any a 6 (by unfold I64; omega) _ H6.out.st.2).mono ?_
      rintro e w6 ⟨y6, rfl, hy6, hs⟩
      have H7 := Lib.hid (H6.out.tape ha hs)
      have hy7 : 0 ≤ y6 ∧ y6 < 6 := ⟨hy6.1, hy6.2.1 (by decide)⟩
      clear hs H6 hy6
      rcases (show y6 = 0 ∨ y6 = 1 ∨ y6 = 2 ∨ y6 = 3 ∨ y6 = 4 ∨ y6 = 5 by omega) with rfl | rfl | rfl | rfl | rfl | rfl
      · skip
        obtain ⟨c0, c1, c2, c3, c4⟩ := H7.out.g.cells
        clear c0 c1 c2 c3 c4
        go_wp2_with fail
        refine (wild_any a _ H7.out.st.2).mono ?_
        rintro e w7 ⟨x, rfl, hx, hs⟩
        have H8 := Lib.hid (H7.out.tape ha hs)
        clear hx hs H7
        obtain ⟨c0, c1, c2, c3, c4⟩ := H8.out.g.cells
        have ff := frozen_of_row _ _ 0 _ _ H8.out.g.ab
        have H9 := Lib.hid (H8.out.put0 ha x)
        clear H8
        go_wp2_with fail
        go_meet
        exact ⟨_, _, _, _, _, _, Lib.hid ⟨HBAD.out _ _ _ _ (by omega) (by omega), H9.out⟩⟩
      · skip
        obtain ⟨c0, c1, c2, c3, c4⟩ := H7.out.g.cells
        clear c0 c1 c2 c3 c4
        go_wp2_with fail
        refine (wild_any a _ H7.out.st.2).mono ?_
        rintro e w7 ⟨x, rfl, hx, hs⟩
        have H8 := Lib.hid (H7.out.tape ha hs)
        clear hx hs H7
        obtain ⟨c0, c1, c2, c3, c4⟩ := H8.out.g.cells
        have ff := frozen_of_row _ _ 1 _ _ H8.out.g.ab
        have H9 := Lib.hid (H8.out.put1 ha x)
        clear H8
        go_wp2_with fail
        go_meet
        exact ⟨_, _, _, _, _, _, Lib.hid ⟨HBAD.out _ _ _ _ (by omega) (by omega), H9.out⟩⟩
      · skip
        go_upto_region 21 with fail
        have HD := Lib.hid (H7.out.keep (grown_drew (grown_refl w6 none)))
        clear H7
        refine region_until (S := fun w' => Hid (w'.heap[B]? = some (.cells #[.int .i64 R, .int .i64 q, .bool cp, vL0, vC] 38 (0, 0)))) (fun j => j == 14 || j == 15 || j == 16) (by kernel_rfl) (Lib.hid HD.out.g.ab) (fun hHeld => ?_)
        focus
          refine anyU_take (i := 0) (oi := { dst := some 91, op := Op.fieldAddr 38 (Operand.tmp 7) 3, type := 0, pos := "make.go:537", after := #[], guard := none }) (v := ?_) rfl (by kernel_rfl) (by kernel_rfl) (by kernel_rfl) (by kernel_rfl) (by kernel_rfl) (fun _ _ _ h => h) (Or.inl ⟨by rfl, ?_⟩) hHeld ?_
          rotate_left 1
          · intro u hSu
            have q0 := (cell_of_row _ _ 3 _ _ _ hSu.out)
            go_simp
            first | done | with_reducible rfl
          (try simp only [Act.put, List.setIfInBounds_toArray, List.set_cons_zero, List.set_cons_succ])
          refine anyU_take (i := 1) (oi := { dst := some 92, op := Op.load 35 (Operand.tmp 91), type := 35, pos := "make.go:537", after := #[{ on := 0, ground := Ground.data }], guard := none }) (v := ?_) rfl (by kernel_rfl) (by kernel_rfl) (by kernel_rfl) (by kernel_rfl) (by kernel_rfl) (fun _ _ _ h => h) (Or.inl ⟨by rfl, ?_⟩) hHeld ?_
          rotate_left 1
          · intro u hSu
            have q0 := (cell_of_row _ _ 3 _ _ _ hSu.out)
            go_simp
            first | done | with_reducible rfl
          (try simp only [Act.put, List.setIfInBounds_toArray, List.set_cons_zero, List.set_cons_succ])
          refine anyU_take (i := 2) (oi := { dst := some 93, op := Op.move (Operand.tmp 0), type := 26, pos := "make.go:537", after := #[], guard := none }) (v := ?_) rfl (by kernel_rfl) (by kernel_rfl) (by kernel_rfl) (by kernel_rfl) (by kernel_rfl) (fun _ _ _ h => h) (Or.inl ⟨by rfl, ?_⟩) hHeld ?_
          rotate_left 1
          · intro u hSu
            have q0 := (cell_of_row _ _ 3 _ _ _ hSu.out)
            go_simp
            first | done | with_reducible rfl
          (try simp only [Act.put, List.setIfInBounds_toArray, List.set_cons_zero, List.set_cons_succ])
          refine anyU_take (i := 3) (oi := { dst := some 94, op := Op.move (Operand.tmp 1), type := 3, pos := "make.go:537", after := #[], guard := none }) (v := ?_) rfl (by kernel_rfl) (by kernel_rfl) (by kernel_rfl) (by kernel_rfl) (by kernel_rfl) (fun _ _ _ h => h) (Or.inl ⟨by rfl, ?_⟩) hHeld ?_
          rotate_left 1
          · intro u hSu
            have q0 := (cell_of_row _ _ 3 _ _ _ hSu.out)
            go_simp
            first | done | with_reducible rfl
          (try simp only [Act.put, List.setIfInBounds_toArray, List.set_cons_zero, List.set_cons_succ])
          refine anyU_take (i := 6) (oi := { dst := some 97, op := Op.move (Operand.tmp 0), type := 26, pos := "make.go:537", after := #[], guard := none }) (v := ?_) rfl (by kernel_rfl) (by kernel_rfl) (by kernel_rfl) (by kernel_rfl) (by kernel_rfl) (fun _ _ _ h => h) (Or.inl ⟨by rfl, ?_⟩) hHeld ?_
          rotate_left 1
          · intro u hSu
            have q0 := (cell_of_row _ _ 3 _ _ _ hSu.out)
            go_simp
            first | done | with_reducible rfl
          (try simp only [Act.put, List.setIfInBounds_toArray, List.set_cons_zero, List.set_cons_succ])
          refine anyU_take (i := 9) (oi := { dst := some 100, op := Op.move (Operand.tmp 0), type := 26, pos := "make.go:537", after := #[], guard := none }) (v := ?_) rfl (by kernel_rfl) (by kernel_rfl) (by kernel_rfl) (by kernel_rfl) (by kernel_rfl) (fun _ _ _ h => h) (Or.inl ⟨by rfl, ?_⟩) hHeld ?_
          rotate_left 1
          · intro u hSu
            have q0 := (cell_of_row _ _ 3 _ _ _ hSu.out)
            go_simp
            first | done | with_reducible rfl
          (try simp only [Act.put, List.setIfInBounds_toArray, List.set_cons_zero, List.set_cons_succ])
          refine anyU_ready (rs := [4, 7, 10]) (by kernel_rfl) (by simp) ?_
          refine EachU.cons (o := { dst := some 95, op := Op.buildSlice 22 5 #[(0, Operand.const (Value.int IntKind.i64 0)), (1, Operand.tmp 94), (2, Operand.const (Value.int IntKind.i64 6)), (3, Operand.const (Value.int IntKind.i64 99)), (4, Operand.const (Value.int IntKind.i64 100))], type := 22, pos := "make.go:537", after := #[{ on := 3, ground := Ground.data }], guard := none }) rfl (fun Kz hK => ?_) (EachU.cons (o := { dst := some 98, op := Op.buildSlice 22 4 #[(0, Operand.const (Value.int IntKind.i64 0)), (1, Operand.const (Value.int IntKind.i64 1)), (2, Operand.const (Value.int IntKind.i64 1000)), (3, Operand.const (Value.int IntKind.i64 1001))], type := 22, pos := "make.go:537", after := #[], guard := none }) rfl (fun Kz hK => ?_) (EachU.cons (o := { dst := some 101, op := Op.buildSlice 22 4 #[(0, Operand.const (Value.int IntKind.i64 (-1))), (1, Operand.const (Value.int IntKind.i64 0)), (2, Operand.const (Value.int IntKind.i64 1000)), (3, Operand.const (Value.int IntKind.i64 1001))], type := 22, pos := "make.go:537", after := #[], guard := none }) rfl (fun Kz hK => ?_) EachU.nil))
        focus
          go_simp
          have HMN := Lib.hid (HD.out.ints [0, R, 6, 99, 100] #[.int .i64 0, .int .i64 R, .int .i64 6, .int .i64 99, .int .i64 100] (by intro x hx; simp at hx; unfold I64; omega) rfl)
          have HDn := Lib.hid (HD.out.keep (World.grownBy_alloc _ (.cells #[.int .i64 0, .int .i64 R, .int .i64 6, .int .i64 99, .int .i64 100] 3) none))
          try replace HM1 := Lib.hid (show ∀ p, p = _ → _ from fun p hp => (HM1.out p hp).keepA (World.grownBy_alloc _ (.cells #[.int .i64 0, .int .i64 R, .int .i64 6, .int .i64 99, .int .i64 100] 3) none) (by simp))
          try replace HM2 := Lib.hid (show ∀ p, p = _ → _ from fun p hp => (HM2.out p hp).keepA (World.grownBy_alloc _ (.cells #[.int .i64 0, .int .i64 R, .int .i64 6, .int .i64 99, .int .i64 100] 3) none) (by simp))
          try replace HM3 := Lib.hid (show ∀ p, p = _ → _ from fun p hp => (HM3.out p hp).keepA (World.grownBy_alloc _ (.cells #[.int .i64 0, .int .i64 R, .int .i64 6, .int .i64 99, .int .i64 100] 3) none) (by simp))
          have HM1 := HMN
          clear HMN HD
          have HD := HDn
          clear HDn
          refine hK.out _ _ (fun _ => Lib.hid HD.out.g.ab) (fun hH2 => ?_)
          clear hK Kz hHeld
          have hHeld := hH2 rfl
          clear hH2
          (try simp only [Act.put, List.setIfInBounds_toArray, List.set_cons_zero, List.set_cons_succ])
          refine anyU_ready (rs := [5, 7, 10]) (by kernel_rfl) (by simp) ?_
          refine EachU.cons (o := { dst := some 96, op := Op.call { callee := Callee.value (Operand.func 46), args := #[Operand.tmp 93, Operand.tmp 95], argTypes := #[26, 22] }, type := 3, pos := "make.go:537", after := #[{ on := 2, ground := Ground.data }, { on := 4, ground := Ground.data }], guard := none }) rfl (fun Kz hK => ?_) (EachU.cons (o := { dst := some 98, op := Op.buildSlice 22 4 #[(0, Operand.const (Value.int IntKind.i64 0)), (1, Operand.const (Value.int IntKind.i64 1)), (2, Operand.const (Value.int IntKind.i64 1000)), (3, Operand.const (Value.int IntKind.i64 1001))], type := 22, pos := "make.go:537", after := #[], guard := none }) rfl (fun Kz hK => ?_) (EachU.cons (o := { dst := some 101, op := Op.buildSlice 22 4 #[(0, Operand.const (Value.int IntKind.i64 (-1))), (1, Operand.const (Value.int IntKind.i64 0)), (2, Operand.const (Value.int IntKind.i64 1000)), (3, Operand.const (Value.int IntKind.i64 1001))], type := 22, pos := "make.go:537", after := #[], guard := none }) rfl (fun Kz hK => ?_) EachU.nil))
        focus
          go_simp
          go_at_call 46
          refine (pick_any I64 a _ 0 5 5 (by omega) (by omega) _ HD.out.st.2 (HM1.out _ (by first | rfl | simp))).mono ?_
          rintro e w5 ⟨y1, rfl, -, hs⟩
          try replace HM1 := Lib.hid (show ∀ p, p = _ → _ from fun p hp => (HM1.out p hp).keepA hs.1 (fun e => (HM1.out p hp).1 (Option.some.inj e)))
          try replace HM2 := Lib.hid (show ∀ p, p = _ → _ from fun p hp => (HM2.out p hp).keepA hs.1 (fun e => (HM2.out p hp).1 (Option.some.inj e)))
          try replace HM3 := Lib.hid (show ∀ p, p = _ → _ from fun p hp => (HM3.out p hp).keepA hs.1 (fun e => (HM3.out p hp).1 (Option.some.inj e)))
          have HDn := Lib.hid (HD.out.tape ha hs)
          clear hs HD
          have HD := HDn
          clear HDn
          refine hK.out _ _ (fun _ => Lib.hid HD.out.g.ab) (fun hH2 => ?_)
          clear hK Kz hHeld
          have hHeld := hH2 rfl
          clear hH2
          (try simp only [Act.put, List.setIfInBounds_toArray, List.set_cons_zero, List.set_cons_succ])
          refine anyU_ready (rs := [7, 10]) (by kernel_rfl) (by simp) ?_
          refine EachU.cons (o := { dst := some 98, op := Op.buildSlice 22 4 #[(0, Operand.const (Value.int IntKind.i64 0)), (1, Operand.const (Value.int IntKind.i64 1)), (2, Operand.const (Value.int IntKind.i64 1000)), (3, Operand.const (Value.int IntKind.i64 1001))], type := 22, pos := "make.go:537", after := #[], guard := none }) rfl (fun Kz hK => ?_) (EachU.cons (o := { dst := some 101, op := Op.buildSlice 22 4 #[(0, Operand.const (Value.int IntKind.i64 (-1))), (1, Operand.const (Value.int IntKind.i64 0)), (2, Operand.const (Value.int IntKind.i64 1000)), (3, Operand.const (Value.int IntKind.i64 1001))], type := 22, pos := "make.go:537", after := #[], guard := none }) rfl (fun Kz hK => ?_) EachU.nil)
        focus
          go_simp
          have HMN := Lib.hid (HD.out.ints [0, 1, 1000, 1001] #[.int .i64 0, .int .i64 1, .int .i64 1000, .int .i64 1001] (by intro x hx; simp at hx; unfold I64; omega) rfl)
          have HDn := Lib.hid (HD.out.keep (World.grownBy_alloc _ (.cells #[.int .i64 0, .int .i64 1, .int .i64 1000, .int .i64 1001] 3) none))
          try replace HM1 := Lib.hid (show ∀ p, p = _ → _ from fun p hp => (HM1.out p hp).keepA (World.grownBy_alloc _ (.cells #[.int .i64 0, .int .i64 1, .int .i64 1000, .int .i64 1001] 3) none) (by simp))
          try replace HM2 := Lib.hid (show ∀ p, p = _ → _ from fun p hp => (HM2.out p hp).keepA (World.grownBy_alloc _ (.cells #[.int .i64 0, .int .i64 1, .int .i64 1000, .int .i64 1001] 3) none) (by simp))
          try replace HM3 := Lib.hid (show ∀ p, p = _ → _ from fun p hp => (HM3.out p hp).keepA (World.grownBy_alloc _ (.cells #[.int .i64 0, .int .i64 1, .int .i64 1000, .int .i64 1001] 3) none) (by simp))
          have HM2 := HMN
          clear HMN HD
          have HD := HDn
          clear HDn
          refine hK.out _ _ (fun _ => Lib.hid HD.out.g.ab) (fun hH2 => ?_)
          clear hK Kz hHeld
          have hHeld := hH2 rfl
          clear hH2
          (try simp only [Act.put, List.setIfInBounds_toArray, List.set_cons_zero, List.set_cons_succ])
          refine anyU_ready (rs := [8, 10]) (by kernel_rfl) (by simp) ?_
          refine EachU.cons (o := { dst := some 99, op := Op.call { callee := Callee.value (Operand.func 46), args := #[Operand.tmp 97, Operand.tmp 98], argTypes := #[26, 22] }, type := 3, pos := "make.go:537", after := #[{ on := 6, ground := Ground.data }, { on := 7, ground := Ground.data }, { on := 5, ground := Ground.chain }], guard := none }) rfl (fun Kz hK => ?_) (EachU.cons (o := { dst := some 101, op := Op.buildSlice 22 4 #[(0, Operand.const (Value.int IntKind.i64 (-1))), (1, Operand.const (Value.int IntKind.i64 0)), (2, Operand.const (Value.int IntKind.i64 1000)), (3, Operand.const (Value.int IntKind.i64 1001))], type := 22, pos := "make.go:537", after := #[], guard := none }) rfl (fun Kz hK => ?_) EachU.nil)
        focus
          go_simp
          go_at_call 46
          refine (pick_any I64 a _ 0 4 4 (by omega) (by omega) _ HD.out.st.2 (HM2.out _ (by first | rfl | simp))).mono ?_
          rintro e w5 ⟨y2, rfl, -, hs⟩
          try replace HM1 := Lib.hid (show ∀ p, p = _ → _ from fun p hp => (HM1.out p hp).keepA hs.1 (fun e => (HM1.out p hp).1 (Option.some.inj e)))
          try replace HM2 := Lib.hid (show ∀ p, p = _ → _ from fun p hp => (HM2.out p hp).keepA hs.1 (fun e => (HM2.out p hp).1 (Option.some.inj e)))
          try replace HM3 := Lib.hid (show ∀ p, p = _ → _ from fun p hp => (HM3.out p hp).keepA hs.1 (fun e => (HM3.out p hp).1 (Option.some.inj e)))
          have HDn := Lib.hid (HD.out.tape ha hs)
          clear hs HD
          have HD := HDn
          clear HDn
          refine hK.out _ _ (fun _ => Lib.hid HD.out.g.ab) (fun hH2 => ?_)
          clear hK Kz hHeld
          have hHeld := hH2 rfl
          clear hH2
          (try simp only [Act.put, List.setIfInBounds_toArray, List.set_cons_zero, List.set_cons_succ])
          refine anyU_ready (rs := [10]) (by kernel_rfl) (by simp) ?_
          refine EachU.cons (o := { dst := some 101, op := Op.buildSlice 22 4 #[(0, Operand.const (Value.int IntKind.i64 (-1))), (1, Operand.const (Value.int IntKind.i64 0)), (2, Operand.const (Value.int IntKind.i64 1000)), (3, Operand.const (Value.int IntKind.i64 1001))], type := 22, pos := "make.go:537", after := #[], guard := none }) rfl (fun Kz hK => ?_) EachU.nil
          go_simp
          have HMN := Lib.hid (HD.out.ints [-1, 0, 1000, 1001] #[.int .i64 (-1), .int .i64 0, .int .i64 1000, .int .i64 1001] (by intro x hx; simp at hx; unfold I64; omega) rfl)
          have HDn := Lib.hid (HD.out.keep (World.grownBy_alloc _ (.cells #[.int .i64 (-1), .int .i64 0, .int .i64 1000, .int .i64 1001] 3) none))
          try replace HM1 := Lib.hid (show ∀ p, p = _ → _ from fun p hp => (HM1.out p hp).keepA (World.grownBy_alloc _ (.cells #[.int .i64 (-1), .int .i64 0, .int .i64 1000, .int .i64 1001] 3) none) (by simp))
          try replace HM2 := Lib.hid (show ∀ p, p = _ → _ from fun p hp => (HM2.out p hp).keepA (World.grownBy_alloc _ (.cells #[.int .i64 (-1), .int .i64 0, .int .i64 1000, .int .i64 1001] 3) none) (by simp))
          try replace HM3 := Lib.hid (show ∀ p, p = _ → _ from fun p hp => (HM3.out p hp).keepA (World.grownBy_alloc _ (.cells #[.int .i64 (-1), .int .i64 0, .int .i64 1000, .int .i64 1001] 3) none) (by simp))
          have HM3 := HMN
          clear HMN HD
          have HD := HDn
          clear HDn
          refine hK.out _ _ (fun _ => Lib.hid HD.out.g.ab) (fun hH2 => ?_)
          clear hK Kz hHeld
          have hHeld := hH2 rfl
          clear hH2
          (try simp only [Act.put, List.setIfInBounds_toArray, List.set_cons_zero, List.set_cons_succ])
          refine anyU_ready (rs := [11]) (by kernel_rfl) (by simp) ?_
          refine EachU.cons (o := { dst := some 102, op := Op.call { callee := Callee.value (Operand.func 46), args := #[Operand.tmp 100, Operand.tmp 101], argTypes := #[26, 22] }, type := 3, pos := "make.go:537", after := #[{ on := 9, ground := Ground.data }, { on := 10, ground := Ground.data }, { on := 8, ground := Ground.chain }], guard := none }) rfl (fun Kz hK => ?_) EachU.nil
          go_simp
          go_at_call 46
          refine (pick_any I64 a _ 0 4 4 (by omega) (by omega) _ HD.out.st.2 (HM3.out _ (by first | rfl | simp))).mono ?_
          rintro e w5 ⟨y3, rfl, -, hs⟩
          try replace HM1 := Lib.hid (show ∀ p, p = _ → _ from fun p hp => (HM1.out p hp).keepA hs.1 (fun e => (HM1.out p hp).1 (Option.some.inj e)))
          try replace HM2 := Lib.hid (show ∀ p, p = _ → _ from fun p hp => (HM2.out p hp).keepA hs.1 (fun e => (HM2.out p hp).1 (Option.some.inj e)))
          try replace HM3 := Lib.hid (show ∀ p, p = _ → _ from fun p hp => (HM3.out p hp).keepA hs.1 (fun e => (HM3.out p hp).1 (Option.some.inj e)))
          have HDn := Lib.hid (HD.out.tape ha hs)
          clear hs HD
          have HD := HDn
          clear HDn
          refine hK.out _ _ (fun _ => Lib.hid HD.out.g.ab) (fun hH2 => ?_)
          clear hK Kz hHeld
          have hHeld := hH2 rfl
          clear hH2
          (try simp only [Act.put, List.setIfInBounds_toArray, List.set_cons_zero, List.set_cons_succ])
        rotate_left 1
        focus
          go_simp
          have HMN := Lib.hid (HD.out.ints [-1, 0, 1000, 1001] #[.int .i64 (-1), .int .i64 0, .int .i64 1000, .int .i64 1001] (by intro x hx; simp at hx; unfold I64; omega) rfl)
          have HDn := Lib.hid (HD.out.keep (World.grownBy_alloc _ (.cells #[.int .i64 (-1), .int .i64 0, .int .i64 1000, .int .i64 1001] 3) none))
          try replace HM1 := Lib.hid (show ∀ p, p = _ → _ from fun p hp => (HM1.out p hp).keepA (World.grownBy_alloc _ (.cells #[.int .i64 (-1), .int .i64 0, .int .i64 1000, .int .i64 1001] 3) none) (by simp))
          try replace HM2 := Lib.hid (show ∀ p, p = _ → _ from fun p hp => (HM2.out p hp).keepA (World.grownBy_alloc _ (.cells #[.int .i64 (-1), .int .i64 0, .int .i64 1000, .int .i64 1001] 3) none) (by simp))
          try replace HM3 := Lib.hid (show ∀ p, p = _ → _ from fun p hp => (HM3.out p hp).keepA (World.grownBy_alloc _ (.cells #[.int .i64 (-1), .int .i64 0, .int .i64 1000, .int .i64 1001] 3) none) (by simp))
          have HM3 := HMN
          clear HMN HD
          have HD := HDn
          clear HDn
          refine hK.out _ _ (fun _ => Lib.hid HD.out.g.ab) (fun hH2 => ?_)
          clear hK Kz hHeld
          have hHeld := hH2 rfl
          clear hH2
          (try simp only [Act.put, List.setIfInBounds_toArray, List.set_cons_zero, List.set_cons_succ])
          refine anyU_ready (rs := [8]) (by kernel_rfl) (by simp) ?_
          refine EachU.cons (o := { dst := some 99, op := Op.call { callee := Callee.value (Operand.func 46), args := #[Operand.tmp 97, Operand.tmp 98], argTypes := #[26, 22] }, type := 3, pos := "make.go:537", after := #[{ on := 6, ground := Ground.data }, { on := 7, ground := Ground.data }, { on := 5, ground := Ground.chain }], guard := none }) rfl (fun Kz hK => ?_) EachU.nil
          go_simp
          go_at_call 46
          refine (pick_any I64 a _ 0 4 4 (by omega) (by omega) _ HD.out.st.2 (HM2.out _ (by first | rfl | simp))).mono ?_
          rintro e w5 ⟨y2, rfl, -, hs⟩
          try replace HM1 := Lib.hid (show ∀ p, p = _ → _ from fun p hp => (HM1.out p hp).keepA hs.1 (fun e => (HM1.out p hp).1 (Option.some.inj e)))
          try replace HM2 := Lib.hid (show ∀ p, p = _ → _ from fun p hp => (HM2.out p hp).keepA hs.1 (fun e => (HM2.out p hp).1 (Option.some.inj e)))
          try replace HM3 := Lib.hid (show ∀ p, p = _ → _ from fun p hp => (HM3.out p hp).keepA hs.1 (fun e => (HM3.out p hp).1 (Option.some.inj e)))
          have HDn := Lib.hid (HD.out.tape ha hs)
          clear hs HD
          have HD := HDn
          clear HDn
          refine hK.out _ _ (fun _ => Lib.hid HD.out.g.ab) (fun hH2 => ?_)
          clear hK Kz hHeld
          have hHeld := hH2 rfl
          clear hH2
          (try simp only [Act.put, List.setIfInBounds_toArray, List.set_cons_zero, List.set_cons_succ])
          refine anyU_ready (rs := [11]) (by kernel_rfl) (by simp) ?_
          refine EachU.cons (o := { dst := some 102, op := Op.call { callee := Callee.value (Operand.func 46), args := #[Operand.tmp 100, Operand.tmp 101], argTypes := #[26, 22] }, type := 3, pos := "make.go:537", after := #[{ on := 9, ground := Ground.data }, { on := 10, ground := Ground.data }, { on := 8, ground := Ground.chain }], guard := none }) rfl (fun Kz hK => ?_) EachU.nil
          go_simp
          go_at_call 46
          refine (pick_any I64 a _ 0 4 4 (by omega) (by omega) _ HD.out.st.2 (HM3.out _ (by first | rfl | simp))).mono ?_
          rintro e w5 ⟨y3, rfl, -, hs⟩
          try replace HM1 := Lib.hid (show ∀ p, p = _ → _ from fun p hp => (HM1.out p hp).keepA hs.1 (fun e => (HM1.out p hp).1 (Option.some.inj e)))
          try replace HM2 := Lib.hid (show ∀ p, p = _ → _ from fun p hp => (HM2.out p hp).keepA hs.1 (fun e => (HM2.out p hp).1 (Option.some.inj e)))
          try replace HM3 := Lib.hid (show ∀ p, p = _ → _ from fun p hp => (HM3.out p hp).keepA hs.1 (fun e => (HM3.out p hp).1 (Option.some.inj e)))
          have HDn := Lib.hid (HD.out.tape ha hs)
          clear hs HD
          have HD := HDn
          clear HDn
          refine hK.out _ _ (fun _ => Lib.hid HD.out.g.ab) (fun hH2 => ?_)
          clear hK Kz hHeld
          have hHeld := hH2 rfl
          clear hH2
          (try simp only [Act.put, List.setIfInBounds_toArray, List.set_cons_zero, List.set_cons_succ])
        rotate_left 1
        focus
          go_simp
          have HMN := Lib.hid (HD.out.ints [-1, 0, 1000, 1001] #[.int .i64 (-1), .int .i64 0, .int .i64 1000, .int .i64 1001] (by intro x hx; simp at hx; unfold I64; omega) rfl)
          have HDn := Lib.hid (HD.out.keep (World.grownBy_alloc _ (.cells #[.int .i64 (-1), .int .i64 0, .int .i64 1000, .int .i64 1001] 3) none))
          try replace HM1 := Lib.hid (show ∀ p, p = _ → _ from fun p hp => (HM1.out p hp).keepA (World.grownBy_alloc _ (.cells #[.int .i64 (-1), .int .i64 0, .int .i64 1000, .int .i64 1001] 3) none) (by simp))
          try replace HM2 := Lib.hid (show ∀ p, p = _ → _ from fun p hp => (HM2.out p hp).keepA (World.grownBy_alloc _ (.cells #[.int .i64 (-1), .int .i64 0, .int .i64 1000, .int .i64 1001] 3) none) (by simp))
          try replace HM3 := Lib.hid (show ∀ p, p = _ → _ from fun p hp => (HM3.out p hp).keepA (World.grownBy_alloc _ (.cells #[.int .i64 (-1), .int .i64 0, .int .i64 1000, .int .i64 1001] 3) none) (by simp))
          have HM3 := HMN
          clear HMN HD
          have HD := HDn
          clear HDn
          refine hK.out _ _ (fun _ => Lib.hid HD.out.g.ab) (fun hH2 => ?_)
          clear hK Kz hHeld
          have hHeld := hH2 rfl
          clear hH2
          (try simp only [Act.put, List.setIfInBounds_toArray, List.set_cons_zero, List.set_cons_succ])
          refine anyU_ready (rs := [7]) (by kernel_rfl) (by simp) ?_
          refine EachU.cons (o := { dst := some 98, op := Op.buildSlice 22 4 #[(0, Operand.const (Value.int IntKind.i64 0)), (1, Operand.const (Value.int IntKind.i64 1)), (2, Operand.const (Value.int IntKind.i64 1000)), (3, Operand.const (Value.int IntKind.i64 1001))], type := 22, pos := "make.go:537", after := #[], guard := none }) rfl (fun Kz hK => ?_) EachU.nil
          go_simp
          have HMN := Lib.hid (HD.out.ints [0, 1, 1000, 1001] #[.int .i64 0, .int .i64 1, .int .i64 1000, .int .i64 1001] (by intro x hx; simp at hx; unfold I64; omega) rfl)
          have HDn := Lib.hid (HD.out.keep (World.grownBy_alloc _ (.cells #[.int .i64 0, .int .i64 1, .int .i64 1000, .int .i64 1001] 3) none))
          try replace HM1 := Lib.hid (show ∀ p, p = _ → _ from fun p hp => (HM1.out p hp).keepA (World.grownBy_alloc _ (.cells #[.int .i64 0, .int .i64 1, .int .i64 1000, .int .i64 1001] 3) none) (by simp))
          try replace HM2 := Lib.hid (show ∀ p, p = _ → _ from fun p hp => (HM2.out p hp).keepA (World.grownBy_alloc _ (.cells #[.int .i64 0, .int .i64 1, .int .i64 1000, .int .i64 1001] 3) none) (by simp))
          try replace HM3 := Lib.hid (show ∀ p, p = _ → _ from fun p hp => (HM3.out p hp).keepA (World.grownBy_alloc _ (.cells #[.int .i64 0, .int .i64 1, .int .i64 1000, .int .i64 1001] 3) none) (by simp))
          have HM2 := HMN
          clear HMN HD
          have HD := HDn
          clear HDn
          refine hK.out _ _ (fun _ => Lib.hid HD.out.g.ab) (fun hH2 => ?_)
          clear hK Kz hHeld
          have hHeld := hH2 rfl
          clear hH2
          (try simp only [Act.put, List.setIfInBounds_toArray, List.set_cons_zero, List.set_cons_succ])
          refine anyU_ready (rs := [8]) (by kernel_rfl) (by simp) ?_
          refine EachU.cons (o := { dst := some 99, op := Op.call { callee := Callee.value (Operand.func 46), args := #[Operand.tmp 97, Operand.tmp 98], argTypes := #[26, 22] }, type := 3, pos := "make.go:537", after := #[{ on := 6, ground := Ground.data }, { on := 7, ground := Ground.data }, { on := 5, ground := Ground.chain }], guard := none }) rfl (fun Kz hK => ?_) EachU.nil
          go_simp
          go_at_call 46
          refine (pick_any I64 a _ 0 4 4 (by omega) (by omega) _ HD.out.st.2 (HM2.out _ (by first | rfl | simp))).mono ?_
          rintro e w5 ⟨y2, rfl, -, hs⟩
          try replace HM1 := Lib.hid (show ∀ p, p = _ → _ from fun p hp => (HM1.out p hp).keepA hs.1 (fun e => (HM1.out p hp).1 (Option.some.inj e)))
          try replace HM2 := Lib.hid (show ∀ p, p = _ → _ from fun p hp => (HM2.out p hp).keepA hs.1 (fun e => (HM2.out p hp).1 (Option.some.inj e)))
          try replace HM3 := Lib.hid (show ∀ p, p = _ → _ from fun p hp => (HM3.out p hp).keepA hs.1 (fun e => (HM3.out p hp).1 (Option.some.inj e)))
          have HDn := Lib.hid (HD.out.tape ha hs)
          clear hs HD
          have HD := HDn
          clear HDn
          refine hK.out _ _ (fun _ => Lib.hid HD.out.g.ab) (fun hH2 => ?_)
          clear hK Kz hHeld
          have hHeld := hH2 rfl
          clear hH2
          (try simp only [Act.put, List.setIfInBounds_toArray, List.set_cons_zero, List.set_cons_succ])
          refine anyU_ready (rs := [11]) (by kernel_rfl) (by simp) ?_
          refine EachU.cons (o := { dst := some 102, op := Op.call { callee := Callee.value (Operand.func 46), args := #[Operand.tmp 100, Operand.tmp 101], argTypes := #[26, 22] }, type := 3, pos := "make.go:537", after := #[{ on := 9, ground := Ground.data }, { on := 10, ground := Ground.data }, { on := 8, ground := Ground.chain }], guard := none }) rfl (fun Kz hK => ?_) EachU.nil
          go_simp
          go_at_call 46
          refine (pick_any I64 a _ 0 4 4 (by omega) (by omega) _ HD.out.st.2 (HM3.out _ (by first | rfl | simp))).mono ?_
          rintro e w5 ⟨y3, rfl, -, hs⟩
          try replace HM1 := Lib.hid (show ∀ p, p = _ → _ from fun p hp => (HM1.out p hp).keepA hs.1 (fun e => (HM1.out p hp).1 (Option.some.inj e)))
          try replace HM2 := Lib.hid (show ∀ p, p = _ → _ from fun p hp => (HM2.out p hp).keepA hs.1 (fun e => (HM2.out p hp).1 (Option.some.inj e)))
          try replace HM3 := Lib.hid (show ∀ p, p = _ → _ from fun p hp => (HM3.out p hp).keepA hs.1 (fun e => (HM3.out p hp).1 (Option.some.inj e)))
          have HDn := Lib.hid (HD.out.tape ha hs)
          clear hs HD
          have HD := HDn
          clear HDn
          refine hK.out _ _ (fun _ => Lib.hid HD.out.g.ab) (fun hH2 => ?_)
          clear hK Kz hHeld
          have hHeld := hH2 rfl
          clear hH2
          (try simp only [Act.put, List.setIfInBounds_toArray, List.set_cons_zero, List.set_cons_succ])
        rotate_left 1
        focus
          go_simp
          have HMN := Lib.hid (HD.out.ints [0, 1, 1000, 1001] #[.int .i64 0, .int .i64 1, .int .i64 1000, .int .i64 1001] (by intro x hx; simp at hx; unfold I64; omega) rfl)
          have HDn := Lib.hid (HD.out.keep (World.grownBy_alloc _ (.cells #[.int .i64 0, .int .i64 1, .int .i64 1000, .int .i64 1001] 3) none))
          try replace HM1 := Lib.hid (show ∀ p, p = _ → _ from fun p hp => (HM1.out p hp).keepA (World.grownBy_alloc _ (.cells #[.int .i64 0, .int .i64 1, .int .i64 1000, .int .i64 1001] 3) none) (by simp))
          try replace HM2 := Lib.hid (show ∀ p, p = _ → _ from fun p hp => (HM2.out p hp).keepA (World.grownBy_alloc _ (.cells #[.int .i64 0, .int .i64 1, .int .i64 1000, .int .i64 1001] 3) none) (by simp))
          try replace HM3 := Lib.hid (show ∀ p, p = _ → _ from fun p hp => (HM3.out p hp).keepA (World.grownBy_alloc _ (.cells #[.int .i64 0, .int .i64 1, .int .i64 1000, .int .i64 1001] 3) none) (by simp))
          have HM2 := HMN
          clear HMN HD
          have HD := HDn
          clear HDn
          refine hK.out _ _ (fun _ => Lib.hid HD.out.g.ab) (fun hH2 => ?_)
          clear hK Kz hHeld
          have hHeld := hH2 rfl
          clear hH2
          (try simp only [Act.put, List.setIfInBounds_toArray, List.set_cons_zero, List.set_cons_succ])
          refine anyU_ready (rs := [5, 10]) (by kernel_rfl) (by simp) ?_
          refine EachU.cons (o := { dst := some 96, op := Op.call { callee := Callee.value (Operand.func 46), args := #[Operand.tmp 93, Operand.tmp 95], argTypes := #[26, 22] }, type := 3, pos := "make.go:537", after := #[{ on := 2, ground := Ground.data }, { on := 4, ground := Ground.data }], guard := none }) rfl (fun Kz hK => ?_) (EachU.cons (o := { dst := some 101, op := Op.buildSlice 22 4 #[(0, Operand.const (Value.int IntKind.i64 (-1))), (1, Operand.const (Value.int IntKind.i64 0)), (2, Operand.const (Value.int IntKind.i64 1000)), (3, Operand.const (Value.int IntKind.i64 1001))], type := 22, pos := "make.go:537", after := #[], guard := none }) rfl (fun Kz hK => ?_) EachU.nil)
        focus
          go_simp
          go_at_call 46
          refine (pick_any I64 a _ 0 5 5 (by omega) (by omega) _ HD.out.st.2 (HM1.out _ (by first | rfl | simp))).mono ?_
          rintro e w5 ⟨y1, rfl, -, hs⟩
          try replace HM1 := Lib.hid (show ∀ p, p = _ → _ from fun p hp => (HM1.out p hp).keepA hs.1 (fun e => (HM1.out p hp).1 (Option.some.inj e)))
          try replace HM2 := Lib.hid (show ∀ p, p = _ → _ from fun p hp => (HM2.out p hp).keepA hs.1 (fun e => (HM2.out p hp).1 (Option.some.inj e)))
          try replace HM3 := Lib.hid (show ∀ p, p = _ → _ from fun p hp => (HM3.out p hp).keepA hs.1 (fun e => (HM3.out p hp).1 (Option.some.inj e)))
          have HDn := Lib.hid (HD.out.tape ha hs)
          clear hs HD
          have HD := HDn
          clear HDn
          refine hK.out _ _ (fun _ => Lib.hid HD.out.g.ab) (fun hH2 => ?_)
          clear hK Kz hHeld
          have hHeld := hH2 rfl
          clear hH2
          (try simp only [Act.put, List.setIfInBounds_toArray, List.set_cons_zero, List.set_cons_succ])
          refine anyU_ready (rs := [8, 10]) (by kernel_rfl) (by simp) ?_
          refine EachU.cons (o := { dst := some 99, op := Op.call { callee := Callee.value (Operand.func 46), args := #[Operand.tmp 97, Operand.tmp 98], argTypes := #[26, 22] }, type := 3, pos := "make.go:537", after := #[{ on := 6, ground := Ground.data }, { on := 7, ground := Ground.data }, { on := 5, ground := Ground.chain }], guard := none }) rfl (fun Kz hK => ?_) (EachU.cons (o := { dst := some 101, op := Op.buildSlice 22 4 #[(0, Operand.const (Value.int IntKind.i64 (-1))), (1, Operand.const (Value.int IntKind.i64 0)), (2, Operand.const (Value.int IntKind.i64 1000)), (3, Operand.const (Value.int IntKind.i64 1001))], type := 22, pos := "make.go:537", after := #[], guard := none }) rfl (fun Kz hK => ?_) EachU.nil)
        focus
          go_simp
          go_at_call 46
          refine (pick_any I64 a _ 0 4 4 (by omega) (by omega) _ HD.out.st.2 (HM2.out _ (by first | rfl | simp))).mono ?_
          rintro e w5 ⟨y2, rfl, -, hs⟩
          try replace HM1 := Lib.hid (show ∀ p, p = _ → _ from fun p hp => (HM1.out p hp).keepA hs.1 (fun e => (HM1.out p hp).1 (Option.some.inj e)))
          try replace HM2 := Lib.hid (show ∀ p, p = _ → _ from fun p hp => (HM2.out p hp).keepA hs.1 (fun e => (HM2.out p hp).1 (Option.some.inj e)))
          try replace HM3 := Lib.hid (show ∀ p, p = _ → _ from fun p hp => (HM3.out p hp).keepA hs.1 (fun e => (HM3.out p hp).1 (Option.some.inj e)))
          have HDn := Lib.hid (HD.out.tape ha hs)
          clear hs HD
          have HD := HDn
          clear HDn
          refine hK.out _ _ (fun _ => Lib.hid HD.out.g.ab) (fun hH2 => ?_)
          clear hK Kz hHeld
          have hHeld := hH2 rfl
          clear hH2
          (try simp only [Act.put, List.setIfInBounds_toArray, List.set_cons_zero, List.set_cons_succ])
          refine anyU_ready (rs := [10]) (by kernel_rfl) (by simp) ?_
          refine EachU.cons (o := { dst := some 101, op := Op.buildSlice 22 4 #[(0, Operand.const (Value.int IntKind.i64 (-1))), (1, Operand.const (Value.int IntKind.i64 0)), (2, Operand.const (Value.int IntKind.i64 1000)), (3, Operand.const (Value.int IntKind.i64 1001))], type := 22, pos := "make.go:537", after := #[], guard := none }) rfl (fun Kz hK => ?_) EachU.nil
          go_simp
          have HMN := Lib.hid (HD.out.ints [-1, 0, 1000, 1001] #[.int .i64 (-1), .int .i64 0, .int .i64 1000, .int .i64 1001] (by intro x hx; simp at hx; unfold I64; omega) rfl)
          have HDn := Lib.hid (HD.out.keep (World.grownBy_alloc _ (.cells #[.int .i64 (-1), .int .i64 0, .int .i64 1000, .int .i64 1001] 3) none))
          try replace HM1 := Lib.hid (show ∀ p, p = _ → _ from fun p hp => (HM1.out p hp).keepA (World.grownBy_alloc _ (.cells #[.int .i64 (-1), .int .i64 0, .int .i64 1000, .int .i64 1001] 3) none) (by simp))
          try replace HM2 := Lib.hid (show ∀ p, p = _ → _ from fun p hp => (HM2.out p hp).keepA (World.grownBy_alloc _ (.cells #[.int .i64 (-1), .int .i64 0, .int .i64 1000, .int .i64 1001] 3) none) (by simp))
          try replace HM3 := Lib.hid (show ∀ p, p = _ → _ from fun p hp => (HM3.out p hp).keepA (World.grownBy_alloc _ (.cells #[.int .i64 (-1), .int .i64 0, .int .i64 1000, .int .i64 1001] 3) none) (by simp))
          have HM3 := HMN
          clear HMN HD
          have HD := HDn
          clear HDn
          refine hK.out _ _ (fun _ => Lib.hid HD.out.g.ab) (fun hH2 => ?_)
          clear hK Kz hHeld
          have hHeld := hH2 rfl
          clear hH2
          (try simp only [Act.put, List.setIfInBounds_toArray, List.set_cons_zero, List.set_cons_succ])
          refine anyU_ready (rs := [11]) (by kernel_rfl) (by simp) ?_
          refine EachU.cons (o := { dst := some 102, op := Op.call { callee := Callee.value (Operand.func 46), args := #[Operand.tmp 100, Operand.tmp 101], argTypes := #[26, 22] }, type := 3, pos := "make.go:537", after := #[{ on := 9, ground := Ground.data }, { on := 10, ground := Ground.data }, { on := 8, ground := Ground.chain }], guard := none }) rfl (fun Kz hK => ?_) EachU.nil
          go_simp
          go_at_call 46
          refine (pick_any I64 a _ 0 4 4 (by omega) (by omega) _ HD.out.st.2 (HM3.out _ (by first | rfl | simp))).mono ?_
          rintro e w5 ⟨y3, rfl, -, hs⟩
          try replace HM1 := Lib.hid (show ∀ p, p = _ → _ from fun p hp => (HM1.out p hp).keepA hs.1 (fun e => (HM1.out p hp).1 (Option.some.inj e)))
          try replace HM2 := Lib.hid (show ∀ p, p = _ → _ from fun p hp => (HM2.out p hp).keepA hs.1 (fun e => (HM2.out p hp).1 (Option.some.inj e)))
          try replace HM3 := Lib.hid (show ∀ p, p = _ → _ from fun p hp => (HM3.out p hp).keepA hs.1 (fun e => (HM3.out p hp).1 (Option.some.inj e)))
          have HDn := Lib.hid (HD.out.tape ha hs)
          clear hs HD
          have HD := HDn
          clear HDn
          refine hK.out _ _ (fun _ => Lib.hid HD.out.g.ab) (fun hH2 => ?_)
          clear hK Kz hHeld
          have hHeld := hH2 rfl
          clear hH2
          (try simp only [Act.put, List.setIfInBounds_toArray, List.set_cons_zero, List.set_cons_succ])
        rotate_left 1
        focus
          go_simp
          have HMN := Lib.hid (HD.out.ints [-1, 0, 1000, 1001] #[.int .i64 (-1), .int .i64 0, .int .i64 1000, .int .i64 1001] (by intro x hx; simp at hx; unfold I64; omega) rfl)
          have HDn := Lib.hid (HD.out.keep (World.grownBy_alloc _ (.cells #[.int .i64 (-1), .int .i64 0, .int .i64 1000, .int .i64 1001] 3) none))
          try replace HM1 := Lib.hid (show ∀ p, p = _ → _ from fun p hp => (HM1.out p hp).keepA (World.grownBy_alloc _ (.cells #[.int .i64 (-1), .int .i64 0, .int .i64 1000, .int .i64 1001] 3) none) (by simp))
          try replace HM2 := Lib.hid (show ∀ p, p = _ → _ from fun p hp => (HM2.out p hp).keepA (World.grownBy_alloc _ (.cells #[.int .i64 (-1), .int .i64 0, .int .i64 1000, .int .i64 1001] 3) none) (by simp))
          try replace HM3 := Lib.hid (show ∀ p, p = _ → _ from fun p hp => (HM3.out p hp).keepA (World.grownBy_alloc _ (.cells #[.int .i64 (-1), .int .i64 0, .int .i64 1000, .int .i64 1001] 3) none) (by simp))
          have HM3 := HMN
          clear HMN HD
          have HD := HDn
          clear HDn
          refine hK.out _ _ (fun _ => Lib.hid HD.out.g.ab) (fun hH2 => ?_)
          clear hK Kz hHeld
          have hHeld := hH2 rfl
          clear hH2
          (try simp only [Act.put, List.setIfInBounds_toArray, List.set_cons_zero, List.set_cons_succ])
          refine anyU_ready (rs := [8]) (by kernel_rfl) (by simp) ?_
          refine EachU.cons (o := { dst := some 99, op := Op.call { callee := Callee.value (Operand.func 46), args := #[Operand.tmp 97, Operand.tmp 98], argTypes := #[26, 22] }, type := 3, pos := "make.go:537", after := #[{ on := 6, ground := Ground.data }, { on := 7, ground := Ground.data }, { on := 5, ground := Ground.chain }], guard := none }) rfl (fun Kz hK => ?_) EachU.nil
          go_simp
          go_at_call 46
          refine (pick_any I64 a _ 0 4 4 (by omega) (by omega) _ HD.out.st.2 (HM2.out _ (by first | rfl | simp))).mono ?_
          rintro e w5 ⟨y2, rfl, -, hs⟩
          try replace HM1 := Lib.hid (show ∀ p, p = _ → _ from fun p hp => (HM1.out p hp).keepA hs.1 (fun e => (HM1.out p hp).1 (Option.some.inj e)))
          try replace HM2 := Lib.hid (show ∀ p, p = _ → _ from fun p hp => (HM2.out p hp).keepA hs.1 (fun e => (HM2.out p hp).1 (Option.some.inj e)))
          try replace HM3 := Lib.hid (show ∀ p, p = _ → _ from fun p hp => (HM3.out p hp).keepA hs.1 (fun e => (HM3.out p hp).1 (Option.some.inj e)))
          have HDn := Lib.hid (HD.out.tape ha hs)
          clear hs HD
          have HD := HDn
          clear HDn
          refine hK.out _ _ (fun _ => Lib.hid HD.out.g.ab) (fun hH2 => ?_)
          clear hK Kz hHeld
          have hHeld := hH2 rfl
          clear hH2
          (try simp only [Act.put, List.setIfInBounds_toArray, List.set_cons_zero, List.set_cons_succ])
          refine anyU_ready (rs := [11]) (by kernel_rfl) (by simp) ?_
          refine EachU.cons (o := { dst := some 102, op := Op.call { callee := Callee.value (Operand.func 46), args := #[Operand.tmp 100, Operand.tmp 101], argTypes := #[26, 22] }, type := 3, pos := "make.go:537", after := #[{ on := 9, ground := Ground.data }, { on := 10, ground := Ground.data }, { on := 8, ground := Ground.chain }], guard := none }) rfl (fun Kz hK => ?_) EachU.nil
          go_simp
          go_at_call 46
          refine (pick_any I64 a _ 0 4 4 (by omega) (by omega) _ HD.out.st.2 (HM3.out _ (by first | rfl | simp))).mono ?_
          rintro e w5 ⟨y3, rfl, -, hs⟩
          try replace HM1 := Lib.hid (show ∀ p, p = _ → _ from fun p hp => (HM1.out p hp).keepA hs.1 (fun e => (HM1.out p hp).1 (Option.some.inj e)))
          try replace HM2 := Lib.hid (show ∀ p, p = _ → _ from fun p hp => (HM2.out p hp).keepA hs.1 (fun e => (HM2.out p hp).1 (Option.some.inj e)))
          try replace HM3 := Lib.hid (show ∀ p, p = _ → _ from fun p hp => (HM3.out p hp).keepA hs.1 (fun e => (HM3.out p hp).1 (Option.some.inj e)))
          have HDn := Lib.hid (HD.out.tape ha hs)
          clear hs HD
          have HD := HDn
          clear HDn
          refine hK.out _ _ (fun _ => Lib.hid HD.out.g.ab) (fun hH2 => ?_)
          clear hK Kz hHeld
          have hHeld := hH2 rfl
          clear hH2
          (try simp only [Act.put, List.setIfInBounds_toArray, List.set_cons_zero, List.set_cons_succ])
        rotate_left 1
        focus
          go_simp
          have HMN := Lib.hid (HD.out.ints [-1, 0, 1000, 1001] #[.int .i64 (-1), .int .i64 0, .int .i64 1000, .int .i64 1001] (by intro x hx; simp at hx; unfold I64; omega) rfl)
          have HDn := Lib.hid (HD.out.keep (World.grownBy_alloc _ (.cells #[.int .i64 (-1), .int .i64 0, .int .i64 1000, .int .i64 1001] 3) none))
          try replace HM1 := Lib.hid (show ∀ p, p = _ → _ from fun p hp => (HM1.out p hp).keepA (World.grownBy_alloc _ (.cells #[.int .i64 (-1), .int .i64 0, .int .i64 1000, .int .i64 1001] 3) none) (by simp))
          try replace HM2 := Lib.hid (show ∀ p, p = _ → _ from fun p hp => (HM2.out p hp).keepA (World.grownBy_alloc _ (.cells #[.int .i64 (-1), .int .i64 0, .int .i64 1000, .int .i64 1001] 3) none) (by simp))
          try replace HM3 := Lib.hid (show ∀ p, p = _ → _ from fun p hp => (HM3.out p hp).keepA (World.grownBy_alloc _ (.cells #[.int .i64 (-1), .int .i64 0, .int .i64 1000, .int .i64 1001] 3) none) (by simp))
          have HM3 := HMN
          clear HMN HD
          have HD := HDn
          clear HDn
          refine hK.out _ _ (fun _ => Lib.hid HD.out.g.ab) (fun hH2 => ?_)
          clear hK Kz hHeld
          have hHeld := hH2 rfl
          clear hH2
          (try simp only [Act.put, List.setIfInBounds_toArray, List.set_cons_zero, List.set_cons_succ])
          refine anyU_ready (rs := [5]) (by kernel_rfl) (by simp) ?_
          refine EachU.cons (o := { dst := some 96, op := Op.call { callee := Callee.value (Operand.func 46), args := #[Operand.tmp 93, Operand.tmp 95], argTypes := #[26, 22] }, type := 3, pos := "make.go:537", after := #[{ on := 2, ground := Ground.data }, { on := 4, ground := Ground.data }], guard := none }) rfl (fun Kz hK => ?_) EachU.nil
          go_simp
          go_at_call 46
          refine (pick_any I64 a _ 0 5 5 (by omega) (by omega) _ HD.out.st.2 (HM1.out _ (by first | rfl | simp))).mono ?_
          rintro e w5 ⟨y1, rfl, -, hs⟩
          try replace HM1 := Lib.hid (show ∀ p, p = _ → _ from fun p hp => (HM1.out p hp).keepA hs.1 (fun e => (HM1.out p hp).1 (Option.some.inj e)))
          try replace HM2 := Lib.hid (show ∀ p, p = _ → _ from fun p hp => (HM2.out p hp).keepA hs.1 (fun e => (HM2.out p hp).1 (Option.some.inj e)))
          try replace HM3 := Lib.hid (show ∀ p, p = _ → _ from fun p hp => (HM3.out p hp).keepA hs.1 (fun e => (HM3.out p hp).1 (Option.some.inj e)))
          have HDn := Lib.hid (HD.out.tape ha hs)
          clear hs HD
          have HD := HDn
          clear HDn
          refine hK.out _ _ (fun _ => Lib.hid HD.out.g.ab) (fun hH2 => ?_)
          clear hK Kz hHeld
          have hHeld := hH2 rfl
          clear hH2
          (try simp only [Act.put, List.setIfInBounds_toArray, List.set_cons_zero, List.set_cons_succ])
          refine anyU_ready (rs := [8]) (by kernel_rfl) (by simp) ?_
          refine EachU.cons (o := { dst := some 99, op := Op.call { callee := Callee.value (Operand.func 46), args := #[Operand.tmp 97, Operand.tmp 98], argTypes := #[26, 22] }, type := 3, pos := "make.go:537", after := #[{ on := 6, ground := Ground.data }, { on := 7, ground := Ground.data }, { on := 5, ground := Ground.chain }], guard := none }) rfl (fun Kz hK => ?_) EachU.nil
          go_simp
          go_at_call 46
          refine (pick_any I64 a _ 0 4 4 (by omega) (by omega) _ HD.out.st.2 (HM2.out _ (by first | rfl | simp))).mono ?_
          rintro e w5 ⟨y2, rfl, -, hs⟩
          try replace HM1 := Lib.hid (show ∀ p, p = _ → _ from fun p hp => (HM1.out p hp).keepA hs.1 (fun e => (HM1.out p hp).1 (Option.some.inj e)))
          try replace HM2 := Lib.hid (show ∀ p, p = _ → _ from fun p hp => (HM2.out p hp).keepA hs.1 (fun e => (HM2.out p hp).1 (Option.some.inj e)))
          try replace HM3 := Lib.hid (show ∀ p, p = _ → _ from fun p hp => (HM3.out p hp).keepA hs.1 (fun e => (HM3.out p hp).1 (Option.some.inj e)))
          have HDn := Lib.hid (HD.out.tape ha hs)
          clear hs HD
          have HD := HDn
          clear HDn
          refine hK.out _ _ (fun _ => Lib.hid HD.out.g.ab) (fun hH2 => ?_)
          clear hK Kz hHeld
          have hHeld := hH2 rfl
          clear hH2
          (try simp only [Act.put, List.setIfInBounds_toArray, List.set_cons_zero, List.set_cons_succ])
          refine anyU_ready (rs := [11]) (by kernel_rfl) (by simp) ?_
          refine EachU.cons (o := { dst := some 102, op := Op.call { callee := Callee.value (Operand.func 46), args := #[Operand.tmp 100, Operand.tmp 101], argTypes := #[26, 22] }, type := 3, pos := "make.go:537", after := #[{ on := 9, ground := Ground.data }, { on := 10, ground := Ground.data }, { on := 8, ground := Ground.chain }], guard := none }) rfl (fun Kz hK => ?_) EachU.nil
          go_simp
          go_at_call 46
          refine (pick_any I64 a _ 0 4 4 (by omega) (by omega) _ HD.out.st.2 (HM3.out _ (by first | rfl | simp))).mono ?_
          rintro e w5 ⟨y3, rfl, -, hs⟩
          try replace HM1 := Lib.hid (show ∀ p, p = _ → _ from fun p hp => (HM1.out p hp).keepA hs.1 (fun e => (HM1.out p hp).1 (Option.some.inj e)))
          try replace HM2 := Lib.hid (show ∀ p, p = _ → _ from fun p hp => (HM2.out p hp).keepA hs.1 (fun e => (HM2.out p hp).1 (Option.some.inj e)))
          try replace HM3 := Lib.hid (show ∀ p, p = _ → _ from fun p hp => (HM3.out p hp).keepA hs.1 (fun e => (HM3.out p hp).1 (Option.some.inj e)))
          have HDn := Lib.hid (HD.out.tape ha hs)
          clear hs HD
          have HD := HDn
          clear HDn
          refine hK.out _ _ (fun _ => Lib.hid HD.out.g.ab) (fun hH2 => ?_)
          clear hK Kz hHeld
          have hHeld := hH2 rfl
          clear hH2
          (try simp only [Act.put, List.setIfInBounds_toArray, List.set_cons_zero, List.set_cons_succ])
        rotate_left 1
        focus
          go_simp
          have HMN := Lib.hid (HD.out.ints [-1, 0, 1000, 1001] #[.int .i64 (-1), .int .i64 0, .int .i64 1000, .int .i64 1001] (by intro x hx; simp at hx; unfold I64; omega) rfl)
          have HDn := Lib.hid (HD.out.keep (World.grownBy_alloc _ (.cells #[.int .i64 (-1), .int .i64 0, .int .i64 1000, .int .i64 1001] 3) none))
          try replace HM1 := Lib.hid (show ∀ p, p = _ → _ from fun p hp => (HM1.out p hp).keepA (World.grownBy_alloc _ (.cells #[.int .i64 (-1), .int .i64 0, .int .i64 1000, .int .i64 1001] 3) none) (by simp))
          try replace HM2 := Lib.hid (show ∀ p, p = _ → _ from fun p hp => (HM2.out p hp).keepA (World.grownBy_alloc _ (.cells #[.int .i64 (-1), .int .i64 0, .int .i64 1000, .int .i64 1001] 3) none) (by simp))
          try replace HM3 := Lib.hid (show ∀ p, p = _ → _ from fun p hp => (HM3.out p hp).keepA (World.grownBy_alloc _ (.cells #[.int .i64 (-1), .int .i64 0, .int .i64 1000, .int .i64 1001] 3) none) (by simp))
          have HM3 := HMN
          clear HMN HD
          have HD := HDn
          clear HDn
          refine hK.out _ _ (fun _ => Lib.hid HD.out.g.ab) (fun hH2 => ?_)
          clear hK Kz hHeld
          have hHeld := hH2 rfl
          clear hH2
          (try simp only [Act.put, List.setIfInBounds_toArray, List.set_cons_zero, List.set_cons_succ])
          refine anyU_ready (rs := [5, 7]) (by kernel_rfl) (by simp) ?_
          refine EachU.cons (o := { dst := some 96, op := Op.call { callee := Callee.value (Operand.func 46), args := #[Operand.tmp 93, Operand.tmp 95], argTypes := #[26, 22] }, type := 3, pos := "make.go:537", after := #[{ on := 2, ground := Ground.data }, { on := 4, ground := Ground.data }], guard := none }) rfl (fun Kz hK => ?_) (EachU.cons (o := { dst := some 98, op := Op.buildSlice 22 4 #[(0, Operand.const (Value.int IntKind.i64 0)), (1, Operand.const (Value.int IntKind.i64 1)), (2, Operand.const (Value.int IntKind.i64 1000)), (3, Operand.const (Value.int IntKind.i64 1001))], type := 22, pos := "make.go:537", after := #[], guard := none }) rfl (fun Kz hK => ?_) EachU.nil)
        focus
          go_simp
          go_at_call 46
          refine (pick_any I64 a _ 0 5 5 (by omega) (by omega) _ HD.out.st.2 (HM1.out _ (by first | rfl | simp))).mono ?_
          rintro e w5 ⟨y1, rfl, -, hs⟩
          try replace HM1 := Lib.hid (show ∀ p, p = _ → _ from fun p hp => (HM1.out p hp).keepA hs.1 (fun e => (HM1.out p hp).1 (Option.some.inj e)))
          try replace HM2 := Lib.hid (show ∀ p, p = _ → _ from fun p hp => (HM2.out p hp).keepA hs.1 (fun e => (HM2.out p hp).1 (Option.some.inj e)))
          try replace HM3 := Lib.hid (show ∀ p, p = _ → _ from fun p hp => (HM3.out p hp).keepA hs.1 (fun e => (HM3.out p hp).1 (Option.some.inj e)))
          have HDn := Lib.hid (HD.out.tape ha hs)
          clear hs HD
          have HD := HDn
          clear HDn
          refine hK.out _ _ (fun _ => Lib.hid HD.out.g.ab) (fun hH2 => ?_)
          clear hK Kz hHeld
          have hHeld := hH2 rfl
          clear hH2
          (try simp only [Act.put, List.setIfInBounds_toArray, List.set_cons_zero, List.set_cons_succ])
          refine anyU_ready (rs := [7]) (by kernel_rfl) (by simp) ?_
          refine EachU.cons (o := { dst := some 98, op := Op.buildSlice 22 4 #[(0, Operand.const (Value.int IntKind.i64 0)), (1, Operand.const (Value.int IntKind.i64 1)), (2, Operand.const (Value.int IntKind.i64 1000)), (3, Operand.const (Value.int IntKind.i64 1001))], type := 22, pos := "make.go:537", after := #[], guard := none }) rfl (fun Kz hK => ?_) EachU.nil
          go_simp
          have HMN := Lib.hid (HD.out.ints [0, 1, 1000, 1001] #[.int .i64 0, .int .i64 1, .int .i64 1000, .int .i64 1001] (by intro x hx; simp at hx; unfold I64; omega) rfl)
          have HDn := Lib.hid (HD.out.keep (World.grownBy_alloc _ (.cells #[.int .i64 0, .int .i64 1, .int .i64 1000, .int .i64 1001] 3) none))
          try replace HM1 := Lib.hid (show ∀ p, p = _ → _ from fun p hp => (HM1.out p hp).keepA (World.grownBy_alloc _ (.cells #[.int .i64 0, .int .i64 1, .int .i64 1000, .int .i64 1001] 3) none) (by simp))
          try replace HM2 := Lib.hid (show ∀ p, p = _ → _ from fun p hp => (HM2.out p hp).keepA (World.grownBy_alloc _ (.cells #[.int .i64 0, .int .i64 1, .int .i64 1000, .int .i64 1001] 3) none) (by simp))
          try replace HM3 := Lib.hid (show ∀ p, p = _ → _ from fun p hp => (HM3.out p hp).keepA (World.grownBy_alloc _ (.cells #[.int .i64 0, .int .i64 1, .int .i64 1000, .int .i64 1001] 3) none) (by simp))
          have HM2 := HMN
          clear HMN HD
          have HD := HDn
          clear HDn
          refine hK.out _ _ (fun _ => Lib.hid HD.out.g.ab) (fun hH2 => ?_)
          clear hK Kz hHeld
          have hHeld := hH2 rfl
          clear hH2
          (try simp only [Act.put, List.setIfInBounds_toArray, List.set_cons_zero, List.set_cons_succ])
          refine anyU_ready (rs := [8]) (by kernel_rfl) (by simp) ?_
          refine EachU.cons (o := { dst := some 99, op := Op.call { callee := Callee.value (Operand.func 46), args := #[Operand.tmp 97, Operand.tmp 98], argTypes := #[26, 22] }, type := 3, pos := "make.go:537", after := #[{ on := 6, ground := Ground.data }, { on := 7, ground := Ground.data }, { on := 5, ground := Ground.chain }], guard := none }) rfl (fun Kz hK => ?_) EachU.nil
          go_simp
          go_at_call 46
          refine (pick_any I64 a _ 0 4 4 (by omega) (by omega) _ HD.out.st.2 (HM2.out _ (by first | rfl | simp))).mono ?_
          rintro e w5 ⟨y2, rfl, -, hs⟩
          try replace HM1 := Lib.hid (show ∀ p, p = _ → _ from fun p hp => (HM1.out p hp).keepA hs.1 (fun e => (HM1.out p hp).1 (Option.some.inj e)))
          try replace HM2 := Lib.hid (show ∀ p, p = _ → _ from fun p hp => (HM2.out p hp).keepA hs.1 (fun e => (HM2.out p hp).1 (Option.some.inj e)))
          try replace HM3 := Lib.hid (show ∀ p, p = _ → _ from fun p hp => (HM3.out p hp).keepA hs.1 (fun e => (HM3.out p hp).1 (Option.some.inj e)))
          have HDn := Lib.hid (HD.out.tape ha hs)
          clear hs HD
          have HD := HDn
          clear HDn
          refine hK.out _ _ (fun _ => Lib.hid HD.out.g.ab) (fun hH2 => ?_)
          clear hK Kz hHeld
          have hHeld := hH2 rfl
          clear hH2
          (try simp only [Act.put, List.setIfInBounds_toArray, List.set_cons_zero, List.set_cons_succ])
          refine anyU_ready (rs := [11]) (by kernel_rfl) (by simp) ?_
          refine EachU.cons (o := { dst := some 102, op := Op.call { callee := Callee.value (Operand.func 46), args := #[Operand.tmp 100, Operand.tmp 101], argTypes := #[26, 22] }, type := 3, pos := "make.go:537", after := #[{ on := 9, ground := Ground.data }, { on := 10, ground := Ground.data }, { on := 8, ground := Ground.chain }], guard := none }) rfl (fun Kz hK => ?_) EachU.nil
          go_simp
          go_at_call 46
          refine (pick_any I64 a _ 0 4 4 (by omega) (by omega) _ HD.out.st.2 (HM3.out _ (by first | rfl | simp))).mono ?_
          rintro e w5 ⟨y3, rfl, -, hs⟩
          try replace HM1 := Lib.hid (show ∀ p, p = _ → _ from fun p hp => (HM1.out p hp).keepA hs.1 (fun e => (HM1.out p hp).1 (Option.some.inj e)))
          try replace HM2 := Lib.hid (show ∀ p, p = _ → _ from fun p hp => (HM2.out p hp).keepA hs.1 (fun e => (HM2.out p hp).1 (Option.some.inj e)))
          try replace HM3 := Lib.hid (show ∀ p, p = _ → _ from fun p hp => (HM3.out p hp).keepA hs.1 (fun e => (HM3.out p hp).1 (Option.some.inj e)))
          have HDn := Lib.hid (HD.out.tape ha hs)
          clear hs HD
          have HD := HDn
          clear HDn
          refine hK.out _ _ (fun _ => Lib.hid HD.out.g.ab) (fun hH2 => ?_)
          clear hK Kz hHeld
          have hHeld := hH2 rfl
          clear hH2
          (try simp only [Act.put, List.setIfInBounds_toArray, List.set_cons_zero, List.set_cons_succ])
        rotate_left 1
        focus
          go_simp
          have HMN := Lib.hid (HD.out.ints [0, 1, 1000, 1001] #[.int .i64 0, .int .i64 1, .int .i64 1000, .int .i64 1001] (by intro x hx; simp at hx; unfold I64; omega) rfl)
          have HDn := Lib.hid (HD.out.keep (World.grownBy_alloc _ (.cells #[.int .i64 0, .int .i64 1, .int .i64 1000, .int .i64 1001] 3) none))
          try replace HM1 := Lib.hid (show ∀ p, p = _ → _ from fun p hp => (HM1.out p hp).keepA (World.grownBy_alloc _ (.cells #[.int .i64 0, .int .i64 1, .int .i64 1000, .int .i64 1001] 3) none) (by simp))
          try replace HM2 := Lib.hid (show ∀ p, p = _ → _ from fun p hp => (HM2.out p hp).keepA (World.grownBy_alloc _ (.cells #[.int .i64 0, .int .i64 1, .int .i64 1000, .int .i64 1001] 3) none) (by simp))
          try replace HM3 := Lib.hid (show ∀ p, p = _ → _ from fun p hp => (HM3.out p hp).keepA (World.grownBy_alloc _ (.cells #[.int .i64 0, .int .i64 1, .int .i64 1000, .int .i64 1001] 3) none) (by simp))
          have HM2 := HMN
          clear HMN HD
          have HD := HDn
          clear HDn
          refine hK.out _ _ (fun _ => Lib.hid HD.out.g.ab) (fun hH2 => ?_)
          clear hK Kz hHeld
          have hHeld := hH2 rfl
          clear hH2
          (try simp only [Act.put, List.setIfInBounds_toArray, List.set_cons_zero, List.set_cons_succ])
          refine anyU_ready (rs := [5]) (by kernel_rfl) (by simp) ?_
          refine EachU.cons (o := { dst := some 96, op := Op.call { callee := Callee.value (Operand.func 46), args := #[Operand.tmp 93, Operand.tmp 95], argTypes := #[26, 22] }, type := 3, pos := "make.go:537", after := #[{ on := 2, ground := Ground.data }, { on := 4, ground := Ground.data }], guard := none }) rfl (fun Kz hK => ?_) EachU.nil
          go_simp
          go_at_call 46
          refine (pick_any I64 a _ 0 5 5 (by omega) (by omega) _ HD.out.st.2 (HM1.out _ (by first | rfl | simp))).mono ?_
          rintro e w5 ⟨y1, rfl, -, hs⟩
          try replace HM1 := Lib.hid (show ∀ p, p = _ → _ from fun p hp => (HM1.out p hp).keepA hs.1 (fun e => (HM1.out p hp).1 (Option.some.inj e)))
          try replace HM2 := Lib.hid (show ∀ p, p = _ → _ from fun p hp => (HM2.out p hp).keepA hs.1 (fun e => (HM2.out p hp).1 (Option.some.inj e)))
          try replace HM3 := Lib.hid (show ∀ p, p = _ → _ from fun p hp => (HM3.out p hp).keepA hs.1 (fun e => (HM3.out p hp).1 (Option.some.inj e)))
          have HDn := Lib.hid (HD.out.tape ha hs)
          clear hs HD
          have HD := HDn
          clear HDn
          refine hK.out _ _ (fun _ => Lib.hid HD.out.g.ab) (fun hH2 => ?_)
          clear hK Kz hHeld
          have hHeld := hH2 rfl
          clear hH2
          (try simp only [Act.put, List.setIfInBounds_toArray, List.set_cons_zero, List.set_cons_succ])
          refine anyU_ready (rs := [8]) (by kernel_rfl) (by simp) ?_
          refine EachU.cons (o := { dst := some 99, op := Op.call { callee := Callee.value (Operand.func 46), args := #[Operand.tmp 97, Operand.tmp 98], argTypes := #[26, 22] }, type := 3, pos := "make.go:537", after := #[{ on := 6, ground := Ground.data }, { on := 7, ground := Ground.data }, { on := 5, ground := Ground.chain }], guard := none }) rfl (fun Kz hK => ?_) EachU.nil
          go_simp
          go_at_call 46
          refine (pick_any I64 a _ 0 4 4 (by omega) (by omega) _ HD.out.st.2 (HM2.out _ (by first | rfl | simp))).mono ?_
          rintro e w5 ⟨y2, rfl, -, hs⟩
          try replace HM1 := Lib.hid (show ∀ p, p = _ → _ from fun p hp => (HM1.out p hp).keepA hs.1 (fun e => (HM1.out p hp).1 (Option.some.inj e)))
          try replace HM2 := Lib.hid (show ∀ p, p = _ → _ from fun p hp => (HM2.out p hp).keepA hs.1 (fun e => (HM2.out p hp).1 (Option.some.inj e)))
          try replace HM3 := Lib.hid (show ∀ p, p = _ → _ from fun p hp => (HM3.out p hp).keepA hs.1 (fun e => (HM3.out p hp).1 (Option.some.inj e)))
          have HDn := Lib.hid (HD.out.tape ha hs)
          clear hs HD
          have HD := HDn
          clear HDn
          refine hK.out _ _ (fun _ => Lib.hid HD.out.g.ab) (fun hH2 => ?_)
          clear hK Kz hHeld
          have hHeld := hH2 rfl
          clear hH2
          (try simp only [Act.put, List.setIfInBounds_toArray, List.set_cons_zero, List.set_cons_succ])
          refine anyU_ready (rs := [11]) (by kernel_rfl) (by simp) ?_
          refine EachU.cons (o := { dst := some 102, op := Op.call { callee := Callee.value (Operand.func 46), args := #[Operand.tmp 100, Operand.tmp 101], argTypes := #[26, 22] }, type := 3, pos := "make.go:537", after := #[{ on := 9, ground := Ground.data }, { on := 10, ground := Ground.data }, { on := 8, ground := Ground.chain }], guard := none }) rfl (fun Kz hK => ?_) EachU.nil
          go_simp
          go_at_call 46
          refine (pick_any I64 a _ 0 4 4 (by omega) (by omega) _ HD.out.st.2 (HM3.out _ (by first | rfl | simp))).mono ?_
          rintro e w5 ⟨y3, rfl, -, hs⟩
          try replace HM1 := Lib.hid (show ∀ p, p = _ → _ from fun p hp => (HM1.out p hp).keepA hs.1 (fun e => (HM1.out p hp).1 (Option.some.inj e)))
          try replace HM2 := Lib.hid (show ∀ p, p = _ → _ from fun p hp => (HM2.out p hp).keepA hs.1 (fun e => (HM2.out p hp).1 (Option.some.inj e)))
          try replace HM3 := Lib.hid (show ∀ p, p = _ → _ from fun p hp => (HM3.out p hp).keepA hs.1 (fun e => (HM3.out p hp).1 (Option.some.inj e)))
          have HDn := Lib.hid (HD.out.tape ha hs)
          clear hs HD
          have HD := HDn
          clear HDn
          refine hK.out _ _ (fun _ => Lib.hid HD.out.g.ab) (fun hH2 => ?_)
          clear hK Kz hHeld
          have hHeld := hH2 rfl
          clear hH2
          (try simp only [Act.put, List.setIfInBounds_toArray, List.set_cons_zero, List.set_cons_succ])
        rotate_left 1
        focus
          go_simp
          have HMN := Lib.hid (HD.out.ints [0, 1, 1000, 1001] #[.int .i64 0, .int .i64 1, .int .i64 1000, .int .i64 1001] (by intro x hx; simp at hx; unfold I64; omega) rfl)
          have HDn := Lib.hid (HD.out.keep (World.grownBy_alloc _ (.cells #[.int .i64 0, .int .i64 1, .int .i64 1000, .int .i64 1001] 3) none))
          try replace HM1 := Lib.hid (show ∀ p, p = _ → _ from fun p hp => (HM1.out p hp).keepA (World.grownBy_alloc _ (.cells #[.int .i64 0, .int .i64 1, .int .i64 1000, .int .i64 1001] 3) none) (by simp))
          try replace HM2 := Lib.hid (show ∀ p, p = _ → _ from fun p hp => (HM2.out p hp).keepA (World.grownBy_alloc _ (.cells #[.int .i64 0, .int .i64 1, .int .i64 1000, .int .i64 1001] 3) none) (by simp))
          try replace HM3 := Lib.hid (show ∀ p, p = _ → _ from fun p hp => (HM3.out p hp).keepA (World.grownBy_alloc _ (.cells #[.int .i64 0, .int .i64 1, .int .i64 1000, .int .i64 1001] 3) none) (by simp))
          have HM2 := HMN
          clear HMN HD
          have HD := HDn
          clear HDn
          refine hK.out _ _ (fun _ => Lib.hid HD.out.g.ab) (fun hH2 => ?_)
          clear hK Kz hHeld
          have hHeld := hH2 rfl
          clear hH2
          (try simp only [Act.put, List.setIfInBounds_toArray, List.set_cons_zero, List.set_cons_succ])
          refine anyU_ready (rs := [4, 10]) (by kernel_rfl) (by simp) ?_
          refine EachU.cons (o := { dst := some 95, op := Op.buildSlice 22 5 #[(0, Operand.const (Value.int IntKind.i64 0)), (1, Operand.tmp 94), (2, Operand.const (Value.int IntKind.i64 6)), (3, Operand.const (Value.int IntKind.i64 99)), (4, Operand.const (Value.int IntKind.i64 100))], type := 22, pos := "make.go:537", after := #[{ on := 3, ground := Ground.data }], guard := none }) rfl (fun Kz hK => ?_) (EachU.cons (o := { dst := some 101, op := Op.buildSlice 22 4 #[(0, Operand.const (Value.int IntKind.i64 (-1))), (1, Operand.const (Value.int IntKind.i64 0)), (2, Operand.const (Value.int IntKind.i64 1000)), (3, Operand.const (Value.int IntKind.i64 1001))], type := 22, pos := "make.go:537", after := #[], guard := none }) rfl (fun Kz hK => ?_) EachU.nil)
        focus
          go_simp
          have HMN := Lib.hid (HD.out.ints [0, R, 6, 99, 100] #[.int .i64 0, .int .i64 R, .int .i64 6, .int .i64 99, .int .i64 100] (by intro x hx; simp at hx; unfold I64; omega) rfl)
          have HDn := Lib.hid (HD.out.keep (World.grownBy_alloc _ (.cells #[.int .i64 0, .int .i64 R, .int .i64 6, .int .i64 99, .int .i64 100] 3) none))
          try replace HM1 := Lib.hid (show ∀ p, p = _ → _ from fun p hp => (HM1.out p hp).keepA (World.grownBy_alloc _ (.cells #[.int .i64 0, .int .i64 R, .int .i64 6, .int .i64 99, .int .i64 100] 3) none) (by simp))
          try replace HM2 := Lib.hid (show ∀ p, p = _ → _ from fun p hp => (HM2.out p hp).keepA (World.grownBy_alloc _ (.cells #[.int .i64 0, .int .i64 R, .int .i64 6, .int .i64 99, .int .i64 100] 3) none) (by simp))
          try replace HM3 := Lib.hid (show ∀ p, p = _ → _ from fun p hp => (HM3.out p hp).keepA (World.grownBy_alloc _ (.cells #[.int .i64 0, .int .i64 R, .int .i64 6, .int .i64 99, .int .i64 100] 3) none) (by simp))
          have HM1 := HMN
          clear HMN HD
          have HD := HDn
          clear HDn
          refine hK.out _ _ (fun _ => Lib.hid HD.out.g.ab) (fun hH2 => ?_)
          clear hK Kz hHeld
          have hHeld := hH2 rfl
          clear hH2
          (try simp only [Act.put, List.setIfInBounds_toArray, List.set_cons_zero, List.set_cons_succ])
          refine anyU_ready (rs := [5, 10]) (by kernel_rfl) (by simp) ?_
          refine EachU.cons (o := { dst := some 96, op := Op.call { callee := Callee.value (Operand.func 46), args := #[Operand.tmp 93, Operand.tmp 95], argTypes := #[26, 22] }, type := 3, pos := "make.go:537", after := #[{ on := 2, ground := Ground.data }, { on := 4, ground := Ground.data }], guard := none }) rfl (fun Kz hK => ?_) (EachU.cons (o := { dst := some 101, op := Op.buildSlice 22 4 #[(0, Operand.const (Value.int IntKind.i64 (-1))), (1, Operand.const (Value.int IntKind.i64 0)), (2, Operand.const (Value.int IntKind.i64 1000)), (3, Operand.const (Value.int IntKind.i64 1001))], type := 22, pos := "make.go:537", after := #[], guard := none }) rfl (fun Kz hK => ?_) EachU.nil)
        focus
          go_simp
          go_at_call 46
          refine (pick_any I64 a _ 0 5 5 (by omega) (by omega) _ HD.out.st.2 (HM1.out _ (by first | rfl | simp))).mono ?_
          rintro e w5 ⟨y1, rfl, -, hs⟩
          try replace HM1 := Lib.hid (show ∀ p, p = _ → _ from fun p hp => (HM1.out p hp).keepA hs.1 (fun e => (HM1.out p hp).1 (Option.some.inj e)))
          try replace HM2 := Lib.hid (show ∀ p, p = _ → _ from fun p hp => (HM2.out p hp).keepA hs.1 (fun e => (HM2.out p hp).1 (Option.some.inj e)))
          try replace HM3 := Lib.hid (show ∀ p, p = _ → _ from fun p hp => (HM3.out p hp).keepA hs.1 (fun e => (HM3.out p hp).1 (Option.some.inj e)))
          have HDn := Lib.hid (HD.out.tape ha hs)
          clear hs HD
          have HD := HDn
          clear HDn
          refine hK.out _ _ (fun _ => Lib.hid HD.out.g.ab) (fun hH2 => ?_)
          clear hK Kz hHeld
          have hHeld := hH2 rfl
          clear hH2
          (try simp only [Act.put, List.setIfInBounds_toArray, List.set_cons_zero, List.set_cons_succ])
          refine anyU_ready (rs := [8, 10]) (by kernel_rfl) (by simp) ?_
          refine EachU.cons (o := { dst := some 99, op := Op.call { callee := Callee.value (Operand.func 46), args := #[Operand.tmp 97, Operand.tmp 98], argTypes := #[26, 22] }, type := 3, pos := "make.go:537", after := #[{ on := 6, ground := Ground.data }, { on := 7, ground := Ground.data }, { on := 5, ground := Ground.chain }], guard := none }) rfl (fun Kz hK => ?_) (EachU.cons (o := { dst := some 101, op := Op.buildSlice 22 4 #[(0, Operand.const (Value.int IntKind.i64 (-1))), (1, Operand.const (Value.int IntKind.i64 0)), (2, Operand.const (Value.int IntKind.i64 1000)), (3, Operand.const (Value.int IntKind.i64 1001))], type := 22, pos := "make.go:537", after := #[], guard := none }) rfl (fun Kz hK => ?_) EachU.nil)
        focus
          go_simp
          go_at_call 46
          refine (pick_any I64 a _ 0 4 4 (by omega) (by omega) _ HD.out.st.2 (HM2.out _ (by first | rfl | simp))).mono ?_
          rintro e w5 ⟨y2, rfl, -, hs⟩
          try replace HM1 := Lib.hid (show ∀ p, p = _ → _ from fun p hp => (HM1.out p hp).keepA hs.1 (fun e => (HM1.out p hp).1 (Option.some.inj e)))
          try replace HM2 := Lib.hid (show ∀ p, p = _ → _ from fun p hp => (HM2.out p hp).keepA hs.1 (fun e => (HM2.out p hp).1 (Option.some.inj e)))
          try replace HM3 := Lib.hid (show ∀ p, p = _ → _ from fun p hp => (HM3.out p hp).keepA hs.1 (fun e => (HM3.out p hp).1 (Option.some.inj e)))
          have HDn := Lib.hid (HD.out.tape ha hs)
          clear hs HD
          have HD := HDn
          clear HDn
          refine hK.out _ _ (fun _ => Lib.hid HD.out.g.ab) (fun hH2 => ?_)
          clear hK Kz hHeld
          have hHeld := hH2 rfl
          clear hH2
          (try simp only [Act.put, List.setIfInBounds_toArray, List.set_cons_zero, List.set_cons_succ])
          refine anyU_ready (rs := [10]) (by kernel_rfl) (by simp) ?_
          refine EachU.cons (o := { dst := some 101, op := Op.buildSlice 22 4 #[(0, Operand.const (Value.int IntKind.i64 (-1))), (1, Operand.const (Value.int IntKind.i64 0)), (2, Operand.const (Value.int IntKind.i64 1000)), (3, Operand.const (Value.int IntKind.i64 1001))], type := 22, pos := "make.go:537", after := #[], guard := none }) rfl (fun Kz hK => ?_) EachU.nil
          go_simp
          have HMN := Lib.hid (HD.out.ints [-1, 0, 1000, 1001] #[.int .i64 (-1), .int .i64 0, .int .i64 1000, .int .i64 1001] (by intro x hx; simp at hx; unfold I64; omega) rfl)
          have HDn := Lib.hid (HD.out.keep (World.grownBy_alloc _ (.cells #[.int .i64 (-1), .int .i64 0, .int .i64 1000, .int .i64 1001] 3) none))
          try replace HM1 := Lib.hid (show ∀ p, p = _ → _ from fun p hp => (HM1.out p hp).keepA (World.grownBy_alloc _ (.cells #[.int .i64 (-1), .int .i64 0, .int .i64 1000, .int .i64 1001] 3) none) (by simp))
          try replace HM2 := Lib.hid (show ∀ p, p = _ → _ from fun p hp => (HM2.out p hp).keepA (World.grownBy_alloc _ (.cells #[.int .i64 (-1), .int .i64 0, .int .i64 1000, .int .i64 1001] 3) none) (by simp))
          try replace HM3 := Lib.hid (show ∀ p, p = _ → _ from fun p hp => (HM3.out p hp).keepA (World.grownBy_alloc _ (.cells #[.int .i64 (-1), .int .i64 0, .int .i64 1000, .int .i64 1001] 3) none) (by simp))
          have HM3 := HMN
          clear HMN HD
          have HD := HDn
          clear HDn
          refine hK.out _ _ (fun _ => Lib.hid HD.out.g.ab) (fun hH2 => ?_)
          clear hK Kz hHeld
          have hHeld := hH2 rfl
          clear hH2
          (try simp only [Act.put, List.setIfInBounds_toArray, List.set_cons_zero, List.set_cons_succ])
          refine anyU_ready (rs := [11]) (by kernel_rfl) (by simp) ?_
          refine EachU.cons (o := { dst := some 102, op := Op.call { callee := Callee.value (Operand.func 46), args := #[Operand.tmp 100, Operand.tmp 101], argTypes := #[26, 22] }, type := 3, pos := "make.go:537", after := #[{ on := 9, ground := Ground.data }, { on := 10, ground := Ground.data }, { on := 8, ground := Ground.chain }], guard := none }) rfl (fun Kz hK => ?_) EachU.nil
          go_simp
          go_at_call 46
          refine (pick_any I64 a _ 0 4 4 (by omega) (by omega) _ HD.out.st.2 (HM3.out _ (by first | rfl | simp))).mono ?_
          rintro e w5 ⟨y3, rfl, -, hs⟩
          try replace HM1 := Lib.hid (show ∀ p, p = _ → _ from fun p hp => (HM1.out p hp).keepA hs.1 (fun e => (HM1.out p hp).1 (Option.some.inj e)))
          try replace HM2 := Lib.hid (show ∀ p, p = _ → _ from fun p hp => (HM2.out p hp).keepA hs.1 (fun e => (HM2.out p hp).1 (Option.some.inj e)))
          try replace HM3 := Lib.hid (show ∀ p, p = _ → _ from fun p hp => (HM3.out p hp).keepA hs.1 (fun e => (HM3.out p hp).1 (Option.some.inj e)))
          have HDn := Lib.hid (HD.out.tape ha hs)
          clear hs HD
          have HD := HDn
          clear HDn
          refine hK.out _ _ (fun _ => Lib.hid HD.out.g.ab) (fun hH2 => ?_)
          clear hK Kz hHeld
          have hHeld := hH2 rfl
          clear hH2
          (try simp only [Act.put, List.setIfInBounds_toArray, List.set_cons_zero, List.set_cons_succ])
        rotate_left 1
        focus
          go_simp
          have HMN := Lib.hid (HD.out.ints [-1, 0, 1000, 1001] #[.int .i64 (-1), .int .i64 0, .int .i64 1000, .int .i64 1001] (by intro x hx; simp at hx; unfold I64; omega) rfl)
          have HDn := Lib.hid (HD.out.keep (World.grownBy_alloc _ (.cells #[.int .i64 (-1), .int .i64 0, .int .i64 1000, .int .i64 1001] 3) none))
          try replace HM1 := Lib.hid (show ∀ p, p = _ → _ from fun p hp => (HM1.out p hp).keepA (World.grownBy_alloc _ (.cells #[.int .i64 (-1), .int .i64 0, .int .i64 1000, .int .i64 1001] 3) none) (by simp))
          try replace HM2 := Lib.hid (show ∀ p, p = _ → _ from fun p hp => (HM2.out p hp).keepA (World.grownBy_alloc _ (.cells #[.int .i64 (-1), .int .i64 0, .int .i64 1000, .int .i64 1001] 3) none) (by simp))
          try replace HM3 := Lib.hid (show ∀ p, p = _ → _ from fun p hp => (HM3.out p hp).keepA (World.grownBy_alloc _ (.cells #[.int .i64 (-1), .int .i64 0, .int .i64 1000, .int .i64 1001] 3) none) (by simp))
          have HM3 := HMN
          clear HMN HD
          have HD := HDn
          clear HDn
          refine hK.out _ _ (fun _ => Lib.hid HD.out.g.ab) (fun hH2 => ?_)
          clear hK Kz hHeld
          have hHeld := hH2 rfl
          clear hH2
          (try simp only [Act.put, List.setIfInBounds_toArray, List.set_cons_zero, List.set_cons_succ])
          refine anyU_ready (rs := [8]) (by kernel_rfl) (by simp) ?_
          refine EachU.cons (o := { dst := some 99, op := Op.call { callee := Callee.value (Operand.func 46), args := #[Operand.tmp 97, Operand.tmp 98], argTypes := #[26, 22] }, type := 3, pos := "make.go:537", after := #[{ on := 6, ground := Ground.data }, { on := 7, ground := Ground.data }, { on := 5, ground := Ground.chain }], guard := none }) rfl (fun Kz hK => ?_) EachU.nil
          go_simp
          go_at_call 46
          refine (pick_any I64 a _ 0 4 4 (by omega) (by omega) _ HD.out.st.2 (HM2.out _ (by first | rfl | simp))).mono ?_
          rintro e w5 ⟨y2, rfl, -, hs⟩
          try replace HM1 := Lib.hid (show ∀ p, p = _ → _ from fun p hp => (HM1.out p hp).keepA hs.1 (fun e => (HM1.out p hp).1 (Option.some.inj e)))
          try replace HM2 := Lib.hid (show ∀ p, p = _ → _ from fun p hp => (HM2.out p hp).keepA hs.1 (fun e => (HM2.out p hp).1 (Option.some.inj e)))
          try replace HM3 := Lib.hid (show ∀ p, p = _ → _ from fun p hp => (HM3.out p hp).keepA hs.1 (fun e => (HM3.out p hp).1 (Option.some.inj e)))
          have HDn := Lib.hid (HD.out.tape ha hs)
          clear hs HD
          have HD := HDn
          clear HDn
          refine hK.out _ _ (fun _ => Lib.hid HD.out.g.ab) (fun hH2 => ?_)
          clear hK Kz hHeld
          have hHeld := hH2 rfl
          clear hH2
          (try simp only [Act.put, List.setIfInBounds_toArray, List.set_cons_zero, List.set_cons_succ])
          refine anyU_ready (rs := [11]) (by kernel_rfl) (by simp) ?_
          refine EachU.cons (o := { dst := some 102, op := Op.call { callee := Callee.value (Operand.func 46), args := #[Operand.tmp 100, Operand.tmp 101], argTypes := #[26, 22] }, type := 3, pos := "make.go:537", after := #[{ on := 9, ground := Ground.data }, { on := 10, ground := Ground.data }, { on := 8, ground := Ground.chain }], guard := none }) rfl (fun Kz hK => ?_) EachU.nil
          go_simp
          go_at_call 46
          refine (pick_any I64 a _ 0 4 4 (by omega) (by omega) _ HD.out.st.2 (HM3.out _ (by first | rfl | simp))).mono ?_
          rintro e w5 ⟨y3, rfl, -, hs⟩
          try replace HM1 := Lib.hid (show ∀ p, p = _ → _ from fun p hp => (HM1.out p hp).keepA hs.1 (fun e => (HM1.out p hp).1 (Option.some.inj e)))
          try replace HM2 := Lib.hid (show ∀ p, p = _ → _ from fun p hp => (HM2.out p hp).keepA hs.1 (fun e => (HM2.out p hp).1 (Option.some.inj e)))
          try replace HM3 := Lib.hid (show ∀ p, p = _ → _ from fun p hp => (HM3.out p hp).keepA hs.1 (fun e => (HM3.out p hp).1 (Option.some.inj e)))
          have HDn := Lib.hid (HD.out.tape ha hs)
          clear hs HD
          have HD := HDn
          clear HDn
          refine hK.out _ _ (fun _ => Lib.hid HD.out.g.ab) (fun hH2 => ?_)
          clear hK Kz hHeld
          have hHeld := hH2 rfl
          clear hH2
          (try simp only [Act.put, List.setIfInBounds_toArray, List.set_cons_zero, List.set_cons_succ])
        rotate_left 1
        focus
          go_simp
          have HMN := Lib.hid (HD.out.ints [-1, 0, 1000, 1001] #[.int .i64 (-1), .int .i64 0, .int .i64 1000, .int .i64 1001] (by intro x hx; simp at hx; unfold I64; omega) rfl)
          have HDn := Lib.hid (HD.out.keep (World.grownBy_alloc _ (.cells #[.int .i64 (-1), .int .i64 0, .int .i64 1000, .int .i64 1001] 3) none))
          try replace HM1 := Lib.hid (show ∀ p, p = _ → _ from fun p hp => (HM1.out p hp).keepA (World.grownBy_alloc _ (.cells #[.int .i64 (-1), .int .i64 0, .int .i64 1000, .int .i64 1001] 3) none) (by simp))
          try replace HM2 := Lib.hid (show ∀ p, p = _ → _ from fun p hp => (HM2.out p hp).keepA (World.grownBy_alloc _ (.cells #[.int .i64 (-1), .int .i64 0, .int .i64 1000, .int .i64 1001] 3) none) (by simp))
          try replace HM3 := Lib.hid (show ∀ p, p = _ → _ from fun p hp => (HM3.out p hp).keepA (World.grownBy_alloc _ (.cells #[.int .i64 (-1), .int .i64 0, .int .i64 1000, .int .i64 1001] 3) none) (by simp))
          have HM3 := HMN
          clear HMN HD
          have HD := HDn
          clear HDn
          refine hK.out _ _ (fun _ => Lib.hid HD.out.g.ab) (fun hH2 => ?_)
          clear hK Kz hHeld
          have hHeld := hH2 rfl
          clear hH2
          (try simp only [Act.put, List.setIfInBounds_toArray, List.set_cons_zero, List.set_cons_succ])
          refine anyU_ready (rs := [5]) (by kernel_rfl) (by simp) ?_
          refine EachU.cons (o := { dst := some 96, op := Op.call { callee := Callee.value (Operand.func 46), args := #[Operand.tmp 93, Operand.tmp 95], argTypes := #[26, 22] }, type := 3, pos := "make.go:537", after := #[{ on := 2, ground := Ground.data }, { on := 4, ground := Ground.data }], guard := none }) rfl (fun Kz hK => ?_) EachU.nil
          go_simp
          go_at_call 46
          refine (pick_any I64 a _ 0 5 5 (by omega) (by omega) _ HD.out.st.2 (HM1.out _ (by first | rfl | simp))).mono ?_
          rintro e w5 ⟨y1, rfl, -, hs⟩
          try replace HM1 := Lib.hid (show ∀ p, p = _ → _ from fun p hp => (HM1.out p hp).keepA hs.1 (fun e => (HM1.out p hp).1 (Option.some.inj e)))
          try replace HM2 := Lib.hid (show ∀ p, p = _ → _ from fun p hp => (HM2.out p hp).keepA hs.1 (fun e => (HM2.out p hp).1 (Option.some.inj e)))
          try replace HM3 := Lib.hid (show ∀ p, p = _ → _ from fun p hp => (HM3.out p hp).keepA hs.1 (fun e => (HM3.out p hp).1 (Option.some.inj e)))
          have HDn := Lib.hid (HD.out.tape ha hs)
          clear hs HD
          have HD := HDn
          clear HDn
          refine hK.out _ _ (fun _ => Lib.hid HD.out.g.ab) (fun hH2 => ?_)
          clear hK Kz hHeld
          have hHeld := hH2 rfl
          clear hH2
          (try simp only [Act.put, List.setIfInBounds_toArray, List.set_cons_zero, List.set_cons_succ])
          refine anyU_ready (rs := [8]) (by kernel_rfl) (by simp) ?_
          refine EachU.cons (o := { dst := some 99, op := Op.call { callee := Callee.value (Operand.func 46), args := #[Operand.tmp 97, Operand.tmp 98], argTypes := #[26, 22] }, type := 3, pos := "make.go:537", after := #[{ on := 6, ground := Ground.data }, { on := 7, ground := Ground.data }, { on := 5, ground := Ground.chain }], guard := none }) rfl (fun Kz hK => ?_) EachU.nil
          go_simp
          go_at_call 46
          refine (pick_any I64 a _ 0 4 4 (by omega) (by omega) _ HD.out.st.2 (HM2.out _ (by first | rfl | simp))).mono ?_
          rintro e w5 ⟨y2, rfl, -, hs⟩
          try replace HM1 := Lib.hid (show ∀ p, p = _ → _ from fun p hp => (HM1.out p hp).keepA hs.1 (fun e => (HM1.out p hp).1 (Option.some.inj e)))
          try replace HM2 := Lib.hid (show ∀ p, p = _ → _ from fun p hp => (HM2.out p hp).keepA hs.1 (fun e => (HM2.out p hp).1 (Option.some.inj e)))
          try replace HM3 := Lib.hid (show ∀ p, p = _ → _ from fun p hp => (HM3.out p hp).keepA hs.1 (fun e => (HM3.out p hp).1 (Option.some.inj e)))
          have HDn := Lib.hid (HD.out.tape ha hs)
          clear hs HD
          have HD := HDn
          clear HDn
          refine hK.out _ _ (fun _ => Lib.hid HD.out.g.ab) (fun hH2 => ?_)
          clear hK Kz hHeld
          have hHeld := hH2 rfl
          clear hH2
          (try simp only [Act.put, List.setIfInBounds_toArray, List.set_cons_zero, List.set_cons_succ])
          refine anyU_ready (rs := [11]) (by kernel_rfl) (by simp) ?_
          refine EachU.cons (o := { dst := some 102, op := Op.call { callee := Callee.value (Operand.func 46), args := #[Operand.tmp 100, Operand.tmp 101], argTypes := #[26, 22] }, type := 3, pos := "make.go:537", after := #[{ on := 9, ground := Ground.data }, { on := 10, ground := Ground.data }, { on := 8, ground := Ground.chain }], guard := none }) rfl (fun Kz hK => ?_) EachU.nil
          go_simp
          go_at_call 46
          refine (pick_any I64 a _ 0 4 4 (by omega) (by omega) _ HD.out.st.2 (HM3.out _ (by first | rfl | simp))).mono ?_
          rintro e w5 ⟨y3, rfl, -, hs⟩
          try replace HM1 := Lib.hid (show ∀ p, p = _ → _ from fun p hp => (HM1.out p hp).keepA hs.1 (fun e => (HM1.out p hp).1 (Option.some.inj e)))
          try replace HM2 := Lib.hid (show ∀ p, p = _ → _ from fun p hp => (HM2.out p hp).keepA hs.1 (fun e => (HM2.out p hp).1 (Option.some.inj e)))
          try replace HM3 := Lib.hid (show ∀ p, p = _ → _ from fun p hp => (HM3.out p hp).keepA hs.1 (fun e => (HM3.out p hp).1 (Option.some.inj e)))
          have HDn := Lib.hid (HD.out.tape ha hs)
          clear hs HD
          have HD := HDn
          clear HDn
          refine hK.out _ _ (fun _ => Lib.hid HD.out.g.ab) (fun hH2 => ?_)
          clear hK Kz hHeld
          have hHeld := hH2 rfl
          clear hH2
          (try simp only [Act.put, List.setIfInBounds_toArray, List.set_cons_zero, List.set_cons_succ])
        rotate_left 1
        focus
          go_simp
          have HMN := Lib.hid (HD.out.ints [-1, 0, 1000, 1001] #[.int .i64 (-1), .int .i64 0, .int .i64 1000, .int .i64 1001] (by intro x hx; simp at hx; unfold I64; omega) rfl)
          have HDn := Lib.hid (HD.out.keep (World.grownBy_alloc _ (.cells #[.int .i64 (-1), .int .i64 0, .int .i64 1000, .int .i64 1001] 3) none))
          try replace HM1 := Lib.hid (show ∀ p, p = _ → _ from fun p hp => (HM1.out p hp).keepA (World.grownBy_alloc _ (.cells #[.int .i64 (-1), .int .i64 0, .int .i64 1000, .int .i64 1001] 3) none) (by simp))
          try replace HM2 := Lib.hid (show ∀ p, p = _ → _ from fun p hp => (HM2.out p hp).keepA (World.grownBy_alloc _ (.cells #[.int .i64 (-1), .int .i64 0, .int .i64 1000, .int .i64 1001] 3) none) (by simp))
          try replace HM3 := Lib.hid (show ∀ p, p = _ → _ from fun p hp => (HM3.out p hp).keepA (World.grownBy_alloc _ (.cells #[.int .i64 (-1), .int .i64 0, .int .i64 1000, .int .i64 1001] 3) none) (by simp))
          have HM3 := HMN
          clear HMN HD
          have HD := HDn
          clear HDn
          refine hK.out _ _ (fun _ => Lib.hid HD.out.g.ab) (fun hH2 => ?_)
          clear hK Kz hHeld
          have hHeld := hH2 rfl
          clear hH2
          (try simp only [Act.put, List.setIfInBounds_toArray, List.set_cons_zero, List.set_cons_succ])
          refine anyU_ready (rs := [4]) (by kernel_rfl) (by simp) ?_
          refine EachU.cons (o := { dst := some 95, op := Op.buildSlice 22 5 #[(0, Operand.const (Value.int IntKind.i64 0)), (1, Operand.tmp 94), (2, Operand.const (Value.int IntKind.i64 6)), (3, Operand.const (Value.int IntKind.i64 99)), (4, Operand.const (Value.int IntKind.i64 100))], type := 22, pos := "make.go:537", after := #[{ on := 3, ground := Ground.data }], guard := none }) rfl (fun Kz hK => ?_) EachU.nil
          go_simp
          have HMN := Lib.hid (HD.out.ints [0, R, 6, 99, 100] #[.int .i64 0, .int .i64 R, .int .i64 6, .int .i64 99, .int .i64 100] (by intro x hx; simp at hx; unfold I64; omega) rfl)
          have HDn := Lib.hid (HD.out.keep (World.grownBy_alloc _ (.cells #[.int .i64 0, .int .i64 R, .int .i64 6, .int .i64 99, .int .i64 100] 3) none))
          try replace HM1 := Lib.hid (show ∀ p, p = _ → _ from fun p hp => (HM1.out p hp).keepA (World.grownBy_alloc _ (.cells #[.int .i64 0, .int .i64 R, .int .i64 6, .int .i64 99, .int .i64 100] 3) none) (by simp))
          try replace HM2 := Lib.hid (show ∀ p, p = _ → _ from fun p hp => (HM2.out p hp).keepA (World.grownBy_alloc _ (.cells #[.int .i64 0, .int .i64 R, .int .i64 6, .int .i64 99, .int .i64 100] 3) none) (by simp))
          try replace HM3 := Lib.hid (show ∀ p, p = _ → _ from fun p hp => (HM3.out p hp).keepA (World.grownBy_alloc _ (.cells #[.int .i64 0, .int .i64 R, .int .i64 6, .int .i64 99, .int .i64 100] 3) none) (by simp))
          have HM1 := HMN
          clear HMN HD
          have HD := HDn
          clear HDn
          refine hK.out _ _ (fun _ => Lib.hid HD.out.g.ab) (fun hH2 => ?_)
          clear hK Kz hHeld
          have hHeld := hH2 rfl
          clear hH2
          (try simp only [Act.put, List.setIfInBounds_toArray, List.set_cons_zero, List.set_cons_succ])
          refine anyU_ready (rs := [5]) (by kernel_rfl) (by simp) ?_
          refine EachU.cons (o := { dst := some 96, op := Op.call { callee := Callee.value (Operand.func 46), args := #[Operand.tmp 93, Operand.tmp 95], argTypes := #[26, 22] }, type := 3, pos := "make.go:537", after := #[{ on := 2, ground := Ground.data }, { on := 4, ground := Ground.data }], guard := none }) rfl (fun Kz hK => ?_) EachU.nil
          go_simp
          go_at_call 46
          refine (pick_any I64 a _ 0 5 5 (by omega) (by omega) _ HD.out.st.2 (HM1.out _ (by first | rfl | simp))).mono ?_
          rintro e w5 ⟨y1, rfl, -, hs⟩
          try replace HM1 := Lib.hid (show ∀ p, p = _ → _ from fun p hp => (HM1.out p hp).keepA hs.1 (fun e => (HM1.out p hp).1 (Option.some.inj e)))
          try replace HM2 := Lib.hid (show ∀ p, p = _ → _ from fun p hp => (HM2.out p hp).keepA hs.1 (fun e => (HM2.out p hp).1 (Option.some.inj e)))
          try replace HM3 := Lib.hid (show ∀ p, p = _ → _ from fun p hp => (HM3.out p hp).keepA hs.1 (fun e => (HM3.out p hp).1 (Option.some.inj e)))
          have HDn := Lib.hid (HD.out.tape ha hs)
          clear hs HD
          have HD := HDn
          clear HDn
          refine hK.out _ _ (fun _ => Lib.hid HD.out.g.ab) (fun hH2 => ?_)
          clear hK Kz hHeld
          have hHeld := hH2 rfl
          clear hH2
          (try simp only [Act.put, List.setIfInBounds_toArray, List.set_cons_zero, List.set_cons_succ])
          refine anyU_ready (rs := [8]) (by kernel_rfl) (by simp) ?_
          refine EachU.cons (o := { dst := some 99, op := Op.call { callee := Callee.value (Operand.func 46), args := #[Operand.tmp 97, Operand.tmp 98], argTypes := #[26, 22] }, type := 3, pos := "make.go:537", after := #[{ on := 6, ground := Ground.data }, { on := 7, ground := Ground.data }, { on := 5, ground := Ground.chain }], guard := none }) rfl (fun Kz hK => ?_) EachU.nil
          go_simp
          go_at_call 46
          refine (pick_any I64 a _ 0 4 4 (by omega) (by omega) _ HD.out.st.2 (HM2.out _ (by first | rfl | simp))).mono ?_
          rintro e w5 ⟨y2, rfl, -, hs⟩
          try replace HM1 := Lib.hid (show ∀ p, p = _ → _ from fun p hp => (HM1.out p hp).keepA hs.1 (fun e => (HM1.out p hp).1 (Option.some.inj e)))
          try replace HM2 := Lib.hid (show ∀ p, p = _ → _ from fun p hp => (HM2.out p hp).keepA hs.1 (fun e => (HM2.out p hp).1 (Option.some.inj e)))
          try replace HM3 := Lib.hid (show ∀ p, p = _ → _ from fun p hp => (HM3.out p hp).keepA hs.1 (fun e => (HM3.out p hp).1 (Option.some.inj e)))
          have HDn := Lib.hid (HD.out.tape ha hs)
          clear hs HD
          have HD := HDn
          clear HDn
          refine hK.out _ _ (fun _ => Lib.hid HD.out.g.ab) (fun hH2 => ?_)
          clear hK Kz hHeld
          have hHeld := hH2 rfl
          clear hH2
          (try simp only [Act.put, List.setIfInBounds_toArray, List.set_cons_zero, List.set_cons_succ])
          refine anyU_ready (rs := [11]) (by kernel_rfl) (by simp) ?_
          refine EachU.cons (o := { dst := some 102, op := Op.call { callee := Callee.value (Operand.func 46), args := #[Operand.tmp 100, Operand.tmp 101], argTypes := #[26, 22] }, type := 3, pos := "make.go:537", after := #[{ on := 9, ground := Ground.data }, { on := 10, ground := Ground.data }, { on := 8, ground := Ground.chain }], guard := none }) rfl (fun Kz hK => ?_) EachU.nil
          go_simp
          go_at_call 46
          refine (pick_any I64 a _ 0 4 4 (by omega) (by omega) _ HD.out.st.2 (HM3.out _ (by first | rfl | simp))).mono ?_
          rintro e w5 ⟨y3, rfl, -, hs⟩
          try replace HM1 := Lib.hid (show ∀ p, p = _ → _ from fun p hp => (HM1.out p hp).keepA hs.1 (fun e => (HM1.out p hp).1 (Option.some.inj e)))
          try replace HM2 := Lib.hid (show ∀ p, p = _ → _ from fun p hp => (HM2.out p hp).keepA hs.1 (fun e => (HM2.out p hp).1 (Option.some.inj e)))
          try replace HM3 := Lib.hid (show ∀ p, p = _ → _ from fun p hp => (HM3.out p hp).keepA hs.1 (fun e => (HM3.out p hp).1 (Option.some.inj e)))
          have HDn := Lib.hid (HD.out.tape ha hs)
          clear hs HD
          have HD := HDn
          clear HDn
          refine hK.out _ _ (fun _ => Lib.hid HD.out.g.ab) (fun hH2 => ?_)
          clear hK Kz hHeld
          have hHeld := hH2 rfl
          clear hH2
          (try simp only [Act.put, List.setIfInBounds_toArray, List.set_cons_zero, List.set_cons_succ])
        rotate_left 1
        focus
          go_simp
          have HMN := Lib.hid (HD.out.ints [-1, 0, 1000, 1001] #[.int .i64 (-1), .int .i64 0, .int .i64 1000, .int .i64 1001] (by intro x hx; simp at hx; unfold I64; omega) rfl)
          have HDn := Lib.hid (HD.out.keep (World.grownBy_alloc _ (.cells #[.int .i64 (-1), .int .i64 0, .int .i64 1000, .int .i64 1001] 3) none))
          try replace HM1 := Lib.hid (show ∀ p, p = _ → _ from fun p hp => (HM1.out p hp).keepA (World.grownBy_alloc _ (.cells #[.int .i64 (-1), .int .i64 0, .int .i64 1000, .int .i64 1001] 3) none) (by simp))
          try replace HM2 := Lib.hid (show ∀ p, p = _ → _ from fun p hp => (HM2.out p hp).keepA (World.grownBy_alloc _ (.cells #[.int .i64 (-1), .int .i64 0, .int .i64 1000, .int .i64 1001] 3) none) (by simp))
          try replace HM3 := Lib.hid (show ∀ p, p = _ → _ from fun p hp => (HM3.out p hp).keepA (World.grownBy_alloc _ (.cells #[.int .i64 (-1), .int .i64 0, .int .i64 1000, .int .i64 1001] 3) none) (by simp))
          have HM3 := HMN
          clear HMN HD
          have HD := HDn
          clear HDn
          refine hK.out _ _ (fun _ => Lib.hid HD.out.g.ab) (fun hH2 => ?_)
          clear hK Kz hHeld
          have hHeld := hH2 rfl
          clear hH2
          (try simp only [Act.put, List.setIfInBounds_toArray, List.set_cons_zero, List.set_cons_succ])
          refine anyU_ready (rs := [4, 7]) (by kernel_rfl) (by simp) ?_
          refine EachU.cons (o := { dst := some 95, op := Op.buildSlice 22 5 #[(0, Operand.const (Value.int IntKind.i64 0)), (1, Operand.tmp 94), (2, Operand.const (Value.int IntKind.i64 6)), (3, Operand.const (Value.int IntKind.i64 99)), (4, Operand.const (Value.int IntKind.i64 100))], type := 22, pos := "make.go:537", after := #[{ on := 3, ground := Ground.data }], guard := none }) rfl (fun Kz hK => ?_) (EachU.cons (o := { dst := some 98, op := Op.buildSlice 22 4 #[(0, Operand.const (Value.int IntKind.i64 0)), (1, Operand.const (Value.int IntKind.i64 1)), (2, Operand.const (Value.int IntKind.i64 1000)), (3, Operand.const (Value.int IntKind.i64 1001))], type := 22, pos := "make.go:537", after := #[], guard := none }) rfl (fun Kz hK => ?_) EachU.nil)
        focus
          go_simp
          have HMN := Lib.hid (HD.out.ints [0, R, 6, 99, 100] #[.int .i64 0, .int .i64 R, .int .i64 6, .int .i64 99, .int .i64 100] (by intro x hx; simp at hx; unfold I64; omega) rfl)
          have HDn := Lib.hid (HD.out.keep (World.grownBy_alloc _ (.cells #[.int .i64 0, .int .i64 R, .int .i64 6, .int .i64 99, .int .i64 100] 3) none))
          try replace HM1 := Lib.hid (show ∀ p, p = _ → _ from fun p hp => (HM1.out p hp).keepA (World.grownBy_alloc _ (.cells #[.int .i64 0, .int .i64 R, .int .i64 6, .int .i64 99, .int .i64 100] 3) none) (by simp))
          try replace HM2 := Lib.hid (show ∀ p, p = _ → _ from fun p hp => (HM2.out p hp).keepA (World.grownBy_alloc _ (.cells #[.int .i64 0, .int .i64 R, .int .i64 6, .int .i64 99, .int .i64 100] 3) none) (by simp))
          try replace HM3 := Lib.hid (show ∀ p, p = _ → _ from fun p hp => (HM3.out p hp).keepA (World.grownBy_alloc _ (.cells #[.int .i64 0, .int .i64 R, .int .i64 6, .int .i64 99, .int .i64 100] 3) none) (by simp))
          have HM1 := HMN
          clear HMN HD
          have HD := HDn
          clear HDn
          refine hK.out _ _ (fun _ => Lib.hid HD.out.g.ab) (fun hH2 => ?_)
          clear hK Kz hHeld
          have hHeld := hH2 rfl
          clear hH2
          (try simp only [Act.put, List.setIfInBounds_toArray, List.set_cons_zero, List.set_cons_succ])
          refine anyU_ready (rs := [5, 7]) (by kernel_rfl) (by simp) ?_
          refine EachU.cons (o := { dst := some 96, op := Op.call { callee := Callee.value (Operand.func 46), args := #[Operand.tmp 93, Operand.tmp 95], argTypes := #[26, 22] }, type := 3, pos := "make.go:537", after := #[{ on := 2, ground := Ground.data }, { on := 4, ground := Ground.data }], guard := none }) rfl (fun Kz hK => ?_) (EachU.cons (o := { dst := some 98, op := Op.buildSlice 22 4 #[(0, Operand.const (Value.int IntKind.i64 0)), (1, Operand.const (Value.int IntKind.i64 1)), (2, Operand.const (Value.int IntKind.i64 1000)), (3, Operand.const (Value.int IntKind.i64 1001))], type := 22, pos := "make.go:537", after := #[], guard := none }) rfl (fun Kz hK => ?_) EachU.nil)
        focus
          go_simp
          go_at_call 46
          refine (pick_any I64 a _ 0 5 5 (by omega) (by omega) _ HD.out.st.2 (HM1.out _ (by first | rfl | simp))).mono ?_
          rintro e w5 ⟨y1, rfl, -, hs⟩
          try replace HM1 := Lib.hid (show ∀ p, p = _ → _ from fun p hp => (HM1.out p hp).keepA hs.1 (fun e => (HM1.out p hp).1 (Option.some.inj e)))
          try replace HM2 := Lib.hid (show ∀ p, p = _ → _ from fun p hp => (HM2.out p hp).keepA hs.1 (fun e => (HM2.out p hp).1 (Option.some.inj e)))
          try replace HM3 := Lib.hid (show ∀ p, p = _ → _ from fun p hp => (HM3.out p hp).keepA hs.1 (fun e => (HM3.out p hp).1 (Option.some.inj e)))
          have HDn := Lib.hid (HD.out.tape ha hs)
          clear hs HD
          have HD := HDn
          clear HDn
          refine hK.out _ _ (fun _ => Lib.hid HD.out.g.ab) (fun hH2 => ?_)
          clear hK Kz hHeld
          have hHeld := hH2 rfl
          clear hH2
          (try simp only [Act.put, List.setIfInBounds_toArray, List.set_cons_zero, List.set_cons_succ])
          refine anyU_ready (rs := [7]) (by kernel_rfl) (by simp) ?_
          refine EachU.cons (o := { dst := some 98, op := Op.buildSlice 22 4 #[(0, Operand.const (Value.int IntKind.i64 0)), (1, Operand.const (Value.int IntKind.i64 1)), (2, Operand.const (Value.int IntKind.i64 1000)), (3, Operand.const (Value.int IntKind.i64 1001))], type := 22, pos := "make.go:537", after := #[], guard := none }) rfl (fun Kz hK => ?_) EachU.nil
          go_simp
          have HMN := Lib.hid (HD.out.ints [0, 1, 1000, 1001] #[.int .i64 0, .int .i64 1, .int .i64 1000, .int .i64 1001] (by intro x hx; simp at hx; unfold I64; omega) rfl)
          have HDn := Lib.hid (HD.out.keep (World.grownBy_alloc _ (.cells #[.int .i64 0, .int .i64 1, .int .i64 1000, .int .i64 1001] 3) none))
          try replace HM1 := Lib.hid (show ∀ p, p = _ → _ from fun p hp => (HM1.out p hp).keepA (World.grownBy_alloc _ (.cells #[.int .i64 0, .int .i64 1, .int .i64 1000, .int .i64 1001] 3) none) (by simp))
          try replace HM2 := Lib.hid (show ∀ p, p = _ → _ from fun p hp => (HM2.out p hp).keepA (World.grownBy_alloc _ (.cells #[.int .i64 0, .int .i64 1, .int .i64 1000, .int .i64 1001] 3) none) (by simp))
          try replace HM3 := Lib.hid (show ∀ p, p = _ → _ from fun p hp => (HM3.out p hp).keepA (World.grownBy_alloc _ (.cells #[.int .i64 0, .int .i64 1, .int .i64 1000, .int .i64 1001] 3) none) (by simp))
          have HM2 := HMN
          clear HMN HD
          have HD := HDn
          clear HDn
          refine hK.out _ _ (fun _ => Lib.hid HD.out.g.ab) (fun hH2 => ?_)
          clear hK Kz hHeld
          have hHeld := hH2 rfl
          clear hH2
          (try simp only [Act.put, List.setIfInBounds_toArray, List.set_cons_zero, List.set_cons_succ])
          refine anyU_ready (rs := [8]) (by kernel_rfl) (by simp) ?_
          refine EachU.cons (o := { dst := some 99, op := Op.call { callee := Callee.value (Operand.func 46), args := #[Operand.tmp 97, Operand.tmp 98], argTypes := #[26, 22] }, type := 3, pos := "make.go:537", after := #[{ on := 6, ground := Ground.data }, { on := 7, ground := Ground.data }, { on := 5, ground := Ground.chain }], guard := none }) rfl (fun Kz hK => ?_) EachU.nil
          go_simp
          go_at_call 46
          refine (pick_any I64 a _ 0 4 4 (by omega) (by omega) _ HD.out.st.2 (HM2.out _ (by first | rfl | simp))).mono ?_
          rintro e w5 ⟨y2, rfl, -, hs⟩
          try replace HM1 := Lib.hid (show ∀ p, p = _ → _ from fun p hp => (HM1.out p hp).keepA hs.1 (fun e => (HM1.out p hp).1 (Option.some.inj e)))
          try replace HM2 := Lib.hid (show ∀ p, p = _ → _ from fun p hp => (HM2.out p hp).keepA hs.1 (fun e => (HM2.out p hp).1 (Option.some.inj e)))
          try replace HM3 := Lib.hid (show ∀ p, p = _ → _ from fun p hp => (HM3.out p hp).keepA hs.1 (fun e => (HM3.out p hp).1 (Option.some.inj e)))
          have HDn := Lib.hid (HD.out.tape ha hs)
          clear hs HD
          have HD := HDn
          clear HDn
          refine hK.out _ _ (fun _ => Lib.hid HD.out.g.ab) (fun hH2 => ?_)
          clear hK Kz hHeld
          have hHeld := hH2 rfl
          clear hH2
          (try simp only [Act.put, List.setIfInBounds_toArray, List.set_cons_zero, List.set_cons_succ])
          refine anyU_ready (rs := [11]) (by kernel_rfl) (by simp) ?_
          refine EachU.cons (o := { dst := some 102, op := Op.call { callee := Callee.value (Operand.func 46), args := #[Operand.tmp 100, Operand.tmp 101], argTypes := #[26, 22] }, type := 3, pos := "make.go:537", after := #[{ on := 9, ground := Ground.data }, { on := 10, ground := Ground.data }, { on := 8, ground := Ground.chain }], guard := none }) rfl (fun Kz hK => ?_) EachU.nil
          go_simp
          go_at_call 46
          refine (pick_any I64 a _ 0 4 4 (by omega) (by omega) _ HD.out.st.2 (HM3.out _ (by first | rfl | simp))).mono ?_
          rintro e w5 ⟨y3, rfl, -, hs⟩
          try replace HM1 := Lib.hid (show ∀ p, p = _ → _ from fun p hp => (HM1.out p hp).keepA hs.1 (fun e => (HM1.out p hp).1 (Option.some.inj e)))
          try replace HM2 := Lib.hid (show ∀ p, p = _ → _ from fun p hp => (HM2.out p hp).keepA hs.1 (fun e => (HM2.out p hp).1 (Option.some.inj e)))
          try replace HM3 := Lib.hid (show ∀ p, p = _ → _ from fun p hp => (HM3.out p hp).keepA hs.1 (fun e => (HM3.out p hp).1 (Option.some.inj e)))
          have HDn := Lib.hid (HD.out.tape ha hs)
          clear hs HD
          have HD := HDn
          clear HDn
          refine hK.out _ _ (fun _ => Lib.hid HD.out.g.ab) (fun hH2 => ?_)
          clear hK Kz hHeld
          have hHeld := hH2 rfl
          clear hH2
          (try simp only [Act.put, List.setIfInBounds_toArray, List.set_cons_zero, List.set_cons_succ])
        rotate_left 1
        focus
          go_simp
          have HMN := Lib.hid (HD.out.ints [0, 1, 1000, 1001] #[.int .i64 0, .int .i64 1, .int .i64 1000, .int .i64 1001] (by intro x hx; simp at hx; unfold I64; omega) rfl)
          have HDn := Lib.hid (HD.out.keep (World.grownBy_alloc _ (.cells #[.int .i64 0, .int .i64 1, .int .i64 1000, .int .i64 1001] 3) none))
          try replace HM1 := Lib.hid (show ∀ p, p = _ → _ from fun p hp => (HM1.out p hp).keepA (World.grownBy_alloc _ (.cells #[.int .i64 0, .int .i64 1, .int .i64 1000, .int .i64 1001] 3) none) (by simp))
          try replace HM2 := Lib.hid (show ∀ p, p = _ → _ from fun p hp => (HM2.out p hp).keepA (World.grownBy_alloc _ (.cells #[.int .i64 0, .int .i64 1, .int .i64 1000, .int .i64 1001] 3) none) (by simp))
          try replace HM3 := Lib.hid (show ∀ p, p = _ → _ from fun p hp => (HM3.out p hp).keepA (World.grownBy_alloc _ (.cells #[.int .i64 0, .int .i64 1, .int .i64 1000, .int .i64 1001] 3) none) (by simp))
          have HM2 := HMN
          clear HMN HD
          have HD := HDn
          clear HDn
          refine hK.out _ _ (fun _ => Lib.hid HD.out.g.ab) (fun hH2 => ?_)
          clear hK Kz hHeld
          have hHeld := hH2 rfl
          clear hH2
          (try simp only [Act.put, List.setIfInBounds_toArray, List.set_cons_zero, List.set_cons_succ])
          refine anyU_ready (rs := [5]) (by kernel_rfl) (by simp) ?_
          refine EachU.cons (o := { dst := some 96, op := Op.call { callee := Callee.value (Operand.func 46), args := #[Operand.tmp 93, Operand.tmp 95], argTypes := #[26, 22] }, type := 3, pos := "make.go:537", after := #[{ on := 2, ground := Ground.data }, { on := 4, ground := Ground.data }], guard := none }) rfl (fun Kz hK => ?_) EachU.nil
          go_simp
          go_at_call 46
          refine (pick_any I64 a _ 0 5 5 (by omega) (by omega) _ HD.out.st.2 (HM1.out _ (by first | rfl | simp))).mono ?_
          rintro e w5 ⟨y1, rfl, -, hs⟩
          try replace HM1 := Lib.hid (show ∀ p, p = _ → _ from fun p hp => (HM1.out p hp).keepA hs.1 (fun e => (HM1.out p hp).1 (Option.some.inj e)))
          try replace HM2 := Lib.hid (show ∀ p, p = _ → _ from fun p hp => (HM2.out p hp).keepA hs.1 (fun e => (HM2.out p hp).1 (Option.some.inj e)))
          try replace HM3 := Lib.hid (show ∀ p, p = _ → _ from fun p hp => (HM3.out p hp).keepA hs.1 (fun e => (HM3.out p hp).1 (Option.some.inj e)))
          have HDn := Lib.hid (HD.out.tape ha hs)
          clear hs HD
          have HD := HDn
          clear HDn
          refine hK.out _ _ (fun _ => Lib.hid HD.out.g.ab) (fun hH2 => ?_)
          clear hK Kz hHeld
          have hHeld := hH2 rfl
          clear hH2
          (try simp only [Act.put, List.setIfInBounds_toArray, List.set_cons_zero, List.set_cons_succ])
          refine anyU_ready (rs := [8]) (by kernel_rfl) (by simp) ?_
          refine EachU.cons (o := { dst := some 99, op := Op.call { callee := Callee.value (Operand.func 46), args := #[Operand.tmp 97, Operand.tmp 98], argTypes := #[26, 22] }, type := 3, pos := "make.go:537", after := #[{ on := 6, ground := Ground.data }, { on := 7, ground := Ground.data }, { on := 5, ground := Ground.chain }], guard := none }) rfl (fun Kz hK => ?_) EachU.nil
          go_simp
          go_at_call 46
          refine (pick_any I64 a _ 0 4 4 (by omega) (by omega) _ HD.out.st.2 (HM2.out _ (by first | rfl | simp))).mono ?_
          rintro e w5 ⟨y2, rfl, -, hs⟩
          try replace HM1 := Lib.hid (show ∀ p, p = _ → _ from fun p hp => (HM1.out p hp).keepA hs.1 (fun e => (HM1.out p hp).1 (Option.some.inj e)))
          try replace HM2 := Lib.hid (show ∀ p, p = _ → _ from fun p hp => (HM2.out p hp).keepA hs.1 (fun e => (HM2.out p hp).1 (Option.some.inj e)))
          try replace HM3 := Lib.hid (show ∀ p, p = _ → _ from fun p hp => (HM3.out p hp).keepA hs.1 (fun e => (HM3.out p hp).1 (Option.some.inj e)))
          have HDn := Lib.hid (HD.out.tape ha hs)
          clear hs HD
          have HD := HDn
          clear HDn
          refine hK.out _ _ (fun _ => Lib.hid HD.out.g.ab) (fun hH2 => ?_)
          clear hK Kz hHeld
          have hHeld := hH2 rfl
          clear hH2
          (try simp only [Act.put, List.setIfInBounds_toArray, List.set_cons_zero, List.set_cons_succ])
          refine anyU_ready (rs := [11]) (by kernel_rfl) (by simp) ?_
          refine EachU.cons (o := { dst := some 102, op := Op.call { callee := Callee.value (Operand.func 46), args := #[Operand.tmp 100, Operand.tmp 101], argTypes := #[26, 22] }, type := 3, pos := "make.go:537", after := #[{ on := 9, ground := Ground.data }, { on := 10, ground := Ground.data }, { on := 8, ground := Ground.chain }], guard := none }) rfl (fun Kz hK => ?_) EachU.nil
          go_simp
          go_at_call 46
          refine (pick_any I64 a _ 0 4 4 (by omega) (by omega) _ HD.out.st.2 (HM3.out _ (by first | rfl | simp))).mono ?_
          rintro e w5 ⟨y3, rfl, -, hs⟩
          try replace HM1 := Lib.hid (show ∀ p, p = _ → _ from fun p hp => (HM1.out p hp).keepA hs.1 (fun e => (HM1.out p hp).1 (Option.some.inj e)))
          try replace HM2 := Lib.hid (show ∀ p, p = _ → _ from fun p hp => (HM2.out p hp).keepA hs.1 (fun e => (HM2.out p hp).1 (Option.some.inj e)))
          try replace HM3 := Lib.hid (show ∀ p, p = _ → _ from fun p hp => (HM3.out p hp).keepA hs.1 (fun e => (HM3.out p hp).1 (Option.some.inj e)))
          have HDn := Lib.hid (HD.out.tape ha hs)
          clear hs HD
          have HD := HDn
          clear HDn
          refine hK.out _ _ (fun _ => Lib.hid HD.out.g.ab) (fun hH2 => ?_)
          clear hK Kz hHeld
          have hHeld := hH2 rfl
          clear hH2
          (try simp only [Act.put, List.setIfInBounds_toArray, List.set_cons_zero, List.set_cons_succ])
        rotate_left 1
        focus
          go_simp
          have HMN := Lib.hid (HD.out.ints [0, 1, 1000, 1001] #[.int .i64 0, .int .i64 1, .int .i64 1000, .int .i64 1001] (by intro x hx; simp at hx; unfold I64; omega) rfl)
          have HDn := Lib.hid (HD.out.keep (World.grownBy_alloc _ (.cells #[.int .i64 0, .int .i64 1, .int .i64 1000, .int .i64 1001] 3) none))
          try replace HM1 := Lib.hid (show ∀ p, p = _ → _ from fun p hp => (HM1.out p hp).keepA (World.grownBy_alloc _ (.cells #[.int .i64 0, .int .i64 1, .int .i64 1000, .int .i64 1001] 3) none) (by simp))
          try replace HM2 := Lib.hid (show ∀ p, p = _ → _ from fun p hp => (HM2.out p hp).keepA (World.grownBy_alloc _ (.cells #[.int .i64 0, .int .i64 1, .int .i64 1000, .int .i64 1001] 3) none) (by simp))
          try replace HM3 := Lib.hid (show ∀ p, p = _ → _ from fun p hp => (HM3.out p hp).keepA (World.grownBy_alloc _ (.cells #[.int .i64 0, .int .i64 1, .int .i64 1000, .int .i64 1001] 3) none) (by simp))
          have HM2 := HMN
          clear HMN HD
          have HD := HDn
          clear HDn
          refine hK.out _ _ (fun _ => Lib.hid HD.out.g.ab) (fun hH2 => ?_)
          clear hK Kz hHeld
          have hHeld := hH2 rfl
          clear hH2
          (try simp only [Act.put, List.setIfInBounds_toArray, List.set_cons_zero, List.set_cons_succ])
          refine anyU_ready (rs := [4]) (by kernel_rfl) (by simp) ?_
          refine EachU.cons (o := { dst := some 95, op := Op.buildSlice 22 5 #[(0, Operand.const (Value.int IntKind.i64 0)), (1, Operand.tmp 94), (2, Operand.const (Value.int IntKind.i64 6)), (3, Operand.const (Value.int IntKind.i64 99)), (4, Operand.const (Value.int IntKind.i64 100))], type := 22, pos := "make.go:537", after := #[{ on := 3, ground := Ground.data }], guard := none }) rfl (fun Kz hK => ?_) EachU.nil
          go_simp
          have HMN := Lib.hid (HD.out.ints [0, R, 6, 99, 100] #[.int .i64 0, .int .i64 R, .int .i64 6, .int .i64 99, .int .i64 100] (by intro x hx; simp at hx; unfold I64; omega) rfl)
          have HDn := Lib.hid (HD.out.keep (World.grownBy_alloc _ (.cells #[.int .i64 0, .int .i64 R, .int .i64 6, .int .i64 99, .int .i64 100] 3) none))
          try replace HM1 := Lib.hid (show ∀ p, p = _ → _ from fun p hp => (HM1.out p hp).keepA (World.grownBy_alloc _ (.cells #[.int .i64 0, .int .i64 R, .int .i64 6, .int .i64 99, .int .i64 100] 3) none) (by simp))
          try replace HM2 := Lib.hid (show ∀ p, p = _ → _ from fun p hp => (HM2.out p hp).keepA (World.grownBy_alloc _ (.cells #[.int .i64 0, .int .i64 R, .int .i64 6, .int .i64 99, .int .i64 100] 3) none) (by simp))
          try replace HM3 := Lib.hid (show ∀ p, p = _ → _ from fun p hp => (HM3.out p hp).keepA (World.grownBy_alloc _ (.cells #[.int .i64 0, .int .i64 R, .int .i64 6, .int .i64 99, .int .i64 100] 3) none) (by simp))
          have HM1 := HMN
          clear HMN HD
          have HD := HDn
          clear HDn
          refine hK.out _ _ (fun _ => Lib.hid HD.out.g.ab) (fun hH2 => ?_)
          clear hK Kz hHeld
          have hHeld := hH2 rfl
          clear hH2
          (try simp only [Act.put, List.setIfInBounds_toArray, List.set_cons_zero, List.set_cons_succ])
          refine anyU_ready (rs := [5]) (by kernel_rfl) (by simp) ?_
          refine EachU.cons (o := { dst := some 96, op := Op.call { callee := Callee.value (Operand.func 46), args := #[Operand.tmp 93, Operand.tmp 95], argTypes := #[26, 22] }, type := 3, pos := "make.go:537", after := #[{ on := 2, ground := Ground.data }, { on := 4, ground := Ground.data }], guard := none }) rfl (fun Kz hK => ?_) EachU.nil
          go_simp
          go_at_call 46
          refine (pick_any I64 a _ 0 5 5 (by omega) (by omega) _ HD.out.st.2 (HM1.out _ (by first | rfl | simp))).mono ?_
          rintro e w5 ⟨y1, rfl, -, hs⟩
          try replace HM1 := Lib.hid (show ∀ p, p = _ → _ from fun p hp => (HM1.out p hp).keepA hs.1 (fun e => (HM1.out p hp).1 (Option.some.inj e)))
          try replace HM2 := Lib.hid (show ∀ p, p = _ → _ from fun p hp => (HM2.out p hp).keepA hs.1 (fun e => (HM2.out p hp).1 (Option.some.inj e)))
          try replace HM3 := Lib.hid (show ∀ p, p = _ → _ from fun p hp => (HM3.out p hp).keepA hs.1 (fun e => (HM3.out p hp).1 (Option.some.inj e)))
          have HDn := Lib.hid (HD.out.tape ha hs)
          clear hs HD
          have HD := HDn
          clear HDn
          refine hK.out _ _ (fun _ => Lib.hid HD.out.g.ab) (fun hH2 => ?_)
          clear hK Kz hHeld
          have hHeld := hH2 rfl
          clear hH2
          (try simp only [Act.put, List.setIfInBounds_toArray, List.set_cons_zero, List.set_cons_succ])
          refine anyU_ready (rs := [8]) (by kernel_rfl) (by simp) ?_
          refine EachU.cons (o := { dst := some 99, op := Op.call { callee := Callee.value (Operand.func 46), args := #[Operand.tmp 97, Operand.tmp 98], argTypes := #[26, 22] }, type := 3, pos := "make.go:537", after := #[{ on := 6, ground := Ground.data }, { on := 7, ground := Ground.data }, { on := 5, ground := Ground.chain }], guard := none }) rfl (fun Kz hK => ?_) EachU.nil
          go_simp
          go_at_call 46
          refine (pick_any I64 a _ 0 4 4 (by omega) (by omega) _ HD.out.st.2 (HM2.out _ (by first | rfl | simp))).mono ?_
          rintro e w5 ⟨y2, rfl, -, hs⟩
          try replace HM1 := Lib.hid (show ∀ p, p = _ → _ from fun p hp => (HM1.out p hp).keepA hs.1 (fun e => (HM1.out p hp).1 (Option.some.inj e)))
          try replace HM2 := Lib.hid (show ∀ p, p = _ → _ from fun p hp => (HM2.out p hp).keepA hs.1 (fun e => (HM2.out p hp).1 (Option.some.inj e)))
          try replace HM3 := Lib.hid (show ∀ p, p = _ → _ from fun p hp => (HM3.out p hp).keepA hs.1 (fun e => (HM3.out p hp).1 (Option.some.inj e)))
          have HDn := Lib.hid (HD.out.tape ha hs)
          clear hs HD
          have HD := HDn
          clear HDn
          refine hK.out _ _ (fun _ => Lib.hid HD.out.g.ab) (fun hH2 => ?_)
          clear hK Kz hHeld
          have hHeld := hH2 rfl
          clear hH2
          (try simp only [Act.put, List.setIfInBounds_toArray, List.set_cons_zero, List.set_cons_succ])
          refine anyU_ready (rs := [11]) (by kernel_rfl) (by simp) ?_
          refine EachU.cons (o := { dst := some 102, op := Op.call { callee := Callee.value (Operand.func 46), args := #[Operand.tmp 100, Operand.tmp 101], argTypes := #[26, 22] }, type := 3, pos := "make.go:537", after := #[{ on := 9, ground := Ground.data }, { on := 10, ground := Ground.data }, { on := 8, ground := Ground.chain }], guard := none }) rfl (fun Kz hK => ?_) EachU.nil
          go_simp
          go_at_call 46
          refine (pick_any I64 a _ 0 4 4 (by omega) (by omega) _ HD.out.st.2 (HM3.out _ (by first | rfl | simp))).mono ?_
          rintro e w5 ⟨y3, rfl, -, hs⟩
          try replace HM1 := Lib.hid (show ∀ p, p = _ → _ from fun p hp => (HM1.out p hp).keepA hs.1 (fun e => (HM1.out p hp).1 (Option.some.inj e)))
          try replace HM2 := Lib.hid (show ∀ p, p = _ → _ from fun p hp => (HM2.out p hp).keepA hs.1 (fun e => (HM2.out p hp).1 (Option.some.inj e)))
          try replace HM3 := Lib.hid (show ∀ p, p = _ → _ from fun p hp => (HM3.out p hp).keepA hs.1 (fun e => (HM3.out p hp).1 (Option.some.inj e)))
          have HDn := Lib.hid (HD.out.tape ha hs)
          clear hs HD
          have HD := HDn
          clear HDn
          refine hK.out _ _ (fun _ => Lib.hid HD.out.g.ab) (fun hH2 => ?_)
          clear hK Kz hHeld
          have hHeld := hH2 rfl
          clear hH2
          (try simp only [Act.put, List.setIfInBounds_toArray, List.set_cons_zero, List.set_cons_succ])
        rotate_left 1
        all_goals
          refine anyU_take (i := 12) (oi := { dst := some 103, op := Op.build 73 #[(0, Operand.tmp 96), (1, Operand.tmp 99), (2, Operand.tmp 102)], type := 73, pos := "make.go:537", after := #[{ on := 5, ground := Ground.data }, { on := 8, ground := Ground.data }, { on := 11, ground := Ground.data }], guard := none }) (v := ?_) rfl (by kernel_rfl) (by kernel_rfl) (by kernel_rfl) (by kernel_rfl) (by kernel_rfl) (fun _ _ _ h => h) (Or.inl ⟨by rfl, ?_⟩) hHeld ?_
          rotate_left 1
          · intro u hSu
            have q0 := (cell_of_row _ _ 3 _ _ _ hSu.out)
            go_simp
            first | done | with_reducible rfl
          (try simp only [Act.put, List.setIfInBounds_toArray, List.set_cons_zero, List.set_cons_succ])
          refine anyU_ready (rs := [13]) (by kernel_rfl) (by simp) ?_
          refine EachU.cons (o := { dst := some 104, op := Op.buildSlice 35 1 #[(0, Operand.tmp 103)], type := 35, pos := "make.go:537", after := #[{ on := 12, ground := Ground.data }], guard := none }) rfl (fun Kz hK => ?_) EachU.nil
          go_simp
          have HDn := Lib.hid (HD.out.keep (World.grownBy_alloc _ (.cells #[.int .i64 y1, .int .i64 y2, .int .i64 y3] 73) none))
          clear HD
          have HD := HDn
          clear HDn
          refine hK.out _ _ (fun _ => Lib.hid HD.out.g.ab) (fun hH2 => ?_)
          clear hK Kz hHeld
          have hHeld := hH2 rfl
          clear hH2
          (try simp only [Act.put, List.setIfInBounds_toArray, List.set_cons_zero, List.set_cons_succ])
          refine anyU_ready (rs := [14]) (by kernel_rfl) (by simp) ?_
          refine EachU.cons (o := { dst := some 105, op := Op.call { callee := Callee.builtin Builtin.append, args := #[Operand.tmp 92, Operand.tmp 104], argTypes := #[35, 35] }, type := 35, pos := "make.go:537", after := #[{ on := 1, ground := Ground.data }, { on := 13, ground := Ground.data }, { on := 11, ground := Ground.chain }], guard := none }) rfl (fun Kz hK => ?_) EachU.nil
          refine (astep_app t3C 3 24 (by decide) (fun _ => rfl) t3_one 73 35 ir _ Try.underlying35 hir hr0 hr1 hr2 rfl (by decide) (by rfl) _ _ (by rfl) (B + 1) vL0 L (by rfl) HD.out.g.oL (some ⟨_, 0, none⟩) 1 1 [⟨y1, y2, y3⟩] (by rfl) rfl (by simp) (fun _ => True) (rdf_one _ trivial (cells3 _ _ _ _ _) 1) (by omega) (by simp; omega) (by have := HD.out.g.sz; omega) ?_)
          intro p4 c4 w8 hown hg hat
          have HD5 := Lib.hid (HD.out.addL ha (M := L ++ [⟨y1, y2, y3⟩]) hown hg hat)
          obtain ⟨c90, c91, c92, c93, c94⟩ := HD5.out.g.cells
          have fB := frozen_of_row _ _ 3 _ _ HD5.out.g.ab
          clear hown hg hat HD
          refine hK.out _ _ (fun h => by cases h) (fun _ => ?_)
          clear hK Kz
          (try simp only [Act.put, List.setIfInBounds_toArray, List.set_cons_zero, List.set_cons_succ])
          refine anyU_ready (rs := [15]) (by kernel_rfl) (by simp) ?_
          refine EachU.cons (o := { dst := some 106, op := Op.fieldAddr 38 (Operand.tmp 7) 3, type := 0, pos := "make.go:537", after := #[{ on := 0, ground := Ground.phase }, { on := 1, ground := Ground.phase }, { on := 2, ground := Ground.phase }, { on := 3, ground := Ground.phase }, { on := 4, ground := Ground.phase }, { on := 5, ground := Ground.phase }, { on := 6, ground := Ground.phase }, { on := 7, ground := Ground.phase }, { on := 8, ground := Ground.phase }, { on := 9, ground := Ground.phase }, { on := 10, ground := Ground.phase }, { on := 11, ground := Ground.phase }, { on := 12, ground := Ground.phase }, { on := 13, ground := Ground.phase }, { on := 14, ground := Ground.phase }], guard := none }) rfl (fun Kz hK => ?_) EachU.nil
          go_simp
          refine hK.out _ _ (fun h => by cases h) (fun _ => ?_)
          clear hK Kz
          (try simp only [Act.put, List.setIfInBounds_toArray, List.set_cons_zero, List.set_cons_succ])
          refine anyU_ready (rs := [16]) (by kernel_rfl) (by simp) ?_
          refine EachU.cons (o := { dst := none, op := Op.store 35 (Operand.tmp 106) (Operand.tmp 105), type := 0, pos := "make.go:537", after := #[{ on := 15, ground := Ground.data }, { on := 14, ground := Ground.data }, { on := 14, ground := Ground.chain }, { on := 0, ground := Ground.phase }, { on := 1, ground := Ground.phase }, { on := 2, ground := Ground.phase }, { on := 3, ground := Ground.phase }, { on := 4, ground := Ground.phase }, { on := 5, ground := Ground.phase }, { on := 6, ground := Ground.phase }, { on := 7, ground := Ground.phase }, { on := 8, ground := Ground.phase }, { on := 9, ground := Ground.phase }, { on := 10, ground := Ground.phase }, { on := 11, ground := Ground.phase }, { on := 12, ground := Ground.phase }, { on := 13, ground := Ground.phase }, { on := 14, ground := Ground.phase }], guard := none }) rfl (fun Kz hK => ?_) EachU.nil
          go_simp
          refine hK.out _ _ (fun h => by cases h) (fun _ => ?_)
          clear hK Kz
          (try simp only [Act.put, List.setIfInBounds_toArray, List.set_cons_zero, List.set_cons_succ])
          refine anyU_done (by kernel_rfl) ?_ _
          have HN := Lib.hid (HD5.out.putL ha)
          clear HD5 hHeld c90 c91 c92 c93 c94 fB
          go_wp2_with fail
          go_meet
          exact ⟨_, _, _, _, _, _, Lib.hid ⟨HBAD.out _ _ _ _ (by first | omega | (rw [List.length_append]; simp; omega)) (by first | omega | (rw [List.length_append]; simp; omega)), HN.out⟩⟩
      · skip
        go_upto_region 23 with fail
        have HD := Lib.hid (H7.out.keep (grown_drew (grown_refl w6 none)))
        clear H7
        refine region_until (S := fun w' => Hid (w'.heap[B]? = some (.cells #[.int .i64 R, .int .i64 q, .bool cp, vL0, vC] 38 (0, 0)))) (fun j => j == 13 || j == 14 || j == 15) (by kernel_rfl) (Lib.hid HD.out.g.ab) (fun hHeld => ?_)
        focus
          refine anyU_take (i := 0) (oi := { dst := some 109, op := Op.fieldAddr 38 (Operand.tmp 7) 4, type := 0, pos := "make.go:539", after := #[], guard := none }) (v := ?_) rfl (by kernel_rfl) (by kernel_rfl) (by kernel_rfl) (by kernel_rfl) (by kernel_rfl) (fun _ _ _ h => h) (Or.inl ⟨by rfl, ?_⟩) hHeld ?_
          rotate_left 1
          · intro u hSu
            have q0 := (cell_of_row _ _ 4 _ _ _ hSu.out)
            go_simp
            first | done | with_reducible rfl
          (try simp only [Act.put, List.setIfInBounds_toArray, List.set_cons_zero, List.set_cons_succ])
          refine anyU_take (i := 1) (oi := { dst := some 110, op := Op.load 36 (Operand.tmp 109), type := 36, pos := "make.go:539", after := #[{ on := 0, ground := Ground.data }], guard := none }) (v := ?_) rfl (by kernel_rfl) (by kernel_rfl) (by kernel_rfl) (by kernel_rfl) (by kernel_rfl) (fun _ _ _ h => h) (Or.inl ⟨by rfl, ?_⟩) hHeld ?_
          rotate_left 1
          · intro u hSu
            have q0 := (cell_of_row _ _ 4 _ _ _ hSu.out)
            go_simp
            first | done | with_reducible rfl
          (try simp only [Act.put, List.setIfInBounds_toArray, List.set_cons_zero, List.set_cons_succ])
          refine anyU_take (i := 2) (oi := { dst := some 111, op := Op.move (Operand.tmp 0), type := 26, pos := "make.go:539", after := #[], guard := none }) (v := ?_) rfl (by kernel_rfl) (by kernel_rfl) (by kernel_rfl) (by kernel_rfl) (by kernel_rfl) (fun _ _ _ h => h) (Or.inl ⟨by rfl, ?_⟩) hHeld ?_
          rotate_left 1
          · intro u hSu
            have q0 := (cell_of_row _ _ 4 _ _ _ hSu.out)
            go_simp
            first | done | with_reducible rfl
          (try simp only [Act.put, List.setIfInBounds_toArray, List.set_cons_zero, List.set_cons_succ])
          refine anyU_take (i := 5) (oi := { dst := some 114, op := Op.move (Operand.tmp 0), type := 26, pos := "make.go:539", after := #[], guard := none }) (v := ?_) rfl (by kernel_rfl) (by kernel_rfl) (by kernel_rfl) (by kernel_rfl) (by kernel_rfl) (fun _ _ _ h => h) (Or.inl ⟨by rfl, ?_⟩) hHeld ?_
          rotate_left 1
          · intro u hSu
            have q0 := (cell_of_row _ _ 4 _ _ _ hSu.out)
            go_simp
            first | done | with_reducible rfl
          (try simp only [Act.put, List.setIfInBounds_toArray, List.set_cons_zero, List.set_cons_succ])
          refine anyU_take (i := 8) (oi := { dst := some 117, op := Op.move (Operand.tmp 0), type := 26, pos := "make.go:539", after := #[], guard := none }) (v := ?_) rfl (by kernel_rfl) (by kernel_rfl) (by kernel_rfl) (by kernel_rfl) (by kernel_rfl) (fun _ _ _ h => h) (Or.inl ⟨by rfl, ?_⟩) hHeld ?_
          rotate_left 1
          · intro u hSu
            have q0 := (cell_of_row _ _ 4 _ _ _ hSu.out)
            go_simp
            first | done | with_reducible rfl
          (try simp only [Act.put, List.setIfInBounds_toArray, List.set_cons_zero, List.set_cons_succ])
          refine anyU_ready (rs := [3, 6, 9]) (by kernel_rfl) (by simp) ?_
          refine EachU.cons (o := { dst := some 112, op := Op.buildSlice 22 4 #[(0, Operand.const (Value.int IntKind.i64 (-1))), (1, Operand.const (Value.int IntKind.i64 0)), (2, Operand.const (Value.int IntKind.i64 7)), (3, Operand.const (Value.int IntKind.i64 8))], type := 22, pos := "make.go:539", after := #[], guard := none }) rfl (fun Kz hK => ?_) (EachU.cons (o := { dst := some 115, op := Op.buildSlice 22 4 #[(0, Operand.const (Value.int IntKind.i64 0)), (1, Operand.const (Value.int IntKind.i64 1)), (2, Operand.const (Value.int IntKind.i64 256)), (3, Operand.const (Value.int IntKind.i64 257))], type := 22, pos := "make.go:539", after := #[], guard := none }) rfl (fun Kz hK => ?_) (EachU.cons (o := { dst := some 118, op := Op.buildSlice 22 4 #[(0, Operand.const (Value.int IntKind.i64 0)), (1, Operand.const (Value.int IntKind.i64 8)), (2, Operand.const (Value.int IntKind.i64 9)), (3, Operand.const (Value.int IntKind.i64 64))], type := 22, pos := "make.go:539", after := #[], guard := none }) rfl (fun Kz hK => ?_) EachU.nil))
        focus
          go_simp
          have HMN := Lib.hid (HD.out.ints [-1, 0, 7, 8] #[.int .i64 (-1), .int .i64 0, .int .i64 7, .int .i64 8] (by intro x hx; simp at hx; unfold I64; omega) rfl)
          have HDn := Lib.hid (HD.out.keep (World.grownBy_alloc _ (.cells #[.int .i64 (-1), .int .i64 0, .int .i64 7, .int .i64 8] 3) none))
          try replace HM1 := Lib.hid (show ∀ p, p = _ → _ from fun p hp => (HM1.out p hp).keepA (World.grownBy_alloc _ (.cells #[.int .i64 (-1), .int .i64 0, .int .i64 7, .int .i64 8] 3) none) (by simp))
          try replace HM2 := Lib.hid (show ∀ p, p = _ → _ from fun p hp => (HM2.out p hp).keepA (World.grownBy_alloc _ (.cells #[.int .i64 (-1), .int .i64 0, .int .i64 7, .int .i64 8] 3) none) (by simp))
          try replace HM3 := Lib.hid (show ∀ p, p = _ → _ from fun p hp => (HM3.out p hp).keepA (World.grownBy_alloc _ (.cells #[.int .i64 (-1), .int .i64 0, .int .i64 7, .int .i64 8] 3) none) (by simp))
          have HM1 := HMN
          clear HMN HD
          have HD := HDn
          clear HDn
          refine hK.out _ _ (fun _ => Lib.hid HD.out.g.ab) (fun hH2 => ?_)
          clear hK Kz hHeld
          have hHeld := hH2 rfl
          clear hH2
          (try simp only [Act.put, List.setIfInBounds_toArray, List.set_cons_zero, List.set_cons_succ])
          refine anyU_ready (rs := [4, 6, 9]) (by kernel_rfl) (by simp) ?_
          refine EachU.cons (o := { dst := some 113, op := Op.call { callee := Callee.value (Operand.func 46), args := #[Operand.tmp 111, Operand.tmp 112], argTypes := #[26, 22] }, type := 3, pos := "make.go:539", after := #[{ on := 2, ground := Ground.data }, { on := 3, ground := Ground.data }], guard := none }) rfl (fun Kz hK => ?_) (EachU.cons (o := { dst := some 115, op := Op.buildSlice 22 4 #[(0, Operand.const (Value.int IntKind.i64 0)), (1, Operand.const (Value.int IntKind.i64 1)), (2, Operand.const (Value.int IntKind.i64 256)), (3, Operand.const (Value.int IntKind.i64 257))], type := 22, pos := "make.go:539", after := #[], guard := none }) rfl (fun Kz hK => ?_) (EachU.cons (o := { dst := some 118, op := Op.buildSlice 22 4 #[(0, Operand.const (Value.int IntKind.i64 0)), (1, Operand.const (Value.int IntKind.i64 8)), (2, Operand.const (Value.int IntKind.i64 9)), (3, Operand.const (Value.int IntKind.i64 64))], type := 22, pos := "make.go:539", after := #[], guard := none }) rfl (fun Kz hK => ?_) EachU.nil))
        focus
          go_simp
          go_at_call 46
          refine (pick_any I64 a _ 0 4 4 (by omega) (by omega) _ HD.out.st.2 (HM1.out _ (by first | rfl | simp))).mono ?_
          rintro e w5 ⟨y1, rfl, -, hs⟩
          try replace HM1 := Lib.hid (show ∀ p, p = _ → _ from fun p hp => (HM1.out p hp).keepA hs.1 (fun e => (HM1.out p hp).1 (Option.some.inj e)))
          try replace HM2 := Lib.hid (show ∀ p, p = _ → _ from fun p hp => (HM2.out p hp).keepA hs.1 (fun e => (HM2.out p hp).1 (Option.some.inj e)))
          try replace HM3 := Lib.hid (show ∀ p, p = _ → _ from fun p hp => (HM3.out p hp).keepA hs.1 (fun e => (HM3.out p hp).1 (Option.some.inj e)))
          have HDn := Lib.hid (HD.out.tape ha hs)
          clear hs HD
          have HD := HDn
          clear HDn
          refine hK.out _ _ (fun _ => Lib.hid HD.out.g.ab) (fun hH2 => ?_)
          clear hK Kz hHeld
          have hHeld := hH2 rfl
          clear hH2
          (try simp only [Act.put, List.setIfInBounds_toArray, List.set_cons_zero, List.set_cons_succ])
          refine anyU_ready (rs := [6, 9]) (by kernel_rfl) (by simp) ?_
          refine EachU.cons (o := { dst := some 115, op := Op.buildSlice 22 4 #[(0, Operand.const (Value.int IntKind.i64 0)), (1, Operand.const (Value.int IntKind.i64 1)), (2, Operand.const (Value.int IntKind.i64 256)), (3, Operand.const (Value.int IntKind.i64 257))], type := 22, pos := "make.go:539", after := #[], guard := none }) rfl (fun Kz hK => ?_) (EachU.cons (o := { dst := some 118, op := Op.buildSlice 22 4 #[(0, Operand.const (Value.int IntKind.i64 0)), (1, Operand.const (Value.int IntKind.i64 8)), (2, Operand.const (Value.int IntKind.i64 9)), (3, Operand.const (Value.int IntKind.i64 64))], type := 22, pos := "make.go:539", after := #[], guard := none }) rfl (fun Kz hK => ?_) EachU.nil)
        focus
          go_simp
          have HMN := Lib.hid (HD.out.ints [0, 1, 256, 257] #[.int .i64 0, .int .i64 1, .int .i64 256, .int .i64 257] (by intro x hx; simp at hx; unfold I64; omega) rfl)
          have HDn := Lib.hid (HD.out.keep (World.grownBy_alloc _ (.cells #[.int .i64 0, .int .i64 1, .int .i64 256, .int .i64 257] 3) none))
          try replace HM1 := Lib.hid (show ∀ p, p = _ → _ from fun p hp => (HM1.out p hp).keepA (World.grownBy_alloc _ (.cells #[.int .i64 0, .int .i64 1, .int .i64 256, .int .i64 257] 3) none) (by simp))
          try replace HM2 := Lib.hid (show ∀ p, p = _ → _ from fun p hp => (HM2.out p hp).keepA (World.grownBy_alloc _ (.cells #[.int .i64 0, .int .i64 1, .int .i64 256, .int .i64 257] 3) none) (by simp))
          try replace HM3 := Lib.hid (show ∀ p, p = _ → _ from fun p hp => (HM3.out p hp).keepA (World.grownBy_alloc _ (.cells #[.int .i64 0, .int .i64 1, .int .i64 256, .int .i64 257] 3) none) (by simp))
          have HM2 := HMN
          clear HMN HD
          have HD := HDn
          clear HDn
          refine hK.out _ _ (fun _ => Lib.hid HD.out.g.ab) (fun hH2 => ?_)
          clear hK Kz hHeld
          have hHeld := hH2 rfl
          clear hH2
          (try simp only [Act.put, List.setIfInBounds_toArray, List.set_cons_zero, List.set_cons_succ])
          refine anyU_ready (rs := [7, 9]) (by kernel_rfl) (by simp) ?_
          refine EachU.cons (o := { dst := some 116, op := Op.call { callee := Callee.value (Operand.func 46), args := #[Operand.tmp 114, Operand.tmp 115], argTypes := #[26, 22] }, type := 3, pos := "make.go:539", after := #[{ on := 5, ground := Ground.data }, { on := 6, ground := Ground.data }, { on := 4, ground := Ground.chain }], guard := none }) rfl (fun Kz hK => ?_) (EachU.cons (o := { dst := some 118, op := Op.buildSlice 22 4 #[(0, Operand.const (Value.int IntKind.i64 0)), (1, Operand.const (Value.int IntKind.i64 8)), (2, Operand.const (Value.int IntKind.i64 9)), (3, Operand.const (Value.int IntKind.i64 64))], type := 22, pos := "make.go:539", after := #[], guard := none }) rfl (fun Kz hK => ?_) EachU.nil)
        focus
          go_simp
          go_at_call 46
          refine (pick_any I64 a _ 0 4 4 (by omega) (by omega) _ HD.out.st.2 (HM2.out _ (by first | rfl | simp))).mono ?_
          rintro e w5 ⟨y2, rfl, -, hs⟩
          try replace HM1 := Lib.hid (show ∀ p, p = _ → _ from fun p hp => (HM1.out p hp).keepA hs.1 (fun e => (HM1.out p hp).1 (Option.some.inj e)))
          try replace HM2 := Lib.hid (show ∀ p, p = _ → _ from fun p hp => (HM2.out p hp).keepA hs.1 (fun e => (HM2.out p hp).1 (Option.some.inj e)))
          try replace HM3 := Lib.hid (show ∀ p, p = _ → _ from fun p hp => (HM3.out p hp).keepA hs.1 (fun e => (HM3.out p hp).1 (Option.some.inj e)))
          have HDn := Lib.hid (HD.out.tape ha hs)
          clear hs HD
          have HD := HDn
          clear HDn
          refine hK.out _ _ (fun _ => Lib.hid HD.out.g.ab) (fun hH2 => ?_)
          clear hK Kz hHeld
          have hHeld := hH2 rfl
          clear hH2
          (try simp only [Act.put, List.setIfInBounds_toArray, List.set_cons_zero, List.set_cons_succ])
          refine anyU_ready (rs := [9]) (by kernel_rfl) (by simp) ?_
          refine EachU.cons (o := { dst := some 118, op := Op.buildSlice 22 4 #[(0, Operand.const (Value.int IntKind.i64 0)), (1, Operand.const (Value.int IntKind.i64 8)), (2, Operand.const (Value.int IntKind.i64 9)), (3, Operand.const (Value.int IntKind.i64 64))], type := 22, pos := "make.go:539", after := #[], guard := none }) rfl (fun Kz hK => ?_) EachU.nil
          go_simp
          have HMN := Lib.hid (HD.out.ints [0, 8, 9, 64] #[.int .i64 0, .int .i64 8, .int .i64 9, .int .i64 64] (by intro x hx; simp at hx; unfold I64; omega) rfl)
          have HDn := Lib.hid (HD.out.keep (World.grownBy_alloc _ (.cells #[.int .i64 0, .int .i64 8, .int .i64 9, .int .i64 64] 3) none))
          try replace HM1 := Lib.hid (show ∀ p, p = _ → _ from fun p hp => (HM1.out p hp).keepA (World.grownBy_alloc _ (.cells #[.int .i64 0, .int .i64 8, .int .i64 9, .int .i64 64] 3) none) (by simp))
          try replace HM2 := Lib.hid (show ∀ p, p = _ → _ from fun p hp => (HM2.out p hp).keepA (World.grownBy_alloc _ (.cells #[.int .i64 0, .int .i64 8, .int .i64 9, .int .i64 64] 3) none) (by simp))
          try replace HM3 := Lib.hid (show ∀ p, p = _ → _ from fun p hp => (HM3.out p hp).keepA (World.grownBy_alloc _ (.cells #[.int .i64 0, .int .i64 8, .int .i64 9, .int .i64 64] 3) none) (by simp))
          have HM3 := HMN
          clear HMN HD
          have HD := HDn
          clear HDn
          refine hK.out _ _ (fun _ => Lib.hid HD.out.g.ab) (fun hH2 => ?_)
          clear hK Kz hHeld
          have hHeld := hH2 rfl
          clear hH2
          (try simp only [Act.put, List.setIfInBounds_toArray, List.set_cons_zero, List.set_cons_succ])
          refine anyU_ready (rs := [10]) (by kernel_rfl) (by simp) ?_
          refine EachU.cons (o := { dst := some 119, op := Op.call { callee := Callee.value (Operand.func 46), args := #[Operand.tmp 117, Operand.tmp 118], argTypes := #[26, 22] }, type := 3, pos := "make.go:539", after := #[{ on := 8, ground := Ground.data }, { on := 9, ground := Ground.data }, { on := 7, ground := Ground.chain }], guard := none }) rfl (fun Kz hK => ?_) EachU.nil
          go_simp
          go_at_call 46
          refine (pick_any I64 a _ 0 4 4 (by omega) (by omega) _ HD.out.st.2 (HM3.out _ (by first | rfl | simp))).mono ?_
          rintro e w5 ⟨y3, rfl, -, hs⟩
          try replace HM1 := Lib.hid (show ∀ p, p = _ → _ from fun p hp => (HM1.out p hp).keepA hs.1 (fun e => (HM1.out p hp).1 (Option.some.inj e)))
          try replace HM2 := Lib.hid (show ∀ p, p = _ → _ from fun p hp => (HM2.out p hp).keepA hs.1 (fun e => (HM2.out p hp).1 (Option.some.inj e)))
          try replace HM3 := Lib.hid (show ∀ p, p = _ → _ from fun p hp => (HM3.out p hp).keepA hs.1 (fun e => (HM3.out p hp).1 (Option.some.inj e)))
          have HDn := Lib.hid (HD.out.tape ha hs)
          clear hs HD
          have HD := HDn
          clear HDn
          refine hK.out _ _ (fun _ => Lib.hid HD.out.g.ab) (fun hH2 => ?_)
          clear hK Kz hHeld
          have hHeld := hH2 rfl
          clear hH2
          (try simp only [Act.put, List.setIfInBounds_toArray, List.set_cons_zero, List.set_cons_succ])
        rotate_left 1
        focus
          go_simp
          have HMN := Lib.hid (HD.out.ints [0, 8, 9, 64] #[.int .i64 0, .int .i64 8, .int .i64 9, .int .i64 64] (by intro x hx; simp at hx; unfold I64; omega) rfl)
          have HDn := Lib.hid (HD.out.keep (World.grownBy_alloc _ (.cells #[.int .i64 0, .int .i64 8, .int .i64 9, .int .i64 64] 3) none))
          try replace HM1 := Lib.hid (show ∀ p, p = _ → _ from fun p hp => (HM1.out p hp).keepA (World.grownBy_alloc _ (.cells #[.int .i64 0, .int .i64 8, .int .i64 9, .int .i64 64] 3) none) (by simp))
          try replace HM2 := Lib.hid (show ∀ p, p = _ → _ from fun p hp => (HM2.out p hp).keepA (World.grownBy_alloc _ (.cells #[.int .i64 0, .int .i64 8, .int .i64 9, .int .i64 64] 3) none) (by simp))
          try replace HM3 := Lib.hid (show ∀ p, p = _ → _ from fun p hp => (HM3.out p hp).keepA (World.grownBy_alloc _ (.cells #[.int .i64 0, .int .i64 8, .int .i64 9, .int .i64 64] 3) none) (by simp))
          have HM3 := HMN
          clear HMN HD
          have HD := HDn
          clear HDn
          refine hK.out _ _ (fun _ => Lib.hid HD.out.g.ab) (fun hH2 => ?_)
          clear hK Kz hHeld
          have hHeld := hH2 rfl
          clear hH2
          (try simp only [Act.put, List.setIfInBounds_toArray, List.set_cons_zero, List.set_cons_succ])
          refine anyU_ready (rs := [7]) (by kernel_rfl) (by simp) ?_
          refine EachU.cons (o := { dst := some 116, op := Op.call { callee := Callee.value (Operand.func 46), args := #[Operand.tmp 114, Operand.tmp 115], argTypes := #[26, 22] }, type := 3, pos := "make.go:539", after := #[{ on := 5, ground := Ground.data }, { on := 6, ground := Ground.data }, { on := 4, ground := Ground.chain }], guard := none }) rfl (fun Kz hK => ?_) EachU.nil
          go_simp
          go_at_call 46
          refine (pick_any I64 a _ 0 4 4 (by omega) (by omega) _ HD.out.st.2 (HM2.out _ (by first | rfl | simp))).mono ?_
          rintro e w5 ⟨y2, rfl, -, hs⟩
          try replace HM1 := Lib.hid (show ∀ p, p = _ → _ from fun p hp => (HM1.out p hp).keepA hs.1 (fun e => (HM1.out p hp).1 (Option.some.inj e)))
          try replace HM2 := Lib.hid (show ∀ p, p = _ → _ from fun p hp => (HM2.out p hp).keepA hs.1 (fun e => (HM2.out p hp).1 (Option.some.inj e)))
          try replace HM3 := Lib.hid (show ∀ p, p = _ → _ from fun p hp => (HM3.out p hp).keepA hs.1 (fun e => (HM3.out p hp).1 (Option.some.inj e)))
          have HDn := Lib.hid (HD.out.tape ha hs)
          clear hs HD
          have HD := HDn
          clear HDn
          refine hK.out _ _ (fun _ => Lib.hid HD.out.g.ab) (fun hH2 => ?_)
          clear hK Kz hHeld
          have hHeld := hH2 rfl
          clear hH2
          (try simp only [Act.put, List.setIfInBounds_toArray, List.set_cons_zero, List.set_cons_succ])
          refine anyU_ready (rs := [10]) (by kernel_rfl) (by simp) ?_
          refine EachU.cons (o := { dst := some 119, op := Op.call { callee := Callee.value (Operand.func 46), args := #[Operand.tmp 117, Operand.tmp 118], argTypes := #[26, 22] }, type := 3, pos := "make.go:539", after := #[{ on := 8, ground := Ground.data }, { on := 9, ground := Ground.data }, { on := 7, ground := Ground.chain }], guard := none }) rfl (fun Kz hK => ?_) EachU.nil
          go_simp
          go_at_call 46
          refine (pick_any I64 a _ 0 4 4 (by omega) (by omega) _ HD.out.st.2 (HM3.out _ (by first | rfl | simp))).mono ?_
          rintro e w5 ⟨y3, rfl, -, hs⟩
          try replace HM1 := Lib.hid (show ∀ p, p = _ → _ from fun p hp => (HM1.out p hp).keepA hs.1 (fun e => (HM1.out p hp).1 (Option.some.inj e)))
          try replace HM2 := Lib.hid (show ∀ p, p = _ → _ from fun p hp => (HM2.out p hp).keepA hs.1 (fun e => (HM2.out p hp).1 (Option.some.inj e)))
          try replace HM3 := Lib.hid (show ∀ p, p = _ → _ from fun p hp => (HM3.out p hp).keepA hs.1 (fun e => (HM3.out p hp).1 (Option.some.inj e)))
          have HDn := Lib.hid (HD.out.tape ha hs)
          clear hs HD
          have HD := HDn
          clear HDn
          refine hK.out _ _ (fun _ => Lib.hid HD.out.g.ab) (fun hH2 => ?_)
          clear hK Kz hHeld
          have hHeld := hH2 rfl
          clear hH2
          (try simp only [Act.put, List.setIfInBounds_toArray, List.set_cons_zero, List.set_cons_succ])
        rotate_left 1
        focus
          go_simp
          have HMN := Lib.hid (HD.out.ints [0, 8, 9, 64] #[.int .i64 0, .int .i64 8, .int .i64 9, .int .i64 64] (by intro x hx; simp at hx; unfold I64; omega) rfl)
          have HDn := Lib.hid (HD.out.keep (World.grownBy_alloc _ (.cells #[.int .i64 0, .int .i64 8, .int .i64 9, .int .i64 64] 3) none))
          try replace HM1 := Lib.hid (show ∀ p, p = _ → _ from fun p hp => (HM1.out p hp).keepA (World.grownBy_alloc _ (.cells #[.int .i64 0, .int .i64 8, .int .i64 9, .int .i64 64] 3) none) (by simp))
          try replace HM2 := Lib.hid (show ∀ p, p = _ → _ from fun p hp => (HM2.out p hp).keepA (World.grownBy_alloc _ (.cells #[.int .i64 0, .int .i64 8, .int .i64 9, .int .i64 64] 3) none) (by simp))
          try replace HM3 := Lib.hid (show ∀ p, p = _ → _ from fun p hp => (HM3.out p hp).keepA (World.grownBy_alloc _ (.cells #[.int .i64 0, .int .i64 8, .int .i64 9, .int .i64 64] 3) none) (by simp))
          have HM3 := HMN
          clear HMN HD
          have HD := HDn
          clear HDn
          refine hK.out _ _ (fun _ => Lib.hid HD.out.g.ab) (fun hH2 => ?_)
          clear hK Kz hHeld
          have hHeld := hH2 rfl
          clear hH2
          (try simp only [Act.put, List.setIfInBounds_toArray, List.set_cons_zero, List.set_cons_succ])
          refine anyU_ready (rs := [6]) (by kernel_rfl) (by simp) ?_
          refine EachU.cons (o := { dst := some 115, op := Op.buildSlice 22 4 #[(0, Operand.const (Value.int IntKind.i64 0)), (1, Operand.const (Value.int IntKind.i64 1)), (2, Operand.const (Value.int IntKind.i64 256)), (3, Operand.const (Value.int IntKind.i64 257))], type := 22, pos := "make.go:539", after := #[], guard := none }) rfl (fun Kz hK => ?_) EachU.nil
          go_simp
          have HMN := Lib.hid (HD.out.ints [0, 1, 256, 257] #[.int .i64 0, .int .i64 1, .int .i64 256, .int .i64 257] (by intro x hx; simp at hx; unfold I64; omega) rfl)
          have HDn := Lib.hid (HD.out.keep (World.grownBy_alloc _ (.cells #[.int .i64 0, .int .i64 1, .int .i64 256, .int .i64 257] 3) none))
          try replace HM1 := Lib.hid (show ∀ p, p = _ → _ from fun p hp => (HM1.out p hp).keepA (World.grownBy_alloc _ (.cells #[.int .i64 0, .int .i64 1, .int .i64 256, .int .i64 257] 3) none) (by simp))
          try replace HM2 := Lib.hid (show ∀ p, p = _ → _ from fun p hp => (HM2.out p hp).keepA (World.grownBy_alloc _ (.cells #[.int .i64 0, .int .i64 1, .int .i64 256, .int .i64 257] 3) none) (by simp))
          try replace HM3 := Lib.hid (show ∀ p, p = _ → _ from fun p hp => (HM3.out p hp).keepA (World.grownBy_alloc _ (.cells #[.int .i64 0, .int .i64 1, .int .i64 256, .int .i64 257] 3) none) (by simp))
          have HM2 := HMN
          clear HMN HD
          have HD := HDn
          clear HDn
          refine hK.out _ _ (fun _ => Lib.hid HD.out.g.ab) (fun hH2 => ?_)
          clear hK Kz hHeld
          have hHeld := hH2 rfl
          clear hH2
          (try simp only [Act.put, List.setIfInBounds_toArray, List.set_cons_zero, List.set_cons_succ])
          refine anyU_ready (rs := [7]) (by kernel_rfl) (by simp) ?_
          refine EachU.cons (o := { dst := some 116, op := Op.call { callee := Callee.value (Operand.func 46), args := #[Operand.tmp 114, Operand.tmp 115], argTypes := #[26, 22] }, type := 3, pos := "make.go:539", after := #[{ on := 5, ground := Ground.data }, { on := 6, ground := Ground.data }, { on := 4, ground := Ground.chain }], guard := none }) rfl (fun Kz hK => ?_) EachU.nil
          go_simp
          go_at_call 46
          refine (pick_any I64 a _ 0 4 4 (by omega) (by omega) _ HD.out.st.2 (HM2.out _ (by first | rfl | simp))).mono ?_
          rintro e w5 ⟨y2, rfl, -, hs⟩
          try replace HM1 := Lib.hid (show ∀ p, p = _ → _ from fun p hp => (HM1.out p hp).keepA hs.1 (fun e => (HM1.out p hp).1 (Option.some.inj e)))
          try replace HM2 := Lib.hid (show ∀ p, p = _ → _ from fun p hp => (HM2.out p hp).keepA hs.1 (fun e => (HM2.out p hp).1 (Option.some.inj e)))
          try replace HM3 := Lib.hid (show ∀ p, p = _ → _ from fun p hp => (HM3.out p hp).keepA hs.1 (fun e => (HM3.out p hp).1 (Option.some.inj e)))
          have HDn := Lib.hid (HD.out.tape ha hs)
          clear hs HD
          have HD := HDn
          clear HDn
          refine hK.out _ _ (fun _ => Lib.hid HD.out.g.ab) (fun hH2 => ?_)
          clear hK Kz hHeld
          have hHeld := hH2 rfl
          clear hH2
          (try simp only [Act.put, List.setIfInBounds_toArray, List.set_cons_zero, List.set_cons_succ])
          refine anyU_ready (rs := [10]) (by kernel_rfl) (by simp) ?_
          refine EachU.cons (o := { dst := some 119, op := Op.call { callee := Callee.value (Operand.func 46), args := #[Operand.tmp 117, Operand.tmp 118], argTypes := #[26, 22] }, type := 3, pos := "make.go:539", after := #[{ on := 8, ground := Ground.data }, { on := 9, ground := Ground.data }, { on := 7, ground := Ground.chain }], guard := none }) rfl (fun Kz hK => ?_) EachU.nil
          go_simp
          go_at_call 46
          refine (pick_any I64 a _ 0 4 4 (by omega) (by omega) _ HD.out.st.2 (HM3.out _ (by first | rfl | simp))).mono ?_
          rintro e w5 ⟨y3, rfl, -, hs⟩
          try replace HM1 := Lib.hid (show ∀ p, p = _ → _ from fun p hp => (HM1.out p hp).keepA hs.1 (fun e => (HM1.out p hp).1 (Option.some.inj e)))
          try replace HM2 := Lib.hid (show ∀ p, p = _ → _ from fun p hp => (HM2.out p hp).keepA hs.1 (fun e => (HM2.out p hp).1 (Option.some.inj e)))
          try replace HM3 := Lib.hid (show ∀ p, p = _ → _ from fun p hp => (HM3.out p hp).keepA hs.1 (fun e => (HM3.out p hp).1 (Option.some.inj e)))
          have HDn := Lib.hid (HD.out.tape ha hs)
          clear hs HD
          have HD := HDn
          clear HDn
          refine hK.out _ _ (fun _ => Lib.hid HD.out.g.ab) (fun hH2 => ?_)
          clear hK Kz hHeld
          have hHeld := hH2 rfl
          clear hH2
          (try simp only [Act.put, List.setIfInBounds_toArray, List.set_cons_zero, List.set_cons_succ])
        rotate_left 1
        focus
          go_simp
          have HMN := Lib.hid (HD.out.ints [0, 1, 256, 257] #[.int .i64 0, .int .i64 1, .int .i64 256, .int .i64 257] (by intro x hx; simp at hx; unfold I64; omega) rfl)
          have HDn := Lib.hid (HD.out.keep (World.grownBy_alloc _ (.cells #[.int .i64 0, .int .i64 1, .int .i64 256, .int .i64 257] 3) none))
          try replace HM1 := Lib.hid (show ∀ p, p = _ → _ from fun p hp => (HM1.out p hp).keepA (World.grownBy_alloc _ (.cells #[.int .i64 0, .int .i64 1, .int .i64 256, .int .i64 257] 3) none) (by simp))
          try replace HM2 := Lib.hid (show ∀ p, p = _ → _ from fun p hp => (HM2.out p hp).keepA (World.grownBy_alloc _ (.cells #[.int .i64 0, .int .i64 1, .int .i64 256, .int .i64 257] 3) none) (by simp))
          try replace HM3 := Lib.hid (show ∀ p, p = _ → _ from fun p hp => (HM3.out p hp).keepA (World.grownBy_alloc _ (.cells #[.int .i64 0, .int .i64 1, .int .i64 256, .int .i64 257] 3) none) (by simp))
          have HM2 := HMN
          clear HMN HD
          have HD := HDn
          clear HDn
          refine hK.out _ _ (fun _ => Lib.hid HD.out.g.ab) (fun hH2 => ?_)
          clear hK Kz hHeld
          have hHeld := hH2 rfl
          clear hH2
          (try simp only [Act.put, List.setIfInBounds_toArray, List.set_cons_zero, List.set_cons_succ])
          refine anyU_ready (rs := [4, 9]) (by kernel_rfl) (by simp) ?_
          refine EachU.cons (o := { dst := some 113, op := Op.call { callee := Callee.value (Operand.func 46), args := #[Operand.tmp 111, Operand.tmp 112], argTypes := #[26, 22] }, type := 3, pos := "make.go:539", after := #[{ on := 2, ground := Ground.data }, { on := 3, ground := Ground.data }], guard := none }) rfl (fun Kz hK => ?_) (EachU.cons (o := { dst := some 118, op := Op.buildSlice 22 4 #[(0, Operand.const (Value.int IntKind.i64 0)), (1, Operand.const (Value.int IntKind.i64 8)), (2, Operand.const (Value.int IntKind.i64 9)), (3, Operand.const (Value.int IntKind.i64 64))], type := 22, pos := "make.go:539", after := #[], guard := none }) rfl (fun Kz hK => ?_) EachU.nil)
        focus
          go_simp
          go_at_call 46
          refine (pick_any I64 a _ 0 4 4 (by omega) (by omega) _ HD.out.st.2 (HM1.out _ (by first | rfl | simp))).mono ?_
          rintro e w5 ⟨y1, rfl, -, hs⟩
          try replace HM1 := Lib.hid (show ∀ p, p = _ → _ from fun p hp => (HM1.out p hp).keepA hs.1 (fun e => (HM1.out p hp).1 (Option.some.inj e)))
          try replace HM2 := Lib.hid (show ∀ p, p = _ → _ from fun p hp => (HM2.out p hp).keepA hs.1 (fun e => (HM2.out p hp).1 (Option.some.inj e)))
          try replace HM3 := Lib.hid (show ∀ p, p = _ → _ from fun p hp => (HM3.out p hp).keepA hs.1 (fun e => (HM3.out p hp).1 (Option.some.inj e)))
          have HDn := Lib.hid (HD.out.tape ha hs)
          clear hs HD
          have HD := HDn
          clear HDn
          refine hK.out _ _ (fun _ => Lib.hid HD.out.g.ab) (fun hH2 => ?_)
          clear hK Kz hHeld
          have hHeld := hH2 rfl
          clear hH2
          (try simp only [Act.put, List.setIfInBounds_toArray, List.set_cons_zero, List.set_cons_succ])
          refine anyU_ready (rs := [7, 9]) (by kernel_rfl) (by simp) ?_
          refine EachU.cons (o := { dst := some 116, op := Op.call { callee := Callee.value (Operand.func 46), args := #[Operand.tmp 114, Operand.tmp 115], argTypes := #[26, 22] }, type := 3, pos := "make.go:539", after := #[{ on := 5, ground := Ground.data }, { on := 6, ground := Ground.data }, { on := 4, ground := Ground.chain }], guard := none }) rfl (fun Kz hK => ?_) (EachU.cons (o := { dst := some 118, op := Op.buildSlice 22 4 #[(0, Operand.const (Value.int IntKind.i64 0)), (1, Operand.const (Value.int IntKind.i64 8)), (2, Operand.const (Value.int IntKind.i64 9)), (3, Operand.const (Value.int IntKind.i64 64))], type := 22, pos := "make.go:539", after := #[], guard := none }) rfl (fun Kz hK => ?_) EachU.nil)
        focus
          go_simp
          go_at_call 46
          refine (pick_any I64 a _ 0 4 4 (by omega) (by omega) _ HD.out.st.2 (HM2.out _ (by first | rfl | simp))).mono ?_
          rintro e w5 ⟨y2, rfl, -, hs⟩
          try replace HM1 := Lib.hid (show ∀ p, p = _ → _ from fun p hp => (HM1.out p hp).keepA hs.1 (fun e => (HM1.out p hp).1 (Option.some.inj e)))
          try replace HM2 := Lib.hid (show ∀ p, p = _ → _ from fun p hp => (HM2.out p hp).keepA hs.1 (fun e => (HM2.out p hp).1 (Option.some.inj e)))
          try replace HM3 := Lib.hid (show ∀ p, p = _ → _ from fun p hp => (HM3.out p hp).keepA hs.1 (fun e => (HM3.out p hp).1 (Option.some.inj e)))
          have HDn := Lib.hid (HD.out.tape ha hs)
          clear hs HD
          have HD := HDn
          clear HDn
          refine hK.out _ _ (fun _ => Lib.hid HD.out.g.ab) (fun hH2 => ?_)
          clear hK Kz hHeld
          have hHeld := hH2 rfl
          clear hH2
          (try simp only [Act.put, List.setIfInBounds_toArray, List.set_cons_zero, List.set_cons_succ])
          refine anyU_ready (rs := [9]) (by kernel_rfl) (by simp) ?_
          refine EachU.cons (o := { dst := some 118, op := Op.buildSlice 22 4 #[(0, Operand.const (Value.int IntKind.i64 0)), (1, Operand.const (Value.int IntKind.i64 8)), (2, Operand.const (Value.int IntKind.i64 9)), (3, Operand.const (Value.int IntKind.i64 64))], type := 22, pos := "make.go:539", after := #[], guard := none }) rfl (fun Kz hK => ?_) EachU.nil
          go_simp
          have HMN := Lib.hid (HD.out.ints [0, 8, 9, 64] #[.int .i64 0, .int .i64 8, .int .i64 9, .int .i64 64] (by intro x hx; simp at hx; unfold I64; omega) rfl)
          have HDn := Lib.hid (HD.out.keep (World.grownBy_alloc _ (.cells #[.int .i64 0, .int .i64 8, .int .i64 9, .int .i64 64] 3) none))
          try replace HM1 := Lib.hid (show ∀ p, p = _ → _ from fun p hp => (HM1.out p hp).keepA (World.grownBy_alloc _ (.cells #[.int .i64 0, .int .i64 8, .int .i64 9, .int .i64 64] 3) none) (by simp))
          try replace HM2 := Lib.hid (show ∀ p, p = _ → _ from fun p hp => (HM2.out p hp).keepA (World.grownBy_alloc _ (.cells #[.int .i64 0, .int .i64 8, .int .i64 9, .int .i64 64] 3) none) (by simp))
          try replace HM3 := Lib.hid (show ∀ p, p = _ → _ from fun p hp => (HM3.out p hp).keepA (World.grownBy_alloc _ (.cells #[.int .i64 0, .int .i64 8, .int .i64 9, .int .i64 64] 3) none) (by simp))
          have HM3 := HMN
          clear HMN HD
          have HD := HDn
          clear HDn
          refine hK.out _ _ (fun _ => Lib.hid HD.out.g.ab) (fun hH2 => ?_)
          clear hK Kz hHeld
          have hHeld := hH2 rfl
          clear hH2
          (try simp only [Act.put, List.setIfInBounds_toArray, List.set_cons_zero, List.set_cons_succ])
          refine anyU_ready (rs := [10]) (by kernel_rfl) (by simp) ?_
          refine EachU.cons (o := { dst := some 119, op := Op.call { callee := Callee.value (Operand.func 46), args := #[Operand.tmp 117, Operand.tmp 118], argTypes := #[26, 22] }, type := 3, pos := "make.go:539", after := #[{ on := 8, ground := Ground.data }, { on := 9, ground := Ground.data }, { on := 7, ground := Ground.chain }], guard := none }) rfl (fun Kz hK => ?_) EachU.nil
          go_simp
          go_at_call 46
          refine (pick_any I64 a _ 0 4 4 (by omega) (by omega) _ HD.out.st.2 (HM3.out _ (by first | rfl | simp))).mono ?_
          rintro e w5 ⟨y3, rfl, -, hs⟩
          try replace HM1 := Lib.hid (show ∀ p, p = _ → _ from fun p hp => (HM1.out p hp).keepA hs.1 (fun e => (HM1.out p hp).1 (Option.some.inj e)))
          try replace HM2 := Lib.hid (show ∀ p, p = _ → _ from fun p hp => (HM2.out p hp).keepA hs.1 (fun e => (HM2.out p hp).1 (Option.some.inj e)))
          try replace HM3 := Lib.hid (show ∀ p, p = _ → _ from fun p hp => (HM3.out p hp).keepA hs.1 (fun e => (HM3.out p hp).1 (Option.some.inj e)))
          have HDn := Lib.hid (HD.out.tape ha hs)
          clear hs HD
          have HD := HDn
          clear HDn
          refine hK.out _ _ (fun _ => Lib.hid HD.out.g.ab) (fun hH2 => ?_)
          clear hK Kz hHeld
          have hHeld := hH2 rfl
          clear hH2
          (try simp only [Act.put, List.setIfInBounds_toArray, List.set_cons_zero, List.set_cons_succ])
        rotate_left 1
        focus
          go_simp
          have HMN := Lib.hid (HD.out.ints [0, 8, 9, 64] #[.int .i64 0, .int .i64 8, .int .i64 9, .int .i64 64] (by intro x hx; simp at hx; unfold I64; omega) rfl)
          have HDn := Lib.hid (HD.out.keep (World.grownBy_alloc _ (.cells #[.int .i64 0, .int .i64 8, .int .i64 9, .int .i64 64] 3) none))
          try replace HM1 := Lib.hid (show ∀ p, p = _ → _ from fun p hp => (HM1.out p hp).keepA (World.grownBy_alloc _ (.cells #[.int .i64 0, .int .i64 8, .int .i64 9, .int .i64 64] 3) none) (by simp))
          try replace HM2 := Lib.hid (show ∀ p, p = _ → _ from fun p hp => (HM2.out p hp).keepA (World.grownBy_alloc _ (.cells #[.int .i64 0, .int .i64 8, .int .i64 9, .int .i64 64] 3) none) (by simp))
          try replace HM3 := Lib.hid (show ∀ p, p = _ → _ from fun p hp => (HM3.out p hp).keepA (World.grownBy_alloc _ (.cells #[.int .i64 0, .int .i64 8, .int .i64 9, .int .i64 64] 3) none) (by simp))
          have HM3 := HMN
          clear HMN HD
          have HD := HDn
          clear HDn
          refine hK.out _ _ (fun _ => Lib.hid HD.out.g.ab) (fun hH2 => ?_)
          clear hK Kz hHeld
          have hHeld := hH2 rfl
          clear hH2
          (try simp only [Act.put, List.setIfInBounds_toArray, List.set_cons_zero, List.set_cons_succ])
          refine anyU_ready (rs := [7]) (by kernel_rfl) (by simp) ?_
          refine EachU.cons (o := { dst := some 116, op := Op.call { callee := Callee.value (Operand.func 46), args := #[Operand.tmp 114, Operand.tmp 115], argTypes := #[26, 22] }, type := 3, pos := "make.go:539", after := #[{ on := 5, ground := Ground.data }, { on := 6, ground := Ground.data }, { on := 4, ground := Ground.chain }], guard := none }) rfl (fun Kz hK => ?_) EachU.nil
          go_simp
          go_at_call 46
          refine (pick_any I64 a _ 0 4 4 (by omega) (by omega) _ HD.out.st.2 (HM2.out _ (by first | rfl | simp))).mono ?_
          rintro e w5 ⟨y2, rfl, -, hs⟩
          try replace HM1 := Lib.hid (show ∀ p, p = _ → _ from fun p hp => (HM1.out p hp).keepA hs.1 (fun e => (HM1.out p hp).1 (Option.some.inj e)))
          try replace HM2 := Lib.hid (show ∀ p, p = _ → _ from fun p hp => (HM2.out p hp).keepA hs.1 (fun e => (HM2.out p hp).1 (Option.some.inj e)))
          try replace HM3 := Lib.hid (show ∀ p, p = _ → _ from fun p hp => (HM3.out p hp).keepA hs.1 (fun e => (HM3.out p hp).1 (Option.some.inj e)))
          have HDn := Lib.hid (HD.out.tape ha hs)
          clear hs HD
          have HD := HDn
          clear HDn
          refine hK.out _ _ (fun _ => Lib.hid HD.out.g.ab) (fun hH2 => ?_)
          clear hK Kz hHeld
          have hHeld := hH2 rfl
          clear hH2
          (try simp only [Act.put, List.setIfInBounds_toArray, List.set_cons_zero, List.set_cons_succ])
          refine anyU_ready (rs := [10]) (by kernel_rfl) (by simp) ?_
          refine EachU.cons (o := { dst := some 119, op := Op.call { callee := Callee.value (Operand.func 46), args := #[Operand.tmp 117, Operand.tmp 118], argTypes := #[26, 22] }, type := 3, pos := "make.go:539", after := #[{ on := 8, ground := Ground.data }, { on := 9, ground := Ground.data }, { on := 7, ground := Ground.chain }], guard := none }) rfl (fun Kz hK => ?_) EachU.nil
          go_simp
          go_at_call 46
          refine (pick_any I64 a _ 0 4 4 (by omega) (by omega) _ HD.out.st.2 (HM3.out _ (by first | rfl | simp))).mono ?_
          rintro e w5 ⟨y3, rfl, -, hs⟩
          try replace HM1 := Lib.hid (show ∀ p, p = _ → _ from fun p hp => (HM1.out p hp).keepA hs.1 (fun e => (HM1.out p hp).1 (Option.some.inj e)))
          try replace HM2 := Lib.hid (show ∀ p, p = _ → _ from fun p hp => (HM2.out p hp).keepA hs.1 (fun e => (HM2.out p hp).1 (Option.some.inj e)))
          try replace HM3 := Lib.hid (show ∀ p, p = _ → _ from fun p hp => (HM3.out p hp).keepA hs.1 (fun e => (HM3.out p hp).1 (Option.some.inj e)))
          have HDn := Lib.hid (HD.out.tape ha hs)
          clear hs HD
          have HD := HDn
          clear HDn
          refine hK.out _ _ (fun _ => Lib.hid HD.out.g.ab) (fun hH2 => ?_)
          clear hK Kz hHeld
          have hHeld := hH2 rfl
          clear hH2
          (try simp only [Act.put, List.setIfInBounds_toArray, List.set_cons_zero, List.set_cons_succ])
        rotate_left 1
        focus
          go_simp
          have HMN := Lib.hid (HD.out.ints [0, 8, 9, 64] #[.int .i64 0, .int .i64 8, .int .i64 9, .int .i64 64] (by intro x hx; simp at hx; unfold I64; omega) rfl)
          have HDn := Lib.hid (HD.out.keep (World.grownBy_alloc _ (.cells #[.int .i64 0, .int .i64 8, .int .i64 9, .int .i64 64] 3) none))
          try replace HM1 := Lib.hid (show ∀ p, p = _ → _ from fun p hp => (HM1.out p hp).keepA (World.grownBy_alloc _ (.cells #[.int .i64 0, .int .i64 8, .int .i64 9, .int .i64 64] 3) none) (by simp))
          try replace HM2 := Lib.hid (show ∀ p, p = _ → _ from fun p hp => (HM2.out p hp).keepA (World.grownBy_alloc _ (.cells #[.int .i64 0, .int .i64 8, .int .i64 9, .int .i64 64] 3) none) (by simp))
          try replace HM3 := Lib.hid (show ∀ p, p = _ → _ from fun p hp => (HM3.out p hp).keepA (World.grownBy_alloc _ (.cells #[.int .i64 0, .int .i64 8, .int .i64 9, .int .i64 64] 3) none) (by simp))
          have HM3 := HMN
          clear HMN HD
          have HD := HDn
          clear HDn
          refine hK.out _ _ (fun _ => Lib.hid HD.out.g.ab) (fun hH2 => ?_)
          clear hK Kz hHeld
          have hHeld := hH2 rfl
          clear hH2
          (try simp only [Act.put, List.setIfInBounds_toArray, List.set_cons_zero, List.set_cons_succ])
          refine anyU_ready (rs := [4]) (by kernel_rfl) (by simp) ?_
          refine EachU.cons (o := { dst := some 113, op := Op.call { callee := Callee.value (Operand.func 46), args := #[Operand.tmp 111, Operand.tmp 112], argTypes := #[26, 22] }, type := 3, pos := "make.go:539", after := #[{ on := 2, ground := Ground.data }, { on := 3, ground := Ground.data }], guard := none }) rfl (fun Kz hK => ?_) EachU.nil
          go_simp
          go_at_call 46
          refine (pick_any I64 a _ 0 4 4 (by omega) (by omega) _ HD.out.st.2 (HM1.out _ (by first | rfl | simp))).mono ?_
          rintro e w5 ⟨y1, rfl, -, hs⟩
          try replace HM1 := Lib.hid (show ∀ p, p = _ → _ from fun p hp => (HM1.out p hp).keepA hs.1 (fun e => (HM1.out p hp).1 (Option.some.inj e)))
          try replace HM2 := Lib.hid (show ∀ p, p = _ → _ from fun p hp => (HM2.out p hp).keepA hs.1 (fun e => (HM2.out p hp).1 (Option.some.inj e)))
          try replace HM3 := Lib.hid (show ∀ p, p = _ → _ from fun p hp => (HM3.out p hp).keepA hs.1 (fun e => (HM3.out p hp).1 (Option.some.inj e)))
          have HDn := Lib.hid (HD.out.tape ha hs)
          clear hs HD
          have HD := HDn
          clear HDn
          refine hK.out _ _ (fun _ => Lib.hid HD.out.g.ab) (fun hH2 => ?_)
          clear hK Kz hHeld
          have hHeld := hH2 rfl
          clear hH2
          (try simp only [Act.put, List.setIfInBounds_toArray, List.set_cons_zero, List.set_cons_succ])
          refine anyU_ready (rs := [7]) (by kernel_rfl) (by simp) ?_
          refine EachU.cons (o := { dst := some 116, op := Op.call { callee := Callee.value (Operand.func 46), args := #[Operand.tmp 114, Operand.tmp 115], argTypes := #[26, 22] }, type := 3, pos := "make.go:539", after := #[{ on := 5, ground := Ground.data }, { on := 6, ground := Ground.data }, { on := 4, ground := Ground.chain }], guard := none }) rfl (fun Kz hK => ?_) EachU.nil
          go_simp
          go_at_call 46
          refine (pick_any I64 a _ 0 4 4 (by omega) (by omega) _ HD.out.st.2 (HM2.out _ (by first | rfl | simp))).mono ?_
          rintro e w5 ⟨y2, rfl, -, hs⟩
          try replace HM1 := Lib.hid (show ∀ p, p = _ → _ from fun p hp => (HM1.out p hp).keepA hs.1 (fun e => (HM1.out p hp).1 (Option.some.inj e)))
          try replace HM2 := Lib.hid (show ∀ p, p = _ → _ from fun p hp => (HM2.out p hp).keepA hs.1 (fun e => (HM2.out p hp).1 (Option.some.inj e)))
          try replace HM3 := Lib.hid (show ∀ p, p = _ → _ from fun p hp => (HM3.out p hp).keepA hs.1 (fun e => (HM3.out p hp).1 (Option.some.inj e)))
          have HDn := Lib.hid (HD.out.tape ha hs)
          clear hs HD
          have HD := HDn
          clear HDn
          refine hK.out _ _ (fun _ => Lib.hid HD.out.g.ab) (fun hH2 => ?_)
          clear hK Kz hHeld
          have hHeld := hH2 rfl
          clear hH2
          (try simp only [Act.put, List.setIfInBounds_toArray, List.set_cons_zero, List.set_cons_succ])
          refine anyU_ready (rs := [10]) (by kernel_rfl) (by simp) ?_
          refine EachU.cons (o := { dst := some 119, op := Op.call { callee := Callee.value (Operand.func 46), args := #[Operand.tmp 117, Operand.tmp 118], argTypes := #[26, 22] }, type := 3, pos := "make.go:539", after := #[{ on := 8, ground := Ground.data }, { on := 9, ground := Ground.data }, { on := 7, ground := Ground.chain }], guard := none }) rfl (fun Kz hK => ?_) EachU.nil
          go_simp
          go_at_call 46
          refine (pick_any I64 a _ 0 4 4 (by omega) (by omega) _ HD.out.st.2 (HM3.out _ (by first | rfl | simp))).mono ?_
          rintro e w5 ⟨y3, rfl, -, hs⟩
          try replace HM1 := Lib.hid (show ∀ p, p = _ → _ from fun p hp => (HM1.out p hp).keepA hs.1 (fun e => (HM1.out p hp).1 (Option.some.inj e)))
          try replace HM2 := Lib.hid (show ∀ p, p = _ → _ from fun p hp => (HM2.out p hp).keepA hs.1 (fun e => (HM2.out p hp).1 (Option.some.inj e)))
          try replace HM3 := Lib.hid (show ∀ p, p = _ → _ from fun p hp => (HM3.out p hp).keepA hs.1 (fun e => (HM3.out p hp).1 (Option.some.inj e)))
          have HDn := Lib.hid (HD.out.tape ha hs)
          clear hs HD
          have HD := HDn
          clear HDn
          refine hK.out _ _ (fun _ => Lib.hid HD.out.g.ab) (fun hH2 => ?_)
          clear hK Kz hHeld
          have hHeld := hH2 rfl
          clear hH2
          (try simp only [Act.put, List.setIfInBounds_toArray, List.set_cons_zero, List.set_cons_succ])
        rotate_left 1
        focus
          go_simp
          have HMN := Lib.hid (HD.out.ints [0, 8, 9, 64] #[.int .i64 0, .int .i64 8, .int .i64 9, .int .i64 64] (by intro x hx; simp at hx; unfold I64; omega) rfl)
          have HDn := Lib.hid (HD.out.keep (World.grownBy_alloc _ (.cells #[.int .i64 0, .int .i64 8, .int .i64 9, .int .i64 64] 3) none))
          try replace HM1 := Lib.hid (show ∀ p, p = _ → _ from fun p hp => (HM1.out p hp).keepA (World.grownBy_alloc _ (.cells #[.int .i64 0, .int .i64 8, .int .i64 9, .int .i64 64] 3) none) (by simp))
          try replace HM2 := Lib.hid (show ∀ p, p = _ → _ from fun p hp => (HM2.out p hp).keepA (World.grownBy_alloc _ (.cells #[.int .i64 0, .int .i64 8, .int .i64 9, .int .i64 64] 3) none) (by simp))
          try replace HM3 := Lib.hid (show ∀ p, p = _ → _ from fun p hp => (HM3.out p hp).keepA (World.grownBy_alloc _ (.cells #[.int .i64 0, .int .i64 8, .int .i64 9, .int .i64 64] 3) none) (by simp))
          have HM3 := HMN
          clear HMN HD
          have HD := HDn
          clear HDn
          refine hK.out _ _ (fun _ => Lib.hid HD.out.g.ab) (fun hH2 => ?_)
          clear hK Kz hHeld
          have hHeld := hH2 rfl
          clear hH2
          (try simp only [Act.put, List.setIfInBounds_toArray, List.set_cons_zero, List.set_cons_succ])
          refine anyU_ready (rs := [4, 6]) (by kernel_rfl) (by simp) ?_
          refine EachU.cons (o := { dst := some 113, op := Op.call { callee := Callee.value (Operand.func 46), args := #[Operand.tmp 111, Operand.tmp 112], argTypes := #[26, 22] }, type := 3, pos := "make.go:539", after := #[{ on := 2, ground := Ground.data }, { on := 3, ground := Ground.data }], guard := none }) rfl (fun Kz hK => ?_) (EachU.cons (o := { dst := some 115, op := Op.buildSlice 22 4 #[(0, Operand.const (Value.int IntKind.i64 0)), (1, Operand.const (Value.int IntKind.i64 1)), (2, Operand.const (Value.int IntKind.i64 256)), (3, Operand.const (Value.int IntKind.i64 257))], type := 22, pos := "make.go:539", after := #[], guard := none }) rfl (fun Kz hK => ?_) EachU.nil)
        focus
          go_simp
          go_at_call 46
          refine (pick_any I64 a _ 0 4 4 (by omega) (by omega) _ HD.out.st.2 (HM1.out _ (by first | rfl | simp))).mono ?_
          rintro e w5 ⟨y1, rfl, -, hs⟩
          try replace HM1 := Lib.hid (show ∀ p, p = _ → _ from fun p hp => (HM1.out p hp).keepA hs.1 (fun e => (HM1.out p hp).1 (Option.some.inj e)))
          try replace HM2 := Lib.hid (show ∀ p, p = _ → _ from fun p hp => (HM2.out p hp).keepA hs.1 (fun e => (HM2.out p hp).1 (Option.some.inj e)))
          try replace HM3 := Lib.hid (show ∀ p, p = _ → _ from fun p hp => (HM3.out p hp).keepA hs.1 (fun e => (HM3.out p hp).1 (Option.some.inj e)))
          have HDn := Lib.hid (HD.out.tape ha hs)
          clear hs HD
          have HD := HDn
          clear HDn
          refine hK.out _ _ (fun _ => Lib.hid HD.out.g.ab) (fun hH2 => ?_)
          clear hK Kz hHeld
          have hHeld := hH2 rfl
          clear hH2
          (try simp only [Act.put, List.setIfInBounds_toArray, List.set_cons_zero, List.set_cons_succ])
          refine anyU_ready (rs := [6]) (by kernel_rfl) (by simp) ?_
          refine EachU.cons (o := { dst := some 115, op := Op.buildSlice 22 4 #[(0, Operand.const (Value.int IntKind.i64 0)), (1, Operand.const (Value.int IntKind.i64 1)), (2, Operand.const (Value.int IntKind.i64 256)), (3, Operand.const (Value.int IntKind.i64 257))], type := 22, pos := "make.go:539", after := #[], guard := none }) rfl (fun Kz hK => ?_) EachU.nil
          go_simp
          have HMN := Lib.hid (HD.out.ints [0, 1, 256, 257] #[.int .i64 0, .int .i64 1, .int .i64 256, .int .i64 257] (by intro x hx; simp at hx; unfold I64; omega) rfl)
          have HDn := Lib.hid (HD.out.keep (World.grownBy_alloc _ (.cells #[.int .i64 0, .int .i64 1, .int .i64 256, .int .i64 257] 3) none))
          try replace HM1 := Lib.hid (show ∀ p, p = _ → _ from fun p hp => (HM1.out p hp).keepA (World.grownBy_alloc _ (.cells #[.int .i64 0, .int .i64 1, .int .i64 256, .int .i64 257] 3) none) (by simp))
          try replace HM2 := Lib.hid (show ∀ p, p = _ → _ from fun p hp => (HM2.out p hp).keepA (World.grownBy_alloc _ (.cells #[.int .i64 0, .int .i64 1, .int .i64 256, .int .i64 257] 3) none) (by simp))
          try replace HM3 := Lib.hid (show ∀ p, p = _ → _ from fun p hp => (HM3.out p hp).keepA (World.grownBy_alloc _ (.cells #[.int .i64 0, .int .i64 1, .int .i64 256, .int .i64 257] 3) none) (by simp))
          have HM2 := HMN
          clear HMN HD
          have HD := HDn
          clear HDn
          refine hK.out _ _ (fun _ => Lib.hid HD.out.g.ab) (fun hH2 => ?_)
          clear hK Kz hHeld
          have hHeld := hH2 rfl
          clear hH2
          (try simp only [Act.put, List.setIfInBounds_toArray, List.set_cons_zero, List.set_cons_succ])
          refine anyU_ready (rs := [7]) (by kernel_rfl) (by simp) ?_
          refine EachU.cons (o := { dst := some 116, op := Op.call { callee := Callee.value (Operand.func 46), args := #[Operand.tmp 114, Operand.tmp 115], argTypes := #[26, 22] }, type := 3, pos := "make.go:539", after := #[{ on := 5, ground := Ground.data }, { on := 6, ground := Ground.data }, { on := 4, ground := Ground.chain }], guard := none }) rfl (fun Kz hK => ?_) EachU.nil
          go_simp
          go_at_call 46
          refine (pick_any I64 a _ 0 4 4 (by omega) (by omega) _ HD.out.st.2 (HM2.out _ (by first | rfl | simp))).mono ?_
          rintro e w5 ⟨y2, rfl, -, hs⟩
          try replace HM1 := Lib.hid (show ∀ p, p = _ → _ from fun p hp => (HM1.out p hp).keepA hs.1 (fun e => (HM1.out p hp).1 (Option.some.inj e)))
          try replace HM2 := Lib.hid (show ∀ p, p = _ → _ from fun p hp => (HM2.out p hp).keepA hs.1 (fun e => (HM2.out p hp).1 (Option.some.inj e)))
          try replace HM3 := Lib.hid (show ∀ p, p = _ → _ from fun p hp => (HM3.out p hp).keepA hs.1 (fun e => (HM3.out p hp).1 (Option.some.inj e)))
          have HDn := Lib.hid (HD.out.tape ha hs)
          clear hs HD
          have HD := HDn
          clear HDn
          refine hK.out _ _ (fun _ => Lib.hid HD.out.g.ab) (fun hH2 => ?_)
          clear hK Kz hHeld
          have hHeld := hH2 rfl
          clear hH2
          (try simp only [Act.put, List.setIfInBounds_toArray, List.set_cons_zero, List.set_cons_succ])
          refine anyU_ready (rs := [10]) (by kernel_rfl) (by simp) ?_
          refine EachU.cons (o := { dst := some 119, op := Op.call { callee := Callee.value (Operand.func 46), args := #[Operand.tmp 117, Operand.tmp 118], argTypes := #[26, 22] }, type := 3, pos := "make.go:539", after := #[{ on := 8, ground := Ground.data }, { on := 9, ground := Ground.data }, { on := 7, ground := Ground.chain }], guard := none }) rfl (fun Kz hK => ?_) EachU.nil
          go_simp
          go_at_call 46
          refine (pick_any I64 a _ 0 4 4 (by omega) (by omega) _ HD.out.st.2 (HM3.out _ (by first | rfl | simp))).mono ?_
          rintro e w5 ⟨y3, rfl, -, hs⟩
          try replace HM1 := Lib.hid (show ∀ p, p = _ → _ from fun p hp => (HM1.out p hp).keepA hs.1 (fun e => (HM1.out p hp).1 (Option.some.inj e)))
          try replace HM2 := Lib.hid (show ∀ p, p = _ → _ from fun p hp => (HM2.out p hp).keepA hs.1 (fun e => (HM2.out p hp).1 (Option.some.inj e)))
          try replace HM3 := Lib.hid (show ∀ p, p = _ → _ from fun p hp => (HM3.out p hp).keepA hs.1 (fun e => (HM3.out p hp).1 (Option.some.inj e)))
          have HDn := Lib.hid (HD.out.tape ha hs)
          clear hs HD
          have HD := HDn
          clear HDn
          refine hK.out _ _ (fun _ => Lib.hid HD.out.g.ab) (fun hH2 => ?_)
          clear hK Kz hHeld
          have hHeld := hH2 rfl
          clear hH2
          (try simp only [Act.put, List.setIfInBounds_toArray, List.set_cons_zero, List.set_cons_succ])
        rotate_left 1
        focus
          go_simp
          have HMN := Lib.hid (HD.out.ints [0, 1, 256, 257] #[.int .i64 0, .int .i64 1, .int .i64 256, .int .i64 257] (by intro x hx; simp at hx; unfold I64; omega) rfl)
          have HDn := Lib.hid (HD.out.keep (World.grownBy_alloc _ (.cells #[.int .i64 0, .int .i64 1, .int .i64 256, .int .i64 257] 3) none))
          try replace HM1 := Lib.hid (show ∀ p, p = _ → _ from fun p hp => (HM1.out p hp).keepA (World.grownBy_alloc _ (.cells #[.int .i64 0, .int .i64 1, .int .i64 256, .int .i64 257] 3) none) (by simp))
          try replace HM2 := Lib.hid (show ∀ p, p = _ → _ from fun p hp => (HM2.out p hp).keepA (World.grownBy_alloc _ (.cells #[.int .i64 0, .int .i64 1, .int .i64 256, .int .i64 257] 3) none) (by simp))
          try replace HM3 := Lib.hid (show ∀ p, p = _ → _ from fun p hp => (HM3.out p hp).keepA (World.grownBy_alloc _ (.cells #[.int .i64 0, .int .i64 1, .int .i64 256, .int .i64 257] 3) none) (by simp))
          have HM2 := HMN
          clear HMN HD
          have HD := HDn
          clear HDn
          refine hK.out _ _ (fun _ => Lib.hid HD.out.g.ab) (fun hH2 => ?_)
          clear hK Kz hHeld
          have hHeld := hH2 rfl
          clear hH2
          (try simp only [Act.put, List.setIfInBounds_toArray, List.set_cons_zero, List.set_cons_succ])
          refine anyU_ready (rs := [4]) (by kernel_rfl) (by simp) ?_
          refine EachU.cons (o := { dst := some 113, op := Op.call { callee := Callee.value (Operand.func 46), args := #[Operand.tmp 111, Operand.tmp 112], argTypes := #[26, 22] }, type := 3, pos := "make.go:539", after := #[{ on := 2, ground := Ground.data }, { on := 3, ground := Ground.data }], guard := none }) rfl (fun Kz hK => ?_) EachU.nil
          go_simp
          go_at_call 46
          refine (pick_any I64 a _ 0 4 4 (by omega) (by omega) _ HD.out.st.2 (HM1.out _ (by first | rfl | simp))).mono ?_
          rintro e w5 ⟨y1, rfl, -, hs⟩
          try replace HM1 := Lib.hid (show ∀ p, p = _ → _ from fun p hp => (HM1.out p hp).keepA hs.1 (fun e => (HM1.out p hp).1 (Option.some.inj e)))
          try replace HM2 := Lib.hid (show ∀ p, p = _ → _ from fun p hp => (HM2.out p hp).keepA hs.1 (fun e => (HM2.out p hp).1 (Option.some.inj e)))
          try replace HM3 := Lib.hid (show ∀ p, p = _ → _ from fun p hp => (HM3.out p hp).keepA hs.1 (fun e => (HM3.out p hp).1 (Option.some.inj e)))
          have HDn := Lib.hid (HD.out.tape ha hs)
          clear hs HD
          have HD := HDn
          clear HDn
          refine hK.out _ _ (fun _ => Lib.hid HD.out.g.ab) (fun hH2 => ?_)
          clear hK Kz hHeld
          have hHeld := hH2 rfl
          clear hH2
          (try simp only [Act.put, List.setIfInBounds_toArray, List.set_cons_zero, List.set_cons_succ])
          refine anyU_ready (rs := [7]) (by kernel_rfl) (by simp) ?_
          refine EachU.cons (o := { dst := some 116, op := Op.call { callee := Callee.value (Operand.func 46), args := #[Operand.tmp 114, Operand.tmp 115], argTypes := #[26, 22] }, type := 3, pos := "make.go:539", after := #[{ on := 5, ground := Ground.data }, { on := 6, ground := Ground.data }, { on := 4, ground := Ground.chain }], guard := none }) rfl (fun Kz hK => ?_) EachU.nil
          go_simp
          go_at_call 46
          refine (pick_any I64 a _ 0 4 4 (by omega) (by omega) _ HD.out.st.2 (HM2.out _ (by first | rfl | simp))).mono ?_
          rintro e w5 ⟨y2, rfl, -, hs⟩
          try replace HM1 := Lib.hid (show ∀ p, p = _ → _ from fun p hp => (HM1.out p hp).keepA hs.1 (fun e => (HM1.out p hp).1 (Option.some.inj e)))
          try replace HM2 := Lib.hid (show ∀ p, p = _ → _ from fun p hp => (HM2.out p hp).keepA hs.1 (fun e => (HM2.out p hp).1 (Option.some.inj e)))
          try replace HM3 := Lib.hid (show ∀ p, p = _ → _ from fun p hp => (HM3.out p hp).keepA hs.1 (fun e => (HM3.out p hp).1 (Option.some.inj e)))
          have HDn := Lib.hid (HD.out.tape ha hs)
          clear hs HD
          have HD := HDn
          clear HDn
          refine hK.out _ _ (fun _ => Lib.hid HD.out.g.ab) (fun hH2 => ?_)
          clear hK Kz hHeld
          have hHeld := hH2 rfl
          clear hH2
          (try simp only [Act.put, List.setIfInBounds_toArray, List.set_cons_zero, List.set_cons_succ])
          refine anyU_ready (rs := [10]) (by kernel_rfl) (by simp) ?_
          refine EachU.cons (o := { dst := some 119, op := Op.call { callee := Callee.value (Operand.func 46), args := #[Operand.tmp 117, Operand.tmp 118], argTypes := #[26, 22] }, type := 3, pos := "make.go:539", after := #[{ on := 8, ground := Ground.data }, { on := 9, ground := Ground.data }, { on := 7, ground := Ground.chain }], guard := none }) rfl (fun Kz hK => ?_) EachU.nil
          go_simp
          go_at_call 46
          refine (pick_any I64 a _ 0 4 4 (by omega) (by omega) _ HD.out.st.2 (HM3.out _ (by first | rfl | simp))).mono ?_
          rintro e w5 ⟨y3, rfl, -, hs⟩
          try replace HM1 := Lib.hid (show ∀ p, p = _ → _ from fun p hp => (HM1.out p hp).keepA hs.1 (fun e => (HM1.out p hp).1 (Option.some.inj e)))
          try replace HM2 := Lib.hid (show ∀ p, p = _ → _ from fun p hp => (HM2.out p hp).keepA hs.1 (fun e => (HM2.out p hp).1 (Option.some.inj e)))
          try replace HM3 := Lib.hid (show ∀ p, p = _ → _ from fun p hp => (HM3.out p hp).keepA hs.1 (fun e => (HM3.out p hp).1 (Option.some.inj e)))
          have HDn := Lib.hid (HD.out.tape ha hs)
          clear hs HD
          have HD := HDn
          clear HDn
          refine hK.out _ _ (fun _ => Lib.hid HD.out.g.ab) (fun hH2 => ?_)
          clear hK Kz hHeld
          have hHeld := hH2 rfl
          clear hH2
          (try simp only [Act.put, List.setIfInBounds_toArray, List.set_cons_zero, List.set_cons_succ])
        rotate_left 1
        focus
          go_simp
          have HMN := Lib.hid (HD.out.ints [0, 1, 256, 257] #[.int .i64 0, .int .i64 1, .int .i64 256, .int .i64 257] (by intro x hx; simp at hx; unfold I64; omega) rfl)
          have HDn := Lib.hid (HD.out.keep (World.grownBy_alloc _ (.cells #[.int .i64 0, .int .i64 1, .int .i64 256, .int .i64 257] 3) none))
          try replace HM1 := Lib.hid (show ∀ p, p = _ → _ from fun p hp => (HM1.out p hp).keepA (World.grownBy_alloc _ (.cells #[.int .i64 0, .int .i64 1, .int .i64 256, .int .i64 257] 3) none) (by simp))
          try replace HM2 := Lib.hid (show ∀ p, p = _ → _ from fun p hp => (HM2.out p hp).keepA (World.grownBy_alloc _ (.cells #[.int .i64 0, .int .i64 1, .int .i64 256, .int .i64 257] 3) none) (by simp))
          try replace HM3 := Lib.hid (show ∀ p, p = _ → _ from fun p hp => (HM3.out p hp).keepA (World.grownBy_alloc _ (.cells #[.int .i64 0, .int .i64 1, .int .i64 256, .int .i64 257] 3) none) (by simp))
          have HM2 := HMN
          clear HMN HD
          have HD := HDn
          clear HDn
          refine hK.out _ _ (fun _ => Lib.hid HD.out.g.ab) (fun hH2 => ?_)
          clear hK Kz hHeld
          have hHeld := hH2 rfl
          clear hH2
          (try simp only [Act.put, List.setIfInBounds_toArray, List.set_cons_zero, List.set_cons_succ])
          refine anyU_ready (rs := [3, 9]) (by kernel_rfl) (by simp) ?_
          refine EachU.cons (o := { dst := some 112, op := Op.buildSlice 22 4 #[(0, Operand.const (Value.int IntKind.i64 (-1))), (1, Operand.const (Value.int IntKind.i64 0)), (2, Operand.const (Value.int IntKind.i64 7)), (3, Operand.const (Value.int IntKind.i64 8))], type := 22, pos := "make.go:539", after := #[], guard := none }) rfl (fun Kz hK => ?_) (EachU.cons (o := { dst := some 118, op := Op.buildSlice 22 4 #[(0, Operand.const (Value.int IntKind.i64 0)), (1, Operand.const (Value.int IntKind.i64 8)), (2, Operand.const (Value.int IntKind.i64 9)), (3, Operand.const (Value.int IntKind.i64 64))], type := 22, pos := "make.go:539", after := #[], guard := none }) rfl (fun Kz hK => ?_) EachU.nil)
        focus
          go_simp
          have HMN := Lib.hid (HD.out.ints [-1, 0, 7, 8] #[.int .i64 (-1), .int .i64 0, .int .i64 7, .int .i64 8] (by intro x hx; simp at hx; unfold I64; omega) rfl)
          have HDn := Lib.hid (HD.out.keep (World.grownBy_alloc _ (.cells #[.int .i64 (-1), .int .i64 0, .int .i64 7, .int .i64 8] 3) none))
          try replace HM1 := Lib.hid (show ∀ p, p = _ → _ from fun p hp => (HM1.out p hp).keepA (World.grownBy_alloc _ (.cells #[.int .i64 (-1), .int .i64 0, .int .i64 7, .int .i64 8] 3) none) (by simp))
          try replace HM2 := Lib.hid (show ∀ p, p = _ → _ from fun p hp => (HM2.out p hp).keepA (World.grownBy_alloc _ (.cells #[.int .i64 (-1), .int .i64 0, .int .i64 7, .int .i64 8] 3) none) (by simp))
          try replace HM3 := Lib.hid (show ∀ p, p = _ → _ from fun p hp => (HM3.out p hp).keepA (World.grownBy_alloc _ (.cells #[.int .i64 (-1), .int .i64 0, .int .i64 7, .int .i64 8] 3) none) (by simp))
          have HM1 := HMN
          clear HMN HD
          have HD := HDn
          clear HDn
          refine hK.out _ _ (fun _ => Lib.hid HD.out.g.ab) (fun hH2 => ?_)
          clear hK Kz hHeld
          have hHeld := hH2 rfl
          clear hH2
          (try simp only [Act.put, List.setIfInBounds_toArray, List.set_cons_zero, List.set_cons_succ])
          refine anyU_ready (rs := [4, 9]) (by kernel_rfl) (by simp) ?_
          refine EachU.cons (o := { dst := some 113, op := Op.call { callee := Callee.value (Operand.func 46), args := #[Operand.tmp 111, Operand.tmp 112], argTypes := #[26, 22] }, type := 3, pos := "make.go:539", after := #[{ on := 2, ground := Ground.data }, { on := 3, ground := Ground.data }], guard := none }) rfl (fun Kz hK => ?_) (EachU.cons (o := { dst := some 118, op := Op.buildSlice 22 4 #[(0, Operand.const (Value.int IntKind.i64 0)), (1, Operand.const (Value.int IntKind.i64 8)), (2, Operand.const (Value.int IntKind.i64 9)), (3, Operand.const (Value.int IntKind.i64 64))], type := 22, pos := "make.go:539", after := #[], guard := none }) rfl (fun Kz hK => ?_) EachU.nil)
        focus
          go_simp
          go_at_call 46
          refine (pick_any I64 a _ 0 4 4 (by omega) (by omega) _ HD.out.st.2 (HM1.out _ (by first | rfl | simp))).mono ?_
          rintro e w5 ⟨y1, rfl, -, hs⟩
          try replace HM1 := Lib.hid (show ∀ p, p = _ → _ from fun p hp => (HM1.out p hp).keepA hs.1 (fun e => (HM1.out p hp).1 (Option.some.inj e)))
          try replace HM2 := Lib.hid (show ∀ p, p = _ → _ from fun p hp => (HM2.out p hp).keepA hs.1 (fun e => (HM2.out p hp).1 (Option.some.inj e)))
          try replace HM3 := Lib.hid (show ∀ p, p = _ → _ from fun p hp => (HM3.out p hp).keepA hs.1 (fun e => (HM3.out p hp).1 (Option.some.inj e)))
          have HDn := Lib.hid (HD.out.tape ha hs)
          clear hs HD
          have HD := HDn
          clear HDn
          refine hK.out _ _ (fun _ => Lib.hid HD.out.g.ab) (fun hH2 => ?_)
          clear hK Kz hHeld
          have hHeld := hH2 rfl
          clear hH2
          (try simp only [Act.put, List.setIfInBounds_toArray, List.set_cons_zero, List.set_cons_succ])
          refine anyU_ready (rs := [7, 9]) (by kernel_rfl) (by simp) ?_
          refine EachU.cons (o := { dst := some 116, op := Op.call { callee := Callee.value (Operand.func 46), args := #[Operand.tmp 114, Operand.tmp 115], argTypes := #[26, 22] }, type := 3, pos := "make.go:539", after := #[{ on := 5, ground := Ground.data }, { on := 6, ground := Ground.data }, { on := 4, ground := Ground.chain }], guard := none }) rfl (fun Kz hK => ?_) (EachU.cons (o := { dst := some 118, op := Op.buildSlice 22 4 #[(0, Operand.const (Value.int IntKind.i64 0)), (1, Operand.const (Value.int IntKind.i64 8)), (2, Operand.const (Value.int IntKind.i64 9)), (3, Operand.const (Value.int IntKind.i64 64))], type := 22, pos := "make.go:539", after := #[], guard := none }) rfl (fun Kz hK => ?_) EachU.nil)
        focus
          go_simp
          go_at_call 46
          refine (pick_any I64 a _ 0 4 4 (by omega) (by omega) _ HD.out.st.2 (HM2.out _ (by first | rfl | simp))).mono ?_
          rintro e w5 ⟨y2, rfl, -, hs⟩
          try replace HM1 := Lib.hid (show ∀ p, p = _ → _ from fun p hp => (HM1.out p hp).keepA hs.1 (fun e => (HM1.out p hp).1 (Option.some.inj e)))
          try replace HM2 := Lib.hid (show ∀ p, p = _ → _ from fun p hp => (HM2.out p hp).keepA hs.1 (fun e => (HM2.out p hp).1 (Option.some.inj e)))
          try replace HM3 := Lib.hid (show ∀ p, p = _ → _ from fun p hp => (HM3.out p hp).keepA hs.1 (fun e => (HM3.out p hp).1 (Option.some.inj e)))
          have HDn := Lib.hid (HD.out.tape ha hs)
          clear hs HD
          have HD := HDn
          clear HDn
          refine hK.out _ _ (fun _ => Lib.hid HD.out.g.ab) (fun hH2 => ?_)
          clear hK Kz hHeld
          have hHeld := hH2 rfl
          clear hH2
          (try simp only [Act.put, List.setIfInBounds_toArray, List.set_cons_zero, List.set_cons_succ])
          refine anyU_ready (rs := [9]) (by kernel_rfl) (by simp) ?_
          refine EachU.cons (o := { dst := some 118, op := Op.buildSlice 22 4 #[(0, Operand.const (Value.int IntKind.i64 0)), (1, Operand.const (Value.int IntKind.i64 8)), (2, Operand.const (Value.int IntKind.i64 9)), (3, Operand.const (Value.int IntKind.i64 64))], type := 22, pos := "make.go:539", after := #[], guard := none }) rfl (fun Kz hK => ?_) EachU.nil
          go_simp
          have HMN := Lib.hid (HD.out.ints [0, 8, 9, 64] #[.int .i64 0, .int .i64 8, .int .i64 9, .int .i64 64] (by intro x hx; simp at hx; unfold I64; omega) rfl)
          have HDn := Lib.hid (HD.out.keep (World.grownBy_alloc _ (.cells #[.int .i64 0, .int .i64 8, .int .i64 9, .int .i64 64] 3) none))
          try replace HM1 := Lib.hid (show ∀ p, p = _ → _ from fun p hp => (HM1.out p hp).keepA (World.grownBy_alloc _ (.cells #[.int .i64 0, .int .i64 8, .int .i64 9, .int .i64 64] 3) none) (by simp))
          try replace HM2 := Lib.hid (show ∀ p, p = _ → _ from fun p hp => (HM2.out p hp).keepA (World.grownBy_alloc _ (.cells #[.int .i64 0, .int .i64 8, .int .i64 9, .int .i64 64] 3) none) (by simp))
          try replace HM3 := Lib.hid (show ∀ p, p = _ → _ from fun p hp => (HM3.out p hp).keepA (World.grownBy_alloc _ (.cells #[.int .i64 0, .int .i64 8, .int .i64 9, .int .i64 64] 3) none) (by simp))
          have HM3 := HMN
          clear HMN HD
          have HD := HDn
          clear HDn
          refine hK.out _ _ (fun _ => Lib.hid HD.out.g.ab) (fun hH2 => ?_)
          clear hK Kz hHeld
          have hHeld := hH2 rfl
          clear hH2
          (try simp only [Act.put, List.setIfInBounds_toArray, List.set_cons_zero, List.set_cons_succ])
          refine anyU_ready (rs := [10]) (by kernel_rfl) (by simp) ?_
          refine EachU.cons (o := { dst := some 119, op := Op.call { callee := Callee.value (Operand.func 46), args := #[Operand.tmp 117, Operand.tmp 118], argTypes := #[26, 22] }, type := 3, pos := "make.go:539", after := #[{ on := 8, ground := Ground.data }, { on := 9, ground := Ground.data }, { on := 7, ground := Ground.chain }], guard := none }) rfl (fun Kz hK => ?_) EachU.nil
          go_simp
          go_at_call 46
          refine (pick_any I64 a _ 0 4 4 (by omega) (by omega) _ HD.out.st.2 (HM3.out _ (by first | rfl | simp))).mono ?_
          rintro e w5 ⟨y3, rfl, -, hs⟩
          try replace HM1 := Lib.hid (show ∀ p, p = _ → _ from fun p hp => (HM1.out p hp).keepA hs.1 (fun e => (HM1.out p hp).1 (Option.some.inj e)))
          try replace HM2 := Lib.hid (show ∀ p, p = _ → _ from fun p hp => (HM2.out p hp).keepA hs.1 (fun e => (HM2.out p hp).1 (Option.some.inj e)))
          try replace HM3 := Lib.hid (show ∀ p, p = _ → _ from fun p hp => (HM3.out p hp).keepA hs.1 (fun e => (HM3.out p hp).1 (Option.some.inj e)))
          have HDn := Lib.hid (HD.out.tape ha hs)
          clear hs HD
          have HD := HDn
          clear HDn
          refine hK.out _ _ (fun _ => Lib.hid HD.out.g.ab) (fun hH2 => ?_)
          clear hK Kz hHeld
          have hHeld := hH2 rfl
          clear hH2
          (try simp only [Act.put, List.setIfInBounds_toArray, List.set_cons_zero, List.set_cons_succ])
        rotate_left 1
        focus
          go_simp
          have HMN := Lib.hid (HD.out.ints [0, 8, 9, 64] #[.int .i64 0, .int .i64 8, .int .i64 9, .int .i64 64] (by intro x hx; simp at hx; unfold I64; omega) rfl)
          have HDn := Lib.hid (HD.out.keep (World.grownBy_alloc _ (.cells #[.int .i64 0, .int .i64 8, .int .i64 9, .int .i64 64] 3) none))
          try replace HM1 := Lib.hid (show ∀ p, p = _ → _ from fun p hp => (HM1.out p hp).keepA (World.grownBy_alloc _ (.cells #[.int .i64 0, .int .i64 8, .int .i64 9, .int .i64 64] 3) none) (by simp))
          try replace HM2 := Lib.hid (show ∀ p, p = _ → _ from fun p hp => (HM2.out p hp).keepA (World.grownBy_alloc _ (.cells #[.int .i64 0, .int .i64 8, .int .i64 9, .int .i64 64] 3) none) (by simp))
          try replace HM3 := Lib.hid (show ∀ p, p = _ → _ from fun p hp => (HM3.out p hp).keepA (World.grownBy_alloc _ (.cells #[.int .i64 0, .int .i64 8, .int .i64 9, .int .i64 64] 3) none) (by simp))
          have HM3 := HMN
          clear HMN HD
          have HD := HDn
          clear HDn
          refine hK.out _ _ (fun _ => Lib.hid HD.out.g.ab) (fun hH2 => ?_)
          clear hK Kz hHeld
          have hHeld := hH2 rfl
          clear hH2
          (try simp only [Act.put, List.setIfInBounds_toArray, List.set_cons_zero, List.set_cons_succ])
          refine anyU_ready (rs := [7]) (by kernel_rfl) (by simp) ?_
          refine EachU.cons (o := { dst := some 116, op := Op.call { callee := Callee.value (Operand.func 46), args := #[Operand.tmp 114, Operand.tmp 115], argTypes := #[26, 22] }, type := 3, pos := "make.go:539", after := #[{ on := 5, ground := Ground.data }, { on := 6, ground := Ground.data }, { on := 4, ground := Ground.chain }], guard := none }) rfl (fun Kz hK => ?_) EachU.nil
          go_simp
          go_at_call 46
          refine (pick_any I64 a _ 0 4 4 (by omega) (by omega) _ HD.out.st.2 (HM2.out _ (by first | rfl | simp))).mono ?_
          rintro e w5 ⟨y2, rfl, -, hs⟩
          try replace HM1 := Lib.hid (show ∀ p, p = _ → _ from fun p hp => (HM1.out p hp).keepA hs.1 (fun e => (HM1.out p hp).1 (Option.some.inj e)))
          try replace HM2 := Lib.hid (show ∀ p, p = _ → _ from fun p hp => (HM2.out p hp).keepA hs.1 (fun e => (HM2.out p hp).1 (Option.some.inj e)))
          try replace HM3 := Lib.hid (show ∀ p, p = _ → _ from fun p hp => (HM3.out p hp).keepA hs.1 (fun e => (HM3.out p hp).1 (Option.some.inj e)))
          have HDn := Lib.hid (HD.out.tape ha hs)
          clear hs HD
          have HD := HDn
          clear HDn
          refine hK.out _ _ (fun _ => Lib.hid HD.out.g.ab) (fun hH2 => ?_)
          clear hK Kz hHeld
          have hHeld := hH2 rfl
          clear hH2
          (try simp only [Act.put, List.setIfInBounds_toArray, List.set_cons_zero, List.set_cons_succ])
          refine anyU_ready (rs := [10]) (by kernel_rfl) (by simp) ?_
          refine EachU.cons (o := { dst := some 119, op := Op.call { callee := Callee.value (Operand.func 46), args := #[Operand.tmp 117, Operand.tmp 118], argTypes := #[26, 22] }, type := 3, pos := "make.go:539", after := #[{ on := 8, ground := Ground.data }, { on := 9, ground := Ground.data }, { on := 7, ground := Ground.chain }], guard := none }) rfl (fun Kz hK => ?_) EachU.nil
          go_simp
          go_at_call 46
          refine (pick_any I64 a _ 0 4 4 (by omega) (by omega) _ HD.out.st.2 (HM3.out _ (by first | rfl | simp))).mono ?_
          rintro e w5 ⟨y3, rfl, -, hs⟩
          try replace HM1 := Lib.hid (show ∀ p, p = _ → _ from fun p hp => (HM1.out p hp).keepA hs.1 (fun e => (HM1.out p hp).1 (Option.some.inj e)))
          try replace HM2 := Lib.hid (show ∀ p, p = _ → _ from fun p hp => (HM2.out p hp).keepA hs.1 (fun e => (HM2.out p hp).1 (Option.some.inj e)))
          try replace HM3 := Lib.hid (show ∀ p, p = _ → _ from fun p hp => (HM3.out p hp).keepA hs.1 (fun e => (HM3.out p hp).1 (Option.some.inj e)))
          have HDn := Lib.hid (HD.out.tape ha hs)
          clear hs HD
          have HD := HDn
          clear HDn
          refine hK.out _ _ (fun _ => Lib.hid HD.out.g.ab) (fun hH2 => ?_)
          clear hK Kz hHeld
          have hHeld := hH2 rfl
          clear hH2
          (try simp only [Act.put, List.setIfInBounds_toArray, List.set_cons_zero, List.set_cons_succ])
        rotate_left 1
        focus
          go_simp
          have HMN := Lib.hid (HD.out.ints [0, 8, 9, 64] #[.int .i64 0, .int .i64 8, .int .i64 9, .int .i64 64] (by intro x hx; simp at hx; unfold I64; omega) rfl)
          have HDn := Lib.hid (HD.out.keep (World.grownBy_alloc _ (.cells #[.int .i64 0, .int .i64 8, .int .i64 9, .int .i64 64] 3) none))
          try replace HM1 := Lib.hid (show ∀ p, p = _ → _ from fun p hp => (HM1.out p hp).keepA (World.grownBy_alloc _ (.cells #[.int .i64 0, .int .i64 8, .int .i64 9, .int .i64 64] 3) none) (by simp))
          try replace HM2 := Lib.hid (show ∀ p, p = _ → _ from fun p hp => (HM2.out p hp).keepA (World.grownBy_alloc _ (.cells #[.int .i64 0, .int .i64 8, .int .i64 9, .int .i64 64] 3) none) (by simp))
          try replace HM3 := Lib.hid (show ∀ p, p = _ → _ from fun p hp => (HM3.out p hp).keepA (World.grownBy_alloc _ (.cells #[.int .i64 0, .int .i64 8, .int .i64 9, .int .i64 64] 3) none) (by simp))
          have HM3 := HMN
          clear HMN HD
          have HD := HDn
          clear HDn
          refine hK.out _ _ (fun _ => Lib.hid HD.out.g.ab) (fun hH2 => ?_)
          clear hK Kz hHeld
          have hHeld := hH2 rfl
          clear hH2
          (try simp only [Act.put, List.setIfInBounds_toArray, List.set_cons_zero, List.set_cons_succ])
          refine anyU_ready (rs := [4]) (by kernel_rfl) (by simp) ?_
          refine EachU.cons (o := { dst := some 113, op := Op.call { callee := Callee.value (Operand.func 46), args := #[Operand.tmp 111, Operand.tmp 112], argTypes := #[26, 22] }, type := 3, pos := "make.go:539", after := #[{ on := 2, ground := Ground.data }, { on := 3, ground := Ground.data }], guard := none }) rfl (fun Kz hK => ?_) EachU.nil
          go_simp
          go_at_call 46
          refine (pick_any I64 a _ 0 4 4 (by omega) (by omega) _ HD.out.st.2 (HM1.out _ (by first | rfl | simp))).mono ?_
          rintro e w5 ⟨y1, rfl, -, hs⟩
          try replace HM1 := Lib.hid (show ∀ p, p = _ → _ from fun p hp => (HM1.out p hp).keepA hs.1 (fun e => (HM1.out p hp).1 (Option.some.inj e)))
          try replace HM2 := Lib.hid (show ∀ p, p = _ → _ from fun p hp => (HM2.out p hp).keepA hs.1 (fun e => (HM2.out p hp).1 (Option.some.inj e)))
          try replace HM3 := Lib.hid (show ∀ p, p = _ → _ from fun p hp => (HM3.out p hp).keepA hs.1 (fun e => (HM3.out p hp).1 (Option.some.inj e)))
          have HDn := Lib.hid (HD.out.tape ha hs)
          clear hs HD
          have HD := HDn
          clear HDn
          refine hK.out _ _ (fun _ => Lib.hid HD.out.g.ab) (fun hH2 => ?_)
          clear hK Kz hHeld
          have hHeld := hH2 rfl
          clear hH2
          (try simp only [Act.put, List.setIfInBounds_toArray, List.set_cons_zero, List.set_cons_succ])
          refine anyU_ready (rs := [7]) (by kernel_rfl) (by simp) ?_
          refine EachU.cons (o := { dst := some 116, op := Op.call { callee := Callee.value (Operand.func 46), args := #[Operand.tmp 114, Operand.tmp 115], argTypes := #[26, 22] }, type := 3, pos := "make.go:539", after := #[{ on := 5, ground := Ground.data }, { on := 6, ground := Ground.data }, { on := 4, ground := Ground.chain }], guard := none }) rfl (fun Kz hK => ?_) EachU.nil
          go_simp
          go_at_call 46
          refine (pick_any I64 a _ 0 4 4 (by omega) (by omega) _ HD.out.st.2 (HM2.out _ (by first | rfl | simp))).mono ?_
          rintro e w5 ⟨y2, rfl, -, hs⟩
          try replace HM1 := Lib.hid (show ∀ p, p = _ → _ from fun p hp => (HM1.out p hp).keepA hs.1 (fun e => (HM1.out p hp).1 (Option.some.inj e)))
          try replace HM2 := Lib.hid (show ∀ p, p = _ → _ from fun p hp => (HM2.out p hp).keepA hs.1 (fun e => (HM2.out p hp).1 (Option.some.inj e)))
          try replace HM3 := Lib.hid (show ∀ p, p = _ → _ from fun p hp => (HM3.out p hp).keepA hs.1 (fun e => (HM3.out p hp).1 (Option.some.inj e)))
          have HDn := Lib.hid (HD.out.tape ha hs)
          clear hs HD
          have HD := HDn
          clear HDn
          refine hK.out _ _ (fun _ => Lib.hid HD.out.g.ab) (fun hH2 => ?_)
          clear hK Kz hHeld
          have hHeld := hH2 rfl
          clear hH2
          (try simp only [Act.put, List.setIfInBounds_toArray, List.set_cons_zero, List.set_cons_succ])
          refine anyU_ready (rs := [10]) (by kernel_rfl) (by simp) ?_
          refine EachU.cons (o := { dst := some 119, op := Op.call { callee := Callee.value (Operand.func 46), args := #[Operand.tmp 117, Operand.tmp 118], argTypes := #[26, 22] }, type := 3, pos := "make.go:539", after := #[{ on := 8, ground := Ground.data }, { on := 9, ground := Ground.data }, { on := 7, ground := Ground.chain }], guard := none }) rfl (fun Kz hK => ?_) EachU.nil
          go_simp
          go_at_call 46
          refine (pick_any I64 a _ 0 4 4 (by omega) (by omega) _ HD.out.st.2 (HM3.out _ (by first | rfl | simp))).mono ?_
          rintro e w5 ⟨y3, rfl, -, hs⟩
          try replace HM1 := Lib.hid (show ∀ p, p = _ → _ from fun p hp => (HM1.out p hp).keepA hs.1 (fun e => (HM1.out p hp).1 (Option.some.inj e)))
          try replace HM2 := Lib.hid (show ∀ p, p = _ → _ from fun p hp => (HM2.out p hp).keepA hs.1 (fun e => (HM2.out p hp).1 (Option.some.inj e)))
          try replace HM3 := Lib.hid (show ∀ p, p = _ → _ from fun p hp => (HM3.out p hp).keepA hs.1 (fun e => (HM3.out p hp).1 (Option.some.inj e)))
          have HDn := Lib.hid (HD.out.tape ha hs)
          clear hs HD
          have HD := HDn
          clear HDn
          refine hK.out _ _ (fun _ => Lib.hid HD.out.g.ab) (fun hH2 => ?_)
          clear hK Kz hHeld
          have hHeld := hH2 rfl
          clear hH2
          (try simp only [Act.put, List.setIfInBounds_toArray, List.set_cons_zero, List.set_cons_succ])
        rotate_left 1
        focus
          go_simp
          have HMN := Lib.hid (HD.out.ints [0, 8, 9, 64] #[.int .i64 0, .int .i64 8, .int .i64 9, .int .i64 64] (by intro x hx; simp at hx; unfold I64; omega) rfl)
          have HDn := Lib.hid (HD.out.keep (World.grownBy_alloc _ (.cells #[.int .i64 0, .int .i64 8, .int .i64 9, .int .i64 64] 3) none))
          try replace HM1 := Lib.hid (show ∀ p, p = _ → _ from fun p hp => (HM1.out p hp).keepA (World.grownBy_alloc _ (.cells #[.int .i64 0, .int .i64 8, .int .i64 9, .int .i64 64] 3) none) (by simp))
          try replace HM2 := Lib.hid (show ∀ p, p = _ → _ from fun p hp => (HM2.out p hp).keepA (World.grownBy_alloc _ (.cells #[.int .i64 0, .int .i64 8, .int .i64 9, .int .i64 64] 3) none) (by simp))
          try replace HM3 := Lib.hid (show ∀ p, p = _ → _ from fun p hp => (HM3.out p hp).keepA (World.grownBy_alloc _ (.cells #[.int .i64 0, .int .i64 8, .int .i64 9, .int .i64 64] 3) none) (by simp))
          have HM3 := HMN
          clear HMN HD
          have HD := HDn
          clear HDn
          refine hK.out _ _ (fun _ => Lib.hid HD.out.g.ab) (fun hH2 => ?_)
          clear hK Kz hHeld
          have hHeld := hH2 rfl
          clear hH2
          (try simp only [Act.put, List.setIfInBounds_toArray, List.set_cons_zero, List.set_cons_succ])
          refine anyU_ready (rs := [3]) (by kernel_rfl) (by simp) ?_
          refine EachU.cons (o := { dst := some 112, op := Op.buildSlice 22 4 #[(0, Operand.const (Value.int IntKind.i64 (-1))), (1, Operand.const (Value.int IntKind.i64 0)), (2, Operand.const (Value.int IntKind.i64 7)), (3, Operand.const (Value.int IntKind.i64 8))], type := 22, pos := "make.go:539", after := #[], guard := none }) rfl (fun Kz hK => ?_) EachU.nil
          go_simp
          have HMN := Lib.hid (HD.out.ints [-1, 0, 7, 8] #[.int .i64 (-1), .int .i64 0, .int .i64 7, .int .i64 8] (by intro x hx; simp at hx; unfold I64; omega) rfl)
          have HDn := Lib.hid (HD.out.keep (World.grownBy_alloc _ (.cells #[.int .i64 (-1), .int .i64 0, .int .i64 7, .int .i64 8] 3) none))
          try replace HM1 := Lib.hid (show ∀ p, p = _ → _ from fun p hp => (HM1.out p hp).keepA (World.grownBy_alloc _ (.cells #[.int .i64 (-1), .int .i64 0, .int .i64 7, .int .i64 8] 3) none) (by simp))
          try replace HM2 := Lib.hid (show ∀ p, p = _ → _ from fun p hp => (HM2.out p hp).keepA (World.grownBy_alloc _ (.cells #[.int .i64 (-1), .int .i64 0, .int .i64 7, .int .i64 8] 3) none) (by simp))
          try replace HM3 := Lib.hid (show ∀ p, p = _ → _ from fun p hp => (HM3.out p hp).keepA (World.grownBy_alloc _ (.cells #[.int .i64 (-1), .int .i64 0, .int .i64 7, .int .i64 8] 3) none) (by simp))
          have HM1 := HMN
          clear HMN HD
          have HD := HDn
          clear HDn
          refine hK.out _ _ (fun _ => Lib.hid HD.out.g.ab) (fun hH2 => ?_)
          clear hK Kz hHeld
          have hHeld := hH2 rfl
          clear hH2
          (try simp only [Act.put, List.setIfInBounds_toArray, List.set_cons_zero, List.set_cons_succ])
          refine anyU_ready (rs := [4]) (by kernel_rfl) (by simp) ?_
          refine EachU.cons (o := { dst := some 113, op := Op.call { callee := Callee.value (Operand.func 46), args := #[Operand.tmp 111, Operand.tmp 112], argTypes := #[26, 22] }, type := 3, pos := "make.go:539", after := #[{ on := 2, ground := Ground.data }, { on := 3, ground := Ground.data }], guard := none }) rfl (fun Kz hK => ?_) EachU.nil
          go_simp
          go_at_call 46
          refine (pick_any I64 a _ 0 4 4 (by omega) (by omega) _ HD.out.st.2 (HM1.out _ (by first | rfl | simp))).mono ?_
          rintro e w5 ⟨y1, rfl, -, hs⟩
          try replace HM1 := Lib.hid (show ∀ p, p = _ → _ from fun p hp => (HM1.out p hp).keepA hs.1 (fun e => (HM1.out p hp).1 (Option.some.inj e)))
          try replace HM2 := Lib.hid (show ∀ p, p = _ → _ from fun p hp => (HM2.out p hp).keepA hs.1 (fun e => (HM2.out p hp).1 (Option.some.inj e)))
          try replace HM3 := Lib.hid (show ∀ p, p = _ → _ from fun p hp => (HM3.out p hp).keepA hs.1 (fun e => (HM3.out p hp).1 (Option.some.inj e)))
          have HDn := Lib.hid (HD.out.tape ha hs)
          clear hs HD
          have HD := HDn
          clear HDn
          refine hK.out _ _ (fun _ => Lib.hid HD.out.g.ab) (fun hH2 => ?_)
          clear hK Kz hHeld
          have hHeld := hH2 rfl
          clear hH2
          (try simp only [Act.put, List.setIfInBounds_toArray, List.set_cons_zero, List.set_cons_succ])
          refine anyU_ready (rs := [7]) (by kernel_rfl) (by simp) ?_
          refine EachU.cons (o := { dst := some 116, op := Op.call { callee := Callee.value (Operand.func 46), args := #[Operand.tmp 114, Operand.tmp 115], argTypes := #[26, 22] }, type := 3, pos := "make.go:539", after := #[{ on := 5, ground := Ground.data }, { on := 6, ground := Ground.data }, { on := 4, ground := Ground.chain }], guard := none }) rfl (fun Kz hK => ?_) EachU.nil
          go_simp
          go_at_call 46
          refine (pick_any I64 a _ 0 4 4 (by omega) (by omega) _ HD.out.st.2 (HM2.out _ (by first | rfl | simp))).mono ?_
          rintro e w5 ⟨y2, rfl, -, hs⟩
          try replace HM1 := Lib.hid (show ∀ p, p = _ → _ from fun p hp => (HM1.out p hp).keepA hs.1 (fun e => (HM1.out p hp).1 (Option.some.inj e)))
          try replace HM2 := Lib.hid (show ∀ p, p = _ → _ from fun p hp => (HM2.out p hp).keepA hs.1 (fun e => (HM2.out p hp).1 (Option.some.inj e)))
          try replace HM3 := Lib.hid (show ∀ p, p = _ → _ from fun p hp => (HM3.out p hp).keepA hs.1 (fun e => (HM3.out p hp).1 (Option.some.inj e)))
          have HDn := Lib.hid (HD.out.tape ha hs)
          clear hs HD
          have HD := HDn
          clear HDn
          refine hK.out _ _ (fun _ => Lib.hid HD.out.g.ab) (fun hH2 => ?_)
          clear hK Kz hHeld
          have hHeld := hH2 rfl
          clear hH2
          (try simp only [Act.put, List.setIfInBounds_toArray, List.set_cons_zero, List.set_cons_succ])
          refine anyU_ready (rs := [10]) (by kernel_rfl) (by simp) ?_
          refine EachU.cons (o := { dst := some 119, op := Op.call { callee := Callee.value (Operand.func 46), args := #[Operand.tmp 117, Operand.tmp 118], argTypes := #[26, 22] }, type := 3, pos := "make.go:539", after := #[{ on := 8, ground := Ground.data }, { on := 9, ground := Ground.data }, { on := 7, ground := Ground.chain }], guard := none }) rfl (fun Kz hK => ?_) EachU.nil
          go_simp
          go_at_call 46
          refine (pick_any I64 a _ 0 4 4 (by omega) (by omega) _ HD.out.st.2 (HM3.out _ (by first | rfl | simp))).mono ?_
          rintro e w5 ⟨y3, rfl, -, hs⟩
          try replace HM1 := Lib.hid (show ∀ p, p = _ → _ from fun p hp => (HM1.out p hp).keepA hs.1 (fun e => (HM1.out p hp).1 (Option.some.inj e)))
          try replace HM2 := Lib.hid (show ∀ p, p = _ → _ from fun p hp => (HM2.out p hp).keepA hs.1 (fun e => (HM2.out p hp).1 (Option.some.inj e)))
          try replace HM3 := Lib.hid (show ∀ p, p = _ → _ from fun p hp => (HM3.out p hp).keepA hs.1 (fun e => (HM3.out p hp).1 (Option.some.inj e)))
          have HDn := Lib.hid (HD.out.tape ha hs)
          clear hs HD
          have HD := HDn
          clear HDn
          refine hK.out _ _ (fun _ => Lib.hid HD.out.g.ab) (fun hH2 => ?_)
          clear hK Kz hHeld
          have hHeld := hH2 rfl
          clear hH2
          (try simp only [Act.put, List.setIfInBounds_toArray, List.set_cons_zero, List.set_cons_succ])
        rotate_left 1
        focus
          go_simp
          have HMN := Lib.hid (HD.out.ints [0, 8, 9, 64] #[.int .i64 0, .int .i64 8, .int .i64 9, .int .i64 64] (by intro x hx; simp at hx; unfold I64; omega) rfl)
          have HDn := Lib.hid (HD.out.keep (World.grownBy_alloc _ (.cells #[.int .i64 0, .int .i64 8, .int .i64 9, .int .i64 64] 3) none))
          try replace HM1 := Lib.hid (show ∀ p, p = _ → _ from fun p hp => (HM1.out p hp).keepA (World.grownBy_alloc _ (.cells #[.int .i64 0, .int .i64 8, .int .i64 9, .int .i64 64] 3) none) (by simp))
          try replace HM2 := Lib.hid (show ∀ p, p = _ → _ from fun p hp => (HM2.out p hp).keepA (World.grownBy_alloc _ (.cells #[.int .i64 0, .int .i64 8, .int .i64 9, .int .i64 64] 3) none) (by simp))
          try replace HM3 := Lib.hid (show ∀ p, p = _ → _ from fun p hp => (HM3.out p hp).keepA (World.grownBy_alloc _ (.cells #[.int .i64 0, .int .i64 8, .int .i64 9, .int .i64 64] 3) none) (by simp))
          have HM3 := HMN
          clear HMN HD
          have HD := HDn
          clear HDn
          refine hK.out _ _ (fun _ => Lib.hid HD.out.g.ab) (fun hH2 => ?_)
          clear hK Kz hHeld
          have hHeld := hH2 rfl
          clear hH2
          (try simp only [Act.put, List.setIfInBounds_toArray, List.set_cons_zero, List.set_cons_succ])
          refine anyU_ready (rs := [3, 6]) (by kernel_rfl) (by simp) ?_
          refine EachU.cons (o := { dst := some 112, op := Op.buildSlice 22 4 #[(0, Operand.const (Value.int IntKind.i64 (-1))), (1, Operand.const (Value.int IntKind.i64 0)), (2, Operand.const (Value.int IntKind.i64 7)), (3, Operand.const (Value.int IntKind.i64 8))], type := 22, pos := "make.go:539", after := #[], guard := none }) rfl (fun Kz hK => ?_) (EachU.cons (o := { dst := some 115, op := Op.buildSlice 22 4 #[(0, Operand.const (Value.int IntKind.i64 0)), (1, Operand.const (Value.int IntKind.i64 1)), (2, Operand.const (Value.int IntKind.i64 256)), (3, Operand.const (Value.int IntKind.i64 257))], type := 22, pos := "make.go:539", after := #[], guard := none }) rfl (fun Kz hK => ?_) EachU.nil)
        focus
          go_simp
          have HMN := Lib.hid (HD.out.ints [-1, 0, 7, 8] #[.int .i64 (-1), .int .i64 0, .int .i64 7, .int .i64 8] (by intro x hx; simp at hx; unfold I64; omega) rfl)
          have HDn := Lib.hid (HD.out.keep (World.grownBy_alloc _ (.cells #[.int .i64 (-1), .int .i64 0, .int .i64 7, .int .i64 8] 3) none))
          try replace HM1 := Lib.hid (show ∀ p, p = _ → _ from fun p hp => (HM1.out p hp).keepA (World.grownBy_alloc _ (.cells #[.int .i64 (-1), .int .i64 0, .int .i64 7, .int .i64 8] 3) none) (by simp))
          try replace HM2 := Lib.hid (show ∀ p, p = _ → _ from fun p hp => (HM2.out p hp).keepA (World.grownBy_alloc _ (.cells #[.int .i64 (-1), .int .i64 0, .int .i64 7, .int .i64 8] 3) none) (by simp))
          try replace HM3 := Lib.hid (show ∀ p, p = _ → _ from fun p hp => (HM3.out p hp).keepA (World.grownBy_alloc _ (.cells #[.int .i64 (-1), .int .i64 0, .int .i64 7, .int .i64 8] 3) none) (by simp))
          have HM1 := HMN
          clear HMN HD
          have HD := HDn
          clear HDn
          refine hK.out _ _ (fun _ => Lib.hid HD.out.g.ab) (fun hH2 => ?_)
          clear hK Kz hHeld
          have hHeld := hH2 rfl
          clear hH2
          (try simp only [Act.put, List.setIfInBounds_toArray, List.set_cons_zero, List.set_cons_succ])
          refine anyU_ready (rs := [4, 6]) (by kernel_rfl) (by simp) ?_
          refine EachU.cons (o := { dst := some 113, op := Op.call { callee := Callee.value (Operand.func 46), args := #[Operand.tmp 111, Operand.tmp 112], argTypes := #[26, 22] }, type := 3, pos := "make.go:539", after := #[{ on := 2, ground := Ground.data }, { on := 3, ground := Ground.data }], guard := none }) rfl (fun Kz hK => ?_) (EachU.cons (o := { dst := some 115, op := Op.buildSlice 22 4 #[(0, Operand.const (Value.int IntKind.i64 0)), (1, Operand.const (Value.int IntKind.i64 1)), (2, Operand.const (Value.int IntKind.i64 256)), (3, Operand.const (Value.int IntKind.i64 257))], type := 22, pos := "make.go:539", after := #[], guard := none }) rfl (fun Kz hK => ?_) EachU.nil)
        focus
          go_simp
          go_at_call 46
          refine (pick_any I64 a _ 0 4 4 (by omega) (by omega) _ HD.out.st.2 (HM1.out _ (by first | rfl | simp))).mono ?_
          rintro e w5 ⟨y1, rfl, -, hs⟩
          try replace HM1 := Lib.hid (show ∀ p, p = _ → _ from fun p hp => (HM1.out p hp).keepA hs.1 (fun e => (HM1.out p hp).1 (Option.some.inj e)))
          try replace HM2 := Lib.hid (show ∀ p, p = _ → _ from fun p hp => (HM2.out p hp).keepA hs.1 (fun e => (HM2.out p hp).1 (Option.some.inj e)))
          try replace HM3 := Lib.hid (show ∀ p, p = _ → _ from fun p hp => (HM3.out p hp).keepA hs.1 (fun e => (HM3.out p hp).1 (Option.some.inj e)))
          have HDn := Lib.hid (HD.out.tape ha hs)
          clear hs HD
          have HD := HDn
          clear HDn
          refine hK.out _ _ (fun _ => Lib.hid HD.out.g.ab) (fun hH2 => ?_)
          clear hK Kz hHeld
          have hHeld := hH2 rfl
          clear hH2
          (try simp only [Act.put, List.setIfInBounds_toArray, List.set_cons_zero, List.set_cons_succ])
          refine anyU_ready (rs := [6]) (by kernel_rfl) (by simp) ?_
          refine EachU.cons (o := { dst := some 115, op := Op.buildSlice 22 4 #[(0, Operand.const (Value.int IntKind.i64 0)), (1, Operand.const (Value.int IntKind.i64 1)), (2, Operand.const (Value.int IntKind.i64 256)), (3, Operand.const (Value.int IntKind.i64 257))], type := 22, pos := "make.go:539", after := #[], guard := none }) rfl (fun Kz hK => ?_) EachU.nil
          go_simp
          have HMN := Lib.hid (HD.out.ints [0, 1, 256, 257] #[.int .i64 0, .int .i64 1, .int .i64 256, .int .i64 257] (by intro x hx; simp at hx; unfold I64; omega) rfl)
          have HDn := Lib.hid (HD.out.keep (World.grownBy_alloc _ (.cells #[.int .i64 0, .int .i64 1, .int .i64 256, .int .i64 257] 3) none))
          try replace HM1 := Lib.hid (show ∀ p, p = _ → _ from fun p hp => (HM1.out p hp).keepA (World.grownBy_alloc _ (.cells #[.int .i64 0, .int .i64 1, .int .i64 256, .int .i64 257] 3) none) (by simp))
          try replace HM2 := Lib.hid (show ∀ p, p = _ → _ from fun p hp => (HM2.out p hp).keepA (World.grownBy_alloc _ (.cells #[.int .i64 0, .int .i64 1, .int .i64 256, .int .i64 257] 3) none) (by simp))
          try replace HM3 := Lib.hid (show ∀ p, p = _ → _ from fun p hp => (HM3.out p hp).keepA (World.grownBy_alloc _ (.cells #[.int .i64 0, .int .i64 1, .int .i64 256, .int .i64 257] 3) none) (by simp))
          have HM2 := HMN
          clear HMN HD
          have HD := HDn
          clear HDn
          refine hK.out _ _ (fun _ => Lib.hid HD.out.g.ab) (fun hH2 => ?_)
          clear hK Kz hHeld
          have hHeld := hH2 rfl
          clear hH2
          (try simp only [Act.put, List.setIfInBounds_toArray, List.set_cons_zero, List.set_cons_succ])
          refine anyU_ready (rs := [7]) (by kernel_rfl) (by simp) ?_
          refine EachU.cons (o := { dst := some 116, op := Op.call { callee := Callee.value (Operand.func 46), args := #[Operand.tmp 114, Operand.tmp 115], argTypes := #[26, 22] }, type := 3, pos := "make.go:539", after := #[{ on := 5, ground := Ground.data }, { on := 6, ground := Ground.data }, { on := 4, ground := Ground.chain }], guard := none }) rfl (fun Kz hK => ?_) EachU.nil
          go_simp
          go_at_call 46
          refine (pick_any I64 a _ 0 4 4 (by omega) (by omega) _ HD.out.st.2 (HM2.out _ (by first | rfl | simp))).mono ?_
          rintro e w5 ⟨y2, rfl, -, hs⟩
          try replace HM1 := Lib.hid (show ∀ p, p = _ → _ from fun p hp => (HM1.out p hp).keepA hs.1 (fun e => (HM1.out p hp).1 (Option.some.inj e)))
          try replace HM2 := Lib.hid (show ∀ p, p = _ → _ from fun p hp => (HM2.out p hp).keepA hs.1 (fun e => (HM2.out p hp).1 (Option.some.inj e)))
          try replace HM3 := Lib.hid (show ∀ p, p = _ → _ from fun p hp => (HM3.out p hp).keepA hs.1 (fun e => (HM3.out p hp).1 (Option.some.inj e)))
          have HDn := Lib.hid (HD.out.tape ha hs)
          clear hs HD
          have HD := HDn
          clear HDn
          refine hK.out _ _ (fun _ => Lib.hid HD.out.g.ab) (fun hH2 => ?_)
          clear hK Kz hHeld
          have hHeld := hH2 rfl
          clear hH2
          (try simp only [Act.put, List.setIfInBounds_toArray, List.set_cons_zero, List.set_cons_succ])
          refine anyU_ready (rs := [10]) (by kernel_rfl) (by simp) ?_
          refine EachU.cons (o := { dst := some 119, op := Op.call { callee := Callee.value (Operand.func 46), args := #[Operand.tmp 117, Operand.tmp 118], argTypes := #[26, 22] }, type := 3, pos := "make.go:539", after := #[{ on := 8, ground := Ground.data }, { on := 9, ground := Ground.data }, { on := 7, ground := Ground.chain }], guard := none }) rfl (fun Kz hK => ?_) EachU.nil
          go_simp
          go_at_call 46
          refine (pick_any I64 a _ 0 4 4 (by omega) (by omega) _ HD.out.st.2 (HM3.out _ (by first | rfl | simp))).mono ?_
          rintro e w5 ⟨y3, rfl, -, hs⟩
          try replace HM1 := Lib.hid (show ∀ p, p = _ → _ from fun p hp => (HM1.out p hp).keepA hs.1 (fun e => (HM1.out p hp).1 (Option.some.inj e)))
          try replace HM2 := Lib.hid (show ∀ p, p = _ → _ from fun p hp => (HM2.out p hp).keepA hs.1 (fun e => (HM2.out p hp).1 (Option.some.inj e)))
          try replace HM3 := Lib.hid (show ∀ p, p = _ → _ from fun p hp => (HM3.out p hp).keepA hs.1 (fun e => (HM3.out p hp).1 (Option.some.inj e)))
          have HDn := Lib.hid (HD.out.tape ha hs)
          clear hs HD
          have HD := HDn
          clear HDn
          refine hK.out _ _ (fun _ => Lib.hid HD.out.g.ab) (fun hH2 => ?_)
          clear hK Kz hHeld
          have hHeld := hH2 rfl
          clear hH2
          (try simp only [Act.put, List.setIfInBounds_toArray, List.set_cons_zero, List.set_cons_succ])
        rotate_left 1
        focus
          go_simp
          have HMN := Lib.hid (HD.out.ints [0, 1, 256, 257] #[.int .i64 0, .int .i64 1, .int .i64 256, .int .i64 257] (by intro x hx; simp at hx; unfold I64; omega) rfl)
          have HDn := Lib.hid (HD.out.keep (World.grownBy_alloc _ (.cells #[.int .i64 0, .int .i64 1, .int .i64 256, .int .i64 257] 3) none))
          try replace HM1 := Lib.hid (show ∀ p, p = _ → _ from fun p hp => (HM1.out p hp).keepA (World.grownBy_alloc _ (.cells #[.int .i64 0, .int .i64 1, .int .i64 256, .int .i64 257] 3) none) (by simp))
          try replace HM2 := Lib.hid (show ∀ p, p = _ → _ from fun p hp => (HM2.out p hp).keepA (World.grownBy_alloc _ (.cells #[.int .i64 0, .int .i64 1, .int .i64 256, .int .i64 257] 3) none) (by simp))
          try replace HM3 := Lib.hid (show ∀ p, p = _ → _ from fun p hp => (HM3.out p hp).keepA (World.grownBy_alloc _ (.cells #[.int .i64 0, .int .i64 1, .int .i64 256, .int .i64 257] 3) none) (by simp))
          have HM2 := HMN
          clear HMN HD
          have HD := HDn
          clear HDn
          refine hK.out _ _ (fun _ => Lib.hid HD.out.g.ab) (fun hH2 => ?_)
          clear hK Kz hHeld
          have hHeld := hH2 rfl
          clear hH2
          (try simp only [Act.put, List.setIfInBounds_toArray, List.set_cons_zero, List.set_cons_succ])
          refine anyU_ready (rs := [4]) (by kernel_rfl) (by simp) ?_
          refine EachU.cons (o := { dst := some 113, op := Op.call { callee := Callee.value (Operand.func 46), args := #[Operand.tmp 111, Operand.tmp 112], argTypes := #[26, 22] }, type := 3, pos := "make.go:539", after := #[{ on := 2, ground := Ground.data }, { on := 3, ground := Ground.data }], guard := none }) rfl (fun Kz hK => ?_) EachU.nil
          go_simp
          go_at_call 46
          refine (pick_any I64 a _ 0 4 4 (by omega) (by omega) _ HD.out.st.2 (HM1.out _ (by first | rfl | simp))).mono ?_
          rintro e w5 ⟨y1, rfl, -, hs⟩
          try replace HM1 := Lib.hid (show ∀ p, p = _ → _ from fun p hp => (HM1.out p hp).keepA hs.1 (fun e => (HM1.out p hp).1 (Option.some.inj e)))
          try replace HM2 := Lib.hid (show ∀ p, p = _ → _ from fun p hp => (HM2.out p hp).keepA hs.1 (fun e => (HM2.out p hp).1 (Option.some.inj e)))
          try replace HM3 := Lib.hid (show ∀ p, p = _ → _ from fun p hp => (HM3.out p hp).keepA hs.1 (fun e => (HM3.out p hp).1 (Option.some.inj e)))
          have HDn := Lib.hid (HD.out.tape ha hs)
          clear hs HD
          have HD := HDn
          clear HDn
          refine hK.out _ _ (fun _ => Lib.hid HD.out.g.ab) (fun hH2 => ?_)
          clear hK Kz hHeld
          have hHeld := hH2 rfl
          clear hH2
          (try simp only [Act.put, List.setIfInBounds_toArray, List.set_cons_zero, List.set_cons_succ])
          refine anyU_ready (rs := [7]) (by kernel_rfl) (by simp) ?_
          refine EachU.cons (o := { dst := some 116, op := Op.call { callee := Callee.value (Operand.func 46), args := #[Operand.tmp 114, Operand.tmp 115], argTypes := #[26, 22] }, type := 3, pos := "make.go:539", after := #[{ on := 5, ground := Ground.data }, { on := 6, ground := Ground.data }, { on := 4, ground := Ground.chain }], guard := none }) rfl (fun Kz hK => ?_) EachU.nil
          go_simp
          go_at_call 46
          refine (pick_any I64 a _ 0 4 4 (by omega) (by omega) _ HD.out.st.2 (HM2.out _ (by first | rfl | simp))).mono ?_
          rintro e w5 ⟨y2, rfl, -, hs⟩
          try replace HM1 := Lib.hid (show ∀ p, p = _ → _ from fun p hp => (HM1.out p hp).keepA hs.1 (fun e => (HM1.out p hp).1 (Option.some.inj e)))
          try replace HM2 := Lib.hid (show ∀ p, p = _ → _ from fun p hp => (HM2.out p hp).keepA hs.1 (fun e => (HM2.out p hp).1 (Option.some.inj e)))
          try replace HM3 := Lib.hid (show ∀ p, p = _ → _ from fun p hp => (HM3.out p hp).keepA hs.1 (fun e => (HM3.out p hp).1 (Option.some.inj e)))
          have HDn := Lib.hid (HD.out.tape ha hs)
          clear hs HD
          have HD := HDn
          clear HDn
          refine hK.out _ _ (fun _ => Lib.hid HD.out.g.ab) (fun hH2 => ?_)
          clear hK Kz hHeld
          have hHeld := hH2 rfl
          clear hH2
          (try simp only [Act.put, List.setIfInBounds_toArray, List.set_cons_zero, List.set_cons_succ])
          refine anyU_ready (rs := [10]) (by kernel_rfl) (by simp) ?_
          refine EachU.cons (o := { dst := some 119, op := Op.call { callee := Callee.value (Operand.func 46), args := #[Operand.tmp 117, Operand.tmp 118], argTypes := #[26, 22] }, type := 3, pos := "make.go:539", after := #[{ on := 8, ground := Ground.data }, { on := 9, ground := Ground.data }, { on := 7, ground := Ground.chain }], guard := none }) rfl (fun Kz hK => ?_) EachU.nil
          go_simp
          go_at_call 46
          refine (pick_any I64 a _ 0 4 4 (by omega) (by omega) _ HD.out.st.2 (HM3.out _ (by first | rfl | simp))).mono ?_
          rintro e w5 ⟨y3, rfl, -, hs⟩
          try replace HM1 := Lib.hid (show ∀ p, p = _ → _ from fun p hp => (HM1.out p hp).keepA hs.1 (fun e => (HM1.out p hp).1 (Option.some.inj e)))
          try replace HM2 := Lib.hid (show ∀ p, p = _ → _ from fun p hp => (HM2.out p hp).keepA hs.1 (fun e => (HM2.out p hp).1 (Option.some.inj e)))
          try replace HM3 := Lib.hid (show ∀ p, p = _ → _ from fun p hp => (HM3.out p hp).keepA hs.1 (fun e => (HM3.out p hp).1 (Option.some.inj e)))
          have HDn := Lib.hid (HD.out.tape ha hs)
          clear hs HD
          have HD := HDn
          clear HDn
          refine hK.out _ _ (fun _ => Lib.hid HD.out.g.ab) (fun hH2 => ?_)
          clear hK Kz hHeld
          have hHeld := hH2 rfl
          clear hH2
          (try simp only [Act.put, List.setIfInBounds_toArray, List.set_cons_zero, List.set_cons_succ])
        rotate_left 1
        focus
          go_simp
          have HMN := Lib.hid (HD.out.ints [0, 1, 256, 257] #[.int .i64 0, .int .i64 1, .int .i64 256, .int .i64 257] (by intro x hx; simp at hx; unfold I64; omega) rfl)
          have HDn := Lib.hid (HD.out.keep (World.grownBy_alloc _ (.cells #[.int .i64 0, .int .i64 1, .int .i64 256, .int .i64 257] 3) none))
          try replace HM1 := Lib.hid (show ∀ p, p = _ → _ from fun p hp => (HM1.out p hp).keepA (World.grownBy_alloc _ (.cells #[.int .i64 0, .int .i64 1, .int .i64 256, .int .i64 257] 3) none) (by simp))
          try replace HM2 := Lib.hid (show ∀ p, p = _ → _ from fun p hp => (HM2.out p hp).keepA (World.grownBy_alloc _ (.cells #[.int .i64 0, .int .i64 1, .int .i64 256, .int .i64 257] 3) none) (by simp))
          try replace HM3 := Lib.hid (show ∀ p, p = _ → _ from fun p hp => (HM3.out p hp).keepA (World.grownBy_alloc _ (.cells #[.int .i64 0, .int .i64 1, .int .i64 256, .int .i64 257] 3) none) (by simp))
          have HM2 := HMN
          clear HMN HD
          have HD := HDn
          clear HDn
          refine hK.out _ _ (fun _ => Lib.hid HD.out.g.ab) (fun hH2 => ?_)
          clear hK Kz hHeld
          have hHeld := hH2 rfl
          clear hH2
          (try simp only [Act.put, List.setIfInBounds_toArray, List.set_cons_zero, List.set_cons_succ])
          refine anyU_ready (rs := [3]) (by kernel_rfl) (by simp) ?_
          refine EachU.cons (o := { dst := some 112, op := Op.buildSlice 22 4 #[(0, Operand.const (Value.int IntKind.i64 (-1))), (1, Operand.const (Value.int IntKind.i64 0)), (2, Operand.const (Value.int IntKind.i64 7)), (3, Operand.const (Value.int IntKind.i64 8))], type := 22, pos := "make.go:539", after := #[], guard := none }) rfl (fun Kz hK => ?_) EachU.nil
          go_simp
          have HMN := Lib.hid (HD.out.ints [-1, 0, 7, 8] #[.int .i64 (-1), .int .i64 0, .int .i64 7, .int .i64 8] (by intro x hx; simp at hx; unfold I64; omega) rfl)
          have HDn := Lib.hid (HD.out.keep (World.grownBy_alloc _ (.cells #[.int .i64 (-1), .int .i64 0, .int .i64 7, .int .i64 8] 3) none))
          try replace HM1 := Lib.hid (show ∀ p, p = _ → _ from fun p hp => (HM1.out p hp).keepA (World.grownBy_alloc _ (.cells #[.int .i64 (-1), .int .i64 0, .int .i64 7, .int .i64 8] 3) none) (by simp))
          try replace HM2 := Lib.hid (show ∀ p, p = _ → _ from fun p hp => (HM2.out p hp).keepA (World.grownBy_alloc _ (.cells #[.int .i64 (-1), .int .i64 0, .int .i64 7, .int .i64 8] 3) none) (by simp))
          try replace HM3 := Lib.hid (show ∀ p, p = _ → _ from fun p hp => (HM3.out p hp).keepA (World.grownBy_alloc _ (.cells #[.int .i64 (-1), .int .i64 0, .int .i64 7, .int .i64 8] 3) none) (by simp))
          have HM1 := HMN
          clear HMN HD
          have HD := HDn
          clear HDn
          refine hK.out _ _ (fun _ => Lib.hid HD.out.g.ab) (fun hH2 => ?_)
          clear hK Kz hHeld
          have hHeld := hH2 rfl
          clear hH2
          (try simp only [Act.put, List.setIfInBounds_toArray, List.set_cons_zero, List.set_cons_succ])
          refine anyU_ready (rs := [4]) (by kernel_rfl) (by simp) ?_
          refine EachU.cons (o := { dst := some 113, op := Op.call { callee := Callee.value (Operand.func 46), args := #[Operand.tmp 111, Operand.tmp 112], argTypes := #[26, 22] }, type := 3, pos := "make.go:539", after := #[{ on := 2, ground := Ground.data }, { on := 3, ground := Ground.data }], guard := none }) rfl (fun Kz hK => ?_) EachU.nil
          go_simp
          go_at_call 46
          refine (pick_any I64 a _ 0 4 4 (by omega) (by omega) _ HD.out.st.2 (HM1.out _ (by first | rfl | simp))).mono ?_
          rintro e w5 ⟨y1, rfl, -, hs⟩
          try replace HM1 := Lib.hid (show ∀ p, p = _ → _ from fun p hp => (HM1.out p hp).keepA hs.1 (fun e => (HM1.out p hp).1 (Option.some.inj e)))
          try replace HM2 := Lib.hid (show ∀ p, p = _ → _ from fun p hp => (HM2.out p hp).keepA hs.1 (fun e => (HM2.out p hp).1 (Option.some.inj e)))
          try replace HM3 := Lib.hid (show ∀ p, p = _ → _ from fun p hp => (HM3.out p hp).keepA hs.1 (fun e => (HM3.out p hp).1 (Option.some.inj e)))
          have HDn := Lib.hid (HD.out.tape ha hs)
          clear hs HD
          have HD := HDn
          clear HDn
          refine hK.out _ _ (fun _ => Lib.hid HD.out.g.ab) (fun hH2 => ?_)
          clear hK Kz hHeld
          have hHeld := hH2 rfl
          clear hH2
          (try simp only [Act.put, List.setIfInBounds_toArray, List.set_cons_zero, List.set_cons_succ])
          refine anyU_ready (rs := [7]) (by kernel_rfl) (by simp) ?_
          refine EachU.cons (o := { dst := some 116, op := Op.call { callee := Callee.value (Operand.func 46), args := #[Operand.tmp 114, Operand.tmp 115], argTypes := #[26, 22] }, type := 3, pos := "make.go:539", after := #[{ on := 5, ground := Ground.data }, { on := 6, ground := Ground.data }, { on := 4, ground := Ground.chain }], guard := none }) rfl (fun Kz hK => ?_) EachU.nil
          go_simp
          go_at_call 46
          refine (pick_any I64 a _ 0 4 4 (by omega) (by omega) _ HD.out.st.2 (HM2.out _ (by first | rfl | simp))).mono ?_
          rintro e w5 ⟨y2, rfl, -, hs⟩
          try replace HM1 := Lib.hid (show ∀ p, p = _ → _ from fun p hp => (HM1.out p hp).keepA hs.1 (fun e => (HM1.out p hp).1 (Option.some.inj e)))
          try replace HM2 := Lib.hid (show ∀ p, p = _ → _ from fun p hp => (HM2.out p hp).keepA hs.1 (fun e => (HM2.out p hp).1 (Option.some.inj e)))
          try replace HM3 := Lib.hid (show ∀ p, p = _ → _ from fun p hp => (HM3.out p hp).keepA hs.1 (fun e => (HM3.out p hp).1 (Option.some.inj e)))
          have HDn := Lib.hid (HD.out.tape ha hs)
          clear hs HD
          have HD := HDn
          clear HDn
          refine hK.out _ _ (fun _ => Lib.hid HD.out.g.ab) (fun hH2 => ?_)
          clear hK Kz hHeld
          have hHeld := hH2 rfl
          clear hH2
          (try simp only [Act.put, List.setIfInBounds_toArray, List.set_cons_zero, List.set_cons_succ])
          refine anyU_ready (rs := [10]) (by kernel_rfl) (by simp) ?_
          refine EachU.cons (o := { dst := some 119, op := Op.call { callee := Callee.value (Operand.func 46), args := #[Operand.tmp 117, Operand.tmp 118], argTypes := #[26, 22] }, type := 3, pos := "make.go:539", after := #[{ on := 8, ground := Ground.data }, { on := 9, ground := Ground.data }, { on := 7, ground := Ground.chain }], guard := none }) rfl (fun Kz hK => ?_) EachU.nil
          go_simp
          go_at_call 46
          refine (pick_any I64 a _ 0 4 4 (by omega) (by omega) _ HD.out.st.2 (HM3.out _ (by first | rfl | simp))).mono ?_
          rintro e w5 ⟨y3, rfl, -, hs⟩
          try replace HM1 := Lib.hid (show ∀ p, p = _ → _ from fun p hp => (HM1.out p hp).keepA hs.1 (fun e => (HM1.out p hp).1 (Option.some.inj e)))
          try replace HM2 := Lib.hid (show ∀ p, p = _ → _ from fun p hp => (HM2.out p hp).keepA hs.1 (fun e => (HM2.out p hp).1 (Option.some.inj e)))
          try replace HM3 := Lib.hid (show ∀ p, p = _ → _ from fun p hp => (HM3.out p hp).keepA hs.1 (fun e => (HM3.out p hp).1 (Option.some.inj e)))
          have HDn := Lib.hid (HD.out.tape ha hs)
          clear hs HD
          have HD := HDn
          clear HDn
          refine hK.out _ _ (fun _ => Lib.hid HD.out.g.ab) (fun hH2 => ?_)
          clear hK Kz hHeld
          have hHeld := hH2 rfl
          clear hH2
          (try simp only [Act.put, List.setIfInBounds_toArray, List.set_cons_zero, List.set_cons_succ])
        rotate_left 1
        all_goals
          refine anyU_take (i := 11) (oi := { dst := some 120, op := Op.build 62 #[(0, Operand.tmp 113), (1, Operand.tmp 116), (2, Operand.tmp 119)], type := 62, pos := "make.go:539", after := #[{ on := 4, ground := Ground.data }, { on := 7, ground := Ground.data }, { on := 10, ground := Ground.data }], guard := none }) (v := ?_) rfl (by kernel_rfl) (by kernel_rfl) (by kernel_rfl) (by kernel_rfl) (by kernel_rfl) (fun _ _ _ h => h) (Or.inl ⟨by rfl, ?_⟩) hHeld ?_
          rotate_left 1
          · intro u hSu
            have q0 := (cell_of_row _ _ 4 _ _ _ hSu.out)
            go_simp
            first | done | with_reducible rfl
          (try simp only [Act.put, List.setIfInBounds_toArray, List.set_cons_zero, List.set_cons_succ])
          refine anyU_ready (rs := [12]) (by kernel_rfl) (by simp) ?_
          refine EachU.cons (o := { dst := some 121, op := Op.buildSlice 36 1 #[(0, Operand.tmp 120)], type := 36, pos := "make.go:539", after := #[{ on := 11, ground := Ground.data }], guard := none }) rfl (fun Kz hK => ?_) EachU.nil
          go_simp
          have HDn := Lib.hid (HD.out.keep (World.grownBy_alloc _ (.cells #[.int .i64 y1, .int .i64 y2, .int .i64 y3] 62) none))
          clear HD
          have HD := HDn
          clear HDn
          refine hK.out _ _ (fun _ => Lib.hid HD.out.g.ab) (fun hH2 => ?_)
          clear hK Kz hHeld
          have hHeld := hH2 rfl
          clear hH2
          (try simp only [Act.put, List.setIfInBounds_toArray, List.set_cons_zero, List.set_cons_succ])
          refine anyU_ready (rs := [13]) (by kernel_rfl) (by simp) ?_
          refine EachU.cons (o := { dst := some 122, op := Op.call { callee := Callee.builtin Builtin.append, args := #[Operand.tmp 110, Operand.tmp 121], argTypes := #[36, 36] }, type := 36, pos := "make.go:539", after := #[{ on := 1, ground := Ground.data }, { on := 12, ground := Ground.data }, { on := 10, ground := Ground.chain }], guard := none }) rfl (fun Kz hK => ?_) EachU.nil
          refine (astep_app t3C 3 24 (by decide) (fun _ => rfl) t3_one 62 36 ic _ Try.underlying36 hic hc0 hc1 hc2 rfl (by decide) (by rfl) _ _ (by rfl) (B + 1) vC C (by rfl) HD.out.g.oC (some ⟨_, 0, none⟩) 1 1 [⟨y1, y2, y3⟩] (by rfl) rfl (by simp) (fun _ => True) (rdf_one _ trivial (cells3 _ _ _ _ _) 1) (by omega) (by simp; omega) (by have := HD.out.g.sz; omega) ?_)
          intro p4 c4 w8 hown hg hat
          have HD5 := Lib.hid (HD.out.addC ha (M := C ++ [⟨y1, y2, y3⟩]) hown hg hat)
          obtain ⟨c90, c91, c92, c93, c94⟩ := HD5.out.g.cells
          have fB := frozen_of_row _ _ 4 _ _ HD5.out.g.ab
          clear hown hg hat HD
          refine hK.out _ _ (fun h => by cases h) (fun _ => ?_)
          clear hK Kz
          (try simp only [Act.put, List.setIfInBounds_toArray, List.set_cons_zero, List.set_cons_succ])
          refine anyU_ready (rs := [14]) (by kernel_rfl) (by simp) ?_
          refine EachU.cons (o := { dst := some 123, op := Op.fieldAddr 38 (Operand.tmp 7) 4, type := 0, pos := "make.go:539", after := #[{ on := 0, ground := Ground.phase }, { on := 1, ground := Ground.phase }, { on := 2, ground := Ground.phase }, { on := 3, ground := Ground.phase }, { on := 4, ground := Ground.phase }, { on := 5, ground := Ground.phase }, { on := 6, ground := Ground.phase }, { on := 7, ground := Ground.phase }, { on := 8, ground := Ground.phase }, { on := 9, ground := Ground.phase }, { on := 10, ground := Ground.phase }, { on := 11, ground := Ground.phase }, { on := 12, ground := Ground.phase }, { on := 13, ground := Ground.phase }], guard := none }) rfl (fun Kz hK => ?_) EachU.nil
          go_simp
          refine hK.out _ _ (fun h => by cases h) (fun _ => ?_)
          clear hK Kz
          (try simp only [Act.put, List.setIfInBounds_toArray, List.set_cons_zero, List.set_cons_succ])
          refine anyU_ready (rs := [15]) (by kernel_rfl) (by simp) ?_
          refine EachU.cons (o := { dst := none, op := Op.store 36 (Operand.tmp 123) (Operand.tmp 122), type := 0, pos := "make.go:539", after := #[{ on := 14, ground := Ground.data }, { on := 13, ground := Ground.data }, { on := 13, ground := Ground.chain }, { on := 0, ground := Ground.phase }, { on := 1, ground := Ground.phase }, { on := 2, ground := Ground.phase }, { on := 3, ground := Ground.phase }, { on := 4, ground := Ground.phase }, { on := 5, ground := Ground.phase }, { on := 6, ground := Ground.phase }, { on := 7, ground := Ground.phase }, { on := 8, ground := Ground.phase }, { on := 9, ground := Ground.phase }, { on := 10, ground := Ground.phase }, { on := 11, ground := Ground.phase }, { on := 12, ground := Ground.phase }, { on := 13, ground := Ground.phase }], guard := none }) rfl (fun Kz hK => ?_) EachU.nil
          go_simp
          refine hK.out _ _ (fun h => by cases h) (fun _ => ?_)
          clear hK Kz
          (try simp only [Act.put, List.setIfInBounds_toArray, List.set_cons_zero, List.set_cons_succ])
          refine anyU_done (by kernel_rfl) ?_ _
          have HN := Lib.hid (HD5.out.putC ha)
          clear HD5 hHeld c90 c91 c92 c93 c94 fB
          go_wp2_with fail
          go_meet
          exact ⟨_, _, _, _, _, _, Lib.hid ⟨HBAD.out _ _ _ _ (by first | omega | (rw [List.length_append]; simp; omega)) (by first | omega | (rw [List.length_append]; simp; omega)), HN.out⟩⟩
      · skip
        go_wp2_with fail
        go_loopw [10] (fun i wr => ∃ k : Nat, 30 ≤ k ∧ k ≤ 54 ∧ i = .int .i64 (k : Int) ∧ ∃ vL L, (L : List T3).length ≤ 6 + (k - 30) ∧ Hid (AT a w w.heap.size B R q cp vL vC vL vC L C wr)) (fun i _ => 54 - (RowKit.intOf i).toNat)
        case atStart => exact ⟨30, by omega, by omega, rfl, vL0, L, by omega, H7⟩
        case round =>
          obtain ⟨k, hk1, hk2, rfl, vL, L2, hL2, HK⟩ := hrel
          clear H7
          by_cases hlt : k < 54
          · obtain ⟨c0, c1, c2, c3, c4⟩ := HK.out.g.cells
            go_wp2_with (at_builtin; refine hold_on ?_)
            refine Lib.hid ?_
            refine wpList_append_lies _ rfl _ _ 35 rfl (B + 1) 73 ir (.agg #[.int .i64 0, .int .i64 0, .int .i64 0]) 3 24 Try.underlying35 hir hr0 hr1 hr2 rfl (by decide) vL L2.length (L2.flatMap t3C) rfl (HK.out.g.oL.alloc _) ⟨wr.heap.size, 0, none⟩ 1 1 [.int .i64 (k : Int), .int .i64 1, .int .i64 0] rfl rfl (cells3 wr _ _ _ _) ?_ (by decide) ?_ ?_ ?_ _ rfl ?_
            · intro u hu; simp at hu; rcases hu with rfl | rfl | rfl <;> rfl
            · unfold maxLen; omega
            · omega
            · have := HK.out.g.sz; simp; omega
            intro g cap w3 hown3 hg3 hat hlt3
            have T1 := Lib.hid ((HK.out.keep (World.grownBy_alloc wr _ none)).addL ha (M := L2 ++ [⟨(k : Int), 1, 0⟩]) (by rw [List.length_append, List.flatMap_append]; exact hown3) hg3 (hat.elim (fun h => Or.inl (by rw [h]; rfl)) (fun h => Or.inr (by rw [h]; rfl))))
            obtain ⟨f0, f1, f2, f3, f4⟩ := T1.out.g.cells
            have ff := frozen_of_row _ _ 3 _ _ T1.out.g.ab
            have T2 := Lib.hid (T1.out.putL ha)
            clear hown3 hg3 hat hlt3 T1 HK c0 c1 c2 c3 c4
            go_wp2_with fail
            exact ⟨⟨k + 1, by omega, by omega, congrArg _ (by omega), _, _, by rw [List.length_append]; simp; omega, T2⟩, by simp only [RowKit.intOf]; omega⟩
          · obtain rfl : k = 54 := by omega
            go_wp2_with fail
            go_meet
            exact ⟨_, _, _, _, _, _, Lib.hid ⟨HBAD.out _ _ _ _ (by omega) (by omega), HK.out⟩⟩
      · skip
        by_cases hl0 : 0 < L.length
        · obtain ⟨g3, cap3, rfl⟩ : ∃ g cap, vL0 = .slice (some ⟨g, 0, none⟩) L.length cap := by
            rcases own_formA H7.out.g.oL with ⟨-, e0⟩ | ⟨g, cap, e, -, -⟩
            · omega
            · exact ⟨g, cap, e⟩
          obtain ⟨c0, c1, c2, c3, c4⟩ := H7.out.g.cells
          go_upto_region 15 with fail
          clear c0 c1 c2 c3 c4
          have HD := Lib.hid (H7.out.keep (grown_drew (grown_refl w6 none)))
          clear H7
          refine region_until (S := fun w' => Hid (w'.heap[B]? = some (.cells #[.int .i64 R, .int .i64 q, .bool cp, .slice (some ⟨g3, 0, none⟩) L.length cap3, vC] 38 (0, 0)))) (fun j => j == 6) (by kernel_rfl) (Lib.hid HD.out.g.ab) (fun hHeld => ?_)
          refine anyU_take (i := 0) (oi := { dst := some 73, op := Op.fieldAddr 38 (Operand.tmp 7) 3, type := 0, pos := "make.go:546", after := #[], guard := none }) (v := ?_) rfl (by kernel_rfl) (by kernel_rfl) (by kernel_rfl) (by kernel_rfl) (by kernel_rfl) (fun _ _ _ h => h) (Or.inl ⟨by rfl, ?_⟩) hHeld ?_
          rotate_left 1
          · intro u hSu
            have q0 := (cell_of_row _ _ 3 _ _ _ hSu.out)
            go_simp
            first | done | with_reducible rfl
          (try simp only [Act.put, List.setIfInBounds_toArray, List.set_cons_zero, List.set_cons_succ])
          refine anyU_take (i := 1) (oi := { dst := some 74, op := Op.load 35 (Operand.tmp 73), type := 35, pos := "make.go:546", after := #[{ on := 0, ground := Ground.data }], guard := none }) (v := ?_) rfl (by kernel_rfl) (by kernel_rfl) (by kernel_rfl) (by kernel_rfl) (by kernel_rfl) (fun _ _ _ h => h) (Or.inl ⟨by rfl, ?_⟩) hHeld ?_
          rotate_left 1
          · intro u hSu
            have q0 := (cell_of_row _ _ 3 _ _ _ hSu.out)
            go_simp
            first | done | with_reducible rfl
          (try simp only [Act.put, List.setIfInBounds_toArray, List.set_cons_zero, List.set_cons_succ])
          refine anyU_take (i := 2) (oi := { dst := some 75, op := Op.move (Operand.tmp 0), type := 26, pos := "make.go:546", after := #[], guard := none }) (v := ?_) rfl (by kernel_rfl) (by kernel_rfl) (by kernel_rfl) (by kernel_rfl) (by kernel_rfl) (fun _ _ _ h => h) (Or.inl ⟨by rfl, ?_⟩) hHeld ?_
          rotate_left 1
          · intro u hSu
            have q0 := (cell_of_row _ _ 3 _ _ _ hSu.out)
            go_simp
            first | done | with_reducible rfl
          (try simp only [Act.put, List.setIfInBounds_toArray, List.set_cons_zero, List.set_cons_succ])
          refine anyU_ready (rs := [3]) (by kernel_rfl) (by simp) ?_
          refine EachU.cons (o := { dst := some 76, op := Op.call { callee := Callee.value (Operand.func 56), args := #[Operand.tmp 75], argTypes := #[26] }, type := 3, pos := "make.go:546", after := #[{ on := 2, ground := Ground.data }], guard := none }) rfl (fun Kz hK => ?_) EachU.nil
          go_simp
          go_at_call 56
          refine (wild_any a _ HD.out.st.2).mono ?_
          rintro e w5 ⟨x, rfl, -, hs⟩
          have HDn := Lib.hid (HD.out.tape ha hs)
          clear hs HD
          have HD := HDn
          clear HDn
          refine hK.out _ _ (fun _ => Lib.hid HD.out.g.ab) (fun hH2 => ?_)
          clear hK Kz hHeld
          have hHeld := hH2 rfl
          clear hH2
          (try simp only [Act.put, List.setIfInBounds_toArray, List.set_cons_zero, List.set_cons_succ])
          refine anyU_take (i := 4) (oi := { dst := some 77, op := Op.indexAddr 35 (Operand.tmp 74) (Operand.const (Value.int IntKind.i64 0)), type := 0, pos := "make.go:546", after := #[{ on := 1, ground := Ground.data }, { on := 0, ground := Ground.phase }, { on := 1, ground := Ground.phase }, { on := 2, ground := Ground.phase }, { on := 3, ground := Ground.phase }], guard := none }) (v := ?_) rfl (by kernel_rfl) (by kernel_rfl) (by kernel_rfl) (by kernel_rfl) (by kernel_rfl) (fun _ _ _ h => h) (Or.inl ⟨by rfl, ?_⟩) hHeld ?_
          rotate_left 1
          · intro u hSu
            have q0 := (cell_of_row _ _ 3 _ _ _ hSu.out)
            go_simp
            first | done | with_reducible rfl
          (try simp only [Act.put, List.setIfInBounds_toArray, List.set_cons_zero, List.set_cons_succ])
          refine anyU_take (i := 5) (oi := { dst := some 78, op := Op.fieldAddr 73 (Operand.tmp 77) 1, type := 0, pos := "make.go:546", after := #[{ on := 4, ground := Ground.data }, { on := 0, ground := Ground.phase }, { on := 1, ground := Ground.phase }, { on := 2, ground := Ground.phase }, { on := 3, ground := Ground.phase }], guard := none }) (v := ?_) rfl (by kernel_rfl) (by kernel_rfl) (by kernel_rfl) (by kernel_rfl) (by kernel_rfl) (fun _ _ _ h => h) (Or.inl ⟨by rfl, ?_⟩) hHeld ?_
          rotate_left 1
          · intro u hSu
            have q0 := (cell_of_row _ _ 3 _ _ _ hSu.out)
            go_simp
            first | done | with_reducible rfl
          (try simp only [Act.put, List.setIfInBounds_toArray, List.set_cons_zero, List.set_cons_succ])
          refine anyU_ready (rs := [6]) (by kernel_rfl) (by simp) ?_
          refine EachU.cons (o := { dst := none, op := Op.store 3 (Operand.tmp 78) (Operand.tmp 76), type := 0, pos := "make.go:546", after := #[{ on := 5, ground := Ground.data }, { on := 3, ground := Ground.data }, { on := 3, ground := Ground.chain }, { on := 0, ground := Ground.phase }, { on := 1, ground := Ground.phase }, { on := 2, ground := Ground.phase }, { on := 3, ground := Ground.phase }], guard := none }) rfl (fun Kz hK => ?_) EachU.nil
          have hcl := HD.out.g.oL.cellAt 1 (by omega)
          have ffz := HD.out.g.oL.frozenAt 1
          obtain ⟨y, hy⟩ : ∃ y, (L.flatMap t3C)[1]? = some y := by
            cases L with
            | nil => cases hl0
            | cons z t => exact ⟨_, rfl⟩
          rw [hy] at hcl
          obtain ⟨L', hL', HS⟩ := HD.out.set0 ha hl0 x
          have HS := Lib.hid HS
          clear HD
          go_simp
          refine hK.out _ _ (fun h => by cases h) (fun _ => ?_)
          clear hK Kz
          (try simp only [Act.put, List.setIfInBounds_toArray, List.set_cons_zero, List.set_cons_succ])
          refine anyU_done (by kernel_rfl) ?_ _
          clear hHeld hcl ffz hy
          go_wp2_with fail
          go_meet
          exact ⟨_, _, _, _, _, _, Lib.hid ⟨HBAD.out _ _ _ _ (by omega) (by omega), HS.out⟩⟩
        · have hl1 : (L.length : Int) ≤ 0 := by omega
          clear hl0
          obtain ⟨pL, cL, rfl, -, -⟩ := own_shape H7.out.g.oL
          obtain ⟨c0, c1, c2, c3, c4⟩ := H7.out.g.cells
          go_wp2_with fail
          go_meet
          exact ⟨_, _, _, _, _, _, Lib.hid ⟨HBAD.out _ _ _ _ (by omega) (by omega), H7.out⟩⟩
  case rest =>
  obtain ⟨r, q3, vL, vC, L, C, HK⟩ := hcut
  clear H5 HGL HGC hLl hCl
  obtain ⟨pL, cL, rfl, -, -⟩ := own_shape HK.out.2.g.oL
  obtain ⟨pC, cC, rfl, -, -⟩ := own_shape HK.out.2.g.oC
  have HPC : Hid ((pL = none → cL = 0) ∧ (pC = none → cC = 0)) := Lib.hid ⟨own_nilc HK.out.2.g.oL, own_nilc HK.out.2.g.oC⟩
  have HO := Lib.hid (HK.out.2.g.ok rfl rfl)
  obtain ⟨c0, c1, c2, c3, c4⟩ := HK.out.2.g.cells
  obtain ⟨d0, d1, d2, d3, d4⟩ := row5 HK.out.2.g.zb
  have hlo := HK.out.2.g.lo
  have f0 := frozen_of_row _ _ 0 _ _ HK.out.2.g.zb
  have f1 := frozen_of_row _ _ 1 _ _ HK.out.2.g.zb
  have f2 := frozen_of_row _ _ 2 _ _ HK.out.2.g.zb
  have f3 := frozen_of_row _ _ 3 _ _ HK.out.2.g.zb
  have f4 := frozen_of_row _ _ 4 _ _ HK.out.2.g.zb
  obtain ⟨t1, t2⟩ := store5 (.int .i64 r) (.int .i64 q3) (.bool cp) (.slice pL L.length cL) (.slice pC C.length cC) HK.out.2.g.zb
  have HT := Lib.hid (And.intro t1 (And.intro (HO.out.grown t2 (fun b hb e => by have := Option.some.inj e; omega)) (HK.out.2.st.newA t2 (Nat.le_refl _) ha)))
  have HTA := Lib.hid HK.out.1
  clear t1 t2 HK HO
  go_wp2_with fail
  refine bodyPost_ret (res_adv rfl _ _ w.heap.size _ _ _ _ _ rfl HT.out.1) rfl ?_
  exact ⟨⟨r, q3, cp, L, C, pL, cL, pC, cC⟩, rfl, HTA.out, HT.out.2.1.mono (fun b hb => by omega), HT.out.2.2, HPC.out⟩
end Go.Proofs.Ytnpkihioklpnmaa

/- Parts of the proof, packed: AdTap0, PkRest, AdDec, AdSq. -/
import Derived.Test.YtgmjpcajobhepaaDoorOr12
import Derived.Deep.RegionHeld3
import Derived.Deep.CutBlock
import Derived.Deep.CutRange
import Derived.Test.YtgmjpcajobhepaaDoorOr9
import Derived.Test.YtgmjpcajobhepaaDoorOr6
import Derived.Test.YtgmjpcajobhepaaDoorOr11
import Derived.Laws.StructEq
/- The tape's Advert without mistakes. -/
namespace Go.Proofs.YtgmjpcajobhepaaDoor
open Go.RowKit Bs
set_option maxRecDepth 100000 in
set_option maxHeartbeats 12800000 in
theorem adv0_any (a : Nat) (R n : Int) (hR : I64 R) (hn : I64 n) (hn0 : ¬ 0 < n) (w : World) (hT : Tp w a) :
    Calls Tryd.prog 11 #[.pointer (some ⟨a, 0, none⟩), .int .i64 R, .int .i64 n] w fun e w' => TAPost a R n w e w' := by
  obtain ⟨ir, hir, hr0, hr1, hr2⟩ := info_parts info_re
  obtain ⟨ic, hic, hc0, hc1, hc2⟩ := info_parts info_cm
  have ha := hT.lt
  have kz := heap_alloc_new w (.cells #[.int .i64 0, .int .i64 0, .bool false, .slice none 0 0, .slice none 0 0] 26)
  have kg := World.grownBy_alloc w (.cells #[.int .i64 0, .int .i64 0, .bool false, .slice none 0 0, .slice none 0 0] 26) none
  have H0 := Lib.hid (And.intro kz (show St a w _ from ⟨grown_none kg _, hT.keep kg⟩))
  have HZ : Hid (w.heap.size < (w.alloc (.cells #[.int .i64 0, .int .i64 0, .bool false, .slice none 0 0, .slice none 0 0] 26)).heap.size) := Lib.hid (by simp)
  clear kz kg hT
  go_enter Tryd.func11, Tryd.ntmps11
  go_upto_region 1 with fail
  generalize w.alloc _ = wa at *
  have HT := Lib.hid (H0.out.2.2.alloc (.cells #[.int .i64 1, .int .i64 1, .int .i64 2, .int .i64 3, .int .i64 3, .int .i64 500000, .int .i64 1000000] 3))
  have HA : Hid (Among (fun x => 1 ≤ x ∧ x ≤ 1000000) (wa.alloc (.cells #[.int .i64 1, .int .i64 1, .int .i64 2, .int .i64 3, .int .i64 3, .int .i64 500000, .int .i64 1000000] 3)) a wa.heap.size 0 7) := Lib.hid (among_list _ wa a [1, 1, 2, 3, 3, 500000, 1000000] #[.int .i64 1, .int .i64 1, .int .i64 2, .int .i64 3, .int .i64 3, .int .i64 500000, .int .i64 1000000] 3 H0.out.2.2.lt rfl (by intro x hx; simp at hx; omega))
  go_wp2_with fail
  refine (pick_any _ a _ 0 7 7 (by omega) (by omega) _ HT.out HA.out).mono ?_
  rintro e w1 ⟨q, rfl, hq, hs⟩
  have hs1 := St.alloc_left hs
  have HQ := Lib.hid hq
  have H1 := Lib.hid (And.intro (kept_row H0.out.1 hs1.1 (fun e => by have := Option.some.inj e; omega)) (And.intro (H0.out.2.trans hs1) (Nat.lt_of_lt_of_le HZ.out hs1.1.size)))
  clear hs hs1 hq HT HA H0 HZ
  go_wp2_with fail
  refine (next_any a 3 (by unfold I64; omega) _ H1.out.2.1.2).mono ?_
  rintro e w2 ⟨y, rfl, -, hs⟩
  obtain ⟨cp, hcp⟩ : ∃ cp, decide (0 < y) = cp := ⟨_, rfl⟩
  have H2 := Lib.hid (And.intro (kept_row H1.out.1 hs.1 (fun e => by have := Option.some.inj e; omega)) (And.intro (H1.out.2.1.trans hs) (Nat.lt_of_lt_of_le H1.out.2.2 hs.1.size)))
  have k3 := World.grownBy_alloc w2 (.cells #[.int .i64 R, .int .i64 q, .bool cp, .slice none 0 0, .slice none 0 0] 26) none
  have H3 : Hid (AT a w w.heap.size w2.heap.size R q cp (.slice none 0 0) (.slice none 0 0) (.slice none 0 0) (.slice none 0 0) [] [] (w2.alloc (.cells #[.int .i64 R, .int .i64 q, .bool cp, .slice none 0 0, .slice none 0 0] 26))) := Lib.hid ⟨ag_start H2.out.1 (Nat.le_refl _) H2.out.2.2, H2.out.2.1.trans ⟨grown_none k3 _, H2.out.2.1.2.keep k3⟩⟩
  clear hs H1 H2 k3
  go_upto_region 2 with fail
  clear hcp
  generalize w2.alloc _ = w3 at *
  generalize w2.heap.size = B at *
  unfold I64 at hR hn
  go_upto_block 0 with fail
  go_cut [] from 19 to 41 (fun wx => ∃ vL L, (L : List T3).length ≤ 6 ∧ Hid (GL R 7 L ∧ AT a w w.heap.size B R q cp vL (.slice none 0 0) vL (.slice none 0 0) L [] wx))
  case first =>
    go_wp2_with fail
    go_loopw [8] (fun i wr => ∃ k : Nat, 1 ≤ k ∧ k ≤ 7 ∧ i = .int .i64 (k : Int) ∧ ∃ vL L, (L : List T3).length ≤ k - 1 ∧ Hid (GL R (k : Int) L ∧ AT a w w.heap.size B R q cp vL (.slice none 0 0) vL (.slice none 0 0) L [] wr)) (fun i _ => 7 - (RowKit.intOf i).toNat)
    case atStart => exact ⟨1, by omega, by omega, rfl, _, [], Nat.zero_le _, Lib.hid ⟨GL.nil _ _, H3.out⟩⟩
    case round =>
      obtain ⟨k, hk1, hk7, rfl, vL, L, hLl, HK⟩ := hrel
      clear H3
      by_cases hlt : k ≤ 6
      · by_cases hkR : (k : Int) = R
        · have hb1 : ((k : Int) == R) = true := by simp [hkR]
          have hb2 : ((k : Int) != R) = false := by simp [hkR]
          have HN : Hid (GL R ((k + 1 : Nat) : Int) L ∧ AT a w w.heap.size B R q cp vL (.slice none 0 0) vL (.slice none 0 0) L [] wr) := Lib.hid ⟨by have := HK.out.1.next; rwa [show ((k + 1 : Nat) : Int) = (k : Int) + 1 by omega], HK.out.2⟩
          have hkR' := Lib.hid hkR
          clear HK hkR
          go_wp2_with fail
          exact ⟨⟨k + 1, by omega, by omega, congrArg _ (by omega), vL, L, by omega, HN⟩, by simp only [RowKit.intOf]; omega⟩
        · have hb1 : ((k : Int) == R) = false := by simp [hkR]
          have hb2 : ((k : Int) != R) = true := by simp [hkR]
          have hkR' := Lib.hid hkR
          clear hkR
          go_wp2_with fail
          refine (next_any a 2 (by unfold I64; omega) _ HK.out.2.st.2).mono ?_
          rintro e w4 ⟨y2, rfl, hy2, hs⟩
          have H4 := Lib.hid (And.intro HK.out.1 (HK.out.2.tape ha hs))
          clear hs HK
          have hy3 : y2 = 0 ∨ y2 = 1 := by have := hy2.1; have := hy2.2.1 (by decide); omega
          clear hy2
          rcases hy3 with rfl | rfl
          · go_upto_region 6 with fail
            have HG := Lib.hid H4.out.1
            have HD := Lib.hid (H4.out.2.keep (grown_drew (grown_refl w4 none)))
            clear H4
            refine region_until (S := fun w' => Hid (w'.heap[B]? = some (.cells #[.int .i64 R, .int .i64 q, .bool cp, vL, .slice none 0 0] 26 (0, 0)))) (fun j => j == 9 || j == 10 || j == 11) (by kernel_rfl) (Lib.hid HD.out.g.ab) (fun hHeld => ?_)
            refine anyU_take (i := 0) (oi := { dst := some 31, op := Op.fieldAddr 26 (Operand.tmp 7) 3, type := 0, pos := "make.go:522", after := #[], guard := none }) (v := ?_) rfl (by kernel_rfl) (by kernel_rfl) (by kernel_rfl) (by kernel_rfl) (by kernel_rfl) (fun _ _ _ h => h) (Or.inl ⟨by rfl, ?_⟩) hHeld ?_
            rotate_left 1
            · intro u hSu
              have q0 := (cell_of_row _ _ 3 _ _ _ hSu.out)
              go_simp
              first | done | with_reducible rfl
            (try simp only [Act.put, List.setIfInBounds_toArray, List.set_cons_zero, List.set_cons_succ])
            refine anyU_take (i := 1) (oi := { dst := some 32, op := Op.load 23 (Operand.tmp 31), type := 23, pos := "make.go:522", after := #[{ on := 0, ground := Ground.data }], guard := none }) (v := ?_) rfl (by kernel_rfl) (by kernel_rfl) (by kernel_rfl) (by kernel_rfl) (by kernel_rfl) (fun _ _ _ h => h) (Or.inl ⟨by rfl, ?_⟩) hHeld ?_
            rotate_left 1
            · intro u hSu
              have q0 := (cell_of_row _ _ 3 _ _ _ hSu.out)
              go_simp
              first | done | with_reducible rfl
            (try simp only [Act.put, List.setIfInBounds_toArray, List.set_cons_zero, List.set_cons_succ])
            refine anyU_take (i := 2) (oi := { dst := some 33, op := Op.move (Operand.tmp 8), type := 3, pos := "make.go:522", after := #[], guard := none }) (v := ?_) rfl (by kernel_rfl) (by kernel_rfl) (by kernel_rfl) (by kernel_rfl) (by kernel_rfl) (fun _ _ _ h => h) (Or.inl ⟨by rfl, ?_⟩) hHeld ?_
            rotate_left 1
            · intro u hSu
              have q0 := (cell_of_row _ _ 3 _ _ _ hSu.out)
              go_simp
              first | done | with_reducible rfl
            (try simp only [Act.put, List.setIfInBounds_toArray, List.set_cons_zero, List.set_cons_succ])
            refine anyU_take (i := 3) (oi := { dst := some 34, op := Op.move (Operand.tmp 0), type := 27, pos := "make.go:522", after := #[], guard := none }) (v := ?_) rfl (by kernel_rfl) (by kernel_rfl) (by kernel_rfl) (by kernel_rfl) (by kernel_rfl) (fun _ _ _ h => h) (Or.inl ⟨by rfl, ?_⟩) hHeld ?_
            rotate_left 1
            · intro u hSu
              have q0 := (cell_of_row _ _ 3 _ _ _ hSu.out)
              go_simp
              first | done | with_reducible rfl
            (try simp only [Act.put, List.setIfInBounds_toArray, List.set_cons_zero, List.set_cons_succ])
            refine anyU_take (i := 5) (oi := { dst := some 36, op := Op.move (Operand.tmp 0), type := 27, pos := "make.go:522", after := #[], guard := none }) (v := ?_) rfl (by kernel_rfl) (by kernel_rfl) (by kernel_rfl) (by kernel_rfl) (by kernel_rfl) (fun _ _ _ h => h) (Or.inl ⟨by rfl, ?_⟩) hHeld ?_
            rotate_left 1
            · intro u hSu
              have q0 := (cell_of_row _ _ 3 _ _ _ hSu.out)
              go_simp
              first | done | with_reducible rfl
            (try simp only [Act.put, List.setIfInBounds_toArray, List.set_cons_zero, List.set_cons_succ])
            refine anyU_ready (rs := [4]) (by kernel_rfl) (by simp) ?_
            refine EachU.cons (o := { dst := some 35, op := Op.call { callee := Callee.value (Operand.func 12), args := #[Operand.tmp 34, Operand.const (Value.int IntKind.i64 1), Operand.const (Value.int IntKind.i64 3)], argTypes := #[27, 3, 3] }, type := 3, pos := "make.go:522", after := #[{ on := 3, ground := Ground.data }], guard := none }) rfl (fun Kz hK => ?_) EachU.nil
            go_simp
            go_at_call 12
            refine (range_any a 1 3 (by omega) (by omega) (by omega) (by omega) _ HD.out.st.2).mono ?_
            rintro e w5 ⟨x2, rfl, hx, hs⟩
            have Hx2 := Lib.hid hx
            clear hx
            have HDn := Lib.hid (HD.out.tape ha hs)
            clear hs HD
            have HD := HDn
            clear HDn
            refine hK.out _ _ (fun _ => Lib.hid HD.out.g.ab) (fun hH2 => ?_)
            clear hK Kz hHeld
            have hHeld := hH2 rfl
            clear hH2
            (try simp only [Act.put, List.setIfInBounds_toArray, List.set_cons_zero, List.set_cons_succ])
            refine anyU_ready (rs := [6]) (by kernel_rfl) (by simp) ?_
            refine EachU.cons (o := { dst := some 37, op := Op.call { callee := Callee.value (Operand.func 22), args := #[Operand.tmp 36, Operand.const (Value.int IntKind.i64 3)], argTypes := #[27, 3] }, type := 3, pos := "make.go:522", after := #[{ on := 5, ground := Ground.data }, { on := 4, ground := Ground.chain }], guard := none }) rfl (fun Kz hK => ?_) EachU.nil
            go_simp
            go_at_call 22
            refine (next_any a 3 (by unfold I64; omega) _ HD.out.st.2).mono ?_
            rintro e w5 ⟨x3, rfl, hx, hs⟩
            have Hx3 := Lib.hid hx
            clear hx
            have HDn := Lib.hid (HD.out.tape ha hs)
            clear hs HD
            have HD := HDn
            clear HDn
            refine hK.out _ _ (fun _ => Lib.hid HD.out.g.ab) (fun hH2 => ?_)
            clear hK Kz hHeld
            have hHeld := hH2 rfl
            clear hH2
            (try simp only [Act.put, List.setIfInBounds_toArray, List.set_cons_zero, List.set_cons_succ])
            refine anyU_take (i := 7) (oi := { dst := some 38, op := Op.build 70 #[(0, Operand.tmp 33), (1, Operand.tmp 35), (2, Operand.tmp 37)], type := 70, pos := "make.go:522", after := #[{ on := 2, ground := Ground.data }, { on := 4, ground := Ground.data }, { on := 6, ground := Ground.data }], guard := none }) (v := ?_) rfl (by kernel_rfl) (by kernel_rfl) (by kernel_rfl) (by kernel_rfl) (by kernel_rfl) (fun _ _ _ h => h) (Or.inl ⟨by rfl, ?_⟩) hHeld ?_
            rotate_left 1
            · intro u hSu
              have q0 := (cell_of_row _ _ 3 _ _ _ hSu.out)
              go_simp
              first | done | with_reducible rfl
            (try simp only [Act.put, List.setIfInBounds_toArray, List.set_cons_zero, List.set_cons_succ])
            refine anyU_ready (rs := [8]) (by kernel_rfl) (by simp) ?_
            refine EachU.cons (o := { dst := some 39, op := Op.buildSlice 23 1 #[(0, Operand.tmp 38)], type := 23, pos := "make.go:522", after := #[{ on := 7, ground := Ground.data }], guard := none }) rfl (fun Kz hK => ?_) EachU.nil
            go_simp
            have HDn := Lib.hid (HD.out.keep (World.grownBy_alloc _ (.cells #[.int .i64 (k : Int), .int .i64 x2, .int .i64 x3] 70) none))
            clear HD
            have HD := HDn
            clear HDn
            refine hK.out _ _ (fun _ => Lib.hid HD.out.g.ab) (fun hH2 => ?_)
            clear hK Kz hHeld
            have hHeld := hH2 rfl
            clear hH2
            (try simp only [Act.put, List.setIfInBounds_toArray, List.set_cons_zero, List.set_cons_succ])
            refine anyU_ready (rs := [9]) (by kernel_rfl) (by simp) ?_
            refine EachU.cons (o := { dst := some 40, op := Op.call { callee := Callee.builtin Builtin.append, args := #[Operand.tmp 32, Operand.tmp 39], argTypes := #[23, 23] }, type := 23, pos := "make.go:522", after := #[{ on := 1, ground := Ground.data }, { on := 8, ground := Ground.data }, { on := 6, ground := Ground.chain }], guard := none }) rfl (fun Kz hK => ?_) EachU.nil
            refine (astep_app t3C 3 24 (by decide) (fun _ => rfl) t3_one 70 23 ir _ Tryd.underlying23 hir hr0 hr1 hr2 rfl (by decide) (by rfl) _ _ (by rfl) (B + 1) vL L (by rfl) HD.out.g.oL (some ⟨_, 0, none⟩) 1 1 [⟨(k : Int), x2, x3⟩] (by rfl) rfl (by simp) (fun _ => True) (rdf_one _ trivial (cells3 _ _ _ _ _) 1) (by omega) (by simp; omega) (by have := HD.out.g.sz; omega) ?_)
            intro p4 c4 w8 hown hg hat
            have HD5 := Lib.hid (HD.out.addL ha (M := L ++ [⟨(k : Int), x2, x3⟩]) hown hg hat)
            obtain ⟨c90, c91, c92, c93, c94⟩ := HD5.out.g.cells
            have fB := frozen_of_row _ _ 3 _ _ HD5.out.g.ab
            clear hown hg hat HD
            refine hK.out _ _ (fun h => by cases h) (fun _ => ?_)
            clear hK Kz
            (try simp only [Act.put, List.setIfInBounds_toArray, List.set_cons_zero, List.set_cons_succ])
            refine anyU_ready (rs := [10]) (by kernel_rfl) (by simp) ?_
            refine EachU.cons (o := { dst := some 41, op := Op.fieldAddr 26 (Operand.tmp 7) 3, type := 0, pos := "make.go:522", after := #[{ on := 0, ground := Ground.phase }, { on := 1, ground := Ground.phase }, { on := 2, ground := Ground.phase }, { on := 3, ground := Ground.phase }, { on := 4, ground := Ground.phase }, { on := 5, ground := Ground.phase }, { on := 6, ground := Ground.phase }, { on := 7, ground := Ground.phase }, { on := 8, ground := Ground.phase }, { on := 9, ground := Ground.phase }], guard := none }) rfl (fun Kz hK => ?_) EachU.nil
            go_simp
            refine hK.out _ _ (fun h => by cases h) (fun _ => ?_)
            clear hK Kz
            (try simp only [Act.put, List.setIfInBounds_toArray, List.set_cons_zero, List.set_cons_succ])
            refine anyU_ready (rs := [11]) (by kernel_rfl) (by simp) ?_
            refine EachU.cons (o := { dst := none, op := Op.store 23 (Operand.tmp 41) (Operand.tmp 40), type := 0, pos := "make.go:522", after := #[{ on := 10, ground := Ground.data }, { on := 9, ground := Ground.data }, { on := 9, ground := Ground.chain }, { on := 0, ground := Ground.phase }, { on := 1, ground := Ground.phase }, { on := 2, ground := Ground.phase }, { on := 3, ground := Ground.phase }, { on := 4, ground := Ground.phase }, { on := 5, ground := Ground.phase }, { on := 6, ground := Ground.phase }, { on := 7, ground := Ground.phase }, { on := 8, ground := Ground.phase }, { on := 9, ground := Ground.phase }], guard := none }) rfl (fun Kz hK => ?_) EachU.nil
            go_simp
            refine hK.out _ _ (fun h => by cases h) (fun _ => ?_)
            clear hK Kz
            (try simp only [Act.put, List.setIfInBounds_toArray, List.set_cons_zero, List.set_cons_succ])
            refine anyU_done (by kernel_rfl) ?_ _
            have HN := Lib.hid (And.intro (HG.out.add x2 x3 (by omega) hkR'.out (by have h := Hx2.out; unfold RangeOf at h; omega) (by have h := Hx3.out; unfold CutOf at h; omega)) (HD5.out.putL ha))
            rw [show (k : Int) + 1 = ((k + 1 : Nat) : Int) by omega] at HN
            clear HD5 hHeld c90 c91 c92 c93 c94 fB HG
            go_wp2_with fail
            exact ⟨⟨k + 1, by omega, by omega, congrArg _ (by omega), _, _, by rw [List.length_append]; simp; omega, HN⟩, by simp only [RowKit.intOf]; omega⟩
          · have HN : Hid (GL R ((k + 1 : Nat) : Int) L ∧ AT a w w.heap.size B R q cp vL (.slice none 0 0) vL (.slice none 0 0) L [] w4) := Lib.hid ⟨by have := H4.out.1.next; rwa [show ((k + 1 : Nat) : Int) = (k : Int) + 1 by omega], H4.out.2⟩
            clear H4
            go_wp2_with fail
            exact ⟨⟨k + 1, by omega, by omega, congrArg _ (by omega), vL, L, by omega, HN⟩, by simp only [RowKit.intOf]; omega⟩
      · obtain rfl : k = 7 := by omega
        go_wp2_with fail
        go_meet
        exact ⟨vL, L, by omega, HK⟩
  case rest =>
  obtain ⟨vL, L, hLl, HK⟩ := hcut
  clear H3
  obtain ⟨vL0, hvL0⟩ : ∃ v, v = vL := ⟨_, rfl⟩
  rw [← hvL0] at HK
  clear hvL0
  go_upto_block 2 with fail
  go_cut [] from 42 to 59 (fun wx => ∃ vC C, (C : List T3).length ≤ 2 ∧ Hid (GC 2 C ∧ AT a w w.heap.size B R q cp vL0 vC vL0 vC L C wx))
  case first =>
    have HGL := Lib.hid HK.out.1
    go_wp2_with fail
    go_loopw [9] (fun i wr => ∃ k : Nat, k ≤ 2 ∧ i = .int .i64 (k : Int) ∧ ∃ vC C, (C : List T3).length ≤ k ∧ Hid (GC (k : Int) C ∧ AT a w w.heap.size B R q cp vL0 vC vL0 vC L C wr)) (fun i _ => 2 - (RowKit.intOf i).toNat)
    case atStart => exact ⟨0, by omega, rfl, _, [], Nat.le_refl _, Lib.hid ⟨GC.nil _, HK.out.2⟩⟩
    case round =>
      obtain ⟨k, hk2, rfl, vC, C, hCl, HKK⟩ := hrel
      clear HK
      by_cases hlt : k < 2
      · go_wp2_with fail
        refine (next_any a 2 (by unfold I64; omega) _ HKK.out.2.st.2).mono ?_
        rintro e w4 ⟨y2, rfl, hy2, hs⟩
        have H4 := Lib.hid (And.intro HKK.out.1 (HKK.out.2.tape ha hs))
        clear hs HKK
        have hy3 : y2 = 0 ∨ y2 = 1 := by have := hy2.1; have := hy2.2.1 (by decide); omega
        clear hy2
        rcases hy3 with rfl | rfl
        · go_upto_region 11 with fail
          have HG := Lib.hid H4.out.1
          have HD := Lib.hid (H4.out.2.keep (grown_drew (grown_refl w4 none)))
          clear H4
          refine region_until (S := fun w' => Hid (w'.heap[B]? = some (.cells #[.int .i64 R, .int .i64 q, .bool cp, vL0, vC] 26 (0, 0)))) (fun j => j == 9 || j == 10 || j == 11) (by kernel_rfl) (Lib.hid HD.out.g.ab) (fun hHeld => ?_)
          refine anyU_take (i := 0) (oi := { dst := some 49, op := Op.fieldAddr 26 (Operand.tmp 7) 4, type := 0, pos := "make.go:527", after := #[], guard := none }) (v := ?_) rfl (by kernel_rfl) (by kernel_rfl) (by kernel_rfl) (by kernel_rfl) (by kernel_rfl) (fun _ _ _ h => h) (Or.inl ⟨by rfl, ?_⟩) hHeld ?_
          rotate_left 1
          · intro u hSu
            have q0 := (cell_of_row _ _ 4 _ _ _ hSu.out)
            go_simp
            first | done | with_reducible rfl
          (try simp only [Act.put, List.setIfInBounds_toArray, List.set_cons_zero, List.set_cons_succ])
          refine anyU_take (i := 1) (oi := { dst := some 50, op := Op.load 24 (Operand.tmp 49), type := 24, pos := "make.go:527", after := #[{ on := 0, ground := Ground.data }], guard := none }) (v := ?_) rfl (by kernel_rfl) (by kernel_rfl) (by kernel_rfl) (by kernel_rfl) (by kernel_rfl) (fun _ _ _ h => h) (Or.inl ⟨by rfl, ?_⟩) hHeld ?_
          rotate_left 1
          · intro u hSu
            have q0 := (cell_of_row _ _ 4 _ _ _ hSu.out)
            go_simp
            first | done | with_reducible rfl
          (try simp only [Act.put, List.setIfInBounds_toArray, List.set_cons_zero, List.set_cons_succ])
          refine anyU_take (i := 2) (oi := { dst := some 51, op := Op.move (Operand.tmp 9), type := 3, pos := "make.go:527", after := #[], guard := none }) (v := ?_) rfl (by kernel_rfl) (by kernel_rfl) (by kernel_rfl) (by kernel_rfl) (by kernel_rfl) (fun _ _ _ h => h) (Or.inl ⟨by rfl, ?_⟩) hHeld ?_
          rotate_left 1
          · intro u hSu
            have q0 := (cell_of_row _ _ 4 _ _ _ hSu.out)
            go_simp
            first | done | with_reducible rfl
          (try simp only [Act.put, List.setIfInBounds_toArray, List.set_cons_zero, List.set_cons_succ])
          refine anyU_take (i := 3) (oi := { dst := some 52, op := Op.move (Operand.tmp 0), type := 27, pos := "make.go:527", after := #[], guard := none }) (v := ?_) rfl (by kernel_rfl) (by kernel_rfl) (by kernel_rfl) (by kernel_rfl) (by kernel_rfl) (fun _ _ _ h => h) (Or.inl ⟨by rfl, ?_⟩) hHeld ?_
          rotate_left 1
          · intro u hSu
            have q0 := (cell_of_row _ _ 4 _ _ _ hSu.out)
            go_simp
            first | done | with_reducible rfl
          (try simp only [Act.put, List.setIfInBounds_toArray, List.set_cons_zero, List.set_cons_succ])
          refine anyU_take (i := 5) (oi := { dst := some 54, op := Op.move (Operand.tmp 0), type := 27, pos := "make.go:527", after := #[], guard := none }) (v := ?_) rfl (by kernel_rfl) (by kernel_rfl) (by kernel_rfl) (by kernel_rfl) (by kernel_rfl) (fun _ _ _ h => h) (Or.inl ⟨by rfl, ?_⟩) hHeld ?_
          rotate_left 1
          · intro u hSu
            have q0 := (cell_of_row _ _ 4 _ _ _ hSu.out)
            go_simp
            first | done | with_reducible rfl
          (try simp only [Act.put, List.setIfInBounds_toArray, List.set_cons_zero, List.set_cons_succ])
          refine anyU_ready (rs := [4]) (by kernel_rfl) (by simp) ?_
          refine EachU.cons (o := { dst := some 53, op := Op.call { callee := Callee.value (Operand.func 12), args := #[Operand.tmp 52, Operand.const (Value.int IntKind.i64 1), Operand.const (Value.int IntKind.i64 9)], argTypes := #[27, 3, 3] }, type := 3, pos := "make.go:527", after := #[{ on := 3, ground := Ground.data }], guard := none }) rfl (fun Kz hK => ?_) EachU.nil
          go_simp
          go_at_call 12
          refine (range_any a 1 9 (by omega) (by omega) (by omega) (by omega) _ HD.out.st.2).mono ?_
          rintro e w5 ⟨x2, rfl, hx, hs⟩
          have Hx2 := Lib.hid hx
          clear hx
          have HDn := Lib.hid (HD.out.tape ha hs)
          clear hs HD
          have HD := HDn
          clear HDn
          refine hK.out _ _ (fun _ => Lib.hid HD.out.g.ab) (fun hH2 => ?_)
          clear hK Kz hHeld
          have hHeld := hH2 rfl
          clear hH2
          (try simp only [Act.put, List.setIfInBounds_toArray, List.set_cons_zero, List.set_cons_succ])
          refine anyU_ready (rs := [6]) (by kernel_rfl) (by simp) ?_
          refine EachU.cons (o := { dst := some 55, op := Op.call { callee := Callee.value (Operand.func 35), args := #[Operand.tmp 54], argTypes := #[27] }, type := 3, pos := "make.go:527", after := #[{ on := 5, ground := Ground.data }, { on := 4, ground := Ground.chain }], guard := none }) rfl (fun Kz hK => ?_) EachU.nil
          go_simp
          go_at_call 35
          refine (length_any a _ HD.out.st.2).mono ?_
          rintro e w5 ⟨x3, rfl, hx, hs⟩
          have Hx3 := Lib.hid hx
          clear hx
          have HDn := Lib.hid (HD.out.tape ha hs)
          clear hs HD
          have HD := HDn
          clear HDn
          refine hK.out _ _ (fun _ => Lib.hid HD.out.g.ab) (fun hH2 => ?_)
          clear hK Kz hHeld
          have hHeld := hH2 rfl
          clear hH2
          (try simp only [Act.put, List.setIfInBounds_toArray, List.set_cons_zero, List.set_cons_succ])
          refine anyU_take (i := 7) (oi := { dst := some 56, op := Op.build 73 #[(0, Operand.tmp 51), (1, Operand.tmp 53), (2, Operand.tmp 55)], type := 73, pos := "make.go:527", after := #[{ on := 2, ground := Ground.data }, { on := 4, ground := Ground.data }, { on := 6, ground := Ground.data }], guard := none }) (v := ?_) rfl (by kernel_rfl) (by kernel_rfl) (by kernel_rfl) (by kernel_rfl) (by kernel_rfl) (fun _ _ _ h => h) (Or.inl ⟨by rfl, ?_⟩) hHeld ?_
          rotate_left 1
          · intro u hSu
            have q0 := (cell_of_row _ _ 4 _ _ _ hSu.out)
            go_simp
            first | done | with_reducible rfl
          (try simp only [Act.put, List.setIfInBounds_toArray, List.set_cons_zero, List.set_cons_succ])
          refine anyU_ready (rs := [8]) (by kernel_rfl) (by simp) ?_
          refine EachU.cons (o := { dst := some 57, op := Op.buildSlice 24 1 #[(0, Operand.tmp 56)], type := 24, pos := "make.go:527", after := #[{ on := 7, ground := Ground.data }], guard := none }) rfl (fun Kz hK => ?_) EachU.nil
          go_simp
          have HDn := Lib.hid (HD.out.keep (World.grownBy_alloc _ (.cells #[.int .i64 (k : Int), .int .i64 x2, .int .i64 x3] 73) none))
          clear HD
          have HD := HDn
          clear HDn
          refine hK.out _ _ (fun _ => Lib.hid HD.out.g.ab) (fun hH2 => ?_)
          clear hK Kz hHeld
          have hHeld := hH2 rfl
          clear hH2
          (try simp only [Act.put, List.setIfInBounds_toArray, List.set_cons_zero, List.set_cons_succ])
          refine anyU_ready (rs := [9]) (by kernel_rfl) (by simp) ?_
          refine EachU.cons (o := { dst := some 58, op := Op.call { callee := Callee.builtin Builtin.append, args := #[Operand.tmp 50, Operand.tmp 57], argTypes := #[24, 24] }, type := 24, pos := "make.go:527", after := #[{ on := 1, ground := Ground.data }, { on := 8, ground := Ground.data }, { on := 6, ground := Ground.chain }], guard := none }) rfl (fun Kz hK => ?_) EachU.nil
          refine (astep_app t3C 3 24 (by decide) (fun _ => rfl) t3_one 73 24 ic _ Tryd.underlying24 hic hc0 hc1 hc2 rfl (by decide) (by rfl) _ _ (by rfl) (B + 1) vC C (by rfl) HD.out.g.oC (some ⟨_, 0, none⟩) 1 1 [⟨(k : Int), x2, x3⟩] (by rfl) rfl (by simp) (fun _ => True) (rdf_one _ trivial (cells3 _ _ _ _ _) 1) (by omega) (by simp; omega) (by have := HD.out.g.sz; omega) ?_)
          intro p4 c4 w8 hown hg hat
          have HD5 := Lib.hid (HD.out.addC ha (M := C ++ [⟨(k : Int), x2, x3⟩]) hown hg hat)
          obtain ⟨c90, c91, c92, c93, c94⟩ := HD5.out.g.cells
          have fB := frozen_of_row _ _ 4 _ _ HD5.out.g.ab
          clear hown hg hat HD
          refine hK.out _ _ (fun h => by cases h) (fun _ => ?_)
          clear hK Kz
          (try simp only [Act.put, List.setIfInBounds_toArray, List.set_cons_zero, List.set_cons_succ])
          refine anyU_ready (rs := [10]) (by kernel_rfl) (by simp) ?_
          refine EachU.cons (o := { dst := some 59, op := Op.fieldAddr 26 (Operand.tmp 7) 4, type := 0, pos := "make.go:527", after := #[{ on := 0, ground := Ground.phase }, { on := 1, ground := Ground.phase }, { on := 2, ground := Ground.phase }, { on := 3, ground := Ground.phase }, { on := 4, ground := Ground.phase }, { on := 5, ground := Ground.phase }, { on := 6, ground := Ground.phase }, { on := 7, ground := Ground.phase }, { on := 8, ground := Ground.phase }, { on := 9, ground := Ground.phase }], guard := none }) rfl (fun Kz hK => ?_) EachU.nil
          go_simp
          refine hK.out _ _ (fun h => by cases h) (fun _ => ?_)
          clear hK Kz
          (try simp only [Act.put, List.setIfInBounds_toArray, List.set_cons_zero, List.set_cons_succ])
          refine anyU_ready (rs := [11]) (by kernel_rfl) (by simp) ?_
          refine EachU.cons (o := { dst := none, op := Op.store 24 (Operand.tmp 59) (Operand.tmp 58), type := 0, pos := "make.go:527", after := #[{ on := 10, ground := Ground.data }, { on := 9, ground := Ground.data }, { on := 9, ground := Ground.chain }, { on := 0, ground := Ground.phase }, { on := 1, ground := Ground.phase }, { on := 2, ground := Ground.phase }, { on := 3, ground := Ground.phase }, { on := 4, ground := Ground.phase }, { on := 5, ground := Ground.phase }, { on := 6, ground := Ground.phase }, { on := 7, ground := Ground.phase }, { on := 8, ground := Ground.phase }, { on := 9, ground := Ground.phase }], guard := none }) rfl (fun Kz hK => ?_) EachU.nil
          go_simp
          refine hK.out _ _ (fun h => by cases h) (fun _ => ?_)
          clear hK Kz
          (try simp only [Act.put, List.setIfInBounds_toArray, List.set_cons_zero, List.set_cons_succ])
          refine anyU_done (by kernel_rfl) ?_ _
          have HN := Lib.hid (And.intro (HG.out.add x2 x3 (by omega) (by have h := Hx2.out; unfold RangeOf at h; omega) (vl_cases Hx3.out)) (HD5.out.putC ha))
          rw [show (k : Int) + 1 = ((k + 1 : Nat) : Int) by omega] at HN
          clear HD5 hHeld c90 c91 c92 c93 c94 fB HG
          go_wp2_with fail
          exact ⟨⟨k + 1, by omega, congrArg _ (by omega), _, _, by rw [List.length_append]; simp; omega, HN⟩, by simp only [RowKit.intOf]; omega⟩
        · have HN : Hid (GC ((k + 1 : Nat) : Int) C ∧ AT a w w.heap.size B R q cp vL0 vC vL0 vC L C w4) := Lib.hid ⟨by have := H4.out.1.next; rwa [show ((k + 1 : Nat) : Int) = (k : Int) + 1 by omega], H4.out.2⟩
          clear H4
          go_wp2_with fail
          exact ⟨⟨k + 1, by omega, congrArg _ (by omega), vC, C, by omega, HN⟩, by simp only [RowKit.intOf]; omega⟩
      · obtain rfl : k = 2 := by omega
        go_wp2_with fail
        go_meet
        exact ⟨vC, C, by omega, HKK⟩
  case rest =>
  have HGL := Lib.hid HK.out.1
  obtain ⟨vC, C, hCl, HK2⟩ := hcut
  clear HK
  go_upto_region 12 with fail
  go_cut [66] from 60 to 66 (fun bb wx => ∃ z, bb = .bool z ∧ Hid ((z = true → 0 < n) ∧ AT a w w.heap.size B R q cp vL0 vC vL0 vC L C wx))
  case first =>
    by_cases hn1 : 0 < n
    · go_wp2_with fail
      refine (one_any a n (by unfold I64; omega) _ HK2.out.2.st.2).mono ?_
      rintro e w5 ⟨z, rfl, hs⟩
      have H5 := Lib.hid (HK2.out.2.tape ha hs)
      clear hs HK2
      go_wp2_with fail
      go_meet
      exact ⟨z, rfl, Lib.hid ⟨fun _ => hn1, H5.out⟩⟩
    · have H5 := Lib.hid HK2.out.2
      clear HK2
      go_wp2_with fail
      go_meet
      exact ⟨false, rfl, Lib.hid ⟨fun h => (by cases h), H5.out⟩⟩
  case rest =>
  have HGC := Lib.hid HK2.out.1
  obtain ⟨z, rfl, H5⟩ := hcut
  clear HK2
  go_upto_if 66 with fail
  go_cut [] from 67 to 136 (fun wx => ∃ r q vL vC L C, Hid (TA R n r q L C ∧ AT a w w.heap.size B r q cp vL vC vL vC L C wx))
  case first =>
    cases z
    · have HF : Hid (TA R n R q L C) := Lib.hid ⟨by omega, by omega, fun _ => ⟨rfl, HQ.out, by omega, by omega, HGL.out.1, HGC.out.1⟩⟩
      have H6 := Lib.hid H5.out.2
      clear H5 HGL HGC
      go_wp2_with fail
      go_meet
      exact ⟨_, _, _, _, _, _, Lib.hid ⟨HF.out, H6.out⟩⟩
    · exact absurd (H5.out.1 rfl) (by omega)
  case rest =>
  obtain ⟨r, q3, vL, vC, L, C, HK⟩ := hcut
  clear H5 HGL HGC hLl hCl
  obtain ⟨pL, cL, rfl, -, -⟩ := own_shape HK.out.2.g.oL
  obtain ⟨pC, cC, rfl, -, -⟩ := own_shape HK.out.2.g.oC
  have HO := Lib.hid (HK.out.2.g.ok rfl rfl)
  obtain ⟨c0, c1, c2, c3, c4⟩ := HK.out.2.g.cells
  obtain ⟨d0, d1, d2, d3, d4⟩ := row5 HK.out.2.g.zb
  have hlo := HK.out.2.g.lo
  have f0 := frozen_of_row _ _ 0 _ _ HK.out.2.g.zb
  have f1 := frozen_of_row _ _ 1 _ _ HK.out.2.g.zb
  have f2 := frozen_of_row _ _ 2 _ _ HK.out.2.g.zb
  have f3 := frozen_of_row _ _ 3 _ _ HK.out.2.g.zb
  have f4 := frozen_of_row _ _ 4 _ _ HK.out.2.g.zb
  obtain ⟨t1, t2⟩ := store5 (.int .i64 r) (.int .i64 q3) (.bool cp) (.slice pL L.length cL) (.slice pC C.length cC) HK.out.2.g.zb
  have HT := Lib.hid (And.intro t1 (And.intro (HO.out.grown t2 (fun b hb e => by have := Option.some.inj e; omega)) (HK.out.2.st.newA t2 (Nat.le_refl _) ha)))
  have HTA := Lib.hid HK.out.1
  clear t1 t2 HK HO
  go_wp2_with fail
  refine bodyPost_ret (res_adv rfl _ _ w.heap.size _ _ _ _ _ rfl HT.out.1) rfl ?_
  exact ⟨⟨r, q3, cp, L, C, pL, cL, pC, cC⟩, rfl, HTA.out, HT.out.2.1.mono (fun b hb => by omega), HT.out.2.2⟩
end Go.Proofs.YtgmjpcajobhepaaDoor

/- packet: the rest of a packet is read. -/
namespace Go.Proofs.YtgmjpcajobhepaaDoor
open Go.RowKit Bs
/-- The error behind the header: of n bits and m bytes. -/
def restE (l : List Nat) (n m : Nat) : Int := if num (bt l) (49 + n + 8 * m) 16 ≠ crcB (bt l) (49 + n + 8 * m) then 23 else if num (bt l) (49 + n + 8 * m + 16) (8 * l.length - (49 + n + 8 * m + 16)) ≠ 0 then 24 else 0
/-- The payload. -/
def restP (l : List Nat) (n m : Nat) : ByteArray := bs (pz (fun i => bt l (49 + n + i)) (8 * m) m)
def restV (V : Nat → Nat) (n : Nat) (l : List Nat) : Array Value × Int := if restE l n (V 9) = 0 then (rcells V (n : Int) (num (bt l) 49 n) (restP l n (V 9)), 0) else (zpk, restE l n (V 9))
section
variable {W w w1 : World} {V : Nat → Nat} {n b : Nat} {s : ByteArray} {l : List Nat} {p : Option Addr} {c : Nat}
end
section
variable {w : World} {q : Nat → Prop} {l : List Nat} {p : Option Addr} {c : Nat}
set_option maxRecDepth 100000 in
theorem slice_whole {A T : Nat} {a b : Int} (t : Int) (ht : t = (T : Int)) (hl : By l) (h : 8 * l.length ≤ 8192) (hT : A + T ≤ 8 * l.length) (ha : a = (A : Int)) (hb : b = ((A + T : Nat) : Int)) (hR : Rd w q (.slice p l.length c) (l.map nv)) :
    Calls Tryd.prog 51 #[.agg #[.slice p l.length c, .int .i64 (8 * (l.length : Int))], .int .i64 a, .int .i64 b] w fun e w' =>
      ∃ p2 c2, e = .returned (.tuple #[.agg #[.slice p2 (pz (fun i => bt l (A + i)) T ((T + 7) / 8)).length c2, .int .i64 t], .int .i64 0]) ∧ Rd w' (w.heap.size ≤ ·) (.slice p2 (pz (fun i => bt l (A + i)) T ((T + 7) / 8)).length c2) ((pz (fun i => bt l (A + i)) T ((T + 7) / 8)).map nv) ∧ (p2 = none → c2 = 0) ∧ w.grownBy w' none := by
  subst ha hb ht
  refine (slicep_any l (8 * (l.length : Int)) (A : Int) ((A + T : Nat) : Int) _ p c hl (by unfold I64; omega) (by unfold I64; omega) w (fun _ h => h) hR.bound).mono fun e w' hp => ?_
  have hv := slV_ok (l := l) (N := 8 * l.length) (A := A) (T := T) (vs_whole h) rfl hT
  rw [Int.natCast_mul] at hv
  change slV l (8 * (l.length : Int)) _ _ = _ at hv
  rw [hv] at hp
  obtain ⟨u, he, ⟨p2, c2, rfl, h1, h2, _⟩, hg⟩ := hp
  exact ⟨p2, c2, he, h1, h2, hg⟩
set_option maxRecDepth 100000 in
theorem take_whole {A K : Nat} {a k : Int} (hl : By l) (h : 8 * l.length ≤ 8192) (hK : K ≤ 64) (hT : A + K ≤ 8 * l.length) (ha : a = (A : Int)) (hk : k = (K : Int)) (hR : Rd w q (.slice p l.length c) (l.map nv)) :
    Calls Tryd.prog 90 #[.agg #[.slice p l.length c, .int .i64 (8 * (l.length : Int))], .int .i64 a, .int .i64 k] w fun e w' => e = .returned (.tuple #[.int .u64 ((num (bt l) A K : Nat) : Int), .int .i64 0]) ∧ w.grownBy w' none := by
  subst ha hk
  refine (takep_any l (8 * (l.length : Int)) (A : Int) (K : Int) _ p c hl (by unfold I64; omega) w hR).mono fun e w' hp => ?_
  obtain ⟨he, hg⟩ := hp
  have hv := takeV_ok (l := l) (n := ((8 * l.length : Nat) : Int)) (a := (A : Int)) (k := (K : Int)) (vs_whole h) (by unfold vw; simp; omega) (by omega) (by omega)
  rw [Int.natCast_mul, Int.toNat_natCast, Int.toNat_natCast] at hv
  change takeV l (8 * (l.length : Int)) _ _ = _ at hv
  rw [hv] at he
  exact ⟨he, hg⟩
set_option maxRecDepth 100000 in
theorem check_part {T : Nat} {t : Int} (ht : t = (T : Int)) (h : T ≤ 8 * l.length) (h2 : 8 * l.length ≤ 8192) (hR : Rd w q (.slice p (pz (fun i => bt l (0 + i)) T ((T + 7) / 8)).length c) ((pz (fun i => bt l (0 + i)) T ((T + 7) / 8)).map nv)) :
    Calls Tryd.prog 45 #[.agg #[.slice p (pz (fun i => bt l (0 + i)) T ((T + 7) / 8)).length c, .int .i64 t]] w fun e w' => e = .returned (.tuple #[.int .u64 ((crcB (bt l) T : Nat) : Int), .int .i64 0]) ∧ w.grownBy w' none := by
  subst ht
  refine (checkp_any _ (T : Int) _ p c (pz_lt _ _ _) w hR).mono fun e w' hp => ?_
  obtain ⟨he, hg⟩ := hp
  have hvs : vs (pz (fun i => bt l (0 + i)) T ((T + 7) / 8)) (T : Int) = true := by
    refine vs_iff.2 ⟨by omega, pz_len _ _ _, fun i hi hn => ?_⟩
    rw [pz_len] at hi
    rw [bt_pz _ _ _ _ hi]
    simp; omega
  rw [chkV_ok hvs] at he
  rw [← chk_same (f := bt (pz (fun i => bt l (0 + i)) T ((T + 7) / 8))) (g := bt l) T fun i hi => by rw [bt_pz _ _ _ _ (by omega)]; simp [hi]]
  exact ⟨he, hg⟩
end
end Go.Proofs.YtgmjpcajobhepaaDoor

/- advert.Decode. -/
namespace Go.Proofs.YtgmjpcajobhepaaDoor
open Go.RowKit Bs
/-- What Decode returns: an advert with the fields that the bytes say, or an error. -/
def ADecPost (l : List Nat) (w : World) (e : Ending) (w' : World) : Prop :=
  ∃ A : Ad, AdIs l A ∧ AdOk w' (w.heap.size ≤ ·) A ∧ w.grownBy w' none ∧
    (decE l (vAd A) = 0 → e = .returned (.tuple #[A.val, .int .i64 0])) ∧
    (decE l (vAd A) ≠ 0 → e = .returned (.tuple #[.agg #[.int .i64 0, .int .i64 0, .bool false, .slice none 0 0, .slice none 0 0], .int .i64 ((decE l (vAd A) : Nat) : Int)]))
set_option maxRecDepth 100000 in
theorem res_adv_err {fn : Func} {p u : Tmp} (h : fn.results = #[.cell p 26, .tmp u]) (tmps : Array Value) (w : World) (g : Nat) (x y z s t : Value) (hp : tmps.getD p undef = .pointer (some ⟨g, 0, none⟩)) (hg : w.heap[g]? = some (.cells #[x, y, z, s, t] 26 (0, 0))) :
    (results fn tmps).run Tryd.prog w = .ok (.tuple #[.agg #[x, y, z, s, t], tmps.getD u undef]) w := by
  have hp' : tmps[p]?.getD undef = .pointer (some ⟨g, 0, none⟩) := by simpa using hp
  rw [results_cell_tmp h]
  simp [hp', asAddr, run_loadVar_row w g _ _ _ _ _ hg Tryd.underlying26 rfl adv_size, Result.andThen]
set_option maxRecDepth 100000 in
set_option maxHeartbeats 6400000 in
theorem adec_any (l : List Nat) (hl : By l) (h1 : l.length ≤ 1024) (p : Option Addr) (c : Nat) (hc : l.length ≤ c) (q : Nat → Prop) (w : World) (hR : Rd w q (.slice p l.length c) (l.map nv)) :
    Calls Tryd.prog 21 #[.slice p l.length c] w fun e w' => ADecPost l w e w' := by
  have hmin : min (l.length : Int) 1024 = (l.length : Int) := by omega
  have hz := heap_alloc_new w (.cells #[.int .i64 0, .int .i64 0, .bool false, .slice none 0 0, .slice none 0 0] 26)
  have hzg := World.grownBy_alloc w (.cells #[.int .i64 0, .int .i64 0, .bool false, .slice none 0 0, .slice none 0 0] 26) none
  obtain ⟨wa, hwa⟩ : ∃ wa, wa = w.alloc (.cells #[.int .i64 0, .int .i64 0, .bool false, .slice none 0 0, .slice none 0 0] 26) := ⟨_, rfl⟩
  have hsz : wa.heap.size = w.heap.size + 1 := by rw [hwa]; simp
  rw [← hwa] at hz hzg
  have hb := heap_alloc_new wa (.cells #[.slice p l.length c, .int .i64 (8 * (l.length : Int)), .int .i64 0, .bool false] 82)
  have hbg := World.grownBy_alloc wa (.cells #[.slice p l.length c, .int .i64 (8 * (l.length : Int)), .int .i64 0, .bool false] 82) none
  obtain ⟨wb, hwb⟩ : ∃ wb, wb = wa.alloc (.cells #[.slice p l.length c, .int .i64 (8 * (l.length : Int)), .int .i64 0, .bool false] 82) := ⟨_, rfl⟩
  have hszb : wb.heap.size = w.heap.size + 2 := by rw [hwb]; simp [hsz]
  rw [← hwb] at hb hbg
  have hRb := hR.bound.keep (grown_trans hzg hbg)
  have HN : Hid (RN wb wa.heap.size l p c 0 wb) := Lib.hid ⟨⟨0, by rw [decide_eq_false (by omega)]; exact hb, Nat.le_refl _, fun _ => rfl, Nat.zero_le _⟩, hRb.mono (fun b hb => by rw [hsz]; constructor <;> omega), grown_refl _ _, by omega⟩
  have HZ : Hid (wb.heap[w.heap.size]? = some (.cells #[.int .i64 0, .int .i64 0, .bool false, .slice none 0 0, .slice none 0 0] 26 (0, 0)) ∧ w.grownBy wb none) := Lib.hid ⟨kept_row hz hbg (by simp), grown_trans hzg hbg⟩
  clear hz hzg hb hbg hRb hR
  go_enter Tryd.func21, Tryd.ntmps21
  go_upto_region 3 with fail
  rw [← hwa]
  rw [← hwb]
  rw [hsz] at HN
  obtain ⟨S, hS⟩ : ∃ S, w.heap.size + 1 = S := ⟨_, rfl⟩
  rw [hS] at HN hsz ⊢
  clear hwa hwb
  go_wp2_with fail
  refine (ardr_any l hl h1 S p c wb HN.out).mono ?_
  rintro e w1 ⟨⟨r, q2, cp, L, C, pL, cL, pC, cC⟩, rfl, hI, hO, hN1⟩
  have hEl : eCm l ≤ 1200 := by
    unfold eCm nCm aCm nLk
    have := fd_lt l 28 5
    have := fd_lt l (33 + fd l 28 5 * 27) 4
    omega
  obtain ⟨A, hA⟩ : ∃ A : Ad, A = ⟨r, q2, cp, L, C, pL, cL, pC, cC⟩ := ⟨_, rfl⟩
  have hV : A.val = .agg #[.int .i64 r, .int .i64 q2, .bool cp, .slice pL L.length cL, .slice pC C.length cC] := by rw [hA]; rfl
  have hC : adC A = #[.int .i64 r, .int .i64 q2, .bool cp, .slice pL L.length cL, .slice pC C.length cC] := by rw [hA]; rfl
  rw [← hA] at hI hO ⊢
  rw [hV]
  have HV := Lib.hid hV
  clear hA hV
  have hk1 := World.grownBy_alloc w1 (.cells (adC A) 26) none
  have HI := Lib.hid hI
  have HD1 := Lib.hid (And.intro (heap_alloc_new w1 (.cells (adC A) 26)) (And.intro (hO.keep hk1) (And.intro (hN1.keep hk1) (And.intro (kept_row (kept_row HZ.out.1 hN1.gr (fun e => by have : w.heap.size = S := Option.some.inj e; omega)) hk1 (by simp)) (Nat.le_trans hN1.gr.size hk1.size)))))
  have hDS : S < w1.heap.size := Nat.lt_of_lt_of_le hN1.lt hN1.gr.size
  have hDW : w.heap.size < w1.heap.size := by omega
  clear hI hO hN1 HN hk1
  rw [hC] at HD1
  clear hC
  go_upto_region 4 with fail
  generalize w1.alloc _ = w2 at *
  obtain ⟨D, hD⟩ : ∃ D, w1.heap.size = D := ⟨_, rfl⟩
  rw [hD] at HD1 hDS hDW ⊢
  clear hD
  obtain ⟨a1, hb1, ha1, he1, h81⟩ := HD1.out.2.2.1.bx
  obtain ⟨⟨c0, c1, c2, c3⟩, -, -⟩ := row4 hb1
  clear hb1
  go_wp2_with fail
  refine (slice_whole (A := 0) (T := a1) (a1 : Int) rfl hl (by omega) (by omega) rfl (by omega) HD1.out.2.2.1.rd).mono ?_
  rintro e w3 ⟨p2, c5, rfl, hR2, -, hg⟩
  have hk3 := World.grownBy_alloc w3 (.cells #[.slice p2 (pz (fun i => bt l (0 + i)) a1 ((a1 + 7) / 8)).length c5, .int .i64 (a1 : Int)] 47) none
  have HG := Lib.hid (And.intro (heap_alloc_new w3 (.cells #[.slice p2 (pz (fun i => bt l (0 + i)) a1 ((a1 + 7) / 8)).length c5, .int .i64 (a1 : Int)] 47)) (hR2.keep hk3))
  have g13 := grown_trans hg hk3
  have HD3 := Lib.hid (And.intro (kept_row HD1.out.1 g13 (by simp)) (And.intro (HD1.out.2.1.keep g13) (And.intro (HD1.out.2.2.1.keep g13) (kept_row HD1.out.2.2.2.1 g13 (by simp)))))
  have hGS : S < w3.heap.size := Nat.lt_of_lt_of_le (Nat.lt_of_lt_of_le HD1.out.2.2.1.lt HD1.out.2.2.1.gr.size) hg.size
  have HA1 := Lib.hid (And.intro ha1 (And.intro he1 h81))
  have hCk := check_part (l := l) (T := a1) (t := (a1 : Int)) rfl h81 (by omega) HG.out.2
  have HG0 := Lib.hid HG.out.1
  obtain ⟨L1, hL1⟩ : ∃ L1, (pz (fun i => bt l (0 + i)) a1 ((a1 + 7) / 8)).length = L1 := ⟨_, rfl⟩
  rw [hL1] at hCk HG0 HD3 ⊢
  have HCk := Lib.hid hCk
  clear HG hL1 hCk
  clear hR2 hg hk3 g13 HD1 c0 c1 c2 c3 he1 ha1 h81
  go_upto_region 5 with fail
  generalize w3.alloc _ = w4 at *
  obtain ⟨G, hG⟩ : ∃ G, w3.heap.size = G := ⟨_, rfl⟩
  rw [hG] at HG0 hGS ⊢
  clear hG
  obtain ⟨c0, c1⟩ := row_cells HG0.out
  go_wp2_with fail
  refine HCk.out.mono ?_
  rintro e w5 ⟨rfl, hg⟩
  have HD5 := Lib.hid (And.intro (kept_row HD3.out.1 hg (by simp)) (And.intro (HD3.out.2.1.keep hg) (And.intro (HD3.out.2.2.1.keep hg) (kept_row HD3.out.2.2.2 hg (by simp)))))
  clear hg HD3 HG0 HCk c0 c1
  obtain ⟨y, hy⟩ : ∃ y, Bs.crcB (bt l) a1 = y := ⟨_, rfl⟩
  rw [hy]
  have hy16 : y < 65536 := by rw [← hy]; exact Bs.chk_lt _ _
  have HY := Lib.hid hy
  clear hy
  go_wp2_with fail
  refine (HD5.out.2.2.1.take hl h1 16 (by decide) (by omega)).mono ?_
  rintro e w6 ⟨rfl, hN, hg⟩
  have HD6 := Lib.hid (And.intro (kept_row HD5.out.1 hg (fun e => by have := Option.some.inj e; omega)) (And.intro (HD5.out.2.1.grown hg (fun b hb e => by have := Option.some.inj e; have := HD5.out.2.2.1.lt; omega)) (And.intro hN (kept_row HD5.out.2.2.2 hg (fun e => by have := Option.some.inj e; omega)))))
  clear hN hg HD5
  obtain ⟨x, hx⟩ : ∃ x, fd l (eCm l) 16 = x := ⟨_, rfl⟩
  rw [hx]
  have hx16 : x < 65536 := by rw [← hx]; exact fd_lt _ _ 16
  have HX := Lib.hid hx
  clear hx
  obtain ⟨a2, hb2, ha2, he2, h82⟩ := HD6.out.2.2.1.bx
  obtain ⟨⟨-, -, c2, -⟩, -, -⟩ := row4 hb2
  clear hb2
  go_upto_region 7 with fail
  go_wp2_with fail
  rw [show (-((a2 : Int) % 8) % 8) = (((8 - a2 % 8) % 8 : Nat) : Int) by omega]
  obtain ⟨k, hk⟩ : ∃ k, (8 - a2 % 8) % 8 = k := ⟨_, rfl⟩
  rw [hk]
  have hk7 : k ≤ 7 := by omega
  refine (HD6.out.2.2.1.take hl h1 k (by omega) (by omega)).mono ?_
  rintro e w7 ⟨rfl, hN, hg⟩
  have HD7 := Lib.hid (And.intro (kept_row HD6.out.1 hg (fun e => by have := Option.some.inj e; omega)) (And.intro (HD6.out.2.1.grown hg (fun b hb e => by have := Option.some.inj e; have := HD6.out.2.2.1.lt; omega)) (And.intro hN (kept_row HD6.out.2.2.2 hg (fun e => by have := Option.some.inj e; omega)))))
  have HK := Lib.hid (And.intro hk (And.intro he2 h82))
  clear hN hg HD6 c2 he2 h82 hk
  obtain ⟨z, hz⟩ : ∃ z, fd l (eCm l + 16) k = z := ⟨_, rfl⟩
  rw [hz]
  have hz16 : z < 128 := by rw [← hz]; exact fd_le _ _ _ _ (Nat.pow_le_pow_right (n := 2) (by decide) hk7)
  have HZZ := Lib.hid hz
  clear hz
  obtain ⟨a3, hb3, ha3, he3, h83⟩ := HD7.out.2.2.1.bx
  obtain ⟨⟨-, -, c2, c3⟩, -, -⟩ := row4 hb3
  have HK3 := Lib.hid (And.intro he3 h83)
  clear hb3 he3 h83
  obtain ⟨d0, d1, d2, d3, d4⟩ := row5 HD7.out.2.2.2
  have f0 := frozen_of_row _ _ 0 _ _ HD7.out.2.2.2
  have f1 := frozen_of_row _ _ 1 _ _ HD7.out.2.2.2
  have f2 := frozen_of_row _ _ 2 _ _ HD7.out.2.2.2
  have f3 := frozen_of_row _ _ 3 _ _ HD7.out.2.2.2
  have f4 := frozen_of_row _ _ 4 _ _ HD7.out.2.2.2
  have HW : Hid (w.grownBy w7 none) := Lib.hid (grown_new HZ.out.2 HD7.out.2.2.1.gr (by omega))
  have HO : Hid (AdOk w7 (w.heap.size ≤ ·) A) := Lib.hid (HD7.out.2.1.mono (fun b hb => by omega))
  obtain ⟨t1, t2⟩ := store5 (.int .i64 0) (.int .i64 0) (.bool false) (.slice none 0 0) (.slice none 0 0) HD7.out.2.2.2
  have HT := Lib.hid (And.intro t1 (And.intro (grown_new HW.out t2 (Nat.le_refl _)) (HD7.out.2.1.grown t2 (fun b hb e => by have := Option.some.inj e; omega))))
  clear t1 t2
  by_cases hsh : 8 * l.length < eCm l + 16
  · rw [decide_eq_true (show 8 * l.length < eCm l + 16 + k by omega)] at c3
    have HE : Hid (∀ v, decE l v = 20) := Lib.hid (fun v => by unfold decE; rw [if_pos hsh])
    clear hsh
    go_wp2_with fail
    refine bodyPost_ret (res_adv_err rfl _ _ w.heap.size _ _ _ _ _ rfl HT.out.1) rfl ?_
    exact ⟨A, HI.out, HT.out.2.2.mono (fun b hb => by omega), HT.out.2.1, fun h => absurd h (by rw [HE.out]; decide), fun _ => by rw [HE.out]; rfl⟩
  · have ea2 := HK.out.2.1 hsh
    have hk := HK.out.1
    rw [ea2] at hk
    have hns : ¬ 8 * l.length < eCm l + 16 + k := by omega
    have ea3 := HK3.out.1 hns
    have hxn : num (bt l) (eCm l) 16 = x := by
      have h := HX.out
      unfold fd at h
      rwa [if_neg hsh] at h
    have hzn : num (bt l) (eCm l + 16) k = z := by
      have h := HZZ.out
      unfold fd at h
      rwa [if_neg hns] at h
    have hyn : Bs.crcB (bt l) (eCm l) = y := by
      have h := HY.out
      rwa [HA1.out.2.1 (by omega)] at h
    have HE : Hid (∀ v, decE l v = if x ≠ y then 23 else if z ≠ 0 then 24 else if (eCm l + 16 + 7) / 8 < l.length then 21 else if v = false then 1 else 0) := Lib.hid (fun v => by
      unfold decE
      rw [if_neg hsh, hxn, hyn, hk, hzn])
    rw [decide_eq_false hns] at c3
    rw [ea3] at c2
    have hlong : (eCm l + 16 + k) / 8 = (eCm l + 16 + 7) / 8 := by omega
    clear HX HZZ HY HK HK3 hxn hzn hyn hns ea2 ea3 hsh
    obtain ⟨n, hn⟩ : ∃ n, eCm l + 16 + k = n := ⟨_, rfl⟩
    rw [hn] at c2 hlong
    rw [← hlong] at HE
    have hnb : n ≤ 4000 := by omega
    have hnw : wrap64 ((n : Int) / 8) = (n : Int) / 8 := by unfold wrap64; omega
    clear hlong hk hn
    by_cases hxy : x = y
    · subst hxy
      by_cases hz0 : z = 0
      · subst hz0
        by_cases hlen : n / 8 < l.length
        · have hlen' : (n : Int) / 8 < (l.length : Int) := by omega
          have HE2 : Hid (∀ v, decE l v = 21) := Lib.hid (fun v => by rw [HE.out, if_neg (by simp), if_neg (by simp), if_pos hlen])
          clear HE hlen
          go_wp2_with fail
          refine bodyPost_ret (res_adv_err rfl _ _ w.heap.size _ _ _ _ _ rfl HT.out.1) rfl ?_
          exact ⟨A, HI.out, HT.out.2.2.mono (fun b hb => by omega), HT.out.2.1, fun h => absurd h (by rw [HE2.out]; decide), fun _ => by rw [HE2.out]; rfl⟩
        · have hlb : decide ((n : Int) / 8 < (l.length : Int)) = false := decide_eq_false (by omega)
          have hlen' : ¬ (n : Int) / 8 < (l.length : Int) := by omega
          have HE2 : Hid (∀ v, decE l v = if v = false then 1 else 0) := Lib.hid (fun v => by rw [HE.out, if_neg (by simp), if_neg (by simp), if_neg hlen])
          clear HE hlen
          obtain ⟨e0, e1, e2, e3, e4⟩ := row5 HD7.out.1
          go_wp2_with fail
          have hVa := (avalid_any A _ w7 HO.out)
          rw [HV.out] at hVa
          refine hVa.mono ?_
          rintro e w8 ⟨rfl, hg⟩
          have HO8 : Hid (AdOk w8 (wb.heap.size ≤ ·) A ∧ w.grownBy w8 none) := Lib.hid ⟨HD7.out.2.1.keep hg, grown_trans HW.out hg⟩
          have HD8 := Lib.hid (And.intro (kept_row HD7.out.1 hg (by simp)) (kept_row HD7.out.2.2.2 hg (by simp)))
          clear d0 d1 d2 d3 d4 f0 f1 f2 f3 f4 e0 e1 e2 e3 e4 HT hVa hg
          obtain ⟨d0, d1, d2, d3, d4⟩ := row5 HD8.out.2
          obtain ⟨e0, e1, e2, e3, e4⟩ := row5 HD8.out.1
          have f0 := frozen_of_row _ _ 0 _ _ HD8.out.2
          have f1 := frozen_of_row _ _ 1 _ _ HD8.out.2
          have f2 := frozen_of_row _ _ 2 _ _ HD8.out.2
          have f3 := frozen_of_row _ _ 3 _ _ HD8.out.2
          have f4 := frozen_of_row _ _ 4 _ _ HD8.out.2
          cases hv : vAd A with
          | false =>
            have HE3 : Hid (decE l (vAd A) = 1) := Lib.hid (by rw [hv, HE2.out, if_pos rfl])
            clear hv
            obtain ⟨t1, t2⟩ := store5 (.int .i64 0) (.int .i64 0) (.bool false) (.slice none 0 0) (.slice none 0 0) HD8.out.2
            have HT := Lib.hid (And.intro t1 (And.intro (grown_new HO8.out.2 t2 (Nat.le_refl _)) (HO8.out.1.grown t2 (fun b hb e => by have := Option.some.inj e; omega))))
            clear t1 t2
            go_wp2_with fail
            refine bodyPost_ret (res_adv_err rfl _ _ w.heap.size _ _ _ _ _ rfl HT.out.1) rfl ?_
            exact ⟨A, HI.out, HT.out.2.2.mono (fun b hb => by omega), HT.out.2.1, fun h => absurd h (by rw [HE3.out]; decide), fun _ => by rw [HE3.out]; rfl⟩
          | true =>
            have HE3 : Hid (decE l (vAd A) = 0) := Lib.hid (by rw [hv, HE2.out, if_neg (by decide)])
            clear hv
            obtain ⟨t1, t2⟩ := store5 (.int .i64 r) (.int .i64 q2) (.bool cp) (.slice pL L.length cL) (.slice pC C.length cC) HD8.out.2
            have HT := Lib.hid (And.intro t1 (And.intro (grown_new HO8.out.2 t2 (Nat.le_refl _)) (HO8.out.1.grown t2 (fun b hb e => by have := Option.some.inj e; omega))))
            clear t1 t2
            go_wp2_with fail
            refine bodyPost_ret (res_adv_err rfl _ _ w.heap.size _ _ _ _ _ rfl HT.out.1) rfl ?_
            exact ⟨A, HI.out, HT.out.2.2.mono (fun b hb => by omega), HT.out.2.1, fun _ => by rw [HV.out]; rfl, fun h => absurd HE3.out h⟩
      · have hz0' : ((z : Int) == 0) = false := by simp [hz0]
        have hz1' : ((z : Int) != 0) = true := by simp [hz0]
        have HE2 : Hid (∀ v, decE l v = 24) := Lib.hid (fun v => by rw [HE.out, if_neg (by simp), if_pos hz0])
        clear HE
        go_wp2_with fail
        refine bodyPost_ret (res_adv_err rfl _ _ w.heap.size _ _ _ _ _ rfl HT.out.1) rfl ?_
        exact ⟨A, HI.out, HT.out.2.2.mono (fun b hb => by omega), HT.out.2.1, fun h => absurd h (by rw [HE2.out]; decide), fun _ => by rw [HE2.out]; rfl⟩
    · have hxy' : ((x : Int) == (y : Int)) = false := by simp; omega
      have hxy1 : ((x : Int) != (y : Int)) = true := by simp; omega
      have HE2 : Hid (∀ v, decE l v = 23) := Lib.hid (fun v => by rw [HE.out, if_pos hxy])
      clear HE
      go_wp2_with fail
      refine bodyPost_ret (res_adv_err rfl _ _ w.heap.size _ _ _ _ _ rfl HT.out.1) rfl ?_
      exact ⟨A, HI.out, HT.out.2.2.mono (fun b hb => by omega), HT.out.2.1, fun h => absurd h (by rw [HE2.out]; decide), fun _ => by rw [HE2.out]; rfl⟩
end Go.Proofs.YtgmjpcajobhepaaDoor

/- Two links compared, two claims compared. -/
namespace Go.Proofs.YtgmjpcajobhepaaDoor
open Go.RowKit Bs
set_option maxRecDepth 100000 in
theorem neq_reach (x y : T3) (w : World) : (binOp .neq 70 (.agg #[.int .i64 x.a, .int .i64 x.b, .int .i64 x.c]) (.agg #[.int .i64 y.a, .int .i64 y.b, .int .i64 y.c])).run Tryd.prog w = .ok (.bool (!(x.a == y.a && (x.b == y.b && x.c == y.c)))) w := by
  go_simp
  by_cases h1 : x.a = y.a <;> by_cases h2 : x.b = y.b <;> by_cases h3 : x.c = y.c <;> simp [h1, h2, h3]
set_option maxRecDepth 100000 in
theorem neq_claim (x y : T3) (w : World) : (binOp .neq 73 (.agg #[.int .i64 x.a, .int .i64 x.b, .int .i64 x.c]) (.agg #[.int .i64 y.a, .int .i64 y.b, .int .i64 y.c])).run Tryd.prog w = .ok (.bool (!(x.a == y.a && (x.b == y.b && x.c == y.c)))) w := by
  go_simp
  by_cases h1 : x.a = y.a <;> by_cases h2 : x.b = y.b <;> by_cases h3 : x.c = y.c <;> simp [h1, h2, h3]
set_option maxRecDepth 100000 in
theorem t3_eq (x y : T3) : (x.a == y.a && (x.b == y.b && x.c == y.c)) = decide (x = y) := by
  cases x; cases y
  simp only [T3.mk.injEq, Bool.decide_and]
  rfl
end Go.Proofs.YtgmjpcajobhepaaDoor

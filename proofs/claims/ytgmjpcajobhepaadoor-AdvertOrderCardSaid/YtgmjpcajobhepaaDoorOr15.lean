/- Parts of the proof, packed: AdOrLaw. -/
import Derived.Test.YtgmjpcajobhepaaDoorOr13
import Derived.Test.YtgmjpcajobhepaaDoorOr14
/- The law AdvertOrder: of two valid adverts of one router that are not equal exactly one is newer, and newer is transitive. -/
namespace Go.Proofs.YtgmjpcajobhepaaDoor
open Go.RowKit Bs
/-- An array of adverts: those of l, in their order, all valid and of router 3. -/
structure OR (W : World) (D : Nat) (l : List Ad) (w : World) : Prop where
  row : ∃ cs : Array Value, w.heap[D]? = some (.cells cs 57 (0, 0)) ∧ cs.size = 20 ∧ ∀ i A, l[i]? = some A → ∀ j u, (adC A)[j]? = some u → cs[i * 5 + j]? = some u
  ok : ∀ A ∈ l, AdOk w (D < ·) A ∧ vAd A = true ∧ A.r = 3
  gr : W.grownBy w none
  lo : W.heap.size < D
set_option maxRecDepth 100000 in
theorem OR.keep {W w w1 : World} {D : Nat} {l : List Ad} (h : OR W D l w) (g : w.grownBy w1 none) : OR W D l w1 := by
  obtain ⟨cs, h1, h2, h3⟩ := h.row
  exact ⟨⟨cs, kept_row h1 g (by simp), h2, h3⟩, fun A hA => ⟨(h.ok A hA).1.keep g, (h.ok A hA).2⟩, grown_trans h.gr g, h.lo⟩
set_option maxRecDepth 100000 in
theorem OR.tape {W w w1 : World} {D : Nat} {l : List Ad} (h : OR W D l w) (g : w.grownBy w1 (some W.heap.size)) : OR W D l w1 := by
  obtain ⟨cs, h1, h2, h3⟩ := h.row
  have hlo := h.lo
  exact ⟨⟨cs, kept_row h1 g (fun e => by have := Option.some.inj e; omega), h2, h3⟩, fun A hA => ⟨(h.ok A hA).1.grown g (fun b hb e => by have := Option.some.inj e; omega), (h.ok A hA).2⟩, grown_tape h.gr g, h.lo⟩
set_option maxRecDepth 100000 in
theorem OR.cells {W w : World} {D i : Nat} {l : List Ad} {A : Ad} (h : OR W D l w) (hA : l[i]? = some A) :
    w.cell? ⟨D, i * 5, none⟩ = some (.int .i64 A.r) ∧ w.cell? ⟨D, i * 5 + 1, none⟩ = some (.int .i64 A.q) ∧ w.cell? ⟨D, i * 5 + 2, none⟩ = some (.bool A.cp) ∧ w.cell? ⟨D, i * 5 + 3, none⟩ = some (.slice A.pL A.L.length A.cL) ∧ w.cell? ⟨D, i * 5 + 4, none⟩ = some (.slice A.pC A.C.length A.cC) := by
  obtain ⟨cs, h1, h2, h3⟩ := h.row
  have hc : ∀ o, w.cell? ⟨D, o, none⟩ = cs[o]? := fun o => cell_of_row _ _ _ _ _ _ h1
  exact ⟨(hc _).trans (h3 i A hA 0 _ rfl), (hc _).trans (h3 i A hA 1 _ rfl), (hc _).trans (h3 i A hA 2 _ rfl), (hc _).trans (h3 i A hA 3 _ rfl), (hc _).trans (h3 i A hA 4 _ rfl)⟩
set_option maxRecDepth 100000 in
theorem OR.szD {W w : World} {D : Nat} {l : List Ad} (h : OR W D l w) : D < w.heap.size := by
  obtain ⟨cs, h1, -⟩ := h.row
  exact World.lt_of_row' h1
set_option maxRecDepth 100000 in
/-- Five cells of a block are stored. -/
theorem store5o {w : World} {b o : Nat} {t : TypeId} {cs : Array Value} (u0 u1 u2 u3 u4 : Value) (h : w.heap[b]? = some (.cells cs t (0, 0))) :
    (((((w.setCell ⟨b, o, none⟩ u0).setCell ⟨b, o + 1, none⟩ u1).setCell ⟨b, o + 2, none⟩ u2).setCell ⟨b, o + 3, none⟩ u3).setCell ⟨b, o + 4, none⟩ u4).heap[b]? = some (.cells (((((cs.setIfInBounds o u0).setIfInBounds (o + 1) u1).setIfInBounds (o + 2) u2).setIfInBounds (o + 3) u3).setIfInBounds (o + 4) u4) t (0, 0)) ∧
    w.grownBy (((((w.setCell ⟨b, o, none⟩ u0).setCell ⟨b, o + 1, none⟩ u1).setCell ⟨b, o + 2, none⟩ u2).setCell ⟨b, o + 3, none⟩ u3).setCell ⟨b, o + 4, none⟩ u4) (some b) := by
  have h1 := heap_setCell_same w b o _ _ u0 h
  have h2 := heap_setCell_same _ b (o + 1) _ _ u1 h1
  have h3 := heap_setCell_same _ b (o + 2) _ _ u2 h2
  have h4 := heap_setCell_same _ b (o + 3) _ _ u3 h3
  have h5 := heap_setCell_same _ b (o + 4) _ _ u4 h4
  refine ⟨h5, ?_⟩
  have g1 := grown_setCell w ⟨b, o, none⟩ u0
  have g2 := grown_setCell (w.setCell ⟨b, o, none⟩ u0) ⟨b, o + 1, none⟩ u1
  have g3 := grown_setCell ((w.setCell ⟨b, o, none⟩ u0).setCell ⟨b, o + 1, none⟩ u1) ⟨b, o + 2, none⟩ u2
  have g4 := grown_setCell (((w.setCell ⟨b, o, none⟩ u0).setCell ⟨b, o + 1, none⟩ u1).setCell ⟨b, o + 2, none⟩ u2) ⟨b, o + 3, none⟩ u3
  have g5 := grown_setCell ((((w.setCell ⟨b, o, none⟩ u0).setCell ⟨b, o + 1, none⟩ u1).setCell ⟨b, o + 2, none⟩ u2).setCell ⟨b, o + 3, none⟩ u3) ⟨b, o + 4, none⟩ u4
  exact grown_trans (grown_trans (grown_trans (grown_trans g1 g2) g3) g4) g5
set_option maxRecDepth 100000 in
theorem five_at {cs : Array Value} {o : Nat} (u0 u1 u2 u3 u4 : Value) (h : o + 4 < cs.size) (i : Nat) :
    (((((cs.setIfInBounds o u0).setIfInBounds (o + 1) u1).setIfInBounds (o + 2) u2).setIfInBounds (o + 3) u3).setIfInBounds (o + 4) u4)[i]? = if i = o then some u0 else if i = o + 1 then some u1 else if i = o + 2 then some u2 else if i = o + 3 then some u3 else if i = o + 4 then some u4 else cs[i]? := by
  simp only [Array.getElem?_setIfInBounds, Array.size_setIfInBounds]
  repeat' split
  all_goals first | rfl | omega
set_option maxRecDepth 100000 in
theorem OR.oldc {W w : World} {D k : Nat} {l : List Ad} (h : OR W D l w) (hk : k < 4) :
    ∃ x0 x1 x2 x3 x4, (w.cell? ⟨D, k * 5, none⟩ = some x0 ∧ w.cell? ⟨D, k * 5 + 1, none⟩ = some x1 ∧ w.cell? ⟨D, k * 5 + 2, none⟩ = some x2 ∧ w.cell? ⟨D, k * 5 + 3, none⟩ = some x3 ∧ w.cell? ⟨D, k * 5 + 4, none⟩ = some x4) ∧ ∀ o, w.frozen? ⟨D, o, none⟩ = false := by
  obtain ⟨cs, h1, h2, h3⟩ := h.row
  have hc : ∀ o, o < 20 → w.cell? ⟨D, o, none⟩ = some (cs.getD o undef) := fun o ho => by
    rw [cell_of_row _ _ _ _ _ _ h1]
    show cs[o]? = _
    rw [Array.getElem?_eq_getElem (by omega)]
    simp [h2, ho]
  exact ⟨_, _, _, _, _, ⟨hc _ (by omega), hc _ (by omega), hc _ (by omega), hc _ (by omega), hc _ (by omega)⟩, fun o => frozen_of_row _ _ _ _ _ h1⟩
set_option maxRecDepth 100000 in
theorem OR.put {W w : World} {D k : Nat} {l : List Ad} {A : Ad} (h : OR W D l w) (hl : l.length = k) (hk : k < 4) (hA : AdOk w (D < ·) A) (hv : vAd A = true ∧ A.r = 3) :
    OR W D (l ++ [A]) (((((w.setCell ⟨D, k * 5, none⟩ (.int .i64 A.r)).setCell ⟨D, k * 5 + 1, none⟩ (.int .i64 A.q)).setCell ⟨D, k * 5 + 2, none⟩ (.bool A.cp)).setCell ⟨D, k * 5 + 3, none⟩ (.slice A.pL A.L.length A.cL)).setCell ⟨D, k * 5 + 4, none⟩ (.slice A.pC A.C.length A.cC)) := by
  obtain ⟨cs, h1, h2, h3⟩ := h.row
  obtain ⟨t1, t2⟩ := store5o (o := k * 5) (.int .i64 A.r) (.int .i64 A.q) (.bool A.cp) (.slice A.pL A.L.length A.cL) (.slice A.pC A.C.length A.cC) h1
  have hlo := h.lo
  refine ⟨⟨_, t1, by simp only [Array.size_setIfInBounds]; exact h2, fun i B hB j u hu => ?_⟩, fun B hB => ?_, grown_new h.gr t2 (by omega), h.lo⟩
  · rw [five_at _ _ _ _ _ (by omega)]
    have hj : j < 5 := by
      have := (Array.getElem?_eq_some_iff.1 hu).1
      exact this
    rcases Nat.lt_or_ge i k with hi | hi
    · rw [List.getElem?_append_left (by omega)] at hB
      rw [if_neg (by omega), if_neg (by omega), if_neg (by omega), if_neg (by omega), if_neg (by omega)]
      exact h3 i B hB j u hu
    · rw [List.getElem?_append_right (by omega)] at hB
      have hik : i = k := by
        have := (List.getElem?_eq_some_iff.1 hB).1
        simp at this
        omega
      subst hik
      rw [hl, Nat.sub_self] at hB
      obtain rfl : A = B := Option.some.inj hB
      rcases (show j = 0 ∨ j = 1 ∨ j = 2 ∨ j = 3 ∨ j = 4 by omega) with rfl | rfl | rfl | rfl | rfl
      · rw [if_pos (by omega)]; exact hu
      · rw [if_neg (by omega), if_pos rfl]; exact hu
      · rw [if_neg (by omega), if_neg (by omega), if_pos rfl]; exact hu
      · rw [if_neg (by omega), if_neg (by omega), if_neg (by omega), if_pos rfl]; exact hu
      · rw [if_neg (by omega), if_neg (by omega), if_neg (by omega), if_neg (by omega), if_pos rfl]; exact hu
  · rcases List.mem_append.1 hB with hB | hB
    · exact ⟨(h.ok B hB).1.grown t2 (fun b hb e => by have := Option.some.inj e; omega), (h.ok B hB).2⟩
    · rw [List.mem_singleton] at hB
      subst hB
      exact ⟨hA.grown t2 (fun b hb e => by have := Option.some.inj e; omega), hv⟩
set_option maxRecDepth 100000 in
theorem OR.putT {W w : World} {D k : Nat} {l : List Ad} (h : OR W D l w) (u0 u1 u2 u3 u4 : Value) (hT : Tp w W.heap.size) :
    Tp (((((w.setCell ⟨D, k * 5, none⟩ u0).setCell ⟨D, k * 5 + 1, none⟩ u1).setCell ⟨D, k * 5 + 2, none⟩ u2).setCell ⟨D, k * 5 + 3, none⟩ u3).setCell ⟨D, k * 5 + 4, none⟩ u4) W.heap.size := by
  obtain ⟨cs, h1, h2, h3⟩ := h.row
  obtain ⟨t1, t2⟩ := store5o (o := k * 5) u0 u1 u2 u3 u4 h1
  have hlo := h.lo
  obtain ⟨v, n, i, T⟩ := hT
  have hlt : W.heap.size < w.heap.size := Nat.lt_trans h.lo h.szD
  have hk := t2.block W.heap.size hlt (fun e => by have := Option.some.inj e; omega)
  refine ⟨v, n, i, (World.cell?_of_block (a := ⟨W.heap.size, 0, none⟩) hk).trans T.l, (World.cell?_of_block (a := ⟨W.heap.size, 1, none⟩) hk).trans T.p, (World.frozen?_of_block (a := ⟨W.heap.size, 1, none⟩) hk).trans T.fr, ?_, T.le, T.len⟩
  obtain ⟨p, c, hv, hc⟩ := T.ints
  refine ⟨p, c, hv, fun hn => ?_⟩
  obtain ⟨b1, off, hp, hb1, hx⟩ := hc hn
  refine ⟨b1, off, hp, hb1, fun i hi => ?_⟩
  obtain ⟨x, hx1, hcell⟩ := hx i hi
  exact ⟨x, hx1, t2.cell hcell (fun e => by have : b1 = D := Option.some.inj e; omega)⟩
set_option maxRecDepth 100000 in
set_option maxHeartbeats 6400000 in
theorem order_walk (v : Value) (w : World) (hv : IntsIn w v) (hT : Tb w) :
    Calls Tryd.prog 8 #[v] w fun e w' => e = .returned (.bool true) ∧ w.grownBy w' none := by
  go_enter Tryd.func8, Tryd.ntmps8
  go_wp2_with fail
  refine (new_any v w hv).mono ?_
  rintro e w1 ⟨rfl, hg1, hT1⟩
  have H1 := Lib.hid (And.intro hg1 hT1)
  have HTB := Lib.hid hT
  clear hg1 hT1 hv hT
  go_upto_region 3 with fail
  have hk := World.grownBy_alloc w1 (.cells #[.int .i64 0, .int .i64 0, .bool false, .slice none 0 0, .slice none 0 0, .int .i64 0, .int .i64 0, .bool false, .slice none 0 0, .slice none 0 0, .int .i64 0, .int .i64 0, .bool false, .slice none 0 0, .slice none 0 0, .int .i64 0, .int .i64 0, .bool false, .slice none 0 0, .slice none 0 0] 57) none
  have hlt0 : w.heap.size < w1.heap.size := H1.out.2.lt
  have H2 : Hid (OR w w1.heap.size [] _ ∧ Tp _ w.heap.size) := Lib.hid ⟨⟨⟨_, heap_alloc_new w1 (.cells #[.int .i64 0, .int .i64 0, .bool false, .slice none 0 0, .slice none 0 0, .int .i64 0, .int .i64 0, .bool false, .slice none 0 0, .slice none 0 0, .int .i64 0, .int .i64 0, .bool false, .slice none 0 0, .slice none 0 0, .int .i64 0, .int .i64 0, .bool false, .slice none 0 0, .slice none 0 0] 57), rfl, fun i A h => (by simp at h)⟩, fun A h => (by cases h), grown_trans H1.out.1 hk, hlt0⟩, H1.out.2.keep hk⟩
  clear hk H1
  go_upto_block 0 with fail
  generalize w1.alloc _ = w2 at *
  obtain ⟨D, hD⟩ : ∃ D, w1.heap.size = D := ⟨_, rfl⟩
  rw [hD] at H2 hlt0
  rw [hD]
  clear hD
  go_cut [] from 14 to 21 (fun wx => ∃ l : List Ad, l.length = 4 ∧ Hid (OR w D l wx))
  case first =>
    go_wp2_with fail
    go_loopw [5] (fun i wr => ∃ k : Nat, k ≤ 4 ∧ i = .int .i64 (k : Int) ∧ ∃ l : List Ad, l.length = k ∧ Hid (OR w D l wr ∧ Tp wr w.heap.size)) (fun i _ => 4 - (RowKit.intOf i).toNat)
    case atStart => exact ⟨0, by omega, rfl, [], rfl, H2⟩
    case round =>
      obtain ⟨k, hk4, rfl, l, hl, HK⟩ := hrel
      clear H2
      by_cases hlt : k < 4
      · go_wp2_with fail
        refine (adv0_any w.heap.size 3 0 (by unfold I64; omega) (by unfold I64; omega) (by omega) _ HK.out.2).mono ?_
        rintro e w4 ⟨A, rfl, hTA, hOk, hs⟩
        have hv := hTA.valid (by omega) (by omega)
        have hsz := HK.out.1.szD
        have H4 := Lib.hid (And.intro (HK.out.1.tape hs.1) (And.intro hs.2 (And.intro (hOk.mono (q' := (D < ·)) (fun b hb => by omega)) hv)))
        obtain ⟨r, q, cp, L, C, pL, cL, pC, cC⟩ := A
        clear hTA hOk hs hv HK
        unfold Ad.val
        have HN := Lib.hid (H4.out.1.put hl hlt H4.out.2.2.1 H4.out.2.2.2)
        obtain ⟨x0, x1, x2, x3, x4, ⟨o0, o1, o2, o3, o4⟩, ff⟩ := H4.out.1.oldc hlt
        have f0 := ff (k * 5)
        have f1 := ff (k * 5 + 1)
        have f2 := ff (k * 5 + 2)
        have f3 := ff (k * 5 + 3)
        have f4 := ff (k * 5 + 4)
        have HP := Lib.hid (H4.out.1.putT (k := k) (.int .i64 r) (.int .i64 q) (.bool cp) (.slice pL L.length cL) (.slice pC C.length cC) H4.out.2.1)
        clear ff H4
        generalize hA : (⟨r, q, cp, L, C, pL, cL, pC, cC⟩ : Ad) = A at HN
        have hle : (l ++ [A]).length = k + 1 := by rw [List.length_append, hl]; rfl
        subst hA
        go_wp2_with fail
        exact ⟨⟨k + 1, by omega, congrArg _ (by omega), _, hle, Lib.hid ⟨HN.out, HP.out⟩⟩, by simp only [RowKit.intOf]; omega⟩
      · obtain rfl : k = 4 := by omega
        go_wp2_with fail
        go_meet
        exact ⟨l, hl, Lib.hid HK.out.1⟩
  case rest =>
  obtain ⟨l, hl, HK⟩ := hcut
  clear H2 hlt0
  have HN : ∀ (A B : Ad), A ∈ l → B ∈ l → ∀ wz, Hid (OR w D l wz) → Calls Tryd.prog 28 #[A.val, B.val] wz fun e w' => e = .returned (.bool (nwA A B)) ∧ Hid (OR w D l w') := fun A B hA hB wz H => (anewer_any A B _ _ wz (H.out.ok A hA).1 (H.out.ok B hB).1).mono (by rintro e w' ⟨rfl, hg⟩; exact ⟨rfl, Lib.hid (H.out.keep hg)⟩)
  have HS : ∀ (A B : Ad), A ∈ l → B ∈ l → ∀ wz, Hid (OR w D l wz) → Calls Tryd.prog 17 #[A.val, B.val] wz fun e w' => e = .returned (.bool (decide (cmpA A B = 0))) ∧ Hid (OR w D l w') := fun A B hA hB wz H => (rsame_any A B _ _ wz (H.out.ok A hA).1 (H.out.ok B hB).1).mono (by rintro e w' ⟨rfl, hg⟩; exact ⟨rfl, Lib.hid (H.out.keep hg)⟩)
  have HNh := Lib.hid HN
  have HSh := Lib.hid HS
  have HV : Hid (∀ A ∈ l, vAd A = true ∧ A.r = 3) := Lib.hid (fun A hA => (HK.out.ok A hA).2)
  clear HN HS
  have HL := Lib.hid hl
  clear hl
  go_wp2_with fail
  go_loopw [6] (fun i wr => ∃ k : Nat, k ≤ 4 ∧ i = .int .i64 (k : Int) ∧ Hid (OR w D l wr)) (fun i _ => 4 - (RowKit.intOf i).toNat)
  case atStart => exact ⟨0, by omega, rfl, HK⟩
  case round =>
    obtain ⟨i, hi4, rfl, HI⟩ := hrel
    clear HK
    by_cases hli : (i : Int) < 4
    · have hlib : decide ((i : Int) < 4) = true := decide_eq_true hli
      obtain ⟨A, hA⟩ : ∃ A, l[i]? = some A := ⟨_, List.getElem?_eq_getElem (by rw [HL.out]; omega)⟩
      have HA := Lib.hid (And.intro hA (List.mem_of_getElem? hA))
      clear hA
      go_wp2_with fail
      go_loopw [7] (fun i wr => ∃ k : Nat, k ≤ 4 ∧ i = .int .i64 (k : Int) ∧ Hid (OR w D l wr)) (fun i _ => 4 - (RowKit.intOf i).toNat)
      case atStart => exact ⟨0, by omega, rfl, HI⟩
      case round =>
        obtain ⟨k, hk4, rfl, HKK⟩ := hrel
        clear HI
        by_cases hlk : (k : Int) < 4
        · have hlkb : decide ((k : Int) < 4) = true := decide_eq_true hlk
          obtain ⟨B, hB⟩ : ∃ B, l[k]? = some B := ⟨_, List.getElem?_eq_getElem (by rw [HL.out]; omega)⟩
          have HB := Lib.hid (And.intro hB (List.mem_of_getElem? hB))
          clear hB
          go_upto_region 13 with fail
          have HD := Lib.hid (HKK.out.keep (grown_drew (grown_refl wr none)))
          clear HKK
          refine wp_region_held_drew (S := fun w' => Hid (OR w D l w')) (by kernel_rfl) (HD) (fun hHeld => ?_)
          refine wpAnyH_take (i := 0) (oi := { dst := some 30, op := Op.move (Operand.tmp 6), type := 3, pos := "law.go:139", after := #[], guard := none }) (v := ?_) rfl (by kernel_rfl) (by kernel_rfl) (by kernel_rfl) (fun _ _ _ h => h) (Or.inl ⟨by rfl, ?_⟩) hHeld ?_
          rotate_left 1
          · intro u hSu
            obtain ⟨qHA0, qHA1, qHA2, qHA3, qHA4⟩ := hSu.out.cells HA.out.1
            obtain ⟨qHB0, qHB1, qHB2, qHB3, qHB4⟩ := hSu.out.cells HB.out.1
            go_simp
            first | done | with_reducible rfl
          (try simp only [Act.put, List.setIfInBounds_toArray, List.set_cons_zero, List.set_cons_succ])
          refine wpAnyH_take (i := 1) (oi := { dst := some 31, op := Op.indexAddr 57 (Operand.tmp 4) (Operand.tmp 30), type := 0, pos := "law.go:139", after := #[{ on := 0, ground := Ground.data }], guard := none }) (v := ?_) rfl (by kernel_rfl) (by kernel_rfl) (by kernel_rfl) (fun _ _ _ h => h) (Or.inl ⟨by rfl, ?_⟩) hHeld ?_
          rotate_left 1
          · intro u hSu
            obtain ⟨qHA0, qHA1, qHA2, qHA3, qHA4⟩ := hSu.out.cells HA.out.1
            obtain ⟨qHB0, qHB1, qHB2, qHB3, qHB4⟩ := hSu.out.cells HB.out.1
            go_simp
            first | done | with_reducible rfl
          (try simp only [Act.put, List.setIfInBounds_toArray, List.set_cons_zero, List.set_cons_succ])
          refine wpAnyH_take (i := 2) (oi := { dst := some 32, op := Op.load 26 (Operand.tmp 31), type := 26, pos := "law.go:139", after := #[{ on := 1, ground := Ground.data }], guard := none }) (v := ?_) rfl (by kernel_rfl) (by kernel_rfl) (by kernel_rfl) (fun _ _ _ h => h) (Or.inl ⟨by rfl, ?_⟩) hHeld ?_
          rotate_left 1
          · intro u hSu
            obtain ⟨qHA0, qHA1, qHA2, qHA3, qHA4⟩ := hSu.out.cells HA.out.1
            obtain ⟨qHB0, qHB1, qHB2, qHB3, qHB4⟩ := hSu.out.cells HB.out.1
            go_simp
            first | done | with_reducible rfl
          (try simp only [Act.put, List.setIfInBounds_toArray, List.set_cons_zero, List.set_cons_succ])
          refine wpAnyH_take (i := 3) (oi := { dst := some 33, op := Op.move (Operand.tmp 7), type := 3, pos := "law.go:139", after := #[], guard := none }) (v := ?_) rfl (by kernel_rfl) (by kernel_rfl) (by kernel_rfl) (fun _ _ _ h => h) (Or.inl ⟨by rfl, ?_⟩) hHeld ?_
          rotate_left 1
          · intro u hSu
            obtain ⟨qHA0, qHA1, qHA2, qHA3, qHA4⟩ := hSu.out.cells HA.out.1
            obtain ⟨qHB0, qHB1, qHB2, qHB3, qHB4⟩ := hSu.out.cells HB.out.1
            go_simp
            first | done | with_reducible rfl
          (try simp only [Act.put, List.setIfInBounds_toArray, List.set_cons_zero, List.set_cons_succ])
          refine wpAnyH_take (i := 4) (oi := { dst := some 34, op := Op.indexAddr 57 (Operand.tmp 4) (Operand.tmp 33), type := 0, pos := "law.go:139", after := #[{ on := 3, ground := Ground.data }], guard := none }) (v := ?_) rfl (by kernel_rfl) (by kernel_rfl) (by kernel_rfl) (fun _ _ _ h => h) (Or.inl ⟨by rfl, ?_⟩) hHeld ?_
          rotate_left 1
          · intro u hSu
            obtain ⟨qHA0, qHA1, qHA2, qHA3, qHA4⟩ := hSu.out.cells HA.out.1
            obtain ⟨qHB0, qHB1, qHB2, qHB3, qHB4⟩ := hSu.out.cells HB.out.1
            go_simp
            first | done | with_reducible rfl
          (try simp only [Act.put, List.setIfInBounds_toArray, List.set_cons_zero, List.set_cons_succ])
          refine wpAnyH_take (i := 5) (oi := { dst := some 35, op := Op.load 26 (Operand.tmp 34), type := 26, pos := "law.go:139", after := #[{ on := 4, ground := Ground.data }], guard := none }) (v := ?_) rfl (by kernel_rfl) (by kernel_rfl) (by kernel_rfl) (fun _ _ _ h => h) (Or.inl ⟨by rfl, ?_⟩) hHeld ?_
          rotate_left 1
          · intro u hSu
            obtain ⟨qHA0, qHA1, qHA2, qHA3, qHA4⟩ := hSu.out.cells HA.out.1
            obtain ⟨qHB0, qHB1, qHB2, qHB3, qHB4⟩ := hSu.out.cells HB.out.1
            go_simp
            first | done | with_reducible rfl
          (try simp only [Act.put, List.setIfInBounds_toArray, List.set_cons_zero, List.set_cons_succ])
          refine wpAnyH_ready (rs := [6]) (by kernel_rfl) (by simp) ?_
          refine AllReadyH.cons (o := { dst := some 36, op := Op.call { callee := Callee.value (Operand.func 17), args := #[Operand.tmp 32, Operand.tmp 35], argTypes := #[26, 26] }, type := 4, pos := "law.go:139", after := #[{ on := 2, ground := Ground.data }, { on := 5, ground := Ground.data }], guard := none }) rfl (fun Kz hK => ?_) AllReadyH.nil
          go_simp
          refine (HSh.out _ _ HA.out.2 HB.out.2 _ HD).mono ?_
          rintro e w5 ⟨rfl, HDn⟩
          clear HD
          have HD := HDn
          clear HDn
          refine hK.out _ _ (HD) (fun hH2 => ?_)
          clear hK Kz hHeld
          have hHeld := hH2
          clear hH2
          (try simp only [Act.put, List.setIfInBounds_toArray, List.set_cons_zero, List.set_cons_succ])
          refine wpAnyH_take (i := 7) (oi := { dst := some 8, op := Op.assign (Operand.tmp 36), type := 4, pos := "law.go:139", after := #[{ on := 6, ground := Ground.data }, { on := 6, ground := Ground.chain }, { on := 0, ground := Ground.phase }, { on := 1, ground := Ground.phase }, { on := 2, ground := Ground.phase }, { on := 3, ground := Ground.phase }, { on := 4, ground := Ground.phase }, { on := 5, ground := Ground.phase }, { on := 6, ground := Ground.phase }], guard := none }) (v := ?_) rfl (by kernel_rfl) (by kernel_rfl) (by kernel_rfl) (fun _ _ _ h => h) (Or.inl ⟨by rfl, ?_⟩) hHeld ?_
          rotate_left 1
          · intro u hSu
            obtain ⟨qHA0, qHA1, qHA2, qHA3, qHA4⟩ := hSu.out.cells HA.out.1
            obtain ⟨qHB0, qHB1, qHB2, qHB3, qHB4⟩ := hSu.out.cells HB.out.1
            go_simp
            first | done | with_reducible rfl
          (try simp only [Act.put, List.setIfInBounds_toArray, List.set_cons_zero, List.set_cons_succ])
          refine wpAnyH_done (by kernel_rfl) ?_ _
          clear hHeld
          obtain ⟨same, hsame⟩ : ∃ b, decide (cmpA A B = 0) = b := ⟨_, rfl⟩
          rw [hsame]
          have HSM := Lib.hid hsame
          clear hsame
          have HKK := HD
          clear HD
          go_upto_region 14 with fail
          have HD := Lib.hid (HKK.out.keep (grown_drew (grown_refl _ none)))
          clear HKK
          refine wp_region_held_drew (S := fun w' => Hid (OR w D l w')) (by kernel_rfl) (HD) (fun hHeld => ?_)
          refine wpAnyH_take (i := 0) (oi := { dst := some 37, op := Op.move (Operand.tmp 6), type := 3, pos := "law.go:140", after := #[], guard := none }) (v := ?_) rfl (by kernel_rfl) (by kernel_rfl) (by kernel_rfl) (fun _ _ _ h => h) (Or.inl ⟨by rfl, ?_⟩) hHeld ?_
          rotate_left 1
          · intro u hSu
            obtain ⟨qHA0, qHA1, qHA2, qHA3, qHA4⟩ := hSu.out.cells HA.out.1
            obtain ⟨qHB0, qHB1, qHB2, qHB3, qHB4⟩ := hSu.out.cells HB.out.1
            go_simp
            first | done | with_reducible rfl
          (try simp only [Act.put, List.setIfInBounds_toArray, List.set_cons_zero, List.set_cons_succ])
          refine wpAnyH_take (i := 1) (oi := { dst := some 38, op := Op.indexAddr 57 (Operand.tmp 4) (Operand.tmp 37), type := 0, pos := "law.go:140", after := #[{ on := 0, ground := Ground.data }], guard := none }) (v := ?_) rfl (by kernel_rfl) (by kernel_rfl) (by kernel_rfl) (fun _ _ _ h => h) (Or.inl ⟨by rfl, ?_⟩) hHeld ?_
          rotate_left 1
          · intro u hSu
            obtain ⟨qHA0, qHA1, qHA2, qHA3, qHA4⟩ := hSu.out.cells HA.out.1
            obtain ⟨qHB0, qHB1, qHB2, qHB3, qHB4⟩ := hSu.out.cells HB.out.1
            go_simp
            first | done | with_reducible rfl
          (try simp only [Act.put, List.setIfInBounds_toArray, List.set_cons_zero, List.set_cons_succ])
          refine wpAnyH_take (i := 2) (oi := { dst := some 39, op := Op.load 26 (Operand.tmp 38), type := 26, pos := "law.go:140", after := #[{ on := 1, ground := Ground.data }], guard := none }) (v := ?_) rfl (by kernel_rfl) (by kernel_rfl) (by kernel_rfl) (fun _ _ _ h => h) (Or.inl ⟨by rfl, ?_⟩) hHeld ?_
          rotate_left 1
          · intro u hSu
            obtain ⟨qHA0, qHA1, qHA2, qHA3, qHA4⟩ := hSu.out.cells HA.out.1
            obtain ⟨qHB0, qHB1, qHB2, qHB3, qHB4⟩ := hSu.out.cells HB.out.1
            go_simp
            first | done | with_reducible rfl
          (try simp only [Act.put, List.setIfInBounds_toArray, List.set_cons_zero, List.set_cons_succ])
          refine wpAnyH_take (i := 3) (oi := { dst := some 40, op := Op.move (Operand.tmp 7), type := 3, pos := "law.go:140", after := #[], guard := none }) (v := ?_) rfl (by kernel_rfl) (by kernel_rfl) (by kernel_rfl) (fun _ _ _ h => h) (Or.inl ⟨by rfl, ?_⟩) hHeld ?_
          rotate_left 1
          · intro u hSu
            obtain ⟨qHA0, qHA1, qHA2, qHA3, qHA4⟩ := hSu.out.cells HA.out.1
            obtain ⟨qHB0, qHB1, qHB2, qHB3, qHB4⟩ := hSu.out.cells HB.out.1
            go_simp
            first | done | with_reducible rfl
          (try simp only [Act.put, List.setIfInBounds_toArray, List.set_cons_zero, List.set_cons_succ])
          refine wpAnyH_take (i := 4) (oi := { dst := some 41, op := Op.indexAddr 57 (Operand.tmp 4) (Operand.tmp 40), type := 0, pos := "law.go:140", after := #[{ on := 3, ground := Ground.data }], guard := none }) (v := ?_) rfl (by kernel_rfl) (by kernel_rfl) (by kernel_rfl) (fun _ _ _ h => h) (Or.inl ⟨by rfl, ?_⟩) hHeld ?_
          rotate_left 1
          · intro u hSu
            obtain ⟨qHA0, qHA1, qHA2, qHA3, qHA4⟩ := hSu.out.cells HA.out.1
            obtain ⟨qHB0, qHB1, qHB2, qHB3, qHB4⟩ := hSu.out.cells HB.out.1
            go_simp
            first | done | with_reducible rfl
          (try simp only [Act.put, List.setIfInBounds_toArray, List.set_cons_zero, List.set_cons_succ])
          refine wpAnyH_take (i := 5) (oi := { dst := some 42, op := Op.load 26 (Operand.tmp 41), type := 26, pos := "law.go:140", after := #[{ on := 4, ground := Ground.data }], guard := none }) (v := ?_) rfl (by kernel_rfl) (by kernel_rfl) (by kernel_rfl) (fun _ _ _ h => h) (Or.inl ⟨by rfl, ?_⟩) hHeld ?_
          rotate_left 1
          · intro u hSu
            obtain ⟨qHA0, qHA1, qHA2, qHA3, qHA4⟩ := hSu.out.cells HA.out.1
            obtain ⟨qHB0, qHB1, qHB2, qHB3, qHB4⟩ := hSu.out.cells HB.out.1
            go_simp
            first | done | with_reducible rfl
          (try simp only [Act.put, List.setIfInBounds_toArray, List.set_cons_zero, List.set_cons_succ])
          refine wpAnyH_take (i := 7) (oi := { dst := some 44, op := Op.move (Operand.tmp 7), type := 3, pos := "law.go:140", after := #[], guard := none }) (v := ?_) rfl (by kernel_rfl) (by kernel_rfl) (by kernel_rfl) (fun _ _ _ h => h) (Or.inl ⟨by rfl, ?_⟩) hHeld ?_
          rotate_left 1
          · intro u hSu
            obtain ⟨qHA0, qHA1, qHA2, qHA3, qHA4⟩ := hSu.out.cells HA.out.1
            obtain ⟨qHB0, qHB1, qHB2, qHB3, qHB4⟩ := hSu.out.cells HB.out.1
            go_simp
            first | done | with_reducible rfl
          (try simp only [Act.put, List.setIfInBounds_toArray, List.set_cons_zero, List.set_cons_succ])
          refine wpAnyH_take (i := 8) (oi := { dst := some 45, op := Op.indexAddr 57 (Operand.tmp 4) (Operand.tmp 44), type := 0, pos := "law.go:140", after := #[{ on := 7, ground := Ground.data }], guard := none }) (v := ?_) rfl (by kernel_rfl) (by kernel_rfl) (by kernel_rfl) (fun _ _ _ h => h) (Or.inl ⟨by rfl, ?_⟩) hHeld ?_
          rotate_left 1
          · intro u hSu
            obtain ⟨qHA0, qHA1, qHA2, qHA3, qHA4⟩ := hSu.out.cells HA.out.1
            obtain ⟨qHB0, qHB1, qHB2, qHB3, qHB4⟩ := hSu.out.cells HB.out.1
            go_simp
            first | done | with_reducible rfl
          (try simp only [Act.put, List.setIfInBounds_toArray, List.set_cons_zero, List.set_cons_succ])
          refine wpAnyH_take (i := 9) (oi := { dst := some 46, op := Op.load 26 (Operand.tmp 45), type := 26, pos := "law.go:140", after := #[{ on := 8, ground := Ground.data }], guard := none }) (v := ?_) rfl (by kernel_rfl) (by kernel_rfl) (by kernel_rfl) (fun _ _ _ h => h) (Or.inl ⟨by rfl, ?_⟩) hHeld ?_
          rotate_left 1
          · intro u hSu
            obtain ⟨qHA0, qHA1, qHA2, qHA3, qHA4⟩ := hSu.out.cells HA.out.1
            obtain ⟨qHB0, qHB1, qHB2, qHB3, qHB4⟩ := hSu.out.cells HB.out.1
            go_simp
            first | done | with_reducible rfl
          (try simp only [Act.put, List.setIfInBounds_toArray, List.set_cons_zero, List.set_cons_succ])
          refine wpAnyH_take (i := 10) (oi := { dst := some 47, op := Op.move (Operand.tmp 6), type := 3, pos := "law.go:140", after := #[], guard := none }) (v := ?_) rfl (by kernel_rfl) (by kernel_rfl) (by kernel_rfl) (fun _ _ _ h => h) (Or.inl ⟨by rfl, ?_⟩) hHeld ?_
          rotate_left 1
          · intro u hSu
            obtain ⟨qHA0, qHA1, qHA2, qHA3, qHA4⟩ := hSu.out.cells HA.out.1
            obtain ⟨qHB0, qHB1, qHB2, qHB3, qHB4⟩ := hSu.out.cells HB.out.1
            go_simp
            first | done | with_reducible rfl
          (try simp only [Act.put, List.setIfInBounds_toArray, List.set_cons_zero, List.set_cons_succ])
          refine wpAnyH_take (i := 11) (oi := { dst := some 48, op := Op.indexAddr 57 (Operand.tmp 4) (Operand.tmp 47), type := 0, pos := "law.go:140", after := #[{ on := 10, ground := Ground.data }], guard := none }) (v := ?_) rfl (by kernel_rfl) (by kernel_rfl) (by kernel_rfl) (fun _ _ _ h => h) (Or.inl ⟨by rfl, ?_⟩) hHeld ?_
          rotate_left 1
          · intro u hSu
            obtain ⟨qHA0, qHA1, qHA2, qHA3, qHA4⟩ := hSu.out.cells HA.out.1
            obtain ⟨qHB0, qHB1, qHB2, qHB3, qHB4⟩ := hSu.out.cells HB.out.1
            go_simp
            first | done | with_reducible rfl
          (try simp only [Act.put, List.setIfInBounds_toArray, List.set_cons_zero, List.set_cons_succ])
          refine wpAnyH_take (i := 12) (oi := { dst := some 49, op := Op.load 26 (Operand.tmp 48), type := 26, pos := "law.go:140", after := #[{ on := 11, ground := Ground.data }], guard := none }) (v := ?_) rfl (by kernel_rfl) (by kernel_rfl) (by kernel_rfl) (fun _ _ _ h => h) (Or.inl ⟨by rfl, ?_⟩) hHeld ?_
          rotate_left 1
          · intro u hSu
            obtain ⟨qHA0, qHA1, qHA2, qHA3, qHA4⟩ := hSu.out.cells HA.out.1
            obtain ⟨qHB0, qHB1, qHB2, qHB3, qHB4⟩ := hSu.out.cells HB.out.1
            go_simp
            first | done | with_reducible rfl
          (try simp only [Act.put, List.setIfInBounds_toArray, List.set_cons_zero, List.set_cons_succ])
          refine wpAnyH_ready (rs := [6]) (by kernel_rfl) (by simp) ?_
          refine AllReadyH.cons (o := { dst := some 43, op := Op.call { callee := Callee.value (Operand.func 28), args := #[Operand.tmp 39, Operand.tmp 42], argTypes := #[26, 26] }, type := 4, pos := "law.go:140", after := #[{ on := 2, ground := Ground.data }, { on := 5, ground := Ground.data }], guard := none }) rfl (fun Kz hK => ?_) AllReadyH.nil
          go_simp
          refine (HNh.out _ _ HA.out.2 HB.out.2 _ HD).mono ?_
          rintro e w5 ⟨rfl, HDn⟩
          clear HD
          have HD := HDn
          clear HDn
          refine hK.out _ _ (HD) (fun hH2 => ?_)
          clear hK Kz hHeld
          have hHeld := hH2
          clear hH2
          (try simp only [Act.put, List.setIfInBounds_toArray, List.set_cons_zero, List.set_cons_succ])
          refine wpAnyH_ready (rs := [13]) (by kernel_rfl) (by simp) ?_
          refine AllReadyH.cons (o := { dst := some 50, op := Op.call { callee := Callee.value (Operand.func 28), args := #[Operand.tmp 46, Operand.tmp 49], argTypes := #[26, 26] }, type := 4, pos := "law.go:140", after := #[{ on := 9, ground := Ground.data }, { on := 12, ground := Ground.data }, { on := 6, ground := Ground.chain }], guard := none }) rfl (fun Kz hK => ?_) AllReadyH.nil
          go_simp
          refine (HNh.out _ _ HB.out.2 HA.out.2 _ HD).mono ?_
          rintro e w5 ⟨rfl, HDn⟩
          clear HD
          have HD := HDn
          clear HDn
          refine hK.out _ _ (HD) (fun hH2 => ?_)
          clear hK Kz hHeld
          have hHeld := hH2
          clear hH2
          (try simp only [Act.put, List.setIfInBounds_toArray, List.set_cons_zero, List.set_cons_succ])
          refine wpAnyH_take (i := 14) (oi := { dst := some 9, op := Op.assign (Operand.tmp 43), type := 4, pos := "law.go:140", after := #[{ on := 6, ground := Ground.data }, { on := 13, ground := Ground.chain }, { on := 0, ground := Ground.phase }, { on := 1, ground := Ground.phase }, { on := 2, ground := Ground.phase }, { on := 3, ground := Ground.phase }, { on := 4, ground := Ground.phase }, { on := 5, ground := Ground.phase }, { on := 6, ground := Ground.phase }, { on := 7, ground := Ground.textOnly Departure.lateStores }, { on := 8, ground := Ground.textOnly Departure.lateStores }, { on := 9, ground := Ground.textOnly Departure.lateStores }, { on := 10, ground := Ground.textOnly Departure.lateStores }, { on := 11, ground := Ground.textOnly Departure.lateStores }, { on := 12, ground := Ground.textOnly Departure.lateStores }, { on := 13, ground := Ground.textOnly Departure.lateStoresUnsure }], guard := none }) (v := ?_) rfl (by kernel_rfl) (by kernel_rfl) (by kernel_rfl) (fun _ _ _ h => h) (Or.inl ⟨by rfl, ?_⟩) hHeld ?_
          rotate_left 1
          · intro u hSu
            obtain ⟨qHA0, qHA1, qHA2, qHA3, qHA4⟩ := hSu.out.cells HA.out.1
            obtain ⟨qHB0, qHB1, qHB2, qHB3, qHB4⟩ := hSu.out.cells HB.out.1
            go_simp
            first | done | with_reducible rfl
          (try simp only [Act.put, List.setIfInBounds_toArray, List.set_cons_zero, List.set_cons_succ])
          refine wpAnyH_take (i := 15) (oi := { dst := some 10, op := Op.assign (Operand.tmp 50), type := 4, pos := "law.go:140", after := #[{ on := 13, ground := Ground.data }, { on := 14, ground := Ground.chain }, { on := 0, ground := Ground.phase }, { on := 1, ground := Ground.phase }, { on := 2, ground := Ground.phase }, { on := 3, ground := Ground.phase }, { on := 4, ground := Ground.phase }, { on := 5, ground := Ground.phase }, { on := 6, ground := Ground.phase }, { on := 7, ground := Ground.phase }, { on := 8, ground := Ground.phase }, { on := 9, ground := Ground.phase }, { on := 10, ground := Ground.phase }, { on := 11, ground := Ground.phase }, { on := 12, ground := Ground.phase }, { on := 13, ground := Ground.phase }, { on := 14, ground := Ground.phase }], guard := none }) (v := ?_) rfl (by kernel_rfl) (by kernel_rfl) (by kernel_rfl) (fun _ _ _ h => h) (Or.inl ⟨by rfl, ?_⟩) hHeld ?_
          rotate_left 1
          · intro u hSu
            obtain ⟨qHA0, qHA1, qHA2, qHA3, qHA4⟩ := hSu.out.cells HA.out.1
            obtain ⟨qHB0, qHB1, qHB2, qHB3, qHB4⟩ := hSu.out.cells HB.out.1
            go_simp
            first | done | with_reducible rfl
          (try simp only [Act.put, List.setIfInBounds_toArray, List.set_cons_zero, List.set_cons_succ])
          refine wpAnyH_done (by kernel_rfl) ?_ _
          clear hHeld
          have hAv := HV.out A HA.out.2
          have hBv := HV.out B HB.out.2
          cases hs : same
          · have hne : cmpA A B ≠ 0 := fun e => by have := HSM.out; rw [hs, decide_eq_true e] at this; cases this
            have h1 := nw_one hAv.1 hBv.1 (hAv.2.trans hBv.2.symm) hne
            cases hab : nwA A B
            · have hba : nwA B A = true := by rw [hab] at h1; simpa using h1.symm
              rw [hba]
              have HAB := Lib.hid hab
              clear hab hba h1 hne hs hAv hBv
              go_wp2_with fail
              go_loopw [11] (fun i wr => ∃ k : Nat, k ≤ 4 ∧ i = .int .i64 (k : Int) ∧ Hid (OR w D l wr)) (fun i _ => 4 - (RowKit.intOf i).toNat)
              case atStart => exact ⟨0, by omega, rfl, HD⟩
              case round =>
                obtain ⟨j, hj4, rfl, HJ⟩ := hrel
                clear HD
                by_cases hlj : j < 4
                · obtain ⟨C, hC⟩ : ∃ C, l[j]? = some C := ⟨_, List.getElem?_eq_getElem (by rw [HL.out]; exact hlj)⟩
                  have HC := Lib.hid (And.intro hC (List.mem_of_getElem? hC))
                  clear hC
                  go_upto_region 20 with fail
                  have HD := Lib.hid (HJ.out.keep (grown_drew (grown_refl wr none)))
                  clear HJ
                  refine wp_region_held_drew (S := fun w' => Hid (OR w D l w')) (by kernel_rfl) (HD) (fun hHeld => ?_)
                  refine wpAnyH_take (i := 0) (oi := { dst := some 71, op := Op.move (Operand.tmp 9), type := 4, pos := "law.go:145", after := #[], guard := none }) (v := ?_) rfl (by kernel_rfl) (by kernel_rfl) (by kernel_rfl) (fun _ _ _ h => h) (Or.inl ⟨by rfl, ?_⟩) hHeld ?_
                  rotate_left 1
                  · intro u hSu
                    go_simp
                    first | done | with_reducible rfl
                  (try simp only [Act.put, List.setIfInBounds_toArray, List.set_cons_zero, List.set_cons_succ])
                  refine wpAnyH_take (i := 1) (oi := { dst := some 72, op := Op.move (Operand.tmp 71), type := 4, pos := "law.go:145", after := #[{ on := 0, ground := Ground.data }], guard := none }) (v := ?_) rfl (by kernel_rfl) (by kernel_rfl) (by kernel_rfl) (fun _ _ _ h => h) (Or.inl ⟨by rfl, ?_⟩) hHeld ?_
                  rotate_left 1
                  · intro u hSu
                    go_simp
                    first | done | with_reducible rfl
                  (try simp only [Act.put, List.setIfInBounds_toArray, List.set_cons_zero, List.set_cons_succ])
                  refine wpAnyH_take (i := 2) (oi := { dst := some 73, op := Op.move (Operand.tmp 7), type := 3, pos := "law.go:145", after := #[{ on := 1, ground := Ground.guard }], guard := some (1, true) }) (v := undef) rfl (by kernel_rfl) (by kernel_rfl) (by kernel_rfl) (fun _ _ _ h => h) (Or.inr ⟨by rfl, rfl⟩) hHeld ?_
                  (try simp only [Act.put, List.setIfInBounds_toArray, List.set_cons_zero, List.set_cons_succ])
                  refine wpAnyH_take (i := 3) (oi := { dst := some 74, op := Op.indexAddr 57 (Operand.tmp 4) (Operand.tmp 73), type := 0, pos := "law.go:145", after := #[{ on := 2, ground := Ground.data }, { on := 1, ground := Ground.guard }], guard := some (1, true) }) (v := undef) rfl (by kernel_rfl) (by kernel_rfl) (by kernel_rfl) (fun _ _ _ h => h) (Or.inr ⟨by rfl, rfl⟩) hHeld ?_
                  (try simp only [Act.put, List.setIfInBounds_toArray, List.set_cons_zero, List.set_cons_succ])
                  refine wpAnyH_take (i := 4) (oi := { dst := some 75, op := Op.load 26 (Operand.tmp 74), type := 26, pos := "law.go:145", after := #[{ on := 3, ground := Ground.data }, { on := 1, ground := Ground.guard }], guard := some (1, true) }) (v := undef) rfl (by kernel_rfl) (by kernel_rfl) (by kernel_rfl) (fun _ _ _ h => h) (Or.inr ⟨by rfl, rfl⟩) hHeld ?_
                  (try simp only [Act.put, List.setIfInBounds_toArray, List.set_cons_zero, List.set_cons_succ])
                  refine wpAnyH_take (i := 5) (oi := { dst := some 76, op := Op.move (Operand.tmp 11), type := 3, pos := "law.go:145", after := #[{ on := 1, ground := Ground.guard }], guard := some (1, true) }) (v := undef) rfl (by kernel_rfl) (by kernel_rfl) (by kernel_rfl) (fun _ _ _ h => h) (Or.inr ⟨by rfl, rfl⟩) hHeld ?_
                  (try simp only [Act.put, List.setIfInBounds_toArray, List.set_cons_zero, List.set_cons_succ])
                  refine wpAnyH_take (i := 6) (oi := { dst := some 77, op := Op.indexAddr 57 (Operand.tmp 4) (Operand.tmp 76), type := 0, pos := "law.go:145", after := #[{ on := 5, ground := Ground.data }, { on := 1, ground := Ground.guard }], guard := some (1, true) }) (v := undef) rfl (by kernel_rfl) (by kernel_rfl) (by kernel_rfl) (fun _ _ _ h => h) (Or.inr ⟨by rfl, rfl⟩) hHeld ?_
                  (try simp only [Act.put, List.setIfInBounds_toArray, List.set_cons_zero, List.set_cons_succ])
                  refine wpAnyH_take (i := 7) (oi := { dst := some 78, op := Op.load 26 (Operand.tmp 77), type := 26, pos := "law.go:145", after := #[{ on := 6, ground := Ground.data }, { on := 1, ground := Ground.guard }], guard := some (1, true) }) (v := undef) rfl (by kernel_rfl) (by kernel_rfl) (by kernel_rfl) (fun _ _ _ h => h) (Or.inr ⟨by rfl, rfl⟩) hHeld ?_
                  (try simp only [Act.put, List.setIfInBounds_toArray, List.set_cons_zero, List.set_cons_succ])
                  refine wpAnyH_take (i := 8) (oi := { dst := some 79, op := Op.call { callee := Callee.value (Operand.func 28), args := #[Operand.tmp 75, Operand.tmp 78], argTypes := #[26, 26] }, type := 4, pos := "law.go:145", after := #[{ on := 4, ground := Ground.data }, { on := 7, ground := Ground.data }, { on := 1, ground := Ground.chain }, { on := 1, ground := Ground.guard }], guard := some (1, true) }) (v := undef) rfl (by kernel_rfl) (by kernel_rfl) (by kernel_rfl) (fun _ _ _ h => h) (Or.inr ⟨by rfl, rfl⟩) hHeld ?_
                  (try simp only [Act.put, List.setIfInBounds_toArray, List.set_cons_zero, List.set_cons_succ])
                  refine wpAnyH_take (i := 9) (oi := { dst := some 80, op := Op.pick (Operand.tmp 72) (Operand.tmp 79) (Operand.const (Value.bool false)), type := 4, pos := "law.go:145", after := #[{ on := 1, ground := Ground.data }, { on := 8, ground := Ground.data }], guard := none }) (v := ?_) rfl (by kernel_rfl) (by kernel_rfl) (by kernel_rfl) (fun _ _ _ h => h) (Or.inl ⟨by rfl, ?_⟩) hHeld ?_
                  rotate_left 1
                  · intro u hSu
                    go_simp
                    first | done | with_reducible rfl
                  (try simp only [Act.put, List.setIfInBounds_toArray, List.set_cons_zero, List.set_cons_succ])
                  refine wpAnyH_take (i := 10) (oi := { dst := some 81, op := Op.move (Operand.tmp 80), type := 4, pos := "law.go:145", after := #[{ on := 9, ground := Ground.data }, { on := 8, ground := Ground.chain }], guard := none }) (v := ?_) rfl (by kernel_rfl) (by kernel_rfl) (by kernel_rfl) (fun _ _ _ h => h) (Or.inl ⟨by rfl, ?_⟩) hHeld ?_
                  rotate_left 1
                  · intro u hSu
                    go_simp
                    first | done | with_reducible rfl
                  (try simp only [Act.put, List.setIfInBounds_toArray, List.set_cons_zero, List.set_cons_succ])
                  refine wpAnyH_take (i := 11) (oi := { dst := some 82, op := Op.move (Operand.tmp 6), type := 3, pos := "law.go:145", after := #[{ on := 10, ground := Ground.guard }], guard := some (10, true) }) (v := undef) rfl (by kernel_rfl) (by kernel_rfl) (by kernel_rfl) (fun _ _ _ h => h) (Or.inr ⟨by rfl, rfl⟩) hHeld ?_
                  (try simp only [Act.put, List.setIfInBounds_toArray, List.set_cons_zero, List.set_cons_succ])
                  refine wpAnyH_take (i := 12) (oi := { dst := some 83, op := Op.indexAddr 57 (Operand.tmp 4) (Operand.tmp 82), type := 0, pos := "law.go:145", after := #[{ on := 11, ground := Ground.data }, { on := 10, ground := Ground.guard }], guard := some (10, true) }) (v := undef) rfl (by kernel_rfl) (by kernel_rfl) (by kernel_rfl) (fun _ _ _ h => h) (Or.inr ⟨by rfl, rfl⟩) hHeld ?_
                  (try simp only [Act.put, List.setIfInBounds_toArray, List.set_cons_zero, List.set_cons_succ])
                  refine wpAnyH_take (i := 13) (oi := { dst := some 84, op := Op.load 26 (Operand.tmp 83), type := 26, pos := "law.go:145", after := #[{ on := 12, ground := Ground.data }, { on := 10, ground := Ground.guard }], guard := some (10, true) }) (v := undef) rfl (by kernel_rfl) (by kernel_rfl) (by kernel_rfl) (fun _ _ _ h => h) (Or.inr ⟨by rfl, rfl⟩) hHeld ?_
                  (try simp only [Act.put, List.setIfInBounds_toArray, List.set_cons_zero, List.set_cons_succ])
                  refine wpAnyH_take (i := 14) (oi := { dst := some 85, op := Op.move (Operand.tmp 11), type := 3, pos := "law.go:145", after := #[{ on := 10, ground := Ground.guard }], guard := some (10, true) }) (v := undef) rfl (by kernel_rfl) (by kernel_rfl) (by kernel_rfl) (fun _ _ _ h => h) (Or.inr ⟨by rfl, rfl⟩) hHeld ?_
                  (try simp only [Act.put, List.setIfInBounds_toArray, List.set_cons_zero, List.set_cons_succ])
                  refine wpAnyH_take (i := 15) (oi := { dst := some 86, op := Op.indexAddr 57 (Operand.tmp 4) (Operand.tmp 85), type := 0, pos := "law.go:145", after := #[{ on := 14, ground := Ground.data }, { on := 10, ground := Ground.guard }], guard := some (10, true) }) (v := undef) rfl (by kernel_rfl) (by kernel_rfl) (by kernel_rfl) (fun _ _ _ h => h) (Or.inr ⟨by rfl, rfl⟩) hHeld ?_
                  (try simp only [Act.put, List.setIfInBounds_toArray, List.set_cons_zero, List.set_cons_succ])
                  refine wpAnyH_take (i := 16) (oi := { dst := some 87, op := Op.load 26 (Operand.tmp 86), type := 26, pos := "law.go:145", after := #[{ on := 15, ground := Ground.data }, { on := 10, ground := Ground.guard }], guard := some (10, true) }) (v := undef) rfl (by kernel_rfl) (by kernel_rfl) (by kernel_rfl) (fun _ _ _ h => h) (Or.inr ⟨by rfl, rfl⟩) hHeld ?_
                  (try simp only [Act.put, List.setIfInBounds_toArray, List.set_cons_zero, List.set_cons_succ])
                  refine wpAnyH_take (i := 17) (oi := { dst := some 88, op := Op.call { callee := Callee.value (Operand.func 28), args := #[Operand.tmp 84, Operand.tmp 87], argTypes := #[26, 26] }, type := 4, pos := "law.go:145", after := #[{ on := 13, ground := Ground.data }, { on := 16, ground := Ground.data }, { on := 10, ground := Ground.chain }, { on := 10, ground := Ground.guard }], guard := some (10, true) }) (v := undef) rfl (by kernel_rfl) (by kernel_rfl) (by kernel_rfl) (fun _ _ _ h => h) (Or.inr ⟨by rfl, rfl⟩) hHeld ?_
                  (try simp only [Act.put, List.setIfInBounds_toArray, List.set_cons_zero, List.set_cons_succ])
                  refine wpAnyH_take (i := 18) (oi := { dst := some 89, op := Op.unOp UnOp.not 4 (Operand.tmp 88), type := 4, pos := "law.go:145", after := #[{ on := 17, ground := Ground.data }, { on := 10, ground := Ground.guard }], guard := some (10, true) }) (v := undef) rfl (by kernel_rfl) (by kernel_rfl) (by kernel_rfl) (fun _ _ _ h => h) (Or.inr ⟨by rfl, rfl⟩) hHeld ?_
                  (try simp only [Act.put, List.setIfInBounds_toArray, List.set_cons_zero, List.set_cons_succ])
                  refine wpAnyH_take (i := 19) (oi := { dst := some 90, op := Op.pick (Operand.tmp 81) (Operand.tmp 89) (Operand.const (Value.bool false)), type := 4, pos := "law.go:145", after := #[{ on := 10, ground := Ground.data }, { on := 18, ground := Ground.data }], guard := none }) (v := ?_) rfl (by kernel_rfl) (by kernel_rfl) (by kernel_rfl) (fun _ _ _ h => h) (Or.inl ⟨by rfl, ?_⟩) hHeld ?_
                  rotate_left 1
                  · intro u hSu
                    go_simp
                    first | done | with_reducible rfl
                  (try simp only [Act.put, List.setIfInBounds_toArray, List.set_cons_zero, List.set_cons_succ])
                  refine wpAnyH_done (by kernel_rfl) ?_ _
                  clear hHeld
                  go_wp2_with fail
                  exact ⟨⟨j + 1, by omega, congrArg _ (by omega), HD⟩, by simp only [RowKit.intOf]; omega⟩
                · go_wp2_with fail
                  first
                  | exact ⟨⟨k + 1, by omega, congrArg _ (by omega), HJ⟩, by simp only [RowKit.intOf]; omega⟩
                  | (go_roundw; case rel => exact ⟨k + 1, by omega, by go_num, HJ⟩; case measure => simp [RowKit.intOf]; omega)
            · have hba : nwA B A = false := by rw [hab] at h1; simpa using h1.symm
              rw [hba]
              have HAB := Lib.hid hab
              clear hab hba h1 hne hs hAv hBv
              go_wp2_with fail
              go_loopw [11] (fun i wr => ∃ k : Nat, k ≤ 4 ∧ i = .int .i64 (k : Int) ∧ Hid (OR w D l wr)) (fun i _ => 4 - (RowKit.intOf i).toNat)
              case atStart => exact ⟨0, by omega, rfl, HD⟩
              case round =>
                obtain ⟨j, hj4, rfl, HJ⟩ := hrel
                clear HD
                by_cases hlj : j < 4
                · obtain ⟨C, hC⟩ : ∃ C, l[j]? = some C := ⟨_, List.getElem?_eq_getElem (by rw [HL.out]; exact hlj)⟩
                  have HC := Lib.hid (And.intro hC (List.mem_of_getElem? hC))
                  clear hC
                  cases hbc : nwA B C
                  · have HBC := Lib.hid hbc
                    clear hbc
                    go_upto_region 20 with fail
                    have HD := Lib.hid (HJ.out.keep (grown_drew (grown_refl wr none)))
                    clear HJ
                    refine wp_region_held_drew (S := fun w' => Hid (OR w D l w')) (by kernel_rfl) (HD) (fun hHeld => ?_)
                    refine wpAnyH_take (i := 0) (oi := { dst := some 71, op := Op.move (Operand.tmp 9), type := 4, pos := "law.go:145", after := #[], guard := none }) (v := ?_) rfl (by kernel_rfl) (by kernel_rfl) (by kernel_rfl) (fun _ _ _ h => h) (Or.inl ⟨by rfl, ?_⟩) hHeld ?_
                    rotate_left 1
                    · intro u hSu
                      obtain ⟨qHB0, qHB1, qHB2, qHB3, qHB4⟩ := hSu.out.cells HB.out.1
                      obtain ⟨qHC0, qHC1, qHC2, qHC3, qHC4⟩ := hSu.out.cells HC.out.1
                      go_simp
                      first | done | with_reducible rfl
                    (try simp only [Act.put, List.setIfInBounds_toArray, List.set_cons_zero, List.set_cons_succ])
                    refine wpAnyH_take (i := 1) (oi := { dst := some 72, op := Op.move (Operand.tmp 71), type := 4, pos := "law.go:145", after := #[{ on := 0, ground := Ground.data }], guard := none }) (v := ?_) rfl (by kernel_rfl) (by kernel_rfl) (by kernel_rfl) (fun _ _ _ h => h) (Or.inl ⟨by rfl, ?_⟩) hHeld ?_
                    rotate_left 1
                    · intro u hSu
                      obtain ⟨qHB0, qHB1, qHB2, qHB3, qHB4⟩ := hSu.out.cells HB.out.1
                      obtain ⟨qHC0, qHC1, qHC2, qHC3, qHC4⟩ := hSu.out.cells HC.out.1
                      go_simp
                      first | done | with_reducible rfl
                    (try simp only [Act.put, List.setIfInBounds_toArray, List.set_cons_zero, List.set_cons_succ])
                    refine wpAnyH_take (i := 2) (oi := { dst := some 73, op := Op.move (Operand.tmp 7), type := 3, pos := "law.go:145", after := #[{ on := 1, ground := Ground.guard }], guard := some (1, true) }) (v := ?_) rfl (by kernel_rfl) (by kernel_rfl) (by kernel_rfl) (fun _ _ _ h => h) (Or.inl ⟨by rfl, ?_⟩) hHeld ?_
                    rotate_left 1
                    · intro u hSu
                      obtain ⟨qHB0, qHB1, qHB2, qHB3, qHB4⟩ := hSu.out.cells HB.out.1
                      obtain ⟨qHC0, qHC1, qHC2, qHC3, qHC4⟩ := hSu.out.cells HC.out.1
                      go_simp
                      first | done | with_reducible rfl
                    (try simp only [Act.put, List.setIfInBounds_toArray, List.set_cons_zero, List.set_cons_succ])
                    refine wpAnyH_take (i := 3) (oi := { dst := some 74, op := Op.indexAddr 57 (Operand.tmp 4) (Operand.tmp 73), type := 0, pos := "law.go:145", after := #[{ on := 2, ground := Ground.data }, { on := 1, ground := Ground.guard }], guard := some (1, true) }) (v := ?_) rfl (by kernel_rfl) (by kernel_rfl) (by kernel_rfl) (fun _ _ _ h => h) (Or.inl ⟨by rfl, ?_⟩) hHeld ?_
                    rotate_left 1
                    · intro u hSu
                      obtain ⟨qHB0, qHB1, qHB2, qHB3, qHB4⟩ := hSu.out.cells HB.out.1
                      obtain ⟨qHC0, qHC1, qHC2, qHC3, qHC4⟩ := hSu.out.cells HC.out.1
                      go_simp
                      first | done | with_reducible rfl
                    (try simp only [Act.put, List.setIfInBounds_toArray, List.set_cons_zero, List.set_cons_succ])
                    refine wpAnyH_take (i := 4) (oi := { dst := some 75, op := Op.load 26 (Operand.tmp 74), type := 26, pos := "law.go:145", after := #[{ on := 3, ground := Ground.data }, { on := 1, ground := Ground.guard }], guard := some (1, true) }) (v := ?_) rfl (by kernel_rfl) (by kernel_rfl) (by kernel_rfl) (fun _ _ _ h => h) (Or.inl ⟨by rfl, ?_⟩) hHeld ?_
                    rotate_left 1
                    · intro u hSu
                      obtain ⟨qHB0, qHB1, qHB2, qHB3, qHB4⟩ := hSu.out.cells HB.out.1
                      obtain ⟨qHC0, qHC1, qHC2, qHC3, qHC4⟩ := hSu.out.cells HC.out.1
                      go_simp
                      first | done | with_reducible rfl
                    (try simp only [Act.put, List.setIfInBounds_toArray, List.set_cons_zero, List.set_cons_succ])
                    refine wpAnyH_take (i := 5) (oi := { dst := some 76, op := Op.move (Operand.tmp 11), type := 3, pos := "law.go:145", after := #[{ on := 1, ground := Ground.guard }], guard := some (1, true) }) (v := ?_) rfl (by kernel_rfl) (by kernel_rfl) (by kernel_rfl) (fun _ _ _ h => h) (Or.inl ⟨by rfl, ?_⟩) hHeld ?_
                    rotate_left 1
                    · intro u hSu
                      obtain ⟨qHB0, qHB1, qHB2, qHB3, qHB4⟩ := hSu.out.cells HB.out.1
                      obtain ⟨qHC0, qHC1, qHC2, qHC3, qHC4⟩ := hSu.out.cells HC.out.1
                      go_simp
                      first | done | with_reducible rfl
                    (try simp only [Act.put, List.setIfInBounds_toArray, List.set_cons_zero, List.set_cons_succ])
                    refine wpAnyH_take (i := 6) (oi := { dst := some 77, op := Op.indexAddr 57 (Operand.tmp 4) (Operand.tmp 76), type := 0, pos := "law.go:145", after := #[{ on := 5, ground := Ground.data }, { on := 1, ground := Ground.guard }], guard := some (1, true) }) (v := ?_) rfl (by kernel_rfl) (by kernel_rfl) (by kernel_rfl) (fun _ _ _ h => h) (Or.inl ⟨by rfl, ?_⟩) hHeld ?_
                    rotate_left 1
                    · intro u hSu
                      obtain ⟨qHB0, qHB1, qHB2, qHB3, qHB4⟩ := hSu.out.cells HB.out.1
                      obtain ⟨qHC0, qHC1, qHC2, qHC3, qHC4⟩ := hSu.out.cells HC.out.1
                      go_simp
                      first | done | with_reducible rfl
                    (try simp only [Act.put, List.setIfInBounds_toArray, List.set_cons_zero, List.set_cons_succ])
                    refine wpAnyH_take (i := 7) (oi := { dst := some 78, op := Op.load 26 (Operand.tmp 77), type := 26, pos := "law.go:145", after := #[{ on := 6, ground := Ground.data }, { on := 1, ground := Ground.guard }], guard := some (1, true) }) (v := ?_) rfl (by kernel_rfl) (by kernel_rfl) (by kernel_rfl) (fun _ _ _ h => h) (Or.inl ⟨by rfl, ?_⟩) hHeld ?_
                    rotate_left 1
                    · intro u hSu
                      obtain ⟨qHB0, qHB1, qHB2, qHB3, qHB4⟩ := hSu.out.cells HB.out.1
                      obtain ⟨qHC0, qHC1, qHC2, qHC3, qHC4⟩ := hSu.out.cells HC.out.1
                      go_simp
                      first | done | with_reducible rfl
                    (try simp only [Act.put, List.setIfInBounds_toArray, List.set_cons_zero, List.set_cons_succ])
                    refine wpAnyH_ready (rs := [8]) (by kernel_rfl) (by simp) ?_
                    refine AllReadyH.cons (o := { dst := some 79, op := Op.call { callee := Callee.value (Operand.func 28), args := #[Operand.tmp 75, Operand.tmp 78], argTypes := #[26, 26] }, type := 4, pos := "law.go:145", after := #[{ on := 4, ground := Ground.data }, { on := 7, ground := Ground.data }, { on := 1, ground := Ground.chain }, { on := 1, ground := Ground.guard }], guard := some (1, true) }) rfl (fun Kz hK => ?_) AllReadyH.nil
                    go_simp
                    refine (HNh.out _ _ HB.out.2 HC.out.2 _ HD).mono ?_
                    rintro e w5 ⟨rfl, HDn⟩
                    rw [HBC.out]
                    clear HD
                    have HD := HDn
                    clear HDn
                    refine hK.out _ _ (HD) (fun hH2 => ?_)
                    clear hK Kz hHeld
                    have hHeld := hH2
                    clear hH2
                    (try simp only [Act.put, List.setIfInBounds_toArray, List.set_cons_zero, List.set_cons_succ])
                    refine wpAnyH_take (i := 9) (oi := { dst := some 80, op := Op.pick (Operand.tmp 72) (Operand.tmp 79) (Operand.const (Value.bool false)), type := 4, pos := "law.go:145", after := #[{ on := 1, ground := Ground.data }, { on := 8, ground := Ground.data }], guard := none }) (v := ?_) rfl (by kernel_rfl) (by kernel_rfl) (by kernel_rfl) (fun _ _ _ h => h) (Or.inl ⟨by rfl, ?_⟩) hHeld ?_
                    rotate_left 1
                    · intro u hSu
                      obtain ⟨qHB0, qHB1, qHB2, qHB3, qHB4⟩ := hSu.out.cells HB.out.1
                      obtain ⟨qHC0, qHC1, qHC2, qHC3, qHC4⟩ := hSu.out.cells HC.out.1
                      go_simp
                      first | done | with_reducible rfl
                    (try simp only [Act.put, List.setIfInBounds_toArray, List.set_cons_zero, List.set_cons_succ])
                    refine wpAnyH_take (i := 10) (oi := { dst := some 81, op := Op.move (Operand.tmp 80), type := 4, pos := "law.go:145", after := #[{ on := 9, ground := Ground.data }, { on := 8, ground := Ground.chain }], guard := none }) (v := ?_) rfl (by kernel_rfl) (by kernel_rfl) (by kernel_rfl) (fun _ _ _ h => h) (Or.inl ⟨by rfl, ?_⟩) hHeld ?_
                    rotate_left 1
                    · intro u hSu
                      obtain ⟨qHB0, qHB1, qHB2, qHB3, qHB4⟩ := hSu.out.cells HB.out.1
                      obtain ⟨qHC0, qHC1, qHC2, qHC3, qHC4⟩ := hSu.out.cells HC.out.1
                      go_simp
                      first | done | with_reducible rfl
                    (try simp only [Act.put, List.setIfInBounds_toArray, List.set_cons_zero, List.set_cons_succ])
                    refine wpAnyH_take (i := 11) (oi := { dst := some 82, op := Op.move (Operand.tmp 6), type := 3, pos := "law.go:145", after := #[{ on := 10, ground := Ground.guard }], guard := some (10, true) }) (v := undef) rfl (by kernel_rfl) (by kernel_rfl) (by kernel_rfl) (fun _ _ _ h => h) (Or.inr ⟨by rfl, rfl⟩) hHeld ?_
                    (try simp only [Act.put, List.setIfInBounds_toArray, List.set_cons_zero, List.set_cons_succ])
                    refine wpAnyH_take (i := 12) (oi := { dst := some 83, op := Op.indexAddr 57 (Operand.tmp 4) (Operand.tmp 82), type := 0, pos := "law.go:145", after := #[{ on := 11, ground := Ground.data }, { on := 10, ground := Ground.guard }], guard := some (10, true) }) (v := undef) rfl (by kernel_rfl) (by kernel_rfl) (by kernel_rfl) (fun _ _ _ h => h) (Or.inr ⟨by rfl, rfl⟩) hHeld ?_
                    (try simp only [Act.put, List.setIfInBounds_toArray, List.set_cons_zero, List.set_cons_succ])
                    refine wpAnyH_take (i := 13) (oi := { dst := some 84, op := Op.load 26 (Operand.tmp 83), type := 26, pos := "law.go:145", after := #[{ on := 12, ground := Ground.data }, { on := 10, ground := Ground.guard }], guard := some (10, true) }) (v := undef) rfl (by kernel_rfl) (by kernel_rfl) (by kernel_rfl) (fun _ _ _ h => h) (Or.inr ⟨by rfl, rfl⟩) hHeld ?_
                    (try simp only [Act.put, List.setIfInBounds_toArray, List.set_cons_zero, List.set_cons_succ])
                    refine wpAnyH_take (i := 14) (oi := { dst := some 85, op := Op.move (Operand.tmp 11), type := 3, pos := "law.go:145", after := #[{ on := 10, ground := Ground.guard }], guard := some (10, true) }) (v := undef) rfl (by kernel_rfl) (by kernel_rfl) (by kernel_rfl) (fun _ _ _ h => h) (Or.inr ⟨by rfl, rfl⟩) hHeld ?_
                    (try simp only [Act.put, List.setIfInBounds_toArray, List.set_cons_zero, List.set_cons_succ])
                    refine wpAnyH_take (i := 15) (oi := { dst := some 86, op := Op.indexAddr 57 (Operand.tmp 4) (Operand.tmp 85), type := 0, pos := "law.go:145", after := #[{ on := 14, ground := Ground.data }, { on := 10, ground := Ground.guard }], guard := some (10, true) }) (v := undef) rfl (by kernel_rfl) (by kernel_rfl) (by kernel_rfl) (fun _ _ _ h => h) (Or.inr ⟨by rfl, rfl⟩) hHeld ?_
                    (try simp only [Act.put, List.setIfInBounds_toArray, List.set_cons_zero, List.set_cons_succ])
                    refine wpAnyH_take (i := 16) (oi := { dst := some 87, op := Op.load 26 (Operand.tmp 86), type := 26, pos := "law.go:145", after := #[{ on := 15, ground := Ground.data }, { on := 10, ground := Ground.guard }], guard := some (10, true) }) (v := undef) rfl (by kernel_rfl) (by kernel_rfl) (by kernel_rfl) (fun _ _ _ h => h) (Or.inr ⟨by rfl, rfl⟩) hHeld ?_
                    (try simp only [Act.put, List.setIfInBounds_toArray, List.set_cons_zero, List.set_cons_succ])
                    refine wpAnyH_take (i := 17) (oi := { dst := some 88, op := Op.call { callee := Callee.value (Operand.func 28), args := #[Operand.tmp 84, Operand.tmp 87], argTypes := #[26, 26] }, type := 4, pos := "law.go:145", after := #[{ on := 13, ground := Ground.data }, { on := 16, ground := Ground.data }, { on := 10, ground := Ground.chain }, { on := 10, ground := Ground.guard }], guard := some (10, true) }) (v := undef) rfl (by kernel_rfl) (by kernel_rfl) (by kernel_rfl) (fun _ _ _ h => h) (Or.inr ⟨by rfl, rfl⟩) hHeld ?_
                    (try simp only [Act.put, List.setIfInBounds_toArray, List.set_cons_zero, List.set_cons_succ])
                    refine wpAnyH_take (i := 18) (oi := { dst := some 89, op := Op.unOp UnOp.not 4 (Operand.tmp 88), type := 4, pos := "law.go:145", after := #[{ on := 17, ground := Ground.data }, { on := 10, ground := Ground.guard }], guard := some (10, true) }) (v := undef) rfl (by kernel_rfl) (by kernel_rfl) (by kernel_rfl) (fun _ _ _ h => h) (Or.inr ⟨by rfl, rfl⟩) hHeld ?_
                    (try simp only [Act.put, List.setIfInBounds_toArray, List.set_cons_zero, List.set_cons_succ])
                    refine wpAnyH_take (i := 19) (oi := { dst := some 90, op := Op.pick (Operand.tmp 81) (Operand.tmp 89) (Operand.const (Value.bool false)), type := 4, pos := "law.go:145", after := #[{ on := 10, ground := Ground.data }, { on := 18, ground := Ground.data }], guard := none }) (v := ?_) rfl (by kernel_rfl) (by kernel_rfl) (by kernel_rfl) (fun _ _ _ h => h) (Or.inl ⟨by rfl, ?_⟩) hHeld ?_
                    rotate_left 1
                    · intro u hSu
                      obtain ⟨qHB0, qHB1, qHB2, qHB3, qHB4⟩ := hSu.out.cells HB.out.1
                      obtain ⟨qHC0, qHC1, qHC2, qHC3, qHC4⟩ := hSu.out.cells HC.out.1
                      go_simp
                      first | done | with_reducible rfl
                    (try simp only [Act.put, List.setIfInBounds_toArray, List.set_cons_zero, List.set_cons_succ])
                    refine wpAnyH_done (by kernel_rfl) ?_ _
                    clear hHeld
                    go_wp2_with fail
                    exact ⟨⟨j + 1, by omega, congrArg _ (by omega), HD⟩, by simp only [RowKit.intOf]; omega⟩
                  · have HBC := Lib.hid hbc
                    have HAC := Lib.hid (nw_tr HAB.out hbc)
                    clear hbc
                    go_upto_region 20 with fail
                    have HD := Lib.hid (HJ.out.keep (grown_drew (grown_refl wr none)))
                    clear HJ
                    refine wp_region_held_drew (S := fun w' => Hid (OR w D l w')) (by kernel_rfl) (HD) (fun hHeld => ?_)
                    refine wpAnyH_take (i := 0) (oi := { dst := some 71, op := Op.move (Operand.tmp 9), type := 4, pos := "law.go:145", after := #[], guard := none }) (v := ?_) rfl (by kernel_rfl) (by kernel_rfl) (by kernel_rfl) (fun _ _ _ h => h) (Or.inl ⟨by rfl, ?_⟩) hHeld ?_
                    rotate_left 1
                    · intro u hSu
                      obtain ⟨qHA0, qHA1, qHA2, qHA3, qHA4⟩ := hSu.out.cells HA.out.1
                      obtain ⟨qHB0, qHB1, qHB2, qHB3, qHB4⟩ := hSu.out.cells HB.out.1
                      obtain ⟨qHC0, qHC1, qHC2, qHC3, qHC4⟩ := hSu.out.cells HC.out.1
                      go_simp
                      first | done | with_reducible rfl
                    (try simp only [Act.put, List.setIfInBounds_toArray, List.set_cons_zero, List.set_cons_succ])
                    refine wpAnyH_take (i := 1) (oi := { dst := some 72, op := Op.move (Operand.tmp 71), type := 4, pos := "law.go:145", after := #[{ on := 0, ground := Ground.data }], guard := none }) (v := ?_) rfl (by kernel_rfl) (by kernel_rfl) (by kernel_rfl) (fun _ _ _ h => h) (Or.inl ⟨by rfl, ?_⟩) hHeld ?_
                    rotate_left 1
                    · intro u hSu
                      obtain ⟨qHA0, qHA1, qHA2, qHA3, qHA4⟩ := hSu.out.cells HA.out.1
                      obtain ⟨qHB0, qHB1, qHB2, qHB3, qHB4⟩ := hSu.out.cells HB.out.1
                      obtain ⟨qHC0, qHC1, qHC2, qHC3, qHC4⟩ := hSu.out.cells HC.out.1
                      go_simp
                      first | done | with_reducible rfl
                    (try simp only [Act.put, List.setIfInBounds_toArray, List.set_cons_zero, List.set_cons_succ])
                    refine wpAnyH_take (i := 2) (oi := { dst := some 73, op := Op.move (Operand.tmp 7), type := 3, pos := "law.go:145", after := #[{ on := 1, ground := Ground.guard }], guard := some (1, true) }) (v := ?_) rfl (by kernel_rfl) (by kernel_rfl) (by kernel_rfl) (fun _ _ _ h => h) (Or.inl ⟨by rfl, ?_⟩) hHeld ?_
                    rotate_left 1
                    · intro u hSu
                      obtain ⟨qHA0, qHA1, qHA2, qHA3, qHA4⟩ := hSu.out.cells HA.out.1
                      obtain ⟨qHB0, qHB1, qHB2, qHB3, qHB4⟩ := hSu.out.cells HB.out.1
                      obtain ⟨qHC0, qHC1, qHC2, qHC3, qHC4⟩ := hSu.out.cells HC.out.1
                      go_simp
                      first | done | with_reducible rfl
                    (try simp only [Act.put, List.setIfInBounds_toArray, List.set_cons_zero, List.set_cons_succ])
                    refine wpAnyH_take (i := 3) (oi := { dst := some 74, op := Op.indexAddr 57 (Operand.tmp 4) (Operand.tmp 73), type := 0, pos := "law.go:145", after := #[{ on := 2, ground := Ground.data }, { on := 1, ground := Ground.guard }], guard := some (1, true) }) (v := ?_) rfl (by kernel_rfl) (by kernel_rfl) (by kernel_rfl) (fun _ _ _ h => h) (Or.inl ⟨by rfl, ?_⟩) hHeld ?_
                    rotate_left 1
                    · intro u hSu
                      obtain ⟨qHA0, qHA1, qHA2, qHA3, qHA4⟩ := hSu.out.cells HA.out.1
                      obtain ⟨qHB0, qHB1, qHB2, qHB3, qHB4⟩ := hSu.out.cells HB.out.1
                      obtain ⟨qHC0, qHC1, qHC2, qHC3, qHC4⟩ := hSu.out.cells HC.out.1
                      go_simp
                      first | done | with_reducible rfl
                    (try simp only [Act.put, List.setIfInBounds_toArray, List.set_cons_zero, List.set_cons_succ])
                    refine wpAnyH_take (i := 4) (oi := { dst := some 75, op := Op.load 26 (Operand.tmp 74), type := 26, pos := "law.go:145", after := #[{ on := 3, ground := Ground.data }, { on := 1, ground := Ground.guard }], guard := some (1, true) }) (v := ?_) rfl (by kernel_rfl) (by kernel_rfl) (by kernel_rfl) (fun _ _ _ h => h) (Or.inl ⟨by rfl, ?_⟩) hHeld ?_
                    rotate_left 1
                    · intro u hSu
                      obtain ⟨qHA0, qHA1, qHA2, qHA3, qHA4⟩ := hSu.out.cells HA.out.1
                      obtain ⟨qHB0, qHB1, qHB2, qHB3, qHB4⟩ := hSu.out.cells HB.out.1
                      obtain ⟨qHC0, qHC1, qHC2, qHC3, qHC4⟩ := hSu.out.cells HC.out.1
                      go_simp
                      first | done | with_reducible rfl
                    (try simp only [Act.put, List.setIfInBounds_toArray, List.set_cons_zero, List.set_cons_succ])
                    refine wpAnyH_take (i := 5) (oi := { dst := some 76, op := Op.move (Operand.tmp 11), type := 3, pos := "law.go:145", after := #[{ on := 1, ground := Ground.guard }], guard := some (1, true) }) (v := ?_) rfl (by kernel_rfl) (by kernel_rfl) (by kernel_rfl) (fun _ _ _ h => h) (Or.inl ⟨by rfl, ?_⟩) hHeld ?_
                    rotate_left 1
                    · intro u hSu
                      obtain ⟨qHA0, qHA1, qHA2, qHA3, qHA4⟩ := hSu.out.cells HA.out.1
                      obtain ⟨qHB0, qHB1, qHB2, qHB3, qHB4⟩ := hSu.out.cells HB.out.1
                      obtain ⟨qHC0, qHC1, qHC2, qHC3, qHC4⟩ := hSu.out.cells HC.out.1
                      go_simp
                      first | done | with_reducible rfl
                    (try simp only [Act.put, List.setIfInBounds_toArray, List.set_cons_zero, List.set_cons_succ])
                    refine wpAnyH_take (i := 6) (oi := { dst := some 77, op := Op.indexAddr 57 (Operand.tmp 4) (Operand.tmp 76), type := 0, pos := "law.go:145", after := #[{ on := 5, ground := Ground.data }, { on := 1, ground := Ground.guard }], guard := some (1, true) }) (v := ?_) rfl (by kernel_rfl) (by kernel_rfl) (by kernel_rfl) (fun _ _ _ h => h) (Or.inl ⟨by rfl, ?_⟩) hHeld ?_
                    rotate_left 1
                    · intro u hSu
                      obtain ⟨qHA0, qHA1, qHA2, qHA3, qHA4⟩ := hSu.out.cells HA.out.1
                      obtain ⟨qHB0, qHB1, qHB2, qHB3, qHB4⟩ := hSu.out.cells HB.out.1
                      obtain ⟨qHC0, qHC1, qHC2, qHC3, qHC4⟩ := hSu.out.cells HC.out.1
                      go_simp
                      first | done | with_reducible rfl
                    (try simp only [Act.put, List.setIfInBounds_toArray, List.set_cons_zero, List.set_cons_succ])
                    refine wpAnyH_take (i := 7) (oi := { dst := some 78, op := Op.load 26 (Operand.tmp 77), type := 26, pos := "law.go:145", after := #[{ on := 6, ground := Ground.data }, { on := 1, ground := Ground.guard }], guard := some (1, true) }) (v := ?_) rfl (by kernel_rfl) (by kernel_rfl) (by kernel_rfl) (fun _ _ _ h => h) (Or.inl ⟨by rfl, ?_⟩) hHeld ?_
                    rotate_left 1
                    · intro u hSu
                      obtain ⟨qHA0, qHA1, qHA2, qHA3, qHA4⟩ := hSu.out.cells HA.out.1
                      obtain ⟨qHB0, qHB1, qHB2, qHB3, qHB4⟩ := hSu.out.cells HB.out.1
                      obtain ⟨qHC0, qHC1, qHC2, qHC3, qHC4⟩ := hSu.out.cells HC.out.1
                      go_simp
                      first | done | with_reducible rfl
                    (try simp only [Act.put, List.setIfInBounds_toArray, List.set_cons_zero, List.set_cons_succ])
                    refine wpAnyH_ready (rs := [8]) (by kernel_rfl) (by simp) ?_
                    refine AllReadyH.cons (o := { dst := some 79, op := Op.call { callee := Callee.value (Operand.func 28), args := #[Operand.tmp 75, Operand.tmp 78], argTypes := #[26, 26] }, type := 4, pos := "law.go:145", after := #[{ on := 4, ground := Ground.data }, { on := 7, ground := Ground.data }, { on := 1, ground := Ground.chain }, { on := 1, ground := Ground.guard }], guard := some (1, true) }) rfl (fun Kz hK => ?_) AllReadyH.nil
                    go_simp
                    refine (HNh.out _ _ HB.out.2 HC.out.2 _ HD).mono ?_
                    rintro e w5 ⟨rfl, HDn⟩
                    rw [HBC.out]
                    clear HD
                    have HD := HDn
                    clear HDn
                    refine hK.out _ _ (HD) (fun hH2 => ?_)
                    clear hK Kz hHeld
                    have hHeld := hH2
                    clear hH2
                    (try simp only [Act.put, List.setIfInBounds_toArray, List.set_cons_zero, List.set_cons_succ])
                    refine wpAnyH_take (i := 9) (oi := { dst := some 80, op := Op.pick (Operand.tmp 72) (Operand.tmp 79) (Operand.const (Value.bool false)), type := 4, pos := "law.go:145", after := #[{ on := 1, ground := Ground.data }, { on := 8, ground := Ground.data }], guard := none }) (v := ?_) rfl (by kernel_rfl) (by kernel_rfl) (by kernel_rfl) (fun _ _ _ h => h) (Or.inl ⟨by rfl, ?_⟩) hHeld ?_
                    rotate_left 1
                    · intro u hSu
                      obtain ⟨qHA0, qHA1, qHA2, qHA3, qHA4⟩ := hSu.out.cells HA.out.1
                      obtain ⟨qHB0, qHB1, qHB2, qHB3, qHB4⟩ := hSu.out.cells HB.out.1
                      obtain ⟨qHC0, qHC1, qHC2, qHC3, qHC4⟩ := hSu.out.cells HC.out.1
                      go_simp
                      first | done | with_reducible rfl
                    (try simp only [Act.put, List.setIfInBounds_toArray, List.set_cons_zero, List.set_cons_succ])
                    refine wpAnyH_take (i := 10) (oi := { dst := some 81, op := Op.move (Operand.tmp 80), type := 4, pos := "law.go:145", after := #[{ on := 9, ground := Ground.data }, { on := 8, ground := Ground.chain }], guard := none }) (v := ?_) rfl (by kernel_rfl) (by kernel_rfl) (by kernel_rfl) (fun _ _ _ h => h) (Or.inl ⟨by rfl, ?_⟩) hHeld ?_
                    rotate_left 1
                    · intro u hSu
                      obtain ⟨qHA0, qHA1, qHA2, qHA3, qHA4⟩ := hSu.out.cells HA.out.1
                      obtain ⟨qHB0, qHB1, qHB2, qHB3, qHB4⟩ := hSu.out.cells HB.out.1
                      obtain ⟨qHC0, qHC1, qHC2, qHC3, qHC4⟩ := hSu.out.cells HC.out.1
                      go_simp
                      first | done | with_reducible rfl
                    (try simp only [Act.put, List.setIfInBounds_toArray, List.set_cons_zero, List.set_cons_succ])
                    refine wpAnyH_take (i := 11) (oi := { dst := some 82, op := Op.move (Operand.tmp 6), type := 3, pos := "law.go:145", after := #[{ on := 10, ground := Ground.guard }], guard := some (10, true) }) (v := ?_) rfl (by kernel_rfl) (by kernel_rfl) (by kernel_rfl) (fun _ _ _ h => h) (Or.inl ⟨by rfl, ?_⟩) hHeld ?_
                    rotate_left 1
                    · intro u hSu
                      obtain ⟨qHA0, qHA1, qHA2, qHA3, qHA4⟩ := hSu.out.cells HA.out.1
                      obtain ⟨qHB0, qHB1, qHB2, qHB3, qHB4⟩ := hSu.out.cells HB.out.1
                      obtain ⟨qHC0, qHC1, qHC2, qHC3, qHC4⟩ := hSu.out.cells HC.out.1
                      go_simp
                      first | done | with_reducible rfl
                    (try simp only [Act.put, List.setIfInBounds_toArray, List.set_cons_zero, List.set_cons_succ])
                    refine wpAnyH_take (i := 12) (oi := { dst := some 83, op := Op.indexAddr 57 (Operand.tmp 4) (Operand.tmp 82), type := 0, pos := "law.go:145", after := #[{ on := 11, ground := Ground.data }, { on := 10, ground := Ground.guard }], guard := some (10, true) }) (v := ?_) rfl (by kernel_rfl) (by kernel_rfl) (by kernel_rfl) (fun _ _ _ h => h) (Or.inl ⟨by rfl, ?_⟩) hHeld ?_
                    rotate_left 1
                    · intro u hSu
                      obtain ⟨qHA0, qHA1, qHA2, qHA3, qHA4⟩ := hSu.out.cells HA.out.1
                      obtain ⟨qHB0, qHB1, qHB2, qHB3, qHB4⟩ := hSu.out.cells HB.out.1
                      obtain ⟨qHC0, qHC1, qHC2, qHC3, qHC4⟩ := hSu.out.cells HC.out.1
                      go_simp
                      first | done | with_reducible rfl
                    (try simp only [Act.put, List.setIfInBounds_toArray, List.set_cons_zero, List.set_cons_succ])
                    refine wpAnyH_take (i := 13) (oi := { dst := some 84, op := Op.load 26 (Operand.tmp 83), type := 26, pos := "law.go:145", after := #[{ on := 12, ground := Ground.data }, { on := 10, ground := Ground.guard }], guard := some (10, true) }) (v := ?_) rfl (by kernel_rfl) (by kernel_rfl) (by kernel_rfl) (fun _ _ _ h => h) (Or.inl ⟨by rfl, ?_⟩) hHeld ?_
                    rotate_left 1
                    · intro u hSu
                      obtain ⟨qHA0, qHA1, qHA2, qHA3, qHA4⟩ := hSu.out.cells HA.out.1
                      obtain ⟨qHB0, qHB1, qHB2, qHB3, qHB4⟩ := hSu.out.cells HB.out.1
                      obtain ⟨qHC0, qHC1, qHC2, qHC3, qHC4⟩ := hSu.out.cells HC.out.1
                      go_simp
                      first | done | with_reducible rfl
                    (try simp only [Act.put, List.setIfInBounds_toArray, List.set_cons_zero, List.set_cons_succ])
                    refine wpAnyH_take (i := 14) (oi := { dst := some 85, op := Op.move (Operand.tmp 11), type := 3, pos := "law.go:145", after := #[{ on := 10, ground := Ground.guard }], guard := some (10, true) }) (v := ?_) rfl (by kernel_rfl) (by kernel_rfl) (by kernel_rfl) (fun _ _ _ h => h) (Or.inl ⟨by rfl, ?_⟩) hHeld ?_
                    rotate_left 1
                    · intro u hSu
                      obtain ⟨qHA0, qHA1, qHA2, qHA3, qHA4⟩ := hSu.out.cells HA.out.1
                      obtain ⟨qHB0, qHB1, qHB2, qHB3, qHB4⟩ := hSu.out.cells HB.out.1
                      obtain ⟨qHC0, qHC1, qHC2, qHC3, qHC4⟩ := hSu.out.cells HC.out.1
                      go_simp
                      first | done | with_reducible rfl
                    (try simp only [Act.put, List.setIfInBounds_toArray, List.set_cons_zero, List.set_cons_succ])
                    refine wpAnyH_take (i := 15) (oi := { dst := some 86, op := Op.indexAddr 57 (Operand.tmp 4) (Operand.tmp 85), type := 0, pos := "law.go:145", after := #[{ on := 14, ground := Ground.data }, { on := 10, ground := Ground.guard }], guard := some (10, true) }) (v := ?_) rfl (by kernel_rfl) (by kernel_rfl) (by kernel_rfl) (fun _ _ _ h => h) (Or.inl ⟨by rfl, ?_⟩) hHeld ?_
                    rotate_left 1
                    · intro u hSu
                      obtain ⟨qHA0, qHA1, qHA2, qHA3, qHA4⟩ := hSu.out.cells HA.out.1
                      obtain ⟨qHB0, qHB1, qHB2, qHB3, qHB4⟩ := hSu.out.cells HB.out.1
                      obtain ⟨qHC0, qHC1, qHC2, qHC3, qHC4⟩ := hSu.out.cells HC.out.1
                      go_simp
                      first | done | with_reducible rfl
                    (try simp only [Act.put, List.setIfInBounds_toArray, List.set_cons_zero, List.set_cons_succ])
                    refine wpAnyH_take (i := 16) (oi := { dst := some 87, op := Op.load 26 (Operand.tmp 86), type := 26, pos := "law.go:145", after := #[{ on := 15, ground := Ground.data }, { on := 10, ground := Ground.guard }], guard := some (10, true) }) (v := ?_) rfl (by kernel_rfl) (by kernel_rfl) (by kernel_rfl) (fun _ _ _ h => h) (Or.inl ⟨by rfl, ?_⟩) hHeld ?_
                    rotate_left 1
                    · intro u hSu
                      obtain ⟨qHA0, qHA1, qHA2, qHA3, qHA4⟩ := hSu.out.cells HA.out.1
                      obtain ⟨qHB0, qHB1, qHB2, qHB3, qHB4⟩ := hSu.out.cells HB.out.1
                      obtain ⟨qHC0, qHC1, qHC2, qHC3, qHC4⟩ := hSu.out.cells HC.out.1
                      go_simp
                      first | done | with_reducible rfl
                    (try simp only [Act.put, List.setIfInBounds_toArray, List.set_cons_zero, List.set_cons_succ])
                    refine wpAnyH_ready (rs := [17]) (by kernel_rfl) (by simp) ?_
                    refine AllReadyH.cons (o := { dst := some 88, op := Op.call { callee := Callee.value (Operand.func 28), args := #[Operand.tmp 84, Operand.tmp 87], argTypes := #[26, 26] }, type := 4, pos := "law.go:145", after := #[{ on := 13, ground := Ground.data }, { on := 16, ground := Ground.data }, { on := 10, ground := Ground.chain }, { on := 10, ground := Ground.guard }], guard := some (10, true) }) rfl (fun Kz hK => ?_) AllReadyH.nil
                    go_simp
                    refine (HNh.out _ _ HA.out.2 HC.out.2 _ HD).mono ?_
                    rintro e w5 ⟨rfl, HDn⟩
                    rw [HAC.out]
                    clear HD
                    have HD := HDn
                    clear HDn
                    refine hK.out _ _ (HD) (fun hH2 => ?_)
                    clear hK Kz hHeld
                    have hHeld := hH2
                    clear hH2
                    (try simp only [Act.put, List.setIfInBounds_toArray, List.set_cons_zero, List.set_cons_succ])
                    refine wpAnyH_take (i := 18) (oi := { dst := some 89, op := Op.unOp UnOp.not 4 (Operand.tmp 88), type := 4, pos := "law.go:145", after := #[{ on := 17, ground := Ground.data }, { on := 10, ground := Ground.guard }], guard := some (10, true) }) (v := ?_) rfl (by kernel_rfl) (by kernel_rfl) (by kernel_rfl) (fun _ _ _ h => h) (Or.inl ⟨by rfl, ?_⟩) hHeld ?_
                    rotate_left 1
                    · intro u hSu
                      obtain ⟨qHA0, qHA1, qHA2, qHA3, qHA4⟩ := hSu.out.cells HA.out.1
                      obtain ⟨qHB0, qHB1, qHB2, qHB3, qHB4⟩ := hSu.out.cells HB.out.1
                      obtain ⟨qHC0, qHC1, qHC2, qHC3, qHC4⟩ := hSu.out.cells HC.out.1
                      go_simp
                      first | done | with_reducible rfl
                    (try simp only [Act.put, List.setIfInBounds_toArray, List.set_cons_zero, List.set_cons_succ])
                    refine wpAnyH_take (i := 19) (oi := { dst := some 90, op := Op.pick (Operand.tmp 81) (Operand.tmp 89) (Operand.const (Value.bool false)), type := 4, pos := "law.go:145", after := #[{ on := 10, ground := Ground.data }, { on := 18, ground := Ground.data }], guard := none }) (v := ?_) rfl (by kernel_rfl) (by kernel_rfl) (by kernel_rfl) (fun _ _ _ h => h) (Or.inl ⟨by rfl, ?_⟩) hHeld ?_
                    rotate_left 1
                    · intro u hSu
                      obtain ⟨qHA0, qHA1, qHA2, qHA3, qHA4⟩ := hSu.out.cells HA.out.1
                      obtain ⟨qHB0, qHB1, qHB2, qHB3, qHB4⟩ := hSu.out.cells HB.out.1
                      obtain ⟨qHC0, qHC1, qHC2, qHC3, qHC4⟩ := hSu.out.cells HC.out.1
                      go_simp
                      first | done | with_reducible rfl
                    (try simp only [Act.put, List.setIfInBounds_toArray, List.set_cons_zero, List.set_cons_succ])
                    refine wpAnyH_done (by kernel_rfl) ?_ _
                    clear hHeld
                    go_wp2_with fail
                    exact ⟨⟨j + 1, by omega, congrArg _ (by omega), HD⟩, by simp only [RowKit.intOf]; omega⟩
                · go_wp2_with fail
                  first
                  | exact ⟨⟨k + 1, by omega, congrArg _ (by omega), HJ⟩, by simp only [RowKit.intOf]; omega⟩
                  | (go_roundw; case rel => exact ⟨k + 1, by omega, by go_num, HJ⟩; case measure => simp [RowKit.intOf]; omega)
          · have he : cmpA A B = 0 := by have := HSM.out; rw [hs] at this; exact of_decide_eq_true this
            have h1 := nw_same he
            rw [h1.1, h1.2]
            have HAB := Lib.hid h1.1
            clear h1 he hs hAv hBv
            go_wp2_with fail
            go_loopw [11] (fun i wr => ∃ k : Nat, k ≤ 4 ∧ i = .int .i64 (k : Int) ∧ Hid (OR w D l wr)) (fun i _ => 4 - (RowKit.intOf i).toNat)
            case atStart => exact ⟨0, by omega, rfl, HD⟩
            case round =>
              obtain ⟨j, hj4, rfl, HJ⟩ := hrel
              clear HD
              by_cases hlj : j < 4
              · obtain ⟨C, hC⟩ : ∃ C, l[j]? = some C := ⟨_, List.getElem?_eq_getElem (by rw [HL.out]; exact hlj)⟩
                have HC := Lib.hid (And.intro hC (List.mem_of_getElem? hC))
                clear hC
                go_upto_region 20 with fail
                have HD := Lib.hid (HJ.out.keep (grown_drew (grown_refl wr none)))
                clear HJ
                refine wp_region_held_drew (S := fun w' => Hid (OR w D l w')) (by kernel_rfl) (HD) (fun hHeld => ?_)
                refine wpAnyH_take (i := 0) (oi := { dst := some 71, op := Op.move (Operand.tmp 9), type := 4, pos := "law.go:145", after := #[], guard := none }) (v := ?_) rfl (by kernel_rfl) (by kernel_rfl) (by kernel_rfl) (fun _ _ _ h => h) (Or.inl ⟨by rfl, ?_⟩) hHeld ?_
                rotate_left 1
                · intro u hSu
                  go_simp
                  first | done | with_reducible rfl
                (try simp only [Act.put, List.setIfInBounds_toArray, List.set_cons_zero, List.set_cons_succ])
                refine wpAnyH_take (i := 1) (oi := { dst := some 72, op := Op.move (Operand.tmp 71), type := 4, pos := "law.go:145", after := #[{ on := 0, ground := Ground.data }], guard := none }) (v := ?_) rfl (by kernel_rfl) (by kernel_rfl) (by kernel_rfl) (fun _ _ _ h => h) (Or.inl ⟨by rfl, ?_⟩) hHeld ?_
                rotate_left 1
                · intro u hSu
                  go_simp
                  first | done | with_reducible rfl
                (try simp only [Act.put, List.setIfInBounds_toArray, List.set_cons_zero, List.set_cons_succ])
                refine wpAnyH_take (i := 2) (oi := { dst := some 73, op := Op.move (Operand.tmp 7), type := 3, pos := "law.go:145", after := #[{ on := 1, ground := Ground.guard }], guard := some (1, true) }) (v := undef) rfl (by kernel_rfl) (by kernel_rfl) (by kernel_rfl) (fun _ _ _ h => h) (Or.inr ⟨by rfl, rfl⟩) hHeld ?_
                (try simp only [Act.put, List.setIfInBounds_toArray, List.set_cons_zero, List.set_cons_succ])
                refine wpAnyH_take (i := 3) (oi := { dst := some 74, op := Op.indexAddr 57 (Operand.tmp 4) (Operand.tmp 73), type := 0, pos := "law.go:145", after := #[{ on := 2, ground := Ground.data }, { on := 1, ground := Ground.guard }], guard := some (1, true) }) (v := undef) rfl (by kernel_rfl) (by kernel_rfl) (by kernel_rfl) (fun _ _ _ h => h) (Or.inr ⟨by rfl, rfl⟩) hHeld ?_
                (try simp only [Act.put, List.setIfInBounds_toArray, List.set_cons_zero, List.set_cons_succ])
                refine wpAnyH_take (i := 4) (oi := { dst := some 75, op := Op.load 26 (Operand.tmp 74), type := 26, pos := "law.go:145", after := #[{ on := 3, ground := Ground.data }, { on := 1, ground := Ground.guard }], guard := some (1, true) }) (v := undef) rfl (by kernel_rfl) (by kernel_rfl) (by kernel_rfl) (fun _ _ _ h => h) (Or.inr ⟨by rfl, rfl⟩) hHeld ?_
                (try simp only [Act.put, List.setIfInBounds_toArray, List.set_cons_zero, List.set_cons_succ])
                refine wpAnyH_take (i := 5) (oi := { dst := some 76, op := Op.move (Operand.tmp 11), type := 3, pos := "law.go:145", after := #[{ on := 1, ground := Ground.guard }], guard := some (1, true) }) (v := undef) rfl (by kernel_rfl) (by kernel_rfl) (by kernel_rfl) (fun _ _ _ h => h) (Or.inr ⟨by rfl, rfl⟩) hHeld ?_
                (try simp only [Act.put, List.setIfInBounds_toArray, List.set_cons_zero, List.set_cons_succ])
                refine wpAnyH_take (i := 6) (oi := { dst := some 77, op := Op.indexAddr 57 (Operand.tmp 4) (Operand.tmp 76), type := 0, pos := "law.go:145", after := #[{ on := 5, ground := Ground.data }, { on := 1, ground := Ground.guard }], guard := some (1, true) }) (v := undef) rfl (by kernel_rfl) (by kernel_rfl) (by kernel_rfl) (fun _ _ _ h => h) (Or.inr ⟨by rfl, rfl⟩) hHeld ?_
                (try simp only [Act.put, List.setIfInBounds_toArray, List.set_cons_zero, List.set_cons_succ])
                refine wpAnyH_take (i := 7) (oi := { dst := some 78, op := Op.load 26 (Operand.tmp 77), type := 26, pos := "law.go:145", after := #[{ on := 6, ground := Ground.data }, { on := 1, ground := Ground.guard }], guard := some (1, true) }) (v := undef) rfl (by kernel_rfl) (by kernel_rfl) (by kernel_rfl) (fun _ _ _ h => h) (Or.inr ⟨by rfl, rfl⟩) hHeld ?_
                (try simp only [Act.put, List.setIfInBounds_toArray, List.set_cons_zero, List.set_cons_succ])
                refine wpAnyH_take (i := 8) (oi := { dst := some 79, op := Op.call { callee := Callee.value (Operand.func 28), args := #[Operand.tmp 75, Operand.tmp 78], argTypes := #[26, 26] }, type := 4, pos := "law.go:145", after := #[{ on := 4, ground := Ground.data }, { on := 7, ground := Ground.data }, { on := 1, ground := Ground.chain }, { on := 1, ground := Ground.guard }], guard := some (1, true) }) (v := undef) rfl (by kernel_rfl) (by kernel_rfl) (by kernel_rfl) (fun _ _ _ h => h) (Or.inr ⟨by rfl, rfl⟩) hHeld ?_
                (try simp only [Act.put, List.setIfInBounds_toArray, List.set_cons_zero, List.set_cons_succ])
                refine wpAnyH_take (i := 9) (oi := { dst := some 80, op := Op.pick (Operand.tmp 72) (Operand.tmp 79) (Operand.const (Value.bool false)), type := 4, pos := "law.go:145", after := #[{ on := 1, ground := Ground.data }, { on := 8, ground := Ground.data }], guard := none }) (v := ?_) rfl (by kernel_rfl) (by kernel_rfl) (by kernel_rfl) (fun _ _ _ h => h) (Or.inl ⟨by rfl, ?_⟩) hHeld ?_
                rotate_left 1
                · intro u hSu
                  go_simp
                  first | done | with_reducible rfl
                (try simp only [Act.put, List.setIfInBounds_toArray, List.set_cons_zero, List.set_cons_succ])
                refine wpAnyH_take (i := 10) (oi := { dst := some 81, op := Op.move (Operand.tmp 80), type := 4, pos := "law.go:145", after := #[{ on := 9, ground := Ground.data }, { on := 8, ground := Ground.chain }], guard := none }) (v := ?_) rfl (by kernel_rfl) (by kernel_rfl) (by kernel_rfl) (fun _ _ _ h => h) (Or.inl ⟨by rfl, ?_⟩) hHeld ?_
                rotate_left 1
                · intro u hSu
                  go_simp
                  first | done | with_reducible rfl
                (try simp only [Act.put, List.setIfInBounds_toArray, List.set_cons_zero, List.set_cons_succ])
                refine wpAnyH_take (i := 11) (oi := { dst := some 82, op := Op.move (Operand.tmp 6), type := 3, pos := "law.go:145", after := #[{ on := 10, ground := Ground.guard }], guard := some (10, true) }) (v := undef) rfl (by kernel_rfl) (by kernel_rfl) (by kernel_rfl) (fun _ _ _ h => h) (Or.inr ⟨by rfl, rfl⟩) hHeld ?_
                (try simp only [Act.put, List.setIfInBounds_toArray, List.set_cons_zero, List.set_cons_succ])
                refine wpAnyH_take (i := 12) (oi := { dst := some 83, op := Op.indexAddr 57 (Operand.tmp 4) (Operand.tmp 82), type := 0, pos := "law.go:145", after := #[{ on := 11, ground := Ground.data }, { on := 10, ground := Ground.guard }], guard := some (10, true) }) (v := undef) rfl (by kernel_rfl) (by kernel_rfl) (by kernel_rfl) (fun _ _ _ h => h) (Or.inr ⟨by rfl, rfl⟩) hHeld ?_
                (try simp only [Act.put, List.setIfInBounds_toArray, List.set_cons_zero, List.set_cons_succ])
                refine wpAnyH_take (i := 13) (oi := { dst := some 84, op := Op.load 26 (Operand.tmp 83), type := 26, pos := "law.go:145", after := #[{ on := 12, ground := Ground.data }, { on := 10, ground := Ground.guard }], guard := some (10, true) }) (v := undef) rfl (by kernel_rfl) (by kernel_rfl) (by kernel_rfl) (fun _ _ _ h => h) (Or.inr ⟨by rfl, rfl⟩) hHeld ?_
                (try simp only [Act.put, List.setIfInBounds_toArray, List.set_cons_zero, List.set_cons_succ])
                refine wpAnyH_take (i := 14) (oi := { dst := some 85, op := Op.move (Operand.tmp 11), type := 3, pos := "law.go:145", after := #[{ on := 10, ground := Ground.guard }], guard := some (10, true) }) (v := undef) rfl (by kernel_rfl) (by kernel_rfl) (by kernel_rfl) (fun _ _ _ h => h) (Or.inr ⟨by rfl, rfl⟩) hHeld ?_
                (try simp only [Act.put, List.setIfInBounds_toArray, List.set_cons_zero, List.set_cons_succ])
                refine wpAnyH_take (i := 15) (oi := { dst := some 86, op := Op.indexAddr 57 (Operand.tmp 4) (Operand.tmp 85), type := 0, pos := "law.go:145", after := #[{ on := 14, ground := Ground.data }, { on := 10, ground := Ground.guard }], guard := some (10, true) }) (v := undef) rfl (by kernel_rfl) (by kernel_rfl) (by kernel_rfl) (fun _ _ _ h => h) (Or.inr ⟨by rfl, rfl⟩) hHeld ?_
                (try simp only [Act.put, List.setIfInBounds_toArray, List.set_cons_zero, List.set_cons_succ])
                refine wpAnyH_take (i := 16) (oi := { dst := some 87, op := Op.load 26 (Operand.tmp 86), type := 26, pos := "law.go:145", after := #[{ on := 15, ground := Ground.data }, { on := 10, ground := Ground.guard }], guard := some (10, true) }) (v := undef) rfl (by kernel_rfl) (by kernel_rfl) (by kernel_rfl) (fun _ _ _ h => h) (Or.inr ⟨by rfl, rfl⟩) hHeld ?_
                (try simp only [Act.put, List.setIfInBounds_toArray, List.set_cons_zero, List.set_cons_succ])
                refine wpAnyH_take (i := 17) (oi := { dst := some 88, op := Op.call { callee := Callee.value (Operand.func 28), args := #[Operand.tmp 84, Operand.tmp 87], argTypes := #[26, 26] }, type := 4, pos := "law.go:145", after := #[{ on := 13, ground := Ground.data }, { on := 16, ground := Ground.data }, { on := 10, ground := Ground.chain }, { on := 10, ground := Ground.guard }], guard := some (10, true) }) (v := undef) rfl (by kernel_rfl) (by kernel_rfl) (by kernel_rfl) (fun _ _ _ h => h) (Or.inr ⟨by rfl, rfl⟩) hHeld ?_
                (try simp only [Act.put, List.setIfInBounds_toArray, List.set_cons_zero, List.set_cons_succ])
                refine wpAnyH_take (i := 18) (oi := { dst := some 89, op := Op.unOp UnOp.not 4 (Operand.tmp 88), type := 4, pos := "law.go:145", after := #[{ on := 17, ground := Ground.data }, { on := 10, ground := Ground.guard }], guard := some (10, true) }) (v := undef) rfl (by kernel_rfl) (by kernel_rfl) (by kernel_rfl) (fun _ _ _ h => h) (Or.inr ⟨by rfl, rfl⟩) hHeld ?_
                (try simp only [Act.put, List.setIfInBounds_toArray, List.set_cons_zero, List.set_cons_succ])
                refine wpAnyH_take (i := 19) (oi := { dst := some 90, op := Op.pick (Operand.tmp 81) (Operand.tmp 89) (Operand.const (Value.bool false)), type := 4, pos := "law.go:145", after := #[{ on := 10, ground := Ground.data }, { on := 18, ground := Ground.data }], guard := none }) (v := ?_) rfl (by kernel_rfl) (by kernel_rfl) (by kernel_rfl) (fun _ _ _ h => h) (Or.inl ⟨by rfl, ?_⟩) hHeld ?_
                rotate_left 1
                · intro u hSu
                  go_simp
                  first | done | with_reducible rfl
                (try simp only [Act.put, List.setIfInBounds_toArray, List.set_cons_zero, List.set_cons_succ])
                refine wpAnyH_done (by kernel_rfl) ?_ _
                clear hHeld
                go_wp2_with fail
                exact ⟨⟨j + 1, by omega, congrArg _ (by omega), HD⟩, by simp only [RowKit.intOf]; omega⟩
              · go_wp2_with fail
                first
                | exact ⟨⟨k + 1, by omega, congrArg _ (by omega), HJ⟩, by simp only [RowKit.intOf]; omega⟩
                | (go_roundw; case rel => exact ⟨k + 1, by omega, by go_num, HJ⟩; case measure => simp [RowKit.intOf]; omega)
        · go_wp2_with fail
          go_roundw
          case rel => exact ⟨i + 1, by omega, by go_num, HKK⟩
          case measure => simp [RowKit.intOf]; omega
    · go_wp2_with fail
      refine (aawake_any _ (HTB.out.keep HI.out.gr)).mono ?_
      rintro e w9 ⟨rfl, hg⟩
      have HF := Lib.hid (grown_trans HI.out.gr hg)
      clear hg HI
      go_wp2_with fail
      go_ret
      exact ⟨rfl, HF.out⟩
end Go.Proofs.YtgmjpcajobhepaaDoor

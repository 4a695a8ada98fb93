/- Parts of the proof, packed: ToWiW, ToSort, ToSrt2. -/
import Derived.Test.YtiencdgmnkphjaaApl6
/- topology: Without, the walk. -/
namespace Go.Proofs.Ytiencdgmnkphjaa
open Go.RowKit Bs
set_option maxRecDepth 100000 in
set_option maxHeartbeats 6400000 in
theorem twithout_any (T : Tg) (F : Fl) (q q2 : Nat → Prop) (w : World) (hT : TgOk w q T) (hF : FlOk w q2 F) :
    Calls Try.prog 31 #[.agg #[.slice T.pR T.R.length T.cR, .slice T.pL T.L.length T.cL], .agg #[.slice F.pH F.H.length F.cH, .slice F.pX F.X.length F.cX]] w fun e w' => TWPost (if okT T.R T.L then woR F T.R else []) (if okT T.R T.L then woL F T.L else []) w e w' := by
  obtain ⟨ir, hir, hr0, hr1, hr2⟩ := info_parts info_rt
  obtain ⟨il, hil, hl0, hl1, hl2⟩ := info_parts info_lk
  have e1 : EnterF 74 := enters_of Try.func74 (by kernel_rfl) rfl
  have e2 : EnterF 76 := enters_of Try.func76 (by kernel_rfl) rfl
  have hmf : ∀ (fn : Fn) (first cap : Array Value) (w : World), (Instr.makeFunc fn first cap).run Try.prog w = .ok (.func fn first cap) w := fun _ _ _ _ => rfl
  have S0 := Lib.hid (WS.start hT hF)
  have hmR := Nat.le_trans hT.cr.1 hT.cr.2
  have hmL := Nat.le_trans hT.cl.1 hT.cl.2
  clear hT hF
  obtain ⟨R, L, pR, cR, pL, cL⟩ := T
  simp only at hmR hmL S0 ⊢
  obtain ⟨Rr, hRr⟩ : ∃ Rr, (if okT R L = true then woR F R else []) = Rr := ⟨_, rfl⟩
  obtain ⟨Lr, hLr⟩ : ∃ Lr, (if okT R L = true then woL F L else []) = Lr := ⟨_, rfl⟩
  rw [hRr, hLr]
  have HRL := Lib.hid (And.intro hRr hLr)
  clear hRr hLr
  go_enter Try.func31, Try.ntmps31
  go_upto_region 1 with fail
  generalize ((w.alloc _).alloc _).alloc _ = wa at *
  obtain ⟨c0, c1⟩ := row_cells S0.out.tb
  go_wp2_with fail
  refine (tvalid_any ⟨R, L, pR, cR, pL, cL⟩ _ wa S0.out.t).mono ?_
  rintro e w1 ⟨rfl, hg⟩
  simp only
  have S1 := Lib.hid (S0.out.keep hg)
  clear hg S0 c0 c1
  cases hv : okT R L
  · obtain ⟨rfl, rfl⟩ : Rr = [] ∧ Lr = [] := by have := HRL.out; rw [hv] at this; exact ⟨this.1.symm, this.2.symm⟩
    have z0 := S1.out.rb.cell (j := 0) rfl
    have z1 := S1.out.rb.cell (j := 1) rfl
    have y0 := S1.out.rb.frozen 0
    have y1 := S1.out.rb.frozen 1
    clear hv HRL
    have hrow := store2 (u := .slice none 0 0) (z := .slice none 0 0) (show w1.heap[w.heap.size + 2]? = some (.cells #[.slice none 0 0, .slice none 0 0] 26 (0, 0)) from S1.out.rb)
    have HR := Lib.hid (And.intro hrow (grown_new S1.out.gr (grown_store2 w1 (w.heap.size + 2) (.slice none 0 0) (.slice none 0 0)) (by omega)))
    clear hrow
    go_wp2_with fail
    refine bodyPost_ret (res_topo rfl _ _ (w.heap.size + 2) _ _ rfl HR.out.1) rfl ?_
    exact ⟨none, 0, none, 0, rfl, ⟨rdf_nil _ _ _ _, rdf_nil _ _ _ _, ⟨Nat.le_refl _, by show 0 ≤ _; omega⟩, ⟨Nat.le_refl _, by show 0 ≤ _; omega⟩⟩, HR.out.2⟩
  obtain ⟨h24, h60⟩ := okT_len hv
  have HRL2 : Hid (woR F R = Rr ∧ woL F L = Lr) := Lib.hid (by have := HRL.out; rw [hv] at this; exact this)
  clear hv HRL
  go_upto_region 6 with fail
  have gal := World.grownBy_alloc w1 (.cells #[.slice none 0 0, .slice none 0 0] 26) none
  have R0 : Hid (WR w ⟨R, L, pR, cR, pL, cL⟩ F w1.heap.size (w1.heap.size + 1) (.slice none 0 0) (woR F (R.take 0)) (w1.alloc (.cells #[.slice none 0 0, .slice none 0 0] 26))) := Lib.hid ⟨S1.out.keep gal, heap_alloc_new w1 _, World.ownsRow_nil _ _ _ _, by have := S1.out.rb.lt; omega, by omega, by simp⟩
  have hbx := R0.out.b1
  clear gal S1
  generalize w1.alloc _ = w2 at *
  generalize w1.heap.size = Bx at *
  obtain ⟨c0, c1⟩ := row_cells R0.out.s.tb
  go_wp2_with fail
  go_loopw [21] (fun a wr => ∃ k : Nat, k ≤ R.length ∧ a = .int .i64 (k : Int) ∧ ∃ vR, Hid (WR w ⟨R, L, pR, cR, pL, cL⟩ F Bx (Bx + 1) vR (woR F (R.take k)) wr)) (fun a _ => R.length - (intOf a).toNat)
  case atStart => exact ⟨0, Nat.zero_le _, rfl, _, R0⟩
  case round =>
  obtain ⟨k, hk, rfl, vR, HK⟩ := hrel
  clear R0 c0 c1
  by_cases hlt : k < R.length
  case pos =>
    obtain ⟨-, b, off, rfl, hq, hc⟩ := rdr_cells (R := R) HK.out.s.t.r (by omega)
    obtain ⟨y, hy⟩ : ∃ y, R[k]? = some y := ⟨_, List.getElem?_eq_getElem hlt⟩
    obtain ⟨a0, a1⟩ := hc k y hy
    have gal := World.grownBy_alloc wr (.cells #[.int .i64 y.id, .bool y.cap] 73) none
    have HB := Lib.hid (And.intro (heap_alloc_new wr (.cells #[.int .i64 y.id, .bool y.cap] 73)) gal)
    have HL : Hid (woR F (R.take (k + 1)) = woR F (R.take k) ++ (if !hasI F.X y.id then [y] else [])) := Lib.hid (filter_snoc hy)
    have hln : (woR F (R.take k)).length ≤ k := Nat.le_trans (List.length_filter_le _ _) (List.length_take_le _ _)
    clear hc hy gal
    go_upto_region 9 with fail
    clear a0 a1
    generalize wr.alloc _ = wy at *
    have K2 := Lib.hid (HK.out.keep HB.out.2)
    obtain ⟨d0, d1⟩ := rt_facts HB.out.1
    cases hx : hasI F.X y.id
    · rw [hx] at HL
      have HX := Lib.hid hx
      clear hx
      obtain ⟨M, hM⟩ : ∃ M, woR F (R.take k) = M := ⟨_, rfl⟩
      rw [hM] at K2 HL hln HK
      clear hM
      obtain ⟨f0, f1⟩ := row_cells K2.out.bx
      have hown := K2.out.own
      have hbz := K2.out.b1
      go_wp2_with fail
      refine (tfail1_any F y.id (w.heap.size + 1) _ _ K2.out.s.fb K2.out.s.f).mono ?_
      rintro e w' ⟨rfl, rfl⟩
      rw [HX.out]
      go_wp2_with (at_builtin; refine wpList_append_own _ rfl _ _ 23 rfl (Bx + 1) 73 ir (.agg #[.int .i64 0, .bool false]) 2 16 Try.underlying23 hir hr0 hr1 hr2 rfl (by decide) _ _ _ rfl (hown.alloc _) ⟨wy.heap.size, 0, none⟩ 1 1 [.int .i64 y.id, .bool y.cap] rfl rfl ?c1 ?c2 ?c3 ?c4 ?c5 ?_)
      try (case c1 => exact cells2 _ _ _ _)
      case c2 => intro u hu; simp at hu; rcases hu with rfl | rfl <;> rfl
      case c3 => first | omega | (unfold maxLen; omega)
      case c4 => omega
      case c5 => first | omega | (simp; omega)
      intro v' w3 hown' hg _
      obtain ⟨p', c', rfl, -, -⟩ := own_shape hown'
      have m := HK.out.mid HB.out.2 hown' hg
      obtain ⟨g0, g1⟩ := row_cells m.2.1
      have gf := frozen_of_row w3 Bx 0 _ _ m.2.1
      have N2 : Hid (WR w ⟨R, L, some ⟨b, off, none⟩, cR, pL, cL⟩ F Bx (Bx + 1) (.slice p' (M.length + 1) c') (woR F (R.take (k + 1))) (w3.setCell ⟨Bx, 0, none⟩ (.slice p' (M.length + 1) c'))) := Lib.hid (by rw [HL.out]; exact WR.put ⟨hbx.1, hbx.2.1⟩ m)
      clear m hown' hg hown f0 f1 d0 d1
      go_wp2_with fail
      exact ⟨⟨k + 1, by omega, congrArg _ (by omega), _, N2⟩, by simp only [intOf]; omega⟩
    · rw [hx] at HL
      have HX := Lib.hid hx
      have N2 : Hid (WR w ⟨R, L, some ⟨b, off, none⟩, cR, pL, cL⟩ F Bx (Bx + 1) vR (woR F (R.take (k + 1))) wy) := Lib.hid (by rw [HL.out]; show WR _ _ _ _ _ _ (_ ++ []) _; rw [List.append_nil]; exact K2.out)
      clear hx
      go_wp2_with fail
      refine (tfail1_any F y.id (w.heap.size + 1) _ _ K2.out.s.fb K2.out.s.f).mono ?_
      rintro e w' ⟨rfl, rfl⟩
      rw [HX.out]
      go_wp2_with fail
      exact ⟨⟨k + 1, by omega, congrArg _ (by omega), vR, N2⟩, by simp only [intOf]; omega⟩
  obtain rfl : k = R.length := by omega
  have hK := HK.out
  rw [List.take_length] at hK
  have hsz := hK.b1.2.2
  have L0 : Hid (WL w ⟨R, L, pR, cR, pL, cL⟩ F Bx wr.heap.size vR (.slice none 0 0) (woR F R) (woL F (L.take 0)) wr) := Lib.hid ⟨hK.s, hK.bx, World.ownsRow_nil _ _ _ _, (rdf_of_own2 hK.own).mono (fun b hb => ⟨by omega, hb.2⟩), own_shape hK.own, hbx.1, by omega, Nat.le_refl _⟩
  obtain ⟨c0, c1⟩ := row_cells hK.s.tb
  obtain ⟨B2, hB2⟩ : ∃ B2, wr.heap.size = B2 := ⟨_, rfl⟩
  rw [hB2] at L0
  have hb2 := L0.out.b1
  clear hK HK hB2 hsz
  obtain ⟨wo, rfl⟩ : ∃ wo : World, wo = wr := ⟨_, rfl⟩
  go_wp2_with fail
  go_loopw [40] (fun a wr => ∃ k : Nat, k ≤ L.length ∧ a = .int .i64 (k : Int) ∧ ∃ vL, Hid (WL w ⟨R, L, pR, cR, pL, cL⟩ F Bx B2 vR vL (woR F R) (woL F (L.take k)) wr)) (fun a _ => L.length - (intOf a).toNat)
  case atStart => exact ⟨0, Nat.zero_le _, rfl, _, L0⟩
  case round =>
  obtain ⟨k, hk, rfl, vL, HK⟩ := hrel
  clear L0 c0 c1
  by_cases hlt : k < L.length
  case pos =>
    obtain ⟨-, b, off, rfl, hq, hc⟩ := rdl_cells (L := L) HK.out.s.t.l (by omega)
    obtain ⟨y, hy⟩ : ∃ y, L[k]? = some y := ⟨_, List.getElem?_eq_getElem hlt⟩
    obtain ⟨a0, a1, a2, a3, a4⟩ := hc k y hy
    have gal := World.grownBy_alloc wr (.cells #[.int .i64 y.a, .int .i64 y.b, .int .i64 y.ca, .int .i64 y.cb, .int .i64 y.cp] 68) none
    have HB := Lib.hid (And.intro (heap_alloc_new wr (.cells #[.int .i64 y.a, .int .i64 y.b, .int .i64 y.ca, .int .i64 y.cb, .int .i64 y.cp] 68)) gal)
    have HL : Hid (woL F (L.take (k + 1)) = woL F (L.take k) ++ (if woK F y then [y] else [])) := Lib.hid (filter_snoc hy)
    have hln : (woL F (L.take k)).length ≤ k := Nat.le_trans (List.length_filter_le _ _) (List.length_take_le _ _)
    clear hc hy gal
    go_upto_region 15 with fail
    clear a0 a1 a2 a3 a4
    generalize wr.alloc _ = wy at *
    have K2 := Lib.hid (HK.out.keep HB.out.2)
    obtain ⟨d0, d1, d2, d3, d4⟩ := lk_facts HB.out.1
    have no : Hid (woK F y = false) → ∀ wz, Hid (wr.grownBy wz none) → Hid (WL w ⟨R, L, pR, cR, some ⟨b, off, none⟩, cL⟩ F Bx B2 vR vL (woR F R) (woL F (L.take (k + 1))) wz) := fun h wz g => Lib.hid (by rw [HL.out, h.out]; show WL _ _ _ _ _ _ _ _ (_ ++ []) _; rw [List.append_nil]; exact HK.out.keep g.out)
    have NO := Lib.hid no
    clear no
    cases h1 : hasI F.X y.a
    · cases h2 : hasI F.X y.b
      · cases h3 : nmd F.H y
        · have HW : Hid (woK F y = true) := Lib.hid (by unfold woK; rw [h1, h2, h3]; rfl)
          have H123 := Lib.hid (And.intro h1 (And.intro h2 h3))
          clear h1 h2 h3 NO
          go_wp2_with fail
          refine (tfail1_any F y.a (w.heap.size + 1) _ _ K2.out.s.fb K2.out.s.f).mono ?_
          rintro e w' ⟨rfl, rfl⟩
          rw [H123.out.1]
          go_wp2_with fail
          refine (tfail1_any F y.b (w.heap.size + 1) _ _ K2.out.s.fb K2.out.s.f).mono ?_
          rintro e w' ⟨rfl, rfl⟩
          rw [H123.out.2.1]
          go_wp2_with fail
          refine (tfail2_any F y (w.heap.size + 1) _ _ K2.out.s.fb K2.out.s.f).mono ?_
          rintro e wz ⟨rfl, hg⟩
          rw [H123.out.2.2]
          have HG := Lib.hid (grown_trans HB.out.2 hg)
          have HBz := Lib.hid (kept_row HB.out.1 hg (by simp))
          have K3 := Lib.hid (HK.out.keep HG.out)
          clear hg d0 d1 d2 d3 d4
          obtain ⟨d0, d1, d2, d3, d4⟩ := lk_facts HBz.out
          obtain ⟨M, hM⟩ : ∃ M, woL F (L.take k) = M := ⟨_, rfl⟩
          rw [hM] at K2 K3 HL hln HK
          rw [HW.out] at HL
          clear hM
          obtain ⟨f0, f1⟩ := row_cells K3.out.bx
          have hown := K3.out.own
          have hbz := K3.out.b1
          go_wp2_with (at_builtin; refine wpList_append_own _ rfl _ _ 24 rfl B2 68 il (.agg #[.int .i64 0, .int .i64 0, .int .i64 0, .int .i64 0, .int .i64 0]) 5 40 Try.underlying24 hil hl0 hl1 hl2 rfl (by decide) _ _ _ rfl (hown.alloc _) ⟨wz.heap.size, 0, none⟩ 1 1 [.int .i64 y.a, .int .i64 y.b, .int .i64 y.ca, .int .i64 y.cb, .int .i64 y.cp] rfl rfl ?c1 ?c2 ?c3 ?c4 ?c5 ?_)
          try (case c1 => exact cells5 _ _ _ _ _ _ _)
          case c2 => intro u hu; simp at hu; rcases hu with rfl | rfl | rfl | rfl | rfl <;> rfl
          case c3 => first | omega | (unfold maxLen; omega)
          case c4 => omega
          case c5 => first | omega | (simp; omega)
          intro v' w3 hown' hg _
          obtain ⟨p', c', rfl, -, -⟩ := own_shape hown'
          have m := HK.out.mid HG.out hown' hg
          obtain ⟨g0, g1⟩ := row_cells m.2.1
          have gf := frozen_of_row w3 Bx 1 _ _ m.2.1
          have N2 : Hid (WL w ⟨R, L, pR, cR, some ⟨b, off, none⟩, cL⟩ F Bx B2 vR (.slice p' (M.length + 1) c') (woR F R) (woL F (L.take (k + 1))) (w3.setCell ⟨Bx, 1, none⟩ (.slice p' (M.length + 1) c'))) := Lib.hid (by rw [HL.out]; exact WL.put ⟨hb2.1, hb2.2.1⟩ m)
          clear m hown' hg hown f0 f1 d0 d1 d2 d3 d4
          go_wp2_with fail
          exact ⟨⟨k + 1, by omega, congrArg _ (by omega), _, N2⟩, by simp only [intOf]; omega⟩
        · have HW : Hid (woK F y = false) := Lib.hid (by unfold woK; rw [h1, h2, h3]; rfl)
          have H123 := Lib.hid (And.intro h1 (And.intro h2 h3))
          clear h1 h2 h3
          go_wp2_with fail
          refine (tfail1_any F y.a (w.heap.size + 1) _ _ K2.out.s.fb K2.out.s.f).mono ?_
          rintro e w' ⟨rfl, rfl⟩
          rw [H123.out.1]
          go_wp2_with fail
          refine (tfail1_any F y.b (w.heap.size + 1) _ _ K2.out.s.fb K2.out.s.f).mono ?_
          rintro e w' ⟨rfl, rfl⟩
          rw [H123.out.2.1]
          go_wp2_with fail
          refine (tfail2_any F y (w.heap.size + 1) _ _ K2.out.s.fb K2.out.s.f).mono ?_
          rintro e wz ⟨rfl, hg⟩
          rw [H123.out.2.2]
          have N2 := NO.out HW wz (Lib.hid (grown_trans HB.out.2 hg))
          clear hg
          go_wp2_with fail
          exact ⟨⟨k + 1, by omega, congrArg _ (by omega), vL, N2⟩, by simp only [intOf]; omega⟩
      · have HW : Hid (woK F y = false) := Lib.hid (by unfold woK; rw [h1, h2]; rfl)
        have H123 := Lib.hid (And.intro h1 h2)
        have N2 := NO.out HW wy (Lib.hid HB.out.2)
        clear h1 h2
        go_wp2_with fail
        refine (tfail1_any F y.a (w.heap.size + 1) _ _ K2.out.s.fb K2.out.s.f).mono ?_
        rintro e w' ⟨rfl, rfl⟩
        rw [H123.out.1]
        go_wp2_with fail
        refine (tfail1_any F y.b (w.heap.size + 1) _ _ K2.out.s.fb K2.out.s.f).mono ?_
        rintro e w' ⟨rfl, rfl⟩
        rw [H123.out.2]
        go_wp2_with fail
        exact ⟨⟨k + 1, by omega, congrArg _ (by omega), vL, N2⟩, by simp only [intOf]; omega⟩
    · have HW : Hid (woK F y = false) := Lib.hid (by unfold woK; rw [h1]; rfl)
      have H123 := Lib.hid h1
      have N2 := NO.out HW wy (Lib.hid HB.out.2)
      clear h1
      go_wp2_with fail
      refine (tfail1_any F y.a (w.heap.size + 1) _ _ K2.out.s.fb K2.out.s.f).mono ?_
      rintro e w' ⟨rfl, rfl⟩
      rw [H123.out]
      go_wp2_with fail
      exact ⟨⟨k + 1, by omega, congrArg _ (by omega), vL, N2⟩, by simp only [intOf]; omega⟩
  obtain rfl : k = L.length := by omega
  have hK := HK.out
  rw [List.take_length] at hK
  obtain ⟨pl', cl', rfl, hl1', hl2'⟩ := own_shape hK.own
  obtain ⟨pr', cr', rfl, hr1', hr2'⟩ := id hK.cv
  have K3 := Lib.hid hK
  obtain ⟨f0, f1⟩ := row_cells hK.bx
  have z0 := hK.s.rb.cell (j := 0) rfl
  have z1 := hK.s.rb.cell (j := 1) rfl
  have y0 := hK.s.rb.frozen 0
  have y1 := hK.s.rb.frozen 1
  have hrow := store2 (u := .slice pr' (woR F R).length cr') (z := .slice pl' (woL F L).length cl') (show wr.heap[w.heap.size + 2]? = some (.cells #[.slice none 0 0, .slice none 0 0] 26 (0, 0)) from hK.s.rb)
  have HR := Lib.hid (And.intro hrow (grown_new hK.s.gr (grown_store2 wr (w.heap.size + 2) (.slice pr' (woR F R).length cr') (.slice pl' (woL F L).length cl')) (by omega)))
  clear hrow hK HK
  go_wp2_with fail
  refine bodyPost_ret (res_topo rfl _ _ (w.heap.size + 2) _ _ rfl HR.out.1) rfl ?_
  rw [← HRL2.out.1, ← HRL2.out.2]
  have q : ∀ b, w.heap.size + 2 < b → some b ≠ some (w.heap.size + 2) := fun b hb e => by have := Option.some.inj e; omega
  have g9 := grown_store2 wr (w.heap.size + 2) (.slice pr' (woR F R).length cr') (.slice pl' (woL F L).length cl')
  refine ⟨pr', cr', pl', cl', rfl, ⟨?_, ?_, ⟨hr1', hr2'⟩, ⟨hl1', hl2'⟩⟩, HR.out.2⟩
  · exact (K3.out.rd.grown g9 (fun b hb => q b (by omega))).mono (fun b hb => by show w.heap.size ≤ b; omega)
  · exact ((rdf_of_own K3.out.own).grown g9 (fun b hb => q b (by have : B2 ≤ b := hb; omega))).mono (fun b hb => by have : B2 ≤ b := hb; show w.heap.size ≤ b; omega)
end Go.Proofs.Ytiencdgmnkphjaa

/- slices.Sort of at most twelve numbers of the call's own. -/
namespace Go.Proofs.Ytiencdgmnkphjaa
open Go.RowKit Bs
set_option maxRecDepth 100000 in
theorem tless_any (x y : Int) (w : World) :
    Calls Try.prog 111 #[.int .i64 x, .int .i64 y] w fun e w' => e = .returned (.bool (decide (x < y))) ∧ w = w' := by
  have N : ∀ (z : Int) (w : World), Calls Try.prog 103 #[.int .i64 z] w fun e w' => e = .returned (.bool false) ∧ w = w' := by
    intro z w
    go_enter Try.func103, Try.ntmps103
    go_wp2_with fail
    go_ret
    first | exact ⟨rfl, rfl⟩ | exact ⟨by simp, rfl⟩
  go_enter Try.func111, Try.ntmps111
  go_wp2_with (go_at_call 103; refine (N _ _).mono ?_; rintro e w' ⟨rfl, rfl⟩)
  go_ret
  exact ⟨by simp, rfl⟩
theorem getD_set (l : List Int) (i j : Nat) (a : Int) (hi : i < l.length) : (l.set i a).getD j 0 = if i = j then a else l.getD j 0 := by
  rw [List.getD_eq_getElem?_getD, List.getElem?_set, List.getD_eq_getElem?_getD]
  by_cases e : i = j
  · subst e
    simp [hi]
  · simp [e]
/-- While numbers are sorted. -/
structure SK (w : World) (base g c n : Nat) (l d : List Int) (wr : World) : Prop where
  own : wr.ownsRow base 3 1 (.slice (some ⟨g, 0, none⟩) n c) n (d.map tv)
  gr : w.grownBy wr (some g)
  len : d.length = n
  perm : d.Perm l
theorem SK.drew {w wr : World} {base g c n : Nat} {l d : List Int} (h : SK w base g c n l d wr) : SK w base g c n l d wr.drew := ⟨h.own.drew, grown_drew h.gr, h.len, h.perm⟩
theorem SK.at_ {w wr : World} {base g c n : Nat} {l d : List Int} (h : SK w base g c n l d wr) {j : Nat} (hj : j < n) : wr.cell? ⟨g, j, none⟩ = some (.int .i64 (d.getD j 0)) := by
  have h1 := h.own.cellAt j (by omega)
  rw [h1]
  have hl := h.len
  rw [List.getElem?_map, List.getD_eq_getElem?_getD, List.getElem?_eq_getElem (by omega)]
  rfl
def toS (d : List Int) (i : Nat) : Prop := ∀ p q, p < q → q < i → d.getD p 0 ≤ d.getD q 0
def almS (d : List Int) (i j : Nat) : Prop := ∀ p q, p < q → q ≤ i → q ≠ j → d.getD p 0 ≤ d.getD q 0
def swp (d : List Int) (j : Nat) : List Int := (d.set (j + 1) (d.getD j 0)).set j (d.getD (j + 1) 0)
theorem swp_len (d : List Int) (j : Nat) : (swp d j).length = d.length := by unfold swp; simp
theorem swp_getD {d : List Int} {j : Nat} (hj : j + 1 < d.length) (k : Nat) : (swp d j).getD k 0 = if j = k then d.getD (j + 1) 0 else if j + 1 = k then d.getD j 0 else d.getD k 0 := by
  unfold swp
  rw [getD_set _ _ _ _ (by rw [List.length_set]; omega), getD_set _ _ _ _ hj]
theorem swp_perm {d : List Int} {j : Nat} (hj : j + 1 < d.length) : (swp d j).Perm d := by
  unfold swp
  have e1 : d.getD j 0 = d[j]'(by omega) := by rw [List.getD_eq_getElem?_getD, List.getElem?_eq_getElem (by omega)]; rfl
  have e2 : d.getD (j + 1) 0 = d[j + 1]'hj := by rw [List.getD_eq_getElem?_getD, List.getElem?_eq_getElem hj]; rfl
  rw [e1, e2]
  exact List.set_set_perm hj (by omega)
theorem swp_alm {d : List Int} {i j : Nat} (hj : j + 1 ≤ i) (hi : i < d.length) (h : almS d i (j + 1)) (hlt : d.getD (j + 1) 0 < d.getD j 0) : almS (swp d j) i j := by
  intro p q hpq hq hqj
  have hjl : j + 1 < d.length := by omega
  have hP := swp_getD hjl p
  have hQ := swp_getD hjl q
  have hPQ : (swp d j).getD p 0 = (if p = j then d.getD (j + 1) 0 else if p = j + 1 then d.getD j 0 else d.getD p 0) := by
    rw [hP]
    by_cases e2 : j = p
    · rw [if_pos e2, if_pos e2.symm]
    · rw [if_neg e2, if_neg (show ¬ p = j from fun e => e2 e.symm)]
      by_cases e3 : j + 1 = p
      · rw [if_pos e3, if_pos e3.symm]
      · rw [if_neg e3, if_neg (show ¬ p = j + 1 from fun e => e3 e.symm)]
  rw [hPQ]
  clear hP hPQ
  by_cases e1 : j + 1 = q
  · rw [if_neg (fun e => hqj e.symm), if_pos e1] at hQ
    rw [hQ]
    by_cases e2 : p = j
    · rw [if_pos e2]; omega
    · rw [if_neg e2, if_neg (by omega)]
      exact h p j (by omega) (by omega) (by omega)
  · rw [if_neg (fun e => hqj e.symm), if_neg e1] at hQ
    rw [hQ]
    by_cases e2 : p = j
    · rw [if_pos e2]
      exact h (j + 1) q (by omega) hq (fun e => e1 e.symm)
    · rw [if_neg e2]
      by_cases e3 : p = j + 1
      · rw [if_pos e3]
        exact h j q (by omega) hq (fun e => e1 e.symm)
      · rw [if_neg e3]
        exact h p q hpq hq (fun e => e1 e.symm)
theorem alm_end {d : List Int} {i j : Nat} (h : almS d i j) (he : j = 0 ∨ d.getD (j - 1) 0 ≤ d.getD j 0) : toS d (i + 1) := by
  intro p q hpq hq
  by_cases e : q = j
  · subst e
    rcases he with he | he
    · omega
    · by_cases e2 : p = q - 1
      · rw [e2]; exact he
      · exact Int.le_trans (h p (q - 1) (by omega) (by omega) (by omega)) he
  · exact h p q hpq (by omega) e
theorem SK.swap {w wr : World} {base g c n : Nat} {l d : List Int} (h : SK w base g c n l d wr) {j : Nat} (hj : j + 1 < n) :
    SK w base g c n l (swp d j) ((wr.setCell ⟨g, j + 1, none⟩ (.int .i64 (d.getD j 0))).setCell ⟨g, j, none⟩ (.int .i64 (d.getD (j + 1) 0))) := by
  obtain ⟨k1, k2⟩ := h.own.stored (j + 1) (.int .i64 (d.getD j 0))
  obtain ⟨k3, k4⟩ := k1.stored j (.int .i64 (d.getD (j + 1) 0))
  refine ⟨?_, grown_trans (grown_trans h.gr k2) k4, by rw [swp_len]; exact h.len, (swp_perm (by rw [h.len]; exact hj)).trans h.perm⟩
  unfold swp
  rw [List.map_set, List.map_set]
  exact k3
def SrtPost (base g c n : Nat) (l : List Int) (w : World) (e : Ending) (w' : World) : Prop := ∃ d, Hid (SK w base g c n l d w' ∧ toS d n) ∧ e = .returned (.tuple #[])
set_option maxRecDepth 100000 in
set_option maxHeartbeats 6400000 in
theorem tins_any (base g c n : Nat) (l : List Int) (w : World) (hO : w.ownsRow base 3 1 (.slice (some ⟨g, 0, none⟩) n c) n (l.map tv)) (hl : l.length = n) (hn : n ≤ 12) :
    Calls Try.prog 105 #[.slice (some ⟨g, 0, none⟩) n c, .int .i64 0, .int .i64 (n : Int)] w fun e w' => SrtPost base g c n l w e w' := by
  have K0 : Hid (SK w base g c n l l w ∧ toS l 1) := Lib.hid ⟨⟨hO, grown_refl _ _, hl, List.Perm.refl _⟩, fun p q h1 h2 => by omega⟩
  clear hO hl
  go_enter Try.func105, Try.ntmps105
  go_wp2_with fail
  go_loopw [6] (fun a wr => ∃ i : Nat, 1 ≤ i ∧ (i ≤ n ∨ i = 1) ∧ a = .int .i64 (i : Int) ∧ ∃ d, Hid (SK w base g c n l d wr ∧ toS d i)) (fun a _ => n - (intOf a).toNat)
  case atStart => exact ⟨1, by omega, Or.inr rfl, rfl, l, K0⟩
  case round =>
  obtain ⟨i, hi1, hi, rfl, d0, K⟩ := hrel
  clear K0
  by_cases hlt : i < n
  case neg =>
    have hz : ¬ (i : Int) < (n : Int) := by omega
    have K9 : Hid (SK w base g c n l d0 wr ∧ toS d0 n) := Lib.hid ⟨K.out.1, fun p q h1 h2 => K.out.2 p q h1 (by omega)⟩
    go_wp2_with fail
    exact bodyPost_end (results_none rfl _ _ _) rfl ⟨d0, K9, rfl⟩
  have KI : Hid (SK w base g c n l d0 wr ∧ almS d0 i i) := Lib.hid ⟨K.out.1, fun p q h1 h2 h3 => K.out.2 p q h1 (by omega)⟩
  clear K
  obtain ⟨wo, rfl⟩ : ∃ wo : World, wo = wr := ⟨_, rfl⟩
  go_wp2_with fail
  go_loopw [7] (fun a wr => ∃ j : Nat, j ≤ i ∧ a = .int .i64 (j : Int) ∧ ∃ d, Hid (SK w base g c n l d wr ∧ almS d i j)) (fun a _ => (intOf a).toNat)
  case atStart => exact ⟨i, Nat.le_refl _, rfl, d0, KI⟩
  case round =>
  clear KI
  obtain ⟨j, hj, rfl, d, K⟩ := hrel
  have fin : Hid ((j = 0 ∨ d.getD (j - 1) 0 ≤ d.getD j 0)) → ∀ wz, Hid (SK w base g c n l d wz) → Hid (SK w base g c n l d wz ∧ toS d (i + 1)) := fun h wz k => Lib.hid ⟨k.out, alm_end K.out.2 h.out⟩
  have FIN := Lib.hid fin
  clear fin
  by_cases hj0 : j = 0
  · subst hj0
    have H := FIN.out (Lib.hid (Or.inl rfl)) wr.drew (Lib.hid K.out.1.drew)
    have SD := Lib.hid K.out.1.drew
    clear K FIN
    go_upto_region 4 with fail
    refine wp_region_held_drew (S := fun w' => Hid (SK w base g c n l d w')) (by kernel_rfl) (SD) (fun hHeld => ?_)
    refine wpAnyH_take (i := 0) (oi := { dst := some 16, op := Op.move (Operand.tmp 7), type := 3, pos := "zsortordered.go:14", after := #[], guard := none }) (v := ?_) rfl (by kernel_rfl) (by kernel_rfl) (by kernel_rfl) (fun _ _ _ h => h) (Or.inl ⟨by rfl, ?_⟩) hHeld ?_
    rotate_left 1
    · intro u hSu
      skip
      go_simp
      first | done | with_reducible rfl
    (try simp only [Act.put, List.setIfInBounds_toArray, List.set_cons_zero, List.set_cons_succ])
    refine wpAnyH_take (i := 1) (oi := { dst := some 17, op := Op.move (Operand.tmp 1), type := 3, pos := "zsortordered.go:14", after := #[], guard := none }) (v := ?_) rfl (by kernel_rfl) (by kernel_rfl) (by kernel_rfl) (fun _ _ _ h => h) (Or.inl ⟨by rfl, ?_⟩) hHeld ?_
    rotate_left 1
    · intro u hSu
      skip
      go_simp
      first | done | with_reducible rfl
    (try simp only [Act.put, List.setIfInBounds_toArray, List.set_cons_zero, List.set_cons_succ])
    refine wpAnyH_take (i := 2) (oi := { dst := some 18, op := Op.binOp BinOp.gtr 3 (Operand.tmp 16) (Operand.tmp 17) 3, type := 4, pos := "zsortordered.go:14", after := #[{ on := 0, ground := Ground.data }, { on := 1, ground := Ground.data }], guard := none }) (v := ?_) rfl (by kernel_rfl) (by kernel_rfl) (by kernel_rfl) (fun _ _ _ h => h) (Or.inl ⟨by rfl, ?_⟩) hHeld ?_
    rotate_left 1
    · intro u hSu
      skip
      go_simp
      first | done | with_reducible rfl
    (try simp only [Act.put, List.setIfInBounds_toArray, List.set_cons_zero, List.set_cons_succ])
    refine wpAnyH_take (i := 3) (oi := { dst := some 19, op := Op.move (Operand.tmp 18), type := 4, pos := "zsortordered.go:14", after := #[{ on := 2, ground := Ground.data }], guard := none }) (v := ?_) rfl (by kernel_rfl) (by kernel_rfl) (by kernel_rfl) (fun _ _ _ h => h) (Or.inl ⟨by rfl, ?_⟩) hHeld ?_
    rotate_left 1
    · intro u hSu
      skip
      go_simp
      first | done | with_reducible rfl
    (try simp only [Act.put, List.setIfInBounds_toArray, List.set_cons_zero, List.set_cons_succ])
    refine wpAnyH_take (i := 4) (oi := { dst := some 20, op := Op.move (Operand.tmp 0), type := 22, pos := "zsortordered.go:14", after := #[{ on := 3, ground := Ground.guard }], guard := some (3, true) }) (v := undef) rfl (by kernel_rfl) (by kernel_rfl) (by kernel_rfl) (fun _ _ _ h => h) (Or.inr ⟨by rfl, rfl⟩) hHeld ?_
    (try simp only [Act.put, List.setIfInBounds_toArray, List.set_cons_zero, List.set_cons_succ])
    refine wpAnyH_take (i := 5) (oi := { dst := some 21, op := Op.move (Operand.tmp 7), type := 3, pos := "zsortordered.go:14", after := #[{ on := 3, ground := Ground.guard }], guard := some (3, true) }) (v := undef) rfl (by kernel_rfl) (by kernel_rfl) (by kernel_rfl) (fun _ _ _ h => h) (Or.inr ⟨by rfl, rfl⟩) hHeld ?_
    (try simp only [Act.put, List.setIfInBounds_toArray, List.set_cons_zero, List.set_cons_succ])
    refine wpAnyH_take (i := 6) (oi := { dst := some 22, op := Op.indexAddr 22 (Operand.tmp 20) (Operand.tmp 21), type := 0, pos := "zsortordered.go:14", after := #[{ on := 4, ground := Ground.data }, { on := 5, ground := Ground.data }, { on := 3, ground := Ground.guard }], guard := some (3, true) }) (v := undef) rfl (by kernel_rfl) (by kernel_rfl) (by kernel_rfl) (fun _ _ _ h => h) (Or.inr ⟨by rfl, rfl⟩) hHeld ?_
    (try simp only [Act.put, List.setIfInBounds_toArray, List.set_cons_zero, List.set_cons_succ])
    refine wpAnyH_take (i := 7) (oi := { dst := some 23, op := Op.load 3 (Operand.tmp 22), type := 3, pos := "zsortordered.go:14", after := #[{ on := 6, ground := Ground.data }, { on := 3, ground := Ground.guard }], guard := some (3, true) }) (v := undef) rfl (by kernel_rfl) (by kernel_rfl) (by kernel_rfl) (fun _ _ _ h => h) (Or.inr ⟨by rfl, rfl⟩) hHeld ?_
    (try simp only [Act.put, List.setIfInBounds_toArray, List.set_cons_zero, List.set_cons_succ])
    refine wpAnyH_take (i := 8) (oi := { dst := some 24, op := Op.move (Operand.tmp 0), type := 22, pos := "zsortordered.go:14", after := #[{ on := 3, ground := Ground.guard }], guard := some (3, true) }) (v := undef) rfl (by kernel_rfl) (by kernel_rfl) (by kernel_rfl) (fun _ _ _ h => h) (Or.inr ⟨by rfl, rfl⟩) hHeld ?_
    (try simp only [Act.put, List.setIfInBounds_toArray, List.set_cons_zero, List.set_cons_succ])
    refine wpAnyH_take (i := 9) (oi := { dst := some 25, op := Op.move (Operand.tmp 7), type := 3, pos := "zsortordered.go:14", after := #[{ on := 3, ground := Ground.guard }], guard := some (3, true) }) (v := undef) rfl (by kernel_rfl) (by kernel_rfl) (by kernel_rfl) (fun _ _ _ h => h) (Or.inr ⟨by rfl, rfl⟩) hHeld ?_
    (try simp only [Act.put, List.setIfInBounds_toArray, List.set_cons_zero, List.set_cons_succ])
    refine wpAnyH_take (i := 10) (oi := { dst := some 26, op := Op.binOp BinOp.sub 3 (Operand.tmp 25) (Operand.const (Value.int IntKind.i64 1)) 3, type := 3, pos := "zsortordered.go:14", after := #[{ on := 9, ground := Ground.data }, { on := 3, ground := Ground.guard }], guard := some (3, true) }) (v := undef) rfl (by kernel_rfl) (by kernel_rfl) (by kernel_rfl) (fun _ _ _ h => h) (Or.inr ⟨by rfl, rfl⟩) hHeld ?_
    (try simp only [Act.put, List.setIfInBounds_toArray, List.set_cons_zero, List.set_cons_succ])
    refine wpAnyH_take (i := 11) (oi := { dst := some 27, op := Op.indexAddr 22 (Operand.tmp 24) (Operand.tmp 26), type := 0, pos := "zsortordered.go:14", after := #[{ on := 8, ground := Ground.data }, { on := 10, ground := Ground.data }, { on := 3, ground := Ground.guard }], guard := some (3, true) }) (v := undef) rfl (by kernel_rfl) (by kernel_rfl) (by kernel_rfl) (fun _ _ _ h => h) (Or.inr ⟨by rfl, rfl⟩) hHeld ?_
    (try simp only [Act.put, List.setIfInBounds_toArray, List.set_cons_zero, List.set_cons_succ])
    refine wpAnyH_take (i := 12) (oi := { dst := some 28, op := Op.load 3 (Operand.tmp 27), type := 3, pos := "zsortordered.go:14", after := #[{ on := 11, ground := Ground.data }, { on := 3, ground := Ground.guard }], guard := some (3, true) }) (v := undef) rfl (by kernel_rfl) (by kernel_rfl) (by kernel_rfl) (fun _ _ _ h => h) (Or.inr ⟨by rfl, rfl⟩) hHeld ?_
    (try simp only [Act.put, List.setIfInBounds_toArray, List.set_cons_zero, List.set_cons_succ])
    refine wpAnyH_take (i := 13) (oi := { dst := some 29, op := Op.call { callee := Callee.value (Operand.func 111), args := #[Operand.tmp 23, Operand.tmp 28], argTypes := #[3, 3] }, type := 4, pos := "zsortordered.go:14", after := #[{ on := 7, ground := Ground.data }, { on := 12, ground := Ground.data }, { on := 3, ground := Ground.chain }, { on := 3, ground := Ground.guard }], guard := some (3, true) }) (v := undef) rfl (by kernel_rfl) (by kernel_rfl) (by kernel_rfl) (fun _ _ _ h => h) (Or.inr ⟨by rfl, rfl⟩) hHeld ?_
    (try simp only [Act.put, List.setIfInBounds_toArray, List.set_cons_zero, List.set_cons_succ])
    refine wpAnyH_take (i := 14) (oi := { dst := some 30, op := Op.pick (Operand.tmp 19) (Operand.tmp 29) (Operand.const (Value.bool false)), type := 4, pos := "zsortordered.go:14", after := #[{ on := 3, ground := Ground.data }, { on := 13, ground := Ground.data }], guard := none }) (v := ?_) rfl (by kernel_rfl) (by kernel_rfl) (by kernel_rfl) (fun _ _ _ h => h) (Or.inl ⟨by rfl, ?_⟩) hHeld ?_
    rotate_left 1
    · intro u hSu
      skip
      go_simp
      first | done | with_reducible rfl
    (try simp only [Act.put, List.setIfInBounds_toArray, List.set_cons_zero, List.set_cons_succ])
    refine wpAnyH_done (by kernel_rfl) ?_ _
    clear hHeld
    go_wp2_with fail
    exact ⟨⟨i + 1, by omega, Or.inl (by omega), congrArg _ (by omega), d, H⟩, by simp only [intOf]; omega⟩
  · obtain ⟨j, rfl⟩ : ∃ k, j = k + 1 := ⟨j - 1, by omega⟩
    have hcast : ((j + 1 : Nat) : Int) = (j : Int) + 1 := by omega
    have hj1 : j + 1 < n := by omega
    have hj0 : j < n := by omega
    have ew1 : ((j : Int) + 1 - 1) = (j : Int) := by omega
    have ew3 : IntKind.i64.wrap (j : Int) = (j : Int) := IntWalk.i64_in _ (by omega)
    have i0 : (0 : Int) ≤ (j : Int) := by omega
    have i1 : (0 : Int) ≤ (j : Int) + 1 := by omega
    have i2 : (j : Int) < (n : Int) := by omega
    have i3 : (j : Int) + 1 < (n : Int) := by omega
    have i4 : ((j : Int) + 1).toNat = j + 1 := by omega
    have i5 : (0 : Int) < (j : Int) + 1 := by omega
    rw [hcast]
    obtain ⟨x, hx⟩ : ∃ x, d.getD (j + 1) 0 = x := ⟨_, rfl⟩
    obtain ⟨y, hy⟩ : ∃ y, d.getD j 0 = y := ⟨_, rfl⟩
    have HX := Lib.hid (And.intro hx hy)
    have SD := Lib.hid K.out.1.drew
    clear hx hy
    by_cases hxy : x < y
    · go_upto_region 4 with fail
      refine wp_region_held_drew (S := fun w' => Hid (SK w base g c n l d w')) (by kernel_rfl) (SD) (fun hHeld => ?_)
      refine wpAnyH_take (i := 0) (oi := { dst := some 16, op := Op.move (Operand.tmp 7), type := 3, pos := "zsortordered.go:14", after := #[], guard := none }) (v := ?_) rfl (by kernel_rfl) (by kernel_rfl) (by kernel_rfl) (fun _ _ _ h => h) (Or.inl ⟨by rfl, ?_⟩) hHeld ?_
      rotate_left 1
      · intro u hSu
        have y0 := hSu.out.at_ hj1
        have y1 := hSu.out.at_ hj0
        rw [HX.out.1] at y0
        rw [HX.out.2] at y1
        go_simp
        first | done | with_reducible rfl
      (try simp only [Act.put, List.setIfInBounds_toArray, List.set_cons_zero, List.set_cons_succ])
      refine wpAnyH_take (i := 1) (oi := { dst := some 17, op := Op.move (Operand.tmp 1), type := 3, pos := "zsortordered.go:14", after := #[], guard := none }) (v := ?_) rfl (by kernel_rfl) (by kernel_rfl) (by kernel_rfl) (fun _ _ _ h => h) (Or.inl ⟨by rfl, ?_⟩) hHeld ?_
      rotate_left 1
      · intro u hSu
        have y0 := hSu.out.at_ hj1
        have y1 := hSu.out.at_ hj0
        rw [HX.out.1] at y0
        rw [HX.out.2] at y1
        go_simp
        first | done | with_reducible rfl
      (try simp only [Act.put, List.setIfInBounds_toArray, List.set_cons_zero, List.set_cons_succ])
      refine wpAnyH_take (i := 2) (oi := { dst := some 18, op := Op.binOp BinOp.gtr 3 (Operand.tmp 16) (Operand.tmp 17) 3, type := 4, pos := "zsortordered.go:14", after := #[{ on := 0, ground := Ground.data }, { on := 1, ground := Ground.data }], guard := none }) (v := ?_) rfl (by kernel_rfl) (by kernel_rfl) (by kernel_rfl) (fun _ _ _ h => h) (Or.inl ⟨by rfl, ?_⟩) hHeld ?_
      rotate_left 1
      · intro u hSu
        have y0 := hSu.out.at_ hj1
        have y1 := hSu.out.at_ hj0
        rw [HX.out.1] at y0
        rw [HX.out.2] at y1
        go_simp
        first | done | with_reducible rfl
      (try simp only [Act.put, List.setIfInBounds_toArray, List.set_cons_zero, List.set_cons_succ])
      refine wpAnyH_take (i := 3) (oi := { dst := some 19, op := Op.move (Operand.tmp 18), type := 4, pos := "zsortordered.go:14", after := #[{ on := 2, ground := Ground.data }], guard := none }) (v := ?_) rfl (by kernel_rfl) (by kernel_rfl) (by kernel_rfl) (fun _ _ _ h => h) (Or.inl ⟨by rfl, ?_⟩) hHeld ?_
      rotate_left 1
      · intro u hSu
        have y0 := hSu.out.at_ hj1
        have y1 := hSu.out.at_ hj0
        rw [HX.out.1] at y0
        rw [HX.out.2] at y1
        go_simp
        first | done | with_reducible rfl
      (try simp only [Act.put, List.setIfInBounds_toArray, List.set_cons_zero, List.set_cons_succ])
      refine wpAnyH_take (i := 4) (oi := { dst := some 20, op := Op.move (Operand.tmp 0), type := 22, pos := "zsortordered.go:14", after := #[{ on := 3, ground := Ground.guard }], guard := some (3, true) }) (v := ?_) rfl (by kernel_rfl) (by kernel_rfl) (by kernel_rfl) (fun _ _ _ h => h) (Or.inl ⟨by rfl, ?_⟩) hHeld ?_
      rotate_left 1
      · intro u hSu
        have y0 := hSu.out.at_ hj1
        have y1 := hSu.out.at_ hj0
        rw [HX.out.1] at y0
        rw [HX.out.2] at y1
        go_simp
        first | done | with_reducible rfl
      (try simp only [Act.put, List.setIfInBounds_toArray, List.set_cons_zero, List.set_cons_succ])
      refine wpAnyH_take (i := 5) (oi := { dst := some 21, op := Op.move (Operand.tmp 7), type := 3, pos := "zsortordered.go:14", after := #[{ on := 3, ground := Ground.guard }], guard := some (3, true) }) (v := ?_) rfl (by kernel_rfl) (by kernel_rfl) (by kernel_rfl) (fun _ _ _ h => h) (Or.inl ⟨by rfl, ?_⟩) hHeld ?_
      rotate_left 1
      · intro u hSu
        have y0 := hSu.out.at_ hj1
        have y1 := hSu.out.at_ hj0
        rw [HX.out.1] at y0
        rw [HX.out.2] at y1
        go_simp
        first | done | with_reducible rfl
      (try simp only [Act.put, List.setIfInBounds_toArray, List.set_cons_zero, List.set_cons_succ])
      refine wpAnyH_take (i := 6) (oi := { dst := some 22, op := Op.indexAddr 22 (Operand.tmp 20) (Operand.tmp 21), type := 0, pos := "zsortordered.go:14", after := #[{ on := 4, ground := Ground.data }, { on := 5, ground := Ground.data }, { on := 3, ground := Ground.guard }], guard := some (3, true) }) (v := ?_) rfl (by kernel_rfl) (by kernel_rfl) (by kernel_rfl) (fun _ _ _ h => h) (Or.inl ⟨by rfl, ?_⟩) hHeld ?_
      rotate_left 1
      · intro u hSu
        have y0 := hSu.out.at_ hj1
        have y1 := hSu.out.at_ hj0
        rw [HX.out.1] at y0
        rw [HX.out.2] at y1
        go_simp
        first | done | with_reducible rfl
      (try simp only [Act.put, List.setIfInBounds_toArray, List.set_cons_zero, List.set_cons_succ])
      refine wpAnyH_take (i := 7) (oi := { dst := some 23, op := Op.load 3 (Operand.tmp 22), type := 3, pos := "zsortordered.go:14", after := #[{ on := 6, ground := Ground.data }, { on := 3, ground := Ground.guard }], guard := some (3, true) }) (v := ?_) rfl (by kernel_rfl) (by kernel_rfl) (by kernel_rfl) (fun _ _ _ h => h) (Or.inl ⟨by rfl, ?_⟩) hHeld ?_
      rotate_left 1
      · intro u hSu
        have y0 := hSu.out.at_ hj1
        have y1 := hSu.out.at_ hj0
        rw [HX.out.1] at y0
        rw [HX.out.2] at y1
        go_simp
        first | done | with_reducible rfl
      (try simp only [Act.put, List.setIfInBounds_toArray, List.set_cons_zero, List.set_cons_succ])
      refine wpAnyH_take (i := 8) (oi := { dst := some 24, op := Op.move (Operand.tmp 0), type := 22, pos := "zsortordered.go:14", after := #[{ on := 3, ground := Ground.guard }], guard := some (3, true) }) (v := ?_) rfl (by kernel_rfl) (by kernel_rfl) (by kernel_rfl) (fun _ _ _ h => h) (Or.inl ⟨by rfl, ?_⟩) hHeld ?_
      rotate_left 1
      · intro u hSu
        have y0 := hSu.out.at_ hj1
        have y1 := hSu.out.at_ hj0
        rw [HX.out.1] at y0
        rw [HX.out.2] at y1
        go_simp
        first | done | with_reducible rfl
      (try simp only [Act.put, List.setIfInBounds_toArray, List.set_cons_zero, List.set_cons_succ])
      refine wpAnyH_take (i := 9) (oi := { dst := some 25, op := Op.move (Operand.tmp 7), type := 3, pos := "zsortordered.go:14", after := #[{ on := 3, ground := Ground.guard }], guard := some (3, true) }) (v := ?_) rfl (by kernel_rfl) (by kernel_rfl) (by kernel_rfl) (fun _ _ _ h => h) (Or.inl ⟨by rfl, ?_⟩) hHeld ?_
      rotate_left 1
      · intro u hSu
        have y0 := hSu.out.at_ hj1
        have y1 := hSu.out.at_ hj0
        rw [HX.out.1] at y0
        rw [HX.out.2] at y1
        go_simp
        first | done | with_reducible rfl
      (try simp only [Act.put, List.setIfInBounds_toArray, List.set_cons_zero, List.set_cons_succ])
      refine wpAnyH_take (i := 10) (oi := { dst := some 26, op := Op.binOp BinOp.sub 3 (Operand.tmp 25) (Operand.const (Value.int IntKind.i64 1)) 3, type := 3, pos := "zsortordered.go:14", after := #[{ on := 9, ground := Ground.data }, { on := 3, ground := Ground.guard }], guard := some (3, true) }) (v := ?_) rfl (by kernel_rfl) (by kernel_rfl) (by kernel_rfl) (fun _ _ _ h => h) (Or.inl ⟨by rfl, ?_⟩) hHeld ?_
      rotate_left 1
      · intro u hSu
        have y0 := hSu.out.at_ hj1
        have y1 := hSu.out.at_ hj0
        rw [HX.out.1] at y0
        rw [HX.out.2] at y1
        go_simp
        first | done | with_reducible rfl
      (try simp only [Act.put, List.setIfInBounds_toArray, List.set_cons_zero, List.set_cons_succ])
      refine wpAnyH_take (i := 11) (oi := { dst := some 27, op := Op.indexAddr 22 (Operand.tmp 24) (Operand.tmp 26), type := 0, pos := "zsortordered.go:14", after := #[{ on := 8, ground := Ground.data }, { on := 10, ground := Ground.data }, { on := 3, ground := Ground.guard }], guard := some (3, true) }) (v := ?_) rfl (by kernel_rfl) (by kernel_rfl) (by kernel_rfl) (fun _ _ _ h => h) (Or.inl ⟨by rfl, ?_⟩) hHeld ?_
      rotate_left 1
      · intro u hSu
        have y0 := hSu.out.at_ hj1
        have y1 := hSu.out.at_ hj0
        rw [HX.out.1] at y0
        rw [HX.out.2] at y1
        go_simp
        first | done | with_reducible rfl
      (try simp only [Act.put, List.setIfInBounds_toArray, List.set_cons_zero, List.set_cons_succ])
      refine wpAnyH_take (i := 12) (oi := { dst := some 28, op := Op.load 3 (Operand.tmp 27), type := 3, pos := "zsortordered.go:14", after := #[{ on := 11, ground := Ground.data }, { on := 3, ground := Ground.guard }], guard := some (3, true) }) (v := ?_) rfl (by kernel_rfl) (by kernel_rfl) (by kernel_rfl) (fun _ _ _ h => h) (Or.inl ⟨by rfl, ?_⟩) hHeld ?_
      rotate_left 1
      · intro u hSu
        have y0 := hSu.out.at_ hj1
        have y1 := hSu.out.at_ hj0
        rw [HX.out.1] at y0
        rw [HX.out.2] at y1
        go_simp
        first | done | with_reducible rfl
      (try simp only [Act.put, List.setIfInBounds_toArray, List.set_cons_zero, List.set_cons_succ])
      refine wpAnyH_ready (rs := [13]) (by kernel_rfl) (by simp) ?_
      refine AllReadyH.cons (o := { dst := some 29, op := Op.call { callee := Callee.value (Operand.func 111), args := #[Operand.tmp 23, Operand.tmp 28], argTypes := #[3, 3] }, type := 4, pos := "zsortordered.go:14", after := #[{ on := 7, ground := Ground.data }, { on := 12, ground := Ground.data }, { on := 3, ground := Ground.chain }, { on := 3, ground := Ground.guard }], guard := some (3, true) }) rfl (fun K hK => ?_) AllReadyH.nil
      go_simp
      go_at_call 111
      refine (tless_any x y _).mono ?_
      rintro e w' ⟨rfl, rfl⟩
      refine hK.out _ _ (hHeld) (fun hH2 => ?_)
      clear hK K hHeld
      have hHeld := hH2
      clear hH2
      (try simp only [Act.put, List.setIfInBounds_toArray, List.set_cons_zero, List.set_cons_succ])
      refine wpAnyH_take (i := 14) (oi := { dst := some 30, op := Op.pick (Operand.tmp 19) (Operand.tmp 29) (Operand.const (Value.bool false)), type := 4, pos := "zsortordered.go:14", after := #[{ on := 3, ground := Ground.data }, { on := 13, ground := Ground.data }], guard := none }) (v := ?_) rfl (by kernel_rfl) (by kernel_rfl) (by kernel_rfl) (fun _ _ _ h => h) (Or.inl ⟨by rfl, ?_⟩) hHeld ?_
      rotate_left 1
      · intro u hSu
        have y0 := hSu.out.at_ hj1
        have y1 := hSu.out.at_ hj0
        rw [HX.out.1] at y0
        rw [HX.out.2] at y1
        go_simp
        first | done | with_reducible rfl
      (try simp only [Act.put, List.setIfInBounds_toArray, List.set_cons_zero, List.set_cons_succ])
      refine wpAnyH_done (by kernel_rfl) ?_ _
      have SE := hHeld
      clear hHeld
      rw [decide_eq_true hxy]
      have y0 := K.out.1.at_ hj1
      have y1 := K.out.1.at_ hj0
      rw [HX.out.1] at y0
      rw [HX.out.2] at y1
      have z0 := K.out.1.own.frozenAt (j + 1)
      have z1 := K.out.1.own.frozenAt j
      go_upto_region 6 with fail
      have SW : Hid (SK w base g c n l (swp d j) ((wr.setCell ⟨g, j + 1, none⟩ (.int .i64 y)).setCell ⟨g, j, none⟩ (.int .i64 x)).drew.drew ∧ almS (swp d j) i j) := Lib.hid ⟨by have h := K.out.1.swap hj1; rw [HX.out.1, HX.out.2] at h; exact h.drew.drew, swp_alm (by omega) (by have := K.out.1.len; omega) K.out.2 (by rw [HX.out.1, HX.out.2]; exact hxy)⟩
      clear K SE
      go_region_law fail
      all_goals
        clear y0 y1 z0 z1
        go_wp2_with fail
        exact ⟨⟨j, by omega, rfl, swp d j, SW⟩, by simp only [intOf]; omega⟩
    · have hnd : decide (x < y) = false := decide_eq_false hxy
      have H := FIN.out (Lib.hid (Or.inr (by show d.getD j 0 ≤ d.getD (j + 1) 0; rw [HX.out.1, HX.out.2]; omega)))
      clear FIN
      go_upto_region 4 with fail
      refine wp_region_held_drew (S := fun w' => Hid (SK w base g c n l d w')) (by kernel_rfl) (SD) (fun hHeld => ?_)
      refine wpAnyH_take (i := 0) (oi := { dst := some 16, op := Op.move (Operand.tmp 7), type := 3, pos := "zsortordered.go:14", after := #[], guard := none }) (v := ?_) rfl (by kernel_rfl) (by kernel_rfl) (by kernel_rfl) (fun _ _ _ h => h) (Or.inl ⟨by rfl, ?_⟩) hHeld ?_
      rotate_left 1
      · intro u hSu
        have y0 := hSu.out.at_ hj1
        have y1 := hSu.out.at_ hj0
        rw [HX.out.1] at y0
        rw [HX.out.2] at y1
        go_simp
        first | done | with_reducible rfl
      (try simp only [Act.put, List.setIfInBounds_toArray, List.set_cons_zero, List.set_cons_succ])
      refine wpAnyH_take (i := 1) (oi := { dst := some 17, op := Op.move (Operand.tmp 1), type := 3, pos := "zsortordered.go:14", after := #[], guard := none }) (v := ?_) rfl (by kernel_rfl) (by kernel_rfl) (by kernel_rfl) (fun _ _ _ h => h) (Or.inl ⟨by rfl, ?_⟩) hHeld ?_
      rotate_left 1
      · intro u hSu
        have y0 := hSu.out.at_ hj1
        have y1 := hSu.out.at_ hj0
        rw [HX.out.1] at y0
        rw [HX.out.2] at y1
        go_simp
        first | done | with_reducible rfl
      (try simp only [Act.put, List.setIfInBounds_toArray, List.set_cons_zero, List.set_cons_succ])
      refine wpAnyH_take (i := 2) (oi := { dst := some 18, op := Op.binOp BinOp.gtr 3 (Operand.tmp 16) (Operand.tmp 17) 3, type := 4, pos := "zsortordered.go:14", after := #[{ on := 0, ground := Ground.data }, { on := 1, ground := Ground.data }], guard := none }) (v := ?_) rfl (by kernel_rfl) (by kernel_rfl) (by kernel_rfl) (fun _ _ _ h => h) (Or.inl ⟨by rfl, ?_⟩) hHeld ?_
      rotate_left 1
      · intro u hSu
        have y0 := hSu.out.at_ hj1
        have y1 := hSu.out.at_ hj0
        rw [HX.out.1] at y0
        rw [HX.out.2] at y1
        go_simp
        first | done | with_reducible rfl
      (try simp only [Act.put, List.setIfInBounds_toArray, List.set_cons_zero, List.set_cons_succ])
      refine wpAnyH_take (i := 3) (oi := { dst := some 19, op := Op.move (Operand.tmp 18), type := 4, pos := "zsortordered.go:14", after := #[{ on := 2, ground := Ground.data }], guard := none }) (v := ?_) rfl (by kernel_rfl) (by kernel_rfl) (by kernel_rfl) (fun _ _ _ h => h) (Or.inl ⟨by rfl, ?_⟩) hHeld ?_
      rotate_left 1
      · intro u hSu
        have y0 := hSu.out.at_ hj1
        have y1 := hSu.out.at_ hj0
        rw [HX.out.1] at y0
        rw [HX.out.2] at y1
        go_simp
        first | done | with_reducible rfl
      (try simp only [Act.put, List.setIfInBounds_toArray, List.set_cons_zero, List.set_cons_succ])
      refine wpAnyH_take (i := 4) (oi := { dst := some 20, op := Op.move (Operand.tmp 0), type := 22, pos := "zsortordered.go:14", after := #[{ on := 3, ground := Ground.guard }], guard := some (3, true) }) (v := ?_) rfl (by kernel_rfl) (by kernel_rfl) (by kernel_rfl) (fun _ _ _ h => h) (Or.inl ⟨by rfl, ?_⟩) hHeld ?_
      rotate_left 1
      · intro u hSu
        have y0 := hSu.out.at_ hj1
        have y1 := hSu.out.at_ hj0
        rw [HX.out.1] at y0
        rw [HX.out.2] at y1
        go_simp
        first | done | with_reducible rfl
      (try simp only [Act.put, List.setIfInBounds_toArray, List.set_cons_zero, List.set_cons_succ])
      refine wpAnyH_take (i := 5) (oi := { dst := some 21, op := Op.move (Operand.tmp 7), type := 3, pos := "zsortordered.go:14", after := #[{ on := 3, ground := Ground.guard }], guard := some (3, true) }) (v := ?_) rfl (by kernel_rfl) (by kernel_rfl) (by kernel_rfl) (fun _ _ _ h => h) (Or.inl ⟨by rfl, ?_⟩) hHeld ?_
      rotate_left 1
      · intro u hSu
        have y0 := hSu.out.at_ hj1
        have y1 := hSu.out.at_ hj0
        rw [HX.out.1] at y0
        rw [HX.out.2] at y1
        go_simp
        first | done | with_reducible rfl
      (try simp only [Act.put, List.setIfInBounds_toArray, List.set_cons_zero, List.set_cons_succ])
      refine wpAnyH_take (i := 6) (oi := { dst := some 22, op := Op.indexAddr 22 (Operand.tmp 20) (Operand.tmp 21), type := 0, pos := "zsortordered.go:14", after := #[{ on := 4, ground := Ground.data }, { on := 5, ground := Ground.data }, { on := 3, ground := Ground.guard }], guard := some (3, true) }) (v := ?_) rfl (by kernel_rfl) (by kernel_rfl) (by kernel_rfl) (fun _ _ _ h => h) (Or.inl ⟨by rfl, ?_⟩) hHeld ?_
      rotate_left 1
      · intro u hSu
        have y0 := hSu.out.at_ hj1
        have y1 := hSu.out.at_ hj0
        rw [HX.out.1] at y0
        rw [HX.out.2] at y1
        go_simp
        first | done | with_reducible rfl
      (try simp only [Act.put, List.setIfInBounds_toArray, List.set_cons_zero, List.set_cons_succ])
      refine wpAnyH_take (i := 7) (oi := { dst := some 23, op := Op.load 3 (Operand.tmp 22), type := 3, pos := "zsortordered.go:14", after := #[{ on := 6, ground := Ground.data }, { on := 3, ground := Ground.guard }], guard := some (3, true) }) (v := ?_) rfl (by kernel_rfl) (by kernel_rfl) (by kernel_rfl) (fun _ _ _ h => h) (Or.inl ⟨by rfl, ?_⟩) hHeld ?_
      rotate_left 1
      · intro u hSu
        have y0 := hSu.out.at_ hj1
        have y1 := hSu.out.at_ hj0
        rw [HX.out.1] at y0
        rw [HX.out.2] at y1
        go_simp
        first | done | with_reducible rfl
      (try simp only [Act.put, List.setIfInBounds_toArray, List.set_cons_zero, List.set_cons_succ])
      refine wpAnyH_take (i := 8) (oi := { dst := some 24, op := Op.move (Operand.tmp 0), type := 22, pos := "zsortordered.go:14", after := #[{ on := 3, ground := Ground.guard }], guard := some (3, true) }) (v := ?_) rfl (by kernel_rfl) (by kernel_rfl) (by kernel_rfl) (fun _ _ _ h => h) (Or.inl ⟨by rfl, ?_⟩) hHeld ?_
      rotate_left 1
      · intro u hSu
        have y0 := hSu.out.at_ hj1
        have y1 := hSu.out.at_ hj0
        rw [HX.out.1] at y0
        rw [HX.out.2] at y1
        go_simp
        first | done | with_reducible rfl
      (try simp only [Act.put, List.setIfInBounds_toArray, List.set_cons_zero, List.set_cons_succ])
      refine wpAnyH_take (i := 9) (oi := { dst := some 25, op := Op.move (Operand.tmp 7), type := 3, pos := "zsortordered.go:14", after := #[{ on := 3, ground := Ground.guard }], guard := some (3, true) }) (v := ?_) rfl (by kernel_rfl) (by kernel_rfl) (by kernel_rfl) (fun _ _ _ h => h) (Or.inl ⟨by rfl, ?_⟩) hHeld ?_
      rotate_left 1
      · intro u hSu
        have y0 := hSu.out.at_ hj1
        have y1 := hSu.out.at_ hj0
        rw [HX.out.1] at y0
        rw [HX.out.2] at y1
        go_simp
        first | done | with_reducible rfl
      (try simp only [Act.put, List.setIfInBounds_toArray, List.set_cons_zero, List.set_cons_succ])
      refine wpAnyH_take (i := 10) (oi := { dst := some 26, op := Op.binOp BinOp.sub 3 (Operand.tmp 25) (Operand.const (Value.int IntKind.i64 1)) 3, type := 3, pos := "zsortordered.go:14", after := #[{ on := 9, ground := Ground.data }, { on := 3, ground := Ground.guard }], guard := some (3, true) }) (v := ?_) rfl (by kernel_rfl) (by kernel_rfl) (by kernel_rfl) (fun _ _ _ h => h) (Or.inl ⟨by rfl, ?_⟩) hHeld ?_
      rotate_left 1
      · intro u hSu
        have y0 := hSu.out.at_ hj1
        have y1 := hSu.out.at_ hj0
        rw [HX.out.1] at y0
        rw [HX.out.2] at y1
        go_simp
        first | done | with_reducible rfl
      (try simp only [Act.put, List.setIfInBounds_toArray, List.set_cons_zero, List.set_cons_succ])
      refine wpAnyH_take (i := 11) (oi := { dst := some 27, op := Op.indexAddr 22 (Operand.tmp 24) (Operand.tmp 26), type := 0, pos := "zsortordered.go:14", after := #[{ on := 8, ground := Ground.data }, { on := 10, ground := Ground.data }, { on := 3, ground := Ground.guard }], guard := some (3, true) }) (v := ?_) rfl (by kernel_rfl) (by kernel_rfl) (by kernel_rfl) (fun _ _ _ h => h) (Or.inl ⟨by rfl, ?_⟩) hHeld ?_
      rotate_left 1
      · intro u hSu
        have y0 := hSu.out.at_ hj1
        have y1 := hSu.out.at_ hj0
        rw [HX.out.1] at y0
        rw [HX.out.2] at y1
        go_simp
        first | done | with_reducible rfl
      (try simp only [Act.put, List.setIfInBounds_toArray, List.set_cons_zero, List.set_cons_succ])
      refine wpAnyH_take (i := 12) (oi := { dst := some 28, op := Op.load 3 (Operand.tmp 27), type := 3, pos := "zsortordered.go:14", after := #[{ on := 11, ground := Ground.data }, { on := 3, ground := Ground.guard }], guard := some (3, true) }) (v := ?_) rfl (by kernel_rfl) (by kernel_rfl) (by kernel_rfl) (fun _ _ _ h => h) (Or.inl ⟨by rfl, ?_⟩) hHeld ?_
      rotate_left 1
      · intro u hSu
        have y0 := hSu.out.at_ hj1
        have y1 := hSu.out.at_ hj0
        rw [HX.out.1] at y0
        rw [HX.out.2] at y1
        go_simp
        first | done | with_reducible rfl
      (try simp only [Act.put, List.setIfInBounds_toArray, List.set_cons_zero, List.set_cons_succ])
      refine wpAnyH_ready (rs := [13]) (by kernel_rfl) (by simp) ?_
      refine AllReadyH.cons (o := { dst := some 29, op := Op.call { callee := Callee.value (Operand.func 111), args := #[Operand.tmp 23, Operand.tmp 28], argTypes := #[3, 3] }, type := 4, pos := "zsortordered.go:14", after := #[{ on := 7, ground := Ground.data }, { on := 12, ground := Ground.data }, { on := 3, ground := Ground.chain }, { on := 3, ground := Ground.guard }], guard := some (3, true) }) rfl (fun K hK => ?_) AllReadyH.nil
      go_simp
      go_at_call 111
      refine (tless_any x y _).mono ?_
      rintro e w' ⟨rfl, rfl⟩
      refine hK.out _ _ (hHeld) (fun hH2 => ?_)
      clear hK K hHeld
      have hHeld := hH2
      clear hH2
      (try simp only [Act.put, List.setIfInBounds_toArray, List.set_cons_zero, List.set_cons_succ])
      refine wpAnyH_take (i := 14) (oi := { dst := some 30, op := Op.pick (Operand.tmp 19) (Operand.tmp 29) (Operand.const (Value.bool false)), type := 4, pos := "zsortordered.go:14", after := #[{ on := 3, ground := Ground.data }, { on := 13, ground := Ground.data }], guard := none }) (v := ?_) rfl (by kernel_rfl) (by kernel_rfl) (by kernel_rfl) (fun _ _ _ h => h) (Or.inl ⟨by rfl, ?_⟩) hHeld ?_
      rotate_left 1
      · intro u hSu
        have y0 := hSu.out.at_ hj1
        have y1 := hSu.out.at_ hj0
        rw [HX.out.1] at y0
        rw [HX.out.2] at y1
        go_simp
        first | done | with_reducible rfl
      (try simp only [Act.put, List.setIfInBounds_toArray, List.set_cons_zero, List.set_cons_succ])
      refine wpAnyH_done (by kernel_rfl) ?_ _
      have H2 := H _ hHeld
      clear hHeld H
      rw [hnd]
      go_wp2_with fail
      exact ⟨⟨i + 1, by omega, Or.inl (by omega), congrArg _ (by omega), d, H2⟩, by simp only [intOf]; omega⟩
end Go.Proofs.Ytiencdgmnkphjaa

/- slices.Sort of at most twelve numbers. -/
namespace Go.Proofs.Ytiencdgmnkphjaa
open Go.RowKit Bs
def SomeI (w : World) (e : Ending) (w' : World) : Prop := ∃ k : Int, e = .returned (.int .i64 k) ∧ w = w'
set_option maxRecDepth 100000 in
set_option maxHeartbeats 3200000 in
theorem tlen64_any (n : Nat) (hn : n ≤ 12) (w : World) : Calls Try.prog 115 #[.int .u64 (n : Int)] w fun e w' => SomeI w e w' := by
  rcases (show n = 0 ∨ n = 1 ∨ n = 2 ∨ n = 3 ∨ n = 4 ∨ n = 5 ∨ n = 6 ∨ n = 7 ∨ n = 8 ∨ n = 9 ∨ n = 10 ∨ n = 11 ∨ n = 12 by omega) with rfl | rfl | rfl | rfl | rfl | rfl | rfl | rfl | rfl | rfl | rfl | rfl | rfl
  all_goals
    go_enter Try.func115, Try.ntmps115
    go_wp2_with fail
    go_ret
    exact ⟨_, rfl, rfl⟩
set_option maxRecDepth 100000 in
set_option maxHeartbeats 3200000 in
theorem tlen_any (n : Nat) (hn : n ≤ 12) (w : World) : Calls Try.prog 100 #[.int .u64 (n : Int)] w fun e w' => SomeI w e w' := by
  go_enter Try.func100, Try.ntmps100
  go_wp2_with fail
  refine (tlen64_any n hn w).mono ?_
  rintro e w' ⟨k, rfl, rfl⟩
  go_wp2_with fail
  go_ret
  exact ⟨k, rfl, rfl⟩
set_option maxRecDepth 100000 in
set_option maxHeartbeats 3200000 in
theorem tpdq_any (base g c n : Nat) (l : List Int) (k : Int) (w : World) (hO : w.ownsRow base 3 1 (.slice (some ⟨g, 0, none⟩) n c) n (l.map tv)) (hl : l.length = n) (hn : n ≤ 12) :
    Calls Try.prog 99 #[.slice (some ⟨g, 0, none⟩) n c, .int .i64 0, .int .i64 (n : Int), .int .i64 k] w fun e w' => SrtPost base g c n l w e w' := by
  have C := tins_any base g c n l w hO hl hn
  have HC := Lib.hid C
  clear C hO hl
  have h12 : (n : Int) ≤ 12 := by omega
  go_enter Try.func99, Try.ntmps99
  go_wp2_with fail
  refine wp_loop_rounds 1 ?_
  rw [rounds_succ]
  go_wp2_with fail
  refine HC.out.mono ?_
  rintro e w' ⟨d, hd, rfl⟩
  go_wp2_with fail
  exact bodyPost_ret (results_none rfl _ _ _) rfl ⟨d, hd, rfl⟩
set_option maxRecDepth 100000 in
set_option maxHeartbeats 3200000 in
theorem tsort_any (base g c n : Nat) (l : List Int) (w : World) (hO : w.ownsRow base 3 1 (.slice (some ⟨g, 0, none⟩) n c) n (l.map tv)) (hl : l.length = n) (hn : n ≤ 12) :
    Calls Try.prog 84 #[.slice (some ⟨g, 0, none⟩) n c] w fun e w' => SrtPost base g c n l w e w' := by
  have HC := Lib.hid (fun k => tpdq_any base g c n l k w hO hl hn)
  clear hO hl
  have hz : IntKind.u64.wrap (n : Int) = (n : Int) := by rw [IntKind.wrap_u64]; omega
  go_enter Try.func84, Try.ntmps84
  go_wp2_with fail
  refine (tlen_any n hn w).mono ?_
  rintro e w' ⟨k, rfl, rfl⟩
  go_wp2_with fail
  refine (HC.out k).mono ?_
  rintro e w' ⟨d, hd, rfl⟩
  go_wp2_with fail
  first | exact bodyPost_end (results_none rfl _ _ _) rfl ⟨d, hd, rfl⟩ | exact bodyPost_ret (results_none rfl _ _ _) rfl ⟨d, hd, rfl⟩
/-- Insertion sort, as a function. -/
def insI (x : Int) : List Int → List Int
  | [] => [x]
  | y :: l => if x ≤ y then x :: y :: l else y :: insI x l
def srt : List Int → List Int
  | [] => []
  | x :: l => insI x (srt l)
theorem insI_perm (x : Int) : ∀ l, (insI x l).Perm (x :: l)
  | [] => List.Perm.refl _
  | y :: l => by
    rw [insI]
    split
    · exact List.Perm.refl _
    · exact ((insI_perm x l).cons y).trans (List.Perm.swap x y l)
theorem srt_perm : ∀ l, (srt l).Perm l
  | [] => List.Perm.refl _
  | x :: l => (insI_perm x _).trans ((srt_perm l).cons x)
theorem insI_sorted (x : Int) : ∀ l : List Int, l.Pairwise (· ≤ ·) → (insI x l).Pairwise (· ≤ ·)
  | [], _ => by simp [insI]
  | y :: l, h => by
    rw [insI]
    split
    · rename_i hxy
      rw [List.pairwise_cons]
      refine ⟨fun z hz => ?_, h⟩
      rcases List.mem_cons.1 hz with rfl | hz
      · exact hxy
      · exact Int.le_trans hxy ((List.pairwise_cons.1 h).1 z hz)
    · rename_i hxy
      rw [List.pairwise_cons]
      refine ⟨fun z hz => ?_, insI_sorted x l (List.pairwise_cons.1 h).2⟩
      have := (insI_perm x l).mem_iff.1 hz
      rcases List.mem_cons.1 this with rfl | hz
      · omega
      · exact (List.pairwise_cons.1 h).1 z hz
theorem srt_sorted : ∀ l, (srt l).Pairwise (· ≤ ·)
  | [] => List.Pairwise.nil
  | x :: l => insI_sorted x _ (srt_sorted l)
theorem sorted_unique : ∀ l m : List Int, l.Pairwise (· ≤ ·) → m.Pairwise (· ≤ ·) → l.Perm m → l = m
  | [], m, _, _, h => (List.Perm.nil_eq h)
  | x :: l, [], _, _, h => by have := h.length_eq; simp at this
  | x :: l, y :: m, h1, h2, h => by
    have hx : x ∈ y :: m := h.mem_iff.1 List.mem_cons_self
    have hy : y ∈ x :: l := h.mem_iff.2 List.mem_cons_self
    have e : x = y := by
      rcases List.mem_cons.1 hx with e | hx
      · exact e
      · rcases List.mem_cons.1 hy with e | hy
        · exact e.symm
        · have a := (List.pairwise_cons.1 h1).1 y hy
          have b := (List.pairwise_cons.1 h2).1 x hx
          omega
    subst e
    rw [sorted_unique l m (List.pairwise_cons.1 h1).2 (List.pairwise_cons.1 h2).2 (List.Perm.cons_inv h)]
theorem toS_pairwise {d : List Int} (h : toS d d.length) : d.Pairwise (· ≤ ·) := by
  rw [List.pairwise_iff_getElem]
  intro i j hi hj hij
  have := h i j hij hj
  rw [List.getD_eq_getElem?_getD, List.getD_eq_getElem?_getD, List.getElem?_eq_getElem hi, List.getElem?_eq_getElem hj] at this
  exact this
theorem srt_of {l d : List Int} (h1 : d.Perm l) (h2 : toS d d.length) : d = srt l := sorted_unique _ _ (toS_pairwise h2) (srt_sorted l) (h1.trans (srt_perm l).symm)
end Go.Proofs.Ytiencdgmnkphjaa

/- Parts of the proof, packed: ShRTo. -/
import Derived.Test.YtahafijpcmphaaaGreatQr12
import Derived.Test.YtahafijpcmphaaaGreatQr10
/- The reference's To. -/
namespace Go.Proofs.YtahafijpcmphaaaGreat
open Go.RowKit Bs
/-- A link in a box of the call's own. -/
def BxL (gl : Nat) (l : Lk) (wr : World) : Prop := wr.heap[gl]? = some (.cells #[.int .i64 l.a, .int .i64 l.b, .int .i64 l.ca, .int .i64 l.cb, .int .i64 l.cp] 94 (0, 0))
set_option maxRecDepth 100000 in
theorem BxL.at1_ {gl : Nat} {l : Lk} {wr : World} (h : BxL gl l wr) : wr.cell? ⟨gl, 0, none⟩ = some (.int .i64 l.a) ∧ wr.cell? ⟨gl, 1, none⟩ = some (.int .i64 l.b) ∧ wr.cell? ⟨gl, 2, none⟩ = some (.int .i64 l.ca) ∧ wr.cell? ⟨gl, 3, none⟩ = some (.int .i64 l.cb) := by
  refine ⟨?_, ?_, ?_, ?_⟩ <;> (rw [cell_of_row _ _ _ _ _ _ h]; rfl)
set_option maxRecDepth 100000 in
theorem rlx1_bd {D : Int → Int} {u v c : Int} (h : ∀ x, 0 ≤ D x ∧ D x ≤ farN) (hc : 0 ≤ c) : ∀ x, 0 ≤ rlx1 D u v c x ∧ rlx1 D u v c x ≤ farN := fun x => by
  refine ⟨?_, Int.le_trans (le_rlx1 D u v c x) (h x).2⟩
  unfold rlx1
  by_cases hu : D u < farN
  · rw [if_pos hu]
    unfold updF
    by_cases hx : x = v
    · rw [if_pos hx]
      have := (h v).1
      have := (h u).1
      omega
    · rw [if_neg hx]; exact (h x).1
  · rw [if_neg hu]; exact (h x).1
set_option maxRecDepth 100000 in
set_option maxHeartbeats 12800000 in
theorem rto_any (T : Tg) (z : Int) (q : Nat → Prop) (w : World) (hT : TgOk w q T) (hz : hasV T.R T.L z = true) :
    Calls Tryz.prog 78 #[.agg #[.slice T.pR T.R.length T.cR, .slice T.pL T.L.length T.cL], .int .i64 z] w fun e w' => TRet ((ids T.R).map (toK T.L z T.R.length)) w e w' := by
  obtain ⟨R, L, pR, cR, pL, cL⟩ := T
  simp only at hz ⊢
  obtain ⟨hok, -⟩ := hasV_iff.1 hz
  have hl := (okT_g hok).len
  rw [ids_len] at hl
  obtain ⟨hR24, hL60⟩ := hl
  have HOK := Lib.hid hok
  have HN := Lib.hid (ids_nodup hok)
  obtain ⟨k1, k2⟩ := tone_box w #[.slice pR R.length cR, .slice pL L.length cL] 45
  have ksz : (w.alloc (.cells #[.slice pR R.length cR, .slice pL L.length cL] 45)).heap.size = w.heap.size + 1 := by simp
  have HB := Lib.hid (And.intro k1 (And.intro k2 (And.intro (hT.old.keep k2) ksz)))
  clear k1 k2 hT hz hok ksz
  obtain ⟨c0, c1⟩ := row_cells HB.out.1
  go_enter Tryz.func78, Tryz.ntmps78
  go_upto_region 1 with fail
  generalize w.alloc _ = wb at *
  go_wp2_with (at_make; refine wpList_make_ints _ rfl _ _ rfl R.length rfl rfl (by omega) ?_; intro hrow hgm)
  obtain ⟨G, hG⟩ : ∃ G, w.heap.size = G := ⟨_, rfl⟩
  obtain ⟨gd, hgd⟩ : ∃ gd, wb.heap.size = gd := ⟨_, rfl⟩
  have M0 : Hid (TM w ⟨R, L, pR, cR, pL, cL⟩ G gd (iniF (ids R) z 0) (wb.alloc (.cells (Array.replicate R.length (tv 0)) 3))) := by
    refine Lib.hid ⟨?_, ?_, ?_, grown_trans HB.out.2.1 hgm, ?_⟩
    · rw [← hG]; exact kept_row HB.out.1 hgm (by simp)
    · exact (HB.out.2.2.1.keep hgm).mono (fun b hb => by have := HB.out.2.2.2; omega)
    · rw [← hgd, show clV (ids R) (iniF (ids R) z 0) = List.replicate R.length (tv 0) by rw [clV_congr (E := fun _ => 0) (fun v _ => by unfold iniF; rw [if_neg (by simp)]), clV_zero, ids_len]]
      exact hrow
    · have := HB.out.2.2.2; omega
  generalize wb.alloc _ = w1 at *
  have HG : Hid (w.heap.size = G) := Lib.hid hG
  have hgd0 : G < gd := M0.out.lt.1
  rw [hgd]
  rw [hG] at c0 c1 ⊢
  clear hrow hgm hgd hG HB c0 c1
  go_wp2_with fail
  go_loopw [6] (fun a wr => ∃ k : Nat, k ≤ R.length ∧ a = .int .i64 (k : Int) ∧ Hid (TM w ⟨R, L, pR, cR, pL, cL⟩ G gd (iniF (ids R) z k) wr)) (fun a _ => R.length - (RowKit.intOf a).toNat)
  case atStart => exact ⟨0, Nat.zero_le _, rfl, M0⟩
  case round =>
  obtain ⟨k, hk, rfl, M⟩ := hrel
  clear M0
  obtain ⟨c0, c1⟩ := row_cells M.out.gb
  by_cases hlt : k < R.length
  · obtain ⟨y, hy⟩ : ∃ y, R[k]? = some y := ⟨_, List.getElem?_eq_getElem hlt⟩
    have hyi := ids_at hy
    have HY := Lib.hid (And.intro hy hyi)
    have d0 := M.out.d.cell (clV_at (D := iniF (ids R) z k) hyi)
    have d1 := M.out.d.frozen k
    have M1 := Lib.hid (M.out.put HN.out hyi farN)
    clear hy hyi
    go_upto_region 6 with fail
    change Hid (TM w ⟨R, L, pR, cR, pL, cL⟩ G gd _ (wr.setCell ⟨gd, k, none⟩ (.int .i64 1073741824))) at M1
    clear d0 d1 c0 c1
    (try rw [Nat.zero_add])
    generalize wr.setCell _ _ = wx at *
    obtain ⟨c0, c1⟩ := row_cells M1.out.gb
    obtain ⟨-, bR, oR, rfl, -, hc⟩ := rdr_cells (R := R) M1.out.t.r (by omega)
    obtain ⟨a0, a1⟩ := hc k y HY.out.1
    have hst := iniF_step (z := z) HY.out.2
    clear hc
    by_cases e : y.id = z
    · have e' : (y.id == z) = true := by simpa using e
      have d2 := M1.out.d.cell (clV_at (D := updF (iniF (ids R) z k) y.id farN) HY.out.2)
      have d3 := M1.out.d.frozen k
      have M2 : Hid (TM w ⟨R, L, some ⟨bR, oR, none⟩, cR, pL, cL⟩ G gd (iniF (ids R) z (k + 1)) (wx.setCell ⟨gd, k, none⟩ (.int .i64 0))) := by
        have h1 := M1.out.put HN.out HY.out.2 0
        rw [updF_twice, show (0 : Int) = startF z y.id by unfold startF; rw [if_pos e], hst] at h1
        rw [show startF z y.id = (0 : Int) by unfold startF; rw [if_pos e]] at h1
        exact Lib.hid h1
      clear e hst M
      go_wp2_with fail
      (try rw [Nat.zero_add])
      exact ⟨⟨k + 1, by omega, congrArg _ (by omega), M2⟩, by simp only [RowKit.intOf]; omega⟩
    · have e' : (y.id == z) = false := by simpa using e
      have M2 : Hid (TM w ⟨R, L, some ⟨bR, oR, none⟩, cR, pL, cL⟩ G gd (iniF (ids R) z (k + 1)) wx) := by
        have h1 := M1.out
        rw [show farN = startF z y.id by unfold startF; rw [if_neg e], hst] at h1
        exact Lib.hid h1
      clear e hst M
      go_wp2_with fail
      exact ⟨⟨k + 1, by omega, congrArg _ (by omega), M2⟩, by simp only [RowKit.intOf]; omega⟩
  · obtain rfl : k = R.length := by omega
    have M1 : Hid (TM w ⟨R, L, pR, cR, pL, cL⟩ G gd (toK L z 0) wr) := by
      have h1 := M.out
      have hd := h1.d
      simp only at hd
      rw [← ids_len R, iniF_end] at hd
      exact Lib.hid ⟨h1.gb, h1.t, hd, h1.gr, h1.lt⟩
    clear M c0 c1
    go_wp2_with fail
    go_loopw [7] (fun a wr => ∃ k : Nat, k ≤ R.length ∧ a = .int .i64 (k : Int) ∧ Hid (TM w ⟨R, L, pR, cR, pL, cL⟩ G gd (toK L z k) wr)) (fun a _ => R.length - (RowKit.intOf a).toNat)
    case atStart => exact ⟨0, Nat.zero_le _, rfl, M1⟩
    case round =>
    obtain ⟨w5, rfl⟩ : ∃ w5, w5 = wr := ⟨_, rfl⟩
    obtain ⟨k, hk, rfl, M⟩ := hrel
    clear M1
    by_cases hlt : k < R.length
    · have J0 : Hid (TM w ⟨R, L, pR, cR, pL, cL⟩ G gd (toJ L z k 0) w5) := M
      clear M
      go_wp2_with fail
      go_loopw [8] (fun a wr => ∃ j : Nat, j ≤ L.length ∧ a = .int .i64 (j : Int) ∧ Hid (TM w ⟨R, L, pR, cR, pL, cL⟩ G gd (toJ L z k j) wr)) (fun a _ => L.length - (RowKit.intOf a).toNat)
      case atStart => exact ⟨0, Nat.zero_le _, rfl, J0⟩
      case round =>
      obtain ⟨j, hj, rfl, M⟩ := hrel
      clear J0
      obtain ⟨c0, c1⟩ := row_cells M.out.gb
      by_cases hltj : j < L.length
      · obtain ⟨l, hl⟩ : ∃ l, L[j]? = some l := ⟨_, List.getElem?_eq_getElem hltj⟩
        obtain ⟨-, bL, oL, rfl, -, hc⟩ := rdl_cells (L := L) M.out.t.l (by omega)
        obtain ⟨a0, a1, a2, a3, a4⟩ := hc j l hl
        have hends := (okT_g HOK.out).ends l (List.mem_of_getElem? hl)
        obtain ⟨ia, hia⟩ := List.mem_iff_getElem?.1 hends.1
        obtain ⟨ib, hib⟩ := List.mem_iff_getElem?.1 hends.2
        have hpo := (okT_g HOK.out).pos l (List.mem_of_getElem? hl)
        have hle := (okT_g HOK.out).le l (List.mem_of_getElem? hl)
        have HST := Lib.hid (toJ_step (z := z) (k := k) hl)
        have HIA := Lib.hid (And.intro hia hib)
        have hia2 : ia < R.length := by have := (List.getElem?_eq_some_iff.1 hia).1; rwa [ids_len] at this
        have hib2 : ib < R.length := by have := (List.getElem?_eq_some_iff.1 hib).1; rwa [ids_len] at this
        have HDB := Lib.hid (toJ_bd HOK.out z k j)
        obtain ⟨D, hD⟩ : ∃ D, toJ L z k j = D := ⟨_, rfl⟩
        rw [hD] at M HST HDB
        clear hc hends hia hib hl hD
        have HBX := Lib.hid (heap_alloc_new wr (.cells #[.int .i64 l.a, .int .i64 l.b, .int .i64 l.ca, .int .i64 l.cb, .int .i64 l.cp] 94))
        have HGA := Lib.hid (World.grownBy_alloc wr (.cells #[.int .i64 l.a, .int .i64 l.b, .int .i64 l.ca, .int .i64 l.cb, .int .i64 l.cp] 94) none)
        go_upto_region 15 with fail
        have hgl : gd < wr.heap.size := M.out.d.lt
        obtain ⟨gl, hgl0⟩ : ∃ gl, wr.heap.size = gl := ⟨_, rfl⟩
        generalize wr.alloc _ = wy at *
        rw [hgl0] at HBX hgl ⊢
        have MY := Lib.hid (M.out.keep HGA.out)
        have HBL : Hid (BxL gl l wy) := HBX
        clear HGA HBX M hgl0 a0 a1 a2 a3 a4 c0 c1
        refine wp_region_held_drew (S := fun w' => Hid (wy.grownBy w' none)) (by kernel_rfl) (Lib.hid (grown_drew (grown_refl _ _))) (fun hHeld => ?_)
        refine wpAnyH_take (i := 0) (oi := { dst := some 54, op := Op.load 45 (Operand.tmp 2), type := 45, pos := "ref.go:25", after := #[], guard := none }) (v := ?_) rfl (by kernel_rfl) (by kernel_rfl) (by kernel_rfl) (fun _ _ _ h => h) (Or.inl ⟨by rfl, ?_⟩) hHeld ?_
        rotate_left 1
        · intro u hSu
          obtain ⟨q0, q1⟩ := row_cells (kept_row MY.out.gb hSu.out (by simp))
          obtain ⟨b0, b1, b2, b3⟩ := (show BxL gl l u from kept_row HBL.out hSu.out (by simp)).at1_
          go_simp
          first | done | with_reducible rfl
        (try simp only [Act.put, List.setIfInBounds_toArray, List.set_cons_zero, List.set_cons_succ])
        refine wpAnyH_take (i := 1) (oi := { dst := some 55, op := Op.fieldAddr 94 (Operand.tmp 9) 0, type := 0, pos := "ref.go:25", after := #[], guard := none }) (v := ?_) rfl (by kernel_rfl) (by kernel_rfl) (by kernel_rfl) (fun _ _ _ h => h) (Or.inl ⟨by rfl, ?_⟩) hHeld ?_
        rotate_left 1
        · intro u hSu
          obtain ⟨q0, q1⟩ := row_cells (kept_row MY.out.gb hSu.out (by simp))
          obtain ⟨b0, b1, b2, b3⟩ := (show BxL gl l u from kept_row HBL.out hSu.out (by simp)).at1_
          go_simp
          first | done | with_reducible rfl
        (try simp only [Act.put, List.setIfInBounds_toArray, List.set_cons_zero, List.set_cons_succ])
        refine wpAnyH_take (i := 2) (oi := { dst := some 56, op := Op.load 3 (Operand.tmp 55), type := 3, pos := "ref.go:25", after := #[{ on := 1, ground := Ground.data }], guard := none }) (v := ?_) rfl (by kernel_rfl) (by kernel_rfl) (by kernel_rfl) (fun _ _ _ h => h) (Or.inl ⟨by rfl, ?_⟩) hHeld ?_
        rotate_left 1
        · intro u hSu
          obtain ⟨q0, q1⟩ := row_cells (kept_row MY.out.gb hSu.out (by simp))
          obtain ⟨b0, b1, b2, b3⟩ := (show BxL gl l u from kept_row HBL.out hSu.out (by simp)).at1_
          go_simp
          first | done | with_reducible rfl
        (try simp only [Act.put, List.setIfInBounds_toArray, List.set_cons_zero, List.set_cons_succ])
        refine wpAnyH_take (i := 4) (oi := { dst := some 58, op := Op.load 45 (Operand.tmp 2), type := 45, pos := "ref.go:25", after := #[], guard := none }) (v := ?_) rfl (by kernel_rfl) (by kernel_rfl) (by kernel_rfl) (fun _ _ _ h => h) (Or.inl ⟨by rfl, ?_⟩) hHeld ?_
        rotate_left 1
        · intro u hSu
          obtain ⟨q0, q1⟩ := row_cells (kept_row MY.out.gb hSu.out (by simp))
          obtain ⟨b0, b1, b2, b3⟩ := (show BxL gl l u from kept_row HBL.out hSu.out (by simp)).at1_
          go_simp
          first | done | with_reducible rfl
        (try simp only [Act.put, List.setIfInBounds_toArray, List.set_cons_zero, List.set_cons_succ])
        refine wpAnyH_take (i := 5) (oi := { dst := some 59, op := Op.fieldAddr 94 (Operand.tmp 9) 1, type := 0, pos := "ref.go:25", after := #[], guard := none }) (v := ?_) rfl (by kernel_rfl) (by kernel_rfl) (by kernel_rfl) (fun _ _ _ h => h) (Or.inl ⟨by rfl, ?_⟩) hHeld ?_
        rotate_left 1
        · intro u hSu
          obtain ⟨q0, q1⟩ := row_cells (kept_row MY.out.gb hSu.out (by simp))
          obtain ⟨b0, b1, b2, b3⟩ := (show BxL gl l u from kept_row HBL.out hSu.out (by simp)).at1_
          go_simp
          first | done | with_reducible rfl
        (try simp only [Act.put, List.setIfInBounds_toArray, List.set_cons_zero, List.set_cons_succ])
        refine wpAnyH_take (i := 6) (oi := { dst := some 60, op := Op.load 3 (Operand.tmp 59), type := 3, pos := "ref.go:25", after := #[{ on := 5, ground := Ground.data }], guard := none }) (v := ?_) rfl (by kernel_rfl) (by kernel_rfl) (by kernel_rfl) (fun _ _ _ h => h) (Or.inl ⟨by rfl, ?_⟩) hHeld ?_
        rotate_left 1
        · intro u hSu
          obtain ⟨q0, q1⟩ := row_cells (kept_row MY.out.gb hSu.out (by simp))
          obtain ⟨b0, b1, b2, b3⟩ := (show BxL gl l u from kept_row HBL.out hSu.out (by simp)).at1_
          go_simp
          first | done | with_reducible rfl
        (try simp only [Act.put, List.setIfInBounds_toArray, List.set_cons_zero, List.set_cons_succ])
        refine wpAnyH_ready (rs := [3]) (by kernel_rfl) (by simp) ?_
        refine AllReadyH.cons (o := { dst := some 57, op := Op.call { callee := Callee.value (Operand.func 109), args := #[Operand.tmp 54, Operand.tmp 56], argTypes := #[45, 3] }, type := 3, pos := "ref.go:25", after := #[{ on := 0, ground := Ground.data }, { on := 2, ground := Ground.data }], guard := none }) rfl (fun Kz hK => ?_) AllReadyH.nil
        go_simp
        go_at_call 109
        refine (rplace_any ⟨R, L, pR, cR, some ⟨bL, oL, none⟩, cL⟩ l.a ia _ _ (MY.out.keep hHeld.out).t HIA.out.1 HN.out).mono ?_
        rintro e wp1 ⟨rfl, hgp⟩
        refine hK.out _ _ (Lib.hid (grown_trans hHeld.out hgp)) (fun hH2 => ?_)
        clear hK Kz hHeld
        have hHeld := hH2
        clear hH2
        (try simp only [Act.put, List.setIfInBounds_toArray, List.set_cons_zero, List.set_cons_succ])
        refine wpAnyH_ready (rs := [7]) (by kernel_rfl) (by simp) ?_
        refine AllReadyH.cons (o := { dst := some 61, op := Op.call { callee := Callee.value (Operand.func 109), args := #[Operand.tmp 58, Operand.tmp 60], argTypes := #[45, 3] }, type := 3, pos := "ref.go:25", after := #[{ on := 4, ground := Ground.data }, { on := 6, ground := Ground.data }, { on := 3, ground := Ground.chain }], guard := none }) rfl (fun Kz hK => ?_) AllReadyH.nil
        go_simp
        go_at_call 109
        refine (rplace_any ⟨R, L, pR, cR, some ⟨bL, oL, none⟩, cL⟩ l.b ib _ _ (MY.out.keep hHeld.out).t HIA.out.2 HN.out).mono ?_
        rintro e wp2 ⟨rfl, hgp⟩
        refine hK.out _ _ (Lib.hid (grown_trans hHeld.out hgp)) (fun hH2 => ?_)
        clear hK Kz hHeld
        have hHeld := hH2
        clear hH2
        (try simp only [Act.put, List.setIfInBounds_toArray, List.set_cons_zero, List.set_cons_succ])
        refine wpAnyH_take (i := 8) (oi := { dst := some 10, op := Op.assign (Operand.tmp 57), type := 3, pos := "ref.go:25", after := #[{ on := 3, ground := Ground.data }, { on := 7, ground := Ground.chain }, { on := 0, ground := Ground.phase }, { on := 1, ground := Ground.phase }, { on := 2, ground := Ground.phase }, { on := 3, ground := Ground.phase }, { on := 4, ground := Ground.textOnly Departure.lateStores }, { on := 5, ground := Ground.textOnly Departure.lateStores }, { on := 6, ground := Ground.textOnly Departure.lateStores }, { on := 7, ground := Ground.textOnly Departure.lateStoresUnsure }], guard := none }) (v := ?_) rfl (by kernel_rfl) (by kernel_rfl) (by kernel_rfl) (fun _ _ _ h => h) (Or.inl ⟨by rfl, ?_⟩) hHeld ?_
        rotate_left 1
        · intro u hSu
          obtain ⟨q0, q1⟩ := row_cells (kept_row MY.out.gb hSu.out (by simp))
          obtain ⟨b0, b1, b2, b3⟩ := (show BxL gl l u from kept_row HBL.out hSu.out (by simp)).at1_
          go_simp
          first | done | with_reducible rfl
        (try simp only [Act.put, List.setIfInBounds_toArray, List.set_cons_zero, List.set_cons_succ])
        refine wpAnyH_take (i := 9) (oi := { dst := some 11, op := Op.assign (Operand.tmp 61), type := 3, pos := "ref.go:25", after := #[{ on := 7, ground := Ground.data }, { on := 8, ground := Ground.chain }, { on := 0, ground := Ground.phase }, { on := 1, ground := Ground.phase }, { on := 2, ground := Ground.phase }, { on := 3, ground := Ground.phase }, { on := 4, ground := Ground.phase }, { on := 5, ground := Ground.phase }, { on := 6, ground := Ground.phase }, { on := 7, ground := Ground.phase }, { on := 8, ground := Ground.phase }], guard := none }) (v := ?_) rfl (by kernel_rfl) (by kernel_rfl) (by kernel_rfl) (fun _ _ _ h => h) (Or.inl ⟨by rfl, ?_⟩) hHeld ?_
        rotate_left 1
        · intro u hSu
          obtain ⟨q0, q1⟩ := row_cells (kept_row MY.out.gb hSu.out (by simp))
          obtain ⟨b0, b1, b2, b3⟩ := (show BxL gl l u from kept_row HBL.out hSu.out (by simp)).at1_
          go_simp
          first | done | with_reducible rfl
        (try simp only [Act.put, List.setIfInBounds_toArray, List.set_cons_zero, List.set_cons_succ])
        refine wpAnyH_done (by kernel_rfl) ?_ _
        have MZ := Lib.hid (MY.out.keep hHeld.out)
        have HBZ : Hid (BxL gl l wp2) := Lib.hid (kept_row HBL.out hHeld.out (by simp))
        obtain ⟨wz, hwz⟩ : ∃ wz, wz = wp2 := ⟨_, rfl⟩
        rw [← hwz] at MZ HBZ ⊢
        clear hHeld hwz MY HBL
        have d0 : wz.cell? ⟨gd, ib, none⟩ = some (.int .i64 (D l.b)) := MZ.out.d.cell (clV_at (D := D) HIA.out.2)
        go_upto_if 66 with fail
        go_cut [] from 62 to 81 (fun wx => Hid (TM w ⟨R, L, pR, cR, some ⟨bL, oL, none⟩, cL⟩ G gd (rlx1 D l.b l.a l.ca) wx) ∧ Hid (BxL gl l wx))
        case first =>
          by_cases hf : D l.b < farN
          · have hf2 : D l.b < 1073741824 := hf
            have HE : Hid (rlx1 D l.b l.a l.ca = updF D l.a (min (D l.a) (l.ca + D l.b))) := Lib.hid (by unfold rlx1; rw [if_pos hf])
            have hba := HDB.out l.a
            have hbb := HDB.out l.b
            clear hf
            go_upto_region 17 with fail
            refine region_until (S := fun w' => Hid (TM w ⟨R, L, pR, cR, some ⟨bL, oL, none⟩, cL⟩ G gd D w' ∧ BxL gl l w')) (fun j => j == 15) (by kernel_rfl) (Lib.hid ⟨MZ.out.keep (grown_drew (grown_refl _ _)), kept_row (r := none) HBZ.out (grown_drew (grown_refl _ _)) (by simp)⟩) (fun hHeld => ?_)
            refine anyU_take (i := 0) (oi := { dst := some 67, op := Op.move (Operand.tmp 5), type := 22, pos := "ref.go:27", after := #[], guard := none }) (v := ?_) rfl (by kernel_rfl) (by kernel_rfl) (by kernel_rfl) (by kernel_rfl) (by kernel_rfl) (fun _ _ _ h => h) (Or.inl ⟨by rfl, ?_⟩) hHeld ?_
            rotate_left 1
            · intro u hSu
              have e0 : u.cell? ⟨gd, ia, none⟩ = some (.int .i64 (D l.a)) := hSu.out.1.d.cell (clV_at (D := D) HIA.out.1)
              have e1 : u.cell? ⟨gd, ib, none⟩ = some (.int .i64 (D l.b)) := hSu.out.1.d.cell (clV_at (D := D) HIA.out.2)
              obtain ⟨b0, b1, b2, b3⟩ := hSu.out.2.at1_
              go_simp
              first | done | with_reducible rfl
            (try simp only [Act.put, List.setIfInBounds_toArray, List.set_cons_zero, List.set_cons_succ])
            refine anyU_take (i := 1) (oi := { dst := some 68, op := Op.move (Operand.tmp 10), type := 3, pos := "ref.go:27", after := #[], guard := none }) (v := ?_) rfl (by kernel_rfl) (by kernel_rfl) (by kernel_rfl) (by kernel_rfl) (by kernel_rfl) (fun _ _ _ h => h) (Or.inl ⟨by rfl, ?_⟩) hHeld ?_
            rotate_left 1
            · intro u hSu
              have e0 : u.cell? ⟨gd, ia, none⟩ = some (.int .i64 (D l.a)) := hSu.out.1.d.cell (clV_at (D := D) HIA.out.1)
              have e1 : u.cell? ⟨gd, ib, none⟩ = some (.int .i64 (D l.b)) := hSu.out.1.d.cell (clV_at (D := D) HIA.out.2)
              obtain ⟨b0, b1, b2, b3⟩ := hSu.out.2.at1_
              go_simp
              first | done | with_reducible rfl
            (try simp only [Act.put, List.setIfInBounds_toArray, List.set_cons_zero, List.set_cons_succ])
            refine anyU_take (i := 2) (oi := { dst := some 69, op := Op.move (Operand.tmp 5), type := 22, pos := "ref.go:27", after := #[], guard := none }) (v := ?_) rfl (by kernel_rfl) (by kernel_rfl) (by kernel_rfl) (by kernel_rfl) (by kernel_rfl) (fun _ _ _ h => h) (Or.inl ⟨by rfl, ?_⟩) hHeld ?_
            rotate_left 1
            · intro u hSu
              have e0 : u.cell? ⟨gd, ia, none⟩ = some (.int .i64 (D l.a)) := hSu.out.1.d.cell (clV_at (D := D) HIA.out.1)
              have e1 : u.cell? ⟨gd, ib, none⟩ = some (.int .i64 (D l.b)) := hSu.out.1.d.cell (clV_at (D := D) HIA.out.2)
              obtain ⟨b0, b1, b2, b3⟩ := hSu.out.2.at1_
              go_simp
              first | done | with_reducible rfl
            (try simp only [Act.put, List.setIfInBounds_toArray, List.set_cons_zero, List.set_cons_succ])
            refine anyU_take (i := 3) (oi := { dst := some 70, op := Op.move (Operand.tmp 10), type := 3, pos := "ref.go:27", after := #[], guard := none }) (v := ?_) rfl (by kernel_rfl) (by kernel_rfl) (by kernel_rfl) (by kernel_rfl) (by kernel_rfl) (fun _ _ _ h => h) (Or.inl ⟨by rfl, ?_⟩) hHeld ?_
            rotate_left 1
            · intro u hSu
              have e0 : u.cell? ⟨gd, ia, none⟩ = some (.int .i64 (D l.a)) := hSu.out.1.d.cell (clV_at (D := D) HIA.out.1)
              have e1 : u.cell? ⟨gd, ib, none⟩ = some (.int .i64 (D l.b)) := hSu.out.1.d.cell (clV_at (D := D) HIA.out.2)
              obtain ⟨b0, b1, b2, b3⟩ := hSu.out.2.at1_
              go_simp
              first | done | with_reducible rfl
            (try simp only [Act.put, List.setIfInBounds_toArray, List.set_cons_zero, List.set_cons_succ])
            refine anyU_take (i := 4) (oi := { dst := some 71, op := Op.indexAddr 22 (Operand.tmp 69) (Operand.tmp 70), type := 0, pos := "ref.go:27", after := #[{ on := 2, ground := Ground.data }, { on := 3, ground := Ground.data }], guard := none }) (v := ?_) rfl (by kernel_rfl) (by kernel_rfl) (by kernel_rfl) (by kernel_rfl) (by kernel_rfl) (fun _ _ _ h => h) (Or.inl ⟨by rfl, ?_⟩) hHeld ?_
            rotate_left 1
            · intro u hSu
              have e0 : u.cell? ⟨gd, ia, none⟩ = some (.int .i64 (D l.a)) := hSu.out.1.d.cell (clV_at (D := D) HIA.out.1)
              have e1 : u.cell? ⟨gd, ib, none⟩ = some (.int .i64 (D l.b)) := hSu.out.1.d.cell (clV_at (D := D) HIA.out.2)
              obtain ⟨b0, b1, b2, b3⟩ := hSu.out.2.at1_
              go_simp
              first | done | with_reducible rfl
            (try simp only [Act.put, List.setIfInBounds_toArray, List.set_cons_zero, List.set_cons_succ])
            refine anyU_take (i := 5) (oi := { dst := some 72, op := Op.load 3 (Operand.tmp 71), type := 3, pos := "ref.go:27", after := #[{ on := 4, ground := Ground.data }], guard := none }) (v := ?_) rfl (by kernel_rfl) (by kernel_rfl) (by kernel_rfl) (by kernel_rfl) (by kernel_rfl) (fun _ _ _ h => h) (Or.inl ⟨by rfl, ?_⟩) hHeld ?_
            rotate_left 1
            · intro u hSu
              have e0 : u.cell? ⟨gd, ia, none⟩ = some (.int .i64 (D l.a)) := hSu.out.1.d.cell (clV_at (D := D) HIA.out.1)
              have e1 : u.cell? ⟨gd, ib, none⟩ = some (.int .i64 (D l.b)) := hSu.out.1.d.cell (clV_at (D := D) HIA.out.2)
              obtain ⟨b0, b1, b2, b3⟩ := hSu.out.2.at1_
              go_simp
              first | done | with_reducible rfl
            (try simp only [Act.put, List.setIfInBounds_toArray, List.set_cons_zero, List.set_cons_succ])
            refine anyU_take (i := 6) (oi := { dst := some 73, op := Op.fieldAddr 94 (Operand.tmp 9) 2, type := 0, pos := "ref.go:27", after := #[], guard := none }) (v := ?_) rfl (by kernel_rfl) (by kernel_rfl) (by kernel_rfl) (by kernel_rfl) (by kernel_rfl) (fun _ _ _ h => h) (Or.inl ⟨by rfl, ?_⟩) hHeld ?_
            rotate_left 1
            · intro u hSu
              have e0 : u.cell? ⟨gd, ia, none⟩ = some (.int .i64 (D l.a)) := hSu.out.1.d.cell (clV_at (D := D) HIA.out.1)
              have e1 : u.cell? ⟨gd, ib, none⟩ = some (.int .i64 (D l.b)) := hSu.out.1.d.cell (clV_at (D := D) HIA.out.2)
              obtain ⟨b0, b1, b2, b3⟩ := hSu.out.2.at1_
              go_simp
              first | done | with_reducible rfl
            (try simp only [Act.put, List.setIfInBounds_toArray, List.set_cons_zero, List.set_cons_succ])
            refine anyU_take (i := 7) (oi := { dst := some 74, op := Op.load 3 (Operand.tmp 73), type := 3, pos := "ref.go:27", after := #[{ on := 6, ground := Ground.data }], guard := none }) (v := ?_) rfl (by kernel_rfl) (by kernel_rfl) (by kernel_rfl) (by kernel_rfl) (by kernel_rfl) (fun _ _ _ h => h) (Or.inl ⟨by rfl, ?_⟩) hHeld ?_
            rotate_left 1
            · intro u hSu
              have e0 : u.cell? ⟨gd, ia, none⟩ = some (.int .i64 (D l.a)) := hSu.out.1.d.cell (clV_at (D := D) HIA.out.1)
              have e1 : u.cell? ⟨gd, ib, none⟩ = some (.int .i64 (D l.b)) := hSu.out.1.d.cell (clV_at (D := D) HIA.out.2)
              obtain ⟨b0, b1, b2, b3⟩ := hSu.out.2.at1_
              go_simp
              first | done | with_reducible rfl
            (try simp only [Act.put, List.setIfInBounds_toArray, List.set_cons_zero, List.set_cons_succ])
            refine anyU_take (i := 8) (oi := { dst := some 75, op := Op.move (Operand.tmp 5), type := 22, pos := "ref.go:27", after := #[], guard := none }) (v := ?_) rfl (by kernel_rfl) (by kernel_rfl) (by kernel_rfl) (by kernel_rfl) (by kernel_rfl) (fun _ _ _ h => h) (Or.inl ⟨by rfl, ?_⟩) hHeld ?_
            rotate_left 1
            · intro u hSu
              have e0 : u.cell? ⟨gd, ia, none⟩ = some (.int .i64 (D l.a)) := hSu.out.1.d.cell (clV_at (D := D) HIA.out.1)
              have e1 : u.cell? ⟨gd, ib, none⟩ = some (.int .i64 (D l.b)) := hSu.out.1.d.cell (clV_at (D := D) HIA.out.2)
              obtain ⟨b0, b1, b2, b3⟩ := hSu.out.2.at1_
              go_simp
              first | done | with_reducible rfl
            (try simp only [Act.put, List.setIfInBounds_toArray, List.set_cons_zero, List.set_cons_succ])
            refine anyU_take (i := 9) (oi := { dst := some 76, op := Op.move (Operand.tmp 11), type := 3, pos := "ref.go:27", after := #[], guard := none }) (v := ?_) rfl (by kernel_rfl) (by kernel_rfl) (by kernel_rfl) (by kernel_rfl) (by kernel_rfl) (fun _ _ _ h => h) (Or.inl ⟨by rfl, ?_⟩) hHeld ?_
            rotate_left 1
            · intro u hSu
              have e0 : u.cell? ⟨gd, ia, none⟩ = some (.int .i64 (D l.a)) := hSu.out.1.d.cell (clV_at (D := D) HIA.out.1)
              have e1 : u.cell? ⟨gd, ib, none⟩ = some (.int .i64 (D l.b)) := hSu.out.1.d.cell (clV_at (D := D) HIA.out.2)
              obtain ⟨b0, b1, b2, b3⟩ := hSu.out.2.at1_
              go_simp
              first | done | with_reducible rfl
            (try simp only [Act.put, List.setIfInBounds_toArray, List.set_cons_zero, List.set_cons_succ])
            refine anyU_take (i := 10) (oi := { dst := some 77, op := Op.indexAddr 22 (Operand.tmp 75) (Operand.tmp 76), type := 0, pos := "ref.go:27", after := #[{ on := 8, ground := Ground.data }, { on := 9, ground := Ground.data }], guard := none }) (v := ?_) rfl (by kernel_rfl) (by kernel_rfl) (by kernel_rfl) (by kernel_rfl) (by kernel_rfl) (fun _ _ _ h => h) (Or.inl ⟨by rfl, ?_⟩) hHeld ?_
            rotate_left 1
            · intro u hSu
              have e0 : u.cell? ⟨gd, ia, none⟩ = some (.int .i64 (D l.a)) := hSu.out.1.d.cell (clV_at (D := D) HIA.out.1)
              have e1 : u.cell? ⟨gd, ib, none⟩ = some (.int .i64 (D l.b)) := hSu.out.1.d.cell (clV_at (D := D) HIA.out.2)
              obtain ⟨b0, b1, b2, b3⟩ := hSu.out.2.at1_
              go_simp
              first | done | with_reducible rfl
            (try simp only [Act.put, List.setIfInBounds_toArray, List.set_cons_zero, List.set_cons_succ])
            refine anyU_take (i := 11) (oi := { dst := some 78, op := Op.load 3 (Operand.tmp 77), type := 3, pos := "ref.go:27", after := #[{ on := 10, ground := Ground.data }], guard := none }) (v := ?_) rfl (by kernel_rfl) (by kernel_rfl) (by kernel_rfl) (by kernel_rfl) (by kernel_rfl) (fun _ _ _ h => h) (Or.inl ⟨by rfl, ?_⟩) hHeld ?_
            rotate_left 1
            · intro u hSu
              have e0 : u.cell? ⟨gd, ia, none⟩ = some (.int .i64 (D l.a)) := hSu.out.1.d.cell (clV_at (D := D) HIA.out.1)
              have e1 : u.cell? ⟨gd, ib, none⟩ = some (.int .i64 (D l.b)) := hSu.out.1.d.cell (clV_at (D := D) HIA.out.2)
              obtain ⟨b0, b1, b2, b3⟩ := hSu.out.2.at1_
              go_simp
              first | done | with_reducible rfl
            (try simp only [Act.put, List.setIfInBounds_toArray, List.set_cons_zero, List.set_cons_succ])
            refine anyU_take (i := 12) (oi := { dst := some 79, op := Op.binOp BinOp.add 3 (Operand.tmp 74) (Operand.tmp 78) 3, type := 3, pos := "ref.go:27", after := #[{ on := 7, ground := Ground.data }, { on := 11, ground := Ground.data }], guard := none }) (v := (.int .i64 (l.ca + D l.b))) rfl (by kernel_rfl) (by kernel_rfl) (by kernel_rfl) (by kernel_rfl) (by kernel_rfl) (fun _ _ _ h => h) (Or.inl ⟨by rfl, ?_⟩) hHeld ?_
            · intro u hSu
              have e0 : u.cell? ⟨gd, ia, none⟩ = some (.int .i64 (D l.a)) := hSu.out.1.d.cell (clV_at (D := D) HIA.out.1)
              have e1 : u.cell? ⟨gd, ib, none⟩ = some (.int .i64 (D l.b)) := hSu.out.1.d.cell (clV_at (D := D) HIA.out.2)
              obtain ⟨b0, b1, b2, b3⟩ := hSu.out.2.at1_
              go_simp
              first | done | exact Go.IntWalk.i64_in _ (by unfold farN at *; omega) | (unfold farN at *; omega)
            (try simp only [Act.put, List.setIfInBounds_toArray, List.set_cons_zero, List.set_cons_succ])
            refine anyU_take (i := 13) (oi := { dst := some 80, op := Op.call { callee := Callee.builtin Builtin.min, args := #[Operand.tmp 72, Operand.tmp 79], argTypes := #[3, 3] }, type := 3, pos := "ref.go:27", after := #[{ on := 5, ground := Ground.data }, { on := 12, ground := Ground.data }], guard := none }) (v := (.int .i64 (min (D l.a) (l.ca + D l.b)))) rfl (by kernel_rfl) (by kernel_rfl) (by kernel_rfl) (by kernel_rfl) (by kernel_rfl) (fun _ _ _ h => h) (Or.inl ⟨by rfl, ?_⟩) hHeld ?_
            · intro u hSu
              have e0 : u.cell? ⟨gd, ia, none⟩ = some (.int .i64 (D l.a)) := hSu.out.1.d.cell (clV_at (D := D) HIA.out.1)
              have e1 : u.cell? ⟨gd, ib, none⟩ = some (.int .i64 (D l.b)) := hSu.out.1.d.cell (clV_at (D := D) HIA.out.2)
              obtain ⟨b0, b1, b2, b3⟩ := hSu.out.2.at1_
              go_simp
              all_goals (rw [Int.min_def]; split <;> split <;> omega)
            (try simp only [Act.put, List.setIfInBounds_toArray, List.set_cons_zero, List.set_cons_succ])
            refine anyU_take (i := 14) (oi := { dst := some 81, op := Op.indexAddr 22 (Operand.tmp 67) (Operand.tmp 68), type := 0, pos := "ref.go:27", after := #[{ on := 0, ground := Ground.data }, { on := 1, ground := Ground.data }, { on := 0, ground := Ground.phase }, { on := 1, ground := Ground.phase }, { on := 2, ground := Ground.phase }, { on := 3, ground := Ground.phase }, { on := 4, ground := Ground.phase }, { on := 5, ground := Ground.phase }, { on := 6, ground := Ground.phase }, { on := 7, ground := Ground.phase }, { on := 8, ground := Ground.phase }, { on := 9, ground := Ground.phase }, { on := 10, ground := Ground.phase }, { on := 11, ground := Ground.phase }, { on := 12, ground := Ground.phase }, { on := 13, ground := Ground.phase }], guard := none }) (v := ?_) rfl (by kernel_rfl) (by kernel_rfl) (by kernel_rfl) (by kernel_rfl) (by kernel_rfl) (fun _ _ _ h => h) (Or.inl ⟨by rfl, ?_⟩) hHeld ?_
            rotate_left 1
            · intro u hSu
              have e0 : u.cell? ⟨gd, ia, none⟩ = some (.int .i64 (D l.a)) := hSu.out.1.d.cell (clV_at (D := D) HIA.out.1)
              have e1 : u.cell? ⟨gd, ib, none⟩ = some (.int .i64 (D l.b)) := hSu.out.1.d.cell (clV_at (D := D) HIA.out.2)
              obtain ⟨b0, b1, b2, b3⟩ := hSu.out.2.at1_
              go_simp
              first | done | with_reducible rfl
            (try simp only [Act.put, List.setIfInBounds_toArray, List.set_cons_zero, List.set_cons_succ])
            refine anyU_ready (rs := [15]) (by kernel_rfl) (by simp) ?_
            refine EachU.cons (o := { dst := none, op := Op.store 3 (Operand.tmp 81) (Operand.tmp 80), type := 0, pos := "ref.go:27", after := #[{ on := 14, ground := Ground.data }, { on := 13, ground := Ground.data }, { on := 0, ground := Ground.phase }, { on := 1, ground := Ground.phase }, { on := 2, ground := Ground.phase }, { on := 3, ground := Ground.phase }, { on := 4, ground := Ground.phase }, { on := 5, ground := Ground.phase }, { on := 6, ground := Ground.phase }, { on := 7, ground := Ground.phase }, { on := 8, ground := Ground.phase }, { on := 9, ground := Ground.phase }, { on := 10, ground := Ground.phase }, { on := 11, ground := Ground.phase }, { on := 12, ground := Ground.phase }, { on := 13, ground := Ground.phase }], guard := none }) rfl (fun Kz hK => ?_) EachU.nil
            have H9 := hHeld
            have e9 := H9.out.1.d.cell (clV_at (D := D) HIA.out.1)
            have f9 := H9.out.1.d.frozen ia
            go_simp
            refine hK.out _ _ (fun h => by cases h) (fun _ => ?_)
            clear hK Kz
            (try simp only [Act.put, List.setIfInBounds_toArray, List.set_cons_zero, List.set_cons_succ])
            refine anyU_done (by kernel_rfl) ?_ _
            clear hHeld
            have M9 := Lib.hid (H9.out.1.put HN.out HIA.out.1 (min (D l.a) (l.ca + D l.b)))
            have HB9 : Hid (BxL gl l _) := Lib.hid (kept_row H9.out.2 (grown_setCell _ ⟨gd, ia, none⟩ (tv (min (D l.a) (l.ca + D l.b)))) (fun e => by have := Option.some.inj e; simp only at this; omega))
            rw [← HE.out] at M9
            go_wp2_with fail
            go_meet
            exact ⟨M9, HB9⟩
          · have hf2 : ¬ D l.b < 1073741824 := hf
            have HE : Hid (rlx1 D l.b l.a l.ca = D) := Lib.hid (by unfold rlx1; rw [if_neg hf])
            clear hf
            go_wp2_with fail
            go_meet
            exact ⟨by rw [HE.out]; exact MZ, HBZ⟩
        case rest =>
          obtain ⟨w18, rfl⟩ : ∃ w18, w18 = wc := ⟨_, rfl⟩
          obtain ⟨ME, HBE⟩ := hcut
          have HEB : Hid (∀ v, 0 ≤ rlx1 D l.b l.a l.ca v ∧ rlx1 D l.b l.a l.ca v ≤ farN) := Lib.hid (rlx1_bd HDB.out (by omega))
          clear MZ HBZ d0 HDB
          obtain ⟨E, hE⟩ : ∃ E, rlx1 D l.b l.a l.ca = E := ⟨_, rfl⟩
          rw [hE] at ME HST HEB
          clear hE
          have d0 : w18.cell? ⟨gd, ia, none⟩ = some (.int .i64 (E l.a)) := ME.out.d.cell (clV_at (D := E) HIA.out.1)
          by_cases hf : E l.a < farN
          · have hf2 : E l.a < 1073741824 := hf
            have HE : Hid (rlx1 E l.a l.b l.cb = updF E l.b (min (E l.b) (l.cb + E l.a))) := Lib.hid (by unfold rlx1; rw [if_pos hf])
            have hba := HEB.out l.a
            have hbb := HEB.out l.b
            clear hf
            go_upto_region 19 with fail
            refine region_until (S := fun w' => Hid (TM w ⟨R, L, pR, cR, some ⟨bL, oL, none⟩, cL⟩ G gd E w' ∧ BxL gl l w')) (fun j => j == 15) (by kernel_rfl) (Lib.hid ⟨ME.out.keep (grown_drew (grown_refl _ _)), kept_row (r := none) HBE.out (grown_drew (grown_refl _ _)) (by simp)⟩) (fun hHeld => ?_)
            refine anyU_take (i := 0) (oi := { dst := some 87, op := Op.move (Operand.tmp 5), type := 22, pos := "ref.go:30", after := #[], guard := none }) (v := ?_) rfl (by kernel_rfl) (by kernel_rfl) (by kernel_rfl) (by kernel_rfl) (by kernel_rfl) (fun _ _ _ h => h) (Or.inl ⟨by rfl, ?_⟩) hHeld ?_
            rotate_left 1
            · intro u hSu
              have e0 : u.cell? ⟨gd, ia, none⟩ = some (.int .i64 (E l.a)) := hSu.out.1.d.cell (clV_at (D := E) HIA.out.1)
              have e1 : u.cell? ⟨gd, ib, none⟩ = some (.int .i64 (E l.b)) := hSu.out.1.d.cell (clV_at (D := E) HIA.out.2)
              obtain ⟨b0, b1, b2, b3⟩ := hSu.out.2.at1_
              go_simp
              first | done | with_reducible rfl
            (try simp only [Act.put, List.setIfInBounds_toArray, List.set_cons_zero, List.set_cons_succ])
            refine anyU_take (i := 1) (oi := { dst := some 88, op := Op.move (Operand.tmp 11), type := 3, pos := "ref.go:30", after := #[], guard := none }) (v := ?_) rfl (by kernel_rfl) (by kernel_rfl) (by kernel_rfl) (by kernel_rfl) (by kernel_rfl) (fun _ _ _ h => h) (Or.inl ⟨by rfl, ?_⟩) hHeld ?_
            rotate_left 1
            · intro u hSu
              have e0 : u.cell? ⟨gd, ia, none⟩ = some (.int .i64 (E l.a)) := hSu.out.1.d.cell (clV_at (D := E) HIA.out.1)
              have e1 : u.cell? ⟨gd, ib, none⟩ = some (.int .i64 (E l.b)) := hSu.out.1.d.cell (clV_at (D := E) HIA.out.2)
              obtain ⟨b0, b1, b2, b3⟩ := hSu.out.2.at1_
              go_simp
              first | done | with_reducible rfl
            (try simp only [Act.put, List.setIfInBounds_toArray, List.set_cons_zero, List.set_cons_succ])
            refine anyU_take (i := 2) (oi := { dst := some 89, op := Op.move (Operand.tmp 5), type := 22, pos := "ref.go:30", after := #[], guard := none }) (v := ?_) rfl (by kernel_rfl) (by kernel_rfl) (by kernel_rfl) (by kernel_rfl) (by kernel_rfl) (fun _ _ _ h => h) (Or.inl ⟨by rfl, ?_⟩) hHeld ?_
            rotate_left 1
            · intro u hSu
              have e0 : u.cell? ⟨gd, ia, none⟩ = some (.int .i64 (E l.a)) := hSu.out.1.d.cell (clV_at (D := E) HIA.out.1)
              have e1 : u.cell? ⟨gd, ib, none⟩ = some (.int .i64 (E l.b)) := hSu.out.1.d.cell (clV_at (D := E) HIA.out.2)
              obtain ⟨b0, b1, b2, b3⟩ := hSu.out.2.at1_
              go_simp
              first | done | with_reducible rfl
            (try simp only [Act.put, List.setIfInBounds_toArray, List.set_cons_zero, List.set_cons_succ])
            refine anyU_take (i := 3) (oi := { dst := some 90, op := Op.move (Operand.tmp 11), type := 3, pos := "ref.go:30", after := #[], guard := none }) (v := ?_) rfl (by kernel_rfl) (by kernel_rfl) (by kernel_rfl) (by kernel_rfl) (by kernel_rfl) (fun _ _ _ h => h) (Or.inl ⟨by rfl, ?_⟩) hHeld ?_
            rotate_left 1
            · intro u hSu
              have e0 : u.cell? ⟨gd, ia, none⟩ = some (.int .i64 (E l.a)) := hSu.out.1.d.cell (clV_at (D := E) HIA.out.1)
              have e1 : u.cell? ⟨gd, ib, none⟩ = some (.int .i64 (E l.b)) := hSu.out.1.d.cell (clV_at (D := E) HIA.out.2)
              obtain ⟨b0, b1, b2, b3⟩ := hSu.out.2.at1_
              go_simp
              first | done | with_reducible rfl
            (try simp only [Act.put, List.setIfInBounds_toArray, List.set_cons_zero, List.set_cons_succ])
            refine anyU_take (i := 4) (oi := { dst := some 91, op := Op.indexAddr 22 (Operand.tmp 89) (Operand.tmp 90), type := 0, pos := "ref.go:30", after := #[{ on := 2, ground := Ground.data }, { on := 3, ground := Ground.data }], guard := none }) (v := ?_) rfl (by kernel_rfl) (by kernel_rfl) (by kernel_rfl) (by kernel_rfl) (by kernel_rfl) (fun _ _ _ h => h) (Or.inl ⟨by rfl, ?_⟩) hHeld ?_
            rotate_left 1
            · intro u hSu
              have e0 : u.cell? ⟨gd, ia, none⟩ = some (.int .i64 (E l.a)) := hSu.out.1.d.cell (clV_at (D := E) HIA.out.1)
              have e1 : u.cell? ⟨gd, ib, none⟩ = some (.int .i64 (E l.b)) := hSu.out.1.d.cell (clV_at (D := E) HIA.out.2)
              obtain ⟨b0, b1, b2, b3⟩ := hSu.out.2.at1_
              go_simp
              first | done | with_reducible rfl
            (try simp only [Act.put, List.setIfInBounds_toArray, List.set_cons_zero, List.set_cons_succ])
            refine anyU_take (i := 5) (oi := { dst := some 92, op := Op.load 3 (Operand.tmp 91), type := 3, pos := "ref.go:30", after := #[{ on := 4, ground := Ground.data }], guard := none }) (v := ?_) rfl (by kernel_rfl) (by kernel_rfl) (by kernel_rfl) (by kernel_rfl) (by kernel_rfl) (fun _ _ _ h => h) (Or.inl ⟨by rfl, ?_⟩) hHeld ?_
            rotate_left 1
            · intro u hSu
              have e0 : u.cell? ⟨gd, ia, none⟩ = some (.int .i64 (E l.a)) := hSu.out.1.d.cell (clV_at (D := E) HIA.out.1)
              have e1 : u.cell? ⟨gd, ib, none⟩ = some (.int .i64 (E l.b)) := hSu.out.1.d.cell (clV_at (D := E) HIA.out.2)
              obtain ⟨b0, b1, b2, b3⟩ := hSu.out.2.at1_
              go_simp
              first | done | with_reducible rfl
            (try simp only [Act.put, List.setIfInBounds_toArray, List.set_cons_zero, List.set_cons_succ])
            refine anyU_take (i := 6) (oi := { dst := some 93, op := Op.fieldAddr 94 (Operand.tmp 9) 3, type := 0, pos := "ref.go:30", after := #[], guard := none }) (v := ?_) rfl (by kernel_rfl) (by kernel_rfl) (by kernel_rfl) (by kernel_rfl) (by kernel_rfl) (fun _ _ _ h => h) (Or.inl ⟨by rfl, ?_⟩) hHeld ?_
            rotate_left 1
            · intro u hSu
              have e0 : u.cell? ⟨gd, ia, none⟩ = some (.int .i64 (E l.a)) := hSu.out.1.d.cell (clV_at (D := E) HIA.out.1)
              have e1 : u.cell? ⟨gd, ib, none⟩ = some (.int .i64 (E l.b)) := hSu.out.1.d.cell (clV_at (D := E) HIA.out.2)
              obtain ⟨b0, b1, b2, b3⟩ := hSu.out.2.at1_
              go_simp
              first | done | with_reducible rfl
            (try simp only [Act.put, List.setIfInBounds_toArray, List.set_cons_zero, List.set_cons_succ])
            refine anyU_take (i := 7) (oi := { dst := some 94, op := Op.load 3 (Operand.tmp 93), type := 3, pos := "ref.go:30", after := #[{ on := 6, ground := Ground.data }], guard := none }) (v := ?_) rfl (by kernel_rfl) (by kernel_rfl) (by kernel_rfl) (by kernel_rfl) (by kernel_rfl) (fun _ _ _ h => h) (Or.inl ⟨by rfl, ?_⟩) hHeld ?_
            rotate_left 1
            · intro u hSu
              have e0 : u.cell? ⟨gd, ia, none⟩ = some (.int .i64 (E l.a)) := hSu.out.1.d.cell (clV_at (D := E) HIA.out.1)
              have e1 : u.cell? ⟨gd, ib, none⟩ = some (.int .i64 (E l.b)) := hSu.out.1.d.cell (clV_at (D := E) HIA.out.2)
              obtain ⟨b0, b1, b2, b3⟩ := hSu.out.2.at1_
              go_simp
              first | done | with_reducible rfl
            (try simp only [Act.put, List.setIfInBounds_toArray, List.set_cons_zero, List.set_cons_succ])
            refine anyU_take (i := 8) (oi := { dst := some 95, op := Op.move (Operand.tmp 5), type := 22, pos := "ref.go:30", after := #[], guard := none }) (v := ?_) rfl (by kernel_rfl) (by kernel_rfl) (by kernel_rfl) (by kernel_rfl) (by kernel_rfl) (fun _ _ _ h => h) (Or.inl ⟨by rfl, ?_⟩) hHeld ?_
            rotate_left 1
            · intro u hSu
              have e0 : u.cell? ⟨gd, ia, none⟩ = some (.int .i64 (E l.a)) := hSu.out.1.d.cell (clV_at (D := E) HIA.out.1)
              have e1 : u.cell? ⟨gd, ib, none⟩ = some (.int .i64 (E l.b)) := hSu.out.1.d.cell (clV_at (D := E) HIA.out.2)
              obtain ⟨b0, b1, b2, b3⟩ := hSu.out.2.at1_
              go_simp
              first | done | with_reducible rfl
            (try simp only [Act.put, List.setIfInBounds_toArray, List.set_cons_zero, List.set_cons_succ])
            refine anyU_take (i := 9) (oi := { dst := some 96, op := Op.move (Operand.tmp 10), type := 3, pos := "ref.go:30", after := #[], guard := none }) (v := ?_) rfl (by kernel_rfl) (by kernel_rfl) (by kernel_rfl) (by kernel_rfl) (by kernel_rfl) (fun _ _ _ h => h) (Or.inl ⟨by rfl, ?_⟩) hHeld ?_
            rotate_left 1
            · intro u hSu
              have e0 : u.cell? ⟨gd, ia, none⟩ = some (.int .i64 (E l.a)) := hSu.out.1.d.cell (clV_at (D := E) HIA.out.1)
              have e1 : u.cell? ⟨gd, ib, none⟩ = some (.int .i64 (E l.b)) := hSu.out.1.d.cell (clV_at (D := E) HIA.out.2)
              obtain ⟨b0, b1, b2, b3⟩ := hSu.out.2.at1_
              go_simp
              first | done | with_reducible rfl
            (try simp only [Act.put, List.setIfInBounds_toArray, List.set_cons_zero, List.set_cons_succ])
            refine anyU_take (i := 10) (oi := { dst := some 97, op := Op.indexAddr 22 (Operand.tmp 95) (Operand.tmp 96), type := 0, pos := "ref.go:30", after := #[{ on := 8, ground := Ground.data }, { on := 9, ground := Ground.data }], guard := none }) (v := ?_) rfl (by kernel_rfl) (by kernel_rfl) (by kernel_rfl) (by kernel_rfl) (by kernel_rfl) (fun _ _ _ h => h) (Or.inl ⟨by rfl, ?_⟩) hHeld ?_
            rotate_left 1
            · intro u hSu
              have e0 : u.cell? ⟨gd, ia, none⟩ = some (.int .i64 (E l.a)) := hSu.out.1.d.cell (clV_at (D := E) HIA.out.1)
              have e1 : u.cell? ⟨gd, ib, none⟩ = some (.int .i64 (E l.b)) := hSu.out.1.d.cell (clV_at (D := E) HIA.out.2)
              obtain ⟨b0, b1, b2, b3⟩ := hSu.out.2.at1_
              go_simp
              first | done | with_reducible rfl
            (try simp only [Act.put, List.setIfInBounds_toArray, List.set_cons_zero, List.set_cons_succ])
            refine anyU_take (i := 11) (oi := { dst := some 98, op := Op.load 3 (Operand.tmp 97), type := 3, pos := "ref.go:30", after := #[{ on := 10, ground := Ground.data }], guard := none }) (v := ?_) rfl (by kernel_rfl) (by kernel_rfl) (by kernel_rfl) (by kernel_rfl) (by kernel_rfl) (fun _ _ _ h => h) (Or.inl ⟨by rfl, ?_⟩) hHeld ?_
            rotate_left 1
            · intro u hSu
              have e0 : u.cell? ⟨gd, ia, none⟩ = some (.int .i64 (E l.a)) := hSu.out.1.d.cell (clV_at (D := E) HIA.out.1)
              have e1 : u.cell? ⟨gd, ib, none⟩ = some (.int .i64 (E l.b)) := hSu.out.1.d.cell (clV_at (D := E) HIA.out.2)
              obtain ⟨b0, b1, b2, b3⟩ := hSu.out.2.at1_
              go_simp
              first | done | with_reducible rfl
            (try simp only [Act.put, List.setIfInBounds_toArray, List.set_cons_zero, List.set_cons_succ])
            refine anyU_take (i := 12) (oi := { dst := some 99, op := Op.binOp BinOp.add 3 (Operand.tmp 94) (Operand.tmp 98) 3, type := 3, pos := "ref.go:30", after := #[{ on := 7, ground := Ground.data }, { on := 11, ground := Ground.data }], guard := none }) (v := (.int .i64 (l.cb + E l.a))) rfl (by kernel_rfl) (by kernel_rfl) (by kernel_rfl) (by kernel_rfl) (by kernel_rfl) (fun _ _ _ h => h) (Or.inl ⟨by rfl, ?_⟩) hHeld ?_
            · intro u hSu
              have e0 : u.cell? ⟨gd, ia, none⟩ = some (.int .i64 (E l.a)) := hSu.out.1.d.cell (clV_at (D := E) HIA.out.1)
              have e1 : u.cell? ⟨gd, ib, none⟩ = some (.int .i64 (E l.b)) := hSu.out.1.d.cell (clV_at (D := E) HIA.out.2)
              obtain ⟨b0, b1, b2, b3⟩ := hSu.out.2.at1_
              go_simp
              first | done | exact Go.IntWalk.i64_in _ (by unfold farN at *; omega) | (unfold farN at *; omega)
            (try simp only [Act.put, List.setIfInBounds_toArray, List.set_cons_zero, List.set_cons_succ])
            refine anyU_take (i := 13) (oi := { dst := some 100, op := Op.call { callee := Callee.builtin Builtin.min, args := #[Operand.tmp 92, Operand.tmp 99], argTypes := #[3, 3] }, type := 3, pos := "ref.go:30", after := #[{ on := 5, ground := Ground.data }, { on := 12, ground := Ground.data }], guard := none }) (v := (.int .i64 (min (E l.b) (l.cb + E l.a)))) rfl (by kernel_rfl) (by kernel_rfl) (by kernel_rfl) (by kernel_rfl) (by kernel_rfl) (fun _ _ _ h => h) (Or.inl ⟨by rfl, ?_⟩) hHeld ?_
            · intro u hSu
              have e0 : u.cell? ⟨gd, ia, none⟩ = some (.int .i64 (E l.a)) := hSu.out.1.d.cell (clV_at (D := E) HIA.out.1)
              have e1 : u.cell? ⟨gd, ib, none⟩ = some (.int .i64 (E l.b)) := hSu.out.1.d.cell (clV_at (D := E) HIA.out.2)
              obtain ⟨b0, b1, b2, b3⟩ := hSu.out.2.at1_
              go_simp
              all_goals (rw [Int.min_def]; split <;> split <;> omega)
            (try simp only [Act.put, List.setIfInBounds_toArray, List.set_cons_zero, List.set_cons_succ])
            refine anyU_take (i := 14) (oi := { dst := some 101, op := Op.indexAddr 22 (Operand.tmp 87) (Operand.tmp 88), type := 0, pos := "ref.go:30", after := #[{ on := 0, ground := Ground.data }, { on := 1, ground := Ground.data }, { on := 0, ground := Ground.phase }, { on := 1, ground := Ground.phase }, { on := 2, ground := Ground.phase }, { on := 3, ground := Ground.phase }, { on := 4, ground := Ground.phase }, { on := 5, ground := Ground.phase }, { on := 6, ground := Ground.phase }, { on := 7, ground := Ground.phase }, { on := 8, ground := Ground.phase }, { on := 9, ground := Ground.phase }, { on := 10, ground := Ground.phase }, { on := 11, ground := Ground.phase }, { on := 12, ground := Ground.phase }, { on := 13, ground := Ground.phase }], guard := none }) (v := ?_) rfl (by kernel_rfl) (by kernel_rfl) (by kernel_rfl) (by kernel_rfl) (by kernel_rfl) (fun _ _ _ h => h) (Or.inl ⟨by rfl, ?_⟩) hHeld ?_
            rotate_left 1
            · intro u hSu
              have e0 : u.cell? ⟨gd, ia, none⟩ = some (.int .i64 (E l.a)) := hSu.out.1.d.cell (clV_at (D := E) HIA.out.1)
              have e1 : u.cell? ⟨gd, ib, none⟩ = some (.int .i64 (E l.b)) := hSu.out.1.d.cell (clV_at (D := E) HIA.out.2)
              obtain ⟨b0, b1, b2, b3⟩ := hSu.out.2.at1_
              go_simp
              first | done | with_reducible rfl
            (try simp only [Act.put, List.setIfInBounds_toArray, List.set_cons_zero, List.set_cons_succ])
            refine anyU_ready (rs := [15]) (by kernel_rfl) (by simp) ?_
            refine EachU.cons (o := { dst := none, op := Op.store 3 (Operand.tmp 101) (Operand.tmp 100), type := 0, pos := "ref.go:30", after := #[{ on := 14, ground := Ground.data }, { on := 13, ground := Ground.data }, { on := 0, ground := Ground.phase }, { on := 1, ground := Ground.phase }, { on := 2, ground := Ground.phase }, { on := 3, ground := Ground.phase }, { on := 4, ground := Ground.phase }, { on := 5, ground := Ground.phase }, { on := 6, ground := Ground.phase }, { on := 7, ground := Ground.phase }, { on := 8, ground := Ground.phase }, { on := 9, ground := Ground.phase }, { on := 10, ground := Ground.phase }, { on := 11, ground := Ground.phase }, { on := 12, ground := Ground.phase }, { on := 13, ground := Ground.phase }], guard := none }) rfl (fun Kz hK => ?_) EachU.nil
            have H9 := hHeld
            have e9 := H9.out.1.d.cell (clV_at (D := E) HIA.out.2)
            have f9 := H9.out.1.d.frozen ib
            go_simp
            refine hK.out _ _ (fun h => by cases h) (fun _ => ?_)
            clear hK Kz
            (try simp only [Act.put, List.setIfInBounds_toArray, List.set_cons_zero, List.set_cons_succ])
            refine anyU_done (by kernel_rfl) ?_ _
            clear hHeld
            have M9 := Lib.hid (H9.out.1.put HN.out HIA.out.2 (min (E l.b) (l.cb + E l.a)))
            rw [← HE.out, ← HST.out] at M9
            go_wp2_with fail
            exact ⟨⟨j + 1, by omega, congrArg _ (by omega), M9⟩, by simp only [RowKit.intOf]; omega⟩
          · have hf2 : ¬ E l.a < 1073741824 := hf
            have M9 : Hid (TM w ⟨R, L, pR, cR, some ⟨bL, oL, none⟩, cL⟩ G gd (toJ L z k (j + 1)) w18) := Lib.hid (by rw [HST.out]; unfold rlx1; rw [if_neg hf]; exact ME.out)
            clear hf
            go_wp2_with fail
            exact ⟨⟨j + 1, by omega, congrArg _ (by omega), M9⟩, by simp only [RowKit.intOf]; omega⟩
      · obtain rfl : j = L.length := by omega
        have M9 : Hid (TM w ⟨R, L, pR, cR, pL, cL⟩ G gd (toK L z (k + 1)) wr) := by
          have h1 := M.out
          rw [toJ_end] at h1
          exact Lib.hid h1
        clear M
        go_wp2_with fail
        exact ⟨⟨k + 1, by omega, congrArg _ (by omega), M9⟩, by simp only [RowKit.intOf]; omega⟩
    · obtain rfl : k = R.length := by omega
      have hlen : ((ids R).map (toK L z R.length)).length = R.length := by rw [List.length_map, ids_len]
      have hrd : Rd w5 (w.heap.size ≤ ·) (.slice (some ⟨gd, 0, none⟩) ((ids R).map (toK L z R.length)).length R.length) (((ids R).map (toK L z R.length)).map tv) := by
        refine ⟨some ⟨gd, 0, none⟩, R.length, by simp only [List.length_map], fun _ => ⟨gd, 0, rfl, by have := M.out.lt; have := HG.out; show w.heap.size ≤ gd; omega, fun i x hx => ?_⟩⟩
        have h1 := M.out.d.cell (j := i) (x := x) (by unfold clV; rw [List.map_map] at hx; exact hx)
        rw [Nat.zero_add]
        exact h1
      rw [hlen] at hrd
      have H9 := Lib.hid (And.intro hrd (And.intro hlen M.out.gr))
      clear hrd hlen M
      go_wp2_with fail
      go_ret
      exact ⟨some ⟨gd, 0, none⟩, R.length, by rw [H9.out.2.1]; rfl, by rw [H9.out.2.1]; exact H9.out.1, by rw [H9.out.2.1]; exact ⟨Nat.le_refl _, by omega⟩, fun h => (by cases h), H9.out.2.2⟩
end Go.Proofs.YtahafijpcmphaaaGreat

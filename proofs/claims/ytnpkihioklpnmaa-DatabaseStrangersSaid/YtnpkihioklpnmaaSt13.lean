/- Parts of the proof, packed: DbViw, DbAwk, DbRs, DbMgM, ToSameT, DbStLaw. -/
import Derived.Test.YtnpkihioklpnmaaSt7
import Derived.Test.YtnpkihioklpnmaaSt3
import Derived.Deep.CutBlock
import Derived.Test.YtnpkihioklpnmaaSt12
import Derived.Test.YtnpkihioklpnmaaSt2
import Derived.BigQuiet
import Derived.Test.YtnpkihioklpnmaaSt8
import Derived.Deep.CutRange
/- database.View: the topology around a router. -/
namespace Go.Proofs.Ytnpkihioklpnmaa
open Go.RowKit Bs
set_option maxRecDepth 100000 in
set_option maxHeartbeats 12800000 in
theorem dview_any (l : List Ad) (r : Int) (p : Option Addr) (c : Nat) (q : Nat → Prop) (w : World) (hR : RdA w q (.slice p l.length c) l) (hm : l.length ≤ 9223372036854775807) :
    Calls Try.prog 34 #[.agg #[.slice p l.length c], .int .i64 r] w fun e w' => VwPost l r w e w' := by
  obtain ⟨ir, hir, hr0, hr1, hr2⟩ := info_parts info_rtV
  obtain ⟨il, hil, hl0, hl1, hl2⟩ := info_parts info_lkV
  obtain ⟨k1, k2, k3, -⟩ := two_boxes w #[.slice p l.length c] #[.slice none 0 0, .slice none 0 0] 25 59
  have H0 := Lib.hid (And.intro k1 (And.intro k2 (And.intro k3 ((RdA.old hR).keep k3))))
  clear k1 k2 k3 hR
  go_enter Try.func34, Try.ntmps34
  go_upto_region 1 with fail
  generalize World.alloc (w.alloc _) _ = wa at *
  have c0 : wa.cell? ⟨w.heap.size, 0, none⟩ = some (.slice p l.length c) := cell_of_row _ _ _ _ _ _ H0.out.1
  go_wp2_with fail
  refine (dvalid_any l p c _ wa H0.out.2.2.2 hm).mono ?_
  rintro e w1 ⟨rfl, hg⟩
  have H1 := Lib.hid (And.intro (kept_row H0.out.1 hg (by simp)) (And.intro (kept_row H0.out.2.1 hg (by simp)) (And.intro (grown_trans H0.out.2.2.1 hg) (H0.out.2.2.2.keep hg))))
  clear hg H0 c0
  obtain ⟨ov, hov⟩ : ∃ ov, okD l = ov := ⟨_, rfl⟩
  rw [hov]
  cases ov with
  | false =>
    have HV : Hid (viewV l r = ([], [])) := Lib.hid (by unfold viewV; rw [if_neg (by rw [hov]; decide)])
    clear hov
    have z0 := cell_of_row _ _ 0 _ _ _ H1.out.2.1
    have z1 := cell_of_row _ _ 1 _ _ _ H1.out.2.1
    have f0 := frozen_of_row _ _ 0 _ _ H1.out.2.1
    have f1 := frozen_of_row _ _ 1 _ _ H1.out.2.1
    obtain ⟨t1, t2⟩ := store2c (.slice none 0 0) (.slice none 0 0) H1.out.2.1
    have HT := Lib.hid (And.intro t1 (grown_new H1.out.2.2.1 t2 (by omega)))
    clear t1 t2 H1
    go_wp2_with fail
    refine bodyPost_ret (res_topoV rfl _ _ (w.heap.size + 1) _ _ rfl HT.out.1) rfl ?_
    exact vw_no HV.out HT.out.2
  | true =>
  have HOV : Hid (OkD l) := Lib.hid (chk_OkD (by unfold okD at hov; simpa using hov))
  have HVW : Hid (viewV l r = if chk (vwR l (reS l r)) (vwL l (reS l r)) = 0 then (vwR l (reS l r), vwL l (reS l r)) else ([], [])) := Lib.hid (by unfold viewV; rw [if_pos hov])
  have HP := Lib.hid HOV.out.pair
  have hll := HOV.out.len
  have HRNG : Hid (∀ A ∈ l, (1 ≤ A.r ∧ A.r ≤ 99) ∧ A.L.length ≤ 23) := Lib.hid (fun A hA => ⟨(VA.of (HOV.out.v A hA)).r, (VA.of (HOV.out.v A hA)).ll⟩)
  clear hov
  have c0 : w1.cell? ⟨w.heap.size, 0, none⟩ = some (.slice p l.length c) := cell_of_row _ _ _ _ _ _ H1.out.1
  go_wp2_with fail
  refine (dreached_any l r p c _ w1 H1.out.2.2.2 HOV.out).mono ?_
  rintro e w2 ⟨vm, rfl, hmv, hg⟩
  obtain ⟨S, hS⟩ : ∃ S, reS l r = S := ⟨_, rfl⟩
  rw [hS] at hmv HVW
  have g2 := grown_trans H1.out.2.2.1 hg
  have ga := World.grownBy_alloc w2 (.cells #[.slice none 0 0, .slice none 0 0] 59) none
  have hsz2 : w.heap.size + 1 < w2.heap.size := World.lt_of_row' (kept_row H1.out.2.1 hg (by simp))
  have hsz1 := H1.out.2.2.1.size
  have K0 : Hid (VS w l p c w2.heap.size S vm (.slice none 0 0) (.slice none 0 0) (.slice none 0 0) (.slice none 0 0) [] [] (w2.alloc (.cells #[.slice none 0 0, .slice none 0 0] 59))) := Lib.hid
    ⟨(H1.out.2.2.2.keep hg).keep ga, kept_row (kept_row H1.out.1 hg (by simp)) ga (by simp), kept_row (kept_row H1.out.2.1 hg (by simp)) ga (by simp), heap_alloc_new w2 _, World.ownsRow_nil _ _ _ _, World.ownsRow_nil _ _ _ _, (fun g h => by cases h),
      (hmv.mono (q' := fun b => w.heap.size ≤ b ∧ b < w2.heap.size) (fun b hb hlt => ⟨by omega, hlt⟩)).keep ga, hsz2, World.lt_of_row' (heap_alloc_new w2 _), grown_trans g2 ga⟩
  clear H1 c0 hS hmv hg g2 ga hsz1 hsz2
  go_upto_region 5 with fail
  generalize w2.alloc _ = w3 at *
  generalize w2.heap.size = B at *
  have c0 : w3.cell? ⟨w.heap.size, 0, none⟩ = some (.slice p l.length c) := cell_of_row _ _ _ _ _ _ K0.out.d
  go_wp2_with fail
  clear c0
  go_loopw [22] (fun a wr => ∃ (k : Nat) (vR vL : Value) (R : List Rt) (L : List Lk), k ≤ l.length ∧ a = .int .i64 (k : Int) ∧ R.length ≤ k ∧ L.length ≤ 23 * k ∧ Hid (((l.take k).filter (inV S)).map toR = R ∧ ((l.take k).filter (inV S)).flatMap (vL1 l) = L) ∧ Hid (VS w l p c B S vm vR vL vR vL R L wr)) (fun a _ => l.length - (RowKit.intOf a).toNat)
  case atStart => exact ⟨0, _, _, [], [], Nat.zero_le _, rfl, Nat.le_refl _, Nat.zero_le _, Lib.hid ⟨rfl, rfl⟩, K0⟩
  case round =>
  obtain ⟨k, vR, vL, R, L, hk, rfl, hRk, hLk, HI, K⟩ := hrel
  clear K0
  by_cases hlt : k < l.length
  · obtain ⟨-, b1, off1, rfl, -, -⟩ := rda_cells K.out.db (by omega)
    obtain ⟨A, hA⟩ : ∃ A, l[k]? = some A := ⟨_, List.getElem?_eq_getElem hlt⟩
    obtain ⟨a0, a1, a2, a3, a4⟩ := rda_at K.out.db hA
    have HAM := Lib.hid (List.mem_of_getElem? hA)
    have HST := Lib.hid (vw_step (S := S) hA)
    have hAI : I64 A.r := by have := (HRNG.out A HAM.out).1; unfold I64; omega
    have hAL := (HRNG.out A HAM.out).2
    have gal := World.grownBy_alloc wr (.cells #[.int .i64 A.r, .int .i64 A.q, .bool A.cp, .slice A.pL A.L.length A.cL, .slice A.pC A.C.length A.cC] 38) none
    have KB : Hid (VB w l (some ⟨b1, off1, none⟩) c B S vm vR vL vR vL R L A wr.heap.size (wr.alloc (.cells #[.int .i64 A.r, .int .i64 A.q, .bool A.cp, .slice A.pL A.L.length A.cL, .slice A.pC A.C.length A.cC] 38))) := Lib.hid
      ⟨K.out.keep gal, heap_alloc_new wr _, fun e => by have := (K.out.oR.lt _ e).2; omega, fun e => by have := (K.out.oL.lt _ e).2; omega, K.out.sz, World.lt_of_row' (heap_alloc_new wr _)⟩
    clear hA gal K
    go_upto_region 8 with fail
    clear a0 a1 a2 a3 a4
    generalize wr.alloc _ = wy at *
    generalize wr.heap.size = X at *
    obtain ⟨d0, d1, d2, d3, d4⟩ := row5 KB.out.a
    have hlook := KB.out.s.mp.look hAI
    obtain ⟨bs, hbs⟩ : ∃ bs, inS S A.r = bs := ⟨_, rfl⟩
    rw [hbs] at hlook
    cases bs with
    | false =>
      have HN : Hid (((l.take (k + 1)).filter (inV S)).map toR = R ∧ ((l.take (k + 1)).filter (inV S)).flatMap (vL1 l) = L) := Lib.hid (by rw [HST.out.1, HST.out.2, hbs, HI.out.1, HI.out.2]; simp)
      have KN := Lib.hid KB.out.s
      clear hbs KB
      go_wp2_with fail
      exact ⟨⟨k + 1, vR, vL, R, L, by omega, congrArg _ (by omega), by omega, by omega, HN, KN⟩, by simp only [RowKit.intOf]; omega⟩
    | true =>
      have HN : Hid (((l.take (k + 1)).filter (inV S)).map toR = R ++ [toR A] ∧ ((l.take (k + 1)).filter (inV S)).flatMap (vL1 l) = L ++ vL1 l A) := Lib.hid (by rw [HST.out.1, HST.out.2, hbs, HI.out.1, HI.out.2]; simp)
      clear hbs HST HI
      go_upto_region 9 with fail
      clear hlook
      obtain ⟨b0, b2⟩ := row_cells KB.out.s.t
      go_wp2_with (at_builtin; refine hold_on ?_)
      refine Lib.hid ?_
      have gr2 := World.grownBy_alloc wy (.cells #[.int .i64 A.r, .bool A.cp] 69) none
      have KC := Lib.hid (KB.out.keep gr2)
      clear gr2
      refine wpList_append_own_at _ rfl _ _ 56 rfl (B + 1) 69 ir (.agg #[.int .i64 0, .bool false]) 2 16 Try.underlying56 hir hr0 hr1 hr2 rfl (by decide) vR R.length (R.flatMap rtC) (by rfl) KC.out.s.oR ⟨wy.heap.size, 0, none⟩ 1 1 (rtC (toR A)) (by rfl) rfl (cells2V _ _ _ _) (rtV_one _) (by unfold maxLen; omega) (by omega) (by have := KC.out.s.sz; omega) ?_
      intro v' w9 hown hg _ hat
      have hfl : R.flatMap rtC ++ rtC (toR A) = (R ++ [toR A]).flatMap rtC := by rw [List.flatMap_append, List.flatMap_cons, List.flatMap_nil, List.append_nil]
      have hRl : (R ++ [toR A]).length = R.length + 1 := by rw [List.length_append]; rfl
      obtain ⟨p5, c5, rfl, -, -⟩ := own_shape hown
      have hown2 : w9.ownsRow (B + 1) 69 2 (.slice p5 (R.length + 1) c5) (R ++ [toR A]).length ((R ++ [toR A]).flatMap rtC) := by rw [hRl, ← hfl]; exact hown
      have K9 := Lib.hid (KC.out.addR hown2 hg hat)
      clear hown hown2 hRl hg hat hfl KB KC b0 b2 d0 d1 d2 d3 d4
      simp only [Act.put, List.setIfInBounds_toArray, List.set_cons_zero, List.set_cons_succ]
      obtain ⟨b0, b2⟩ := row_cells K9.out.s.t
      have f0 := frozen_of_row _ _ 0 _ _ K9.out.s.t
      have K10 := Lib.hid K9.out.putR
      go_upto_region 10 with fail
      clear b0 b2 f0 K9
      generalize w9.setCell _ _ = w10 at *
      obtain ⟨d0, d1, d2, d3, d4⟩ := row5 K10.out.a
      have c0 : w10.cell? ⟨w.heap.size, 0, none⟩ = some (.slice (some ⟨b1, off1, none⟩) l.length c) := cell_of_row _ _ _ _ _ _ K10.out.s.d
      go_wp2_with fail
      refine (dlinked_any l A (some ⟨b1, off1, none⟩) c _ w10 K10.out.s.db (K10.out.s.db.ok A HAM.out) HP.out (by omega) (by omega)).mono ?_
      rintro e w5 ⟨pm, cm, rfl, hM, hMl, hg⟩
      have hlen := lnk_len l A
      have HVL : Hid (vL1 l A = ((lnk l A).filter (ltA A)).map (btw A)) := Lib.hid rfl
      obtain ⟨M, hMM⟩ : ∃ M, lnk l A = M := ⟨_, rfl⟩
      rw [hMM] at hM hMl hlen HVL ⊢
      have HMM := Lib.hid hMM
      have C0 : Hid (VI w l (some ⟨b1, off1, none⟩) c B S vm (.slice p5 (R.length + 1) c5) vL (.slice p5 (R.length + 1) c5) vL (R ++ [toR A]) L A X pm cm M w10.heap.size w5.heap.size w5) := Lib.hid ⟨K10.out.keep hg, hM, fun g h => .inl (K10.out.s.oL.lt g h).2, K10.out.s.sz, Nat.le_refl _⟩
      clear hM hg hMM d0 d1 d2 d3 d4 c0 K10
      generalize w10.heap.size = h7 at *
      generalize w5.heap.size = h8 at *
      have hMx : M.length ≤ 23 := by omega
      clear hlen
      go_wp2_with fail
      go_loopw [46] (fun a wq => ∃ (j : Nat) (vL2 : Value) (L2 : List Lk), j ≤ M.length ∧ a = .int .i64 (j : Int) ∧ L2.length ≤ L.length + j ∧ Hid (L ++ ((M.take j).filter (ltA A)).map (btw A) = L2) ∧ Hid (VI w l (some ⟨b1, off1, none⟩) c B S vm (.slice p5 (R.length + 1) c5) vL2 (.slice p5 (R.length + 1) c5) vL2 (R ++ [toR A]) L2 A X pm cm M h7 h8 wq)) (fun a _ => M.length - (RowKit.intOf a).toNat)
      case atStart => exact ⟨0, vL, L, Nat.zero_le _, rfl, Nat.le_refl _, Lib.hid (by simp), C0⟩
      case round =>
      obtain ⟨j, vL2, L2, hj, rfl, hL2, HL, C⟩ := hrel
      clear C0
      by_cases hlt2 : j < M.length
      · obtain ⟨-, bm, offm, rfl, -, -⟩ := RdF.cells (f := adL) (k := 5) adL_len (by decide) C.out.m (by omega)
        obtain ⟨x, hx⟩ : ∃ x, M[j]? = some x := ⟨_, List.getElem?_eq_getElem hlt2⟩
        have hcx : wr.cell? ⟨bm, offm + j * 5, none⟩ = some (.int .i64 x.r) ∧ wr.cell? ⟨bm, offm + j * 5 + 1, none⟩ = some (.int .i64 x.q) ∧ wr.cell? ⟨bm, offm + j * 5 + 2, none⟩ = some (.bool x.cp) ∧ wr.cell? ⟨bm, offm + j * 5 + 3, none⟩ = some (.slice x.pL x.L.length x.cL) ∧ wr.cell? ⟨bm, offm + j * 5 + 4, none⟩ = some (.slice x.pC x.C.length x.cC) := by
          obtain ⟨-, b', o', e, -, hc⟩ := RdF.cells (f := adL) (k := 5) adL_len (by decide) C.out.m (by omega)
          injection e with e
          injection e with e1 e2
          subst e1
          subst e2
          exact ⟨hc j x hx 0 _ rfl, hc j x hx 1 _ rfl, hc j x hx 2 _ rfl, hc j x hx 3 _ rfl, hc j x hx 4 _ rfl⟩
        obtain ⟨a0, a1, a2, a3, a4⟩ := hcx
        have hxm : x ∈ l := by
          have := List.mem_of_getElem? hx
          rw [← HMM.out] at this
          exact lnk_mem this
        have HXM := Lib.hid hxm
        have HFS := Lib.hid (flt_step (A := A) hx)
        have gal := World.grownBy_alloc wr (.cells #[.int .i64 x.r, .int .i64 x.q, .bool x.cp, .slice x.pL x.L.length x.cL, .slice x.pC x.C.length x.cC] 38) none
        have C1 : Hid (VI w l (some ⟨b1, off1, none⟩) c B S vm (.slice p5 (R.length + 1) c5) vL2 (.slice p5 (R.length + 1) c5) vL2 (R ++ [toR A]) L2 A X (some ⟨bm, offm, none⟩) cm M h7 h8 (wr.alloc (.cells #[.int .i64 x.r, .int .i64 x.q, .bool x.cp, .slice x.pL x.L.length x.cL, .slice x.pC x.C.length x.cC] 38)) ∧ (wr.alloc (.cells #[.int .i64 x.r, .int .i64 x.q, .bool x.cp, .slice x.pL x.L.length x.cL, .slice x.pC x.C.length x.cC] 38)).heap[wr.heap.size]? = some (.cells #[.int .i64 x.r, .int .i64 x.q, .bool x.cp, .slice x.pL x.L.length x.cL, .slice x.pC x.C.length x.cC] 38 (0, 0))) := Lib.hid ⟨C.out.keep gal, heap_alloc_new wr _⟩
        clear hx hxm gal C
        go_upto_region 13 with fail
        clear a0 a1 a2 a3 a4
        generalize wr.alloc _ = wy at *
        generalize wr.heap.size = Y at *
        obtain ⟨d0, d1, d2, d3, d4⟩ := row5 C1.out.1.b.a
        obtain ⟨e0, e1, e2, e3, e4⟩ := row5 C1.out.2
        by_cases hlr : A.r < x.r
        · have HF : Hid (L ++ ((M.take (j + 1)).filter (ltA A)).map (btw A) = L2 ++ [btw A x]) := Lib.hid (by rw [HFS.out, if_pos hlr, ← List.append_assoc, HL.out])
          clear HFS HL
          go_upto_region 14 with fail
          have HD := Lib.hid (And.intro (C1.out.1.keep (grown_drew (grown_refl wy none))) (kept_row C1.out.2 (grown_drew (grown_refl wy none)) (by simp)))
          clear C1 d0 d1 d2 d3 d4 e0 e1 e2 e3 e4
          refine region_until (S := fun w' => Hid (VI w l (some ⟨b1, off1, none⟩) c B S vm (.slice p5 (R.length + 1) c5) vL2 (.slice p5 (R.length + 1) c5) vL2 (R ++ [toR A]) L2 A X (some ⟨bm, offm, none⟩) cm M h7 h8 w' ∧ w'.heap[Y]? = some (.cells #[.int .i64 x.r, .int .i64 x.q, .bool x.cp, .slice x.pL x.L.length x.cL, .slice x.pC x.C.length x.cC] 38 (0, 0)))) (fun j => j == 6 || j == 7 || j == 8) (by kernel_rfl) (HD) (fun hHeld => ?_)
          refine anyU_take (i := 0) (oi := { dst := some 55, op := Op.fieldAddr 59 (Operand.tmp 6) 1, type := 0, pos := "database.go:76", after := #[], guard := none }) (v := ?_) rfl (by kernel_rfl) (by kernel_rfl) (by kernel_rfl) (by kernel_rfl) (by kernel_rfl) (fun _ _ _ h => h) (Or.inl ⟨by rfl, ?_⟩) hHeld ?_
          rotate_left 1
          · intro u hSu
            obtain ⟨b0, b2⟩ := row_cells hSu.out.1.b.s.t
            obtain ⟨d0, d1, d2, d3, d4⟩ := row5 hSu.out.1.b.a
            obtain ⟨e0, e1, e2, e3, e4⟩ := row5 hSu.out.2
            go_simp
            first | done | with_reducible rfl
          (try simp only [Act.put, List.setIfInBounds_toArray, List.set_cons_zero, List.set_cons_succ])
          refine anyU_take (i := 1) (oi := { dst := some 56, op := Op.load 57 (Operand.tmp 55), type := 57, pos := "database.go:76", after := #[{ on := 0, ground := Ground.data }], guard := none }) (v := ?_) rfl (by kernel_rfl) (by kernel_rfl) (by kernel_rfl) (by kernel_rfl) (by kernel_rfl) (fun _ _ _ h => h) (Or.inl ⟨by rfl, ?_⟩) hHeld ?_
          rotate_left 1
          · intro u hSu
            obtain ⟨b0, b2⟩ := row_cells hSu.out.1.b.s.t
            obtain ⟨d0, d1, d2, d3, d4⟩ := row5 hSu.out.1.b.a
            obtain ⟨e0, e1, e2, e3, e4⟩ := row5 hSu.out.2
            go_simp
            first | done | with_reducible rfl
          (try simp only [Act.put, List.setIfInBounds_toArray, List.set_cons_zero, List.set_cons_succ])
          refine anyU_take (i := 2) (oi := { dst := some 57, op := Op.load 38 (Operand.tmp 8), type := 38, pos := "database.go:76", after := #[], guard := none }) (v := ?_) rfl (by kernel_rfl) (by kernel_rfl) (by kernel_rfl) (by kernel_rfl) (by kernel_rfl) (fun _ _ _ h => h) (Or.inl ⟨by rfl, ?_⟩) hHeld ?_
          rotate_left 1
          · intro u hSu
            obtain ⟨b0, b2⟩ := row_cells hSu.out.1.b.s.t
            obtain ⟨d0, d1, d2, d3, d4⟩ := row5 hSu.out.1.b.a
            obtain ⟨e0, e1, e2, e3, e4⟩ := row5 hSu.out.2
            go_simp
            first | done | with_reducible rfl
          (try simp only [Act.put, List.setIfInBounds_toArray, List.set_cons_zero, List.set_cons_succ])
          refine anyU_take (i := 3) (oi := { dst := some 58, op := Op.load 38 (Operand.tmp 10), type := 38, pos := "database.go:76", after := #[], guard := none }) (v := ?_) rfl (by kernel_rfl) (by kernel_rfl) (by kernel_rfl) (by kernel_rfl) (by kernel_rfl) (fun _ _ _ h => h) (Or.inl ⟨by rfl, ?_⟩) hHeld ?_
          rotate_left 1
          · intro u hSu
            obtain ⟨b0, b2⟩ := row_cells hSu.out.1.b.s.t
            obtain ⟨d0, d1, d2, d3, d4⟩ := row5 hSu.out.1.b.a
            obtain ⟨e0, e1, e2, e3, e4⟩ := row5 hSu.out.2
            go_simp
            first | done | with_reducible rfl
          (try simp only [Act.put, List.setIfInBounds_toArray, List.set_cons_zero, List.set_cons_succ])
          refine anyU_ready (rs := [4]) (by kernel_rfl) (by simp) ?_
          refine EachU.cons (o := { dst := some 59, op := Op.call { callee := Callee.value (Operand.func 67), args := #[Operand.tmp 57, Operand.tmp 58], argTypes := #[38, 38] }, type := 71, pos := "database.go:76", after := #[{ on := 2, ground := Ground.data }, { on := 3, ground := Ground.data }], guard := none }) rfl (fun Kz hK => ?_) EachU.nil
          go_simp
          go_at_call 67
          refine (dbtw_any A x _ _ _ (hHeld.out.1.b.s.db.ok A HAM.out) (hHeld.out.1.b.s.db.ok x HXM.out)).mono ?_
          rintro e w5 ⟨rfl, hg⟩
          have hHn := Lib.hid (And.intro (hHeld.out.1.keep hg) (kept_row hHeld.out.2 hg (by simp)))
          clear hg
          refine hK.out _ _ (fun _ => hHn) (fun hH2 => ?_)
          clear hK Kz hHeld
          have hHeld := hH2 rfl
          clear hH2
          (try simp only [Act.put, List.setIfInBounds_toArray, List.set_cons_zero, List.set_cons_succ])
          refine anyU_ready (rs := [5]) (by kernel_rfl) (by simp) ?_
          refine EachU.cons (o := { dst := some 60, op := Op.buildSlice 57 1 #[(0, Operand.tmp 59)], type := 57, pos := "database.go:76", after := #[{ on := 4, ground := Ground.data }], guard := none }) rfl (fun Kz hK => ?_) EachU.nil
          go_simp
          have hHn := Lib.hid (And.intro (hHeld.out.1.keep (World.grownBy_alloc _ (.cells #[.int .i64 (btw A x).a, .int .i64 (btw A x).b, .int .i64 (btw A x).ca, .int .i64 (btw A x).cb, .int .i64 (btw A x).cp] 71) none)) (kept_row hHeld.out.2 (World.grownBy_alloc _ (.cells #[.int .i64 (btw A x).a, .int .i64 (btw A x).b, .int .i64 (btw A x).ca, .int .i64 (btw A x).cb, .int .i64 (btw A x).cp] 71) none) (by simp)))
          refine hK.out _ _ (fun _ => hHn) (fun hH2 => ?_)
          clear hK Kz hHeld
          have hHeld := hH2 rfl
          clear hH2
          (try simp only [Act.put, List.setIfInBounds_toArray, List.set_cons_zero, List.set_cons_succ])
          refine anyU_ready (rs := [6]) (by kernel_rfl) (by simp) ?_
          refine EachU.cons (o := { dst := some 61, op := Op.call { callee := Callee.builtin Builtin.append, args := #[Operand.tmp 56, Operand.tmp 60], argTypes := #[57, 57] }, type := 57, pos := "database.go:76", after := #[{ on := 1, ground := Ground.data }, { on := 5, ground := Ground.data }, { on := 4, ground := Ground.chain }], guard := none }) rfl (fun Kz hK => ?_) EachU.nil
          refine (astep_app lkC 5 40 (by decide) (fun _ => rfl) lkV_one 71 57 il _ Try.underlying57 hil hl0 hl1 hl2 rfl (by decide) (by rfl) _ _ (by rfl) (B + 1) vL2 L2 (by rfl) hHeld.out.1.b.s.oL (some ⟨_, 0, none⟩) 1 1 [btw A x] (by rfl) rfl (by simp) (fun _ => True) (rdf_one _ trivial (cells5V _ _ _ _ _ _ _) 1) (by omega) (by simp; omega) (by have := hHeld.out.1.b.s.sz; omega) ?_)
          intro p4 c4 w8 hown hg hat
          have HD5 := Lib.hid (hHeld.out.1.addL (L2 := L2 ++ [btw A x]) hown hg hat)
          obtain ⟨b0, b2⟩ := row_cells HD5.out.b.s.t
          have fB := frozen_of_row _ _ 1 _ _ HD5.out.b.s.t
          clear hown hg hat
          refine hK.out _ _ (fun h => by cases h) (fun _ => ?_)
          clear hK Kz
          (try simp only [Act.put, List.setIfInBounds_toArray, List.set_cons_zero, List.set_cons_succ])
          refine anyU_ready (rs := [7]) (by kernel_rfl) (by simp) ?_
          refine EachU.cons (o := { dst := some 62, op := Op.fieldAddr 59 (Operand.tmp 6) 1, type := 0, pos := "database.go:76", after := #[{ on := 0, ground := Ground.phase }, { on := 1, ground := Ground.phase }, { on := 2, ground := Ground.phase }, { on := 3, ground := Ground.phase }, { on := 4, ground := Ground.phase }, { on := 5, ground := Ground.phase }, { on := 6, ground := Ground.phase }], guard := none }) rfl (fun Kz hK => ?_) EachU.nil
          go_simp
          refine hK.out _ _ (fun h => by cases h) (fun _ => ?_)
          clear hK Kz
          (try simp only [Act.put, List.setIfInBounds_toArray, List.set_cons_zero, List.set_cons_succ])
          refine anyU_ready (rs := [8]) (by kernel_rfl) (by simp) ?_
          refine EachU.cons (o := { dst := none, op := Op.store 57 (Operand.tmp 62) (Operand.tmp 61), type := 0, pos := "database.go:76", after := #[{ on := 7, ground := Ground.data }, { on := 6, ground := Ground.data }, { on := 6, ground := Ground.chain }, { on := 0, ground := Ground.phase }, { on := 1, ground := Ground.phase }, { on := 2, ground := Ground.phase }, { on := 3, ground := Ground.phase }, { on := 4, ground := Ground.phase }, { on := 5, ground := Ground.phase }, { on := 6, ground := Ground.phase }], guard := none }) rfl (fun Kz hK => ?_) EachU.nil
          go_simp
          refine hK.out _ _ (fun h => by cases h) (fun _ => ?_)
          clear hK Kz
          (try simp only [Act.put, List.setIfInBounds_toArray, List.set_cons_zero, List.set_cons_succ])
          refine anyU_done (by kernel_rfl) ?_ _
          have HN2 := Lib.hid HD5.out.putL
          clear HD5 HD b0 b2 fB
          go_wp2_with fail
          exact ⟨⟨j + 1, _, L2 ++ [btw A x], by omega, congrArg _ (by omega), by rw [List.length_append]; simp; omega, HF, HN2⟩, by simp only [RowKit.intOf]; omega⟩
        · have HF : Hid (L ++ ((M.take (j + 1)).filter (ltA A)).map (btw A) = L2) := Lib.hid (by rw [HFS.out, if_neg hlr, List.append_nil, HL.out])
          have C2 := Lib.hid C1.out.1
          clear HFS HL C1
          go_wp2_with fail
          exact ⟨⟨j + 1, vL2, L2, by omega, congrArg _ (by omega), by omega, HF, C2⟩, by simp only [RowKit.intOf]; omega⟩
      · obtain rfl : j = M.length := by omega
        have hL9 := HL.out
        rw [List.take_length, ← HVL.out] at hL9
        have KN := Lib.hid C.out.b.s
        rw [hL9] at HN
        have hRl : (R ++ [toR A]).length = R.length + 1 := by rw [List.length_append]; rfl
        clear C HL hL9
        go_wp2_with fail
        exact ⟨⟨k + 1, .slice p5 (R.length + 1) c5, vL2, R ++ [toR A], L2, by omega, congrArg _ (by omega), by omega, by omega, HN, KN⟩, by simp only [RowKit.intOf]; omega⟩
  · obtain rfl : k = l.length := by omega
    have hI := HI.out
    rw [List.take_length] at hI
    have hI1 : vwR l S = R := hI.1
    have hI2 : vwL l S = L := hI.2
    rw [hI1, hI2] at HVW
    have hTK := K.out
    obtain ⟨pR, cR, rfl, n1, m1⟩ := own_shape K.out.oR
    obtain ⟨pL, cL, rfl, n2, m2⟩ := own_shape K.out.oL
    have hlo := K.out.lo
    have HTG : Hid (TgOk wr (fun b => B + 1 ≤ b ∧ b < wr.heap.size) ⟨R, L, pR, cR, pL, cL⟩) := Lib.hid ⟨rdf_of_own2 K.out.oR, rdf_of_own2 K.out.oL, ⟨n1, m1⟩, ⟨n2, m2⟩⟩
    clear hI hI1 hI2 hTK n1 m1 n2 m2 HI
    obtain ⟨b0, b2⟩ := row_cells K.out.t
    go_wp2_with fail
    refine (tcheck_any ⟨R, L, pR, cR, pL, cL⟩ _ wr HTG.out).mono ?_
    rintro e w5 ⟨rfl, hg⟩
    have HT5 := Lib.hid (HTG.out.keep hg)
    have K5 := Lib.hid (K.out.keep hg)
    clear hg K HTG b0 b2
    simp only
    obtain ⟨z, hz⟩ : ∃ z, chk R L = z := ⟨_, rfl⟩
    rw [hz] at HVW ⊢
    clear hz
    obtain ⟨b0, b2⟩ := row_cells K5.out.t
    have z0 := cell_of_row _ _ 0 _ _ _ K5.out.z
    have z1 := cell_of_row _ _ 1 _ _ _ K5.out.z
    have f0 := frozen_of_row _ _ 0 _ _ K5.out.z
    have f1 := frozen_of_row _ _ 1 _ _ K5.out.z
    by_cases hz0 : z = 0
    · have HV : Hid ((R, L) = viewV l r) := Lib.hid (by rw [HVW.out, if_pos hz0])
      obtain ⟨t1, t2⟩ := store2c (.slice pR R.length cR) (.slice pL L.length cL) K5.out.z
      have HT := Lib.hid (And.intro t1 (And.intro (grown_new K5.out.gr t2 (by omega)) (HT5.out.grown t2 (fun b hb e => by have := Option.some.inj e; omega))))
      clear t1 t2 K5 HT5
      subst hz0
      go_wp2_with fail
      refine bodyPost_ret (res_topoV rfl _ _ (w.heap.size + 1) _ _ rfl HT.out.1) rfl ?_
      exact ⟨⟨R, L, pR, cR, pL, cL⟩, rfl, HV.out, HT.out.2.2.mono (fun b hb => by omega), HT.out.2.1⟩
    · have HV : Hid (viewV l r = ([], [])) := Lib.hid (by rw [HVW.out, if_neg hz0])
      obtain ⟨t1, t2⟩ := store2c (.slice none 0 0) (.slice none 0 0) K5.out.z
      have HT := Lib.hid (And.intro t1 (grown_new K5.out.gr t2 (by omega)))
      clear t1 t2 K5 HT5
      go_wp2_with fail
      refine bodyPost_ret (res_topoV rfl _ _ (w.heap.size + 1) _ _ rfl HT.out.1) rfl ?_
      exact vw_no HV.out HT.out.2
end Go.Proofs.Ytnpkihioklpnmaa

/- The laws of databases: the example. -/
namespace Go.Proofs.Ytnpkihioklpnmaa
open Go.RowKit Bs
set_option maxRecDepth 100000 in
theorem rdf_rowD {w : World} {g : Nat} {t : TypeId} {n c : Nat} {xs : List Value} (h : w.heap[g]? = some (.cells xs.toArray t (0, 0))) : RdF w (· = g) (.slice (some ⟨g, 0, none⟩) n c) n xs :=
  ⟨some ⟨g, 0, none⟩, c, rfl, fun _ => ⟨g, 0, rfl, rfl, fun i x hi => by
    rw [cell_of_row _ _ _ _ _ _ h, Nat.zero_add]
    simpa using hi⟩⟩
def xD (p1 p2 : Option Addr) : List Ad := [⟨1, 1, false, [⟨2, 1, 0⟩, ⟨3, 1, 0⟩], [], p1, 2, none, 0⟩, ⟨2, 1, false, [⟨1, 4, 0⟩], [], p2, 1, none, 0⟩, ⟨3, 1, false, [], [], none, 0, none, 0⟩]
set_option maxRecDepth 100000 in
theorem xD_chk (p1 p2 : Option Addr) : chkD (xD p1 p2) = 0 := by kernel_rfl
set_option maxRecDepth 100000 in
theorem xD_view (p1 p2 : Option Addr) : viewV (xD p1 p2) 1 = ([⟨1, false⟩, ⟨2, false⟩], [⟨1, 2, 1, 4, 0⟩]) := by kernel_rfl
/-- The example in memory. -/
structure XM (w : World) (wb : World) : Prop where
  box : wb.heap[w.heap.size + 1 + 1 + 1]? = some (.cells #[.slice (some ⟨w.heap.size + 1 + 1, 0, none⟩) 3 3] 25 (0, 0))
  r : RdA wb (fun _ => True) (.slice (some ⟨w.heap.size + 1 + 1, 0, none⟩) 3 3) (xD (some ⟨w.heap.size, 0, none⟩) (some ⟨w.heap.size + 1, 0, none⟩))
  gr : w.grownBy wb none
set_option maxRecDepth 100000 in
theorem XM.keep {w wb w1 : World} (h : XM w wb) (g : wb.grownBy w1 none) : XM w w1 := ⟨kept_row h.box g (by simp), h.r.keep g, grown_trans h.gr g⟩
set_option maxRecDepth 100000 in
theorem xm_start (w : World) : XM w ((((w.alloc (.cells #[.int .i64 2, .int .i64 1, .int .i64 0, .int .i64 3, .int .i64 1, .int .i64 0] 73)).alloc (.cells #[.int .i64 1, .int .i64 4, .int .i64 0] 73)).alloc (.cells #[.int .i64 1, .int .i64 1, .bool false, .slice (some ⟨w.heap.size, 0, none⟩) 2 2, .slice none 0 0, .int .i64 2, .int .i64 1, .bool false, .slice (some ⟨w.heap.size + 1, 0, none⟩) 1 1, .slice none 0 0, .int .i64 3, .int .i64 1, .bool false, .slice none 0 0, .slice none 0 0] 38)).alloc (.cells #[.slice (some ⟨w.heap.size + 1 + 1, 0, none⟩) 3 3] 25)) := by
  obtain ⟨k1, k2, k3, k4⟩ := two_boxes w #[.int .i64 2, .int .i64 1, .int .i64 0, .int .i64 3, .int .i64 1, .int .i64 0] #[.int .i64 1, .int .i64 4, .int .i64 0] 73 73
  obtain ⟨wb, hwb⟩ : ∃ wb, wb = (w.alloc (.cells #[.int .i64 2, .int .i64 1, .int .i64 0, .int .i64 3, .int .i64 1, .int .i64 0] 73)).alloc (.cells #[.int .i64 1, .int .i64 4, .int .i64 0] 73) := ⟨_, rfl⟩
  rw [← hwb] at k1 k2 k3 k4 ⊢
  obtain ⟨j1, j2, j3, j4⟩ := two_boxes wb #[.int .i64 1, .int .i64 1, .bool false, .slice (some ⟨w.heap.size, 0, none⟩) 2 2, .slice none 0 0, .int .i64 2, .int .i64 1, .bool false, .slice (some ⟨w.heap.size + 1, 0, none⟩) 1 1, .slice none 0 0, .int .i64 3, .int .i64 1, .bool false, .slice none 0 0, .slice none 0 0] #[.slice (some ⟨w.heap.size + 1 + 1, 0, none⟩) 3 3] 38 25
  rw [k4] at j1 j2
  have a1 := kept_row k1 j3 (by simp)
  have a2 := kept_row k2 j3 (by simp)
  refine ⟨j2, ⟨(rdf_rowD (xs := (xD (some ⟨w.heap.size, 0, none⟩) (some ⟨w.heap.size + 1, 0, none⟩)).flatMap adL) j1).mono (fun _ _ => trivial), fun A hA => ?_, fun A hA => ?_⟩, grown_trans k3 j3⟩
  · simp only [xD, List.mem_cons, List.not_mem_nil, or_false] at hA
    rcases hA with rfl | rfl | rfl
    · exact ⟨(rdf_rowD (xs := [(⟨2, 1, 0⟩ : T3), ⟨3, 1, 0⟩].flatMap t3C) a1).mono (fun _ _ => trivial), ⟨none, 0, rfl, fun h => absurd rfl h⟩, ⟨Nat.le_refl 2, by show (2 : Nat) ≤ _; decide⟩, ⟨Nat.le_refl 0, by show (0 : Nat) ≤ _; decide⟩⟩
    · exact ⟨(rdf_rowD (xs := [(⟨1, 4, 0⟩ : T3)].flatMap t3C) a2).mono (fun _ _ => trivial), ⟨none, 0, rfl, fun h => absurd rfl h⟩, ⟨Nat.le_refl 1, by show (1 : Nat) ≤ _; decide⟩, ⟨Nat.le_refl 0, by show (0 : Nat) ≤ _; decide⟩⟩
    · exact ⟨⟨none, 0, rfl, fun h => absurd rfl h⟩, ⟨none, 0, rfl, fun h => absurd rfl h⟩, ⟨Nat.le_refl 0, by show (0 : Nat) ≤ _; decide⟩, ⟨Nat.le_refl 0, by show (0 : Nat) ≤ _; decide⟩⟩
  · simp only [xD, List.mem_cons, List.not_mem_nil, or_false] at hA
    rcases hA with rfl | rfl | rfl
    · exact ⟨fun h => (by cases h), fun _ => rfl⟩
    · exact ⟨fun h => (by cases h), fun _ => rfl⟩
    · exact ⟨fun _ => rfl, fun _ => rfl⟩
set_option maxRecDepth 100000 in
set_option maxHeartbeats 3200000 in
theorem dawake_any (w : World) : Calls Try.prog 22 #[] w fun e w' => e = .returned (.bool true) ∧ w.grownBy w' none := by
  have H0 := Lib.hid (xm_start w)
  go_enter Try.func22, Try.ntmps22
  go_upto_region 2 with fail
  generalize World.alloc (((w.alloc _).alloc _).alloc _) _ = wb at *
  have c0 : wb.cell? ⟨w.heap.size + 1 + 1 + 1, 0, none⟩ = some (.slice (some ⟨w.heap.size + 1 + 1, 0, none⟩) 3 3) := cell_of_row _ _ _ _ _ _ H0.out.box
  go_wp2_with fail
  refine (dview_any (xD (some ⟨w.heap.size, 0, none⟩) (some ⟨w.heap.size + 1, 0, none⟩)) 1 (some ⟨w.heap.size + 1 + 1, 0, none⟩) 3 _ wb H0.out.r (show 3 ≤ 9223372036854775807 by decide)).mono ?_
  rintro e w1 ⟨⟨R, L, pR, cR, pL, cL⟩, rfl, hv, hT, hg⟩
  rw [xD_view] at hv
  injection hv with e1 e2
  simp only at e1 e2
  subst e1 e2
  have gal := World.grownBy_alloc w1 (.cells #[.slice pR 2 cR, .slice pL 1 cL] 59) none
  have H1 := Lib.hid (And.intro (H0.out.keep (grown_trans hg gal)) (And.intro (heap_alloc_new w1 (.cells #[.slice pR 2 cR, .slice pL 1 cL] 59)) (hT.keep gal)))
  clear hT hg gal H0 c0
  go_upto_region 3 with fail
  generalize w1.alloc _ = w2 at *
  have c0 : w2.cell? ⟨w.heap.size + 1 + 1 + 1, 0, none⟩ = some (.slice (some ⟨w.heap.size + 1 + 1, 0, none⟩) 3 3) := cell_of_row _ _ _ _ _ _ H1.out.1.box
  go_wp2_with fail
  refine (dcheck_any (xD (some ⟨w.heap.size, 0, none⟩) (some ⟨w.heap.size + 1, 0, none⟩)) (some ⟨w.heap.size + 1 + 1, 0, none⟩) 3 _ w2 H1.out.1.r (show 3 ≤ 9223372036854775807 by decide)).mono ?_
  rw [xD_chk]
  rintro e w3 ⟨rfl, hg⟩
  have H2 := Lib.hid (And.intro (kept_row H1.out.2.1 hg (by simp)) (And.intro (grown_trans H1.out.1.gr hg) (H1.out.2.2.keep hg)))
  clear hg H1 c0
  obtain ⟨b0, b1⟩ := row_cells H2.out.1
  obtain ⟨-, b, off, rfl, -, hc⟩ := RdF.cells (f := lkC) (k := 5) (fun _ => rfl) (by decide) H2.out.2.2.l (show 0 < 1 by decide)
  have l0 := hc 0 ⟨1, 2, 1, 4, 0⟩ rfl 0 _ rfl
  have l1 := hc 0 ⟨1, 2, 1, 4, 0⟩ rfl 1 _ rfl
  have l2 := hc 0 ⟨1, 2, 1, 4, 0⟩ rfl 2 _ rfl
  have l3 := hc 0 ⟨1, 2, 1, 4, 0⟩ rfl 3 _ rfl
  have l4 := hc 0 ⟨1, 2, 1, 4, 0⟩ rfl 4 _ rfl
  simp only [Nat.zero_mul, Nat.add_zero] at l0 l1 l2 l3 l4
  clear hc
  go_wp2_with fail
  go_ret
  exact ⟨rfl, H2.out.2.1⟩
end Go.Proofs.Ytnpkihioklpnmaa

/- The reference's Same of databases. -/
namespace Go.Proofs.Ytnpkihioklpnmaa
open Go.RowKit Bs
end Go.Proofs.Ytnpkihioklpnmaa

/- The law DatabaseMerges: the mathematics, what memory holds. -/
namespace Go.Proofs.Ytnpkihioklpnmaa
open Go.RowKit Bs
/-- A database that lies in memory. -/
structure DM (w : World) (q : Nat → Prop) (l : List Ad) (p : Option Addr) (c : Nat) : Prop where
  r : RdA w q (.slice p l.length c) l
  n : p = none → c = 0
  c : l.length ≤ c ∧ c ≤ 9223372036854775807
  m : l.length ≤ 900
  s : ∀ A ∈ l, A.L.length ≤ 1000 ∧ A.C.length ≤ 1000
section
variable {w w' : World} {q q' : Nat → Prop} {l m a b : List Ad} {p : Option Addr} {c n : Nat}
set_option maxRecDepth 100000 in
theorem DM.grown {r : Option Nat} (h : DM w q l p c) (g : w.grownBy w' r) (hq : ∀ b, q b → some b ≠ r) : DM w' q l p c := ⟨h.r.grown g hq, h.n, h.c, h.m, h.s⟩
set_option maxRecDepth 100000 in
theorem DM.keep (h : DM w q l p c) (g : w.grownBy w' none) : DM w' q l p c := h.grown g (fun _ _ => by simp)
set_option maxRecDepth 100000 in
theorem DM.mono (h : DM w q l p c) (hq : ∀ b, q b → q' b) : DM w q' l p c := ⟨h.r.mono hq, h.n, h.c, h.m, h.s⟩
set_option maxRecDepth 100000 in
theorem dm_of (h1 : l.length ≤ 7) (h2 : DL l) (h3 : RdA w q (.slice p l.length c) l) (h4 : l.length ≤ c ∧ c ≤ 9223372036854775807) (h5 : p = none → c = 0) : DM w q l p c := ⟨h3, h5, h4, by omega, fun A hA => by have := h2 A hA; omega⟩
set_option maxRecDepth 100000 in
theorem vAd_sz {A : Ad} (h : vAd A = true) : A.L.length ≤ 23 ∧ A.C.length ≤ 8 := by
  unfold vAd at h
  rw [Bool.and_eq_true, Bool.and_eq_true] at h
  obtain ⟨h1, -, h3⟩ := h
  unfold vHd at h1
  unfold vClaims at h3
  rw [Bool.and_eq_true] at h3
  exact ⟨(of_decide_eq_true h1).2.2, of_decide_eq_true h3.1⟩
set_option maxRecDepth 100000 in
theorem dm_ok (h : OkD l) (hf : m.map fz = l.map fz) (h3 : RdA w q (.slice p m.length c) m) (h4 : m.length ≤ c ∧ c ≤ 9223372036854775807) (h5 : p = none → c = 0) : DM w q m p c := by
  refine ⟨h3, h5, h4, by rw [fz_len hf]; have := h.len; omega, fun A hA => ?_⟩
  obtain ⟨B, h1, h2⟩ := fz_mem hf hA
  have := vAd_sz (h.v B h1)
  rw [(fz_L h2).1, (fz_L h2).2] at this
  omega
/-- A database in a box. -/
def BM (w : World) (n : Nat) (l : List Ad) (p : Option Addr) (c : Nat) : Prop := w.heap[n]? = some (.cells #[.slice p l.length c] 25 (0, 0)) ∧ DM w (fun _ => True) l p c
set_option maxRecDepth 100000 in
theorem BM.keep (h : BM w n l p c) (g : w.grownBy w' none) : BM w' n l p c := ⟨kept_row h.1 g (by simp), h.2.keep g⟩
set_option maxRecDepth 100000 in
theorem BM.cell (h : BM w n l p c) : w.cell? ⟨n, 0, none⟩ = some (.slice p l.length c) := cell_of_row _ _ _ _ _ _ h.1
set_option maxRecDepth 100000 in
theorem bm_new (h : DM w q l p c) : BM (w.alloc (.cells #[.slice p l.length c] 25)) w.heap.size l p c := ⟨(tone_box w _ _).1, (h.keep (tone_box w #[.slice p l.length c] 25).2).mono (fun _ _ => trivial)⟩
end
/-! Merge is commutative, associative, idempotent. -/
set_option maxRecDepth 100000 in
theorem OkD.fz {l : List Ad} (h : OkD l) : OkD (l.map fz) := okD_OkD (by rw [okD_fz]; exact h.ok)
set_option maxRecDepth 100000 in
theorem okD_congr {l m : List Ad} (h : OkD l) (e : m.map Go.Proofs.Ytnpkihioklpnmaa.fz = l.map Go.Proofs.Ytnpkihioklpnmaa.fz) : OkD m := okD_OkD (by rw [← okD_fz m, e, okD_fz]; exact h.ok)
section
variable {a b c a' b' : List Ad}
end
set_option maxRecDepth 100000 in
theorem dv_ok {l : List Ad} {k : Int} (h : DV k l) : OkD l := by
  refine OkD_of (fun A hA => (h.v A hA).1) ?_
  have key : ∀ (l : List Ad) (j : Int), (∀ A ∈ l, j < A.r) → l.Pairwise (fun A B => A.r < B.r) → ascD j l = true := by
    intro l
    induction l with
    | nil => intros; rfl
    | cons A t ih =>
      intro j h1 h2
      obtain ⟨p1, p2⟩ := List.pairwise_cons.1 h2
      rw [ascD, decide_eq_true (h1 A List.mem_cons_self), ih A.r p1 p2]; rfl
  exact key l 0 (fun A hA => by have := vAd_r (h.v A hA).1; omega) h.p
end Go.Proofs.Ytnpkihioklpnmaa

/- The reference's Same, of equal topologies. -/
namespace Go.Proofs.Ytnpkihioklpnmaa
open Go.RowKit Bs
/-- Two equal topologies in two boxes. -/
structure S2 (w : World) (R : List Rt) (L : List Lk) (pR pL pR2 pL2 : Option Addr) (cR cL cR2 cL2 : Nat) (wr : World) : Prop where
  b1 : wr.heap[w.heap.size]? = some (.cells #[.slice pR R.length cR, .slice pL L.length cL] 59 (0, 0))
  b2 : wr.heap[w.heap.size + 1]? = some (.cells #[.slice pR2 R.length cR2, .slice pL2 L.length cL2] 59 (0, 0))
  t1 : TgOk wr (fun _ => True) ⟨R, L, pR, cR, pL, cL⟩
  t2 : TgOk wr (fun _ => True) ⟨R, L, pR2, cR2, pL2, cL2⟩
  gr : w.grownBy wr none
set_option maxRecDepth 100000 in
theorem S2.keep {w wr w' : World} {R : List Rt} {L : List Lk} {pR pL pR2 pL2 : Option Addr} {cR cL cR2 cL2 : Nat} (h : S2 w R L pR pL pR2 pL2 cR cL cR2 cL2 wr) (g : wr.grownBy w' none) : S2 w R L pR pL pR2 pL2 cR cL cR2 cL2 w' :=
  ⟨kept_row h.b1 g (by simp), kept_row h.b2 g (by simp), h.t1.keep g, h.t2.keep g, grown_trans h.gr g⟩
set_option maxRecDepth 100000 in
set_option maxHeartbeats 3200000 in
theorem rsameT_any (T U : Tg) (hRR : U.R = T.R) (hLL : U.L = T.L) (q q2 : Nat → Prop) (w : World) (hT : TgOk w q T) (hU : TgOk w q2 U) :
    Calls Try.prog 33 #[.agg #[.slice T.pR T.R.length T.cR, .slice T.pL T.L.length T.cL], .agg #[.slice U.pR U.R.length U.cR, .slice U.pL U.L.length U.cL]] w fun e w' => e = .returned (.bool true) ∧ w.grownBy w' none := by
  obtain ⟨R, L, pR, cR, pL, cL⟩ := T
  obtain ⟨R2, L2, pR2, cR2, pL2, cL2⟩ := U
  simp only at hRR hLL
  subst hRR
  subst hLL
  simp only
  have hm1 := Nat.le_trans hT.cr.1 hT.cr.2
  have hm2 := Nat.le_trans hT.cl.1 hT.cl.2
  simp only at hm1 hm2
  obtain ⟨k1, k2, k3, _⟩ := two_boxes w #[.slice pR R2.length cR, .slice pL L2.length cL] #[.slice pR2 R2.length cR2, .slice pL2 L2.length cL2] 59 59
  have H0 : Hid (S2 w R2 L2 pR pL pR2 pL2 cR cL cR2 cL2 _) := Lib.hid ⟨k1, k2, (hT.mono (fun _ _ => trivial)).keep k3, (hU.mono (fun _ _ => trivial)).keep k3, k3⟩
  clear k1 k2 k3 hT hU
  go_enter Try.func33, Try.ntmps33
  go_upto_region 1 with fail
  generalize ((w.alloc _).alloc _) = wa at *
  obtain ⟨c0, c1⟩ := row_cells H0.out.b1
  obtain ⟨c2, c3⟩ := row_cells H0.out.b2
  go_wp2_with fail
  go_loopw [5] (fun a wr => ∃ k : Nat, k ≤ R2.length ∧ a = .int .i64 (k : Int) ∧ Hid (S2 w R2 L2 pR pL pR2 pL2 cR cL cR2 cL2 wr)) (fun a _ => R2.length - (RowKit.intOf a).toNat)
  case atStart => exact ⟨0, Nat.zero_le _, rfl, H0⟩
  case round =>
  obtain ⟨k, hk, rfl, HK⟩ := hrel
  clear H0 c0 c1 c2 c3
  by_cases hlt : k < R2.length
  case pos =>
    obtain ⟨-, g1, o1, e1, -, hc1⟩ := rdr_cells HK.out.t1.r (by show 0 < R2.length; omega)
    obtain ⟨-, g2, o2, e2, -, hc2⟩ := rdr_cells HK.out.t2.r (by show 0 < R2.length; omega)
    simp only at e1 e2
    subst e1
    subst e2
    obtain ⟨y, hy⟩ : ∃ y, R2[k]? = some y := ⟨_, List.getElem?_eq_getElem hlt⟩
    obtain ⟨a0, a1⟩ := hc1 k y hy
    obtain ⟨a2, a3⟩ := hc2 k y hy
    obtain ⟨c0, c1⟩ := row_cells HK.out.b1
    obtain ⟨c2, c3⟩ := row_cells HK.out.b2
    have i0 : (0 : Int) ≤ (k : Int) := by omega
    have i1 : (k : Int) < (R2.length : Int) := by omega
    have HN : ∀ n, Hid (S2 w R2 L2 (some ⟨g1, o1, none⟩) pL (some ⟨g2, o2, none⟩) pL2 cR cL cR2 cL2 (wr.drewN n)) := fun n => Lib.hid (HK.out.keep (grown_drewN _ n _))
    clear hc1 hc2 hy HK
    go_wp2_with fail
    go_quiet (fail)
    clear a0 a1 a2 a3
    go_wp2_with fail
    exact ⟨⟨k + 1, by omega, congrArg _ (by omega), HN _⟩, by simp only [RowKit.intOf]; omega⟩
  obtain rfl : k = R2.length := by omega
  obtain ⟨c0, c1⟩ := row_cells HK.out.b1
  obtain ⟨c2, c3⟩ := row_cells HK.out.b2
  go_wp2_with fail
  go_loopw [6] (fun a wr => ∃ k : Nat, k ≤ L2.length ∧ a = .int .i64 (k : Int) ∧ Hid (S2 w R2 L2 pR pL pR2 pL2 cR cL cR2 cL2 wr)) (fun a _ => L2.length - (RowKit.intOf a).toNat)
  case atStart => exact ⟨0, Nat.zero_le _, rfl, HK⟩
  case round =>
  obtain ⟨k, hk, rfl, HK⟩ := hrel
  clear c0 c1 c2 c3
  by_cases hlt : k < L2.length
  case pos =>
    obtain ⟨-, g1, o1, e1, -, hc1⟩ := rdl_cells HK.out.t1.l (by show 0 < L2.length; omega)
    obtain ⟨-, g2, o2, e2, -, hc2⟩ := rdl_cells HK.out.t2.l (by show 0 < L2.length; omega)
    simp only at e1 e2
    subst e1
    subst e2
    obtain ⟨y, hy⟩ : ∃ y, L2[k]? = some y := ⟨_, List.getElem?_eq_getElem hlt⟩
    obtain ⟨a0, a1, a2, a3, a4⟩ := hc1 k y hy
    obtain ⟨d0, d1, d2, d3, d4⟩ := hc2 k y hy
    obtain ⟨c0, c1⟩ := row_cells HK.out.b1
    obtain ⟨c2, c3⟩ := row_cells HK.out.b2
    have i0 : (0 : Int) ≤ (k : Int) := by omega
    have i1 : (k : Int) < (L2.length : Int) := by omega
    have HN : ∀ n, Hid (S2 w R2 L2 pR (some ⟨g1, o1, none⟩) pR2 (some ⟨g2, o2, none⟩) cR cL cR2 cL2 (wr.drewN n)) := fun n => Lib.hid (HK.out.keep (grown_drewN _ n _))
    clear hc1 hc2 hy HK
    go_wp2_with fail
    go_quiet (fail)
    clear a0 a1 a2 a3 a4 d0 d1 d2 d3 d4
    go_wp2_with fail
    exact ⟨⟨k + 1, by omega, congrArg _ (by omega), HN _⟩, by simp only [RowKit.intOf]; omega⟩
  obtain rfl : k = L2.length := by omega
  obtain ⟨c0, c1⟩ := row_cells HK.out.b1
  obtain ⟨c2, c3⟩ := row_cells HK.out.b2
  go_wp2_with fail
  go_ret
  exact ⟨rfl, HK.out.gr⟩
end Go.Proofs.Ytnpkihioklpnmaa

/- The law DatabaseStrangers. -/
namespace Go.Proofs.Ytnpkihioklpnmaa
open Go.RowKit Bs
set_option maxRecDepth 100000 in
theorem put_okS {u m : List Ad} (h : OkD u) (e : m.map fz = u.map fz) : OkD m := okD_congr h e
set_option maxRecDepth 100000 in
set_option maxHeartbeats 12800000 in
theorem strangers_walk (v : Value) (w : World) (hv : IntsIn w v) :
    Calls Try.prog 9 #[v] w fun e w' => e = .returned (.bool true) ∧ w.grownBy w' none := by
  go_enter Try.func9, Try.ntmps9
  go_wp2_with fail
  refine (new_any v w hv).mono ?_
  rintro e w1 ⟨rfl, hg1, hT1⟩
  obtain ⟨a, ha⟩ : ∃ a, w.heap.size = a := ⟨_, rfl⟩
  have HG : Hid (w.grownBy w1 none ∧ w.heap.size ≤ a) := Lib.hid ⟨hg1, Nat.le_of_eq ha⟩
  rw [ha] at hT1 ⊢
  have HT := Lib.hid hT1
  clear hg1 hT1 ha hv
  go_wp2_with fail
  refine (tdb_any a 0 (by unfold I64; omega) _ HT.out).mono ?_
  rintro e w2 ⟨l, p, c, rfl, h7, hdl, hdv, hrd, hc, hn, hs⟩
  have h2 := dm_of h7 hdl hrd hc hn
  have HDV := Lib.hid (hdv (by omega))
  have hl7 : l.length ≤ 7 := h7
  obtain ⟨n1, n2⟩ := tone_box w2 #[.slice p l.length c] 25
  have hlt := HT.out.lt
  have H2 : Hid (_ ∧ DM _ (· ≠ a) l p c ∧ w.grownBy _ none ∧ w.heap.size ≤ a ∧ Tp _ a ∧ a < w2.heap.size) := Lib.hid ⟨n1, (h2.mono (q' := (· ≠ a)) (fun b hb => by omega)).keep n2, grown_trans (grown_new HG.out.1 hs.1 HG.out.2) n2, HG.out.2, hs.2.keep n2, hs.2.lt⟩
  clear h7 hdl hdv hrd hc hn hs h2 HT HG n1 n2 hlt
  go_upto_region 3 with fail
  generalize hw : w2.alloc _ = w3 at *
  generalize w2.heap.size = n4 at *
  clear hw w2
  go_wp2_with fail
  refine (adv3_any a 50 0 (by unfold I64; omega) (by unfold I64; omega) _ H2.out.2.2.2.2.1).mono ?_
  rintro e w5 ⟨X, rfl, hta, hok, hs, hnl⟩
  rw [show X.val = .agg #[.int .i64 X.r, .int .i64 X.q, .bool X.cp, .slice X.pL X.L.length X.cL, .slice X.pC X.C.length X.cC] from rfl]
  have hvx := hta.valid (by omega) ⟨by omega, by omega⟩
  have hnb := hta.nb (by omega)
  have hsx : X.L.length ≤ 1000 ∧ X.C.length ≤ 1000 := by have := hta.ll; have := hta.cl; omega
  have HST : Hid (Strg l X ∧ vAd X = true ∧ X.r = 50) := Lib.hid ⟨⟨fun A hA => by have := (HDV.out.v A hA).2; omega, fun A hA y hy => by have := HDV.out.nb A hA y hy; omega, fun y hy => by have := hnb y hy; omega⟩, hvx.1, hvx.2⟩
  obtain ⟨n1, n2⟩ := tone_box w5 #[.int .i64 X.r, .int .i64 X.q, .bool X.cp, .slice X.pL X.L.length X.cL, .slice X.pC X.C.length X.cC] 38
  have H3 : Hid (BM _ n4 l p c ∧ w.grownBy _ none ∧ AdOk _ (fun _ => True) X ∧ AdNl X ∧ _) := Lib.hid ⟨⟨kept_row (kept_row H2.out.1 hs.1 (fun e => by have := Option.some.inj e; have := H2.out.2.2.2.2.2; omega)) n2 (by simp), ((H2.out.2.1.grown hs.1 (fun _ hb e => hb (Option.some.inj e))).keep n2).mono (fun _ _ => trivial)⟩, grown_trans (grown_new H2.out.2.2.1 hs.1 H2.out.2.2.2.1) n2, (hok.keep n2).mono (fun _ _ => trivial), hnl, n1⟩
  clear hta hok hs hnl hvx hnb n1 n2 H2
  go_upto_region 4 with fail
  generalize hw : w5.alloc _ = w6 at *
  generalize w5.heap.size = n5 at *
  clear hw w5
  have q4 := H3.out.1.cell
  obtain ⟨x0, x1, x2, x3, x4⟩ := row5 H3.out.2.2.2.2
  go_wp2_with fail
  refine (dput_any l X p c _ _ H3.out.1.2.r H3.out.1.2.n H3.out.1.2.c H3.out.1.2.m H3.out.1.2.s H3.out.2.2.1 H3.out.2.2.2.1 hsx).mono ?_
  rintro e w7 ⟨m, p6, c6, rfl, hf, hrd, hc, hn, hg⟩
  have hok := dv_ok HDV.out
  have hpd : pD l X = true := by
    unfold pD
    rw [hok.ok, HST.out.2.1, chg_none (by
      cases hq : fndA l X.r with
      | none => rfl
      | some B =>
        obtain ⟨h1, h2⟩ := fndA_some hq
        have := HST.out.1.r B h1; omega)]
    rfl
  have hmu : m.map fz = (l ++ [X]).map fz := by
    rw [hf]
    unfold putV
    rw [hpd, if_pos rfl, putA_end HST.out.1.r]
  have huo : OkD (l ++ [X]) := by
    rw [← putA_end HST.out.1.r]
    exact hok.put HST.out.2.1
  have HM : Hid ((∀ r, r ≠ 50 → viewV m r = viewV l r) ∧ viewV m 50 = ([⟨X.r, X.cp⟩], [])) := Lib.hid ⟨fun r hr => by rw [viewV_congr hmu, HST.out.1.view hok huo (by rw [HST.out.2.2]; exact hr)], by
    have h5 := HST.out.1.own huo
    rw [HST.out.2.2] at h5
    rw [viewV_congr hmu, h5, HST.out.2.2]⟩
  have hd := dm_ok (put_okS huo hmu) rfl hrd hc hn
  rw [hpd]
  obtain ⟨n1, n2⟩ := tone_box w7 #[.slice p6 m.length c6] 25
  have H4 : Hid (BM _ n4 l p c ∧ BM _ w7.heap.size m p6 c6 ∧ w.grownBy _ none) := Lib.hid ⟨(H3.out.1.keep hg).keep n2, bm_new hd, grown_trans (grown_trans H3.out.2.1 hg) n2⟩
  have HR : Hid (∀ A ∈ l, A.r ≠ 50) := Lib.hid (fun A hA => by have := (HDV.out.v A hA).2; omega)
  clear hf hrd hc hn hg hok hpd hmu huo hd n1 n2 H3 q4 x0 x1 x2 x3 x4 HST HDV
  go_upto_region 7 with fail
  generalize hw : w7.alloc _ = w8 at *
  generalize w7.heap.size = n6 at *
  clear hw w7
  go_wp2_with fail
  go_loopw [8, 9] (fun u _ wr => ∃ i : Nat, i ≤ l.length ∧ u = .int .i64 (i : Int) ∧ Hid (BM wr n4 l p c ∧ BM wr n6 m p6 c6 ∧ w.grownBy wr none)) (fun u _ _ => l.length - (RowKit.intOf u).toNat)
  case atStart => exact ⟨0, Nat.zero_le _, rfl, H4⟩
  case round =>
  obtain ⟨i, hi, rfl, K⟩ := hrel
  clear H4
  by_cases hlt : i < l.length
  · obtain ⟨-, g, off, rfl, -, -⟩ := rda_cells K.out.1.2.r (by omega)
    have q4 := K.out.1.cell
    obtain ⟨A, hA⟩ : ∃ A, l[i]? = some A := ⟨_, List.getElem?_eq_getElem hlt⟩
    obtain ⟨a0, a1, a2, a3, a4⟩ := rda_at K.out.1.2.r hA
    have HAR := Lib.hid (HM.out.1 A.r (HR.out A (List.mem_of_getElem? hA)))
    clear hA
    go_upto_region 11 with fail
    clear a0 a1 a2 a3 a4 q4
    have HD := Lib.hid (And.intro (K.out.1.keep (grown_drew (grown_refl wr none))) (And.intro (K.out.2.1.keep (grown_drew (grown_refl wr none))) (grown_trans K.out.2.2 (grown_drew (grown_refl wr none)))))
    clear K
    refine wp_region_held_drew (S := fun w' => Hid (BM w' n4 l (some ⟨g, off, none⟩) c ∧ BM w' n6 m p6 c6 ∧ w.grownBy w' none)) (by kernel_rfl) (HD) (fun hHeld => ?_)
    refine wpAnyH_take (i := 0) (oi := { dst := some 37, op := Op.load 25 (Operand.tmp 6), type := 25, pos := "law.go:175", after := #[], guard := none }) (v := ?_) rfl (by kernel_rfl) (by kernel_rfl) (by kernel_rfl) (fun _ _ _ h => h) (Or.inl ⟨by rfl, ?_⟩) hHeld ?_
    rotate_left 1
    · intro u hSu
      have q4 := hSu.out.1.cell
      have q6 := hSu.out.2.1.cell
      go_simp
      first | done | with_reducible rfl
    (try simp only [Act.put, List.setIfInBounds_toArray, List.set_cons_zero, List.set_cons_succ])
    refine wpAnyH_take (i := 1) (oi := { dst := some 38, op := Op.move (Operand.tmp 9), type := 3, pos := "law.go:175", after := #[], guard := none }) (v := ?_) rfl (by kernel_rfl) (by kernel_rfl) (by kernel_rfl) (fun _ _ _ h => h) (Or.inl ⟨by rfl, ?_⟩) hHeld ?_
    rotate_left 1
    · intro u hSu
      have q4 := hSu.out.1.cell
      have q6 := hSu.out.2.1.cell
      go_simp
      first | done | with_reducible rfl
    (try simp only [Act.put, List.setIfInBounds_toArray, List.set_cons_zero, List.set_cons_succ])
    refine wpAnyH_take (i := 3) (oi := { dst := some 40, op := Op.load 25 (Operand.tmp 4), type := 25, pos := "law.go:175", after := #[], guard := none }) (v := ?_) rfl (by kernel_rfl) (by kernel_rfl) (by kernel_rfl) (fun _ _ _ h => h) (Or.inl ⟨by rfl, ?_⟩) hHeld ?_
    rotate_left 1
    · intro u hSu
      have q4 := hSu.out.1.cell
      have q6 := hSu.out.2.1.cell
      go_simp
      first | done | with_reducible rfl
    (try simp only [Act.put, List.setIfInBounds_toArray, List.set_cons_zero, List.set_cons_succ])
    refine wpAnyH_take (i := 4) (oi := { dst := some 41, op := Op.move (Operand.tmp 9), type := 3, pos := "law.go:175", after := #[], guard := none }) (v := ?_) rfl (by kernel_rfl) (by kernel_rfl) (by kernel_rfl) (fun _ _ _ h => h) (Or.inl ⟨by rfl, ?_⟩) hHeld ?_
    rotate_left 1
    · intro u hSu
      have q4 := hSu.out.1.cell
      have q6 := hSu.out.2.1.cell
      go_simp
      first | done | with_reducible rfl
    (try simp only [Act.put, List.setIfInBounds_toArray, List.set_cons_zero, List.set_cons_succ])
    refine wpAnyH_ready (rs := [2]) (by kernel_rfl) (by simp) ?_
    refine AllReadyH.cons (o := { dst := some 39, op := Op.call { callee := Callee.value (Operand.func 34), args := #[Operand.tmp 37, Operand.tmp 38], argTypes := #[25, 3] }, type := 59, pos := "law.go:175", after := #[{ on := 0, ground := Ground.data }, { on := 1, ground := Ground.data }], guard := none }) rfl (fun Kz hK => ?_) AllReadyH.nil
    go_simp
    go_at_call 34
    refine (dview_any m A.r p6 c6 _ _ hHeld.out.2.1.2.r (by have := hHeld.out.2.1.2.m; omega)).mono ?_
    rintro e w7 ⟨T, rfl, hv1, hok1, hg⟩
    have hHn := Lib.hid (And.intro (hHeld.out.1.keep hg) (And.intro (hHeld.out.2.1.keep hg) (grown_trans hHeld.out.2.2 hg)))
    have HT1 := Lib.hid (And.intro hv1 hok1)
    clear hg hv1 hok1
    refine hK.out _ _ (hHn) (fun hH2 => ?_)
    clear hK Kz hHeld
    have hHeld := hH2
    clear hH2
    (try simp only [Act.put, List.setIfInBounds_toArray, List.set_cons_zero, List.set_cons_succ])
    refine wpAnyH_ready (rs := [5]) (by kernel_rfl) (by simp) ?_
    refine AllReadyH.cons (o := { dst := some 42, op := Op.call { callee := Callee.value (Operand.func 34), args := #[Operand.tmp 40, Operand.tmp 41], argTypes := #[25, 3] }, type := 59, pos := "law.go:175", after := #[{ on := 3, ground := Ground.data }, { on := 4, ground := Ground.data }, { on := 2, ground := Ground.chain }], guard := none }) rfl (fun Kz hK => ?_) AllReadyH.nil
    go_simp
    go_at_call 34
    refine (dview_any l A.r (some ⟨g, off, none⟩) c _ _ hHeld.out.1.2.r (by have := hHeld.out.1.2.m; omega)).mono ?_
    rintro e w9 ⟨U, rfl, hv2, hok2, hg⟩
    have hHn2 := Lib.hid (And.intro (hHeld.out.1.keep hg) (And.intro (hHeld.out.2.1.keep hg) (grown_trans hHeld.out.2.2 hg)))
    have HT2 := Lib.hid (And.intro (HT1.out.2.keep hg) (And.intro hok2 (And.intro (congrArg Prod.fst ((hv2.trans HAR.out.symm).trans HT1.out.1.symm)) (congrArg Prod.snd ((hv2.trans HAR.out.symm).trans HT1.out.1.symm)))))
    clear hg hv2 hok2
    refine hK.out _ _ (hHn2) (fun hH2 => ?_)
    clear hK Kz hHeld
    have hHeld := hH2
    clear hH2
    (try simp only [Act.put, List.setIfInBounds_toArray, List.set_cons_zero, List.set_cons_succ])
    refine wpAnyH_ready (rs := [6]) (by kernel_rfl) (by simp) ?_
    refine AllReadyH.cons (o := { dst := some 43, op := Op.call { callee := Callee.value (Operand.func 33), args := #[Operand.tmp 39, Operand.tmp 42], argTypes := #[59, 59] }, type := 4, pos := "law.go:175", after := #[{ on := 2, ground := Ground.data }, { on := 5, ground := Ground.data }, { on := 5, ground := Ground.chain }], guard := none }) rfl (fun Kz hK => ?_) AllReadyH.nil
    go_simp
    go_at_call 33
    refine (rsameT_any T U HT2.out.2.2.1 HT2.out.2.2.2 _ _ _ HT2.out.1 HT2.out.2.1).mono ?_
    rintro e w11 ⟨rfl, hg⟩
    have hHn3 := Lib.hid (And.intro (hHeld.out.1.keep hg) (And.intro (hHeld.out.2.1.keep hg) (grown_trans hHeld.out.2.2 hg)))
    clear hg
    refine hK.out _ _ (hHn3) (fun hH2 => ?_)
    clear hK Kz hHeld
    have hHeld := hH2
    clear hH2
    (try simp only [Act.put, List.setIfInBounds_toArray, List.set_cons_zero, List.set_cons_succ])
    refine wpAnyH_take (i := 7) (oi := { dst := some 44, op := Op.unOp UnOp.not 4 (Operand.tmp 43), type := 4, pos := "law.go:175", after := #[{ on := 6, ground := Ground.data }], guard := none }) (v := ?_) rfl (by kernel_rfl) (by kernel_rfl) (by kernel_rfl) (fun _ _ _ h => h) (Or.inl ⟨by rfl, ?_⟩) hHeld ?_
    rotate_left 1
    · intro u hSu
      have q4 := hSu.out.1.cell
      have q6 := hSu.out.2.1.cell
      go_simp
      first | done | with_reducible rfl
    (try simp only [Act.put, List.setIfInBounds_toArray, List.set_cons_zero, List.set_cons_succ])
    refine wpAnyH_done (by kernel_rfl) ?_ _
    have K4 := hHeld
    clear hHeld HD hHn hHn2 hHn3 HT1 HT2
    go_wp2_with fail
    exact ⟨⟨i + 1, by omega, congrArg _ (by omega), K4⟩, by simp only [RowKit.intOf]; omega⟩
  · have q4 := K.out.1.cell
    have q6 := K.out.2.1.cell
    go_wp2_with fail
    refine (dview_any m 50 p6 c6 _ wr K.out.2.1.2.r (by have := K.out.2.1.2.m; omega)).mono ?_
    rintro e w9 ⟨T, rfl, hv, hok, hg⟩
    rw [HM.out.2] at hv
    have hT1 : T.R.length = 1 := by rw [show T.R = [⟨X.r, X.cp⟩] from congrArg Prod.fst hv]; rfl
    rw [hT1]
    have HG := Lib.hid (grown_trans K.out.2.2 hg)
    have hfd : ∀ wz : World, (Instr.field 59 (.agg #[.slice T.pR (1 : Nat) T.cR, .slice T.pL T.L.length T.cL]) 0).run Try.prog wz = .ok (.slice T.pR (1 : Nat) T.cR) wz := fun _ => by kernel_rfl
    clear hv hok hg hT1 K q4 q6
    go_wp2_with fail
    refine (dawake_any _).mono ?_
    rintro e w10 ⟨rfl, hg⟩
    have HG2 := Lib.hid (grown_trans HG.out hg)
    clear hg HG
    go_wp2_with fail
    go_ret
    exact ⟨rfl, HG2.out⟩
end Go.Proofs.Ytnpkihioklpnmaa

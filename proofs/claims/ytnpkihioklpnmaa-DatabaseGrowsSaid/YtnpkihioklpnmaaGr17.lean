/- Parts of the proof, packed: AdRNw, DbRPu, DbRMg, DbViw, DbAwk, DbRs, DbMgM, DbCkM, DbGrM. -/
import Derived.Test.YtnpkihioklpnmaaGr15
import Derived.Test.YtnpkihioklpnmaaGr16
import Derived.Laws.Cover1
import Derived.Test.YtnpkihioklpnmaaGr14
import Derived.Test.YtnpkihioklpnmaaGr9
import Derived.Test.YtnpkihioklpnmaaGr11
import Derived.Test.YtnpkihioklpnmaaGr4
import Derived.Deep.CutBlock
/- The reference's Newer of adverts. -/
namespace Go.Proofs.Ytnpkihioklpnmaa
open Go.RowKit Bs
set_option maxRecDepth 100000 in
set_option maxHeartbeats 6400000 in
theorem rnewer_any (A B : Ad) (q q2 : Nat → Prop) (w : World) (hA : AdOk w q A) (hB : AdOk w q2 B) :
    Calls Try.prog 30 #[A.val, B.val] w fun e w' => e = .returned (.bool (nwA A B)) ∧ w.grownBy w' none := by
  have HZ := Lib.hid (two_ads w A B)
  have HOK : Hid (TwoA _ A B q q2) := Lib.hid ⟨hA.keep HZ.out.2, hB.keep HZ.out.2⟩
  have HB := Lib.hid HZ.out.1
  have K := Lib.hid HZ.out.2
  clear HZ hA hB
  obtain ⟨X, hX⟩ : ∃ X, nwA A B = X := ⟨_, rfl⟩
  rw [hX]
  have HX := Lib.hid hX
  clear hX
  unfold Ad.val
  go_enter Try.func30, Try.ntmps30
  go_upto_region 1 with fail
  unfold adC at HB K HOK
  generalize (w.alloc _).alloc _ = wa at *
  have HB : Hid (wa.heap[w.heap.size]? = some (.cells (adC A) 38 (0, 0)) ∧ wa.heap[w.heap.size + 1]? = some (.cells (adC B) 38 (0, 0))) := HB
  have GZ : Hid (wa.grownBy wa none) := Lib.hid (grown_refl _ _)
  obtain ⟨a0, a1, a2, a3, a4, b0, b1, b2, b3, b4, -⟩ := keepTA HB.out GZ
  go_wp2_with fail
  refine (rvalidA_any A q _ HOK.out.a).mono ?_
  rintro e w1 ⟨rfl, hg⟩
  have G1 := Lib.hid hg
  clear hg a0 a1 a2 a3 a4 b0 b1 b2 b3 b4
  obtain ⟨a0, a1, a2, a3, a4, b0, b1, b2, b3, b4, -⟩ := keepTA HB.out G1
  obtain ⟨v1, hv1⟩ : ∃ v, vAd A = v := ⟨_, rfl⟩
  have HV1 := Lib.hid hv1
  rw [hv1]
  clear hv1
  cases v1 with
  | false =>
    obtain rfl : X = false := by rw [← HX.out]; unfold nwA; rw [HV1.out]; rfl
    go_wp2_with fail
    go_ret
    exact ⟨rfl, grown_trans K.out G1.out⟩
  | true =>
    go_wp2_with fail
    refine (rvalidA_any B q2 _ (HOK.out.b.keep G1.out)).mono ?_
    rintro e w2 ⟨rfl, hg⟩
    have G2 := Lib.hid (grown_trans G1.out hg)
    clear hg a0 a1 a2 a3 a4 b0 b1 b2 b3 b4
    obtain ⟨a0, a1, a2, a3, a4, b0, b1, b2, b3, b4, -⟩ := keepTA HB.out G2
    obtain ⟨v2, hv2⟩ : ∃ v, vAd B = v := ⟨_, rfl⟩
    have HV2 := Lib.hid hv2
    rw [hv2]
    clear hv2
    cases v2 with
    | false =>
      obtain rfl : X = false := by rw [← HX.out]; unfold nwA; rw [HV1.out, HV2.out]; rfl
      go_wp2_with fail
      go_ret
      exact ⟨rfl, grown_trans K.out G2.out⟩
    | true =>
      by_cases h : A.r = B.r
      · have h' : (A.r == B.r) = true := by simpa using h
        have HXE := Lib.hid ((nwA_ref HV1.out HV2.out h).symm.trans HX.out)
        clear HX h
        go_wp2_with fail
        refine (raenc_any A q _ (HOK.out.a.keep G2.out)).mono ?_
        rintro e w3 (⟨-, p3, c3, rfl, hR3, hp3, hg⟩ | ⟨hv, -⟩)
        rotate_left
        · rw [HV1.out] at hv; cases hv
        have G3 := Lib.hid (grown_trans G2.out hg)
        have HR3 := Lib.hid (And.intro hR3 hp3)
        clear hg a0 a1 a2 a3 a4 b0 b1 b2 b3 b4 hR3 hp3
        obtain ⟨a0, a1, a2, a3, a4, b0, b1, b2, b3, b4, -⟩ := keepTA HB.out G3
        go_wp2_with fail
        refine (raenc_any B q2 _ (HOK.out.b.keep G3.out)).mono ?_
        rintro e w4 (⟨-, p4, c4, rfl, hR4, hp4, hg⟩ | ⟨hv, -⟩)
        rotate_left
        · rw [HV2.out] at hv; cases hv
        have G4 := Lib.hid (grown_trans G3.out hg)
        have E1 := conv_nv (l := encA A) (k := (encA A).length) (pk_by _) rfl (HR3.out.1.keep hg) HR3.out.2
        have E2 := conv_nv (l := encA B) (k := (encA B).length) (pk_by _) rfl hR4 hp4
        clear hg a0 a1 a2 a3 a4 b0 b1 b2 b3 b4 hR4 hp4 HR3
        obtain ⟨a0, a1, a2, a3, a4, b0, b1, b2, b3, b4, -⟩ := keepTA HB.out G4
        obtain ⟨l, hl⟩ : ∃ l, encA A = l := ⟨_, rfl⟩
        obtain ⟨m, hm⟩ : ∃ m, encA B = m := ⟨_, rfl⟩
        rw [hl, hm] at HXE
        rw [hl] at E1 ⊢
        rw [hm] at E2 ⊢
        clear hl hm
        by_cases h1 : B.q < A.q
        · obtain rfl : X = true := by rw [← HXE.out, decide_eq_true h1]; rfl
          have h2 : A.q > B.q := h1
          have hd : decide (B.q < A.q) = true := decide_eq_true h1
          go_wp2_with fail
          go_ret
          exact ⟨rfl, grown_trans K.out G4.out⟩
        · by_cases h2 : A.q = B.q
          · have h2' : (A.q == B.q) = true := by simpa using h2
            have hd : decide (B.q < A.q) = false := decide_eq_false h1
            obtain ⟨g, hg⟩ : ∃ g, gtS l m = g := ⟨_, rfl⟩
            obtain rfl : X = g := by rw [← HXE.out, decide_eq_false h1, decide_eq_true h2, hg]; simp
            unfold gtS at hg
            have HGG := Lib.hid hg
            clear hg
            go_wp2_with fail
            go_ret
            exact ⟨by rw [← HGG.out, Bool.not_or]; rfl, grown_trans K.out G4.out⟩
          · have h2' : (A.q == B.q) = false := by simpa using h2
            have hd : decide (B.q < A.q) = false := decide_eq_false h1
            obtain rfl : X = false := by rw [← HXE.out, decide_eq_false h1, decide_eq_false h2]; rfl
            go_wp2_with fail
            go_ret
            exact ⟨rfl, grown_trans K.out G4.out⟩
      · have h' : (A.r == B.r) = false := by simpa using h
        obtain rfl : X = false := by rw [← HX.out]; unfold nwA; rw [HV1.out, HV2.out, decide_eq_false h]; rfl
        clear h
        go_wp2_with fail
        go_ret
        exact ⟨rfl, grown_trans K.out G2.out⟩
end Go.Proofs.Ytnpkihioklpnmaa

/- The reference's Put. -/
namespace Go.Proofs.Ytnpkihioklpnmaa
open Go.RowKit Bs
section
variable {W w w1 : World} {l : List Ad} {p : Option Addr} {c : Nat} {A B : Ad} {q : Nat → Prop} {u v v' : Value}
end
end Go.Proofs.Ytnpkihioklpnmaa

/- The reference's Merge. -/
namespace Go.Proofs.Ytnpkihioklpnmaa
open Go.RowKit Bs
set_option maxRecDepth 100000 in
theorem RdA.and {w : World} {q : Nat → Prop} {v : Value} {l : List Ad} (h : RdA w q v l) : RdA w (fun b => q b ∧ b < w.heap.size) v l := ⟨rdf_and h.row, fun A hA => (h.ok A hA).and, h.nl⟩
section
variable {W w w1 : World} {m m2 b : List Ad} {p p2 p3 : Option Addr} {c c2 c3 : Nat} {q : Nat → Prop}
end
end Go.Proofs.Ytnpkihioklpnmaa

/- database.View: the topology around a router. -/
namespace Go.Proofs.Ytnpkihioklpnmaa
open Go.RowKit Bs
set_option maxRecDepth 100000 in
set_option maxHeartbeats 12800000 in
theorem dview_any (l : List Ad) (r : Int) (p : Option Addr) (c : Nat) (q : Nat → Prop) (w : World) (hR : RdA w q (.slice p l.length c) l) (hm : l.length ≤ 9223372036854775807) :
    Calls Try.prog 34 #[.agg #[.slice p l.length c], .int .i64 r] w fun e w' => VwPost l r w e w' := by
  obtain ⟨ir, hir, hr0, hr1, hr2⟩ := info_parts info_rtV
  obtain ⟨il, hil, hl0, hl1, hl2⟩ := info_parts info_lkV
  obtain ⟨k1, k2, k3, -⟩ := two_boxes w #[.slice p l.length c] #[.slice none 0 0, .slice none 0 0] 25 59
  have H0 := Lib.hid (And.intro k1 (And.intro k2 (And.intro k3 ((RdA.old hR).keep k3))))
  clear k1 k2 k3 hR
  go_enter Try.func34, Try.ntmps34
  go_upto_region 1 with fail
  generalize World.alloc (w.alloc _) _ = wa at *
  have c0 : wa.cell? ⟨w.heap.size, 0, none⟩ = some (.slice p l.length c) := cell_of_row _ _ _ _ _ _ H0.out.1
  go_wp2_with fail
  refine (dvalid_any l p c _ wa H0.out.2.2.2 hm).mono ?_
  rintro e w1 ⟨rfl, hg⟩
  have H1 := Lib.hid (And.intro (kept_row H0.out.1 hg (by simp)) (And.intro (kept_row H0.out.2.1 hg (by simp)) (And.intro (grown_trans H0.out.2.2.1 hg) (H0.out.2.2.2.keep hg))))
  clear hg H0 c0
  obtain ⟨ov, hov⟩ : ∃ ov, okD l = ov := ⟨_, rfl⟩
  rw [hov]
  cases ov with
  | false =>
    have HV : Hid (viewV l r = ([], [])) := Lib.hid (by unfold viewV; rw [if_neg (by rw [hov]; decide)])
    clear hov
    have z0 := cell_of_row _ _ 0 _ _ _ H1.out.2.1
    have z1 := cell_of_row _ _ 1 _ _ _ H1.out.2.1
    have f0 := frozen_of_row _ _ 0 _ _ H1.out.2.1
    have f1 := frozen_of_row _ _ 1 _ _ H1.out.2.1
    obtain ⟨t1, t2⟩ := store2c (.slice none 0 0) (.slice none 0 0) H1.out.2.1
    have HT := Lib.hid (And.intro t1 (grown_new H1.out.2.2.1 t2 (by omega)))
    clear t1 t2 H1
    go_wp2_with fail
    refine bodyPost_ret (res_topoV rfl _ _ (w.heap.size + 1) _ _ rfl HT.out.1) rfl ?_
    exact vw_no HV.out HT.out.2
  | true =>
  have HOV : Hid (OkD l) := Lib.hid (chk_OkD (by unfold okD at hov; simpa using hov))
  have HVW : Hid (viewV l r = if chk (vwR l (reS l r)) (vwL l (reS l r)) = 0 then (vwR l (reS l r), vwL l (reS l r)) else ([], [])) := Lib.hid (by unfold viewV; rw [if_pos hov])
  have HP := Lib.hid HOV.out.pair
  have hll := HOV.out.len
  have HRNG : Hid (∀ A ∈ l, (1 ≤ A.r ∧ A.r ≤ 99) ∧ A.L.length ≤ 23) := Lib.hid (fun A hA => ⟨(VA.of (HOV.out.v A hA)).r, (VA.of (HOV.out.v A hA)).ll⟩)
  clear hov
  have c0 : w1.cell? ⟨w.heap.size, 0, none⟩ = some (.slice p l.length c) := cell_of_row _ _ _ _ _ _ H1.out.1
  go_wp2_with fail
  refine (dreached_any l r p c _ w1 H1.out.2.2.2 HOV.out).mono ?_
  rintro e w2 ⟨vm, rfl, hmv, hg⟩
  obtain ⟨S, hS⟩ : ∃ S, reS l r = S := ⟨_, rfl⟩
  rw [hS] at hmv HVW
  have g2 := grown_trans H1.out.2.2.1 hg
  have ga := World.grownBy_alloc w2 (.cells #[.slice none 0 0, .slice none 0 0] 59) none
  have hsz2 : w.heap.size + 1 < w2.heap.size := World.lt_of_row' (kept_row H1.out.2.1 hg (by simp))
  have hsz1 := H1.out.2.2.1.size
  have K0 : Hid (VS w l p c w2.heap.size S vm (.slice none 0 0) (.slice none 0 0) (.slice none 0 0) (.slice none 0 0) [] [] (w2.alloc (.cells #[.slice none 0 0, .slice none 0 0] 59))) := Lib.hid
    ⟨(H1.out.2.2.2.keep hg).keep ga, kept_row (kept_row H1.out.1 hg (by simp)) ga (by simp), kept_row (kept_row H1.out.2.1 hg (by simp)) ga (by simp), heap_alloc_new w2 _, World.ownsRow_nil _ _ _ _, World.ownsRow_nil _ _ _ _, (fun g h => by cases h),
      (hmv.mono (q' := fun b => w.heap.size ≤ b ∧ b < w2.heap.size) (fun b hb hlt => ⟨by omega, hlt⟩)).keep ga, hsz2, World.lt_of_row' (heap_alloc_new w2 _), grown_trans g2 ga⟩
  clear H1 c0 hS hmv hg g2 ga hsz1 hsz2
  go_upto_region 5 with fail
  generalize w2.alloc _ = w3 at *
  generalize w2.heap.size = B at *
  have c0 : w3.cell? ⟨w.heap.size, 0, none⟩ = some (.slice p l.length c) := cell_of_row _ _ _ _ _ _ K0.out.d
  go_wp2_with fail
  clear c0
  go_loopw [22] (fun a wr => ∃ (k : Nat) (vR vL : Value) (R : List Rt) (L : List Lk), k ≤ l.length ∧ a = .int .i64 (k : Int) ∧ R.length ≤ k ∧ L.length ≤ 23 * k ∧ Hid (((l.take k).filter (inV S)).map toR = R ∧ ((l.take k).filter (inV S)).flatMap (vL1 l) = L) ∧ Hid (VS w l p c B S vm vR vL vR vL R L wr)) (fun a _ => l.length - (RowKit.intOf a).toNat)
  case atStart => exact ⟨0, _, _, [], [], Nat.zero_le _, rfl, Nat.le_refl _, Nat.zero_le _, Lib.hid ⟨rfl, rfl⟩, K0⟩
  case round =>
  obtain ⟨k, vR, vL, R, L, hk, rfl, hRk, hLk, HI, K⟩ := hrel
  clear K0
  by_cases hlt : k < l.length
  · obtain ⟨-, b1, off1, rfl, -, -⟩ := rda_cells K.out.db (by omega)
    obtain ⟨A, hA⟩ : ∃ A, l[k]? = some A := ⟨_, List.getElem?_eq_getElem hlt⟩
    obtain ⟨a0, a1, a2, a3, a4⟩ := rda_at K.out.db hA
    have HAM := Lib.hid (List.mem_of_getElem? hA)
    have HST := Lib.hid (vw_step (S := S) hA)
    have hAI : I64 A.r := by have := (HRNG.out A HAM.out).1; unfold I64; omega
    have hAL := (HRNG.out A HAM.out).2
    have gal := World.grownBy_alloc wr (.cells #[.int .i64 A.r, .int .i64 A.q, .bool A.cp, .slice A.pL A.L.length A.cL, .slice A.pC A.C.length A.cC] 38) none
    have KB : Hid (VB w l (some ⟨b1, off1, none⟩) c B S vm vR vL vR vL R L A wr.heap.size (wr.alloc (.cells #[.int .i64 A.r, .int .i64 A.q, .bool A.cp, .slice A.pL A.L.length A.cL, .slice A.pC A.C.length A.cC] 38))) := Lib.hid
      ⟨K.out.keep gal, heap_alloc_new wr _, fun e => by have := (K.out.oR.lt _ e).2; omega, fun e => by have := (K.out.oL.lt _ e).2; omega, K.out.sz, World.lt_of_row' (heap_alloc_new wr _)⟩
    clear hA gal K
    go_upto_region 8 with fail
    clear a0 a1 a2 a3 a4
    generalize wr.alloc _ = wy at *
    generalize wr.heap.size = X at *
    obtain ⟨d0, d1, d2, d3, d4⟩ := row5 KB.out.a
    have hlook := KB.out.s.mp.look hAI
    obtain ⟨bs, hbs⟩ : ∃ bs, inS S A.r = bs := ⟨_, rfl⟩
    rw [hbs] at hlook
    cases bs with
    | false =>
      have HN : Hid (((l.take (k + 1)).filter (inV S)).map toR = R ∧ ((l.take (k + 1)).filter (inV S)).flatMap (vL1 l) = L) := Lib.hid (by rw [HST.out.1, HST.out.2, hbs, HI.out.1, HI.out.2]; simp)
      have KN := Lib.hid KB.out.s
      clear hbs KB
      go_wp2_with fail
      exact ⟨⟨k + 1, vR, vL, R, L, by omega, congrArg _ (by omega), by omega, by omega, HN, KN⟩, by simp only [RowKit.intOf]; omega⟩
    | true =>
      have HN : Hid (((l.take (k + 1)).filter (inV S)).map toR = R ++ [toR A] ∧ ((l.take (k + 1)).filter (inV S)).flatMap (vL1 l) = L ++ vL1 l A) := Lib.hid (by rw [HST.out.1, HST.out.2, hbs, HI.out.1, HI.out.2]; simp)
      clear hbs HST HI
      go_upto_region 9 with fail
      clear hlook
      obtain ⟨b0, b2⟩ := row_cells KB.out.s.t
      go_wp2_with (at_builtin; refine hold_on ?_)
      refine Lib.hid ?_
      have gr2 := World.grownBy_alloc wy (.cells #[.int .i64 A.r, .bool A.cp] 69) none
      have KC := Lib.hid (KB.out.keep gr2)
      clear gr2
      refine wpList_append_own_at _ rfl _ _ 56 rfl (B + 1) 69 ir (.agg #[.int .i64 0, .bool false]) 2 16 Try.underlying56 hir hr0 hr1 hr2 rfl (by decide) vR R.length (R.flatMap rtC) (by rfl) KC.out.s.oR ⟨wy.heap.size, 0, none⟩ 1 1 (rtC (toR A)) (by rfl) rfl (cells2V _ _ _ _) (rtV_one _) (by unfold maxLen; omega) (by omega) (by have := KC.out.s.sz; omega) ?_
      intro v' w9 hown hg _ hat
      have hfl : R.flatMap rtC ++ rtC (toR A) = (R ++ [toR A]).flatMap rtC := by rw [List.flatMap_append, List.flatMap_cons, List.flatMap_nil, List.append_nil]
      have hRl : (R ++ [toR A]).length = R.length + 1 := by rw [List.length_append]; rfl
      obtain ⟨p5, c5, rfl, -, -⟩ := own_shape hown
      have hown2 : w9.ownsRow (B + 1) 69 2 (.slice p5 (R.length + 1) c5) (R ++ [toR A]).length ((R ++ [toR A]).flatMap rtC) := by rw [hRl, ← hfl]; exact hown
      have K9 := Lib.hid (KC.out.addR hown2 hg hat)
      clear hown hown2 hRl hg hat hfl KB KC b0 b2 d0 d1 d2 d3 d4
      simp only [Act.put, List.setIfInBounds_toArray, List.set_cons_zero, List.set_cons_succ]
      obtain ⟨b0, b2⟩ := row_cells K9.out.s.t
      have f0 := frozen_of_row _ _ 0 _ _ K9.out.s.t
      have K10 := Lib.hid K9.out.putR
      go_upto_region 10 with fail
      clear b0 b2 f0 K9
      generalize w9.setCell _ _ = w10 at *
      obtain ⟨d0, d1, d2, d3, d4⟩ := row5 K10.out.a
      have c0 : w10.cell? ⟨w.heap.size, 0, none⟩ = some (.slice (some ⟨b1, off1, none⟩) l.length c) := cell_of_row _ _ _ _ _ _ K10.out.s.d
      go_wp2_with fail
      refine (dlinked_any l A (some ⟨b1, off1, none⟩) c _ w10 K10.out.s.db (K10.out.s.db.ok A HAM.out) HP.out (by omega) (by omega)).mono ?_
      rintro e w5 ⟨pm, cm, rfl, hM, hMl, hg⟩
      have hlen := lnk_len l A
      have HVL : Hid (vL1 l A = ((lnk l A).filter (ltA A)).map (btw A)) := Lib.hid rfl
      obtain ⟨M, hMM⟩ : ∃ M, lnk l A = M := ⟨_, rfl⟩
      rw [hMM] at hM hMl hlen HVL ⊢
      have HMM := Lib.hid hMM
      have C0 : Hid (VI w l (some ⟨b1, off1, none⟩) c B S vm (.slice p5 (R.length + 1) c5) vL (.slice p5 (R.length + 1) c5) vL (R ++ [toR A]) L A X pm cm M w10.heap.size w5.heap.size w5) := Lib.hid ⟨K10.out.keep hg, hM, fun g h => .inl (K10.out.s.oL.lt g h).2, K10.out.s.sz, Nat.le_refl _⟩
      clear hM hg hMM d0 d1 d2 d3 d4 c0 K10
      generalize w10.heap.size = h7 at *
      generalize w5.heap.size = h8 at *
      have hMx : M.length ≤ 23 := by omega
      clear hlen
      go_wp2_with fail
      go_loopw [46] (fun a wq => ∃ (j : Nat) (vL2 : Value) (L2 : List Lk), j ≤ M.length ∧ a = .int .i64 (j : Int) ∧ L2.length ≤ L.length + j ∧ Hid (L ++ ((M.take j).filter (ltA A)).map (btw A) = L2) ∧ Hid (VI w l (some ⟨b1, off1, none⟩) c B S vm (.slice p5 (R.length + 1) c5) vL2 (.slice p5 (R.length + 1) c5) vL2 (R ++ [toR A]) L2 A X pm cm M h7 h8 wq)) (fun a _ => M.length - (RowKit.intOf a).toNat)
      case atStart => exact ⟨0, vL, L, Nat.zero_le _, rfl, Nat.le_refl _, Lib.hid (by simp), C0⟩
      case round =>
      obtain ⟨j, vL2, L2, hj, rfl, hL2, HL, C⟩ := hrel
      clear C0
      by_cases hlt2 : j < M.length
      · obtain ⟨-, bm, offm, rfl, -, -⟩ := RdF.cells (f := adL) (k := 5) adL_len (by decide) C.out.m (by omega)
        obtain ⟨x, hx⟩ : ∃ x, M[j]? = some x := ⟨_, List.getElem?_eq_getElem hlt2⟩
        have hcx : wr.cell? ⟨bm, offm + j * 5, none⟩ = some (.int .i64 x.r) ∧ wr.cell? ⟨bm, offm + j * 5 + 1, none⟩ = some (.int .i64 x.q) ∧ wr.cell? ⟨bm, offm + j * 5 + 2, none⟩ = some (.bool x.cp) ∧ wr.cell? ⟨bm, offm + j * 5 + 3, none⟩ = some (.slice x.pL x.L.length x.cL) ∧ wr.cell? ⟨bm, offm + j * 5 + 4, none⟩ = some (.slice x.pC x.C.length x.cC) := by
          obtain ⟨-, b', o', e, -, hc⟩ := RdF.cells (f := adL) (k := 5) adL_len (by decide) C.out.m (by omega)
          injection e with e
          injection e with e1 e2
          subst e1
          subst e2
          exact ⟨hc j x hx 0 _ rfl, hc j x hx 1 _ rfl, hc j x hx 2 _ rfl, hc j x hx 3 _ rfl, hc j x hx 4 _ rfl⟩
        obtain ⟨a0, a1, a2, a3, a4⟩ := hcx
        have hxm : x ∈ l := by
          have := List.mem_of_getElem? hx
          rw [← HMM.out] at this
          exact lnk_mem this
        have HXM := Lib.hid hxm
        have HFS := Lib.hid (flt_step (A := A) hx)
        have gal := World.grownBy_alloc wr (.cells #[.int .i64 x.r, .int .i64 x.q, .bool x.cp, .slice x.pL x.L.length x.cL, .slice x.pC x.C.length x.cC] 38) none
        have C1 : Hid (VI w l (some ⟨b1, off1, none⟩) c B S vm (.slice p5 (R.length + 1) c5) vL2 (.slice p5 (R.length + 1) c5) vL2 (R ++ [toR A]) L2 A X (some ⟨bm, offm, none⟩) cm M h7 h8 (wr.alloc (.cells #[.int .i64 x.r, .int .i64 x.q, .bool x.cp, .slice x.pL x.L.length x.cL, .slice x.pC x.C.length x.cC] 38)) ∧ (wr.alloc (.cells #[.int .i64 x.r, .int .i64 x.q, .bool x.cp, .slice x.pL x.L.length x.cL, .slice x.pC x.C.length x.cC] 38)).heap[wr.heap.size]? = some (.cells #[.int .i64 x.r, .int .i64 x.q, .bool x.cp, .slice x.pL x.L.length x.cL, .slice x.pC x.C.length x.cC] 38 (0, 0))) := Lib.hid ⟨C.out.keep gal, heap_alloc_new wr _⟩
        clear hx hxm gal C
        go_upto_region 13 with fail
        clear a0 a1 a2 a3 a4
        generalize wr.alloc _ = wy at *
        generalize wr.heap.size = Y at *
        obtain ⟨d0, d1, d2, d3, d4⟩ := row5 C1.out.1.b.a
        obtain ⟨e0, e1, e2, e3, e4⟩ := row5 C1.out.2
        by_cases hlr : A.r < x.r
        · have HF : Hid (L ++ ((M.take (j + 1)).filter (ltA A)).map (btw A) = L2 ++ [btw A x]) := Lib.hid (by rw [HFS.out, if_pos hlr, ← List.append_assoc, HL.out])
          clear HFS HL
          go_upto_region 14 with fail
          have HD := Lib.hid (And.intro (C1.out.1.keep (grown_drew (grown_refl wy none))) (kept_row C1.out.2 (grown_drew (grown_refl wy none)) (by simp)))
          clear C1 d0 d1 d2 d3 d4 e0 e1 e2 e3 e4
          refine region_until (S := fun w' => Hid (VI w l (some ⟨b1, off1, none⟩) c B S vm (.slice p5 (R.length + 1) c5) vL2 (.slice p5 (R.length + 1) c5) vL2 (R ++ [toR A]) L2 A X (some ⟨bm, offm, none⟩) cm M h7 h8 w' ∧ w'.heap[Y]? = some (.cells #[.int .i64 x.r, .int .i64 x.q, .bool x.cp, .slice x.pL x.L.length x.cL, .slice x.pC x.C.length x.cC] 38 (0, 0)))) (fun j => j == 6 || j == 7 || j == 8) (by kernel_rfl) (HD) (fun hHeld => ?_)
          refine anyU_take (i := 0) (oi := { dst := some 55, op := Op.fieldAddr 59 (Operand.tmp 6) 1, type := 0, pos := "database.go:76", after := #[], guard := none }) (v := ?_) rfl (by kernel_rfl) (by kernel_rfl) (by kernel_rfl) (by kernel_rfl) (by kernel_rfl) (fun _ _ _ h => h) (Or.inl ⟨by rfl, ?_⟩) hHeld ?_
          rotate_left 1
          · intro u hSu
            obtain ⟨b0, b2⟩ := row_cells hSu.out.1.b.s.t
            obtain ⟨d0, d1, d2, d3, d4⟩ := row5 hSu.out.1.b.a
            obtain ⟨e0, e1, e2, e3, e4⟩ := row5 hSu.out.2
            go_simp
            first | done | with_reducible rfl
          (try simp only [Act.put, List.setIfInBounds_toArray, List.set_cons_zero, List.set_cons_succ])
          refine anyU_take (i := 1) (oi := { dst := some 56, op := Op.load 57 (Operand.tmp 55), type := 57, pos := "database.go:76", after := #[{ on := 0, ground := Ground.data }], guard := none }) (v := ?_) rfl (by kernel_rfl) (by kernel_rfl) (by kernel_rfl) (by kernel_rfl) (by kernel_rfl) (fun _ _ _ h => h) (Or.inl ⟨by rfl, ?_⟩) hHeld ?_
          rotate_left 1
          · intro u hSu
            obtain ⟨b0, b2⟩ := row_cells hSu.out.1.b.s.t
            obtain ⟨d0, d1, d2, d3, d4⟩ := row5 hSu.out.1.b.a
            obtain ⟨e0, e1, e2, e3, e4⟩ := row5 hSu.out.2
            go_simp
            first | done | with_reducible rfl
          (try simp only [Act.put, List.setIfInBounds_toArray, List.set_cons_zero, List.set_cons_succ])
          refine anyU_take (i := 2) (oi := { dst := some 57, op := Op.load 38 (Operand.tmp 8), type := 38, pos := "database.go:76", after := #[], guard := none }) (v := ?_) rfl (by kernel_rfl) (by kernel_rfl) (by kernel_rfl) (by kernel_rfl) (by kernel_rfl) (fun _ _ _ h => h) (Or.inl ⟨by rfl, ?_⟩) hHeld ?_
          rotate_left 1
          · intro u hSu
            obtain ⟨b0, b2⟩ := row_cells hSu.out.1.b.s.t
            obtain ⟨d0, d1, d2, d3, d4⟩ := row5 hSu.out.1.b.a
            obtain ⟨e0, e1, e2, e3, e4⟩ := row5 hSu.out.2
            go_simp
            first | done | with_reducible rfl
          (try simp only [Act.put, List.setIfInBounds_toArray, List.set_cons_zero, List.set_cons_succ])
          refine anyU_take (i := 3) (oi := { dst := some 58, op := Op.load 38 (Operand.tmp 10), type := 38, pos := "database.go:76", after := #[], guard := none }) (v := ?_) rfl (by kernel_rfl) (by kernel_rfl) (by kernel_rfl) (by kernel_rfl) (by kernel_rfl) (fun _ _ _ h => h) (Or.inl ⟨by rfl, ?_⟩) hHeld ?_
          rotate_left 1
          · intro u hSu
            obtain ⟨b0, b2⟩ := row_cells hSu.out.1.b.s.t
            obtain ⟨d0, d1, d2, d3, d4⟩ := row5 hSu.out.1.b.a
            obtain ⟨e0, e1, e2, e3, e4⟩ := row5 hSu.out.2
            go_simp
            first | done | with_reducible rfl
          (try simp only [Act.put, List.setIfInBounds_toArray, List.set_cons_zero, List.set_cons_succ])
          refine anyU_ready (rs := [4]) (by kernel_rfl) (by simp) ?_
          refine EachU.cons (o := { dst := some 59, op := Op.call { callee := Callee.value (Operand.func 67), args := #[Operand.tmp 57, Operand.tmp 58], argTypes := #[38, 38] }, type := 71, pos := "database.go:76", after := #[{ on := 2, ground := Ground.data }, { on := 3, ground := Ground.data }], guard := none }) rfl (fun Kz hK => ?_) EachU.nil
          go_simp
          go_at_call 67
          refine (dbtw_any A x _ _ _ (hHeld.out.1.b.s.db.ok A HAM.out) (hHeld.out.1.b.s.db.ok x HXM.out)).mono ?_
          rintro e w5 ⟨rfl, hg⟩
          have hHn := Lib.hid (And.intro (hHeld.out.1.keep hg) (kept_row hHeld.out.2 hg (by simp)))
          clear hg
          refine hK.out _ _ (fun _ => hHn) (fun hH2 => ?_)
          clear hK Kz hHeld
          have hHeld := hH2 rfl
          clear hH2
          (try simp only [Act.put, List.setIfInBounds_toArray, List.set_cons_zero, List.set_cons_succ])
          refine anyU_ready (rs := [5]) (by kernel_rfl) (by simp) ?_
          refine EachU.cons (o := { dst := some 60, op := Op.buildSlice 57 1 #[(0, Operand.tmp 59)], type := 57, pos := "database.go:76", after := #[{ on := 4, ground := Ground.data }], guard := none }) rfl (fun Kz hK => ?_) EachU.nil
          go_simp
          have hHn := Lib.hid (And.intro (hHeld.out.1.keep (World.grownBy_alloc _ (.cells #[.int .i64 (btw A x).a, .int .i64 (btw A x).b, .int .i64 (btw A x).ca, .int .i64 (btw A x).cb, .int .i64 (btw A x).cp] 71) none)) (kept_row hHeld.out.2 (World.grownBy_alloc _ (.cells #[.int .i64 (btw A x).a, .int .i64 (btw A x).b, .int .i64 (btw A x).ca, .int .i64 (btw A x).cb, .int .i64 (btw A x).cp] 71) none) (by simp)))
          refine hK.out _ _ (fun _ => hHn) (fun hH2 => ?_)
          clear hK Kz hHeld
          have hHeld := hH2 rfl
          clear hH2
          (try simp only [Act.put, List.setIfInBounds_toArray, List.set_cons_zero, List.set_cons_succ])
          refine anyU_ready (rs := [6]) (by kernel_rfl) (by simp) ?_
          refine EachU.cons (o := { dst := some 61, op := Op.call { callee := Callee.builtin Builtin.append, args := #[Operand.tmp 56, Operand.tmp 60], argTypes := #[57, 57] }, type := 57, pos := "database.go:76", after := #[{ on := 1, ground := Ground.data }, { on := 5, ground := Ground.data }, { on := 4, ground := Ground.chain }], guard := none }) rfl (fun Kz hK => ?_) EachU.nil
          refine (astep_app lkC 5 40 (by decide) (fun _ => rfl) lkV_one 71 57 il _ Try.underlying57 hil hl0 hl1 hl2 rfl (by decide) (by rfl) _ _ (by rfl) (B + 1) vL2 L2 (by rfl) hHeld.out.1.b.s.oL (some ⟨_, 0, none⟩) 1 1 [btw A x] (by rfl) rfl (by simp) (fun _ => True) (rdf_one _ trivial (cells5V _ _ _ _ _ _ _) 1) (by omega) (by simp; omega) (by have := hHeld.out.1.b.s.sz; omega) ?_)
          intro p4 c4 w8 hown hg hat
          have HD5 := Lib.hid (hHeld.out.1.addL (L2 := L2 ++ [btw A x]) hown hg hat)
          obtain ⟨b0, b2⟩ := row_cells HD5.out.b.s.t
          have fB := frozen_of_row _ _ 1 _ _ HD5.out.b.s.t
          clear hown hg hat
          refine hK.out _ _ (fun h => by cases h) (fun _ => ?_)
          clear hK Kz
          (try simp only [Act.put, List.setIfInBounds_toArray, List.set_cons_zero, List.set_cons_succ])
          refine anyU_ready (rs := [7]) (by kernel_rfl) (by simp) ?_
          refine EachU.cons (o := { dst := some 62, op := Op.fieldAddr 59 (Operand.tmp 6) 1, type := 0, pos := "database.go:76", after := #[{ on := 0, ground := Ground.phase }, { on := 1, ground := Ground.phase }, { on := 2, ground := Ground.phase }, { on := 3, ground := Ground.phase }, { on := 4, ground := Ground.phase }, { on := 5, ground := Ground.phase }, { on := 6, ground := Ground.phase }], guard := none }) rfl (fun Kz hK => ?_) EachU.nil
          go_simp
          refine hK.out _ _ (fun h => by cases h) (fun _ => ?_)
          clear hK Kz
          (try simp only [Act.put, List.setIfInBounds_toArray, List.set_cons_zero, List.set_cons_succ])
          refine anyU_ready (rs := [8]) (by kernel_rfl) (by simp) ?_
          refine EachU.cons (o := { dst := none, op := Op.store 57 (Operand.tmp 62) (Operand.tmp 61), type := 0, pos := "database.go:76", after := #[{ on := 7, ground := Ground.data }, { on := 6, ground := Ground.data }, { on := 6, ground := Ground.chain }, { on := 0, ground := Ground.phase }, { on := 1, ground := Ground.phase }, { on := 2, ground := Ground.phase }, { on := 3, ground := Ground.phase }, { on := 4, ground := Ground.phase }, { on := 5, ground := Ground.phase }, { on := 6, ground := Ground.phase }], guard := none }) rfl (fun Kz hK => ?_) EachU.nil
          go_simp
          refine hK.out _ _ (fun h => by cases h) (fun _ => ?_)
          clear hK Kz
          (try simp only [Act.put, List.setIfInBounds_toArray, List.set_cons_zero, List.set_cons_succ])
          refine anyU_done (by kernel_rfl) ?_ _
          have HN2 := Lib.hid HD5.out.putL
          clear HD5 HD b0 b2 fB
          go_wp2_with fail
          exact ⟨⟨j + 1, _, L2 ++ [btw A x], by omega, congrArg _ (by omega), by rw [List.length_append]; simp; omega, HF, HN2⟩, by simp only [RowKit.intOf]; omega⟩
        · have HF : Hid (L ++ ((M.take (j + 1)).filter (ltA A)).map (btw A) = L2) := Lib.hid (by rw [HFS.out, if_neg hlr, List.append_nil, HL.out])
          have C2 := Lib.hid C1.out.1
          clear HFS HL C1
          go_wp2_with fail
          exact ⟨⟨j + 1, vL2, L2, by omega, congrArg _ (by omega), by omega, HF, C2⟩, by simp only [RowKit.intOf]; omega⟩
      · obtain rfl : j = M.length := by omega
        have hL9 := HL.out
        rw [List.take_length, ← HVL.out] at hL9
        have KN := Lib.hid C.out.b.s
        rw [hL9] at HN
        have hRl : (R ++ [toR A]).length = R.length + 1 := by rw [List.length_append]; rfl
        clear C HL hL9
        go_wp2_with fail
        exact ⟨⟨k + 1, .slice p5 (R.length + 1) c5, vL2, R ++ [toR A], L2, by omega, congrArg _ (by omega), by omega, by omega, HN, KN⟩, by simp only [RowKit.intOf]; omega⟩
  · obtain rfl : k = l.length := by omega
    have hI := HI.out
    rw [List.take_length] at hI
    have hI1 : vwR l S = R := hI.1
    have hI2 : vwL l S = L := hI.2
    rw [hI1, hI2] at HVW
    have hTK := K.out
    obtain ⟨pR, cR, rfl, n1, m1⟩ := own_shape K.out.oR
    obtain ⟨pL, cL, rfl, n2, m2⟩ := own_shape K.out.oL
    have hlo := K.out.lo
    have HTG : Hid (TgOk wr (fun b => B + 1 ≤ b ∧ b < wr.heap.size) ⟨R, L, pR, cR, pL, cL⟩) := Lib.hid ⟨rdf_of_own2 K.out.oR, rdf_of_own2 K.out.oL, ⟨n1, m1⟩, ⟨n2, m2⟩⟩
    clear hI hI1 hI2 hTK n1 m1 n2 m2 HI
    obtain ⟨b0, b2⟩ := row_cells K.out.t
    go_wp2_with fail
    refine (tcheck_any ⟨R, L, pR, cR, pL, cL⟩ _ wr HTG.out).mono ?_
    rintro e w5 ⟨rfl, hg⟩
    have HT5 := Lib.hid (HTG.out.keep hg)
    have K5 := Lib.hid (K.out.keep hg)
    clear hg K HTG b0 b2
    simp only
    obtain ⟨z, hz⟩ : ∃ z, chk R L = z := ⟨_, rfl⟩
    rw [hz] at HVW ⊢
    clear hz
    obtain ⟨b0, b2⟩ := row_cells K5.out.t
    have z0 := cell_of_row _ _ 0 _ _ _ K5.out.z
    have z1 := cell_of_row _ _ 1 _ _ _ K5.out.z
    have f0 := frozen_of_row _ _ 0 _ _ K5.out.z
    have f1 := frozen_of_row _ _ 1 _ _ K5.out.z
    by_cases hz0 : z = 0
    · have HV : Hid ((R, L) = viewV l r) := Lib.hid (by rw [HVW.out, if_pos hz0])
      obtain ⟨t1, t2⟩ := store2c (.slice pR R.length cR) (.slice pL L.length cL) K5.out.z
      have HT := Lib.hid (And.intro t1 (And.intro (grown_new K5.out.gr t2 (by omega)) (HT5.out.grown t2 (fun b hb e => by have := Option.some.inj e; omega))))
      clear t1 t2 K5 HT5
      subst hz0
      go_wp2_with fail
      refine bodyPost_ret (res_topoV rfl _ _ (w.heap.size + 1) _ _ rfl HT.out.1) rfl ?_
      exact ⟨⟨R, L, pR, cR, pL, cL⟩, rfl, HV.out, HT.out.2.2.mono (fun b hb => by omega), HT.out.2.1⟩
    · have HV : Hid (viewV l r = ([], [])) := Lib.hid (by rw [HVW.out, if_neg hz0])
      obtain ⟨t1, t2⟩ := store2c (.slice none 0 0) (.slice none 0 0) K5.out.z
      have HT := Lib.hid (And.intro t1 (grown_new K5.out.gr t2 (by omega)))
      clear t1 t2 K5 HT5
      go_wp2_with fail
      refine bodyPost_ret (res_topoV rfl _ _ (w.heap.size + 1) _ _ rfl HT.out.1) rfl ?_
      exact vw_no HV.out HT.out.2
end Go.Proofs.Ytnpkihioklpnmaa

/- The laws of databases: the example. -/
namespace Go.Proofs.Ytnpkihioklpnmaa
open Go.RowKit Bs
set_option maxRecDepth 100000 in
theorem rdf_rowD {w : World} {g : Nat} {t : TypeId} {n c : Nat} {xs : List Value} (h : w.heap[g]? = some (.cells xs.toArray t (0, 0))) : RdF w (· = g) (.slice (some ⟨g, 0, none⟩) n c) n xs :=
  ⟨some ⟨g, 0, none⟩, c, rfl, fun _ => ⟨g, 0, rfl, rfl, fun i x hi => by
    rw [cell_of_row _ _ _ _ _ _ h, Nat.zero_add]
    simpa using hi⟩⟩
def xD (p1 p2 : Option Addr) : List Ad := [⟨1, 1, false, [⟨2, 1, 0⟩, ⟨3, 1, 0⟩], [], p1, 2, none, 0⟩, ⟨2, 1, false, [⟨1, 4, 0⟩], [], p2, 1, none, 0⟩, ⟨3, 1, false, [], [], none, 0, none, 0⟩]
set_option maxRecDepth 100000 in
theorem xD_chk (p1 p2 : Option Addr) : chkD (xD p1 p2) = 0 := by kernel_rfl
set_option maxRecDepth 100000 in
theorem xD_view (p1 p2 : Option Addr) : viewV (xD p1 p2) 1 = ([⟨1, false⟩, ⟨2, false⟩], [⟨1, 2, 1, 4, 0⟩]) := by kernel_rfl
/-- The example in memory. -/
structure XM (w : World) (wb : World) : Prop where
  box : wb.heap[w.heap.size + 1 + 1 + 1]? = some (.cells #[.slice (some ⟨w.heap.size + 1 + 1, 0, none⟩) 3 3] 25 (0, 0))
  r : RdA wb (fun _ => True) (.slice (some ⟨w.heap.size + 1 + 1, 0, none⟩) 3 3) (xD (some ⟨w.heap.size, 0, none⟩) (some ⟨w.heap.size + 1, 0, none⟩))
  gr : w.grownBy wb none
set_option maxRecDepth 100000 in
theorem XM.keep {w wb w1 : World} (h : XM w wb) (g : wb.grownBy w1 none) : XM w w1 := ⟨kept_row h.box g (by simp), h.r.keep g, grown_trans h.gr g⟩
set_option maxRecDepth 100000 in
theorem xm_start (w : World) : XM w ((((w.alloc (.cells #[.int .i64 2, .int .i64 1, .int .i64 0, .int .i64 3, .int .i64 1, .int .i64 0] 73)).alloc (.cells #[.int .i64 1, .int .i64 4, .int .i64 0] 73)).alloc (.cells #[.int .i64 1, .int .i64 1, .bool false, .slice (some ⟨w.heap.size, 0, none⟩) 2 2, .slice none 0 0, .int .i64 2, .int .i64 1, .bool false, .slice (some ⟨w.heap.size + 1, 0, none⟩) 1 1, .slice none 0 0, .int .i64 3, .int .i64 1, .bool false, .slice none 0 0, .slice none 0 0] 38)).alloc (.cells #[.slice (some ⟨w.heap.size + 1 + 1, 0, none⟩) 3 3] 25)) := by
  obtain ⟨k1, k2, k3, k4⟩ := two_boxes w #[.int .i64 2, .int .i64 1, .int .i64 0, .int .i64 3, .int .i64 1, .int .i64 0] #[.int .i64 1, .int .i64 4, .int .i64 0] 73 73
  obtain ⟨wb, hwb⟩ : ∃ wb, wb = (w.alloc (.cells #[.int .i64 2, .int .i64 1, .int .i64 0, .int .i64 3, .int .i64 1, .int .i64 0] 73)).alloc (.cells #[.int .i64 1, .int .i64 4, .int .i64 0] 73) := ⟨_, rfl⟩
  rw [← hwb] at k1 k2 k3 k4 ⊢
  obtain ⟨j1, j2, j3, j4⟩ := two_boxes wb #[.int .i64 1, .int .i64 1, .bool false, .slice (some ⟨w.heap.size, 0, none⟩) 2 2, .slice none 0 0, .int .i64 2, .int .i64 1, .bool false, .slice (some ⟨w.heap.size + 1, 0, none⟩) 1 1, .slice none 0 0, .int .i64 3, .int .i64 1, .bool false, .slice none 0 0, .slice none 0 0] #[.slice (some ⟨w.heap.size + 1 + 1, 0, none⟩) 3 3] 38 25
  rw [k4] at j1 j2
  have a1 := kept_row k1 j3 (by simp)
  have a2 := kept_row k2 j3 (by simp)
  refine ⟨j2, ⟨(rdf_rowD (xs := (xD (some ⟨w.heap.size, 0, none⟩) (some ⟨w.heap.size + 1, 0, none⟩)).flatMap adL) j1).mono (fun _ _ => trivial), fun A hA => ?_, fun A hA => ?_⟩, grown_trans k3 j3⟩
  · simp only [xD, List.mem_cons, List.not_mem_nil, or_false] at hA
    rcases hA with rfl | rfl | rfl
    · exact ⟨(rdf_rowD (xs := [(⟨2, 1, 0⟩ : T3), ⟨3, 1, 0⟩].flatMap t3C) a1).mono (fun _ _ => trivial), ⟨none, 0, rfl, fun h => absurd rfl h⟩, ⟨Nat.le_refl 2, by show (2 : Nat) ≤ _; decide⟩, ⟨Nat.le_refl 0, by show (0 : Nat) ≤ _; decide⟩⟩
    · exact ⟨(rdf_rowD (xs := [(⟨1, 4, 0⟩ : T3)].flatMap t3C) a2).mono (fun _ _ => trivial), ⟨none, 0, rfl, fun h => absurd rfl h⟩, ⟨Nat.le_refl 1, by show (1 : Nat) ≤ _; decide⟩, ⟨Nat.le_refl 0, by show (0 : Nat) ≤ _; decide⟩⟩
    · exact ⟨⟨none, 0, rfl, fun h => absurd rfl h⟩, ⟨none, 0, rfl, fun h => absurd rfl h⟩, ⟨Nat.le_refl 0, by show (0 : Nat) ≤ _; decide⟩, ⟨Nat.le_refl 0, by show (0 : Nat) ≤ _; decide⟩⟩
  · simp only [xD, List.mem_cons, List.not_mem_nil, or_false] at hA
    rcases hA with rfl | rfl | rfl
    · exact ⟨fun h => (by cases h), fun _ => rfl⟩
    · exact ⟨fun h => (by cases h), fun _ => rfl⟩
    · exact ⟨fun _ => rfl, fun _ => rfl⟩
set_option maxRecDepth 100000 in
set_option maxHeartbeats 3200000 in
theorem dawake_any (w : World) : Calls Try.prog 22 #[] w fun e w' => e = .returned (.bool true) ∧ w.grownBy w' none := by
  have H0 := Lib.hid (xm_start w)
  go_enter Try.func22, Try.ntmps22
  go_upto_region 2 with fail
  generalize World.alloc (((w.alloc _).alloc _).alloc _) _ = wb at *
  have c0 : wb.cell? ⟨w.heap.size + 1 + 1 + 1, 0, none⟩ = some (.slice (some ⟨w.heap.size + 1 + 1, 0, none⟩) 3 3) := cell_of_row _ _ _ _ _ _ H0.out.box
  go_wp2_with fail
  refine (dview_any (xD (some ⟨w.heap.size, 0, none⟩) (some ⟨w.heap.size + 1, 0, none⟩)) 1 (some ⟨w.heap.size + 1 + 1, 0, none⟩) 3 _ wb H0.out.r (show 3 ≤ 9223372036854775807 by decide)).mono ?_
  rintro e w1 ⟨⟨R, L, pR, cR, pL, cL⟩, rfl, hv, hT, hg⟩
  rw [xD_view] at hv
  injection hv with e1 e2
  simp only at e1 e2
  subst e1 e2
  have gal := World.grownBy_alloc w1 (.cells #[.slice pR 2 cR, .slice pL 1 cL] 59) none
  have H1 := Lib.hid (And.intro (H0.out.keep (grown_trans hg gal)) (And.intro (heap_alloc_new w1 (.cells #[.slice pR 2 cR, .slice pL 1 cL] 59)) (hT.keep gal)))
  clear hT hg gal H0 c0
  go_upto_region 3 with fail
  generalize w1.alloc _ = w2 at *
  have c0 : w2.cell? ⟨w.heap.size + 1 + 1 + 1, 0, none⟩ = some (.slice (some ⟨w.heap.size + 1 + 1, 0, none⟩) 3 3) := cell_of_row _ _ _ _ _ _ H1.out.1.box
  go_wp2_with fail
  refine (dcheck_any (xD (some ⟨w.heap.size, 0, none⟩) (some ⟨w.heap.size + 1, 0, none⟩)) (some ⟨w.heap.size + 1 + 1, 0, none⟩) 3 _ w2 H1.out.1.r (show 3 ≤ 9223372036854775807 by decide)).mono ?_
  rw [xD_chk]
  rintro e w3 ⟨rfl, hg⟩
  have H2 := Lib.hid (And.intro (kept_row H1.out.2.1 hg (by simp)) (And.intro (grown_trans H1.out.1.gr hg) (H1.out.2.2.keep hg)))
  clear hg H1 c0
  obtain ⟨b0, b1⟩ := row_cells H2.out.1
  obtain ⟨-, b, off, rfl, -, hc⟩ := RdF.cells (f := lkC) (k := 5) (fun _ => rfl) (by decide) H2.out.2.2.l (show 0 < 1 by decide)
  have l0 := hc 0 ⟨1, 2, 1, 4, 0⟩ rfl 0 _ rfl
  have l1 := hc 0 ⟨1, 2, 1, 4, 0⟩ rfl 1 _ rfl
  have l2 := hc 0 ⟨1, 2, 1, 4, 0⟩ rfl 2 _ rfl
  have l3 := hc 0 ⟨1, 2, 1, 4, 0⟩ rfl 3 _ rfl
  have l4 := hc 0 ⟨1, 2, 1, 4, 0⟩ rfl 4 _ rfl
  simp only [Nat.zero_mul, Nat.add_zero] at l0 l1 l2 l3 l4
  clear hc
  go_wp2_with fail
  go_ret
  exact ⟨rfl, H2.out.2.1⟩
end Go.Proofs.Ytnpkihioklpnmaa

/- The reference's Same of databases. -/
namespace Go.Proofs.Ytnpkihioklpnmaa
open Go.RowKit Bs
end Go.Proofs.Ytnpkihioklpnmaa

/- The law DatabaseMerges: the mathematics, what memory holds. -/
namespace Go.Proofs.Ytnpkihioklpnmaa
open Go.RowKit Bs
/-- A database that lies in memory. -/
structure DM (w : World) (q : Nat → Prop) (l : List Ad) (p : Option Addr) (c : Nat) : Prop where
  r : RdA w q (.slice p l.length c) l
  n : p = none → c = 0
  c : l.length ≤ c ∧ c ≤ 9223372036854775807
  m : l.length ≤ 900
  s : ∀ A ∈ l, A.L.length ≤ 1000 ∧ A.C.length ≤ 1000
section
variable {w w' : World} {q q' : Nat → Prop} {l m a b : List Ad} {p : Option Addr} {c n : Nat}
set_option maxRecDepth 100000 in
theorem DM.grown {r : Option Nat} (h : DM w q l p c) (g : w.grownBy w' r) (hq : ∀ b, q b → some b ≠ r) : DM w' q l p c := ⟨h.r.grown g hq, h.n, h.c, h.m, h.s⟩
set_option maxRecDepth 100000 in
theorem DM.keep (h : DM w q l p c) (g : w.grownBy w' none) : DM w' q l p c := h.grown g (fun _ _ => by simp)
set_option maxRecDepth 100000 in
theorem DM.mono (h : DM w q l p c) (hq : ∀ b, q b → q' b) : DM w q' l p c := ⟨h.r.mono hq, h.n, h.c, h.m, h.s⟩
set_option maxRecDepth 100000 in
theorem dm_of (h1 : l.length ≤ 7) (h2 : DL l) (h3 : RdA w q (.slice p l.length c) l) (h4 : l.length ≤ c ∧ c ≤ 9223372036854775807) (h5 : p = none → c = 0) : DM w q l p c := ⟨h3, h5, h4, by omega, fun A hA => by have := h2 A hA; omega⟩
set_option maxRecDepth 100000 in
theorem vAd_sz {A : Ad} (h : vAd A = true) : A.L.length ≤ 23 ∧ A.C.length ≤ 8 := by
  unfold vAd at h
  rw [Bool.and_eq_true, Bool.and_eq_true] at h
  obtain ⟨h1, -, h3⟩ := h
  unfold vHd at h1
  unfold vClaims at h3
  rw [Bool.and_eq_true] at h3
  exact ⟨(of_decide_eq_true h1).2.2, of_decide_eq_true h3.1⟩
set_option maxRecDepth 100000 in
theorem dm_ok (h : OkD l) (hf : m.map fz = l.map fz) (h3 : RdA w q (.slice p m.length c) m) (h4 : m.length ≤ c ∧ c ≤ 9223372036854775807) (h5 : p = none → c = 0) : DM w q m p c := by
  refine ⟨h3, h5, h4, by rw [fz_len hf]; have := h.len; omega, fun A hA => ?_⟩
  obtain ⟨B, h1, h2⟩ := fz_mem hf hA
  have := vAd_sz (h.v B h1)
  rw [(fz_L h2).1, (fz_L h2).2] at this
  omega
/-- A database in a box. -/
def BM (w : World) (n : Nat) (l : List Ad) (p : Option Addr) (c : Nat) : Prop := w.heap[n]? = some (.cells #[.slice p l.length c] 25 (0, 0)) ∧ DM w (fun _ => True) l p c
set_option maxRecDepth 100000 in
theorem BM.keep (h : BM w n l p c) (g : w.grownBy w' none) : BM w' n l p c := ⟨kept_row h.1 g (by simp), h.2.keep g⟩
set_option maxRecDepth 100000 in
theorem BM.cell (h : BM w n l p c) : w.cell? ⟨n, 0, none⟩ = some (.slice p l.length c) := cell_of_row _ _ _ _ _ _ h.1
set_option maxRecDepth 100000 in
theorem bm_new (h : DM w q l p c) : BM (w.alloc (.cells #[.slice p l.length c] 25)) w.heap.size l p c := ⟨(tone_box w _ _).1, (h.keep (tone_box w #[.slice p l.length c] 25).2).mono (fun _ _ => trivial)⟩
set_option maxRecDepth 100000 in
theorem bm_gr (w : World) (p : Option Addr) (n c : Nat) : w.grownBy (w.alloc (.cells #[.slice p n c] 25)) none := World.grownBy_alloc _ _ _
end
/-! Merge is commutative, associative, idempotent. -/
set_option maxRecDepth 100000 in
theorem OkD.fz {l : List Ad} (h : OkD l) : OkD (l.map fz) := okD_OkD (by rw [okD_fz]; exact h.ok)
set_option maxRecDepth 100000 in
theorem okD_congr {l m : List Ad} (h : OkD l) (e : m.map Go.Proofs.Ytnpkihioklpnmaa.fz = l.map Go.Proofs.Ytnpkihioklpnmaa.fz) : OkD m := okD_OkD (by rw [← okD_fz m, e, okD_fz]; exact h.ok)
set_option maxRecDepth 100000 in
theorem nm_fnd {l : List Ad} (h : OkD l) (r : Int) : Nm r (fndA (l.map fz) r) := ⟨fun A hA => by
  obtain ⟨h1, h2⟩ := fndA_some hA
  refine ⟨h.fz.v A h1, h2, ?_⟩
  obtain ⟨B, -, rfl⟩ := List.mem_map.1 h1
  rfl⟩
section
variable {a b c a' b' : List Ad}
set_option maxRecDepth 100000 in
theorem mgK_of (ha : OkD a) (hb : OkD b) : mgK a b = true := by unfold mgK; rw [ha.ok, hb.ok]; rfl
set_option maxRecDepth 100000 in
theorem mgK_ok (h : mgK a b = true) : OkD a ∧ OkD b := by
  unfold mgK at h
  rw [Bool.and_eq_true] at h
  exact ⟨okD_OkD h.1, okD_OkD h.2⟩
set_option maxRecDepth 100000 in
theorem mgV_of (ha : OkD a) (hb : OkD b) : mgV a b = b.foldl put1 a ∧ mgE a b = 0 := mg_true (mgK_of ha hb)
set_option maxRecDepth 100000 in
theorem mgV_ok (a b : List Ad) : OkD (mgV a b) := by
  cases h : mgK a b with
  | false => rw [(mg_false h).1]; exact ⟨Nat.zero_le _, fun A hA => (by cases hA), rfl⟩
  | true => rw [(mg_true h).1]; exact (mgK_ok h).1.mrg (mgK_ok h).2.v
set_option maxRecDepth 100000 in
theorem mg_fnd (ha : OkD a) (hb : OkD b) (r : Int) : fndA ((mgV a b).map fz) r = mx (fndA (a.map fz) r) (fndA (b.map fz) r) := by
  rw [(mgV_of ha hb).1, ← mrg_fz]
  exact fnd_mrg ha.fz hb.fz.v hb.fz.asc r
end
set_option maxRecDepth 100000 in
theorem dv_ok {l : List Ad} {k : Int} (h : DV k l) : OkD l := by
  refine OkD_of (fun A hA => (h.v A hA).1) ?_
  have key : ∀ (l : List Ad) (j : Int), (∀ A ∈ l, j < A.r) → l.Pairwise (fun A B => A.r < B.r) → ascD j l = true := by
    intro l
    induction l with
    | nil => intros; rfl
    | cons A t ih =>
      intro j h1 h2
      obtain ⟨p1, p2⟩ := List.pairwise_cons.1 h2
      rw [ascD, decide_eq_true (h1 A List.mem_cons_self), ih A.r p1 p2]; rfl
  exact key l 0 (fun A hA => by have := vAd_r (h.v A hA).1; omega) h.p
end Go.Proofs.Ytnpkihioklpnmaa

/- The law DatabaseChecks: what memory holds. -/
namespace Go.Proofs.Ytnpkihioklpnmaa
open Go.RowKit Bs
/-- A database as it lies in memory. -/
structure Dv where
  l : List Ad
  p : Option Addr
  c : Nat
section
variable {W w w1 : World} {a : Nat} {raw : Dv} {X : List Dv}
end
section
variable {W w w1 : World} {a D E : Nat} {raw : Dv} {X : List Dv} {R : List Int}
end
/-- A box for an advert has come since w. -/
structure NA (w : World) (b : Nat) (wr : World) : Prop where
  ab : wr.heap[b]? = some (.cells #[.int .i64 0, .int .i64 0, .bool false, .slice none 0 0, .slice none 0 0] 38 (0, 0))
  lo : w.heap.size ≤ b
set_option maxRecDepth 100000 in
theorem NA.keep {w w1 w2 : World} {b : Nat} (h : NA w b w1) (g : w1.grownBy w2 none) : NA w b w2 := ⟨kept_row h.ab g (by simp), h.lo⟩
/-- An advert that was found lies in a box. -/
structure FA (w : World) (l : List Ad) (r : Int) (b : Nat) (A : Ad) (wr : World) : Prop where
  ab : wr.heap[b]? = some (.cells #[.int .i64 A.r, .int .i64 A.q, .bool A.cp, .slice A.pL A.L.length A.cL, .slice A.pC A.C.length A.cC] 38 (0, 0))
  sm : A.r = ((fndA l r).getD zAd).r ∧ A.q = ((fndA l r).getD zAd).q ∧ A.cp = ((fndA l r).getD zAd).cp ∧ A.L = ((fndA l r).getD zAd).L ∧ A.C = ((fndA l r).getD zAd).C
  ok : ∃ q, AdOk wr q A
  gr : w.grownBy wr none
set_option maxRecDepth 100000 in
theorem FA.keep {w w1 w2 : World} {l : List Ad} {r : Int} {b : Nat} {A : Ad} (h : FA w l r b A w1) (g : w1.grownBy w2 none) : FA w l r b A w2 := by
  obtain ⟨q, hq⟩ := h.ok
  exact ⟨kept_row h.ab g (by simp), h.sm, ⟨q, hq.keep g⟩, grown_trans h.gr g⟩
set_option maxRecDepth 100000 in
/-- The box is filled. -/
theorem NA.fill {w w5 : World} {l : List Ad} {r : Int} {b : Nat} {A : Ad} {q : Nat → Prop} (h : NA w b w5) (g : w.grownBy w5 none) (hsm : A.r = ((fndA l r).getD zAd).r ∧ A.q = ((fndA l r).getD zAd).q ∧ A.cp = ((fndA l r).getD zAd).cp ∧ A.L = ((fndA l r).getD zAd).L ∧ A.C = ((fndA l r).getD zAd).C) (hok : AdOk w5 q A) (hq : ¬ q b) :
    FA w l r b A (((((w5.setCell ⟨b, 0, none⟩ (.int .i64 A.r)).setCell ⟨b, 1, none⟩ (.int .i64 A.q)).setCell ⟨b, 2, none⟩ (.bool A.cp)).setCell ⟨b, 3, none⟩ (.slice A.pL A.L.length A.cL)).setCell ⟨b, 4, none⟩ (.slice A.pC A.C.length A.cC)) := by
  obtain ⟨t1, t2⟩ := store5 (.int .i64 A.r) (.int .i64 A.q) (.bool A.cp) (.slice A.pL A.L.length A.cL) (.slice A.pC A.C.length A.cC) h.ab
  exact ⟨t1, hsm, ⟨q, hok.grown t2 (fun x hx e => hq (Option.some.inj e ▸ hx))⟩, grown_new g t2 h.lo⟩
set_option maxRecDepth 100000 in
theorem fa_new {w w5 : World} {l : List Ad} {r : Int} {A : Ad} {q : Nat → Prop} (g : w.grownBy w5 none) (hsm : A.r = ((fndA l r).getD zAd).r ∧ A.q = ((fndA l r).getD zAd).q ∧ A.cp = ((fndA l r).getD zAd).cp ∧ A.L = ((fndA l r).getD zAd).L ∧ A.C = ((fndA l r).getD zAd).C) (hok : AdOk w5 q A) :
    FA w l r w5.heap.size A (w5.alloc (.cells #[.int .i64 A.r, .int .i64 A.q, .bool A.cp, .slice A.pL A.L.length A.cL, .slice A.pC A.C.length A.cC] 38)) := by
  have ga := World.grownBy_alloc w5 (.cells #[.int .i64 A.r, .int .i64 A.q, .bool A.cp, .slice A.pL A.L.length A.cL, .slice A.pC A.C.length A.cC] 38) none
  exact ⟨heap_alloc_new _ _, hsm, ⟨q, hok.keep ga⟩, grown_trans g ga⟩
end Go.Proofs.Ytnpkihioklpnmaa

/- The law DatabaseGrows: the mathematics, what memory holds. -/
namespace Go.Proofs.Ytnpkihioklpnmaa
open Go.RowKit Bs
set_option maxRecDepth 100000 in
theorem nwA_fzG (A B : Ad) : nwA (fz A) (fz B) = nwA A B := rfl
/-- A database has lost no router, and no advert has become older. -/
def GrowP (l m : List Ad) : Prop := ∀ A ∈ l, ∃ N, fndA m A.r = some N ∧ nwA A N = false
set_option maxRecDepth 100000 in
theorem fnd_self : ∀ {l : List Ad} {k : Int}, ascD k l = true → ∀ A ∈ l, fndA l A.r = some A
  | [], _, _, A, h => by cases h
  | B :: t, k, h, A, hA => by
    rw [ascD, Bool.and_eq_true] at h
    rw [fnd_cons]
    rcases List.mem_cons.1 hA with rfl | hA
    · rw [if_pos rfl]
    · have := (asc_pair t B.r h.2).1 A hA
      rw [if_neg (by omega), fnd_self h.2 A hA]
set_option maxRecDepth 100000 in
theorem grow_of {l m : List Ad} (h : ∀ A ∈ l, ∃ n, fndA (m.map fz) A.r = some n ∧ nwA (fz A) n = false) : GrowP l m := fun A hA => by
  obtain ⟨n, h1, h2⟩ := h A hA
  rw [fnd_fz] at h1
  cases hf : fndA m A.r with
  | none => rw [hf] at h1; cases h1
  | some N =>
    rw [hf] at h1
    have e : fz N = n := Option.some.inj h1
    refine ⟨N, rfl, ?_⟩
    rw [← e, nwA_fzG] at h2
    exact h2
set_option maxRecDepth 100000 in
theorem fz_self {l : List Ad} (h : OkD l) {A : Ad} (hA : A ∈ l) : fndA (l.map fz) A.r = some (fz A) := by
  rw [fnd_fz, fnd_self h.asc A hA]; rfl
set_option maxRecDepth 100000 in
theorem grow_mg {a b m : List Ad} (ha : OkD a) (hb : OkD b) (hm : m.map fz = (mgV a b).map fz) : GrowP a m := grow_of fun A hA => by
  rw [hm, mg_fnd ha hb, fz_self ha hA]
  obtain ⟨n, h1, h2, -⟩ := mx_old (r := A.r) (A := fz A) (y := fndA (b.map fz) A.r) ⟨ha.v A hA, rfl⟩ (fun B hB => ⟨((nm_fnd hb A.r).h B hB).1, ((nm_fnd hb A.r).h B hB).2.1⟩)
  exact ⟨n, h1, h2⟩
set_option maxRecDepth 100000 in
theorem grow_put {a m : List Ad} {X : Ad} (ha : OkD a) (hX : vAd X = true) (hm : m.map fz = (putV a X).map fz) : GrowP a m := grow_of fun A hA => by
  rw [hm, putV_ok ha hX, ← put1_fz, fnd_put1 ha.fz, fz_self ha hA]
  by_cases e : (fz X).r = A.r
  · rw [if_pos e]
    obtain ⟨n, h1, h2, -⟩ := mx_old (r := A.r) (A := fz A) (y := some (fz X)) ⟨ha.v A hA, rfl⟩ (fun _ hB => by obtain rfl := Option.some.inj hB; exact ⟨hX, e⟩)
    exact ⟨n, h1, h2⟩
  · rw [if_neg e]
    exact ⟨fz A, rfl, (nw_same (cmpA_cmp.self _)).1⟩
set_option maxRecDepth 100000 in
theorem put_ok {a m : List Ad} {X : Ad} (ha : OkD a) (hX : vAd X = true) (hm : m.map fz = (putV a X).map fz) : OkD m := okD_congr (by rw [putV_ok ha hX]; exact ha.put1 hX) hm
set_option maxRecDepth 100000 in
theorem chk_ok {l : List Ad} (h : OkD l) : chkD l = 0 := by have := h.ok; unfold okD at this; simpa using this
set_option maxRecDepth 100000 in
theorem grow_hit {l m : List Ad} (h : GrowP l m) {A X : Ad} (hA : A ∈ l) (hX : X.r = ((fndA m A.r).getD zAd).r ∧ X.q = ((fndA m A.r).getD zAd).q ∧ X.cp = ((fndA m A.r).getD zAd).cp ∧ X.L = ((fndA m A.r).getD zAd).L ∧ X.C = ((fndA m A.r).getD zAd).C) : nwA A X = false := by
  obtain ⟨N, h1, h2⟩ := h A hA
  rw [h1] at hX
  have e : fz X = fz N := fz_eq.2 hX
  rw [← nwA_fzG, e, nwA_fzG, h2]
set_option maxRecDepth 100000 in
theorem grow_is {l m : List Ad} (h : GrowP l m) {A : Ad} (hA : A ∈ l) : (fndA m A.r).isSome = true := by
  obtain ⟨N, h1, -⟩ := h A hA
  rw [h1]; rfl
/-- A database in a box, while the tape is used. -/
structure PB (a : Nat) (w : World) (n : Nat) (l : List Ad) (p : Option Addr) (c : Nat) : Prop where
  b : w.heap[n]? = some (.cells #[.slice p l.length c] 25 (0, 0))
  d : DM w (· ≠ a) l p c
  ne : n ≠ a
section
variable {a n : Nat} {w w1 W : World} {l : List Ad} {p : Option Addr} {c : Nat}
set_option maxRecDepth 100000 in
theorem PB.keep (h : PB a w n l p c) (g : w.grownBy w1 none) : PB a w1 n l p c := ⟨kept_row h.b g (by simp), h.d.keep g, h.ne⟩
set_option maxRecDepth 100000 in
theorem PB.tape (h : PB a w n l p c) (k : St a w w1) : PB a w1 n l p c := ⟨kept_row h.b k.1 (fun e => h.ne (Option.some.inj e)), h.d.grown k.1 (fun _ hb e => hb (Option.some.inj e)), h.ne⟩
set_option maxRecDepth 100000 in
theorem PB.bm (h : PB a w n l p c) : BM w n l p c := ⟨h.b, h.d.mono (fun _ _ => trivial)⟩
set_option maxRecDepth 100000 in
theorem PB.cell (h : PB a w n l p c) : w.cell? ⟨n, 0, none⟩ = some (.slice p l.length c) := cell_of_row _ _ _ _ _ _ h.b
end
/-- Two databases in boxes, and the tape. -/
structure GS (W : World) (a : Nat) (n4 : Nat) (l1 : List Ad) (p1 : Option Addr) (c1 : Nat) (n6 : Nat) (m6 : List Ad) (p6 : Option Addr) (c6 : Nat) (w : World) : Prop where
  x : PB a w n4 l1 p1 c1
  y : PB a w n6 m6 p6 c6
  t : Tp w a
  g : W.grownBy w none
  lo : W.heap.size ≤ a
section
variable {W w w1 : World} {a n4 n6 : Nat} {l1 m6 : List Ad} {p1 p6 : Option Addr} {c1 c6 : Nat}
set_option maxRecDepth 100000 in
theorem GS.keep (h : GS W a n4 l1 p1 c1 n6 m6 p6 c6 w) (g : w.grownBy w1 none) : GS W a n4 l1 p1 c1 n6 m6 p6 c6 w1 := ⟨h.x.keep g, h.y.keep g, h.t.keep g, grown_trans h.g g, h.lo⟩
set_option maxRecDepth 100000 in
theorem GS.tape (h : GS W a n4 l1 p1 c1 n6 m6 p6 c6 w) (k : St a w w1) : GS W a n4 l1 p1 c1 n6 m6 p6 c6 w1 := ⟨h.x.tape k, h.y.tape k, k.2, grown_new h.g k.1 h.lo, h.lo⟩
end
/-- A box for a database has come; its number is known, it is not the tape's. -/
structure NBx (a N b : Nat) (w : World) : Prop where
  bx : w.heap[b]? = some (.cells #[.slice none 0 0] 25 (0, 0))
  lo : N ≤ b
  nt : b ≠ a
set_option maxRecDepth 100000 in
theorem NBx.keep {a N b : Nat} {w w1 : World} (h : NBx a N b w) (g : w.grownBy w1 none) : NBx a N b w1 := ⟨kept_row h.bx g (by simp), h.lo, h.nt⟩
set_option maxRecDepth 100000 in
theorem NBx.tape {a N b : Nat} {w w1 : World} (h : NBx a N b w) (k : St a w w1) : NBx a N b w1 := ⟨kept_row h.bx k.1 (fun e => h.nt (Option.some.inj e)), h.lo, h.nt⟩
set_option maxRecDepth 100000 in
theorem nbx_start {a N : Nat} {w : World} (hT : Tp w a) (h : N ≤ w.heap.size) : ∀ b, b = w.heap.size → NBx a N b (w.alloc (.cells #[.slice none 0 0] 25)) := by
  rintro b rfl
  exact ⟨heap_alloc_new _ _, h, fun e => by have := hT.lt; omega⟩
set_option maxRecDepth 100000 in
theorem nbx_lt {a N n : Nat} {w : World} (h : ∀ b, b = n → NBx a N b w) : n < w.heap.size := World.lt_of_row' (h n rfl).bx
set_option maxRecDepth 100000 in
theorem na_startG {w w1 : World} (g : w.grownBy w1 none) : ∀ b, b = w1.heap.size → NA w b (w1.alloc (.cells #[.int .i64 0, .int .i64 0, .bool false, .slice none 0 0, .slice none 0 0] 38)) := by
  rintro b rfl
  exact ⟨heap_alloc_new _ _, g.size⟩
set_option maxRecDepth 100000 in
theorem na_ltG {w wr : World} {n : Nat} (h : ∀ b, b = n → NA w b wr) : n < wr.heap.size := World.lt_of_row' (h n rfl).ab
set_option maxRecDepth 100000 in
/-- The box is filled. -/
theorem NBx.fill {a N b K : Nat} {w : World} {l : List Ad} {p : Option Addr} {c : Nat} (h : NBx a N b w) (hm : DM w (K ≤ ·) l p c) (hb : b < K) : BM (w.setCell ⟨b, 0, none⟩ (.slice p l.length c)) b l p c ∧ w.grownBy (w.setCell ⟨b, 0, none⟩ (.slice p l.length c)) (some b) := by
  have g := grown_setCell w ⟨b, 0, none⟩ (.slice p l.length c)
  exact ⟨⟨d1_set _ h.bx, (hm.grown g (fun x hx e => by have : x = b := Option.some.inj e; omega)).mono (fun _ _ => trivial)⟩, g⟩
/-- The databases of the law: the first one, two that came out of it in boxes and in a row. -/
structure GW (W : World) (n4 : Nat) (l1 : List Ad) (p1 : Option Addr) (c1 : Nat) (n6 n8 D : Nat) (x6 x8 : Dv) (w : World) : Prop where
  x : BM w n4 l1 p1 c1
  y : BM w n6 x6.l x6.p x6.c
  z : BM w n8 x8.l x8.p x8.c
  row : ∀ (i : Nat) (x : Dv), [x6, x8][i]? = some x → w.cell? ⟨D, i, none⟩ = some (.slice x.p x.l.length x.c)
  g : W.grownBy w none
section
variable {W w w1 : World} {n4 n6 n8 D : Nat} {l1 : List Ad} {p1 : Option Addr} {c1 : Nat} {x6 x8 : Dv}
set_option maxRecDepth 100000 in
theorem GW.keep (h : GW W n4 l1 p1 c1 n6 n8 D x6 x8 w) (g : w.grownBy w1 none) : GW W n4 l1 p1 c1 n6 n8 D x6 x8 w1 := ⟨h.x.keep g, h.y.keep g, h.z.keep g, fun i x hx => g.cell (h.row i x hx) (by simp), grown_trans h.g g⟩
set_option maxRecDepth 100000 in
theorem GW.dm (h : GW W n4 l1 p1 c1 n6 n8 D x6 x8 w) : ∀ (i : Nat) (x : Dv), [x6, x8][i]? = some x → DM w (fun _ => True) x.l x.p x.c := fun i x hx => by
  match i, hx with
  | 0, hx => cases hx; exact h.y.2
  | 1, hx => cases hx; exact h.z.2
set_option maxRecDepth 100000 in
theorem gw_start (h1 : BM w n4 l1 p1 c1) (h2 : BM w n6 x6.l x6.p x6.c) (h3 : BM w n8 x8.l x8.p x8.c) (g : W.grownBy w none) : GW W n4 l1 p1 c1 n6 n8 w.heap.size x6 x8 (w.alloc (.cells #[.slice x6.p x6.l.length x6.c, .slice x8.p x8.l.length x8.c] 25)) := by
  obtain ⟨k1, k2⟩ := tone_box w #[.slice x6.p x6.l.length x6.c, .slice x8.p x8.l.length x8.c] 25
  refine ⟨h1.keep k2, h2.keep k2, h3.keep k2, fun i x hx => ?_, grown_trans g k2⟩
  rw [cell_of_row _ _ _ _ _ _ k1]
  match i, hx with
  | 0, hx => cases hx; rfl
  | 1, hx => cases hx; rfl
end
end Go.Proofs.Ytnpkihioklpnmaa

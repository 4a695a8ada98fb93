/- Parts of the proof, packed: DbMgLaw. -/
import Derived.Test.YtnpkihioklpnmaaMg23
/- The law DatabaseMerges. -/
namespace Go.Proofs.Ytnpkihioklpnmaa
open Go.RowKit Bs
set_option maxRecDepth 100000 in
set_option maxHeartbeats 12800000 in
theorem merges_walk (v : Value) (w : World) (hv : IntsIn w v) :
    Calls Try.prog 5 #[v] w fun e w' => e = .returned (.bool true) ∧ w.grownBy w' none := by
  go_enter Try.func5, Try.ntmps5
  go_wp2_with fail
  refine (new_any v w hv).mono ?_
  rintro e w1 ⟨rfl, hg1, hT1⟩
  obtain ⟨a, ha⟩ : ∃ a, w.heap.size = a := ⟨_, rfl⟩
  have HG : Hid (w.grownBy w1 none ∧ w.heap.size ≤ a) := Lib.hid ⟨hg1, Nat.le_of_eq ha⟩
  rw [ha] at hT1 ⊢
  have HT := Lib.hid hT1
  clear hg1 hT1 ha hv
  go_wp2_with fail
  refine (tdb_any a 8 (by unfold I64; omega) _ HT.out).mono ?_
  rintro e w2 ⟨l1, p1, c1, rfl, h7, hdl, -, hrd, hc, hn, hs⟩
  have h2 := dm_of h7 hdl hrd hc hn
  have H1 : Hid (DM w2 (· ≠ a) l1 p1 c1 ∧ w.grownBy w2 none ∧ w.heap.size ≤ a ∧ Tp w2 a) := Lib.hid ⟨h2.mono (fun b hb => by have := HT.out.lt; omega), grown_new HG.out.1 hs.1 HG.out.2, HG.out.2, hs.2⟩
  clear h7 hdl hrd hc hn hs h2 HT HG
  go_wp2_with fail
  refine (tdb_any a 8 (by unfold I64; omega) _ H1.out.2.2.2).mono ?_
  rintro e w3 ⟨l2, p2, c2, rfl, h7, hdl, -, hrd, hc, hn, hs⟩
  have h2 := dm_of h7 hdl hrd hc hn
  have H2 : Hid (DM w3 (· ≠ a) l2 p2 c2 ∧ DM w3 (· ≠ a) l1 p1 c1 ∧ w.grownBy w3 none ∧ w.heap.size ≤ a ∧ Tp w3 a) := Lib.hid ⟨h2.mono (fun b hb => by have := H1.out.2.2.2.lt; omega), H1.out.1.grown hs.1 (fun b hb e => hb (Option.some.inj e)), grown_new H1.out.2.1 hs.1 H1.out.2.2.1, H1.out.2.2.1, hs.2⟩
  clear h7 hdl hrd hc hn hs h2 H1
  go_wp2_with fail
  refine (tdb_any a 0 (by unfold I64; omega) _ H2.out.2.2.2.2).mono ?_
  rintro e w4 ⟨l3, p3, c3, rfl, h7, hdl, hdv, hrd, hc, hn, hs⟩
  have h2 := dm_of h7 hdl hrd hc hn
  have HV := Lib.hid (dv_ok (hdv (by omega)))
  have H3 : Hid (DM w4 (· ≠ a) l3 p3 c3 ∧ DM w4 (· ≠ a) l2 p2 c2 ∧ DM w4 (· ≠ a) l1 p1 c1 ∧ w.grownBy w4 none) := Lib.hid ⟨h2.mono (fun b hb => by have := H2.out.2.2.2.2.lt; omega), H2.out.1.grown hs.1 (fun b hb e => hb (Option.some.inj e)), H2.out.2.1.grown hs.1 (fun b hb e => hb (Option.some.inj e)), grown_new H2.out.2.2.1 hs.1 H2.out.2.2.2.1⟩
  clear h7 hdl hdv hrd hc hn hs h2 H2
  obtain ⟨k1, k2, k3, k4, k5⟩ := three_boxesD w4 #[.slice p1 l1.length c1] #[.slice p2 l2.length c2] #[.slice p3 l3.length c3] 25 25 25
  have B4 : Hid (BM _ w4.heap.size l1 p1 c1) := Lib.hid ⟨k1, (H3.out.2.2.1.keep k4).mono (fun _ _ => trivial)⟩
  have B5 : Hid (BM _ (w4.heap.size + 1) l2 p2 c2) := Lib.hid ⟨k2, (H3.out.2.1.keep k4).mono (fun _ _ => trivial)⟩
  have B6 : Hid (BM _ (w4.heap.size + 1 + 1) l3 p3 c3) := Lib.hid ⟨k3, (H3.out.1.keep k4).mono (fun _ _ => trivial)⟩
  have HG := Lib.hid (grown_trans H3.out.2.2.2 k4)
  clear k1 k2 k3 k4 k5 H3
  go_upto_region 3 with fail
  generalize hw : ((w4.alloc _).alloc _).alloc _ = w6 at *
  generalize w4.heap.size = n4 at *
  clear hw w4
  have q4 := B4.out.cell
  have q5 := B5.out.cell
  go_wp2_with fail
  refine (dmerge_any l1 l2 p1 p2 c1 c2 _ _ _ B4.out.2.r B4.out.2.n B4.out.2.c B4.out.2.m B4.out.2.s B5.out.2.r B5.out.2.m B5.out.2.s).mono ?_
  rintro e w5 ⟨m7, p7, c7, rfl, hf, hrd, hc, hn, hg⟩
  have F7 := Lib.hid hf
  have D := Lib.hid (dm_ok (mgV_ok _ _) hf hrd hc hn)
  clear hf hrd hc hn q4 q5
  have K4 := Lib.hid (B4.out.keep hg)
  have K5 := Lib.hid (B5.out.keep hg)
  have K6 := Lib.hid (B6.out.keep hg)
  clear B4 B5 B6
  have B4 := K4
  have B5 := K5
  have B6 := K6
  clear K4 K5 K6
  have HG2 := Lib.hid (grown_trans HG.out hg)
  clear HG
  have HG := HG2
  clear HG2
  clear hg
  have hgb := bm_gr w5 p7 m7.length c7
  have BN := Lib.hid (bm_new D.out)
  have K4 := Lib.hid (B4.out.keep hgb)
  have K5 := Lib.hid (B5.out.keep hgb)
  have K6 := Lib.hid (B6.out.keep hgb)
  clear B4 B5 B6
  have B4 := K4
  have B5 := K5
  have B6 := K6
  clear K4 K5 K6
  have HG2 := Lib.hid (grown_trans HG.out hgb)
  clear HG
  have HG := HG2
  clear HG2
  clear hgb D
  have B7 := BN
  clear BN
  go_upto_region 4 with fail
  generalize hw : w5.alloc _ = w6 at *
  generalize w5.heap.size = n7 at *
  clear hw
  clear w5
  have q4 := B4.out.cell
  have q5 := B5.out.cell
  go_wp2_with fail
  refine (rmerge_any l1 l2 p1 p2 c1 c2 _ _ B4.out.2.r.old B4.out.2.n B4.out.2.c B4.out.2.m B5.out.2.r.old B5.out.2.m (fun _ h => h)).mono ?_
  rintro e w5 ⟨m9, p9, c9, rfl, hf, hrd, hc, hn, hg⟩
  have F9 := Lib.hid hf
  have D := Lib.hid (dm_ok (mgV_ok _ _) hf hrd hc hn)
  clear hf hrd hc hn q4 q5
  have K4 := Lib.hid (B4.out.keep hg)
  have K5 := Lib.hid (B5.out.keep hg)
  have K6 := Lib.hid (B6.out.keep hg)
  have K7 := Lib.hid (B7.out.keep hg)
  clear B4 B5 B6 B7
  have B4 := K4
  have B5 := K5
  have B6 := K6
  have B7 := K7
  clear K4 K5 K6 K7
  have HG2 := Lib.hid (grown_trans HG.out hg)
  clear HG
  have HG := HG2
  clear HG2
  clear hg
  have hgb := bm_gr w5 p9 m9.length c9
  have BN := Lib.hid (bm_new D.out)
  have K4 := Lib.hid (B4.out.keep hgb)
  have K5 := Lib.hid (B5.out.keep hgb)
  have K6 := Lib.hid (B6.out.keep hgb)
  have K7 := Lib.hid (B7.out.keep hgb)
  clear B4 B5 B6 B7
  have B4 := K4
  have B5 := K5
  have B6 := K6
  have B7 := K7
  clear K4 K5 K6 K7
  have HG2 := Lib.hid (grown_trans HG.out hgb)
  clear HG
  have HG := HG2
  clear HG2
  clear hgb D
  have B9 := BN
  clear BN
  go_upto_region 5 with fail
  generalize hw : w5.alloc _ = w6 at *
  generalize w5.heap.size = n9 at *
  clear hw
  clear w5
  have q4 := B4.out.cell
  have q5 := B5.out.cell
  go_wp2_with fail
  refine (dmerge_any l2 l1 p2 p1 c2 c1 _ _ _ B5.out.2.r B5.out.2.n B5.out.2.c B5.out.2.m B5.out.2.s B4.out.2.r B4.out.2.m B4.out.2.s).mono ?_
  rintro e w5 ⟨m11, p11, c11, rfl, hf, hrd, hc, hn, hg⟩
  have F11 := Lib.hid hf
  have D := Lib.hid (dm_ok (mgV_ok _ _) hf hrd hc hn)
  clear hf hrd hc hn q4 q5
  rw [mgE_comm l1 l2]
  have K4 := Lib.hid (B4.out.keep hg)
  have K5 := Lib.hid (B5.out.keep hg)
  have K6 := Lib.hid (B6.out.keep hg)
  have K7 := Lib.hid (B7.out.keep hg)
  have K9 := Lib.hid (B9.out.keep hg)
  clear B4 B5 B6 B7 B9
  have B4 := K4
  have B5 := K5
  have B6 := K6
  have B7 := K7
  have B9 := K9
  clear K4 K5 K6 K7 K9
  have HG2 := Lib.hid (grown_trans HG.out hg)
  clear HG
  have HG := HG2
  clear HG2
  clear hg
  have hgb := bm_gr w5 p11 m11.length c11
  have BN := Lib.hid (bm_new D.out)
  have K4 := Lib.hid (B4.out.keep hgb)
  have K5 := Lib.hid (B5.out.keep hgb)
  have K6 := Lib.hid (B6.out.keep hgb)
  have K7 := Lib.hid (B7.out.keep hgb)
  have K9 := Lib.hid (B9.out.keep hgb)
  clear B4 B5 B6 B7 B9
  have B4 := K4
  have B5 := K5
  have B6 := K6
  have B7 := K7
  have B9 := K9
  clear K4 K5 K6 K7 K9
  have HG2 := Lib.hid (grown_trans HG.out hgb)
  clear HG
  have HG := HG2
  clear HG2
  clear hgb D
  have B11 := BN
  clear BN
  go_upto_region 6 with fail
  generalize hw : w5.alloc _ = w6 at *
  generalize w5.heap.size = n11 at *
  clear hw
  clear w5
  obtain ⟨E, hE⟩ : ∃ E, mgE l1 l2 = E := ⟨_, rfl⟩
  rw [hE]
  have HEE := Lib.hid hE
  clear hE
  have q7 := B7.out.cell
  have q9 := B9.out.cell
  go_wp2_with fail
  refine (rsame8_any m7 m9 p7 p9 c7 c9 _ _ _ B7.out.2.r B9.out.2.r ⟨by have := B7.out.2.m; omega, by have := B9.out.2.m; omega⟩).mono ?_
  rintro e w7 ⟨rfl, hg⟩
  rw [show smD m7 m9 = true from smD_fz.2 (F7.out.trans F9.out.symm)]
  clear q7 q9
  have K4 := Lib.hid (B4.out.keep hg)
  have K5 := Lib.hid (B5.out.keep hg)
  have K6 := Lib.hid (B6.out.keep hg)
  have K7 := Lib.hid (B7.out.keep hg)
  have K9 := Lib.hid (B9.out.keep hg)
  have K11 := Lib.hid (B11.out.keep hg)
  clear B4 B5 B6 B7 B9 B11
  have B4 := K4
  have B5 := K5
  have B6 := K6
  have B7 := K7
  have B9 := K9
  have B11 := K11
  clear K4 K5 K6 K7 K9 K11
  have HG2 := Lib.hid (grown_trans HG.out hg)
  clear HG
  have HG := HG2
  clear HG2
  clear hg
  have q7 := B7.out.cell
  have q11 := B11.out.cell
  go_wp2_with fail
  refine (rsame8_any m7 m11 p7 p11 c7 c11 _ _ _ B7.out.2.r B11.out.2.r ⟨by have := B7.out.2.m; omega, by have := B11.out.2.m; omega⟩).mono ?_
  rintro e w7 ⟨rfl, hg⟩
  rw [show smD m7 m11 = true from smD_fz.2 (F7.out.trans ((mg_comm l1 l2).trans F11.out.symm))]
  clear q7 q11
  have K4 := Lib.hid (B4.out.keep hg)
  have K5 := Lib.hid (B5.out.keep hg)
  have K6 := Lib.hid (B6.out.keep hg)
  have K7 := Lib.hid (B7.out.keep hg)
  have K9 := Lib.hid (B9.out.keep hg)
  have K11 := Lib.hid (B11.out.keep hg)
  clear B4 B5 B6 B7 B9 B11
  have B4 := K4
  have B5 := K5
  have B6 := K6
  have B7 := K7
  have B9 := K9
  have B11 := K11
  clear K4 K5 K6 K7 K9 K11
  have HG2 := Lib.hid (grown_trans HG.out hg)
  clear HG
  have HG := HG2
  clear HG2
  clear hg
  obtain ⟨K, hK⟩ : ∃ K, mgK l1 l2 = K := ⟨_, rfl⟩
  cases K with
  | false =>
    obtain rfl : E = 1 := by rw [← HEE.out]; exact (mg_false hK).2
    clear hK
    go_wp2_with fail
    refine (dawake_any _).mono ?_
    rintro e w8 ⟨rfl, hg⟩
    have HG2 := Lib.hid (grown_trans HG.out hg)
    clear hg HG
    go_wp2_with fail
    go_ret
    exact ⟨rfl, HG2.out⟩
  | true =>
    obtain rfl : E = 0 := by rw [← HEE.out]; exact (mg_true hK).2
    have HO := Lib.hid (mgK_ok hK)
    have H7 := Lib.hid (okD_congr (mgV_ok _ _) F7.out)
    clear hK
    go_upto_region 10 with fail
    have q6 := B6.out.cell
    have q7 := B7.out.cell
    go_wp2_with fail
    refine (dmerge_any m7 l3 p7 p3 c7 c3 _ _ _ B7.out.2.r B7.out.2.n B7.out.2.c B7.out.2.m B7.out.2.s B6.out.2.r B6.out.2.m B6.out.2.s).mono ?_
    rintro e w5 ⟨m13, p13, c13, rfl, hf, hrd, hc, hn, hg⟩
    have F13 := Lib.hid hf
    have D := Lib.hid (dm_ok (mgV_ok _ _) hf hrd hc hn)
    clear hf hrd hc hn q6 q7
    rw [(mgV_of H7.out HV.out).2]
    have K4 := Lib.hid (B4.out.keep hg)
    have K5 := Lib.hid (B5.out.keep hg)
    have K6 := Lib.hid (B6.out.keep hg)
    have K7 := Lib.hid (B7.out.keep hg)
    have K9 := Lib.hid (B9.out.keep hg)
    have K11 := Lib.hid (B11.out.keep hg)
    clear B4 B5 B6 B7 B9 B11
    have B4 := K4
    have B5 := K5
    have B6 := K6
    have B7 := K7
    have B9 := K9
    have B11 := K11
    clear K4 K5 K6 K7 K9 K11
    have HG2 := Lib.hid (grown_trans HG.out hg)
    clear HG
    have HG := HG2
    clear HG2
    clear hg
    have hgb := bm_gr w5 p13 m13.length c13
    have BN := Lib.hid (bm_new D.out)
    have K4 := Lib.hid (B4.out.keep hgb)
    have K5 := Lib.hid (B5.out.keep hgb)
    have K6 := Lib.hid (B6.out.keep hgb)
    have K7 := Lib.hid (B7.out.keep hgb)
    have K9 := Lib.hid (B9.out.keep hgb)
    have K11 := Lib.hid (B11.out.keep hgb)
    clear B4 B5 B6 B7 B9 B11
    have B4 := K4
    have B5 := K5
    have B6 := K6
    have B7 := K7
    have B9 := K9
    have B11 := K11
    clear K4 K5 K6 K7 K9 K11
    have HG2 := Lib.hid (grown_trans HG.out hgb)
    clear HG
    have HG := HG2
    clear HG2
    clear hgb D
    have B13 := BN
    clear BN
    go_upto_region 11 with fail
    generalize hw : w5.alloc _ = w6 at *
    generalize w5.heap.size = n13 at *
    clear hw
    clear w5
    have q5 := B5.out.cell
    have q6 := B6.out.cell
    go_wp2_with fail
    refine (dmerge_any l2 l3 p2 p3 c2 c3 _ _ _ B5.out.2.r B5.out.2.n B5.out.2.c B5.out.2.m B5.out.2.s B6.out.2.r B6.out.2.m B6.out.2.s).mono ?_
    rintro e w5 ⟨m15, p15, c15, rfl, hf, hrd, hc, hn, hg⟩
    have F15 := Lib.hid hf
    have D := Lib.hid (dm_ok (mgV_ok _ _) hf hrd hc hn)
    clear hf hrd hc hn q5 q6
    rw [(mgV_of HO.out.2 HV.out).2]
    have K4 := Lib.hid (B4.out.keep hg)
    have K5 := Lib.hid (B5.out.keep hg)
    have K6 := Lib.hid (B6.out.keep hg)
    have K7 := Lib.hid (B7.out.keep hg)
    have K9 := Lib.hid (B9.out.keep hg)
    have K11 := Lib.hid (B11.out.keep hg)
    have K13 := Lib.hid (B13.out.keep hg)
    clear B4 B5 B6 B7 B9 B11 B13
    have B4 := K4
    have B5 := K5
    have B6 := K6
    have B7 := K7
    have B9 := K9
    have B11 := K11
    have B13 := K13
    clear K4 K5 K6 K7 K9 K11 K13
    have HG2 := Lib.hid (grown_trans HG.out hg)
    clear HG
    have HG := HG2
    clear HG2
    clear hg
    have hgb := bm_gr w5 p15 m15.length c15
    have BN := Lib.hid (bm_new D.out)
    have K4 := Lib.hid (B4.out.keep hgb)
    have K5 := Lib.hid (B5.out.keep hgb)
    have K6 := Lib.hid (B6.out.keep hgb)
    have K7 := Lib.hid (B7.out.keep hgb)
    have K9 := Lib.hid (B9.out.keep hgb)
    have K11 := Lib.hid (B11.out.keep hgb)
    have K13 := Lib.hid (B13.out.keep hgb)
    clear B4 B5 B6 B7 B9 B11 B13
    have B4 := K4
    have B5 := K5
    have B6 := K6
    have B7 := K7
    have B9 := K9
    have B11 := K11
    have B13 := K13
    clear K4 K5 K6 K7 K9 K11 K13
    have HG2 := Lib.hid (grown_trans HG.out hgb)
    clear HG
    have HG := HG2
    clear HG2
    clear hgb D
    have B15 := BN
    clear BN
    go_upto_region 12 with fail
    generalize hw : w5.alloc _ = w6 at *
    generalize w5.heap.size = n15 at *
    clear hw
    clear w5
    have H15 := Lib.hid (okD_congr (mgV_ok _ _) F15.out)
    have q15 := B15.out.cell
    have q4 := B4.out.cell
    go_wp2_with fail
    refine (dmerge_any l1 m15 p1 p15 c1 c15 _ _ _ B4.out.2.r B4.out.2.n B4.out.2.c B4.out.2.m B4.out.2.s B15.out.2.r B15.out.2.m B15.out.2.s).mono ?_
    rintro e w5 ⟨m17, p17, c17, rfl, hf, hrd, hc, hn, hg⟩
    have F17 := Lib.hid hf
    have D := Lib.hid (dm_ok (mgV_ok _ _) hf hrd hc hn)
    clear hf hrd hc hn q15 q4
    rw [(mgV_of HO.out.1 H15.out).2]
    have K4 := Lib.hid (B4.out.keep hg)
    have K5 := Lib.hid (B5.out.keep hg)
    have K6 := Lib.hid (B6.out.keep hg)
    have K7 := Lib.hid (B7.out.keep hg)
    have K9 := Lib.hid (B9.out.keep hg)
    have K11 := Lib.hid (B11.out.keep hg)
    have K13 := Lib.hid (B13.out.keep hg)
    have K15 := Lib.hid (B15.out.keep hg)
    clear B4 B5 B6 B7 B9 B11 B13 B15
    have B4 := K4
    have B5 := K5
    have B6 := K6
    have B7 := K7
    have B9 := K9
    have B11 := K11
    have B13 := K13
    have B15 := K15
    clear K4 K5 K6 K7 K9 K11 K13 K15
    have HG2 := Lib.hid (grown_trans HG.out hg)
    clear HG
    have HG := HG2
    clear HG2
    clear hg
    have hgb := bm_gr w5 p17 m17.length c17
    have BN := Lib.hid (bm_new D.out)
    have K4 := Lib.hid (B4.out.keep hgb)
    have K5 := Lib.hid (B5.out.keep hgb)
    have K6 := Lib.hid (B6.out.keep hgb)
    have K7 := Lib.hid (B7.out.keep hgb)
    have K9 := Lib.hid (B9.out.keep hgb)
    have K11 := Lib.hid (B11.out.keep hgb)
    have K13 := Lib.hid (B13.out.keep hgb)
    have K15 := Lib.hid (B15.out.keep hgb)
    clear B4 B5 B6 B7 B9 B11 B13 B15
    have B4 := K4
    have B5 := K5
    have B6 := K6
    have B7 := K7
    have B9 := K9
    have B11 := K11
    have B13 := K13
    have B15 := K15
    clear K4 K5 K6 K7 K9 K11 K13 K15
    have HG2 := Lib.hid (grown_trans HG.out hgb)
    clear HG
    have HG := HG2
    clear HG2
    clear hgb D
    have B17 := BN
    clear BN
    go_upto_region 13 with fail
    generalize hw : w5.alloc _ = w6 at *
    generalize w5.heap.size = n17 at *
    clear hw
    clear w5
    have q4 := B4.out.cell
    have q7 := B7.out.cell
    go_wp2_with fail
    refine (dmerge_any m7 l1 p7 p1 c7 c1 _ _ _ B7.out.2.r B7.out.2.n B7.out.2.c B7.out.2.m B7.out.2.s B4.out.2.r B4.out.2.m B4.out.2.s).mono ?_
    rintro e w5 ⟨m19, p19, c19, rfl, hf, hrd, hc, hn, hg⟩
    have F19 := Lib.hid hf
    have D := Lib.hid (dm_ok (mgV_ok _ _) hf hrd hc hn)
    clear hf hrd hc hn q4 q7
    rw [(mgV_of H7.out HO.out.1).2]
    have K4 := Lib.hid (B4.out.keep hg)
    have K5 := Lib.hid (B5.out.keep hg)
    have K6 := Lib.hid (B6.out.keep hg)
    have K7 := Lib.hid (B7.out.keep hg)
    have K9 := Lib.hid (B9.out.keep hg)
    have K11 := Lib.hid (B11.out.keep hg)
    have K13 := Lib.hid (B13.out.keep hg)
    have K15 := Lib.hid (B15.out.keep hg)
    have K17 := Lib.hid (B17.out.keep hg)
    clear B4 B5 B6 B7 B9 B11 B13 B15 B17
    have B4 := K4
    have B5 := K5
    have B6 := K6
    have B7 := K7
    have B9 := K9
    have B11 := K11
    have B13 := K13
    have B15 := K15
    have B17 := K17
    clear K4 K5 K6 K7 K9 K11 K13 K15 K17
    have HG2 := Lib.hid (grown_trans HG.out hg)
    clear HG
    have HG := HG2
    clear HG2
    clear hg
    have hgb := bm_gr w5 p19 m19.length c19
    have BN := Lib.hid (bm_new D.out)
    have K4 := Lib.hid (B4.out.keep hgb)
    have K5 := Lib.hid (B5.out.keep hgb)
    have K6 := Lib.hid (B6.out.keep hgb)
    have K7 := Lib.hid (B7.out.keep hgb)
    have K9 := Lib.hid (B9.out.keep hgb)
    have K11 := Lib.hid (B11.out.keep hgb)
    have K13 := Lib.hid (B13.out.keep hgb)
    have K15 := Lib.hid (B15.out.keep hgb)
    have K17 := Lib.hid (B17.out.keep hgb)
    clear B4 B5 B6 B7 B9 B11 B13 B15 B17
    have B4 := K4
    have B5 := K5
    have B6 := K6
    have B7 := K7
    have B9 := K9
    have B11 := K11
    have B13 := K13
    have B15 := K15
    have B17 := K17
    clear K4 K5 K6 K7 K9 K11 K13 K15 K17
    have HG2 := Lib.hid (grown_trans HG.out hgb)
    clear HG
    have HG := HG2
    clear HG2
    clear hgb D
    have B19 := BN
    clear BN
    go_upto_region 14 with fail
    generalize hw : w5.alloc _ = w6 at *
    generalize w5.heap.size = n19 at *
    clear hw
    clear w5
    have q13 := B13.out.cell
    have q17 := B17.out.cell
    go_wp2_with fail
    refine (rsame8_any m13 m17 p13 p17 c13 c17 _ _ _ B13.out.2.r B17.out.2.r ⟨by have := B13.out.2.m; omega, by have := B17.out.2.m; omega⟩).mono ?_
    rintro e w7 ⟨rfl, hg⟩
    rw [show smD m13 m17 = true from smD_fz.2 (F13.out.trans (((mg_congr F7.out rfl).1.trans (mg_assoc HO.out.1 HO.out.2 HV.out)).trans ((mg_congr rfl F15.out).1.symm.trans F17.out.symm)))]
    clear q13 q17
    have K4 := Lib.hid (B4.out.keep hg)
    have K5 := Lib.hid (B5.out.keep hg)
    have K6 := Lib.hid (B6.out.keep hg)
    have K7 := Lib.hid (B7.out.keep hg)
    have K9 := Lib.hid (B9.out.keep hg)
    have K11 := Lib.hid (B11.out.keep hg)
    have K13 := Lib.hid (B13.out.keep hg)
    have K15 := Lib.hid (B15.out.keep hg)
    have K17 := Lib.hid (B17.out.keep hg)
    have K19 := Lib.hid (B19.out.keep hg)
    clear B4 B5 B6 B7 B9 B11 B13 B15 B17 B19
    have B4 := K4
    have B5 := K5
    have B6 := K6
    have B7 := K7
    have B9 := K9
    have B11 := K11
    have B13 := K13
    have B15 := K15
    have B17 := K17
    have B19 := K19
    clear K4 K5 K6 K7 K9 K11 K13 K15 K17 K19
    have HG2 := Lib.hid (grown_trans HG.out hg)
    clear HG
    have HG := HG2
    clear HG2
    clear hg
    have q19 := B19.out.cell
    have q7 := B7.out.cell
    go_wp2_with fail
    refine (rsame8_any m19 m7 p19 p7 c19 c7 _ _ _ B19.out.2.r B7.out.2.r ⟨by have := B19.out.2.m; omega, by have := B7.out.2.m; omega⟩).mono ?_
    rintro e w7 ⟨rfl, hg⟩
    rw [show smD m19 m7 = true from smD_fz.2 (F19.out.trans (((mg_congr F7.out rfl).1.trans (mg_idem HO.out.1 HO.out.2)).trans F7.out.symm))]
    clear q19 q7
    have K4 := Lib.hid (B4.out.keep hg)
    have K5 := Lib.hid (B5.out.keep hg)
    have K6 := Lib.hid (B6.out.keep hg)
    have K7 := Lib.hid (B7.out.keep hg)
    have K9 := Lib.hid (B9.out.keep hg)
    have K11 := Lib.hid (B11.out.keep hg)
    have K13 := Lib.hid (B13.out.keep hg)
    have K15 := Lib.hid (B15.out.keep hg)
    have K17 := Lib.hid (B17.out.keep hg)
    have K19 := Lib.hid (B19.out.keep hg)
    clear B4 B5 B6 B7 B9 B11 B13 B15 B17 B19
    have B4 := K4
    have B5 := K5
    have B6 := K6
    have B7 := K7
    have B9 := K9
    have B11 := K11
    have B13 := K13
    have B15 := K15
    have B17 := K17
    have B19 := K19
    clear K4 K5 K6 K7 K9 K11 K13 K15 K17 K19
    have HG2 := Lib.hid (grown_trans HG.out hg)
    clear HG
    have HG := HG2
    clear HG2
    clear hg
    go_wp2_with fail
    refine (dawake_any _).mono ?_
    rintro e w8 ⟨rfl, hg⟩
    have HG2 := Lib.hid (grown_trans HG.out hg)
    clear hg HG
    go_wp2_with fail
    go_ret
    exact ⟨rfl, HG2.out⟩
end Go.Proofs.Ytnpkihioklpnmaa

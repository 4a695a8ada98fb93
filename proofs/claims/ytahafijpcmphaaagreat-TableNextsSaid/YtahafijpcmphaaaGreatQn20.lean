/- Parts of the proof, packed: TaAwk, TaNeLaw. -/
import Derived.Test.YtahafijpcmphaaaGreatQn19
import Derived.Test.YtahafijpcmphaaaGreatQn15
import Derived.Test.YtahafijpcmphaaaGreatQn17
/- tables: awake. -/
namespace Go.Proofs.YtahafijpcmphaaaGreat
open Go.RowKit Bs
set_option maxRecDepth 100000 in
theorem rdf_rowT {w : World} {g : Nat} {t : TypeId} {n c : Nat} {xs : List Value} (h : w.heap[g]? = some (.cells xs.toArray t (0, 0))) : RdF w (· = g) (.slice (some ⟨g, 0, none⟩) n c) n xs :=
  ⟨some ⟨g, 0, none⟩, c, rfl, fun _ => ⟨g, 0, rfl, rfl, fun i x hi => by
    rw [cell_of_row _ _ _ _ _ _ h, Nat.zero_add]
    simpa using hi⟩⟩
set_option maxRecDepth 100000 in
theorem tbx_start (w : World) : ∃ w3, w3 = (((w.alloc (.cells #[.int .i64 1, .bool true, .int .i64 2, .bool false, .int .i64 3, .bool true] 92)).alloc (.cells #[.int .i64 1, .int .i64 2, .int .i64 1, .int .i64 1, .int .i64 0, .int .i64 2, .int .i64 3, .int .i64 1, .int .i64 1, .int .i64 0] 94)).alloc (.cells #[.slice (some ⟨w.heap.size, 0, none⟩) 3 3, .slice (some ⟨w.heap.size + 1, 0, none⟩) 2 2] 45)) ∧
    w3.heap[w.heap.size + 1 + 1]? = some (.cells #[.slice (some ⟨w.heap.size, 0, none⟩) 3 3, .slice (some ⟨w.heap.size + 1, 0, none⟩) 2 2] 45 (0, 0)) ∧ TgOk w3 (fun _ => True) ⟨tbxR, tbxL, some ⟨w.heap.size, 0, none⟩, 3, some ⟨w.heap.size + 1, 0, none⟩, 2⟩ ∧ w.grownBy w3 none := by
  obtain ⟨a1, g1, z1⟩ := alloc_row (w := w) #[.int .i64 1, .bool true, .int .i64 2, .bool false, .int .i64 3, .bool true] 92 rfl
  generalize w.alloc _ = w1 at *
  obtain ⟨a2, g2, z2⟩ := alloc_row (w := w1) #[.int .i64 1, .int .i64 2, .int .i64 1, .int .i64 1, .int .i64 0, .int .i64 2, .int .i64 3, .int .i64 1, .int .i64 1, .int .i64 0] 94 z1
  generalize w1.alloc _ = w2 at *
  obtain ⟨a3, g3, z3⟩ := alloc_row (w := w2) #[.slice (some ⟨w.heap.size, 0, none⟩) 3 3, .slice (some ⟨w.heap.size + 1, 0, none⟩) 2 2] 45 z2
  refine ⟨_, rfl, ?_⟩
  generalize w2.alloc _ = w3 at *
  exact ⟨a3, ⟨(rdf_rowT (xs := tbxR.flatMap rtC) (kept_row (kept_row a1 g2 (by simp)) g3 (by simp))).mono (fun _ _ => trivial), (rdf_rowT (xs := tbxL.flatMap lkC) (kept_row a2 g3 (by simp))).mono (fun _ _ => trivial), ⟨(by decide : 3 ≤ 3), (by decide : 3 ≤ 9223372036854775807)⟩, ⟨(by decide : 2 ≤ 2), (by decide : 2 ≤ 9223372036854775807)⟩⟩, grown_trans (grown_trans g1 g2) g3⟩
set_option maxRecDepth 100000 in
theorem tbx_ck (p : Option Addr) (c : Nat) : ckT 1 0 8 [⟨1, [3], p, c⟩] = 0 := by kernel_rfl
set_option maxRecDepth 100000 in
set_option maxHeartbeats 3200000 in
theorem awk11_any (w : World) : Calls Tryz.prog 21 #[] w fun e w' => e = .returned (.bool true) ∧ w.grownBy w' none := by
  obtain ⟨w3, h3, hb, hT, hg⟩ := tbx_start w
  have H3 := Lib.hid (And.intro hb (And.intro hT hg))
  clear hb hT hg
  go_enter Tryz.func21, Tryz.ntmps21
  go_upto_region 2 with fail
  rw [← h3]
  clear h3
  obtain ⟨t0, t1⟩ := row_cells H3.out.1
  have hb4 := alloc_row (w := w3) #[.int .i64 3, .int .i64 1] 71 rfl
  have H4 := Lib.hid (And.intro hb4.1 hb4.2.1)
  clear hb4
  go_wp2_with fail
  generalize w3.alloc _ = w4 at *
  generalize w3.heap.size = g4 at *
  refine (tBuild_any ⟨tbxR, tbxL, some ⟨w.heap.size, 0, none⟩, 3, some ⟨w.heap.size + 1, 0, none⟩, 2⟩ 0 8 1 tbxE (some ⟨g4, 0, none⟩) 1 _ _ w4 (H3.out.2.1.keep H4.out.2) (rdf_rowT (xs := tbxE.flatMap edC) H4.out.1) (by decide) (fun h => by cases h) (by show 3 ≤ 1000; decide) (fun _ => by show 3 ≤ 12; decide) (by show 2 ≤ 1000; decide) (fun _ => by unfold I64; omega)).mono ?_
  rintro e w5 ⟨r1, s1, n1, L, p, c, er, rfl, her, hown, hrows, hres, hg⟩
  simp only at her hres
  rw [tbx_bu] at her
  subst her
  obtain ⟨rfl, rfl, rfl, hM⟩ : r1 = 1 ∧ s1 = 0 ∧ n1 = 8 ∧ BldM tbxR tbxL 1 tbxE L := by
    rcases hres with h | h
    · exact h.2
    · exact absurd rfl h.1
  obtain ⟨x, rfl, hxi, hxn⟩ := tbx_bld hM
  obtain ⟨xi, xn, xp, xc⟩ := x
  simp only at hxi hxn
  subst hxi
  subst hxn
  have hx := hrows _ (List.mem_singleton.2 rfl)
  have hR : RdW w5 (fun _ => True) p c [⟨1, [3], xp, xc⟩] := ⟨(rdf_of_own2 hown).mono (fun _ _ => trivial), fun y hy => by
    rw [List.mem_singleton.1 hy]
    exact ⟨hx.1.mono (fun _ _ => trivial), hx.2.2⟩⟩
  obtain ⟨-, b, off, rfl, -, hc⟩ := rw_cells hR.rd (by show 0 < 1; decide)
  have a00 := hc 0 _ rfl
  have G5 := Lib.hid (grown_trans H3.out.2.2 (grown_trans H4.out.2 hg))
  have HR := Lib.hid hR
  have HA := Lib.hid a00
  clear hown hrows hres hg hM hx hR hc a00 t0 t1 H3 H4
  go_upto_region 3 with fail
  obtain ⟨k1, k2⟩ := tone_box w5 #[.int .i64 1, .int .i64 0, .int .i64 8, .slice (some ⟨b, off, none⟩) 1 c] 25
  have H6 := Lib.hid (And.intro k1 (And.intro (grown_trans G5.out k2) (HR.out.keep k2)))
  have a0 := k2.cell HA.out.1 (by simp)
  have a1 := k2.cell HA.out.2 (by simp)
  simp only [Nat.zero_mul, Nat.add_zero] at a0 a1
  clear k1 k2 HA HR G5
  obtain ⟨d0, d1, d2, d3⟩ := row4T H6.out.1
  generalize w5.alloc _ = w6 at *
  generalize w5.heap.size = B at *
  have hb7 := alloc_row (w := w6) #[.int .i64 3] 3 rfl
  have H7 := Lib.hid (And.intro hb7.1 hb7.2.1)
  clear hb7
  go_wp2_with fail
  refine (rintsG_any [3] [3] xp (some ⟨w6.heap.size, 0, none⟩) xc 1 _ _ _ ((H6.out.2.2.keep H7.out.2).ok _ (List.mem_singleton.2 rfl)).rd (rdf_rowT (xs := ([3] : List Int).map tv) H7.out.1) (by decide) (by decide)).mono ?_
  rintro e w7 ⟨rfl, hg⟩
  rw [show decide (([3] : List Int) = [3]) = true from rfl]
  have H8 := Lib.hid (And.intro (grown_trans H7.out.2 hg) (And.intro (kept_row H6.out.1 (grown_trans H7.out.2 hg) (by simp)) (H6.out.2.2.keep (grown_trans H7.out.2 hg))))
  clear hg H7 d0 d1 d2 d3 a0 a1
  obtain ⟨d0, d1, d2, d3⟩ := row4T H8.out.2.1
  go_wp2_with fail
  refine (tcheckT_any 1 0 8 (some ⟨b, off, none⟩) c [⟨1, [3], xp, xc⟩] _ w7 H8.out.2.2 (by show 1 ≤ 9223372036854775807; decide)).mono ?_
  rintro e w8 ⟨rfl, hg⟩
  rw [tbx_ck]
  have G := Lib.hid (grown_trans (grown_trans H6.out.2.1 H8.out.1) hg)
  clear hg d0 d1 d2 d3 H8 H6
  simp only
  go_wp2_with fail
  go_ret
  exact ⟨rfl, G.out⟩
end Go.Proofs.YtahafijpcmphaaaGreat

/- tables: the law of the next hops. -/
namespace Go.Proofs.YtahafijpcmphaaaGreat
open Go.RowKit Bs
/-- All that the rounds of the law read. -/
structure LN (W : World) (T : Tg) (s n r : Int) (E : List Ed) (pE : Option Addr) (cE B C g : Nat) (p : Option Addr) (c : Nat) (L : List Rw) (w : World) : Prop where
  bT : w.heap[B]? = some (.cells #[.slice T.pR T.R.length T.cR, .slice T.pL T.L.length T.cL] 45 (0, 0))
  bP : w.heap[C]? = some (.cells #[.int .i64 s, .int .i64 n, .slice pE E.length cE] 48 (0, 0))
  bx : w.heap[g]? = some (.cells #[.int .i64 r, .int .i64 s, .int .i64 n, .slice p L.length c] 25 (0, 0))
  t : TgOk w (fun _ => True) T
  e : RdF w (fun _ => True) (.slice pE E.length cE) E.length (E.flatMap edC)
  rd : RdW w (fun _ => True) p c L
  gr : W.grownBy w none
set_option maxRecDepth 100000 in
theorem LN.keep {W : World} {T : Tg} {s n r : Int} {E : List Ed} {pE : Option Addr} {cE B C g : Nat} {p : Option Addr} {c : Nat} {L : List Rw} {w w1 : World} (h : LN W T s n r E pE cE B C g p c L w) (k : w.grownBy w1 none) : LN W T s n r E pE cE B C g p c L w1 :=
  ⟨kept_row h.bT k (by simp), kept_row h.bP k (by simp), kept_row h.bx k (by simp), h.t.keep k, h.e.keep k, h.rd.keep k, grown_trans h.gr k⟩
set_option maxRecDepth 100000 in
set_option maxHeartbeats 12800000 in
theorem tnextsl_walk (v : Value) (w : World) (hv : IntsIn w v) :
    Calls Tryz.prog 8 #[v] w fun e w' => e = .returned (.bool true) ∧ w.grownBy w' none := by
  have HV := Lib.hid hv
  clear hv
  go_enter Tryz.func8, Tryz.ntmps8
  go_wp2_with fail
  refine (new_any v w HV.out).mono ?_
  rintro e w1 ⟨rfl, hg1, hT1⟩
  have H1 := Lib.hid (And.intro hg1 hT1)
  clear hg1 hT1 HV
  obtain ⟨a, ha⟩ : ∃ a, w.heap.size = a := ⟨_, rfl⟩
  have HA := Lib.hid ha
  rw [ha] at H1 ⊢
  clear ha
  go_wp2_with fail
  refine (stopoC_any a 7 (by omega) (by omega) w1 H1.out.2).mono ?_
  rintro e w3 ⟨T, rfl, hTg, hO, hpl, hcap, hs⟩
  have HGT := Lib.hid (GT.topo hO (by omega) hpl)
  have H3 := Lib.hid (gx_start HA.out H1.out.1 H1.out.2 hTg hs)
  have HOK : Hid (chk T.R T.L = 0 ∧ okT T.R T.L = true ∧ ∀ y ∈ T.R, y.cap = true) := Lib.hid (by
    have h := (hO.2.2.2.2 (Int.le_refl 0)).1
    exact ⟨h, by unfold okT; rw [h]; rfl, hcap⟩)
  obtain ⟨R, L0, pR, cR, pL, cL⟩ := T
  (try simp only at HGT H3 HOK)
  clear hTg hO hpl hcap hs H1
  go_upto_region 3 with fail
  generalize w3.alloc _ = w4 at *
  generalize w3.heap.size = B at *
  obtain ⟨t0, t1⟩ := row_cells H3.out.bT
  go_wp2_with fail
  refine (tplan_any a 0 (by unfold I64; omega) R pR pL cR L0.length cL HGT.out.len.2 w4 H3.out.tp (H3.out.t.r.mono (fun b hb => ⟨by omega, hb.2.2⟩))).mono ?_
  rintro e w7 ⟨sub, len, E, pE, cE, rfl, hE, hEl, hgood, hs⟩
  obtain ⟨hg1, hg2, O, i, id, hO, hP⟩ := hgood (Int.le_refl 0)
  have hsub : inV sub 0 7 = true := by unfold inV at hg1 ⊢; simp only [decide_eq_true_eq] at hg1 ⊢; omega
  have HVP := Lib.hid (hP.valid HOK.out.1 hO hsub hg2).1
  have H7 := Lib.hid (gp_start sub len H3.out hs hE)
  have HEL : Hid (E.length ≤ 41) := Lib.hid (by have := HGT.out.len.2; simp only at this; omega)
  clear hE hEl hgood hg1 hg2 hO hP hsub hs H3 t0 t1
  go_upto_region 4 with fail
  generalize w7.alloc _ = w8 at *
  generalize w7.heap.size = C at *
  obtain ⟨t0, t1⟩ := row_cells H7.out.gx.bT
  go_wp2_with fail
  refine (srtr_any a ⟨R, L0, pR, cR, pL, cL⟩ 0 (by unfold I64; omega) _ w8 H7.out.gx.t (fun b hb => by omega) H7.out.gx.tp).mono ?_
  rintro e w9 ⟨r, hr, rfl, hs⟩
  have H9 := Lib.hid (H7.out.tape hs)
  have HR : Hid (r ∈ ids R ∧ I64 r) := Lib.hid (by
    have hi := GT.rt hr HOK.out.2.1
    rcases hr with ⟨y, hy, e⟩ | ⟨h1, -⟩
    · exact ⟨List.mem_map.2 ⟨y, hy, e⟩, hi⟩
    · have := HGT.out.len.1; simp only at this h1; omega)
  have HBU : Hid (buE R L0 sub len E r = 0) := Lib.hid (bu_ok ⟨HOK.out.2.1, HVP.out⟩ (hasV_iff.2 ⟨HOK.out.2.1, HR.out.1⟩) (cap_all HOK.out.2.1 HOK.out.2.2 r HR.out.1))
  clear hr hs H7 t0 t1
  obtain ⟨t0, t1⟩ := row_cells H9.out.gx.bT
  obtain ⟨q0, q1, q2⟩ := row3B H9.out.bP
  go_wp2_with fail
  refine (tBuild_any ⟨R, L0, pR, cR, pL, cL⟩ sub len r E pE cE _ _ w9 H9.out.gx.t H9.out.e (by have := HEL.out; omega) HGT.out.pl (Nat.le_trans HGT.out.len.2 (by decide)) HGT.out.ok (Nat.le_trans HGT.out.l60 (by decide)) (fun _ => HR.out.2)).mono ?_
  rintro e w10 ⟨r1, s1, n1, L, p, c, er, rfl, her, hown, hrows, hres, hg⟩
  simp only at her hres
  rw [HBU.out] at her
  subst her
  obtain ⟨rfl, rfl, rfl, hM⟩ : r1 = r ∧ s1 = sub ∧ n1 = len ∧ BldM R L0 r E L := by
    rcases hres with h | h
    · exact h.2
    · exact absurd rfl h.1
  have HM := Lib.hid hM
  obtain ⟨k1, k2⟩ := tone_box w10 #[.int .i64 r1, .int .i64 s1, .int .i64 n1, .slice p L.length c] 25
  have K0 : Hid (LN w ⟨R, L0, pR, cR, pL, cL⟩ s1 n1 r1 E pE cE B C w10.heap.size p c L (w10.alloc (.cells #[.int .i64 r1, .int .i64 s1, .int .i64 n1, .slice p L.length c] 25))) := Lib.hid (by
    have h := (H9.out.keep hg).keep k2
    exact ⟨h.gx.bT, h.bP, k1, h.gx.t.mono (fun _ _ => trivial), h.e.mono (fun _ _ => trivial), ((rdw_bld hown hrows).1.mono (fun _ _ => trivial)).keep k2, h.gx.gr⟩)
  have hl : L.length = E.length := hM.1
  have HL := Lib.hid hl
  clear hown hrows hres hg hM k1 k2 hl H9 t0 t1 q0 q1 q2
  go_upto_region 6 with fail
  generalize w10.alloc _ = w11 at *
  generalize w10.heap.size = g at *
  obtain ⟨d0, d1, d2, d3⟩ := row4T K0.out.bx
  obtain ⟨q0, q1, q2⟩ := row3B K0.out.bP
  have hlE : ((L.length : Int) != (E.length : Int)) = false := by rw [HL.out]; simp
  go_upto_region 8 with fail
  clear d0 d1 d2 d3 q0 q1 q2 hlE
  go_wp2_with fail
  go_loopw [9] (fun v wr => ∃ k : Nat, k ≤ E.length ∧ v = .int .i64 (k : Int) ∧ Hid (LN w ⟨R, L0, pR, cR, pL, cL⟩ s1 n1 r1 E pE cE B C g p c L wr)) (fun v _ => E.length - (RowKit.intOf v).toNat)
  case atStart => exact ⟨0, Nat.zero_le _, rfl, K0⟩
  case round =>
  clear K0
  obtain ⟨k, hk, rfl, K⟩ := hrel
  obtain ⟨w5, hw5⟩ : ∃ w5, w5 = wr := ⟨_, rfl⟩
  rw [← hw5] at K ⊢
  clear hw5
  obtain ⟨q0, q1, q2⟩ := row3B K.out.bP
  by_cases hlt : k < E.length
  case neg =>
    obtain rfl : k = E.length := by omega
    have hnl : ¬ (E.length : Int) < (E.length : Int) := by omega
    go_wp2_with fail
    refine (awk11_any w5).mono ?_
    rintro e w6 ⟨rfl, hg⟩
    have G := Lib.hid (grown_trans K.out.gr hg)
    clear hg K q0 q1 q2
    simp only
    go_wp2_with fail
    go_ret
    exact ⟨rfl, G.out⟩
  have hlt' : (k : Int) < (E.length : Int) := by omega
  have hE41 := HEL.out
  have hlt2 : (k : Int) < (L.length : Int) := by have := HL.out; omega
  have hk0 : (0 : Int) ≤ (k : Int) := by omega
  obtain ⟨e, he⟩ : ∃ e, E[k]? = some e := ⟨_, List.getElem?_eq_getElem hlt⟩
  obtain ⟨x, hx⟩ : ∃ x, L[k]? = some x := ⟨_, List.getElem?_eq_getElem (by have := HL.out; omega)⟩
  obtain ⟨b, off, rfl, hc⟩ := edT_cells K.out.e (by omega)
  obtain ⟨a0, a1⟩ := hc k e he
  obtain ⟨-, b2, o2, rfl, -, hc2⟩ := rw_cells K.out.rd.rd (by have := HL.out; omega)
  obtain ⟨m0, m1⟩ := hc2 k x hx
  have HNB := Lib.hid (HM.out.2 k e x he hx).2
  have HXO := Lib.hid (K.out.rd.ok x (List.mem_of_getElem? hx))
  obtain ⟨d0, d1, d2, d3⟩ := row4T K.out.bx
  obtain ⟨er, ei⟩ := e
  obtain ⟨xi, xn, xp, xc⟩ := x
  simp only at a0 a1 m0 m1 HNB HXO
  clear hc hc2 he hx
  go_upto_region 13 with fail
  clear a0 a1 m0 m1 d0 d1 d2 d3 q0 q1 q2
  by_cases her : er = r1
  case pos =>
    have her' : (er == r1) = true := by simpa using her
    have hxn : xn = [r1] := by have h := HNB.out; unfold NxB at h; rw [if_pos her] at h; exact h
    subst hxn
    clear her
    have hb7 := alloc_row (w := w5) #[.int .i64 r1] 3 rfl
    have H7 := Lib.hid (And.intro hb7.1 hb7.2.1)
    clear hb7
    go_wp2_with fail
    refine (rintsG_any [r1] [r1] xp (some ⟨w5.heap.size, 0, none⟩) xc 1 _ _ _ (HXO.out.keep H7.out.2).rd (rdf_rowT (xs := ([r1] : List Int).map tv) H7.out.1) (by show 1 ≤ 9223372036854775807; decide) (by show 1 ≤ 9223372036854775807; decide)).mono ?_
    rintro e' w7 ⟨rfl, hg⟩
    rw [decide_eq_true (rfl : ([r1] : List Int) = [r1])]
    have K7 := Lib.hid ((K.out.keep H7.out.2).keep hg)
    clear hg K H7
    simp only
    go_wp2_with fail
    exact ⟨⟨k + 1, by omega, congrArg _ (by omega), K7⟩, by simp only [RowKit.intOf]; omega⟩
  have her' : (er == r1) = false := by simpa using her
  have HXE := Lib.hid (nexts_eq HOK.out.2.1 HOK.out.2.2 HNB.out her)
  have HXC := Lib.hid (nexts_conn (x := er) (hasV_iff.2 ⟨HOK.out.2.1, HR.out.1⟩) (fun h => her h.symm))
  clear her
  obtain ⟨t0, t1⟩ := row_cells K.out.bT
  have hR1 : R.length ≤ 1000 := Nat.le_trans HGT.out.len.2 (by decide)
  have hL1 : L0.length ≤ 1000 := Nat.le_trans HGT.out.l60 (by decide)
  go_wp2_with fail
  refine (tnextW_any ⟨R, L0, pR, cR, pL, cL⟩ r1 er _ w5 K.out.t hR1 hL1 HGT.out.pl (fun _ => HR.out.2)).mono ?_
  rintro e' w7 ⟨p7, c7, rfl, hr7, hc7, hn7, hg7⟩
  (try simp only at hr7 hc7 ⊢)
  obtain ⟨X, hX⟩ : ∃ X, nxt R L0 r1 er = X := ⟨_, rfl⟩
  have hxe := HXE.out
  rw [hX] at hr7 hc7 hxe ⊢
  have HXC2 : Hid (decide (0 < X.length) = conn R L0 r1 er) := Lib.hid (by rw [← hX]; exact HXC.out)
  subst hxe
  have K7 := Lib.hid (K.out.keep hg7)
  have H7 := Lib.hid (And.intro (HXO.out.keep hg7) (And.intro hr7 hc7))
  clear hX hr7 hc7 hn7 hg7 t0 t1 K HXE HXC HNB
  go_wp2_with fail
  refine (rintsG_any xn xn xp p7 xc c7 _ _ w7 H7.out.1.rd H7.out.2.1 (Nat.le_trans H7.out.1.hc.1 H7.out.1.hc.2) (Nat.le_trans H7.out.1.hc.1 H7.out.1.hc.2)).mono ?_
  rintro e' w8' ⟨rfl, hg⟩
  rw [decide_eq_true (rfl : xn = xn)]
  have K8 := Lib.hid (K7.out.keep hg)
  clear hg K7 H7
  simp only
  obtain ⟨t0, t1⟩ := row_cells K8.out.bT
  obtain ⟨cb, hcb⟩ : ∃ cb, conn R L0 r1 er = cb := ⟨_, rfl⟩
  have HCB := Lib.hid hcb
  by_cases h0 : 0 < xn.length
  · have h0' : (0 : Int) < (xn.length : Int) := by omega
    have hct : cb = true := by rw [← HCB.out, ← HXC2.out]; exact decide_eq_true h0
    subst hct
    go_wp2_with fail
    refine (rconn_any ⟨R, L0, pR, cR, pL, cL⟩ r1 er _ w8' K8.out.t).mono ?_
    rintro e' w9' ⟨rfl, hg⟩
    simp only
    rw [HCB.out]
    have K9 := Lib.hid (K8.out.keep hg)
    clear hg K8 t0 t1 hcb
    go_wp2_with fail
    exact ⟨⟨k + 1, by omega, congrArg _ (by omega), K9⟩, by simp only [RowKit.intOf]; omega⟩
  · have h0' : ¬ (0 : Int) < (xn.length : Int) := by omega
    have hct : cb = false := by rw [← HCB.out, ← HXC2.out]; exact decide_eq_false h0
    clear h0
    subst hct
    go_wp2_with fail
    refine (rconn_any ⟨R, L0, pR, cR, pL, cL⟩ r1 er _ w8' K8.out.t).mono ?_
    rintro e' w9' ⟨rfl, hg⟩
    simp only
    rw [HCB.out]
    have K9 := Lib.hid (K8.out.keep hg)
    clear hg K8 t0 t1 hcb
    go_wp2_with fail
    exact ⟨⟨k + 1, by omega, congrArg _ (by omega), K9⟩, by simp only [RowKit.intOf]; omega⟩
end Go.Proofs.YtahafijpcmphaaaGreat

/- Parts of the proof, packed: FwMaLaw. -/
import Derived.Test.YtpogblengagpaaaGreatDoorMk16
import Derived.Test.YtpogblengagpaaaGreatDoorMk8
import Derived.Test.YtpogblengagpaaaGreatDoorMk11
/- ForwardMasks: the law. -/
namespace Go.Proofs.YtpogblengagpaaaGreatDoor
set_option maxRecDepth 100000
open Go.RowKit Go.Maps Bs
theorem nx_own {r : Int} {x : Rw} {k : Nat} (h : cfW r x = false) (hr : r ≠ 0) : nxI x.nx k = r ↔ nxI x.nx 0 = r := by
 have key : ∀ k, nxI x.nx k = r → ∀ l, nxI x.nx l = r := fun k hk l => by
  have hm : r ∈ x.nx := by have := nxI_mem (X := x.nx) (k := k) (by rw [hk]; exact hr); rwa [hk] at this
  have hl : x.nx.length ≤ 1 := by
   rcases Nat.lt_or_ge 1 x.nx.length with h1 | h1
   ·unfold cfW at h
    simp only [h1, decide_true, Bool.true_and, List.any_eq_false, decide_eq_true_eq] at h
    exact absurd rfl (h r hm)
   ·exact h1
  have h1 : x.nx.length = 1 := by
   have := List.length_pos_of_mem hm
   omega
  unfold nxI at hk ⊢
  rw [if_neg (by omega), h1, Nat.mod_one] at hk ⊢
  exact hk
 exact ⟨fun h1 => key k h1 0, fun h1 => key 0 h1 k⟩
theorem nx_any {x : Rw} (h : wrW x = false) (k : Nat) : nxI x.nx k ≠ 0 ↔ nxI x.nx 0 ≠ 0 := by
 have key : ∀ k, (nxI x.nx k ≠ 0 ↔ x.nx.length ≠ 0) := fun k => by
  constructor
  ·intro h1 h0
   unfold nxI at h1
   rw [if_pos h0] at h1
   exact h1 rfl
  ·intro h1 h0
   have hm := List.mem_of_getElem? (nxI_at (k := k) h1)
   rw [h0] at hm
   unfold wrW at h
   simp only [Bool.or_eq_false_iff, List.any_eq_false] at h
   have := h.2 0 hm
   unfold inV at this
   simp at this
 rw [key k, key 0]
theorem fw_own {r s n : Int} {L : List Rw} {P : Pk} (h : ckT r s n L = 0) : fwM n L P r = (coF r s n L 0 P.set r).getD 0 := by
 have ho := ck_ok h
 have hr := ck_rtF h
 rw [show (0 : Int) = ((0 : Nat) : Int) from rfl, coF_in (by omega) h]
 refine Nat.eq_of_testBit_eq fun j => ?_
 rw [Bool.eq_iff_iff]
 unfold fwM
 rw [colL_bit, colL_bit]
 constructor
 ·rintro ⟨x, hx, h1, h2, h3, h4⟩
  exact ⟨x, hx, h1, (nx_own (any_memT ho.2.2.2.2.2.2 hx) h3).1 h2, h3, h4⟩
 ·rintro ⟨x, hx, h1, h2, h3, h4⟩
  exact ⟨x, hx, h1, (nx_own (any_memT ho.2.2.2.2.2.2 hx) h3).2 h2, h3, h4⟩
theorem fw_reach {r s n : Int} {L : List Rw} {P : Pk} (h : fwE r s n L P = 0) {R : Nat} (hR : RcO (coF r s n L 0 P.set) R) {j : Nat} (hj : j < 64) : R.testBit j = true ↔ fwH n L P j ≠ 0 := by
 have hck := (fwE_ok h).1
 have ho := ck_ok hck
 have hms := fw_ms h
 have e0 : ∀ u, coF r s n L 0 P.set u = colL n P.set 0 L u := fun u => by
  rw [show (0 : Int) = ((0 : Nat) : Int) from rfl, coF_in (by omega) hck]
 rw [hR j]
 constructor
 ·rintro ⟨u, hu⟩
  rw [e0, colL_bit] at hu
  obtain ⟨x, hx, h1, h2, h3, h4⟩ := hu
  have h5 := (nx_any (any_memT ho.2.1 hx) (planeV P).toNat).2 (by rw [h2]; exact h3)
  have hb : (fwM n L P (nxI x.nx (planeV P).toNat)).testBit j = true := by
   unfold fwM
   rw [colL_bit]
   exact ⟨x, hx, h1, rfl, h5, h4⟩
  rw [((hms _ h5).2 j).1 hb |>.1]
  exact h5
 ·intro h0
  have hb := ((hms _ h0).2 j).2 ⟨rfl, hj⟩
  unfold fwM at hb
  rw [colL_bit] at hb
  obtain ⟨x, hx, h1, h2, h3, h4⟩ := hb
  have h5 := (nx_any (any_memT ho.2.1 hx) (planeV P).toNat).1 (by rw [h2]; exact h3)
  refine ⟨nxI x.nx 0, ?_⟩
  rw [e0, colL_bit]
  exact ⟨x, hx, h1, rfl, h5, h4⟩
theorem RcO_u {r s n : Int} {L : List Rw} {set : Int} {R : Nat} (hR : RcO (coF r s n L 0 set) R) : U64 R := by
 show R < 2 ^ 64
 refine Nat.lt_pow_two_of_testBit R fun i hi => ?_
 cases hb : R.testBit i with
 | false => rfl
 | true =>
  obtain ⟨u, hu⟩ := (hR i).1 hb
  have := u64_bit ((coF_ok r s n L 0 set).getD u) hu
  omega
theorem law_loc {r s n : Int} {L : List Rw} {P : Pk} (h : fwE r s n L P = 0) {loc lost : Nat} {cs : List (Int × Nat)} (D : FwD (fwM n L P) (fwH n L P) r (decide (P.ttl = 0)) P.bits loc lost cs) (hP : U64 P.bits) : loc = P.bits &&& (coF r s n L 0 P.set r).getD 0 := by
 have hck := (fwE_ok h).1
 have hr := ck_rtF hck
 rw [← fw_own (P := P) hck]
 refine Nat.eq_of_testBit_eq fun j => ?_
 rw [D.hloc, Nat.testBit_and]
 cases hp : P.bits.testBit j with
 | false => rfl
 | true =>
  rw [Bool.true_and, Bool.true_and, Bool.eq_iff_iff, decide_eq_true_eq, ((fw_ms h r (by omega)).2 j)]
  exact ⟨fun e => ⟨e, u64_bit hP hp⟩, fun e => e.1⟩
theorem law_lost {r s n : Int} {L : List Rw} {P : Pk} (h : fwE r s n L P = 0) {loc lost : Nat} {cs : List (Int × Nat)} (D : FwD (fwM n L P) (fwH n L P) r (decide (P.ttl = 0)) P.bits loc lost cs) (hP : U64 P.bits) (ht : P.ttl ≠ 0) {R : Nat} (hR : RcO (coF r s n L 0 P.set) R) (hRu : U64 R) : lost = ntB P.bits R := by
 refine Nat.eq_of_testBit_eq fun j => ?_
 rw [D.hlost, ntB_bit hP hRu, decide_eq_false ht]
 cases hp : P.bits.testBit j with
 | false => rfl
 | true =>
  rw [Bool.true_and, Bool.true_and, Bool.eq_iff_iff]
  have := fw_reach h hR (u64_bit hP hp)
  unfold lzB
  cases hb : R.testBit j with
  | false =>
   rw [hb] at this
   have h0 : fwH n L P j = 0 := Classical.byContradiction fun e => by have := this.2 e; cases this
   simp [h0]
  | true =>
   rw [hb] at this
   have := this.1 rfl
   simp [this]
theorem law_lost0 {r s n : Int} {L : List Rw} {P : Pk} (h : fwE r s n L P = 0) {loc lost : Nat} {cs : List (Int × Nat)} (D : FwD (fwM n L P) (fwH n L P) r (decide (P.ttl = 0)) P.bits loc lost cs) (hP : U64 P.bits) (ht : P.ttl = 0) : lost = ntB P.bits ((coF r s n L 0 P.set r).getD 0) := by
 have hck := (fwE_ok h).1
 have hr := ck_rtF hck
 have hms := fw_ms h r (by omega)
 rw [← fw_own (P := P) hck]
 refine Nat.eq_of_testBit_eq fun j => ?_
 rw [D.hlost, ntB_bit hP hms.1, decide_eq_true ht]
 cases hp : P.bits.testBit j with
 | false => rfl
 | true =>
  rw [Bool.true_and, Bool.true_and]
  unfold lzB
  cases hb : (fwM n L P r).testBit j with
  | false =>
   have h1 : fwH n L P j ≠ r := fun e => by
    have := (hms.2 j).2 ⟨e, u64_bit hP hp⟩
    rw [hb] at this
    cases this
   simp [h1]
  | true =>
   have h1 := ((hms.2 j).1 hb).1
   have h0 : r ≠ 0 := by omega
   simp [h1, h0]
set_option maxHeartbeats 12800000 in
theorem masks_walkF (v0 : Value) (w : World) (hv : IntsIn w v0) (hT : Tb w) :
  Calls Tryz.prog 5 #[v0] w fun e w' => e = .returned (.bool true) ∧ w.grownBy w' none := by
 have HT := Lib.hid hT
 have HV0 := Lib.hid hv
 clear hT hv
 go_enter Tryz.func5, Tryz.ntmps5
 go_wp2_with fail
 refine (new_any v0 w HV0.out).mono ?_
 rintro e w2 ⟨rfl, hg1, hT1⟩
 have H2 := Lib.hid (And.intro hg1 hT1)
 clear hg1 hT1
 go_wp2_with fail
 refine (fit_any w.heap.size w2 H2.out.2).mono ?_
 rintro e w3 ⟨r, s, n, L, p, c, Q, rfl, hO, hck, hF, hl, hs⟩
 have hk3 : w.grownBy w3 none := grown_any H2.out.1 hs.gr (fun b hb e => by have := Option.some.inj e; omega)
 have HF := Lib.hid (And.intro hck (And.intro hF (And.intro hs.tp hO)))
 have HE := Lib.hid (fit_E hck hF)
 have hL24 := hl
 obtain ⟨k1, k2, k3⟩ := two_newF w3 (.cells #[.int .i64 r, .int .i64 s, .int .i64 n, .slice p L.length c] 25) (.cells (pcells Q) 28)
 have HB := Lib.hid (And.intro k1 (And.intro k2 (And.intro k3 (And.intro (((own_rdw hO).1.keep k3).mono (q' := (· < ((w3.alloc (.cells #[.int .i64 r, .int .i64 s, .int .i64 n, .slice p L.length c] 25)).alloc (.cells (pcells Q) 28)).heap.size)) (fun b (hb : b < w3.heap.size) => by show b < _; simp; omega)) (HT.out.keep (grown_trans hk3 k3))))))
 have HG3 := Lib.hid hk3
 unfold pcells at HB
 clear k1 k2 k3 hO hck hF hs hk3 hl H2
 go_upto_region 3 with fail
 generalize (w3.alloc _).alloc _ = w4 at *
 have HQB : Hid (w4.heap[w3.heap.size + 1]? = some (.cells (pcells Q) 28 (0, 0))) := Lib.hid HB.out.2.1
 obtain ⟨d0, d1, d2, d3⟩ := row4T HB.out.1
 obtain ⟨a0, a1, a2, a3, a4, a5, a6, a7, a8, a9⟩ := p_facts HQB.out
 go_wp2_with fail
 refine (fwpk_any r s n p c L Q HF.out.2.1.wf w4 HB.out.2.2.2.1 (by omega) HB.out.2.2.2.2).mono ?_
 rintro e w5 ⟨x, loc, lost, cs, pc, cc, rfl, hR, hO, hg⟩
 obtain rfl : x = 0 := hR.he.trans HE.out
 have HD := Lib.hid (hR.ok rfl)
 have HU := Lib.hid hR.hu
 have hcl := (hR.ok rfl).len (fw_ms HE.out) HF.out.2.1.wf.bits
 obtain ⟨k1, k2⟩ := tone_box w5 #[.int .u64 (loc : Int), .int .u64 (lost : Int), .slice pc cs.length cc] 38
 have K0 : Hid (LW w w3.heap.size w5.heap.size r s n p c L Q loc lost pc cc cs (w5.alloc (.cells #[.int .u64 (loc : Int), .int .u64 (lost : Int), .slice pc cs.length cc] 38))) := Lib.hid (by
  have hg6 := grown_trans hg k2
  have h := HB.out
  exact ⟨kept_row h.1 hg6 (by simp), kept_row HQB.out hg6 (by simp), k1, (h.2.2.2.1.keep hg6).mono (fun b (hb : b < w4.heap.size) => Nat.lt_of_lt_of_le hb hg6.size), (((rdf_of_own hO).mono (fun b hb => (show w3.heap.size ≤ b from Nat.le_trans h.2.2.1.size hb))).grown k2 (fun _ _ => by simp)), h.2.2.2.2.keep hg6, grown_trans HG3.out (grown_trans h.2.2.1 hg6)⟩)
 clear k1 k2 hR hO hg HB HQB d0 d1 d2 d3 a0 a1 a2 a3 a4 a5 a6 a7 a8 a9 HG3
 go_upto_region 4 with fail
 generalize w5.alloc _ = w6 at *
 generalize w5.heap.size = Bo at *
 generalize w3.heap.size = Bb at *
 have HQ := Lib.hid HF.out.2.1.wf
 go_wp2_with fail
 go_loopw [8] (fun u wr => ∃ i : Nat, i ≤ cs.length ∧ u = .int .i64 (i : Int) ∧ Hid (w6.grownBy wr none)) (fun u _ => cs.length - (RowKit.intOf u).toNat)
 case atStart => exact ⟨0, Nat.zero_le _, rfl, Lib.hid (grown_refl _ _)⟩
 case round =>
 obtain ⟨i, hi, rfl, G⟩ := hrel
 obtain ⟨w7, hw7⟩ : ∃ w7, w7 = wr := ⟨_, rfl⟩
 rw [← hw7] at G ⊢
 clear hw7
 have K7 := Lib.hid (K0.out.keep G.out)
 obtain ⟨o0, o1, o2⟩ := (row3f K7.out.ob).1
 by_cases hlt : i < cs.length
 case neg =>
  obtain rfl : i = cs.length := by omega
  have hnl : ¬ (cs.length : Int) < (cs.length : Int) := by omega
  obtain ⟨a0, a1, a2, a3, a4, a5, a6, a7, a8, a9⟩ := p_facts K7.out.qb
  obtain ⟨d0, d1, d2, d3⟩ := row4T K7.out.bb
  obtain ⟨m, hm⟩ : ∃ m, (coF r s n L 0 Q.set r).getD 0 = m := ⟨_, rfl⟩
  have hmu : U64 m := by rw [← hm]; exact (coF_ok r s n L 0 Q.set).getD r
  have hloc : loc = Q.bits &&& m := by rw [← hm]; exact law_loc HE.out HD.out HQ.out.bits
  have hand := andU Q.bits m HQ.out.bits hmu
  rw [← hloc] at hand
  have HLO := Lib.hid (show ∀ wx : World, RdW wx (· < wx.heap.size) p c L → Calls Tryz.prog 23 #[.agg #[.int .i64 r, .int .i64 s, .int .i64 n, .slice p L.length c], .int .i64 Q.set] wx fun e w' => e = .returned (.int .u64 (m : Int)) ∧ wx.grownBy w' none from fun wx hx => by
   rw [← hm]
   exact rlocal_any r s n p c L Q.set wx hx (by omega))
  have HL0 : Hid (Q.ttl = 0 → lost = ntB Q.bits m) := Lib.hid (fun ht => by rw [← hm]; exact law_lost0 HE.out HD.out HQ.out.bits ht)
  clear hm hloc
  have HAND := Lib.hid hand
  clear hand
  go_upto_region 11 with fail
  refine wp_region_held_drew (S := fun w' => Hid (w7.grownBy w' none)) (by kernel_rfl) (Lib.hid (grown_drew (grown_refl _ none))) (fun hHeld => ?_)
  refine zT (i := 0) (v := ?_) rfl ?_ hHeld ?_
  rotate_left 1
  ·intro u hSu
   have KU := K7.out.keep hSu.out
   obtain ⟨o0u, o1u, o2u⟩ := (row3f KU.ob).1
   obtain ⟨a0u, a1u, a2u, a3u, a4u, a5u, a6u, a7u, a8u, a9u⟩ := p_facts KU.qb
   obtain ⟨d0u, d1u, d2u, d3u⟩ := row4T KU.bb
   go_simp
   first | done | with_reducible rfl
  try simp only [Act.put, zA, zB, zC]
  refine zT (i := 1) (v := ?_) rfl ?_ hHeld ?_
  rotate_left 1
  ·intro u hSu
   have KU := K7.out.keep hSu.out
   obtain ⟨o0u, o1u, o2u⟩ := (row3f KU.ob).1
   obtain ⟨a0u, a1u, a2u, a3u, a4u, a5u, a6u, a7u, a8u, a9u⟩ := p_facts KU.qb
   obtain ⟨d0u, d1u, d2u, d3u⟩ := row4T KU.bb
   go_simp
   first | done | with_reducible rfl
  try simp only [Act.put, zA, zB, zC]
  refine zT (i := 2) (v := ?_) rfl ?_ hHeld ?_
  rotate_left 1
  ·intro u hSu
   have KU := K7.out.keep hSu.out
   obtain ⟨o0u, o1u, o2u⟩ := (row3f KU.ob).1
   obtain ⟨a0u, a1u, a2u, a3u, a4u, a5u, a6u, a7u, a8u, a9u⟩ := p_facts KU.qb
   obtain ⟨d0u, d1u, d2u, d3u⟩ := row4T KU.bb
   go_simp
   first | done | with_reducible rfl
  try simp only [Act.put, zA, zB, zC]
  refine zT (i := 3) (v := ?_) rfl ?_ hHeld ?_
  rotate_left 1
  ·intro u hSu
   have KU := K7.out.keep hSu.out
   obtain ⟨o0u, o1u, o2u⟩ := (row3f KU.ob).1
   obtain ⟨a0u, a1u, a2u, a3u, a4u, a5u, a6u, a7u, a8u, a9u⟩ := p_facts KU.qb
   obtain ⟨d0u, d1u, d2u, d3u⟩ := row4T KU.bb
   go_simp
   first | done | with_reducible rfl
  try simp only [Act.put, zA, zB, zC]
  refine zT (i := 4) (v := ?_) rfl ?_ hHeld ?_
  rotate_left 1
  ·intro u hSu
   have KU := K7.out.keep hSu.out
   obtain ⟨o0u, o1u, o2u⟩ := (row3f KU.ob).1
   obtain ⟨a0u, a1u, a2u, a3u, a4u, a5u, a6u, a7u, a8u, a9u⟩ := p_facts KU.qb
   obtain ⟨d0u, d1u, d2u, d3u⟩ := row4T KU.bb
   go_simp
   first | done | with_reducible rfl
  try simp only [Act.put, zA, zB, zC]
  refine wpAnyH_ready (rs := [5]) (by kernel_rfl) (by simp) ?_
  refine AllReadyH.cons (o := ⟨_, _, _, _, _, _⟩) rfl (fun Kz hK => ?_) AllReadyH.nil
  go_simp
  go_at_call 22
  refine (rreach_any r s n p c L Q.set _ (K7.out.keep hHeld.out).rd (by omega)).mono ?_
  rintro e' w8 ⟨R, rfl, hRc, hg⟩
  have HRC := Lib.hid hRc
  have hnt : bits .andNot .u64 (Q.bits : Int) (R : Int) = ((ntB Q.bits R : Nat) : Int) := andNotU Q.bits R HQ.out.bits (RcO_u hRc)
  clear hRc
  have HN := Lib.hid (grown_trans hHeld.out hg)
  clear hg
  simp only
  refine hK.out _ _ (HN) (fun hH2 => ?_)
  clear hK Kz hHeld
  have hHeld := hH2
  clear hH2
  try simp only [Act.put, zA, zB, zC]
  refine zT (i := 6) (v := .int .u64 ((ntB Q.bits R : Nat) : Int)) rfl ?_ hHeld ?_
  ·intro u hSu
   have KU := K7.out.keep hSu.out
   obtain ⟨o0u, o1u, o2u⟩ := (row3f KU.ob).1
   obtain ⟨a0u, a1u, a2u, a3u, a4u, a5u, a6u, a7u, a8u, a9u⟩ := p_facts KU.qb
   obtain ⟨d0u, d1u, d2u, d3u⟩ := row4T KU.bb
   go_simp
   first | done | exact hnt | simp_all
  try simp only [Act.put, zA, zB, zC]
  refine zT (i := 7) (v := ?_) rfl ?_ hHeld ?_
  rotate_left 1
  ·intro u hSu
   have KU := K7.out.keep hSu.out
   obtain ⟨o0u, o1u, o2u⟩ := (row3f KU.ob).1
   obtain ⟨a0u, a1u, a2u, a3u, a4u, a5u, a6u, a7u, a8u, a9u⟩ := p_facts KU.qb
   obtain ⟨d0u, d1u, d2u, d3u⟩ := row4T KU.bb
   go_simp
   first | done | with_reducible rfl
  try simp only [Act.put, zA, zB, zC]
  refine wpAnyH_done (by kernel_rfl) ?_ _
  have K8 := Lib.hid (K7.out.keep hHeld.out)
  clear hHeld K7 o0 o1 o2 a0 a1 a2 a3 a4 a5 a6 a7 a8 a9 d0 d1 d2 d3 hnt
  obtain ⟨o0, o1, o2⟩ := (row3f K8.out.ob).1
  obtain ⟨a0, a1, a2, a3, a4, a5, a6, a7, a8, a9⟩ := p_facts K8.out.qb
  by_cases ht : Q.ttl = 0
  ·have ht' : (Q.ttl == 0) = true := by simpa using ht
   have hll := HL0.out ht
   have hnt2 : bits .andNot .u64 (Q.bits : Int) (m : Int) = (lost : Int) := by rw [hll]; exact andNotU Q.bits m HQ.out.bits hmu
   obtain ⟨d0, d1, d2, d3⟩ := row4T K8.out.bb
   clear ht hll
   go_upto_region 13 with fail
   refine wp_region_held_drew (S := fun w' => Hid (w8.grownBy w' none)) (by kernel_rfl) (Lib.hid (grown_drew (grown_refl _ none))) (fun hHeld => ?_)
   refine zT (i := 0) (v := ?_) rfl ?_ hHeld ?_
   rotate_left 1
   ·intro u hSu
    have KU := K8.out.keep hSu.out
    obtain ⟨o0u, o1u, o2u⟩ := (row3f KU.ob).1
    obtain ⟨a0u, a1u, a2u, a3u, a4u, a5u, a6u, a7u, a8u, a9u⟩ := p_facts KU.qb
    obtain ⟨d0u, d1u, d2u, d3u⟩ := row4T KU.bb
    go_simp
    first | done | with_reducible rfl
   try simp only [Act.put, zA, zB, zC]
   refine zT (i := 1) (v := ?_) rfl ?_ hHeld ?_
   rotate_left 1
   ·intro u hSu
    have KU := K8.out.keep hSu.out
    obtain ⟨o0u, o1u, o2u⟩ := (row3f KU.ob).1
    obtain ⟨a0u, a1u, a2u, a3u, a4u, a5u, a6u, a7u, a8u, a9u⟩ := p_facts KU.qb
    obtain ⟨d0u, d1u, d2u, d3u⟩ := row4T KU.bb
    go_simp
    first | done | with_reducible rfl
   try simp only [Act.put, zA, zB, zC]
   refine zT (i := 2) (v := ?_) rfl ?_ hHeld ?_
   rotate_left 1
   ·intro u hSu
    have KU := K8.out.keep hSu.out
    obtain ⟨o0u, o1u, o2u⟩ := (row3f KU.ob).1
    obtain ⟨a0u, a1u, a2u, a3u, a4u, a5u, a6u, a7u, a8u, a9u⟩ := p_facts KU.qb
    obtain ⟨d0u, d1u, d2u, d3u⟩ := row4T KU.bb
    go_simp
    first | done | with_reducible rfl
   try simp only [Act.put, zA, zB, zC]
   refine zT (i := 3) (v := ?_) rfl ?_ hHeld ?_
   rotate_left 1
   ·intro u hSu
    have KU := K8.out.keep hSu.out
    obtain ⟨o0u, o1u, o2u⟩ := (row3f KU.ob).1
    obtain ⟨a0u, a1u, a2u, a3u, a4u, a5u, a6u, a7u, a8u, a9u⟩ := p_facts KU.qb
    obtain ⟨d0u, d1u, d2u, d3u⟩ := row4T KU.bb
    go_simp
    first | done | with_reducible rfl
   try simp only [Act.put, zA, zB, zC]
   refine zT (i := 4) (v := ?_) rfl ?_ hHeld ?_
   rotate_left 1
   ·intro u hSu
    have KU := K8.out.keep hSu.out
    obtain ⟨o0u, o1u, o2u⟩ := (row3f KU.ob).1
    obtain ⟨a0u, a1u, a2u, a3u, a4u, a5u, a6u, a7u, a8u, a9u⟩ := p_facts KU.qb
    obtain ⟨d0u, d1u, d2u, d3u⟩ := row4T KU.bb
    go_simp
    first | done | with_reducible rfl
   try simp only [Act.put, zA, zB, zC]
   refine wpAnyH_ready (rs := [5]) (by kernel_rfl) (by simp) ?_
   refine AllReadyH.cons (o := ⟨_, _, _, _, _, _⟩) rfl (fun Kz hK => ?_) AllReadyH.nil
   go_simp
   go_at_call 23
   refine (HLO.out _ (K8.out.keep hHeld.out).rd).mono ?_
   rintro e' w9 ⟨rfl, hg⟩
   have HN := Lib.hid (grown_trans hHeld.out hg)
   clear hg
   simp only
   refine hK.out _ _ (HN) (fun hH2 => ?_)
   clear hK Kz hHeld
   have hHeld := hH2
   clear hH2
   try simp only [Act.put, zA, zB, zC]
   refine zT (i := 6) (v := .int .u64 (lost : Int)) rfl ?_ hHeld ?_
   ·intro u hSu
    have KU := K8.out.keep hSu.out
    obtain ⟨o0u, o1u, o2u⟩ := (row3f KU.ob).1
    obtain ⟨a0u, a1u, a2u, a3u, a4u, a5u, a6u, a7u, a8u, a9u⟩ := p_facts KU.qb
    obtain ⟨d0u, d1u, d2u, d3u⟩ := row4T KU.bb
    go_simp
    first | done | exact hnt2 | simp_all
   try simp only [Act.put, zA, zB, zC]
   refine zT (i := 7) (v := ?_) rfl ?_ hHeld ?_
   rotate_left 1
   ·intro u hSu
    have KU := K8.out.keep hSu.out
    obtain ⟨o0u, o1u, o2u⟩ := (row3f KU.ob).1
    obtain ⟨a0u, a1u, a2u, a3u, a4u, a5u, a6u, a7u, a8u, a9u⟩ := p_facts KU.qb
    obtain ⟨d0u, d1u, d2u, d3u⟩ := row4T KU.bb
    go_simp
    first | done | with_reducible rfl
   try simp only [Act.put, zA, zB, zC]
   refine wpAnyH_done (by kernel_rfl) ?_ _
   have K9 := Lib.hid (K8.out.keep hHeld.out)
   clear hHeld K8 o0 o1 o2 a0 a1 a2 a3 a4 a5 a6 a7 a8 a9 d0 d1 d2 d3 hnt2
   obtain ⟨o0, o1, o2⟩ := (row3f K9.out.ob).1
   obtain ⟨a0, a1, a2, a3, a4, a5, a6, a7, a8, a9⟩ := p_facts K9.out.qb
   obtain ⟨d0, d1, d2, d3⟩ := row4T K9.out.bb
   go_upto_region 14 with fail
   refine wp_region_held_drew (S := fun w' => Hid (w9.grownBy w' none)) (by kernel_rfl) (Lib.hid (grown_drew (grown_refl _ none))) (fun hHeld => ?_)
   refine zT (i := 0) (v := ?_) rfl ?_ hHeld ?_
   rotate_left 1
   ·intro u hSu
    have KU := K9.out.keep hSu.out
    obtain ⟨o0u, o1u, o2u⟩ := (row3f KU.ob).1
    obtain ⟨a0u, a1u, a2u, a3u, a4u, a5u, a6u, a7u, a8u, a9u⟩ := p_facts KU.qb
    obtain ⟨d0u, d1u, d2u, d3u⟩ := row4T KU.bb
    go_simp
    first | done | with_reducible rfl
   try simp only [Act.put, zA, zB, zC]
   refine zT (i := 1) (v := ?_) rfl ?_ hHeld ?_
   rotate_left 1
   ·intro u hSu
    have KU := K9.out.keep hSu.out
    obtain ⟨o0u, o1u, o2u⟩ := (row3f KU.ob).1
    obtain ⟨a0u, a1u, a2u, a3u, a4u, a5u, a6u, a7u, a8u, a9u⟩ := p_facts KU.qb
    obtain ⟨d0u, d1u, d2u, d3u⟩ := row4T KU.bb
    go_simp
    first | done | with_reducible rfl
   try simp only [Act.put, zA, zB, zC]
   refine zT (i := 2) (v := ?_) rfl ?_ hHeld ?_
   rotate_left 1
   ·intro u hSu
    have KU := K9.out.keep hSu.out
    obtain ⟨o0u, o1u, o2u⟩ := (row3f KU.ob).1
    obtain ⟨a0u, a1u, a2u, a3u, a4u, a5u, a6u, a7u, a8u, a9u⟩ := p_facts KU.qb
    obtain ⟨d0u, d1u, d2u, d3u⟩ := row4T KU.bb
    go_simp
    first | done | with_reducible rfl
   try simp only [Act.put, zA, zB, zC]
   refine zT (i := 3) (v := ?_) rfl ?_ hHeld ?_
   rotate_left 1
   ·intro u hSu
    have KU := K9.out.keep hSu.out
    obtain ⟨o0u, o1u, o2u⟩ := (row3f KU.ob).1
    obtain ⟨a0u, a1u, a2u, a3u, a4u, a5u, a6u, a7u, a8u, a9u⟩ := p_facts KU.qb
    obtain ⟨d0u, d1u, d2u, d3u⟩ := row4T KU.bb
    go_simp
    first | done | with_reducible rfl
   try simp only [Act.put, zA, zB, zC]
   refine zT (i := 4) (v := ?_) rfl ?_ hHeld ?_
   rotate_left 1
   ·intro u hSu
    have KU := K9.out.keep hSu.out
    obtain ⟨o0u, o1u, o2u⟩ := (row3f KU.ob).1
    obtain ⟨a0u, a1u, a2u, a3u, a4u, a5u, a6u, a7u, a8u, a9u⟩ := p_facts KU.qb
    obtain ⟨d0u, d1u, d2u, d3u⟩ := row4T KU.bb
    go_simp
    first | done | with_reducible rfl
   try simp only [Act.put, zA, zB, zC]
   refine zT (i := 5) (v := ?_) rfl ?_ hHeld ?_
   rotate_left 1
   ·intro u hSu
    have KU := K9.out.keep hSu.out
    obtain ⟨o0u, o1u, o2u⟩ := (row3f KU.ob).1
    obtain ⟨a0u, a1u, a2u, a3u, a4u, a5u, a6u, a7u, a8u, a9u⟩ := p_facts KU.qb
    obtain ⟨d0u, d1u, d2u, d3u⟩ := row4T KU.bb
    go_simp
    first | done | with_reducible rfl
   try simp only [Act.put, zA, zB, zC]
   refine zT (i := 6) (v := ?_) rfl ?_ hHeld ?_
   rotate_left 1
   ·intro u hSu
    have KU := K9.out.keep hSu.out
    obtain ⟨o0u, o1u, o2u⟩ := (row3f KU.ob).1
    obtain ⟨a0u, a1u, a2u, a3u, a4u, a5u, a6u, a7u, a8u, a9u⟩ := p_facts KU.qb
    obtain ⟨d0u, d1u, d2u, d3u⟩ := row4T KU.bb
    go_simp
    first | done | with_reducible rfl
   try simp only [Act.put, zA, zB, zC]
   refine wpAnyH_ready (rs := [7]) (by kernel_rfl) (by simp) ?_
   refine AllReadyH.cons (o := ⟨_, _, _, _, _, _⟩) rfl (fun Kz hK => ?_) AllReadyH.nil
   go_simp
   go_at_call 23
   refine (HLO.out _ (K9.out.keep hHeld.out).rd).mono ?_
   rintro e' wn ⟨rfl, hg⟩
   have HN := Lib.hid (grown_trans hHeld.out hg)
   clear hg
   simp only
   refine hK.out _ _ (HN) (fun hH2 => ?_)
   clear hK Kz hHeld
   have hHeld := hH2
   clear hH2
   try simp only [Act.put, zA, zB, zC]
   refine zT (i := 8) (v := .int .u64 (loc : Int)) rfl ?_ hHeld ?_
   ·intro u hSu
    have KU := K9.out.keep hSu.out
    obtain ⟨o0u, o1u, o2u⟩ := (row3f KU.ob).1
    obtain ⟨a0u, a1u, a2u, a3u, a4u, a5u, a6u, a7u, a8u, a9u⟩ := p_facts KU.qb
    obtain ⟨d0u, d1u, d2u, d3u⟩ := row4T KU.bb
    have hand := HAND.out
    go_simp
    first | done | exact hand | simp_all
   try simp only [Act.put, zA, zB, zC]
   refine zT (i := 9) (v := .bool true) rfl ?_ hHeld ?_
   ·intro u hSu
    have KU := K9.out.keep hSu.out
    obtain ⟨o0u, o1u, o2u⟩ := (row3f KU.ob).1
    obtain ⟨a0u, a1u, a2u, a3u, a4u, a5u, a6u, a7u, a8u, a9u⟩ := p_facts KU.qb
    obtain ⟨d0u, d1u, d2u, d3u⟩ := row4T KU.bb
    go_simp
    first | done | rfl | simp
   try simp only [Act.put, zA, zB, zC]
   refine zT (i := 10) (v := ?_) rfl ?_ hHeld ?_
   rotate_left 1
   ·intro u hSu
    have KU := K9.out.keep hSu.out
    obtain ⟨o0u, o1u, o2u⟩ := (row3f KU.ob).1
    obtain ⟨a0u, a1u, a2u, a3u, a4u, a5u, a6u, a7u, a8u, a9u⟩ := p_facts KU.qb
    obtain ⟨d0u, d1u, d2u, d3u⟩ := row4T KU.bb
    go_simp
    first | done | with_reducible rfl
   try simp only [Act.put, zA, zB, zC]
   refine zT (i := 11) (v := ?_) rfl ?_ hHeld ?_
   rotate_left 1
   ·intro u hSu
    have KU := K9.out.keep hSu.out
    obtain ⟨o0u, o1u, o2u⟩ := (row3f KU.ob).1
    obtain ⟨a0u, a1u, a2u, a3u, a4u, a5u, a6u, a7u, a8u, a9u⟩ := p_facts KU.qb
    obtain ⟨d0u, d1u, d2u, d3u⟩ := row4T KU.bb
    go_simp
    first | done | with_reducible rfl
   try simp only [Act.put, zA, zB, zC]
   refine zT (i := 12) (v := ?_) rfl ?_ hHeld ?_
   rotate_left 1
   ·intro u hSu
    have KU := K9.out.keep hSu.out
    obtain ⟨o0u, o1u, o2u⟩ := (row3f KU.ob).1
    obtain ⟨a0u, a1u, a2u, a3u, a4u, a5u, a6u, a7u, a8u, a9u⟩ := p_facts KU.qb
    obtain ⟨d0u, d1u, d2u, d3u⟩ := row4T KU.bb
    go_simp
    first | done | with_reducible rfl
   try simp only [Act.put, zA, zB, zC]
   refine zT (i := 13) (v := ?_) rfl ?_ hHeld ?_
   rotate_left 1
   ·intro u hSu
    have KU := K9.out.keep hSu.out
    obtain ⟨o0u, o1u, o2u⟩ := (row3f KU.ob).1
    obtain ⟨a0u, a1u, a2u, a3u, a4u, a5u, a6u, a7u, a8u, a9u⟩ := p_facts KU.qb
    obtain ⟨d0u, d1u, d2u, d3u⟩ := row4T KU.bb
    go_simp
    first | done | with_reducible rfl
   try simp only [Act.put, zA, zB, zC]
   refine zT (i := 14) (v := .bool true) rfl ?_ hHeld ?_
   ·intro u hSu
    have KU := K9.out.keep hSu.out
    obtain ⟨o0u, o1u, o2u⟩ := (row3f KU.ob).1
    obtain ⟨a0u, a1u, a2u, a3u, a4u, a5u, a6u, a7u, a8u, a9u⟩ := p_facts KU.qb
    obtain ⟨d0u, d1u, d2u, d3u⟩ := row4T KU.bb
    go_simp
    first | done | rfl | simp
   try simp only [Act.put, zA, zB, zC]
   refine zT (i := 15) (v := .bool true) rfl ?_ hHeld ?_
   ·intro u hSu
    have KU := K9.out.keep hSu.out
    obtain ⟨o0u, o1u, o2u⟩ := (row3f KU.ob).1
    obtain ⟨a0u, a1u, a2u, a3u, a4u, a5u, a6u, a7u, a8u, a9u⟩ := p_facts KU.qb
    obtain ⟨d0u, d1u, d2u, d3u⟩ := row4T KU.bb
    go_simp
    first | done | rfl | simp
   try simp only [Act.put, zA, zB, zC]
   refine zT (i := 16) (v := ?_) rfl ?_ hHeld ?_
   rotate_left 1
   ·intro u hSu
    have KU := K9.out.keep hSu.out
    obtain ⟨o0u, o1u, o2u⟩ := (row3f KU.ob).1
    obtain ⟨a0u, a1u, a2u, a3u, a4u, a5u, a6u, a7u, a8u, a9u⟩ := p_facts KU.qb
    obtain ⟨d0u, d1u, d2u, d3u⟩ := row4T KU.bb
    go_simp
    first | done | with_reducible rfl
   try simp only [Act.put, zA, zB, zC]
   refine wpAnyH_ready (rs := [17]) (by kernel_rfl) (by simp) ?_
   refine AllReadyH.cons (o := ⟨_, _, _, _, _, _⟩) rfl (fun Kz hK => ?_) AllReadyH.nil
   go_simp
   go_at_call 16
   refine (awk13_any _ (K9.out.keep hHeld.out).tb).mono ?_
   rintro e' wn ⟨rfl, hg⟩
   have HN := Lib.hid (grown_trans hHeld.out hg)
   clear hg
   simp only
   refine hK.out _ _ (HN) (fun hH2 => ?_)
   clear hK Kz hHeld
   have hHeld := hH2
   clear hH2
   try simp only [Act.put, zA, zB, zC]
   refine zT (i := 18) (v := .bool true) rfl ?_ hHeld ?_
   ·intro u hSu
    have KU := K9.out.keep hSu.out
    obtain ⟨o0u, o1u, o2u⟩ := (row3f KU.ob).1
    obtain ⟨a0u, a1u, a2u, a3u, a4u, a5u, a6u, a7u, a8u, a9u⟩ := p_facts KU.qb
    obtain ⟨d0u, d1u, d2u, d3u⟩ := row4T KU.bb
    go_simp
    first | done | rfl | simp
   try simp only [Act.put, zA, zB, zC]
   refine zT (i := 19) (v := ?_) rfl ?_ hHeld ?_
   rotate_left 1
   ·intro u hSu
    have KU := K9.out.keep hSu.out
    obtain ⟨o0u, o1u, o2u⟩ := (row3f KU.ob).1
    obtain ⟨a0u, a1u, a2u, a3u, a4u, a5u, a6u, a7u, a8u, a9u⟩ := p_facts KU.qb
    obtain ⟨d0u, d1u, d2u, d3u⟩ := row4T KU.bb
    go_simp
    first | done | with_reducible rfl
   try simp only [Act.put, zA, zB, zC]
   refine wpAnyH_done (by kernel_rfl) ?_ _
   have GF := Lib.hid (K9.out.keep hHeld.out).gr
   clear hHeld
   go_wp2_with fail
   go_ret
   exact ⟨rfl, GF.out⟩
  have ht' : (Q.ttl == 0) = false := by simpa using ht
  have hll := law_lost HE.out HD.out HQ.out.bits ht HRC.out (RcO_u HRC.out)
  rw [← hll]
  obtain ⟨d0, d1, d2, d3⟩ := row4T K8.out.bb
  have K9 := K8
  clear ht hll
  go_upto_region 14 with fail
  refine wp_region_held_drew (S := fun w' => Hid (w8.grownBy w' none)) (by kernel_rfl) (Lib.hid (grown_drew (grown_refl _ none))) (fun hHeld => ?_)
  refine zT (i := 0) (v := ?_) rfl ?_ hHeld ?_
  rotate_left 1
  ·intro u hSu
   have KU := K9.out.keep hSu.out
   obtain ⟨o0u, o1u, o2u⟩ := (row3f KU.ob).1
   obtain ⟨a0u, a1u, a2u, a3u, a4u, a5u, a6u, a7u, a8u, a9u⟩ := p_facts KU.qb
   obtain ⟨d0u, d1u, d2u, d3u⟩ := row4T KU.bb
   go_simp
   first | done | with_reducible rfl
  try simp only [Act.put, zA, zB, zC]
  refine zT (i := 1) (v := ?_) rfl ?_ hHeld ?_
  rotate_left 1
  ·intro u hSu
   have KU := K9.out.keep hSu.out
   obtain ⟨o0u, o1u, o2u⟩ := (row3f KU.ob).1
   obtain ⟨a0u, a1u, a2u, a3u, a4u, a5u, a6u, a7u, a8u, a9u⟩ := p_facts KU.qb
   obtain ⟨d0u, d1u, d2u, d3u⟩ := row4T KU.bb
   go_simp
   first | done | with_reducible rfl
  try simp only [Act.put, zA, zB, zC]
  refine zT (i := 2) (v := ?_) rfl ?_ hHeld ?_
  rotate_left 1
  ·intro u hSu
   have KU := K9.out.keep hSu.out
   obtain ⟨o0u, o1u, o2u⟩ := (row3f KU.ob).1
   obtain ⟨a0u, a1u, a2u, a3u, a4u, a5u, a6u, a7u, a8u, a9u⟩ := p_facts KU.qb
   obtain ⟨d0u, d1u, d2u, d3u⟩ := row4T KU.bb
   go_simp
   first | done | with_reducible rfl
  try simp only [Act.put, zA, zB, zC]
  refine zT (i := 3) (v := ?_) rfl ?_ hHeld ?_
  rotate_left 1
  ·intro u hSu
   have KU := K9.out.keep hSu.out
   obtain ⟨o0u, o1u, o2u⟩ := (row3f KU.ob).1
   obtain ⟨a0u, a1u, a2u, a3u, a4u, a5u, a6u, a7u, a8u, a9u⟩ := p_facts KU.qb
   obtain ⟨d0u, d1u, d2u, d3u⟩ := row4T KU.bb
   go_simp
   first | done | with_reducible rfl
  try simp only [Act.put, zA, zB, zC]
  refine zT (i := 4) (v := ?_) rfl ?_ hHeld ?_
  rotate_left 1
  ·intro u hSu
   have KU := K9.out.keep hSu.out
   obtain ⟨o0u, o1u, o2u⟩ := (row3f KU.ob).1
   obtain ⟨a0u, a1u, a2u, a3u, a4u, a5u, a6u, a7u, a8u, a9u⟩ := p_facts KU.qb
   obtain ⟨d0u, d1u, d2u, d3u⟩ := row4T KU.bb
   go_simp
   first | done | with_reducible rfl
  try simp only [Act.put, zA, zB, zC]
  refine zT (i := 5) (v := ?_) rfl ?_ hHeld ?_
  rotate_left 1
  ·intro u hSu
   have KU := K9.out.keep hSu.out
   obtain ⟨o0u, o1u, o2u⟩ := (row3f KU.ob).1
   obtain ⟨a0u, a1u, a2u, a3u, a4u, a5u, a6u, a7u, a8u, a9u⟩ := p_facts KU.qb
   obtain ⟨d0u, d1u, d2u, d3u⟩ := row4T KU.bb
   go_simp
   first | done | with_reducible rfl
  try simp only [Act.put, zA, zB, zC]
  refine zT (i := 6) (v := ?_) rfl ?_ hHeld ?_
  rotate_left 1
  ·intro u hSu
   have KU := K9.out.keep hSu.out
   obtain ⟨o0u, o1u, o2u⟩ := (row3f KU.ob).1
   obtain ⟨a0u, a1u, a2u, a3u, a4u, a5u, a6u, a7u, a8u, a9u⟩ := p_facts KU.qb
   obtain ⟨d0u, d1u, d2u, d3u⟩ := row4T KU.bb
   go_simp
   first | done | with_reducible rfl
  try simp only [Act.put, zA, zB, zC]
  refine wpAnyH_ready (rs := [7]) (by kernel_rfl) (by simp) ?_
  refine AllReadyH.cons (o := ⟨_, _, _, _, _, _⟩) rfl (fun Kz hK => ?_) AllReadyH.nil
  go_simp
  go_at_call 23
  refine (HLO.out _ (K9.out.keep hHeld.out).rd).mono ?_
  rintro e' wn ⟨rfl, hg⟩
  have HN := Lib.hid (grown_trans hHeld.out hg)
  clear hg
  simp only
  refine hK.out _ _ (HN) (fun hH2 => ?_)
  clear hK Kz hHeld
  have hHeld := hH2
  clear hH2
  try simp only [Act.put, zA, zB, zC]
  refine zT (i := 8) (v := .int .u64 (loc : Int)) rfl ?_ hHeld ?_
  ·intro u hSu
   have KU := K9.out.keep hSu.out
   obtain ⟨o0u, o1u, o2u⟩ := (row3f KU.ob).1
   obtain ⟨a0u, a1u, a2u, a3u, a4u, a5u, a6u, a7u, a8u, a9u⟩ := p_facts KU.qb
   obtain ⟨d0u, d1u, d2u, d3u⟩ := row4T KU.bb
   have hand := HAND.out
   go_simp
   first | done | exact hand | simp_all
  try simp only [Act.put, zA, zB, zC]
  refine zT (i := 9) (v := .bool true) rfl ?_ hHeld ?_
  ·intro u hSu
   have KU := K9.out.keep hSu.out
   obtain ⟨o0u, o1u, o2u⟩ := (row3f KU.ob).1
   obtain ⟨a0u, a1u, a2u, a3u, a4u, a5u, a6u, a7u, a8u, a9u⟩ := p_facts KU.qb
   obtain ⟨d0u, d1u, d2u, d3u⟩ := row4T KU.bb
   go_simp
   first | done | rfl | simp
  try simp only [Act.put, zA, zB, zC]
  refine zT (i := 10) (v := ?_) rfl ?_ hHeld ?_
  rotate_left 1
  ·intro u hSu
   have KU := K9.out.keep hSu.out
   obtain ⟨o0u, o1u, o2u⟩ := (row3f KU.ob).1
   obtain ⟨a0u, a1u, a2u, a3u, a4u, a5u, a6u, a7u, a8u, a9u⟩ := p_facts KU.qb
   obtain ⟨d0u, d1u, d2u, d3u⟩ := row4T KU.bb
   go_simp
   first | done | with_reducible rfl
  try simp only [Act.put, zA, zB, zC]
  refine zT (i := 11) (v := ?_) rfl ?_ hHeld ?_
  rotate_left 1
  ·intro u hSu
   have KU := K9.out.keep hSu.out
   obtain ⟨o0u, o1u, o2u⟩ := (row3f KU.ob).1
   obtain ⟨a0u, a1u, a2u, a3u, a4u, a5u, a6u, a7u, a8u, a9u⟩ := p_facts KU.qb
   obtain ⟨d0u, d1u, d2u, d3u⟩ := row4T KU.bb
   go_simp
   first | done | with_reducible rfl
  try simp only [Act.put, zA, zB, zC]
  refine zT (i := 12) (v := ?_) rfl ?_ hHeld ?_
  rotate_left 1
  ·intro u hSu
   have KU := K9.out.keep hSu.out
   obtain ⟨o0u, o1u, o2u⟩ := (row3f KU.ob).1
   obtain ⟨a0u, a1u, a2u, a3u, a4u, a5u, a6u, a7u, a8u, a9u⟩ := p_facts KU.qb
   obtain ⟨d0u, d1u, d2u, d3u⟩ := row4T KU.bb
   go_simp
   first | done | with_reducible rfl
  try simp only [Act.put, zA, zB, zC]
  refine zT (i := 13) (v := ?_) rfl ?_ hHeld ?_
  rotate_left 1
  ·intro u hSu
   have KU := K9.out.keep hSu.out
   obtain ⟨o0u, o1u, o2u⟩ := (row3f KU.ob).1
   obtain ⟨a0u, a1u, a2u, a3u, a4u, a5u, a6u, a7u, a8u, a9u⟩ := p_facts KU.qb
   obtain ⟨d0u, d1u, d2u, d3u⟩ := row4T KU.bb
   go_simp
   first | done | with_reducible rfl
  try simp only [Act.put, zA, zB, zC]
  refine zT (i := 14) (v := .bool true) rfl ?_ hHeld ?_
  ·intro u hSu
   have KU := K9.out.keep hSu.out
   obtain ⟨o0u, o1u, o2u⟩ := (row3f KU.ob).1
   obtain ⟨a0u, a1u, a2u, a3u, a4u, a5u, a6u, a7u, a8u, a9u⟩ := p_facts KU.qb
   obtain ⟨d0u, d1u, d2u, d3u⟩ := row4T KU.bb
   go_simp
   first | done | rfl | simp
  try simp only [Act.put, zA, zB, zC]
  refine zT (i := 15) (v := .bool true) rfl ?_ hHeld ?_
  ·intro u hSu
   have KU := K9.out.keep hSu.out
   obtain ⟨o0u, o1u, o2u⟩ := (row3f KU.ob).1
   obtain ⟨a0u, a1u, a2u, a3u, a4u, a5u, a6u, a7u, a8u, a9u⟩ := p_facts KU.qb
   obtain ⟨d0u, d1u, d2u, d3u⟩ := row4T KU.bb
   go_simp
   first | done | rfl | simp
  try simp only [Act.put, zA, zB, zC]
  refine zT (i := 16) (v := ?_) rfl ?_ hHeld ?_
  rotate_left 1
  ·intro u hSu
   have KU := K9.out.keep hSu.out
   obtain ⟨o0u, o1u, o2u⟩ := (row3f KU.ob).1
   obtain ⟨a0u, a1u, a2u, a3u, a4u, a5u, a6u, a7u, a8u, a9u⟩ := p_facts KU.qb
   obtain ⟨d0u, d1u, d2u, d3u⟩ := row4T KU.bb
   go_simp
   first | done | with_reducible rfl
  try simp only [Act.put, zA, zB, zC]
  refine wpAnyH_ready (rs := [17]) (by kernel_rfl) (by simp) ?_
  refine AllReadyH.cons (o := ⟨_, _, _, _, _, _⟩) rfl (fun Kz hK => ?_) AllReadyH.nil
  go_simp
  go_at_call 16
  refine (awk13_any _ (K9.out.keep hHeld.out).tb).mono ?_
  rintro e' wn ⟨rfl, hg⟩
  have HN := Lib.hid (grown_trans hHeld.out hg)
  clear hg
  simp only
  refine hK.out _ _ (HN) (fun hH2 => ?_)
  clear hK Kz hHeld
  have hHeld := hH2
  clear hH2
  try simp only [Act.put, zA, zB, zC]
  refine zT (i := 18) (v := .bool true) rfl ?_ hHeld ?_
  ·intro u hSu
   have KU := K9.out.keep hSu.out
   obtain ⟨o0u, o1u, o2u⟩ := (row3f KU.ob).1
   obtain ⟨a0u, a1u, a2u, a3u, a4u, a5u, a6u, a7u, a8u, a9u⟩ := p_facts KU.qb
   obtain ⟨d0u, d1u, d2u, d3u⟩ := row4T KU.bb
   go_simp
   first | done | rfl | simp
  try simp only [Act.put, zA, zB, zC]
  refine zT (i := 19) (v := ?_) rfl ?_ hHeld ?_
  rotate_left 1
  ·intro u hSu
   have KU := K9.out.keep hSu.out
   obtain ⟨o0u, o1u, o2u⟩ := (row3f KU.ob).1
   obtain ⟨a0u, a1u, a2u, a3u, a4u, a5u, a6u, a7u, a8u, a9u⟩ := p_facts KU.qb
   obtain ⟨d0u, d1u, d2u, d3u⟩ := row4T KU.bb
   go_simp
   first | done | with_reducible rfl
  try simp only [Act.put, zA, zB, zC]
  refine wpAnyH_done (by kernel_rfl) ?_ _
  have GF := Lib.hid (K9.out.keep hHeld.out).gr
  clear hHeld
  go_wp2_with fail
  go_ret
  exact ⟨rfl, GF.out⟩
 have hlt' : (i : Int) < (cs.length : Int) := by omega
 have hi0 : (0 : Int) ≤ (i : Int) := by omega
 obtain ⟨y, hy⟩ : ∃ y, cs[i]? = some y := ⟨_, List.getElem?_eq_getElem hlt⟩
 obtain ⟨g, off, rfl, hc⟩ := K7.out.at_ hy
 have hmem := HD.out.mem (fw_ms HE.out) HQ.out.bits (List.mem_of_getElem? hy)
 obtain ⟨m, hm⟩ : ∃ m, (coF r s n L (planeV Q) Q.set y.1).getD 0 = m := ⟨_, rfl⟩
 have hyb : y.2 = Q.bits &&& m := by
  rw [hmem.2.2.2.1, ← hm, coF_fw HF.out.1]
  rfl
 have hmu : U64 m := by rw [← hm]; exact (coF_ok r s n L (planeV Q) Q.set).getD y.1
 have hand := andU Q.bits m HQ.out.bits hmu
 rw [← hyb] at hand
 have HMK := Lib.hid (show ∀ wx : World, RdW wx (· < wx.heap.size) p c L → Calls Tryz.prog 20 #[.agg #[.int .i64 r, .int .i64 s, .int .i64 n, .slice p L.length c], .int .i64 (planeV Q), .int .i64 Q.set, .int .i64 y.1] wx fun e w' => e = .returned (.int .u64 (m : Int)) ∧ wx.grownBy w' none from fun wx hx => by
  rw [← hm]
  exact rmask_any r s n p c L (planeV Q) Q.set y.1 wx hx (by omega))
 have HC := Lib.hid hc
 clear hc hy hmem hm hyb
 go_upto_region 9 with fail
 refine wp_region_held_drew (S := fun w' => Hid (w7.grownBy w' none)) (by kernel_rfl) (Lib.hid (grown_drew (grown_refl _ none))) (fun hHeld => ?_)
 refine zT (i := 0) (v := ?_) rfl ?_ hHeld ?_
 rotate_left 1
 ·intro u hSu
  have KU := K7.out.keep hSu.out
  obtain ⟨o0u, o1u, o2u⟩ := (row3f KU.ob).1
  obtain ⟨a0u, a1u, a2u, a3u, a4u, a5u, a6u, a7u, a8u, a9u⟩ := p_facts KU.qb
  obtain ⟨d0u, d1u, d2u, d3u⟩ := row4T KU.bb
  obtain ⟨c0u, c1u, c2u, c3u, c4u, c5u, c6u, c7u, c8u, c9u, c10u, c11u⟩ := HC.out u hSu.out
  go_simp
  first | done | with_reducible rfl
 try simp only [Act.put, zA, zB, zC]
 refine zT (i := 1) (v := ?_) rfl ?_ hHeld ?_
 rotate_left 1
 ·intro u hSu
  have KU := K7.out.keep hSu.out
  obtain ⟨o0u, o1u, o2u⟩ := (row3f KU.ob).1
  obtain ⟨a0u, a1u, a2u, a3u, a4u, a5u, a6u, a7u, a8u, a9u⟩ := p_facts KU.qb
  obtain ⟨d0u, d1u, d2u, d3u⟩ := row4T KU.bb
  obtain ⟨c0u, c1u, c2u, c3u, c4u, c5u, c6u, c7u, c8u, c9u, c10u, c11u⟩ := HC.out u hSu.out
  go_simp
  first | done | with_reducible rfl
 try simp only [Act.put, zA, zB, zC]
 refine zT (i := 2) (v := ?_) rfl ?_ hHeld ?_
 rotate_left 1
 ·intro u hSu
  have KU := K7.out.keep hSu.out
  obtain ⟨o0u, o1u, o2u⟩ := (row3f KU.ob).1
  obtain ⟨a0u, a1u, a2u, a3u, a4u, a5u, a6u, a7u, a8u, a9u⟩ := p_facts KU.qb
  obtain ⟨d0u, d1u, d2u, d3u⟩ := row4T KU.bb
  obtain ⟨c0u, c1u, c2u, c3u, c4u, c5u, c6u, c7u, c8u, c9u, c10u, c11u⟩ := HC.out u hSu.out
  go_simp
  first | done | with_reducible rfl
 try simp only [Act.put, zA, zB, zC]
 refine zT (i := 3) (v := ?_) rfl ?_ hHeld ?_
 rotate_left 1
 ·intro u hSu
  have KU := K7.out.keep hSu.out
  obtain ⟨o0u, o1u, o2u⟩ := (row3f KU.ob).1
  obtain ⟨a0u, a1u, a2u, a3u, a4u, a5u, a6u, a7u, a8u, a9u⟩ := p_facts KU.qb
  obtain ⟨d0u, d1u, d2u, d3u⟩ := row4T KU.bb
  obtain ⟨c0u, c1u, c2u, c3u, c4u, c5u, c6u, c7u, c8u, c9u, c10u, c11u⟩ := HC.out u hSu.out
  go_simp
  first | done | with_reducible rfl
 try simp only [Act.put, zA, zB, zC]
 refine zT (i := 4) (v := ?_) rfl ?_ hHeld ?_
 rotate_left 1
 ·intro u hSu
  have KU := K7.out.keep hSu.out
  obtain ⟨o0u, o1u, o2u⟩ := (row3f KU.ob).1
  obtain ⟨a0u, a1u, a2u, a3u, a4u, a5u, a6u, a7u, a8u, a9u⟩ := p_facts KU.qb
  obtain ⟨d0u, d1u, d2u, d3u⟩ := row4T KU.bb
  obtain ⟨c0u, c1u, c2u, c3u, c4u, c5u, c6u, c7u, c8u, c9u, c10u, c11u⟩ := HC.out u hSu.out
  go_simp
  first | done | with_reducible rfl
 try simp only [Act.put, zA, zB, zC]
 refine zT (i := 5) (v := ?_) rfl ?_ hHeld ?_
 rotate_left 1
 ·intro u hSu
  have KU := K7.out.keep hSu.out
  obtain ⟨o0u, o1u, o2u⟩ := (row3f KU.ob).1
  obtain ⟨a0u, a1u, a2u, a3u, a4u, a5u, a6u, a7u, a8u, a9u⟩ := p_facts KU.qb
  obtain ⟨d0u, d1u, d2u, d3u⟩ := row4T KU.bb
  obtain ⟨c0u, c1u, c2u, c3u, c4u, c5u, c6u, c7u, c8u, c9u, c10u, c11u⟩ := HC.out u hSu.out
  go_simp
  first | done | with_reducible rfl
 try simp only [Act.put, zA, zB, zC]
 refine zT (i := 6) (v := ?_) rfl ?_ hHeld ?_
 rotate_left 1
 ·intro u hSu
  have KU := K7.out.keep hSu.out
  obtain ⟨o0u, o1u, o2u⟩ := (row3f KU.ob).1
  obtain ⟨a0u, a1u, a2u, a3u, a4u, a5u, a6u, a7u, a8u, a9u⟩ := p_facts KU.qb
  obtain ⟨d0u, d1u, d2u, d3u⟩ := row4T KU.bb
  obtain ⟨c0u, c1u, c2u, c3u, c4u, c5u, c6u, c7u, c8u, c9u, c10u, c11u⟩ := HC.out u hSu.out
  go_simp
  first | done | with_reducible rfl
 try simp only [Act.put, zA, zB, zC]
 refine zT (i := 7) (v := ?_) rfl ?_ hHeld ?_
 rotate_left 1
 ·intro u hSu
  have KU := K7.out.keep hSu.out
  obtain ⟨o0u, o1u, o2u⟩ := (row3f KU.ob).1
  obtain ⟨a0u, a1u, a2u, a3u, a4u, a5u, a6u, a7u, a8u, a9u⟩ := p_facts KU.qb
  obtain ⟨d0u, d1u, d2u, d3u⟩ := row4T KU.bb
  obtain ⟨c0u, c1u, c2u, c3u, c4u, c5u, c6u, c7u, c8u, c9u, c10u, c11u⟩ := HC.out u hSu.out
  go_simp
  first | done | with_reducible rfl
 try simp only [Act.put, zA, zB, zC]
 refine zT (i := 8) (v := ?_) rfl ?_ hHeld ?_
 rotate_left 1
 ·intro u hSu
  have KU := K7.out.keep hSu.out
  obtain ⟨o0u, o1u, o2u⟩ := (row3f KU.ob).1
  obtain ⟨a0u, a1u, a2u, a3u, a4u, a5u, a6u, a7u, a8u, a9u⟩ := p_facts KU.qb
  obtain ⟨d0u, d1u, d2u, d3u⟩ := row4T KU.bb
  obtain ⟨c0u, c1u, c2u, c3u, c4u, c5u, c6u, c7u, c8u, c9u, c10u, c11u⟩ := HC.out u hSu.out
  go_simp
  first | done | with_reducible rfl
 try simp only [Act.put, zA, zB, zC]
 refine zT (i := 9) (v := ?_) rfl ?_ hHeld ?_
 rotate_left 1
 ·intro u hSu
  have KU := K7.out.keep hSu.out
  obtain ⟨o0u, o1u, o2u⟩ := (row3f KU.ob).1
  obtain ⟨a0u, a1u, a2u, a3u, a4u, a5u, a6u, a7u, a8u, a9u⟩ := p_facts KU.qb
  obtain ⟨d0u, d1u, d2u, d3u⟩ := row4T KU.bb
  obtain ⟨c0u, c1u, c2u, c3u, c4u, c5u, c6u, c7u, c8u, c9u, c10u, c11u⟩ := HC.out u hSu.out
  go_simp
  first | done | with_reducible rfl
 try simp only [Act.put, zA, zB, zC]
 refine zT (i := 10) (v := ?_) rfl ?_ hHeld ?_
 rotate_left 1
 ·intro u hSu
  have KU := K7.out.keep hSu.out
  obtain ⟨o0u, o1u, o2u⟩ := (row3f KU.ob).1
  obtain ⟨a0u, a1u, a2u, a3u, a4u, a5u, a6u, a7u, a8u, a9u⟩ := p_facts KU.qb
  obtain ⟨d0u, d1u, d2u, d3u⟩ := row4T KU.bb
  obtain ⟨c0u, c1u, c2u, c3u, c4u, c5u, c6u, c7u, c8u, c9u, c10u, c11u⟩ := HC.out u hSu.out
  go_simp
  first | done | with_reducible rfl
 try simp only [Act.put, zA, zB, zC]
 refine zT (i := 11) (v := ?_) rfl ?_ hHeld ?_
 rotate_left 1
 ·intro u hSu
  have KU := K7.out.keep hSu.out
  obtain ⟨o0u, o1u, o2u⟩ := (row3f KU.ob).1
  obtain ⟨a0u, a1u, a2u, a3u, a4u, a5u, a6u, a7u, a8u, a9u⟩ := p_facts KU.qb
  obtain ⟨d0u, d1u, d2u, d3u⟩ := row4T KU.bb
  obtain ⟨c0u, c1u, c2u, c3u, c4u, c5u, c6u, c7u, c8u, c9u, c10u, c11u⟩ := HC.out u hSu.out
  go_simp
  first | done | with_reducible rfl
 try simp only [Act.put, zA, zB, zC]
 refine zT (i := 13) (v := ?_) rfl ?_ hHeld ?_
 rotate_left 1
 ·intro u hSu
  have KU := K7.out.keep hSu.out
  obtain ⟨o0u, o1u, o2u⟩ := (row3f KU.ob).1
  obtain ⟨a0u, a1u, a2u, a3u, a4u, a5u, a6u, a7u, a8u, a9u⟩ := p_facts KU.qb
  obtain ⟨d0u, d1u, d2u, d3u⟩ := row4T KU.bb
  obtain ⟨c0u, c1u, c2u, c3u, c4u, c5u, c6u, c7u, c8u, c9u, c10u, c11u⟩ := HC.out u hSu.out
  go_simp
  first | done | with_reducible rfl
 try simp only [Act.put, zA, zB, zC]
 refine zT (i := 14) (v := ?_) rfl ?_ hHeld ?_
 rotate_left 1
 ·intro u hSu
  have KU := K7.out.keep hSu.out
  obtain ⟨o0u, o1u, o2u⟩ := (row3f KU.ob).1
  obtain ⟨a0u, a1u, a2u, a3u, a4u, a5u, a6u, a7u, a8u, a9u⟩ := p_facts KU.qb
  obtain ⟨d0u, d1u, d2u, d3u⟩ := row4T KU.bb
  obtain ⟨c0u, c1u, c2u, c3u, c4u, c5u, c6u, c7u, c8u, c9u, c10u, c11u⟩ := HC.out u hSu.out
  go_simp
  first | done | with_reducible rfl
 try simp only [Act.put, zA, zB, zC]
 refine zT (i := 15) (v := ?_) rfl ?_ hHeld ?_
 rotate_left 1
 ·intro u hSu
  have KU := K7.out.keep hSu.out
  obtain ⟨o0u, o1u, o2u⟩ := (row3f KU.ob).1
  obtain ⟨a0u, a1u, a2u, a3u, a4u, a5u, a6u, a7u, a8u, a9u⟩ := p_facts KU.qb
  obtain ⟨d0u, d1u, d2u, d3u⟩ := row4T KU.bb
  obtain ⟨c0u, c1u, c2u, c3u, c4u, c5u, c6u, c7u, c8u, c9u, c10u, c11u⟩ := HC.out u hSu.out
  go_simp
  first | done | with_reducible rfl
 try simp only [Act.put, zA, zB, zC]
 refine zT (i := 16) (v := ?_) rfl ?_ hHeld ?_
 rotate_left 1
 ·intro u hSu
  have KU := K7.out.keep hSu.out
  obtain ⟨o0u, o1u, o2u⟩ := (row3f KU.ob).1
  obtain ⟨a0u, a1u, a2u, a3u, a4u, a5u, a6u, a7u, a8u, a9u⟩ := p_facts KU.qb
  obtain ⟨d0u, d1u, d2u, d3u⟩ := row4T KU.bb
  obtain ⟨c0u, c1u, c2u, c3u, c4u, c5u, c6u, c7u, c8u, c9u, c10u, c11u⟩ := HC.out u hSu.out
  go_simp
  first | done | with_reducible rfl
 try simp only [Act.put, zA, zB, zC]
 refine zT (i := 17) (v := ?_) rfl ?_ hHeld ?_
 rotate_left 1
 ·intro u hSu
  have KU := K7.out.keep hSu.out
  obtain ⟨o0u, o1u, o2u⟩ := (row3f KU.ob).1
  obtain ⟨a0u, a1u, a2u, a3u, a4u, a5u, a6u, a7u, a8u, a9u⟩ := p_facts KU.qb
  obtain ⟨d0u, d1u, d2u, d3u⟩ := row4T KU.bb
  obtain ⟨c0u, c1u, c2u, c3u, c4u, c5u, c6u, c7u, c8u, c9u, c10u, c11u⟩ := HC.out u hSu.out
  go_simp
  first | done | with_reducible rfl
 try simp only [Act.put, zA, zB, zC]
 refine zT (i := 18) (v := ?_) rfl ?_ hHeld ?_
 rotate_left 1
 ·intro u hSu
  have KU := K7.out.keep hSu.out
  obtain ⟨o0u, o1u, o2u⟩ := (row3f KU.ob).1
  obtain ⟨a0u, a1u, a2u, a3u, a4u, a5u, a6u, a7u, a8u, a9u⟩ := p_facts KU.qb
  obtain ⟨d0u, d1u, d2u, d3u⟩ := row4T KU.bb
  obtain ⟨c0u, c1u, c2u, c3u, c4u, c5u, c6u, c7u, c8u, c9u, c10u, c11u⟩ := HC.out u hSu.out
  go_simp
  first | done | with_reducible rfl
 try simp only [Act.put, zA, zB, zC]
 refine zT (i := 19) (v := ?_) rfl ?_ hHeld ?_
 rotate_left 1
 ·intro u hSu
  have KU := K7.out.keep hSu.out
  obtain ⟨o0u, o1u, o2u⟩ := (row3f KU.ob).1
  obtain ⟨a0u, a1u, a2u, a3u, a4u, a5u, a6u, a7u, a8u, a9u⟩ := p_facts KU.qb
  obtain ⟨d0u, d1u, d2u, d3u⟩ := row4T KU.bb
  obtain ⟨c0u, c1u, c2u, c3u, c4u, c5u, c6u, c7u, c8u, c9u, c10u, c11u⟩ := HC.out u hSu.out
  go_simp
  first | done | with_reducible rfl
 try simp only [Act.put, zA, zB, zC]
 refine zT (i := 20) (v := ?_) rfl ?_ hHeld ?_
 rotate_left 1
 ·intro u hSu
  have KU := K7.out.keep hSu.out
  obtain ⟨o0u, o1u, o2u⟩ := (row3f KU.ob).1
  obtain ⟨a0u, a1u, a2u, a3u, a4u, a5u, a6u, a7u, a8u, a9u⟩ := p_facts KU.qb
  obtain ⟨d0u, d1u, d2u, d3u⟩ := row4T KU.bb
  obtain ⟨c0u, c1u, c2u, c3u, c4u, c5u, c6u, c7u, c8u, c9u, c10u, c11u⟩ := HC.out u hSu.out
  go_simp
  first | done | with_reducible rfl
 try simp only [Act.put, zA, zB, zC]
 refine wpAnyH_ready (rs := [12]) (by kernel_rfl) (by simp) ?_
 refine AllReadyH.cons (o := ⟨_, _, _, _, _, _⟩) rfl (fun Kz hK => ?_) AllReadyH.nil
 go_simp
 go_at_call 21
 refine (rplane_any Q HQ.out _).mono ?_
 rintro e' wn ⟨rfl, hg⟩
 have HN := Lib.hid (grown_trans hHeld.out hg)
 clear hg
 simp only
 refine hK.out _ _ (HN) (fun hH2 => ?_)
 clear hK Kz hHeld
 have hHeld := hH2
 clear hH2
 try simp only [Act.put, zA, zB, zC]
 refine wpAnyH_ready (rs := [21]) (by kernel_rfl) (by simp) ?_
 refine AllReadyH.cons (o := ⟨_, _, _, _, _, _⟩) rfl (fun Kz hK => ?_) AllReadyH.nil
 go_simp
 go_at_call 20
 refine (HMK.out _ (K7.out.keep hHeld.out).rd).mono ?_
 rintro e' wn ⟨rfl, hg⟩
 have HN := Lib.hid (grown_trans hHeld.out hg)
 clear hg
 simp only
 refine hK.out _ _ (HN) (fun hH2 => ?_)
 clear hK Kz hHeld
 have hHeld := hH2
 clear hH2
 try simp only [Act.put, zA, zB, zC]
 refine zT (i := 22) (v := .int .u64 (y.2 : Int)) rfl ?_ hHeld ?_
 ·intro u hSu
  have KU := K7.out.keep hSu.out
  obtain ⟨o0u, o1u, o2u⟩ := (row3f KU.ob).1
  obtain ⟨a0u, a1u, a2u, a3u, a4u, a5u, a6u, a7u, a8u, a9u⟩ := p_facts KU.qb
  obtain ⟨d0u, d1u, d2u, d3u⟩ := row4T KU.bb
  obtain ⟨c0u, c1u, c2u, c3u, c4u, c5u, c6u, c7u, c8u, c9u, c10u, c11u⟩ := HC.out u hSu.out
  go_simp
  first | done | exact hand | simp_all
 try simp only [Act.put, zA, zB, zC]
 refine zT (i := 23) (v := .bool false) rfl ?_ hHeld ?_
 ·intro u hSu
  have KU := K7.out.keep hSu.out
  obtain ⟨o0u, o1u, o2u⟩ := (row3f KU.ob).1
  obtain ⟨a0u, a1u, a2u, a3u, a4u, a5u, a6u, a7u, a8u, a9u⟩ := p_facts KU.qb
  obtain ⟨d0u, d1u, d2u, d3u⟩ := row4T KU.bb
  obtain ⟨c0u, c1u, c2u, c3u, c4u, c5u, c6u, c7u, c8u, c9u, c10u, c11u⟩ := HC.out u hSu.out
  go_simp
  first | done | rfl | simp
 try simp only [Act.put, zA, zB, zC]
 refine wpAnyH_done (by kernel_rfl) ?_ _
 have G8 := Lib.hid (grown_trans G.out hHeld.out)
 clear hHeld o0 o1 o2 K7 G
 go_wp2_with fail
 exact ⟨⟨i + 1, by omega, congrArg _ (by omega), G8⟩, by simp only [RowKit.intOf]; omega⟩
end Go.Proofs.YtpogblengagpaaaGreatDoor

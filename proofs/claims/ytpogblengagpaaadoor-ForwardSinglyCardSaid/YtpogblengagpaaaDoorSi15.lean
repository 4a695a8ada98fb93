/- Parts of the proof, packed: FwSiLaw. -/
import Derived.Test.YtpogblengagpaaaDoorSi14
import Derived.Test.YtpogblengagpaaaDoorSi9
/- ForwardSingly: the law. -/
namespace Go.Proofs.YtpogblengagpaaaDoor
set_option maxRecDepth 100000
open Go.RowKit Go.Maps Bs
theorem one_ok {s n : Int} {Q : Pk} {k : Nat} (h : ForOk s n Q) (hk : k < 64) (hb : Q.bits.testBit k = true) : onlyP Q (k : Int) = { Q with bits := b2 k } ∧ ForOk s n { Q with bits := b2 k } := by
 refine ⟨?_, h.bits (b2_u64 hk) ?_⟩
 ·unfold onlyP
  rw [if_pos ⟨h.v, by omega, by omega, by rw [Int.toNat_natCast]; exact hb⟩, Int.toNat_natCast]
 ·have hv := h.v
  unfold vpk at hv
  simp only [decide_eq_true_eq] at hv
  have h1 := hv.2.2.2.2.2.2.2.2
  rw [h.len] at h1
  unfold vb at h1 ⊢
  simp only [Bool.and_eq_true, beq_iff_eq] at h1 ⊢
  refine ⟨h1.1, ?_⟩
  rw [Nat.and_comm]
  refine (and_two (j := k)).2 ?_
  have := congrArg (fun x => x.testBit k) h1.2
  simp only [Nat.testBit_and, hb, Bool.true_and, Nat.zero_testBit] at this
  exact this
theorem one_plane {s n : Int} {Q : Pk} {k : Nat} (h : ForOk s n Q) (h1 : ForOk s n { Q with bits := b2 k }) (L : List Rw) : fwM n L { Q with bits := b2 k } = fwM n L Q ∧ fwH n L { Q with bits := b2 k } = fwH n L Q := by
 have e : planeV { Q with bits := b2 k } = planeV Q := by
  unfold planeV
  rw [h.v, h1.v]
 unfold fwM fwH
 rw [e]
 exact ⟨rfl, rfl⟩
theorem only_agrS (P : Pk) (hP : P.Wf) (k : Int) (Q : Pk) (hQ : onlyP P k = Q) (w : World) :
  Calls Tryd.prog 14 #[P.val, .int .i64 k] w fun e w' => e = .returned (.agg #[.int .i64 Q.mode, .int .i64 Q.sub, .int .i64 Q.set, .int .i64 Q.len, .int .i64 Q.ttl, .int .i64 Q.ent, .int .i64 Q.ing, .int .i64 Q.pro, .int .u64 (Q.bits : Int), .string Q.pay]) ∧ w.grownBy w' none := by
 refine (onlyr_any P hP k w).mono ?_
 rintro e w' ⟨rfl, h⟩
 rw [hQ]
 exact ⟨rfl, h⟩
theorem alloc_eqF {w w' : World} {o : Obj} (h : w.alloc o = w') : w'.heap[w.heap.size]? = some o ∧ w.grownBy w' none := by
 subst h
 exact ⟨heap_alloc_new w o, World.grownBy_alloc w o none⟩
theorem undrewN {w w1 : World} (g : w.drew.grownBy w1 none) : w.grownBy w1 none := ⟨g.os, g.tape, g.output, g.size, g.block⟩
theorem ob_grownI {w : World} {g : Nat} {o : Obj} (_h : w.heap[g]? = some o) (v0 v1 v2 : Value) : w.grownBy (((w.setCell ⟨g, 0, none⟩ v0).setCell ⟨g, 1, none⟩ v1).setCell ⟨g, 2, none⟩ v2) (some g) := ob_grown w g v0 v1 v2
def toB (b : Bool) (x : Int) : Int := if b = true then x else 0
def anyB (l : List (Int × Nat)) (k : Nat) : Bool := l.any fun y => y.2.testBit k
theorem anyB_next {cs : List (Int × Nat)} {i : Nat} {y : Int × Nat} (h : cs[i]? = some y) (k : Nat) : anyB (cs.take (i + 1)) k = (anyB (cs.take i) k || y.2.testBit k) := by
 unfold anyB
 rw [List.take_add_one, h, List.any_append]
 simp
theorem anyB_cz {n : Int} {L : List Rw} {Q : Pk} {r : Int} {loc lost : Nat} {cs : List (Int × Nat)} (D : FwD (fwM n L Q) (fwH n L Q) r (decide (Q.ttl = 0)) Q.bits loc lost cs) (hM : Ms (fwM n L Q) (fwH n L Q)) (hP : U64 Q.bits) {k : Nat} (hk : Q.bits.testBit k = true) : anyB cs k = czB (fwH n L Q) r (decide (Q.ttl = 0)) k := by
 rw [Bool.eq_iff_iff, ← D.goes hM hP hk]
 unfold anyB
 rw [List.any_eq_true]
 exact ⟨fun ⟨y, hy, hb⟩ => ⟨y, hy, (D.has hM hP hk hy).1 hb⟩, fun ⟨y, hy, hb⟩ => ⟨y, hy, (D.has hM hP hk hy).2 hb⟩⟩
set_option maxHeartbeats 12800000 in
theorem singly_walkF (v0 : Value) (w : World) (hv : IntsIn w v0) (hT : Tb w) :
  Calls Tryd.prog 4 #[v0] w fun e w' => e = .returned (.bool true) ∧ w.grownBy w' none := by
 have HT := Lib.hid hT
 have HV0 := Lib.hid hv
 clear hT hv
 go_enter Tryd.func4, Tryd.ntmps4
 go_wp2_with fail
 refine (new_any v0 w HV0.out).mono ?_
 rintro e w2 ⟨rfl, hg1, hT1⟩
 have H2 := Lib.hid (And.intro hg1 hT1)
 clear hg1 hT1
 go_wp2_with fail
 refine (fit_any w.heap.size w2 H2.out.2).mono ?_
 rintro e w3 ⟨r, s, n, L, p, c, Q, rfl, hO, hck, hF, hl, hs⟩
 have hk3 : w.grownBy w3 none := grown_any H2.out.1 hs.gr (fun b hb e => by have := Option.some.inj e; omega)
 have HF := Lib.hid (And.intro hck (And.intro hF (And.intro hs.tp (show RdW w3 (fun b => b ≠ w.heap.size ∧ b < w3.heap.size) p c L from (own_rdw2 hO).mono (fun b hb => ⟨by have := H2.out.2.lt; have := hb.1; omega, hb.2⟩)))))
 have HE := Lib.hid (fit_E hck hF)
 have hL24 := hl
 obtain ⟨k1, k2, k3⟩ := two_newF w3 (.cells #[.int .i64 r, .int .i64 s, .int .i64 n, .slice p L.length c] 27) (.cells (pcells Q) 30)
 have HB := Lib.hid (And.intro k1 (And.intro k2 (And.intro k3 (And.intro (((own_rdw hO).1.keep k3).mono (q' := (· < ((w3.alloc (.cells #[.int .i64 r, .int .i64 s, .int .i64 n, .slice p L.length c] 27)).alloc (.cells (pcells Q) 30)).heap.size)) (fun b (hb : b < w3.heap.size) => by show b < _; simp; omega)) (HT.out.keep (grown_trans hk3 k3))))))
 have HG3 := Lib.hid hk3
 unfold pcells at HB
 clear k1 k2 k3 hO hck hF hs hk3 hl H2
 go_upto_region 3 with fail
 generalize (w3.alloc _).alloc _ = w4 at *
 have HQB : Hid (w4.heap[w3.heap.size + 1]? = some (.cells (pcells Q) 30 (0, 0))) := Lib.hid HB.out.2.1
 obtain ⟨d0, d1, d2, d3⟩ := row4T HB.out.1
 obtain ⟨a0, a1, a2, a3, a4, a5, a6, a7, a8, a9⟩ := p_facts HQB.out
 go_wp2_with fail
 refine (fwpk_any r s n p c L Q HF.out.2.1.wf w4 HB.out.2.2.2.1 (by omega) HB.out.2.2.2.2).mono ?_
 rintro e w5 ⟨x, loc, lost, cs, pc, cc, rfl, hR, hO, hg⟩
 obtain rfl : x = 0 := hR.he.trans HE.out
 have HD := Lib.hid (hR.ok rfl)
 have HU := Lib.hid hR.hu
 have hcl := (hR.ok rfl).len (fw_ms HE.out) HF.out.2.1.wf.bits
 obtain ⟨k1, k2⟩ := tone_box w5 #[.int .u64 (loc : Int), .int .u64 (lost : Int), .slice pc cs.length cc] 35
 have K0 : Hid (LW w w3.heap.size w5.heap.size r s n p c L Q loc lost pc cc cs (w5.alloc (.cells #[.int .u64 (loc : Int), .int .u64 (lost : Int), .slice pc cs.length cc] 35))) := Lib.hid (by
  have hg6 := grown_trans hg k2
  have h := HB.out
  exact ⟨kept_row h.1 hg6 (by simp), kept_row HQB.out hg6 (by simp), k1, (h.2.2.2.1.keep hg6).mono (fun b (hb : b < w4.heap.size) => Nat.lt_of_lt_of_le hb hg6.size), (((rdf_of_own hO).mono (fun b hb => (show w3.heap.size ≤ b from Nat.le_trans h.2.2.1.size hb))).grown k2 (fun _ _ => by simp)), h.2.2.2.2.keep hg6, grown_trans HG3.out (grown_trans h.2.2.1 hg6)⟩)
 clear k1 k2 hR hO hg HB HQB d0 d1 d2 d3 a0 a1 a2 a3 a4 a5 a6 a7 a8 a9 HG3
 go_upto_region 4 with fail
 generalize w5.alloc _ = w6 at *
 generalize w5.heap.size = Bo at *
 generalize w3.heap.size = Bb at *
 have HQ := Lib.hid HF.out.2.1.wf
 obtain ⟨a0, a1, a2, a3, a4, a5, a6, a7, a8, a9⟩ := p_facts K0.out.qb
 go_wp2_with fail
 refine (listr_any Q.bits HQ.out.bits w6).mono ?_
 rintro e w7 ⟨vl, rfl, hL, hg⟩
 obtain ⟨pl, cl, rfl⟩ : ∃ p0 c0, vl = .slice p0 (bl Q.bits).length c0 := by
  obtain ⟨p0, c0, e0, -⟩ := hL
  rw [List.length_map] at e0
  exact ⟨p0, c0, e0⟩
 have K1 := Lib.hid (K0.out.keep hg)
 have HL := Lib.hid hL
 have hB : (bl Q.bits).length ≤ 64 := by unfold bl blN; exact Nat.le_trans (List.length_filter_le _ _) (by simp)
 clear hL hg K0 a0 a1 a2 a3 a4 a5 a6 a7 a8 a9
 go_wp2_with fail
 go_loopw [9] (fun u wr => ∃ i : Nat, i ≤ (bl Q.bits).length ∧ u = .int .i64 (i : Int) ∧ Hid (w7.grownBy wr none)) (fun u _ => (bl Q.bits).length - (RowKit.intOf u).toNat)
 case atStart => exact ⟨0, Nat.zero_le _, rfl, Lib.hid (grown_refl _ _)⟩
 case round =>
 obtain ⟨i, hi, rfl, G⟩ := hrel
 obtain ⟨w8, hw8⟩ : ∃ w8, w8 = wr := ⟨_, rfl⟩
 rw [← hw8] at G ⊢
 clear hw8
 by_cases hlt : i < (bl Q.bits).length
 case neg =>
  obtain rfl : i = (bl Q.bits).length := by omega
  have hnl : ¬ ((bl Q.bits).length : Int) < ((bl Q.bits).length : Int) := by omega
  go_wp2_with fail
  refine (awk13_any _ (K1.out.tb.keep G.out)).mono ?_
  rintro e wz ⟨rfl, hz⟩
  have GF := Lib.hid (grown_trans K1.out.gr (grown_trans G.out hz))
  clear hz
  go_wp2_with fail
  go_ret
  exact ⟨rfl, GF.out⟩
 have hlt' : (i : Int) < ((bl Q.bits).length : Int) := by omega
 have hi0 : (0 : Int) ≤ (i : Int) := by omega
 obtain ⟨k, hk⟩ : ∃ k, (bl Q.bits)[i]? = some k := ⟨_, List.getElem?_eq_getElem hlt⟩
 obtain ⟨hk64, hkb⟩ : k < 64 ∧ Q.bits.testBit k = true := by
  have hm := List.mem_of_getElem? hk
  unfold bl blN at hm
  rw [List.mem_filter, List.mem_range] at hm
  exact hm
 obtain ⟨gl, ol, rfl, hc⟩ : ∃ g off, pl = some ⟨g, off, none⟩ ∧ ∀ w1, w7.grownBy w1 none → w1.cell? ⟨g, off + i, none⟩ = some (.int .i64 (k : Int)) := by
  obtain ⟨p0, c0, e, hx⟩ := HL.out
  injection e with e1 e2 e3
  have hv : ((bl Q.bits).map ival)[i]? = some (ival k) := by rw [List.getElem?_map, hk]; rfl
  obtain ⟨g, off, hp, -, hy⟩ := hx (fun e => by rw [e] at hv; simp at hv)
  exact ⟨g, off, e1.trans hp, fun w1 g1 => g1.cell (hy i _ hv) (by simp)⟩
 obtain ⟨hq1, hf1⟩ := one_ok HF.out.2.1 hk64 hkb
 have HK := Lib.hid (And.intro hk64 (And.intro hkb (And.intro hq1 hf1)))
 have HC := Lib.hid hc
 have l0 := hc w8 G.out
 clear hc hk hq1 hf1 hkb hk64
 go_wp2_with fail
 refine (bit_any k HK.out.1 w8).mono ?_
 rintro e wx ⟨rfl, rfl⟩
 clear l0
 go_upto_region 11 with fail
 go_cut [11, 12] from 49 to 59 (fun v u wx => ∃ (loc1 lost1 : Nat) (cs1 : List (Int × Nat)) (pc1 : Option Addr) (cc1 Bx : Nat), v = .pointer (some ⟨Bx, 0, none⟩) ∧ u = .int .i64 0 ∧ Hid (FwD (fwM n L { Q with bits := b2 k }) (fwH n L { Q with bits := b2 k }) r (decide (Q.ttl = 0)) (b2 k) loc1 lost1 cs1 ∧ wx.heap[Bx]? = some (.cells #[.int .u64 (loc1 : Int), .int .u64 (lost1 : Int), .slice pc1 cs1.length cc1] 35 (0, 0)) ∧ RdF wx (fun _ => True) (.slice pc1 cs1.length cc1) cs1.length (cs1.flatMap (cyC { Q with bits := b2 k })) ∧ w7.grownBy wx none))
 case first =>
  refine wp_region_held_drew (S := fun w' => Hid (w8.grownBy w' none)) (by kernel_rfl) (Lib.hid (grown_drew (grown_refl _ none))) (fun hHeld => ?_)
  refine zT (i := 0) (v := ?_) rfl ?_ hHeld ?_
  rotate_left 1
  ·intro u hSu
   have KU := K1.out.keep (grown_trans G.out hSu.out)
   obtain ⟨a0u, a1u, a2u, a3u, a4u, a5u, a6u, a7u, a8u, a9u⟩ := p_facts KU.qb
   obtain ⟨d0u, d1u, d2u, d3u⟩ := row4T KU.bb
   have l0u := HC.out u (grown_trans G.out hSu.out)
   go_simp
   first | done | with_reducible rfl
  try simp only [Act.put, zA, zB, zC]
  refine zT (i := 1) (v := ?_) rfl ?_ hHeld ?_
  rotate_left 1
  ·intro u hSu
   have KU := K1.out.keep (grown_trans G.out hSu.out)
   obtain ⟨a0u, a1u, a2u, a3u, a4u, a5u, a6u, a7u, a8u, a9u⟩ := p_facts KU.qb
   obtain ⟨d0u, d1u, d2u, d3u⟩ := row4T KU.bb
   have l0u := HC.out u (grown_trans G.out hSu.out)
   go_simp
   first | done | with_reducible rfl
  try simp only [Act.put, zA, zB, zC]
  refine zT (i := 2) (v := ?_) rfl ?_ hHeld ?_
  rotate_left 1
  ·intro u hSu
   have KU := K1.out.keep (grown_trans G.out hSu.out)
   obtain ⟨a0u, a1u, a2u, a3u, a4u, a5u, a6u, a7u, a8u, a9u⟩ := p_facts KU.qb
   obtain ⟨d0u, d1u, d2u, d3u⟩ := row4T KU.bb
   have l0u := HC.out u (grown_trans G.out hSu.out)
   go_simp
   first | done | with_reducible rfl
  try simp only [Act.put, zA, zB, zC]
  refine zT (i := 3) (v := ?_) rfl ?_ hHeld ?_
  rotate_left 1
  ·intro u hSu
   have KU := K1.out.keep (grown_trans G.out hSu.out)
   obtain ⟨a0u, a1u, a2u, a3u, a4u, a5u, a6u, a7u, a8u, a9u⟩ := p_facts KU.qb
   obtain ⟨d0u, d1u, d2u, d3u⟩ := row4T KU.bb
   have l0u := HC.out u (grown_trans G.out hSu.out)
   go_simp
   first | done | with_reducible rfl
  try simp only [Act.put, zA, zB, zC]
  refine zT (i := 4) (v := ?_) rfl ?_ hHeld ?_
  rotate_left 1
  ·intro u hSu
   have KU := K1.out.keep (grown_trans G.out hSu.out)
   obtain ⟨a0u, a1u, a2u, a3u, a4u, a5u, a6u, a7u, a8u, a9u⟩ := p_facts KU.qb
   obtain ⟨d0u, d1u, d2u, d3u⟩ := row4T KU.bb
   have l0u := HC.out u (grown_trans G.out hSu.out)
   go_simp
   first | done | with_reducible rfl
  try simp only [Act.put, zA, zB, zC]
  refine zT (i := 5) (v := ?_) rfl ?_ hHeld ?_
  rotate_left 1
  ·intro u hSu
   have KU := K1.out.keep (grown_trans G.out hSu.out)
   obtain ⟨a0u, a1u, a2u, a3u, a4u, a5u, a6u, a7u, a8u, a9u⟩ := p_facts KU.qb
   obtain ⟨d0u, d1u, d2u, d3u⟩ := row4T KU.bb
   have l0u := HC.out u (grown_trans G.out hSu.out)
   go_simp
   first | done | with_reducible rfl
  try simp only [Act.put, zA, zB, zC]
  refine wpAnyH_ready (rs := [6, 11]) (by kernel_rfl) (by simp) ?_
  refine AllReadyH.cons (o := ⟨_, _, _, _, _, _⟩) rfl (fun Kz hK => ?_) (AllReadyH.cons (o := ⟨_, _, _, _, _, _⟩) rfl (fun Kz hK => ?_) AllReadyH.nil)
  ·go_simp
   go_at_call 14
   refine (only_agrS Q HQ.out k { Q with bits := b2 k } HK.out.2.2.1 _).mono ?_
   rintro e' wo ⟨rfl, hg⟩
   first | replace HBX := Lib.hid (And.intro (kept_row HBX.out.1 hg (by simp)) (And.intro HBX.out.2.1 (Nat.lt_of_lt_of_le HBX.out.2.2 hg.size))) | replace HBX := Lib.hid (And.intro (kept_row HBX.out.1 (undrewN hg) (by simp)) (And.intro HBX.out.2.1 (Nat.lt_of_lt_of_le HBX.out.2.2 hg.size))) | skip
   have HN := Lib.hid (grown_trans hHeld.out hg)
   clear hg
   simp only
   refine hK.out _ _ (HN) (fun hH2 => ?_)
   clear hK Kz hHeld
   have hHeld := hH2
   clear hH2
   try simp only [Act.put, zA, zB, zC]
   refine wpAnyH_ready (rs := [7, 11]) (by kernel_rfl) (by simp) ?_
   refine AllReadyH.cons (o := ⟨_, _, _, _, _, _⟩) rfl (fun Kz hK => ?_) (AllReadyH.cons (o := ⟨_, _, _, _, _, _⟩) rfl (fun Kz hK => ?_) AllReadyH.nil)
   ·go_simp
    go_at_call 8
    refine (fwpk_any r s n p c L { Q with bits := b2 k } HK.out.2.2.2.wf _ (K1.out.keep (grown_trans G.out hHeld.out)).rd (by omega) (K1.out.keep (grown_trans G.out hHeld.out)).tb).mono ?_
    rintro e' wp ⟨x, loc1, lost1, cs1, pc1, cc1, rfl, hR, hO, hg⟩
    obtain rfl : x = 0 := hR.he.trans (fit_E HF.out.1 HK.out.2.2.2)
    have HD1 := Lib.hid (hR.ok rfl)
    have HCP := Lib.hid (rdf_of_own2 hO)
    try have HCQ := Lib.hid (HCP.out.mono (fun b hb => (show b ≠ _ from Nat.ne_of_gt (Nat.lt_of_lt_of_le HBX.out.2.2 hb.1))))
    first | replace HBX := Lib.hid (And.intro (kept_row HBX.out.1 hg (by simp)) (And.intro HBX.out.2.1 (Nat.lt_of_lt_of_le HBX.out.2.2 hg.size))) | replace HBX := Lib.hid (And.intro (kept_row HBX.out.1 (undrewN hg) (by simp)) (And.intro HBX.out.2.1 (Nat.lt_of_lt_of_le HBX.out.2.2 hg.size))) | skip
    have HN := Lib.hid (grown_trans hHeld.out hg)
    clear hg hR hO
    simp only
    refine hK.out _ _ (HN) (fun hH2 => ?_)
    clear hK Kz hHeld
    have hHeld := hH2
    clear hH2
    try simp only [Act.put, zA, zB, zC]
    refine zT (i := 8) (v := ?_) rfl ?_ hHeld ?_
    rotate_left 1
    ·intro u hSu
     have KU := K1.out.keep (grown_trans G.out hSu.out)
     obtain ⟨a0u, a1u, a2u, a3u, a4u, a5u, a6u, a7u, a8u, a9u⟩ := p_facts KU.qb
     obtain ⟨d0u, d1u, d2u, d3u⟩ := row4T KU.bb
     have l0u := HC.out u (grown_trans G.out hSu.out)
     go_simp
     first | done | with_reducible rfl
    try simp only [Act.put, zA, zB, zC]
    refine zT (i := 9) (v := ?_) rfl ?_ hHeld ?_
    rotate_left 1
    ·intro u hSu
     have KU := K1.out.keep (grown_trans G.out hSu.out)
     obtain ⟨a0u, a1u, a2u, a3u, a4u, a5u, a6u, a7u, a8u, a9u⟩ := p_facts KU.qb
     obtain ⟨d0u, d1u, d2u, d3u⟩ := row4T KU.bb
     have l0u := HC.out u (grown_trans G.out hSu.out)
     go_simp
     first | done | with_reducible rfl
    try simp only [Act.put, zA, zB, zC]
    refine zT (i := 10) (v := ?_) rfl ?_ hHeld ?_
    rotate_left 1
    ·intro u hSu
     have KU := K1.out.keep (grown_trans G.out hSu.out)
     obtain ⟨a0u, a1u, a2u, a3u, a4u, a5u, a6u, a7u, a8u, a9u⟩ := p_facts KU.qb
     obtain ⟨d0u, d1u, d2u, d3u⟩ := row4T KU.bb
     have l0u := HC.out u (grown_trans G.out hSu.out)
     go_simp
     first | done | with_reducible rfl
    try simp only [Act.put, zA, zB, zC]
    refine wpAnyH_ready (rs := [11]) (by kernel_rfl) (by simp) ?_
    refine AllReadyH.cons (o := ⟨_, _, _, _, _, _⟩) rfl (fun Kz hK => ?_) AllReadyH.nil
    go_simp
    generalize hwB : World.alloc _ _ = wB
    obtain ⟨hb1, hb2⟩ := alloc_eqF hwB
    have hlz := hHeld.out.size
    try change w8.heap.size ≤ w8.heap.size at hlz
    have HBX := Lib.hid (And.intro hb1 (And.intro hlz (Array.getElem?_eq_some_iff.1 hb1).1))
    try have HCQ := Lib.hid (RdF.grown (HCP.out.mono (fun b hb => (show b ≠ _ from Nat.ne_of_lt hb.2))) hb2 (fun _ _ => by simp))
    clear hwB hb1 hlz
    refine hK.out _ _ (Lib.hid (by first | exact grown_trans hHeld.out hb2 | exact grown_drew hb2)) (fun hH2 => ?_)
    clear hK Kz hHeld
    have hHeld := hH2
    clear hH2
    try simp only [Act.put, zA, zB, zC]
    refine wpAnyH_ready (rs := [12]) (by kernel_rfl) (by simp) ?_
    refine AllReadyH.cons (o := ⟨_, _, _, _, _, _⟩) rfl (fun Kz hK => ?_) AllReadyH.nil
    obtain ⟨⟨o0x, o1x, o2x⟩, f0x, f1x, f2x⟩ := row3f HBX.out.1
    have HX8 := Lib.hid (ob_put (.int .u64 (loc1 : Int)) (.int .u64 (lost1 : Int)) (.slice pc1 cs1.length cc1) HBX.out.1)
    have jx := ob_grownI HBX.out.1 (.int .u64 (loc1 : Int)) (.int .u64 (lost1 : Int)) (.slice pc1 cs1.length cc1)
    have HCS := Lib.hid (RdF.grown HCQ.out jx (fun b hb e => hb (Option.some.inj e)))
    go_simp
    refine hK.out _ _ (Lib.hid (grown_any hHeld.out jx (fun b hb e => by have := Option.some.inj e; have := HBX.out.2.1; omega))) (fun hH2 => ?_)
    clear hK Kz hHeld
    have hHeld := hH2
    clear hH2
    try simp only [Act.put, zA, zB, zC]
    refine zT (i := 13) (v := ?_) rfl ?_ hHeld ?_
    rotate_left 1
    ·intro u hSu
     have KU := K1.out.keep (grown_trans G.out hSu.out)
     obtain ⟨a0u, a1u, a2u, a3u, a4u, a5u, a6u, a7u, a8u, a9u⟩ := p_facts KU.qb
     obtain ⟨d0u, d1u, d2u, d3u⟩ := row4T KU.bb
     have l0u := HC.out u (grown_trans G.out hSu.out)
     go_simp
     first | done | with_reducible rfl
    try simp only [Act.put, zA, zB, zC]
    refine wpAnyH_done (by kernel_rfl) ?_ _
    have G9 := Lib.hid (grown_trans G.out hHeld.out)
    go_wp2_with fail
    go_meet
    exact ⟨loc1, lost1, cs1, pc1, cc1, _, rfl, rfl, Lib.hid ⟨HD1.out, HX8.out, HCS.out.mono (fun _ _ => trivial), G9.out⟩⟩
   ·go_simp
    generalize hwB : World.alloc _ _ = wB
    obtain ⟨hb1, hb2⟩ := alloc_eqF hwB
    have hlz := hHeld.out.size
    try change w8.heap.size ≤ w8.heap.size at hlz
    have HBX := Lib.hid (And.intro hb1 (And.intro hlz (Array.getElem?_eq_some_iff.1 hb1).1))
    try have HCQ := Lib.hid (RdF.grown (HCP.out.mono (fun b hb => (show b ≠ _ from Nat.ne_of_lt hb.2))) hb2 (fun _ _ => by simp))
    clear hwB hb1 hlz
    refine hK.out _ _ (Lib.hid (by first | exact grown_trans hHeld.out hb2 | exact grown_drew hb2)) (fun hH2 => ?_)
    clear hK Kz hHeld
    have hHeld := hH2
    clear hH2
    try simp only [Act.put, zA, zB, zC]
    refine wpAnyH_ready (rs := [7]) (by kernel_rfl) (by simp) ?_
    refine AllReadyH.cons (o := ⟨_, _, _, _, _, _⟩) rfl (fun Kz hK => ?_) AllReadyH.nil
    go_simp
    go_at_call 8
    refine (fwpk_any r s n p c L { Q with bits := b2 k } HK.out.2.2.2.wf _ (K1.out.keep (grown_trans G.out hHeld.out)).rd (by omega) (K1.out.keep (grown_trans G.out hHeld.out)).tb).mono ?_
    rintro e' wp ⟨x, loc1, lost1, cs1, pc1, cc1, rfl, hR, hO, hg⟩
    obtain rfl : x = 0 := hR.he.trans (fit_E HF.out.1 HK.out.2.2.2)
    have HD1 := Lib.hid (hR.ok rfl)
    have HCP := Lib.hid (rdf_of_own2 hO)
    try have HCQ := Lib.hid (HCP.out.mono (fun b hb => (show b ≠ _ from Nat.ne_of_gt (Nat.lt_of_lt_of_le HBX.out.2.2 hb.1))))
    first | replace HBX := Lib.hid (And.intro (kept_row HBX.out.1 hg (by simp)) (And.intro HBX.out.2.1 (Nat.lt_of_lt_of_le HBX.out.2.2 hg.size))) | replace HBX := Lib.hid (And.intro (kept_row HBX.out.1 (undrewN hg) (by simp)) (And.intro HBX.out.2.1 (Nat.lt_of_lt_of_le HBX.out.2.2 hg.size))) | skip
    have HN := Lib.hid (grown_trans hHeld.out hg)
    clear hg hR hO
    simp only
    refine hK.out _ _ (HN) (fun hH2 => ?_)
    clear hK Kz hHeld
    have hHeld := hH2
    clear hH2
    try simp only [Act.put, zA, zB, zC]
    refine zT (i := 8) (v := ?_) rfl ?_ hHeld ?_
    rotate_left 1
    ·intro u hSu
     have KU := K1.out.keep (grown_trans G.out hSu.out)
     obtain ⟨a0u, a1u, a2u, a3u, a4u, a5u, a6u, a7u, a8u, a9u⟩ := p_facts KU.qb
     obtain ⟨d0u, d1u, d2u, d3u⟩ := row4T KU.bb
     have l0u := HC.out u (grown_trans G.out hSu.out)
     go_simp
     first | done | with_reducible rfl
    try simp only [Act.put, zA, zB, zC]
    refine zT (i := 9) (v := ?_) rfl ?_ hHeld ?_
    rotate_left 1
    ·intro u hSu
     have KU := K1.out.keep (grown_trans G.out hSu.out)
     obtain ⟨a0u, a1u, a2u, a3u, a4u, a5u, a6u, a7u, a8u, a9u⟩ := p_facts KU.qb
     obtain ⟨d0u, d1u, d2u, d3u⟩ := row4T KU.bb
     have l0u := HC.out u (grown_trans G.out hSu.out)
     go_simp
     first | done | with_reducible rfl
    try simp only [Act.put, zA, zB, zC]
    refine zT (i := 10) (v := ?_) rfl ?_ hHeld ?_
    rotate_left 1
    ·intro u hSu
     have KU := K1.out.keep (grown_trans G.out hSu.out)
     obtain ⟨a0u, a1u, a2u, a3u, a4u, a5u, a6u, a7u, a8u, a9u⟩ := p_facts KU.qb
     obtain ⟨d0u, d1u, d2u, d3u⟩ := row4T KU.bb
     have l0u := HC.out u (grown_trans G.out hSu.out)
     go_simp
     first | done | with_reducible rfl
    try simp only [Act.put, zA, zB, zC]
    refine wpAnyH_ready (rs := [12]) (by kernel_rfl) (by simp) ?_
    refine AllReadyH.cons (o := ⟨_, _, _, _, _, _⟩) rfl (fun Kz hK => ?_) AllReadyH.nil
    obtain ⟨⟨o0x, o1x, o2x⟩, f0x, f1x, f2x⟩ := row3f HBX.out.1
    have HX8 := Lib.hid (ob_put (.int .u64 (loc1 : Int)) (.int .u64 (lost1 : Int)) (.slice pc1 cs1.length cc1) HBX.out.1)
    have jx := ob_grownI HBX.out.1 (.int .u64 (loc1 : Int)) (.int .u64 (lost1 : Int)) (.slice pc1 cs1.length cc1)
    have HCS := Lib.hid (RdF.grown HCQ.out jx (fun b hb e => hb (Option.some.inj e)))
    go_simp
    refine hK.out _ _ (Lib.hid (grown_any hHeld.out jx (fun b hb e => by have := Option.some.inj e; have := HBX.out.2.1; omega))) (fun hH2 => ?_)
    clear hK Kz hHeld
    have hHeld := hH2
    clear hH2
    try simp only [Act.put, zA, zB, zC]
    refine zT (i := 13) (v := ?_) rfl ?_ hHeld ?_
    rotate_left 1
    ·intro u hSu
     have KU := K1.out.keep (grown_trans G.out hSu.out)
     obtain ⟨a0u, a1u, a2u, a3u, a4u, a5u, a6u, a7u, a8u, a9u⟩ := p_facts KU.qb
     obtain ⟨d0u, d1u, d2u, d3u⟩ := row4T KU.bb
     have l0u := HC.out u (grown_trans G.out hSu.out)
     go_simp
     first | done | with_reducible rfl
    try simp only [Act.put, zA, zB, zC]
    refine wpAnyH_done (by kernel_rfl) ?_ _
    have G9 := Lib.hid (grown_trans G.out hHeld.out)
    go_wp2_with fail
    go_meet
    exact ⟨loc1, lost1, cs1, pc1, cc1, _, rfl, rfl, Lib.hid ⟨HD1.out, HX8.out, HCS.out.mono (fun _ _ => trivial), G9.out⟩⟩
  ·go_simp
   generalize hwB : World.alloc _ _ = wB
   obtain ⟨hb1, hb2⟩ := alloc_eqF hwB
   have hlz := hHeld.out.size
   try change w8.heap.size ≤ w8.heap.size at hlz
   have HBX := Lib.hid (And.intro hb1 (And.intro hlz (Array.getElem?_eq_some_iff.1 hb1).1))
   try have HCQ := Lib.hid (RdF.grown (HCP.out.mono (fun b hb => (show b ≠ _ from Nat.ne_of_lt hb.2))) hb2 (fun _ _ => by simp))
   clear hwB hb1 hlz
   refine hK.out _ _ (Lib.hid (by first | exact grown_trans hHeld.out hb2 | exact grown_drew hb2)) (fun hH2 => ?_)
   clear hK Kz hHeld
   have hHeld := hH2
   clear hH2
   try simp only [Act.put, zA, zB, zC]
   refine wpAnyH_ready (rs := [6]) (by kernel_rfl) (by simp) ?_
   refine AllReadyH.cons (o := ⟨_, _, _, _, _, _⟩) rfl (fun Kz hK => ?_) AllReadyH.nil
   go_simp
   go_at_call 14
   refine (only_agrS Q HQ.out k { Q with bits := b2 k } HK.out.2.2.1 _).mono ?_
   rintro e' wo ⟨rfl, hg⟩
   first | replace HBX := Lib.hid (And.intro (kept_row HBX.out.1 hg (by simp)) (And.intro HBX.out.2.1 (Nat.lt_of_lt_of_le HBX.out.2.2 hg.size))) | replace HBX := Lib.hid (And.intro (kept_row HBX.out.1 (undrewN hg) (by simp)) (And.intro HBX.out.2.1 (Nat.lt_of_lt_of_le HBX.out.2.2 hg.size))) | skip
   have HN := Lib.hid (grown_trans hHeld.out hg)
   clear hg
   simp only
   refine hK.out _ _ (HN) (fun hH2 => ?_)
   clear hK Kz hHeld
   have hHeld := hH2
   clear hH2
   try simp only [Act.put, zA, zB, zC]
   refine wpAnyH_ready (rs := [7]) (by kernel_rfl) (by simp) ?_
   refine AllReadyH.cons (o := ⟨_, _, _, _, _, _⟩) rfl (fun Kz hK => ?_) AllReadyH.nil
   go_simp
   go_at_call 8
   refine (fwpk_any r s n p c L { Q with bits := b2 k } HK.out.2.2.2.wf _ (K1.out.keep (grown_trans G.out hHeld.out)).rd (by omega) (K1.out.keep (grown_trans G.out hHeld.out)).tb).mono ?_
   rintro e' wp ⟨x, loc1, lost1, cs1, pc1, cc1, rfl, hR, hO, hg⟩
   obtain rfl : x = 0 := hR.he.trans (fit_E HF.out.1 HK.out.2.2.2)
   have HD1 := Lib.hid (hR.ok rfl)
   have HCP := Lib.hid (rdf_of_own2 hO)
   try have HCQ := Lib.hid (HCP.out.mono (fun b hb => (show b ≠ _ from Nat.ne_of_gt (Nat.lt_of_lt_of_le HBX.out.2.2 hb.1))))
   first | replace HBX := Lib.hid (And.intro (kept_row HBX.out.1 hg (by simp)) (And.intro HBX.out.2.1 (Nat.lt_of_lt_of_le HBX.out.2.2 hg.size))) | replace HBX := Lib.hid (And.intro (kept_row HBX.out.1 (undrewN hg) (by simp)) (And.intro HBX.out.2.1 (Nat.lt_of_lt_of_le HBX.out.2.2 hg.size))) | skip
   have HN := Lib.hid (grown_trans hHeld.out hg)
   clear hg hR hO
   simp only
   refine hK.out _ _ (HN) (fun hH2 => ?_)
   clear hK Kz hHeld
   have hHeld := hH2
   clear hH2
   try simp only [Act.put, zA, zB, zC]
   refine zT (i := 8) (v := ?_) rfl ?_ hHeld ?_
   rotate_left 1
   ·intro u hSu
    have KU := K1.out.keep (grown_trans G.out hSu.out)
    obtain ⟨a0u, a1u, a2u, a3u, a4u, a5u, a6u, a7u, a8u, a9u⟩ := p_facts KU.qb
    obtain ⟨d0u, d1u, d2u, d3u⟩ := row4T KU.bb
    have l0u := HC.out u (grown_trans G.out hSu.out)
    go_simp
    first | done | with_reducible rfl
   try simp only [Act.put, zA, zB, zC]
   refine zT (i := 9) (v := ?_) rfl ?_ hHeld ?_
   rotate_left 1
   ·intro u hSu
    have KU := K1.out.keep (grown_trans G.out hSu.out)
    obtain ⟨a0u, a1u, a2u, a3u, a4u, a5u, a6u, a7u, a8u, a9u⟩ := p_facts KU.qb
    obtain ⟨d0u, d1u, d2u, d3u⟩ := row4T KU.bb
    have l0u := HC.out u (grown_trans G.out hSu.out)
    go_simp
    first | done | with_reducible rfl
   try simp only [Act.put, zA, zB, zC]
   refine zT (i := 10) (v := ?_) rfl ?_ hHeld ?_
   rotate_left 1
   ·intro u hSu
    have KU := K1.out.keep (grown_trans G.out hSu.out)
    obtain ⟨a0u, a1u, a2u, a3u, a4u, a5u, a6u, a7u, a8u, a9u⟩ := p_facts KU.qb
    obtain ⟨d0u, d1u, d2u, d3u⟩ := row4T KU.bb
    have l0u := HC.out u (grown_trans G.out hSu.out)
    go_simp
    first | done | with_reducible rfl
   try simp only [Act.put, zA, zB, zC]
   refine wpAnyH_ready (rs := [12]) (by kernel_rfl) (by simp) ?_
   refine AllReadyH.cons (o := ⟨_, _, _, _, _, _⟩) rfl (fun Kz hK => ?_) AllReadyH.nil
   obtain ⟨⟨o0x, o1x, o2x⟩, f0x, f1x, f2x⟩ := row3f HBX.out.1
   have HX8 := Lib.hid (ob_put (.int .u64 (loc1 : Int)) (.int .u64 (lost1 : Int)) (.slice pc1 cs1.length cc1) HBX.out.1)
   have jx := ob_grownI HBX.out.1 (.int .u64 (loc1 : Int)) (.int .u64 (lost1 : Int)) (.slice pc1 cs1.length cc1)
   have HCS := Lib.hid (RdF.grown HCQ.out jx (fun b hb e => hb (Option.some.inj e)))
   go_simp
   refine hK.out _ _ (Lib.hid (grown_any hHeld.out jx (fun b hb e => by have := Option.some.inj e; have := HBX.out.2.1; omega))) (fun hH2 => ?_)
   clear hK Kz hHeld
   have hHeld := hH2
   clear hH2
   try simp only [Act.put, zA, zB, zC]
   refine zT (i := 13) (v := ?_) rfl ?_ hHeld ?_
   rotate_left 1
   ·intro u hSu
    have KU := K1.out.keep (grown_trans G.out hSu.out)
    obtain ⟨a0u, a1u, a2u, a3u, a4u, a5u, a6u, a7u, a8u, a9u⟩ := p_facts KU.qb
    obtain ⟨d0u, d1u, d2u, d3u⟩ := row4T KU.bb
    have l0u := HC.out u (grown_trans G.out hSu.out)
    go_simp
    first | done | with_reducible rfl
   try simp only [Act.put, zA, zB, zC]
   refine wpAnyH_done (by kernel_rfl) ?_ _
   have G9 := Lib.hid (grown_trans G.out hHeld.out)
   go_wp2_with fail
   go_meet
   exact ⟨loc1, lost1, cs1, pc1, cc1, _, rfl, rfl, Lib.hid ⟨HD1.out, HX8.out, HCS.out.mono (fun _ _ => trivial), G9.out⟩⟩
 case rest =>
 obtain ⟨loc1, lost1, cs1, pc1, cc1, Bx, rfl, rfl, X⟩ := hcut
 clear G
 obtain ⟨w9, hw9⟩ : ∃ w9, w9 = wc := ⟨_, rfl⟩
 rw [← hw9] at X ⊢
 clear hw9
 have hD1 := X.out.1
 rw [(one_plane HF.out.2.1 HK.out.2.2.2 L).1, (one_plane HF.out.2.1 HK.out.2.2.2 L).2] at hD1
 obtain ⟨hl1, hl2⟩ := HD.out.oneLoc HK.out.2.1 hD1
 have hcs1 := FwD.oneCs (fw_ms HE.out) HK.out.1 hD1
 have hany := anyB_cz HD.out (fw_ms HE.out) HQ.out.bits HK.out.2.1
 have hhas : ∀ y ∈ cs, y.2.testBit k = true → y.1 = fwH n L Q k := fun y hy => (HD.out.has (fw_ms HE.out) HQ.out.bits HK.out.2.1 hy).1
 have hcz : czB (fwH n L Q) r (decide (Q.ttl = 0)) k = true → fwH n L Q k ≠ 0 := fun e => (cz_ne e).2.1
 have hcu : ∀ y ∈ cs, U64 y.2 := fun y hy => (HD.out.mem (fw_ms HE.out) HQ.out.bits hy).2.2.2.2.2.1
 obtain ⟨hk', hhk⟩ : ∃ hk' : Int, fwH n L Q k = hk' := ⟨_, rfl⟩
 obtain ⟨cz, hczz⟩ : ∃ cz : Bool, czB (fwH n L Q) r (decide (Q.ttl = 0)) k = cz := ⟨_, rfl⟩
 rw [hhk, hczz] at hcs1
 rw [hczz] at hany hcz
 rw [hhk] at hhas hcz
 have HP := Lib.hid (And.intro hcs1 (And.intro hany (And.intro hhas (And.intro hcz hcu))))
 have hand1 := andU loc (b2 k) HU.out.1 (b2_u64 HK.out.1)
 have hand2 := andU lost (b2 k) HU.out.2 (b2_u64 HK.out.1)
 rw [show loc &&& b2 k = loc1 from hl1.symm] at hand1
 rw [show lost &&& b2 k = lost1 from hl2.symm] at hand2
 have K9 := Lib.hid (K1.out.keep X.out.2.2.2)
 clear hD1 hl1 hl2 hcs1 hany hhas hcz hcu hhk hczz
 obtain ⟨o0, o1, o2⟩ := (row3f K9.out.ob).1
 obtain ⟨x0, x1, x2⟩ := (row3f X.out.2.1).1
 have HZ0 : Hid (toB (anyB (cs.take 0) k) hk' = 0) := Lib.hid (by rw [List.take_zero]; rfl)
 go_upto_region 14 with fail
 clear o0 o1 o2 x0 x1 x2 hand1 hand2
 go_wp2_with fail
 go_loopw [13, 14] (fun v u wr => ∃ j : Nat, j ≤ cs.length ∧ v = .int .i64 (toB (anyB (cs.take j) k) hk') ∧ u = .int .i64 (j : Int) ∧ Hid (w9.grownBy wr none)) (fun _ u _ => cs.length - (RowKit.intOf u).toNat)
 case atStart => exact ⟨0, Nat.zero_le _, by rw [HZ0.out], rfl, Lib.hid (grown_refl _ _)⟩
 case round =>
 clear HZ0
 obtain ⟨j, hj, rfl, rfl, G⟩ := hrel
 obtain ⟨w10, hw10⟩ : ∃ w10, w10 = wr := ⟨_, rfl⟩
 rw [← hw10] at G ⊢
 clear hw10
 have KA := Lib.hid (K9.out.keep G.out)
 obtain ⟨o0, o1, o2⟩ := (row3f KA.out.ob).1
 by_cases hltj : j < cs.length
 case neg =>
  obtain rfl : j = cs.length := by omega
  have hnl : ¬ (cs.length : Int) < (cs.length : Int) := by omega
  have GE := Lib.hid (grown_trans X.out.2.2.2 G.out)
  obtain ⟨x0, x1, x2⟩ := (row3f (kept_row X.out.2.1 G.out (by simp))).1
  rw [List.take_length, HP.out.2.1]
  cases hczz : cz with
  | false =>
   have h1 := HP.out.1
   rw [hczz, if_neg (by decide)] at h1
   have hl1 : cs1.length = 0 := by rw [h1]; rfl
   rw [hl1] at x2
   have e0 : toB false hk' = 0 := rfl
   rw [e0]
   clear h1 hl1 hczz e0
   go_wp2_with fail
   exact ⟨⟨i + 1, by omega, congrArg _ (by omega), GE⟩, by simp only [RowKit.intOf]; omega⟩
  | true =>
   have h1 := HP.out.1
   rw [hczz, if_pos rfl] at h1
   have hne := HP.out.2.2.2.1 hczz
   have hl1 : cs1.length = 1 := by rw [h1]; rfl
   obtain ⟨-, g1, f1, hp1, -, hc1⟩ := RdF.cells (f := cyC { Q with bits := b2 k }) (k := 12) (fun _ => rfl) (by decide) X.out.2.2.1 (by omega)
   have hy1 : cs1[0]? = some (hk', b2 k) := by rw [h1]; rfl
   have m0 : w10.cell? ⟨g1, f1, none⟩ = some (.int .i64 hk') := G.out.cell (by have := hc1 0 _ hy1 0 _ rfl; simpa using this) (by simp)
   have m10 : w10.cell? ⟨g1, f1 + 10, none⟩ = some (.int .u64 ((b2 k : Nat) : Int)) := G.out.cell (by have := hc1 0 _ hy1 10 _ rfl; simpa using this) (by simp)
   rw [hl1, hp1] at x2
   have e0 : toB true hk' = hk' := rfl
   rw [e0]
   have hne' : (hk' == 0) = false := by simpa using hne
   have hne2 : (hk' != 0) = true := by simpa using hne
   clear h1 hl1 hczz e0 hc1 hy1 hp1 hne
   go_wp2_with fail
   exact ⟨⟨i + 1, by omega, congrArg _ (by omega), GE⟩, by simp only [RowKit.intOf]; omega⟩
 have hltj' : (j : Int) < (cs.length : Int) := by omega
 have hj0 : (0 : Int) ≤ (j : Int) := by omega
 obtain ⟨y, hy⟩ : ∃ y, cs[j]? = some y := ⟨_, List.getElem?_eq_getElem hltj⟩
 obtain ⟨g, off, rfl, hc⟩ := KA.out.at_ hy
 obtain ⟨c0, -, -, -, -, -, -, -, -, -, c10, -⟩ := hc w10 (grown_refl _ _)
 have hyu := HP.out.2.2.2.2 y (List.mem_of_getElem? hy)
 have hand := andU y.2 (b2 k) hyu (b2_u64 HK.out.1)
 have hnx := anyB_next hy k
 have hyh := HP.out.2.2.1 y (List.mem_of_getElem? hy)
 clear hc hy
 cases hb : y.2.testBit k with
 | false =>
  rw [hb, Bool.or_false] at hnx
  rw [show y.2 &&& b2 k = 0 from (and_two (a := y.2) (j := k)).2 hb] at hand
  rw [← hnx]
  have HNX := Lib.hid hnx
  clear hb hyh hyu hnx
  go_wp2_with fail
  exact ⟨⟨j + 1, by omega, rfl, congrArg _ (by omega), G⟩, by simp only [RowKit.intOf]; omega⟩
 | true =>
  rw [hb, Bool.or_true] at hnx
  have hne : ((y.2 &&& b2 k : Nat) : Int) ≠ 0 := fun e => by
   have h1 : y.2 &&& b2 k = 0 := by omega
   rw [(and_two (a := y.2) (j := k)).1 h1] at hb
   cases hb
  have hne' : (((y.2 &&& b2 k : Nat) : Int) != 0) = true := by simpa using hne
  have hy1 := hyh hb
  have HNX : Hid (toB (anyB (cs.take (j + 1)) k) hk' = hk') := Lib.hid (by rw [hnx]; rfl)
  rw [hy1] at c0
  clear hb hyh hyu hnx hne hy1
  go_wp2_with fail
  exact ⟨⟨j + 1, by omega, by rw [HNX.out], congrArg _ (by omega), G⟩, by simp only [RowKit.intOf]; omega⟩
end Go.Proofs.YtpogblengagpaaaDoor

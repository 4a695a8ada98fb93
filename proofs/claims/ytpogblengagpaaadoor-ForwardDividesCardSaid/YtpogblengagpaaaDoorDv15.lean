/- Parts of the proof, packed: FwDvLaw. -/
import Derived.Test.YtpogblengagpaaaDoorDv14
import Derived.Test.YtpogblengagpaaaDoorDv2
/- ForwardDivides: the law. -/
namespace Go.Proofs.YtpogblengagpaaaDoor
set_option maxRecDepth 100000
open Go.RowKit Go.Maps Bs
theorem fr_cells {w : World} {b : Nat} {v0 v1 v2 v3 v4 v5 v6 v7 v8 v9 v10 : Value} {t : TypeId} (h : w.heap[b]? = some (.cells #[v0, v1, v2, v3, v4, v5, v6, v7, v8, v9, v10] t (0, 0))) : w.cell? ⟨b, 0, none⟩ = some v0 ∧ w.cell? ⟨b, 1, none⟩ = some v1 ∧ w.cell? ⟨b, 2, none⟩ = some v2 ∧ w.cell? ⟨b, 3, none⟩ = some v3 ∧ w.cell? ⟨b, 4, none⟩ = some v4 ∧ w.cell? ⟨b, 5, none⟩ = some v5 ∧ w.cell? ⟨b, 6, none⟩ = some v6 ∧ w.cell? ⟨b, 7, none⟩ = some v7 ∧ w.cell? ⟨b, 8, none⟩ = some v8 ∧ w.cell? ⟨b, 9, none⟩ = some v9 ∧ w.cell? ⟨b, 10, none⟩ = some v10 :=
 ⟨cell_of_row _ _ _ _ _ _ h, cell_of_row _ _ _ _ _ _ h, cell_of_row _ _ _ _ _ _ h, cell_of_row _ _ _ _ _ _ h, cell_of_row _ _ _ _ _ _ h, cell_of_row _ _ _ _ _ _ h, cell_of_row _ _ _ _ _ _ h, cell_of_row _ _ _ _ _ _ h, cell_of_row _ _ _ _ _ _ h, cell_of_row _ _ _ _ _ _ h, cell_of_row _ _ _ _ _ _ h⟩
theorem toI_next {cs : List (Int × Nat)} {i : Nat} {y : Int × Nat} (h : cs[i]? = some y) : (cs.take (i + 1)).map (fun z => z.1) = (cs.take i).map (fun z => z.1) ++ [y.1] := by
 rw [List.take_add_one, h, List.map_append]
 rfl
set_option maxHeartbeats 12800000 in
theorem divides_walkF (v0 : Value) (w : World) (hv : IntsIn w v0) (hT : Tb w) :
  Calls Tryd.prog 3 #[v0] w fun e w' => e = .returned (.bool true) ∧ w.grownBy w' none := by
 have HT := Lib.hid hT
 have HV0 := Lib.hid hv
 clear hT hv
 go_enter Tryd.func3, Tryd.ntmps3
 go_wp2_with fail
 refine (new_any v0 w HV0.out).mono ?_
 rintro e w2 ⟨rfl, hg1, hT1⟩
 have H2 := Lib.hid (And.intro hg1 hT1)
 clear hg1 hT1
 go_wp2_with fail
 refine (fit_any w.heap.size w2 H2.out.2).mono ?_
 rintro e w3 ⟨r, s, n, L, p, c, Q, rfl, hO, hck, hF, hl, hs⟩
 have hk3 : w.grownBy w3 none := grown_any H2.out.1 hs.gr (fun b hb e => by have := Option.some.inj e; omega)
 have HF := Lib.hid (And.intro hck (And.intro hF (And.intro hs.tp (show RdW w3 (fun b => b ≠ w.heap.size ∧ b < w3.heap.size) p c L from (own_rdw2 hO).mono (fun b hb => ⟨by have := H2.out.2.lt; have := hb.1; omega, hb.2⟩)))))
 have HE := Lib.hid (fit_E hck hF)
 have hL24 := hl
 obtain ⟨k1, k2, k3⟩ := two_newF w3 (.cells #[.int .i64 r, .int .i64 s, .int .i64 n, .slice p L.length c] 27) (.cells (pcells Q) 30)
 have HB := Lib.hid (And.intro k1 (And.intro k2 (And.intro k3 (And.intro (((own_rdw hO).1.keep k3).mono (q' := (· < ((w3.alloc (.cells #[.int .i64 r, .int .i64 s, .int .i64 n, .slice p L.length c] 27)).alloc (.cells (pcells Q) 30)).heap.size)) (fun b (hb : b < w3.heap.size) => by show b < _; simp; omega)) (HT.out.keep (grown_trans hk3 k3))))))
 have HG3 := Lib.hid hk3
 unfold pcells at HB
 clear k1 k2 k3 hO hck hF hs hk3 hl H2
 go_upto_region 3 with fail
 generalize (w3.alloc _).alloc _ = w4 at *
 have HQB : Hid (w4.heap[w3.heap.size + 1]? = some (.cells (pcells Q) 30 (0, 0))) := Lib.hid HB.out.2.1
 obtain ⟨d0, d1, d2, d3⟩ := row4T HB.out.1
 obtain ⟨a0, a1, a2, a3, a4, a5, a6, a7, a8, a9⟩ := p_facts HQB.out
 go_wp2_with fail
 refine (fwpk_any r s n p c L Q HF.out.2.1.wf w4 HB.out.2.2.2.1 (by omega) HB.out.2.2.2.2).mono ?_
 rintro e w5 ⟨x, loc, lost, cs, pc, cc, rfl, hR, hO, hg⟩
 obtain rfl : x = 0 := hR.he.trans HE.out
 have HD := Lib.hid (hR.ok rfl)
 have HU := Lib.hid hR.hu
 have hcl := (hR.ok rfl).len (fw_ms HE.out) HF.out.2.1.wf.bits
 obtain ⟨k1, k2⟩ := tone_box w5 #[.int .u64 (loc : Int), .int .u64 (lost : Int), .slice pc cs.length cc] 35
 have K0 : Hid (LW w w3.heap.size w5.heap.size r s n p c L Q loc lost pc cc cs (w5.alloc (.cells #[.int .u64 (loc : Int), .int .u64 (lost : Int), .slice pc cs.length cc] 35))) := Lib.hid (by
  have hg6 := grown_trans hg k2
  have h := HB.out
  exact ⟨kept_row h.1 hg6 (by simp), kept_row HQB.out hg6 (by simp), k1, (h.2.2.2.1.keep hg6).mono (fun b (hb : b < w4.heap.size) => Nat.lt_of_lt_of_le hb hg6.size), (((rdf_of_own hO).mono (fun b hb => (show w3.heap.size ≤ b from Nat.le_trans h.2.2.1.size hb))).grown k2 (fun _ _ => by simp)), h.2.2.2.2.keep hg6, grown_trans HG3.out (grown_trans h.2.2.1 hg6)⟩)
 clear k1 k2 hR hO hg HB HQB d0 d1 d2 d3 a0 a1 a2 a3 a4 a5 a6 a7 a8 a9 HG3
 go_upto_region 4 with fail
 generalize w5.alloc _ = w6 at *
 generalize w5.heap.size = Bo at *
 generalize w3.heap.size = Bb at *
 obtain ⟨ie, hie, he0, he1, he2⟩ := info_parts info_int
 have HQ := Lib.hid HF.out.2.1.wf
 have HQV := Lib.hid HF.out.2.1.v
 have HR0 : Hid (r ≠ 0) := Lib.hid (by have := ck_rtF HF.out.1; omega)
 have hand := andU loc lost HU.out.1 HU.out.2
 rw [HD.out.apart HR0.out] at hand
 have hor := orU loc lost HU.out.1 HU.out.2
 have HUL := Lib.hid (u64_orl loc lost HU.out.1 HU.out.2)
 obtain ⟨o0, o1, o2⟩ := (row3f K0.out.ob).1
 go_upto_region 11 with fail
 clear o0 o1 o2 hand hor
 trace_state
 go_loopw [8, 9, 10] (fun v u z wr => ∃ (i : Nat) (po : Option Addr) (co : Nat), i ≤ cs.length ∧ v = .int .u64 ((orC (cs.take i) (loc ||| lost) : Nat) : Int) ∧ u = .slice po i co ∧ z = .int .i64 (i : Int) ∧ Hid (w6.grownBy wr none ∧ wr.ownsRow w6.heap.size 3 1 (.slice po i co) i (((cs.take i).map (fun z => z.1)).map tv))) (fun _ _ z _ => cs.length - (RowKit.intOf z).toNat)
 case atStart => exact ⟨0, none, 0, Nat.zero_le _, rfl, rfl, rfl, Lib.hid ⟨grown_refl _ _, World.ownsRow_nil _ _ _ _⟩⟩
 case round =>
 obtain ⟨i, po, co, hi, rfl, rfl, rfl, G⟩ := hrel
 obtain ⟨w7, hw7⟩ : ∃ w7, w7 = wr := ⟨_, rfl⟩
 rw [← hw7] at G ⊢
 clear hw7
 have K7 := Lib.hid (K0.out.keep G.out.1)
 obtain ⟨o0, o1, o2⟩ := (row3f K7.out.ob).1
 have htu := orC_u (cs.take i) (loc ||| lost) HUL.out (fun z hz => (HD.out.mem (fw_ms HE.out) HQ.out.bits (List.mem_of_mem_take hz)).2.2.2.2.2.1)
 by_cases hlt : i < cs.length
 case neg =>
  obtain rfl : i = cs.length := by omega
  have hnl : ¬ (cs.length : Int) < (cs.length : Int) := by omega
  have hfull := HD.out.full (fw_ms HE.out) HQ.out.bits
  have HFB := Lib.hid (show ∀ wx : World, w7.grownBy wx none → Calls Tryd.prog 11 #[.agg #[.int .u64 (loc : Int), .int .u64 (lost : Int), .slice pc cs.length cc]] wx fun e w' => e = .returned (.int .u64 (Q.bits : Int)) ∧ wx.grownBy w' none from fun wx gx => by
   have := fwbits_any loc lost HU.out.1 HU.out.2 pc cc cs (fun z hz => (HD.out.mem (fw_ms HE.out) HQ.out.bits hz).2.2.2.2.2.1) hcl Q _ wx (K7.out.keep gx).cp
   rwa [hfull] at this)
  rw [List.take_length, hfull]
  clear hfull htu
  obtain ⟨a0, a1, a2, a3, a4, a5, a6, a7, a8, a9⟩ := p_facts K7.out.qb
  go_upto_region 20 with fail
  refine wp_region_held_drew (S := fun w' => Hid (w7.grownBy w' none)) (by kernel_rfl) (Lib.hid (grown_drew (grown_refl _ none))) (fun hHeld => ?_)
  refine zT (i := 0) (v := ?_) rfl ?_ hHeld ?_
  rotate_left 1
  ·intro u hSu
   have KU := K7.out.keep hSu.out
   obtain ⟨o0u, o1u, o2u⟩ := (row3f KU.ob).1
   obtain ⟨a0u, a1u, a2u, a3u, a4u, a5u, a6u, a7u, a8u, a9u⟩ := p_facts KU.qb
   go_simp
   first | done | with_reducible rfl
  try simp only [Act.put, zA, zB, zC]
  refine zT (i := 1) (v := ?_) rfl ?_ hHeld ?_
  rotate_left 1
  ·intro u hSu
   have KU := K7.out.keep hSu.out
   obtain ⟨o0u, o1u, o2u⟩ := (row3f KU.ob).1
   obtain ⟨a0u, a1u, a2u, a3u, a4u, a5u, a6u, a7u, a8u, a9u⟩ := p_facts KU.qb
   go_simp
   first | done | with_reducible rfl
  try simp only [Act.put, zA, zB, zC]
  refine zT (i := 2) (v := ?_) rfl ?_ hHeld ?_
  rotate_left 1
  ·intro u hSu
   have KU := K7.out.keep hSu.out
   obtain ⟨o0u, o1u, o2u⟩ := (row3f KU.ob).1
   obtain ⟨a0u, a1u, a2u, a3u, a4u, a5u, a6u, a7u, a8u, a9u⟩ := p_facts KU.qb
   go_simp
   first | done | with_reducible rfl
  try simp only [Act.put, zA, zB, zC]
  refine zT (i := 3) (v := .bool true) rfl ?_ hHeld ?_
  ·intro u hSu
   have KU := K7.out.keep hSu.out
   obtain ⟨o0u, o1u, o2u⟩ := (row3f KU.ob).1
   obtain ⟨a0u, a1u, a2u, a3u, a4u, a5u, a6u, a7u, a8u, a9u⟩ := p_facts KU.qb
   go_simp
   first | done | rfl | simp
  try simp only [Act.put, zA, zB, zC]
  refine zT (i := 4) (v := ?_) rfl ?_ hHeld ?_
  rotate_left 1
  ·intro u hSu
   have KU := K7.out.keep hSu.out
   obtain ⟨o0u, o1u, o2u⟩ := (row3f KU.ob).1
   obtain ⟨a0u, a1u, a2u, a3u, a4u, a5u, a6u, a7u, a8u, a9u⟩ := p_facts KU.qb
   go_simp
   first | done | with_reducible rfl
  try simp only [Act.put, zA, zB, zC]
  refine zT (i := 5) (v := ?_) rfl ?_ hHeld ?_
  rotate_left 1
  ·intro u hSu
   have KU := K7.out.keep hSu.out
   obtain ⟨o0u, o1u, o2u⟩ := (row3f KU.ob).1
   obtain ⟨a0u, a1u, a2u, a3u, a4u, a5u, a6u, a7u, a8u, a9u⟩ := p_facts KU.qb
   go_simp
   first | done | with_reducible rfl
  try simp only [Act.put, zA, zB, zC]
  refine zT (i := 7) (v := ?_) rfl ?_ hHeld ?_
  rotate_left 1
  ·intro u hSu
   have KU := K7.out.keep hSu.out
   obtain ⟨o0u, o1u, o2u⟩ := (row3f KU.ob).1
   obtain ⟨a0u, a1u, a2u, a3u, a4u, a5u, a6u, a7u, a8u, a9u⟩ := p_facts KU.qb
   go_simp
   first | done | with_reducible rfl
  try simp only [Act.put, zA, zB, zC]
  refine zT (i := 8) (v := ?_) rfl ?_ hHeld ?_
  rotate_left 1
  ·intro u hSu
   have KU := K7.out.keep hSu.out
   obtain ⟨o0u, o1u, o2u⟩ := (row3f KU.ob).1
   obtain ⟨a0u, a1u, a2u, a3u, a4u, a5u, a6u, a7u, a8u, a9u⟩ := p_facts KU.qb
   go_simp
   first | done | with_reducible rfl
  try simp only [Act.put, zA, zB, zC]
  refine wpAnyH_ready (rs := [6]) (by kernel_rfl) (by simp) ?_
  refine AllReadyH.cons (o := ⟨_, _, _, _, _, _⟩) rfl (fun Kz hK => ?_) AllReadyH.nil
  go_simp
  go_at_call 11
  refine (HFB.out _ hHeld.out).mono ?_
  rintro e' w8 ⟨rfl, hg⟩
  have HN := Lib.hid (grown_trans hHeld.out hg)
  clear hg
  simp only
  refine hK.out _ _ (HN) (fun hH2 => ?_)
  clear hK Kz hHeld
  have hHeld := hH2
  clear hH2
  try simp only [Act.put, zA, zB, zC]
  refine zT (i := 9) (v := .bool true) rfl ?_ hHeld ?_
  ·intro u hSu
   have KU := K7.out.keep hSu.out
   obtain ⟨o0u, o1u, o2u⟩ := (row3f KU.ob).1
   obtain ⟨a0u, a1u, a2u, a3u, a4u, a5u, a6u, a7u, a8u, a9u⟩ := p_facts KU.qb
   go_simp
   first | done | rfl | simp
  try simp only [Act.put, zA, zB, zC]
  refine zT (i := 10) (v := .bool true) rfl ?_ hHeld ?_
  ·intro u hSu
   have KU := K7.out.keep hSu.out
   obtain ⟨o0u, o1u, o2u⟩ := (row3f KU.ob).1
   obtain ⟨a0u, a1u, a2u, a3u, a4u, a5u, a6u, a7u, a8u, a9u⟩ := p_facts KU.qb
   go_simp
   first | done | rfl | simp
  try simp only [Act.put, zA, zB, zC]
  refine zT (i := 11) (v := ?_) rfl ?_ hHeld ?_
  rotate_left 1
  ·intro u hSu
   have KU := K7.out.keep hSu.out
   obtain ⟨o0u, o1u, o2u⟩ := (row3f KU.ob).1
   obtain ⟨a0u, a1u, a2u, a3u, a4u, a5u, a6u, a7u, a8u, a9u⟩ := p_facts KU.qb
   go_simp
   first | done | with_reducible rfl
  try simp only [Act.put, zA, zB, zC]
  refine wpAnyH_ready (rs := [12]) (by kernel_rfl) (by simp) ?_
  refine AllReadyH.cons (o := ⟨_, _, _, _, _, _⟩) rfl (fun Kz hK => ?_) AllReadyH.nil
  go_simp
  go_at_call 9
  refine (awk13_any _ (K7.out.keep hHeld.out).tb).mono ?_
  rintro e' w9 ⟨rfl, hg⟩
  have HN := Lib.hid (grown_trans hHeld.out hg)
  clear hg
  simp only
  refine hK.out _ _ (HN) (fun hH2 => ?_)
  clear hK Kz hHeld
  have hHeld := hH2
  clear hH2
  try simp only [Act.put, zA, zB, zC]
  refine zT (i := 13) (v := .bool true) rfl ?_ hHeld ?_
  ·intro u hSu
   have KU := K7.out.keep hSu.out
   obtain ⟨o0u, o1u, o2u⟩ := (row3f KU.ob).1
   obtain ⟨a0u, a1u, a2u, a3u, a4u, a5u, a6u, a7u, a8u, a9u⟩ := p_facts KU.qb
   go_simp
   first | done | rfl | simp
  try simp only [Act.put, zA, zB, zC]
  refine zT (i := 14) (v := ?_) rfl ?_ hHeld ?_
  rotate_left 1
  ·intro u hSu
   have KU := K7.out.keep hSu.out
   obtain ⟨o0u, o1u, o2u⟩ := (row3f KU.ob).1
   obtain ⟨a0u, a1u, a2u, a3u, a4u, a5u, a6u, a7u, a8u, a9u⟩ := p_facts KU.qb
   go_simp
   first | done | with_reducible rfl
  try simp only [Act.put, zA, zB, zC]
  refine wpAnyH_done (by kernel_rfl) ?_ _
  have GF := Lib.hid (K7.out.keep hHeld.out).gr
  clear hHeld
  go_wp2_with fail
  go_ret
  exact ⟨rfl, GF.out⟩
 have hlt' : (i : Int) < (cs.length : Int) := by omega
 have hi0 : (0 : Int) ≤ (i : Int) := by omega
 obtain ⟨y, hy⟩ : ∃ y, cs[i]? = some y := ⟨_, List.getElem?_eq_getElem hlt⟩
 obtain ⟨g, off, rfl, hc⟩ := K7.out.at_ hy
 obtain ⟨ht, hy0, hyr, -, hb0, hbu, -, -⟩ := HD.out.mem (fw_ms HE.out) HQ.out.bits (List.mem_of_getElem? hy)
 have HNW := Lib.hid (HD.out.new (fw_ms HE.out) HQ.out.bits hy)
 have HON := Lib.hid (HD.out.once (fw_ms HE.out) HQ.out.bits hy)
 have HT := Lib.hid (orC_take (a := loc ||| lost) hy)
 have HTO := Lib.hid (toI_next hy)
 have hor := orU _ y.2 htu hbu
 have hand := andU _ y.2 htu hbu
 rw [← HT.out] at hor
 rw [HNW.out] at hand
 have HTB : Hid (U64 (orC (cs.take i) (loc ||| lost))) := Lib.hid htu
 obtain ⟨A, hA⟩ : ∃ A, orC (cs.take i) (loc ||| lost) = A := ⟨_, rfl⟩
 obtain ⟨B, hB⟩ : ∃ B, orC (cs.take (i + 1)) (loc ||| lost) = B := ⟨_, rfl⟩
 rw [hA, hB] at hor
 rw [hA] at hand ⊢
 have HB := Lib.hid hB
 have HOR := Lib.hid hor
 have HAND := Lib.hid hand
 have HYS := Lib.hid (And.intro (show Q.ttl ≠ 0 from of_decide_eq_false ht) (And.intro hyr (And.intro hb0 hbu)))
 have hwt : IntKind.i64.wrap (Q.ttl - 1) = Q.ttl - 1 := by
  have h := HQV.out
  unfold vpk at h
  simp only [decide_eq_true_eq] at h
  have := h.2.2.2.1
  rw [IntKind.wrap_i64]
  omega
 have HW := Lib.hid hwt
 have HC := Lib.hid hc
 obtain ⟨c0, c1, c2, c3, c4, c5, c6, c7, c8, c9, c10, c11⟩ := hc w7 (grown_refl _ _)
 clear hA hB hy htu ht hy0 hyr hb0 hbu hor hand hwt hc
 obtain ⟨k1, k2⟩ := tone_box w7 #[.slice none 0 0, .int .i64 Q.mode, .int .i64 Q.sub, .int .i64 Q.set, .int .i64 Q.len, .int .i64 (Q.ttl - 1), .int .i64 Q.ent, .int .i64 Q.ing, .int .i64 Q.pro, .int .u64 (y.2 : Int), .string Q.pay] 41
 have HFR := Lib.hid (And.intro k1 k2)
 clear k1 k2
 go_upto_region 14 with fail
 clear c0 c1 c2 c3 c4 c5 c6 c7 c8 c9 c10 c11 o0 o1 o2
 generalize w7.alloc _ = w8 at *
 have K8 := Lib.hid (K7.out.keep HFR.out.2)
 have G8 := Lib.hid (grown_trans G.out.1 HFR.out.2)
 have O8 := Lib.hid (own_keptN G.out.2 HFR.out.2)
 obtain ⟨a0, a1, a2, a3, a4, a5, a6, a7, a8, a9⟩ := p_facts K8.out.qb
 obtain ⟨k1, k2⟩ := one_box w8 (pcells Q) 30
 have HWT := Lib.hid (And.intro k1 k2)
 unfold pcells at HWT
 clear k1 k2
 go_upto_region 15 with fail
 clear a0 a1 a2 a3 a4 a5 a6 a7 a8 a9
 generalize w8.alloc _ = w9 at *
 have K9 := Lib.hid (K8.out.keep HWT.out.2)
 have G9 := Lib.hid (grown_trans G8.out HWT.out.2)
 have O9 := Lib.hid (own_keptN O8.out HWT.out.2)
 have F9 := Lib.hid (kept_row HFR.out.1 HWT.out.2 (by simp))
 have W9 : Hid (w9.heap[w8.heap.size]? = some (.cells (pcells Q) 30 (0, 0))) := Lib.hid HWT.out.1
 have HLT : Hid (w7.heap.size < w8.heap.size ∧ w6.heap.size ≤ w7.heap.size) := Lib.hid ⟨(Array.getElem?_eq_some_iff.1 HFR.out.1).1, G.out.1.size⟩
 have HOB : Hid (∀ b, (Value.slice po i co).ownBlock = some b → b < w8.heap.size) := Lib.hid (fun b e => (O8.out.lt b e).2)
 have G79 := Lib.hid (grown_trans HFR.out.2 HWT.out.2)
 clear HFR HWT K8 G8 O8 K7 G
 generalize hBf : w7.heap.size = Bf at *
 have HBF := Lib.hid hBf
 clear hBf
 generalize w8.heap.size = Bw at *
 refine wp_region_held_drew (S := fun w' => Hid (w'.heap[Bf]? = some (.cells #[.slice none 0 0, .int .i64 Q.mode, .int .i64 Q.sub, .int .i64 Q.set, .int .i64 Q.len, .int .i64 (Q.ttl - 1), .int .i64 Q.ent, .int .i64 Q.ing, .int .i64 Q.pro, .int .u64 (y.2 : Int), .string Q.pay] 41 (0, 0)) ∧ w'.heap[Bb + 1]? = some (.cells (pcells Q) 30 (0, 0)))) (by kernel_rfl) (Lib.hid ⟨F9.out, K9.out.qb⟩) (fun hHeld => ?_)
 obtain ⟨wd, hwd⟩ : ∃ wd, w9.drew = wd := ⟨_, rfl⟩
 have KD := Lib.hid (K9.out.keep (grown_drew (grown_refl _ none)))
 have GD := Lib.hid (grown_trans G9.out (grown_drew (grown_refl _ none)))
 have OD := Lib.hid (own_keptN O9.out (grown_drew (grown_refl _ none)))
 have FD := Lib.hid (kept_row F9.out (grown_drew (grown_refl _ none)) (by simp))
 have WD := Lib.hid (kept_row W9.out (grown_drew (grown_refl _ none)) (by simp))
 have HDR : Hid (w9.grownBy w9.drew none) := Lib.hid (grown_drew (grown_refl _ none))
 rw [hwd] at hHeld KD GD OD FD WD HDR ⊢
 clear hwd K9 G9 O9 F9 W9
 refine zT (i := 0) (v := ?_) rfl ?_ hHeld ?_
 rotate_left 1
 ·intro u hSu
  obtain ⟨a0u, a1u, a2u, a3u, a4u, a5u, a6u, a7u, a8u, a9u⟩ := p_facts hSu.out.2
  have b9u := cell_of_row _ _ 9 _ _ _ hSu.out.1
  simp at b9u
  go_simp
  first | done | with_reducible rfl
 try simp only [Act.put, zA, zB, zC]
 refine zT (i := 1) (v := ?_) rfl ?_ hHeld ?_
 rotate_left 1
 ·intro u hSu
  obtain ⟨a0u, a1u, a2u, a3u, a4u, a5u, a6u, a7u, a8u, a9u⟩ := p_facts hSu.out.2
  have b9u := cell_of_row _ _ 9 _ _ _ hSu.out.1
  simp at b9u
  go_simp
  first | done | with_reducible rfl
 try simp only [Act.put, zA, zB, zC]
 refine zT (i := 2) (v := ?_) rfl ?_ hHeld ?_
 rotate_left 1
 ·intro u hSu
  obtain ⟨a0u, a1u, a2u, a3u, a4u, a5u, a6u, a7u, a8u, a9u⟩ := p_facts hSu.out.2
  have b9u := cell_of_row _ _ 9 _ _ _ hSu.out.1
  simp at b9u
  go_simp
  first | done | with_reducible rfl
 try simp only [Act.put, zA, zB, zC]
 refine zT (i := 3) (v := ?_) rfl ?_ hHeld ?_
 rotate_left 1
 ·intro u hSu
  obtain ⟨a0u, a1u, a2u, a3u, a4u, a5u, a6u, a7u, a8u, a9u⟩ := p_facts hSu.out.2
  have b9u := cell_of_row _ _ 9 _ _ _ hSu.out.1
  simp at b9u
  go_simp
  first | done | with_reducible rfl
 try simp only [Act.put, zA, zB, zC]
 refine zT (i := 4) (v := ?_) rfl ?_ hHeld ?_
 rotate_left 1
 ·intro u hSu
  obtain ⟨a0u, a1u, a2u, a3u, a4u, a5u, a6u, a7u, a8u, a9u⟩ := p_facts hSu.out.2
  have b9u := cell_of_row _ _ 9 _ _ _ hSu.out.1
  simp at b9u
  go_simp
  first | done | with_reducible rfl
 try simp only [Act.put, zA, zB, zC]
 refine zT (i := 5) (v := .int .i64 (Q.ttl - 1)) rfl ?_ hHeld ?_
 ·intro u hSu
  obtain ⟨a0u, a1u, a2u, a3u, a4u, a5u, a6u, a7u, a8u, a9u⟩ := p_facts hSu.out.2
  have b9u := cell_of_row _ _ 9 _ _ _ hSu.out.1
  simp at b9u
  have hwt := HW.out
  go_simp
  first | done | exact hwt | simp_all
 try simp only [Act.put, zA, zB, zC]
 refine zT (i := 6) (v := ?_) rfl ?_ hHeld ?_
 rotate_left 1
 ·intro u hSu
  obtain ⟨a0u, a1u, a2u, a3u, a4u, a5u, a6u, a7u, a8u, a9u⟩ := p_facts hSu.out.2
  have b9u := cell_of_row _ _ 9 _ _ _ hSu.out.1
  simp at b9u
  go_simp
  first | done | with_reducible rfl
 try simp only [Act.put, zA, zB, zC]
 refine wpAnyH_ready (rs := [7]) (by kernel_rfl) (by simp) ?_
 refine AllReadyH.cons (o := ⟨_, _, _, _, _, _⟩) rfl (fun Kz hK => ?_) AllReadyH.nil
 obtain ⟨z0, z1, z2, z3, z4, z5, z6, z7, z8, z9⟩ := p_facts WD.out
 have f8 := q_frozen WD.out 8
 have W1 := Lib.hid (qput (Q2 := { Q with bits := y.2 }) (k := 8) (v := .int .u64 (y.2 : Int)) WD.out rfl)
 have j1 := grown_setCell wd ⟨Bw, 8, none⟩ (.int .u64 (y.2 : Int))
 go_simp
 clear z0 z1 z2 z3 z4 z5 z6 z7 z8 z9 f8
 refine hK.out _ _ (Lib.hid ⟨kept_row hHeld.out.1 j1 (fun e => by have : Bf = Bw := Option.some.inj e; have := HLT.out; omega), kept_row hHeld.out.2 j1 (fun e => by have : Bb + 1 = Bw := Option.some.inj e; have := (Array.getElem?_eq_some_iff.1 K0.out.qb).1; have := HLT.out; omega)⟩) (fun hH2 => ?_)
 clear hK Kz hHeld
 have hHeld := hH2
 clear hH2
 try simp only [Act.put, zA, zB, zC]
 refine zT (i := 8) (v := ?_) rfl ?_ hHeld ?_
 rotate_left 1
 ·intro u hSu
  obtain ⟨a0u, a1u, a2u, a3u, a4u, a5u, a6u, a7u, a8u, a9u⟩ := p_facts hSu.out.2
  have b9u := cell_of_row _ _ 9 _ _ _ hSu.out.1
  simp at b9u
  go_simp
  first | done | with_reducible rfl
 try simp only [Act.put, zA, zB, zC]
 refine wpAnyH_ready (rs := [9]) (by kernel_rfl) (by simp) ?_
 refine AllReadyH.cons (o := ⟨_, _, _, _, _, _⟩) rfl (fun Kz hK => ?_) AllReadyH.nil
 generalize wd.setCell _ _ = we at *
 obtain ⟨z0, z1, z2, z3, z4, z5, z6, z7, z8, z9⟩ := p_facts W1.out
 have f4 := q_frozen W1.out 4
 have W2 := Lib.hid (qput (Q2 := { Q with bits := y.2, ttl := Q.ttl - 1 }) (k := 4) (v := .int .i64 (Q.ttl - 1)) W1.out rfl)
 have j2 := grown_setCell we ⟨Bw, 4, none⟩ (.int .i64 (Q.ttl - 1))
 go_simp
 clear z0 z1 z2 z3 z4 z5 z6 z7 z8 z9 f4
 refine hK.out _ _ (Lib.hid ⟨kept_row hHeld.out.1 j2 (fun e => by have : Bf = Bw := Option.some.inj e; have := HLT.out; omega), kept_row hHeld.out.2 j2 (fun e => by have : Bb + 1 = Bw := Option.some.inj e; have := (Array.getElem?_eq_some_iff.1 K0.out.qb).1; have := HLT.out; omega)⟩) (fun hH2 => ?_)
 clear hK Kz hHeld
 have hHeld := hH2
 clear hH2
 try simp only [Act.put, zA, zB, zC]
 refine wpAnyH_done (by kernel_rfl) ?_ _
 have nb : ∀ k, k < Bw → some k ≠ some Bw := fun k hk e => by have := Option.some.inj e; omega
 have hlt2 := HLT.out
 have hbf := HBF.out
 have GF := Lib.hid (grown_any (grown_any GD.out j1 (fun b hb => nb b (by omega))) j2 (fun b hb => nb b (by omega)))
 have G7F := Lib.hid (grown_any (grown_any (grown_trans G79.out HDR.out) j1 (fun b hb => nb b (by omega))) j2 (fun b hb => nb b (by omega)))
 have OF := Lib.hid ((OD.out.kept j1 (Or.inr (fun e => by have := HOB.out _ e; exact absurd this (Nat.lt_irrefl _)))).kept j2 (Or.inr (fun e => by have := HOB.out _ e; exact absurd this (Nat.lt_irrefl _))))
 have FF := Lib.hid hHeld.out.1
 have WF := Lib.hid W2.out
 clear hHeld KD GD OD FD WD W1 W2 j1 j2 nb hlt2 hbf HDR G79
 generalize we.setCell _ _ = wf at *
 have KF := Lib.hid (K0.out.keep GF.out)
 have hil : ((cs.take i).map (fun z => z.1)).length = i := by rw [List.length_map, List.length_take]; omega
 have HHAS := Lib.hid (show ∀ wx : World, wf.grownBy wx none → Calls Tryd.prog 10 #[.slice po i co, .int .i64 y.1] wx fun e w' => e = .returned (.bool false) ∧ wx = w' from fun wx gx => by
  have h := rhas4_any ((cs.take i).map (fun z => z.1)) y.1 po co _ wx (by rw [hil]; exact rd_of_own (own_keptN OF.out gx)) (by omega)
  rw [hil] at h
  have h0 : hasI ((cs.take i).map (fun z => z.1)) y.1 = false := by
   unfold hasI
   rw [List.any_eq_false]
   intro z hz
   obtain ⟨x, hx, rfl⟩ := List.mem_map.1 hz
   simpa using HON.out x hx
  rwa [h0] at h)
 clear hil
 have hy1 := HYS.out.1
 have hy2 := HYS.out.2.1
 have hy3 := HYS.out.2.2.1
 have hty : (Q.ttl == 0) = false := by simpa using hy1
 have hry : (y.1 == r) = false := by simpa using hy2
 have hby : ((y.2 : Int) == 0) = false := by simpa using hy3
 have HTY := Lib.hid (And.intro hty (And.intro hry hby))
 clear hy1 hy2 hy3 hty hry hby
 go_upto_region 16 with fail
 refine wp_region_held_drew (S := fun w' => Hid (wf.grownBy w' none)) (by kernel_rfl) (Lib.hid (grown_drew (grown_refl _ none))) (fun hHeld => ?_)
 refine zT (i := 0) (v := ?_) rfl ?_ hHeld ?_
 rotate_left 1
 ·intro u hSu
  have KU := KF.out.keep hSu.out
  obtain ⟨o0u, o1u, o2u⟩ := (row3f KU.ob).1
  obtain ⟨a0u, a1u, a2u, a3u, a4u, a5u, a6u, a7u, a8u, a9u⟩ := p_facts KU.qb
  obtain ⟨d0u, d1u, d2u, d3u⟩ := row4T KU.bb
  obtain ⟨c0u, -⟩ := HC.out u (grown_trans G7F.out hSu.out)
  obtain ⟨b0u, b1u, b2u, b3u, b4u, b5u, b6u, b7u, b8u, b9u, b10u⟩ := fr_cells (kept_row FF.out hSu.out (by simp))
  obtain ⟨z0u, z1u, z2u, z3u, z4u, z5u, z6u, z7u, z8u, z9u⟩ := p_facts (kept_row WF.out hSu.out (by simp))
  go_simp
  first | done | with_reducible rfl
 try simp only [Act.put, zA, zB, zC]
 refine zT (i := 1) (v := ?_) rfl ?_ hHeld ?_
 rotate_left 1
 ·intro u hSu
  have KU := KF.out.keep hSu.out
  obtain ⟨o0u, o1u, o2u⟩ := (row3f KU.ob).1
  obtain ⟨a0u, a1u, a2u, a3u, a4u, a5u, a6u, a7u, a8u, a9u⟩ := p_facts KU.qb
  obtain ⟨d0u, d1u, d2u, d3u⟩ := row4T KU.bb
  obtain ⟨c0u, -⟩ := HC.out u (grown_trans G7F.out hSu.out)
  obtain ⟨b0u, b1u, b2u, b3u, b4u, b5u, b6u, b7u, b8u, b9u, b10u⟩ := fr_cells (kept_row FF.out hSu.out (by simp))
  obtain ⟨z0u, z1u, z2u, z3u, z4u, z5u, z6u, z7u, z8u, z9u⟩ := p_facts (kept_row WF.out hSu.out (by simp))
  go_simp
  first | done | with_reducible rfl
 try simp only [Act.put, zA, zB, zC]
 refine zT (i := 2) (v := ?_) rfl ?_ hHeld ?_
 rotate_left 1
 ·intro u hSu
  have KU := KF.out.keep hSu.out
  obtain ⟨o0u, o1u, o2u⟩ := (row3f KU.ob).1
  obtain ⟨a0u, a1u, a2u, a3u, a4u, a5u, a6u, a7u, a8u, a9u⟩ := p_facts KU.qb
  obtain ⟨d0u, d1u, d2u, d3u⟩ := row4T KU.bb
  obtain ⟨c0u, -⟩ := HC.out u (grown_trans G7F.out hSu.out)
  obtain ⟨b0u, b1u, b2u, b3u, b4u, b5u, b6u, b7u, b8u, b9u, b10u⟩ := fr_cells (kept_row FF.out hSu.out (by simp))
  obtain ⟨z0u, z1u, z2u, z3u, z4u, z5u, z6u, z7u, z8u, z9u⟩ := p_facts (kept_row WF.out hSu.out (by simp))
  go_simp
  first | done | with_reducible rfl
 try simp only [Act.put, zA, zB, zC]
 refine zT (i := 3) (v := .bool false) rfl ?_ hHeld ?_
 ·intro u hSu
  have KU := KF.out.keep hSu.out
  obtain ⟨o0u, o1u, o2u⟩ := (row3f KU.ob).1
  obtain ⟨a0u, a1u, a2u, a3u, a4u, a5u, a6u, a7u, a8u, a9u⟩ := p_facts KU.qb
  obtain ⟨d0u, d1u, d2u, d3u⟩ := row4T KU.bb
  obtain ⟨c0u, -⟩ := HC.out u (grown_trans G7F.out hSu.out)
  obtain ⟨b0u, b1u, b2u, b3u, b4u, b5u, b6u, b7u, b8u, b9u, b10u⟩ := fr_cells (kept_row FF.out hSu.out (by simp))
  obtain ⟨z0u, z1u, z2u, z3u, z4u, z5u, z6u, z7u, z8u, z9u⟩ := p_facts (kept_row WF.out hSu.out (by simp))
  have hty := HTY.out.1
  have hry := HTY.out.2.1
  have hby := HTY.out.2.2
  go_simp
  first | done | rfl | assumption | simp | simp_all
 try simp only [Act.put, zA, zB, zC]
 refine zT (i := 4) (v := .bool false) rfl ?_ hHeld ?_
 ·intro u hSu
  have KU := KF.out.keep hSu.out
  obtain ⟨o0u, o1u, o2u⟩ := (row3f KU.ob).1
  obtain ⟨a0u, a1u, a2u, a3u, a4u, a5u, a6u, a7u, a8u, a9u⟩ := p_facts KU.qb
  obtain ⟨d0u, d1u, d2u, d3u⟩ := row4T KU.bb
  obtain ⟨c0u, -⟩ := HC.out u (grown_trans G7F.out hSu.out)
  obtain ⟨b0u, b1u, b2u, b3u, b4u, b5u, b6u, b7u, b8u, b9u, b10u⟩ := fr_cells (kept_row FF.out hSu.out (by simp))
  obtain ⟨z0u, z1u, z2u, z3u, z4u, z5u, z6u, z7u, z8u, z9u⟩ := p_facts (kept_row WF.out hSu.out (by simp))
  go_simp
  first | done | rfl | simp
 try simp only [Act.put, zA, zB, zC]
 refine zT (i := 5) (v := ?_) rfl ?_ hHeld ?_
 rotate_left 1
 ·intro u hSu
  have KU := KF.out.keep hSu.out
  obtain ⟨o0u, o1u, o2u⟩ := (row3f KU.ob).1
  obtain ⟨a0u, a1u, a2u, a3u, a4u, a5u, a6u, a7u, a8u, a9u⟩ := p_facts KU.qb
  obtain ⟨d0u, d1u, d2u, d3u⟩ := row4T KU.bb
  obtain ⟨c0u, -⟩ := HC.out u (grown_trans G7F.out hSu.out)
  obtain ⟨b0u, b1u, b2u, b3u, b4u, b5u, b6u, b7u, b8u, b9u, b10u⟩ := fr_cells (kept_row FF.out hSu.out (by simp))
  obtain ⟨z0u, z1u, z2u, z3u, z4u, z5u, z6u, z7u, z8u, z9u⟩ := p_facts (kept_row WF.out hSu.out (by simp))
  go_simp
  first | done | with_reducible rfl
 try simp only [Act.put, zA, zB, zC]
 refine zT (i := 6) (v := ?_) rfl ?_ hHeld ?_
 rotate_left 1
 ·intro u hSu
  have KU := KF.out.keep hSu.out
  obtain ⟨o0u, o1u, o2u⟩ := (row3f KU.ob).1
  obtain ⟨a0u, a1u, a2u, a3u, a4u, a5u, a6u, a7u, a8u, a9u⟩ := p_facts KU.qb
  obtain ⟨d0u, d1u, d2u, d3u⟩ := row4T KU.bb
  obtain ⟨c0u, -⟩ := HC.out u (grown_trans G7F.out hSu.out)
  obtain ⟨b0u, b1u, b2u, b3u, b4u, b5u, b6u, b7u, b8u, b9u, b10u⟩ := fr_cells (kept_row FF.out hSu.out (by simp))
  obtain ⟨z0u, z1u, z2u, z3u, z4u, z5u, z6u, z7u, z8u, z9u⟩ := p_facts (kept_row WF.out hSu.out (by simp))
  go_simp
  first | done | with_reducible rfl
 try simp only [Act.put, zA, zB, zC]
 refine zT (i := 7) (v := ?_) rfl ?_ hHeld ?_
 rotate_left 1
 ·intro u hSu
  have KU := KF.out.keep hSu.out
  obtain ⟨o0u, o1u, o2u⟩ := (row3f KU.ob).1
  obtain ⟨a0u, a1u, a2u, a3u, a4u, a5u, a6u, a7u, a8u, a9u⟩ := p_facts KU.qb
  obtain ⟨d0u, d1u, d2u, d3u⟩ := row4T KU.bb
  obtain ⟨c0u, -⟩ := HC.out u (grown_trans G7F.out hSu.out)
  obtain ⟨b0u, b1u, b2u, b3u, b4u, b5u, b6u, b7u, b8u, b9u, b10u⟩ := fr_cells (kept_row FF.out hSu.out (by simp))
  obtain ⟨z0u, z1u, z2u, z3u, z4u, z5u, z6u, z7u, z8u, z9u⟩ := p_facts (kept_row WF.out hSu.out (by simp))
  go_simp
  first | done | with_reducible rfl
 try simp only [Act.put, zA, zB, zC]
 refine zT (i := 8) (v := ?_) rfl ?_ hHeld ?_
 rotate_left 1
 ·intro u hSu
  have KU := KF.out.keep hSu.out
  obtain ⟨o0u, o1u, o2u⟩ := (row3f KU.ob).1
  obtain ⟨a0u, a1u, a2u, a3u, a4u, a5u, a6u, a7u, a8u, a9u⟩ := p_facts KU.qb
  obtain ⟨d0u, d1u, d2u, d3u⟩ := row4T KU.bb
  obtain ⟨c0u, -⟩ := HC.out u (grown_trans G7F.out hSu.out)
  obtain ⟨b0u, b1u, b2u, b3u, b4u, b5u, b6u, b7u, b8u, b9u, b10u⟩ := fr_cells (kept_row FF.out hSu.out (by simp))
  obtain ⟨z0u, z1u, z2u, z3u, z4u, z5u, z6u, z7u, z8u, z9u⟩ := p_facts (kept_row WF.out hSu.out (by simp))
  go_simp
  first | done | with_reducible rfl
 try simp only [Act.put, zA, zB, zC]
 refine zT (i := 9) (v := .int .u64 0) rfl ?_ hHeld ?_
 ·intro u hSu
  have KU := KF.out.keep hSu.out
  obtain ⟨o0u, o1u, o2u⟩ := (row3f KU.ob).1
  obtain ⟨a0u, a1u, a2u, a3u, a4u, a5u, a6u, a7u, a8u, a9u⟩ := p_facts KU.qb
  obtain ⟨d0u, d1u, d2u, d3u⟩ := row4T KU.bb
  obtain ⟨c0u, -⟩ := HC.out u (grown_trans G7F.out hSu.out)
  obtain ⟨b0u, b1u, b2u, b3u, b4u, b5u, b6u, b7u, b8u, b9u, b10u⟩ := fr_cells (kept_row FF.out hSu.out (by simp))
  obtain ⟨z0u, z1u, z2u, z3u, z4u, z5u, z6u, z7u, z8u, z9u⟩ := p_facts (kept_row WF.out hSu.out (by simp))
  have hand := HAND.out
  go_simp
  first | done | exact hand | simp_all
 try simp only [Act.put, zA, zB, zC]
 refine zT (i := 10) (v := .bool false) rfl ?_ hHeld ?_
 ·intro u hSu
  have KU := KF.out.keep hSu.out
  obtain ⟨o0u, o1u, o2u⟩ := (row3f KU.ob).1
  obtain ⟨a0u, a1u, a2u, a3u, a4u, a5u, a6u, a7u, a8u, a9u⟩ := p_facts KU.qb
  obtain ⟨d0u, d1u, d2u, d3u⟩ := row4T KU.bb
  obtain ⟨c0u, -⟩ := HC.out u (grown_trans G7F.out hSu.out)
  obtain ⟨b0u, b1u, b2u, b3u, b4u, b5u, b6u, b7u, b8u, b9u, b10u⟩ := fr_cells (kept_row FF.out hSu.out (by simp))
  obtain ⟨z0u, z1u, z2u, z3u, z4u, z5u, z6u, z7u, z8u, z9u⟩ := p_facts (kept_row WF.out hSu.out (by simp))
  go_simp
  first | done | rfl | simp
 try simp only [Act.put, zA, zB, zC]
 refine zT (i := 11) (v := .bool false) rfl ?_ hHeld ?_
 ·intro u hSu
  have KU := KF.out.keep hSu.out
  obtain ⟨o0u, o1u, o2u⟩ := (row3f KU.ob).1
  obtain ⟨a0u, a1u, a2u, a3u, a4u, a5u, a6u, a7u, a8u, a9u⟩ := p_facts KU.qb
  obtain ⟨d0u, d1u, d2u, d3u⟩ := row4T KU.bb
  obtain ⟨c0u, -⟩ := HC.out u (grown_trans G7F.out hSu.out)
  obtain ⟨b0u, b1u, b2u, b3u, b4u, b5u, b6u, b7u, b8u, b9u, b10u⟩ := fr_cells (kept_row FF.out hSu.out (by simp))
  obtain ⟨z0u, z1u, z2u, z3u, z4u, z5u, z6u, z7u, z8u, z9u⟩ := p_facts (kept_row WF.out hSu.out (by simp))
  go_simp
  first | done | rfl | simp
 try simp only [Act.put, zA, zB, zC]
 refine zT (i := 12) (v := .bool false) rfl ?_ hHeld ?_
 ·intro u hSu
  have KU := KF.out.keep hSu.out
  obtain ⟨o0u, o1u, o2u⟩ := (row3f KU.ob).1
  obtain ⟨a0u, a1u, a2u, a3u, a4u, a5u, a6u, a7u, a8u, a9u⟩ := p_facts KU.qb
  obtain ⟨d0u, d1u, d2u, d3u⟩ := row4T KU.bb
  obtain ⟨c0u, -⟩ := HC.out u (grown_trans G7F.out hSu.out)
  obtain ⟨b0u, b1u, b2u, b3u, b4u, b5u, b6u, b7u, b8u, b9u, b10u⟩ := fr_cells (kept_row FF.out hSu.out (by simp))
  obtain ⟨z0u, z1u, z2u, z3u, z4u, z5u, z6u, z7u, z8u, z9u⟩ := p_facts (kept_row WF.out hSu.out (by simp))
  go_simp
  first | done | rfl | simp
 try simp only [Act.put, zA, zB, zC]
 refine zT (i := 13) (v := ?_) rfl ?_ hHeld ?_
 rotate_left 1
 ·intro u hSu
  have KU := KF.out.keep hSu.out
  obtain ⟨o0u, o1u, o2u⟩ := (row3f KU.ob).1
  obtain ⟨a0u, a1u, a2u, a3u, a4u, a5u, a6u, a7u, a8u, a9u⟩ := p_facts KU.qb
  obtain ⟨d0u, d1u, d2u, d3u⟩ := row4T KU.bb
  obtain ⟨c0u, -⟩ := HC.out u (grown_trans G7F.out hSu.out)
  obtain ⟨b0u, b1u, b2u, b3u, b4u, b5u, b6u, b7u, b8u, b9u, b10u⟩ := fr_cells (kept_row FF.out hSu.out (by simp))
  obtain ⟨z0u, z1u, z2u, z3u, z4u, z5u, z6u, z7u, z8u, z9u⟩ := p_facts (kept_row WF.out hSu.out (by simp))
  go_simp
  first | done | with_reducible rfl
 try simp only [Act.put, zA, zB, zC]
 refine zT (i := 14) (v := ?_) rfl ?_ hHeld ?_
 rotate_left 1
 ·intro u hSu
  have KU := KF.out.keep hSu.out
  obtain ⟨o0u, o1u, o2u⟩ := (row3f KU.ob).1
  obtain ⟨a0u, a1u, a2u, a3u, a4u, a5u, a6u, a7u, a8u, a9u⟩ := p_facts KU.qb
  obtain ⟨d0u, d1u, d2u, d3u⟩ := row4T KU.bb
  obtain ⟨c0u, -⟩ := HC.out u (grown_trans G7F.out hSu.out)
  obtain ⟨b0u, b1u, b2u, b3u, b4u, b5u, b6u, b7u, b8u, b9u, b10u⟩ := fr_cells (kept_row FF.out hSu.out (by simp))
  obtain ⟨z0u, z1u, z2u, z3u, z4u, z5u, z6u, z7u, z8u, z9u⟩ := p_facts (kept_row WF.out hSu.out (by simp))
  go_simp
  first | done | with_reducible rfl
 try simp only [Act.put, zA, zB, zC]
 refine zT (i := 15) (v := ?_) rfl ?_ hHeld ?_
 rotate_left 1
 ·intro u hSu
  have KU := KF.out.keep hSu.out
  obtain ⟨o0u, o1u, o2u⟩ := (row3f KU.ob).1
  obtain ⟨a0u, a1u, a2u, a3u, a4u, a5u, a6u, a7u, a8u, a9u⟩ := p_facts KU.qb
  obtain ⟨d0u, d1u, d2u, d3u⟩ := row4T KU.bb
  obtain ⟨c0u, -⟩ := HC.out u (grown_trans G7F.out hSu.out)
  obtain ⟨b0u, b1u, b2u, b3u, b4u, b5u, b6u, b7u, b8u, b9u, b10u⟩ := fr_cells (kept_row FF.out hSu.out (by simp))
  obtain ⟨z0u, z1u, z2u, z3u, z4u, z5u, z6u, z7u, z8u, z9u⟩ := p_facts (kept_row WF.out hSu.out (by simp))
  go_simp
  first | done | with_reducible rfl
 try simp only [Act.put, zA, zB, zC]
 refine zT (i := 16) (v := .bool false) rfl ?_ hHeld ?_
 ·intro u hSu
  have KU := KF.out.keep hSu.out
  obtain ⟨o0u, o1u, o2u⟩ := (row3f KU.ob).1
  obtain ⟨a0u, a1u, a2u, a3u, a4u, a5u, a6u, a7u, a8u, a9u⟩ := p_facts KU.qb
  obtain ⟨d0u, d1u, d2u, d3u⟩ := row4T KU.bb
  obtain ⟨c0u, -⟩ := HC.out u (grown_trans G7F.out hSu.out)
  obtain ⟨b0u, b1u, b2u, b3u, b4u, b5u, b6u, b7u, b8u, b9u, b10u⟩ := fr_cells (kept_row FF.out hSu.out (by simp))
  obtain ⟨z0u, z1u, z2u, z3u, z4u, z5u, z6u, z7u, z8u, z9u⟩ := p_facts (kept_row WF.out hSu.out (by simp))
  go_simp
  first | done | rfl | simp
 try simp only [Act.put, zA, zB, zC]
 refine zT (i := 17) (v := .bool false) rfl ?_ hHeld ?_
 ·intro u hSu
  have KU := KF.out.keep hSu.out
  obtain ⟨o0u, o1u, o2u⟩ := (row3f KU.ob).1
  obtain ⟨a0u, a1u, a2u, a3u, a4u, a5u, a6u, a7u, a8u, a9u⟩ := p_facts KU.qb
  obtain ⟨d0u, d1u, d2u, d3u⟩ := row4T KU.bb
  obtain ⟨c0u, -⟩ := HC.out u (grown_trans G7F.out hSu.out)
  obtain ⟨b0u, b1u, b2u, b3u, b4u, b5u, b6u, b7u, b8u, b9u, b10u⟩ := fr_cells (kept_row FF.out hSu.out (by simp))
  obtain ⟨z0u, z1u, z2u, z3u, z4u, z5u, z6u, z7u, z8u, z9u⟩ := p_facts (kept_row WF.out hSu.out (by simp))
  go_simp
  first | done | rfl | simp
 try simp only [Act.put, zA, zB, zC]
 refine zT (i := 18) (v := .bool false) rfl ?_ hHeld ?_
 ·intro u hSu
  have KU := KF.out.keep hSu.out
  obtain ⟨o0u, o1u, o2u⟩ := (row3f KU.ob).1
  obtain ⟨a0u, a1u, a2u, a3u, a4u, a5u, a6u, a7u, a8u, a9u⟩ := p_facts KU.qb
  obtain ⟨d0u, d1u, d2u, d3u⟩ := row4T KU.bb
  obtain ⟨c0u, -⟩ := HC.out u (grown_trans G7F.out hSu.out)
  obtain ⟨b0u, b1u, b2u, b3u, b4u, b5u, b6u, b7u, b8u, b9u, b10u⟩ := fr_cells (kept_row FF.out hSu.out (by simp))
  obtain ⟨z0u, z1u, z2u, z3u, z4u, z5u, z6u, z7u, z8u, z9u⟩ := p_facts (kept_row WF.out hSu.out (by simp))
  go_simp
  first | done | rfl | simp
 try simp only [Act.put, zA, zB, zC]
 refine zT (i := 19) (v := ?_) rfl ?_ hHeld ?_
 rotate_left 1
 ·intro u hSu
  have KU := KF.out.keep hSu.out
  obtain ⟨o0u, o1u, o2u⟩ := (row3f KU.ob).1
  obtain ⟨a0u, a1u, a2u, a3u, a4u, a5u, a6u, a7u, a8u, a9u⟩ := p_facts KU.qb
  obtain ⟨d0u, d1u, d2u, d3u⟩ := row4T KU.bb
  obtain ⟨c0u, -⟩ := HC.out u (grown_trans G7F.out hSu.out)
  obtain ⟨b0u, b1u, b2u, b3u, b4u, b5u, b6u, b7u, b8u, b9u, b10u⟩ := fr_cells (kept_row FF.out hSu.out (by simp))
  obtain ⟨z0u, z1u, z2u, z3u, z4u, z5u, z6u, z7u, z8u, z9u⟩ := p_facts (kept_row WF.out hSu.out (by simp))
  go_simp
  first | done | with_reducible rfl
 try simp only [Act.put, zA, zB, zC]
 refine zT (i := 20) (v := ?_) rfl ?_ hHeld ?_
 rotate_left 1
 ·intro u hSu
  have KU := KF.out.keep hSu.out
  obtain ⟨o0u, o1u, o2u⟩ := (row3f KU.ob).1
  obtain ⟨a0u, a1u, a2u, a3u, a4u, a5u, a6u, a7u, a8u, a9u⟩ := p_facts KU.qb
  obtain ⟨d0u, d1u, d2u, d3u⟩ := row4T KU.bb
  obtain ⟨c0u, -⟩ := HC.out u (grown_trans G7F.out hSu.out)
  obtain ⟨b0u, b1u, b2u, b3u, b4u, b5u, b6u, b7u, b8u, b9u, b10u⟩ := fr_cells (kept_row FF.out hSu.out (by simp))
  obtain ⟨z0u, z1u, z2u, z3u, z4u, z5u, z6u, z7u, z8u, z9u⟩ := p_facts (kept_row WF.out hSu.out (by simp))
  go_simp
  first | done | with_reducible rfl
 try simp only [Act.put, zA, zB, zC]
 refine zT (i := 21) (v := ?_) rfl ?_ hHeld ?_
 rotate_left 1
 ·intro u hSu
  have KU := KF.out.keep hSu.out
  obtain ⟨o0u, o1u, o2u⟩ := (row3f KU.ob).1
  obtain ⟨a0u, a1u, a2u, a3u, a4u, a5u, a6u, a7u, a8u, a9u⟩ := p_facts KU.qb
  obtain ⟨d0u, d1u, d2u, d3u⟩ := row4T KU.bb
  obtain ⟨c0u, -⟩ := HC.out u (grown_trans G7F.out hSu.out)
  obtain ⟨b0u, b1u, b2u, b3u, b4u, b5u, b6u, b7u, b8u, b9u, b10u⟩ := fr_cells (kept_row FF.out hSu.out (by simp))
  obtain ⟨z0u, z1u, z2u, z3u, z4u, z5u, z6u, z7u, z8u, z9u⟩ := p_facts (kept_row WF.out hSu.out (by simp))
  go_simp
  first | done | with_reducible rfl
 try simp only [Act.put, zA, zB, zC]
 refine zT (i := 22) (v := .bool false) rfl ?_ hHeld ?_
 ·intro u hSu
  have KU := KF.out.keep hSu.out
  obtain ⟨o0u, o1u, o2u⟩ := (row3f KU.ob).1
  obtain ⟨a0u, a1u, a2u, a3u, a4u, a5u, a6u, a7u, a8u, a9u⟩ := p_facts KU.qb
  obtain ⟨d0u, d1u, d2u, d3u⟩ := row4T KU.bb
  obtain ⟨c0u, -⟩ := HC.out u (grown_trans G7F.out hSu.out)
  obtain ⟨b0u, b1u, b2u, b3u, b4u, b5u, b6u, b7u, b8u, b9u, b10u⟩ := fr_cells (kept_row FF.out hSu.out (by simp))
  obtain ⟨z0u, z1u, z2u, z3u, z4u, z5u, z6u, z7u, z8u, z9u⟩ := p_facts (kept_row WF.out hSu.out (by simp))
  go_simp
  first | done | rfl | simp
 try simp only [Act.put, zA, zB, zC]
 refine zT (i := 23) (v := .bool false) rfl ?_ hHeld ?_
 ·intro u hSu
  have KU := KF.out.keep hSu.out
  obtain ⟨o0u, o1u, o2u⟩ := (row3f KU.ob).1
  obtain ⟨a0u, a1u, a2u, a3u, a4u, a5u, a6u, a7u, a8u, a9u⟩ := p_facts KU.qb
  obtain ⟨d0u, d1u, d2u, d3u⟩ := row4T KU.bb
  obtain ⟨c0u, -⟩ := HC.out u (grown_trans G7F.out hSu.out)
  obtain ⟨b0u, b1u, b2u, b3u, b4u, b5u, b6u, b7u, b8u, b9u, b10u⟩ := fr_cells (kept_row FF.out hSu.out (by simp))
  obtain ⟨z0u, z1u, z2u, z3u, z4u, z5u, z6u, z7u, z8u, z9u⟩ := p_facts (kept_row WF.out hSu.out (by simp))
  go_simp
  first | done | rfl | simp
 try simp only [Act.put, zA, zB, zC]
 refine zT (i := 24) (v := .bool false) rfl ?_ hHeld ?_
 ·intro u hSu
  have KU := KF.out.keep hSu.out
  obtain ⟨o0u, o1u, o2u⟩ := (row3f KU.ob).1
  obtain ⟨a0u, a1u, a2u, a3u, a4u, a5u, a6u, a7u, a8u, a9u⟩ := p_facts KU.qb
  obtain ⟨d0u, d1u, d2u, d3u⟩ := row4T KU.bb
  obtain ⟨c0u, -⟩ := HC.out u (grown_trans G7F.out hSu.out)
  obtain ⟨b0u, b1u, b2u, b3u, b4u, b5u, b6u, b7u, b8u, b9u, b10u⟩ := fr_cells (kept_row FF.out hSu.out (by simp))
  obtain ⟨z0u, z1u, z2u, z3u, z4u, z5u, z6u, z7u, z8u, z9u⟩ := p_facts (kept_row WF.out hSu.out (by simp))
  go_simp
  first | done | rfl | simp
 try simp only [Act.put, zA, zB, zC]
 refine zT (i := 25) (v := ?_) rfl ?_ hHeld ?_
 rotate_left 1
 ·intro u hSu
  have KU := KF.out.keep hSu.out
  obtain ⟨o0u, o1u, o2u⟩ := (row3f KU.ob).1
  obtain ⟨a0u, a1u, a2u, a3u, a4u, a5u, a6u, a7u, a8u, a9u⟩ := p_facts KU.qb
  obtain ⟨d0u, d1u, d2u, d3u⟩ := row4T KU.bb
  obtain ⟨c0u, -⟩ := HC.out u (grown_trans G7F.out hSu.out)
  obtain ⟨b0u, b1u, b2u, b3u, b4u, b5u, b6u, b7u, b8u, b9u, b10u⟩ := fr_cells (kept_row FF.out hSu.out (by simp))
  obtain ⟨z0u, z1u, z2u, z3u, z4u, z5u, z6u, z7u, z8u, z9u⟩ := p_facts (kept_row WF.out hSu.out (by simp))
  go_simp
  first | done | with_reducible rfl
 try simp only [Act.put, zA, zB, zC]
 refine zT (i := 26) (v := ?_) rfl ?_ hHeld ?_
 rotate_left 1
 ·intro u hSu
  have KU := KF.out.keep hSu.out
  obtain ⟨o0u, o1u, o2u⟩ := (row3f KU.ob).1
  obtain ⟨a0u, a1u, a2u, a3u, a4u, a5u, a6u, a7u, a8u, a9u⟩ := p_facts KU.qb
  obtain ⟨d0u, d1u, d2u, d3u⟩ := row4T KU.bb
  obtain ⟨c0u, -⟩ := HC.out u (grown_trans G7F.out hSu.out)
  obtain ⟨b0u, b1u, b2u, b3u, b4u, b5u, b6u, b7u, b8u, b9u, b10u⟩ := fr_cells (kept_row FF.out hSu.out (by simp))
  obtain ⟨z0u, z1u, z2u, z3u, z4u, z5u, z6u, z7u, z8u, z9u⟩ := p_facts (kept_row WF.out hSu.out (by simp))
  go_simp
  first | done | with_reducible rfl
 try simp only [Act.put, zA, zB, zC]
 refine zT (i := 27) (v := .bool false) rfl ?_ hHeld ?_
 ·intro u hSu
  have KU := KF.out.keep hSu.out
  obtain ⟨o0u, o1u, o2u⟩ := (row3f KU.ob).1
  obtain ⟨a0u, a1u, a2u, a3u, a4u, a5u, a6u, a7u, a8u, a9u⟩ := p_facts KU.qb
  obtain ⟨d0u, d1u, d2u, d3u⟩ := row4T KU.bb
  obtain ⟨c0u, -⟩ := HC.out u (grown_trans G7F.out hSu.out)
  obtain ⟨b0u, b1u, b2u, b3u, b4u, b5u, b6u, b7u, b8u, b9u, b10u⟩ := fr_cells (kept_row FF.out hSu.out (by simp))
  obtain ⟨z0u, z1u, z2u, z3u, z4u, z5u, z6u, z7u, z8u, z9u⟩ := p_facts (kept_row WF.out hSu.out (by simp))
  have hty := HTY.out.1
  have hry := HTY.out.2.1
  have hby := HTY.out.2.2
  go_simp
  first | done | rfl | assumption | simp | simp_all
 try simp only [Act.put, zA, zB, zC]
 refine zT (i := 28) (v := .bool false) rfl ?_ hHeld ?_
 ·intro u hSu
  have KU := KF.out.keep hSu.out
  obtain ⟨o0u, o1u, o2u⟩ := (row3f KU.ob).1
  obtain ⟨a0u, a1u, a2u, a3u, a4u, a5u, a6u, a7u, a8u, a9u⟩ := p_facts KU.qb
  obtain ⟨d0u, d1u, d2u, d3u⟩ := row4T KU.bb
  obtain ⟨c0u, -⟩ := HC.out u (grown_trans G7F.out hSu.out)
  obtain ⟨b0u, b1u, b2u, b3u, b4u, b5u, b6u, b7u, b8u, b9u, b10u⟩ := fr_cells (kept_row FF.out hSu.out (by simp))
  obtain ⟨z0u, z1u, z2u, z3u, z4u, z5u, z6u, z7u, z8u, z9u⟩ := p_facts (kept_row WF.out hSu.out (by simp))
  go_simp
  first | done | rfl | simp
 try simp only [Act.put, zA, zB, zC]
 refine zT (i := 29) (v := .bool false) rfl ?_ hHeld ?_
 ·intro u hSu
  have KU := KF.out.keep hSu.out
  obtain ⟨o0u, o1u, o2u⟩ := (row3f KU.ob).1
  obtain ⟨a0u, a1u, a2u, a3u, a4u, a5u, a6u, a7u, a8u, a9u⟩ := p_facts KU.qb
  obtain ⟨d0u, d1u, d2u, d3u⟩ := row4T KU.bb
  obtain ⟨c0u, -⟩ := HC.out u (grown_trans G7F.out hSu.out)
  obtain ⟨b0u, b1u, b2u, b3u, b4u, b5u, b6u, b7u, b8u, b9u, b10u⟩ := fr_cells (kept_row FF.out hSu.out (by simp))
  obtain ⟨z0u, z1u, z2u, z3u, z4u, z5u, z6u, z7u, z8u, z9u⟩ := p_facts (kept_row WF.out hSu.out (by simp))
  go_simp
  first | done | rfl | simp
 try simp only [Act.put, zA, zB, zC]
 refine zT (i := 30) (v := ?_) rfl ?_ hHeld ?_
 rotate_left 1
 ·intro u hSu
  have KU := KF.out.keep hSu.out
  obtain ⟨o0u, o1u, o2u⟩ := (row3f KU.ob).1
  obtain ⟨a0u, a1u, a2u, a3u, a4u, a5u, a6u, a7u, a8u, a9u⟩ := p_facts KU.qb
  obtain ⟨d0u, d1u, d2u, d3u⟩ := row4T KU.bb
  obtain ⟨c0u, -⟩ := HC.out u (grown_trans G7F.out hSu.out)
  obtain ⟨b0u, b1u, b2u, b3u, b4u, b5u, b6u, b7u, b8u, b9u, b10u⟩ := fr_cells (kept_row FF.out hSu.out (by simp))
  obtain ⟨z0u, z1u, z2u, z3u, z4u, z5u, z6u, z7u, z8u, z9u⟩ := p_facts (kept_row WF.out hSu.out (by simp))
  go_simp
  first | done | with_reducible rfl
 try simp only [Act.put, zA, zB, zC]
 refine zT (i := 31) (v := ?_) rfl ?_ hHeld ?_
 rotate_left 1
 ·intro u hSu
  have KU := KF.out.keep hSu.out
  obtain ⟨o0u, o1u, o2u⟩ := (row3f KU.ob).1
  obtain ⟨a0u, a1u, a2u, a3u, a4u, a5u, a6u, a7u, a8u, a9u⟩ := p_facts KU.qb
  obtain ⟨d0u, d1u, d2u, d3u⟩ := row4T KU.bb
  obtain ⟨c0u, -⟩ := HC.out u (grown_trans G7F.out hSu.out)
  obtain ⟨b0u, b1u, b2u, b3u, b4u, b5u, b6u, b7u, b8u, b9u, b10u⟩ := fr_cells (kept_row FF.out hSu.out (by simp))
  obtain ⟨z0u, z1u, z2u, z3u, z4u, z5u, z6u, z7u, z8u, z9u⟩ := p_facts (kept_row WF.out hSu.out (by simp))
  go_simp
  first | done | with_reducible rfl
 try simp only [Act.put, zA, zB, zC]
 refine zT (i := 32) (v := ?_) rfl ?_ hHeld ?_
 rotate_left 1
 ·intro u hSu
  have KU := KF.out.keep hSu.out
  obtain ⟨o0u, o1u, o2u⟩ := (row3f KU.ob).1
  obtain ⟨a0u, a1u, a2u, a3u, a4u, a5u, a6u, a7u, a8u, a9u⟩ := p_facts KU.qb
  obtain ⟨d0u, d1u, d2u, d3u⟩ := row4T KU.bb
  obtain ⟨c0u, -⟩ := HC.out u (grown_trans G7F.out hSu.out)
  obtain ⟨b0u, b1u, b2u, b3u, b4u, b5u, b6u, b7u, b8u, b9u, b10u⟩ := fr_cells (kept_row FF.out hSu.out (by simp))
  obtain ⟨z0u, z1u, z2u, z3u, z4u, z5u, z6u, z7u, z8u, z9u⟩ := p_facts (kept_row WF.out hSu.out (by simp))
  go_simp
  first | done | with_reducible rfl
 try simp only [Act.put, zA, zB, zC]
 refine zT (i := 33) (v := ?_) rfl ?_ hHeld ?_
 rotate_left 1
 ·intro u hSu
  have KU := KF.out.keep hSu.out
  obtain ⟨o0u, o1u, o2u⟩ := (row3f KU.ob).1
  obtain ⟨a0u, a1u, a2u, a3u, a4u, a5u, a6u, a7u, a8u, a9u⟩ := p_facts KU.qb
  obtain ⟨d0u, d1u, d2u, d3u⟩ := row4T KU.bb
  obtain ⟨c0u, -⟩ := HC.out u (grown_trans G7F.out hSu.out)
  obtain ⟨b0u, b1u, b2u, b3u, b4u, b5u, b6u, b7u, b8u, b9u, b10u⟩ := fr_cells (kept_row FF.out hSu.out (by simp))
  obtain ⟨z0u, z1u, z2u, z3u, z4u, z5u, z6u, z7u, z8u, z9u⟩ := p_facts (kept_row WF.out hSu.out (by simp))
  go_simp
  first | done | with_reducible rfl
 try simp only [Act.put, zA, zB, zC]
 refine zT (i := 34) (v := ?_) rfl ?_ hHeld ?_
 rotate_left 1
 ·intro u hSu
  have KU := KF.out.keep hSu.out
  obtain ⟨o0u, o1u, o2u⟩ := (row3f KU.ob).1
  obtain ⟨a0u, a1u, a2u, a3u, a4u, a5u, a6u, a7u, a8u, a9u⟩ := p_facts KU.qb
  obtain ⟨d0u, d1u, d2u, d3u⟩ := row4T KU.bb
  obtain ⟨c0u, -⟩ := HC.out u (grown_trans G7F.out hSu.out)
  obtain ⟨b0u, b1u, b2u, b3u, b4u, b5u, b6u, b7u, b8u, b9u, b10u⟩ := fr_cells (kept_row FF.out hSu.out (by simp))
  obtain ⟨z0u, z1u, z2u, z3u, z4u, z5u, z6u, z7u, z8u, z9u⟩ := p_facts (kept_row WF.out hSu.out (by simp))
  go_simp
  first | done | with_reducible rfl
 try simp only [Act.put, zA, zB, zC]
 refine zT (i := 35) (v := ?_) rfl ?_ hHeld ?_
 rotate_left 1
 ·intro u hSu
  have KU := KF.out.keep hSu.out
  obtain ⟨o0u, o1u, o2u⟩ := (row3f KU.ob).1
  obtain ⟨a0u, a1u, a2u, a3u, a4u, a5u, a6u, a7u, a8u, a9u⟩ := p_facts KU.qb
  obtain ⟨d0u, d1u, d2u, d3u⟩ := row4T KU.bb
  obtain ⟨c0u, -⟩ := HC.out u (grown_trans G7F.out hSu.out)
  obtain ⟨b0u, b1u, b2u, b3u, b4u, b5u, b6u, b7u, b8u, b9u, b10u⟩ := fr_cells (kept_row FF.out hSu.out (by simp))
  obtain ⟨z0u, z1u, z2u, z3u, z4u, z5u, z6u, z7u, z8u, z9u⟩ := p_facts (kept_row WF.out hSu.out (by simp))
  go_simp
  first | done | with_reducible rfl
 try simp only [Act.put, zA, zB, zC]
 refine zT (i := 36) (v := ?_) rfl ?_ hHeld ?_
 rotate_left 1
 ·intro u hSu
  have KU := KF.out.keep hSu.out
  obtain ⟨o0u, o1u, o2u⟩ := (row3f KU.ob).1
  obtain ⟨a0u, a1u, a2u, a3u, a4u, a5u, a6u, a7u, a8u, a9u⟩ := p_facts KU.qb
  obtain ⟨d0u, d1u, d2u, d3u⟩ := row4T KU.bb
  obtain ⟨c0u, -⟩ := HC.out u (grown_trans G7F.out hSu.out)
  obtain ⟨b0u, b1u, b2u, b3u, b4u, b5u, b6u, b7u, b8u, b9u, b10u⟩ := fr_cells (kept_row FF.out hSu.out (by simp))
  obtain ⟨z0u, z1u, z2u, z3u, z4u, z5u, z6u, z7u, z8u, z9u⟩ := p_facts (kept_row WF.out hSu.out (by simp))
  go_simp
  first | done | with_reducible rfl
 try simp only [Act.put, zA, zB, zC]
 refine zT (i := 37) (v := ?_) rfl ?_ hHeld ?_
 rotate_left 1
 ·intro u hSu
  have KU := KF.out.keep hSu.out
  obtain ⟨o0u, o1u, o2u⟩ := (row3f KU.ob).1
  obtain ⟨a0u, a1u, a2u, a3u, a4u, a5u, a6u, a7u, a8u, a9u⟩ := p_facts KU.qb
  obtain ⟨d0u, d1u, d2u, d3u⟩ := row4T KU.bb
  obtain ⟨c0u, -⟩ := HC.out u (grown_trans G7F.out hSu.out)
  obtain ⟨b0u, b1u, b2u, b3u, b4u, b5u, b6u, b7u, b8u, b9u, b10u⟩ := fr_cells (kept_row FF.out hSu.out (by simp))
  obtain ⟨z0u, z1u, z2u, z3u, z4u, z5u, z6u, z7u, z8u, z9u⟩ := p_facts (kept_row WF.out hSu.out (by simp))
  go_simp
  first | done | with_reducible rfl
 try simp only [Act.put, zA, zB, zC]
 refine zT (i := 38) (v := .bool false) rfl ?_ hHeld ?_
 ·intro u hSu
  have KU := KF.out.keep hSu.out
  obtain ⟨o0u, o1u, o2u⟩ := (row3f KU.ob).1
  obtain ⟨a0u, a1u, a2u, a3u, a4u, a5u, a6u, a7u, a8u, a9u⟩ := p_facts KU.qb
  obtain ⟨d0u, d1u, d2u, d3u⟩ := row4T KU.bb
  obtain ⟨c0u, -⟩ := HC.out u (grown_trans G7F.out hSu.out)
  obtain ⟨b0u, b1u, b2u, b3u, b4u, b5u, b6u, b7u, b8u, b9u, b10u⟩ := fr_cells (kept_row FF.out hSu.out (by simp))
  obtain ⟨z0u, z1u, z2u, z3u, z4u, z5u, z6u, z7u, z8u, z9u⟩ := p_facts (kept_row WF.out hSu.out (by simp))
  have hty := HTY.out.1
  have hry := HTY.out.2.1
  have hby := HTY.out.2.2
  go_simp
  first | done | rfl | assumption | simp | simp_all
 try simp only [Act.put, zA, zB, zC]
 refine zT (i := 39) (v := .bool false) rfl ?_ hHeld ?_
 ·intro u hSu
  have KU := KF.out.keep hSu.out
  obtain ⟨o0u, o1u, o2u⟩ := (row3f KU.ob).1
  obtain ⟨a0u, a1u, a2u, a3u, a4u, a5u, a6u, a7u, a8u, a9u⟩ := p_facts KU.qb
  obtain ⟨d0u, d1u, d2u, d3u⟩ := row4T KU.bb
  obtain ⟨c0u, -⟩ := HC.out u (grown_trans G7F.out hSu.out)
  obtain ⟨b0u, b1u, b2u, b3u, b4u, b5u, b6u, b7u, b8u, b9u, b10u⟩ := fr_cells (kept_row FF.out hSu.out (by simp))
  obtain ⟨z0u, z1u, z2u, z3u, z4u, z5u, z6u, z7u, z8u, z9u⟩ := p_facts (kept_row WF.out hSu.out (by simp))
  go_simp
  first | done | rfl | simp
 try simp only [Act.put, zA, zB, zC]
 refine zT (i := 40) (v := .bool false) rfl ?_ hHeld ?_
 ·intro u hSu
  have KU := KF.out.keep hSu.out
  obtain ⟨o0u, o1u, o2u⟩ := (row3f KU.ob).1
  obtain ⟨a0u, a1u, a2u, a3u, a4u, a5u, a6u, a7u, a8u, a9u⟩ := p_facts KU.qb
  obtain ⟨d0u, d1u, d2u, d3u⟩ := row4T KU.bb
  obtain ⟨c0u, -⟩ := HC.out u (grown_trans G7F.out hSu.out)
  obtain ⟨b0u, b1u, b2u, b3u, b4u, b5u, b6u, b7u, b8u, b9u, b10u⟩ := fr_cells (kept_row FF.out hSu.out (by simp))
  obtain ⟨z0u, z1u, z2u, z3u, z4u, z5u, z6u, z7u, z8u, z9u⟩ := p_facts (kept_row WF.out hSu.out (by simp))
  go_simp
  first | done | rfl | simp
 try simp only [Act.put, zA, zB, zC]
 refine zT (i := 41) (v := ?_) rfl ?_ hHeld ?_
 rotate_left 1
 ·intro u hSu
  have KU := KF.out.keep hSu.out
  obtain ⟨o0u, o1u, o2u⟩ := (row3f KU.ob).1
  obtain ⟨a0u, a1u, a2u, a3u, a4u, a5u, a6u, a7u, a8u, a9u⟩ := p_facts KU.qb
  obtain ⟨d0u, d1u, d2u, d3u⟩ := row4T KU.bb
  obtain ⟨c0u, -⟩ := HC.out u (grown_trans G7F.out hSu.out)
  obtain ⟨b0u, b1u, b2u, b3u, b4u, b5u, b6u, b7u, b8u, b9u, b10u⟩ := fr_cells (kept_row FF.out hSu.out (by simp))
  obtain ⟨z0u, z1u, z2u, z3u, z4u, z5u, z6u, z7u, z8u, z9u⟩ := p_facts (kept_row WF.out hSu.out (by simp))
  go_simp
  first | done | with_reducible rfl
 try simp only [Act.put, zA, zB, zC]
 refine zT (i := 42) (v := ?_) rfl ?_ hHeld ?_
 rotate_left 1
 ·intro u hSu
  have KU := KF.out.keep hSu.out
  obtain ⟨o0u, o1u, o2u⟩ := (row3f KU.ob).1
  obtain ⟨a0u, a1u, a2u, a3u, a4u, a5u, a6u, a7u, a8u, a9u⟩ := p_facts KU.qb
  obtain ⟨d0u, d1u, d2u, d3u⟩ := row4T KU.bb
  obtain ⟨c0u, -⟩ := HC.out u (grown_trans G7F.out hSu.out)
  obtain ⟨b0u, b1u, b2u, b3u, b4u, b5u, b6u, b7u, b8u, b9u, b10u⟩ := fr_cells (kept_row FF.out hSu.out (by simp))
  obtain ⟨z0u, z1u, z2u, z3u, z4u, z5u, z6u, z7u, z8u, z9u⟩ := p_facts (kept_row WF.out hSu.out (by simp))
  go_simp
  first | done | with_reducible rfl
 try simp only [Act.put, zA, zB, zC]
 refine zT (i := 43) (v := ?_) rfl ?_ hHeld ?_
 rotate_left 1
 ·intro u hSu
  have KU := KF.out.keep hSu.out
  obtain ⟨o0u, o1u, o2u⟩ := (row3f KU.ob).1
  obtain ⟨a0u, a1u, a2u, a3u, a4u, a5u, a6u, a7u, a8u, a9u⟩ := p_facts KU.qb
  obtain ⟨d0u, d1u, d2u, d3u⟩ := row4T KU.bb
  obtain ⟨c0u, -⟩ := HC.out u (grown_trans G7F.out hSu.out)
  obtain ⟨b0u, b1u, b2u, b3u, b4u, b5u, b6u, b7u, b8u, b9u, b10u⟩ := fr_cells (kept_row FF.out hSu.out (by simp))
  obtain ⟨z0u, z1u, z2u, z3u, z4u, z5u, z6u, z7u, z8u, z9u⟩ := p_facts (kept_row WF.out hSu.out (by simp))
  go_simp
  first | done | with_reducible rfl
 try simp only [Act.put, zA, zB, zC]
 refine zT (i := 44) (v := ?_) rfl ?_ hHeld ?_
 rotate_left 1
 ·intro u hSu
  have KU := KF.out.keep hSu.out
  obtain ⟨o0u, o1u, o2u⟩ := (row3f KU.ob).1
  obtain ⟨a0u, a1u, a2u, a3u, a4u, a5u, a6u, a7u, a8u, a9u⟩ := p_facts KU.qb
  obtain ⟨d0u, d1u, d2u, d3u⟩ := row4T KU.bb
  obtain ⟨c0u, -⟩ := HC.out u (grown_trans G7F.out hSu.out)
  obtain ⟨b0u, b1u, b2u, b3u, b4u, b5u, b6u, b7u, b8u, b9u, b10u⟩ := fr_cells (kept_row FF.out hSu.out (by simp))
  obtain ⟨z0u, z1u, z2u, z3u, z4u, z5u, z6u, z7u, z8u, z9u⟩ := p_facts (kept_row WF.out hSu.out (by simp))
  go_simp
  first | done | with_reducible rfl
 try simp only [Act.put, zA, zB, zC]
 refine zT (i := 45) (v := ?_) rfl ?_ hHeld ?_
 rotate_left 1
 ·intro u hSu
  have KU := KF.out.keep hSu.out
  obtain ⟨o0u, o1u, o2u⟩ := (row3f KU.ob).1
  obtain ⟨a0u, a1u, a2u, a3u, a4u, a5u, a6u, a7u, a8u, a9u⟩ := p_facts KU.qb
  obtain ⟨d0u, d1u, d2u, d3u⟩ := row4T KU.bb
  obtain ⟨c0u, -⟩ := HC.out u (grown_trans G7F.out hSu.out)
  obtain ⟨b0u, b1u, b2u, b3u, b4u, b5u, b6u, b7u, b8u, b9u, b10u⟩ := fr_cells (kept_row FF.out hSu.out (by simp))
  obtain ⟨z0u, z1u, z2u, z3u, z4u, z5u, z6u, z7u, z8u, z9u⟩ := p_facts (kept_row WF.out hSu.out (by simp))
  go_simp
  first | done | with_reducible rfl
 try simp only [Act.put, zA, zB, zC]
 refine zT (i := 46) (v := ?_) rfl ?_ hHeld ?_
 rotate_left 1
 ·intro u hSu
  have KU := KF.out.keep hSu.out
  obtain ⟨o0u, o1u, o2u⟩ := (row3f KU.ob).1
  obtain ⟨a0u, a1u, a2u, a3u, a4u, a5u, a6u, a7u, a8u, a9u⟩ := p_facts KU.qb
  obtain ⟨d0u, d1u, d2u, d3u⟩ := row4T KU.bb
  obtain ⟨c0u, -⟩ := HC.out u (grown_trans G7F.out hSu.out)
  obtain ⟨b0u, b1u, b2u, b3u, b4u, b5u, b6u, b7u, b8u, b9u, b10u⟩ := fr_cells (kept_row FF.out hSu.out (by simp))
  obtain ⟨z0u, z1u, z2u, z3u, z4u, z5u, z6u, z7u, z8u, z9u⟩ := p_facts (kept_row WF.out hSu.out (by simp))
  go_simp
  first | done | with_reducible rfl
 try simp only [Act.put, zA, zB, zC]
 refine zT (i := 47) (v := ?_) rfl ?_ hHeld ?_
 rotate_left 1
 ·intro u hSu
  have KU := KF.out.keep hSu.out
  obtain ⟨o0u, o1u, o2u⟩ := (row3f KU.ob).1
  obtain ⟨a0u, a1u, a2u, a3u, a4u, a5u, a6u, a7u, a8u, a9u⟩ := p_facts KU.qb
  obtain ⟨d0u, d1u, d2u, d3u⟩ := row4T KU.bb
  obtain ⟨c0u, -⟩ := HC.out u (grown_trans G7F.out hSu.out)
  obtain ⟨b0u, b1u, b2u, b3u, b4u, b5u, b6u, b7u, b8u, b9u, b10u⟩ := fr_cells (kept_row FF.out hSu.out (by simp))
  obtain ⟨z0u, z1u, z2u, z3u, z4u, z5u, z6u, z7u, z8u, z9u⟩ := p_facts (kept_row WF.out hSu.out (by simp))
  go_simp
  first | done | with_reducible rfl
 try simp only [Act.put, zA, zB, zC]
 refine wpAnyH_ready (rs := [48]) (by kernel_rfl) (by simp) ?_
 refine AllReadyH.cons (o := ⟨_, _, _, _, _, _⟩) rfl (fun Kz hK => ?_) AllReadyH.nil
 go_simp
 go_at_call 10
 refine (HHAS.out _ hHeld.out).mono ?_
 rintro e' wg ⟨rfl, rfl⟩
 simp only
 refine hK.out _ _ (hHeld) (fun hH2 => ?_)
 clear hK Kz hHeld
 have hHeld := hH2
 clear hH2
 try simp only [Act.put, zA, zB, zC]
 refine zT (i := 49) (v := .bool false) rfl ?_ hHeld ?_
 ·intro u hSu
  have KU := KF.out.keep hSu.out
  obtain ⟨o0u, o1u, o2u⟩ := (row3f KU.ob).1
  obtain ⟨a0u, a1u, a2u, a3u, a4u, a5u, a6u, a7u, a8u, a9u⟩ := p_facts KU.qb
  obtain ⟨d0u, d1u, d2u, d3u⟩ := row4T KU.bb
  obtain ⟨c0u, -⟩ := HC.out u (grown_trans G7F.out hSu.out)
  obtain ⟨b0u, b1u, b2u, b3u, b4u, b5u, b6u, b7u, b8u, b9u, b10u⟩ := fr_cells (kept_row FF.out hSu.out (by simp))
  obtain ⟨z0u, z1u, z2u, z3u, z4u, z5u, z6u, z7u, z8u, z9u⟩ := p_facts (kept_row WF.out hSu.out (by simp))
  go_simp
  first | done | rfl | simp
 try simp only [Act.put, zA, zB, zC]
 refine wpAnyH_done (by kernel_rfl) ?_ _
 generalize wf.drew = wg at *
 have GG := Lib.hid (grown_trans GF.out hHeld.out)
 have OG := Lib.hid (own_keptN OF.out hHeld.out)
 have KG := Lib.hid (K0.out.keep GG.out)
 have FG := Lib.hid (kept_row FF.out hHeld.out (by simp))
 have C7 := Lib.hid (HC.out _ (grown_trans G7F.out hHeld.out))
 clear hHeld GF OF KF FF WF G7F
 obtain ⟨o0, o1, o2⟩ := (row3f KG.out.ob).1
 have b9 := cell_of_row _ _ 9 _ _ _ FG.out
 simp at b9
 obtain ⟨c0, -⟩ := C7.out
 have hor := HOR.out
 have hsz : w6.heap.size ≤ wg.heap.size := GG.out.size
 have hcs64 := hcl
 go_wp2_with (at_builtin; refine hold_on ?_)
 refine wpList_append_lies _ rfl _ _ 22 rfl w6.heap.size 3 ie (.int .i64 0) 1 8 Tryd.underlying22 hie he0 he1 he2 rfl (by decide) (.slice po i co) i (((cs.take i).map (fun z => z.1)).map tv) rfl (OG.out.alloc _) ⟨wg.heap.size, 0, none⟩ 1 1 [.int .i64 y.1] rfl rfl (cell_one wg (.int .i64 y.1) _) (by intro u hu; simp at hu; subst hu; rfl) (by decide) (by unfold maxLen; omega) (by omega) (by simp; omega) _ rfl ?_
 intro g2 cap wh hown hgrow hat hlt9
 have HEND := Lib.hid (And.intro (grown_any (grown_trans GG.out (World.grownBy_alloc _ _ none)) hgrow (fun b hb e => by have := (OG.out.lt b e.symm).1; omega)) (show wh.ownsRow w6.heap.size 3 1 (.slice (some ⟨g2, 0, none⟩) (i + 1) cap) (i + 1) (((cs.take (i + 1)).map (fun z => z.1)).map tv) by rw [HTO.out, List.map_append]; exact hown))
 clear hown hgrow hat hlt9 o0 o1 o2 b9 c0 hor hsz GG OG KG FG C7
 go_wp2_with fail
 exact ⟨⟨i + 1, some ⟨g2, 0, none⟩, cap, by omega, by rw [HB.out], rfl, congrArg _ (by omega), HEND⟩, by simp only [RowKit.intOf]; omega⟩
end Go.Proofs.YtpogblengagpaaaDoor

/- Parts of the proof, packed: IdRtw, IdPln, IdVpl, IdRck, IdRcn, IdAwk, IdInt, IdRep, IdRvp, TaRAl. -/
import Derived.Test.YtahafijpcmphaaaGreatQt15
import Derived.Deep.CutRange
import Derived.Test.YtahafijpcmphaaaGreatQt13
import Derived.Laws.StructEq
import Derived.Test.YtahafijpcmphaaaGreatQt3
/- identify: routerTwice. -/
namespace Go.Proofs.YtahafijpcmphaaaGreat
set_option maxRecDepth 100000
open Go.RowKit Bs
theorem info_bs1 : (Tryz.prog.info? 102).map (fun i => (i.zero, i.size)) = some (some (.agg (arrV 100 (bvN fun _ => false))), 100) := by kernel_rfl
theorem rep_yes {L : List Int} {k : Nat} {x : Int} (hx : L[k]? = some x) (h : x ∈ L.take k) : repI L = true := by
 have hk : k < L.length := (List.getElem?_eq_some_iff.1 hx).1
 unfold repI
 refine List.any_eq_true.2 ⟨k, List.mem_range.2 hk, ?_⟩
 rw [List.getD_eq_getElem?_getD, hx]
 simpa using h
theorem rep_no {L : List Int} (h : ∀ k x, L[k]? = some x → x ∉ L.take k) : repI L = false := by
 unfold repI
 rw [List.any_eq_false]
 intro k hk
 have hk := List.mem_range.1 hk
 rw [List.getD_eq_getElem?_getD, List.getElem?_eq_getElem hk]
 simpa using h k _ (List.getElem?_eq_getElem hk)
theorem wre_r {x : Ed} (h : wrE x = false) : 1 ≤ x.r ∧ x.r ≤ 99 := by
 unfold wrE inV at h
 simp only [Bool.not_eq_false', Bool.and_eq_true, decide_eq_true_eq] at h
 exact h.1
structure RT (W : World) (E : List Ed) (p : Option Addr) (c B : Nat) (kf : Nat → Bool) (w : World) : Prop where
 kb : w.heap[B]? = some (.cells (arrV 100 (bvN kf)) 102 (0, 0))
 rd : RdF w (· < W.heap.size) (.slice p E.length c) E.length (E.flatMap edC)
 gr : W.grownBy w none
 lo : W.heap.size ≤ B
section
variable {W w w1 : World} {E : List Ed} {p : Option Addr} {c B : Nat} {kf : Nat → Bool}
theorem RT.keep (h : RT W E p c B kf w) (g : w.grownBy w1 none) : RT W E p c B kf w1 := ⟨kept_row h.kb g (by simp), h.rd.keep g, grown_trans h.gr g, h.lo⟩
theorem RT.put (h : RT W E p c B kf w) {m : Nat} (hm : m < 100) : RT W E p c B (fun j => if j = m then true else kf j) (w.setCell ⟨B, m, none⟩ (.bool true)) := by
 obtain ⟨h1, h2⟩ := arr_put (.bool true) h.kb hm
 have hlo := h.lo
 refine ⟨?_, h.rd.grown h2 (fun b hb e => by have := Option.some.inj e; omega), grown_new h.gr h2 (by omega), hlo⟩
 rw [h1]
 congr 2
 refine arr_congr fun j _ => ?_
 unfold bvN
 show (if j = m then _ else _) = Value.bool (if j = m then true else kf j)
 split <;> rfl
end
def rsE (E : List Ed) : List Int := E.map Ed.r
theorem rsE_at {E : List Ed} {k : Nat} {x : Ed} (h : E[k]? = some x) : (rsE E)[k]? = some x.r := by unfold rsE; rw [List.getElem?_map, h]; rfl
set_option maxHeartbeats 6400000 in
theorem irtw_any (E : List Ed) (p : Option Addr) (c : Nat) (q : Nat → Prop) (w : World) (hR : RdF w q (.slice p E.length c) E.length (E.flatMap edC)) (hv : E.any wrE = false) (hm : E.length ≤ 9223372036854775807) :
  Calls Tryz.prog 151 #[.slice p E.length c] w fun e w' => e = .returned (.bool (repI (rsE E))) ∧ w.grownBy w' none := by
 have HZ2 := (zero_of_info info_bs1).1
 obtain ⟨n1, n2⟩ := tone_box w (arrV 100 (bvN fun _ => false)) 102
 have E0 : Hid (RT w E p c w.heap.size (fun j => decide ((j : Int) ∈ (rsE E).take 0)) _) := Lib.hid ⟨by rw [n1]; congr 2, hR.old.keep n2, n2, Nat.le_refl _⟩
 have HV := Lib.hid (fun x hx => wre_r (any_mem hv (x := x) hx))
 clear n1 n2 hR hv
 go_enter Tryz.func151, Tryz.ntmps151
 go_upto_region 2 with fail
 generalize w.alloc _ = w1 at *
 obtain ⟨B, hB⟩ : ∃ B, w.heap.size = B := ⟨_, rfl⟩
 rw [hB] at E0 ⊢
 clear hB HZ2
 have HN0 : Hid (∀ j x, j < 0 → (rsE E)[j]? = some x → x ∉ (rsE E).take j) := Lib.hid (fun j x h => by omega)
 go_wp2_with fail
 go_loopw [8] (fun a wr => ∃ k : Nat, k ≤ E.length ∧ a = .int .i64 (k : Int) ∧ Hid (∀ j x, j < k → (rsE E)[j]? = some x → x ∉ (rsE E).take j) ∧ Hid (RT w E p c B (fun j => decide ((j : Int) ∈ (rsE E).take k)) wr)) (fun a _ => E.length - (RowKit.intOf a).toNat)
 case atStart => exact ⟨0, by omega, rfl, HN0, E0⟩
 case round =>
  obtain ⟨w5, rfl⟩ : ∃ w5, w5 = wr := ⟨_, rfl⟩
  obtain ⟨k, hk, rfl, HN, N⟩ := hrel
  clear E0 HN0
  by_cases hlt : k < E.length
  ·have hlt' : (k : Int) < (E.length : Int) := by omega
   obtain ⟨-, b, off, rfl, -, hcc⟩ := ed_cells N.out.rd (by omega)
   obtain ⟨x, hx⟩ : ∃ x, E[k]? = some x := ⟨_, List.getElem?_eq_getElem hlt⟩
   obtain ⟨a0, a1⟩ := hcc k x hx
   have hxr := HV.out x (List.mem_of_getElem? hx)
   obtain ⟨m, hm1⟩ : ∃ m : Nat, x.r = (m : Int) := ⟨x.r.toNat, by omega⟩
   have hm2 : m < 100 := by omega
   have HX := Lib.hid (rsE_at hx)
   have HB := Lib.hid (heap_alloc_new w5 (.cells #[.int .i64 x.r, .int .i64 x.i] 71))
   have HG := Lib.hid (World.grownBy_alloc w5 (.cells #[.int .i64 x.r, .int .i64 x.i] 71) none)
   have HM1 := Lib.hid hm1
   clear hcc hx hm1 hxr
   go_upto_region 5 with fail
   clear a0 a1
   generalize w5.alloc _ = w6 at *
   have N1 := Lib.hid (N.out.keep HG.out)
   rw [HM1.out] at HB HX
   obtain ⟨d0, d1⟩ := row_cells HB.out
   obtain ⟨kb, hkb⟩ : ∃ b : Bool, decide ((m : Int) ∈ (rsE E).take k) = b := ⟨_, rfl⟩
   have e1 : w6.cell? ⟨B, m, none⟩ = some (.bool kb) := by rw [← hkb]; exact arr_row N1.out.kb hm2
   have f1 := frozen_of_row _ _ m _ _ N1.out.kb
   have HKB := Lib.hid hkb
   clear hkb N HG
   cases kb with
   | true =>
    have HT := Lib.hid (rep_yes HX.out (of_decide_eq_true HKB.out))
    go_wp2_with fail
    go_ret
    rw [HT.out]
    exact ⟨rfl, N1.out.gr⟩
   | false =>
    have N2 := N1.out.put hm2
    have HKF : (fun j : Nat => if j = m then true else decide ((j : Int) ∈ (rsE E).take k)) = fun j : Nat => decide ((j : Int) ∈ (rsE E).take (k + 1)) := by
     funext j
     rw [List.take_add_one, HX.out]
     by_cases hj : j = m
     ·subst hj
      rw [if_pos rfl]
      exact (decide_eq_true (by simp)).symm
     ·rw [if_neg hj]
      congr 1
      simp only [Option.toList, List.mem_append, List.mem_singleton, eq_iff_iff]
      constructor
      ·exact fun h => Or.inl h
      ·rintro (h | h)
       ·exact h
       ·exact absurd (by omega) hj
    rw [HKF] at N2
    have N3 := Lib.hid N2
    have HN2 : Hid (∀ j x, j < k + 1 → (rsE E)[j]? = some x → x ∉ (rsE E).take j) := Lib.hid (fun j y hj hy => by
     by_cases hjk : j < k
     ·exact HN.out j y hjk hy
     ·obtain rfl : j = k := by omega
      rw [HX.out] at hy
      obtain rfl := Option.some.inj hy
      exact of_decide_eq_false HKB.out)
    clear N2 HKF N1
    go_wp2_with fail
    exact ⟨⟨k + 1, by omega, congrArg _ (by omega), HN2, N3⟩, by simp only [RowKit.intOf]; omega⟩
  ·obtain rfl : k = E.length := by omega
   have hnl : ¬ (E.length : Int) < (E.length : Int) := by omega
   have HT := Lib.hid (rep_no (L := rsE E) (fun j x hx => HN.out j x (by
    have := (List.getElem?_eq_some_iff.1 hx).1
    unfold rsE at this
    rw [List.length_map] at this
    exact this) hx))
   go_wp2_with fail
   go_ret
   rw [HT.out]
   exact ⟨rfl, N.out.gr⟩
end Go.Proofs.YtahafijpcmphaaaGreat

/- identify: Plan. -/
namespace Go.Proofs.YtahafijpcmphaaaGreat
set_option maxRecDepth 100000
open Go.RowKit Bs
theorem row3i {w : World} {b : Nat} {t : TypeId} {x y z : Value} (h : w.heap[b]? = some (.cells #[x, y, z] t (0, 0))) : (w.cell? ⟨b, 0, none⟩ = some x ∧ w.cell? ⟨b, 1, none⟩ = some y ∧ w.cell? ⟨b, 2, none⟩ = some z) ∧ ∀ o, w.frozen? ⟨b, o, none⟩ = false :=
 ⟨⟨cell_of_row _ _ _ _ _ _ h, cell_of_row _ _ _ _ _ _ h, cell_of_row _ _ _ _ _ _ h⟩, fun o => frozen_of_row _ _ o _ _ h⟩
end Go.Proofs.YtahafijpcmphaaaGreat

/- identify: ValidPlan. -/
namespace Go.Proofs.YtahafijpcmphaaaGreat
set_option maxRecDepth 100000
open Go.RowKit Bs
set_option maxHeartbeats 6400000 in
theorem ivplan_any (sub n : Int) (E : List Ed) (p : Option Addr) (c : Nat) (q : Nat → Prop) (w : World) (hR : RdF w q (.slice p E.length c) E.length (E.flatMap edC)) (hm : E.length ≤ 9223372036854775807) :
  Calls Tryz.prog 113 #[.agg #[.int .i64 sub, .int .i64 n, .slice p E.length c]] w fun e w' => e = .returned (.bool (vPl sub n E)) ∧ w.grownBy w' none := by
 obtain ⟨k1, k2⟩ := tone_box w #[.int .i64 sub, .int .i64 n, .slice p E.length c] 48
 have H0 := Lib.hid (And.intro k1 (And.intro k2 (hR.keep k2)))
 have e1 : EnterF 148 := enters_of Tryz.func148 (by kernel_rfl) rfl
 have E1 := Lib.hid e1
 clear k1 k2 hR e1
 go_enter Tryz.func113, Tryz.ntmps113
 go_upto_region 1 with fail
 generalize w.alloc _ = w1 at *
 obtain ⟨⟨d0, d1, d2⟩, -⟩ := row3i H0.out.1
 obtain ⟨b1, hb1⟩ : ∃ b, inV sub 0 7 = b := ⟨_, rfl⟩
 have B1 := Lib.hid hb1
 clear hb1
 go_wp2_with fail
 refine (ivs_lit sub _ B1.out w1).mono ?_
 rintro e w' ⟨rfl, rfl⟩
 cases b1
 case false =>
  go_wp2_with fail
  go_ret
  exact ⟨by unfold vPl; rw [B1.out]; rfl, H0.out.2.1⟩
 by_cases h24 : 24 < E.length
 ·have h24' : (24 : Int) < (E.length : Int) := by omega
  go_wp2_with fail
  go_ret
  exact ⟨by unfold vPl; rw [decide_eq_false (show ¬ E.length ≤ 24 by omega)]; simp, H0.out.2.1⟩
 have h24' : ¬ (24 : Int) < (E.length : Int) := by omega
 obtain ⟨b2, hb2⟩ : ∃ b, vl n = b := ⟨_, rfl⟩
 have B2 := Lib.hid hb2
 clear hb2
 go_wp2_with fail
 refine (vlp_lit n _ B2.out w1).mono ?_
 rintro e w' ⟨rfl, rfl⟩
 cases b2
 case true =>
  have HP : Hid (vPl sub n E = (!E.any wrE && ascB ltE E && !repI (rsE E))) := Lib.hid (by
   unfold vPl rsE
   rw [B1.out, B2.out, decide_eq_true (show E.length ≤ 24 by omega)]
   simp)
  go_wp2_with fail
  refine (icontE_any 148 #[] wrE E1.out E p c _ w1 H0.out.2.2 hm (fun r w' _ => iwre_any r w')).mono ?_
  rintro e w2 ⟨rfl, hg⟩
  have H2 := Lib.hid (And.intro (kept_row H0.out.1 hg (by simp)) (And.intro (grown_trans H0.out.2.1 hg) (H0.out.2.2.keep hg)))
  clear hg
  clear d0 d1 d2
  obtain ⟨⟨d0, d1, d2⟩, -⟩ := row3i H2.out.1
  cases f1 : E.any wrE
  case true =>
   have F1 := Lib.hid f1
   clear f1
   go_wp2_with fail
   go_ret
   exact ⟨by rw [HP.out, F1.out]; rfl, H2.out.2.1⟩
  have F1 := Lib.hid f1
  clear f1
  go_wp2_with fail
  refine (iascE_any E p c _ w2 H2.out.2.2 hm).mono ?_
  rintro e w3 ⟨rfl, hg⟩
  have H3 := Lib.hid (And.intro (kept_row H2.out.1 hg (by simp)) (And.intro (grown_trans H2.out.2.1 hg) (H2.out.2.2.keep hg)))
  clear hg
  clear d0 d1 d2 H2
  obtain ⟨⟨d0, d1, d2⟩, -⟩ := row3i H3.out.1
  cases f2 : ascB ltE E
  case false =>
   have F2 := Lib.hid f2
   clear f2
   go_wp2_with fail
   go_ret
   exact ⟨by rw [HP.out, F1.out, F2.out]; rfl, H3.out.2.1⟩
  have F2 := Lib.hid f2
  clear f2
  go_wp2_with fail
  refine (irtw_any E p c _ w3 H3.out.2.2 F1.out hm).mono ?_
  rintro e w4 ⟨rfl, hg⟩
  have G4 := Lib.hid (grown_trans H3.out.2.1 hg)
  clear hg
  clear d0 d1 d2 H3
  have HRP : Hid (vPl sub n E = !repI (rsE E)) := Lib.hid (by rw [HP.out, F1.out, F2.out]; rfl)
  go_wp2_with fail
  go_ret
  rw [HRP.out]
  exact ⟨rfl, G4.out⟩
 by_cases hn0 : n = 0
 case neg =>
  have hn0' : (n != 0) = true := by simpa using hn0
  have HF : Hid (vPl sub n E = false) := Lib.hid (by unfold vPl; rw [B2.out, decide_eq_false hn0]; simp)
  clear hn0
  go_wp2_with fail
  go_ret
  rw [HF.out]
  exact ⟨rfl, H0.out.2.1⟩
 have hn0' : (n != 0) = false := by simpa using hn0
 by_cases hE : 0 < E.length
 case pos =>
  have hE' : (0 : Int) < (E.length : Int) := by omega
  have HF : Hid (vPl sub n E = false) := Lib.hid (by unfold vPl; rw [B2.out, decide_eq_false (show ¬ E.length = 0 by omega)]; simp)
  clear hE
  go_wp2_with fail
  go_ret
  rw [HF.out]
  exact ⟨rfl, H0.out.2.1⟩
 have hE' : ¬ (0 : Int) < (E.length : Int) := by omega
 have HP : Hid (vPl sub n E = (!E.any wrE && ascB ltE E && !repI (rsE E))) := Lib.hid (by
  unfold vPl rsE
  rw [B1.out, decide_eq_true (show E.length ≤ 24 by omega), decide_eq_true hn0, decide_eq_true (show E.length = 0 by omega)]
  simp)
 clear hn0 hE
 go_wp2_with fail
 refine (icontE_any 148 #[] wrE E1.out E p c _ w1 H0.out.2.2 hm (fun r w' _ => iwre_any r w')).mono ?_
 rintro e w2 ⟨rfl, hg⟩
 have H2 := Lib.hid (And.intro (kept_row H0.out.1 hg (by simp)) (And.intro (grown_trans H0.out.2.1 hg) (H0.out.2.2.keep hg)))
 clear hg
 clear d0 d1 d2
 obtain ⟨⟨d0, d1, d2⟩, -⟩ := row3i H2.out.1
 cases f1 : E.any wrE
 case true =>
  have F1 := Lib.hid f1
  clear f1
  go_wp2_with fail
  go_ret
  exact ⟨by rw [HP.out, F1.out]; rfl, H2.out.2.1⟩
 have F1 := Lib.hid f1
 clear f1
 go_wp2_with fail
 refine (iascE_any E p c _ w2 H2.out.2.2 hm).mono ?_
 rintro e w3 ⟨rfl, hg⟩
 have H3 := Lib.hid (And.intro (kept_row H2.out.1 hg (by simp)) (And.intro (grown_trans H2.out.2.1 hg) (H2.out.2.2.keep hg)))
 clear hg
 clear d0 d1 d2 H2
 obtain ⟨⟨d0, d1, d2⟩, -⟩ := row3i H3.out.1
 cases f2 : ascB ltE E
 case false =>
  have F2 := Lib.hid f2
  clear f2
  go_wp2_with fail
  go_ret
  exact ⟨by rw [HP.out, F1.out, F2.out]; rfl, H3.out.2.1⟩
 have F2 := Lib.hid f2
 clear f2
 go_wp2_with fail
 refine (irtw_any E p c _ w3 H3.out.2.2 F1.out hm).mono ?_
 rintro e w4 ⟨rfl, hg⟩
 have G4 := Lib.hid (grown_trans H3.out.2.1 hg)
 clear hg
 clear d0 d1 d2 H3
 have HRP : Hid (vPl sub n E = !repI (rsE E)) := Lib.hid (by rw [HP.out, F1.out, F2.out]; rfl)
 go_wp2_with fail
 go_ret
 rw [HRP.out]
 exact ⟨rfl, G4.out⟩
end Go.Proofs.YtahafijpcmphaaaGreat

/- empty -/
namespace Go.Proofs.YtahafijpcmphaaaGreat
set_option maxRecDepth 100000
end Go.Proofs.YtahafijpcmphaaaGreat

/- empty -/
namespace Go.Proofs.YtahafijpcmphaaaGreat
set_option maxRecDepth 100000
end Go.Proofs.YtahafijpcmphaaaGreat

/- empty -/
namespace Go.Proofs.YtahafijpcmphaaaGreat
set_option maxRecDepth 100000
end Go.Proofs.YtahafijpcmphaaaGreat

/- empty -/
namespace Go.Proofs.YtahafijpcmphaaaGreat
set_option maxRecDepth 100000
end Go.Proofs.YtahafijpcmphaaaGreat

/- The reference's Repeats. -/
namespace Go.Proofs.YtahafijpcmphaaaGreat
set_option maxRecDepth 100000
open Go.RowKit Bs
theorem rdi_cellsI {w : World} {q : Nat → Prop} {p : Option Addr} {n c : Nat} {r : List Int} (h : Rd w q (.slice p n c) (r.map fun z => Value.int .i64 z)) (hn : 0 < r.length) :
  ∃ b off, p = some ⟨b, off, none⟩ ∧ q b ∧ ∀ i, i < r.length → w.cell? ⟨b, off + i, none⟩ = some (.int .i64 (r.getD i 0)) := by
 obtain ⟨p1, c1, e1, hx⟩ := h
 injection e1 with a1 a2 a3
 subst a1
 obtain ⟨b, off, hp, hq, hc⟩ := hx (by intro e; have := congrArg List.length e; simp only [List.length_map, List.length_nil] at this; omega)
 refine ⟨b, off, hp, hq, fun i hi => hc i _ ?_⟩
 rw [List.getElem?_map, List.getElem?_eq_getElem hi, List.getD_eq_getElem?_getD, List.getElem?_eq_getElem hi]; rfl
theorem rep_hitI {r : List Int} {k : Nat} {y : Int} (hk : k < r.length) (hy : r.getD k 0 = y) (h : (r.take k).contains y = true) : repI r = true := by
 refine List.any_eq_true.2 ⟨k, List.mem_range.2 hk, ?_⟩
 rw [hy]; exact h
theorem rep_missI {r : List Int} (h : ∀ j, j < r.length → (r.take j).contains (r.getD j 0) = false) : repI r = false := by
 rw [Bool.eq_false_iff]
 intro hr
 obtain ⟨k, hk, h2⟩ := List.any_eq_true.1 hr
 rw [h k (List.mem_range.1 hk)] at h2
 cases h2
set_option maxHeartbeats 3200000 in
theorem irep_any (r : List Int) (p : Option Addr) (c : Nat) (q : Nat → Prop) (w : World) (hR : Rd w q (.slice p r.length c) (r.map fun z => Value.int .i64 z)) (hm : r.length ≤ 9223372036854775807) :
  Calls Tryz.prog 117 #[.slice p r.length c] w fun e w' => e = .returned (.bool (repI r)) ∧ w.grownBy w' none := by
 have HR := Lib.hid hR
 clear hR
 go_enter Tryz.func117, Tryz.ntmps117
 go_wp2_with fail
 go_loopw [3] (fun a wr => ∃ k : Nat, k ≤ r.length ∧ a = .int .i64 (k : Int) ∧ Hid (w.grownBy wr none) ∧ Hid (∀ j, j < k → (r.take j).contains (r.getD j 0) = false)) (fun a _ => r.length - (RowKit.intOf a).toNat)
 case atStart => exact ⟨0, Nat.zero_le _, rfl, Lib.hid (grown_refl _ _), Lib.hid fun j hj => absurd hj (Nat.not_lt_zero _)⟩
 case round =>
  obtain ⟨k, hk, rfl, hG, hN⟩ := hrel
  by_cases hlt : k < r.length
  ·obtain ⟨y, hy⟩ : ∃ y, r.getD k 0 = y := ⟨_, rfl⟩
   have HY := Lib.hid hy
   clear hy
   go_wp2_with fail
   go_loopw [4] (fun a wi => ∃ m : Nat, m ≤ k ∧ a = .int .i64 (m : Int) ∧ Hid (w.grownBy wi none) ∧ Hid (∀ j, j < m → r.getD j 0 ≠ y)) (fun a _ => k - (RowKit.intOf a).toNat)
   case atStart => exact ⟨0, Nat.zero_le _, rfl, hG, Lib.hid fun j hj => absurd hj (Nat.not_lt_zero _)⟩
   case round =>
    obtain ⟨m, hmk, rfl, hG2, hN2⟩ := hrel
    by_cases hm2 : m < k
    ·obtain ⟨b, off, rfl, _, hc⟩ := rdi_cellsI (HR.out.keep hG2.out) (by omega)
     have c0 := hc k hlt
     have c1 := hc m (by omega)
     rw [HY.out] at c0
     obtain ⟨z, hz⟩ : ∃ z, r.getD m 0 = z := ⟨_, rfl⟩
     rw [hz] at c1
     have HZ := Lib.hid hz
     have hml : m < r.length := by omega
     clear hc hz
     by_cases e : y = z
     ·subst e
      go_wp2_with fail
      go_region
      change Exit.then _ _ _ _ wr.drew
      have HG3 := Lib.hid (grown_drew hG2.out)
      clear c0 c1 hG2 hG
      generalize wr.drew = w2 at *
      go_wp2_with fail
      go_ret
      rw [rep_hitI hlt HY.out (by
       rw [List.contains_iff_mem]
       have h3 := HZ.out
       rw [List.getD_eq_getElem?_getD, List.getElem?_eq_getElem hml] at h3
       rw [← show r[m] = y from h3]
       exact List.mem_of_getElem? (i := m) (by rw [List.getElem?_take, if_pos hm2, List.getElem?_eq_getElem hml]))]
      exact ⟨rfl, HG3.out⟩
     ·have eb : (y == z) = false := by simpa using e
      go_wp2_with fail
      go_region
      change Exit.then _ _ _ _ wr.drew
      have HG3 := Lib.hid (grown_drew hG2.out)
      clear c0 c1 hG2 hG
      generalize wr.drew = w2 at *
      go_wp2_with fail
      refine ⟨⟨m + 1, by omega, by go_num, HG3, Lib.hid fun j hj => ?_⟩, by simp [RowKit.intOf]; omega⟩
      by_cases h2 : j = m
      ·subst h2
       rw [HZ.out]
       exact fun h => e h.symm
      ·exact hN2.out j (by omega)
    ·obtain rfl : m = k := by omega
     go_wp2_with fail
     refine ⟨⟨m + 1, by omega, by go_num, hG2, Lib.hid fun j hj => ?_⟩, by simp [RowKit.intOf]; omega⟩
     by_cases h2 : j = m
     ·subst h2
      rw [HY.out, Bool.eq_false_iff]
      intro hcn
      rw [List.contains_iff_mem] at hcn
      obtain ⟨i, hi, he⟩ := List.getElem_of_mem hcn
      rw [List.length_take] at hi
      refine hN2.out i (by omega) ?_
      rw [List.getD_eq_getElem?_getD, List.getElem?_eq_getElem (by omega)]
      rw [List.getElem_take] at he
      exact he
     ·exact hN.out j (by omega)
  ·obtain rfl : k = r.length := by omega
   go_wp2_with fail
   go_ret
   rw [rep_missI hN.out]
   exact ⟨rfl, hG.out⟩
end Go.Proofs.YtahafijpcmphaaaGreat

/- The reference's ValidPlan. -/
namespace Go.Proofs.YtahafijpcmphaaaGreat
set_option maxRecDepth 100000
open Go.RowKit Bs
structure RQ (W : World) (sub n : Int) (E : List Ed) (p : Option Addr) (c : Nat) (v : Value) (M : List Int) (w : World) : Prop where
 bx : w.heap[W.heap.size]? = some (.cells #[.int .i64 sub, .int .i64 n, .slice p E.length c] 48 (0, 0))
 rd : RdF w (· < W.heap.size) (.slice p E.length c) E.length (E.flatMap edC)
 own : w.ownsRow (W.heap.size + 1) 3 1 v M.length (M.flatMap ivC)
 gr : W.grownBy w none
 sz : W.heap.size + 1 ≤ w.heap.size
section
variable {W w w1 : World} {sub n : Int} {E : List Ed} {p : Option Addr} {c : Nat} {v v' : Value} {M N : List Int}
theorem RQ.keep (h : RQ W sub n E p c v M w) (g : w.grownBy w1 none) : RQ W sub n E p c v M w1 :=
 ⟨kept_row h.bx g (by simp), h.rd.keep g, h.own.kept g (by cases v.ownBlock <;> simp), grown_trans h.gr g, Nat.le_trans h.sz g.size⟩
theorem RQ.app {o : Obj} (h : RQ W sub n E p c v M w) (hown : w1.ownsRow (W.heap.size + 1) 3 1 v' N.length (N.flatMap ivC)) (hg : (w.alloc o).grownBy w1 v.ownBlock) : RQ W sub n E p c v' N w1 := by
 have h1 := h.keep (World.grownBy_alloc w o none)
 have hne : ∀ b, b < W.heap.size + 1 → some b ≠ v.ownBlock := fun b hb e => by have := (h.own.lt b e.symm).1; omega
 exact ⟨kept_row h1.bx hg (hne _ (by omega)), h1.rd.grown hg (fun b hb => hne b (by omega)), hown, grown_any h1.gr hg (fun b hb => hne b (by omega)), Nat.le_trans h1.sz hg.size⟩
theorem keep4q {a1 a2 a3 a4 : Addr} {x1 x2 x3 x4 : Value} (h : w.cell? a1 = some x1 ∧ w.cell? a2 = some x2 ∧ w.cell? a3 = some x3 ∧ w.cell? a4 = some x4) (hg : Hid (w.grownBy w1 none)) :
  w1.cell? a1 = some x1 ∧ w1.cell? a2 = some x2 ∧ w1.cell? a3 = some x3 ∧ w1.cell? a4 = some x4 ∧ Hid (w.grownBy w1 none) := ⟨hg.out.cell h.1 (by simp), hg.out.cell h.2.1 (by simp), hg.out.cell h.2.2.1 (by simp), hg.out.cell h.2.2.2 (by simp), hg⟩
end
theorem vpl_wr {sub n : Int} {E : List Ed} {k : Nat} {y : Ed} (hy : E[k]? = some y) (h : wrE y = true) : vPl sub n E = false := by
 unfold vPl
 rw [any_at hy h]
 simp
theorem vpl_as {sub n : Int} {E : List Ed} {j : Nat} {x y : Ed} (hx : E[j]? = some x) (hy : E[j + 1]? = some y) (h : ¬ x.i < y.i) : vPl sub n E = false := by
 have : ascB ltE E = false := by
  rw [Bool.eq_false_iff]
  intro ha
  exact h (of_decide_eq_true ((ascB_iff ltE E).1 ha j x y hx hy))
 unfold vPl
 rw [this]
 simp
theorem rsE_snoc {E : List Ed} {k : Nat} {y : Ed} (hy : E[k]? = some y) : rsE (E.take (k + 1)) = rsE (E.take k) ++ [y.r] := by
 unfold rsE
 rw [List.take_add_one, hy, List.map_append]
 rfl
set_option maxHeartbeats 12800000 in
theorem irvplan_any (sub n : Int) (E : List Ed) (p : Option Addr) (c : Nat) (q : Nat → Prop) (w : World) (hR : RdF w q (.slice p E.length c) E.length (E.flatMap edC)) (hm : E.length ≤ 9223372036854775807) :
  Calls Tryz.prog 87 #[.agg #[.int .i64 sub, .int .i64 n, .slice p E.length c]] w fun e w' => e = .returned (.bool (vPl sub n E)) ∧ w.grownBy w' none := by
 obtain ⟨ii, hi, hi0, hi1, hi2⟩ := info_parts info_int
 obtain ⟨k1, k2⟩ := tone_box w #[.int .i64 sub, .int .i64 n, .slice p E.length c] 48
 have H0 : Hid (RQ w sub n E p c (.slice none 0 0) (rsE (E.take 0)) _) := Lib.hid ⟨k1, hR.old.keep k2, World.ownsRow_nil _ _ _ _, k2, by simp⟩
 clear k1 k2 hR
 go_enter Tryz.func87, Tryz.ntmps87
 go_upto_region 1 with fail
 generalize w.alloc _ = w1 at *
 obtain ⟨⟨d0, d1, d2⟩, -⟩ := row3i H0.out.bx
 obtain ⟨b1, hb1⟩ : ∃ b, inV sub 0 7 = b := ⟨_, rfl⟩
 have B1 := Lib.hid hb1
 clear hb1
 go_wp2_with fail
 refine (rin10_lit sub 0 7 _ B1.out w1).mono ?_
 rintro e w' ⟨rfl, rfl⟩
 cases b1
 case false =>
  go_wp2_with fail
  go_ret
  exact ⟨by unfold vPl; rw [B1.out]; rfl, H0.out.gr⟩
 obtain ⟨b2, hb2⟩ : ∃ b, vl n = b := ⟨_, rfl⟩
 have B2 := Lib.hid hb2
 clear hb2
 go_wp2_with fail
 refine (vlr10_lit n _ B2.out w1).mono ?_
 rintro e w' ⟨rfl, rfl⟩
 cases b2
 case true =>
  have HP : Hid (E.length ≤ 24 → vPl sub n E = (!E.any wrE && ascB ltE E && !repI (rsE E))) := Lib.hid (fun h => by
   unfold vPl rsE
   rw [B1.out, B2.out, decide_eq_true h]
   simp)
  by_cases h24 : 24 < E.length
  case pos =>
   have h24' : (24 : Int) < (E.length : Int) := by omega
   have HF0 : Hid (vPl sub n E = false) := Lib.hid (by unfold vPl; rw [decide_eq_false (show ¬ E.length ≤ 24 by omega)]; simp)
   go_wp2_with fail
   go_ret
   rw [HF0.out]
   exact ⟨rfl, H0.out.gr⟩
  have h24' : ¬ (24 : Int) < (E.length : Int) := by omega
  have HP2 := Lib.hid (HP.out (by omega))
  have HA0 : Hid ((E.take 0).any wrE = false ∧ ∀ i x y, i + 1 < 0 → E[i]? = some x → E[i + 1]? = some y → ltE x y = true) := Lib.hid ⟨rfl, fun i x y h => by omega⟩
  clear HP
  go_wp2_with fail
  clear d0 d1 d2
  go_loopw [3, 4] (fun u a wr => ∃ (k : Nat) (v : Value), v = u ∧ k ≤ E.length ∧ a = .int .i64 (k : Int) ∧ Hid ((E.take k).any wrE = false ∧ ∀ i x y, i + 1 < k → E[i]? = some x → E[i + 1]? = some y → ltE x y = true) ∧ Hid (RQ w sub n E p c v (rsE (E.take k)) wr)) (fun _ a _ => E.length - (RowKit.intOf a).toNat)
  case atStart => exact ⟨0, _, rfl, Nat.zero_le _, rfl, HA0, H0⟩
  case round =>
  clear HA0 H0
  obtain ⟨k, v, rfl, hk, rfl, HN, N⟩ := hrel
  obtain ⟨w2, hw2⟩ : ∃ w2, w2 = wr := ⟨_, rfl⟩
  rw [← hw2] at N ⊢
  clear hw2
  obtain ⟨⟨d0, d1, d2⟩, -⟩ := row3i N.out.bx
  by_cases hlt : k < E.length
  case neg =>
   obtain rfl : k = E.length := by omega
   have hnl : ¬ (E.length : Int) < (E.length : Int) := by omega
   have HV : Hid (vPl sub n E = !repI (rsE E)) := Lib.hid (by
    have h1 : E.any wrE = false := any_end HN.out.1 (Nat.le_refl _)
    have h2 : ascB ltE E = true := (ascB_iff ltE E).2 fun i x y hx hy => HN.out.2 i x y (List.getElem?_eq_some_iff.1 hy).1 hx hy
    rw [HP2.out, h1, h2]
    rfl)
   have hown := N.out.own
   rw [List.take_length] at hown
   obtain ⟨pv, cv, rfl, -, -⟩ := own_shape hown
   have HR2 := Lib.hid (rd_of_own (xs := (rsE E).map fun z => Value.int .i64 z) (by rw [← flat_iv]; exact hown))
   have hrl : (rsE E).length ≤ 24 := by unfold rsE; rw [List.length_map]; omega
   clear hown
   go_wp2_with fail
   refine (irep_any (rsE E) pv cv _ w2 HR2.out (by omega)).mono ?_
   rintro e w4 ⟨rfl, hg⟩
   have G2 := Lib.hid (grown_trans N.out.gr hg)
   clear hg N
   go_wp2_with fail
   go_ret
   rw [HV.out]
   exact ⟨rfl, G2.out⟩
  have hlt' : (k : Int) < (E.length : Int) := by omega
  obtain ⟨-, b, off, rfl, -, hcc⟩ := ed_cells N.out.rd (by omega)
  obtain ⟨y, hy⟩ : ∃ y, E[k]? = some y := ⟨_, List.getElem?_eq_getElem hlt⟩
  obtain ⟨a0, a1⟩ := hcc k y hy
  have HCC := Lib.hid hcc
  have HY := Lib.hid hy
  have HB0 := Lib.hid (tone_box w2 #[.int .i64 y.r, .int .i64 y.i] 71)
  clear hcc hy
  go_upto_region 8 with fail
  clear a0 a1 d0 d1 d2
  generalize w2.alloc _ = w3 at *
  generalize w2.heap.size = By at *
  have N1 := Lib.hid (N.out.keep HB0.out.2)
  have HB := Lib.hid HB0.out.1
  have GZ : Hid (w3.grownBy w3 none) := Lib.hid (grown_refl _ _)
  obtain ⟨b3, hb3⟩ : ∃ z, inV y.i 1 256 = z := ⟨_, rfl⟩
  obtain ⟨b4, hb4⟩ : ∃ z, inV y.r 1 99 = z := ⟨_, rfl⟩
  have HW : Hid (wrE y = !(b4 && b3)) := Lib.hid (by unfold wrE; rw [hb3, hb4])
  have B3 := Lib.hid hb3
  have B4 := Lib.hid hb4
  clear hb3 hb4
  have HK3 : Hid (w3.heap[By]? = some (.cells #[.int .i64 y.r, .int .i64 y.i] 71 (0, 0))) := HB
  obtain ⟨e0, e1⟩ := row_cells HB.out
  obtain ⟨⟨d0, d1, d2⟩, -⟩ := row3i N1.out.bx
  cases b3
  case false =>
   have HF0 : Hid (vPl sub n E = false) := Lib.hid (vpl_wr HY.out (by rw [HW.out]; cases b4 <;> rfl))
   have HF := Lib.hid (And.intro e0 (And.intro e1 d2))
   clear d0 d1
   refine wp_region_held_drew (S := fun w' => Hid (w3.grownBy w' none)) (by kernel_rfl) (hid_drew GZ) (fun hHeld => ?_)
   refine zT (i := 0) (v := ?_) rfl ?_ hHeld ?_
   rotate_left 1
   ·intro u hSu
    go_simp
    first | done | with_reducible rfl
   try simp only [Act.put, zA, zB, zC]
   refine zT (i := 1) (v := ?_) rfl ?_ hHeld ?_
   rotate_left 1
   ·intro u hSu
    have c0 := hSu.out.cell HF.out.1 (by simp)
    have c1 := hSu.out.cell HF.out.2.1 (by simp)
    have c2 := hSu.out.cell HF.out.2.2 (by simp)
    go_simp
    first | done | with_reducible rfl
   try simp only [Act.put, zA, zB, zC]
   refine wpAnyH_ready (rs := [2]) (by kernel_rfl) (by simp) ?_
   refine AllReadyH.cons (o := ⟨_, _, _, _, _, _⟩) rfl (fun Kz hK => ?_) AllReadyH.nil
   go_simp
   go_at_call 116
   refine (rin10_lit y.i 1 256 _ B3.out _).mono ?_
   rintro e w5 ⟨rfl, rfl⟩
   refine hK.out _ _ (hHeld) (fun hH2 => ?_)
   clear hK Kz hHeld
   have hHeld := hH2
   clear hH2
   try simp only [Act.put, zA, zB, zC]
   refine zT (i := 3) (v := ?_) rfl ?_ hHeld ?_
   rotate_left 1
   ·intro u hSu
    go_simp
    first | done | with_reducible rfl
   try simp only [Act.put, zA, zB, zC]
   refine zT (i := 4) (v := ?_) rfl ?_ hHeld ?_
   rotate_left 1
   ·intro u hSu
    go_simp
    first | done | with_reducible rfl
   try simp only [Act.put, zA, zB, zC]
   refine zS (i := 5) rfl hHeld ?_
   try simp only [Act.put, zA, zB, zC]
   refine zS (i := 6) rfl hHeld ?_
   try simp only [Act.put, zA, zB, zC]
   refine zS (i := 7) rfl hHeld ?_
   try simp only [Act.put, zA, zB, zC]
   refine zS (i := 8) rfl hHeld ?_
   try simp only [Act.put, zA, zB, zC]
   refine zT (i := 9) (v := ?_) rfl ?_ hHeld ?_
   rotate_left 1
   ·intro u hSu
    go_simp
    first | done | with_reducible rfl
   try simp only [Act.put, zA, zB, zC]
   refine zT (i := 10) (v := ?_) rfl ?_ hHeld ?_
   rotate_left 1
   ·intro u hSu
    go_simp
    first | done | with_reducible rfl
   try simp only [Act.put, zA, zB, zC]
   refine zS (i := 11) rfl hHeld ?_
   try simp only [Act.put, zA, zB, zC]
   refine zS (i := 12) rfl hHeld ?_
   try simp only [Act.put, zA, zB, zC]
   refine zS (i := 13) rfl hHeld ?_
   try simp only [Act.put, zA, zB, zC]
   refine zS (i := 14) rfl hHeld ?_
   try simp only [Act.put, zA, zB, zC]
   refine zS (i := 15) rfl hHeld ?_
   try simp only [Act.put, zA, zB, zC]
   refine zS (i := 16) rfl hHeld ?_
   try simp only [Act.put, zA, zB, zC]
   refine zS (i := 17) rfl hHeld ?_
   try simp only [Act.put, zA, zB, zC]
   refine zS (i := 18) rfl hHeld ?_
   try simp only [Act.put, zA, zB, zC]
   refine zS (i := 19) rfl hHeld ?_
   try simp only [Act.put, zA, zB, zC]
   refine zS (i := 20) rfl hHeld ?_
   try simp only [Act.put, zA, zB, zC]
   refine zS (i := 21) rfl hHeld ?_
   try simp only [Act.put, zA, zB, zC]
   refine zS (i := 22) rfl hHeld ?_
   try simp only [Act.put, zA, zB, zC]
   refine zS (i := 23) rfl hHeld ?_
   try simp only [Act.put, zA, zB, zC]
   refine zS (i := 24) rfl hHeld ?_
   try simp only [Act.put, zA, zB, zC]
   refine zT (i := 25) (v := ?_) rfl ?_ hHeld ?_
   rotate_left 1
   ·intro u hSu
    go_simp
    first | done | with_reducible rfl
   try simp only [Act.put, zA, zB, zC]
   refine wpAnyH_done (by kernel_rfl) ?_ _
   have G2 := Lib.hid (grown_trans N1.out.gr hHeld.out)
   clear hHeld N1 N
   go_wp2_with fail
   go_ret
   rw [HF0.out]
   exact ⟨rfl, G2.out⟩
  cases b4
  case false =>
   have HF0 : Hid (vPl sub n E = false) := Lib.hid (vpl_wr HY.out (by rw [HW.out]; rfl))
   have HF := Lib.hid (And.intro e0 (And.intro e1 d2))
   clear d0 d1
   refine wp_region_held_drew (S := fun w' => Hid (w3.grownBy w' none)) (by kernel_rfl) (hid_drew GZ) (fun hHeld => ?_)
   refine zT (i := 0) (v := ?_) rfl ?_ hHeld ?_
   rotate_left 1
   ·intro u hSu
    go_simp
    first | done | with_reducible rfl
   try simp only [Act.put, zA, zB, zC]
   refine zT (i := 1) (v := ?_) rfl ?_ hHeld ?_
   rotate_left 1
   ·intro u hSu
    have c0 := hSu.out.cell HF.out.1 (by simp)
    have c1 := hSu.out.cell HF.out.2.1 (by simp)
    have c2 := hSu.out.cell HF.out.2.2 (by simp)
    go_simp
    first | done | with_reducible rfl
   try simp only [Act.put, zA, zB, zC]
   refine wpAnyH_ready (rs := [2]) (by kernel_rfl) (by simp) ?_
   refine AllReadyH.cons (o := ⟨_, _, _, _, _, _⟩) rfl (fun Kz hK => ?_) AllReadyH.nil
   go_simp
   go_at_call 116
   refine (rin10_lit y.i 1 256 _ B3.out _).mono ?_
   rintro e w5 ⟨rfl, rfl⟩
   refine hK.out _ _ (hHeld) (fun hH2 => ?_)
   clear hK Kz hHeld
   have hHeld := hH2
   clear hH2
   try simp only [Act.put, zA, zB, zC]
   refine zT (i := 3) (v := ?_) rfl ?_ hHeld ?_
   rotate_left 1
   ·intro u hSu
    go_simp
    first | done | with_reducible rfl
   try simp only [Act.put, zA, zB, zC]
   refine zT (i := 4) (v := ?_) rfl ?_ hHeld ?_
   rotate_left 1
   ·intro u hSu
    go_simp
    first | done | with_reducible rfl
   try simp only [Act.put, zA, zB, zC]
   refine zT (i := 5) (v := ?_) rfl ?_ hHeld ?_
   rotate_left 1
   ·intro u hSu
    go_simp
    first | done | with_reducible rfl
   try simp only [Act.put, zA, zB, zC]
   refine zT (i := 6) (v := ?_) rfl ?_ hHeld ?_
   rotate_left 1
   ·intro u hSu
    have c0 := hSu.out.cell HF.out.1 (by simp)
    have c1 := hSu.out.cell HF.out.2.1 (by simp)
    have c2 := hSu.out.cell HF.out.2.2 (by simp)
    go_simp
    first | done | with_reducible rfl
   try simp only [Act.put, zA, zB, zC]
   refine wpAnyH_ready (rs := [7]) (by kernel_rfl) (by simp) ?_
   refine AllReadyH.cons (o := ⟨_, _, _, _, _, _⟩) rfl (fun Kz hK => ?_) AllReadyH.nil
   go_simp
   go_at_call 116
   refine (rin10_lit y.r 1 99 _ B4.out _).mono ?_
   rintro e w5 ⟨rfl, rfl⟩
   refine hK.out _ _ (hHeld) (fun hH2 => ?_)
   clear hK Kz hHeld
   have hHeld := hH2
   clear hH2
   try simp only [Act.put, zA, zB, zC]
   refine zT (i := 8) (v := ?_) rfl ?_ hHeld ?_
   rotate_left 1
   ·intro u hSu
    go_simp
    first | done | with_reducible rfl
   try simp only [Act.put, zA, zB, zC]
   refine zT (i := 9) (v := ?_) rfl ?_ hHeld ?_
   rotate_left 1
   ·intro u hSu
    go_simp
    first | done | with_reducible rfl
   try simp only [Act.put, zA, zB, zC]
   refine zT (i := 10) (v := ?_) rfl ?_ hHeld ?_
   rotate_left 1
   ·intro u hSu
    go_simp
    first | done | with_reducible rfl
   try simp only [Act.put, zA, zB, zC]
   refine zS (i := 11) rfl hHeld ?_
   try simp only [Act.put, zA, zB, zC]
   refine zS (i := 12) rfl hHeld ?_
   try simp only [Act.put, zA, zB, zC]
   refine zS (i := 13) rfl hHeld ?_
   try simp only [Act.put, zA, zB, zC]
   refine zS (i := 14) rfl hHeld ?_
   try simp only [Act.put, zA, zB, zC]
   refine zS (i := 15) rfl hHeld ?_
   try simp only [Act.put, zA, zB, zC]
   refine zS (i := 16) rfl hHeld ?_
   try simp only [Act.put, zA, zB, zC]
   refine zS (i := 17) rfl hHeld ?_
   try simp only [Act.put, zA, zB, zC]
   refine zS (i := 18) rfl hHeld ?_
   try simp only [Act.put, zA, zB, zC]
   refine zS (i := 19) rfl hHeld ?_
   try simp only [Act.put, zA, zB, zC]
   refine zS (i := 20) rfl hHeld ?_
   try simp only [Act.put, zA, zB, zC]
   refine zS (i := 21) rfl hHeld ?_
   try simp only [Act.put, zA, zB, zC]
   refine zS (i := 22) rfl hHeld ?_
   try simp only [Act.put, zA, zB, zC]
   refine zS (i := 23) rfl hHeld ?_
   try simp only [Act.put, zA, zB, zC]
   refine zS (i := 24) rfl hHeld ?_
   try simp only [Act.put, zA, zB, zC]
   refine zT (i := 25) (v := ?_) rfl ?_ hHeld ?_
   rotate_left 1
   ·intro u hSu
    go_simp
    first | done | with_reducible rfl
   try simp only [Act.put, zA, zB, zC]
   refine wpAnyH_done (by kernel_rfl) ?_ _
   have G2 := Lib.hid (grown_trans N1.out.gr hHeld.out)
   clear hHeld N1 N
   go_wp2_with fail
   go_ret
   rw [HF0.out]
   exact ⟨rfl, G2.out⟩
  have HWY : Hid (wrE y = false) := Lib.hid (by rw [HW.out]; rfl)
  clear HW
  have HA : Hid ((E.take (k + 1)).any wrE = false) := Lib.hid (any_take HN.out.1 HY.out HWY.out)
  by_cases hk1 : 0 < k
  case neg =>
   have hk0 : ¬ (0 : Int) < (k : Int) := by omega
   have HF := Lib.hid (And.intro e0 (And.intro e1 d2))
   have HS2 : Hid ((E.take (k + 1)).any wrE = false ∧ ∀ i x z, i + 1 < k + 1 → E[i]? = some x → E[i + 1]? = some z → ltE x z = true) := Lib.hid ⟨HA.out, fun i x z h => by omega⟩
   clear d0 d1 HA
   refine wp_region_held_drew (S := fun w' => Hid (w3.grownBy w' none)) (by kernel_rfl) (hid_drew GZ) (fun hHeld => ?_)
   refine zT (i := 0) (v := ?_) rfl ?_ hHeld ?_
   rotate_left 1
   ·intro u hSu
    go_simp
    first | done | with_reducible rfl
   try simp only [Act.put, zA, zB, zC]
   refine zT (i := 1) (v := ?_) rfl ?_ hHeld ?_
   rotate_left 1
   ·intro u hSu
    have c0 := hSu.out.cell HF.out.1 (by simp)
    have c1 := hSu.out.cell HF.out.2.1 (by simp)
    have c2 := hSu.out.cell HF.out.2.2 (by simp)
    go_simp
    first | done | with_reducible rfl
   try simp only [Act.put, zA, zB, zC]
   refine wpAnyH_ready (rs := [2]) (by kernel_rfl) (by simp) ?_
   refine AllReadyH.cons (o := ⟨_, _, _, _, _, _⟩) rfl (fun Kz hK => ?_) AllReadyH.nil
   go_simp
   go_at_call 116
   refine (rin10_lit y.i 1 256 _ B3.out _).mono ?_
   rintro e w5 ⟨rfl, rfl⟩
   refine hK.out _ _ (hHeld) (fun hH2 => ?_)
   clear hK Kz hHeld
   have hHeld := hH2
   clear hH2
   try simp only [Act.put, zA, zB, zC]
   refine zT (i := 3) (v := ?_) rfl ?_ hHeld ?_
   rotate_left 1
   ·intro u hSu
    go_simp
    first | done | with_reducible rfl
   try simp only [Act.put, zA, zB, zC]
   refine zT (i := 4) (v := ?_) rfl ?_ hHeld ?_
   rotate_left 1
   ·intro u hSu
    go_simp
    first | done | with_reducible rfl
   try simp only [Act.put, zA, zB, zC]
   refine zT (i := 5) (v := ?_) rfl ?_ hHeld ?_
   rotate_left 1
   ·intro u hSu
    go_simp
    first | done | with_reducible rfl
   try simp only [Act.put, zA, zB, zC]
   refine zT (i := 6) (v := ?_) rfl ?_ hHeld ?_
   rotate_left 1
   ·intro u hSu
    have c0 := hSu.out.cell HF.out.1 (by simp)
    have c1 := hSu.out.cell HF.out.2.1 (by simp)
    have c2 := hSu.out.cell HF.out.2.2 (by simp)
    go_simp
    first | done | with_reducible rfl
   try simp only [Act.put, zA, zB, zC]
   refine wpAnyH_ready (rs := [7]) (by kernel_rfl) (by simp) ?_
   refine AllReadyH.cons (o := ⟨_, _, _, _, _, _⟩) rfl (fun Kz hK => ?_) AllReadyH.nil
   go_simp
   go_at_call 116
   refine (rin10_lit y.r 1 99 _ B4.out _).mono ?_
   rintro e w5 ⟨rfl, rfl⟩
   refine hK.out _ _ (hHeld) (fun hH2 => ?_)
   clear hK Kz hHeld
   have hHeld := hH2
   clear hH2
   try simp only [Act.put, zA, zB, zC]
   refine zT (i := 8) (v := ?_) rfl ?_ hHeld ?_
   rotate_left 1
   ·intro u hSu
    go_simp
    first | done | with_reducible rfl
   try simp only [Act.put, zA, zB, zC]
   refine zT (i := 9) (v := ?_) rfl ?_ hHeld ?_
   rotate_left 1
   ·intro u hSu
    go_simp
    first | done | with_reducible rfl
   try simp only [Act.put, zA, zB, zC]
   refine zT (i := 10) (v := ?_) rfl ?_ hHeld ?_
   rotate_left 1
   ·intro u hSu
    go_simp
    first | done | with_reducible rfl
   try simp only [Act.put, zA, zB, zC]
   refine zT (i := 11) (v := ?_) rfl ?_ hHeld ?_
   rotate_left 1
   ·intro u hSu
    go_simp
    first | done | with_reducible rfl
   try simp only [Act.put, zA, zB, zC]
   refine zT (i := 12) (v := ?_) rfl ?_ hHeld ?_
   rotate_left 1
   ·intro u hSu
    go_simp
    first | done | with_reducible rfl
   try simp only [Act.put, zA, zB, zC]
   refine zT (i := 13) (v := ?_) rfl ?_ hHeld ?_
   rotate_left 1
   ·intro u hSu
    go_simp
    first | done | with_reducible rfl
   try simp only [Act.put, zA, zB, zC]
   refine zS (i := 14) rfl hHeld ?_
   try simp only [Act.put, zA, zB, zC]
   refine zS (i := 15) rfl hHeld ?_
   try simp only [Act.put, zA, zB, zC]
   refine zS (i := 16) rfl hHeld ?_
   try simp only [Act.put, zA, zB, zC]
   refine zS (i := 17) rfl hHeld ?_
   try simp only [Act.put, zA, zB, zC]
   refine zS (i := 18) rfl hHeld ?_
   try simp only [Act.put, zA, zB, zC]
   refine zS (i := 19) rfl hHeld ?_
   try simp only [Act.put, zA, zB, zC]
   refine zS (i := 20) rfl hHeld ?_
   try simp only [Act.put, zA, zB, zC]
   refine zS (i := 21) rfl hHeld ?_
   try simp only [Act.put, zA, zB, zC]
   refine zS (i := 22) rfl hHeld ?_
   try simp only [Act.put, zA, zB, zC]
   refine zS (i := 23) rfl hHeld ?_
   try simp only [Act.put, zA, zB, zC]
   refine zT (i := 24) (v := ?_) rfl ?_ hHeld ?_
   rotate_left 1
   ·intro u hSu
    go_simp
    first | done | with_reducible rfl
   try simp only [Act.put, zA, zB, zC]
   refine zT (i := 25) (v := ?_) rfl ?_ hHeld ?_
   rotate_left 1
   ·intro u hSu
    go_simp
    first | done | with_reducible rfl
   try simp only [Act.put, zA, zB, zC]
   refine wpAnyH_done (by kernel_rfl) ?_ _
   have N2 := Lib.hid (And.intro (N1.out.keep hHeld.out) (kept_row HB.out hHeld.out (by simp)))
   clear hHeld N1 N HB HF GZ HK3 HB0
   generalize w3.drew = w5 at *
   obtain ⟨d0, d1⟩ := row_cells N2.out.2
   have hbs : w.heap.size + 1 ≤ w5.heap.size := N2.out.1.sz
   have hml : (rsE (E.take (k))).length ≤ 24 := by unfold rsE; rw [List.length_map, List.length_take]; omega
   have HRS : Hid (rsE (E.take (k + 1)) = rsE (E.take (k)) ++ [y.r]) := Lib.hid (rsE_snoc HY.out)
   obtain ⟨M, hM⟩ : ∃ M, rsE (E.take (k)) = M := ⟨_, rfl⟩
   rw [hM] at HRS hml N2
   clear hM
   obtain ⟨pv, cv, rfl, -, -⟩ := own_shape N2.out.1.own
   have HO := Lib.hid N2.out.1.own
   go_wp2_with (at_builtin; refine wpList_append_f ivC 1 8 (by decide) (fun _ => rfl) ivC_one 3 22 ii _ Tryz.underlying22 hi hi0 hi1 hi2 rfl (by decide) rfl _ _ rfl (w.heap.size + 1) _ M _ ?c0 rfl (HO.out.alloc _) (some ⟨w5.heap.size, 0, none⟩) 1 1 [y.r] rfl rfl (by simp) (fun _ => True) (rdf_one _ trivial (fun j u hu => iv_row _ _ _ _ _ hu) 1) (by decide) (by simp; omega) (by simp; omega) ?_)
   try (case c0 => rfl)
   intro v' w9 hown' hg
   have N3 : Hid (RQ w sub n E (some ⟨b, off, none⟩) c v' (rsE (E.take (k + 1))) w9) := Lib.hid (by rw [HRS.out]; exact N2.out.1.app (by simpa using hown') hg)
   obtain ⟨p1, c1, rfl, -, -⟩ := own_shape hown'
   clear hown' hg HO N2 d0 d1
   go_wp2_with fail
   exact ⟨⟨k + 1, _, rfl, by omega, congrArg _ (by omega), HS2, N3⟩, by simp only [RowKit.intOf]; omega⟩
  obtain ⟨j, rfl⟩ : ∃ j, k = j + 1 := ⟨k - 1, by omega⟩
  obtain ⟨x, hx⟩ : ∃ x, E[j]? = some x := ⟨_, List.getElem?_eq_getElem (by omega)⟩
  have a1 := HB0.out.2.cell (HCC.out j x hx).2 (by simp)
  have HF := Lib.hid (And.intro e0 (And.intro e1 (And.intro d2 a1)))
  have HX := Lib.hid hx
  have ew1 : ((j : Int) + 1 - 1) = (j : Int) := by omega
  have ew2 : IntKind.i64.wrap ((j : Int) + 1 - 1) = (j : Int) := by rw [ew1, IntWalk.i64_in _ (by omega)]
  have ew3 : IntKind.i64.wrap (j : Int) = (j : Int) := IntWalk.i64_in _ (by omega)
  have j0 : (0 : Int) ≤ (j : Int) := by omega
  have j1 : (0 : Int) < (j : Int) + 1 := by omega
  have j2 : (j : Int) < (E.length : Int) := by omega
  clear d0 d1 hx hk1
  by_cases hxy : x.i < y.i
  case neg =>
   have hxy' : y.i ≤ x.i := by omega
   have HF0 : Hid (vPl sub n E = false) := Lib.hid (vpl_as HX.out HY.out hxy)
   have hcast : ((j + 1 : Nat) : Int) = (j : Int) + 1 := by omega
   rw [hcast]
   clear hcast hxy
   go_region_held3 (fun w' => w'.cell? ⟨By, 0, none⟩ = some (.int .i64 y.r) ∧ w'.cell? ⟨By, 1, none⟩ = some (.int .i64 y.i) ∧ w'.cell? ⟨w.heap.size, 2, none⟩ = some (.slice (some ⟨b, off, none⟩) E.length c) ∧ w'.cell? ⟨b, off + j * 2 + 1, none⟩ = some (.int .i64 x.i) ∧ Hid (w3.grownBy w' none))
    (first | with_reducible exact keep4q HF.out (hid_drew GZ) | (go_split_ands; with_reducible refine keep4q HF.out ?_; with_reducible assumption) | (go_split_ands; with_reducible refine keep4q HF.out (hid_drew ?_); with_reducible assumption))
    ((go_at_call 116; go_split_ands; (first | with_reducible refine (rin10_lit y.i 1 256 _ B3.out _).mono ?_ | with_reducible refine (rin10_lit y.r 1 99 _ B4.out _).mono ?_); rintro e w' ⟨rfl, rfl⟩))
   all_goals
    go_split_ands
    have HG1 := (by assumption : Hid (w3.grownBy _ none))
    have G2 := Lib.hid (grown_trans N1.out.gr HG1.out)
    clear HG1 N1 N
    go_wp2_with fail
    go_ret
    rw [HF0.out]
    exact ⟨rfl, G2.out⟩
  have hxy' : ¬ y.i ≤ x.i := by omega
  have HS2 : Hid ((E.take (j + 1 + 1)).any wrE = false ∧ ∀ i x z, i + 1 < j + 1 + 1 → E[i]? = some x → E[i + 1]? = some z → ltE x z = true) := Lib.hid ⟨HA.out, fun i u z h hu hz => by
   by_cases hij : i + 1 < j + 1
   ·exact HN.out.2 i u z hij hu hz
   ·obtain rfl : i = j := by omega
    rw [HX.out] at hu
    rw [HY.out] at hz
    obtain rfl := Option.some.inj hu
    obtain rfl := Option.some.inj hz
    exact decide_eq_true hxy⟩
  have hcast : ((j + 1 : Nat) : Int) = (j : Int) + 1 := by omega
  rw [hcast]
  clear hcast HA
  go_region_held3 (fun w' => w'.cell? ⟨By, 0, none⟩ = some (.int .i64 y.r) ∧ w'.cell? ⟨By, 1, none⟩ = some (.int .i64 y.i) ∧ w'.cell? ⟨w.heap.size, 2, none⟩ = some (.slice (some ⟨b, off, none⟩) E.length c) ∧ w'.cell? ⟨b, off + j * 2 + 1, none⟩ = some (.int .i64 x.i) ∧ Hid (w3.grownBy w' none))
   (first | with_reducible exact keep4q HF.out (hid_drew GZ) | (go_split_ands; with_reducible refine keep4q HF.out ?_; with_reducible assumption) | (go_split_ands; with_reducible refine keep4q HF.out (hid_drew ?_); with_reducible assumption))
   ((go_at_call 116; go_split_ands; (first | with_reducible refine (rin10_lit y.i 1 256 _ B3.out _).mono ?_ | with_reducible refine (rin10_lit y.r 1 99 _ B4.out _).mono ?_); rintro e w' ⟨rfl, rfl⟩))
  all_goals
   go_split_ands
   have HG1 := (by assumption : Hid (w3.grownBy _ none))
   have N2 := Lib.hid (And.intro (N1.out.keep HG1.out) (kept_row HB.out HG1.out (by simp)))
   clear HG1 N1 N HB HF GZ HK3 HB0
   generalize w3.drew = w5 at *
   obtain ⟨d0, d1⟩ := row_cells N2.out.2
   have hbs : w.heap.size + 1 ≤ w5.heap.size := N2.out.1.sz
   have hml : (rsE (E.take (j + 1))).length ≤ 24 := by unfold rsE; rw [List.length_map, List.length_take]; omega
   have HRS : Hid (rsE (E.take (j + 1 + 1)) = rsE (E.take (j + 1)) ++ [y.r]) := Lib.hid (rsE_snoc HY.out)
   obtain ⟨M, hM⟩ : ∃ M, rsE (E.take (j + 1)) = M := ⟨_, rfl⟩
   rw [hM] at HRS hml N2
   clear hM
   obtain ⟨pv, cv, rfl, -, -⟩ := own_shape N2.out.1.own
   have HO := Lib.hid N2.out.1.own
   go_wp2_with (at_builtin; refine wpList_append_f ivC 1 8 (by decide) (fun _ => rfl) ivC_one 3 22 ii _ Tryz.underlying22 hi hi0 hi1 hi2 rfl (by decide) rfl _ _ rfl (w.heap.size + 1) _ M _ ?c0 rfl (HO.out.alloc _) (some ⟨w5.heap.size, 0, none⟩) 1 1 [y.r] rfl rfl (by simp) (fun _ => True) (rdf_one _ trivial (fun j u hu => iv_row _ _ _ _ _ hu) 1) (by decide) (by simp; omega) (by simp; omega) ?_)
   try (case c0 => rfl)
   intro v' w9 hown' hg
   have N3 : Hid (RQ w sub n E (some ⟨b, off, none⟩) c v' (rsE (E.take (j + 1 + 1))) w9) := Lib.hid (by rw [HRS.out]; exact N2.out.1.app (by simpa using hown') hg)
   obtain ⟨p1, c1, rfl, -, -⟩ := own_shape hown'
   clear hown' hg HO N2 d0 d1
   go_wp2_with fail
   exact ⟨⟨j + 1 + 1, _, rfl, by omega, congrArg _ (by omega), HS2, N3⟩, by simp only [RowKit.intOf]; omega⟩
 by_cases hn0 : n = 0
 case neg =>
  have hn0' : (n != 0) = true := by simpa using hn0
  have HF : Hid (vPl sub n E = false) := Lib.hid (by unfold vPl; rw [B2.out, decide_eq_false hn0]; simp)
  clear hn0
  go_wp2_with fail
  go_ret
  rw [HF.out]
  exact ⟨rfl, H0.out.gr⟩
 have hn0' : (n != 0) = false := by simpa using hn0
 by_cases hE : 0 < E.length
 case pos =>
  have hE' : (0 : Int) < (E.length : Int) := by omega
  have HF : Hid (vPl sub n E = false) := Lib.hid (by unfold vPl; rw [B2.out, decide_eq_false (show ¬ E.length = 0 by omega)]; simp)
  clear hn0
  go_wp2_with fail
  go_ret
  rw [HF.out]
  exact ⟨rfl, H0.out.gr⟩
 have hE' : ¬ (0 : Int) < (E.length : Int) := by omega
 have HP : Hid (E.length ≤ 24 → vPl sub n E = (!E.any wrE && ascB ltE E && !repI (rsE E))) := Lib.hid (fun h => by
  unfold vPl rsE
  rw [B1.out, decide_eq_true h, decide_eq_true hn0, decide_eq_true (show E.length = 0 by omega)]
  simp)
 clear hn0
 by_cases h24 : 24 < E.length
 case pos => omega
 have h24' : ¬ (24 : Int) < (E.length : Int) := by omega
 have HP2 := Lib.hid (HP.out (by omega))
 have HA0 : Hid ((E.take 0).any wrE = false ∧ ∀ i x y, i + 1 < 0 → E[i]? = some x → E[i + 1]? = some y → ltE x y = true) := Lib.hid ⟨rfl, fun i x y h => by omega⟩
 clear HP
 go_wp2_with fail
 clear d0 d1 d2
 go_loopw [3, 4] (fun u a wr => ∃ (k : Nat) (v : Value), v = u ∧ k ≤ E.length ∧ a = .int .i64 (k : Int) ∧ Hid ((E.take k).any wrE = false ∧ ∀ i x y, i + 1 < k → E[i]? = some x → E[i + 1]? = some y → ltE x y = true) ∧ Hid (RQ w sub n E p c v (rsE (E.take k)) wr)) (fun _ a _ => E.length - (RowKit.intOf a).toNat)
 case atStart => exact ⟨0, _, rfl, Nat.zero_le _, rfl, HA0, H0⟩
 case round =>
 clear HA0 H0
 obtain ⟨k, v, rfl, hk, rfl, HN, N⟩ := hrel
 obtain ⟨w2, hw2⟩ : ∃ w2, w2 = wr := ⟨_, rfl⟩
 rw [← hw2] at N ⊢
 clear hw2
 obtain ⟨⟨d0, d1, d2⟩, -⟩ := row3i N.out.bx
 by_cases hlt : k < E.length
 case neg =>
  obtain rfl : k = E.length := by omega
  have hnl : ¬ (E.length : Int) < (E.length : Int) := by omega
  have HV : Hid (vPl sub n E = !repI (rsE E)) := Lib.hid (by
   have h1 : E.any wrE = false := any_end HN.out.1 (Nat.le_refl _)
   have h2 : ascB ltE E = true := (ascB_iff ltE E).2 fun i x y hx hy => HN.out.2 i x y (List.getElem?_eq_some_iff.1 hy).1 hx hy
   rw [HP2.out, h1, h2]
   rfl)
  have hown := N.out.own
  rw [List.take_length] at hown
  obtain ⟨pv, cv, rfl, -, -⟩ := own_shape hown
  have HR2 := Lib.hid (rd_of_own (xs := (rsE E).map fun z => Value.int .i64 z) (by rw [← flat_iv]; exact hown))
  have hrl : (rsE E).length ≤ 24 := by unfold rsE; rw [List.length_map]; omega
  clear hown
  go_wp2_with fail
  refine (irep_any (rsE E) pv cv _ w2 HR2.out (by omega)).mono ?_
  rintro e w4 ⟨rfl, hg⟩
  have G2 := Lib.hid (grown_trans N.out.gr hg)
  clear hg N
  go_wp2_with fail
  go_ret
  rw [HV.out]
  exact ⟨rfl, G2.out⟩
 omega
end Go.Proofs.YtahafijpcmphaaaGreat

/- tables, the reference's functions: All. -/
namespace Go.Proofs.YtahafijpcmphaaaGreat
set_option maxRecDepth 100000
open Go.RowKit Bs
set_option maxHeartbeats 12800000 in
theorem rall11_any (T : Tg) (s n : Int) (E : List Ed) (pE : Option Addr) (cE : Nat) (q q2 : Nat → Prop) (w : World) (hT : TgOk w q T) (hE : RdF w q2 (.slice pE E.length cE) E.length (E.flatMap edC)) (hm : E.length ≤ 9223372036854775807) :
  Calls Tryz.prog 37 #[.agg #[.slice T.pR T.R.length T.cR, .slice T.pL T.L.length T.cL], .agg #[.int .i64 s, .int .i64 n, .slice pE E.length cE]] w fun e w' => RAllPost T.R T.L s n E w e w' := by
 obtain ⟨R, L0, pR, cR, pL, cL⟩ := T
 simp only
 obtain ⟨ii, hii, hi0, hi1, hi2⟩ := info_parts info_tabT
 have H0 := Lib.hid (alT_start s n hT hE)
 clear hT hE
 go_enter Tryz.func37, Tryz.ntmps37
 go_upto_region 1 with fail
 generalize (w.alloc _).alloc _ = wa at *
 have hnil : ∀ w', ¬ (okT R L0 = true ∧ vPl s n E = true) → w.grownBy w' none → RAllPost R L0 s n E w (.returned (.tuple #[.slice none 0 0, .int .i64 1])) w' := fun w' hno g => ⟨[], none, 0, 1, rfl, Or.inr ⟨rfl, hno, rfl⟩, World.ownsRow_nil _ _ _ _, fun x hx => (by cases hx), g⟩
 have HNIL := Lib.hid hnil
 clear hnil
 obtain ⟨t0, t1⟩ := row_cells H0.out.bT
 obtain ⟨q0, q1, q2⟩ := row3B H0.out.bP
 go_wp2_with fail
 refine (rcheck_any ⟨R, L0, pR, cR, pL, cL⟩ _ wa H0.out.t).mono ?_
 rintro e w1 ⟨rfl, hg⟩
 have H1 := Lib.hid (H0.out.keep hg)
 clear hg H0 t0 t1 q0 q1 q2
 simp only
 by_cases hck : chk R L0 = 0
 case neg =>
  have hck' : (chk R L0 != 0) = true := by simpa using hck
  have HF := Lib.hid hck
  clear hck
  go_wp2_with fail
  go_ret2
  exact HNIL.out _ (fun h => HF.out (by have := h.1; unfold okT at this; simpa using this)) H1.out.gr
 have HOK : Hid (okT R L0 = true) := Lib.hid (by unfold okT; simpa using hck)
 rw [hck]
 clear hck
 obtain ⟨t0, t1⟩ := row_cells H1.out.bT
 obtain ⟨q0, q1, q2⟩ := row3B H1.out.bP
 go_wp2_with fail
 refine (irvplan_any s n E pE cE _ w1 H1.out.e hm).mono ?_
 rintro e w2 ⟨rfl, hg⟩
 have H2 := Lib.hid (H1.out.keep hg)
 clear hg H1 t0 t1 q0 q1 q2
 simp only
 cases hvp : vPl s n E
 case false =>
  have HF := Lib.hid hvp
  clear hvp
  go_wp2_with fail
  go_ret2
  exact HNIL.out _ (fun h => by rw [HF.out] at h; cases h.2) H2.out.gr
 have HVP := Lib.hid hvp
 clear hvp HNIL hm
 have hRl := (okT_len HOK.out).1
 have hEl : E.length ≤ 1000 := by
  have h := HVP.out
  unfold vPl at h
  simp only [Bool.and_eq_true, decide_eq_true_eq] at h
  omega
 go_wp2_with fail
 go_loopw [6, 7] (fun v a wr => ∃ (k : Nat) (Ts : List Tb) (p : Option Addr) (c : Nat), k ≤ R.length ∧ v = .slice p Ts.length c ∧ a = .int .i64 (k : Int) ∧ Hid (AllM R L0 s n E (R.take k) Ts) ∧ Hid (AlT w ⟨R, L0, pR, cR, pL, cL⟩ s n E pE cE (.slice p Ts.length c) Ts wr)) (fun _ a _ => R.length - (RowKit.intOf a).toNat)
 case atStart => exact ⟨0, [], none, 0, Nat.zero_le _, rfl, rfl, Lib.hid (by rw [List.take_zero]; exact AllM.nil), H2⟩
 case round =>
 clear H2
 obtain ⟨k, Ts, p, c, hk, rfl, rfl, HB, K⟩ := hrel
 obtain ⟨w5, hw5⟩ : ∃ w5, w5 = wr := ⟨_, rfl⟩
 rw [← hw5] at K ⊢
 clear hw5
 obtain ⟨t0, t1⟩ := row_cells K.out.bT
 by_cases hlt : k < R.length
 case neg =>
  obtain rfl : k = R.length := by omega
  have hnl : ¬ (R.length : Int) < (R.length : Int) := by omega
  rw [List.take_length] at HB
  have HK := Lib.hid K.out
  clear K
  go_wp2_with fail
  go_ret2
  exact ⟨Ts, p, c, 0, rfl, Or.inl ⟨rfl, HOK.out, HVP.out, HB.out⟩, HK.out.own.mono (by omega), fun x hx => by
   have h := HK.out.tabs x hx
   exact ⟨h.rd.mono (fun b hb => ⟨by have := hb.1; omega, hb.2⟩), h.hn, h.hc, h.hy⟩, HK.out.gr⟩
 have hlt' : (k : Int) < (R.length : Int) := by omega
 have hk0 : (0 : Int) ≤ (k : Int) := by omega
 obtain ⟨y, hy⟩ : ∃ y, R[k]? = some y := ⟨_, List.getElem?_eq_getElem hlt⟩
 obtain ⟨-, b, off, rfl, -, hc⟩ := rdr_cells (R := R) K.out.t.r (by omega)
 obtain ⟨a0, a1⟩ := hc k y hy
 have HY := Lib.hid hy
 clear hc hy
 cases hcap : y.cap
 case false =>
  rw [hcap] at a1
  have HB2 := Lib.hid (HB.out.skip HY.out hcap)
  clear hcap HB a0
  go_wp2_with fail
  exact ⟨⟨k + 1, Ts, p, c, by omega, rfl, congrArg _ (by omega), HB2, K⟩, by simp only [RowKit.intOf]; omega⟩
 rw [hcap] at a1
 have HC := Lib.hid hcap
 clear hcap
 have hLE : Hid (Ts.length ≤ 1000) := Lib.hid (by have := HB.out.len; rw [List.length_take] at this; omega)
 have hLl := hLE.out
 go_upto_region 8 with fail
 refine region_until (S := fun w' => Hid (w5.grownBy w' none)) (fun j => j == 11 || j == 12) (by kernel_rfl) (Lib.hid (grown_drew (grown_refl _ none))) (fun hHeld => ?_)
 refine zU (i := 0) (v := ?_) rfl ?_ hHeld ?_
 rotate_left 1
 ·intro u hSu
  go_simp
  first | done | with_reducible rfl
 try simp only [Act.put, zA, zB, zC]
 refine zU (i := 1) (v := ?_) rfl ?_ hHeld ?_
 rotate_left 1
 ·intro u hSu
  obtain ⟨t0u, t1u⟩ := row_cells (kept_row K.out.bT hSu.out (by simp))
  obtain ⟨q0u, q1u, q2u⟩ := row3B (kept_row K.out.bP hSu.out (by simp))
  have a0u := hSu.out.cell a0 (by simp)
  go_simp
  first | done | with_reducible rfl
 try simp only [Act.put, zA, zB, zC]
 refine zU (i := 2) (v := ?_) rfl ?_ hHeld ?_
 rotate_left 1
 ·intro u hSu
  obtain ⟨t0u, t1u⟩ := row_cells (kept_row K.out.bT hSu.out (by simp))
  obtain ⟨q0u, q1u, q2u⟩ := row3B (kept_row K.out.bP hSu.out (by simp))
  have a0u := hSu.out.cell a0 (by simp)
  go_simp
  first | done | with_reducible rfl
 try simp only [Act.put, zA, zB, zC]
 refine zU (i := 3) (v := ?_) rfl ?_ hHeld ?_
 rotate_left 1
 ·intro u hSu
  go_simp
  first | done | with_reducible rfl
 try simp only [Act.put, zA, zB, zC]
 refine zU (i := 4) (v := ?_) rfl ?_ hHeld ?_
 rotate_left 1
 ·intro u hSu
  obtain ⟨t0u, t1u⟩ := row_cells (kept_row K.out.bT hSu.out (by simp))
  obtain ⟨q0u, q1u, q2u⟩ := row3B (kept_row K.out.bP hSu.out (by simp))
  have a0u := hSu.out.cell a0 (by simp)
  go_simp
  first | done | with_reducible rfl
 try simp only [Act.put, zA, zB, zC]
 refine zU (i := 5) (v := ?_) rfl ?_ hHeld ?_
 rotate_left 1
 ·intro u hSu
  go_simp
  first | done | with_reducible rfl
 try simp only [Act.put, zA, zB, zC]
 refine zU (i := 6) (v := ?_) rfl ?_ hHeld ?_
 rotate_left 1
 ·intro u hSu
  go_simp
  first | done | with_reducible rfl
 try simp only [Act.put, zA, zB, zC]
 refine zU (i := 7) (v := ?_) rfl ?_ hHeld ?_
 rotate_left 1
 ·intro u hSu
  go_simp
  first | done | with_reducible rfl
 try simp only [Act.put, zA, zB, zC]
 refine zU (i := 8) (v := ?_) rfl ?_ hHeld ?_
 rotate_left 1
 ·intro u hSu
  obtain ⟨t0u, t1u⟩ := row_cells (kept_row K.out.bT hSu.out (by simp))
  obtain ⟨q0u, q1u, q2u⟩ := row3B (kept_row K.out.bP hSu.out (by simp))
  have a0u := hSu.out.cell a0 (by simp)
  go_simp
  first | done | with_reducible rfl
 try simp only [Act.put, zA, zB, zC]
 refine anyU_ready (rs := [9]) (by kernel_rfl) (by simp) ?_
 refine EachU.cons (o := ⟨_, _, _, _, _, _⟩) rfl (fun Kz hK => ?_) EachU.nil
 go_simp
 go_at_call 88
 refine (rbuild_any ⟨R, L0, some ⟨b, off, none⟩, cR, pL, cL⟩ s n y.id E pE cE _ _ _ (K.out.keep hHeld.out).t (K.out.keep hHeld.out).e hEl).mono ?_
 rintro e' w7 ⟨L, p2, c2, rfl, hown, hrows, hM, hg⟩
 have HBL := Lib.hid (And.intro (hown.mono (base := _) hHeld.out.size) (And.intro (fun x hx => (⟨(hrows x hx).1.mono (fun b hb => ⟨Nat.le_trans hHeld.out.size hb.1, hb.2⟩), (hrows x hx).2⟩ : RdX w5.heap.size w7 _ _ _ _)) hM))
 have HN := Lib.hid (grown_trans hHeld.out hg)
 clear hown hrows hM hg
 simp only
 refine hK.out _ _ (fun _ => HN) (fun hH2 => ?_)
 clear hK Kz hHeld
 have hHeld := hH2 rfl
 clear hH2
 try simp only [Act.put, zA, zB, zC]
 refine anyU_ready (rs := [10]) (by kernel_rfl) (by simp) ?_
 refine EachU.cons (o := ⟨_, _, _, _, _, _⟩) rfl (fun Kz hK => ?_) EachU.nil
 have K7 := Lib.hid (K.out.keep hHeld.out)
 go_simp
 refine hK.out _ _ (fun _ => hid_more hHeld (World.grownBy_alloc _ _ _)) (fun hH2 => ?_)
 clear hK Kz hHeld
 have hHeld := hH2 rfl
 clear hH2
 try simp only [Act.put, zA, zB, zC]
 refine anyU_ready (rs := [11]) (by kernel_rfl) (by simp) ?_
 refine EachU.cons (o := ⟨_, _, _, _, _, _⟩) rfl (fun Kz hK => ?_) EachU.nil
 refine step_append_lies _ (by rfl) _ _ 29 (by rfl) (w.heap.size + 2) 25 ii (.agg #[.int .i64 0, .int .i64 0, .int .i64 0, .slice none 0 0]) 4 48 Tryz.underlying29 hii hi0 hi1 hi2 rfl (by decide) (.slice p Ts.length c) Ts.length (Ts.flatMap tbC) (by rfl) (K7.out.own.alloc _) ⟨w7.heap.size, 0, none⟩ 1 1 (tbC ⟨y.id, s, n, L, p2, c2⟩) (by rfl) (by rfl) (tb_row w7 ⟨y.id, s, n, L, p2, c2⟩ _) (tb_one ⟨y.id, s, n, L, p2, c2⟩) (by decide) (by unfold maxLen; omega) (by omega) (by have := K7.out.lo; simp; omega) _ rfl ?_
 intro g cap w8 hown8 hgrow hat hlt8
 have ga := World.grownBy_alloc w7 (.cells #[.int .i64 y.id, .int .i64 s, .int .i64 n, .slice p2 L.length c2] 25) none
 have hv : (Value.slice (some ⟨g, 0, none⟩) (Ts.length + 1) cap).ownBlock = (Value.slice p Ts.length c).ownBlock ∨ ∀ b, some b = (Value.slice (some ⟨g, 0, none⟩) (Ts.length + 1) cap).ownBlock → (w7.alloc (.cells #[.int .i64 y.id, .int .i64 s, .int .i64 n, .slice p2 L.length c2] 25)).heap.size ≤ b := by
  rcases hat with h | h
  ·exact Or.inl h.symm
  ·refine Or.inr fun b e => ?_
   have e2 : some b = some g := e
   have := Option.some.inj e2
   rw [this, h]
   exact Nat.le_refl _
 have K8 := (K7.out.keep ga).push (x := ⟨y.id, s, n, L, p2, c2⟩) (v' := .slice (some ⟨g, 0, none⟩) (Ts.length + 1) cap) ((tbx_of_bld y.id s n HBL.out.1 HBL.out.2.1 (fun b e => (K.out.own.lt b e).2) K.out.lo).keep ga) (by rw [List.length_append, List.flatMap_append]; simpa [tbC] using hown8) hgrow hv
 have HB2 := Lib.hid (HB.out.push HY.out HC.out HBL.out.2.2 p2 c2)
 have HLL : Hid ((Ts ++ [(⟨y.id, s, n, L, p2, c2⟩ : Tb)]).length = Ts.length + 1) := Lib.hid (by rw [List.length_append]; rfl)
 have K8 := Lib.hid K8
 clear hown8 hgrow hat hlt8 ga hv K7 HBL
 refine hK.out _ _ (fun h => by cases h) (fun _ => ?_)
 clear hK Kz
 try simp only [Act.put, zA, zB, zC]
 refine anyU_ready (rs := [12]) (by kernel_rfl) (by simp) ?_
 refine EachU.cons (o := ⟨_, _, _, _, _, _⟩) rfl (fun Kz hK => ?_) EachU.nil
 go_simp
 refine hK.out _ _ (fun h => by cases h) (fun _ => ?_)
 clear hK Kz
 try simp only [Act.put, zA, zB, zC]
 refine anyU_done (by kernel_rfl) ?_ _
 clear hHeld t0 t1 a0 a1
 go_wp2_with fail
 exact ⟨⟨k + 1, Ts ++ [⟨y.id, s, n, L, p2, c2⟩], some ⟨g, 0, none⟩, cap, by omega, by rw [HLL.out], congrArg _ (by omega), HB2, by rw [HLL.out]; exact K8⟩, by simp only [RowKit.intOf]; omega⟩
end Go.Proofs.YtahafijpcmphaaaGreat

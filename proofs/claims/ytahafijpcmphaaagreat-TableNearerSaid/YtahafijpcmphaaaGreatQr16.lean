/- Parts of the proof, packed: IdRtw, IdPln, IdVpl, IdRck, IdRcn, IdAwk, IdInt, IdRep, IdRvp, TaRAl, MaRHp, MaBit, MaRBt, TaRck, MaRMk, MaNxt, TaCpM, TaCpy, IoOrder, IdTpM, TaVal, TaFlM, TaFlS. -/
import Derived.Test.YtahafijpcmphaaaGreatQr15
import Derived.Deep.CutRange
import Derived.Test.YtahafijpcmphaaaGreatQr14
import Derived.Laws.StructEq
import Derived.Test.YtahafijpcmphaaaGreatQr3
import Derived.Test.YtahafijpcmphaaaGreatQr12
import Derived.Test.YtahafijpcmphaaaGreatQr5
import Derived.Test.YtahafijpcmphaaaGreatQr1
import Derived.Test.YtahafijpcmphaaaGreatQr11
import Derived.Test.YtahafijpcmphaaaGreatQr8
import Derived.Test.YtahafijpcmphaaaGreatQr2
/- identify: routerTwice. -/
namespace Go.Proofs.YtahafijpcmphaaaGreat
open Go.RowKit Bs
set_option maxRecDepth 100000 in
theorem info_bs1 : (Tryz.prog.info? 102).map (fun i => (i.zero, i.size)) = some (some (.agg (arrV 100 (bvN fun _ => false))), 100) := by kernel_rfl
set_option maxRecDepth 100000 in
theorem rep_yes {L : List Int} {k : Nat} {x : Int} (hx : L[k]? = some x) (h : x ∈ L.take k) : repI L = true := by
  have hk : k < L.length := (List.getElem?_eq_some_iff.1 hx).1
  unfold repI
  refine List.any_eq_true.2 ⟨k, List.mem_range.2 hk, ?_⟩
  rw [List.getD_eq_getElem?_getD, hx]
  simpa using h
set_option maxRecDepth 100000 in
theorem rep_no {L : List Int} (h : ∀ k x, L[k]? = some x → x ∉ L.take k) : repI L = false := by
  unfold repI
  rw [List.any_eq_false]
  intro k hk
  have hk := List.mem_range.1 hk
  rw [List.getD_eq_getElem?_getD, List.getElem?_eq_getElem hk]
  simpa using h k _ (List.getElem?_eq_getElem hk)
set_option maxRecDepth 100000 in
theorem wre_r {x : Ed} (h : wrE x = false) : 1 ≤ x.r ∧ x.r ≤ 99 := by
  unfold wrE inV at h
  simp only [Bool.not_eq_false', Bool.and_eq_true, decide_eq_true_eq] at h
  exact h.1
/-- While routers are marked in the block B. -/
structure RT (W : World) (E : List Ed) (p : Option Addr) (c B : Nat) (kf : Nat → Bool) (w : World) : Prop where
  kb : w.heap[B]? = some (.cells (arrV 100 (bvN kf)) 102 (0, 0))
  rd : RdF w (· < W.heap.size) (.slice p E.length c) E.length (E.flatMap edC)
  gr : W.grownBy w none
  lo : W.heap.size ≤ B
section
variable {W w w1 : World} {E : List Ed} {p : Option Addr} {c B : Nat} {kf : Nat → Bool}
set_option maxRecDepth 100000 in
theorem RT.keep (h : RT W E p c B kf w) (g : w.grownBy w1 none) : RT W E p c B kf w1 := ⟨kept_row h.kb g (by simp), h.rd.keep g, grown_trans h.gr g, h.lo⟩
set_option maxRecDepth 100000 in
theorem RT.put (h : RT W E p c B kf w) {m : Nat} (hm : m < 100) : RT W E p c B (fun j => if j = m then true else kf j) (w.setCell ⟨B, m, none⟩ (.bool true)) := by
  obtain ⟨h1, h2⟩ := arr_put (.bool true) h.kb hm
  have hlo := h.lo
  refine ⟨?_, h.rd.grown h2 (fun b hb e => by have := Option.some.inj e; omega), grown_new h.gr h2 (by omega), hlo⟩
  rw [h1]
  congr 2
  refine arr_congr fun j _ => ?_
  unfold bvN
  show (if j = m then _ else _) = Value.bool (if j = m then true else kf j)
  split <;> rfl
end
/-- The routers of edges. -/
def rsE (E : List Ed) : List Int := E.map Ed.r
set_option maxRecDepth 100000 in
theorem rsE_at {E : List Ed} {k : Nat} {x : Ed} (h : E[k]? = some x) : (rsE E)[k]? = some x.r := by unfold rsE; rw [List.getElem?_map, h]; rfl
set_option maxRecDepth 100000 in
set_option maxHeartbeats 6400000 in
theorem irtw_any (E : List Ed) (p : Option Addr) (c : Nat) (q : Nat → Prop) (w : World) (hR : RdF w q (.slice p E.length c) E.length (E.flatMap edC)) (hv : E.any wrE = false) (hm : E.length ≤ 9223372036854775807) :
    Calls Tryz.prog 151 #[.slice p E.length c] w fun e w' => e = .returned (.bool (repI (rsE E))) ∧ w.grownBy w' none := by
  have HZ2 := (zero_of_info info_bs1).1
  obtain ⟨n1, n2⟩ := tone_box w (arrV 100 (bvN fun _ => false)) 102
  have E0 : Hid (RT w E p c w.heap.size (fun j => decide ((j : Int) ∈ (rsE E).take 0)) _) := Lib.hid ⟨by rw [n1]; congr 2, hR.old.keep n2, n2, Nat.le_refl _⟩
  have HV := Lib.hid (fun x hx => wre_r (any_mem hv (x := x) hx))
  clear n1 n2 hR hv
  go_enter Tryz.func151, Tryz.ntmps151
  go_upto_region 2 with fail
  generalize w.alloc _ = w1 at *
  obtain ⟨B, hB⟩ : ∃ B, w.heap.size = B := ⟨_, rfl⟩
  rw [hB] at E0 ⊢
  clear hB HZ2
  have HN0 : Hid (∀ j x, j < 0 → (rsE E)[j]? = some x → x ∉ (rsE E).take j) := Lib.hid (fun j x h => by omega)
  go_wp2_with fail
  go_loopw [8] (fun a wr => ∃ k : Nat, k ≤ E.length ∧ a = .int .i64 (k : Int) ∧ Hid (∀ j x, j < k → (rsE E)[j]? = some x → x ∉ (rsE E).take j) ∧ Hid (RT w E p c B (fun j => decide ((j : Int) ∈ (rsE E).take k)) wr)) (fun a _ => E.length - (RowKit.intOf a).toNat)
  case atStart => exact ⟨0, by omega, rfl, HN0, E0⟩
  case round =>
    obtain ⟨w5, rfl⟩ : ∃ w5, w5 = wr := ⟨_, rfl⟩
    obtain ⟨k, hk, rfl, HN, N⟩ := hrel
    clear E0 HN0
    by_cases hlt : k < E.length
    · have hlt' : (k : Int) < (E.length : Int) := by omega
      obtain ⟨-, b, off, rfl, -, hcc⟩ := ed_cells N.out.rd (by omega)
      obtain ⟨x, hx⟩ : ∃ x, E[k]? = some x := ⟨_, List.getElem?_eq_getElem hlt⟩
      obtain ⟨a0, a1⟩ := hcc k x hx
      have hxr := HV.out x (List.mem_of_getElem? hx)
      obtain ⟨m, hm1⟩ : ∃ m : Nat, x.r = (m : Int) := ⟨x.r.toNat, by omega⟩
      have hm2 : m < 100 := by omega
      have HX := Lib.hid (rsE_at hx)
      have HB := Lib.hid (heap_alloc_new w5 (.cells #[.int .i64 x.r, .int .i64 x.i] 71))
      have HG := Lib.hid (World.grownBy_alloc w5 (.cells #[.int .i64 x.r, .int .i64 x.i] 71) none)
      have HM1 := Lib.hid hm1
      clear hcc hx hm1 hxr
      go_upto_region 5 with fail
      clear a0 a1
      generalize w5.alloc _ = w6 at *
      have N1 := Lib.hid (N.out.keep HG.out)
      rw [HM1.out] at HB HX
      obtain ⟨d0, d1⟩ := row_cells HB.out
      obtain ⟨kb, hkb⟩ : ∃ b : Bool, decide ((m : Int) ∈ (rsE E).take k) = b := ⟨_, rfl⟩
      have e1 : w6.cell? ⟨B, m, none⟩ = some (.bool kb) := by rw [← hkb]; exact arr_row N1.out.kb hm2
      have f1 := frozen_of_row _ _ m _ _ N1.out.kb
      have HKB := Lib.hid hkb
      clear hkb N HG
      cases kb with
      | true =>
        have HT := Lib.hid (rep_yes HX.out (of_decide_eq_true HKB.out))
        go_wp2_with fail
        go_ret
        rw [HT.out]
        exact ⟨rfl, N1.out.gr⟩
      | false =>
        have N2 := N1.out.put hm2
        have HKF : (fun j : Nat => if j = m then true else decide ((j : Int) ∈ (rsE E).take k)) = fun j : Nat => decide ((j : Int) ∈ (rsE E).take (k + 1)) := by
          funext j
          rw [List.take_add_one, HX.out]
          by_cases hj : j = m
          · subst hj
            rw [if_pos rfl]
            exact (decide_eq_true (by simp)).symm
          · rw [if_neg hj]
            congr 1
            simp only [Option.toList, List.mem_append, List.mem_singleton, eq_iff_iff]
            constructor
            · exact fun h => Or.inl h
            · rintro (h | h)
              · exact h
              · exact absurd (by omega) hj
        rw [HKF] at N2
        have N3 := Lib.hid N2
        have HN2 : Hid (∀ j x, j < k + 1 → (rsE E)[j]? = some x → x ∉ (rsE E).take j) := Lib.hid (fun j y hj hy => by
          by_cases hjk : j < k
          · exact HN.out j y hjk hy
          · obtain rfl : j = k := by omega
            rw [HX.out] at hy
            obtain rfl := Option.some.inj hy
            exact of_decide_eq_false HKB.out)
        clear N2 HKF N1
        go_wp2_with fail
        exact ⟨⟨k + 1, by omega, congrArg _ (by omega), HN2, N3⟩, by simp only [RowKit.intOf]; omega⟩
    · obtain rfl : k = E.length := by omega
      have hnl : ¬ (E.length : Int) < (E.length : Int) := by omega
      have HT := Lib.hid (rep_no (L := rsE E) (fun j x hx => HN.out j x (by
        have := (List.getElem?_eq_some_iff.1 hx).1
        unfold rsE at this
        rw [List.length_map] at this
        exact this) hx))
      go_wp2_with fail
      go_ret
      rw [HT.out]
      exact ⟨rfl, N.out.gr⟩
end Go.Proofs.YtahafijpcmphaaaGreat

/- identify: Plan. -/
namespace Go.Proofs.YtahafijpcmphaaaGreat
open Go.RowKit Bs
set_option maxRecDepth 100000 in
theorem row3i {w : World} {b : Nat} {t : TypeId} {x y z : Value} (h : w.heap[b]? = some (.cells #[x, y, z] t (0, 0))) : (w.cell? ⟨b, 0, none⟩ = some x ∧ w.cell? ⟨b, 1, none⟩ = some y ∧ w.cell? ⟨b, 2, none⟩ = some z) ∧ ∀ o, w.frozen? ⟨b, o, none⟩ = false :=
  ⟨⟨cell_of_row _ _ _ _ _ _ h, cell_of_row _ _ _ _ _ _ h, cell_of_row _ _ _ _ _ _ h⟩, fun o => frozen_of_row _ _ o _ _ h⟩
end Go.Proofs.YtahafijpcmphaaaGreat

/- identify: ValidPlan. -/
namespace Go.Proofs.YtahafijpcmphaaaGreat
open Go.RowKit Bs
set_option maxRecDepth 100000 in
set_option maxHeartbeats 6400000 in
theorem ivplan_any (sub n : Int) (E : List Ed) (p : Option Addr) (c : Nat) (q : Nat → Prop) (w : World) (hR : RdF w q (.slice p E.length c) E.length (E.flatMap edC)) (hm : E.length ≤ 9223372036854775807) :
    Calls Tryz.prog 113 #[.agg #[.int .i64 sub, .int .i64 n, .slice p E.length c]] w fun e w' => e = .returned (.bool (vPl sub n E)) ∧ w.grownBy w' none := by
  obtain ⟨k1, k2⟩ := tone_box w #[.int .i64 sub, .int .i64 n, .slice p E.length c] 48
  have H0 := Lib.hid (And.intro k1 (And.intro k2 (hR.keep k2)))
  have e1 : EnterF 148 := enters_of Tryz.func148 (by kernel_rfl) rfl
  have E1 := Lib.hid e1
  clear k1 k2 hR e1
  go_enter Tryz.func113, Tryz.ntmps113
  go_upto_region 1 with fail
  generalize w.alloc _ = w1 at *
  obtain ⟨⟨d0, d1, d2⟩, -⟩ := row3i H0.out.1
  obtain ⟨b1, hb1⟩ : ∃ b, inV sub 0 7 = b := ⟨_, rfl⟩
  have B1 := Lib.hid hb1
  clear hb1
  go_wp2_with fail
  refine (ivs_lit sub _ B1.out w1).mono ?_
  rintro e w' ⟨rfl, rfl⟩
  cases b1
  case false =>
    go_wp2_with fail
    go_ret
    exact ⟨by unfold vPl; rw [B1.out]; rfl, H0.out.2.1⟩
  by_cases h24 : 24 < E.length
  · have h24' : (24 : Int) < (E.length : Int) := by omega
    go_wp2_with fail
    go_ret
    exact ⟨by unfold vPl; rw [decide_eq_false (show ¬ E.length ≤ 24 by omega)]; simp, H0.out.2.1⟩
  have h24' : ¬ (24 : Int) < (E.length : Int) := by omega
  obtain ⟨b2, hb2⟩ : ∃ b, vl n = b := ⟨_, rfl⟩
  have B2 := Lib.hid hb2
  clear hb2
  go_wp2_with fail
  refine (vlp_lit n _ B2.out w1).mono ?_
  rintro e w' ⟨rfl, rfl⟩
  cases b2
  case true =>
    have HP : Hid (vPl sub n E = (!E.any wrE && ascB ltE E && !repI (rsE E))) := Lib.hid (by
      unfold vPl rsE
      rw [B1.out, B2.out, decide_eq_true (show E.length ≤ 24 by omega)]
      simp)
    go_wp2_with fail
    refine (icontE_any 148 #[] wrE E1.out E p c _ w1 H0.out.2.2 hm (fun r w' _ => iwre_any r w')).mono ?_
    rintro e w2 ⟨rfl, hg⟩
    have H2 := Lib.hid (And.intro (kept_row H0.out.1 hg (by simp)) (And.intro (grown_trans H0.out.2.1 hg) (H0.out.2.2.keep hg)))
    clear hg
    clear d0 d1 d2
    obtain ⟨⟨d0, d1, d2⟩, -⟩ := row3i H2.out.1
    cases f1 : E.any wrE
    case true =>
      have F1 := Lib.hid f1
      clear f1
      go_wp2_with fail
      go_ret
      exact ⟨by rw [HP.out, F1.out]; rfl, H2.out.2.1⟩
    have F1 := Lib.hid f1
    clear f1
    go_wp2_with fail
    refine (iascE_any E p c _ w2 H2.out.2.2 hm).mono ?_
    rintro e w3 ⟨rfl, hg⟩
    have H3 := Lib.hid (And.intro (kept_row H2.out.1 hg (by simp)) (And.intro (grown_trans H2.out.2.1 hg) (H2.out.2.2.keep hg)))
    clear hg
    clear d0 d1 d2 H2
    obtain ⟨⟨d0, d1, d2⟩, -⟩ := row3i H3.out.1
    cases f2 : ascB ltE E
    case false =>
      have F2 := Lib.hid f2
      clear f2
      go_wp2_with fail
      go_ret
      exact ⟨by rw [HP.out, F1.out, F2.out]; rfl, H3.out.2.1⟩
    have F2 := Lib.hid f2
    clear f2
    go_wp2_with fail
    refine (irtw_any E p c _ w3 H3.out.2.2 F1.out hm).mono ?_
    rintro e w4 ⟨rfl, hg⟩
    have G4 := Lib.hid (grown_trans H3.out.2.1 hg)
    clear hg
    clear d0 d1 d2 H3
    have HRP : Hid (vPl sub n E = !repI (rsE E)) := Lib.hid (by rw [HP.out, F1.out, F2.out]; rfl)
    go_wp2_with fail
    go_ret
    rw [HRP.out]
    exact ⟨rfl, G4.out⟩
  by_cases hn0 : n = 0
  case neg =>
    have hn0' : (n != 0) = true := by simpa using hn0
    have HF : Hid (vPl sub n E = false) := Lib.hid (by unfold vPl; rw [B2.out, decide_eq_false hn0]; simp)
    clear hn0
    go_wp2_with fail
    go_ret
    rw [HF.out]
    exact ⟨rfl, H0.out.2.1⟩
  have hn0' : (n != 0) = false := by simpa using hn0
  by_cases hE : 0 < E.length
  case pos =>
    have hE' : (0 : Int) < (E.length : Int) := by omega
    have HF : Hid (vPl sub n E = false) := Lib.hid (by unfold vPl; rw [B2.out, decide_eq_false (show ¬ E.length = 0 by omega)]; simp)
    clear hE
    go_wp2_with fail
    go_ret
    rw [HF.out]
    exact ⟨rfl, H0.out.2.1⟩
  have hE' : ¬ (0 : Int) < (E.length : Int) := by omega
  have HP : Hid (vPl sub n E = (!E.any wrE && ascB ltE E && !repI (rsE E))) := Lib.hid (by
    unfold vPl rsE
    rw [B1.out, decide_eq_true (show E.length ≤ 24 by omega), decide_eq_true hn0, decide_eq_true (show E.length = 0 by omega)]
    simp)
  clear hn0 hE
  go_wp2_with fail
  refine (icontE_any 148 #[] wrE E1.out E p c _ w1 H0.out.2.2 hm (fun r w' _ => iwre_any r w')).mono ?_
  rintro e w2 ⟨rfl, hg⟩
  have H2 := Lib.hid (And.intro (kept_row H0.out.1 hg (by simp)) (And.intro (grown_trans H0.out.2.1 hg) (H0.out.2.2.keep hg)))
  clear hg
  clear d0 d1 d2
  obtain ⟨⟨d0, d1, d2⟩, -⟩ := row3i H2.out.1
  cases f1 : E.any wrE
  case true =>
    have F1 := Lib.hid f1
    clear f1
    go_wp2_with fail
    go_ret
    exact ⟨by rw [HP.out, F1.out]; rfl, H2.out.2.1⟩
  have F1 := Lib.hid f1
  clear f1
  go_wp2_with fail
  refine (iascE_any E p c _ w2 H2.out.2.2 hm).mono ?_
  rintro e w3 ⟨rfl, hg⟩
  have H3 := Lib.hid (And.intro (kept_row H2.out.1 hg (by simp)) (And.intro (grown_trans H2.out.2.1 hg) (H2.out.2.2.keep hg)))
  clear hg
  clear d0 d1 d2 H2
  obtain ⟨⟨d0, d1, d2⟩, -⟩ := row3i H3.out.1
  cases f2 : ascB ltE E
  case false =>
    have F2 := Lib.hid f2
    clear f2
    go_wp2_with fail
    go_ret
    exact ⟨by rw [HP.out, F1.out, F2.out]; rfl, H3.out.2.1⟩
  have F2 := Lib.hid f2
  clear f2
  go_wp2_with fail
  refine (irtw_any E p c _ w3 H3.out.2.2 F1.out hm).mono ?_
  rintro e w4 ⟨rfl, hg⟩
  have G4 := Lib.hid (grown_trans H3.out.2.1 hg)
  clear hg
  clear d0 d1 d2 H3
  have HRP : Hid (vPl sub n E = !repI (rsE E)) := Lib.hid (by rw [HP.out, F1.out, F2.out]; rfl)
  go_wp2_with fail
  go_ret
  rw [HRP.out]
  exact ⟨rfl, G4.out⟩
end Go.Proofs.YtahafijpcmphaaaGreat

/- empty -/
namespace Go.Proofs.YtahafijpcmphaaaGreat
end Go.Proofs.YtahafijpcmphaaaGreat

/- empty -/
namespace Go.Proofs.YtahafijpcmphaaaGreat
end Go.Proofs.YtahafijpcmphaaaGreat

/- empty -/
namespace Go.Proofs.YtahafijpcmphaaaGreat
end Go.Proofs.YtahafijpcmphaaaGreat

/- empty -/
namespace Go.Proofs.YtahafijpcmphaaaGreat
end Go.Proofs.YtahafijpcmphaaaGreat

/- The reference's Repeats. -/
namespace Go.Proofs.YtahafijpcmphaaaGreat
open Go.RowKit Bs
end Go.Proofs.YtahafijpcmphaaaGreat

/- The reference's ValidPlan. -/
namespace Go.Proofs.YtahafijpcmphaaaGreat
open Go.RowKit Bs
section
variable {W w w1 : World} {sub n : Int} {E : List Ed} {p : Option Addr} {c : Nat} {v v' : Value} {M N : List Int}
end
end Go.Proofs.YtahafijpcmphaaaGreat

/- tables, the reference's functions: All. -/
namespace Go.Proofs.YtahafijpcmphaaaGreat
open Go.RowKit Bs
end Go.Proofs.YtahafijpcmphaaaGreat

/- tables, the reference's functions: Hop. -/
namespace Go.Proofs.YtahafijpcmphaaaGreat
open Go.RowKit Go.Maps Bs
end Go.Proofs.YtahafijpcmphaaaGreat

/- masks, the reference's Bits: the mathematics. -/
namespace Go.Proofs.YtahafijpcmphaaaGreat
open Go.RowKit Go.Maps Bs
end Go.Proofs.YtahafijpcmphaaaGreat

/- masks, the reference's functions: Bits. -/
namespace Go.Proofs.YtahafijpcmphaaaGreat
open Go.RowKit Go.Maps Bs
end Go.Proofs.YtahafijpcmphaaaGreat

/- tables, the reference's functions: Check. -/
namespace Go.Proofs.YtahafijpcmphaaaGreat
open Go.RowKit Go.Maps Bs
end Go.Proofs.YtahafijpcmphaaaGreat

/- masks, the reference's functions: Mask, Next, Local. -/
namespace Go.Proofs.YtahafijpcmphaaaGreat
open Go.RowKit Go.Maps Bs
end Go.Proofs.YtahafijpcmphaaaGreat

/- tables: Row; masks: Next. -/
namespace Go.Proofs.YtahafijpcmphaaaGreat
open Go.RowKit Go.Maps Bs
end Go.Proofs.YtahafijpcmphaaaGreat

/- tables: rows that are their owner's. -/
namespace Go.Proofs.YtahafijpcmphaaaGreat
open Go.RowKit Bs
def Rw.v (x : Rw) : Value := .slice x.p x.nx.length x.c
set_option maxRecDepth 100000 in
theorem own_keptN {w w1 : World} {base size n : Nat} {e : TypeId} {v : Value} {xs : List Value} (h : w.ownsRow base e size v n xs) (g : w.grownBy w1 none) : w1.ownsRow base e size v n xs := h.kept g (by cases v.ownBlock <;> simp)
set_option maxRecDepth 100000 in
theorem own_otherL {w w' : World} {base size n b : Nat} {e : TypeId} {v : Value} {xs : List Value} (h : w.ownsRow base e size v n xs) (g : w.grownBy w' (some b)) (hb : b < base) : w'.ownsRow base e size v n xs := by
  refine h.kept g ?_
  cases hv : v.ownBlock with
  | none => exact .inl rfl
  | some k => exact .inr (fun e => by have := (h.lt k hv).1; have := Option.some.inj e; omega)
set_option maxRecDepth 100000 in
theorem RdW.old {w : World} {q : Nat → Prop} {p : Option Addr} {c : Nat} {L : List Rw} (h : RdW w q p c L) : RdW w (· < w.heap.size) p c L := ⟨h.rd.old, fun x hx => ⟨(h.ok x hx).rd.old, (h.ok x hx).hc⟩⟩
end Go.Proofs.YtahafijpcmphaaaGreat

/- tables: bitcastmake.copied. -/
namespace Go.Proofs.YtahafijpcmphaaaGreat
open Go.RowKit Bs
end Go.Proofs.YtahafijpcmphaaaGreat

/- The tape's orders. -/
namespace Go.Proofs.YtahafijpcmphaaaGreat
open Go.RowKit Bs
/-- An order of the first numbers. -/
def Ord (l : List Nat) (i : Nat) : Prop := l.length = i ∧ l.Nodup ∧ ∀ x ∈ l, x < i
set_option maxRecDepth 100000 in
theorem ord_next {l : List Nat} {i k : Nat} (h : Ord l i) : Ord (l.take k ++ [i] ++ l.drop k) (i + 1) := by
  obtain ⟨h1, h2, h3⟩ := h
  refine ⟨?_, ?_, ?_⟩
  · simp; omega
  · have e : (l.take k ++ [i] ++ l.drop k).Perm (i :: l) := by
      rw [List.append_assoc]
      have e2 : (l.take k ++ ([i] ++ l.drop k)).Perm (([i] ++ l.drop k) ++ l.take k) := List.perm_append_comm
      refine e2.trans ?_
      rw [List.append_assoc]
      show (i :: (l.drop k ++ l.take k)).Perm (i :: l)
      refine List.Perm.cons i ?_
      refine List.perm_append_comm.trans ?_
      rw [List.take_append_drop]
    rw [e.nodup_iff, List.nodup_cons]
    exact ⟨fun hm => by have := h3 i hm; omega, h2⟩
  · intro x hx
    rw [List.mem_append, List.mem_append] at hx
    rcases hx with (hx | hx) | hx
    · have := h3 x (List.mem_of_mem_take hx); omega
    · have : x = i := by simpa using hx
      omega
    · have := h3 x (List.mem_of_mem_drop hx); omega
/-- The slice v is an order of the first i numbers, in a row of the call's own. -/
def OrdRel (a : Nat) (W : World) (i : Nat) (v : Value) (w' : World) : Prop := ∃ l, Ord l i ∧ w'.ownsRow W.heap.size 3 1 v i (l.map zv) ∧ (i = 0 → v = .slice none 0 0) ∧ St a W w'
def OrdPost (a : Nat) (n : Nat) (W : World) (e : Ending) (w' : World) : Prop := ∃ v, e = .returned v ∧ OrdRel a W n v w'
set_option maxRecDepth 100000 in
set_option maxHeartbeats 3200000 in
theorem order_any (a n : Nat) (hn : n ≤ 1000) (w : World) (hT : Tp w a) :
    Calls Tryz.prog 82 #[.pointer (some ⟨a, 0, none⟩), .int .i64 (n : Int)] w fun e w' => OrdPost a n w e w' := by
  have ha := hT.lt
  have hS0 : Hid (OrdRel a w 0 (.slice none 0 0) w) := Lib.hid ⟨[], ⟨rfl, List.nodup_nil, fun x hx => by cases hx⟩, World.ownsRow_nil _ _ _ _, fun _ => rfl, grown_refl _ _, hT⟩
  clear hT
  go_enter Tryz.func82, Tryz.ntmps82
  go_wp2_with fail
  go_loopw [5, 6] (fun v i wr => ∃ j : Nat, j ≤ n ∧ i = .int .i64 (j : Int) ∧ OrdRel a w j v wr) (fun _ i _ => (n - (RowKit.intOf i).toNat))
  case atStart => exact ⟨0, Nat.zero_le _, rfl, hS0.out⟩
  case round =>
    obtain ⟨j, hj, rfl, hR⟩ := hrel
    have HR := Lib.hid hR
    clear hR hS0
    by_cases hlt : j < n
    · obtain ⟨l, hO, hown, hv0, hSt⟩ := HR.out
      have HO := Lib.hid hO
      have hT := hSt.2
      have HOWN := Lib.hid hown
      have HST := Lib.hid hSt
      clear hO hown hSt HR
      go_wp2_with fail
      refine (next_any a ((j : Int) + 1) (by unfold I64; omega) _ hT).mono ?_
      rintro e w3 ⟨r, rfl, hr, hs⟩
      obtain ⟨k, rfl⟩ := Int.eq_ofNat_of_zero_le hr.1
      have hkj : k ≤ j := by have := hr.2.1 (by omega); omega
      have HS3 := Lib.hid (HST.out.trans hs)
      have HOWN3 := Lib.hid (own_kept ha HOWN.out hs.1)
      clear hr hs hT HST HOWN
      by_cases hj0 : j = 0
      · subst hj0
        obtain rfl : k = 0 := by omega
        obtain rfl := hv0 rfl
        have hl : l = [] := List.eq_nil_of_length_eq_zero HO.out.1
        clear hv0
        obtain ⟨i0, hi, hz0, hz1, hz2⟩ := info_parts info_int
        have hsz3 := Lib.hid HS3.out.1.size
        go_wp2_with (first
          | (at_builtin; refine wpList_append_own_none rfl _ _ 22 rfl w3.heap.size 3 i0 1 Tryz.underlying22 hi (.slice none 0 0) 0 [] rfl (World.ownsRow_nil _ _ _ _) rfl ?_)
          | (at_builtin; refine wpList_append_ints rfl _ _ rfl w3.heap.size (.slice none 0 0) 0 [] rfl (World.ownsRow_nil _ _ _ _) (some ⟨w3.heap.size, 0, none⟩) 1 1 [0] rfl rfl (by intro h; cases h) (by intro ad h; obtain rfl := Option.some.inj h; exact cell_one _ _ _) (by simp) (by simp) ?_; intro v2 w5 hown2 hg2; have HOWN2 := Lib.hid hown2; have HG2 := Lib.hid (grown_trans (World.grownBy_alloc w3 _ none) hg2); clear hown2 hg2)
          | (at_builtin; refine wpList_append_own_none rfl _ _ 22 rfl w3.heap.size 3 i0 1 Tryz.underlying22 hi v2 1 [zv 0] rfl HOWN2.out rfl ?_))
        go_roundw
        case rel =>
          refine ⟨1, by omega, rfl, [0], ⟨rfl, by simp, by simp⟩, ?_, by omega, ?_⟩
          · exact HOWN2.out.mono hsz3.out
          · exact ⟨grown_trans HS3.out.1 (grown_none HG2.out _), HS3.out.2.keep HG2.out⟩
        case measure => simp [RowKit.intOf]; omega
      · have hj1 : 0 < j := by omega
        obtain ⟨g, cap, rfl, hgb⟩ := own_form HOWN3.out hj1
        obtain ⟨hcap1, hcap2⟩ := own_cap HOWN3.out
        have hcap3 : cap ≤ 9223372036854775807 := by unfold maxLen at hcap2; omega
        have hgl := (HOWN3.out.lt g rfl).2
        have hll := HO.out.1
        have HLL := Lib.hid hll
        have hkc : k ≤ cap := by omega
        have hkl : (l.take k).length = k := by rw [List.length_take]; omega
        have hdl : (l.drop k).length = j - k := by rw [List.length_drop]; omega
        have HKL := Lib.hid hkl
        have HDL := Lib.hid hdl
        have hj9 : j ≤ 1000 := by omega
        have hsz3 := Lib.hid HS3.out.1.size
        have N1 : Hid (∀ ad, some (⟨g, 0, none⟩ : Addr) = some ad → ∀ i u, ((l.take k).map zv)[i]? = some u → w3.cell? (ad.add i) = some u) := by
          refine Lib.hid ?_
          intro ad h i u hu
          obtain rfl := Option.some.inj h
          refine HOWN3.out.cells rfl i u ?_
          rw [List.map_take, List.getElem?_take] at hu
          split at hu
          · exact hu
          · cases hu
        clear hll hkl hdl hv0 hcap2
        generalize hT1 : l.take k = t1 at *
        generalize hT2 : l.drop k = t2 at *
        have HT1 := Lib.hid hT1
        have HT2 := Lib.hid hT2
        clear hT1
        by_cases hkj : k < j
        · have hkcap : k < cap := by omega
          have news : Hid (∀ (W : World) c, W.ownsRow w.heap.size 3 1 (.slice (some ⟨g, 0, none⟩) j c) j (l.map zv) → ∀ i u, (t2.map zv)[i]? = some u → W.cell? ⟨g, k + i, none⟩ = some u) := by
            refine Lib.hid ?_
            intro W c h i u hu
            rw [← hT2, List.map_drop, List.getElem?_drop] at hu
            have := h.cells rfl (k + i) u hu
            rw [add_plain, Nat.zero_add] at this
            exact this
          clear hT2
          go_wp2_with (first
            | (at_builtin; refine wpList_append_ints rfl _ _ rfl w3.heap.size (.slice none 0 0) 0 [] rfl (World.ownsRow_nil _ _ _ _) (some ⟨g, 0, none⟩) k cap t1 rfl HKL.out.symm (by intro h; cases h) N1.out (by rw [HKL.out]; omega) (Nat.le_refl _) ?_; intro v1 w4 hown1 hg1; rw [Nat.zero_add, List.nil_append, HKL.out] at hown1; have HOWN1 := Lib.hid hown1; have HO4 := Lib.hid (own_apart HOWN3.out (World.ownsRow_nil w3 w3.heap.size 3 1) hgl hg1); have HS4 := Lib.hid (HS3.out.own_grow (World.ownsRow_nil w3 w3.heap.size 3 1) hsz3.out ha hg1); have HZ4 := Lib.hid hg1.size; clear hown1 hg1)
            | (at_builtin; refine wpList_append_ints rfl _ _ rfl w3.heap.size v1 k t1 rfl (HOWN1.out.alloc _) (some ⟨w4.heap.size, 0, none⟩) 1 1 [j] rfl rfl (by intro h; cases h) (by intro ad h; obtain rfl := Option.some.inj h; exact cell_one _ _ _) (by simp; omega) (by have := HZ4.out; simp; omega) ?_; intro v2 w5 hown2 hg2; have HOWN2 : Hid (w5.ownsRow w3.heap.size 3 1 v2 (k + 1) ((t1 ++ [j]).map zv)) := Lib.hid hown2; have HO5 := Lib.hid (own_apart (HO4.out.alloc _) (HOWN1.out.alloc _) hgl hg2); have HS5 := Lib.hid ((HS4.out.none_ (World.grownBy_alloc w4 _ none)).own_grow (HOWN1.out.alloc _) hsz3.out ha hg2); have HZ5 : Hid (w3.heap.size ≤ w5.heap.size) := Lib.hid (Nat.le_trans HZ4.out (Nat.le_trans (by simp) hg2.size)); clear hown2 hg2)
            | (at_builtin; refine wpList_append_ints rfl _ _ rfl w3.heap.size v2 (k + 1) (t1 ++ [j]) rfl HOWN2.out _ _ _ t2 rfl (by have := HDL.out; omega) (by intro h; cases h) (by intro ad h; obtain rfl := Option.some.inj h; intro i u hu; rw [add_plain]; exact news.out w5 cap HO5.out i u hu) (by have := HDL.out; omega) HZ5.out ?_; intro v3 w6 hown3 hg3; have HOWN6 := Lib.hid hown3; have HS6 := Lib.hid (HS5.out.own_grow HOWN2.out hsz3.out ha hg3); clear hown3 hg3))
          go_roundw
          case rel =>
            refine ⟨j + 1, by omega, by go_num, l.take k ++ [j] ++ l.drop k, ord_next HO.out, ?_, by omega, HS6.out⟩
            have h6 := HOWN6.out.mono hsz3.out
            rw [← HT1.out, ← HT2.out, show k + 1 + (l.drop k).length = j + 1 by rw [List.length_drop, HLL.out]; omega] at h6
            exact h6
          case measure => simp [RowKit.intOf]; omega
        · obtain rfl : k = j := by omega
          have ht2 : t2 = [] := by
            rw [← hT2]
            exact List.drop_of_length_le (Nat.le_of_eq HLL.out)
          clear hT2
          have HN2 : Hid (∀ (i : Nat) (u : Value), (t2.map zv)[i]? = some u → False) := Lib.hid (by intro i u hu; rw [ht2] at hu; simp at hu)
          clear ht2
          by_cases hcj : k = cap
          · subst hcj
            go_wp2_with (first
              | (at_builtin; refine wpList_append_ints rfl _ _ rfl w3.heap.size (.slice none 0 0) 0 [] rfl (World.ownsRow_nil _ _ _ _) (some ⟨g, 0, none⟩) k k t1 rfl HKL.out.symm (by intro h; cases h) N1.out (by rw [HKL.out]; omega) (Nat.le_refl _) ?_; intro v1 w4 hown1 hg1; rw [Nat.zero_add, List.nil_append, HKL.out] at hown1; have HOWN1 := Lib.hid hown1; have HO4 := Lib.hid (own_apart HOWN3.out (World.ownsRow_nil w3 w3.heap.size 3 1) hgl hg1); have HS4 := Lib.hid (HS3.out.own_grow (World.ownsRow_nil w3 w3.heap.size 3 1) hsz3.out ha hg1); have HZ4 := Lib.hid hg1.size; clear hown1 hg1)
              | (at_builtin; refine wpList_append_ints rfl _ _ rfl w3.heap.size v1 k t1 rfl (HOWN1.out.alloc _) (some ⟨w4.heap.size, 0, none⟩) 1 1 [k] rfl rfl (by intro h; cases h) (by intro ad h; obtain rfl := Option.some.inj h; exact cell_one _ _ _) (by simp; omega) (by have := HZ4.out; simp; omega) ?_; intro v2 w5 hown2 hg2; have HOWN2 : Hid (w5.ownsRow w3.heap.size 3 1 v2 (k + 1) ((t1 ++ [k]).map zv)) := Lib.hid hown2; have HO5 := Lib.hid (own_apart (HO4.out.alloc _) (HOWN1.out.alloc _) hgl hg2); have HS5 := Lib.hid ((HS4.out.none_ (World.grownBy_alloc w4 _ none)).own_grow (HOWN1.out.alloc _) hsz3.out ha hg2); have HZ5 : Hid (w3.heap.size ≤ w5.heap.size) := Lib.hid (Nat.le_trans HZ4.out (Nat.le_trans (by simp) hg2.size)); clear hown2 hg2)
              | (at_builtin; refine wpList_append_ints rfl _ _ rfl w3.heap.size v2 (k + 1) (t1 ++ [k]) rfl HOWN2.out _ _ _ t2 rfl (by have := HDL.out; omega) (by intro h; cases h) (by intro ad h i u hu; exact (HN2.out i u hu).elim) (by have := HDL.out; omega) HZ5.out ?_; intro v3 w6 hown3 hg3; have HOWN6 := Lib.hid hown3; have HS6 := Lib.hid (HS5.out.own_grow HOWN2.out hsz3.out ha hg3); clear hown3 hg3))
            go_roundw
            case rel =>
              refine ⟨k + 1, by omega, by go_num, l.take k ++ [k] ++ l.drop k, ord_next HO.out, ?_, by omega, HS6.out⟩
              have h6 := HOWN6.out.mono hsz3.out
              rw [← HT1.out, ← HT2.out, show k + 1 + (l.drop k).length = k + 1 by rw [List.length_drop, HLL.out]; omega] at h6
              exact h6
            case measure => simp [RowKit.intOf]; omega
          · have hkcap : k < cap := by omega
            go_wp2_with (first
              | (at_builtin; refine wpList_append_ints rfl _ _ rfl w3.heap.size (.slice none 0 0) 0 [] rfl (World.ownsRow_nil _ _ _ _) (some ⟨g, 0, none⟩) k cap t1 rfl HKL.out.symm (by intro h; cases h) N1.out (by rw [HKL.out]; omega) (Nat.le_refl _) ?_; intro v1 w4 hown1 hg1; rw [Nat.zero_add, List.nil_append, HKL.out] at hown1; have HOWN1 := Lib.hid hown1; have HO4 := Lib.hid (own_apart HOWN3.out (World.ownsRow_nil w3 w3.heap.size 3 1) hgl hg1); have HS4 := Lib.hid (HS3.out.own_grow (World.ownsRow_nil w3 w3.heap.size 3 1) hsz3.out ha hg1); have HZ4 := Lib.hid hg1.size; clear hown1 hg1)
              | (at_builtin; refine wpList_append_ints rfl _ _ rfl w3.heap.size v1 k t1 rfl (HOWN1.out.alloc _) (some ⟨w4.heap.size, 0, none⟩) 1 1 [k] rfl rfl (by intro h; cases h) (by intro ad h; obtain rfl := Option.some.inj h; exact cell_one _ _ _) (by simp; omega) (by have := HZ4.out; simp; omega) ?_; intro v2 w5 hown2 hg2; have HOWN2 : Hid (w5.ownsRow w3.heap.size 3 1 v2 (k + 1) ((t1 ++ [k]).map zv)) := Lib.hid hown2; have HO5 := Lib.hid (own_apart (HO4.out.alloc _) (HOWN1.out.alloc _) hgl hg2); have HS5 := Lib.hid ((HS4.out.none_ (World.grownBy_alloc w4 _ none)).own_grow (HOWN1.out.alloc _) hsz3.out ha hg2); have HZ5 : Hid (w3.heap.size ≤ w5.heap.size) := Lib.hid (Nat.le_trans HZ4.out (Nat.le_trans (by simp) hg2.size)); clear hown2 hg2)
              | (at_builtin; refine wpList_append_ints rfl _ _ rfl w3.heap.size v2 (k + 1) (t1 ++ [k]) rfl HOWN2.out _ _ _ t2 rfl (by have := HDL.out; omega) (by intro h; cases h) (by intro ad h i u hu; exact (HN2.out i u hu).elim) (by have := HDL.out; omega) HZ5.out ?_; intro v3 w6 hown3 hg3; have HOWN6 := Lib.hid hown3; have HS6 := Lib.hid (HS5.out.own_grow HOWN2.out hsz3.out ha hg3); clear hown3 hg3))
            go_roundw
            case rel =>
              refine ⟨k + 1, by omega, by go_num, l.take k ++ [k] ++ l.drop k, ord_next HO.out, ?_, by omega, HS6.out⟩
              have h6 := HOWN6.out.mono hsz3.out
              rw [← HT1.out, ← HT2.out, show k + 1 + (l.drop k).length = k + 1 by rw [List.length_drop, HLL.out]; omega] at h6
              exact h6
            case measure => simp [RowKit.intOf]; omega
    · obtain rfl : j = n := by omega
      go_wp2_with fail
      go_ret
      exact ⟨_, rfl, HR.out⟩
end Go.Proofs.YtahafijpcmphaaaGreat

/- The tape's plans: the mathematics. -/
namespace Go.Proofs.YtahafijpcmphaaaGreat
open Go.RowKit Bs
/-- The number of the router at a place. -/
def ridR (R : List Rt) (k : Nat) : Int := (R[k]?.map Rt.id).getD 0
set_option maxRecDepth 100000 in
theorem ridR_at {R : List Rt} {k : Nat} {r : Rt} (h : R[k]? = some r) : ridR R k = r.id := by unfold ridR; rw [h]; rfl
/-- What is known of the edges that were made of the first i places of an order, the last ID being id. -/
structure PlE (R : List Rt) (O : List Nat) (i : Nat) (id : Int) (E : List Ed) : Prop where
  sub : (E.map Ed.r).Sublist ((O.take i).map (ridR R))
  ids : ∀ e ∈ E, 1 ≤ e.i ∧ e.i ≤ id ∧ e.i ≤ 256
  asc : E.Pairwise (fun x y => x.i < y.i)
set_option maxRecDepth 100000 in
theorem PlE.nil (R : List Rt) (O : List Nat) : PlE R O 0 0 [] := ⟨List.nil_sublist _, fun e h => (by cases h), List.Pairwise.nil⟩
set_option maxRecDepth 100000 in
theorem take_map_succ {O : List Nat} {i k : Nat} (hk : O[i]? = some k) (f : Nat → Int) : (O.take (i + 1)).map f = (O.take i).map f ++ [f k] := by
  rw [List.take_add_one, hk, List.map_append]; rfl
set_option maxRecDepth 100000 in
theorem PlE.skip {R : List Rt} {O : List Nat} {i : Nat} {id : Int} {E : List Ed} (h : PlE R O i id E) : PlE R O (i + 1) id E := by
  refine ⟨h.sub.trans ?_, h.ids, h.asc⟩
  exact List.Sublist.map _ (List.take_sublist_take_left (by omega))
set_option maxRecDepth 100000 in
theorem PlE.more {R : List Rt} {O : List Nat} {i : Nat} {id id2 : Int} {E : List Ed} (h : PlE R O i id E) (h2 : id ≤ id2) : PlE R O i id2 E :=
  ⟨h.sub, fun e he => by have := h.ids e he; omega, h.asc⟩
set_option maxRecDepth 100000 in
theorem PlE.add {R : List Rt} {O : List Nat} {i k : Nat} {id id2 r : Int} {E : List Ed} (h : PlE R O i id E) (hk : O[i]? = some k) (hr : ridR R k = r) (h0 : 0 ≤ id) (h1 : id < id2) (h2 : id2 ≤ 256) : PlE R O (i + 1) id2 (E ++ [⟨r, id2⟩]) := by
  refine ⟨?_, fun e he => ?_, ?_⟩
  · rw [List.map_append, take_map_succ hk, hr]
    exact List.Sublist.append h.sub (List.Sublist.refl _)
  · rcases List.mem_append.1 he with he | he
    · have := h.ids e he; omega
    · obtain rfl : e = ⟨r, id2⟩ := by simpa using he
      exact ⟨by show 1 ≤ id2; omega, Int.le_refl _, h2⟩
  · refine List.pairwise_append.2 ⟨h.asc, List.pairwise_singleton _ _, fun x hx y hy => ?_⟩
    obtain rfl : y = ⟨r, id2⟩ := by simpa using hy
    have := h.ids x hx
    show x.i < id2
    omega
set_option maxRecDepth 100000 in
theorem PlE.len {R : List Rt} {O : List Nat} {i : Nat} {id : Int} {E : List Ed} (h : PlE R O i id E) : E.length ≤ i := by
  have := h.sub.length_le
  rw [List.length_map, List.length_map, List.length_take] at this
  omega
set_option maxRecDepth 100000 in
theorem rep_noT {L : List Int} (h : ∀ k x, L[k]? = some x → x ∉ L.take k) : repI L = false := by
  unfold repI
  rw [List.any_eq_false]
  intro k hk
  have hk := List.mem_range.1 hk
  rw [List.getD_eq_getElem?_getD, List.getElem?_eq_getElem hk]
  simpa using h k _ (List.getElem?_eq_getElem hk)
set_option maxRecDepth 100000 in
theorem repI_nodup {L : List Int} (h : L.Nodup) : repI L = false := by
  refine rep_noT fun k x hx hm => ?_
  obtain ⟨hk, e⟩ := List.getElem?_eq_some_iff.1 hx
  obtain ⟨j, hj, hj2⟩ := List.mem_iff_getElem.1 hm
  rw [List.length_take] at hj
  rw [List.getElem_take] at hj2
  have := (List.nodup_iff_pairwise_ne.1 h)
  have h3 := List.pairwise_iff_getElem.1 this j k (by omega) hk (by omega)
  exact h3 (by rw [hj2, e])
set_option maxRecDepth 100000 in
theorem ascR_nodup : ∀ R : List Rt, ascB ltR R = true → R.Pairwise (fun x y => x.id < y.id)
  | [], _ => List.Pairwise.nil
  | [a], _ => List.pairwise_singleton _ _
  | a :: b :: t, h => by
    rw [ascB, Bool.and_eq_true] at h
    have ih := ascR_nodup (b :: t) h.2
    have hab : a.id < b.id := of_decide_eq_true h.1
    refine List.pairwise_cons.2 ⟨fun y hy => ?_, ih⟩
    rcases List.mem_cons.1 hy with rfl | hy
    · exact hab
    · have := (List.pairwise_cons.1 ih).1 y hy; omega
set_option maxRecDepth 100000 in
theorem chk0 {R : List Rt} {L : List Lk} (h : chk R L = 0) : R.length ≤ 24 ∧ R.any wrId = false ∧ ascB ltR R = true := by
  unfold chk at h
  split at h
  · cases h
  · rename_i h1
    split at h
    · cases h
    · rename_i h2
      split at h
      · cases h
      · rename_i h3
        exact ⟨by omega, by simpa using h2, by simpa using h3⟩
set_option maxRecDepth 100000 in
/-- Of a valid topology and an order come valid edges. -/
theorem PlE.valid {R : List Rt} {L : List Lk} {O : List Nat} {i : Nat} {id : Int} {E : List Ed} (h : PlE R O i id E) (hc : chk R L = 0) (hO : Ord O R.length) {s n : Int} (hs : inV s 0 7 = true) (hn : vl n = true) :
    vPl s n E = true ∧ E.length ≤ R.length ∧ ∀ e ∈ E, hasR R e.r = true := by
  obtain ⟨c1, c2, c3⟩ := chk0 hc
  have hmem : ∀ e ∈ E, ∃ r ∈ R, r.id = e.r := fun e he => by
    have h1 := h.sub.subset (List.mem_map.2 ⟨e, he, rfl⟩)
    obtain ⟨k, hk, hke⟩ := List.mem_map.1 h1
    have hk2 := hO.2.2 k (List.mem_of_mem_take hk)
    refine ⟨R[k], List.getElem_mem hk2, ?_⟩
    rw [← hke, ridR_at (List.getElem?_eq_getElem hk2)]
  have hnd : (E.map Ed.r).Nodup := by
    refine List.Nodup.sublist (h.sub.trans (List.Sublist.map _ (List.take_sublist i O))) ?_
    rw [List.Nodup, List.pairwise_map]
    refine List.Pairwise.imp_of_mem (fun {x y} hx hy hne => ?_) hO.2.1
    have hx := hO.2.2 x hx
    have hy := hO.2.2 y hy
    rw [ridR_at (List.getElem?_eq_getElem hx), ridR_at (List.getElem?_eq_getElem hy)]
    have hp := List.pairwise_iff_getElem.1 (ascR_nodup R c3)
    rcases Nat.lt_or_gt_of_ne hne with hlt | hlt
    · have := hp x y hx hy hlt; omega
    · have := hp y x hy hx hlt; omega
  have hlen : E.length ≤ R.length := by
    have h1 := (h.sub.trans (List.Sublist.map _ (List.take_sublist i O))).length_le
    rw [List.length_map, List.length_map, hO.1] at h1
    exact h1
  refine ⟨?_, hlen, fun e he => ?_⟩
  · unfold vPl
    rw [hs, hn, repI_nodup hnd, pair_ascE E h.asc, decide_eq_true (show E.length ≤ 24 by omega)]
    have hw : E.any wrE = false := by
      rw [List.any_eq_false]
      intro e he
      obtain ⟨r, hr, hre⟩ := hmem e he
      have h1 := any_mem c2 hr
      have h2 := h.ids e he
      unfold wrId at h1
      rw [hre] at h1
      unfold wrE inV
      rw [decide_eq_true (show 1 ≤ e.i ∧ e.i ≤ 256 by omega)]
      have h3 : decide (1 ≤ e.r ∧ e.r ≤ 99) = true := by
        cases hh : decide (1 ≤ e.r ∧ e.r ≤ 99)
        · rw [hh] at h1; cases h1
        · rfl
      rw [h3]; simp
    rw [hw]; rfl
  · obtain ⟨r, hr, hre⟩ := hmem e he
    exact List.any_eq_true.2 ⟨r, hr, decide_eq_true hre⟩
end Go.Proofs.YtahafijpcmphaaaGreat

/- tables: what build makes is valid. -/
namespace Go.Proofs.YtahafijpcmphaaaGreat
open Go.RowKit Bs
set_option maxRecDepth 100000 in
theorem price_pos {R : List Rt} {L : List Lk} (h : okT R L = true) {a b : Int} (hp : (priceV L a b).2 = true) : 1 ≤ (priceV L a b).1 := by
  unfold priceV at hp ⊢
  cases hf : L.findSome? (priceB a b) with
  | none => rw [hf] at hp; cases hp
  | some c =>
    obtain ⟨l, hl, hc⟩ := List.exists_of_findSome?_eq_some hf
    have hn := List.any_eq_false.1 (okT_all h).nm l hl
    unfold wrNum at hn
    simp only [Bool.not_eq_true, Bool.not_eq_false', decide_eq_true_eq] at hn
    unfold priceB at hc
    split at hc
    · have := Option.some.inj hc; show 1 ≤ c; have := hn.1; omega
    · split at hc
      · have := Option.some.inj hc; show 1 ≤ c; have := hn.2.1; omega
      · cases hc
set_option maxRecDepth 100000 in
theorem st_lt {R : List Rt} {L : List Lk} {D : Int → Int} (h : okT R L = true) {a b : Int} (hb : b ∈ stV R L D a) : atV R D b < atV R D a := by
  unfold stV at hb
  split at hb
  · cases hb
  · obtain ⟨h1, h2⟩ := List.mem_filter.1 hb
    unfold okS at h2
    rw [Bool.and_eq_true] at h2
    have h3 := of_decide_eq_true h2.2
    unfold nearR at h1
    obtain ⟨r, hr, rfl⟩ := List.mem_map.1 h1
    have := price_pos h (List.mem_filter.1 hr).2
    omega
set_option maxRecDepth 100000 in
/-- Each next hop is nearer. -/
theorem hop_lt {R : List Rt} {L : List Lk} {D : Int → Int} (h : okT R L = true) {x y : Int} (hy : HopM R L D x y) : atV R D y < atV R D x := by
  obtain ⟨s, hs, hy, -⟩ := hy
  have h1 := hs (fun a => atV R D a ≤ atV R D x) (Int.le_refl _) (fun a b ha hb _ => by have := st_lt h hb; omega)
  have h2 := st_lt h hy
  omega
set_option maxRecDepth 100000 in
theorem NxB.ok {R : List Rt} {L0 : List Lk} {ro r : Int} {X : List Int} (h : NxB R L0 ro r X) (hok : okT R L0 = true) (hro : ro ∈ ids R) : X.Pairwise (· < ·) ∧ (∀ y ∈ X, y ∈ ids R) ∧ (1 < X.length → ro ∉ X) := by
  unfold NxB at h
  split at h
  · subst h
    exact ⟨List.pairwise_singleton _ _, fun y hy => by rw [List.mem_singleton.1 hy]; exact hro, fun h => absurd h (by show ¬ 1 < 1; omega)⟩
  · split at h
    · refine ⟨h.1, h.2.1, fun _ hm => ?_⟩
      have h3 := h.2.2
      unfold HopsIs at h3
      split at h3
      · have := hop_lt hok ((h3 ro).1 hm); omega
      · subst h3; cases hm
    · subst h
      exact ⟨List.Pairwise.nil, fun y hy => (by cases hy), fun _ hm => (by cases hm)⟩
set_option maxRecDepth 100000 in
theorem ids_inT {R : List Rt} {L0 : List Lk} (hok : okT R L0 = true) {y : Int} (hy : y ∈ ids R) : 1 ≤ y ∧ y ≤ 99 := by
  obtain ⟨r, hr, rfl⟩ := List.mem_map.1 hy
  have := List.any_eq_false.1 (okT_all hok).id r hr
  unfold wrId at this
  simpa using this
set_option maxRecDepth 100000 in
theorem chk_idsT {R R0 : List Rt} {L : List Lk} (h : R.map (·.id) = R0.map (·.id)) : chk R L = chk R0 L := by
  have h1 : R.length = R0.length := by have := congrArg List.length h; simpa using this
  have h2 : ∀ R : List Rt, R.any wrId = (R.map (·.id)).any (fun x => !decide (1 ≤ x ∧ x ≤ 99)) := fun R => by rw [List.any_map]; rfl
  have h3 : ∀ R : List Rt, ascB ltR R = ascB (fun x y : Int => decide (x < y)) (R.map (·.id)) := by
    intro R
    induction R with
    | nil => rfl
    | cons a t ih =>
      cases t with
      | nil => rfl
      | cons b t => rw [List.map_cons, List.map_cons, ascB, ascB, ih]; rfl
  have h4 : ∀ x, hasR R x = hasR R0 x := fun x => by
    have e : ∀ R : List Rt, hasR R x = (R.map (·.id)).any (fun y => decide (y = x)) := fun R => by unfold hasR; rw [List.any_map]; rfl
    rw [e, e, h]
  have h5 : unk R = unk R0 := by funext l; unfold unk; rw [h4, h4]
  unfold chk
  rw [h1, h2, h2, h3, h3, h, h5]
end Go.Proofs.YtahafijpcmphaaaGreat

/- tables: the search for the next capable routers (mathematics). -/
namespace Go.Proofs.YtahafijpcmphaaaGreat
open Go.RowKit Bs
/-- What follow does: the routers that were seen, and the hops. -/
def flw (N : Int → List Int) (cp : Int → Bool) : Nat → Int → List Int × List Int → List Int × List Int
  | 0, _, st => st
  | f + 1, r, st => (N r).foldl (fun st y => if y ∈ st.1 then st else if cp y = true then (st.1 ++ [y], st.2 ++ [y]) else flw N cp f y (st.1 ++ [y], st.2)) st
/-- One neighbour. -/
def flS (N : Int → List Int) (cp : Int → Bool) (f : Nat) (st : List Int × List Int) (y : Int) : List Int × List Int := if y ∈ st.1 then st else if cp y = true then (st.1 ++ [y], st.2 ++ [y]) else flw N cp f y (st.1 ++ [y], st.2)
set_option maxRecDepth 100000 in
theorem flw_succ (N : Int → List Int) (cp : Int → Bool) (f : Nat) (r : Int) (st : List Int × List Int) : flw N cp (f + 1) r st = (N r).foldl (flS N cp f) st := rfl
/-- What the search keeps: nothing is lost, what is new comes from r, hops are the capable ones of what is new. -/
structure FlI (N : Int → List Int) (cp : Int → Bool) (Q : Int → Prop) (st st' : List Int × List Int) : Prop where
  sub : ∀ x ∈ st.1, x ∈ st'.1
  nd : st.1.Nodup → st'.1.Nodup
  new : ∀ x ∈ st'.1, x ∈ st.1 ∨ Q x
  hop : ∃ H, st'.2 = st.2 ++ H ∧ H.Nodup ∧ (∀ x, x ∈ H ↔ (x ∈ st'.1 ∧ x ∉ st.1 ∧ cp x = true))
  len : st.1.length ≤ st'.1.length
set_option maxRecDepth 100000 in
theorem FlI.refl {N : Int → List Int} {cp : Int → Bool} {Q : Int → Prop} (st : List Int × List Int) : FlI N cp Q st st :=
  ⟨fun _ h => h, fun h => h, fun _ h => Or.inl h, ⟨[], by simp, List.nodup_nil, fun x => ⟨fun h => (by cases h), fun h => absurd h.1 h.2.1⟩⟩, Nat.le_refl _⟩
set_option maxRecDepth 100000 in
theorem FlI.trans {N : Int → List Int} {cp : Int → Bool} {Q : Int → Prop} {a b c : List Int × List Int} (h : FlI N cp Q a b) (k : FlI N cp Q b c) : FlI N cp Q a c := by
  obtain ⟨H, h1, h2, h3⟩ := h.hop
  obtain ⟨K, k1, k2, k3⟩ := k.hop
  refine ⟨fun x hx => k.sub x (h.sub x hx), fun hn => k.nd (h.nd hn), fun x hx => ?_, ⟨H ++ K, by rw [k1, h1, List.append_assoc], ?_, fun x => ?_⟩, Nat.le_trans h.len k.len⟩
  · rcases k.new x hx with hx | hx
    · exact h.new x hx
    · exact Or.inr hx
  · refine List.nodup_append.2 ⟨h2, k2, fun x hx y hy e => ?_⟩
    subst e
    exact ((k3 x).1 hy).2.1 ((h3 x).1 hx).1
  · rw [List.mem_append, h3, k3]
    constructor
    · rintro (⟨a1, a2, a3⟩ | ⟨a1, a2, a3⟩)
      · exact ⟨k.sub x a1, a2, a3⟩
      · exact ⟨a1, fun hx => a2 (h.sub x hx), a3⟩
    · rintro ⟨a1, a2, a3⟩
      by_cases hb : x ∈ b.1
      · exact Or.inl ⟨hb, a2, a3⟩
      · exact Or.inr ⟨a1, hb, a3⟩
set_option maxRecDepth 100000 in
theorem FlI.one {N : Int → List Int} {cp : Int → Bool} {Q : Int → Prop} {st : List Int × List Int} {y : Int} (hy : y ∉ st.1) (hq : Q y) (hc : cp y = true) : FlI N cp Q st (st.1 ++ [y], st.2 ++ [y]) := by
  refine ⟨fun x hx => List.mem_append_left _ hx, fun hn => ?_, fun x hx => ?_, ⟨[y], rfl, by simp, fun x => ?_⟩, by simp⟩
  · exact List.nodup_append.2 ⟨hn, by simp, fun a ha b hb e => by rw [List.mem_singleton.1 hb] at e; subst e; exact hy ha⟩
  · rcases List.mem_append.1 hx with hx | hx
    · exact Or.inl hx
    · rw [List.mem_singleton.1 hx]; exact Or.inr hq
  · rw [List.mem_singleton]
    constructor
    · rintro rfl; exact ⟨by simp, hy, hc⟩
    · rintro ⟨a1, a2, -⟩
      rcases List.mem_append.1 a1 with h | h
      · exact absurd h a2
      · exact List.mem_singleton.1 h
set_option maxRecDepth 100000 in
theorem FlI.mark {N : Int → List Int} {cp : Int → Bool} {Q : Int → Prop} {st : List Int × List Int} {y : Int} (hy : y ∉ st.1) (hq : Q y) (hc : cp y = false) : FlI N cp Q st (st.1 ++ [y], st.2) := by
  refine ⟨fun x hx => List.mem_append_left _ hx, fun hn => ?_, fun x hx => ?_, ⟨[], by simp, List.nodup_nil, fun x => ⟨fun h => (by cases h), fun ⟨a1, a2, a3⟩ => ?_⟩⟩, by simp⟩
  · exact List.nodup_append.2 ⟨hn, by simp, fun a ha b hb e => by rw [List.mem_singleton.1 hb] at e; subst e; exact hy ha⟩
  · rcases List.mem_append.1 hx with hx | hx
    · exact Or.inl hx
    · rw [List.mem_singleton.1 hx]; exact Or.inr hq
  · rcases List.mem_append.1 a1 with h | h
    · exact absurd h a2
    · rw [List.mem_singleton.1 h, hc] at a3; cases a3
set_option maxRecDepth 100000 in
/-- What comes of a fold. -/
theorem fl_fold {N : Int → List Int} {cp : Int → Bool} {Q : Int → Prop} (f : Nat) (hQ : ∀ r st, (∀ y ∈ N r, Q y) → FlI N cp Q st (flw N cp f r st)) (hN : ∀ y, Q y → cp y = false → ∀ z ∈ N y, Q z) : ∀ (l : List Int) (st : List Int × List Int), (∀ y ∈ l, Q y) → FlI N cp Q st (l.foldl (flS N cp f) st)
  | [], st, _ => FlI.refl st
  | y :: t, st, h => by
    rw [List.foldl_cons]
    refine FlI.trans ?_ (fl_fold f hQ hN t _ (fun z hz => h z (List.mem_cons_of_mem _ hz)))
    have hy := h y (List.mem_cons_self ..)
    unfold flS
    split
    · exact FlI.refl st
    · rename_i hm
      split
      · rename_i hc; exact FlI.one hm hy hc
      · rename_i hc
        have hc2 : cp y = false := by simpa using hc
        exact (FlI.mark hm hy hc2).trans (hQ y _ (hN y hy hc2))
set_option maxRecDepth 100000 in
theorem fl_inv {N : Int → List Int} {cp : Int → Bool} {Q : Int → Prop} (hN : ∀ y, Q y → cp y = false → ∀ z ∈ N y, Q z) : ∀ (f : Nat) (r : Int) (st : List Int × List Int), (∀ y ∈ N r, Q y) → FlI N cp Q st (flw N cp f r st)
  | 0, _, st, _ => FlI.refl st
  | f + 1, r, st, h => by rw [flw_succ]; exact fl_fold f (fl_inv hN f) hN (N r) st h
set_option maxRecDepth 100000 in
theorem fl_len {N : Int → List Int} {cp : Int → Bool} : ∀ (f : Nat) (r : Int) (st : List Int × List Int), st.2.length ≤ st.1.length → (flw N cp f r st).2.length ≤ (flw N cp f r st).1.length
  | 0, _, _, h => h
  | f + 1, r, st, h => by
    rw [flw_succ]
    have key : ∀ (l : List Int) (st : List Int × List Int), st.2.length ≤ st.1.length → (l.foldl (flS N cp f) st).2.length ≤ (l.foldl (flS N cp f) st).1.length := by
      intro l
      induction l with
      | nil => exact fun st h => h
      | cons y t ih =>
        intro st h
        rw [List.foldl_cons]
        refine ih _ ?_
        unfold flS
        split
        · exact h
        · split
          · simp only [List.length_append, List.length_singleton]; omega
          · exact fl_len f y _ (by simp only [List.length_append, List.length_singleton]; omega)
    exact key (N r) st h
set_option maxRecDepth 100000 in
/-- What is seen is closed, if the fuel is enough. V is the list of all routers. -/
theorem fl_closed {N : Int → List Int} {cp : Int → Bool} {V : List Int} (hV : ∀ r, ∀ y ∈ N r, y ∈ V) : ∀ (f : Nat) (r : Int) (st : List Int × List Int), (∀ x ∈ st.1, x ∈ V) → st.1.Nodup → V.length < f + st.1.length →
    (∀ y ∈ N r, y ∈ (flw N cp f r st).1) ∧ (∀ x ∈ (flw N cp f r st).1, x ∉ st.1 → cp x = false → ∀ z ∈ N x, z ∈ (flw N cp f r st).1)
  | 0, r, st, hs, hn, hl => by
    have := nodup_leH st.1 V hn hs
    omega
  | f + 1, r, st, hs, hn, hl => by
    have hT : ∀ y, y ∈ V → cp y = false → ∀ z ∈ N y, z ∈ V := fun y _ _ z hz => hV y z hz
    have key : ∀ (l : List Int) (st : List Int × List Int), (∀ y ∈ l, y ∈ V) → (∀ x ∈ st.1, x ∈ V) → st.1.Nodup → V.length < f + 1 + st.1.length →
        (∀ y ∈ l, y ∈ (l.foldl (flS N cp f) st).1) ∧ (∀ x ∈ (l.foldl (flS N cp f) st).1, x ∉ st.1 → cp x = false → ∀ z ∈ N x, z ∈ (l.foldl (flS N cp f) st).1) := by
      intro l
      induction l with
      | nil => exact fun st _ _ _ _ => ⟨fun y hy => (by cases hy), fun x hx hn => absurd hx hn⟩
      | cons y t ih =>
        intro st hl1 hs hn hlen
        rw [List.foldl_cons]
        have hyV := hl1 y (List.mem_cons_self ..)
        have htV : ∀ z ∈ t, z ∈ V := fun z hz => hl1 z (List.mem_cons_of_mem _ hz)
        have hstep : FlI N cp (· ∈ V) st (flS N cp f st y) := by
          have := fl_fold (Q := (· ∈ V)) f (fl_inv hT f) hT [y] st (fun z hz => by rw [List.mem_singleton.1 hz]; exact hyV)
          simpa using this
        have hs2 : ∀ x ∈ (flS N cp f st y).1, x ∈ V := fun x hx => (hstep.new x hx).elim (hs x) id
        obtain ⟨i1, i2⟩ := ih (flS N cp f st y) htV hs2 (hstep.nd hn) (by have := hstep.len; omega)
        have hrest := fl_fold (Q := (· ∈ V)) f (fl_inv hT f) hT t (flS N cp f st y) htV
        have hyS : y ∈ (flS N cp f st y).1 ∧ (∀ x ∈ (flS N cp f st y).1, x ∉ st.1 → cp x = false → ∀ z ∈ N x, z ∈ (flS N cp f st y).1) := by
          unfold flS
          split
          · rename_i hm; exact ⟨hm, fun x hx hnx => absurd hx hnx⟩
          · rename_i hm
            split
            · rename_i hc
              refine ⟨by simp, fun x hx hnx hcx => ?_⟩
              rcases List.mem_append.1 hx with h | h
              · exact absurd h hnx
              · rw [List.mem_singleton.1 h, hc] at hcx; cases hcx
            · rename_i hc
              have hn2 : (st.1 ++ [y]).Nodup := List.nodup_append.2 ⟨hn, by simp, fun a ha b hb e => by rw [List.mem_singleton.1 hb] at e; subst e; exact hm ha⟩
              have hs3 : ∀ x ∈ st.1 ++ [y], x ∈ V := fun x hx => by
                rcases List.mem_append.1 hx with h | h
                · exact hs x h
                · rw [List.mem_singleton.1 h]; exact hyV
              obtain ⟨c1, c2⟩ := fl_closed hV f y (st.1 ++ [y], st.2) hs3 hn2 (by simp; omega)
              have hI := fl_inv (Q := (· ∈ V)) (cp := cp) hT f y (st.1 ++ [y], st.2) (hV y)
              refine ⟨hI.sub y (by simp), fun x hx hnx hcx => ?_⟩
              by_cases hxy : x = y
              · subst hxy; exact c1
              · exact c2 x hx (fun h => by
                  rcases List.mem_append.1 h with h | h
                  · exact hnx h
                  · exact hxy (List.mem_singleton.1 h)) hcx
        refine ⟨fun z hz => ?_, fun x hx hnx hcx z hz => ?_⟩
        · rcases List.mem_cons.1 hz with rfl | hz
          · exact hrest.sub _ hyS.1
          · exact i1 z hz
        · by_cases hxs : x ∈ (flS N cp f st y).1
          · exact hrest.sub _ (hyS.2 x hxs hnx hcx z hz)
          · exact i2 x hx hxs hcx z hz
    rw [flw_succ]
    exact key (N r) st (hV r) hs hn (by omega)
set_option maxRecDepth 100000 in
/-- The hops are what can be reached over routers that are not capable. -/
theorem fl_hops {N : Int → List Int} {cp : Int → Bool} {V : List Int} (hV : ∀ r, ∀ y ∈ N r, y ∈ V) (x : Int) {f : Nat} (hf : V.length < f) :
    (flw N cp f x ([], [])).2.Nodup ∧ ∀ y, y ∈ (flw N cp f x ([], [])).2 ↔ ∃ s, (∀ P : Int → Prop, P x → (∀ a b, P a → b ∈ N a → cp b = false → P b) → P s) ∧ y ∈ N s ∧ cp y = true := by
  let Rc : Int → Prop := fun s => ∀ P : Int → Prop, P x → (∀ a b, P a → b ∈ N a → cp b = false → P b) → P s
  let Q : Int → Prop := fun y => ∃ s, Rc s ∧ y ∈ N s
  have hx : Rc x := fun P h _ => h
  have hQ : ∀ y, Q y → cp y = false → ∀ z ∈ N y, Q z := fun y ⟨s, hs, hy⟩ hc z hz => ⟨y, fun P h0 h1 => h1 s y (hs P h0 h1) hy hc, hz⟩
  have hI := fl_inv (cp := cp) hQ f x ([], []) (fun y hy => ⟨x, hx, hy⟩)
  obtain ⟨c1, c2⟩ := fl_closed (cp := cp) hV f x ([], []) (fun y hy => (by cases hy)) List.nodup_nil (by simpa using hf)
  obtain ⟨H, h1, h2, h3⟩ := hI.hop
  have h1' : (flw N cp f x ([], [])).2 = H := by rw [h1]; rfl
  rw [h1']
  refine ⟨h2, fun y => ?_⟩
  rw [h3]
  constructor
  · rintro ⟨a1, -, a3⟩
    rcases hI.new y a1 with h | ⟨s, hs, hy⟩
    · cases h
    · exact ⟨s, hs, hy, a3⟩
  · rintro ⟨s, hs, hy, hc⟩
    refine ⟨?_, fun h => (by cases h), hc⟩
    have hall : s = x ∨ (s ∈ (flw N cp f x ([], [])).1 ∧ cp s = false) := hs (fun s => s = x ∨ (s ∈ (flw N cp f x ([], [])).1 ∧ cp s = false)) (Or.inl rfl) (fun a b ha hb hcb => by
      rcases ha with rfl | ⟨ha, hca⟩
      · exact Or.inr ⟨c1 b hb, hcb⟩
      · exact Or.inr ⟨c2 a ha (fun h => (by cases h)) hca b hb, hcb⟩)
    rcases hall with rfl | ⟨ha, hca⟩
    · exact c1 y hy
    · exact c2 s ha (fun h => (by cases h)) hca y hy
end Go.Proofs.YtahafijpcmphaaaGreat

/- tables: what the program's Hops keeps in memory. -/
namespace Go.Proofs.YtahafijpcmphaaaGreat
open Go.RowKit Bs
def ptB (b : Nat) : Value := .pointer (some ⟨b, 0, none⟩)
structure FJ (H : Nat) (W : World) (T : Tg) (z : Int) (v : Value) (st : List Int × List Int) (w : World) : Prop where
  bT : w.heap[H]? = some (.cells #[.slice T.pR T.R.length T.cR, .slice T.pL T.L.length T.cL] 45 (0, 0))
  bz : w.heap[H + 1]? = some (.cells #[.int .i64 z] 3 (0, 0))
  bh : w.heap[H + 2]? = some (.cells #[v] 22 (0, 0))
  bs : TRow w (H + 3) 102 (sn st.1)
  bf : w.heap[H + 4]? = some (.cells #[.func (.func 74) #[] #[ptB H, ptB (H + 1), ptB (H + 3), ptB (H + 2), ptB (H + 4)]] 103 (0, 0))
  t : TgOk w (· < H) T
  own : w.ownsRow (H + 5) 3 1 v st.2.length (st.2.map tv)
  gr : W.grownBy w none
  lo : W.heap.size ≤ H ∧ H + 5 ≤ w.heap.size
set_option maxRecDepth 100000 in
theorem FJ.keep {H : Nat} {W w w1 : World} {T : Tg} {z : Int} {v : Value} {st : List Int × List Int} (h : FJ H W T z v st w) (g : w.grownBy w1 none) : FJ H W T z v st w1 :=
  ⟨kept_row h.bT g (by simp), kept_row h.bz g (by simp), kept_row h.bh g (by simp), h.bs.kept g (by simp), kept_row h.bf g (by simp), h.t.keep g, own_keptN h.own g, grown_trans h.gr g, h.lo.1, Nat.le_trans h.lo.2 g.size⟩
set_option maxRecDepth 100000 in
/-- A router is noted. -/
theorem FJ.mark {H n : Nat} {W w : World} {T : Tg} {z : Int} {v : Value} {st : List Int × List Int} (h : FJ H W T z v st w) (hn : n < 100) : FJ H W T z v (st.1 ++ [(n : Int)], st.2) (w.setCell ⟨H + 3, n, none⟩ (.bool true)) ∧ JF (H + 1) w v (w.setCell ⟨H + 3, n, none⟩ (.bool true)) v := by
  have hl := h.lo
  have g : w.grownBy (w.setCell ⟨H + 3, n, none⟩ (.bool true)) (some (H + 3)) := grown_setCell _ _ _
  have hne : ∀ b, b ≠ H + 3 → some b ≠ some (H + 3) := fun b hb e => hb (Option.some.inj e)
  have hs := h.bs.set n (.bool true)
  rw [sn_snoc hn] at hs
  refine ⟨⟨kept_row h.bT g (hne _ (by omega)), kept_row h.bz g (hne _ (by omega)), kept_row h.bh g (hne _ (by omega)), hs, kept_row h.bf g (hne _ (by omega)), h.t.grown g (fun b hb => hne b (by omega)), own_otherL h.own g (by omega), grown_new h.gr g (by omega), hl.1, Nat.le_trans hl.2 g.size⟩, g.os, g.tape, g.output, g.size, fun b hb h1 h2 h3 => g.block b hb (hne b (by omega)), .inl rfl⟩
set_option maxRecDepth 100000 in
/-- A hop more. -/
theorem FJ.push {H : Nat} {W w w1 : World} {T : Tg} {z y : Int} {v v' : Value} {st : List Int × List Int} (h : FJ H W T z v st w) (hown : w1.ownsRow (H + 5) 3 1 v' (st.2 ++ [y]).length ((st.2 ++ [y]).map tv)) (g : w.grownBy w1 v.ownBlock) (hv : v'.ownBlock = v.ownBlock ∨ ∃ b, v'.ownBlock = some b ∧ w.heap.size ≤ b) :
    w1.heap[H + 2]? = some (.cells #[v] 22 (0, 0)) ∧ FJ H W T z v' (st.1, st.2 ++ [y]) (w1.setCell ⟨H + 2, 0, none⟩ v') ∧ JF (H + 1) w v (w1.setCell ⟨H + 2, 0, none⟩ v') v' := by
  have hl := h.lo
  have hne : ∀ b, b < H + 5 → some b ≠ v.ownBlock := fun b hb e => by have := (h.own.lt b e.symm).1; omega
  have hB := kept_row h.bh g (hne _ (by omega))
  have g2 : w1.grownBy (w1.setCell ⟨H + 2, 0, none⟩ v') (some (H + 2)) := grown_setCell _ _ _
  have hn2 : ∀ b, b ≠ H + 2 → some b ≠ some (H + 2) := fun b hb e => hb (Option.some.inj e)
  refine ⟨hB, ⟨kept_row (kept_row h.bT g (hne _ (by omega))) g2 (hn2 _ (by omega)), kept_row (kept_row h.bz g (hne _ (by omega))) g2 (hn2 _ (by omega)), heap_setCell_same w1 (H + 2) 0 _ _ v' hB, (h.bs.kept g (hne _ (by omega))).kept g2 (hn2 _ (by omega)), kept_row (kept_row h.bf g (hne _ (by omega))) g2 (hn2 _ (by omega)), (h.t.grown g (fun b hb => hne b (by omega))).grown g2 (fun b hb => hn2 b (by omega)), own_otherL hown g2 (by omega), grown_new (grown_any h.gr g (fun b hb => hne b (by omega))) g2 (by omega), hl.1, Nat.le_trans (Nat.le_trans hl.2 g.size) g2.size⟩, g2.os.trans g.os, g2.tape.trans g.tape, g2.output.trans g.output, Nat.le_trans g.size g2.size, fun b hb h1 h2 h3 => (g2.block b (Nat.lt_of_lt_of_le hb g.size) (hn2 b (by omega))).trans (g.block b hb (fun e => h3 e.symm)), hv⟩
end Go.Proofs.YtahafijpcmphaaaGreat

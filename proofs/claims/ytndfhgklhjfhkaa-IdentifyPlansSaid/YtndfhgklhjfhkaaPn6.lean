/- Parts of the proof, packed: IdPnM, IdVpl, IdSam, IdSmP, ToHasF, IdPnLaw, IdOpn. -/
import Derived.Test.YtndfhgklhjfhkaaPn5
import Derived.Test.YtndfhgklhjfhkaaPn4
import Derived.Laws.StructEq
import Derived.Test.YtndfhgklhjfhkaaPn2
import Derived.BigQuiet
import Derived.Test.YtndfhgklhjfhkaaPn1
/- identify: a plan is valid and names no ID in conflict: the mathematics. -/
namespace Go.Proofs.Ytndfhgklhjfhkaa
open Go.RowKit Bs
set_option maxRecDepth 100000 in
theorem pl_conf {l : List Od} {sub : Int} {e : Ed} (h : e ∈ e2K l sub 257) : e.i ∉ cfO l sub := by
  unfold e2K at h
  obtain ⟨id, -, he⟩ := List.mem_flatMap.1 h
  have h1 := e2I_mem he
  have h2 : cnt l sub id = 1 := by
    unfold e2I at he
    by_cases hc : cnt l sub id = 1
    · exact hc
    · rw [if_neg hc] at he; cases he
  unfold cfO
  split
  · intro hm
    have h3 := of_decide_eq_true (List.mem_filter.1 hm).2
    rw [h1] at h3
    omega
  · simp
set_option maxRecDepth 100000 in
theorem lnS_vl {l : List Od} (hl : ∀ x ∈ l, vl x.l = true) (sub : Int) : ∀ a : Int, (a = 0 ∨ vl a = true) → ((l.foldl (lnS sub) a = 0 ∧ a = 0 ∧ ∀ x ∈ l, x.s ≠ sub) ∨ vl (l.foldl (lnS sub) a) = true) := by
  induction l with
  | nil => exact fun a h => h.imp (fun h => ⟨h, h, fun x hx => by cases hx⟩) id
  | cons x t ih =>
    intro a h
    have hx := hl x (List.mem_cons_self ..)
    have hv0 : vl 0 = false := by decide
    have hne : x.l ≠ 0 := fun e => by rw [e, hv0] at hx; cases hx
    rw [List.foldl_cons]
    by_cases hc : x.s = sub ∧ (a = 0 ∨ x.l < a)
    · have e : lnS sub a x = x.l := if_pos hc
      rw [e]
      rcases ih (fun y hy => hl y (List.mem_cons_of_mem _ hy)) x.l (Or.inr hx) with ⟨-, h2, -⟩ | h2
      · exact absurd h2 hne
      · exact Or.inr h2
    · have e : lnS sub a x = a := if_neg hc
      rw [e]
      rcases ih (fun y hy => hl y (List.mem_cons_of_mem _ hy)) a h with ⟨h1, h2, h3⟩ | h2
      · refine Or.inl ⟨h1, h2, fun y hy => ?_⟩
        rcases List.mem_cons.1 hy with rfl | hy
        · exact fun hs => hc ⟨hs, Or.inl h2⟩
        · exact h3 y hy
      · exact Or.inr h2
set_option maxRecDepth 100000 in
theorem ltO_trans {x y z : Od} (h : ltO x y = true) (k : ltO y z = true) : ltO x z = true := by
  unfold ltO at *
  have := of_decide_eq_true h
  have := of_decide_eq_true k
  exact decide_eq_true (by omega)
set_option maxRecDepth 100000 in
theorem asc_pairO : ∀ l : List Od, ascB ltO l = true → l.Pairwise (fun x y => ltO x y = true)
  | [], _ => List.Pairwise.nil
  | [a], _ => List.pairwise_singleton _ _
  | a :: b :: t, h => by
    rw [ascB, Bool.and_eq_true] at h
    have ih := asc_pairO (b :: t) h.2
    refine List.pairwise_cons.2 ⟨fun y hy => ?_, ih⟩
    rcases List.mem_cons.1 hy with rfl | hy
    · exact h.1
    · exact ltO_trans h.1 ((List.pairwise_cons.1 ih).1 y hy)
set_option maxRecDepth 100000 in
/-- Claims of one router for one subdomain are one. -/
theorem od_once {l : List Od} (hv : ckO l = 0) {x y : Od} (hx : x ∈ l) (hy : y ∈ l) (hr : x.r = y.r) (hs : x.s = y.s) : x = y := by
  have hp := asc_pairO l (ck_any hv).2.2
  obtain ⟨i, hi, rfl⟩ := List.mem_iff_getElem.1 hx
  obtain ⟨j, hj, rfl⟩ := List.mem_iff_getElem.1 hy
  rw [List.pairwise_iff_getElem] at hp
  rcases Nat.lt_trichotomy i j with h | h | h
  · have := of_decide_eq_true (hp i j hi hj h)
    omega
  · subst h; rfl
  · have := of_decide_eq_true (hp j i hj hi h)
    omega
set_option maxRecDepth 100000 in
theorem pl_valid {l : List Od} {sub : Int} (h : plnX l sub = 0) : vPl (plnS l sub) (plnL l sub) (plnE l sub) = true ∧ plnE l sub = e2K l sub 257 ∧ (plnE l sub).length ≤ 24 := by
  have hv : ckO l = 0 := by
    unfold plnX at h
    by_cases h0 : ckO l = 0
    · exact h0
    · rw [if_pos h0] at h; exact absurd h h0
  have hs : inV sub 0 7 = true := by
    unfold plnX at h
    rw [if_neg (fun q => q hv)] at h
    cases hb : inV sub 0 7
    · rw [hb] at h; cases h
    · rfl
  have hl : (e2K l sub 257).length ≤ 24 := by
    unfold plnX at h
    rw [if_neg (fun q => q hv), if_neg (by rw [hs]; decide)] at h
    by_cases h24 : 24 < (e2K l sub 257).length
    · rw [if_pos h24] at h; cases h
    · omega
  have hE : plnE l sub = e2K l sub 257 := if_pos h
  have hS : plnS l sub = sub := if_pos h
  have hL : plnL l sub = lnK l sub := if_pos h
  refine ⟨?_, hE, by rw [hE]; exact hl⟩
  rw [hE, hS, hL]
  have hw : (e2K l sub 257).any wrE = false := by
    rw [List.any_eq_false]
    intro e he
    obtain ⟨x, hx, -, -, rfl⟩ := (e2_mem hv).1 he
    obtain ⟨a1, -, a3, -⟩ := wr_fields (any_mem (ck_any hv).2.1 hx)
    unfold wrE edOf inV
    simp [a1.1, a1.2, a3.1, a3.2]
  have hr : repI ((e2K l sub 257).map Ed.r) = false := by
    refine rep_no fun k r hk hm => ?_
    obtain ⟨j, hj⟩ := List.mem_iff_getElem?.1 hm
    rw [List.getElem?_take] at hj
    split at hj
    · rename_i hjk
      rw [List.getElem?_map] at hk hj
      cases hek : (e2K l sub 257)[k]? with
      | none => rw [hek] at hk; cases hk
      | some a =>
        cases hej : (e2K l sub 257)[j]? with
        | none => rw [hej] at hj; cases hj
        | some b =>
          rw [hek] at hk
          rw [hej] at hj
          have h1 : a.r = r := Option.some.inj hk
          have h2 : b.r = r := Option.some.inj hj
          obtain ⟨x, hx, xs, -, rfl⟩ := (e2_mem hv).1 (List.mem_of_getElem? hek)
          obtain ⟨y, hy, ys, -, rfl⟩ := (e2_mem hv).1 (List.mem_of_getElem? hej)
          have h3 : x = y := od_once hv hx hy (show (edOf x).r = (edOf y).r by omega) (by rw [xs, ys])
          subst h3
          have hp := (e2K_asc l sub 257).2
          rw [List.pairwise_iff_getElem] at hp
          obtain ⟨ha1, ha2⟩ := List.getElem?_eq_some_iff.1 hek
          obtain ⟨hb1, hb2⟩ := List.getElem?_eq_some_iff.1 hej
          have := hp j k hb1 ha1 hjk
          rw [ha2, hb2] at this
          omega
    · cases hj
  have hln : (vl (lnK l sub) || (decide (lnK l sub = 0) && decide ((e2K l sub 257).length = 0))) = true := by
    rcases lnS_vl (fun x hx => (wr_fields (any_mem (ck_any hv).2.1 hx)).2.2.2) sub 0 (Or.inl rfl) with ⟨h1, -, h3⟩ | h1
    · have he : e2K l sub 257 = [] := by
        rw [List.eq_nil_iff_forall_not_mem]
        intro e he
        obtain ⟨x, hx, xs, -⟩ := (e2_mem hv).1 he
        exact h3 x hx xs
      have h1' : lnK l sub = 0 := h1
      rw [he, h1']
      simp
    · have h1' : vl (lnK l sub) = true := h1
      rw [h1']; rfl
  unfold vPl
  rw [hs, hln, decide_eq_true hl, hw, pair_ascE _ (e2K_asc l sub 257).2, hr]
  rfl
end Go.Proofs.Ytndfhgklhjfhkaa

/- identify: ValidPlan. -/
namespace Go.Proofs.Ytndfhgklhjfhkaa
open Go.RowKit Bs
set_option maxRecDepth 100000 in
set_option maxHeartbeats 6400000 in
theorem ivplan_any (sub n : Int) (E : List Ed) (p : Option Addr) (c : Nat) (q : Nat → Prop) (w : World) (hR : RdF w q (.slice p E.length c) E.length (E.flatMap edC)) (hm : E.length ≤ 9223372036854775807) :
    Calls Try.prog 17 #[.agg #[.int .i64 sub, .int .i64 n, .slice p E.length c]] w fun e w' => e = .returned (.bool (vPl sub n E)) ∧ w.grownBy w' none := by
  obtain ⟨k1, k2⟩ := tone_box w #[.int .i64 sub, .int .i64 n, .slice p E.length c] 26
  have H0 := Lib.hid (And.intro k1 (And.intro k2 (hR.keep k2)))
  have e1 : EnterF 55 := enters_of Try.func55 (by kernel_rfl) rfl
  have E1 := Lib.hid e1
  clear k1 k2 hR e1
  go_enter Try.func17, Try.ntmps17
  go_upto_region 1 with fail
  generalize w.alloc _ = w1 at *
  obtain ⟨⟨d0, d1, d2⟩, -⟩ := row3i H0.out.1
  obtain ⟨b1, hb1⟩ : ∃ b, inV sub 0 7 = b := ⟨_, rfl⟩
  have B1 := Lib.hid hb1
  clear hb1
  go_wp2_with fail
  refine (ivs_lit sub _ B1.out w1).mono ?_
  rintro e w' ⟨rfl, rfl⟩
  cases b1
  case false =>
    go_wp2_with fail
    go_ret
    exact ⟨by unfold vPl; rw [B1.out]; rfl, H0.out.2.1⟩
  by_cases h24 : 24 < E.length
  · have h24' : (24 : Int) < (E.length : Int) := by omega
    go_wp2_with fail
    go_ret
    exact ⟨by unfold vPl; rw [decide_eq_false (show ¬ E.length ≤ 24 by omega)]; simp, H0.out.2.1⟩
  have h24' : ¬ (24 : Int) < (E.length : Int) := by omega
  obtain ⟨b2, hb2⟩ : ∃ b, vl n = b := ⟨_, rfl⟩
  have B2 := Lib.hid hb2
  clear hb2
  go_wp2_with fail
  refine (vlp_lit n _ B2.out w1).mono ?_
  rintro e w' ⟨rfl, rfl⟩
  cases b2
  case true =>
    have HP : Hid (vPl sub n E = (!E.any wrE && ascB ltE E && !repI (rsE E))) := Lib.hid (by
      unfold vPl rsE
      rw [B1.out, B2.out, decide_eq_true (show E.length ≤ 24 by omega)]
      simp)
    go_wp2_with fail
    refine (icontE_any 55 #[] wrE E1.out E p c _ w1 H0.out.2.2 hm (fun r w' _ => iwre_any r w')).mono ?_
    rintro e w2 ⟨rfl, hg⟩
    have H2 := Lib.hid (And.intro (kept_row H0.out.1 hg (by simp)) (And.intro (grown_trans H0.out.2.1 hg) (H0.out.2.2.keep hg)))
    clear hg
    clear d0 d1 d2
    obtain ⟨⟨d0, d1, d2⟩, -⟩ := row3i H2.out.1
    cases f1 : E.any wrE
    case true =>
      have F1 := Lib.hid f1
      clear f1
      go_wp2_with fail
      go_ret
      exact ⟨by rw [HP.out, F1.out]; rfl, H2.out.2.1⟩
    have F1 := Lib.hid f1
    clear f1
    go_wp2_with fail
    refine (iascE_any E p c _ w2 H2.out.2.2 hm).mono ?_
    rintro e w3 ⟨rfl, hg⟩
    have H3 := Lib.hid (And.intro (kept_row H2.out.1 hg (by simp)) (And.intro (grown_trans H2.out.2.1 hg) (H2.out.2.2.keep hg)))
    clear hg
    clear d0 d1 d2 H2
    obtain ⟨⟨d0, d1, d2⟩, -⟩ := row3i H3.out.1
    cases f2 : ascB ltE E
    case false =>
      have F2 := Lib.hid f2
      clear f2
      go_wp2_with fail
      go_ret
      exact ⟨by rw [HP.out, F1.out, F2.out]; rfl, H3.out.2.1⟩
    have F2 := Lib.hid f2
    clear f2
    go_wp2_with fail
    refine (irtw_any E p c _ w3 H3.out.2.2 F1.out hm).mono ?_
    rintro e w4 ⟨rfl, hg⟩
    have G4 := Lib.hid (grown_trans H3.out.2.1 hg)
    clear hg
    clear d0 d1 d2 H3
    have HRP : Hid (vPl sub n E = !repI (rsE E)) := Lib.hid (by rw [HP.out, F1.out, F2.out]; rfl)
    go_wp2_with fail
    go_ret
    rw [HRP.out]
    exact ⟨rfl, G4.out⟩
  by_cases hn0 : n = 0
  case neg =>
    have hn0' : (n != 0) = true := by simpa using hn0
    have HF : Hid (vPl sub n E = false) := Lib.hid (by unfold vPl; rw [B2.out, decide_eq_false hn0]; simp)
    clear hn0
    go_wp2_with fail
    go_ret
    rw [HF.out]
    exact ⟨rfl, H0.out.2.1⟩
  have hn0' : (n != 0) = false := by simpa using hn0
  by_cases hE : 0 < E.length
  case pos =>
    have hE' : (0 : Int) < (E.length : Int) := by omega
    have HF : Hid (vPl sub n E = false) := Lib.hid (by unfold vPl; rw [B2.out, decide_eq_false (show ¬ E.length = 0 by omega)]; simp)
    clear hE
    go_wp2_with fail
    go_ret
    rw [HF.out]
    exact ⟨rfl, H0.out.2.1⟩
  have hE' : ¬ (0 : Int) < (E.length : Int) := by omega
  have HP : Hid (vPl sub n E = (!E.any wrE && ascB ltE E && !repI (rsE E))) := Lib.hid (by
    unfold vPl rsE
    rw [B1.out, decide_eq_true (show E.length ≤ 24 by omega), decide_eq_true hn0, decide_eq_true (show E.length = 0 by omega)]
    simp)
  clear hn0 hE
  go_wp2_with fail
  refine (icontE_any 55 #[] wrE E1.out E p c _ w1 H0.out.2.2 hm (fun r w' _ => iwre_any r w')).mono ?_
  rintro e w2 ⟨rfl, hg⟩
  have H2 := Lib.hid (And.intro (kept_row H0.out.1 hg (by simp)) (And.intro (grown_trans H0.out.2.1 hg) (H0.out.2.2.keep hg)))
  clear hg
  clear d0 d1 d2
  obtain ⟨⟨d0, d1, d2⟩, -⟩ := row3i H2.out.1
  cases f1 : E.any wrE
  case true =>
    have F1 := Lib.hid f1
    clear f1
    go_wp2_with fail
    go_ret
    exact ⟨by rw [HP.out, F1.out]; rfl, H2.out.2.1⟩
  have F1 := Lib.hid f1
  clear f1
  go_wp2_with fail
  refine (iascE_any E p c _ w2 H2.out.2.2 hm).mono ?_
  rintro e w3 ⟨rfl, hg⟩
  have H3 := Lib.hid (And.intro (kept_row H2.out.1 hg (by simp)) (And.intro (grown_trans H2.out.2.1 hg) (H2.out.2.2.keep hg)))
  clear hg
  clear d0 d1 d2 H2
  obtain ⟨⟨d0, d1, d2⟩, -⟩ := row3i H3.out.1
  cases f2 : ascB ltE E
  case false =>
    have F2 := Lib.hid f2
    clear f2
    go_wp2_with fail
    go_ret
    exact ⟨by rw [HP.out, F1.out, F2.out]; rfl, H3.out.2.1⟩
  have F2 := Lib.hid f2
  clear f2
  go_wp2_with fail
  refine (irtw_any E p c _ w3 H3.out.2.2 F1.out hm).mono ?_
  rintro e w4 ⟨rfl, hg⟩
  have G4 := Lib.hid (grown_trans H3.out.2.1 hg)
  clear hg
  clear d0 d1 d2 H3
  have HRP : Hid (vPl sub n E = !repI (rsE E)) := Lib.hid (by rw [HP.out, F1.out, F2.out]; rfl)
  go_wp2_with fail
  go_ret
  rw [HRP.out]
  exact ⟨rfl, G4.out⟩
end Go.Proofs.Ytndfhgklhjfhkaa

/- The laws' same: lists of claims that are equal. -/
namespace Go.Proofs.Ytndfhgklhjfhkaa
open Go.RowKit Bs
end Go.Proofs.Ytndfhgklhjfhkaa

/- The reference's SamePlan: plans that are equal. -/
namespace Go.Proofs.Ytndfhgklhjfhkaa
open Go.RowKit Bs
set_option maxRecDepth 100000 in
set_option maxHeartbeats 3200000 in
theorem isamep_any (s n : Int) (E : List Ed) (p1 p2 : Option Addr) (c1 c2 : Nat) (q1 q2 : Nat → Prop) (w : World) (h1 : RdF w q1 (.slice p1 E.length c1) E.length (E.flatMap edC)) (h2 : RdF w q2 (.slice p2 E.length c2) E.length (E.flatMap edC)) (hm : E.length ≤ 9223372036854775807) :
    Calls Try.prog 29 #[.agg #[.int .i64 s, .int .i64 n, .slice p1 E.length c1], .agg #[.int .i64 s, .int .i64 n, .slice p2 E.length c2]] w fun e w' => e = .returned (.bool true) ∧ w.grownBy w' none := by
  obtain ⟨k1, k2, k3, k4⟩ := two_boxes w #[.int .i64 s, .int .i64 n, .slice p1 E.length c1] #[.int .i64 s, .int .i64 n, .slice p2 E.length c2] 26 26
  have HK := Lib.hid (And.intro k1 (And.intro k2 (And.intro k3 (And.intro (h1.keep k3) (h2.keep k3)))))
  clear k1 k2 k3 k4 h1 h2
  go_enter Try.func29, Try.ntmps29
  go_upto_region 1 with fail
  generalize (w.alloc _).alloc _ = w1 at *
  have hsz : w.heap.size = w.heap.size := rfl
  obtain ⟨⟨d0, d1, d2⟩, -⟩ := row3i HK.out.1
  obtain ⟨⟨e0, e1, e2⟩, -⟩ := row3i HK.out.2.1
  go_wp2_with fail
  clear d0 d1 d2 e0 e1 e2
  go_loopw [5] (fun a wr => ∃ k : Nat, k ≤ E.length ∧ a = .int .i64 (k : Int) ∧ Hid (w1.grownBy wr none)) (fun a _ => E.length - (RowKit.intOf a).toNat)
  case atStart => exact ⟨0, Nat.zero_le _, rfl, Lib.hid (grown_refl _ _)⟩
  case round =>
    obtain ⟨k, hk, rfl, HG⟩ := hrel
    obtain ⟨⟨d0, d1, d2⟩, -⟩ := row3i (kept_row HK.out.1 HG.out (by simp))
    obtain ⟨⟨e0, e1, e2⟩, -⟩ := row3i (kept_row HK.out.2.1 HG.out (by simp))
    by_cases hlt : k < E.length
    · have hlt' : (k : Int) < (E.length : Int) := by omega
      obtain ⟨-, b1, o1, rfl, _, hc1⟩ := ed_cells (HK.out.2.2.2.1.keep HG.out) (by omega)
      obtain ⟨-, b2, o2, rfl, _, hc2⟩ := ed_cells (HK.out.2.2.2.2.keep HG.out) (by omega)
      obtain ⟨y, hy⟩ : ∃ y, E[k]? = some y := ⟨_, List.getElem?_eq_getElem hlt⟩
      obtain ⟨a0, a1⟩ := hc1 k y hy
      obtain ⟨z0, z1⟩ := hc2 k y hy
      clear hc1 hc2 hy
      go_wp2_with fail
      go_region
      have HG2 := Lib.hid (grown_drew HG.out)
      clear HG a0 a1 z0 z1 d0 d1 d2 e0 e1 e2
      change Exit.then _ _ _ _ wr.drew
      generalize wr.drew = w2 at *
      go_wp2_with fail
      exact ⟨⟨k + 1, by omega, congrArg _ (by omega), HG2⟩, by simp only [RowKit.intOf]; omega⟩
    · obtain rfl : k = E.length := by omega
      have hnl : ¬ (E.length : Int) < (E.length : Int) := by omega
      have G := Lib.hid (grown_trans HK.out.2.2.1 HG.out)
      go_wp2_with fail
      go_ret
      exact ⟨rfl, G.out⟩
end Go.Proofs.Ytndfhgklhjfhkaa

/- The reference's Has and Named; Same of equal topologies. -/
namespace Go.Proofs.Ytndfhgklhjfhkaa
open Go.RowKit Bs
set_option maxRecDepth 100000 in
set_option maxHeartbeats 1600000 in
theorem rhas4_any (X : List Int) (x : Int) (p : Option Addr) (c : Nat) (q : Nat → Prop) (w : World) (hR : Rd w q (.slice p X.length c) (X.map tv)) (hm : X.length ≤ 9223372036854775807) :
    Calls Try.prog 30 #[.slice p X.length c, .int .i64 x] w fun e w' => e = .returned (.bool (hasI X x)) ∧ w = w' := by
  have HR := Lib.hid hR
  have HN0 : Hid ((X.take 0).any (fun y => decide (y = x)) = false) := Lib.hid rfl
  clear hR
  go_enter Try.func30, Try.ntmps30
  go_wp2_with fail
  go_loopw [5] (fun a wr => ∃ k : Nat, k ≤ X.length ∧ a = .int .i64 (k : Int) ∧ Hid ((X.take k).any (fun y => decide (y = x)) = false) ∧ wr = w) (fun a _ => X.length - (RowKit.intOf a).toNat)
  case atStart => exact ⟨0, Nat.zero_le _, rfl, HN0, rfl⟩
  case round =>
    obtain ⟨k, hk, rfl, HN, rfl⟩ := hrel
    by_cases hlt : k < X.length
    · obtain ⟨-, b, off, rfl, -, hc⟩ := rdi_at HR.out (by omega)
      obtain ⟨y, hy⟩ : ∃ y, X[k]? = some y := ⟨_, List.getElem?_eq_getElem hlt⟩
      have d0 := hc k y hy
      have HY := Lib.hid hy
      clear hc hy HN0
      by_cases hyx : y = x
      · have HT : Hid (hasI X x = true) := Lib.hid (any_at HY.out (decide_eq_true hyx))
        subst hyx
        go_wp2_with fail
        go_ret
        rw [HT.out]
        exact ⟨rfl, rfl⟩
      · have HN2 := Lib.hid (any_take HN.out HY.out (decide_eq_false hyx))
        have h' : (y == x) = false := by simpa using hyx
        go_wp2_with fail
        exact ⟨⟨k + 1, by omega, congrArg _ (by omega), HN2, (by first | rfl | trivial)⟩, by simp only [RowKit.intOf]; omega⟩
    · have HT : Hid (hasI X x = false) := Lib.hid (any_end HN.out (by omega))
      obtain rfl : k = X.length := by omega
      go_wp2_with fail
      go_ret
      rw [HT.out]
      exact ⟨rfl, rfl⟩
end Go.Proofs.Ytndfhgklhjfhkaa

/- The law IdentifyPlans. -/
namespace Go.Proofs.Ytndfhgklhjfhkaa
open Go.RowKit Bs
set_option maxRecDepth 100000 in
theorem grown_set3 (w : World) (b : Nat) (x y z : Value) : w.grownBy (((w.setCell ⟨b, 0, none⟩ x).setCell ⟨b, 1, none⟩ y).setCell ⟨b, 2, none⟩ z) (some b) :=
  grown_trans (grown_trans (grown_setCell w ⟨b, 0, none⟩ x) (grown_setCell _ ⟨b, 1, none⟩ y)) (grown_setCell _ ⟨b, 2, none⟩ z)
set_option maxRecDepth 100000 in
theorem hid_set3 {W w : World} {b : Nat} (h : Hid (W.grownBy w none)) (hb : W.heap.size ≤ b) (x y z : Value) : Hid (W.grownBy (((w.setCell ⟨b, 0, none⟩ x).setCell ⟨b, 1, none⟩ y).setCell ⟨b, 2, none⟩ z) none) :=
  Lib.hid (grown_new h.out (grown_set3 w b x y z) hb)
set_option maxRecDepth 100000 in
theorem plnE_len {l : List Od} {sub : Int} : (plnE l sub).length ≤ 24 := by
  by_cases h : plnX l sub = 0
  · exact (pl_valid h).2.2
  · unfold plnE
    rw [if_neg h]
    exact Nat.zero_le _
set_option maxRecDepth 100000 in
set_option maxHeartbeats 25600000 in
theorem plans_walk (v : Value) (rl : List Od) (rp : Option Addr) (rc : Nat) (sub : Int) (w : World) (hv : IntsIn w v) (hR : RdF w (· < w.heap.size) (.slice rp rl.length rc) rl.length (rl.flatMap odC)) (hn : rp = none → rc = 0) (hc : rl.length ≤ rc ∧ rc ≤ 9223372036854775807) :
    Calls Try.prog 5 #[v, .slice rp rl.length rc, .int .i64 sub] w fun e w' => e = .returned (.bool true) ∧ w.grownBy w' none := by
  have HV := Lib.hid hv
  have HR := Lib.hid hR
  have HC := Lib.hid (And.intro hn hc)
  have hrm : rl.length ≤ 9223372036854775807 := Nat.le_trans hc.1 hc.2
  clear hv hR hn hc
  go_enter Try.func5, Try.ntmps5
  go_wp2_with fail
  refine (new_any v w HV.out).mono ?_
  rintro e w1 ⟨rfl, hg1, hT1⟩
  have H1 := Lib.hid (And.intro hg1 (And.intro hT1 (HR.out.keep hg1)))
  clear hg1 hT1 HV HR
  obtain ⟨a, ha⟩ : ∃ a, w.heap.size = a := ⟨_, rfl⟩
  have HA := Lib.hid ha
  rw [ha] at H1 ⊢
  clear ha
  go_wp2_with fail
  refine (tclaims_any a 6 6 (by omega) (by unfold I64; omega) _ H1.out.2.1).mono ?_
  rintro e w2 ⟨l, p, c, rfl, hll, -, ho, hs⟩
  obtain ⟨pp, cc, e2, hc1, hc2⟩ := own_shape ho
  injection e2 with e3 e4 e5
  subst e3
  subst e5
  have HL : Hid (LV l p c) := Lib.hid ⟨own_nlI ho, ⟨hc1, hc2⟩, by omega⟩
  have h2 := grown_new H1.out.1 hs.1 (by rw [HA.out]; exact Nat.le_refl _)
  have hla := H1.out.2.1.lt
  have r2 := H1.out.2.2.grown hs.1 (fun b hb e => by have := Option.some.inj e; omega)
  have r1 : RdF w2 (a < ·) (.slice p l.length c) l.length (l.flatMap odC) := (rdf_of_own ho).mono (fun b hb => by omega)
  obtain ⟨n1, n2⟩ := tone_box w2 #[.slice p l.length c, .slice rp rl.length rc] 23
  have H2 := Lib.hid (And.intro (grown_trans h2 n2) (And.intro (hs.2.keep n2) (And.intro n1 (And.intro (r1.keep n2) (And.intro (r2.keep n2) hs.2.lt)))))
  clear ho hs hc1 hc2 h2 r2 r1 n1 n2 H1 hll e4 hla
  go_wp2_with fail
  refine (range_any a (-1) 3 (by omega) (by omega) (by omega) (by omega) _ H2.out.2.1).mono ?_
  rintro e w3 ⟨s0, rfl, -, hs⟩
  obtain ⟨n1, n2⟩ := tone_box w3 #[.int .i64 s0, .int .i64 sub] 3
  have H3 : Hid (LW w a w2.heap.size w3.heap.size l rl p rp c rc s0 sub _) := Lib.hid ⟨kept_row (kept_row H2.out.2.2.1 hs.1 (fun e => by have := Option.some.inj e; have := H2.out.2.2.2.2.2; omega)) n2 (by simp), n1, ((H2.out.2.2.2.1.grown hs.1 (fun b hb e => by have := Option.some.inj e; omega)).mono (fun _ _ => trivial)).keep n2, ((H2.out.2.2.2.2.1.grown hs.1 (fun b hb e => by have := Option.some.inj e; omega)).mono (fun _ _ => trivial)).keep n2, grown_trans (grown_new H2.out.1 hs.1 (by rw [HA.out]; exact Nat.le_refl _)) n2⟩
  clear hs H2 n1 n2
  go_upto_region 4 with fail
  generalize w3.alloc _ = w4 at *
  generalize w2.heap.size = D at *
  generalize w3.heap.size = E at *
  clear HA
  by_cases hraw : rl.length ≤ 200
  case neg =>
    have hraw' : ¬ (rl.length : Int) ≤ 200 := by omega
    go_wp2_with fail
    go_loopw [10] (fun x wr => x = .int .i64 0 ∧ Hid (w.grownBy wr none)) (fun x _ => 0)
    case atStart => exact ⟨rfl, Lib.hid H3.out.gr⟩
    case round =>
    obtain ⟨rfl, G⟩ := hrel
    go_wp2_with fail
    refine (iawake_any wr).mono ?_
    rintro e w8 ⟨rfl, hg⟩
    have G2 := Lib.hid (grown_trans G.out hg)
    clear hg
    go_wp2_with fail
    go_ret
    exact ⟨rfl, G2.out⟩
  have hraw' : (rl.length : Int) ≤ 200 := by omega
  have HRL : Hid (LV rl rp rc) := Lib.hid ⟨HC.out.1, HC.out.2, hraw⟩
  clear HC hraw
  go_wp2_with fail
  go_loopw [10] (fun x wr => ∃ i : Nat, i ≤ 2 ∧ x = .int .i64 (i : Int) ∧ Hid (LW w a D E l rl p rp c rc s0 sub wr)) (fun x _ => 2 - (RowKit.intOf x).toNat)
  case atStart => exact ⟨0, by omega, rfl, H3⟩
  case round =>
  clear H3
  obtain ⟨i, hi, rfl, H4⟩ := hrel
  by_cases hi2 : i < 2
  case neg =>
    obtain rfl : i = 2 := by omega
    have G := Lib.hid H4.out.gr
    go_wp2_with fail
    refine (iawake_any wr).mono ?_
    rintro e w8 ⟨rfl, hg⟩
    have G2 := Lib.hid (grown_trans G.out hg)
    clear hg
    go_wp2_with fail
    go_ret
    exact ⟨rfl, G2.out⟩
  have hi2' : (i : Int) < 2 := by omega
  obtain ⟨w6, hw6⟩ : ∃ w6, w6 = wr := ⟨_, rfl⟩
  rw [← hw6] at H4 ⊢
  clear hw6
  obtain ⟨l1, p1, c1, hlv, cl, hrd⟩ := H4.out.list HL.out HRL.out hi2
  obtain ⟨s1, cs⟩ := H4.out.num hi2
  have hm1 := hlv.m
  have HF := Lib.hid (And.intro cl cs)
  obtain ⟨OX, hOX⟩ : ∃ z, plnX l1 s1 = z := ⟨_, rfl⟩
  obtain ⟨OS, hOS⟩ : ∃ z, plnS l1 s1 = z := ⟨_, rfl⟩
  obtain ⟨OL, hOL⟩ : ∃ z, plnL l1 s1 = z := ⟨_, rfl⟩
  obtain ⟨OE, hOE⟩ : ∃ z, plnE l1 s1 = z := ⟨_, rfl⟩
  obtain ⟨CN, hCN⟩ : ∃ z, cfO l1 s1 = z := ⟨_, rfl⟩
  have HPV : Hid (OE.length ≤ 24 ∧ CN.length ≤ 257 ∧ (OX = 0 → vPl OS OL OE = true ∧ ∀ e ∈ OE, e.i ∉ CN)) := Lib.hid ⟨by rw [← hOE]; exact plnE_len, by rw [← hCN]; unfold cfO; split; exact cfK_len _ _ _; simp, fun h => by
    rw [← hOX] at h
    rw [← hOS, ← hOL, ← hOE, ← hCN]
    exact ⟨(pl_valid h).1, fun e he => pl_conf (by rw [← (pl_valid h).2.1]; exact he)⟩⟩
  have PP : ∀ {W : World} {e : Ending} {w' : World}, PlnPost l1 s1 W e w' → ∃ p c, e = .returned (.tuple #[.agg #[.int .i64 OS, .int .i64 OL, .slice p OE.length c], .int .i64 OX]) ∧ RdF w' (W.heap.size < ·) (.slice p OE.length c) OE.length (OE.flatMap edC) ∧ W.grownBy w' none := by
    rintro W e w' ⟨p, c, rfl, ho, hg⟩
    rw [hOS, hOL, hOE, hOX]
    rw [hOE] at ho
    exact ⟨p, c, rfl, (rdf_of_own ho).mono (fun b hb => by omega), hg⟩
  have CF : Hid (∀ W, Hid (w6.grownBy W none) → Calls Try.prog 27 #[.slice p1 l1.length c1, .int .i64 s1] W fun e w' => ∃ p c, e = .returned (.tuple #[.agg #[.int .i64 OS, .int .i64 OL, .slice p OE.length c], .int .i64 OX]) ∧ RdF w' (W.heap.size < ·) (.slice p OE.length c) OE.length (OE.flatMap edC) ∧ W.grownBy w' none) := Lib.hid (fun W hW => (iplan_any l1 p1 c1 s1 _ W (hrd.keep hW.out) (by omega)).mono fun _ _ h => PP h)
  have CG : Hid (∀ W, Hid (w6.grownBy W none) → Calls Try.prog 28 #[.slice p1 l1.length c1, .int .i64 s1] W fun e w' => ∃ p c, e = .returned (.tuple #[.agg #[.int .i64 OS, .int .i64 OL, .slice p OE.length c], .int .i64 OX]) ∧ RdF w' (W.heap.size < ·) (.slice p OE.length c) OE.length (OE.flatMap edC) ∧ W.grownBy w' none) := Lib.hid (fun W hW => (irplan_any l1 p1 c1 s1 _ W (hrd.keep hW.out) (by omega)).mono fun _ _ h => PP h)
  have CC : Hid (∀ W, Hid (w6.grownBy W none) → Calls Try.prog 23 #[.slice p1 l1.length c1, .int .i64 s1] W fun e w' => IntsP CN W e w') := Lib.hid (fun W hW => (iconf_any l1 p1 c1 s1 _ W (hrd.keep hW.out) (by omega)).mono fun _ _ h => by rw [← hCN]; exact ri_ints h)
  have GZ : Hid (w6.grownBy w6 none) := Lib.hid (grown_refl _ _)
  clear hOX hOS hOL hOE hCN hrd hlv PP
  go_upto_region 7 with fail
  go_region_held3 (fun w' => w'.cell? ⟨D, i, none⟩ = some (.slice p1 l1.length c1) ∧ w'.cell? ⟨E, i, none⟩ = some (.int .i64 s1) ∧ Hid (w6.grownBy w' none))
    (first | with_reducible exact keep2v HF.out (hid_drew GZ) | (exact keep2v HF.out (hid_drew (hid_more GZ (World.grownBy_alloc _ _ _)))) | with_reducible exact keep2v HF.out (hid_more (hid_more (hid_drew GZ) hg) (World.grownBy_alloc _ _ _)) | (go_split_ands; with_reducible refine keep2v HF.out ?_; with_reducible assumption) | (go_split_ands; with_reducible refine keep2v HF.out (hid_more ?_ hg); with_reducible assumption) | (go_split_ands; refine keep2v HF.out (hid_more ?_ (World.grownBy_alloc _ _ _)); with_reducible assumption) | (go_split_ands; refine keep2v HF.out (hid_set3 (by assumption) ?_ _ _ _); first | exact Nat.le_refl _ | exact (Hid.out (by assumption : Hid (w6.grownBy _ none))).size))
    ((go_at_call 27; go_split_ands; refine (CF.out _ ?_).mono ?_; assumption; rintro e w' ⟨q1, d1, rfl, hf1, hg⟩; try (have hbx := kept_row (show (w6.alloc (.cells #[.int .i64 0, .int .i64 0, .slice none 0 0] 26)).drew.heap[w6.heap.size]? = _ from heap_alloc_new w6 (.cells #[.int .i64 0, .int .i64 0, .slice none 0 0] 26)) hg (by simp); have z0 := (row3i hbx).1.1; have z1 := (row3i hbx).1.2.1; have z2 := (row3i hbx).1.2.2; have f0 := (row3i hbx).2 0; have f1 := (row3i hbx).2 1; have f2 := (row3i hbx).2 2)))
  all_goals
    go_split_ands
    have HG1 := (by assumption : Hid (w6.grownBy _ none))
    first
      | (have hb7 := (store3p (.int .i64 OS) (.int .i64 OL) (.slice q1 OE.length d1) hbx).1
         have hR7 := (hf1.grown (grown_set3 w' w6.heap.size (.int .i64 OS) (.int .i64 OL) (.slice q1 OE.length d1)) (fun b hb e => by have e2 := Option.some.inj e; have e3 : (w6.alloc (.cells #[.int .i64 0, .int .i64 0, .slice none 0 0] 26)).drew.heap.size = w6.heap.size + 1 := (by show (w6.alloc (.cells #[.int .i64 0, .int .i64 0, .slice none 0 0] 26)).heap.size = _; simp); omega)).mono (q' := fun _ => True) (fun _ _ => trivial)
         clear z0 z1 z2 f0 f1 f2 hbx hg hf1
         generalize ((w'.setCell _ _).setCell _ _).setCell _ _ = w7 at *
         generalize w6.heap.size = Bx at *)
      | (have hb7 := heap_alloc_new w' (.cells #[.int .i64 OS, .int .i64 OL, .slice q1 OE.length d1] 26)
         have hR7 := (hf1.keep (World.grownBy_alloc w' (.cells #[.int .i64 OS, .int .i64 OL, .slice q1 OE.length d1] 26) none)).mono (q' := fun _ => True) (fun _ _ => trivial)
         clear hg hf1
         generalize w'.alloc _ = w7 at *
         generalize w'.heap.size = Bx at *)
    have H7 := Lib.hid (And.intro (H4.out.keep HG1.out) (And.intro hb7 hR7))
    have CG7 : Hid (∀ W, Hid (w7.grownBy W none) → Calls Try.prog 28 #[.slice p1 l1.length c1, .int .i64 s1] W fun e w' => ∃ p c, e = .returned (.tuple #[.agg #[.int .i64 OS, .int .i64 OL, .slice p OE.length c], .int .i64 OX]) ∧ RdF w' (W.heap.size < ·) (.slice p OE.length c) OE.length (OE.flatMap edC) ∧ W.grownBy w' none) := Lib.hid (fun W hW => CG.out W (Lib.hid (grown_trans HG1.out hW.out)))
    have CC7 : Hid (∀ W, Hid (w7.grownBy W none) → Calls Try.prog 23 #[.slice p1 l1.length c1, .int .i64 s1] W fun e w' => IntsP CN W e w') := Lib.hid (fun W hW => CC.out W (Lib.hid (grown_trans HG1.out hW.out)))
    have HF7 := Lib.hid (keep2v HF.out HG1)
    clear hb7 hR7 H4 CG CC CF GZ HG1 HF cl cs
    have HF := Lib.hid (And.intro HF7.out.1 HF7.out.2.1)
    obtain ⟨cl, cs⟩ := HF.out
    have GZ : Hid (w7.grownBy w7 none) := Lib.hid (grown_refl _ _)
    go_upto_region 8 with fail
    go_region_held3 (fun w' => w'.cell? ⟨D, i, none⟩ = some (.slice p1 l1.length c1) ∧ w'.cell? ⟨E, i, none⟩ = some (.int .i64 s1) ∧ Hid (w7.grownBy w' none))
      (first | with_reducible exact keep2v HF.out (hid_drew GZ) | (exact keep2v HF.out (hid_drew (hid_more GZ (World.grownBy_alloc _ _ _)))) | with_reducible exact keep2v HF.out (hid_more (hid_more (hid_drew GZ) hg) (World.grownBy_alloc _ _ _)) | (go_split_ands; with_reducible refine keep2v HF.out ?_; with_reducible assumption) | (go_split_ands; with_reducible refine keep2v HF.out (hid_more ?_ hg); with_reducible assumption) | (go_split_ands; refine keep2v HF.out (hid_more ?_ (World.grownBy_alloc _ _ _)); with_reducible assumption) | (go_split_ands; refine keep2v HF.out (hid_set3 (by assumption) ?_ _ _ _); first | exact Nat.le_refl _ | exact (Hid.out (by assumption : Hid (w7.grownBy _ none))).size))
      ((go_at_call 28; go_split_ands; refine (CG7.out _ ?_).mono ?_; assumption; rintro e w' ⟨q2, d2, rfl, hf2, hg⟩; try (have hbx := kept_row (show (w7.alloc (.cells #[.int .i64 0, .int .i64 0, .slice none 0 0] 26)).drew.heap[w7.heap.size]? = _ from heap_alloc_new w7 (.cells #[.int .i64 0, .int .i64 0, .slice none 0 0] 26)) hg (by simp); have z0 := (row3i hbx).1.1; have z1 := (row3i hbx).1.2.1; have z2 := (row3i hbx).1.2.2; have f0 := (row3i hbx).2 0; have f1 := (row3i hbx).2 1; have f2 := (row3i hbx).2 2)))
    all_goals
      go_split_ands
      have HG2 := (by assumption : Hid (w7.grownBy _ none))
      first
        | (have hb8 := (store3p (.int .i64 OS) (.int .i64 OL) (.slice q2 OE.length d2) hbx).1
           have hR8 := (hf2.grown (grown_set3 w' w7.heap.size (.int .i64 OS) (.int .i64 OL) (.slice q2 OE.length d2)) (fun b hb e => by have e2 := Option.some.inj e; have e3 : (w7.alloc (.cells #[.int .i64 0, .int .i64 0, .slice none 0 0] 26)).drew.heap.size = w7.heap.size + 1 := (by show (w7.alloc (.cells #[.int .i64 0, .int .i64 0, .slice none 0 0] 26)).heap.size = _; simp); omega)).mono (q' := fun _ => True) (fun _ _ => trivial)
           clear z0 z1 z2 f0 f1 f2 hbx hg hf2
           generalize ((w'.setCell _ _).setCell _ _).setCell _ _ = w8 at *
           generalize w7.heap.size = By at *)
        | (have hb8 := heap_alloc_new w' (.cells #[.int .i64 OS, .int .i64 OL, .slice q2 OE.length d2] 26)
           have hR8 := (hf2.keep (World.grownBy_alloc w' (.cells #[.int .i64 OS, .int .i64 OL, .slice q2 OE.length d2] 26) none)).mono (q' := fun _ => True) (fun _ _ => trivial)
           clear hg hf2
           generalize w'.alloc _ = w8 at *
           generalize w'.heap.size = By at *)
      have H8 := Lib.hid (And.intro (H7.out.1.keep HG2.out) (And.intro (kept_row H7.out.2.1 HG2.out (by simp)) (And.intro (H7.out.2.2.keep HG2.out) (And.intro hb8 hR8))))
      have CC8 : Hid (∀ W, Hid (w8.grownBy W none) → Calls Try.prog 23 #[.slice p1 l1.length c1, .int .i64 s1] W fun e w' => IntsP CN W e w') := Lib.hid (fun W hW => CC7.out W (Lib.hid (grown_trans HG2.out hW.out)))
      have HF8 := Lib.hid (keep2v ⟨HF7.out.1, HF7.out.2.1⟩ HG2)
      clear hb8 hR8 H7 CG7 CC7 GZ HG2 HF HF7 cl cs
      obtain ⟨⟨b0, b1, b2⟩, -⟩ := row3i H8.out.2.1
      obtain ⟨⟨y0, y1, y2⟩, -⟩ := row3i H8.out.2.2.2.1
      by_cases hX : OX = 0
      case neg =>
        have hX' : (OX != 0) = true := by simpa using hX
        clear hX
        go_wp2_with fail
        refine (isamep_any OS OL OE q1 q2 d1 d2 _ _ w8 H8.out.2.2.1 H8.out.2.2.2.2 (by have := HPV.out.1; omega)).mono ?_
        rintro e w9 ⟨rfl, hg⟩
        have H9 := Lib.hid (H8.out.1.keep hg)
        clear hg H8 b0 b1 b2 y0 y1 y2
        go_wp2_with fail
        exact ⟨⟨i + 1, by omega, congrArg _ (by omega), H9⟩, by simp only [RowKit.intOf]; omega⟩
      subst hX
      have HVP := Lib.hid (HPV.out.2.2 rfl)
      go_wp2_with fail
      refine (isamep_any OS OL OE q1 q2 d1 d2 _ _ w8 H8.out.2.2.1 H8.out.2.2.2.2 (by have := HPV.out.1; omega)).mono ?_
      rintro e w9 ⟨rfl, hg⟩
      have CC9 : Hid (∀ W, Hid (w9.grownBy W none) → Calls Try.prog 23 #[.slice p1 l1.length c1, .int .i64 s1] W fun e w' => IntsP CN W e w') := Lib.hid (fun W hW => CC8.out W (Lib.hid (grown_trans hg hW.out)))
      have HF9 := Lib.hid (keep2v ⟨HF8.out.1, HF8.out.2.1⟩ (Lib.hid hg))
      have H9 := Lib.hid (And.intro (H8.out.1.keep hg) (And.intro (kept_row H8.out.2.1 hg (by simp)) (H8.out.2.2.1.keep hg)))
      clear hg H8 CC8 HF8 b0 b1 b2 y0 y1 y2
      have HF := Lib.hid (And.intro HF9.out.1 HF9.out.2.1)
      obtain ⟨cl, cs⟩ := HF.out
      have GZ : Hid (w9.grownBy w9 none) := Lib.hid (grown_refl _ _)
      go_upto_region 12 with fail
      go_region_held3 (fun w' => w'.cell? ⟨D, i, none⟩ = some (.slice p1 l1.length c1) ∧ w'.cell? ⟨E, i, none⟩ = some (.int .i64 s1) ∧ Hid (w9.grownBy w' none))
        (first | with_reducible exact keep2v HF.out (hid_drew GZ) | (exact keep2v HF.out (hid_drew (hid_more GZ (World.grownBy_alloc _ _ _)))) | with_reducible exact keep2v HF.out (hid_more (hid_more (hid_drew GZ) hg) (World.grownBy_alloc _ _ _)) | (go_split_ands; with_reducible refine keep2v HF.out ?_; with_reducible assumption) | (go_split_ands; with_reducible refine keep2v HF.out (hid_more ?_ hg); with_reducible assumption) | (go_split_ands; refine keep2v HF.out (hid_more ?_ (World.grownBy_alloc _ _ _)); with_reducible assumption) | (go_split_ands; refine keep2v HF.out (hid_set3 (by assumption) ?_ _ _ _); first | exact Nat.le_refl _ | exact (Hid.out (by assumption : Hid (w9.grownBy _ none))).size))
        ((go_at_call 23; go_split_ands; refine (CC9.out _ ?_).mono ?_; assumption; rintro e w' ⟨q3, d3, rfl, hi1, hg⟩))
      all_goals
        go_split_ands
        have HG9 := (by assumption : Hid (w9.grownBy _ none))
        have H10 := Lib.hid (And.intro (H9.out.1.keep HG9.out) (And.intro (kept_row H9.out.2.1 HG9.out (by simp)) (And.intro (H9.out.2.2.keep HG9.out) hi1)))
        clear HG9 H9 CC9 HF9 hi1 hg GZ cl cs HF
        have hm24 : OE.length ≤ 24 := HPV.out.1
        go_wp2_with fail
        go_loopw [16] (fun x wr => ∃ k : Nat, k ≤ OE.length ∧ x = .int .i64 (k : Int) ∧ Hid (LW w a D E l rl p rp c rc s0 sub wr ∧ wr.heap[Bx]? = some (.cells #[.int .i64 OS, .int .i64 OL, .slice q1 OE.length d1] 26 (0, 0)) ∧ RdF wr (fun _ => True) (.slice q1 OE.length d1) OE.length (OE.flatMap edC) ∧ Rd wr (fun _ => True) (.slice q3 CN.length d3) (CN.map fun z => Value.int .i64 z))) (fun x _ => OE.length - (RowKit.intOf x).toNat)
        case atStart => exact ⟨0, Nat.zero_le _, rfl, H10⟩
        case round =>
        clear H10
        obtain ⟨k, hk, rfl, H11⟩ := hrel
        obtain ⟨w11, hw11⟩ : ∃ w11, w11 = wr := ⟨_, rfl⟩
        rw [← hw11] at H11 ⊢
        clear hw11
        obtain ⟨⟨b0, b1, b2⟩, -⟩ := row3i H11.out.2.1
        by_cases hlt : k < OE.length
        case pos =>
          have hlt' : (k : Int) < (OE.length : Int) := by omega
          obtain ⟨-, bq, oq, rfl, _, hcq⟩ := ed_cells H11.out.2.2.1 (by omega)
          obtain ⟨y, hy⟩ : ∃ y, OE[k]? = some y := ⟨_, List.getElem?_eq_getElem hlt⟩
          obtain ⟨a0, a1⟩ := hcq k y hy
          have hyn : hasI CN y.i = false := by
            refine List.any_eq_false.2 fun z hz => ?_
            have h := HVP.out.2 y (List.mem_of_getElem? hy)
            rw [decide_eq_true_eq]
            rintro rfl
            exact h hz
          have HYN := Lib.hid hyn
          clear hcq hy hyn
          go_wp2_with fail
          refine (rhas4_any CN y.i q3 d3 _ w11 H11.out.2.2.2 (by have := HPV.out.2.1; omega)).mono ?_
          rw [HYN.out]
          rintro e w12 ⟨rfl, rfl⟩
          clear a0 a1 b0 b1 b2
          go_wp2_with fail
          exact ⟨⟨k + 1, by omega, congrArg _ (by omega), H11⟩, by simp only [RowKit.intOf]; omega⟩
        case neg =>
          obtain rfl : k = OE.length := by omega
          have hnl : ¬ (OE.length : Int) < (OE.length : Int) := by omega
          go_wp2_with fail
          refine (ivplan_any OS OL OE q1 d1 _ w11 H11.out.2.2.1 (by omega)).mono ?_
          rw [HVP.out.1]
          rintro e w12 ⟨rfl, hg⟩
          have H12 := Lib.hid (H11.out.1.keep hg)
          clear hg H11 b0 b1 b2
          go_wp2_with fail
          exact ⟨⟨i + 1, by omega, congrArg _ (by omega), H12⟩, by simp only [RowKit.intOf]; omega⟩
end Go.Proofs.Ytndfhgklhjfhkaa

/- Claims and plans that come in as arguments. -/
namespace Go.Proofs.Ytndfhgklhjfhkaa
open Go.ChangeShapes Go.WideShapes Go.ChangeAt Go.RowKit Go.Joins Bs
set_option maxRecDepth 100000 in
theorem kit_cellsow : Try.prog.cellsOf 62 = 4 := by kernel_rfl
set_option maxRecDepth 100000 in
theorem kit_cellscl : Try.prog.cellsOf 60 = 3 := by kernel_rfl
set_option maxRecDepth 100000 in
theorem ilist2 {A : Type} {xs : List A} (h : xs.length = 2) : ∃ x0 x1, xs = [x0, x1] := by
  match xs, h with
  | [x0, x1], _ => exact ⟨x0, x1, rfl⟩
set_option maxRecDepth 100000 in
theorem ilist3 {A : Type} {xs : List A} (h : xs.length = 3) : ∃ x0 x1 x2, xs = [x0, x1, x2] := by
  match xs, h with
  | [x0, x1, x2], _ => exact ⟨x0, x1, x2, rfl⟩
set_option maxRecDepth 100000 in
theorem ilist4 {A : Type} {xs : List A} (h : xs.length = 4) : ∃ x0 x1 x2 x3, xs = [x0, x1, x2, x3] := by
  match xs, h with
  | [x0, x1, x2, x3], _ => exact ⟨x0, x1, x2, x3, rfl⟩
section
variable {H : Type} {enc : TypeId × Value → H} {W : World} {base : Nat} {v : Value} {d : DataW H} {ps : List MemPlace}
set_option maxRecDepth 100000 in
/-- A slice of structs of k cells. -/
theorem rowsI_trod {α : Type} (f : α → List Value) (P : α → Prop) (k : Nat) (hk : 0 < k) (hf : ∀ x, (f x).length = k) (x0 : α) {E T : TypeId} (hT : Try.prog.underlying T = some (.slice E)) (hc : Try.prog.cellsOf E = k)
    (hE : ∀ {fuel : Nat} {cs : List Value} {y : DataW H × List MemPlace}, DataW.trod enc Try.prog W 0 (fun _ => true) true fuel E cs = some y → ∃ r : α, cs = f r ∧ P r)
    {fuel : Nat} {c0 : Value} {y : DataW H × List MemPlace} (h : DataW.trod enc Try.prog W 0 (fun _ => true) true fuel T [c0] = some y) :
    ∃ (l : List α) (p : Option Addr) (c : Nat), c0 = .slice p l.length c ∧ RdF W (· < W.heap.size) (.slice p l.length c) l.length (l.flatMap f) ∧ l.length ≤ c ∧ c ≤ 9223372036854775807 ∧ (p = none → c = 0) ∧ ∀ x ∈ l, P x := by
  rcases DataW.trod_slice hT h with ⟨hcs, _⟩ | ⟨a, len, cap, elems, rest, n, _, hcs, _, _, hl, hm, hlen, hel, _, _⟩
  · obtain rfl : c0 = .slice none 0 0 := by simpa using hcs
    exact ⟨[], none, 0, rfl, rdf_nil _ _ _ _, Nat.le_refl _, by omega, fun _ => rfl, fun x h => by cases h⟩
  · obtain rfl : c0 = .slice (some a) len cap := by simpa using hcs
    rw [hc] at hel
    have each : ∀ i, ∃ l : α, i < len → (∀ j, j < k → W.cell? ((a.add (i * k)).add j) = (f l)[j]?) ∧ P l := by
      intro i
      by_cases hi : i < len
      · have h1 := hel i hi
        rw [List.getElem?_eq_getElem (by omega)] at h1
        obtain ⟨cs, hc1, hc2⟩ := Option.bind_eq_some_iff.1 h1
        obtain ⟨l, rfl, hPl⟩ := hE hc2
        obtain ⟨_, _, hc3⟩ := World.cells?_some hc1
        exact ⟨l, fun _ => ⟨fun j hj => hc3 j hj, hPl⟩⟩
      · exact ⟨x0, fun h => absurd h hi⟩
    obtain ⟨g, hfn2⟩ := Classical.axiomOfChoice each
    have hfn : ∀ i, i < len → ∀ j, j < k → W.cell? ((a.add (i * k)).add j) = (f (g i))[j]? := fun i hi => (hfn2 i hi).1
    have hll : ((List.range len).map g).length = len := by simp
    refine ⟨(List.range len).map g, some a, cap, by rw [hll], ?_, by rw [hll]; exact hl, hm, (fun e => by cases e), fun x hx => by
      obtain ⟨i, hi, rfl⟩ := List.mem_map.1 hx
      exact (hfn2 i (List.mem_range.1 hi)).2⟩
    rw [hll]
    refine ⟨some a, cap, rfl, fun hne => ?_⟩
    have hpos : 0 < len := by
      rcases Nat.eq_zero_or_pos len with h0 | h0
      · subst h0
        exact absurd rfl hne
      · exact h0
    obtain ⟨b, off, spot⟩ := a
    have hget : ∀ i, i < len → ∀ j, j < k → ∃ u, (f (g i))[j]? = some u := fun i _ j hj => ⟨_, List.getElem?_eq_getElem (by rw [hf]; exact hj)⟩
    have hspot : spot = none := by
      obtain ⟨u, hu⟩ := hget 0 hpos 0 hk
      have := (hfn 0 hpos 0 hk).trans hu
      simpa [Addr.add] using World.cell?_spot this
    subst hspot
    have hcell : ∀ i j, i < len → j < k → W.cell? ⟨b, off + (i * k + j), none⟩ = (f (g i))[j]? := by
      intro i j hi hj
      have := hfn i hi j hj
      rw [Go.WideShapes.add_plain, Go.WideShapes.add_plain] at this
      rw [← this]
      congr 2
      omega
    refine ⟨b, off, rfl, ?_, fun j x hj => ?_⟩
    · obtain ⟨u, hu⟩ := hget 0 hpos 0 hk
      exact World.block_lt_of_cell? W ⟨b, off + (0 * k + 0), none⟩ ((hcell 0 0 hpos hk).trans hu)
    have hj2 : j < len * k := by
      have := (List.getElem?_eq_some_iff.1 hj).1
      rw [flat_len f k hf, hll] at this
      exact this
    have hm1 : j / k < len := (Nat.div_lt_iff_lt_mul hk).2 hj2
    have hm2 : j % k < k := Nat.mod_lt _ hk
    have hd : j = j / k * k + j % k := by rw [Nat.mul_comm]; exact (Nat.div_add_mod j k).symm
    have hat : ((List.range len).map g)[j / k]? = some (g (j / k)) := by
      rw [List.getElem?_map, List.getElem?_range hm1]; rfl
    rw [hd] at hj ⊢
    rw [flat_at f k hf _ _ _ _ hat hm2] at hj
    rw [hcell _ _ hm1 hm2]
    exact hj
set_option maxRecDepth 100000 in
theorem ow_trod {fuel : Nat} {cs : List Value} {y : DataW H × List MemPlace} (h : DataW.trod enc Try.prog W 0 (fun _ => true) true fuel 62 cs = some y) : ∃ x : Od, cs = odC x ∧ True := by
  obtain ⟨xs, n, _, _, hl, hlen, hf⟩ := DataW.trod_struct Try.underlying62 h
  rw [kit_cellsow] at hl
  obtain ⟨c0, c1, c2, c3, rfl⟩ := ilist4 hl
  obtain ⟨x0, x1, rfl⟩ := ilist2 hlen
  have h0 : DataW.trod enc Try.prog W 0 (fun _ => true) true n 3 [c0] = some x0 := by simpa [Value.cells, kit_cellsInt] using hf 0 _ rfl
  have h1 : DataW.trod enc Try.prog W 0 (fun _ => true) true n 60 [c1, c2, c3] = some x1 := by simpa [Value.cells, kit_cellsInt, kit_cellscl] using hf 1 _ rfl
  obtain ⟨m0, e0, _, w0⟩ := DataW.trod_int Try.underlying3 h0
  obtain rfl : c0 = .int .i64 m0 := by simpa using e0
  obtain ⟨ys, k, _, _, hl2, hlen2, hg⟩ := DataW.trod_struct Try.underlying60 h1
  obtain ⟨y0, y1, y2, rfl⟩ := ilist3 hlen2
  have g0 : DataW.trod enc Try.prog W 0 (fun _ => true) true k 3 [c1] = some y0 := by simpa [Value.cells, kit_cellsInt] using hg 0 _ rfl
  have g1 : DataW.trod enc Try.prog W 0 (fun _ => true) true k 3 [c2] = some y1 := by simpa [Value.cells, kit_cellsInt] using hg 1 _ rfl
  have g2 : DataW.trod enc Try.prog W 0 (fun _ => true) true k 3 [c3] = some y2 := by simpa [Value.cells, kit_cellsInt] using hg 2 _ rfl
  obtain ⟨m1, e1, _, w1⟩ := DataW.trod_int Try.underlying3 g0
  obtain rfl : c1 = .int .i64 m1 := by simpa using e1
  obtain ⟨m2, e2, _, w2⟩ := DataW.trod_int Try.underlying3 g1
  obtain rfl : c2 = .int .i64 m2 := by simpa using e2
  obtain ⟨m3, e3, _, w3⟩ := DataW.trod_int Try.underlying3 g2
  obtain rfl : c3 = .int .i64 m3 := by simpa using e3
  exact ⟨⟨m0, m1, m2, m3⟩, rfl, trivial⟩
set_option maxRecDepth 100000 in
theorem opn_owneds (hval : Value.okWide Try.prog W .any base 23 v) (h : DataW.Trod enc Try.prog W 0 (fun _ => true) true 23 v d ps) :
    ∃ (l : List Od) (p : Option Addr) (c : Nat), v = .slice p l.length c ∧ RdF W (· < W.heap.size) (.slice p l.length c) l.length (l.flatMap odC) ∧ (p = none → c = 0) ∧ l.length ≤ c ∧ c ≤ 9223372036854775807 := by
  obtain ⟨p0, n0, c0, rfl⟩ := okWide_slice Try.underlying23 hval
  obtain ⟨fuel, hf⟩ := h
  obtain ⟨l, p, c, e, h1, h2, h3, h4, -⟩ := rowsI_trod odC (fun _ => True) 4 (by decide) (fun _ => rfl) ⟨0, 0, 0, 0⟩ Try.underlying23 kit_cellsow ow_trod (by simpa [Value.cells] using hf)
  injection e with e1 e2 e3
  subst e1
  subst e2
  subst e3
  exact ⟨l, p0, c0, rfl, h1, h4, h2, h3⟩
end
end Go.Proofs.Ytndfhgklhjfhkaa

/- Parts of the proof, packed: StEncFR, StSame, PkAwake, StAwake, StFramesLaw. -/
import Derived.Test.YtpombmpkccnefaaDoorFrames12
import Derived.Test.YtpombmpkccnefaaDoorFrames13
import Derived.Test.YtpombmpkccnefaaDoorFrames14
import Derived.Test.YtpombmpkccnefaaDoorFrames11
import Derived.Lib.SmallJoins
import Derived.Test.YtpombmpkccnefaaDoorFrames6
import Derived.Test.YtpombmpkccnefaaDoorFrames9
import Derived.Test.YtpombmpkccnefaaDoorFrames7
import Derived.Test.YtpombmpkccnefaaDoorFrames8
import Derived.Test.YtpombmpkccnefaaDoorFrames10
/- The reference's EncodeFrame. -/
namespace Go.Proofs.YtpombmpkccnefaaDoor
open Go.RowKit Bs
set_option maxRecDepth 100000 in
theorem own_lit1 (w : World) (x : Nat) : (w.alloc (.cells #[.int .u8 (x : Int)] 5)).ownsRow w.heap.size 5 1 (.slice (some ⟨w.heap.size, 0, none⟩) 1 1) 1 ([x].map nv) :=
  World.ownsRow_lit w #[.int .u8 (x : Int)] 1 (Nat.le_refl _) (by decide) rfl
set_option maxRecDepth 100000 in
theorem own_src {w : World} {base c : Nat} {p : Option Addr} {l : List Nat} (h : Own w base p c l) (hl : 0 < l.length) : ∃ g, p = some ⟨g, 0, none⟩ ∧ base ≤ g ∧ l.length ≤ c ∧ ∀ j u, (l.map nv)[j]? = some u → w.cell? ((⟨g, 0, none⟩ : Addr).add j) = some u := by
  obtain ⟨g, cap, e⟩ := Joins.ownsRow_form h.own hl
  injection e with e1 e2 e3
  subst e1
  exact ⟨g, rfl, (h.own.lt g rfl).1, (own_cap h.own).1, fun j u hj => h.own.cells (g := g) rfl j u hj⟩
set_option maxRecDepth 100000 in
theorem own_mk {w : World} {base n m : Nat} {v : Value} {A B : List Nat} (h : w.ownsRow base 5 1 v (n + m) (A.map nv ++ B.map nv)) (hn : A.length = n) (hm : B.length = m) (hA : By A) (hB : By B) (hp : 0 < n + m) :
    ∃ g c, v = .slice (some ⟨g, 0, none⟩) (A ++ B).length c ∧ base ≤ g ∧ Own w base (some ⟨g, 0, none⟩) c (A ++ B) := by
  obtain ⟨g, cap, rfl⟩ := Joins.ownsRow_form h hp
  have hl : (A ++ B).length = n + m := by rw [List.length_append]; omega
  refine ⟨g, cap, by rw [hl], (h.lt g rfl).1, ⟨by rw [hl, List.map_append]; exact h, (by intro e; cases e), ?_⟩⟩
  intro x hx
  rcases List.mem_append.1 hx with h1 | h1
  · exact hA x h1
  · exact hB x h1
set_option maxRecDepth 100000 in
theorem own_at {w : World} {base g c : Nat} {l : List Nat} (h : Own w base (some ⟨g, 0, none⟩) c l) : ∀ j u, (l.map nv)[j]? = some u → w.cell? ((⟨g, 0, none⟩ : Addr).add j) = some u := fun j u hj => h.own.cells (g := g) rfl j u hj
set_option maxRecDepth 100000 in
theorem own_alloc {w : World} {base c : Nat} {p : Option Addr} {l : List Nat} (h : Own w base p c l) (o : Obj) : Own (w.alloc o) base p c l := ⟨h.own.alloc o, h.pc, h.by_⟩
set_option maxRecDepth 100000 in
theorem own_keep {w w' : World} {base c : Nat} {p : Option Addr} {l : List Nat} (h : Own w base p c l) (g : w.grownBy w' none) : Own w' base p c l := ⟨h.own.kept g (by cases hv : (Value.slice p l.length c).ownBlock <;> simp), h.pc, h.by_⟩
set_option maxRecDepth 100000 in
set_option maxHeartbeats 6400000 in
theorem rencf_any (r : List Int) (P : Pk) (hP : P.Wf) (p : Option Addr) (c : Nat) (hc : r.length ≤ c ∧ c ≤ 9223372036854775807) (q : Nat → Prop) (w : World) (hR : Rd w q (.slice p r.length c) (r.map iv)) :
    Calls Tryd.prog 33 #[fval (.slice p r.length c) P] w fun e w' => EFPost r P w e w' := by
  have hfv : fval (.slice p r.length c) P = .agg #[.slice p r.length c, .int .i64 P.mode, .int .i64 P.sub, .int .i64 P.set, .int .i64 P.len, .int .i64 P.ttl, .int .i64 P.ent, .int .i64 P.ing, .int .i64 P.pro, .int .u64 (P.bits : Int), .string P.pay] := rfl
  rw [hfv]
  obtain ⟨j0, hj0, hy0, hy1, hy2⟩ := info_parts info_u8
  obtain ⟨i0, hi0, hz0, hz1, hz2⟩ := info_parts info_lab
  obtain ⟨k1, k2⟩ := sone_box w (frcells (.slice p r.length c) P) 43
  have HB := Lib.hid (And.intro k1 k2)
  obtain ⟨c0, c1, c2, c3, c4, c5, c6, c7, c8, c9, c10⟩ := fr_facts k1
  have HR := Lib.hid (hR.keep k2)
  have HFV := Lib.hid hfv
  have hval : P.val = .agg #[.int .i64 P.mode, .int .i64 P.sub, .int .i64 P.set, .int .i64 P.len, .int .i64 P.ttl, .int .i64 P.ent, .int .i64 P.ing, .int .i64 P.pro, .int .u64 (P.bits : Int), .string P.pay] := rfl
  have HV := Lib.hid hval
  have HC := Lib.hid hc
  clear hR hfv hval hc k1 k2
  go_enter Tryd.func33, Tryd.ntmps33
  go_upto_region 1 with fail
  have HB2 : Hid ((w.alloc (.cells #[.slice p r.length c, .int .i64 P.mode, .int .i64 P.sub, .int .i64 P.set, .int .i64 P.len, .int .i64 P.ttl, .int .i64 P.ent, .int .i64 P.ing, .int .i64 P.pro, .int .u64 (P.bits : Int), .string P.pay] 43)).heap[w.heap.size]? = some (.cells (frcells (.slice p r.length c) P) 43 (0, 0)) ∧ w.grownBy (w.alloc (.cells #[.slice p r.length c, .int .i64 P.mode, .int .i64 P.sub, .int .i64 P.set, .int .i64 P.len, .int .i64 P.ttl, .int .i64 P.ent, .int .i64 P.ing, .int .i64 P.pro, .int .u64 (P.bits : Int), .string P.pay] 43)) none) := HB
  clear HB
  unfold frcells at HR c0 c1 c2 c3 c4 c5 c6 c7 c8 c9 c10
  generalize w.alloc _ = wa at *
  go_wp2_with fail
  rw [← HFV.out]
  refine (rvfr_any r P hP p c (Nat.le_trans HC.out.1 HC.out.2) q wa HR.out).mono ?_
  rintro e w1 ⟨rfl, hg⟩
  have HB1 := Lib.hid (And.intro (kept_row HB2.out.1 hg (by simp)) (grown_trans HB2.out.2 hg))
  have HR1 := Lib.hid (HR.out.keep hg)
  clear hg HB2 HR c0 c1 c2 c3 c4 c5 c6 c7 c8 c9 c10
  cases hv : vfr r P
  · go_wp2_with fail
    go_ret2
    exact Or.inr ⟨hv, rfl, HB1.out.2⟩
  · obtain ⟨hr24, hra, hrr, hvp⟩ := vfr_parts hv
    obtain ⟨c0, c1, c2, c3, c4, c5, c6, c7, c8, c9, c10⟩ := fr_facts HB1.out.1
    have HVF := Lib.hid (And.intro hv (And.intro hra (And.intro hvp (enc_small hvp))))
    clear hv hra hrr hvp
    go_wp2_with fail
    rw [← HV.out]
    refine (rencodeo_any P hP HVF.out.2.2.1 w1).mono ?_
    rintro e w2 ⟨pE, cE, rfl, hO, hg⟩
    have hpos : 0 < (enc P).length := by rw [enc_len]; omega
    obtain ⟨gE, rfl, hgE, hcE, -⟩ := own_src hO hpos
    have HE := Lib.hid hO
    have HB3 := Lib.hid (And.intro (kept_row HB1.out.1 hg (by simp)) (grown_trans HB1.out.2 hg))
    have HR3 := Lib.hid (HR1.out.keep hg)
    obtain ⟨D, hD⟩ : ∃ D, enc P = D := ⟨_, rfl⟩
    have HEP := Lib.hid hD
    have h100 := HVF.out.2.2.2
    rw [hD] at HE hpos hcE h100 ⊢
    clear hg HB1 HR1 hO c0 c1 c2 c3 c4 c5 c6 c7 c8 c9 c10 hD
    obtain ⟨c0, c1, c2, c3, c4, c5, c6, c7, c8, c9, c10⟩ := fr_facts HB3.out.1
    clear c1 c2 c3 c4 c5 c6 c7 c8 c9 c10
    by_cases hr0 : r.length = 0
    · go_wp2_with (at_builtin; refine wpList_append_own _ rfl _ _ 23 rfl w2.heap.size 5 j0 (.int .u8 0) 1 1 Tryd.underlying23 hj0 hy0 hy1 hy2 rfl (by decide) _ 1 ([0].map nv) rfl (own_lit1 w2 0) ⟨gE, 0, none⟩ D.length cE (D.map nv) rfl (by simp) ?c1 ?c2 ?c3 ?c4 ?c5 ?_)
      case c1 => exact own_at (own_alloc HE.out _)
      case c2 => exact nv_one
      case c3 => unfold maxLen; omega
      case c4 => omega
      case c5 => simp
      intro v' w3 hown hgrow _
      obtain ⟨g3, c3, rfl, hg3, hO3⟩ := own_mk (A := [0]) (B := D) hown rfl rfl (by intro x hx; have := List.mem_singleton.1 hx; omega) HE.out.by_ (by omega)
      have HF := Lib.hid (And.intro hO3 (grown_new (World.grownBy_alloc w2 _ none) hgrow (Nat.le_refl _)))
      clear hown hgrow hO3
      go_wp2_with fail
      go_ret2
      have e0 : encF r P = [0] ++ D := by rw [← HEP.out]; have := encF_nil (P := P) hr0; rw [← this]; simp
      refine Or.inl ⟨HVF.out.1, some ⟨g3, 0, none⟩, c3, by rw [e0]; rfl, ?_, grown_trans HB3.out.2 HF.out.2⟩
      rw [e0]
      exact HF.out.1.mono HB3.out.2.size
    · obtain ⟨b, off, rfl, hq, hcc⟩ := rdi_cells HR3.out (by omega)
      have HCC := Lib.hid hcc
      have c0' := c0
      have HAL := Lib.hid (And.intro hr24 HVF.out.2.1)
      clear hcc hq c0
      have hr24' := hr24
      have hl0 : ((r.length : Int) == 0) = false := beq_eq_false_iff_ne.2 (by omega)
      clear hr24
      go_wp2_with fail
      go_loopw [6, 7] (fun v i wr => ∃ p6 c6 M, (M : List Lab).length ≤ r.length ∧ i = .int .i64 (M.length : Int) ∧ v = .slice p6 M.length c6 ∧ Hid ((r.take M.length).map lbR = M) ∧ Hid (OwnL wr w2.heap.size (.slice p6 M.length c6) M) ∧ Hid (w2.grownBy wr none)) (fun _ i _ => r.length - (intOf i).toNat)
      case atStart => exact ⟨none, 0, [], Nat.zero_le _, rfl, rfl, Lib.hid rfl, Lib.hid (World.ownsRow_nil _ _ _ _), Lib.hid (grown_refl _ _)⟩
      case round =>
        obtain ⟨p6, c6, M, hk, rfl, rfl, HM, HO6, HG6⟩ := hrel
        by_cases hlt : M.length < r.length
        · have d0 := HG6.out.cell c0' (by simp)
          have d1 := HG6.out.cell (HCC.out M.length hlt) (by simp)
          obtain ⟨z, hz⟩ : ∃ z, r.getD M.length 0 = z := ⟨_, rfl⟩
          rw [hz] at d1
          have hk2 : r[M.length]? = some z := by rw [← hz, List.getD_eq_getElem?_getD, List.getElem?_eq_getElem hlt]; rfl
          have hz9 : 1 ≤ z ∧ z ≤ 99 := by
            have := List.all_eq_true.1 HAL.out.2 z (List.mem_of_getElem? hk2)
            simpa [okR] using this
          have HK := Lib.hid hk2
          obtain ⟨hz9a, hz9b⟩ := hz9
          have hwz : IntKind.i64.wrap (16 + z) = 16 + z := by rw [IntKind.wrap_i64]; omega
          have hsz := HG6.out.size
          have k0 : (0 : Int) ≤ (M.length : Int) := by omega
          have k1 : (M.length : Int) < (r.length : Int) := by omega
          have hown := HO6.out
          clear hz hk2
          go_wp2_with (at_builtin; refine wpList_append_own _ rfl _ _ 49 rfl w2.heap.size 41 i0 (.agg #[.int .i64 0, .int .i64 0, .int .i64 0]) 3 24 Tryd.underlying49 hi0 hz0 hz1 hz2 rfl (by decide) _ M.length (labsC M) rfl (hown.alloc _) ⟨wr.heap.size, 0, none⟩ 1 1 [.int .i64 (16 + z), .int .i64 0, .int .i64 255] rfl rfl ?c1 ?c2 ?c3 ?c4 ?c5 ?_)
          case c1 => exact cells3 _ _ _ _ _
          case c2 => intro u hu; simp at hu; rcases hu with rfl | rfl | rfl <;> rfl
          case c3 => unfold maxLen; omega
          case c4 => omega
          case c5 => first | omega | (simp; omega)
          intro v' w6 hown' hg _
          obtain ⟨g6, cap6, rfl⟩ := Joins.ownsRow_form hown' (by omega)
          have hM2 : (r.take (M.length + 1)).map lbR = M ++ [lbR z] := by
            rw [List.take_add_one, HK.out, List.map_append, HM.out]; rfl
          have HO7 : Hid (OwnL w6 w2.heap.size (.slice (some ⟨g6, 0, none⟩) (M ++ [lbR z]).length cap6) (M ++ [lbR z])) := Lib.hid (by
            show w6.ownsRow _ _ 3 _ (M ++ [lbR z]).length (labsC (M ++ [lbR z]))
            rw [List.length_append, labsC_snoc]
            exact hown')
          have HG7 : Hid (w2.grownBy w6 none) := Lib.hid (by
            have h1 := grown_trans HG6.out (World.grownBy_alloc wr (.cells #[.int .i64 (16 + z), .int .i64 0, .int .i64 255] 41) none)
            cases hb : (Value.slice p6 M.length c6).ownBlock with
            | none => rw [hb] at hg; exact grown_trans h1 hg
            | some g => rw [hb] at hg; exact grown_new h1 hg (hown.lt g hb).1)
          have HM7 : Hid ((r.take (M ++ [lbR z]).length).map lbR = M ++ [lbR z]) := Lib.hid (by rw [List.length_append]; exact hM2)
          clear hown' hg hown hM2 HO6 HG6 d0 d1
          go_wp2_with fail
          go_roundw
          case rel => exact ⟨some ⟨g6, 0, none⟩, cap6, M ++ [lbR z], by rw [List.length_append]; simp; omega, by simp, by simp, HM7, HO7, HG7⟩
          case measure => simp [intOf]; omega
        · have hke : M.length = r.length := by omega
          have hMr : M = r.map lbR := by rw [← HM.out, hke, List.take_length]
          have d0 := HG6.out.cell c0' (by simp)
          obtain ⟨q1, q2⟩ := encL_route HAL.out.2 (by omega) HAL.out.1
          have C := rencl_any M p6 c6 (by omega) _ wr (rdk_of_own HO6.out)
          rw [hMr] at C
          have HQ := Lib.hid (And.intro q1 q2)
          have HMR := Lib.hid hMr
          have hlM : (r.map lbR).length = M.length := by rw [hMr]
          rw [hlM] at C
          clear q1 q2 hMr hke hlM
          go_wp2_with fail
          refine C.mono ?_
          clear C
          rintro e w4 ⟨p4, c4, rfl, hO4, hg4⟩
          rw [HQ.out.1, HQ.out.2]
          rw [HQ.out.2] at hO4
          obtain ⟨E, hE⟩ : ∃ E, encL (r.map lbR) = E := ⟨_, rfl⟩
          rw [hE] at hO4 ⊢
          have hEl : E.length = 4 * r.length := by rw [← hE, encL_len, List.length_map]
          obtain ⟨g4, rfl, hg4b, hc4, -⟩ := own_src hO4 (by omega)
          have HO4 := Lib.hid hO4
          have HGE := Lib.hid (own_keep HE.out (grown_trans HG6.out hg4))
          have HG4 := Lib.hid (grown_trans HB3.out.2 (grown_trans HG6.out hg4))
          have HEE := Lib.hid hE
          have hE96 : 0 < E.length ∧ E.length ≤ 96 := by omega
          clear hO4 hg4 hE hEl HO6 HG6 HQ HMR HM d0 HCC
          go_wp2_with (at_builtin; refine wpList_append_own _ rfl _ _ 23 rfl w4.heap.size 5 j0 (.int .u8 0) 1 1 Tryd.underlying23 hj0 hy0 hy1 hy2 rfl (by decide) _ 1 ([1].map nv) rfl (own_lit1 w4 1) ⟨g4, 0, none⟩ E.length c4 (E.map nv) rfl (by simp) ?c1 ?c2 ?c3 ?c4 ?c5 ?_)
          case c1 => exact own_at (own_alloc HO4.out _)
          case c2 => exact nv_one
          case c3 => unfold maxLen; omega
          case c4 => omega
          case c5 => simp
          intro v5 w5 hown hgrow _
          obtain ⟨g5, c5, rfl, hg5, hO5⟩ := own_mk (A := [1]) (B := E) hown rfl rfl (by intro x hx; have := List.mem_singleton.1 hx; omega) HO4.out.by_ (by omega)
          have HG5 := Lib.hid (grown_new (World.grownBy_alloc w4 _ none) hgrow (Nat.le_refl _))
          have HGE5 := Lib.hid (own_keep HGE.out HG5.out)
          obtain ⟨F, hF⟩ : ∃ F, [1] ++ E = F := ⟨_, rfl⟩
          have hFl : F.length = 1 + E.length := by rw [← hF]; simp; omega
          rw [hF] at hO5 ⊢
          have HF := Lib.hid hF
          have HO5 := Lib.hid hO5
          have hown5 := hO5.own
          have hs5 := HG5.out.size
          clear hown hgrow hO5 hF HO4 HGE
          go_wp2_with (at_builtin; refine wpList_append_own _ rfl _ _ 23 rfl w4.heap.size 5 j0 (.int .u8 0) 1 1 Tryd.underlying23 hj0 hy0 hy1 hy2 rfl (by decide) _ F.length (F.map nv) rfl hown5 ⟨gE, 0, none⟩ D.length cE (D.map nv) rfl (by simp) ?c1 ?c2 ?c3 ?c4 ?c5 ?_)
          case c1 => exact own_at HGE5.out
          case c2 => exact nv_one
          case c3 => unfold maxLen; omega
          case c4 => omega
          case c5 => exact hs5
          intro v7 w7 hown hgrow _
          obtain ⟨g7, c7, rfl, hg7, hO7⟩ := own_mk (A := F) (B := D) hown (by first | rfl | exact hFl) rfl HO5.out.by_ HGE5.out.by_ (by omega)
          have HX7 := Lib.hid (And.intro hO7 (grown_new (grown_trans HG4.out HG5.out) hgrow (Nat.le_trans HG4.out.size hg5)))
          clear hown hgrow hO7 hown5
          go_wp2_with fail
          go_ret2
          have e0 : encF r P = F ++ D := by
            rw [← HEP.out, ← HF.out, ← HEE.out, ← encF_some (P := P) hr0]; simp
          refine Or.inl ⟨HVF.out.1, some ⟨g7, 0, none⟩, c7, by rw [e0]; rfl, ?_, HX7.out.2⟩
          rw [e0]
          exact HX7.out.1.mono HG4.out.size
end Go.Proofs.YtpombmpkccnefaaDoor

/- The reference's Ints and Same, and the statements' sameLabels, at equal lists. -/
namespace Go.Proofs.YtpombmpkccnefaaDoor
open Go.RowKit Bs
set_option maxRecDepth 100000 in
set_option maxHeartbeats 3200000 in
theorem rints_any (r : List Int) (p1 p2 : Option Addr) (c1 c2 : Nat) (q1 q2 : Nat → Prop) (w : World) (h1 : Rd w q1 (.slice p1 r.length c1) (r.map iv)) (h2 : Rd w q2 (.slice p2 r.length c2) (r.map iv)) (hm : r.length ≤ 9223372036854775807) :
    Calls Tryd.prog 82 #[.slice p1 r.length c1, .slice p2 r.length c2] w fun e w' => e = .returned (.bool true) ∧ w.grownBy w' none := by
  have H := Lib.hid (And.intro h1 h2)
  clear h1 h2
  go_enter Tryd.func82, Tryd.ntmps82
  go_wp2_with fail
  go_loopw [5] (fun a wr => ∃ k : Nat, k ≤ r.length ∧ a = .int .i64 (k : Int) ∧ w.grownBy wr none) (fun a _ => r.length - (intOf a).toNat)
  case atStart => exact ⟨0, Nat.zero_le _, rfl, grown_refl _ _⟩
  case round =>
    obtain ⟨k, hk, rfl, hG⟩ := hrel
    by_cases hlt : k < r.length
    · obtain ⟨b1, o1, rfl, _, hc1⟩ := rdi_cells (H.out.1.keep hG) (by omega)
      obtain ⟨b2, o2, rfl, _, hc2⟩ := rdi_cells (H.out.2.keep hG) (by omega)
      have e1 := hc1 k hlt
      have e2 := hc2 k hlt
      have HG := Lib.hid hG
      clear hc1 hc2 hG
      generalize r.getD k 0 = y at *
      go_wp2_with fail
      go_region
      have HG2 := Lib.hid (grown_drew HG.out)
      clear HG e1 e2
      change Exit.then _ _ _ _ wr.drew
      generalize wr.drew = w2 at *
      go_wp2_with fail
      exact ⟨⟨k + 1, by omega, congrArg _ (by omega), HG2.out⟩, by simp only [intOf]; omega⟩
    · obtain rfl : k = r.length := by omega
      have HG := Lib.hid hG
      clear hG
      go_wp2_with fail
      go_ret
      exact ⟨rfl, HG.out⟩
set_option maxRecDepth 100000 in
set_option maxHeartbeats 3200000 in
theorem rsl_any (ls : List Lab) (p1 p2 : Option Addr) (c1 c2 : Nat) (q1 q2 : Nat → Prop) (w : World) (h1 : RdL w q1 (.slice p1 ls.length c1) ls) (h2 : RdL w q2 (.slice p2 ls.length c2) ls) (hm : ls.length ≤ 9223372036854775807) :
    Calls Tryd.prog 30 #[.slice p1 ls.length c1, .slice p2 ls.length c2] w fun e w' => e = .returned (.bool true) ∧ w.grownBy w' none := by
  have H := Lib.hid (And.intro h1 h2)
  clear h1 h2
  go_enter Tryd.func30, Tryd.ntmps30
  go_wp2_with fail
  go_loopw [5] (fun a wr => ∃ k : Nat, k ≤ ls.length ∧ a = .int .i64 (k : Int) ∧ w.grownBy wr none) (fun a _ => ls.length - (intOf a).toNat)
  case atStart => exact ⟨0, Nat.zero_le _, rfl, grown_refl _ _⟩
  case round =>
    obtain ⟨k, hk, rfl, hG⟩ := hrel
    by_cases hlt : k < ls.length
    · obtain ⟨-, b1, o1, rfl, _, hc1⟩ := (H.out.1.keep hG).cells (by omega)
      obtain ⟨-, b2, o2, rfl, _, hc2⟩ := (H.out.2.keep hG).cells (by omega)
      obtain ⟨e1, e2, e3⟩ := hc1 k hlt
      obtain ⟨e4, e5, e6⟩ := hc2 k hlt
      have HG := Lib.hid hG
      clear hc1 hc2 hG
      generalize ls[k] = l at *
      go_wp2_with fail
      go_region
      have HG2 := Lib.hid (grown_drew HG.out)
      clear HG e1 e2 e3 e4 e5 e6
      change Exit.then _ _ _ _ wr.drew
      generalize wr.drew = w2 at *
      go_wp2_with fail
      exact ⟨⟨k + 1, by omega, congrArg _ (by omega), HG2.out⟩, by simp only [intOf]; omega⟩
    · obtain rfl : k = ls.length := by omega
      have HG := Lib.hid hG
      clear hG
      go_wp2_with fail
      go_ret
      exact ⟨rfl, HG.out⟩
/-- The cells of a frame, each by its kind. -/
def gcells (v : Value) (n0 n1 n2 n3 n4 n5 n6 n7 n8 : Int) (s9 : ByteArray) : Array Value := #[v, .int .i64 n0, .int .i64 n1, .int .i64 n2, .int .i64 n3, .int .i64 n4, .int .i64 n5, .int .i64 n6, .int .i64 n7, .int .u64 n8, .string s9]
set_option maxRecDepth 100000 in
theorem g_facts {w : World} {b : Nat} {v : Value} {n0 n1 n2 n3 n4 n5 n6 n7 n8 : Int} {s9 : ByteArray} (h : w.heap[b]? = some (.cells (gcells v n0 n1 n2 n3 n4 n5 n6 n7 n8 s9) 43 (0, 0))) :
    w.cell? ⟨b, 0, none⟩ = some v ∧ w.cell? ⟨b, 1, none⟩ = some (.int .i64 n0) ∧ w.cell? ⟨b, 2, none⟩ = some (.int .i64 n1) ∧ w.cell? ⟨b, 3, none⟩ = some (.int .i64 n2) ∧ w.cell? ⟨b, 4, none⟩ = some (.int .i64 n3) ∧ w.cell? ⟨b, 5, none⟩ = some (.int .i64 n4) ∧ w.cell? ⟨b, 6, none⟩ = some (.int .i64 n5) ∧ w.cell? ⟨b, 7, none⟩ = some (.int .i64 n6) ∧ w.cell? ⟨b, 8, none⟩ = some (.int .i64 n7) ∧ w.cell? ⟨b, 9, none⟩ = some (.int .u64 n8) ∧ w.cell? ⟨b, 10, none⟩ = some (.string s9) :=
  ⟨cell_of_row _ _ _ _ _ _ h, cell_of_row _ _ _ _ _ _ h, cell_of_row _ _ _ _ _ _ h, cell_of_row _ _ _ _ _ _ h, cell_of_row _ _ _ _ _ _ h, cell_of_row _ _ _ _ _ _ h, cell_of_row _ _ _ _ _ _ h, cell_of_row _ _ _ _ _ _ h, cell_of_row _ _ _ _ _ _ h, cell_of_row _ _ _ _ _ _ h, cell_of_row _ _ _ _ _ _ h⟩
set_option maxRecDepth 100000 in
set_option maxHeartbeats 3200000 in
theorem rsame_any (r : List Int) (n0 n1 n2 n3 n4 n5 n6 n7 n8 : Int) (s9 : ByteArray) (p1 p2 : Option Addr) (c1 c2 : Nat) (q1 q2 : Nat → Prop) (w : World) (h1 : Rd w q1 (.slice p1 r.length c1) (r.map iv)) (h2 : Rd w q2 (.slice p2 r.length c2) (r.map iv)) (hm : r.length ≤ 9223372036854775807) :
    Calls Tryd.prog 35 #[.agg #[.slice p1 r.length c1, .int .i64 n0, .int .i64 n1, .int .i64 n2, .int .i64 n3, .int .i64 n4, .int .i64 n5, .int .i64 n6, .int .i64 n7, .int .u64 n8, .string s9], .agg #[.slice p2 r.length c2, .int .i64 n0, .int .i64 n1, .int .i64 n2, .int .i64 n3, .int .i64 n4, .int .i64 n5, .int .i64 n6, .int .i64 n7, .int .u64 n8, .string s9]] w fun e w' => e = .returned (.bool true) ∧ w.grownBy w' none := by
  obtain ⟨k1, k2, k3, k4⟩ := two_boxes w (gcells (.slice p1 r.length c1) n0 n1 n2 n3 n4 n5 n6 n7 n8 s9) (gcells (.slice p2 r.length c2) n0 n1 n2 n3 n4 n5 n6 n7 n8 s9) 43 43
  obtain ⟨a0, a1, a2, a3, a4, a5, a6, a7, a8, a9, a10⟩ := g_facts k1
  obtain ⟨b0, b1, b2, b3, b4, b5, b6, b7, b8, b9, b10⟩ := g_facts k2
  have H := Lib.hid (And.intro (h1.keep k3) (h2.keep k3))
  have K := Lib.hid k3
  clear k1 k2 k3 k4 h1 h2
  unfold gcells at *
  go_enter Tryd.func35, Tryd.ntmps35
  go_upto_region 1 with fail
  generalize (w.alloc _).alloc _ = wa at *
  go_wp2_with (go_at_call 82; refine (rints_any r p1 p2 c1 c2 _ _ wa H.out.1 H.out.2 hm).mono ?_; rintro e w' ⟨rfl, hg⟩; have G := Lib.hid hg; clear hg)
  go_ret
  exact ⟨rfl, grown_trans K.out G.out⟩
end Go.Proofs.YtpombmpkccnefaaDoor

/- packet: the chapter's example. -/
namespace Go.Proofs.YtpombmpkccnefaaDoor
open Go.RowKit Bs
/-- The example's packet. -/
def exP : Pk := ⟨1, 0, 0, 8, 0, 0, 0, 0, 0, ⟨#[]⟩⟩
set_option maxRecDepth 100000 in
theorem ex_valid : vpk exP = true := by decide +kernel
set_option maxRecDepth 100000 in
theorem ex_enc : enc exP = [144, 0, 0, 0, 0, 0, 0, 109, 76, 0] := by decide +kernel
set_option maxRecDepth 100000 in
theorem ex_size : sizeV exP = 10 := by decide +kernel
set_option maxRecDepth 100000 in
theorem ex_wf : exP.Wf := ⟨by unfold I64; decide, by unfold I64; decide, by unfold I64; decide, by unfold I64; decide, by unfold I64; decide, by unfold I64; decide, by unfold I64; decide, by unfold I64; decide, by unfold U64; decide, by decide⟩
set_option maxRecDepth 100000 in
theorem ex_dec : decV [144, 0, 0, 0, 0, 0, 0, 109, 76, 0] = (#[.int .i64 1, .int .i64 0, .int .i64 0, .int .i64 8, .int .i64 0, .int .i64 0, .int .i64 0, .int .i64 0, .int .u64 0, .string ⟨#[]⟩], 0) := by kernel_rfl
set_option maxRecDepth 100000 in
set_option maxHeartbeats 3200000 in
theorem awake_any (w : World) (hT : Tb w) :
    Calls Tryd.prog 17 #[] w fun e w' => e = .returned (.bool true) ∧ w.grownBy w' none := by
  go_enter Tryd.func17, Tryd.ntmps17
  go_wp2_with fail
  obtain ⟨k1, k2⟩ := one_box w #[.int .i64 1, .int .i64 0, .int .i64 0, .int .i64 8, .int .i64 0, .int .i64 0, .int .i64 0, .int .i64 0, .int .u64 0, .string ⟨#[]⟩] 31
  have HP := Lib.hid (And.intro k1 k2)
  have HT := Lib.hid (hT.keep k2)
  clear k1 k2
  generalize w.alloc _ = wa at *
  refine (pencode_any exP ex_wf wa HT.out).mono ?_
  rintro e w2 (⟨_, g, rfl, hB, hge, hg⟩ | ⟨h, _⟩)
  · rw [ex_enc] at hB ⊢
    have HQ := Lib.hid (And.intro (kept_row HP.out.1 hg (by simp)) (grown_trans HP.out.2 hg))
    have HB := Lib.hid hB
    clear hB hge hg HP
    go_wp2_with fail
    refine (pdecode_any [144, 0, 0, 0, 0, 0, 0, 109, 76, 0] (by intro x hx; simp at hx; omega) (some ⟨g, 0, none⟩) 10 (Nat.le_refl _) (fun _ => True) w2 (HB.out.rd _ trivial _)).mono ?_
    rintro e w3 ⟨rfl, hg⟩
    rw [ex_dec]
    have hgb := World.grownBy_alloc w3 (.cells #[.int .i64 1, .int .i64 0, .int .i64 0, .int .i64 8, .int .i64 0, .int .i64 0, .int .i64 0, .int .i64 0, .int .u64 0, .string ⟨#[]⟩] 31) none
    have HQ3 := Lib.hid (And.intro (kept_row HQ.out.1 (grown_trans hg hgb) (by simp)) (grown_trans HQ.out.2 (grown_trans hg hgb)))
    have hB3 := (HB.out.keep hg).keep hgb
    have b0 : (w3.alloc (.cells #[.int .i64 1, .int .i64 0, .int .i64 0, .int .i64 8, .int .i64 0, .int .i64 0, .int .i64 0, .int .i64 0, .int .u64 0, .string ⟨#[]⟩] 31)).cell? ⟨g, 0, none⟩ = some (.int .u8 144) := hB3.cell (j := 0) (by decide)
    have a0 : (w3.alloc (.cells #[.int .i64 1, .int .i64 0, .int .i64 0, .int .i64 8, .int .i64 0, .int .i64 0, .int .i64 0, .int .i64 0, .int .u64 0, .string ⟨#[]⟩] 31)).cell? ⟨w.heap.size, 0, none⟩ = some (.int .i64 1) := cell_of_row _ _ _ _ _ _ HQ3.out.1
    have a1 : (w3.alloc (.cells #[.int .i64 1, .int .i64 0, .int .i64 0, .int .i64 8, .int .i64 0, .int .i64 0, .int .i64 0, .int .i64 0, .int .u64 0, .string ⟨#[]⟩] 31)).cell? ⟨w.heap.size, 1, none⟩ = some (.int .i64 0) := cell_of_row _ _ _ _ _ _ HQ3.out.1
    have a2 : (w3.alloc (.cells #[.int .i64 1, .int .i64 0, .int .i64 0, .int .i64 8, .int .i64 0, .int .i64 0, .int .i64 0, .int .i64 0, .int .u64 0, .string ⟨#[]⟩] 31)).cell? ⟨w.heap.size, 2, none⟩ = some (.int .i64 0) := cell_of_row _ _ _ _ _ _ HQ3.out.1
    have a3 : (w3.alloc (.cells #[.int .i64 1, .int .i64 0, .int .i64 0, .int .i64 8, .int .i64 0, .int .i64 0, .int .i64 0, .int .i64 0, .int .u64 0, .string ⟨#[]⟩] 31)).cell? ⟨w.heap.size, 3, none⟩ = some (.int .i64 8) := cell_of_row _ _ _ _ _ _ HQ3.out.1
    have a4 : (w3.alloc (.cells #[.int .i64 1, .int .i64 0, .int .i64 0, .int .i64 8, .int .i64 0, .int .i64 0, .int .i64 0, .int .i64 0, .int .u64 0, .string ⟨#[]⟩] 31)).cell? ⟨w.heap.size, 4, none⟩ = some (.int .i64 0) := cell_of_row _ _ _ _ _ _ HQ3.out.1
    have a5 : (w3.alloc (.cells #[.int .i64 1, .int .i64 0, .int .i64 0, .int .i64 8, .int .i64 0, .int .i64 0, .int .i64 0, .int .i64 0, .int .u64 0, .string ⟨#[]⟩] 31)).cell? ⟨w.heap.size, 5, none⟩ = some (.int .i64 0) := cell_of_row _ _ _ _ _ _ HQ3.out.1
    have a6 : (w3.alloc (.cells #[.int .i64 1, .int .i64 0, .int .i64 0, .int .i64 8, .int .i64 0, .int .i64 0, .int .i64 0, .int .i64 0, .int .u64 0, .string ⟨#[]⟩] 31)).cell? ⟨w.heap.size, 6, none⟩ = some (.int .i64 0) := cell_of_row _ _ _ _ _ _ HQ3.out.1
    have a7 : (w3.alloc (.cells #[.int .i64 1, .int .i64 0, .int .i64 0, .int .i64 8, .int .i64 0, .int .i64 0, .int .i64 0, .int .i64 0, .int .u64 0, .string ⟨#[]⟩] 31)).cell? ⟨w.heap.size, 7, none⟩ = some (.int .i64 0) := cell_of_row _ _ _ _ _ _ HQ3.out.1
    have a8 : (w3.alloc (.cells #[.int .i64 1, .int .i64 0, .int .i64 0, .int .i64 8, .int .i64 0, .int .i64 0, .int .i64 0, .int .i64 0, .int .u64 0, .string ⟨#[]⟩] 31)).cell? ⟨w.heap.size, 8, none⟩ = some (.int .u64 0) := cell_of_row _ _ _ _ _ _ HQ3.out.1
    have a9 : (w3.alloc (.cells #[.int .i64 1, .int .i64 0, .int .i64 0, .int .i64 8, .int .i64 0, .int .i64 0, .int .i64 0, .int .i64 0, .int .u64 0, .string ⟨#[]⟩] 31)).cell? ⟨w.heap.size, 9, none⟩ = some (.string ⟨#[]⟩) := cell_of_row _ _ _ _ _ _ HQ3.out.1
    clear hg hgb hB3 HQ HB
    go_wp2_with fail
    refine (psize_any exP ex_wf _).mono ?_
    rintro e w5 ⟨rfl, hg⟩
    rw [ex_size]
    have GE := Lib.hid (grown_trans HQ3.out.2 hg)
    clear hg b0 a0 a1 a2 a3 a4 a5 a6 a7 a8 a9
    go_wp2_with fail
    go_ret
    exact ⟨rfl, GE.out⟩
  · rw [ex_valid] at h; cases h
end Go.Proofs.YtpombmpkccnefaaDoor

/- stack: the chapter's example. -/
namespace Go.Proofs.YtpombmpkccnefaaDoor
open Go.RowKit Bs
def exLs : List Lab := [⟨17, 0, 255⟩, ⟨20, 0, 255⟩]
set_option maxRecDepth 100000 in
theorem exE : encE exLs = 0 := by decide
set_option maxRecDepth 100000 in
theorem exB : encB exLs = [0, 1, 16, 255, 0, 1, 65, 255] := by decide
set_option maxRecDepth 100000 in
theorem exF : encF [1, 4] exP = [1, 0, 1, 16, 255, 0, 1, 65, 255, 144, 0, 0, 0, 0, 0, 0, 109, 76, 0] := by
  unfold encF
  rw [if_neg (by decide), ex_enc]
  decide
set_option maxRecDepth 100000 in
theorem exVF : vfr [1, 4] exP = true := by
  unfold vfr
  rw [ex_valid]
  decide
set_option maxRecDepth 100000 in
theorem exDF : decF [1, 0, 1, 16, 255, 0, 1, 65, 255, 144, 0, 0, 0, 0, 0, 0, 109, 76, 0] = ([1, 4], pcells exP, 0) := by
  rw [← exF]
  exact dec_encF ex_wf exVF
set_option maxRecDepth 100000 in
theorem own_room {w : World} {base c : Nat} {p : Option Addr} {l : List Nat} (h : Own w base p c l) : l.length ≤ c ∧ c ≤ 9223372036854775807 := by
  rcases Nat.eq_zero_or_pos l.length with h0 | h0
  · rcases Joins.ownsRow_forms h.own with ⟨e, _⟩ | ⟨g, cap, e⟩
    · injection e with _ _ e3
      subst e3
      omega
    · injection e with e1 e2 e3
      subst e1
      subst e3
      exact own_cap h.own
  · obtain ⟨g, cap, e⟩ := Joins.ownsRow_form h.own h0
    injection e with e1 e2 e3
    subst e1
    subst e3
    exact own_cap h.own
set_option maxRecDepth 100000 in
theorem exBS : bs [0, 1, 16, 255, 0, 1, 65, 255] = ⟨#[0, 1, 16, 255, 0, 1, 65, 255]⟩ := by rfl
set_option maxRecDepth 100000 in
set_option maxHeartbeats 3200000 in
theorem sawake_any (w : World) (hT : Tb w) :
    Calls Tryd.prog 24 #[] w fun e w' => e = .returned (.bool true) ∧ w.grownBy w' none := by
  have HT := Lib.hid hT
  clear hT
  go_enter Tryd.func24, Tryd.ntmps24
  go_wp2_with fail
  obtain ⟨k1, k2⟩ := sone_box w #[.int .i64 17, .int .i64 0, .int .i64 255, .int .i64 20, .int .i64 0, .int .i64 255] 41
  have hrow : Row (w.alloc (.cells #[.int .i64 17, .int .i64 0, .int .i64 255, .int .i64 20, .int .i64 0, .int .i64 255] 41)) w.heap.size 41 (labsC exLs) := k1
  have C : Calls Tryd.prog 27 #[.slice (some ⟨w.heap.size, 0, none⟩) 2 2] (w.alloc (.cells #[.int .i64 17, .int .i64 0, .int .i64 255, .int .i64 20, .int .i64 0, .int .i64 255] 41)) fun e w' => ELPost exLs _ e w' :=
    sencl_any exLs _ 2 _ _ (hrow.rd 2 2)
  refine C.mono ?_
  clear C hrow k1
  rintro e w1 ⟨p1, c1, rfl, hO, hg⟩
  rw [exB] at hO ⊢
  rw [exE]
  have H1 := Lib.hid (And.intro hO (grown_trans k2 hg))
  have HT1 := Lib.hid (HT.out.keep (grown_trans k2 hg))
  clear hO hg k2
  go_wp2_with fail
  obtain ⟨k1, k2, k3, k4⟩ := two_boxes w1 #[.int .i64 1, .int .i64 4] #[.slice (some ⟨w1.heap.size, 0, none⟩) 2 2, .int .i64 1, .int .i64 0, .int .i64 0, .int .i64 8, .int .i64 0, .int .i64 0, .int .i64 0, .int .i64 0, .int .u64 0, .string ⟨#[]⟩] 3 43
  have G2 : Hid (w.grownBy ((w1.alloc (.cells #[.int .i64 1, .int .i64 4] 3)).alloc (.cells #[.slice (some ⟨w1.heap.size, 0, none⟩) 2 2, .int .i64 1, .int .i64 0, .int .i64 0, .int .i64 8, .int .i64 0, .int .i64 0, .int .i64 0, .int .i64 0, .int .u64 0, .string ⟨#[]⟩] 43)) none) := Lib.hid (grown_trans H1.out.2 k3)
  have HK := Lib.hid (And.intro k1 k2)
  have HT2 := Lib.hid (HT1.out.keep k3)
  have HO2 := Lib.hid (H1.out.1.keep k3)
  clear k1 k2 k3 k4 HT1 H1
  generalize (w1.alloc _).alloc _ = w2 at *
  have hrt : Row w2 w1.heap.size 3 (([1, 4] : List Int).map iv) := HK.out.1
  have hRd : Rd w2 (fun _ => True) (.slice (some ⟨w1.heap.size, 0, none⟩) 2 2) (([1, 4] : List Int).map iv) := ⟨_, 2, rfl, fun _ => ⟨w1.heap.size, 0, rfl, trivial, fun i x hi => by rw [Nat.zero_add]; exact hrt.cell hi⟩⟩
  have HRd := Lib.hid hRd
  have C : Calls Tryd.prog 32 #[.agg #[.slice (some ⟨w1.heap.size, 0, none⟩) 2 2, .int .i64 1, .int .i64 0, .int .i64 0, .int .i64 8, .int .i64 0, .int .i64 0, .int .i64 0, .int .i64 0, .int .u64 0, .string ⟨#[]⟩]] w2 fun e w' => EFPost [1, 4] exP w2 e w' :=
    sencf_any [1, 4] exP ex_wf (some ⟨w1.heap.size, 0, none⟩) 2 (by decide) (by omega) _ w2 HT2.out hRd
  clear hrt hRd
  refine C.mono ?_
  clear C
  intro e w3 hE
  rcases hE with ⟨-, p3, c3, rfl, hO3, hg3⟩ | ⟨hbad, _⟩
  case inr => rw [exVF] at hbad; cases hbad
  rw [exF] at hO3 ⊢
  have G3 := Lib.hid (grown_trans G2.out hg3)
  have HB3 := Lib.hid (kept_row HK.out.2 hg3 (by simp))
  have HO4 := Lib.hid (HO2.out.keep hg3)
  have HRd3 := Lib.hid (HRd.out.keep hg3)
  have HO3 := Lib.hid hO3
  clear hO3 hg3 HO2 HRd HK HT2 G2
  go_wp2_with fail
  have D : Calls Tryd.prog 34 #[.slice p3 19 c3] w3 fun e w' => DFPost [1, 0, 1, 16, 255, 0, 1, 65, 255, 144, 0, 0, 0, 0, 0, 0, 109, 76, 0] w3 e w' :=
    sdecf_any _ HO3.out.by_ p3 c3 (own_room HO3.out).1 (own_room HO3.out).2 _ w3 HO3.out.rd
  refine D.mono ?_
  clear D
  rintro e w4 ⟨p4, c4, rfl, hR4, hl4, hm4, hp4, hg4⟩
  rw [exDF] at hR4 hl4 ⊢
  simp only at hR4 hl4 ⊢
  have hag : #[Value.slice p4 ([1, 4] : List Int).length c4] ++ pcells exP = #[.slice p4 2 c4, .int .i64 1, .int .i64 0, .int .i64 0, .int .i64 8, .int .i64 0, .int .i64 0, .int .i64 0, .int .i64 0, .int .u64 0, .string ⟨#[]⟩] := rfl
  rw [hag]
  have G4 := Lib.hid (grown_trans G3.out hg4)
  have HB4 := Lib.hid (kept_row HB3.out hg4 (by simp))
  have HO5 := Lib.hid (HO4.out.keep hg4)
  have HRd4 := Lib.hid (HRd3.out.keep hg4)
  have HR4 := Lib.hid hR4
  clear hR4 hg4 HO4 HRd3 HB3 G3 hag HO3 hl4 hm4 hp4
  go_upto_region 5 with fail
  obtain ⟨k1, k2⟩ := sone_box w4 #[.slice p4 2 c4, .int .i64 1, .int .i64 0, .int .i64 0, .int .i64 8, .int .i64 0, .int .i64 0, .int .i64 0, .int .i64 0, .int .u64 0, .string ⟨#[]⟩] 43
  obtain ⟨a0, a1, a2, a3, a4, a5, a6, a7, a8, a9, a10⟩ := g_facts (n0 := 1) (n1 := 0) (n2 := 0) (n3 := 8) (n4 := 0) (n5 := 0) (n6 := 0) (n7 := 0) (n8 := 0) (s9 := ⟨#[]⟩) (kept_row HB4.out k2 (by simp))
  obtain ⟨b0, b1, b2, b3, b4, b5, b6, b7, b8, b9, b10⟩ := g_facts (n0 := 1) (n1 := 0) (n2 := 0) (n3 := 8) (n4 := 0) (n5 := 0) (n6 := 0) (n7 := 0) (n8 := 0) (s9 := ⟨#[]⟩) k1
  have hO := HO5.out.keep k2
  have E := conv_nv hO.by_ rfl hO.rd hO.pc
  rw [exBS] at E
  have G5 := Lib.hid (grown_trans G4.out k2)
  have HA := Lib.hid (HRd4.out.keep k2)
  have HB := Lib.hid (HR4.out.keep k2)
  clear k1 k2 hO HO5 HB4 HRd4 HR4 G4
  generalize w4.alloc _ = w5 at *
  have E2 : (convert 23 9 (.slice p1 8 c1)).run Tryd.prog w5 = .ok (.string ⟨#[0, 1, 16, 255, 0, 1, 65, 255]⟩) w5 := E
  clear E
  go_wp2_with (go_at_call 35; refine (rsame_any [1, 4] _ _ _ _ _ _ _ _ _ _ _ _ _ _ _ _ w5 HA.out HB.out (by decide)).mono ?_; rintro e w' ⟨rfl, hg⟩; have G := Lib.hid hg; clear hg)
  go_ret
  exact ⟨rfl, grown_trans G5.out G.out⟩
end Go.Proofs.YtpombmpkccnefaaDoor

/- StackFrames: the walk. -/
namespace Go.Proofs.YtpombmpkccnefaaDoor
open Go.RowKit Bs
set_option maxRecDepth 100000 in
/-- What the tape's Frame returns, its cells written out. -/
theorem frame_agg (a : Nat) (n : Int) (hn : I64 n) (w : World) (hT : Tp w a) :
    Calls Tryd.prog 19 #[.pointer (some ⟨a, 0, none⟩), .int .i64 n] w fun e w' => ∃ F : Fr, e = .returned (.agg #[.slice F.p F.r.length F.c, .int .i64 F.P.mode, .int .i64 F.P.sub, .int .i64 F.P.set, .int .i64 F.P.len, .int .i64 F.P.ttl, .int .i64 F.P.ent, .int .i64 F.P.ing, .int .i64 F.P.pro, .int .u64 (F.P.bits : Int), .string F.P.pay]) ∧ FrOk w' F ∧ (∀ w2, w'.grownBy w2 (some a) → FrOk w2 F) ∧ St a w w' := by
  refine (frame_any a n hn w hT).mono ?_
  rintro e w' ⟨r, P, p, c, rfl, h1, _, h2, h3, h4, _, h5⟩
  have ha := hT.lt
  refine ⟨⟨r, P, p, c⟩, rfl, ⟨h1, h2, h3, h4.mono fun _ _ => trivial⟩, fun w2 g => ⟨h1, h2, h3, (h4.grown g (fun b hb e => by have := Option.some.inj e; omega)).mono fun _ _ => trivial⟩, h5⟩
set_option maxRecDepth 100000 in
theorem sencf_agg (F : Fr) (w : World) (hT : Tb w) (h : FrOk w F) :
    Calls Tryd.prog 32 #[.agg #[.slice F.p F.r.length F.c, .int .i64 F.P.mode, .int .i64 F.P.sub, .int .i64 F.P.set, .int .i64 F.P.len, .int .i64 F.P.ttl, .int .i64 F.P.ent, .int .i64 F.P.ing, .int .i64 F.P.pro, .int .u64 (F.P.bits : Int), .string F.P.pay]] w fun e w' => EFPost F.r F.P w e w' := sencf_any F.r F.P h.wf F.p F.c h.le h.max _ w hT h.rd
set_option maxRecDepth 100000 in
theorem rencf_agg (F : Fr) (w : World) (h : FrOk w F) :
    Calls Tryd.prog 33 #[.agg #[.slice F.p F.r.length F.c, .int .i64 F.P.mode, .int .i64 F.P.sub, .int .i64 F.P.set, .int .i64 F.P.len, .int .i64 F.P.ttl, .int .i64 F.P.ent, .int .i64 F.P.ing, .int .i64 F.P.pro, .int .u64 (F.P.bits : Int), .string F.P.pay]] w fun e w' => EFPost F.r F.P w e w' := rencf_any F.r F.P h.wf F.p F.c ⟨h.le, h.max⟩ _ w h.rd
set_option maxRecDepth 100000 in
theorem sdec_back (F : Fr) (hP : F.P.Wf) (hv : vfr F.r F.P = true) {base c : Nat} {p : Option Addr} (w : World) (h : Own w base p c (encF F.r F.P)) :
    Calls Tryd.prog 34 #[.slice p (encF F.r F.P).length c] w fun e w' => ∃ pd cd, e = .returned (.tuple #[.agg #[.slice pd F.r.length cd, .int .i64 F.P.mode, .int .i64 F.P.sub, .int .i64 F.P.set, .int .i64 F.P.len, .int .i64 F.P.ttl, .int .i64 F.P.ent, .int .i64 F.P.ing, .int .i64 F.P.pro, .int .u64 (F.P.bits : Int), .string F.P.pay], .int .i64 0]) ∧ Rd w' (fun _ => True) (.slice pd F.r.length cd) (F.r.map iv) ∧ w.grownBy w' none := by
  have RM := own_room h
  refine (sdecf_any (encF F.r F.P) h.by_ p c RM.1 RM.2 _ w h.rd).mono ?_
  rintro e w' ⟨pd, cd, rfl, h1, _, _, _, h2⟩
  have hDE := dec_encF hP hv
  rw [hDE] at h1
  refine ⟨pd, cd, ?_, h1.mono fun _ _ => trivial, h2⟩
  rw [hDE]
  rfl
set_option maxRecDepth 100000 in
theorem rdk2 {w w' : World} {q : Nat → Prop} {v : Value} {vs : List Value} (h : Rd w q v vs) (g : Hid (w.grownBy w' none)) : Rd w' q v vs := h.keep g.out
set_option maxRecDepth 100000 in
theorem hid_none5 (w : World) : Hid (w.grownBy w.drew none) := Lib.hid (grown_drew (grown_refl _ _))
set_option maxRecDepth 100000 in
theorem keep22 {w5 w' : World} {b g j : Nat} {v : Value} {F : Fr} (h : w5.heap[b]? = some (.cells (frcells v F.P) 43 (0, 0)) ∧ At11 w5 g j F) (hg : Hid (w5.grownBy w' none)) :
    w'.cell? ⟨b, 0, none⟩ = some v ∧ w'.cell? ⟨b, 1, none⟩ = some (.int .i64 F.P.mode) ∧ w'.cell? ⟨b, 2, none⟩ = some (.int .i64 F.P.sub) ∧ w'.cell? ⟨b, 3, none⟩ = some (.int .i64 F.P.set) ∧ w'.cell? ⟨b, 4, none⟩ = some (.int .i64 F.P.len) ∧ w'.cell? ⟨b, 5, none⟩ = some (.int .i64 F.P.ttl) ∧ w'.cell? ⟨b, 6, none⟩ = some (.int .i64 F.P.ent) ∧ w'.cell? ⟨b, 7, none⟩ = some (.int .i64 F.P.ing) ∧ w'.cell? ⟨b, 8, none⟩ = some (.int .i64 F.P.pro) ∧ w'.cell? ⟨b, 9, none⟩ = some (.int .u64 (F.P.bits : Int)) ∧ w'.cell? ⟨b, 10, none⟩ = some (.string F.P.pay) ∧ w'.cell? ⟨g, j * 11, none⟩ = some (.slice F.p F.r.length F.c) ∧ w'.cell? ⟨g, j * 11 + 1, none⟩ = some (.int .i64 F.P.mode) ∧ w'.cell? ⟨g, j * 11 + 2, none⟩ = some (.int .i64 F.P.sub) ∧ w'.cell? ⟨g, j * 11 + 3, none⟩ = some (.int .i64 F.P.set) ∧ w'.cell? ⟨g, j * 11 + 4, none⟩ = some (.int .i64 F.P.len) ∧ w'.cell? ⟨g, j * 11 + 5, none⟩ = some (.int .i64 F.P.ttl) ∧ w'.cell? ⟨g, j * 11 + 6, none⟩ = some (.int .i64 F.P.ent) ∧ w'.cell? ⟨g, j * 11 + 7, none⟩ = some (.int .i64 F.P.ing) ∧ w'.cell? ⟨g, j * 11 + 8, none⟩ = some (.int .i64 F.P.pro) ∧ w'.cell? ⟨g, j * 11 + 9, none⟩ = some (.int .u64 (F.P.bits : Int)) ∧ w'.cell? ⟨g, j * 11 + 10, none⟩ = some (.string F.P.pay) ∧ Hid (w5.grownBy w' none) := by
  obtain ⟨a0, a1, a2, a3, a4, a5, a6, a7, a8, a9, a10⟩ := fr_facts (kept_row h.1 hg.out (by simp))
  obtain ⟨b0, b1, b2, b3, b4, b5, b6, b7, b8, b9, b10⟩ := h.2.keep hg.out
  exact ⟨a0, a1, a2, a3, a4, a5, a6, a7, a8, a9, a10, b0, b1, b2, b3, b4, b5, b6, b7, b8, b9, b10, hg⟩
set_option maxRecDepth 100000 in
set_option maxHeartbeats 6400000 in
theorem frames_walk (v : Value) (R : List Int) (P : Pk) (hP : P.Wf) (p : Option Addr) (c : Nat) (hc : R.length ≤ c ∧ c ≤ 9223372036854775807) (w : World) (hv : IntsIn w v) (hR : Rd w (· < w.heap.size) (.slice p R.length c) (R.map iv)) (hT : Tb w) :
    Calls Tryd.prog 7 #[v, fval (.slice p R.length c) P] w fun e w' => e = .returned (.bool true) ∧ w.grownBy w' none := by
  unfold fval
  obtain ⟨k1, k2⟩ := sone_box w (frcells (.slice p R.length c) P) 43
  have HB := Lib.hid (And.intro k1 k2)
  have hv2 := ints_keep hv k2
  have HT0 := Lib.hid hT
  have HR := Lib.hid (hR.keep k2)
  have HC := Lib.hid (And.intro hP hc)
  clear k1 k2 hv hT hR hc hP
  unfold frcells at HR hv2
  go_enter Tryd.func7, Tryd.ntmps7
  go_upto_region 1 with fail
  change Hid ((w.alloc (.cells #[.slice p R.length c, .int .i64 P.mode, .int .i64 P.sub, .int .i64 P.set, .int .i64 P.len, .int .i64 P.ttl, .int .i64 P.ent, .int .i64 P.ing, .int .i64 P.pro, .int .u64 (P.bits : Int), .string P.pay] 43)).heap[w.heap.size]? = some (.cells (frcells (.slice p R.length c) P) 43 (0, 0)) ∧ w.grownBy (w.alloc (.cells #[.slice p R.length c, .int .i64 P.mode, .int .i64 P.sub, .int .i64 P.set, .int .i64 P.len, .int .i64 P.ttl, .int .i64 P.ent, .int .i64 P.ing, .int .i64 P.pro, .int .u64 (P.bits : Int), .string P.pay] 43)) none) at HB
  generalize w.alloc _ = wa at *
  go_wp2_with fail
  refine (new_any v wa hv2).mono ?_
  rintro e w2 ⟨rfl, hg1, hT1⟩
  have HP2 := Lib.hid (And.intro (kept_row HB.out.1 hg1 (by simp)) (grown_trans HB.out.2 hg1))
  have HAB : Hid (w.heap.size ≠ wa.heap.size) := Lib.hid (Nat.ne_of_lt (World.lt_of_row' HB.out.1))
  have GR : Hid (w2.grownBy w2 (some wa.heap.size)) := Lib.hid (grown_refl _ _)
  obtain ⟨a0, a1, a2, a3, a4, a5, a6, a7, a8, a9, a10⟩ := fr_facts HP2.out.1
  have HW := Lib.hid (World.lt_of_row' HB.out.1)
  have HX2 := Lib.hid (HR.out.keep hg1)
  clear HB hv2 HR
  go_upto_region 2 with fail
  go_cut [6] from 16 to 21 (fun ll wx => ∃ FA FB : Fr, ∃ wz, Hid (FrOk wz FA ∧ FrOk wz FB) ∧ ll = .slice (some ⟨wz.heap.size, 0, none⟩) 3 3 ∧ wx = wz.alloc (.cells (c33 FA FB ⟨R, P, p, c⟩) 43) ∧ Hid (w2.grownBy wz (some wa.heap.size)))
  case first =>
    go_region_held3 (fun w' => w'.cell? ⟨w.heap.size, 0, none⟩ = some (.slice p R.length c) ∧ w'.cell? ⟨w.heap.size, 1, none⟩ = some (.int .i64 P.mode) ∧ w'.cell? ⟨w.heap.size, 2, none⟩ = some (.int .i64 P.sub) ∧ w'.cell? ⟨w.heap.size, 3, none⟩ = some (.int .i64 P.set) ∧ w'.cell? ⟨w.heap.size, 4, none⟩ = some (.int .i64 P.len) ∧ w'.cell? ⟨w.heap.size, 5, none⟩ = some (.int .i64 P.ttl) ∧ w'.cell? ⟨w.heap.size, 6, none⟩ = some (.int .i64 P.ent) ∧ w'.cell? ⟨w.heap.size, 7, none⟩ = some (.int .i64 P.ing) ∧ w'.cell? ⟨w.heap.size, 8, none⟩ = some (.int .i64 P.pro) ∧ w'.cell? ⟨w.heap.size, 9, none⟩ = some (.int .u64 (P.bits : Int)) ∧ w'.cell? ⟨w.heap.size, 10, none⟩ = some (.string P.pay) ∧ Tp w' wa.heap.size ∧ Hid (w2.grownBy w' (some wa.heap.size)))
      (first | with_reducible exact keep13 HP2.out.1 HAB.out hT1.drew (hid_drew GR) | (go_split_ands; with_reducible refine keep13 HP2.out.1 HAB.out hsk.tp (hid_more ?_ hsk.gr); with_reducible assumption) | (go_split_ands; with_reducible refine keep13 HP2.out.1 HAB.out (Tp.alloc ?_ _) (hid_more ?_ (World.grownBy_alloc _ _ _)) <;> with_reducible assumption) | (go_split_ands; with_reducible refine keep13 HP2.out.1 HAB.out ?_ ?_ <;> with_reducible assumption))
      (first
        | ((fail_if_success (have := hs1)); go_at_call 19; refine (frame_agg _ _ (by unfold I64; omega) _ ?_).mono ?_; (go_split_ands; with_reducible assumption); rintro e w' ⟨FA, rfl, hA, hA2, hsk⟩; have hs1 := Lib.hid (And.intro hA2 hsk))
        | (go_at_call 19; refine (frame_agg _ _ (by unfold I64; omega) _ ?_).mono ?_; (go_split_ands; with_reducible assumption); rintro e w' ⟨FB, rfl, hB, hB2, hsk⟩; have hs2 := Lib.hid (And.intro hB hsk)))
    all_goals
      have GZ := Lib.hid (grown_trans (grown_undrew_some hs1.out.2.gr) hs2.out.2.gr)
      have GF := Lib.hid (And.intro (hs1.out.1 _ hs2.out.2.gr) hs2.out.1)
      go_wp2_with fail
      go_meet
      exact ⟨FA, FB, w', GF, rfl, rfl, GZ⟩
  case rest =>
    obtain ⟨FA, FB, wz, GF, rfl, rfl, hgz⟩ := hcut
    have hHL := heap_alloc_new wz (.cells (c33 FA FB ⟨R, P, p, c⟩) 43)
    have gal := World.grownBy_alloc wz (.cells (c33 FA FB ⟨R, P, p, c⟩) 43) none
    have hG5 := grown_trans (grown_new HP2.out.2 hgz.out (Nat.le_of_lt HW.out)) gal
    have hROW := kept_row (kept_row HP2.out.1 hgz.out (fun e => HAB.out (Option.some.inj e))) gal (by simp)
    have hFR : FrOk (wz.alloc (.cells (c33 FA FB ⟨R, P, p, c⟩) 43)) ⟨R, P, p, c⟩ := ⟨HC.out.1, HC.out.2.1, HC.out.2.2, (((HX2.out.grown hgz.out (fun b hb e => by have := Option.some.inj e; have := HW.out; omega)).mono (q' := fun _ => True) fun _ _ => trivial)).keep gal⟩
    have HOK := Lib.hid (And.intro (GF.out.1.keep gal) (And.intro (GF.out.2.keep gal) hFR))
    clear HP2 hgz hT1 GR HAB HW a0 a1 a2 a3 a4 a5 a6 a7 a8 a9 a10 hg1 gal hFR GF HX2 HC
    generalize wz.alloc (.cells (c33 FA FB ⟨R, P, p, c⟩) 43) = w5 at *
    have HL := Lib.hid hHL
    have G5 := Lib.hid hG5
    have HROW := Lib.hid hROW
    clear hHL hG5 hROW
    go_wp2_with fail
    go_loopw [7] (fun i wr => ∃ j : Nat, j ≤ 3 ∧ i = .int .i64 (j : Int) ∧ Hid (w5.grownBy wr none)) (fun i _ => (3 - (intOf i).toNat))
    case atStart => exact ⟨0, Nat.zero_le _, rfl, Lib.hid (grown_refl _ _)⟩
    case round =>
      obtain ⟨j, hj, rfl, hR⟩ := hrel
      have r0 := (fr_facts (kept_row HROW.out hR.out (by simp))).1
      have GR := Lib.hid (grown_trans G5.out hR.out)
      by_cases hj3 : j < 3
      · by_cases h100 : R.length ≤ 100
        · have h100i : (R.length : Int) ≤ 100 := by omega
          have hA := (c33_at HL.out j hj3).keep hR.out
          have hQ := (fsel_ok HOK.out.1 HOK.out.2.1 HOK.out.2.2 j).keep hR.out
          generalize fsel FA FB ⟨R, P, p, c⟩ j = F at *
          obtain ⟨a0, a1, a2, a3, a4, a5, a6, a7, a8, a9, a10⟩ := id hA
          have a0' : wr.cell? ⟨wz.heap.size, j * 11, none⟩ = some (.slice F.p F.r.length F.c) := a0
          have j0 : (0 : Int) ≤ (j : Int) := by omega
          have j3 : (j : Int) < 3 := by omega
          have HA := Lib.hid hA
          have HQ := Lib.hid hQ
          clear hA hQ a0
          go_wp2_with fail
          refine (sencf_agg F wr (HT0.out.keep GR.out) HQ.out).mono ?_
          intro e w6 hE
          rcases hE with ⟨hv, pa, ca, rfl, hOa, hg6⟩ | ⟨hv, rfl, hg6⟩
          · have HQ6 := Lib.hid (HQ.out.keep hg6)
            have HA6 := Lib.hid (HA.out.keep hg6)
            have HO6 := Lib.hid hOa
            have HR6 := Lib.hid (grown_trans hR.out hg6)
            obtain ⟨b0, b1, b2, b3, b4, b5, b6, b7, b8, b9, b10⟩ := HA6.out
            have b0' : w6.cell? ⟨wz.heap.size, j * 11, none⟩ = some (.slice F.p F.r.length F.c) := b0
            have HV := Lib.hid hv
            clear hg6 hOa hR a0' a1 a2 a3 a4 a5 a6 a7 a8 a9 a10 HA HQ b0 r0 GR hv
            go_wp2_with fail
            refine (rencf_agg F w6 HQ6.out).mono ?_
            intro e w7 hE
            rcases hE with ⟨-, pb, cb, rfl, hOb, hg7⟩ | ⟨hbad, -, -⟩
            · have HQ7 := Lib.hid (HQ6.out.keep hg7)
              have HA7 := Lib.hid (HA6.out.keep hg7)
              have HO7 := Lib.hid (And.intro (own_keep HO6.out hg7) hOb)
              have HR7 := Lib.hid (grown_trans HR6.out hg7)
              have E1 := conv_nv HO7.out.1.by_ rfl HO7.out.1.rd HO7.out.1.pc
              have E2 := conv_nv HO7.out.2.by_ rfl HO7.out.2.rd HO7.out.2.pc
              have C := sdec_back F HQ7.out.wf HV.out w7 HO7.out.1
              obtain ⟨L, hL⟩ : ∃ L, encF F.r F.P = L := ⟨_, rfl⟩
              rw [hL] at E1 E2 C ⊢
              clear hg7 hOb b0' b1 b2 b3 b4 b5 b6 b7 b8 b9 b10 HA6 HQ6 HO6 HR6 HO7 hL
              go_wp2_with fail
              refine C.mono ?_
              clear C
              rintro e w8 ⟨pd, cd, rfl, hRd, hg8⟩
              go_upto_region 12 with fail
              obtain ⟨k1, k2⟩ := sone_box w8 (frcells (.slice pd F.r.length cd) F.P) 43
              have hga := grown_trans hg8 k2
              have HRD := Lib.hid (And.intro (hRd.keep k2) (And.intro (HQ7.out.rd.keep hga) (Nat.le_trans HQ7.out.le HQ7.out.max)))
              have HAX := Lib.hid (And.intro k1 (HA7.out.keep hga))
              have HR9 := Lib.hid (grown_trans HR7.out hga)
              clear k1 k2 hga hRd hg8 HA7 HQ7 HR7 E1 E2
              unfold frcells at HRD HAX HR9
              generalize w8.alloc _ = w9 at *
              change Hid (w9.heap[w8.heap.size]? = some (.cells (frcells (.slice pd F.r.length cd) F.P) 43 (0, 0)) ∧ At11 w9 wz.heap.size j F) at HAX
              obtain ⟨d0, d1, d2, d3, d4, d5, d6, d7, d8, d9, d10⟩ := fr_facts HAX.out.1
              obtain ⟨b0, b1, b2, b3, b4, b5, b6, b7, b8, b9, b10⟩ := HAX.out.2
              go_region_held3 (fun w' => w'.cell? ⟨w8.heap.size, 0, none⟩ = some (.slice pd F.r.length cd) ∧ w'.cell? ⟨w8.heap.size, 1, none⟩ = some (.int .i64 F.P.mode) ∧ w'.cell? ⟨w8.heap.size, 2, none⟩ = some (.int .i64 F.P.sub) ∧ w'.cell? ⟨w8.heap.size, 3, none⟩ = some (.int .i64 F.P.set) ∧ w'.cell? ⟨w8.heap.size, 4, none⟩ = some (.int .i64 F.P.len) ∧ w'.cell? ⟨w8.heap.size, 5, none⟩ = some (.int .i64 F.P.ttl) ∧ w'.cell? ⟨w8.heap.size, 6, none⟩ = some (.int .i64 F.P.ent) ∧ w'.cell? ⟨w8.heap.size, 7, none⟩ = some (.int .i64 F.P.ing) ∧ w'.cell? ⟨w8.heap.size, 8, none⟩ = some (.int .i64 F.P.pro) ∧ w'.cell? ⟨w8.heap.size, 9, none⟩ = some (.int .u64 (F.P.bits : Int)) ∧ w'.cell? ⟨w8.heap.size, 10, none⟩ = some (.string F.P.pay) ∧ w'.cell? ⟨wz.heap.size, j * 11, none⟩ = some (.slice F.p F.r.length F.c) ∧ w'.cell? ⟨wz.heap.size, j * 11 + 1, none⟩ = some (.int .i64 F.P.mode) ∧ w'.cell? ⟨wz.heap.size, j * 11 + 2, none⟩ = some (.int .i64 F.P.sub) ∧ w'.cell? ⟨wz.heap.size, j * 11 + 3, none⟩ = some (.int .i64 F.P.set) ∧ w'.cell? ⟨wz.heap.size, j * 11 + 4, none⟩ = some (.int .i64 F.P.len) ∧ w'.cell? ⟨wz.heap.size, j * 11 + 5, none⟩ = some (.int .i64 F.P.ttl) ∧ w'.cell? ⟨wz.heap.size, j * 11 + 6, none⟩ = some (.int .i64 F.P.ent) ∧ w'.cell? ⟨wz.heap.size, j * 11 + 7, none⟩ = some (.int .i64 F.P.ing) ∧ w'.cell? ⟨wz.heap.size, j * 11 + 8, none⟩ = some (.int .i64 F.P.pro) ∧ w'.cell? ⟨wz.heap.size, j * 11 + 9, none⟩ = some (.int .u64 (F.P.bits : Int)) ∧ w'.cell? ⟨wz.heap.size, j * 11 + 10, none⟩ = some (.string F.P.pay) ∧ Hid (w9.grownBy w' none))
                (first | with_reducible exact keep22 HAX.out (hid_none5 _) | (go_split_ands; with_reducible refine keep22 HAX.out (hid_more ?_ hap); with_reducible assumption) | (go_split_ands; with_reducible refine keep22 HAX.out ?_; with_reducible assumption))
                (first
                  | (go_at_call 35; refine (rsame_any F.r _ _ _ _ _ _ _ _ _ _ pd F.p cd F.c _ _ _ (rdk2 HRD.out.1 ?_) (rdk2 HRD.out.2.1 ?_) HRD.out.2.2).mono ?_; (go_split_ands; with_reducible assumption); (go_split_ands; with_reducible assumption); rintro e w' ⟨rfl, hap⟩))
              all_goals
                go_split_ands
                have GW : Hid (w9.grownBy w' none) := by assumption
                have HRZ := Lib.hid (grown_trans HR9.out GW.out)
                clear GW
                go_wp2_with fail
                exact ⟨⟨j + 1, by omega, by congr 1, HRZ⟩, by simp [intOf]; omega⟩
            · rw [HV.out] at hbad; cases hbad
          · have HQ6 := Lib.hid (HQ.out.keep hg6)
            have HA6 := Lib.hid (HA.out.keep hg6)
            have HR6 := Lib.hid (grown_trans hR.out hg6)
            obtain ⟨b0, b1, b2, b3, b4, b5, b6, b7, b8, b9, b10⟩ := HA6.out
            have b0' : w6.cell? ⟨wz.heap.size, j * 11, none⟩ = some (.slice F.p F.r.length F.c) := b0
            have HV := Lib.hid hv
            clear hg6 hR a0' a1 a2 a3 a4 a5 a6 a7 a8 a9 a10 HA HQ b0 r0 GR hv
            go_wp2_with fail
            refine (rencf_agg F w6 HQ6.out).mono ?_
            intro e w7 hE
            rcases hE with ⟨hbad, -⟩ | ⟨-, rfl, hg7⟩
            · rw [HV.out] at hbad; cases hbad
            · have HR7 := Lib.hid (grown_trans HR6.out hg7)
              have E1 := conv_nv (w := w7) (q := fun _ => True) (p := none) (k := 0) (c := 0) (l := []) (fun x hx => by cases hx) rfl (Rd.nil_ _ _ _ _) (fun _ => rfl)
              clear hg7 HR6 b0' b1 b2 b3 b4 b5 b6 b7 b8 b9 b10 HA6 HQ6
              go_wp2_with fail
              exact ⟨⟨j + 1, by omega, by congr 1, HR7⟩, by simp [intOf]; omega⟩
        · have h100i : ¬ (R.length : Int) ≤ 100 := by omega
          go_wp2_with fail
          refine (sawake_any _ (HT0.out.keep GR.out)).mono ?_
          rintro e w8 ⟨rfl, hg⟩
          have G8 := Lib.hid (grown_trans GR.out hg)
          go_wp2_with fail
          exact bodyPost_ret (results_tmp rfl _ _ _) rfl ⟨rfl, G8.out⟩
      · obtain rfl : j = 3 := by omega
        go_wp2_with fail
        refine (sawake_any _ (HT0.out.keep GR.out)).mono ?_
        rintro e w8 ⟨rfl, hg⟩
        have G8 := Lib.hid (grown_trans GR.out hg)
        go_wp2_with fail
        exact bodyPost_ret (results_tmp rfl _ _ _) rfl ⟨rfl, G8.out⟩
end Go.Proofs.YtpombmpkccnefaaDoor

/- Parts of the proof, packed: IdRsW, IdRtw, IdPln, IdVpl, IdRck, IdRcn, IdPlc, IdAwk, IdInt. -/
import Derived.Test.YtlgmankojgjfjaaCk4
import Derived.Test.YtlgmankojgjfjaaCk3
import Derived.Deep.CutRange
import Derived.Test.YtlgmankojgjfjaaCk2
import Derived.Laws.StructEq
/- identify: Resolve, its walk. -/
namespace Go.Proofs.Ytlgmankojgjfjaa
open Go.RowKit Bs
set_option maxRecDepth 100000 in
theorem mid_at {l out : List Od} {k : Nat} {x : Od} (hl : out.length = k) (hx : l[k]? = some x) : (out ++ l.drop k)[k]? = some x := by
  rw [List.getElem?_append_right (by omega), List.getElem?_drop, hl]
  simpa using hx
set_option maxRecDepth 100000 in
theorem mid_keep {l out : List Od} {k : Nat} {x : Od} (hx : l[k]? = some x) : out ++ l.drop k = (out ++ [x]) ++ l.drop (k + 1) := by
  have hk := (List.getElem?_eq_some_iff.1 hx).1
  have h2 := (List.getElem?_eq_some_iff.1 hx).2
  rw [List.drop_eq_getElem_cons hk, h2, List.append_assoc]; rfl
set_option maxRecDepth 100000 in
theorem mid_set {l out : List Od} {k : Nat} {x y : Od} (hl : out.length = k) (hx : l[k]? = some x) : (out ++ l.drop k).set k y = (out ++ [y]) ++ l.drop (k + 1) := by
  have hk := (List.getElem?_eq_some_iff.1 hx).1
  rw [List.set_append_right _ _ (by omega), hl, Nat.sub_self, List.drop_eq_getElem_cons hk, List.set_cons_zero, List.append_assoc]; rfl
set_option maxRecDepth 100000 in
set_option maxHeartbeats 12800000 in
theorem ires_any (l : List Od) (p : Option Addr) (c : Nat) (sub : Int) (q : Nat → Prop) (w : World) (hR : RdF w q (.slice p l.length c) l.length (l.flatMap odC)) (hnil : p = none → c = 0) (hc : l.length ≤ c ∧ c ≤ 9223372036854775807) :
    Calls Try.prog 37 #[.slice p l.length c, .int .i64 sub] w fun e w' => ResPost l sub w e w' := by
  have HZ := (zero_of_info info_cs).1
  have HZ2 := (zero_of_info info_bs).1
  have HR := Lib.hid hR.old
  clear hR
  go_enter Try.func37, Try.ntmps37
  go_wp2_with fail
  refine (icheck_any l p c _ w HR.out (by omega)).mono ?_
  rintro e w1 ⟨rfl, hg⟩
  have G1 := Lib.hid hg
  clear hg
  by_cases h0 : ckO l = 0
  case neg =>
    have h0' : (ckO l != 0) = true := by simpa using h0
    have HX : Hid (rsX l sub = ckO l ∧ rsO l sub = []) := Lib.hid ⟨by unfold rsX; rw [if_pos h0], by unfold rsO; rw [if_pos h0]⟩
    clear h0
    go_wp2_with fail
    go_ret2
    exact res_no HX.out.1 HX.out.2 G1.out
  have H0 := Lib.hid h0
  have hl := (ck_any h0).1
  rw [h0]
  clear h0
  go_wp2_with fail
  refine (icln_any l p c _ w1 (HR.out.keep G1.out) hnil hc (by omega)).mono ?_
  rintro e w2 ⟨v, rfl, ho, hg⟩
  obtain ⟨pl, cl, rfl, -, -⟩ := own_shape ho
  have H2 := Lib.hid (And.intro (own_low ho G1.out.size) (And.intro (grown_trans G1.out hg) (fun g (hgb : (Value.slice pl l.length cl).ownBlock = some g) => (ho.lt g hgb).2)))
  clear ho hg G1
  go_wp2_with fail
  refine (icount_any l p c sub _ w2 (HR.out.keep H2.out.2.1) (by omega) (fun x hx => ck_id H0.out hx)).mono ?_
  rintro e w3 ⟨rfl, hg⟩
  have H3 := Lib.hid (And.intro (H2.out.1.kept hg (by cases (Value.slice pl l.length cl).ownBlock <;> simp)) (And.intro (grown_trans H2.out.2.1 hg) (fun g (hgb : (Value.slice pl l.length cl).ownBlock = some g) => Nat.lt_of_lt_of_le (H2.out.2.2 g hgb) hg.size)))
  clear hg H2
  obtain ⟨F, hF⟩ : ∃ F, arrV 257 (ivN fun k => cnt l sub k) = F := ⟨_, rfl⟩
  have hFs : F.size = 257 := by rw [← hF, arr_size]
  have hst := run_storeCells_new (P := Try.prog) w3 86 (arrV 257 (ivN fun _ => 0)) F (by rw [hFs]; exact (zero_of_info info_cs).2) (by rw [hFs, arr_size]) (by rw [← hF]; exact arr_one fun _ => rfl)
  have HST := Lib.hid hst
  have HFF := Lib.hid hF
  rw [hF]
  clear hst hF
  go_wp2_with fail
  rw [HST.out, Result.andThen_ok, Oper.upon_skip]
  obtain ⟨n1, n2⟩ := tone_box w3 F 86
  obtain ⟨m1, m2⟩ := tone_box (w3.alloc (.cells F 86)) (arrV 257 (bvN fun _ => false)) 88
  have hsz : (w3.alloc (.cells F 86)).heap.size = w3.heap.size + 1 := by simp
  have E0 : Hid (RV w l p c w3.heap.size (w3.alloc (.cells F 86)).heap.size (.slice pl l.length cl) ([] ++ l.drop 0) (cgv l sub []) (fun j => decide (0 < cnt (l.take 0) sub (j : Int))) _) := Lib.hid ⟨by
      rw [List.nil_append, List.drop_zero]
      exact (H3.out.1.kept n2 (by cases (Value.slice pl l.length cl).ownBlock <;> simp)).kept m2 (by cases (Value.slice pl l.length cl).ownBlock <;> simp), H3.out.2.2, kept_row (by rw [n1]; congr 2; rw [← HFF.out]; exact arr_congr fun j _ => by unfold ivN cgv; simp) m2 (by simp), by rw [m1]; congr 2, ((HR.out.keep H3.out.2.1).keep n2).keep m2, grown_trans (grown_trans H3.out.2.1 n2) m2, ⟨H3.out.2.1.size, by omega⟩⟩
  rw [hsz] at E0
  clear n1 n2 m1 m2 hsz HST HFF hFs H3 HZ
  go_upto_region 6 with fail
  generalize (w3.alloc _).alloc _ = w4 at *
  generalize w3.heap.size = B1 at *
  generalize hB2 : B1 + 1 = B2 at *
  clear HZ2 hB2
  have R0 : Hid (rsv l sub 0 = some ([], [])) := Lib.hid rfl
  go_wp2_with fail
  go_loopw [26] (fun a wr => ∃ (k : Nat) (out : List Od) (giv : List Nat), k ≤ l.length ∧ a = .int .i64 (k : Int) ∧ Hid (rsv l sub k = some (out, giv)) ∧ Hid (RV w l p c B1 B2 (.slice pl l.length cl) (out ++ l.drop k) (cgv l sub giv) (fun j => decide (0 < cnt (l.take k) sub (j : Int))) wr)) (fun a _ => l.length - (RowKit.intOf a).toNat)
  case atStart => exact ⟨0, [], [], by omega, rfl, R0, E0⟩
  case round =>
    obtain ⟨w5, rfl⟩ : ∃ w5, w5 = wr := ⟨_, rfl⟩
    obtain ⟨k, out, giv, hk, rfl, HRS, N⟩ := hrel
    clear E0 R0
    by_cases hlt : k < l.length
    · obtain ⟨-, b, off, rfl, -, hcc⟩ := od_cells N.out.rd (by omega)
      obtain ⟨x, hx⟩ : ∃ x, l[k]? = some x := ⟨_, List.getElem?_eq_getElem hlt⟩
      obtain ⟨a0, a1, a2, a3⟩ := hcc k x hx
      obtain ⟨m, hm1⟩ : ∃ m : Nat, x.i = (m : Int) := ⟨x.i.toNat, by have := ck_id H0.out (List.mem_of_getElem? hx); omega⟩
      have hm2 : m < 257 := by have := ck_id H0.out (List.mem_of_getElem? hx); omega
      have hol := (rsv_len hk HRS.out).1
      have hgl := (rsv_len hk HRS.out).2
      have HX := Lib.hid (And.intro hx (And.intro hol hgl))
      have HB := Lib.hid (heap_alloc_new w5 (.cells #[.int .i64 x.r, .int .i64 x.s, .int .i64 x.i, .int .i64 x.l] 50))
      have HG := Lib.hid (World.grownBy_alloc w5 (.cells #[.int .i64 x.r, .int .i64 x.s, .int .i64 x.i, .int .i64 x.l] 50) none)
      have HM1 := Lib.hid hm1
      clear hcc hx hm1 hol hgl
      go_upto_region 9 with fail
      clear a0 a1 a2 a3
      generalize w5.alloc _ = w6 at *
      have N1 := Lib.hid (N.out.keep HG.out)
      rw [HM1.out] at HB
      obtain ⟨d0, d1, d2, d3⟩ := row4i HB.out
      obtain ⟨kb, hkb⟩ : ∃ b : Bool, decide (0 < cnt (l.take k) sub (m : Int)) = b := ⟨_, rfl⟩
      have e1 : w6.cell? ⟨B2, m, none⟩ = some (.bool kb) := by rw [← hkb]; exact arr_row N1.out.kb hm2
      have f1 := frozen_of_row _ _ m _ _ N1.out.kb
      have HKB := Lib.hid hkb
      clear hkb N HG
      by_cases h1 : x.s = sub
      · have h1' : (x.s != sub) = false := by simpa using h1
        have H1 := Lib.hid h1
        clear h1
        cases kb with
        | false =>
          have N2 := N1.out.putK hm2
          have NK : Hid (rsv l sub (k + 1) = some (out ++ [x], giv)) := Lib.hid (rsv_keep HRS.out HX.out.1 (by
            unfold erl
            rw [decide_eq_false_iff_not]
            rintro ⟨-, h⟩
            rw [HM1.out] at h
            exact of_decide_eq_false HKB.out h))
          have HKF : (fun j : Nat => if j = m then true else decide (0 < cnt (l.take k) sub (j : Int))) = fun j : Nat => decide (0 < cnt (l.take (k + 1)) sub (j : Int)) := by
            funext j
            rw [cnt_take HX.out.1]
            by_cases hj : j = m
            · subst hj
              rw [if_pos rfl, if_pos ⟨H1.out, HM1.out⟩]
              exact (decide_eq_true (by omega)).symm
            · rw [if_neg hj, if_neg (fun e => hj (by have := e.2; have := HM1.out; omega))]; rfl
          rw [HKF, mid_keep HX.out.1] at N2
          have N3 := Lib.hid N2
          clear N2 HKF N1
          go_wp2_with fail
          exact ⟨⟨k + 1, _, _, by omega, congrArg _ (by omega), NK, N3⟩, by simp only [RowKit.intOf]; omega⟩
        | true =>
          have HEL : Hid (erl l sub k x = true) := Lib.hid (decide_eq_true ⟨H1.out, by rw [HM1.out]; exact of_decide_eq_true HKB.out⟩)
          have hsz1 : (Try.prog.info? 86).map (·.size) = some 257 := (zero_of_info info_cs).2
          have hus := Try.underlying86
          have HSZ := Lib.hid hsz1
          have HU := Lib.hid hus
          clear hsz1 hus
          go_wp2_with fail
          refine wp_load_row 86 (.tmp 8) rfl B1 rfl _ (arrV 257 (ivN (cgv l sub giv))) _ _ N1.out.cb HU.out rfl (by rw [arr_size]; exact HSZ.out) ?_
          go_wp2_with fail
          refine (ifree_any (cgv l sub giv) w6).mono ?_
          rintro e w7 ⟨n, ok, rfl, hf, hg⟩
          have N2 := Lib.hid (N1.out.keep hg)
          rcases frL_is hf with ⟨rfl, i, rfl, hi1, hi2, hi0, hfr⟩ | ⟨rfl, hfr⟩
          · have NK : Hid (rsv l sub (k + 1) = some (out ++ [{ x with i := (i : Int) }], giv ++ [i])) := Lib.hid (rsv_new HRS.out HX.out.1 HEL.out hfr)
            have HCT : Hid (cnt (l.take (k + 1)) sub = fun j => cnt (l.take k) sub j + if x.s = sub ∧ x.i = j then 1 else 0) := Lib.hid (by funext j; exact cnt_take HX.out.1 sub j)
            have HKF : Hid ((fun j : Nat => decide (0 < cnt (l.take k) sub (j : Int))) = fun j : Nat => decide (0 < cnt (l.take (k + 1)) sub (j : Int))) := Lib.hid (by
              funext j
              rw [congrFun HCT.out (j : Int)]
              by_cases hj : x.s = sub ∧ x.i = (j : Int)
              · have hjm : (j : Int) = (m : Int) := hj.2.symm.trans HM1.out
                rw [if_pos hj, hjm]
                have := of_decide_eq_true HKB.out
                rw [decide_eq_true this]
                exact (decide_eq_true (by omega)).symm
              · rw [if_neg hj]; rfl)
            have hat := mid_at (l := l) HX.out.2.1 HX.out.1
            have hgb : ∃ g, pl = some ⟨g, 0, none⟩ := by
              rcases N2.out.own.2 with ⟨e, _⟩ | ⟨g, cap, cur, e, _⟩
              · have h5 := congrArg Value.ownBlock e
                injection e with e1 e2 e3
                omega
              · injection e with e1 e2 e3
                exact ⟨g, e1⟩
            obtain ⟨g, rfl⟩ := hgb
            have N3 := N2.out.putL hat (i : Int)
            rw [mid_set HX.out.2.1 HX.out.1] at N3
            have hrow : ∃ cur : Array Value, w7.heap[g]? = some (.cells cur 50 (0, 0)) ∧ k * 4 + 2 < cur.size := by
              rcases N2.out.own.2 with ⟨e, _⟩ | ⟨g', cap, cur, e, _, h1, h2, _, h3, _⟩
              · cases e
              · injection e with e1 e2 e3
                injection e1 with e1
                injection e1 with e1
                subst e1
                refine ⟨cur, h1, ?_⟩
                have : (out ++ l.drop k).length = l.length := by rw [List.length_append, List.length_drop, HX.out.2.1]; omega
                omega
            obtain ⟨cur, hc1, hc2⟩ := hrow
            have g2 := frozen_of_row _ _ (k * 4 + 2) _ _ hc1
            have g1 : w7.cell? ⟨g, k * 4 + 2, none⟩ = some (cur[k * 4 + 2]) := by rw [cell_of_row _ _ _ _ _ _ hc1]; exact Array.getElem?_eq_getElem hc2
            obtain ⟨u9, hu9⟩ : ∃ u9, cur[k * 4 + 2] = u9 := ⟨_, rfl⟩
            rw [hu9] at g1
            have hi3 : i < 257 := by omega
            have b1 : (w7.setCell ⟨g, k * 4 + 2, none⟩ (.int .i64 (i : Int))).cell? ⟨B1, i, none⟩ = some (.int .i64 ((cgv l sub giv i : Nat) : Int)) := arr_row N3.cb hi3
            have b2 := frozen_of_row _ _ i _ _ N3.cb
            rw [hi0] at b1
            have N4 := N3.putC hi3 (cgv l sub giv i + 1)
            rw [← cgv_snoc, HKF.out, hi0] at N4
            have N5 := Lib.hid N4
            have hkl : (k : Int) < (l.length : Int) := by omega
            clear N4 N3 N2 N1 hat hc1 hc2 hu9 hf hg hfr HKF HCT hi0 HEL
            go_wp2_with fail
            exact ⟨⟨k + 1, _, _, by omega, congrArg _ (by omega), NK, N5⟩, by simp only [RowKit.intOf]; omega⟩
          · have HX2 : Hid (rsX l sub = 9 ∧ rsO l sub = []) := Lib.hid (by
              have h9 := rsv_none_le (rsv_none HRS.out HX.out.1 HEL.out hfr) (show k + 1 ≤ l.length by omega)
              unfold rsX rsO
              rw [if_neg (show ¬ ckO l ≠ 0 from fun h => h H0.out), if_neg (show ¬ ckO l ≠ 0 from fun h => h H0.out), h9]
              exact ⟨rfl, rfl⟩)
            clear hf hg hfr N1
            go_wp2_with fail
            go_ret2
            exact res_no HX2.out.1 HX2.out.2 N2.out.gr
      · have h1' : (x.s != sub) = true := by simpa using h1
        have NK : Hid (rsv l sub (k + 1) = some (out ++ [x], giv)) := Lib.hid (rsv_keep HRS.out HX.out.1 (decide_eq_false (fun h => h1 h.1)))
        have N2 := N1.out
        have HKF : (fun j : Nat => decide (0 < cnt (l.take k) sub (j : Int))) = fun j : Nat => decide (0 < cnt (l.take (k + 1)) sub (j : Int)) := by
          funext j
          rw [cnt_take HX.out.1, if_neg (fun e => h1 e.1)]; rfl
        rw [HKF, mid_keep HX.out.1] at N2
        have N3 := Lib.hid N2
        clear N2 HKF N1 h1
        go_wp2_with fail
        exact ⟨⟨k + 1, _, _, by omega, congrArg _ (by omega), NK, N3⟩, by simp only [RowKit.intOf]; omega⟩
    · obtain rfl : k = l.length := by omega
      have hol := (rsv_len hk HRS.out).1
      have hP : ResPost l sub w (.returned (.tuple #[.slice pl l.length cl, .int .i64 0])) w5 := by
        have h1 : rsX l sub = 0 := by unfold rsX; rw [if_neg (fun h => h H0.out), HRS.out]; rfl
        have h2 : rsO l sub = out := by unfold rsO; rw [if_neg (fun h => h H0.out), HRS.out]; rfl
        have h3 := N.out.own
        rw [List.drop_length, List.append_nil] at h3
        refine ⟨pl, cl, by rw [h1, h2, hol], ?_, N.out.gr⟩
        rw [h2]
        rw [hol] at h3 ⊢
        exact h3
      have HP := Lib.hid hP
      clear hP N
      go_wp2_with fail
      go_ret2
      exact HP.out
end Go.Proofs.Ytlgmankojgjfjaa

/- identify: routerTwice. -/
namespace Go.Proofs.Ytlgmankojgjfjaa
open Go.RowKit Bs
set_option maxRecDepth 100000 in
theorem info_bs1 : (Try.prog.info? 81).map (fun i => (i.zero, i.size)) = some (some (.agg (arrV 100 (bvN fun _ => false))), 100) := by kernel_rfl
set_option maxRecDepth 100000 in
theorem rep_yes {L : List Int} {k : Nat} {x : Int} (hx : L[k]? = some x) (h : x ∈ L.take k) : repI L = true := by
  have hk : k < L.length := (List.getElem?_eq_some_iff.1 hx).1
  unfold repI
  refine List.any_eq_true.2 ⟨k, List.mem_range.2 hk, ?_⟩
  rw [List.getD_eq_getElem?_getD, hx]
  simpa using h
set_option maxRecDepth 100000 in
theorem rep_no {L : List Int} (h : ∀ k x, L[k]? = some x → x ∉ L.take k) : repI L = false := by
  unfold repI
  rw [List.any_eq_false]
  intro k hk
  have hk := List.mem_range.1 hk
  rw [List.getD_eq_getElem?_getD, List.getElem?_eq_getElem hk]
  simpa using h k _ (List.getElem?_eq_getElem hk)
set_option maxRecDepth 100000 in
theorem wre_r {x : Ed} (h : wrE x = false) : 1 ≤ x.r ∧ x.r ≤ 99 := by
  unfold wrE inV at h
  simp only [Bool.not_eq_false', Bool.and_eq_true, decide_eq_true_eq] at h
  exact h.1
/-- While routers are marked in the block B. -/
structure RT (W : World) (E : List Ed) (p : Option Addr) (c B : Nat) (kf : Nat → Bool) (w : World) : Prop where
  kb : w.heap[B]? = some (.cells (arrV 100 (bvN kf)) 81 (0, 0))
  rd : RdF w (· < W.heap.size) (.slice p E.length c) E.length (E.flatMap edC)
  gr : W.grownBy w none
  lo : W.heap.size ≤ B
section
variable {W w w1 : World} {E : List Ed} {p : Option Addr} {c B : Nat} {kf : Nat → Bool}
set_option maxRecDepth 100000 in
theorem RT.keep (h : RT W E p c B kf w) (g : w.grownBy w1 none) : RT W E p c B kf w1 := ⟨kept_row h.kb g (by simp), h.rd.keep g, grown_trans h.gr g, h.lo⟩
set_option maxRecDepth 100000 in
theorem RT.put (h : RT W E p c B kf w) {m : Nat} (hm : m < 100) : RT W E p c B (fun j => if j = m then true else kf j) (w.setCell ⟨B, m, none⟩ (.bool true)) := by
  obtain ⟨h1, h2⟩ := arr_put (.bool true) h.kb hm
  have hlo := h.lo
  refine ⟨?_, h.rd.grown h2 (fun b hb e => by have := Option.some.inj e; omega), grown_new h.gr h2 (by omega), hlo⟩
  rw [h1]
  congr 2
  refine arr_congr fun j _ => ?_
  unfold bvN
  show (if j = m then _ else _) = Value.bool (if j = m then true else kf j)
  split <;> rfl
end
/-- The routers of edges. -/
def rsE (E : List Ed) : List Int := E.map Ed.r
set_option maxRecDepth 100000 in
theorem rsE_at {E : List Ed} {k : Nat} {x : Ed} (h : E[k]? = some x) : (rsE E)[k]? = some x.r := by unfold rsE; rw [List.getElem?_map, h]; rfl
set_option maxRecDepth 100000 in
set_option maxHeartbeats 6400000 in
theorem irtw_any (E : List Ed) (p : Option Addr) (c : Nat) (q : Nat → Prop) (w : World) (hR : RdF w q (.slice p E.length c) E.length (E.flatMap edC)) (hv : E.any wrE = false) (hm : E.length ≤ 9223372036854775807) :
    Calls Try.prog 33 #[.slice p E.length c] w fun e w' => e = .returned (.bool (repI (rsE E))) ∧ w.grownBy w' none := by
  have HZ2 := (zero_of_info info_bs1).1
  obtain ⟨n1, n2⟩ := tone_box w (arrV 100 (bvN fun _ => false)) 81
  have E0 : Hid (RT w E p c w.heap.size (fun j => decide ((j : Int) ∈ (rsE E).take 0)) _) := Lib.hid ⟨by rw [n1]; congr 2, hR.old.keep n2, n2, Nat.le_refl _⟩
  have HV := Lib.hid (fun x hx => wre_r (any_mem hv (x := x) hx))
  clear n1 n2 hR hv
  go_enter Try.func33, Try.ntmps33
  go_upto_region 2 with fail
  generalize w.alloc _ = w1 at *
  obtain ⟨B, hB⟩ : ∃ B, w.heap.size = B := ⟨_, rfl⟩
  rw [hB] at E0 ⊢
  clear hB HZ2
  have HN0 : Hid (∀ j x, j < 0 → (rsE E)[j]? = some x → x ∉ (rsE E).take j) := Lib.hid (fun j x h => by omega)
  go_wp2_with fail
  go_loopw [8] (fun a wr => ∃ k : Nat, k ≤ E.length ∧ a = .int .i64 (k : Int) ∧ Hid (∀ j x, j < k → (rsE E)[j]? = some x → x ∉ (rsE E).take j) ∧ Hid (RT w E p c B (fun j => decide ((j : Int) ∈ (rsE E).take k)) wr)) (fun a _ => E.length - (RowKit.intOf a).toNat)
  case atStart => exact ⟨0, by omega, rfl, HN0, E0⟩
  case round =>
    obtain ⟨w5, rfl⟩ : ∃ w5, w5 = wr := ⟨_, rfl⟩
    obtain ⟨k, hk, rfl, HN, N⟩ := hrel
    clear E0 HN0
    by_cases hlt : k < E.length
    · have hlt' : (k : Int) < (E.length : Int) := by omega
      obtain ⟨-, b, off, rfl, -, hcc⟩ := ed_cells N.out.rd (by omega)
      obtain ⟨x, hx⟩ : ∃ x, E[k]? = some x := ⟨_, List.getElem?_eq_getElem hlt⟩
      obtain ⟨a0, a1⟩ := hcc k x hx
      have hxr := HV.out x (List.mem_of_getElem? hx)
      obtain ⟨m, hm1⟩ : ∃ m : Nat, x.r = (m : Int) := ⟨x.r.toNat, by omega⟩
      have hm2 : m < 100 := by omega
      have HX := Lib.hid (rsE_at hx)
      have HB := Lib.hid (heap_alloc_new w5 (.cells #[.int .i64 x.r, .int .i64 x.i] 56))
      have HG := Lib.hid (World.grownBy_alloc w5 (.cells #[.int .i64 x.r, .int .i64 x.i] 56) none)
      have HM1 := Lib.hid hm1
      clear hcc hx hm1 hxr
      go_upto_region 5 with fail
      clear a0 a1
      generalize w5.alloc _ = w6 at *
      have N1 := Lib.hid (N.out.keep HG.out)
      rw [HM1.out] at HB HX
      obtain ⟨d0, d1⟩ := row_cells HB.out
      obtain ⟨kb, hkb⟩ : ∃ b : Bool, decide ((m : Int) ∈ (rsE E).take k) = b := ⟨_, rfl⟩
      have e1 : w6.cell? ⟨B, m, none⟩ = some (.bool kb) := by rw [← hkb]; exact arr_row N1.out.kb hm2
      have f1 := frozen_of_row _ _ m _ _ N1.out.kb
      have HKB := Lib.hid hkb
      clear hkb N HG
      cases kb with
      | true =>
        have HT := Lib.hid (rep_yes HX.out (of_decide_eq_true HKB.out))
        go_wp2_with fail
        go_ret
        rw [HT.out]
        exact ⟨rfl, N1.out.gr⟩
      | false =>
        have N2 := N1.out.put hm2
        have HKF : (fun j : Nat => if j = m then true else decide ((j : Int) ∈ (rsE E).take k)) = fun j : Nat => decide ((j : Int) ∈ (rsE E).take (k + 1)) := by
          funext j
          rw [List.take_add_one, HX.out]
          by_cases hj : j = m
          · subst hj
            rw [if_pos rfl]
            exact (decide_eq_true (by simp)).symm
          · rw [if_neg hj]
            congr 1
            simp only [Option.toList, List.mem_append, List.mem_singleton, eq_iff_iff]
            constructor
            · exact fun h => Or.inl h
            · rintro (h | h)
              · exact h
              · exact absurd (by omega) hj
        rw [HKF] at N2
        have N3 := Lib.hid N2
        have HN2 : Hid (∀ j x, j < k + 1 → (rsE E)[j]? = some x → x ∉ (rsE E).take j) := Lib.hid (fun j y hj hy => by
          by_cases hjk : j < k
          · exact HN.out j y hjk hy
          · obtain rfl : j = k := by omega
            rw [HX.out] at hy
            obtain rfl := Option.some.inj hy
            exact of_decide_eq_false HKB.out)
        clear N2 HKF N1
        go_wp2_with fail
        exact ⟨⟨k + 1, by omega, congrArg _ (by omega), HN2, N3⟩, by simp only [RowKit.intOf]; omega⟩
    · obtain rfl : k = E.length := by omega
      have hnl : ¬ (E.length : Int) < (E.length : Int) := by omega
      have HT := Lib.hid (rep_no (L := rsE E) (fun j x hx => HN.out j x (by
        have := (List.getElem?_eq_some_iff.1 hx).1
        unfold rsE at this
        rw [List.length_map] at this
        exact this) hx))
      go_wp2_with fail
      go_ret
      rw [HT.out]
      exact ⟨rfl, N.out.gr⟩
end Go.Proofs.Ytlgmankojgjfjaa

/- identify: Plan. -/
namespace Go.Proofs.Ytlgmankojgjfjaa
open Go.RowKit Bs
set_option maxRecDepth 100000 in
theorem res_pl_e {fn : Func} {p u : Tmp} (h : fn.results = #[.cell p 26, .tmp u]) (tmps : Array Value) (w : World) (g : Nat) (x y z : Value) (hp : tmps.getD p undef = .pointer (some ⟨g, 0, none⟩)) (hg : w.heap[g]? = some (.cells #[x, y, z] 26 (0, 0))) :
    (results fn tmps).run Try.prog w = .ok (.tuple #[.agg #[x, y, z], tmps.getD u undef]) w := by
  have hp' : tmps[p]?.getD undef = .pointer (some ⟨g, 0, none⟩) := by simpa using hp
  simp [results, h, hp', asAddr, run_loadVar_row w g 26 26 #[x, y, z] (0, 0) _ hg Try.underlying26 rfl (by kernel_rfl)]
set_option maxRecDepth 100000 in
theorem store3p {w : World} {b : Nat} {t : TypeId} {x y z : Value} (u0 u1 u2 : Value) (h : w.heap[b]? = some (.cells #[x, y, z] t (0, 0))) :
    (((w.setCell ⟨b, 0, none⟩ u0).setCell ⟨b, 1, none⟩ u1).setCell ⟨b, 2, none⟩ u2).heap[b]? = some (.cells #[u0, u1, u2] t (0, 0)) ∧ w.grownBy (((w.setCell ⟨b, 0, none⟩ u0).setCell ⟨b, 1, none⟩ u1).setCell ⟨b, 2, none⟩ u2) (some b) := by
  have h1 := heap_setCell_same w b 0 _ _ u0 h
  have h2 := heap_setCell_same _ b 1 _ _ u1 h1
  have h3 := heap_setCell_same _ b 2 _ _ u2 h2
  refine ⟨h3, ?_⟩
  exact grown_trans (grown_trans (grown_setCell w ⟨b, 0, none⟩ u0) (grown_setCell _ ⟨b, 1, none⟩ u1)) (grown_setCell _ ⟨b, 2, none⟩ u2)
set_option maxRecDepth 100000 in
theorem row3i {w : World} {b : Nat} {t : TypeId} {x y z : Value} (h : w.heap[b]? = some (.cells #[x, y, z] t (0, 0))) : (w.cell? ⟨b, 0, none⟩ = some x ∧ w.cell? ⟨b, 1, none⟩ = some y ∧ w.cell? ⟨b, 2, none⟩ = some z) ∧ ∀ o, w.frozen? ⟨b, o, none⟩ = false :=
  ⟨⟨cell_of_row _ _ _ _ _ _ h, cell_of_row _ _ _ _ _ _ h, cell_of_row _ _ _ _ _ _ h⟩, fun o => frozen_of_row _ _ o _ _ h⟩
/-- The error of Plan; its plan. -/
def plnX (l : List Od) (sub : Int) : Int := if ckO l ≠ 0 then ckO l else if inV sub 0 7 = false then 2 else if 24 < (e2K l sub 257).length then 3 else 0
def plnS (l : List Od) (sub : Int) : Int := if plnX l sub = 0 then sub else 0
def plnL (l : List Od) (sub : Int) : Int := if plnX l sub = 0 then lnK l sub else 0
def plnE (l : List Od) (sub : Int) : List Ed := if plnX l sub = 0 then e2K l sub 257 else []
/-- A plan in memory of the call's own. -/
def PlnPost (l : List Od) (sub : Int) (w : World) (e : Ending) (w' : World) : Prop :=
  ∃ p c, e = .returned (.tuple #[.agg #[.int .i64 (plnS l sub), .int .i64 (plnL l sub), .slice p (plnE l sub).length c], .int .i64 (plnX l sub)]) ∧ w'.ownsRow (w.heap.size + 1) 56 2 (.slice p (plnE l sub).length c) (plnE l sub).length ((plnE l sub).flatMap edC) ∧ w.grownBy w' none
set_option maxRecDepth 100000 in
theorem pln_no {l : List Od} {sub : Int} {x : Int} (h : plnX l sub = x) (hx : x ≠ 0) {w w' : World} (g : w.grownBy w' none) : PlnPost l sub w (.returned (.tuple #[.agg #[.int .i64 0, .int .i64 0, .slice none 0 0], .int .i64 x])) w' := by
  have h1 : plnX l sub ≠ 0 := by rw [h]; exact hx
  refine ⟨none, 0, ?_, ?_, g⟩
  · unfold plnS plnL plnE
    rw [if_neg h1, if_neg h1, if_neg h1, h]; rfl
  · unfold plnE
    rw [if_neg h1]
    exact World.ownsRow_nil _ _ _ _
set_option maxRecDepth 100000 in
set_option maxHeartbeats 6400000 in
theorem iplan_any (l : List Od) (p : Option Addr) (c : Nat) (sub : Int) (q : Nat → Prop) (w : World) (hR : RdF w q (.slice p l.length c) l.length (l.flatMap odC)) (hm : l.length ≤ 9223372036854775807) :
    Calls Try.prog 36 #[.slice p l.length c, .int .i64 sub] w fun e w' => PlnPost l sub w e w' := by
  obtain ⟨k1, k2⟩ := tone_box w #[.int .i64 0, .int .i64 0, .slice none 0 0] 26
  have H0 := Lib.hid (And.intro k1 (And.intro k2 (hR.old.keep k2)))
  have hsz : w.heap.size + 1 = (w.alloc (.cells #[.int .i64 0, .int .i64 0, .slice none 0 0] 26)).heap.size := by simp
  have HSZ := Lib.hid (Nat.le_of_eq hsz)
  clear k1 k2 hR hsz
  go_enter Try.func36, Try.ntmps36
  go_upto_region 1 with fail
  generalize w.alloc _ = wa at *
  go_wp2_with fail
  refine (icheck_any l p c _ wa H0.out.2.2 hm).mono ?_
  rintro e w1 ⟨rfl, hg⟩
  have H1 := Lib.hid (And.intro (kept_row H0.out.1 hg (by simp)) (And.intro (grown_trans H0.out.2.1 hg) (And.intro (H0.out.2.2.keep hg) (Nat.le_trans HSZ.out hg.size))))
  clear hg H0 HSZ
  by_cases h0 : ckO l = 0
  case neg =>
    have h0' : (ckO l != 0) = true := by simpa using h0
    have HX : Hid (plnX l sub = ckO l) := Lib.hid (by unfold plnX; rw [if_pos h0])
    have HN := Lib.hid h0
    clear h0
    obtain ⟨⟨c0, c1, c2⟩, f⟩ := row3i H1.out.1
    have f0 := f 0
    have f1 := f 1
    have f2 := f 2
    obtain ⟨t1, t2⟩ := store3p (.int .i64 0) (.int .i64 0) (.slice none 0 0) H1.out.1
    have HT := Lib.hid (And.intro t1 (grown_new H1.out.2.1 t2 (Nat.le_refl _)))
    clear t1 t2 f
    go_wp2_with fail
    refine bodyPost_ret (res_pl_e rfl _ _ w.heap.size _ _ _ rfl HT.out.1) rfl ?_
    exact pln_no HX.out HN.out HT.out.2
  have H0 := Lib.hid h0
  have hl := (ck_any h0).1
  rw [h0]
  clear h0
  obtain ⟨b, hb⟩ : ∃ b, inV sub 0 7 = b := ⟨_, rfl⟩
  have HB := Lib.hid hb
  clear hb
  go_wp2_with fail
  refine (ivs_lit sub _ HB.out w1).mono ?_
  rintro e w' ⟨rfl, rfl⟩
  cases b
  case false =>
    have HX : Hid (plnX l sub = 2) := Lib.hid (by unfold plnX; rw [if_neg (fun h => h H0.out), if_pos HB.out])
    obtain ⟨⟨c0, c1, c2⟩, f⟩ := row3i H1.out.1
    have f0 := f 0
    have f1 := f 1
    have f2 := f 2
    obtain ⟨t1, t2⟩ := store3p (.int .i64 0) (.int .i64 0) (.slice none 0 0) H1.out.1
    have HT := Lib.hid (And.intro t1 (grown_new H1.out.2.1 t2 (Nat.le_refl _)))
    clear t1 t2 f
    go_wp2_with fail
    refine bodyPost_ret (res_pl_e rfl _ _ w.heap.size _ _ _ rfl HT.out.1) rfl ?_
    exact pln_no HX.out (by decide) HT.out.2
  go_wp2_with fail
  refine (ilen_any l p c sub _ w1 H1.out.2.2.1 hm).mono ?_
  rintro e w2 ⟨rfl, hg⟩
  have H2 := Lib.hid (And.intro (kept_row H1.out.1 hg (by simp)) (And.intro (grown_trans H1.out.2.1 hg) (And.intro (H1.out.2.2.1.keep hg) (Nat.le_trans H1.out.2.2.2 hg.size))))
  have HL : Hid (lnO l sub = lnK l sub) := Lib.hid (if_pos H0.out)
  rw [HL.out]
  clear hg H1 HL
  go_wp2_with fail
  refine (iedges_any l p c sub _ w2 H2.out.2.2.1 H0.out).mono ?_
  rintro e w3 ⟨p3, c3, rfl, ho, hg⟩
  have H3 := Lib.hid (And.intro (kept_row H2.out.1 hg (by simp)) (And.intro (grown_trans H2.out.2.1 hg) (own_low ho H2.out.2.2.2)))
  clear hg ho H2
  obtain ⟨E, hE⟩ : ∃ E, e2K l sub 257 = E := ⟨_, rfl⟩
  have HE := Lib.hid hE
  rw [hE] at H3 ⊢
  clear hE
  obtain ⟨n1, n2⟩ := tone_box w3 #[.int .i64 sub, .int .i64 (lnK l sub), .slice p3 E.length c3] 26
  have H4 : Hid (_ ∧ _ ∧ _ ∧ _) := Lib.hid (And.intro (kept_row H3.out.1 n2 (by simp)) (And.intro (grown_trans H3.out.2.1 n2) (And.intro (H3.out.2.2.kept n2 (by cases (Value.slice p3 E.length c3).ownBlock <;> simp)) n1)))
  clear n1 n2 H3
  go_upto_region 7 with fail
  generalize w3.alloc _ = w4 at *
  obtain ⟨⟨d0, d1, d2⟩, -⟩ := row3i H4.out.2.2.2
  obtain ⟨⟨c0, c1, c2⟩, f⟩ := row3i H4.out.1
  have f0 := f 0
  have f1 := f 1
  have f2 := f 2
  clear f
  by_cases h24 : 24 < E.length
  · have h24' : (24 : Int) < (E.length : Int) := by omega
    have HX : Hid (plnX l sub = 3) := Lib.hid (by unfold plnX; rw [if_neg (fun h => h H0.out), if_neg (by rw [HB.out]; decide), HE.out, if_pos h24])
    obtain ⟨t1, t2⟩ := store3p (.int .i64 0) (.int .i64 0) (.slice none 0 0) H4.out.1
    have HT := Lib.hid (And.intro t1 (grown_new H4.out.2.1 t2 (Nat.le_refl _)))
    clear t1 t2 h24
    go_wp2_with fail
    refine bodyPost_ret (res_pl_e rfl _ _ w.heap.size _ _ _ rfl HT.out.1) rfl ?_
    exact pln_no HX.out (by decide) HT.out.2
  · have h24' : ¬ (24 : Int) < (E.length : Int) := by omega
    have HX : Hid (plnX l sub = 0) := Lib.hid (by unfold plnX; rw [if_neg (fun h => h H0.out), if_neg (by rw [HB.out]; decide), HE.out, if_neg h24])
    obtain ⟨t1, t2⟩ := store3p (.int .i64 sub) (.int .i64 (lnK l sub)) (.slice p3 E.length c3) H4.out.1
    have HT := Lib.hid t1
    have HP : Hid (PlnPost l sub w (.returned (.tuple #[.agg #[.int .i64 sub, .int .i64 (lnK l sub), .slice p3 E.length c3], .int .i64 0])) _) := Lib.hid ⟨p3, c3, by unfold plnS plnL plnE; rw [if_pos HX.out, if_pos HX.out, if_pos HX.out, HX.out, HE.out], by
      unfold plnE
      rw [if_pos HX.out, HE.out]
      refine H4.out.2.2.1.kept t2 ?_
      cases hv : (Value.slice p3 E.length c3).ownBlock with
      | none => exact .inl rfl
      | some g =>
        refine .inr fun e => ?_
        have := (H4.out.2.2.1.lt g hv).1
        have := Option.some.inj e
        omega, grown_new H4.out.2.1 t2 (Nat.le_refl _)⟩
    clear t1 t2 h24
    go_wp2_with fail
    refine bodyPost_ret (res_pl_e rfl _ _ w.heap.size _ _ _ rfl HT.out) rfl ?_
    exact HP.out
end Go.Proofs.Ytlgmankojgjfjaa

/- identify: ValidPlan. -/
namespace Go.Proofs.Ytlgmankojgjfjaa
open Go.RowKit Bs
set_option maxRecDepth 100000 in
set_option maxHeartbeats 6400000 in
theorem ivplan_any (sub n : Int) (E : List Ed) (p : Option Addr) (c : Nat) (q : Nat → Prop) (w : World) (hR : RdF w q (.slice p E.length c) E.length (E.flatMap edC)) (hm : E.length ≤ 9223372036854775807) :
    Calls Try.prog 11 #[.agg #[.int .i64 sub, .int .i64 n, .slice p E.length c]] w fun e w' => e = .returned (.bool (vPl sub n E)) ∧ w.grownBy w' none := by
  obtain ⟨k1, k2⟩ := tone_box w #[.int .i64 sub, .int .i64 n, .slice p E.length c] 26
  have H0 := Lib.hid (And.intro k1 (And.intro k2 (hR.keep k2)))
  have e1 : EnterF 30 := enters_of Try.func30 (by kernel_rfl) rfl
  have E1 := Lib.hid e1
  clear k1 k2 hR e1
  go_enter Try.func11, Try.ntmps11
  go_upto_region 1 with fail
  generalize w.alloc _ = w1 at *
  obtain ⟨⟨d0, d1, d2⟩, -⟩ := row3i H0.out.1
  obtain ⟨b1, hb1⟩ : ∃ b, inV sub 0 7 = b := ⟨_, rfl⟩
  have B1 := Lib.hid hb1
  clear hb1
  go_wp2_with fail
  refine (ivs_lit sub _ B1.out w1).mono ?_
  rintro e w' ⟨rfl, rfl⟩
  cases b1
  case false =>
    go_wp2_with fail
    go_ret
    exact ⟨by unfold vPl; rw [B1.out]; rfl, H0.out.2.1⟩
  by_cases h24 : 24 < E.length
  · have h24' : (24 : Int) < (E.length : Int) := by omega
    go_wp2_with fail
    go_ret
    exact ⟨by unfold vPl; rw [decide_eq_false (show ¬ E.length ≤ 24 by omega)]; simp, H0.out.2.1⟩
  have h24' : ¬ (24 : Int) < (E.length : Int) := by omega
  obtain ⟨b2, hb2⟩ : ∃ b, vl n = b := ⟨_, rfl⟩
  have B2 := Lib.hid hb2
  clear hb2
  go_wp2_with fail
  refine (vlp_lit n _ B2.out w1).mono ?_
  rintro e w' ⟨rfl, rfl⟩
  cases b2
  case true =>
    have HP : Hid (vPl sub n E = (!E.any wrE && ascB ltE E && !repI (rsE E))) := Lib.hid (by
      unfold vPl rsE
      rw [B1.out, B2.out, decide_eq_true (show E.length ≤ 24 by omega)]
      simp)
    go_wp2_with fail
    refine (icontE_any 30 #[] wrE E1.out E p c _ w1 H0.out.2.2 hm (fun r w' _ => iwre_any r w')).mono ?_
    rintro e w2 ⟨rfl, hg⟩
    have H2 := Lib.hid (And.intro (kept_row H0.out.1 hg (by simp)) (And.intro (grown_trans H0.out.2.1 hg) (H0.out.2.2.keep hg)))
    clear hg
    clear d0 d1 d2
    obtain ⟨⟨d0, d1, d2⟩, -⟩ := row3i H2.out.1
    cases f1 : E.any wrE
    case true =>
      have F1 := Lib.hid f1
      clear f1
      go_wp2_with fail
      go_ret
      exact ⟨by rw [HP.out, F1.out]; rfl, H2.out.2.1⟩
    have F1 := Lib.hid f1
    clear f1
    go_wp2_with fail
    refine (iascE_any E p c _ w2 H2.out.2.2 hm).mono ?_
    rintro e w3 ⟨rfl, hg⟩
    have H3 := Lib.hid (And.intro (kept_row H2.out.1 hg (by simp)) (And.intro (grown_trans H2.out.2.1 hg) (H2.out.2.2.keep hg)))
    clear hg
    clear d0 d1 d2 H2
    obtain ⟨⟨d0, d1, d2⟩, -⟩ := row3i H3.out.1
    cases f2 : ascB ltE E
    case false =>
      have F2 := Lib.hid f2
      clear f2
      go_wp2_with fail
      go_ret
      exact ⟨by rw [HP.out, F1.out, F2.out]; rfl, H3.out.2.1⟩
    have F2 := Lib.hid f2
    clear f2
    go_wp2_with fail
    refine (irtw_any E p c _ w3 H3.out.2.2 F1.out hm).mono ?_
    rintro e w4 ⟨rfl, hg⟩
    have G4 := Lib.hid (grown_trans H3.out.2.1 hg)
    clear hg
    clear d0 d1 d2 H3
    have HRP : Hid (vPl sub n E = !repI (rsE E)) := Lib.hid (by rw [HP.out, F1.out, F2.out]; rfl)
    go_wp2_with fail
    go_ret
    rw [HRP.out]
    exact ⟨rfl, G4.out⟩
  by_cases hn0 : n = 0
  case neg =>
    have hn0' : (n != 0) = true := by simpa using hn0
    have HF : Hid (vPl sub n E = false) := Lib.hid (by unfold vPl; rw [B2.out, decide_eq_false hn0]; simp)
    clear hn0
    go_wp2_with fail
    go_ret
    rw [HF.out]
    exact ⟨rfl, H0.out.2.1⟩
  have hn0' : (n != 0) = false := by simpa using hn0
  by_cases hE : 0 < E.length
  case pos =>
    have hE' : (0 : Int) < (E.length : Int) := by omega
    have HF : Hid (vPl sub n E = false) := Lib.hid (by unfold vPl; rw [B2.out, decide_eq_false (show ¬ E.length = 0 by omega)]; simp)
    clear hE
    go_wp2_with fail
    go_ret
    rw [HF.out]
    exact ⟨rfl, H0.out.2.1⟩
  have hE' : ¬ (0 : Int) < (E.length : Int) := by omega
  have HP : Hid (vPl sub n E = (!E.any wrE && ascB ltE E && !repI (rsE E))) := Lib.hid (by
    unfold vPl rsE
    rw [B1.out, decide_eq_true (show E.length ≤ 24 by omega), decide_eq_true hn0, decide_eq_true (show E.length = 0 by omega)]
    simp)
  clear hn0 hE
  go_wp2_with fail
  refine (icontE_any 30 #[] wrE E1.out E p c _ w1 H0.out.2.2 hm (fun r w' _ => iwre_any r w')).mono ?_
  rintro e w2 ⟨rfl, hg⟩
  have H2 := Lib.hid (And.intro (kept_row H0.out.1 hg (by simp)) (And.intro (grown_trans H0.out.2.1 hg) (H0.out.2.2.keep hg)))
  clear hg
  clear d0 d1 d2
  obtain ⟨⟨d0, d1, d2⟩, -⟩ := row3i H2.out.1
  cases f1 : E.any wrE
  case true =>
    have F1 := Lib.hid f1
    clear f1
    go_wp2_with fail
    go_ret
    exact ⟨by rw [HP.out, F1.out]; rfl, H2.out.2.1⟩
  have F1 := Lib.hid f1
  clear f1
  go_wp2_with fail
  refine (iascE_any E p c _ w2 H2.out.2.2 hm).mono ?_
  rintro e w3 ⟨rfl, hg⟩
  have H3 := Lib.hid (And.intro (kept_row H2.out.1 hg (by simp)) (And.intro (grown_trans H2.out.2.1 hg) (H2.out.2.2.keep hg)))
  clear hg
  clear d0 d1 d2 H2
  obtain ⟨⟨d0, d1, d2⟩, -⟩ := row3i H3.out.1
  cases f2 : ascB ltE E
  case false =>
    have F2 := Lib.hid f2
    clear f2
    go_wp2_with fail
    go_ret
    exact ⟨by rw [HP.out, F1.out, F2.out]; rfl, H3.out.2.1⟩
  have F2 := Lib.hid f2
  clear f2
  go_wp2_with fail
  refine (irtw_any E p c _ w3 H3.out.2.2 F1.out hm).mono ?_
  rintro e w4 ⟨rfl, hg⟩
  have G4 := Lib.hid (grown_trans H3.out.2.1 hg)
  clear hg
  clear d0 d1 d2 H3
  have HRP : Hid (vPl sub n E = !repI (rsE E)) := Lib.hid (by rw [HP.out, F1.out, F2.out]; rfl)
  go_wp2_with fail
  go_ret
  rw [HRP.out]
  exact ⟨rfl, G4.out⟩
end Go.Proofs.Ytlgmankojgjfjaa

/- The reference's Check of claims. -/
namespace Go.Proofs.Ytlgmankojgjfjaa
open Go.RowKit Bs
set_option maxRecDepth 100000 in
set_option maxHeartbeats 12800000 in
theorem ircheck_any (l : List Od) (p : Option Addr) (c : Nat) (q : Nat → Prop) (w : World) (hR : RdF w q (.slice p l.length c) l.length (l.flatMap odC)) (hm : l.length ≤ 9223372036854775807) :
    Calls Try.prog 10 #[.slice p l.length c] w fun e w' => e = .returned (.int .i64 (ckO l)) ∧ w.grownBy w' none := by
  have HR := Lib.hid hR
  clear hR
  go_enter Try.func10, Try.ntmps10
  by_cases h1 : 192 < l.length
  · have h1' : (192 : Int) < (l.length : Int) := by omega
    go_wp2_with fail
    go_ret
    exact ⟨by unfold ckO; rw [if_pos h1]; rfl, grown_refl _ _⟩
  have h1' : ¬ (192 : Int) < (l.length : Int) := by omega
  have G0 : Hid (w.grownBy w none) := Lib.hid (grown_refl _ _)
  go_wp2_with fail
  go_loopw [3] (fun a wr => ∃ k : Nat, k ≤ l.length ∧ a = .int .i64 (k : Int) ∧ Hid (w.grownBy wr none) ∧ Hid ((l.take k).any wrO = false)) (fun a _ => l.length - (RowKit.intOf a).toNat)
  case atStart => exact ⟨0, Nat.zero_le _, rfl, G0, Lib.hid rfl⟩
  case round =>
    obtain ⟨w2, rfl⟩ : ∃ w2, w2 = wr := ⟨_, rfl⟩
    obtain ⟨k, hk, rfl, G, HN⟩ := hrel
    clear G0
    by_cases hlt : k < l.length
    · obtain ⟨-, b, off, rfl, -, hc⟩ := od_cells (HR.out.keep G.out) (by omega)
      obtain ⟨x, hx⟩ : ∃ x, l[k]? = some x := ⟨_, List.getElem?_eq_getElem hlt⟩
      obtain ⟨a0, a1, a2, a3⟩ := hc k x hx
      have HX := Lib.hid hx
      have hbl := block_lt_of_cell a0
      have HB := Lib.hid (heap_alloc_new w2 (.cells #[.int .i64 x.s, .int .i64 x.i, .int .i64 x.l] 48))
      have HG := Lib.hid (World.grownBy_alloc w2 (.cells #[.int .i64 x.s, .int .i64 x.i, .int .i64 x.l] 48) none)
      have HA0 := Lib.hid a0
      clear hc hx
      go_upto_region 7 with fail
      clear a0 a1 a2 a3
      generalize w2.alloc _ = w3 at *
      have G1 := Lib.hid (grown_trans G.out HG.out)
      have d0 := HG.out.cell HA0.out (by simp)
      have e0 : w3.cell? ⟨w2.heap.size, 0, none⟩ = some (.int .i64 x.s) := cell_of_row _ _ _ _ _ _ HB.out
      have e1 : w3.cell? ⟨w2.heap.size, 1, none⟩ = some (.int .i64 x.i) := cell_of_row _ _ _ _ _ _ HB.out
      have e2 : w3.cell? ⟨w2.heap.size, 2, none⟩ = some (.int .i64 x.l) := cell_of_row _ _ _ _ _ _ HB.out
      have HT : Hid (wrO x = true → ckO l = 2) := Lib.hid (fun h => by unfold ckO; rw [if_neg h1, any_at HX.out h]; rfl)
      have HF : Hid (wrO x = false → (l.take (k + 1)).any wrO = false) := Lib.hid (fun h => any_take HN.out HX.out h)
      have HW : Hid (wrO x = !(inV x.r 1 99 && inV x.s 0 7 && inV x.i 1 256 && vl x.l)) := Lib.hid rfl
      obtain ⟨b1, h1⟩ : ∃ b, inV x.r 1 99 = b := ⟨_, rfl⟩
      obtain ⟨b2, h2⟩ : ∃ b, inV x.s 0 7 = b := ⟨_, rfl⟩
      obtain ⟨b3, h3⟩ : ∃ b, inV x.i 1 256 = b := ⟨_, rfl⟩
      obtain ⟨b4, h4⟩ : ∃ b, vl x.l = b := ⟨_, rfl⟩
      rw [h1, h2, h3, h4] at HW
      have H1 := Lib.hid h1
      have H2 := Lib.hid h2
      have H3 := Lib.hid h3
      have H4 := Lib.hid h4
      clear h1 h2 h3 h4 G HN HG HA0 HB
      cases b1
      case false =>
        go_wp2_with ((first | (go_at_call 25; first | with_reducible refine (rin10_lit x.r 1 99 _ H1.out _).mono ?_ | with_reducible refine (rin10_lit x.s 0 7 _ H2.out _).mono ?_ | with_reducible refine (rin10_lit x.i 1 256 _ H3.out _).mono ?_) | (go_at_call 26; refine (vlr10_lit _ _ H4.out _).mono ?_)); rintro e w' ⟨rfl, rfl⟩)
        go_ret
        rw [HT.out (by rw [HW.out]; rfl)]
        exact ⟨rfl, G1.out⟩
      cases b2
      case false =>
        go_wp2_with ((first | (go_at_call 25; first | with_reducible refine (rin10_lit x.r 1 99 _ H1.out _).mono ?_ | with_reducible refine (rin10_lit x.s 0 7 _ H2.out _).mono ?_ | with_reducible refine (rin10_lit x.i 1 256 _ H3.out _).mono ?_) | (go_at_call 26; refine (vlr10_lit _ _ H4.out _).mono ?_)); rintro e w' ⟨rfl, rfl⟩)
        go_ret
        rw [HT.out (by rw [HW.out]; rfl)]
        exact ⟨rfl, G1.out⟩
      cases b3
      case false =>
        go_wp2_with ((first | (go_at_call 25; first | with_reducible refine (rin10_lit x.r 1 99 _ H1.out _).mono ?_ | with_reducible refine (rin10_lit x.s 0 7 _ H2.out _).mono ?_ | with_reducible refine (rin10_lit x.i 1 256 _ H3.out _).mono ?_) | (go_at_call 26; refine (vlr10_lit _ _ H4.out _).mono ?_)); rintro e w' ⟨rfl, rfl⟩)
        go_ret
        rw [HT.out (by rw [HW.out]; rfl)]
        exact ⟨rfl, G1.out⟩
      cases b4
      case false =>
        go_wp2_with ((first | (go_at_call 25; first | with_reducible refine (rin10_lit x.r 1 99 _ H1.out _).mono ?_ | with_reducible refine (rin10_lit x.s 0 7 _ H2.out _).mono ?_ | with_reducible refine (rin10_lit x.i 1 256 _ H3.out _).mono ?_) | (go_at_call 26; refine (vlr10_lit _ _ H4.out _).mono ?_)); rintro e w' ⟨rfl, rfl⟩)
        go_ret
        rw [HT.out (by rw [HW.out]; rfl)]
        exact ⟨rfl, G1.out⟩
      go_wp2_with ((first | (go_at_call 25; first | with_reducible refine (rin10_lit x.r 1 99 _ H1.out _).mono ?_ | with_reducible refine (rin10_lit x.s 0 7 _ H2.out _).mono ?_ | with_reducible refine (rin10_lit x.i 1 256 _ H3.out _).mono ?_) | (go_at_call 26; refine (vlr10_lit _ _ H4.out _).mono ?_)); rintro e w' ⟨rfl, rfl⟩)
      exact ⟨⟨k + 1, by omega, congrArg _ (by omega), G1, Lib.hid (HF.out (by rw [HW.out]; rfl))⟩, by simp only [RowKit.intOf]; omega⟩
    · obtain rfl : k = l.length := by omega
      have HN2 : Hid (l.any wrO = false) := Lib.hid (any_end HN.out (Nat.le_refl _))
      clear HN
      go_wp2_with fail
      go_loopw [5] (fun a wr => ∃ k : Nat, 1 ≤ k ∧ (k ≤ l.length ∨ k = 1) ∧ a = .int .i64 (k : Int) ∧ Hid (w.grownBy wr none) ∧ Hid (∀ i x y, i + 1 < k → l[i]? = some x → l[i + 1]? = some y → ltO x y = true)) (fun a _ => l.length - (RowKit.intOf a).toNat)
      case atStart => exact ⟨1, by omega, Or.inr rfl, rfl, G, Lib.hid (fun i x y h => by omega)⟩
      case round =>
        clear G
        obtain ⟨w3, rfl⟩ : ∃ w3, w3 = wr := ⟨_, rfl⟩
        obtain ⟨k, hk1, hk, rfl, G, HN⟩ := hrel
        by_cases hlt : k < l.length
        · obtain ⟨j, rfl⟩ : ∃ j, k = j + 1 := ⟨k - 1, by omega⟩
          obtain ⟨-, b, off, rfl, hq, hc⟩ := od_cells (HR.out.keep G.out) (by omega)
          obtain ⟨x, hx⟩ : ∃ x, l[j]? = some x := ⟨_, List.getElem?_eq_getElem (by omega)⟩
          obtain ⟨y, hy⟩ : ∃ y, l[j + 1]? = some y := ⟨_, List.getElem?_eq_getElem hlt⟩
          obtain ⟨a0, a1, a2, a3⟩ := hc j x hx
          obtain ⟨b0, b1, b2, b3⟩ := hc (j + 1) y hy
          have HXY := Lib.hid (And.intro hx hy)
          have ew1 : ((j : Int) + 1 - 1) = (j : Int) := by omega
          have ew2 : IntKind.i64.wrap ((j : Int) + 1 - 1) = (j : Int) := by rw [ew1, IntWalk.i64_in _ (by omega)]
          have ew3 : IntKind.i64.wrap (j : Int) = (j : Int) := IntWalk.i64_in _ (by omega)
          have j0 : (0 : Int) ≤ (j : Int) := by omega
          have j1 : (0 : Int) ≤ (j : Int) + 1 := by omega
          have j2 : (j : Int) < (l.length : Int) := by omega
          have j3 : (j : Int) + 1 < (l.length : Int) := by omega
          have j4 : ((j : Int) + 1).toNat = j + 1 := by omega
          have hbl := block_lt_of_cell a0
          clear hc hx hy
          have hcast : ((j + 1 : Nat) : Int) = (j : Int) + 1 := by omega
          rw [hcast]
          go_upto_region 12 with fail
          go_cut [6, 7] from 53 to 61 (fun u v wx => ∃ g1 g2 : Nat, u = .pointer (some ⟨g1, 0, none⟩) ∧ v = .pointer (some ⟨g2, 0, none⟩) ∧ Hid (wx.heap[g1]? = some (.cells #[.int .i64 x.r, .int .i64 x.s, .int .i64 x.i, .int .i64 x.l] 50 (0, 0)) ∧ wx.heap[g2]? = some (.cells #[.int .i64 y.r, .int .i64 y.s, .int .i64 y.i, .int .i64 y.l] 50 (0, 0)) ∧ w3.grownBy wx none))
          case first =>
            go_region
            · go_wp2_with fail
              go_meet
              obtain ⟨k1, k2, k3, k4⟩ := two_boxes w3 #[.int .i64 x.r, .int .i64 x.s, .int .i64 x.i, .int .i64 x.l] #[.int .i64 y.r, .int .i64 y.s, .int .i64 y.i, .int .i64 y.l] 50 50
              exact ⟨_, _, rfl, rfl, Lib.hid ⟨k1, k2, grown_drew k3⟩⟩
            · go_wp2_with fail
              go_meet
              obtain ⟨k1, k2, k3, k4⟩ := two_boxes w3 #[.int .i64 y.r, .int .i64 y.s, .int .i64 y.i, .int .i64 y.l] #[.int .i64 x.r, .int .i64 x.s, .int .i64 x.i, .int .i64 x.l] 50 50
              exact ⟨_, _, rfl, rfl, Lib.hid ⟨k2, k1, grown_drew k3⟩⟩
          case rest =>
          obtain ⟨g1, g2, rfl, rfl, HB⟩ := hcut
          clear a0 a1 a2 a3 b0 b1 b2 b3 hbl
          rename_i wx
          obtain ⟨d0, d1, d2, d3⟩ := row4i HB.out.1
          obtain ⟨e0, e1, e2, e3⟩ := row4i HB.out.2.1
          have G1 := Lib.hid (grown_trans G.out HB.out.2.2)
          have HT : Hid (ltO x y = false → ckO l = 25) := Lib.hid (fun h => by
            unfold ckO; rw [if_neg h1, HN2.out, ascO_hit HXY.out.1 HXY.out.2 h]; rfl)
          have HF : Hid (ltO x y = true → ∀ i x2 y2, i + 1 < j + 1 + 1 → l[i]? = some x2 → l[i + 1]? = some y2 → ltO x2 y2 = true) := Lib.hid (fun h i x2 y2 hi hx2 hy2 => by
            by_cases hij : i = j
            · subst hij
              have e1 := HXY.out.1.symm.trans hx2
              have e2 := HXY.out.2.symm.trans hy2
              injection e1 with e1
              injection e2 with e2
              subst e1
              subst e2
              exact h
            · exact HN.out i x2 y2 (by omega) hx2 hy2)
          clear HB G HN HXY
          by_cases q1 : y.r < x.r
          · go_wp2_with fail
            go_ret
            rw [HT.out (decide_eq_false (by omega))]
            exact ⟨rfl, G1.out⟩
          · by_cases q2 : x.r = y.r
            · have q2' : (x.r == y.r) = true := by simpa using q2
              by_cases q3 : y.s ≤ x.s
              · have H := Lib.hid (HT.out (decide_eq_false (by omega)))
                have Q2 := Lib.hid q2
                clear q2
                go_wp2_with fail
                go_ret
                rw [H.out]
                exact ⟨rfl, G1.out⟩
              · have H := Lib.hid (HF.out (decide_eq_true (by omega)))
                have Q2 := Lib.hid q2
                clear q2
                go_wp2_with fail
                exact ⟨⟨j + 1 + 1, by omega, Or.inl (by omega), congrArg _ (by omega), G1, H⟩, by simp only [RowKit.intOf]; omega⟩
            · have q2' : (x.r == y.r) = false := by simpa using q2
              have H := Lib.hid (HF.out (decide_eq_true (by omega)))
              clear q2
              go_wp2_with fail
              exact ⟨⟨j + 1 + 1, by omega, Or.inl (by omega), congrArg _ (by omega), G1, H⟩, by simp only [RowKit.intOf]; omega⟩
        · have h2 : ¬ (k : Int) < (l.length : Int) := by omega
          have H := Lib.hid (ascO_end fun i x y hi hx hy => HN.out i x y (by omega) hx hy)
          go_wp2_with fail
          go_ret
          refine ⟨?_, G.out⟩
          unfold ckO
          rw [if_neg h1, HN2.out, H.out]; rfl
end Go.Proofs.Ytlgmankojgjfjaa

/- The reference's claimed, Conflicts, Length, Free. -/
namespace Go.Proofs.Ytlgmankojgjfjaa
open Go.RowKit Bs
end Go.Proofs.Ytlgmankojgjfjaa

/- identify: Place and At, of the program and of the reference. -/
namespace Go.Proofs.Ytlgmankojgjfjaa
open Go.RowKit Bs
/-- The set and the bit of an ID. -/
def plOk (id len : Int) : Bool := vl len && inV id 1 256
def plS (id len : Int) : Int := if plOk id len = true then (id - 1).tdiv len else 0
def plB (id len : Int) : Int := if plOk id len = true then (id - 1) % len else 0
set_option maxRecDepth 100000 in
theorem pl_fields {id len : Int} (h : plOk id len = true) : (len = 8 ∨ len = 16 ∨ len = 32 ∨ len = 64) ∧ 1 ≤ id ∧ id ≤ 256 := by
  unfold plOk inV at h
  rw [Bool.and_eq_true, decide_eq_true_eq] at h
  exact ⟨vl_cases h.1, h.2⟩
set_option maxRecDepth 100000 in
set_option maxHeartbeats 3200000 in
theorem iplc_any (id len : Int) (w : World) :
    Calls Try.prog 38 #[.int .i64 id, .int .i64 len] w fun e w' => e = .returned (.tuple #[.int .i64 (plS id len), .int .i64 (plB id len), .bool (plOk id len)]) ∧ w.grownBy w' none := by
  obtain ⟨b1, h1⟩ : ∃ b, vl len = b := ⟨_, rfl⟩
  obtain ⟨b2, h2⟩ : ∃ b, inV id 1 256 = b := ⟨_, rfl⟩
  have HO : Hid (plOk id len = (b1 && b2)) := Lib.hid (by unfold plOk; rw [h1, h2])
  have HL := Lib.hid h1
  have HI := Lib.hid h2
  clear h1 h2
  go_enter Try.func38, Try.ntmps38
  cases b1
  case false =>
    go_wp2_with (go_at_call 28; refine (vlp_lit _ _ HL.out _).mono ?_; rintro e w' ⟨rfl, rfl⟩)
    go_ret3
    have h0 : plOk id len = false := HO.out
    exact ⟨by unfold plS plB; rw [h0]; rfl, grown_refl _ _⟩
  cases b2
  case false =>
    go_wp2_with (first | (go_at_call 28; refine (vlp_lit _ _ HL.out _).mono ?_; rintro e w' ⟨rfl, rfl⟩) | (go_at_call 43; refine (ivi_lit _ _ HI.out _).mono ?_; rintro e w' ⟨rfl, rfl⟩))
    go_ret3
    have h0 : plOk id len = false := HO.out
    exact ⟨by unfold plS plB; rw [h0]; rfl, grown_refl _ _⟩
  have h0 : plOk id len = true := HO.out
  obtain ⟨hl, hi1, hi2⟩ := pl_fields h0
  have hS : plS id len = (id - 1).tdiv len := by unfold plS; rw [if_pos h0]
  have hB : plB id len = (id - 1) % len := by unfold plB; rw [if_pos h0]
  rw [h0, hS, hB]
  clear hS hB h0
  obtain ⟨m, rfl⟩ : ∃ m : Int, id = m + 1 := ⟨id - 1, by omega⟩
  rw [show m + 1 - 1 = m by omega]
  have e1 : m + 1 - 1 = m := by omega
  have e2 : IntKind.i64.wrap (m + 1 - 1) = m := by rw [e1, IntWalk.i64_in _ (by omega)]
  have e3 : IntKind.i64.wrap m = m := IntWalk.i64_in _ (by omega)
  have hm0 : 0 ≤ m := by omega
  have hm1 : m ≤ 255 := by omega
  have d0 : IntKind.i64.wrap (m.tdiv len) = m.tdiv len := IntWalk.i64_in _ (by
    rw [Int.tdiv_eq_ediv_of_nonneg hm0]
    rcases hl with rfl | rfl | rfl | rfl <;> omega)
  have d1 : IntKind.i64.wrap (m % len) = m % len := IntWalk.i64_in _ (by
    rcases hl with rfl | rfl | rfl | rfl <;> omega)
  have hn0 : (len == 0) = false := by rcases hl with rfl | rfl | rfl | rfl <;> rfl
  have hn1 : ¬ len = 0 := by rcases hl with rfl | rfl | rfl | rfl <;> decide
  clear hi1 hi2 hl
  go_wp2_with (first | (go_at_call 28; refine (vlp_lit _ _ HL.out _).mono ?_; rintro e w' ⟨rfl, rfl⟩) | (go_at_call 43; refine (ivi_lit _ _ HI.out _).mono ?_; rintro e w' ⟨rfl, rfl⟩))
  go_region
  all_goals
    go_wp2_with fail
    go_ret3
    exact ⟨rfl, grown_drew (grown_refl _ _)⟩
end Go.Proofs.Ytlgmankojgjfjaa

/- The laws' example. -/
namespace Go.Proofs.Ytlgmankojgjfjaa
open Go.RowKit Bs
set_option maxRecDepth 100000 in
set_option maxHeartbeats 1600000 in
theorem iclaim_any (r id : Int) (w : World) :
    Calls Try.prog 35 #[.int .i64 r, .int .i64 id] w fun e w' => e = .returned (.agg #[.int .i64 r, .int .i64 0, .int .i64 id, .int .i64 8]) ∧ w.grownBy w' none := by
  obtain ⟨n1, n2⟩ := tone_box w #[.int .i64 r, .int .i64 0, .int .i64 id, .int .i64 8] 50
  have H := Lib.hid (And.intro n1 n2)
  have hsz : (Try.prog.info? 50).map (·.size) = some 4 := by kernel_rfl
  have HS := Lib.hid hsz
  have HU := Lib.hid Try.underlying50
  clear n1 n2 hsz
  go_enter Try.func35, Try.ntmps35
  go_wp2_with fail
  refine bodyPost_ret (v := .agg #[.int .i64 r, .int .i64 0, .int .i64 id, .int .i64 8]) (results_cell_row (p := 4) (fr := (0, 0)) (by kernel_rfl) _ _ w.heap.size _ _ _ rfl H.out.1 HU.out rfl HS.out) rfl ⟨rfl, H.out.2⟩
def exL : List Od := [⟨1, 0, 5, 8⟩, ⟨2, 0, 5, 8⟩, ⟨3, 0, 1, 8⟩]
set_option maxRecDepth 100000 in
theorem ex_p0 : plnX exL 0 = 0 ∧ plnS exL 0 = 0 ∧ plnL exL 0 = 8 := ⟨by kernel_rfl, by kernel_rfl, by kernel_rfl⟩
set_option maxRecDepth 100000 in
theorem ex_p1 : plnE exL 0 = [⟨3, 1⟩] := by kernel_rfl
set_option maxRecDepth 100000 in
theorem ex_r0 : rsX exL 0 = 0 := by kernel_rfl
set_option maxRecDepth 100000 in
theorem ex_r1 : rsO exL 0 = [⟨1, 0, 5, 8⟩, ⟨2, 0, 2, 8⟩, ⟨3, 0, 1, 8⟩] := by kernel_rfl
set_option maxRecDepth 100000 in
theorem ex_l : plS 9 8 = 1 ∧ plB 9 8 = 0 ∧ plOk 9 8 = true := ⟨by kernel_rfl, by kernel_rfl, by kernel_rfl⟩
set_option maxRecDepth 100000 in
theorem rd12 (w : World) (q : Nat → Prop) (hq : q w.heap.size) : RdF (w.alloc (.cells #[.int .i64 1, .int .i64 0, .int .i64 5, .int .i64 8, .int .i64 2, .int .i64 0, .int .i64 5, .int .i64 8, .int .i64 3, .int .i64 0, .int .i64 1, .int .i64 8] 50)) q (.slice (some ⟨w.heap.size, 0, none⟩) exL.length 3) exL.length (exL.flatMap odC) := by
  refine ⟨_, 3, rfl, fun _ => ⟨_, _, rfl, hq, fun i u hi => ?_⟩⟩
  rw [Nat.zero_add, cell_of_row _ _ _ _ _ _ (heap_alloc_new w _)]
  simpa [exL, odC] using hi
set_option maxRecDepth 100000 in
theorem keepAw {w5 w' : World} {B g1 o1 g2 o2 : Nat} {c : Nat} (h : w5.cell? ⟨B, 2, none⟩ = some (.slice (some ⟨g1, o1, none⟩) 1 c) ∧ w5.cell? ⟨g1, o1, none⟩ = some (.int .i64 3) ∧ w5.cell? ⟨g1, o1 + 1, none⟩ = some (.int .i64 1) ∧ w5.cell? ⟨g2, o2 + 4, none⟩ = some (.int .i64 2) ∧ w5.cell? ⟨g2, o2 + 4 + 1, none⟩ = some (.int .i64 0) ∧ w5.cell? ⟨g2, o2 + 4 + 2, none⟩ = some (.int .i64 2) ∧ w5.cell? ⟨g2, o2 + 4 + 3, none⟩ = some (.int .i64 8)) (hg : Hid (w5.grownBy w' none)) :
    w'.cell? ⟨B, 2, none⟩ = some (.slice (some ⟨g1, o1, none⟩) 1 c) ∧ w'.cell? ⟨g1, o1, none⟩ = some (.int .i64 3) ∧ w'.cell? ⟨g1, o1 + 1, none⟩ = some (.int .i64 1) ∧ w'.cell? ⟨g2, o2 + 4, none⟩ = some (.int .i64 2) ∧ w'.cell? ⟨g2, o2 + 4 + 1, none⟩ = some (.int .i64 0) ∧ w'.cell? ⟨g2, o2 + 4 + 2, none⟩ = some (.int .i64 2) ∧ w'.cell? ⟨g2, o2 + 4 + 3, none⟩ = some (.int .i64 8) ∧ Hid (w5.grownBy w' none) := by
  obtain ⟨h0, h1, h2, h3, h4, h5, h6⟩ := h
  exact ⟨hg.out.cell h0 (by simp), hg.out.cell h1 (by simp), hg.out.cell h2 (by simp), hg.out.cell h3 (by simp), hg.out.cell h4 (by simp), hg.out.cell h5 (by simp), hg.out.cell h6 (by simp), hg⟩
set_option maxRecDepth 100000 in
set_option maxHeartbeats 6400000 in
theorem iawake_any (w : World) :
    Calls Try.prog 13 #[] w fun e w' => e = .returned (.bool true) ∧ w.grownBy w' none := by
  go_enter Try.func13, Try.ntmps13
  go_wp2_with fail
  refine (iclaim_any 1 5 w).mono ?_
  rintro e w1 ⟨rfl, hg⟩
  have G1 := Lib.hid hg
  clear hg
  go_wp2_with fail
  refine (iclaim_any 2 5 w1).mono ?_
  rintro e w2 ⟨rfl, hg⟩
  have G2 := Lib.hid (grown_trans G1.out hg)
  clear hg G1
  go_wp2_with fail
  refine (iclaim_any 3 1 w2).mono ?_
  rintro e w3 ⟨rfl, hg⟩
  have G3 := Lib.hid (grown_trans G2.out hg)
  have H3 := Lib.hid (rd12 w3 (fun _ => True) trivial)
  have HG3 := Lib.hid (grown_trans G3.out (World.grownBy_alloc w3 (.cells #[.int .i64 1, .int .i64 0, .int .i64 5, .int .i64 8, .int .i64 2, .int .i64 0, .int .i64 5, .int .i64 8, .int .i64 3, .int .i64 0, .int .i64 1, .int .i64 8] 50) none))
  clear hg G2 G3
  go_upto_region 2 with fail
  generalize w3.alloc _ = w4 at *
  go_wp2_with fail
  refine (iplan_any exL (some ⟨w3.heap.size, 0, none⟩) 3 0 _ w4 H3.out (by decide)).mono ?_
  rintro e w5 ⟨p5, c5, rfl, ho, hg⟩
  rw [ex_p0.1, ex_p0.2.1, ex_p0.2.2, ex_p1]
  rw [ex_p1] at ho
  obtain ⟨m1, m2⟩ := tone_box w5 #[.int .i64 0, .int .i64 8, .slice p5 1 c5] 26
  have H5 := Lib.hid (And.intro ((H3.out.keep hg).keep m2) (And.intro (grown_trans (grown_trans HG3.out hg) m2) (And.intro m1 (ho.kept m2 (by cases (Value.slice p5 [(⟨3, 1⟩ : Ed)].length c5).ownBlock <;> simp)))))
  clear m1 m2 ho hg H3 HG3
  go_upto_region 3 with fail
  generalize w5.alloc _ = w6 at *
  go_wp2_with fail
  refine (ires_any exL (some ⟨w3.heap.size, 0, none⟩) 3 0 _ w6 H5.out.1 (fun h => by cases h) (by decide)).mono ?_
  rintro e w7 ⟨p7, c7, rfl, ho, hg⟩
  rw [ex_r0, ex_r1]
  rw [ex_r1] at ho
  have H7 := Lib.hid (And.intro (kept_row H5.out.2.2.1 hg (by simp)) (And.intro (rdf_of_own (H5.out.2.2.2.kept hg (by cases (Value.slice p5 [(⟨3, 1⟩ : Ed)].length c5).ownBlock <;> simp))) (And.intro (rdf_of_own ho) (grown_trans H5.out.2.1 hg))))
  clear ho hg H5
  go_wp2_with fail
  refine (iplc_any 9 8 w7).mono ?_
  rintro e w8 ⟨rfl, hg⟩
  rw [ex_l.1, ex_l.2.1, ex_l.2.2]
  have H8 := Lib.hid (And.intro (kept_row H7.out.1 hg (by simp)) (And.intro (H7.out.2.1.keep hg) (And.intro (H7.out.2.2.1.keep hg) (grown_trans H7.out.2.2.2 hg))))
  clear hg H7
  obtain ⟨-, g1, o1, rfl, -, hE⟩ := ed_cells H8.out.2.1 (by decide)
  obtain ⟨e0, e1⟩ := hE 0 _ rfl
  obtain ⟨-, g2, o2, rfl, -, hO⟩ := od_cells H8.out.2.2.1 (by decide)
  obtain ⟨q0, q1, q2, q3⟩ := hO 1 _ rfl
  rw [Nat.zero_mul, Nat.add_zero] at e0 e1
  rw [Nat.one_mul] at q0 q1 q2 q3
  have c2 : w8.cell? ⟨w5.heap.size, 2, none⟩ = some (.slice (some ⟨g1, o1, none⟩) 1 c5) := cell_of_row _ _ 2 _ _ _ H8.out.1
  have HF := Lib.hid (And.intro c2 (And.intro e0 (And.intro e1 (And.intro q0 (And.intro q1 (And.intro q2 q3))))))
  have HGW := Lib.hid H8.out.2.2.2
  clear hE hO c2 e0 e1 q0 q1 q2 q3 H8
  have GZ : Hid (w8.grownBy w8 none) := Lib.hid (grown_refl _ _)
  go_upto_region 5 with fail
  obtain ⟨a0, a1, a2, a3, a4, a5, a6⟩ := HF.out
  go_region_held3 (fun w' => w'.cell? ⟨w5.heap.size, 2, none⟩ = some (.slice (some ⟨g1, o1, none⟩) 1 c5) ∧ w'.cell? ⟨g1, o1, none⟩ = some (.int .i64 3) ∧ w'.cell? ⟨g1, o1 + 1, none⟩ = some (.int .i64 1) ∧ w'.cell? ⟨g2, o2 + 4, none⟩ = some (.int .i64 2) ∧ w'.cell? ⟨g2, o2 + 4 + 1, none⟩ = some (.int .i64 0) ∧ w'.cell? ⟨g2, o2 + 4 + 2, none⟩ = some (.int .i64 2) ∧ w'.cell? ⟨g2, o2 + 4 + 3, none⟩ = some (.int .i64 8) ∧ Hid (w8.grownBy w' none))
    (first | with_reducible exact keepAw HF.out (hid_drew GZ) | (with_reducible exact keepAw HF.out (hid_drew (hid_more GZ hg))) | (go_split_ands; with_reducible refine keepAw HF.out ?_; with_reducible assumption) | (go_split_ands; with_reducible refine keepAw HF.out (hid_more ?_ hg); with_reducible assumption))
    ((go_at_call 35; refine (iclaim_any 2 2 _).mono ?_; rintro e w' ⟨rfl, hg⟩))
  all_goals
    go_split_ands
    go_wp2_with fail
    go_ret
    exact ⟨rfl, grown_trans HGW.out (Hid.out (by assumption))⟩
end Go.Proofs.Ytlgmankojgjfjaa

/- The reference's Ints at equal lists. -/
namespace Go.Proofs.Ytlgmankojgjfjaa
open Go.RowKit Bs
end Go.Proofs.Ytlgmankojgjfjaa

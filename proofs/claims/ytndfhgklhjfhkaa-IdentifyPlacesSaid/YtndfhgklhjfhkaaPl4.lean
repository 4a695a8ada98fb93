/- Parts of the proof, packed: IdRsW, IdPlc, IdAwk, IdPlLaw. -/
import Derived.Test.YtndfhgklhjfhkaaPl3
import Derived.Test.YtndfhgklhjfhkaaPl2
import Derived.Laws.StructEq
/- identify: Resolve, its walk. -/
namespace Go.Proofs.Ytndfhgklhjfhkaa
open Go.RowKit Bs
set_option maxRecDepth 100000 in
theorem mid_at {l out : List Od} {k : Nat} {x : Od} (hl : out.length = k) (hx : l[k]? = some x) : (out ++ l.drop k)[k]? = some x := by
  rw [List.getElem?_append_right (by omega), List.getElem?_drop, hl]
  simpa using hx
set_option maxRecDepth 100000 in
theorem mid_keep {l out : List Od} {k : Nat} {x : Od} (hx : l[k]? = some x) : out ++ l.drop k = (out ++ [x]) ++ l.drop (k + 1) := by
  have hk := (List.getElem?_eq_some_iff.1 hx).1
  have h2 := (List.getElem?_eq_some_iff.1 hx).2
  rw [List.drop_eq_getElem_cons hk, h2, List.append_assoc]; rfl
set_option maxRecDepth 100000 in
theorem mid_set {l out : List Od} {k : Nat} {x y : Od} (hl : out.length = k) (hx : l[k]? = some x) : (out ++ l.drop k).set k y = (out ++ [y]) ++ l.drop (k + 1) := by
  have hk := (List.getElem?_eq_some_iff.1 hx).1
  rw [List.set_append_right _ _ (by omega), hl, Nat.sub_self, List.drop_eq_getElem_cons hk, List.set_cons_zero, List.append_assoc]; rfl
set_option maxRecDepth 100000 in
set_option maxHeartbeats 12800000 in
theorem ires_any (l : List Od) (p : Option Addr) (c : Nat) (sub : Int) (q : Nat → Prop) (w : World) (hR : RdF w q (.slice p l.length c) l.length (l.flatMap odC)) (hnil : p = none → c = 0) (hc : l.length ≤ c ∧ c ≤ 9223372036854775807) :
    Calls Try.prog 31 #[.slice p l.length c, .int .i64 sub] w fun e w' => ResPost l sub w e w' := by
  have HZ := (zero_of_info info_cs).1
  have HZ2 := (zero_of_info info_bs).1
  have HR := Lib.hid hR.old
  clear hR
  go_enter Try.func31, Try.ntmps31
  go_wp2_with fail
  refine (icheck_any l p c _ w HR.out (by omega)).mono ?_
  rintro e w1 ⟨rfl, hg⟩
  have G1 := Lib.hid hg
  clear hg
  by_cases h0 : ckO l = 0
  case neg =>
    have h0' : (ckO l != 0) = true := by simpa using h0
    have HX : Hid (rsX l sub = ckO l ∧ rsO l sub = []) := Lib.hid ⟨by unfold rsX; rw [if_pos h0], by unfold rsO; rw [if_pos h0]⟩
    clear h0
    go_wp2_with fail
    go_ret2
    exact res_no HX.out.1 HX.out.2 G1.out
  have H0 := Lib.hid h0
  have hl := (ck_any h0).1
  rw [h0]
  clear h0
  go_wp2_with fail
  refine (icln_any l p c _ w1 (HR.out.keep G1.out) hnil hc (by omega)).mono ?_
  rintro e w2 ⟨v, rfl, ho, hg⟩
  obtain ⟨pl, cl, rfl, -, -⟩ := own_shape ho
  have H2 := Lib.hid (And.intro (own_low ho G1.out.size) (And.intro (grown_trans G1.out hg) (fun g (hgb : (Value.slice pl l.length cl).ownBlock = some g) => (ho.lt g hgb).2)))
  clear ho hg G1
  go_wp2_with fail
  refine (icount_any l p c sub _ w2 (HR.out.keep H2.out.2.1) (by omega) (fun x hx => ck_id H0.out hx)).mono ?_
  rintro e w3 ⟨rfl, hg⟩
  have H3 := Lib.hid (And.intro (H2.out.1.kept hg (by cases (Value.slice pl l.length cl).ownBlock <;> simp)) (And.intro (grown_trans H2.out.2.1 hg) (fun g (hgb : (Value.slice pl l.length cl).ownBlock = some g) => Nat.lt_of_lt_of_le (H2.out.2.2 g hgb) hg.size)))
  clear hg H2
  obtain ⟨F, hF⟩ : ∃ F, arrV 257 (ivN fun k => cnt l sub k) = F := ⟨_, rfl⟩
  have hFs : F.size = 257 := by rw [← hF, arr_size]
  have hst := run_storeCells_new (P := Try.prog) w3 92 (arrV 257 (ivN fun _ => 0)) F (by rw [hFs]; exact (zero_of_info info_cs).2) (by rw [hFs, arr_size]) (by rw [← hF]; exact arr_one fun _ => rfl)
  have HST := Lib.hid hst
  have HFF := Lib.hid hF
  rw [hF]
  clear hst hF
  go_wp2_with fail
  rw [HST.out, Result.andThen_ok, Oper.upon_skip]
  obtain ⟨n1, n2⟩ := tone_box w3 F 92
  obtain ⟨m1, m2⟩ := tone_box (w3.alloc (.cells F 92)) (arrV 257 (bvN fun _ => false)) 98
  have hsz : (w3.alloc (.cells F 92)).heap.size = w3.heap.size + 1 := by simp
  have E0 : Hid (RV w l p c w3.heap.size (w3.alloc (.cells F 92)).heap.size (.slice pl l.length cl) ([] ++ l.drop 0) (cgv l sub []) (fun j => decide (0 < cnt (l.take 0) sub (j : Int))) _) := Lib.hid ⟨by
      rw [List.nil_append, List.drop_zero]
      exact (H3.out.1.kept n2 (by cases (Value.slice pl l.length cl).ownBlock <;> simp)).kept m2 (by cases (Value.slice pl l.length cl).ownBlock <;> simp), H3.out.2.2, kept_row (by rw [n1]; congr 2; rw [← HFF.out]; exact arr_congr fun j _ => by unfold ivN cgv; simp) m2 (by simp), by rw [m1]; congr 2, ((HR.out.keep H3.out.2.1).keep n2).keep m2, grown_trans (grown_trans H3.out.2.1 n2) m2, ⟨H3.out.2.1.size, by omega⟩⟩
  rw [hsz] at E0
  clear n1 n2 m1 m2 hsz HST HFF hFs H3 HZ
  go_upto_region 6 with fail
  generalize (w3.alloc _).alloc _ = w4 at *
  generalize w3.heap.size = B1 at *
  generalize hB2 : B1 + 1 = B2 at *
  clear HZ2 hB2
  have R0 : Hid (rsv l sub 0 = some ([], [])) := Lib.hid rfl
  go_wp2_with fail
  go_loopw [26] (fun a wr => ∃ (k : Nat) (out : List Od) (giv : List Nat), k ≤ l.length ∧ a = .int .i64 (k : Int) ∧ Hid (rsv l sub k = some (out, giv)) ∧ Hid (RV w l p c B1 B2 (.slice pl l.length cl) (out ++ l.drop k) (cgv l sub giv) (fun j => decide (0 < cnt (l.take k) sub (j : Int))) wr)) (fun a _ => l.length - (RowKit.intOf a).toNat)
  case atStart => exact ⟨0, [], [], by omega, rfl, R0, E0⟩
  case round =>
    obtain ⟨w5, rfl⟩ : ∃ w5, w5 = wr := ⟨_, rfl⟩
    obtain ⟨k, out, giv, hk, rfl, HRS, N⟩ := hrel
    clear E0 R0
    by_cases hlt : k < l.length
    · obtain ⟨-, b, off, rfl, -, hcc⟩ := od_cells N.out.rd (by omega)
      obtain ⟨x, hx⟩ : ∃ x, l[k]? = some x := ⟨_, List.getElem?_eq_getElem hlt⟩
      obtain ⟨a0, a1, a2, a3⟩ := hcc k x hx
      obtain ⟨m, hm1⟩ : ∃ m : Nat, x.i = (m : Int) := ⟨x.i.toNat, by have := ck_id H0.out (List.mem_of_getElem? hx); omega⟩
      have hm2 : m < 257 := by have := ck_id H0.out (List.mem_of_getElem? hx); omega
      have hol := (rsv_len hk HRS.out).1
      have hgl := (rsv_len hk HRS.out).2
      have HX := Lib.hid (And.intro hx (And.intro hol hgl))
      have HB := Lib.hid (heap_alloc_new w5 (.cells #[.int .i64 x.r, .int .i64 x.s, .int .i64 x.i, .int .i64 x.l] 62))
      have HG := Lib.hid (World.grownBy_alloc w5 (.cells #[.int .i64 x.r, .int .i64 x.s, .int .i64 x.i, .int .i64 x.l] 62) none)
      have HM1 := Lib.hid hm1
      clear hcc hx hm1 hol hgl
      go_upto_region 9 with fail
      clear a0 a1 a2 a3
      generalize w5.alloc _ = w6 at *
      have N1 := Lib.hid (N.out.keep HG.out)
      rw [HM1.out] at HB
      obtain ⟨d0, d1, d2, d3⟩ := row4i HB.out
      obtain ⟨kb, hkb⟩ : ∃ b : Bool, decide (0 < cnt (l.take k) sub (m : Int)) = b := ⟨_, rfl⟩
      have e1 : w6.cell? ⟨B2, m, none⟩ = some (.bool kb) := by rw [← hkb]; exact arr_row N1.out.kb hm2
      have f1 := frozen_of_row _ _ m _ _ N1.out.kb
      have HKB := Lib.hid hkb
      clear hkb N HG
      by_cases h1 : x.s = sub
      · have h1' : (x.s != sub) = false := by simpa using h1
        have H1 := Lib.hid h1
        clear h1
        cases kb with
        | false =>
          have N2 := N1.out.putK hm2
          have NK : Hid (rsv l sub (k + 1) = some (out ++ [x], giv)) := Lib.hid (rsv_keep HRS.out HX.out.1 (by
            unfold erl
            rw [decide_eq_false_iff_not]
            rintro ⟨-, h⟩
            rw [HM1.out] at h
            exact of_decide_eq_false HKB.out h))
          have HKF : (fun j : Nat => if j = m then true else decide (0 < cnt (l.take k) sub (j : Int))) = fun j : Nat => decide (0 < cnt (l.take (k + 1)) sub (j : Int)) := by
            funext j
            rw [cnt_take HX.out.1]
            by_cases hj : j = m
            · subst hj
              rw [if_pos rfl, if_pos ⟨H1.out, HM1.out⟩]
              exact (decide_eq_true (by omega)).symm
            · rw [if_neg hj, if_neg (fun e => hj (by have := e.2; have := HM1.out; omega))]; rfl
          rw [HKF, mid_keep HX.out.1] at N2
          have N3 := Lib.hid N2
          clear N2 HKF N1
          go_wp2_with fail
          exact ⟨⟨k + 1, _, _, by omega, congrArg _ (by omega), NK, N3⟩, by simp only [RowKit.intOf]; omega⟩
        | true =>
          have HEL : Hid (erl l sub k x = true) := Lib.hid (decide_eq_true ⟨H1.out, by rw [HM1.out]; exact of_decide_eq_true HKB.out⟩)
          have hsz1 : (Try.prog.info? 92).map (·.size) = some 257 := (zero_of_info info_cs).2
          have hus := Try.underlying92
          have HSZ := Lib.hid hsz1
          have HU := Lib.hid hus
          clear hsz1 hus
          go_wp2_with fail
          refine wp_load_row 92 (.tmp 8) rfl B1 rfl _ (arrV 257 (ivN (cgv l sub giv))) _ _ N1.out.cb HU.out rfl (by rw [arr_size]; exact HSZ.out) ?_
          go_wp2_with fail
          refine (ifree_any (cgv l sub giv) w6).mono ?_
          rintro e w7 ⟨n, ok, rfl, hf, hg⟩
          have N2 := Lib.hid (N1.out.keep hg)
          rcases frL_is hf with ⟨rfl, i, rfl, hi1, hi2, hi0, hfr⟩ | ⟨rfl, hfr⟩
          · have NK : Hid (rsv l sub (k + 1) = some (out ++ [{ x with i := (i : Int) }], giv ++ [i])) := Lib.hid (rsv_new HRS.out HX.out.1 HEL.out hfr)
            have HCT : Hid (cnt (l.take (k + 1)) sub = fun j => cnt (l.take k) sub j + if x.s = sub ∧ x.i = j then 1 else 0) := Lib.hid (by funext j; exact cnt_take HX.out.1 sub j)
            have HKF : Hid ((fun j : Nat => decide (0 < cnt (l.take k) sub (j : Int))) = fun j : Nat => decide (0 < cnt (l.take (k + 1)) sub (j : Int))) := Lib.hid (by
              funext j
              rw [congrFun HCT.out (j : Int)]
              by_cases hj : x.s = sub ∧ x.i = (j : Int)
              · have hjm : (j : Int) = (m : Int) := hj.2.symm.trans HM1.out
                rw [if_pos hj, hjm]
                have := of_decide_eq_true HKB.out
                rw [decide_eq_true this]
                exact (decide_eq_true (by omega)).symm
              · rw [if_neg hj]; rfl)
            have hat := mid_at (l := l) HX.out.2.1 HX.out.1
            have hgb : ∃ g, pl = some ⟨g, 0, none⟩ := by
              rcases N2.out.own.2 with ⟨e, _⟩ | ⟨g, cap, cur, e, _⟩
              · have h5 := congrArg Value.ownBlock e
                injection e with e1 e2 e3
                omega
              · injection e with e1 e2 e3
                exact ⟨g, e1⟩
            obtain ⟨g, rfl⟩ := hgb
            have N3 := N2.out.putL hat (i : Int)
            rw [mid_set HX.out.2.1 HX.out.1] at N3
            have hrow : ∃ cur : Array Value, w7.heap[g]? = some (.cells cur 62 (0, 0)) ∧ k * 4 + 2 < cur.size := by
              rcases N2.out.own.2 with ⟨e, _⟩ | ⟨g', cap, cur, e, _, h1, h2, _, h3, _⟩
              · cases e
              · injection e with e1 e2 e3
                injection e1 with e1
                injection e1 with e1
                subst e1
                refine ⟨cur, h1, ?_⟩
                have : (out ++ l.drop k).length = l.length := by rw [List.length_append, List.length_drop, HX.out.2.1]; omega
                omega
            obtain ⟨cur, hc1, hc2⟩ := hrow
            have g2 := frozen_of_row _ _ (k * 4 + 2) _ _ hc1
            have g1 : w7.cell? ⟨g, k * 4 + 2, none⟩ = some (cur[k * 4 + 2]) := by rw [cell_of_row _ _ _ _ _ _ hc1]; exact Array.getElem?_eq_getElem hc2
            obtain ⟨u9, hu9⟩ : ∃ u9, cur[k * 4 + 2] = u9 := ⟨_, rfl⟩
            rw [hu9] at g1
            have hi3 : i < 257 := by omega
            have b1 : (w7.setCell ⟨g, k * 4 + 2, none⟩ (.int .i64 (i : Int))).cell? ⟨B1, i, none⟩ = some (.int .i64 ((cgv l sub giv i : Nat) : Int)) := arr_row N3.cb hi3
            have b2 := frozen_of_row _ _ i _ _ N3.cb
            rw [hi0] at b1
            have N4 := N3.putC hi3 (cgv l sub giv i + 1)
            rw [← cgv_snoc, HKF.out, hi0] at N4
            have N5 := Lib.hid N4
            have hkl : (k : Int) < (l.length : Int) := by omega
            clear N4 N3 N2 N1 hat hc1 hc2 hu9 hf hg hfr HKF HCT hi0 HEL
            go_wp2_with fail
            exact ⟨⟨k + 1, _, _, by omega, congrArg _ (by omega), NK, N5⟩, by simp only [RowKit.intOf]; omega⟩
          · have HX2 : Hid (rsX l sub = 9 ∧ rsO l sub = []) := Lib.hid (by
              have h9 := rsv_none_le (rsv_none HRS.out HX.out.1 HEL.out hfr) (show k + 1 ≤ l.length by omega)
              unfold rsX rsO
              rw [if_neg (show ¬ ckO l ≠ 0 from fun h => h H0.out), if_neg (show ¬ ckO l ≠ 0 from fun h => h H0.out), h9]
              exact ⟨rfl, rfl⟩)
            clear hf hg hfr N1
            go_wp2_with fail
            go_ret2
            exact res_no HX2.out.1 HX2.out.2 N2.out.gr
      · have h1' : (x.s != sub) = true := by simpa using h1
        have NK : Hid (rsv l sub (k + 1) = some (out ++ [x], giv)) := Lib.hid (rsv_keep HRS.out HX.out.1 (decide_eq_false (fun h => h1 h.1)))
        have N2 := N1.out
        have HKF : (fun j : Nat => decide (0 < cnt (l.take k) sub (j : Int))) = fun j : Nat => decide (0 < cnt (l.take (k + 1)) sub (j : Int)) := by
          funext j
          rw [cnt_take HX.out.1, if_neg (fun e => h1 e.1)]; rfl
        rw [HKF, mid_keep HX.out.1] at N2
        have N3 := Lib.hid N2
        clear N2 HKF N1 h1
        go_wp2_with fail
        exact ⟨⟨k + 1, _, _, by omega, congrArg _ (by omega), NK, N3⟩, by simp only [RowKit.intOf]; omega⟩
    · obtain rfl : k = l.length := by omega
      have hol := (rsv_len hk HRS.out).1
      have hP : ResPost l sub w (.returned (.tuple #[.slice pl l.length cl, .int .i64 0])) w5 := by
        have h1 : rsX l sub = 0 := by unfold rsX; rw [if_neg (fun h => h H0.out), HRS.out]; rfl
        have h2 : rsO l sub = out := by unfold rsO; rw [if_neg (fun h => h H0.out), HRS.out]; rfl
        have h3 := N.out.own
        rw [List.drop_length, List.append_nil] at h3
        refine ⟨pl, cl, by rw [h1, h2, hol], ?_, N.out.gr⟩
        rw [h2]
        rw [hol] at h3 ⊢
        exact h3
      have HP := Lib.hid hP
      clear hP N
      go_wp2_with fail
      go_ret2
      exact HP.out
end Go.Proofs.Ytndfhgklhjfhkaa

/- identify: Place and At, of the program and of the reference. -/
namespace Go.Proofs.Ytndfhgklhjfhkaa
open Go.RowKit Bs
/-- The set and the bit of an ID. -/
def plOk (id len : Int) : Bool := vl len && inV id 1 256
def plS (id len : Int) : Int := if plOk id len = true then (id - 1).tdiv len else 0
def plB (id len : Int) : Int := if plOk id len = true then (id - 1) % len else 0
set_option maxRecDepth 100000 in
theorem pl_fields {id len : Int} (h : plOk id len = true) : (len = 8 ∨ len = 16 ∨ len = 32 ∨ len = 64) ∧ 1 ≤ id ∧ id ≤ 256 := by
  unfold plOk inV at h
  rw [Bool.and_eq_true, decide_eq_true_eq] at h
  exact ⟨vl_cases h.1, h.2⟩
/-- The ID of a set and a bit. -/
def atOk (s b len : Int) : Bool := vl len && inV b 0 (len - 1) && inV s 0 31 && decide (s * len + b + 1 ≤ 256)
def atI (s b len : Int) : Int := if atOk s b len = true then s * len + b + 1 else 0
set_option maxRecDepth 100000 in
set_option maxHeartbeats 3200000 in
theorem iplc_any (id len : Int) (w : World) :
    Calls Try.prog 37 #[.int .i64 id, .int .i64 len] w fun e w' => e = .returned (.tuple #[.int .i64 (plS id len), .int .i64 (plB id len), .bool (plOk id len)]) ∧ w.grownBy w' none := by
  obtain ⟨b1, h1⟩ : ∃ b, vl len = b := ⟨_, rfl⟩
  obtain ⟨b2, h2⟩ : ∃ b, inV id 1 256 = b := ⟨_, rfl⟩
  have HO : Hid (plOk id len = (b1 && b2)) := Lib.hid (by unfold plOk; rw [h1, h2])
  have HL := Lib.hid h1
  have HI := Lib.hid h2
  clear h1 h2
  go_enter Try.func37, Try.ntmps37
  cases b1
  case false =>
    go_wp2_with (go_at_call 53; refine (vlp_lit _ _ HL.out _).mono ?_; rintro e w' ⟨rfl, rfl⟩)
    go_ret3
    have h0 : plOk id len = false := HO.out
    exact ⟨by unfold plS plB; rw [h0]; rfl, grown_refl _ _⟩
  cases b2
  case false =>
    go_wp2_with (first | (go_at_call 53; refine (vlp_lit _ _ HL.out _).mono ?_; rintro e w' ⟨rfl, rfl⟩) | (go_at_call 67; refine (ivi_lit _ _ HI.out _).mono ?_; rintro e w' ⟨rfl, rfl⟩))
    go_ret3
    have h0 : plOk id len = false := HO.out
    exact ⟨by unfold plS plB; rw [h0]; rfl, grown_refl _ _⟩
  have h0 : plOk id len = true := HO.out
  obtain ⟨hl, hi1, hi2⟩ := pl_fields h0
  have hS : plS id len = (id - 1).tdiv len := by unfold plS; rw [if_pos h0]
  have hB : plB id len = (id - 1) % len := by unfold plB; rw [if_pos h0]
  rw [h0, hS, hB]
  clear hS hB h0
  obtain ⟨m, rfl⟩ : ∃ m : Int, id = m + 1 := ⟨id - 1, by omega⟩
  rw [show m + 1 - 1 = m by omega]
  have e1 : m + 1 - 1 = m := by omega
  have e2 : IntKind.i64.wrap (m + 1 - 1) = m := by rw [e1, IntWalk.i64_in _ (by omega)]
  have e3 : IntKind.i64.wrap m = m := IntWalk.i64_in _ (by omega)
  have hm0 : 0 ≤ m := by omega
  have hm1 : m ≤ 255 := by omega
  have d0 : IntKind.i64.wrap (m.tdiv len) = m.tdiv len := IntWalk.i64_in _ (by
    rw [Int.tdiv_eq_ediv_of_nonneg hm0]
    rcases hl with rfl | rfl | rfl | rfl <;> omega)
  have d1 : IntKind.i64.wrap (m % len) = m % len := IntWalk.i64_in _ (by
    rcases hl with rfl | rfl | rfl | rfl <;> omega)
  have hn0 : (len == 0) = false := by rcases hl with rfl | rfl | rfl | rfl <;> rfl
  have hn1 : ¬ len = 0 := by rcases hl with rfl | rfl | rfl | rfl <;> decide
  clear hi1 hi2 hl
  go_wp2_with (first | (go_at_call 53; refine (vlp_lit _ _ HL.out _).mono ?_; rintro e w' ⟨rfl, rfl⟩) | (go_at_call 67; refine (ivi_lit _ _ HI.out _).mono ?_; rintro e w' ⟨rfl, rfl⟩))
  go_region
  all_goals
    go_wp2_with fail
    go_ret3
    exact ⟨rfl, grown_drew (grown_refl _ _)⟩
set_option maxRecDepth 100000 in
set_option maxHeartbeats 3200000 in
theorem irplc_any (id len : Int) (w : World) :
    Calls Try.prog 38 #[.int .i64 id, .int .i64 len] w fun e w' => e = .returned (.tuple #[.int .i64 (plS id len), .int .i64 (plB id len), .bool (plOk id len)]) ∧ w.grownBy w' none := by
  obtain ⟨b1, h1⟩ : ∃ b, vl len = b := ⟨_, rfl⟩
  obtain ⟨b2, h2⟩ : ∃ b, inV id 1 256 = b := ⟨_, rfl⟩
  have HO : Hid (plOk id len = (b1 && b2)) := Lib.hid (by unfold plOk; rw [h1, h2])
  have HL := Lib.hid h1
  have HI := Lib.hid h2
  clear h1 h2
  go_enter Try.func38, Try.ntmps38
  cases b1
  case false =>
    go_wp2_with (go_at_call 51; refine (vlr10_lit _ _ HL.out _).mono ?_; rintro e w' ⟨rfl, rfl⟩)
    go_ret3
    have h0 : plOk id len = false := HO.out
    exact ⟨by unfold plS plB; rw [h0]; rfl, grown_refl _ _⟩
  cases b2
  case false =>
    go_wp2_with (first | (go_at_call 51; refine (vlr10_lit _ _ HL.out _).mono ?_; rintro e w' ⟨rfl, rfl⟩) | (go_at_call 50; refine (rin10_lit _ 1 256 _ HI.out _).mono ?_; rintro e w' ⟨rfl, rfl⟩))
    go_ret3
    have h0 : plOk id len = false := HO.out
    exact ⟨by unfold plS plB; rw [h0]; rfl, grown_refl _ _⟩
  have h0 : plOk id len = true := HO.out
  obtain ⟨hl, hi1, hi2⟩ := pl_fields h0
  have hS : plS id len = (id - 1).tdiv len := by unfold plS; rw [if_pos h0]
  have hB : plB id len = (id - 1) % len := by unfold plB; rw [if_pos h0]
  rw [h0, hS, hB]
  clear hS hB h0
  obtain ⟨m, rfl⟩ : ∃ m : Int, id = m + 1 := ⟨id - 1, by omega⟩
  rw [show m + 1 - 1 = m by omega]
  have e1 : m + 1 - 1 = m := by omega
  have e2 : IntKind.i64.wrap (m + 1 - 1) = m := by rw [e1, IntWalk.i64_in _ (by omega)]
  have e3 : IntKind.i64.wrap m = m := IntWalk.i64_in _ (by omega)
  have hm0 : 0 ≤ m := by omega
  have hm1 : m ≤ 255 := by omega
  have d0 : IntKind.i64.wrap (m.tdiv len) = m.tdiv len := IntWalk.i64_in _ (by
    rw [Int.tdiv_eq_ediv_of_nonneg hm0]
    rcases hl with rfl | rfl | rfl | rfl <;> omega)
  have d1 : IntKind.i64.wrap (m % len) = m % len := IntWalk.i64_in _ (by
    rcases hl with rfl | rfl | rfl | rfl <;> omega)
  have hn0 : (len == 0) = false := by rcases hl with rfl | rfl | rfl | rfl <;> rfl
  have hn1 : ¬ len = 0 := by rcases hl with rfl | rfl | rfl | rfl <;> decide
  clear hi1 hi2 hl
  go_wp2_with (first | (go_at_call 51; refine (vlr10_lit _ _ HL.out _).mono ?_; rintro e w' ⟨rfl, rfl⟩) | (go_at_call 50; refine (rin10_lit _ 1 256 _ HI.out _).mono ?_; rintro e w' ⟨rfl, rfl⟩))
  go_region
  all_goals
    go_wp2_with fail
    go_ret3
    exact ⟨rfl, grown_drew (grown_refl _ _)⟩
set_option maxRecDepth 100000 in
set_option maxHeartbeats 3200000 in
theorem iat_any (s b len : Int) (w : World) :
    Calls Try.prog 39 #[.int .i64 s, .int .i64 b, .int .i64 len] w fun e w' => e = .returned (.tuple #[.int .i64 (atI s b len), .bool (atOk s b len)]) ∧ w.grownBy w' none := by
  obtain ⟨b1, h1⟩ : ∃ b, vl len = b := ⟨_, rfl⟩
  obtain ⟨b2, h2⟩ : ∃ q, inV b 0 (len - 1) = q := ⟨_, rfl⟩
  obtain ⟨b3, h3⟩ : ∃ q, inV s 0 31 = q := ⟨_, rfl⟩
  obtain ⟨b4, h4⟩ : ∃ q, decide (s * len + b + 1 ≤ 256) = q := ⟨_, rfl⟩
  have HO : Hid (atOk s b len = (b1 && b2 && b3 && b4)) := Lib.hid (by unfold atOk; rw [h1, h2, h3, h4])
  have HL := Lib.hid h1
  have HB := Lib.hid h2
  have HS := Lib.hid h3
  have H4 := Lib.hid h4
  clear h1 h2 h3 h4
  go_enter Try.func39, Try.ntmps39
  cases b1
  case false =>
    go_wp2_with (go_at_call 53; refine (vlp_lit _ _ HL.out _).mono ?_; rintro e w' ⟨rfl, rfl⟩)
    go_ret2
    have h0 : atOk s b len = false := HO.out
    exact ⟨by unfold atI; rw [h0]; rfl, grown_refl _ _⟩
  have hl := vl_cases HL.out
  have ew : IntKind.i64.wrap (len - 1) = len - 1 := IntWalk.i64_in _ (by rcases hl with rfl | rfl | rfl | rfl <;> omega)
  clear hl
  cases b2
  case false =>
    have hb : ¬ (0 ≤ b ∧ b ≤ len - 1) := of_decide_eq_false HB.out
    by_cases q1 : b < 0
    · go_wp2_with (go_at_call 53; refine (vlp_lit _ _ HL.out _).mono ?_; rintro e w' ⟨rfl, rfl⟩)
      go_ret2
      have h0 : atOk s b len = false := HO.out
      exact ⟨by unfold atI; rw [h0]; rfl, grown_refl _ _⟩
    · have q2 : len ≤ b := by omega
      clear hb
      go_wp2_with (go_at_call 53; refine (vlp_lit _ _ HL.out _).mono ?_; rintro e w' ⟨rfl, rfl⟩)
      go_ret2
      have h0 : atOk s b len = false := HO.out
      exact ⟨by unfold atI; rw [h0]; rfl, grown_refl _ _⟩
  obtain ⟨q1, q2⟩ : 0 ≤ b ∧ b ≤ len - 1 := of_decide_eq_true HB.out
  have q3 : ¬ len ≤ b := by omega
  have q4 : ¬ b < 0 := by omega
  cases b3
  case false =>
    have hs : ¬ (0 ≤ s ∧ s ≤ 31) := of_decide_eq_false HS.out
    clear q1 q2
    by_cases q1 : s < 0
    · go_wp2_with (go_at_call 53; refine (vlp_lit _ _ HL.out _).mono ?_; rintro e w' ⟨rfl, rfl⟩)
      go_ret2
      have h0 : atOk s b len = false := HO.out
      exact ⟨by unfold atI; rw [h0]; rfl, grown_refl _ _⟩
    · have q2 : 31 < s := by omega
      clear hs
      go_wp2_with (go_at_call 53; refine (vlp_lit _ _ HL.out _).mono ?_; rintro e w' ⟨rfl, rfl⟩)
      go_ret2
      have h0 : atOk s b len = false := HO.out
      exact ⟨by unfold atI; rw [h0]; rfl, grown_refl _ _⟩
  clear q1 q2
  obtain ⟨z1, z2⟩ : 0 ≤ b ∧ b ≤ len - 1 := of_decide_eq_true HB.out
  obtain ⟨z3, z4⟩ : 0 ≤ s ∧ s ≤ 31 := of_decide_eq_true HS.out
  have hl := vl_cases HL.out
  have z5 : ¬ s < 0 := by omega
  have z6 : ¬ 31 < s := by omega
  have w1 : IntKind.i64.wrap (s * len) = s * len := IntWalk.i64_in _ (by rcases hl with rfl | rfl | rfl | rfl <;> omega)
  have w2 : IntKind.i64.wrap (s * len + b) = s * len + b := IntWalk.i64_in _ (by rcases hl with rfl | rfl | rfl | rfl <;> omega)
  have w3 : IntKind.i64.wrap (s * len + b + 1) = s * len + b + 1 := IntWalk.i64_in _ (by rcases hl with rfl | rfl | rfl | rfl <;> omega)
  clear hl z1 z2 z3 z4
  cases b4
  case false =>
    have z7 : 256 < s * len + b + 1 := by have := of_decide_eq_false H4.out; omega
    go_wp2_with (go_at_call 53; refine (vlp_lit _ _ HL.out _).mono ?_; rintro e w' ⟨rfl, rfl⟩)
    go_ret2
    have h0 : atOk s b len = false := HO.out
    exact ⟨by unfold atI; rw [h0]; rfl, grown_refl _ _⟩
  have z7 : ¬ 256 < s * len + b + 1 := by have := of_decide_eq_true H4.out; omega
  go_wp2_with (go_at_call 53; refine (vlp_lit _ _ HL.out _).mono ?_; rintro e w' ⟨rfl, rfl⟩)
  go_ret2
  have h0 : atOk s b len = true := HO.out
  exact ⟨by unfold atI; rw [h0]; rfl, grown_refl _ _⟩
set_option maxRecDepth 100000 in
set_option maxHeartbeats 3200000 in
theorem irat_any (s b len : Int) (w : World) :
    Calls Try.prog 40 #[.int .i64 s, .int .i64 b, .int .i64 len] w fun e w' => e = .returned (.tuple #[.int .i64 (atI s b len), .bool (atOk s b len)]) ∧ w.grownBy w' none := by
  obtain ⟨b1, h1⟩ : ∃ b, vl len = b := ⟨_, rfl⟩
  obtain ⟨b2, h2⟩ : ∃ q, inV b 0 (len - 1) = q := ⟨_, rfl⟩
  obtain ⟨b3, h3⟩ : ∃ q, inV s 0 31 = q := ⟨_, rfl⟩
  obtain ⟨b4, h4⟩ : ∃ q, decide (s * len + b + 1 ≤ 256) = q := ⟨_, rfl⟩
  have HO : Hid (atOk s b len = (b1 && b2 && b3 && b4)) := Lib.hid (by unfold atOk; rw [h1, h2, h3, h4])
  have HL := Lib.hid h1
  have HB := Lib.hid h2
  have HS := Lib.hid h3
  have H4 := Lib.hid h4
  clear h1 h2 h3 h4
  go_enter Try.func40, Try.ntmps40
  cases b1
  case false =>
    go_wp2_with (go_at_call 51; refine (vlr10_lit _ _ HL.out _).mono ?_; rintro e w' ⟨rfl, rfl⟩)
    go_ret2
    have h0 : atOk s b len = false := HO.out
    exact ⟨by unfold atI; rw [h0]; rfl, grown_refl _ _⟩
  have hl := vl_cases HL.out
  have ew : IntKind.i64.wrap (len - 1) = len - 1 := IntWalk.i64_in _ (by rcases hl with rfl | rfl | rfl | rfl <;> omega)
  clear hl
  cases b2
  case false =>
    go_wp2_with (first | (go_at_call 51; refine (vlr10_lit _ _ HL.out _).mono ?_; rintro e w' ⟨rfl, rfl⟩) | (go_at_call 50; (first | with_reducible refine (rin10_lit b 0 (len - 1) _ HB.out _).mono ?_ | with_reducible refine (rin10_lit s 0 31 _ HS.out _).mono ?_); rintro e w' ⟨rfl, rfl⟩))
    go_ret2
    have h0 : atOk s b len = false := HO.out
    exact ⟨by unfold atI; rw [h0]; rfl, grown_refl _ _⟩
  cases b3
  case false =>
    go_wp2_with (first | (go_at_call 51; refine (vlr10_lit _ _ HL.out _).mono ?_; rintro e w' ⟨rfl, rfl⟩) | (go_at_call 50; (first | with_reducible refine (rin10_lit b 0 (len - 1) _ HB.out _).mono ?_ | with_reducible refine (rin10_lit s 0 31 _ HS.out _).mono ?_); rintro e w' ⟨rfl, rfl⟩))
    go_ret2
    have h0 : atOk s b len = false := HO.out
    exact ⟨by unfold atI; rw [h0]; rfl, grown_refl _ _⟩
  obtain ⟨z1, z2⟩ : 0 ≤ b ∧ b ≤ len - 1 := of_decide_eq_true HB.out
  obtain ⟨z3, z4⟩ : 0 ≤ s ∧ s ≤ 31 := of_decide_eq_true HS.out
  have hl := vl_cases HL.out
  have z5 : ¬ s < 0 := by omega
  have z6 : ¬ 31 < s := by omega
  have w1 : IntKind.i64.wrap (s * len) = s * len := IntWalk.i64_in _ (by rcases hl with rfl | rfl | rfl | rfl <;> omega)
  have w2 : IntKind.i64.wrap (s * len + b) = s * len + b := IntWalk.i64_in _ (by rcases hl with rfl | rfl | rfl | rfl <;> omega)
  have w3 : IntKind.i64.wrap (s * len + b + 1) = s * len + b + 1 := IntWalk.i64_in _ (by rcases hl with rfl | rfl | rfl | rfl <;> omega)
  clear hl z1 z2 z3 z4
  cases b4
  case false =>
    have z7 : 256 < s * len + b + 1 := by have := of_decide_eq_false H4.out; omega
    go_wp2_with (first | (go_at_call 51; refine (vlr10_lit _ _ HL.out _).mono ?_; rintro e w' ⟨rfl, rfl⟩) | (go_at_call 50; (first | with_reducible refine (rin10_lit b 0 (len - 1) _ HB.out _).mono ?_ | with_reducible refine (rin10_lit s 0 31 _ HS.out _).mono ?_); rintro e w' ⟨rfl, rfl⟩))
    go_ret2
    have h0 : atOk s b len = false := HO.out
    exact ⟨by unfold atI; rw [h0]; rfl, grown_refl _ _⟩
  have z7 : ¬ 256 < s * len + b + 1 := by have := of_decide_eq_true H4.out; omega
  go_wp2_with (first | (go_at_call 51; refine (vlr10_lit _ _ HL.out _).mono ?_; rintro e w' ⟨rfl, rfl⟩) | (go_at_call 50; (first | with_reducible refine (rin10_lit b 0 (len - 1) _ HB.out _).mono ?_ | with_reducible refine (rin10_lit s 0 31 _ HS.out _).mono ?_); rintro e w' ⟨rfl, rfl⟩))
  go_ret2
  have h0 : atOk s b len = true := HO.out
  exact ⟨by unfold atI; rw [h0]; rfl, grown_refl _ _⟩
set_option maxRecDepth 100000 in
theorem at_place {id len : Int} (h : plOk id len = true) : atOk (plS id len) (plB id len) len = true ∧ atI (plS id len) (plB id len) len = id := by
  obtain ⟨hl, h1, h2⟩ := pl_fields h
  have e1 : plS id len = (id - 1) / len := by unfold plS; rw [if_pos h, Int.tdiv_eq_ediv_of_nonneg (by omega)]
  have e2 : plB id len = (id - 1) % len := by unfold plB; rw [if_pos h]
  have hv : vl len = true := by unfold plOk at h; rw [Bool.and_eq_true] at h; exact h.1
  have h3 : atOk (plS id len) (plB id len) len = true := by
    unfold atOk inV
    rw [hv, e1, e2]
    simp only [Bool.true_and, Bool.and_eq_true, decide_eq_true_eq]
    rcases hl with rfl | rfl | rfl | rfl <;> omega
  refine ⟨h3, ?_⟩
  unfold atI
  rw [if_pos h3, e1, e2]
  rcases hl with rfl | rfl | rfl | rfl <;> omega
end Go.Proofs.Ytndfhgklhjfhkaa

/- The laws' example. -/
namespace Go.Proofs.Ytndfhgklhjfhkaa
open Go.RowKit Bs
set_option maxRecDepth 100000 in
set_option maxHeartbeats 1600000 in
theorem iclaim_any (r id : Int) (w : World) :
    Calls Try.prog 41 #[.int .i64 r, .int .i64 id] w fun e w' => e = .returned (.agg #[.int .i64 r, .int .i64 0, .int .i64 id, .int .i64 8]) ∧ w.grownBy w' none := by
  obtain ⟨n1, n2⟩ := tone_box w #[.int .i64 r, .int .i64 0, .int .i64 id, .int .i64 8] 62
  have H := Lib.hid (And.intro n1 n2)
  have hsz : (Try.prog.info? 62).map (·.size) = some 4 := by kernel_rfl
  have HS := Lib.hid hsz
  have HU := Lib.hid Try.underlying62
  clear n1 n2 hsz
  go_enter Try.func41, Try.ntmps41
  go_wp2_with fail
  refine bodyPost_ret (v := .agg #[.int .i64 r, .int .i64 0, .int .i64 id, .int .i64 8]) (results_cell_row (p := 4) (fr := (0, 0)) (by kernel_rfl) _ _ w.heap.size _ _ _ rfl H.out.1 HU.out rfl HS.out) rfl ⟨rfl, H.out.2⟩
def exL : List Od := [⟨1, 0, 5, 8⟩, ⟨2, 0, 5, 8⟩, ⟨3, 0, 1, 8⟩]
set_option maxRecDepth 100000 in
theorem ex_p0 : plnX exL 0 = 0 ∧ plnS exL 0 = 0 ∧ plnL exL 0 = 8 := ⟨by kernel_rfl, by kernel_rfl, by kernel_rfl⟩
set_option maxRecDepth 100000 in
theorem ex_p1 : plnE exL 0 = [⟨3, 1⟩] := by kernel_rfl
set_option maxRecDepth 100000 in
theorem ex_r0 : rsX exL 0 = 0 := by kernel_rfl
set_option maxRecDepth 100000 in
theorem ex_r1 : rsO exL 0 = [⟨1, 0, 5, 8⟩, ⟨2, 0, 2, 8⟩, ⟨3, 0, 1, 8⟩] := by kernel_rfl
set_option maxRecDepth 100000 in
theorem ex_l : plS 9 8 = 1 ∧ plB 9 8 = 0 ∧ plOk 9 8 = true := ⟨by kernel_rfl, by kernel_rfl, by kernel_rfl⟩
set_option maxRecDepth 100000 in
theorem rd12 (w : World) (q : Nat → Prop) (hq : q w.heap.size) : RdF (w.alloc (.cells #[.int .i64 1, .int .i64 0, .int .i64 5, .int .i64 8, .int .i64 2, .int .i64 0, .int .i64 5, .int .i64 8, .int .i64 3, .int .i64 0, .int .i64 1, .int .i64 8] 62)) q (.slice (some ⟨w.heap.size, 0, none⟩) exL.length 3) exL.length (exL.flatMap odC) := by
  refine ⟨_, 3, rfl, fun _ => ⟨_, _, rfl, hq, fun i u hi => ?_⟩⟩
  rw [Nat.zero_add, cell_of_row _ _ _ _ _ _ (heap_alloc_new w _)]
  simpa [exL, odC] using hi
set_option maxRecDepth 100000 in
theorem keepAw {w5 w' : World} {B g1 o1 g2 o2 : Nat} {c : Nat} (h : w5.cell? ⟨B, 2, none⟩ = some (.slice (some ⟨g1, o1, none⟩) 1 c) ∧ w5.cell? ⟨g1, o1, none⟩ = some (.int .i64 3) ∧ w5.cell? ⟨g1, o1 + 1, none⟩ = some (.int .i64 1) ∧ w5.cell? ⟨g2, o2 + 4, none⟩ = some (.int .i64 2) ∧ w5.cell? ⟨g2, o2 + 4 + 1, none⟩ = some (.int .i64 0) ∧ w5.cell? ⟨g2, o2 + 4 + 2, none⟩ = some (.int .i64 2) ∧ w5.cell? ⟨g2, o2 + 4 + 3, none⟩ = some (.int .i64 8)) (hg : Hid (w5.grownBy w' none)) :
    w'.cell? ⟨B, 2, none⟩ = some (.slice (some ⟨g1, o1, none⟩) 1 c) ∧ w'.cell? ⟨g1, o1, none⟩ = some (.int .i64 3) ∧ w'.cell? ⟨g1, o1 + 1, none⟩ = some (.int .i64 1) ∧ w'.cell? ⟨g2, o2 + 4, none⟩ = some (.int .i64 2) ∧ w'.cell? ⟨g2, o2 + 4 + 1, none⟩ = some (.int .i64 0) ∧ w'.cell? ⟨g2, o2 + 4 + 2, none⟩ = some (.int .i64 2) ∧ w'.cell? ⟨g2, o2 + 4 + 3, none⟩ = some (.int .i64 8) ∧ Hid (w5.grownBy w' none) := by
  obtain ⟨h0, h1, h2, h3, h4, h5, h6⟩ := h
  exact ⟨hg.out.cell h0 (by simp), hg.out.cell h1 (by simp), hg.out.cell h2 (by simp), hg.out.cell h3 (by simp), hg.out.cell h4 (by simp), hg.out.cell h5 (by simp), hg.out.cell h6 (by simp), hg⟩
set_option maxRecDepth 100000 in
set_option maxHeartbeats 6400000 in
theorem iawake_any (w : World) :
    Calls Try.prog 19 #[] w fun e w' => e = .returned (.bool true) ∧ w.grownBy w' none := by
  go_enter Try.func19, Try.ntmps19
  go_wp2_with fail
  refine (iclaim_any 1 5 w).mono ?_
  rintro e w1 ⟨rfl, hg⟩
  have G1 := Lib.hid hg
  clear hg
  go_wp2_with fail
  refine (iclaim_any 2 5 w1).mono ?_
  rintro e w2 ⟨rfl, hg⟩
  have G2 := Lib.hid (grown_trans G1.out hg)
  clear hg G1
  go_wp2_with fail
  refine (iclaim_any 3 1 w2).mono ?_
  rintro e w3 ⟨rfl, hg⟩
  have G3 := Lib.hid (grown_trans G2.out hg)
  have H3 := Lib.hid (rd12 w3 (fun _ => True) trivial)
  have HG3 := Lib.hid (grown_trans G3.out (World.grownBy_alloc w3 (.cells #[.int .i64 1, .int .i64 0, .int .i64 5, .int .i64 8, .int .i64 2, .int .i64 0, .int .i64 5, .int .i64 8, .int .i64 3, .int .i64 0, .int .i64 1, .int .i64 8] 62) none))
  clear hg G2 G3
  go_upto_region 2 with fail
  generalize w3.alloc _ = w4 at *
  go_wp2_with fail
  refine (iplan_any exL (some ⟨w3.heap.size, 0, none⟩) 3 0 _ w4 H3.out (by decide)).mono ?_
  rintro e w5 ⟨p5, c5, rfl, ho, hg⟩
  rw [ex_p0.1, ex_p0.2.1, ex_p0.2.2, ex_p1]
  rw [ex_p1] at ho
  obtain ⟨m1, m2⟩ := tone_box w5 #[.int .i64 0, .int .i64 8, .slice p5 1 c5] 26
  have H5 := Lib.hid (And.intro ((H3.out.keep hg).keep m2) (And.intro (grown_trans (grown_trans HG3.out hg) m2) (And.intro m1 (ho.kept m2 (by cases (Value.slice p5 [(⟨3, 1⟩ : Ed)].length c5).ownBlock <;> simp)))))
  clear m1 m2 ho hg H3 HG3
  go_upto_region 3 with fail
  generalize w5.alloc _ = w6 at *
  go_wp2_with fail
  refine (ires_any exL (some ⟨w3.heap.size, 0, none⟩) 3 0 _ w6 H5.out.1 (fun h => by cases h) (by decide)).mono ?_
  rintro e w7 ⟨p7, c7, rfl, ho, hg⟩
  rw [ex_r0, ex_r1]
  rw [ex_r1] at ho
  have H7 := Lib.hid (And.intro (kept_row H5.out.2.2.1 hg (by simp)) (And.intro (rdf_of_own (H5.out.2.2.2.kept hg (by cases (Value.slice p5 [(⟨3, 1⟩ : Ed)].length c5).ownBlock <;> simp))) (And.intro (rdf_of_own ho) (grown_trans H5.out.2.1 hg))))
  clear ho hg H5
  go_wp2_with fail
  refine (iplc_any 9 8 w7).mono ?_
  rintro e w8 ⟨rfl, hg⟩
  rw [ex_l.1, ex_l.2.1, ex_l.2.2]
  have H8 := Lib.hid (And.intro (kept_row H7.out.1 hg (by simp)) (And.intro (H7.out.2.1.keep hg) (And.intro (H7.out.2.2.1.keep hg) (grown_trans H7.out.2.2.2 hg))))
  clear hg H7
  obtain ⟨-, g1, o1, rfl, -, hE⟩ := ed_cells H8.out.2.1 (by decide)
  obtain ⟨e0, e1⟩ := hE 0 _ rfl
  obtain ⟨-, g2, o2, rfl, -, hO⟩ := od_cells H8.out.2.2.1 (by decide)
  obtain ⟨q0, q1, q2, q3⟩ := hO 1 _ rfl
  rw [Nat.zero_mul, Nat.add_zero] at e0 e1
  rw [Nat.one_mul] at q0 q1 q2 q3
  have c2 : w8.cell? ⟨w5.heap.size, 2, none⟩ = some (.slice (some ⟨g1, o1, none⟩) 1 c5) := cell_of_row _ _ 2 _ _ _ H8.out.1
  have HF := Lib.hid (And.intro c2 (And.intro e0 (And.intro e1 (And.intro q0 (And.intro q1 (And.intro q2 q3))))))
  have HGW := Lib.hid H8.out.2.2.2
  clear hE hO c2 e0 e1 q0 q1 q2 q3 H8
  have GZ : Hid (w8.grownBy w8 none) := Lib.hid (grown_refl _ _)
  go_upto_region 5 with fail
  obtain ⟨a0, a1, a2, a3, a4, a5, a6⟩ := HF.out
  go_region_held3 (fun w' => w'.cell? ⟨w5.heap.size, 2, none⟩ = some (.slice (some ⟨g1, o1, none⟩) 1 c5) ∧ w'.cell? ⟨g1, o1, none⟩ = some (.int .i64 3) ∧ w'.cell? ⟨g1, o1 + 1, none⟩ = some (.int .i64 1) ∧ w'.cell? ⟨g2, o2 + 4, none⟩ = some (.int .i64 2) ∧ w'.cell? ⟨g2, o2 + 4 + 1, none⟩ = some (.int .i64 0) ∧ w'.cell? ⟨g2, o2 + 4 + 2, none⟩ = some (.int .i64 2) ∧ w'.cell? ⟨g2, o2 + 4 + 3, none⟩ = some (.int .i64 8) ∧ Hid (w8.grownBy w' none))
    (first | with_reducible exact keepAw HF.out (hid_drew GZ) | (with_reducible exact keepAw HF.out (hid_drew (hid_more GZ hg))) | (go_split_ands; with_reducible refine keepAw HF.out ?_; with_reducible assumption) | (go_split_ands; with_reducible refine keepAw HF.out (hid_more ?_ hg); with_reducible assumption))
    ((go_at_call 41; refine (iclaim_any 2 2 _).mono ?_; rintro e w' ⟨rfl, hg⟩))
  all_goals
    go_split_ands
    go_wp2_with fail
    go_ret
    exact ⟨rfl, grown_trans HGW.out (Hid.out (by assumption))⟩
end Go.Proofs.Ytndfhgklhjfhkaa

/- The law IdentifyPlaces. -/
namespace Go.Proofs.Ytndfhgklhjfhkaa
open Go.RowKit Bs
def ivs (L : List Int) : Array Value := (L.map (fun z => Value.int .i64 z)).toArray
/-- The tape at a; two lists of numbers in the blocks D and E. -/
structure PW2 (W : World) (a D E : Nat) (I J : List Int) (w : World) : Prop where
  tp : Tp w a
  di : w.heap[D]? = some (.cells (ivs I) 3 (0, 0))
  ei : w.heap[E]? = some (.cells (ivs J) 3 (0, 0))
  gr : W.grownBy w none
  lo : W.heap.size ≤ a ∧ a < D ∧ a < E
section
variable {W w w1 : World} {a D E : Nat} {I J : List Int}
set_option maxRecDepth 100000 in
theorem PW2.keep (h : PW2 W a D E I J w) (g : w.grownBy w1 none) : PW2 W a D E I J w1 := ⟨h.tp.keep g, kept_row h.di g (by simp), kept_row h.ei g (by simp), grown_trans h.gr g, h.lo⟩
set_option maxRecDepth 100000 in
theorem PW2.tape (h : PW2 W a D E I J w) (k : St a w w1) : PW2 W a D E I J w1 :=
  ⟨k.2, kept_row h.di k.1 (fun e => by have := Option.some.inj e; have := h.lo; omega), kept_row h.ei k.1 (fun e => by have := Option.some.inj e; have := h.lo; omega), grown_new h.gr k.1 h.lo.1, h.lo⟩
set_option maxRecDepth 100000 in
theorem ivs_at {L : List Int} {i : Nat} {x : Int} {b : Nat} (h : w.heap[b]? = some (.cells (ivs L) 3 (0, 0))) (hx : L[i]? = some x) : w.cell? ⟨b, i, none⟩ = some (.int .i64 x) := by
  rw [cell_of_row _ _ _ _ _ _ h]
  unfold ivs
  simp [hx]
set_option maxRecDepth 100000 in
theorem keep2c {b c i j : Nat} {x y : Int} (h : w.cell? ⟨b, i, none⟩ = some (.int .i64 x) ∧ w.cell? ⟨c, j, none⟩ = some (.int .i64 y)) (hg : Hid (w.grownBy w1 none)) :
    w1.cell? ⟨b, i, none⟩ = some (.int .i64 x) ∧ w1.cell? ⟨c, j, none⟩ = some (.int .i64 y) ∧ Hid (w.grownBy w1 none) := ⟨hg.out.cell h.1 (by simp), hg.out.cell h.2 (by simp), hg⟩
end
set_option maxRecDepth 100000 in
set_option maxHeartbeats 12800000 in
theorem places_walk (v : Value) (id len st bt : Int) (w : World) (hv : IntsIn w v) :
    Calls Try.prog 8 #[v, .int .i64 id, .int .i64 len, .int .i64 st, .int .i64 bt] w fun e w' => e = .returned (.bool true) ∧ w.grownBy w' none := by
  have HV := Lib.hid hv
  clear hv
  go_enter Try.func8, Try.ntmps8
  go_wp2_with fail
  refine (new_any v w HV.out).mono ?_
  rintro e w1 ⟨rfl, hg1, hT1⟩
  have H1 := Lib.hid (And.intro hg1 hT1)
  clear hg1 hT1 HV
  obtain ⟨a, ha⟩ : ∃ a, w.heap.size = a := ⟨_, rfl⟩
  have HA := Lib.hid ha
  rw [ha] at H1 ⊢
  clear ha
  go_wp2_with fail
  refine (range_any a (-1) 258 (by omega) (by omega) (by omega) (by omega) _ H1.out.2).mono ?_
  rintro e w2 ⟨r1, rfl, -, hs⟩
  have H2 := Lib.hid (And.intro (grown_new H1.out.1 hs.1 (by rw [HA.out]; exact Nat.le_refl _)) hs.2)
  clear hs H1
  go_wp2_with fail
  refine (wild_any a _ H2.out.2).mono ?_
  rintro e w3 ⟨r2, rfl, -, hs⟩
  have h3 := grown_new H2.out.1 hs.1 (by rw [HA.out]; exact Nat.le_refl _)
  obtain ⟨n1, n2⟩ := tone_box w3 (ivs [id, r1, r2]) 3
  have H3 := Lib.hid (And.intro (grown_trans h3 n2) (And.intro (hs.2.keep n2) (And.intro n1 hs.2.lt)))
  clear hs H2 h3 n1 n2
  unfold ivs at H3
  simp only [List.map_cons, List.map_nil] at H3
  go_wp2_with fail
  refine (length_any a _ H3.out.2.1).mono ?_
  rintro e w4 ⟨r3, rfl, -, hs⟩
  have H4 := Lib.hid (And.intro (grown_new H3.out.1 hs.1 (by rw [HA.out]; exact Nat.le_refl _)) (And.intro hs.2 (And.intro (kept_row H3.out.2.2.1 hs.1 (fun e => by have := Option.some.inj e; have := H3.out.2.2.2; omega)) H3.out.2.2.2)))
  clear hs H3
  go_wp2_with fail
  refine (wild_any a _ H4.out.2.1).mono ?_
  rintro e w5 ⟨r4, rfl, -, hs⟩
  have h5 := grown_new H4.out.1 hs.1 (by rw [HA.out]; exact Nat.le_refl _)
  have d5 := kept_row H4.out.2.2.1 hs.1 (fun e => by have := Option.some.inj e; have := H4.out.2.2.2; omega)
  obtain ⟨n1, n2⟩ := tone_box w5 #[.int .i64 len, .int .i64 r3, .int .i64 r4] 3
  have H5 : Hid (PW2 w a w3.heap.size w5.heap.size [id, r1, r2] [len, r3, r4] _) := Lib.hid ⟨hs.2.keep n2, kept_row d5 n2 (by simp), n1, grown_trans h5 n2, ⟨by rw [HA.out]; exact Nat.le_refl _, H4.out.2.2.2, hs.2.lt⟩⟩
  clear hs H4 h5 d5 n1 n2
  go_upto_region 3 with fail
  generalize w5.alloc _ = w6 at *
  generalize w3.heap.size = D at *
  generalize w5.heap.size = E at *
  obtain ⟨I, hI⟩ : ∃ I, [id, r1, r2] = I := ⟨_, rfl⟩
  obtain ⟨J, hJ⟩ : ∃ J, [len, r3, r4] = J := ⟨_, rfl⟩
  have HIL := Lib.hid (show I.length = 3 by rw [← hI]; rfl)
  have HJL := Lib.hid (show J.length = 3 by rw [← hJ]; rfl)
  rw [hI, hJ] at H5
  clear hI hJ HA
  go_wp2_with fail
  go_loopw [14] (fun x wr => ∃ i : Nat, i ≤ 3 ∧ x = .int .i64 (i : Int) ∧ Hid (PW2 w a D E I J wr)) (fun x _ => 3 - (RowKit.intOf x).toNat)
  case atStart => exact ⟨0, by omega, rfl, H5⟩
  case round =>
  obtain ⟨i, hi, rfl, H6⟩ := hrel
  clear H5
  by_cases hi3 : i < 3
  · have hi3' : (i : Int) < 3 := by omega
    obtain ⟨x, hx⟩ : ∃ x, I[i]? = some x := ⟨_, List.getElem?_eq_getElem (by rw [HIL.out]; exact hi3)⟩
    have HX := Lib.hid hx
    clear hx
    obtain ⟨w7, hw7⟩ : ∃ w7, w7 = wr := ⟨_, rfl⟩
    rw [← hw7] at H6 ⊢
    clear hw7
    go_wp2_with fail
    go_loopw [15] (fun y wr => ∃ j : Nat, j ≤ 3 ∧ y = .int .i64 (j : Int) ∧ Hid (PW2 w a D E I J wr)) (fun y _ => 3 - (RowKit.intOf y).toNat)
    case atStart => exact ⟨0, by omega, rfl, H6⟩
    case round =>
    obtain ⟨j, hj, rfl, H7⟩ := hrel
    clear H6
    by_cases hj3 : j < 3
    · have hj3' : (j : Int) < 3 := by omega
      obtain ⟨y, hy⟩ : ∃ y, J[j]? = some y := ⟨_, List.getElem?_eq_getElem (by rw [HJL.out]; exact hj3)⟩
      have HY := Lib.hid hy
      clear hy
      obtain ⟨w8, hw8⟩ : ∃ w8, w8 = wr := ⟨_, rfl⟩
      rw [← hw8] at H7 ⊢
      clear hw8
      have HF := Lib.hid (And.intro (ivs_at H7.out.di HX.out) (ivs_at H7.out.ei HY.out))
      have GZ : Hid (w8.grownBy w8 none) := Lib.hid (grown_refl _ _)
      obtain ⟨PS, hPS⟩ : ∃ z, plS x y = z := ⟨_, rfl⟩
      obtain ⟨PB, hPB⟩ : ∃ z, plB x y = z := ⟨_, rfl⟩
      obtain ⟨PO, hPO⟩ : ∃ z, plOk x y = z := ⟨_, rfl⟩
      have HPL := Lib.hid (And.intro hPS (And.intro hPB hPO))
      have cP : ∀ W : World, Calls Try.prog 37 #[.int .i64 x, .int .i64 y] W fun e w' => e = .returned (.tuple #[.int .i64 PS, .int .i64 PB, .bool PO]) ∧ W.grownBy w' none := fun W => by rw [← hPS, ← hPB, ← hPO]; exact iplc_any x y W
      have cR : ∀ W : World, Calls Try.prog 38 #[.int .i64 x, .int .i64 y] W fun e w' => e = .returned (.tuple #[.int .i64 PS, .int .i64 PB, .bool PO]) ∧ W.grownBy w' none := fun W => by rw [← hPS, ← hPB, ← hPO]; exact irplc_any x y W
      have CP := Lib.hid (And.intro cP cR)
      clear hPS hPB hPO cP cR
      go_upto_region 9 with fail
      obtain ⟨a0, a1⟩ := HF.out
      go_region_held3 (fun w' => w'.cell? ⟨D, i, none⟩ = some (.int .i64 x) ∧ w'.cell? ⟨E, j, none⟩ = some (.int .i64 y) ∧ Hid (w8.grownBy w' none))
        (first | with_reducible exact keep2c HF.out (hid_drew GZ) | (with_reducible exact keep2c HF.out (hid_drew (hid_more GZ hg))) | (go_split_ands; with_reducible refine keep2c HF.out ?_; with_reducible assumption) | (go_split_ands; with_reducible refine keep2c HF.out (hid_more ?_ hg); with_reducible assumption))
        ((go_at_call 37; refine (CP.out.1 _).mono ?_; rintro e w' ⟨rfl, hg⟩))
      all_goals
        go_split_ands
        clear GZ
        have HG1 := (by assumption : Hid (w8.grownBy _ none))
        go_upto_region 10 with fail
        obtain ⟨q0, q1, -⟩ := keep2c HF.out HG1
        go_region_held3 (fun w' => w'.cell? ⟨D, i, none⟩ = some (.int .i64 x) ∧ w'.cell? ⟨E, j, none⟩ = some (.int .i64 y) ∧ Hid (w8.grownBy w' none))
          (first | with_reducible exact keep2c HF.out (hid_drew HG1) | (with_reducible exact keep2c HF.out (hid_drew (hid_more HG1 hg))) | (go_split_ands; with_reducible refine keep2c HF.out ?_; with_reducible assumption) | (go_split_ands; with_reducible refine keep2c HF.out (hid_more ?_ hg); with_reducible assumption))
          ((go_at_call 38; refine (CP.out.2 _).mono ?_; rintro e w' ⟨rfl, hg⟩))
        all_goals
          go_split_ands
          clear HG1
          have HG2 := (by assumption : Hid (w8.grownBy _ none))
          have H8 := Lib.hid (H7.out.keep HG2.out)
          have c0 := ivs_at H8.out.di HX.out
          have c1 := ivs_at H8.out.ei HY.out
          clear HG2 H7 HF
          go_upto_region 13 with fail
          go_wp2_with fail
          refine (iat_any PS PB y _).mono ?_
          rintro e w9 ⟨rfl, hg⟩
          have H9 := Lib.hid (H8.out.keep hg)
          clear hg H8 c0 c1
          have c0 := ivs_at H9.out.di HX.out
          have HAT : Hid (PO = true → atOk PS PB y = true ∧ atI PS PB y = x) := Lib.hid (fun h => by
            rw [← HPL.out.1, ← HPL.out.2.1]
            exact at_place (by rw [HPL.out.2.2]; exact h))
          obtain ⟨AI, hAI⟩ : ∃ z, atI PS PB y = z := ⟨_, rfl⟩
          obtain ⟨AO, hAO⟩ : ∃ z, atOk PS PB y = z := ⟨_, rfl⟩
          rw [hAI, hAO] at HAT ⊢
          clear hAI hAO HPL CP
          cases PO
          case' true =>
            obtain ⟨rfl, rfl⟩ := HAT.out rfl
            clear HAT
            go_upto_region 16 with fail
          case' false =>
            clear HAT
            go_upto_region 16 with fail
          all_goals
            clear c0
            go_wp2_with fail
            refine (range_any a (-1) 33 (by omega) (by omega) (by omega) (by omega) _ H9.out.tp).mono ?_
            rintro e w10 ⟨r5, rfl, -, hs⟩
            have HT := Lib.hid (H9.out.tape hs)
            clear hs H9
            go_wp2_with fail
            refine (range_any a (-1) 65 (by omega) (by omega) (by omega) (by omega) _ HT.out.tp).mono ?_
            rintro e w11 ⟨r6, rfl, -, hs⟩
            have H11 := Lib.hid (HT.out.tape hs)
            clear hs HT
            go_upto_if 119 with fail
            go_cut [24, 25] from 120 to 121 (fun u v wx => ∃ (s1 b1 : Int), u = .int .i64 s1 ∧ v = .int .i64 b1 ∧ wx = w11)
            case first =>
              by_cases hi0 : i = 0
              · subst hi0
                go_wp2_with fail
                go_meet
                exact ⟨_, _, rfl, rfl, rfl⟩
              · have hi1 : ((i : Int) == 0) = false := by
                  have : (i : Int) ≠ 0 := by omega
                  simpa using this
                go_wp2_with fail
                go_meet
                exact ⟨_, _, rfl, rfl, rfl⟩
            case rest =>
            obtain ⟨s1, b1, rfl, rfl, rfl⟩ := hcut
            have c1 := ivs_at H11.out.ei HY.out
            go_wp2_with fail
            refine (iat_any s1 b1 y _).mono ?_
            rintro e w12 ⟨rfl, hg⟩
            have H12 := Lib.hid (H11.out.keep hg)
            clear hg H11 c1
            have c1 := ivs_at H12.out.ei HY.out
            obtain ⟨AI, hAI⟩ : ∃ z, atI s1 b1 y = z := ⟨_, rfl⟩
            obtain ⟨AO, hAO⟩ : ∃ z, atOk s1 b1 y = z := ⟨_, rfl⟩
            have HAA := Lib.hid (And.intro hAI hAO)
            rw [hAI, hAO]
            clear hAI hAO
            go_wp2_with fail
            refine (irat_any s1 b1 y _).mono ?_
            rintro e w13 ⟨rfl, hg⟩
            have H13 := Lib.hid (H12.out.keep hg)
            rw [HAA.out.1, HAA.out.2]
            clear hg H12 c1
            go_wp2_with fail
            exact ⟨⟨j + 1, by omega, congrArg _ (by omega), H13⟩, by simp only [RowKit.intOf]; omega⟩
    · have H9 := Lib.hid H7.out
      obtain rfl : j = 3 := by omega
      go_wp2_with fail
      exact ⟨⟨i + 1, by omega, congrArg _ (by omega), H9⟩, by simp only [RowKit.intOf]; omega⟩
  · obtain rfl : i = 3 := by omega
    have G := Lib.hid H6.out.gr
    go_wp2_with fail
    refine (iawake_any wr).mono ?_
    rintro e w8 ⟨rfl, hg⟩
    have G2 := Lib.hid (grown_trans G.out hg)
    clear hg
    go_wp2_with fail
    go_ret
    exact ⟨rfl, G2.out⟩
end Go.Proofs.Ytndfhgklhjfhkaa

/- Parts of the proof, packed: StEncR, PkRefs, StRep, PkRefs2, IoSliceR, IoJoinR, PkEncR, PkEncR2. -/
import Derived.Test.YtpombmpkccnefaaDoorFrames12
import Derived.Test.YtpombmpkccnefaaDoorFrames9
import Derived.Test.YtpombmpkccnefaaDoorFrames4
import Derived.Test.YtpombmpkccnefaaDoorFrames7
import Derived.Test.YtpombmpkccnefaaDoorFrames6
import Derived.Test.YtpombmpkccnefaaDoorFrames10
/- The reference's EncodeLabels. -/
namespace Go.Proofs.YtpombmpkccnefaaDoor
open Go.RowKit Bs
set_option maxRecDepth 100000 in
theorem word_int {l : Lab} (h : vlab l = true) : l.v * 4096 + l.c * 512 + l.h = ((wordL l false : Nat) : Int) ∧ wordL l true = wordL l false + 256 ∧ wordL l true < 4294967296 := by
  have hb := (lab_back h true).1
  rw [vlab_iff] at h
  have e1 : wordL l true = l.v.toNat * 4096 + l.c.toNat * 512 + l.h.toNat + 256 := rfl
  have e0 : wordL l false = l.v.toNat * 4096 + l.c.toNat * 512 + l.h.toNat + 0 := rfl
  omega
set_option maxRecDepth 100000 in
theorem cells4 (w : World) (n : Nat) (hn : n < 4294967296) (t : TypeId) : ∀ j u, ((by4 n).map nv)[j]? = some u → (w.alloc (.cells #[.int .u8 ((n : Int) / 16777216), .int .u8 ((n : Int) / 65536 % 256), .int .u8 ((n : Int) / 256 % 256), .int .u8 ((n : Int) % 256)] t)).cell? ((⟨w.heap.size, 0, none⟩ : Addr).add j) = some u := by
  intro j u hj
  rw [show ((n : Int) / 16777216) = (n : Int) / 16777216 % 256 by omega, by4_cells]
  have hb : (w.alloc (.cells ((by4 n).map nv).toArray t)).heap[w.heap.size]? = some (.cells ((by4 n).map nv).toArray t (0, 0)) := heap_alloc_new w _
  have hadd : (⟨w.heap.size, 0, none⟩ : Addr).add j = ⟨w.heap.size, j, none⟩ := by rw [add_plain, Nat.zero_add]
  rw [hadd, cell_of_row _ _ _ _ _ _ hb]
  simpa using hj
set_option maxRecDepth 100000 in
set_option maxHeartbeats 3200000 in
theorem rencl_any (ls : List Lab) (p : Option Addr) (c : Nat) (hm : ls.length ≤ 9223372036854775807) (q : Nat → Prop) (w : World) (hR : RdL w q (.slice p ls.length c) ls) :
    Calls Tryd.prog 28 #[.slice p ls.length c] w fun e w' => ELPost ls w e w' := by
  have HR := Lib.hid hR
  clear hR
  obtain ⟨i0, hi, hz0, hz1, hz2⟩ := info_parts info_u8
  go_enter Tryd.func28, Tryd.ntmps28
  by_cases hlo : ls.length < 1
  · go_wp2_with fail
    go_ret2
    exact el_err (by unfold encE lenL; rw [if_neg (by simp; omega)]) (by decide) (grown_refl _ _)
  · by_cases hhi : 24 < ls.length
    · go_wp2_with fail
      go_ret2
      exact el_err (by unfold encE lenL; rw [if_neg (by simp; omega)]) (by decide) (grown_refl _ _)
    · have HN : Hid (lenL ls.length = true) := Lib.hid (by unfold lenL; rw [decide_eq_true_eq]; omega)
      go_wp2_with fail
      go_loopw [4, 5] (fun v a wr => ∃ k : Nat, k ≤ ls.length ∧ a = .int .i64 (k : Int) ∧ wr.ownsRow w.heap.size 5 1 v (((partsL ls).take k).flatten).length ((((partsL ls).take k).flatten).map nv) ∧ w.grownBy wr none ∧ ∀ x ∈ ls.take k, vlab x = true) (fun _ a _ => ls.length - (intOf a).toNat)
      case atStart => exact ⟨0, Nat.zero_le _, rfl, World.ownsRow_nil _ _ _ _, grown_refl _ _, fun x hx => by simp at hx⟩
      case round =>
        obtain ⟨k, hk, rfl, hO, hG, hV⟩ := hrel
        have HG := Lib.hid hG
        have HV := Lib.hid hV
        by_cases hlt : k < ls.length
        · obtain ⟨F, hF⟩ : ∃ F, ((partsL ls).take k).flatten = F := ⟨_, rfl⟩
          rw [hF] at hO
          have HO := Lib.hid hO
          have HFF := Lib.hid hF
          obtain ⟨-, b, off, rfl, hq, hc⟩ := (HR.out.keep HG.out).cells (by omega)
          obtain ⟨c0, c1, c2⟩ := hc k hlt
          obtain ⟨l, hl⟩ : ∃ l, ls[k] = l := ⟨_, rfl⟩
          rw [hl] at c0 c1 c2
          have HL : Hid (ls[k]? = some l) := Lib.hid (by rw [← hl]; exact List.getElem?_eq_getElem hlt)
          clear hc hl hO hG hV hF
          go_wp2_with fail
          refine (rlab_any l _).mono ?_
          rintro e w1 ⟨rfl, hg⟩
          have HG1 := Lib.hid (grown_trans HG.out hg)
          have HO1 : Hid (w1.ownsRow w.heap.size 5 1 u4 F.length (F.map nv)) := Lib.hid (HO.out.kept hg (by cases hv : u4.ownBlock <;> simp))
          have d0 := hg.cell c0 (by simp)
          have d1 := hg.cell c1 (by simp)
          have d2 := hg.cell c2 (by simp)
          clear hg c0 c1 c2 HG HO
          cases hv : vlab l
          · go_wp2_with fail
            go_ret2
            exact el_err (by unfold encE; rw [HN.out, all_not HL.out hv]; rfl) (by decide) HG1.out
          · have HVL := Lib.hid hv
            obtain ⟨⟨v0, v1⟩, ⟨v2, v3⟩, v4, v5⟩ := (vlab_iff l).1 hv
            obtain ⟨w0, w1', w2'⟩ := word_int hv
            have HW := Lib.hid (And.intro w0 (And.intro w1' w2'))
            clear hv w0 w1' w2'
            go_wp2_with fail
            go_region
            rw [HW.out.1]
            have HO2 : Hid (w1.drew.ownsRow w.heap.size 5 1 u4 F.length (F.map nv)) := Lib.hid HO1.out.drew
            have HG2 := hid_drew HG1
            have HFL : Hid (F.length ≤ 96) := by
              refine Lib.hid ?_
              have := flat_le (Ls := partsL ls) (k := k)
              rw [HFF.out, partsL_flat, encL_len] at this
              omega
            have hgd : ls.getD k ⟨0, 0, 0⟩ = l := by rw [List.getD_eq_getElem?_getD, HL.out]; rfl
            have hpk := partsL_at hlt
            rw [hgd] at hpk
            have hfn := flat_next hpk
            rw [HFF.out] at hfn
            have HFN := Lib.hid hfn
            clear HO1 HG1 d0 d1 d2 v0 v1 v2 v3 v4 v5 hgd hpk hfn
            generalize w1.drew = w2 at *
            by_cases hz : k + 1 = ls.length
            · have hzz : ((k : Int) == (ls.length : Int) - 1) = true := by rw [beq_iff_eq]; omega
              obtain ⟨n0, hn0⟩ : ∃ n0, wordL l false = n0 := ⟨_, rfl⟩
              have hb32 : n0 < 4294967296 := by have := HW.out.2; omega
              obtain ⟨n, hn⟩ : ∃ n, wordL l true = n := ⟨_, rfl⟩
              have hnn : ((n0 : Nat) : Int) + 256 = ((n : Nat) : Int) := by have := HW.out.2.1; omega
              have hn32 : n < 4294967296 := by have := HW.out.2.2; omega
              have HP : Hid (((partsL ls).take (k + 1)).flatten = F ++ by4 n) := Lib.hid (by rw [HFN.out, decide_eq_true hz, hn])
              rw [hn0]
              clear hn0 hn
              go_upto_region 12 with fail
              try rw [hnn]
              go_wp2_with (at_builtin; refine wpList_append_own _ rfl _ _ 23 rfl w.heap.size 5 i0 (.int .u8 0) 1 1 Tryd.underlying23 hi hz0 hz1 hz2 rfl (by decide) _ _ _ rfl (HO2.out.alloc _) ⟨w2.heap.size, 0, none⟩ 4 4 ((by4 n).map nv) rfl (by rw [List.length_map, by4_len]) ?c1 ?c2 ?c3 ?c4 ?c5 ?_)
              case c1 => exact cells4 _ n hn32 _
              case c2 => exact nv_one
              case c3 => have := HFL.out; unfold maxLen; omega
              case c4 => have := HFL.out; omega
              case c5 => have := HG2.out.size; simp; omega
              intro v' w3 hown hg _
              have HO3 : Hid (w3.ownsRow w.heap.size 5 1 v' (((partsL ls).take (k + 1)).flatten).length ((((partsL ls).take (k + 1)).flatten).map nv)) := Lib.hid (by rw [HP.out, List.length_append, List.map_append, by4_len]; exact hown)
              have HG3 := Lib.hid (own_step HG2.out HO2.out hg)
              clear hown hg HO2 HG2
              go_wp2_with fail
              refine ⟨⟨k + 1, by omega, by go_num, HO3.out, HG3.out, fun x hx => ?_⟩, by simp [intOf]; omega⟩
              rw [List.take_add_one, HL.out] at hx
              rcases List.mem_append.1 hx with hx | hx
              · exact HV.out x hx
              · obtain rfl : x = l := by simpa using hx
                exact HVL.out
            · have hzz : ((k : Int) == (ls.length : Int) - 1) = false := by
                rw [Bool.eq_false_iff, Ne, beq_iff_eq]
                omega
              obtain ⟨n, hn⟩ : ∃ n, wordL l false = n := ⟨_, rfl⟩
              have hn32 : n < 4294967296 := by have := HW.out.2; omega
              have HP : Hid (((partsL ls).take (k + 1)).flatten = F ++ by4 n) := Lib.hid (by rw [HFN.out, decide_eq_false hz, hn])
              rw [hn]
              clear hn
              go_wp2_with (at_builtin; refine wpList_append_own _ rfl _ _ 23 rfl w.heap.size 5 i0 (.int .u8 0) 1 1 Tryd.underlying23 hi hz0 hz1 hz2 rfl (by decide) _ _ _ rfl (HO2.out.alloc _) ⟨w2.heap.size, 0, none⟩ 4 4 ((by4 n).map nv) rfl (by rw [List.length_map, by4_len]) ?c1 ?c2 ?c3 ?c4 ?c5 ?_)
              case c1 => exact cells4 _ n hn32 _
              case c2 => exact nv_one
              case c3 => have := HFL.out; unfold maxLen; omega
              case c4 => have := HFL.out; omega
              case c5 => have := HG2.out.size; simp; omega
              intro v' w3 hown hg _
              have HO3 : Hid (w3.ownsRow w.heap.size 5 1 v' (((partsL ls).take (k + 1)).flatten).length ((((partsL ls).take (k + 1)).flatten).map nv)) := Lib.hid (by rw [HP.out, List.length_append, List.map_append, by4_len]; exact hown)
              have HG3 := Lib.hid (own_step HG2.out HO2.out hg)
              clear hown hg HO2 HG2
              go_wp2_with fail
              refine ⟨⟨k + 1, by omega, by go_num, HO3.out, HG3.out, fun x hx => ?_⟩, by simp [intOf]; omega⟩
              rw [List.take_add_one, HL.out] at hx
              rcases List.mem_append.1 hx with hx | hx
              · exact HV.out x hx
              · obtain rfl : x = l := by simpa using hx
                exact HVL.out
        · obtain rfl : k = ls.length := by omega
          have e : (partsL ls).take ls.length = partsL ls := by rw [← partsL_len ls, List.take_length]
          rw [e, partsL_flat] at hO
          obtain ⟨p2, c2, rfl, hpc⟩ := own_parts hO
          have HO := Lib.hid hO
          have he : encE ls = 0 := by
            unfold encE
            have := HV.out
            rw [List.take_length] at this
            rw [HN.out, List.all_eq_true.2 this]; rfl
          have hb : encB ls = encL ls := by unfold encB; rw [if_pos he]
          have HE := Lib.hid (And.intro he hb)
          clear hO hG hV e he hb
          go_wp2_with fail
          go_ret2
          refine ⟨p2, c2, by rw [HE.out.2, HE.out.1]; rfl, by rw [HE.out.2]; exact ⟨HO.out, hpc, encL_by ls⟩, HG.out⟩
end Go.Proofs.YtpombmpkccnefaaDoor

/- packet: the reference's Valid, Size, Plane. -/
namespace Go.Proofs.YtpombmpkccnefaaDoor
open Go.RowKit Bs
def ins (n m : Int) : Bool := decide (0 ≤ n ∧ n ≤ m)
set_option maxRecDepth 100000 in
theorem inside_any (n m : Int) (w : World) :
    Calls Tryd.prog 85 #[.int .i64 n, .int .i64 m] w fun e w' => e = .returned (.bool (ins n m)) ∧ w = w' := by
  by_cases h : 0 ≤ n
  · by_cases h2 : n ≤ m
    · have hi : Hid (ins n m = true) := Lib.hid (decide_eq_true ⟨h, h2⟩)
      go_enter Tryd.func85, Tryd.ntmps85
      go_wp2
      all_goals (go_ret; exact ⟨by rw [hi.out]; first | rfl | (simp; omega), rfl⟩)
    · have hi : Hid (ins n m = false) := Lib.hid (decide_eq_false (by omega))
      go_enter Tryd.func85, Tryd.ntmps85
      go_wp2
      all_goals (go_ret; exact ⟨by rw [hi.out]; first | rfl | (simp; omega), rfl⟩)
  · have hi : Hid (ins n m = false) := Lib.hid (decide_eq_false (by omega))
    go_enter Tryd.func85, Tryd.ntmps85
    go_wp2
    all_goals (go_ret; exact ⟨by rw [hi.out]; first | rfl | (simp; omega), rfl⟩)
set_option maxRecDepth 100000 in
theorem vpk_iff (P : Pk) : vpk P = (decide (1 ≤ P.mode) && (decide (P.mode ≤ 3) && (ins P.sub 7 && (ins P.set 31 && (vb P.bits P.len && (ins P.ttl 63 && (ins P.ent 1023 && (ins P.ing 256 && (ins P.pro 7 && decide (P.pay.size ≤ 64)))))))))) := by
  unfold vpk ins
  rw [Bool.eq_iff_iff]
  simp only [decide_eq_true_eq, Bool.and_eq_true]
  constructor
  · rintro ⟨⟨h1, h2⟩, h3, h4, h5, h6, h7, h8, h9, h10⟩
    exact ⟨h1, h2, h3, h4, h10, h5, h6, h7, h8, h9⟩
  · rintro ⟨h1, h2, h3, h4, h10, h5, h6, h7, h8, h9⟩
    exact ⟨⟨h1, h2⟩, h3, h4, h5, h6, h7, h8, h9, h10⟩
set_option maxRecDepth 100000 in
set_option maxHeartbeats 3200000 in
theorem rvalid_any (P : Pk) (hP : P.Wf) (w : World) :
    Calls Tryd.prog 43 #[P.val] w fun e w' => e = .returned (.bool (vpk P)) ∧ w.grownBy w' none := by
  have hval : P.val = .agg #[.int .i64 P.mode, .int .i64 P.sub, .int .i64 P.set, .int .i64 P.len, .int .i64 P.ttl, .int .i64 P.ent, .int .i64 P.ing, .int .i64 P.pro, .int .u64 (P.bits : Int), .string P.pay] := rfl
  rw [hval]
  go_enter Tryd.func43, Tryd.ntmps43
  obtain ⟨k1, k2⟩ := one_box w (pcells P) 31
  have HA := Lib.hid (And.intro k1 k2)
  unfold pcells at HA
  clear k1 k2
  by_cases hs : P.pay.size ≤ 64
  · have hsi : ((P.pay.size : Nat) : Int) ≤ 64 := by omega
    go_wp2_with (first
      | (go_at_call 85; refine (inside_any _ _ _).mono ?_; rintro e w' ⟨rfl, rfl⟩)
      | (go_at_call 86; refine (bvalidr_any P.bits P.len hP.bits _).mono ?_; rintro e w' ⟨rfl, rfl⟩))
    all_goals
      go_ret
      refine ⟨?_, HA.out.2⟩
      first
        | (rw [show vpk P = false by (rw [vpk_iff]; first | (simp [*]; done) | (rw [decide_eq_false (show ¬ 1 ≤ P.mode by omega)]; rfl) | (rw [decide_eq_false (show ¬ P.mode ≤ 3 by omega), Bool.false_and, Bool.and_false]))]; rfl)
        | (rw [show vpk P = true by rw [vpk_iff]; simp [*]]; rfl)
  · have hsi : ¬ ((P.pay.size : Nat) : Int) ≤ 64 := by omega
    go_wp2_with (first
      | (go_at_call 85; refine (inside_any _ _ _).mono ?_; rintro e w' ⟨rfl, rfl⟩)
      | (go_at_call 86; refine (bvalidr_any P.bits P.len hP.bits _).mono ?_; rintro e w' ⟨rfl, rfl⟩))
    all_goals
      go_ret
      refine ⟨?_, HA.out.2⟩
      first
        | (rw [show vpk P = false by (rw [vpk_iff]; first | (simp [*]; done) | (rw [decide_eq_false (show ¬ 1 ≤ P.mode by omega)]; rfl) | (rw [decide_eq_false (show ¬ P.mode ≤ 3 by omega), Bool.false_and, Bool.and_false]))]; rfl)
        | (rw [show vpk P = false by (rw [vpk_iff]; simp [*]), decide_eq_false (show ¬ ((P.pay.size : Nat) : Int) ≤ 64 by omega)]; rfl)
set_option maxRecDepth 100000 in
theorem rsz_any (n m : Nat) (hn : n ≤ 10000) (hm : m ≤ 1000) (w : World) :
    Calls Tryd.prog 62 #[.int .i64 (n : Int), .int .i64 (m : Int)] w fun e w' => e = .returned (.int .i64 (((49 + n + 8 * m + 16 + 7) / 8 : Nat) : Int)) ∧ w = w' := by
  go_enter Tryd.func62, Tryd.ntmps62
  go_wp2
  all_goals (go_ret; exact ⟨by go_num, rfl⟩)
end Go.Proofs.YtpombmpkccnefaaDoor

/- The reference's Repeats and ValidFrame. -/
namespace Go.Proofs.YtpombmpkccnefaaDoor
open Go.RowKit Bs
set_option maxRecDepth 100000 in
set_option maxHeartbeats 3200000 in
theorem rrep_any (r : List Int) (p : Option Addr) (c : Nat) (q : Nat → Prop) (w : World) (hR : Rd w q (.slice p r.length c) (r.map iv)) (hm : r.length ≤ 9223372036854775807) :
    Calls Tryd.prog 76 #[.slice p r.length c] w fun e w' => e = .returned (.bool (rep r)) ∧ w.grownBy w' none := by
  have HR := Lib.hid hR
  clear hR
  go_enter Tryd.func76, Tryd.ntmps76
  go_wp2_with fail
  go_loopw [3] (fun a wr => ∃ k : Nat, k ≤ r.length ∧ a = .int .i64 (k : Int) ∧ Hid (w.grownBy wr none) ∧ Hid (∀ j, j < k → (r.take j).contains (r.getD j 0) = false)) (fun a _ => r.length - (intOf a).toNat)
  case atStart => exact ⟨0, Nat.zero_le _, rfl, Lib.hid (grown_refl _ _), Lib.hid fun j hj => absurd hj (Nat.not_lt_zero _)⟩
  case round =>
    obtain ⟨k, hk, rfl, hG, hN⟩ := hrel
    by_cases hlt : k < r.length
    · obtain ⟨y, hy⟩ : ∃ y, r.getD k 0 = y := ⟨_, rfl⟩
      have HY := Lib.hid hy
      clear hy
      go_wp2_with fail
      go_loopw [4] (fun a wi => ∃ m : Nat, m ≤ k ∧ a = .int .i64 (m : Int) ∧ Hid (w.grownBy wi none) ∧ Hid (∀ j, j < m → r.getD j 0 ≠ y)) (fun a _ => k - (intOf a).toNat)
      case atStart => exact ⟨0, Nat.zero_le _, rfl, hG, Lib.hid fun j hj => absurd hj (Nat.not_lt_zero _)⟩
      case round =>
        obtain ⟨m, hmk, rfl, hG2, hN2⟩ := hrel
        by_cases hm2 : m < k
        · obtain ⟨b, off, rfl, _, hc⟩ := rdi_cells (HR.out.keep hG2.out) (by omega)
          have c0 := hc k hlt
          have c1 := hc m (by omega)
          rw [HY.out] at c0
          obtain ⟨z, hz⟩ : ∃ z, r.getD m 0 = z := ⟨_, rfl⟩
          rw [hz] at c1
          have HZ := Lib.hid hz
          have hml : m < r.length := by omega
          clear hc hz
          by_cases e : y = z
          · subst e
            go_wp2_with fail
            go_region
            change Exit.then _ _ _ _ wr.drew
            have HG3 := Lib.hid (grown_drew hG2.out)
            clear c0 c1 hG2 hG
            generalize wr.drew = w2 at *
            go_wp2_with fail
            go_ret
            rw [rep_hit hlt HY.out (by
              rw [List.contains_iff_mem]
              have h3 := HZ.out
              rw [List.getD_eq_getElem?_getD, List.getElem?_eq_getElem hml] at h3
              rw [← show r[m] = y from h3]
              exact List.mem_of_getElem? (i := m) (by rw [List.getElem?_take, if_pos hm2, List.getElem?_eq_getElem hml]))]
            exact ⟨rfl, HG3.out⟩
          · have eb : (y == z) = false := by simpa using e
            go_wp2_with fail
            go_region
            change Exit.then _ _ _ _ wr.drew
            have HG3 := Lib.hid (grown_drew hG2.out)
            clear c0 c1 hG2 hG
            generalize wr.drew = w2 at *
            go_wp2_with fail
            refine ⟨⟨m + 1, by omega, by go_num, HG3, Lib.hid fun j hj => ?_⟩, by simp [intOf]; omega⟩
            by_cases h2 : j = m
            · subst h2
              rw [HZ.out]
              exact fun h => e h.symm
            · exact hN2.out j (by omega)
        · obtain rfl : m = k := by omega
          go_wp2_with fail
          refine ⟨⟨m + 1, by omega, by go_num, hG2, Lib.hid fun j hj => ?_⟩, by simp [intOf]; omega⟩
          by_cases h2 : j = m
          · subst h2
            rw [HY.out, Bool.eq_false_iff]
            intro hcn
            rw [List.contains_iff_mem] at hcn
            obtain ⟨i, hi, he⟩ := List.getElem_of_mem hcn
            rw [List.length_take] at hi
            refine hN2.out i (by omega) ?_
            rw [List.getD_eq_getElem?_getD, List.getElem?_eq_getElem (by omega)]
            rw [List.getElem_take] at he
            exact he
          · exact hN.out j (by omega)
    · obtain rfl : k = r.length := by omega
      go_wp2_with fail
      go_ret
      rw [rep_miss hN.out]
      exact ⟨rfl, hG.out⟩
set_option maxRecDepth 100000 in
set_option maxHeartbeats 3200000 in
theorem rvfr_any (r : List Int) (P : Pk) (hP : P.Wf) (p : Option Addr) (c : Nat) (hm : r.length ≤ 9223372036854775807) (q : Nat → Prop) (w : World) (hR : Rd w q (.slice p r.length c) (r.map iv)) :
    Calls Tryd.prog 23 #[fval (.slice p r.length c) P] w fun e w' => e = .returned (.bool (vfr r P)) ∧ w.grownBy w' none := by
  unfold fval
  obtain ⟨k1, k2⟩ := sone_box w (frcells (.slice p r.length c) P) 43
  have HK : Hid ((w.alloc (.cells (frcells (.slice p r.length c) P) 43)).heap[w.heap.size]? = some (.cells (frcells (.slice p r.length c) P) 43 (0, 0)) ∧ w.grownBy (w.alloc (.cells (frcells (.slice p r.length c) P) 43)) none) := Lib.hid ⟨k1, k2⟩
  obtain ⟨c0, c1, c2, c3, c4, c5, c6, c7, c8, c9, c10⟩ := fr_facts k1
  have HR := Lib.hid (hR.keep k2)
  have hval : P.val = .agg #[.int .i64 P.mode, .int .i64 P.sub, .int .i64 P.set, .int .i64 P.len, .int .i64 P.ttl, .int .i64 P.ent, .int .i64 P.ing, .int .i64 P.pro, .int .u64 (P.bits : Int), .string P.pay] := rfl
  have HV := Lib.hid hval
  clear k1 k2 hR hval
  have HF := Lib.hid (show frcells (.slice p r.length c) P = #[.slice p r.length c, .int .i64 P.mode, .int .i64 P.sub, .int .i64 P.set, .int .i64 P.len, .int .i64 P.ttl, .int .i64 P.ent, .int .i64 P.ing, .int .i64 P.pro, .int .u64 (P.bits : Int), .string P.pay] from rfl)
  rw [HF.out] at HK HR c0 c1 c2 c3 c4 c5 c6 c7 c8 c9 c10
  go_enter Tryd.func23, Tryd.ntmps23
  go_upto_region 1 with fail
  generalize w.alloc _ = wa at *
  by_cases h24 : r.length ≤ 24
  · cases hr : rep r
    · go_wp2_with (go_at_call 76; refine (rrep_any r p c q wa HR.out hm).mono ?_; rw [hr]; rintro e w1 ⟨rfl, hg⟩; have HG1 := Lib.hid hg; clear hg)
      have HK1 := Lib.hid (And.intro (kept_row HK.out.1 HG1.out (by simp)) (grown_trans HK.out.2 HG1.out))
      have HR1 := Lib.hid (HR.out.keep HG1.out)
      clear c0 c1 c2 c3 c4 c5 c6 c7 c8 c9 c10 HR HK HG1
      rw [← HF.out] at HK1
      obtain ⟨c0, c1, c2, c3, c4, c5, c6, c7, c8, c9, c10⟩ := fr_facts HK1.out.1
      go_loopw [3] (fun a wr => ∃ k : Nat, k ≤ r.length ∧ a = .int .i64 (k : Int) ∧ wr = w1 ∧ Hid (∀ j, j < k → okR (r.getD j 0) = true)) (fun a _ => r.length - (intOf a).toNat)
      case atStart => exact ⟨0, Nat.zero_le _, rfl, rfl, Lib.hid fun j hj => absurd hj (Nat.not_lt_zero _)⟩
      case round =>
        obtain ⟨k, hk, rfl, rfl, hN⟩ := hrel
        by_cases hlt : k < r.length
        · obtain ⟨b, off, rfl, _, hc⟩ := rdi_cells HR1.out (by omega)
          have d0 := hc k hlt
          obtain ⟨y, hy⟩ : ∃ y, r.getD k 0 = y := ⟨_, rfl⟩
          rw [hy] at d0
          have HY := Lib.hid hy
          clear hc hy
          have hbad : okR y = false → vfr r P = false := by
            intro h
            have : allR r = false := by
              rw [Bool.eq_false_iff]
              intro ha
              have h3 := HY.out
              rw [List.getD_eq_getElem?_getD, List.getElem?_eq_getElem hlt] at h3
              have := List.all_eq_true.1 ha _ (List.getElem_mem hlt)
              rw [show r[k] = y from h3, h] at this
              cases this
            unfold vfr
            rw [this]; simp
          have HBAD := Lib.hid hbad
          clear hbad
          by_cases h1 : y < 1
          · go_wp2_with fail
            go_ret
            rw [HBAD.out (by unfold okR; rw [decide_eq_false_iff_not]; omega)]
            exact ⟨rfl, HK1.out.2⟩
          · by_cases h2 : 99 < y
            · go_wp2_with fail
              go_ret
              rw [HBAD.out (by unfold okR; rw [decide_eq_false_iff_not]; omega)]
              exact ⟨rfl, HK1.out.2⟩
            · go_wp2_with fail
              refine ⟨⟨k + 1, by omega, by go_num, by trivial, Lib.hid fun j hj => ?_⟩, by simp [intOf]; omega⟩
              by_cases h3 : j = k
              · subst h3
                rw [HY.out]
                unfold okR
                rw [decide_eq_true_eq]; omega
              · exact hN.out j (by omega)
        · obtain rfl : k = r.length := by omega
          have ha : allR r = true := by
            refine List.all_eq_true.2 fun x hx => ?_
            obtain ⟨i, hi, he⟩ := List.getElem_of_mem hx
            have := hN.out i hi
            rw [List.getD_eq_getElem?_getD, List.getElem?_eq_getElem hi] at this
            rw [← he]; exact this
          have HA : Hid (vfr r P = vpk P) := Lib.hid (by unfold vfr; rw [ha, hr, decide_eq_true h24]; simp)
          clear ha hN
          go_wp2_with fail
          rw [← HV.out]
          refine (rvalid_any P hP _).mono ?_
          rintro e w2 ⟨rfl, hg⟩
          have HG2 := Lib.hid hg
          clear hg
          go_wp2_with fail
          go_ret
          rw [HA.out]
          exact ⟨rfl, grown_trans HK1.out.2 HG2.out⟩
    · go_wp2_with (go_at_call 76; refine (rrep_any r p c q wa HR.out hm).mono ?_; rw [hr]; rintro e w1 ⟨rfl, hg⟩; have HG1 := Lib.hid hg; clear hg)
      go_ret
      have : vfr r P = false := by unfold vfr; rw [hr]; simp
      rw [this]
      exact ⟨rfl, grown_trans HK.out.2 HG1.out⟩
  · go_wp2_with fail
    go_ret
    have : vfr r P = false := by unfold vfr; rw [decide_eq_false h24]; rfl
    rw [this]
    exact ⟨rfl, HK.out.2⟩
end Go.Proofs.YtpombmpkccnefaaDoor

/- packet: the reference's Size and Plane. -/
namespace Go.Proofs.YtpombmpkccnefaaDoor
open Go.RowKit Bs
end Go.Proofs.YtpombmpkccnefaaDoor

/- The reference's Slice. -/
namespace Go.Proofs.YtpombmpkccnefaaDoor
open Go.RowKit Bs
set_option maxRecDepth 100000 in
theorem put_val {f : Nat → Bool} {m : Nat} {x : Value} (hx : bw (f m) = x) (l : List Nat) (q : Nat → Prop) (p : Option Addr) (c : Nat) (hm : m ≤ 9000) (hl : l = pz f m ((m + 7) / 8)) (hpc : p = none → c = 0) (w : World) (hR : Rd w q (.slice p l.length c) (l.map nv)) :
    Calls Tryd.prog 88 #[.agg #[.slice p l.length c, .int .i64 (m : Int)], x] w fun e w' => StreamPost (pz f (m + 1) ((m + 8) / 8)) ((m + 1 : Nat) : Int) w e w' := by
  subst hx
  exact put_any f m l q p c hm hl hpc w hR
set_option maxRecDepth 100000 in
theorem BoxAt.drew {W w' : World} {b r : Nat} {p : Option Addr} {c : Nat} {l : List Nat} {n : Int} (h : BoxAt W b r p c l n w') : BoxAt W b r p c l n w'.drew := h.keep (grown_drew (grown_refl _ _))
set_option maxRecDepth 100000 in
set_option maxHeartbeats 3200000 in
theorem slicer_any (l : List Nat) (n a b : Int) (q : Nat → Prop) (p : Option Addr) (c : Nat) (hl : By l) (ha : I64 a) (hb : I64 b) (w : World) (hq : ∀ b, q b → b < w.heap.size) (hR : Rd w q (.slice p l.length c) (l.map nv)) :
    Calls Tryd.prog 63 #[.agg #[.slice p l.length c, .int .i64 n], .int .i64 a, .int .i64 b] w fun e w' => RPost (slV l n a b) w e w' := by
  obtain ⟨k1, k2, k3, k4⟩ := two_boxes w #[.slice p l.length c, .int .i64 n] #[.slice none 0 0, .int .i64 0] 75 75
  have H0 := Lib.hid (And.intro k1 (And.intro k2 (And.intro k3 k4)))
  have hR1 := hR.keep k3
  have hq1 : ∀ b, q b → b < ((w.alloc (.cells #[.slice p l.length c, .int .i64 n] 75)).alloc (.cells #[.slice none 0 0, .int .i64 0] 75)).heap.size := fun b hb => Nat.lt_of_lt_of_le (hq b hb) k3.size
  unfold I64 at ha hb
  clear k1 k2 k3 k4
  go_enter Tryd.func63, Tryd.ntmps63
  go_wp2_with fail
  generalize (w.alloc (.cells #[.slice p l.length c, .int .i64 n] 75)).alloc (.cells #[.slice none 0 0, .int .i64 0] 75) = w1 at *
  refine (validr_any l n q p c hl _ hq1 hR1).mono ?_
  rintro e w2 ⟨rfl, hg⟩
  have HROW := Lib.hid (kept_row H0.out.1 hg (by simp))
  have HRES := Lib.hid (kept_row H0.out.2.1 hg (by simp))
  obtain ⟨c0, c1⟩ := row_cells HROW.out
  obtain ⟨r0, r1⟩ := row_cells HRES.out
  have g0 := frozen_of_row _ _ 0 _ _ HRES.out
  have g1 := frozen_of_row _ _ 1 _ _ HRES.out
  have HG := Lib.hid (grown_trans H0.out.2.2.1 hg)
  have HSZ : Hid (w.heap.size + 2 ≤ w2.heap.size) := Lib.hid (by rw [← H0.out.2.2.2]; exact hg.size)
  clear hg hR1 H0 hq1
  by_cases hv : vs l n = true
  · obtain ⟨N, rfl⟩ := vs_nat hv
    obtain ⟨hN, hlen⟩ := vs_bits hv
    rw [hv]
    by_cases h1 : a < 0
    · have V := Lib.hid (slV_range (b := b) hv (.inl h1))
      clear hv hlen
      go_wp2_with fail
      refine bodyPost_ret (res_stream_err rfl _ _ (w.heap.size + 1) _ _ rfl (store2 HRES.out)) rfl ?_
      exact RPost.err V.out HG.out (by omega)
    · by_cases h2 : b < a
      · have V := Lib.hid (slV_range hv (.inr (.inl h2)))
        clear hv hlen
        go_wp2_with fail
        refine bodyPost_ret (res_stream_err rfl _ _ (w.heap.size + 1) _ _ rfl (store2 HRES.out)) rfl ?_
        exact RPost.err V.out HG.out (by omega)
      · by_cases h3 : (N : Int) < b
        · have V := Lib.hid (slV_range (a := a) hv (.inr (.inr h3)))
          clear hv hlen
          go_wp2_with fail
          refine bodyPost_ret (res_stream_err rfl _ _ (w.heap.size + 1) _ _ rfl (store2 HRES.out)) rfl ?_
          exact RPost.err V.out HG.out (by omega)
        · obtain ⟨A, rfl⟩ := Int.eq_ofNat_of_zero_le (show 0 ≤ a by omega)
          obtain ⟨B, rfl⟩ := Int.eq_ofNat_of_zero_le (show 0 ≤ b by omega)
          obtain ⟨T, hB⟩ : ∃ T : Nat, A + T = B := ⟨B - A, by omega⟩
          have hBN : B ≤ N := by omega
          have V := Lib.hid (slV_ok hv hB hBN)
          have HL := Lib.hid hlen
          have hA8 : A ≤ 8192 := by omega
          have hT8 : T ≤ 8192 := by omega
          have hBA : ¬ B < A := by omega
          have hNB : ¬ N < B := by omega
          have dBA : decide (B < A) = false := by simpa using hBA
          have dNB : decide (N < B) = false := by simpa using hNB
          have dA0 : decide ((A : Int) < 0) = false := by simp
          have hB8 : B ≤ 8192 := by omega
          obtain ⟨t1, t2⟩ := one_box w2 #[.slice none 0 0, .int .i64 0] 75
          obtain ⟨D, hD⟩ : ∃ D : Nat, D = w2.heap.size := ⟨_, rfl⟩
          have P0 : Hid (PutsRel (fun i => bt l (A + i)) w D (w.heap.size + 1) 0 0 (w2.alloc (.cells #[.slice none 0 0, .int .i64 0] 75))) := by
            refine Lib.hid ⟨none, 0, ?_⟩
            rw [hD]
            exact ⟨t1, kept_row HRES.out t2 (by simp), Rd.nil_ _ _ _ _, fun _ => rfl, (fun x hx => by cases hx), grown_trans HG.out t2⟩
          have Q0 := Lib.hid (kept_row HROW.out t2 (by simp))
          have S0 : Hid (D + 1 ≤ (w2.alloc (.cells #[.slice none 0 0, .int .i64 0] 75)).heap.size) := Lib.hid (by rw [hD]; simp)
          have hWD : w.heap.size + 2 ≤ D := by rw [hD]; exact HSZ.out
          have HB := Lib.hid hB
          have HRR := Lib.hid hR
          clear hv hlen t1 t2 hB r0 r1 g0 g1 hR
          have hDs : w2.heap.size = D := hD.symm
          clear hD
          go_wp2_with fail
          go_loopw [9] (fun i wr => ∃ j : Nat, j ≤ T ∧ i = .int .i64 ((A + j : Nat) : Int) ∧ PutsRel (fun i => bt l (A + i)) w D (w.heap.size + 1) 0 j wr ∧ D + 1 ≤ wr.heap.size ∧ wr.heap[w.heap.size]? = some (.cells #[.slice p l.length c, .int .i64 (N : Int)] 75 (0, 0))) (fun i _ => (B - (intOf i).toNat))
          case atStart => exact ⟨0, Nat.zero_le _, rfl, P0.out, S0.out, Q0.out⟩
          case round =>
            obtain ⟨j, hj, rfl, hP, hsz, hrow⟩ := hrel
            obtain ⟨p1, c1, l1, HL1, hB1⟩ := hP.open_
            have HZ := Lib.hid hsz
            have HRW := Lib.hid hrow
            obtain ⟨m, hm⟩ : ∃ m : Nat, 0 + j = m := ⟨_, rfl⟩
            rw [hm] at HL1 hB1
            have HB1 := Lib.hid hB1
            clear hP hB1 P0 S0 Q0 hsz hrow
            by_cases hlt : j < T
            · have hmj : m = j := by omega
              obtain ⟨xv, hxv⟩ : ∃ xv : Value, bw (bt l (A + j)) = xv := ⟨_, rfl⟩
              have HRd := HRR.out.keep HB1.out.drew.gr
              have C1 := bitr_any l (A + j) q p c hl (by have := HL.out; have := HB.out; omega) (by omega) wr.drew HRd
              rw [hxv] at C1
              have C2 := put_val (f := fun i => bt l (A + i)) (m := m) (x := xv) (by rw [← hxv, hmj]) l1 _ p1 c1 (by omega) HL1.out HB1.out.pc wr.drew HB1.out.drew.rd
              obtain ⟨l3, hl3⟩ : ∃ l3, l3 = pz (fun i => bt l (A + i)) (m + 1) ((m + 8) / 8) := ⟨_, rfl⟩
              rw [← hl3] at C2
              have H1 := Lib.hid C1
              have H2 := Lib.hid C2
              have HL3 := Lib.hid hl3
              have HM := Lib.hid hm
              obtain ⟨b0, b1, f0, f1, r0, r1, g0, g1⟩ := HB1.out.limbs
              obtain ⟨c0, c2⟩ := row_cells HRW.out
              have hAj : A + j ≤ 8192 := by have := HB.out; omega
              have hAjB : A + j < B := by have := HB.out; omega
              have hm9 : m ≤ 8192 := by omega
              clear C1 C2 hl3 hm hxv HRd hmj
              generalize hE : A + j = E at *
              have HE := Lib.hid hE
              clear hE
              go_wp2_with fail
              go_region_law (first
                | (go_simp; go_at_call 89; refine H1.out.mono ?_; rintro e w' ⟨rfl, rfl⟩)
                | (go_simp; go_at_call 88; refine H2.out.mono ?_; rintro e w3 ⟨p3, c3, rfl, hown3, hg3⟩; obtain ⟨x0, x1, y0, y1, z0, z1, u0, u1⟩ := (HB1.out.drew.keep hg3).limbs))
              all_goals
                have HB3 := Lib.hid (HB1.out.drew.keep hg3)
                have hD3 : D < wr.drew.heap.size := by have := HZ.out; show D < wr.heap.size; omega
                have R := puts_next (f := fun i => bt l (A + i)) (N := 0) (j := j) HB3 HM.out HL3.out hown3 (by omega) (by omega) hD3 (by omega)
                have R2 : Hid (D + 1 ≤ w3.heap.size) := Lib.hid (Nat.le_trans HZ.out hg3.size)
                have R3 := Lib.hid (kept_row (kept_row HRW.out (grown_trans (grown_drew (grown_refl _ none)) hg3) (by simp)) (grown_store2 w3 D (.slice p3 l3.length c3) (.int .i64 ((m : Int) + 1))) (by intro e; have := Option.some.inj e; omega))
                clear hown3 hg3 HB3 hD3
                go_wp2_with fail
                go_roundw
                case rel => exact ⟨j + 1, by omega, by congr 1; have := HE.out; omega, R.out, by simpa using R2.out, R3.out⟩
                case measure => simp [intOf]; omega
            · obtain rfl : j = T := by omega
              obtain ⟨b0, b1, f0, f1, r0, r1, g0, g1⟩ := HB1.out.limbs
              have F := Lib.hid (HB1.out.fin (V := slV l (N : Int) (A : Int) (B : Int)) (by rw [V.out, HL1.out, show m = j by omega]) (by omega))
              have hE : A + j = B := HB.out
              rw [hE]
              clear HB1 hE hm
              go_wp2_with fail
              refine bodyPost_ret (res_stream_err rfl _ _ (w.heap.size + 1) _ _ rfl F.out.1) rfl ?_
              exact F.out.2
  · have hv0 : vs l n = false := by simpa using hv
    have V := Lib.hid (slV_inv (a := a) (b := b) hv0)
    rw [hv0]
    go_wp2_with fail
    refine bodyPost_ret (res_stream_err rfl _ _ (w.heap.size + 1) _ _ rfl (store2 HRES.out)) rfl ?_
    exact RPost.err V.out HG.out (by omega)
end Go.Proofs.YtpombmpkccnefaaDoor

/- The reference's Join and Align. -/
namespace Go.Proofs.YtpombmpkccnefaaDoor
open Go.RowKit Bs
set_option maxRecDepth 100000 in
theorem pz_valid {l : List Nat} {N : Nat} {f : Nat → Bool} (hl : By l) (hv : vs l (N : Int) = true) (hf : ∀ i, i < N → f i = bt l i) : l = pz f N ((N + 7) / 8) := by
  have e := pz_copy (M := l.length) hl hv (Nat.le_refl _) hf
  rw [List.drop_of_length_le (by simp), List.append_nil, (vs_bits hv).2] at e
  exact e
set_option maxRecDepth 100000 in
set_option maxHeartbeats 3200000 in
theorem alignr_any (l : List Nat) (n : Int) (q : Nat → Prop) (p : Option Addr) (c : Nat) (hl : By l) (hpc : p = none → c = 0) (w : World) (hq : ∀ b, q b → b < w.heap.size) (hR : Rd w q (.slice p l.length c) (l.map nv)) :
    Calls Tryd.prog 48 #[.agg #[.slice p l.length c, .int .i64 n]] w fun e w' => RPost (alV l n) w e w' := by
  obtain ⟨k1, k2, k3, k4⟩ := two_boxes w #[.slice p l.length c, .int .i64 n] #[.slice none 0 0, .int .i64 0] 75 75
  have hR1 := hR.keep k3
  have H0 := Lib.hid (show BoxAt w w.heap.size (w.heap.size + 1) p c l n _ from ⟨k1, k2, hR1.mono fun x hx => by have := hq x hx; exact ⟨by omega, by omega⟩, hpc, hl, k3⟩)
  have HZ0 := Lib.hid k4
  have hq1 : ∀ b, q b → b < ((w.alloc (.cells #[.slice p l.length c, .int .i64 n] 75)).alloc (.cells #[.slice none 0 0, .int .i64 0] 75)).heap.size := fun b hb => Nat.lt_of_lt_of_le (hq b hb) k3.size
  clear k1 k2 k3 k4 hR
  go_enter Tryd.func48, Tryd.ntmps48
  go_wp2_with fail
  generalize (w.alloc (.cells #[.slice p l.length c, .int .i64 n] 75)).alloc (.cells #[.slice none 0 0, .int .i64 0] 75) = w1 at *
  refine (validr_any l n q p c hl _ hq1 hR1).mono ?_
  rintro e w2 ⟨rfl, hg⟩
  have HB := Lib.hid (H0.out.keep hg)
  have HSZ2 : Hid (w.heap.size + 2 ≤ w2.heap.size) := Lib.hid (by rw [← HZ0.out]; exact hg.size)
  clear hg hR1 H0 hq1 HZ0
  obtain ⟨c0, c1, f0, f1, r0, r1, g0, g1⟩ := HB.out.limbs
  by_cases hv : vs l n = true
  · have V := Lib.hid (alV_ok hv)
    obtain ⟨N, rfl⟩ := vs_nat hv
    obtain ⟨hN, hlen⟩ := vs_bits hv
    rw [hv]
    have P0 : Hid (PutsRel (bt l) w w.heap.size (w.heap.size + 1) N 0 w2) := by
      refine Lib.hid ⟨p, c, ?_⟩
      show BoxAt w w.heap.size (w.heap.size + 1) p c (pz (bt l) N ((N + 7) / 8)) (N : Int) w2
      rw [← pz_valid hl hv fun _ _ => rfl]
      exact HB.out
    have HV := Lib.hid hv
    have HL := Lib.hid hlen
    clear hv hlen HB f0 f1 r0 r1 g0 g1 c0 c1
    go_wp2_with fail
    go_loopg [] (8 * l.length - N) (fun g wr => ∃ j : Nat, N + j + g = 8 * l.length ∧ PutsRel (bt l) w w.heap.size (w.heap.size + 1) N j wr ∧ w.heap.size + 2 ≤ wr.heap.size)
    case atStart => exact ⟨0, by have := HL.out; omega, P0.out, HSZ2.out⟩
    case round =>
      obtain ⟨j, hjg, hP, hsz⟩ := hrel
      obtain ⟨p1, c1, l1, HL1, hB1⟩ := hP.open_
      have HZ := Lib.hid hsz
      have HJG := Lib.hid hjg
      obtain ⟨m, hm⟩ : ∃ m : Nat, N + j = m := ⟨_, rfl⟩
      rw [hm] at HL1 hB1
      have HB1 := Lib.hid hB1
      have hm8 : m ≤ 8 * l.length := by omega
      have hll : l.length ≤ 1025 := by have := HL.out; omega
      obtain ⟨b0, b1, f0, f1, r0, r1, g0, g1⟩ := HB1.out.limbs
      clear hP hB1 P0 hsz
      cases gk with
      | zero =>
        have hz8 : (m : Int) % 8 = 0 := by omega
        have hml : m = 8 * l.length := by omega
        have hl1 : l1 = l := by
          rw [HL1.out, hml, show (8 * l.length + 7) / 8 = l.length by omega]
          exact (pz_bt l (8 * l.length) hl fun i h1 h2 => by omega).symm
        have F := Lib.hid (HB1.out.fin (V := alV l (N : Int)) (by rw [V.out, hl1, hml]) (by omega))
        clear HB1 hm hml hl1 hjg
        go_wp2_with fail
        refine bodyPost_ret (res_stream_err rfl _ _ (w.heap.size + 1) _ _ rfl F.out.1) rfl ?_
        exact F.out.2
      | succ g =>
        have hz8 : ¬ ((m : Int) % 8 = 0) := by have := HL.out; omega
        have hfm : bt l m = false := (vs_iff.1 HV.out).2.2 m (by omega) (by omega)
        have C2 := put_val (f := bt l) (m := m) (x := .int .u64 0) (by rw [bw_false hfm]) l1 _ p1 c1 (by omega) HL1.out HB1.out.pc wr HB1.out.rd
        obtain ⟨l3, hl3⟩ : ∃ l3, l3 = pz (bt l) (m + 1) ((m + 8) / 8) := ⟨_, rfl⟩
        rw [← hl3] at C2
        have H2 := Lib.hid C2
        have HL3 := Lib.hid hl3
        have HM := Lib.hid hm
        have hm9 : m ≤ 9000 := by omega
        clear C2 hl3 hm hfm hjg
        go_wp2_with fail
        refine H2.out.mono ?_
        rintro e w3 ⟨p3, c3, rfl, hown3, hg3⟩
        have HB3 := Lib.hid (HB1.out.keep hg3)
        have R := puts_next (f := bt l) (N := N) (j := j) HB3 HM.out HL3.out hown3 (by omega) (by omega) (by have := HZ.out; omega) (by have := HZ.out; omega)
        have R2 : Hid (w.heap.size + 2 ≤ w3.heap.size) := Lib.hid (Nat.le_trans HZ.out hg3.size)
        clear b0 b1 f0 f1 r0 r1 g0 g1
        obtain ⟨b0, b1, f0, f1, r0, r1, g0, g1⟩ := HB3.out.limbs
        clear hown3 hg3 HB1
        go_wp2_with fail
        go_roundg g
        case measure => omega
        case rel => exact ⟨j + 1, by have := HJG.out; omega, R.out, by simpa using R2.out⟩
  · have hv0 : vs l n = false := by simpa using hv
    have V := Lib.hid (alV_inv hv0)
    rw [hv0]
    clear hv
    go_wp2_with fail
    refine bodyPost_ret (res_stream_err rfl _ _ (w.heap.size + 1) _ _ rfl (store2 HB.out.res)) rfl ?_
    exact RPost.err V.out HB.out.gr (by omega)
end Go.Proofs.YtpombmpkccnefaaDoor

/- packet: the reference's Encode. -/
namespace Go.Proofs.YtpombmpkccnefaaDoor
open Go.RowKit Bs
set_option maxRecDepth 100000 in
set_option maxHeartbeats 1600000 in
theorem code_8 (w : World) :
    Calls Tryd.prog 44 #[.int .i64 8] w fun e w' => e = .returned (.int .i64 0) ∧ w = w' := by
  go_enter Tryd.func44, Tryd.ntmps44
  go_wp2_with fail
  go_loop [0, 3] (fun x y => (x = .int .i64 8 ∧ y = .int .i64 0)) (fun x _ => (intOf x).toNat)
  case atStart => simp
  case round =>
    rcases hrel with ⟨rfl, rfl⟩
    · go_wp2_with fail
      go_ret
      exact ⟨rfl, rfl⟩
set_option maxRecDepth 100000 in
set_option maxHeartbeats 1600000 in
theorem code_16 (w : World) :
    Calls Tryd.prog 44 #[.int .i64 16] w fun e w' => e = .returned (.int .i64 1) ∧ w = w' := by
  go_enter Tryd.func44, Tryd.ntmps44
  go_wp2_with fail
  go_loop [0, 3] (fun x y => (x = .int .i64 16 ∧ y = .int .i64 0) ∨ (x = .int .i64 8 ∧ y = .int .i64 1)) (fun x _ => (intOf x).toNat)
  case atStart => simp
  case round =>
    rcases hrel with ⟨rfl, rfl⟩ | ⟨rfl, rfl⟩
    · go_wp2_with fail
      go_round
      case rel => simp
      case measure => simp [intOf]
    · go_wp2_with fail
      go_ret
      exact ⟨rfl, rfl⟩
set_option maxRecDepth 100000 in
set_option maxHeartbeats 1600000 in
theorem code_32 (w : World) :
    Calls Tryd.prog 44 #[.int .i64 32] w fun e w' => e = .returned (.int .i64 2) ∧ w = w' := by
  go_enter Tryd.func44, Tryd.ntmps44
  go_wp2_with fail
  go_loop [0, 3] (fun x y => (x = .int .i64 32 ∧ y = .int .i64 0) ∨ (x = .int .i64 16 ∧ y = .int .i64 1) ∨ (x = .int .i64 8 ∧ y = .int .i64 2)) (fun x _ => (intOf x).toNat)
  case atStart => simp
  case round =>
    rcases hrel with ⟨rfl, rfl⟩ | ⟨rfl, rfl⟩ | ⟨rfl, rfl⟩
    · go_wp2_with fail
      go_round
      case rel => simp
      case measure => simp [intOf]
    · go_wp2_with fail
      go_round
      case rel => simp
      case measure => simp [intOf]
    · go_wp2_with fail
      go_ret
      exact ⟨rfl, rfl⟩
set_option maxRecDepth 100000 in
set_option maxHeartbeats 1600000 in
theorem code_64 (w : World) :
    Calls Tryd.prog 44 #[.int .i64 64] w fun e w' => e = .returned (.int .i64 3) ∧ w = w' := by
  go_enter Tryd.func44, Tryd.ntmps44
  go_wp2_with fail
  go_loop [0, 3] (fun x y => (x = .int .i64 64 ∧ y = .int .i64 0) ∨ (x = .int .i64 32 ∧ y = .int .i64 1) ∨ (x = .int .i64 16 ∧ y = .int .i64 2) ∨ (x = .int .i64 8 ∧ y = .int .i64 3)) (fun x _ => (intOf x).toNat)
  case atStart => simp
  case round =>
    rcases hrel with ⟨rfl, rfl⟩ | ⟨rfl, rfl⟩ | ⟨rfl, rfl⟩ | ⟨rfl, rfl⟩
    · go_wp2_with fail
      go_round
      case rel => simp
      case measure => simp [intOf]
    · go_wp2_with fail
      go_round
      case rel => simp
      case measure => simp [intOf]
    · go_wp2_with fail
      go_round
      case rel => simp
      case measure => simp [intOf]
    · go_wp2_with fail
      go_ret
      exact ⟨rfl, rfl⟩
set_option maxRecDepth 100000 in
theorem coder_any (n : Int) (hv : vl n = true) (w : World) :
    Calls Tryd.prog 44 #[.int .i64 n] w fun e w' => e = .returned (.int .i64 ((lcode n : Nat) : Int)) ∧ w = w' := by
  rcases vl_cases hv with rfl | rfl | rfl | rfl
  · exact code_8 w
  · exact code_16 w
  · exact code_32 w
  · exact code_64 w
def wdl : List Int := [2, 2, 3, 5, 2, 6, 10, 9, 3, 7]
def wcells : Array Value := #[.int .i64 2, .int .i64 2, .int .i64 3, .int .i64 5, .int .i64 2, .int .i64 6, .int .i64 10, .int .i64 9, .int .i64 3, .int .i64 7]
set_option maxRecDepth 100000 in
theorem widths_any (w : World) :
    Calls Tryd.prog 45 #[] w fun e w' => e = .returned (.slice (some ⟨w.heap.size, 0, none⟩) 10 10) ∧ w' = w.alloc (.cells wcells 3) := by
  go_enter Tryd.func45, Tryd.ntmps45
  go_wp2_with fail
  go_ret
  exact ⟨rfl, rfl⟩
end Go.Proofs.YtpombmpkccnefaaDoor

/- packet: the reference's Encode, the walk. -/
namespace Go.Proofs.YtpombmpkccnefaaDoor
open Go.RowKit Bs
set_option maxRecDepth 100000 in
/-- A list of bytes that is read does not lie in a stream's box. -/
theorem rd_off {w : World} {q : Nat → Prop} {v : Value} {p1 : Option Addr} {n1 c1 S : Nat} {l : List Nat} {k : Int} {t : TypeId} (hR : Rd w q v (l.map nv)) (hS : w.heap[S]? = some (.cells #[.slice p1 n1 c1, .int .i64 k] t (0, 0))) : Rd w (fun b => b ≠ S ∧ b < w.heap.size) v (l.map nv) := by
  obtain ⟨p, c, hv, hc⟩ := hR.bound
  refine ⟨p, c, hv, fun hne => ?_⟩
  obtain ⟨b, off, hp, hb, hx⟩ := hc hne
  refine ⟨b, off, hp, ⟨?_, hb⟩, hx⟩
  rintro rfl
  cases l with
  | nil => exact absurd rfl hne
  | cons y r =>
    have h := hx 0 (nv y) rfl
    unfold World.cell? at h
    rw [hS] at h
    simp only [Addr.spot] at h
    rcases (show off + 0 = 0 ∨ off + 0 = 1 ∨ 2 ≤ off + 0 by omega) with e | e | e
    · rw [e] at h; simp [nv] at h
    · rw [e] at h; simp [nv] at h
    · rw [Array.getElem?_eq_none (by simpa using e)] at h; simp at h
/-- While the reference encodes. -/
structure ER (W : World) (P : Pk) (F D S : Nat) (B : List Bool) (p : Option Addr) (c : Nat) (w : World) : Prop where
  pb : w.heap[W.heap.size]? = some (.cells (pcells P) 31 (0, 0))
  fb : w.heap[F]? = some (.cells #[.int .i64 2, .int .i64 P.mode, .int .i64 P.sub, .int .i64 P.set, .int .i64 ((lcode P.len : Nat) : Int), .int .i64 P.ttl, .int .i64 P.ent, .int .i64 P.ing, .int .i64 P.pro, .int .i64 ((P.pay.size : Nat) : Int)] 3 (0, 0))
  db : w.heap[D]? = some (.cells wcells 3 (0, 0))
  sb : w.heap[S]? = some (.cells #[.slice p (pk B).length c, .int .i64 (B.length : Int)] 75 (0, 0))
  rd : Rd w (fun b => b ≠ S ∧ b < w.heap.size) (.slice p (pk B).length c) ((pk B).map nv)
  pc : p = none → c = 0
  ne : W.heap.size < S ∧ F ≠ S ∧ D ≠ S
  gr : W.grownBy w none
section
variable {W w w1 : World} {P : Pk} {F D S n : Nat} {B B2 : List Bool} {p : Option Addr} {c : Nat} {q : Nat → Prop}
set_option maxRecDepth 100000 in
theorem ER.keep (H : ER W P F D S B p c w) (k : w.grownBy w1 none) : ER W P F D S B p c w1 :=
  ⟨kept_row H.pb k (by simp), kept_row H.fb k (by simp), kept_row H.db k (by simp), kept_row H.sb k (by simp), (H.rd.keep k).mono (fun _ hb => ⟨hb.1, Nat.lt_of_lt_of_le hb.2 k.size⟩), H.pc, H.ne, grown_trans H.gr k⟩
set_option maxRecDepth 100000 in
theorem ER.turn (H : ER W P F D S B p c w) {p2 : Option Addr} {c2 : Nat} (hR : Rd w q (.slice p2 (pk B2).length c2) ((pk B2).map nv)) (hp : p2 = none → c2 = 0) :
    ER W P F D S B2 p2 c2 ((w.setCell ⟨S, 0, none⟩ (.slice p2 (pk B2).length c2)).setCell ⟨S, 1, none⟩ (.int .i64 (B2.length : Int))) := by
  have k := grown_store2 w S (.slice p2 (pk B2).length c2) (.int .i64 (B2.length : Int))
  have hne := H.ne
  exact ⟨kept_row H.pb k (fun e => by have := Option.some.inj e; omega), kept_row H.fb k (fun e => by have := Option.some.inj e; omega), kept_row H.db k (fun e => by have := Option.some.inj e; omega), store2 H.sb, ((rd_off hR H.sb).grown k (fun b hb e => hb.1 (Option.some.inj e))).mono (fun _ hb => ⟨hb.1, Nat.lt_of_lt_of_le hb.2 k.size⟩), hp, hne, grown_new H.gr k (by omega)⟩
set_option maxRecDepth 100000 in
theorem ER.facts (H : ER W P F D S B p c w) : w.cell? ⟨S, 0, none⟩ = some (.slice p (pk B).length c) ∧ w.cell? ⟨S, 1, none⟩ = some (.int .i64 (B.length : Int)) ∧ w.frozen? ⟨S, 0, none⟩ = false ∧ w.frozen? ⟨S, 1, none⟩ = false :=
  ⟨(row_cells H.sb).1, (row_cells H.sb).2, frozen_of_row _ _ _ _ _ H.sb, frozen_of_row _ _ _ _ _ H.sb⟩
set_option maxRecDepth 100000 in
/-- What the reference's calls give to a list of bits. -/
theorem append_bitsr {v k : Nat} (hk : k ≤ 64) (hv : v < 2 ^ k) (hl : B.length + k ≤ 8192) (hpc : p = none → c = 0) (hR : Rd w q (.slice p (pk B).length c) ((pk B).map nv)) :
    Calls Tryd.prog 46 #[.agg #[.slice p (pk B).length c, .int .i64 (B.length : Int)], .int .u64 (v : Int), .int .i64 (k : Int)] w fun e w' =>
      ∃ p2 c2, e = .returned (.tuple #[.agg #[.slice p2 (pk (B ++ nb v k)).length c2, .int .i64 ((B ++ nb v k).length : Int)], .int .i64 0]) ∧ Rd w' (fun _ => True) (.slice p2 (pk (B ++ nb v k)).length c2) ((pk (B ++ nb v k)).map nv) ∧ (p2 = none → c2 = 0) ∧ w.grownBy w' none := by
  have hvU : U64 v := Nat.lt_of_lt_of_le hv (Nat.pow_le_pow_right (n := 2) (by decide) hk)
  refine (appendr_any (pk B) (B.length : Int) v (k : Int) _ p c (pk_by B) hvU hpc w (fun _ h => h) hR.bound).mono fun e w' hp => ?_
  rw [apV_pk B v k hk hv hl] at hp
  obtain ⟨u, he, ⟨p2, c2, rfl, h1, h2, _⟩, hg⟩ := hp
  exact ⟨p2, c2, he, h1, h2, hg⟩
set_option maxRecDepth 100000 in
theorem check_bitsr (h : B.length ≤ 8192) (hpc : p = none → c = 0) (hR : Rd w q (.slice p (pk B).length c) ((pk B).map nv)) :
    Calls Tryd.prog 47 #[.agg #[.slice p (pk B).length c, .int .i64 (B.length : Int)]] w fun e w' => e = .returned (.tuple #[.int .u64 ((ck B : Nat) : Int), .int .i64 0]) ∧ w.grownBy w' none := by
  refine (checkr_any (pk B) (B.length : Int) _ p c (pk_by B) w (fun _ h => h) hR.bound).mono fun e w' hp => ?_
  obtain ⟨he, hg⟩ := hp
  rw [chkV_ok (pk_vs B h)] at he
  rw [show ck B = chk (bt (pk B)) B.length from (chk_same _ fun i hi => bt_pk B i (by omega)).symm]
  exact ⟨he, hg⟩
set_option maxRecDepth 100000 in
theorem align_bitsr (h : B.length ≤ 8192) (hpc : p = none → c = 0) (hR : Rd w q (.slice p (pk B).length c) ((pk B).map nv)) :
    Calls Tryd.prog 48 #[.agg #[.slice p (pk B).length c, .int .i64 (B.length : Int)]] w fun e w' =>
      ∃ p2 c2, e = .returned (.tuple #[.agg #[.slice p2 (pk B).length c2, .int .i64 ((8 * (pk B).length : Nat) : Int)], .int .i64 0]) ∧ Rd w' (fun _ => True) (.slice p2 (pk B).length c2) ((pk B).map nv) ∧ (p2 = none → c2 = 0) ∧ w.grownBy w' none := by
  refine (alignr_any (pk B) (B.length : Int) _ p c (pk_by B) hpc w (fun _ h => h) hR.bound).mono fun e w' hp => ?_
  rw [alV_pk B h] at hp
  obtain ⟨u, he, ⟨p2, c2, rfl, h1, h2, _⟩, hg⟩ := hp
  exact ⟨p2, c2, he, h1, h2, hg⟩
end
end Go.Proofs.YtpombmpkccnefaaDoor

/- Parts of the proof, packed: StDecLaw. -/
import Derived.Test.YtpabfjhjehjebaaDoorSDec16
/- StackDecodes: the walk. -/
namespace Go.Proofs.YtpabfjhjehjebaaDoor
open Go.RowKit Bs
set_option maxRecDepth 100000 in
set_option maxHeartbeats 6400000 in
theorem sdecodes_walk (v : Value) (L : List Nat) (pL : Option Addr) (cL : Nat) (hbL : By L) (hcL : L.length ≤ cL) (hcm : cL ≤ 9223372036854775807) (w : World) (hv : IntsIn w v) (hRL : Rd w (· < w.heap.size) (.slice pL L.length cL) (L.map nv)) (hT : Tb w) :
    Calls Tryd.prog 3 #[v, .slice pL L.length cL] w fun e w' => e = .returned (.bool true) ∧ w.grownBy w' none := by
  obtain ⟨j0, hj0, hy0, hy1, hy2⟩ := info_parts info_u8
  have HT0 := Lib.hid hT
  have HRL := Lib.hid hRL
  have HIN := Lib.hid (And.intro hcL hcm)
  clear hT hRL hcL hcm
  go_enter Tryd.func3, Tryd.ntmps3
  go_wp2_with fail
  refine (new_any v w hv).mono ?_
  rintro e w2 ⟨rfl, hg1, hT1⟩
  have hat := hT1.lt
  go_wp2_with fail
  refine (frame_agg2 _ _ (by unfold I64; omega) _ hT1).mono ?_
  rintro e w3 ⟨F, rfl, hFr, -, hs⟩
  have HS3 := Lib.hid hs
  have HF := Lib.hid hFr
  have G1 := Lib.hid hg1
  clear hs hg1 hT1 hv hFr
  go_wp2_with fail
  refine (rencf_agg2 F _ HF.out).mono ?_
  rintro e w4 ⟨l0, p4, c4, x4, rfl, hl0, hO, hg⟩
  have hbm : Hid (MC w.heap.size w2 p4 c4 l0 w4) := Lib.hid ⟨⟨hO.own.mono HS3.out.1.size, hO.pc, hO.by_⟩, ⟨grown_trans HS3.out.1 (grown_none hg _), HS3.out.2.keep hg⟩⟩
  have hTp4 := hbm.out.st.2
  clear hO hg HS3 HF
  go_wp2_with fail
  refine (next_any _ 4 (by unfold I64; omega) _ hTp4).mono ?_
  rintro e w5 ⟨rr, rfl, hr, hs⟩
  obtain ⟨r, rfl⟩ := Int.eq_ofNat_of_zero_le hr.1
  have hr4 : r ≤ 3 := by have := hr.2.1 (by decide); omega
  have HM0 := Lib.hid (hbm.out.tape hat hs)
  clear hr hs hTp4 hbm
  go_wp2_with fail
  go_loopw [6, 8] (fun b i wr => ∃ k : Nat, k ≤ 3 ∧ i = .int .i64 (k : Int) ∧ ∃ p c l, l.length + k ≤ 203 ∧ b = .slice p l.length c ∧ Hid (MC w.heap.size w2 p c l wr)) (fun _ i _ => (intOf i).toNat)
  case atStart => exact ⟨r, hr4, rfl, p4, c4, l0, by omega, rfl, HM0⟩
  case round =>
    obtain ⟨k, hk, rfl, p, c, l, hlk, rfl, hM⟩ := hrel
    clear HM0
    by_cases hkl : 1 ≤ k ∧ ¬ l.length = 0
    · obtain ⟨hk1, hl0⟩ := hkl
      · have hlp : 0 < l.length := by omega
        have hTp := hM.out.st.2
        obtain ⟨g, cap, he⟩ := Joins.ownsRow_form hM.out.own.own hlp
        have hp : p = some ⟨g, 0, none⟩ := by cases he; rfl
        clear he
        subst hp
        go_upto_region 6 with fail
        go_cut [9] from 35 to 39 (fun u wx => ∃ y : Nat, y < l.length ∧ u = .int .i64 (y : Int) ∧ Hid (MC w.heap.size w2 (some ⟨g, 0, none⟩) c l wx))
        case first =>
          go_wp2_with fail
          all_goals
            refine (next_any _ _ (by unfold I64; omega) _ hTp).mono ?_
            rintro e w6 ⟨yy, rfl, hy, hs⟩
            obtain ⟨y, rfl⟩ := Int.eq_ofNat_of_zero_le hy.1
            have hyl : y < l.length := by have := hy.2.1 (by omega); omega
            have HM1 := Lib.hid (hM.out.tape hat hs)
            go_wp2_with fail
            go_meet
            exact ⟨y, hyl, rfl, HM1⟩
        case rest =>
        obtain ⟨y, hyl, rfl, HM1⟩ := hcut
        have hTp6 := HM1.out.st.2
        clear hTp hM
        go_wp2_with fail
        refine (next_any _ 4 (by unfold I64; omega) _ hTp6).mono ?_
        rintro e w7 ⟨xx, rfl, hx, hs⟩
        obtain ⟨x, rfl⟩ := Int.eq_ofNat_of_zero_le hx.1
        have hx4 : x ≤ 3 := by have := hx.2.1 (by decide); omega
        have HM2 := Lib.hid (HM1.out.tape hat hs)
        have hTp7 := HM2.out.st.2
        clear hx hs hTp6 HM1
        rcases (show x = 0 ∨ x = 1 ∨ x = 2 ∨ x = 3 by omega) with rfl | rfl | rfl | rfl
        · go_wp2_with fail
          refine (next_any _ 256 (by unfold I64; omega) _ hTp7).mono ?_
          rintro e w8 ⟨zz, rfl, hz, hs⟩
          obtain ⟨z, rfl⟩ := Int.eq_ofNat_of_zero_le hz.1
          have hz3 : z < 256 := by have := hz.2.1 (by decide); omega
          have HM3 := Lib.hid (HM2.out.tape hat hs)
          have HM4 := Lib.hid (HM3.out.set (j := y) (x := z) hat hz3)
          have hwz : IntKind.u8.wrap (z : Int) = (z : Int) := by rw [IntKind.wrap_u8]; omega
          have hc := HM3.out.own.own.cellAt y (by omega)
          have hf := HM3.out.own.own.frozenAt y
          rw [nv_at hyl] at hc
          clear hz hs hTp7 HM2 HM3
          go_wp2_with fail
          exact ⟨⟨k - 1, by omega, by congr 1; omega, some ⟨g, 0, none⟩, c, l.set y z, by rw [List.length_set]; omega, by rw [List.length_set], HM4⟩, by simp [intOf]; omega⟩
        · obtain ⟨X, hX, hXe⟩ := xor_one (HM2.out.own.by_ _ (List.getElem_mem hyl))
          have HXE := Lib.hid hXe
          have HM3 := Lib.hid (HM2.out.set (j := y) (x := X) hat hX)
          have hc := HM2.out.own.own.cellAt y (by omega)
          have hf := HM2.out.own.own.frozenAt y
          rw [nv_at hyl] at hc
          clear hTp7 HM2 hXe
          go_wp2_with fail
          trace_state
          rw [HXE.out]
          exact ⟨⟨k - 1, by omega, by congr 1; omega, some ⟨g, 0, none⟩, c, l.set y X, by rw [List.length_set]; omega, by rw [List.length_set], HM3⟩, by simp [intOf]; omega⟩
        · have HM3 := Lib.hid (HM2.out.cut (k := y) (by omega))
          have hlc : l.length ≤ c := own_le3 HM2.out.own.own
          have hyc : y ≤ c := by omega
          clear HM2 hTp7
          go_wp2_with fail
          exact ⟨⟨k - 1, by omega, by congr 1; omega, some ⟨g, 0, none⟩, c, l.take y, by rw [List.length_take]; omega, by rw [List.length_take, Nat.min_eq_left (by omega)], HM3⟩, by simp [intOf]; omega⟩
        · have hown := HM2.out.own.own
          have hsz := HM2.out.st.1.size
          have HL := Lib.hid hl0
          clear hTp7 hl0
          go_wp2_with (at_builtin; refine wpList_append_own _ rfl _ _ 23 rfl w2.heap.size 5 j0 (.int .u8 0) 1 1 Tryd.underlying23 hj0 hy0 hy1 hy2 rfl (by decide) _ _ _ rfl (hown.alloc _) ⟨w7.heap.size, 0, none⟩ 1 1 [.int .u8 0] rfl rfl ?c1 ?c2 ?c3 ?c4 ?c5 ?_)
          try (case c1 => exact cell_one _ _ _)
          case c2 => first | rfl | (intro u hu; simp at hu; subst hu; rfl)
          case c3 => first | omega | (unfold maxLen; omega)
          case c4 => omega
          case c5 => first | omega | (simp; omega)
          intro v' w8 hown' hg _
          obtain ⟨p', c', hv', hM'⟩ := HM2.out.more hat (show 0 < 256 by omega) hown' hg
          subst hv'
          have HM3 := Lib.hid hM'
          clear hown' hg hown HM2 hM'
          go_wp2_with fail
          exact ⟨⟨k - 1, by omega, by congr 1; omega, p', c', l ++ [0], by rw [List.length_append]; simp; omega, rfl, HM3⟩, by simp [intOf]; omega⟩
    · have GZ := Lib.hid (grown_tape G1.out hM.out.st.1)
      have hle := own_room hM.out.own
      have HRl := Lib.hid (And.intro hM.out.own.by_ (And.intro hle.1 (And.intro hle.2 (show l.length ≤ 9223372036854775807 / 8 by omega))))
      have HRr := Lib.hid hM.out.own.rd
      have hkl2 : (¬ 0 < k) ∨ (0 < k ∧ ¬ 0 < l.length) := by omega
      clear hM hle hkl
      rcases hkl2 with hk1 | ⟨hk1, hk2⟩
      all_goals
        go_upto_region 16 with fail
        have gal := World.grownBy_alloc wr (.cells #[.slice p l.length c, .slice pL L.length cL] 23) none
        have HL9 := Lib.hid (heap_alloc_new wr (.cells #[.slice p l.length c, .slice pL L.length cL] 23))
        have HR1 := Lib.hid (HRr.out.keep gal)
        have HR2 := Lib.hid ((HRL.out.keep GZ.out).keep gal)
        have G9 := Lib.hid (grown_trans GZ.out gal)
        clear gal GZ HRr
        generalize wr.alloc _ = w9 at *
        generalize wr.heap.size = bk at *
        go_wp2_with fail
        go_loopw [11] (fun i wr => ∃ j : Nat, j ≤ 2 ∧ i = .int .i64 (j : Int) ∧ Hid (w9.grownBy wr none)) (fun i _ => (2 - (intOf i).toNat))
        case atStart => exact ⟨0, Nat.zero_le _, rfl, Lib.hid (grown_refl _ _)⟩
        case round =>
          obtain ⟨j, hj, rfl, hR⟩ := hrel
          have hend : j = 2 ∨ (j < 2 ∧ ¬ L.length ≤ 400) ∨ (j < 2 ∧ L.length ≤ 400) := by omega
          rcases hend with rfl | ⟨hj2, h400⟩ | ⟨hj2, h400⟩
          · have hT9 := HT0.out.keep (grown_trans G9.out hR.out)
            have GE := Lib.hid (grown_trans G9.out hR.out)
            clear hR
            go_wp2_with fail
            refine (sawake_any _ hT9).mono ?_
            rintro e w14 ⟨rfl, hg⟩
            have G8 := Lib.hid (grown_trans GE.out hg)
            clear hg
            go_wp2_with fail
            exact bodyPost_ret (results_tmp rfl _ _ _) rfl ⟨rfl, G8.out⟩
          · have hT9 := HT0.out.keep (grown_trans G9.out hR.out)
            have GE := Lib.hid (grown_trans G9.out hR.out)
            have h400i : ¬ (L.length : Int) ≤ 400 := by omega
            clear hR
            go_wp2_with fail
            refine (sawake_any _ hT9).mono ?_
            rintro e w14 ⟨rfl, hg⟩
            have G8 := Lib.hid (grown_trans GE.out hg)
            clear hg
            go_wp2_with fail
            exact bodyPost_ret (results_tmp rfl _ _ _) rfl ⟨rfl, G8.out⟩
          · obtain ⟨M, pM, cM, hcell, hbM, hcM, hcMm, hbigM, hRM⟩ : Row3L wr bk j := by
              have hrow := kept_row HL9.out hR.out (by simp)
              rcases (show j = 0 ∨ j = 1 by omega) with rfl | rfl
              · exact ⟨l, p, c, cell_of_row _ _ _ _ _ _ hrow, HRl.out.1, HRl.out.2.1, HRl.out.2.2.1, HRl.out.2.2.2, (HR1.out.keep hR.out).mono (fun _ _ => trivial)⟩
              · exact ⟨L, pL, cL, cell_of_row _ _ _ _ _ _ hrow, hbL, HIN.out.1, HIN.out.2, by omega, (HR2.out.keep hR.out).mono (fun _ _ => trivial)⟩
            have h400i : (L.length : Int) ≤ 400 := by omega
            obtain ⟨n0, n1, n2, n3, n4, n5, n6, n7, n8, s9, hX⟩ := decF_form M
            obtain ⟨r, y, hXy⟩ : ∃ r y, decF M = (r, #[.int .i64 n0, .int .i64 n1, .int .i64 n2, .int .i64 n3, .int .i64 n4, .int .i64 n5, .int .i64 n6, .int .i64 n7, .int .u64 n8, .string s9], y) := ⟨(decF M).1, (decF M).2.2, by rw [← hX]⟩
            have HXY := Lib.hid hXy
            have HRM := Lib.hid hRM
            have HCL := Lib.hid hcell
            have HBM := Lib.hid (And.intro hbM (And.intro hcM (And.intro hcMm hbigM)))
            have j0' : (0 : Int) ≤ (j : Int) := by omega
            have j2' : (j : Int) < 2 := by omega
            clear hX hXy hRM hcM hcMm hbigM hbM
            go_wp2_with fail
            refine (sdecf_any M HBM.out.1 pM cM HBM.out.2.1 HBM.out.2.2.1 _ wr HRM.out).mono ?_
            intro e w10 hD
            obtain ⟨p10, c10, rfl, hr10, hm10, hg⟩ := dff_any M r y n0 n1 n2 n3 n4 n5 n6 n7 n8 s9 HXY.out hD
            obtain ⟨k1, k2⟩ := sone_box w10 (gcells (.slice p10 r.length c10) n0 n1 n2 n3 n4 n5 n6 n7 n8 s9) 33
            have hga := grown_trans hg k2
            have HB1 := Lib.hid k1
            have hcell := hga.cell HCL.out (by simp)
            have HRM1 := Lib.hid (HRM.out.keep hga)
            have HR10 := Lib.hid (grown_trans hR.out hga)
            have HA10 := Lib.hid (And.intro (hr10.keep k2) hm10)
            clear hg hga HRM hr10 hm10 k1 k2 hD
            unfold gcells at HB1 hcell HRM1 HR10 HA10
            go_wp2_with fail
            generalize w10.alloc (.cells #[.slice p10 r.length c10, .int .i64 n0, .int .i64 n1, .int .i64 n2, .int .i64 n3, .int .i64 n4, .int .i64 n5, .int .i64 n6, .int .i64 n7, .int .u64 n8, .string s9] 33) = w11 at *
            refine (rdecf_any M HBM.out.1 pM cM HBM.out.2.1 HBM.out.2.2.1 HBM.out.2.2.2 _ w11 HRM1.out).mono ?_
            intro e w12 hD
            obtain ⟨p12, c12, rfl, hr12, hm12, hg⟩ := dff_any M r y n0 n1 n2 n3 n4 n5 n6 n7 n8 s9 HXY.out hD
            obtain ⟨k1, k2⟩ := sone_box w12 (gcells (.slice p12 r.length c12) n0 n1 n2 n3 n4 n5 n6 n7 n8 s9) 33
            have hga := grown_trans hg k2
            have HB2 := Lib.hid k1
            have HB1' := Lib.hid (kept_row HB1.out hga (by simp))
            have HR12 := Lib.hid (grown_trans HR10.out hga)
            have HA12 := Lib.hid (And.intro (hr12.keep k2) (And.intro (HA10.out.1.keep hga) HA10.out.2))
            clear hg hga HRM1 hr12 hm12 k1 k2 hD hcell HR10 HB1 HA10
            unfold gcells at HB2 HB1' HR12 HA12
            go_upto_region 21 with fail
            generalize w12.alloc (.cells #[.slice p12 r.length c12, .int .i64 n0, .int .i64 n1, .int .i64 n2, .int .i64 n3, .int .i64 n4, .int .i64 n5, .int .i64 n6, .int .i64 n7, .int .u64 n8, .string s9] 33) = w13 at *
            have HBB := Lib.hid (And.intro HB1'.out HB2.out)
            change Hid (w13.heap[w10.heap.size]? = some (.cells (gcells (.slice p10 r.length c10) n0 n1 n2 n3 n4 n5 n6 n7 n8 s9) 33 (0, 0)) ∧ w13.heap[w12.heap.size]? = some (.cells (gcells (.slice p12 r.length c12) n0 n1 n2 n3 n4 n5 n6 n7 n8 s9) 33 (0, 0))) at HBB
            obtain ⟨a0, a1, a2, a3, a4, a5, a6, a7, a8, a9, a10⟩ := g_facts HBB.out.1
            obtain ⟨b0, b1, b2, b3, b4, b5, b6, b7, b8, b9, b10⟩ := g_facts HBB.out.2
            go_wp2_with (go_at_call 11; refine (rsame_any r _ _ _ _ _ _ _ _ _ _ p10 p12 c10 c12 _ _ w13 HA12.out.2.1 HA12.out.1 HA12.out.2.2).mono ?_; rintro e w' ⟨rfl, hap⟩; have GW := Lib.hid hap; clear hap)
            have HRZ := Lib.hid (grown_trans HR12.out GW.out)
            clear GW
            exact ⟨⟨j + 1, by omega, by congr 1, HRZ⟩, by simp [intOf]; omega⟩
end Go.Proofs.YtpabfjhjehjebaaDoor

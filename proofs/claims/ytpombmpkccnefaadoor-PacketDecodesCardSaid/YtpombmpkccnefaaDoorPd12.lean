/- Parts of the proof, packed: PkDecLaw. -/
import Derived.Test.YtpombmpkccnefaaDoorPd11
import Derived.Test.YtpombmpkccnefaaDoorPd5
import Derived.Deep.QuietTactic
import Derived.BigQuiet
/- PacketDecodes: the walk. -/
namespace Go.Proofs.YtpombmpkccnefaaDoor
open Go.RowKit Bs
theorem st_undrew {a : Nat} {w w1 : World} (h : St a w.drew w1) : St a w w1 := ⟨grown_undrew_some h.1, h.2⟩
theorem own_le_cap {w : World} {base g n cap : Nat} {e : TypeId} {xs : List Value} (h : w.ownsRow base e 1 (.slice (some ⟨g, 0, none⟩) n cap) n xs) : n ≤ cap := by
  obtain ⟨h1, h2⟩ := h
  rcases h2 with ⟨h0, _⟩ | ⟨g', cap', cur, hv, hg, hh, hn, hcap, hsz, htake⟩
  · cases h0
  · cases hv; exact hn
theorem dec_form2 (l : List Nat) : ∃ (m0 m1 m2 m3 m4 m5 m6 m7 m8 : Int) (s9 : ByteArray), (decV l).1 = #[.int .i64 m0, .int .i64 m1, .int .i64 m2, .int .i64 m3, .int .i64 m4, .int .i64 m5, .int .i64 m6, .int .i64 m7, .int .u64 m8, .string s9] := by
  unfold decV
  split
  · exact ⟨_, _, _, _, _, _, _, _, _, _, rfl⟩
  · split
    · exact ⟨_, _, _, _, _, _, _, _, _, _, rfl⟩
    · split
      · exact ⟨_, _, _, _, _, _, _, _, _, _, rfl⟩
      · split
        · exact ⟨_, _, _, _, _, _, _, _, _, _, rfl⟩
        · split
          · exact ⟨_, _, _, _, _, _, _, _, _, _, rfl⟩
          · unfold restV
            split
            · exact ⟨_, _, _, _, _, _, _, _, _, _, rfl⟩
            · exact ⟨_, _, _, _, _, _, _, _, _, _, rfl⟩
theorem pencode_ag2 (P : Pk) (hP : P.Wf) (w : World) (hT : Tb w) :
    Calls Tryd.prog 16 #[.agg #[.int .i64 P.mode, .int .i64 P.sub, .int .i64 P.set, .int .i64 P.len, .int .i64 P.ttl, .int .i64 P.ent, .int .i64 P.ing, .int .i64 P.pro, .int .u64 (P.bits : Int), .string P.pay]] w fun e w' => EncPost P w e w' := pencode_any P hP w hT
theorem xor_byte {x z : Nat} (hx : x < 256) (hz : z < 8) : ∃ X : Nat, X < 256 ∧ bits .xor .u8 (x : Int) (IntKind.u8.wrap (2 ^ min (IntKind.u64.wrap (z : Int)).toNat 8)) = (X : Int) := by
  have e : IntKind.u8.wrap (2 ^ min (IntKind.u64.wrap (z : Int)).toNat 8) = ((2 ^ z : Nat) : Int) := by
    rcases (show z = 0 ∨ z = 1 ∨ z = 2 ∨ z = 3 ∨ z = 4 ∨ z = 5 ∨ z = 6 ∨ z = 7 by omega) with rfl | rfl | rfl | rfl | rfl | rfl | rfl | rfl <;> decide
  rw [e]
  have h2 : 2 ^ z < 256 := Nat.pow_lt_pow_right (n := 8) (by decide) hz
  exact ⟨x ^^^ 2 ^ z, Nat.xor_lt_two_pow (n := 8) hx h2, u8_xor_nat x _ hx h2⟩
theorem own_le {w : World} {base c : Nat} {p : Option Addr} {l : List Nat} (h : Own w base p c l) : l.length ≤ c := by
  by_cases h0 : l.length = 0
  · omega
  · obtain ⟨g, cap, he, _⟩ := own_form h.own (by omega)
    have := h.own
    rw [he] at this
    cases he
    exact own_le_cap this
/-- A list of bytes in a list of lists. -/
def Row2L (w : World) (b j : Nat) : Prop := ∃ M pM cM, w.cell? ⟨b, j, none⟩ = some (.slice pM (M : List Nat).length cM) ∧ By M ∧ M.length ≤ cM ∧ (pM = none → cM = 0) ∧ M.length ≤ 9223372036854775807 / 8 ∧ Rd w (fun _ => True) (.slice pM M.length cM) (M.map nv)
set_option maxRecDepth 100000 in
set_option maxHeartbeats 6400000 in
theorem decodes_walk (v : Value) (L : List Nat) (pL : Option Addr) (cL : Nat) (hbL : By L) (hcL : L.length ≤ cL) (hpL : pL = none → cL = 0) (hbig : L.length ≤ 9223372036854775807 / 8) (w : World) (hv : IntsIn w v) (hRL : Rd w (· < w.heap.size) (.slice pL L.length cL) (L.map nv)) (hT : Tb w) :
    Calls Tryd.prog 3 #[v, .slice pL L.length cL] w fun e w' => e = .returned (.bool true) ∧ w.grownBy w' none := by
  obtain ⟨j0, hj0, hy0, hy1, hy2⟩ := info_parts info_u8
  have HT0 := Lib.hid hT
  have HRL := Lib.hid hRL
  have HIN := Lib.hid (And.intro hcL (And.intro hpL hbig))
  clear hT hRL hcL hpL hbig
  go_enter Tryd.func3, Tryd.ntmps3
  go_wp2_with fail
  refine (new_any v w hv).mono ?_
  rintro e w2 ⟨rfl, hg1, hT1⟩
  have hat := hT1.lt
  go_wp2_with fail
  refine (packet0_any _ _ hT1).mono ?_
  rintro e w3 ⟨P, rfl, hWf, hvp, hs⟩
  have HS3 := Lib.hid hs
  have HW := Lib.hid (And.intro hWf hvp)
  have G1 := Lib.hid hg1
  clear hs hg1 hT1 hv hWf hvp
  go_wp2_with fail
  refine (rencodeo_any P HW.out.1 HW.out.2 _).mono ?_
  rintro e w4 ⟨p4, c4, rfl, hO, hg⟩
  have hbm : Hid (MB w.heap.size w2 p4 c4 (enc P) w4) := Lib.hid ⟨hO.mono HS3.out.1.size, ⟨grown_trans HS3.out.1 (grown_none hg _), HS3.out.2.keep hg⟩⟩
  have hel : (enc P).length ≤ 100 := by
    have h1 := (vpk_parts HW.out.2)
    have h8 : 8 ≤ P.len.toNat ∧ P.len.toNat ≤ 64 := by rcases vl_cases (vb_vl h1.2.2.2.2.2.2.2.2) with h | h | h | h <;> rw [h] <;> decide
    have := h1.2.2.2.2.2.2.2.1
    rw [enc_len]; omega
  obtain ⟨l0, hl0⟩ : ∃ l0, l0 = enc P := ⟨_, rfl⟩
  rw [← hl0] at hbm hel ⊢
  have hTp4 := hbm.out.st.2
  clear hO hg HS3 HW hl0
  go_wp2_with fail
  refine (next_any _ 4 (by unfold I64; omega) _ hTp4).mono ?_
  rintro e w5 ⟨rr, rfl, hr, hs⟩
  obtain ⟨r, rfl⟩ := Int.eq_ofNat_of_zero_le hr.1
  have hr4 : r ≤ 3 := by have := hr.2.1 (by decide); omega
  have HM0 := Lib.hid (hbm.out.tape hat hs)
  clear hr hs hTp4 hbm
  go_wp2_with fail
  go_loopw [6, 8] (fun b i wr => ∃ k : Nat, k ≤ 3 ∧ i = .int .i64 (k : Int) ∧ ∃ p c l, l.length + k ≤ 103 ∧ b = .slice p l.length c ∧ Hid (MB w.heap.size w2 p c l wr)) (fun _ i _ => (intOf i).toNat)
  case atStart => exact ⟨r, hr4, rfl, p4, c4, l0, by omega, rfl, HM0⟩
  case round =>
    obtain ⟨k, hk, rfl, p, c, l, hlk, rfl, hM⟩ := hrel
    clear HM0
    by_cases hkl : 1 ≤ k ∧ ¬ l.length = 0
    · obtain ⟨hk1, hl0⟩ := hkl
      · have hlp : 0 < l.length := by omega
        have hTp := hM.out.st.2
        obtain ⟨g, cap, he, hgb⟩ := own_form hM.out.own.own hlp
        have hp : p = some ⟨g, 0, none⟩ := by cases he; rfl
        clear he
        subst hp
        go_wp2_with fail
        refine (next_any _ 4 (by unfold I64; omega) _ hTp).mono ?_
        rintro e w6 ⟨xx, rfl, hx, hs⟩
        obtain ⟨x, rfl⟩ := Int.eq_ofNat_of_zero_le hx.1
        have hx4 : x ≤ 3 := by have := hx.2.1 (by decide); omega
        have HM1 := Lib.hid (hM.out.tape hat hs)
        have hTp6 := HM1.out.st.2
        clear hx hs hTp hM
        rcases (show x = 0 ∨ x = 1 ∨ x = 2 ∨ x = 3 by omega) with rfl | rfl | rfl | rfl
        · have HTp6 := Lib.hid hTp6
          clear hTp6
          go_wp2_with fail
          go_region_law (first
            | ((fail_if_success (have := hM7)); go_simp; go_at_call 13; refine (next_any _ _ (by unfold I64; omega) _ HTp6.out.drew).mono ?_; rintro e w7 ⟨yy, rfl, hy, hs⟩; obtain ⟨y, rfl⟩ := Int.eq_ofNat_of_zero_le hy.1; have hyl : y < l.length := (by have := hy.2.1 (by omega); omega); have hM7 := Lib.hid (HM1.out.tape hat (st_undrew hs)); have hc7 := hM7.out.own.own.cellAt y (by omega); rw [nv_at hyl] at hc7)
            | (go_simp; go_at_call 13; refine (next_any _ _ (by unfold I64; omega) _ hM7.out.st.2).mono ?_; rintro e w8 ⟨zz, rfl, hz, hs8⟩; obtain ⟨z, rfl⟩ := Int.eq_ofNat_of_zero_le hz.1; have hz8 : z < 8 := (by have := hz.2.1 (by decide); omega); have hM8 := Lib.hid (hM7.out.tape hat hs8); have hc8 := hM8.out.own.own.cellAt y (by omega); rw [nv_at hyl] at hc8; have hf8 := hM8.out.own.own.frozenAt y))
          all_goals
            obtain ⟨X, hX, hXe⟩ := xor_byte (hM8.out.own.by_ _ (List.getElem_mem hyl)) hz8
            rw [hXe]
            have HM9 := Lib.hid (hM8.out.set (j := y) (x := X) hat hX)
            clear hXe hc7 hc8 hf8 hM7 hM8
            go_wp2_with fail
            exact ⟨⟨k - 1, by omega, by congr 1; omega, some ⟨g, 0, none⟩, c, l.set y X, by rw [List.length_set]; omega, by rw [List.length_set], HM9⟩, by simp [intOf]; omega⟩
        · go_wp2_with fail
          refine (next_any _ ((l.length : Int) + 1) (by unfold I64; omega) _ hTp6).mono ?_
          rintro e w7 ⟨yy, rfl, hy, hs⟩
          obtain ⟨y, rfl⟩ := Int.eq_ofNat_of_zero_le hy.1
          have hyl : y ≤ l.length := by have := hy.2.1 (by omega); omega
          have HM2 := Lib.hid ((HM1.out.tape hat hs).cut hyl)
          have hlc : l.length ≤ c := own_le_cap HM1.out.own.own
          have hyc : y ≤ c := by omega
          clear hy hs hTp6 HM1
          go_wp2_with fail
          exact ⟨⟨k - 1, by omega, by congr 1; omega, some ⟨g, 0, none⟩, c, l.take y, by rw [List.length_take]; omega, by rw [List.length_take, Nat.min_eq_left hyl], HM2⟩, by simp [intOf]; omega⟩
        · go_wp2_with fail
          refine (next_any _ 3 (by unfold I64; omega) _ hTp6).mono ?_
          rintro e w7 ⟨zz, rfl, hz, hs⟩
          obtain ⟨z, rfl⟩ := Int.eq_ofNat_of_zero_le hz.1
          have hz3 : z < 3 := by have := hz.2.1 (by decide); omega
          have HM2 := Lib.hid (HM1.out.tape hat hs)
          have hwz : IntKind.u8.wrap (z : Int) = (z : Int) := by rw [IntKind.wrap_u8]; omega
          have hown := HM2.out.own.own
          have hsz := HM2.out.st.1.size
          have HL := Lib.hid hl0
          clear hz hs hTp6 HM1 hl0
          go_wp2_with (at_builtin; refine wpList_append_own _ rfl _ _ 23 rfl w2.heap.size 5 j0 (.int .u8 0) 1 1 Tryd.underlying23 hj0 hy0 hy1 hy2 rfl (by decide) _ _ _ rfl (hown.alloc _) ⟨w7.heap.size, 0, none⟩ 1 1 [.int .u8 (z : Int)] rfl rfl ?c1 ?c2 ?c3 ?c4 ?c5 ?_)
          try (case c1 => exact cell_one _ _ _)
          case c2 => first | rfl | (intro u hu; simp at hu; subst hu; rfl)
          case c3 => first | omega | (unfold maxLen; omega)
          case c4 => omega
          case c5 => first | omega | (simp; omega)
          intro v' w8 hown' hg _
          obtain ⟨p', c', hv', hM'⟩ := HM2.out.more hat (show z < 256 by omega) hown' hg
          subst hv'
          have HM3 := Lib.hid hM'
          clear hown' hg hown HM2 hM'
          go_wp2_with fail
          exact ⟨⟨k - 1, by omega, by congr 1; omega, p', c', l ++ [z], by rw [List.length_append]; simp; omega, rfl, HM3⟩, by simp [intOf]; omega⟩
        · go_wp2_with fail
          refine (next_any _ (l.length : Int) (by unfold I64; omega) _ hTp6).mono ?_
          rintro e w7 ⟨yy, rfl, hy, hs⟩
          obtain ⟨y, rfl⟩ := Int.eq_ofNat_of_zero_le hy.1
          have hyl : y < l.length := by have := hy.2.1 (by omega); omega
          have HM2 := Lib.hid (HM1.out.tape hat hs)
          have hTp7 := HM2.out.st.2
          clear hy hs hTp6 HM1
          go_wp2_with fail
          refine (next_any _ 256 (by unfold I64; omega) _ hTp7).mono ?_
          rintro e w8 ⟨zz, rfl, hz, hs⟩
          obtain ⟨z, rfl⟩ := Int.eq_ofNat_of_zero_le hz.1
          have hz3 : z < 256 := by have := hz.2.1 (by decide); omega
          have HM3 := Lib.hid (HM2.out.tape hat hs)
          have HM4 := Lib.hid (HM3.out.set (j := y) (x := z) hat hz3)
          have hwz : IntKind.u8.wrap (z : Int) = (z : Int) := by rw [IntKind.wrap_u8]; omega
          have hc := HM3.out.own.own.cellAt y (by omega)
          have hf := HM3.out.own.own.frozenAt y
          rw [nv_at hyl] at hc
          clear hz hs hTp7 HM2 HM3
          go_wp2_with fail
          exact ⟨⟨k - 1, by omega, by congr 1; omega, some ⟨g, 0, none⟩, c, l.set y z, by rw [List.length_set]; omega, by rw [List.length_set], HM4⟩, by simp [intOf]; omega⟩
    · have GZ := Lib.hid (grown_tape G1.out hM.out.st.1)
      have hle := own_le hM.out.own
      have HRl := Lib.hid (And.intro hM.out.own.by_ (And.intro hle (And.intro hM.out.own.pc (show l.length ≤ 9223372036854775807 / 8 by omega))))
      have HRr := Lib.hid hM.out.own.rd
      have hkl2 : (¬ 0 < k) ∨ (0 < k ∧ ¬ 0 < l.length) := by omega
      clear hM hle hkl
      rcases hkl2 with hk1 | ⟨hk1, hk2⟩
      all_goals
        go_upto_region 15 with fail
        have gal := World.grownBy_alloc wr (.cells #[.slice p l.length c, .slice pL L.length cL] 23) none
        have HL9 := Lib.hid (heap_alloc_new wr (.cells #[.slice p l.length c, .slice pL L.length cL] 23))
        have HR1 := Lib.hid (HRr.out.keep gal)
        have HR2 := Lib.hid ((HRL.out.keep GZ.out).keep gal)
        have G9 := Lib.hid (grown_trans GZ.out gal)
        clear gal GZ HRr
        generalize wr.alloc _ = w9 at *
        generalize wr.heap.size = bk at *
        go_wp2_with fail
        go_loopw [10] (fun i wr => ∃ j : Nat, j ≤ 2 ∧ i = .int .i64 (j : Int) ∧ Hid (w9.grownBy wr none)) (fun i _ => (2 - (intOf i).toNat))
        case atStart => exact ⟨0, Nat.zero_le _, rfl, Lib.hid (grown_refl _ _)⟩
        case round =>
          obtain ⟨j, hj, rfl, hR⟩ := hrel
          by_cases hj2 : j < 2
          · obtain ⟨M, pM, cM, hcell, hbM, hcM, hpM, hbigM, hRM⟩ : Row2L wr bk j := by
              have hrow := kept_row HL9.out hR.out (by simp)
              rcases (show j = 0 ∨ j = 1 by omega) with rfl | rfl
              · exact ⟨l, p, c, cell_of_row _ _ _ _ _ _ hrow, HRl.out.1, HRl.out.2.1, HRl.out.2.2.1, HRl.out.2.2.2, (HR1.out.keep hR.out).mono (fun _ _ => trivial)⟩
              · exact ⟨L, pL, cL, cell_of_row _ _ _ _ _ _ hrow, hbL, HIN.out.1, HIN.out.2.1, HIN.out.2.2, (HR2.out.keep hR.out).mono (fun _ _ => trivial)⟩
            obtain ⟨m0, m1, m2, m3, m4, m5, m6, m7, m8, s9, hX⟩ := dec_form2 M
            obtain ⟨X, y, hXy⟩ : ∃ X y, decV M = (X, y) := ⟨_, _, rfl⟩
            have hX : X = #[.int .i64 m0, .int .i64 m1, .int .i64 m2, .int .i64 m3, .int .i64 m4, .int .i64 m5, .int .i64 m6, .int .i64 m7, .int .u64 m8, .string s9] := by rw [hXy] at hX; exact hX
            subst hX
            have HXY := Lib.hid hXy
            have hD1 := pdecode_any M hbM pM cM hcM _ wr hRM
            have hD2 := fun (w' : World) (hR' : Rd w' (fun _ => True) (.slice pM M.length cM) (M.map nv)) => rdecode_any M hbM pM cM hcM hbigM _ w' hR'
            rw [hXy] at hD1 hD2
            have HD1 := Lib.hid hD1
            have HD2 := Lib.hid hD2
            have HRM := Lib.hid hRM
            have HPM := Lib.hid hpM
            have HCL := Lib.hid hcell
            have j0' : (0 : Int) ≤ (j : Int) := by omega
            have j2' : (j : Int) < 2 := by omega
            clear hX hXy hD1 hD2 hRM hcM hpM hbigM
            go_wp2_with fail
            refine HD1.out.mono ?_
            rintro e w10 ⟨rfl, hg⟩
            have hga := grown_trans hg (World.grownBy_alloc w10 (.cells #[.int .i64 m0, .int .i64 m1, .int .i64 m2, .int .i64 m3, .int .i64 m4, .int .i64 m5, .int .i64 m6, .int .i64 m7, .int .u64 m8, .string s9] 31) none)
            have HB1 := Lib.hid (heap_alloc_new w10 (.cells #[.int .i64 m0, .int .i64 m1, .int .i64 m2, .int .i64 m3, .int .i64 m4, .int .i64 m5, .int .i64 m6, .int .i64 m7, .int .u64 m8, .string s9] 31))
            have hcell := hga.cell HCL.out (by simp)
            have HRM1 := Lib.hid (HRM.out.keep hga)
            have HR10 := Lib.hid (grown_trans hR.out hga)
            clear hg hga HD1 HRM
            go_wp2_with fail
            generalize w10.alloc (.cells #[.int .i64 m0, .int .i64 m1, .int .i64 m2, .int .i64 m3, .int .i64 m4, .int .i64 m5, .int .i64 m6, .int .i64 m7, .int .u64 m8, .string s9] 31) = w11 at *
            refine (HD2.out _ HRM1.out).mono ?_
            rintro e w12 ⟨rfl, hg⟩
            have hga := grown_trans hg (World.grownBy_alloc w12 (.cells #[.int .i64 m0, .int .i64 m1, .int .i64 m2, .int .i64 m3, .int .i64 m4, .int .i64 m5, .int .i64 m6, .int .i64 m7, .int .u64 m8, .string s9] 31) none)
            have HB2 := Lib.hid (heap_alloc_new w12 (.cells #[.int .i64 m0, .int .i64 m1, .int .i64 m2, .int .i64 m3, .int .i64 m4, .int .i64 m5, .int .i64 m6, .int .i64 m7, .int .u64 m8, .string s9] 31))
            have HB1' := Lib.hid (kept_row HB1.out hga (by simp))
            have HCL2 := Lib.hid (hga.cell hcell (by simp))
            have HRM2 := Lib.hid (HRM1.out.keep hga)
            have HR12 := Lib.hid (grown_trans HR10.out hga)
            clear hcell
            have a0 : (w12.alloc (.cells #[.int .i64 m0, .int .i64 m1, .int .i64 m2, .int .i64 m3, .int .i64 m4, .int .i64 m5, .int .i64 m6, .int .i64 m7, .int .u64 m8, .string s9] 31)).cell? ⟨w10.heap.size, 0, none⟩ = some (.int .i64 m0) := cell_of_row _ _ _ _ _ _ HB1'.out
            have a1 : (w12.alloc (.cells #[.int .i64 m0, .int .i64 m1, .int .i64 m2, .int .i64 m3, .int .i64 m4, .int .i64 m5, .int .i64 m6, .int .i64 m7, .int .u64 m8, .string s9] 31)).cell? ⟨w10.heap.size, 1, none⟩ = some (.int .i64 m1) := cell_of_row _ _ _ _ _ _ HB1'.out
            have a2 : (w12.alloc (.cells #[.int .i64 m0, .int .i64 m1, .int .i64 m2, .int .i64 m3, .int .i64 m4, .int .i64 m5, .int .i64 m6, .int .i64 m7, .int .u64 m8, .string s9] 31)).cell? ⟨w10.heap.size, 2, none⟩ = some (.int .i64 m2) := cell_of_row _ _ _ _ _ _ HB1'.out
            have a3 : (w12.alloc (.cells #[.int .i64 m0, .int .i64 m1, .int .i64 m2, .int .i64 m3, .int .i64 m4, .int .i64 m5, .int .i64 m6, .int .i64 m7, .int .u64 m8, .string s9] 31)).cell? ⟨w10.heap.size, 3, none⟩ = some (.int .i64 m3) := cell_of_row _ _ _ _ _ _ HB1'.out
            have a4 : (w12.alloc (.cells #[.int .i64 m0, .int .i64 m1, .int .i64 m2, .int .i64 m3, .int .i64 m4, .int .i64 m5, .int .i64 m6, .int .i64 m7, .int .u64 m8, .string s9] 31)).cell? ⟨w10.heap.size, 4, none⟩ = some (.int .i64 m4) := cell_of_row _ _ _ _ _ _ HB1'.out
            have a5 : (w12.alloc (.cells #[.int .i64 m0, .int .i64 m1, .int .i64 m2, .int .i64 m3, .int .i64 m4, .int .i64 m5, .int .i64 m6, .int .i64 m7, .int .u64 m8, .string s9] 31)).cell? ⟨w10.heap.size, 5, none⟩ = some (.int .i64 m5) := cell_of_row _ _ _ _ _ _ HB1'.out
            have a6 : (w12.alloc (.cells #[.int .i64 m0, .int .i64 m1, .int .i64 m2, .int .i64 m3, .int .i64 m4, .int .i64 m5, .int .i64 m6, .int .i64 m7, .int .u64 m8, .string s9] 31)).cell? ⟨w10.heap.size, 6, none⟩ = some (.int .i64 m6) := cell_of_row _ _ _ _ _ _ HB1'.out
            have a7 : (w12.alloc (.cells #[.int .i64 m0, .int .i64 m1, .int .i64 m2, .int .i64 m3, .int .i64 m4, .int .i64 m5, .int .i64 m6, .int .i64 m7, .int .u64 m8, .string s9] 31)).cell? ⟨w10.heap.size, 7, none⟩ = some (.int .i64 m7) := cell_of_row _ _ _ _ _ _ HB1'.out
            have a8 : (w12.alloc (.cells #[.int .i64 m0, .int .i64 m1, .int .i64 m2, .int .i64 m3, .int .i64 m4, .int .i64 m5, .int .i64 m6, .int .i64 m7, .int .u64 m8, .string s9] 31)).cell? ⟨w10.heap.size, 8, none⟩ = some (.int .u64 m8) := cell_of_row _ _ _ _ _ _ HB1'.out
            have a9 : (w12.alloc (.cells #[.int .i64 m0, .int .i64 m1, .int .i64 m2, .int .i64 m3, .int .i64 m4, .int .i64 m5, .int .i64 m6, .int .i64 m7, .int .u64 m8, .string s9] 31)).cell? ⟨w10.heap.size, 9, none⟩ = some (.string s9) := cell_of_row _ _ _ _ _ _ HB1'.out
            have b0 : (w12.alloc (.cells #[.int .i64 m0, .int .i64 m1, .int .i64 m2, .int .i64 m3, .int .i64 m4, .int .i64 m5, .int .i64 m6, .int .i64 m7, .int .u64 m8, .string s9] 31)).cell? ⟨w12.heap.size, 0, none⟩ = some (.int .i64 m0) := cell_of_row _ _ _ _ _ _ HB2.out
            have b1 : (w12.alloc (.cells #[.int .i64 m0, .int .i64 m1, .int .i64 m2, .int .i64 m3, .int .i64 m4, .int .i64 m5, .int .i64 m6, .int .i64 m7, .int .u64 m8, .string s9] 31)).cell? ⟨w12.heap.size, 1, none⟩ = some (.int .i64 m1) := cell_of_row _ _ _ _ _ _ HB2.out
            have b2 : (w12.alloc (.cells #[.int .i64 m0, .int .i64 m1, .int .i64 m2, .int .i64 m3, .int .i64 m4, .int .i64 m5, .int .i64 m6, .int .i64 m7, .int .u64 m8, .string s9] 31)).cell? ⟨w12.heap.size, 2, none⟩ = some (.int .i64 m2) := cell_of_row _ _ _ _ _ _ HB2.out
            have b3 : (w12.alloc (.cells #[.int .i64 m0, .int .i64 m1, .int .i64 m2, .int .i64 m3, .int .i64 m4, .int .i64 m5, .int .i64 m6, .int .i64 m7, .int .u64 m8, .string s9] 31)).cell? ⟨w12.heap.size, 3, none⟩ = some (.int .i64 m3) := cell_of_row _ _ _ _ _ _ HB2.out
            have b4 : (w12.alloc (.cells #[.int .i64 m0, .int .i64 m1, .int .i64 m2, .int .i64 m3, .int .i64 m4, .int .i64 m5, .int .i64 m6, .int .i64 m7, .int .u64 m8, .string s9] 31)).cell? ⟨w12.heap.size, 4, none⟩ = some (.int .i64 m4) := cell_of_row _ _ _ _ _ _ HB2.out
            have b5 : (w12.alloc (.cells #[.int .i64 m0, .int .i64 m1, .int .i64 m2, .int .i64 m3, .int .i64 m4, .int .i64 m5, .int .i64 m6, .int .i64 m7, .int .u64 m8, .string s9] 31)).cell? ⟨w12.heap.size, 5, none⟩ = some (.int .i64 m5) := cell_of_row _ _ _ _ _ _ HB2.out
            have b6 : (w12.alloc (.cells #[.int .i64 m0, .int .i64 m1, .int .i64 m2, .int .i64 m3, .int .i64 m4, .int .i64 m5, .int .i64 m6, .int .i64 m7, .int .u64 m8, .string s9] 31)).cell? ⟨w12.heap.size, 6, none⟩ = some (.int .i64 m6) := cell_of_row _ _ _ _ _ _ HB2.out
            have b7 : (w12.alloc (.cells #[.int .i64 m0, .int .i64 m1, .int .i64 m2, .int .i64 m3, .int .i64 m4, .int .i64 m5, .int .i64 m6, .int .i64 m7, .int .u64 m8, .string s9] 31)).cell? ⟨w12.heap.size, 7, none⟩ = some (.int .i64 m7) := cell_of_row _ _ _ _ _ _ HB2.out
            have b8 : (w12.alloc (.cells #[.int .i64 m0, .int .i64 m1, .int .i64 m2, .int .i64 m3, .int .i64 m4, .int .i64 m5, .int .i64 m6, .int .i64 m7, .int .u64 m8, .string s9] 31)).cell? ⟨w12.heap.size, 8, none⟩ = some (.int .u64 m8) := cell_of_row _ _ _ _ _ _ HB2.out
            have b9 : (w12.alloc (.cells #[.int .i64 m0, .int .i64 m1, .int .i64 m2, .int .i64 m3, .int .i64 m4, .int .i64 m5, .int .i64 m6, .int .i64 m7, .int .u64 m8, .string s9] 31)).cell? ⟨w12.heap.size, 9, none⟩ = some (.string s9) := cell_of_row _ _ _ _ _ _ HB2.out
            clear hg hga HD2 HRM1 HB1 HR10
            by_cases hy0 : y = 0
            · subst hy0
              obtain ⟨Q, hQw, hQv, hQX, hQe⟩ := enc_dec hbM HXY.out
              have hQX2 := hQX
              simp only [pcells, Array.mk.injEq, List.cons.injEq, Value.int.injEq, Value.string.injEq, true_and, and_true] at hQX2
              obtain ⟨rfl, rfl, rfl, rfl, rfl, rfl, rfl, rfl, rfl, rfl⟩ := hQX2
              have hT12 := HT0.out.keep (grown_trans G9.out HR12.out)
              have HQ := Lib.hid (And.intro hQv hQe)
              have hcl := HCL2.out
              clear hQX hQe hQv HXY
              go_wp2_with fail
              refine (pencode_ag2 Q hQw _ hT12).mono ?_
              rintro e w14 (⟨_, g2, rfl, hB, hge, hg⟩ | ⟨h, _⟩)
              · have HR14 := Lib.hid (grown_trans HR12.out hg)
                have hcl2 := hg.cell hcl (by simp)
                have hBd : Blk w14.drew g2 (enc Q) := hB.keep (grown_drew (grown_refl w14 none))
                have E1 := conv_nv (l := enc Q) (k := (enc Q).length) (pk_by _) rfl (hBd.rd (fun _ => True) trivial (enc Q).length) (by simp)
                have E2 := conv_nv (l := M) (k := M.length) hbM rfl ((HRM2.out.keep hg).keep (grown_drew (grown_refl w14 none))) HPM.out
                rw [HQ.out.2] at E1 ⊢
                clear hB hBd hge hg hcl
                go_wp2_with fail
                have hcl3 := (grown_drew (grown_refl w14 none)).cell hcl2 (by simp)
                go_region_held3 (fun w' => w'.cell? ⟨bk, j, none⟩ = some (.slice pM M.length cM) ∧ (convert 23 9 (.slice pM M.length cM)).run Tryd.prog w' = .ok (.string (bs M)) w' ∧ (convert 23 9 (.slice (some ⟨g2, 0, none⟩) M.length M.length)).run Tryd.prog w' = .ok (.string (bs M)) w')
                  (first | with_reducible exact ⟨hcl3, E2, E1⟩)
                  (first | fail)
                all_goals
                  go_wp2_with fail
                  first
                    | exact ⟨⟨j + 1, by omega, by go_num, hid_more HR14 (grown_drew (grown_refl w14 none))⟩, by simp [intOf]; omega⟩
                    | (go_roundw
                       case rel => exact ⟨j + 1, by omega, by first | rfl | go_num, hid_more HR14 (grown_drew (grown_refl w14 none))⟩
                       case measure => simp [intOf]; omega)
              · rw [HQ.out.1] at h; cases h
            · have hyb : (y == 0) = false := by simpa using hy0
              go_wp2_with fail
              first
                | exact ⟨⟨j + 1, by omega, by go_num, HR12⟩, by simp [intOf]; omega⟩
                | (go_roundw
                   case rel => exact ⟨j + 1, by omega, by first | rfl | go_num, HR12⟩
                   case measure => simp [intOf]; omega)
          · have hT9 := HT0.out.keep (grown_trans G9.out hR.out)
            have GE := Lib.hid (grown_trans G9.out hR.out)
            obtain rfl : j = 2 := by omega
            clear hR hj2
            go_wp2_with fail
            refine (awake_any _ hT9).mono ?_
            rintro e w14 ⟨rfl, hg⟩
            have G8 := Lib.hid (grown_trans GE.out hg)
            clear hg
            go_wp2_with fail
            go_ret
            exact ⟨rfl, G8.out⟩
end Go.Proofs.YtpombmpkccnefaaDoor

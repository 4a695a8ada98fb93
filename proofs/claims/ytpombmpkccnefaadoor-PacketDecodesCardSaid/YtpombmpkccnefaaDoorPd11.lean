/- Parts of the proof, packed: PkDecR2, PkDecM, PkAwake, PkDecK. -/
import Derived.Test.YtpombmpkccnefaaDoorPd10
import Derived.Deep.CutRange
import Derived.Test.YtpombmpkccnefaaDoorPd7
import Derived.Test.YtpombmpkccnefaaDoorPd6
import Derived.Test.YtpombmpkccnefaaDoorPd9
import Derived.Test.YtpombmpkccnefaaDoorPd8
/- packet: the reference's Decode, the walk. -/
namespace Go.Proofs.YtpombmpkccnefaaDoor
open Go.RowKit Bs
theorem off_next (k : Nat) (hk : k < 10) : offs.getD (k + 1) 0 = offs.getD k 0 + wids.getD k 0 ∧ wids.getD k 0 ≤ 10 ∧ wcells[k]? = some (.int .i64 ((wids.getD k 0 : Nat) : Int)) := by
  rcases (show k = 0 ∨ k = 1 ∨ k = 2 ∨ k = 3 ∨ k = 4 ∨ k = 5 ∨ k = 6 ∨ k = 7 ∨ k = 8 ∨ k = 9 by omega) with rfl | rfl | rfl | rfl | rfl | rfl | rfl | rfl | rfl | rfl <;> exact ⟨rfl, by decide, rfl⟩
theorem keepd {w0 w' : World} {S D k wd : Nat} {v0 v1 : Value} (h0 : w0.cell? ⟨S, 0, none⟩ = some v0) (h1 : w0.cell? ⟨S, 1, none⟩ = some v1) (h2 : w0.cell? ⟨D, k, none⟩ = some (.int .i64 (wd : Int))) (g : Hid (w0.grownBy w' none)) :
    w'.cell? ⟨S, 0, none⟩ = some v0 ∧ w'.cell? ⟨S, 1, none⟩ = some v1 ∧ w'.cell? ⟨D, k, none⟩ = some (.int .i64 (wd : Int)) ∧ Hid (w0.grownBy w' none) :=
  ⟨g.out.cell h0 (by simp), g.out.cell h1 (by simp), g.out.cell h2 (by simp), g⟩
theorem hid_non (w : World) : Hid (w.grownBy w.drew none) := Lib.hid (grown_drew (grown_refl _ _))
theorem pad_k {sz K : Nat} (h : K + 16 ≤ 8 * sz) (h2 : sz ≤ 81) : IntKind.i64.wrap (IntKind.i64.wrap (8 * (sz : Int)) - ((K : Int) + 16)) = ((8 * sz - (K + 16) : Nat) : Int) := by
  rw [IntWalk.i64_in (8 * (sz : Int)) (by omega), IntWalk.i64_in _ (by omega)]; omega
theorem dec_pick {a : Array Value × Int} {A Z : Array Value} {P Q R : Prop} [Decidable P] [Decidable Q] [Decidable R]
    (h : a = if (if (if P then (23 : Int) else if Q then 24 else 0) = 0 then (A, (0 : Int)) else (Z, if P then (23 : Int) else if Q then 24 else 0)).2 ≠ 0 then (Z, (if (if P then (23 : Int) else if Q then 24 else 0) = 0 then (A, (0 : Int)) else (Z, if P then (23 : Int) else if Q then 24 else 0)).2) else if R then (Z, 21) else ((if (if P then (23 : Int) else if Q then 24 else 0) = 0 then (A, (0 : Int)) else (Z, if P then (23 : Int) else if Q then 24 else 0)).1, 0)) :
    a = if P then (Z, 23) else if Q then (Z, 24) else if R then (Z, 21) else (A, 0) := by
  rw [h]
  by_cases hP : P <;> by_cases hQ : Q <;> by_cases hR : R <;> simp [hP, hQ, hR]
theorem fl7 {wb w : World} {V : Nat → Nat} {g cap : Nat} (h : Flds wb V 10 (.slice (some ⟨g, 0, none⟩) 10 cap) w) :
    w.cell? ⟨g, 1, none⟩ = some (.int .i64 ((V 1 : Nat) : Int)) ∧ w.cell? ⟨g, 2, none⟩ = some (.int .i64 ((V 2 : Nat) : Int)) ∧ w.cell? ⟨g, 3, none⟩ = some (.int .i64 ((V 3 : Nat) : Int)) ∧ w.cell? ⟨g, 5, none⟩ = some (.int .i64 ((V 5 : Nat) : Int)) ∧ w.cell? ⟨g, 6, none⟩ = some (.int .i64 ((V 6 : Nat) : Int)) ∧ w.cell? ⟨g, 7, none⟩ = some (.int .i64 ((V 7 : Nat) : Int)) ∧ w.cell? ⟨g, 8, none⟩ = some (.int .i64 ((V 8 : Nat) : Int)) :=
  ⟨flds_cell h (by decide), flds_cell h (by decide), flds_cell h (by decide), flds_cell h (by decide), flds_cell h (by decide), flds_cell h (by decide), flds_cell h (by decide)⟩
set_option maxRecDepth 100000 in
set_option maxHeartbeats 6400000 in
theorem rdecode_any (l : List Nat) (hl : By l) (p : Option Addr) (c : Nat) (hc : l.length ≤ c) (hbig : l.length ≤ 9223372036854775807 / 8) (q : Nat → Prop) (w : World) (hR : Rd w q (.slice p l.length c) (l.map nv)) :
    Calls Tryd.prog 15 #[.slice p l.length c] w fun e w' => e = .returned (.tuple #[.agg (decV l).1, .int .i64 (decV l).2]) ∧ w.grownBy w' none := by
  obtain ⟨i0, hi, hz0, hz1, hz2⟩ := info_parts info_int
  obtain ⟨j0, hj0, hy0, hy1, hy2⟩ := info_parts info_u8
  obtain ⟨k1, k2⟩ := one_box w zpk 31
  have HB := Lib.hid (And.intro k1 k2)
  have HR := Lib.hid (hR.bound.keep k2)
  clear k1 k2 hR
  unfold zpk at HB HR
  go_enter Tryd.func15, Tryd.ntmps15
  go_upto_region 1 with fail
  generalize w.alloc _ = wa at *
  change Hid (wa.heap[w.heap.size]? = some (.cells zpk 31 (0, 0)) ∧ w.grownBy wa none) at HB
  by_cases h7 : l.length < 7
  · have hE : Hid (decV l = (zpk, 20)) := Lib.hid (by unfold decV; rw [if_pos h7])
    obtain ⟨⟨r0, r1, r2, r3, r4, r5, r6, r7, r8, r9⟩, f0, f1, f2, f3, f4, f5, f6, f7, f8, f9⟩ := zp_cells HB.out.1
    go_wp2_with fail
    refine bodyPost_ret (res_packet_err rfl _ _ w.heap.size _ rfl rfl (pput_row _ _ _ _ _ _ _ _ _ _ HB.out.1)) rfl ?_
    exact ⟨by rw [hE.out]; rfl, grown_new HB.out.2 (pput_grown _ w.heap.size _ _ _ _ _ _ _ _ _ _) (Nat.le_refl _)⟩
  · have h7' : 7 ≤ l.length := by omega
    obtain ⟨t, ht⟩ : ∃ t, t = l.take 128 := ⟨_, rfl⟩
    have htl : t.length = min 128 l.length := by rw [ht, List.length_take]
    have hRt : Rd wa (· < w.heap.size) (.slice p t.length c) (t.map nv) := by
      by_cases h128 : 128 ≤ l.length
      · rw [ht]; exact rd_take 128 h128 HR.out c
      · rw [ht, List.take_of_length_le (by omega)]; exact HR.out
    have HT := Lib.hid ht
    have HTL := Lib.hid htl
    have HRT := Lib.hid hRt
    clear ht htl hRt HR
    go_upto_if 33 with fail
    go_cut [0, 4] from 34 to 38 (fun bb rr wx => bb = .slice p t.length c ∧ rr = .int .i64 ((l.length - t.length : Nat) : Int) ∧ wx = wa)
    case first =>
      by_cases h128 : 128 < l.length
      · have e1 : Hid (t.length = 128 ∧ l.length - t.length = l.length - 128) := Lib.hid (by have := HTL.out; omega)
        have hc128 : 128 ≤ c := by omega
        go_wp2_with fail
        go_meet
        exact ⟨by rw [e1.out.1], by rw [e1.out.2]; congr 1; omega, rfl⟩
      · have e1 : Hid (t.length = l.length) := Lib.hid (by have := HTL.out; omega)
        go_wp2_with fail
        go_meet
        exact ⟨by rw [e1.out], by rw [e1.out, Nat.sub_self]; rfl, rfl⟩
    case rest =>
      obtain ⟨rfl, rfl, rfl⟩ := hcut
      have ht7 : 7 ≤ t.length := by have := HTL.out; omega
      have ht128 : t.length ≤ 128 := by have := HTL.out; omega
      have htle : t.length ≤ l.length := by have := HTL.out; omega
      obtain ⟨V, hV⟩ : ∃ V, V = hv7 l := ⟨_, rfl⟩
      have HBt : By t := by rw [HT.out]; exact fun x hx => hl x (List.mem_of_mem_take hx)
      have HVf : Hid (∀ k, k < 10 → num (bt t) (offs.getD k 0) (wids.getD k 0) = V k) := by
        refine Lib.hid fun k hk => ?_
        rw [hV]
        have ho := off_le k hk
        unfold hv7 fv
        refine num_congr _ fun i hi => ?_
        rw [HT.out, bt_take (by omega), bt_take (by omega)]
      obtain ⟨t1, t2, t3, t4⟩ := two_boxes wc #[.slice p t.length c, .int .i64 (8 * (t.length : Int))] wcells 75 3
      have HD0 : Hid (DR w wc.heap.size (wc.heap.size + 1) t p c ((wc.alloc (.cells #[.slice p t.length c, .int .i64 (8 * (t.length : Int))] 75)).alloc (.cells wcells 3))) :=
        Lib.hid ⟨kept_row HB.out.1 t3 (by simp), t1, t2, HRT.out.keep t3, grown_trans HB.out.2 t3⟩
      have HVV := Lib.hid hV
      clear t1 t2 t3 t4 HB HRT hV
      go_wp2_with fail
      refine (widths_any _).mono ?_
      rintro e w3 ⟨rfl, rfl⟩
      go_upto_region 9 with fail
      generalize (wc.alloc _).alloc _ = w4 at *
      have HF0 : Hid (Flds w4 V 0 (.slice none 0 0) w4) := Lib.hid ⟨World.ownsRow_nil _ _ _ _, grown_refl _ _⟩
      obtain ⟨D, hD⟩ : ∃ D, D = wc.heap.size + 1 := ⟨_, rfl⟩
      rw [← hD] at HD0 ⊢
      generalize wc.heap.size = S at *
      clear hD
      go_wp2_with fail
      go_loopw [7, 8, 9] (fun f at_ i wr => ∃ k : Nat, k ≤ 10 ∧ i = .int .i64 (k : Int) ∧ at_ = .int .i64 ((offs.getD k 0 : Nat) : Int) ∧ Hid (Flds w4 V k f wr)) (fun _ _ i _ => (10 - (intOf i).toNat))
      case atStart => exact ⟨0, Nat.zero_le _, rfl, rfl, HF0⟩
      case round =>
        obtain ⟨k, hk, rfl, rfl, hF⟩ := hrel
        clear HF0
        have hsz := hF.out.2.size
        by_cases hk2 : k < 10
        · have HDr := Lib.hid (HD0.out.keep hF.out.2)
          obtain ⟨s0, s1⟩ := HDr.out.facts
          obtain ⟨hoff, hwd, hwc⟩ := off_next k hk2
          have hd := (cell_of_row _ _ k _ _ _ HDr.out.db).trans hwc
          have hVk := HVf.out k hk2
          have hol := off_le k hk2
          have hlt : V k < 2 ^ 10 := by rw [← hVk]; exact Nat.lt_of_lt_of_le (num_lt _ _ _) (Nat.pow_le_pow_right (by decide) hwd)
          obtain ⟨a2, ha2⟩ : ∃ a2, a2 = offs.getD (k + 1) 0 := ⟨_, rfl⟩
          rw [← ha2] at hoff
          generalize offs.getD k 0 = a at *
          generalize wids.getD k 0 = wd at *
          have hT := take_wholer (l := t) (A := a) (K := wd) (a := (a : Int)) (k := (wd : Int)) HBt (by omega) (by omega) (by omega) rfl rfl (HDr.out.rd.keep (hid_non wr).out)
          rw [hVk] at hT
          have HTk := Lib.hid hT
          have HOF := Lib.hid hoff
          have HA2 := Lib.hid ha2
          have HDD := Lib.hid hd
          have k0 : (0 : Int) ≤ (k : Int) := by omega
          have k10 : (k : Int) < 10 := by omega
          have hVs : V k < 1024 := hlt
          have a49 : a ≤ 49 := by omega
          clear hT hoff ha2 hVk hlt hwc hol
          go_wp2_with fail
          go_region_held3 (fun w' => w'.cell? ⟨S, 0, none⟩ = some (.slice p t.length c) ∧ w'.cell? ⟨S, 1, none⟩ = some (.int .i64 (8 * (t.length : Int))) ∧ w'.cell? ⟨D, k, none⟩ = some (.int .i64 (wd : Int)) ∧ Hid (wr.grownBy w' none))
            (first | with_reducible exact keepd s0 s1 HDD.out (hid_non wr) | (go_split_ands; with_reducible refine keepd s0 s1 HDD.out (hid_more ?_ hap); with_reducible assumption) | (go_split_ands; with_reducible refine keepd s0 s1 HDD.out ?_; with_reducible assumption))
            ((go_at_call 60; refine HTk.out.mono ?_; rintro e w' ⟨rfl, hap⟩))
          all_goals
            have GW := Lib.hid (grown_trans (hid_non wr).out hap)
            go_split_ands
            have HF2 := Lib.hid (flds_keep hF.out GW.out)
            have hown := HF2.out.1
            have hsz2 := HF2.out.2.size
            clear hap hF
            go_wp2_with (at_builtin; refine wpList_append_own _ rfl _ _ 22 rfl w4.heap.size 3 i0 (.int .i64 0) 1 8 Tryd.underlying22 hi hz0 hz1 hz2 rfl (by decide) _ _ _ rfl (hown.alloc _) ⟨w'.heap.size, 0, none⟩ 1 1 [.int .i64 ((V k : Nat) : Int)] rfl rfl ?c1 ?c2 ?c3 ?c4 ?c5 ?_)
            try (case c1 => exact cell_one _ _ _)
            case c2 => first | rfl | (intro u hu; simp at hu; subst hu; rfl)
            case c3 => first | omega | (unfold maxLen; omega)
            case c4 => omega
            case c5 => first | omega | (simp; omega)
            intro v' w1 hown' hg _
            have HF3 := Lib.hid (flds_next HF2.out hown' hg)
            have HDn := Lib.hid (HD0.out.keep HF3.out.2)
            have d1 : w1.cell? ⟨D, k, none⟩ = some (.int .i64 (wd : Int)) := (cell_of_row _ _ k _ _ _ HDn.out.db).trans ((cell_of_row _ _ k _ _ _ HDr.out.db).symm.trans HDD.out)
            clear hown' hg hown HF2 HDr HTk HDD HDn s0 s1 hd
            go_wp2_with fail
            go_roundw
            case rel => exact ⟨k + 1, by omega, by go_num, by rw [← HA2.out, HOF.out]; simp, HF3⟩
            case measure => simp [intOf]; omega
        · obtain rfl : k = 10 := by omega
          obtain ⟨gf, cf, rfl, hgf⟩ := own_form hF.out.1 (by decide)
          have HD1 := Lib.hid (HD0.out.keep hF.out.2)
          have HF1 := hF
          rw [show offs.getD 10 0 = 49 from rfl]
          clear hk hk2 hF HD0 hsz
          have HDV : Hid (decV l = if misV V ≠ 0 then (zpk, misV V) else if l.length < szV V then (zpk, 20) else
            if (restV V (8 * 2 ^ V 4) (l.take (szV V))).2 ≠ 0 then (zpk, (restV V (8 * 2 ^ V 4) (l.take (szV V))).2) else if szV V < l.length then (zpk, 21) else ((restV V (8 * 2 ^ V 4) (l.take (szV V))).1, 0)) := Lib.hid (by rw [HVV.out]; unfold decV; rw [if_neg h7])
          have f0 := flds_cell HF1.out (j := 0) (by decide)
          have f1 := flds_cell HF1.out (j := 1) (by decide)
          have f4 := flds_cell HF1.out (j := 4) (by decide)
          have f7 := flds_cell HF1.out (j := 7) (by decide)
          have f9 := flds_cell HF1.out (j := 9) (by decide)
          have v4 : V 4 < 4 := by rw [HVV.out]; exact num_lt _ _ 2
          obtain ⟨⟨r0, r1, r2, r3, r4, r5, r6, r7, r8, r9⟩, z0, z1, z2, z3, z4, z5, z6, z7, z8, z9⟩ := zp_cells HD1.out.zb
          by_cases m0 : V 0 = 2
          · by_cases m1 : V 1 = 0
            · have hE : Hid (decV l = (zpk, 1)) := Lib.hid (by rw [HDV.out]; have : misV V = 1 := by unfold misV; rw [if_neg (by omega), if_pos m1]
                                                               rw [this]; rfl)
              go_wp2_with fail
              refine bodyPost_ret (res_packet_err rfl _ _ w.heap.size _ rfl rfl (pput_row _ _ _ _ _ _ _ _ _ _ HD1.out.zb)) rfl ?_
              exact ⟨by rw [hE.out]; rfl, grown_new HD1.out.gr (pput_grown _ w.heap.size _ _ _ _ _ _ _ _ _ _) (Nat.le_refl _)⟩
            · by_cases m7 : 256 < V 7
              · have hE : Hid (decV l = (zpk, 2)) := Lib.hid (by rw [HDV.out]; have : misV V = 2 := by unfold misV; rw [if_neg (by omega), if_neg m1, if_pos (.inl m7)]
                                                                 rw [this]; rfl)
                go_wp2_with fail
                refine bodyPost_ret (res_packet_err rfl _ _ w.heap.size _ rfl rfl (pput_row _ _ _ _ _ _ _ _ _ _ HD1.out.zb)) rfl ?_
                exact ⟨by rw [hE.out]; rfl, grown_new HD1.out.gr (pput_grown _ w.heap.size _ _ _ _ _ _ _ _ _ _) (Nat.le_refl _)⟩
              · by_cases m9 : 64 < V 9
                · have hE : Hid (decV l = (zpk, 2)) := Lib.hid (by rw [HDV.out]; have : misV V = 2 := by unfold misV; rw [if_neg (by omega), if_neg m1, if_pos (.inr m9)]
                                                                   rw [this]; rfl)
                  have d7 : decide (256 < V 7) = false := by simpa using m7
                  go_wp2_with fail
                  refine bodyPost_ret (res_packet_err rfl _ _ w.heap.size _ rfl rfl (pput_row _ _ _ _ _ _ _ _ _ _ HD1.out.zb)) rfl ?_
                  exact ⟨by rw [hE.out]; rfl, grown_new HD1.out.gr (pput_grown _ w.heap.size _ _ _ _ _ _ _ _ _ _) (Nat.le_refl _)⟩
                · have hm : misV V = 0 := by unfold misV; rw [if_neg (by omega), if_neg m1, if_neg (by omega)]
                  rw [hm, if_neg (by decide)] at HDV
                  have h9 : V 9 ≤ 64 := by omega
                  obtain ⟨n, hn⟩ : ∃ n : Nat, n = 8 * 2 ^ V 4 := ⟨_, rfl⟩
                  have hn64 : n ≤ 64 := by
                    have : 2 ^ V 4 ≤ 2 ^ 3 := Nat.pow_le_pow_right (by decide) (by omega)
                    omega
                  have hdec := decoded_any (V 4) v4
                  rw [← hn] at hdec HDV
                  obtain ⟨sz, hsz⟩ : ∃ sz, sz = szV V := ⟨_, rfl⟩
                  have hszv : sz = (49 + n + 8 * V 9 + 16 + 7) / 8 := by rw [hsz, hn]; rfl
                  rw [← hsz] at HDV
                  have hrsz := rsz_any n (V 9) (by omega) (by omega)
                  rw [← hszv] at hrsz
                  have HSZ := Lib.hid hszv
                  have HDEC := Lib.hid hdec
                  have HRS := Lib.hid hrsz
                  have hszb : sz ≤ 81 := by omega
                  have d7 : decide (256 < V 7) = false := by simpa using m7
                  have d9 : decide (64 < V 9) = false := by simpa using m9
                  clear hsz hszv hdec hrsz hm hn
                  go_wp2_with fail
                  refine (HDEC.out _).mono ?_
                  rintro e w5 ⟨rfl, rfl⟩
                  go_wp2_with fail
                  refine (HRS.out _).mono ?_
                  rintro e w5 ⟨rfl, rfl⟩
                  by_cases h20 : l.length < sz
                  · have hE : Hid (decV l = (zpk, 20)) := Lib.hid (by rw [HDV.out, if_pos h20])
                    have h20t : t.length < sz := by omega
                    go_wp2_with fail
                    refine bodyPost_ret (res_packet_err rfl _ _ w.heap.size _ rfl rfl (pput_row _ _ _ _ _ _ _ _ _ _ HD1.out.zb)) rfl ?_
                    exact ⟨by rw [hE.out]; rfl, grown_new HD1.out.gr (pput_grown _ w.heap.size _ _ _ _ _ _ _ _ _ _) (Nat.le_refl _)⟩
                  · have h20t : ¬ t.length < sz := by have := HTL.out; omega
                    rw [if_neg h20] at HDV
                    have g1 := fl7 HF1.out
                    clear f0 f1 f4 f7 f9 r0 r1 r2 r3 r4 r5 r6 r7 r8 r9 z0 z1 z2 z3 z4 z5 z6 z7 z8 z9 d7 d9 HDEC
                    go_wp2_with fail
                    go_region_held3 (fun w' => w'.cell? ⟨gf, 1, none⟩ = some (.int .i64 ((V 1 : Nat) : Int)) ∧ w'.cell? ⟨gf, 2, none⟩ = some (.int .i64 ((V 2 : Nat) : Int)) ∧ w'.cell? ⟨gf, 3, none⟩ = some (.int .i64 ((V 3 : Nat) : Int)) ∧ w'.cell? ⟨gf, 5, none⟩ = some (.int .i64 ((V 5 : Nat) : Int)) ∧ w'.cell? ⟨gf, 6, none⟩ = some (.int .i64 ((V 6 : Nat) : Int)) ∧ w'.cell? ⟨gf, 7, none⟩ = some (.int .i64 ((V 7 : Nat) : Int)) ∧ w'.cell? ⟨gf, 8, none⟩ = some (.int .i64 ((V 8 : Nat) : Int)))
                      (first | with_reducible exact fl7 (flds_keep HF1.out (hid_non _).out) | with_reducible exact fl7 (flds_keep (flds_keep HF1.out (hid_non _).out) (World.grownBy_alloc _ _ none)))
                      (first | fail)
                    all_goals
                      have q1 := grown_trans (World.grownBy_alloc wr (.cells (rcells V (n : Int) 0 ⟨#[]⟩) 31) none) (grown_drew (grown_refl (wr.alloc (.cells (rcells V (n : Int) 0 ⟨#[]⟩) 31)) none))
                    have hRR : RR w w4 S D gf cf wr.heap.size V n 0 ⟨#[]⟩ t p c (wr.alloc (.cells (rcells V (n : Int) 0 ⟨#[]⟩) 31)).drew :=
                      ⟨HD1.out.keep q1, flds_keep HF1.out q1, kept_row (heap_alloc_new wr (.cells (rcells V (n : Int) 0 ⟨#[]⟩) 31)) (grown_drew (grown_refl (wr.alloc (.cells (rcells V (n : Int) 0 ⟨#[]⟩) 31)) none)) (by simp),
                        ⟨World.lt_of_row' HD1.out.zb, Nat.ne_of_lt (World.lt_of_row' HD1.out.sb), Nat.ne_of_lt (World.lt_of_row' HD1.out.db), Nat.ne_of_lt (HF1.out.1.lt gf rfl).2, HF1.out.2.size⟩⟩
                    have HRR0 := Lib.hid hRR
                    unfold rcells at HRR0
                    clear q1 hRR HD1 HF1 g1
                    go_upto_region 27 with fail
                    generalize (wr.alloc _).drew = w6 at *
                    change Hid (RR w w4 S D gf cf wr.heap.size V n 0 ⟨#[]⟩ t p c w6) at HRR0
                    generalize wr.heap.size = B at *
                    obtain ⟨s0, s1⟩ := HRR0.out.dr.facts
                    have hTk := take_wholer (l := t) (A := 49) (K := n) (a := (49 : Int)) (k := (n : Int)) HBt (by omega) hn64 (by have := HSZ.out; omega) rfl rfl HRR0.out.dr.rd
                    go_wp2_with fail
                    refine hTk.mono ?_
                    rintro e w7 ⟨rfl, hg⟩
                    have HRR1 := Lib.hid (HRR0.out.keep hg)
                    have HRR2 := Lib.hid (HRR1.out.bits (num (bt t) 49 n))
                    have c8 : w7.cell? ⟨B, 8, none⟩ = some (.int .u64 0) := cell_of_row _ _ _ _ _ _ HRR1.out.pb
                    have z8 := frozen_of_row _ _ 8 _ _ HRR1.out.pb
                    clear s0 s1 hTk hg HRR0
                    go_upto_region 28 with fail
                    obtain ⟨bv, hbv⟩ : ∃ bv, bv = num (bt t) 49 n := ⟨_, rfl⟩
                    rw [← hbv] at HRR2 ⊢
                    have HBV := Lib.hid hbv
                    generalize w7.setCell _ _ = w8 at *
                    clear c8 z8 HRR1 hbv
                    have HP0 : Hid (PayRel w8 t (49 + n) 0 (.slice none 0 0) w8) := Lib.hid ⟨World.ownsRow_nil _ _ _ _, fun _ => rfl, grown_refl _ _⟩
                    go_wp2_with fail
                    go_loopw [8, 14, 15] (fun at_ lv i wr => ∃ j : Nat, j ≤ V 9 ∧ i = .int .i64 (j : Int) ∧ at_ = .int .i64 ((49 + n + 8 * j : Nat) : Int) ∧ Hid (PayRel w8 t (49 + n) j lv wr)) (fun _ _ i _ => (V 9 - (intOf i).toNat))
                    case atStart => exact ⟨0, Nat.zero_le _, rfl, by first | rfl | simp | (congr 1), HP0⟩
                    case round =>
                      obtain ⟨j, hj, rfl, rfl, hP⟩ := hrel
                      clear HP0
                      have hsz := hP.out.2.2.size
                      have HRw := Lib.hid (HRR2.out.keep hP.out.2.2)
                      have f9 := flds_cell HRw.out.fl (j := 9) (by decide)
                      by_cases hj9 : j < V 9
                      · obtain ⟨s0, s1⟩ := HRw.out.dr.facts
                        have hTk := take_wholer (l := t) (A := 49 + n + 8 * j) (K := 8) (a := 49 + (n : Int) + 8 * (j : Int)) (k := (8 : Int)) HBt (by omega) (by decide) (by have := HSZ.out; omega) (by omega) rfl HRw.out.dr.rd
                        have hx8 : num (bt t) (49 + n + 8 * j) 8 < 256 := num_lt _ _ 8
                        have hpn : ∀ (w1 : World) (v v' : Value) (o : Obj) (wr : World), PayRel w8 t (49 + n) j v wr → w1.ownsRow w8.heap.size 5 1 v' (j + 1) ((pyl t (49 + n) j).map nv ++ [nv (num (bt t) (49 + n + 8 * j) 8)]) → (wr.alloc o).grownBy w1 v.ownBlock → PayRel w8 t (49 + n) (j + 1) v' w1 := fun _ _ _ _ _ h1 h2 h3 => pay_next h1 h2 h3
                        have HPN := Lib.hid hpn
                        generalize num (bt t) (49 + n + 8 * j) 8 = x at *
                        have hwx : IntKind.u8.wrap (x : Int) = (x : Int) := by rw [IntKind.wrap_u8]; omega
                        clear hpn
                        go_wp2_with fail
                        refine hTk.mono ?_
                        rintro e w9 ⟨rfl, hg⟩
                        have HP2 := Lib.hid (pay_keep hP.out hg)
                        have hown := HP2.out.1
                        have hsz2 := HP2.out.2.2.size
                        clear hg hTk hP s0 s1 f9
                        go_wp2_with (at_builtin; refine wpList_append_own _ rfl _ _ 23 rfl w8.heap.size 5 j0 (.int .u8 0) 1 1 Tryd.underlying23 hj0 hy0 hy1 hy2 rfl (by decide) _ _ _ rfl (hown.alloc _) ⟨w9.heap.size, 0, none⟩ 1 1 [.int .u8 (x : Int)] rfl rfl ?c1 ?c2 ?c3 ?c4 ?c5 ?_)
                        try (case c1 => exact cell_one _ _ _)
                        case c2 => first | rfl | (intro u hu; simp at hu; subst hu; rfl)
                        case c3 => first | omega | (unfold maxLen; omega)
                        case c4 => omega
                        case c5 => first | omega | (simp; omega)
                        intro v' w10 hown' hg _
                        have HP3 := Lib.hid (HPN.out _ _ _ _ _ HP2.out hown' hg)
                        clear hown' hg hown HP2 HPN HRw
                        go_wp2_with fail
                        go_roundw
                        case rel => exact ⟨j + 1, by omega, by go_num, by congr 1 <;> omega, HP3⟩
                        case measure => simp [intOf]; omega
                      · obtain rfl : j = V 9 := by omega
                        have hcv := pay_conv hP.out
                        have HRS1 := Lib.hid (HRw.out.pay (bs (pyl t (49 + n) (V 9))))
                        have c9 : wr.cell? ⟨B, 9, none⟩ = some (.string ⟨#[]⟩) := cell_of_row _ _ _ _ _ _ HRw.out.pb
                        have z9 := frozen_of_row _ _ 9 _ _ HRw.out.pb
                        obtain ⟨K, hK⟩ : ∃ K, K = 49 + n + 8 * V 9 := ⟨_, rfl⟩
                        rw [← hK]
                        have hKs : K + 16 ≤ 8 * sz := by have := HSZ.out; omega
                        have hKl : 8 * sz - (K + 16) ≤ 7 := by have := HSZ.out; omega
                        have hdr := dec_rest HT.out hszb (by omega) hK hKs
                        rw [← HBV.out] at hdr
                        rw [hdr] at HDV
                        have HK := Lib.hid hK
                        clear hdr hP hj hj9 hK
                        obtain ⟨sx, hsx⟩ : ∃ sx, sx = bs (pyl t (49 + n) (V 9)) := ⟨_, rfl⟩
                        rw [← hsx] at hcv HRS1 HDV
                        clear hsx
                        go_upto_region 37 with fail
                        generalize wr.setCell _ _ = w11 at *
                        clear hcv c9 z9 f9 HRw
                        obtain ⟨s0, s1⟩ := HRS1.out.dr.facts
                        have hSl := slice_wholer (l := t) (A := 0) (T := K) (a := (0 : Int)) (b := (K : Int)) (K : Int) rfl HBt (by omega) (by omega) rfl (by simp) HRS1.out.dr.rd
                        go_wp2_with fail
                        refine hSl.mono ?_
                        rintro e w12 ⟨p2, c2, rfl, hR2, hp2, hg⟩
                        have hgb := World.grownBy_alloc w12 (.cells #[.slice p2 (pz (fun i => bt t (0 + i)) K ((K + 7) / 8)).length c2, .int .i64 (K : Int)] 75) none
                        have HRS2 := Lib.hid (HRS1.out.keep (grown_trans hg hgb))
                        have hC := check_partr (T := K) (t := (K : Int)) rfl (by omega) (by omega) (hR2.keep hgb)
                        obtain ⟨L, hL⟩ : ∃ L, L = pz (fun i => bt t (0 + i)) K ((K + 7) / 8) := ⟨_, rfl⟩
                        rw [← hL] at hC HRS2 ⊢
                        have HC := Lib.hid hC
                        clear hC hR2 hp2 hg hgb hL s0 s1 hSl HRS1
                        go_wp2_with fail
                        refine HC.out.mono ?_
                        rintro e w13 ⟨rfl, hg⟩
                        have HRS3 := Lib.hid (HRS2.out.keep hg)
                        obtain ⟨s0, s1⟩ := HRS3.out.dr.facts
                        have hTk := take_wholer (l := t) (A := K) (K := 16) (a := (K : Int)) (k := (16 : Int)) HBt (by omega) (by decide) (by omega) rfl rfl HRS3.out.dr.rd
                        clear hg HC HRS2
                        go_wp2_with fail
                        refine hTk.mono ?_
                        rintro e w14 ⟨rfl, hg⟩
                        have HRS4 := Lib.hid (HRS3.out.keep hg)
                        obtain ⟨xc, hxc⟩ : ∃ xc, xc = num (bt t) K 16 := ⟨_, rfl⟩
                        obtain ⟨yc, hyc⟩ : ∃ yc, yc = chk (bt t) K := ⟨_, rfl⟩
                        rw [← hxc, ← hyc]
                        have hce : cErr t K sz = if xc ≠ yc then 23 else if num (bt t) (K + 16) (8 * sz - (K + 16)) ≠ 0 then 24 else 0 := by unfold cErr; rw [hxc, hyc]
                        rw [hce] at HDV
                        have HDW := Lib.hid (dec_pick HDV.out)
                        clear hg hTk s0 s1 HRS3 hce hxc hyc
                        obtain ⟨⟨r0, r1, r2, r3, r4, r5, r6, r7, r8, r9⟩, z0, z1, z2, z3, z4, z5, z6, z7, z8, z9⟩ := zp_cells HRS4.out.dr.zb
                        by_cases hxy : xc = yc
                        · rw [if_neg (fun h => h hxy)] at HDW
                          have f9 := flds_cell HRS4.out.fl (j := 9) (by decide)
                          subst hxy
                          clear r0 r1 r2 r3 r4 r5 r6 r7 r8 r9 z0 z1 z2 z3 z4 z5 z6 z7 z8 z9
                          obtain ⟨s0, s1⟩ := HRS4.out.dr.facts
                          have hTk := fun (w' : World) (h : Hid (w14.grownBy w' none)) => take_wholer (l := t) (A := K + 16) (K := 8 * sz - (K + 16)) (a := (K : Int) + 16) (k := IntKind.i64.wrap (IntKind.i64.wrap (8 * (sz : Int)) - ((K : Int) + 16))) HBt (by omega) (by omega) (by omega) (by omega) (pad_k hKs hszb) (HRS4.out.dr.rd.keep h.out)
                          have HTk := Lib.hid hTk
                          clear hTk
                          go_wp2_with fail
                          go_region_held3 (fun w' => w'.cell? ⟨S, 0, none⟩ = some (.slice p t.length c) ∧ w'.cell? ⟨S, 1, none⟩ = some (.int .i64 (8 * (t.length : Int))) ∧ w'.cell? ⟨gf, 9, none⟩ = some (.int .i64 ((V 9 : Nat) : Int)) ∧ Hid (w14.grownBy w' none))
                            (first | with_reducible exact keepd s0 s1 f9 (hid_non w14) | (go_split_ands; with_reducible refine keepd s0 s1 f9 (hid_more ?_ hap); with_reducible assumption) | (go_split_ands; with_reducible refine keepd s0 s1 f9 ?_; with_reducible assumption))
                            (first
                              | (go_at_call 62; refine (HRS.out _).mono ?_; rintro e w' ⟨rfl, rfl⟩)
                              | (go_at_call 60; refine (HTk.out _ ?_).mono ?_; (go_split_ands; with_reducible assumption); rintro e w15 ⟨rfl, hap⟩))
                          all_goals
                            go_split_ands
                            have HRS5 := Lib.hid (HRS4.out.keep (grown_trans (hid_non w14).out hap))
                            obtain ⟨pd, hpd⟩ : ∃ pd, pd = num (bt t) (K + 16) (8 * sz - (K + 16)) := ⟨_, rfl⟩
                            rw [← hpd] at HDW ⊢
                            clear hap HTk s0 s1 HRS4 hpd f9
                            have f9 := flds_cell HRS5.out.fl (j := 9) (by decide)
                            obtain ⟨⟨r0, r1, r2, r3, r4, r5, r6, r7, r8, r9⟩, z0, z1, z2, z3, z4, z5, z6, z7, z8, z9⟩ := zp_cells HRS5.out.dr.zb
                            by_cases hp0 : pd = 0
                            · subst hp0
                              rw [if_neg (fun h => h rfl)] at HDW
                              have hsum : (t.length : Int) + ((l.length - t.length : Nat) : Int) = (l.length : Int) := by omega
                              go_wp2_with fail
                              refine (HRS.out _).mono ?_
                              rintro e w16 ⟨rfl, rfl⟩
                              by_cases h21 : sz < l.length
                              · have hE : Hid (decV l = (zpk, 21)) := Lib.hid (by rw [HDW.out, if_pos h21])
                                go_wp2_with fail
                                refine bodyPost_ret (res_packet_err rfl _ _ w.heap.size _ rfl rfl (pput_row _ _ _ _ _ _ _ _ _ _ HRS5.out.dr.zb)) rfl ?_
                                exact ⟨by rw [hE.out]; rfl, grown_new HRS5.out.dr.gr (pput_grown _ w.heap.size _ _ _ _ _ _ _ _ _ _) (Nat.le_refl _)⟩
                              · have hE : Hid (decV l = (rcells V (n : Int) bv sx, 0)) := Lib.hid (by rw [HDW.out, if_neg h21])
                                obtain ⟨a0, a1, a2, a3, a4, a5, a6, a7, a8, a9⟩ := rc_cells HRS5.out.pb
                                go_wp2_with fail
                                refine bodyPost_ret (res_packet_err rfl _ _ w.heap.size _ rfl rfl (pput_row _ _ _ _ _ _ _ _ _ _ HRS5.out.dr.zb)) rfl ?_
                                exact ⟨by rw [hE.out]; rfl, grown_new HRS5.out.dr.gr (pput_grown _ w.heap.size _ _ _ _ _ _ _ _ _ _) (Nat.le_refl _)⟩
                            · have hE : Hid (decV l = (zpk, 24)) := Lib.hid (by rw [HDW.out, if_pos hp0])
                              have hne : ¬ (pd : Int) = 0 := by omega
                              go_wp2_with fail
                              refine bodyPost_ret (res_packet_err rfl _ _ w.heap.size _ rfl rfl (pput_row _ _ _ _ _ _ _ _ _ _ HRS5.out.dr.zb)) rfl ?_
                              exact ⟨by rw [hE.out]; rfl, grown_new HRS5.out.dr.gr (pput_grown _ w.heap.size _ _ _ _ _ _ _ _ _ _) (Nat.le_refl _)⟩
                        · have hE : Hid (decV l = (zpk, 23)) := Lib.hid (by rw [HDW.out, if_pos hxy])
                          have hne : ¬ (xc : Int) = (yc : Int) := by omega
                          go_wp2_with fail
                          refine bodyPost_ret (res_packet_err rfl _ _ w.heap.size _ rfl rfl (pput_row _ _ _ _ _ _ _ _ _ _ HRS4.out.dr.zb)) rfl ?_
                          exact ⟨by rw [hE.out]; rfl, grown_new HRS4.out.dr.gr (pput_grown _ w.heap.size _ _ _ _ _ _ _ _ _ _) (Nat.le_refl _)⟩
          · have hE : Hid (decV l = (zpk, 22)) := Lib.hid (by rw [HDV.out]; have : misV V = 22 := by unfold misV; rw [if_pos m0]
                                                              rw [this]; rfl)
            go_wp2_with fail
            refine bodyPost_ret (res_packet_err rfl _ _ w.heap.size _ rfl rfl (pput_row _ _ _ _ _ _ _ _ _ _ HD1.out.zb)) rfl ?_
            exact ⟨by rw [hE.out]; rfl, grown_new HD1.out.gr (pput_grown _ w.heap.size _ _ _ _ _ _ _ _ _ _) (Nat.le_refl _)⟩
end Go.Proofs.YtpombmpkccnefaaDoor

/- packet: Encode undoes Decode. -/
namespace Go.Proofs.YtpombmpkccnefaaDoor
open Go.RowKit Bs
/-- k bits from a on. -/
def seg (f : Nat → Bool) (a k : Nat) : List Bool := (List.range k).map fun t => f (a + t)
theorem seg_add (f : Nat → Bool) (a k j : Nat) : seg f a k ++ seg f (a + k) j = seg f a (k + j) := by
  unfold seg
  rw [List.range_add, List.map_append, List.map_map]
  congr 1
  refine List.map_congr_left fun t _ => ?_
  show f (a + k + t) = f (a + (k + t))
  rw [Nat.add_assoc]
theorem seg_len (f : Nat → Bool) (a k : Nat) : (seg f a k).length = k := by unfold seg; simp
theorem bf_seg (f : Nat → Bool) (a k i : Nat) (h : i < k) : bf (seg f a k) i = f (a + i) := by
  unfold bf seg
  rw [List.getD_eq_getElem?_getD, List.getElem?_map, List.getElem?_range h]; rfl
theorem nb_num (f : Nat → Bool) (a k : Nat) : nb (num f a k) k = seg f a k := by
  unfold nb seg
  refine List.map_congr_left fun t ht => ?_
  have ht := List.mem_range.1 ht
  rw [num_test, show a + (k - 1 - (k - 1 - t)) = a + t by omega]
  have : decide (k - 1 - t < k) = true := by simpa using (by omega : k - 1 - t < k)
  rw [this, Bool.true_and]
theorem pb_pyl (t : List Nat) (A : Nat) : ∀ j, pb (pyl t A j) = seg (bt t) A (8 * j)
  | 0 => rfl
  | j + 1 => by rw [pyl_next, pb_snoc, pb_pyl t A j, nb_num, show 8 * (j + 1) = 8 * j + 8 by omega, ← seg_add]
theorem byl_bs {l : List Nat} (h : By l) : byl (bs l) = l := by
  unfold byl bs
  show (List.map (fun x => UInt8.ofNat x) l).map (fun b => b.toNat) = l
  rw [List.map_map]
  refine (List.map_congr_left fun x hx => ?_).trans (List.map_id _)
  show (UInt8.ofNat x).toNat = x
  rw [UInt8.toNat_ofNat', Nat.mod_eq_of_lt (h x hx)]
theorem bs_size (l : List Nat) : (bs l).size = l.length := by unfold bs; simp [ByteArray.size]
theorem lcode_of {v : Nat} (h : v < 4) : lcode ((8 * 2 ^ v : Nat) : Int) = v := by
  rcases (show v = 0 ∨ v = 1 ∨ v = 2 ∨ v = 3 by omega) with rfl | rfl | rfl | rfl <;> rfl
theorem vl_of {v : Nat} (h : v < 4) : vl ((8 * 2 ^ v : Nat) : Int) = true := by
  rcases (show v = 0 ∨ v = 1 ∨ v = 2 ∨ v = 3 by omega) with rfl | rfl | rfl | rfl <;> decide
theorem vb_small {b v : Nat} (hv : v < 4) (hb : b < 2 ^ (8 * 2 ^ v)) : vb b ((8 * 2 ^ v : Nat) : Int) = true := by
  have hz : b &&& full ((8 * 2 ^ v : Nat) : Int) = b := by
    have hf : full ((8 * 2 ^ v : Nat) : Int) = 2 ^ (8 * 2 ^ v) - 1 := by
      rcases (show v = 0 ∨ v = 1 ∨ v = 2 ∨ v = 3 by omega) with rfl | rfl | rfl | rfl <;> decide +kernel
    rw [hf, Nat.and_two_pow_sub_one_eq_mod, Nat.mod_eq_of_lt hb]
  rw [← hz]
  exact vb_full (vl_of hv) b
set_option maxRecDepth 100000 in
set_option maxHeartbeats 1600000 in
/-- What is decoded without an error is a valid packet, and its encoding is what was decoded. -/
theorem enc_dec {l : List Nat} (hl : By l) {X : Array Value} (h : decV l = (X, 0)) : ∃ P : Pk, P.Wf ∧ vpk P = true ∧ X = pcells P ∧ enc P = l := by
  obtain ⟨V, hV⟩ : ∃ V, V = hv7 l := ⟨_, rfl⟩
  have vlt : ∀ k, V k < 2 ^ wids.getD k 0 := fun k => by rw [hV]; exact num_lt _ _ _
  have v0 := vlt 0; have v1 := vlt 1; have v2 := vlt 2; have v3 := vlt 3; have v4 := vlt 4
  have v5 := vlt 5; have v6 := vlt 6; have v7 := vlt 7; have v8 := vlt 8; have v9 := vlt 9
  change V 0 < 4 at v0; change V 1 < 4 at v1; change V 2 < 8 at v2; change V 3 < 32 at v3; change V 4 < 4 at v4
  change V 5 < 64 at v5; change V 6 < 1024 at v6; change V 7 < 512 at v7; change V 8 < 8 at v8; change V 9 < 128 at v9
  unfold decV at h
  rw [← hV] at h
  split at h
  · injection h with _ h2; cases h2
  rename_i h7
  split at h
  · rename_i hm; injection h with _ h2; exact absurd h2 hm
  rename_i hm
  have hm : misV V = 0 := by simpa using hm
  have hmm : V 0 = 2 ∧ V 1 ≠ 0 ∧ V 7 ≤ 256 ∧ V 9 ≤ 64 := by
    unfold misV at hm
    split at hm
    · cases hm
    · split at hm
      · cases hm
      · split at hm
        · cases hm
        · omega
  split at h
  · injection h with _ h2; cases h2
  rename_i hs
  obtain ⟨n, hn⟩ : ∃ n, n = 8 * 2 ^ V 4 := ⟨_, rfl⟩
  obtain ⟨K, hK⟩ : ∃ K, K = 49 + n + 8 * V 9 := ⟨_, rfl⟩
  have hsz : szV V = (K + 16 + 7) / 8 := by unfold szV; rw [hK, hn]
  rw [← hn] at h
  split at h
  · rename_i hr; injection h with _ h2; exact absurd h2 hr
  rename_i hr
  split at h
  · injection h with _ h2; cases h2
  rename_i hg
  have hlen : l.length = (K + 16 + 7) / 8 := by omega
  have ht : l.take (szV V) = l := List.take_of_length_le (by omega)
  rw [ht] at h hr
  have hE : restE l n (V 9) = 0 := by
    have hr : (restV V n l).2 = 0 := by simpa using hr
    unfold restV at hr
    split at hr
    · assumption
    · exact hr
  have hX : X = rcells V (n : Int) (num (bt l) 49 n) (restP l n (V 9)) := by
    injection h with h1 _
    rw [← h1]
    unfold restV
    rw [if_pos hE]
  have hn64 : n ≤ 64 := by
    have : 2 ^ V 4 ≤ 2 ^ 3 := Nat.pow_le_pow_right (by decide) (by omega)
    omega
  have hpay : restP l n (V 9) = bs (pyl l (49 + n) (V 9)) := by
    unfold restP
    refine congrArg bs ?_
    unfold pz pyl
    refine List.map_congr_left ?_
    intro j hj
    have hj := List.mem_range.1 hj
    unfold py
    refine num_congr 8 fun i hi => ?_
    have : decide (8 * j + i < 8 * V 9) = true := by simpa using (by omega : 8 * j + i < 8 * V 9)
    rw [this, Bool.true_and]
    exact congrArg (bt l) (by omega)
  have hc : num (bt l) K 16 = chk (bt l) K ∧ num (bt l) (K + 16) (8 * l.length - (K + 16)) = 0 := by
    unfold restE at hE
    rw [← hK] at hE
    split at hE
    · cases hE
    · rename_i h1
      split at hE
      · cases hE
      · rename_i h2
        exact ⟨by simpa using h1, by simpa using h2⟩
  obtain ⟨P, hP⟩ : ∃ P : Pk, P = ⟨(V 1 : Int), (V 2 : Int), (V 3 : Int), (n : Int), (V 5 : Int), (V 6 : Int), (V 7 : Int), (V 8 : Int), num (bt l) 49 n, bs (pyl l (49 + n) (V 9))⟩ := ⟨_, rfl⟩
  have hps : P.pay.size = V 9 := by rw [hP]; exact (bs_size _).trans (pyl_len _ _ _)
  have hbits : num (bt l) 49 n < 2 ^ n := num_lt _ _ _
  have hbU : num (bt l) 49 n < 2 ^ 64 := Nat.lt_of_lt_of_le hbits (Nat.pow_le_pow_right (by decide) hn64)
  have hvb : vb (num (bt l) 49 n) (n : Int) = true := by rw [hn] at hbits ⊢; exact vb_small v4 hbits
  have hvalid : vpk P = true := by
    refine decide_eq_true ?_
    rw [hps]
    subst hP
    refine ⟨⟨?_, ?_⟩, ⟨?_, ?_⟩, ⟨?_, ?_⟩, ⟨?_, ?_⟩, ⟨?_, ?_⟩, ⟨?_, ?_⟩, ⟨?_, ?_⟩, hmm.2.2.2, hvb⟩ <;> (dsimp only; omega)
  have hwf : P.Wf := by
    have hp : P.pay.size ≤ maxLen := by rw [hps]; unfold maxLen; omega
    subst hP
    exact ⟨by unfold I64; dsimp only; omega, by unfold I64; dsimp only; omega, by unfold I64; dsimp only; omega, by unfold I64; dsimp only; omega, by unfold I64; dsimp only; omega, by unfold I64; dsimp only; omega, by unfold I64; dsimp only; omega, by unfold I64; dsimp only; omega, hbU, hp⟩
  refine ⟨P, hwf, hvalid, ?_, ?_⟩
  · rw [hX, hpay, hP]; rfl
  · have fvk : ∀ k, k < 10 → V k = num (bt l) (offs.getD k 0) (wids.getD k 0) := by
      intro k hk
      have ho := off_le k hk
      rw [hV]
      unfold hv7 fv
      exact num_congr _ fun t ht => bt_take (by omega)
    have hfl : flb (fl P) = seg (bt l) 0 49 := by
      have e0 : nb 2 2 = seg (bt l) 0 2 := by
        have h0 : num (bt l) 0 2 = 2 := (fvk 0 (by decide)).symm.trans hmm.1
        have := nb_num (bt l) 0 2
        rw [h0] at this
        exact this
      have e1 : nb P.mode.toNat 2 = seg (bt l) 2 2 := by rw [hP]; show nb (V 1) 2 = _; rw [fvk 1 (by decide)]; exact nb_num _ _ _
      have e2 : nb P.sub.toNat 3 = seg (bt l) 4 3 := by rw [hP]; show nb (V 2) 3 = _; rw [fvk 2 (by decide)]; exact nb_num _ _ _
      have e3 : nb P.set.toNat 5 = seg (bt l) 7 5 := by rw [hP]; show nb (V 3) 5 = _; rw [fvk 3 (by decide)]; exact nb_num _ _ _
      have e4 : nb (lcode P.len) 2 = seg (bt l) 12 2 := by rw [hP]; show nb (lcode (n : Int)) 2 = _; rw [hn, lcode_of v4, fvk 4 (by decide)]; exact nb_num _ _ _
      have e5 : nb P.ttl.toNat 6 = seg (bt l) 14 6 := by rw [hP]; show nb (V 5) 6 = _; rw [fvk 5 (by decide)]; exact nb_num _ _ _
      have e6 : nb P.ent.toNat 10 = seg (bt l) 20 10 := by rw [hP]; show nb (V 6) 10 = _; rw [fvk 6 (by decide)]; exact nb_num _ _ _
      have e7 : nb P.ing.toNat 9 = seg (bt l) 30 9 := by rw [hP]; show nb (V 7) 9 = _; rw [fvk 7 (by decide)]; exact nb_num _ _ _
      have e8 : nb P.pro.toNat 3 = seg (bt l) 39 3 := by rw [hP]; show nb (V 8) 3 = _; rw [fvk 8 (by decide)]; exact nb_num _ _ _
      have e9 : nb P.pay.size 7 = seg (bt l) 42 7 := by rw [hps, fvk 9 (by decide)]; exact nb_num _ _ _
      unfold flb fl
      simp only [List.flatMap_cons, List.flatMap_nil, List.append_nil]
      rw [e0, e1, e2, e3, e4, e5, e6, e7, e8, e9]
      rw [show seg (bt l) 39 3 ++ seg (bt l) 42 7 = seg (bt l) 39 10 from seg_add _ 39 3 7, show seg (bt l) 30 9 ++ seg (bt l) 39 10 = seg (bt l) 30 19 from seg_add _ 30 9 10, show seg (bt l) 20 10 ++ seg (bt l) 30 19 = seg (bt l) 20 29 from seg_add _ 20 10 19,
        show seg (bt l) 14 6 ++ seg (bt l) 20 29 = seg (bt l) 14 35 from seg_add _ 14 6 29, show seg (bt l) 12 2 ++ seg (bt l) 14 35 = seg (bt l) 12 37 from seg_add _ 12 2 35, show seg (bt l) 7 5 ++ seg (bt l) 12 37 = seg (bt l) 7 42 from seg_add _ 7 5 37,
        show seg (bt l) 4 3 ++ seg (bt l) 7 42 = seg (bt l) 4 45 from seg_add _ 4 3 42, show seg (bt l) 2 2 ++ seg (bt l) 4 45 = seg (bt l) 2 47 from seg_add _ 2 2 45, show seg (bt l) 0 2 ++ seg (bt l) 2 47 = seg (bt l) 0 49 from seg_add _ 0 2 47]
    have hbody : body P = seg (bt l) 0 K := by
      unfold body
      have b1 : nb P.bits P.len.toNat = seg (bt l) 49 n := by rw [hP]; exact nb_num _ _ _
      have b2 : pb (byl P.pay) = seg (bt l) (49 + n) (8 * V 9) := by rw [hP]; show pb (byl (bs _)) = _; rw [byl_bs (pyl_by _ _ _), pb_pyl]
      rw [hfl, b1, b2]
      have := seg_add (bt l) 0 49 n
      rw [Nat.zero_add] at this
      rw [this]
      have := seg_add (bt l) 0 (49 + n) (8 * V 9)
      rw [Nat.zero_add] at this
      rw [this, hK]
    have hck : ck (body P) = num (bt l) K 16 := by
      unfold ck
      rw [hbody, seg_len, hc.1]
      exact chk_same _ fun i hi => by rw [bf_seg _ _ _ _ hi, Nat.zero_add]
    have hall : allb P = seg (bt l) 0 (K + 16) := by
      unfold allb
      rw [hck, hbody, nb_num]
      have := seg_add (bt l) 0 K 16
      rw [Nat.zero_add] at this
      exact this
    rw [enc_all, hall]
    conv => rhs; rw [← pk_pb l hl]
    unfold pk
    rw [seg_len, pb_len, ← hlen, show (8 * l.length + 7) / 8 = l.length by omega]
    refine pz_congr fun i hi => ?_
    rw [bf_pb _ _ hi]
    have d2 : decide (i < 8 * l.length) = true := by simpa using hi
    rw [d2, Bool.true_and]
    by_cases hiK : i < K + 16
    · have d1 : decide (i < K + 16) = true := by simpa using hiK
      rw [d1, Bool.true_and, bf_seg _ _ _ _ hiK, Nat.zero_add]
    · have d1 : decide (i < K + 16) = false := by simpa using hiK
      rw [d1, Bool.false_and]
      have ht := num_test (bt l) (K + 16) (8 * l.length - (K + 16)) (8 * l.length - 1 - i)
      rw [hc.2, Nat.zero_testBit, show K + 16 + (8 * l.length - (K + 16) - 1 - (8 * l.length - 1 - i)) = i by omega] at ht
      have d3 : decide (8 * l.length - 1 - i < 8 * l.length - (K + 16)) = true := by simpa using (by omega : 8 * l.length - 1 - i < 8 * l.length - (K + 16))
      rw [d3, Bool.true_and] at ht
      exact ht
end Go.Proofs.YtpombmpkccnefaaDoor

/- packet: the chapter's example. -/
namespace Go.Proofs.YtpombmpkccnefaaDoor
open Go.RowKit Bs
/-- The example's packet. -/
def exP : Pk := ⟨1, 0, 0, 8, 0, 0, 0, 0, 0, ⟨#[]⟩⟩
set_option maxRecDepth 100000 in
theorem ex_valid : vpk exP = true := by decide +kernel
set_option maxRecDepth 100000 in
theorem ex_enc : enc exP = [144, 0, 0, 0, 0, 0, 0, 109, 76, 0] := by decide +kernel
set_option maxRecDepth 100000 in
theorem ex_size : sizeV exP = 10 := by decide +kernel
set_option maxRecDepth 100000 in
theorem ex_wf : exP.Wf := ⟨by unfold I64; decide, by unfold I64; decide, by unfold I64; decide, by unfold I64; decide, by unfold I64; decide, by unfold I64; decide, by unfold I64; decide, by unfold I64; decide, by unfold U64; decide, by decide⟩
set_option maxRecDepth 100000 in
theorem ex_dec : decV [144, 0, 0, 0, 0, 0, 0, 109, 76, 0] = (#[.int .i64 1, .int .i64 0, .int .i64 0, .int .i64 8, .int .i64 0, .int .i64 0, .int .i64 0, .int .i64 0, .int .u64 0, .string ⟨#[]⟩], 0) := by kernel_rfl
set_option maxRecDepth 100000 in
set_option maxHeartbeats 3200000 in
theorem awake_any (w : World) (hT : Tb w) :
    Calls Tryd.prog 17 #[] w fun e w' => e = .returned (.bool true) ∧ w.grownBy w' none := by
  go_enter Tryd.func17, Tryd.ntmps17
  go_wp2_with fail
  obtain ⟨k1, k2⟩ := one_box w #[.int .i64 1, .int .i64 0, .int .i64 0, .int .i64 8, .int .i64 0, .int .i64 0, .int .i64 0, .int .i64 0, .int .u64 0, .string ⟨#[]⟩] 31
  have HP := Lib.hid (And.intro k1 k2)
  have HT := Lib.hid (hT.keep k2)
  clear k1 k2
  generalize w.alloc _ = wa at *
  refine (pencode_any exP ex_wf wa HT.out).mono ?_
  rintro e w2 (⟨_, g, rfl, hB, hge, hg⟩ | ⟨h, _⟩)
  · rw [ex_enc] at hB ⊢
    have HQ := Lib.hid (And.intro (kept_row HP.out.1 hg (by simp)) (grown_trans HP.out.2 hg))
    have HB := Lib.hid hB
    clear hB hge hg HP
    go_wp2_with fail
    refine (pdecode_any [144, 0, 0, 0, 0, 0, 0, 109, 76, 0] (by intro x hx; simp at hx; omega) (some ⟨g, 0, none⟩) 10 (Nat.le_refl _) (fun _ => True) w2 (HB.out.rd _ trivial _)).mono ?_
    rintro e w3 ⟨rfl, hg⟩
    rw [ex_dec]
    have hgb := World.grownBy_alloc w3 (.cells #[.int .i64 1, .int .i64 0, .int .i64 0, .int .i64 8, .int .i64 0, .int .i64 0, .int .i64 0, .int .i64 0, .int .u64 0, .string ⟨#[]⟩] 31) none
    have HQ3 := Lib.hid (And.intro (kept_row HQ.out.1 (grown_trans hg hgb) (by simp)) (grown_trans HQ.out.2 (grown_trans hg hgb)))
    have hB3 := (HB.out.keep hg).keep hgb
    have b0 : (w3.alloc (.cells #[.int .i64 1, .int .i64 0, .int .i64 0, .int .i64 8, .int .i64 0, .int .i64 0, .int .i64 0, .int .i64 0, .int .u64 0, .string ⟨#[]⟩] 31)).cell? ⟨g, 0, none⟩ = some (.int .u8 144) := hB3.cell (j := 0) (by decide)
    have a0 : (w3.alloc (.cells #[.int .i64 1, .int .i64 0, .int .i64 0, .int .i64 8, .int .i64 0, .int .i64 0, .int .i64 0, .int .i64 0, .int .u64 0, .string ⟨#[]⟩] 31)).cell? ⟨w.heap.size, 0, none⟩ = some (.int .i64 1) := cell_of_row _ _ _ _ _ _ HQ3.out.1
    have a1 : (w3.alloc (.cells #[.int .i64 1, .int .i64 0, .int .i64 0, .int .i64 8, .int .i64 0, .int .i64 0, .int .i64 0, .int .i64 0, .int .u64 0, .string ⟨#[]⟩] 31)).cell? ⟨w.heap.size, 1, none⟩ = some (.int .i64 0) := cell_of_row _ _ _ _ _ _ HQ3.out.1
    have a2 : (w3.alloc (.cells #[.int .i64 1, .int .i64 0, .int .i64 0, .int .i64 8, .int .i64 0, .int .i64 0, .int .i64 0, .int .i64 0, .int .u64 0, .string ⟨#[]⟩] 31)).cell? ⟨w.heap.size, 2, none⟩ = some (.int .i64 0) := cell_of_row _ _ _ _ _ _ HQ3.out.1
    have a3 : (w3.alloc (.cells #[.int .i64 1, .int .i64 0, .int .i64 0, .int .i64 8, .int .i64 0, .int .i64 0, .int .i64 0, .int .i64 0, .int .u64 0, .string ⟨#[]⟩] 31)).cell? ⟨w.heap.size, 3, none⟩ = some (.int .i64 8) := cell_of_row _ _ _ _ _ _ HQ3.out.1
    have a4 : (w3.alloc (.cells #[.int .i64 1, .int .i64 0, .int .i64 0, .int .i64 8, .int .i64 0, .int .i64 0, .int .i64 0, .int .i64 0, .int .u64 0, .string ⟨#[]⟩] 31)).cell? ⟨w.heap.size, 4, none⟩ = some (.int .i64 0) := cell_of_row _ _ _ _ _ _ HQ3.out.1
    have a5 : (w3.alloc (.cells #[.int .i64 1, .int .i64 0, .int .i64 0, .int .i64 8, .int .i64 0, .int .i64 0, .int .i64 0, .int .i64 0, .int .u64 0, .string ⟨#[]⟩] 31)).cell? ⟨w.heap.size, 5, none⟩ = some (.int .i64 0) := cell_of_row _ _ _ _ _ _ HQ3.out.1
    have a6 : (w3.alloc (.cells #[.int .i64 1, .int .i64 0, .int .i64 0, .int .i64 8, .int .i64 0, .int .i64 0, .int .i64 0, .int .i64 0, .int .u64 0, .string ⟨#[]⟩] 31)).cell? ⟨w.heap.size, 6, none⟩ = some (.int .i64 0) := cell_of_row _ _ _ _ _ _ HQ3.out.1
    have a7 : (w3.alloc (.cells #[.int .i64 1, .int .i64 0, .int .i64 0, .int .i64 8, .int .i64 0, .int .i64 0, .int .i64 0, .int .i64 0, .int .u64 0, .string ⟨#[]⟩] 31)).cell? ⟨w.heap.size, 7, none⟩ = some (.int .i64 0) := cell_of_row _ _ _ _ _ _ HQ3.out.1
    have a8 : (w3.alloc (.cells #[.int .i64 1, .int .i64 0, .int .i64 0, .int .i64 8, .int .i64 0, .int .i64 0, .int .i64 0, .int .i64 0, .int .u64 0, .string ⟨#[]⟩] 31)).cell? ⟨w.heap.size, 8, none⟩ = some (.int .u64 0) := cell_of_row _ _ _ _ _ _ HQ3.out.1
    have a9 : (w3.alloc (.cells #[.int .i64 1, .int .i64 0, .int .i64 0, .int .i64 8, .int .i64 0, .int .i64 0, .int .i64 0, .int .i64 0, .int .u64 0, .string ⟨#[]⟩] 31)).cell? ⟨w.heap.size, 9, none⟩ = some (.string ⟨#[]⟩) := cell_of_row _ _ _ _ _ _ HQ3.out.1
    clear hg hgb hB3 HQ HB
    go_wp2_with fail
    refine (psize_any exP ex_wf _).mono ?_
    rintro e w5 ⟨rfl, hg⟩
    rw [ex_size]
    have GE := Lib.hid (grown_trans HQ3.out.2 hg)
    clear hg b0 a0 a1 a2 a3 a4 a5 a6 a7 a8 a9
    go_wp2_with fail
    go_ret
    exact ⟨rfl, GE.out⟩
  · rw [ex_valid] at h; cases h
end Go.Proofs.YtpombmpkccnefaaDoor

/- PacketDecodes: the walk. -/
namespace Go.Proofs.YtpombmpkccnefaaDoor
open Go.RowKit Bs
theorem own_take {w : World} {base g n cap k : Nat} {e : TypeId} {xs : List Value} (h : w.ownsRow base e 1 (.slice (some ⟨g, 0, none⟩) n cap) n xs) (hk : k ≤ n) : w.ownsRow base e 1 (.slice (some ⟨g, 0, none⟩) k cap) k (xs.take k) := by
  obtain ⟨h1, h2⟩ := h
  rcases h2 with ⟨h0, _⟩ | ⟨g', cap', cur, hv, hg, hh, hn, hcap, hsz, htake⟩
  · cases h0
  · cases hv
    refine ⟨by rw [List.length_take, h1]; omega, .inr ⟨g, cap, cur, rfl, hg, hh, by omega, hcap, hsz, ?_⟩⟩
    rw [← htake, List.take_take]
    congr 1; omega
theorem st_append2 {a : Nat} {w wr w1 : World} {o : Obj} {v : Value} {n : Nat} {e : TypeId} {xs : List Value} (hs : St a w wr) (ha : a < w.heap.size) (hown : wr.ownsRow w.heap.size e 1 v n xs) (hg : (wr.alloc o).grownBy w1 v.ownBlock) : St a w w1 := by
  have h1 : St a w (wr.alloc o) := hs.trans ⟨World.grownBy_alloc wr o _, hs.2.alloc o⟩
  cases hb : v.ownBlock with
  | none => rw [hb] at hg; exact ⟨grown_trans h1.1 (grown_none hg _), h1.2.keep hg⟩
  | some g => rw [hb] at hg; exact h1.store hg (hown.lt g hb).1 ha
/-- The bytes that are changed, in memory of the law's own. -/
structure MB (a : Nat) (W : World) (p : Option Addr) (c : Nat) (l : List Nat) (w : World) : Prop where
  own : Own w W.heap.size p c l
  st : St a W w
section
variable {a : Nat} {W w w1 : World} {p : Option Addr} {c g : Nat} {l : List Nat}
theorem MB.tape (h : MB a W p c l w) (ha : a < W.heap.size) (k : St a w w1) : MB a W p c l w1 := ⟨h.own.other k.1 ha, h.st.trans k⟩
theorem MB.set (h : MB a W (some ⟨g, 0, none⟩) c l w) (ha : a < W.heap.size) {j x : Nat} (hx : x < 256) : MB a W (some ⟨g, 0, none⟩) c (l.set j x) (w.setCell ⟨g, j, none⟩ (nv x)) := by
  obtain ⟨k1, k2⟩ := h.own.own.stored j (nv x)
  have hg := (h.own.own.lt g rfl).1
  refine ⟨⟨by rw [List.length_set, List.map_set]; exact k1, h.own.pc, fun y hy => ?_⟩, h.st.store (b := g) k2 hg ha⟩
  rcases List.mem_or_eq_of_mem_set hy with hy | rfl
  · exact h.own.by_ y hy
  · exact hx
theorem MB.cut (h : MB a W (some ⟨g, 0, none⟩) c l w) {k : Nat} (hk : k ≤ l.length) : MB a W (some ⟨g, 0, none⟩) c (l.take k) w := by
  have e : (l.take k).length = k := by rw [List.length_take]; omega
  refine ⟨⟨?_, h.own.pc, fun x hx => h.own.by_ x (List.mem_of_mem_take hx)⟩, h.st⟩
  rw [e, List.map_take]
  exact own_take h.own.own hk
theorem MB.more (h : MB a W p c l w) (ha : a < W.heap.size) {x : Nat} {v' : Value} {o : Obj} (hx : x < 256) (hown : w1.ownsRow W.heap.size 5 1 v' (l.length + 1) (l.map nv ++ [nv x])) (hg : (w.alloc o).grownBy w1 (Value.slice p l.length c).ownBlock) : ∃ p' c', v' = .slice p' (l ++ [x]).length c' ∧ MB a W p' c' (l ++ [x]) w1 := by
  obtain ⟨p', c', rfl, hpc⟩ := own_parts hown
  refine ⟨p', c', by rw [List.length_append]; rfl, ⟨by rw [List.length_append, List.map_append]; exact hown, hpc, fun y hy => ?_⟩, st_append2 h.st ha h.own.own hg⟩
  rcases List.mem_append.1 hy with hy | hy
  · exact h.own.by_ y hy
  · have : y = x := by simpa using hy
    omega
end
end Go.Proofs.YtpombmpkccnefaaDoor

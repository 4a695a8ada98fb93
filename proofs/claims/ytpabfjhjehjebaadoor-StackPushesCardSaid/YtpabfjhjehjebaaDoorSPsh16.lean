/- Parts of the proof, packed: PkDecR2, StDecFK. -/
import Derived.Test.YtpabfjhjehjebaaDoorSPsh15
import Derived.Deep.CutRange
import Derived.Test.YtpabfjhjehjebaaDoorSPsh8
import Derived.Test.YtpabfjhjehjebaaDoorSPsh14
import Derived.Test.YtpabfjhjehjebaaDoorSPsh10
/- packet: the reference's Decode, the walk. -/
namespace Go.Proofs.YtpabfjhjehjebaaDoor
open Go.RowKit Bs
theorem off_next (k : Nat) (hk : k < 10) : offs.getD (k + 1) 0 = offs.getD k 0 + wids.getD k 0 ∧ wids.getD k 0 ≤ 10 ∧ wcells[k]? = some (.int .i64 ((wids.getD k 0 : Nat) : Int)) := by
  rcases (show k = 0 ∨ k = 1 ∨ k = 2 ∨ k = 3 ∨ k = 4 ∨ k = 5 ∨ k = 6 ∨ k = 7 ∨ k = 8 ∨ k = 9 by omega) with rfl | rfl | rfl | rfl | rfl | rfl | rfl | rfl | rfl | rfl <;> exact ⟨rfl, by decide, rfl⟩
theorem keepd {w0 w' : World} {S D k wd : Nat} {v0 v1 : Value} (h0 : w0.cell? ⟨S, 0, none⟩ = some v0) (h1 : w0.cell? ⟨S, 1, none⟩ = some v1) (h2 : w0.cell? ⟨D, k, none⟩ = some (.int .i64 (wd : Int))) (g : Hid (w0.grownBy w' none)) :
    w'.cell? ⟨S, 0, none⟩ = some v0 ∧ w'.cell? ⟨S, 1, none⟩ = some v1 ∧ w'.cell? ⟨D, k, none⟩ = some (.int .i64 (wd : Int)) ∧ Hid (w0.grownBy w' none) :=
  ⟨g.out.cell h0 (by simp), g.out.cell h1 (by simp), g.out.cell h2 (by simp), g⟩
theorem hid_non (w : World) : Hid (w.grownBy w.drew none) := Lib.hid (grown_drew (grown_refl _ _))
theorem pad_k {sz K : Nat} (h : K + 16 ≤ 8 * sz) (h2 : sz ≤ 81) : IntKind.i64.wrap (IntKind.i64.wrap (8 * (sz : Int)) - ((K : Int) + 16)) = ((8 * sz - (K + 16) : Nat) : Int) := by
  rw [IntWalk.i64_in (8 * (sz : Int)) (by omega), IntWalk.i64_in _ (by omega)]; omega
theorem dec_pick {a : Array Value × Int} {A Z : Array Value} {P Q R : Prop} [Decidable P] [Decidable Q] [Decidable R]
    (h : a = if (if (if P then (23 : Int) else if Q then 24 else 0) = 0 then (A, (0 : Int)) else (Z, if P then (23 : Int) else if Q then 24 else 0)).2 ≠ 0 then (Z, (if (if P then (23 : Int) else if Q then 24 else 0) = 0 then (A, (0 : Int)) else (Z, if P then (23 : Int) else if Q then 24 else 0)).2) else if R then (Z, 21) else ((if (if P then (23 : Int) else if Q then 24 else 0) = 0 then (A, (0 : Int)) else (Z, if P then (23 : Int) else if Q then 24 else 0)).1, 0)) :
    a = if P then (Z, 23) else if Q then (Z, 24) else if R then (Z, 21) else (A, 0) := by
  rw [h]
  by_cases hP : P <;> by_cases hQ : Q <;> by_cases hR : R <;> simp [hP, hQ, hR]
theorem fl7 {wb w : World} {V : Nat → Nat} {g cap : Nat} (h : Flds wb V 10 (.slice (some ⟨g, 0, none⟩) 10 cap) w) :
    w.cell? ⟨g, 1, none⟩ = some (.int .i64 ((V 1 : Nat) : Int)) ∧ w.cell? ⟨g, 2, none⟩ = some (.int .i64 ((V 2 : Nat) : Int)) ∧ w.cell? ⟨g, 3, none⟩ = some (.int .i64 ((V 3 : Nat) : Int)) ∧ w.cell? ⟨g, 5, none⟩ = some (.int .i64 ((V 5 : Nat) : Int)) ∧ w.cell? ⟨g, 6, none⟩ = some (.int .i64 ((V 6 : Nat) : Int)) ∧ w.cell? ⟨g, 7, none⟩ = some (.int .i64 ((V 7 : Nat) : Int)) ∧ w.cell? ⟨g, 8, none⟩ = some (.int .i64 ((V 8 : Nat) : Int)) :=
  ⟨flds_cell h (by decide), flds_cell h (by decide), flds_cell h (by decide), flds_cell h (by decide), flds_cell h (by decide), flds_cell h (by decide), flds_cell h (by decide)⟩
set_option maxRecDepth 100000 in
set_option maxHeartbeats 6400000 in
theorem rdecode_any (l : List Nat) (hl : By l) (p : Option Addr) (c : Nat) (hc : l.length ≤ c) (hbig : l.length ≤ 9223372036854775807 / 8) (q : Nat → Prop) (w : World) (hR : Rd w q (.slice p l.length c) (l.map nv)) :
    Calls Tryd.prog 33 #[.slice p l.length c] w fun e w' => e = .returned (.tuple #[.agg (decV l).1, .int .i64 (decV l).2]) ∧ w.grownBy w' none := by
  obtain ⟨i0, hi, hz0, hz1, hz2⟩ := info_parts info_int
  obtain ⟨j0, hj0, hy0, hy1, hy2⟩ := info_parts info_u8
  obtain ⟨k1, k2⟩ := one_box w zpk 31
  have HB := Lib.hid (And.intro k1 k2)
  have HR := Lib.hid (hR.bound.keep k2)
  clear k1 k2 hR
  unfold zpk at HB HR
  go_enter Tryd.func33, Tryd.ntmps33
  go_upto_region 1 with fail
  generalize w.alloc _ = wa at *
  change Hid (wa.heap[w.heap.size]? = some (.cells zpk 31 (0, 0)) ∧ w.grownBy wa none) at HB
  by_cases h7 : l.length < 7
  · have hE : Hid (decV l = (zpk, 20)) := Lib.hid (by unfold decV; rw [if_pos h7])
    obtain ⟨⟨r0, r1, r2, r3, r4, r5, r6, r7, r8, r9⟩, f0, f1, f2, f3, f4, f5, f6, f7, f8, f9⟩ := zp_cells HB.out.1
    go_wp2_with fail
    refine bodyPost_ret (res_packet_err rfl _ _ w.heap.size _ rfl rfl (pput_row _ _ _ _ _ _ _ _ _ _ HB.out.1)) rfl ?_
    exact ⟨by rw [hE.out]; rfl, grown_new HB.out.2 (pput_grown _ w.heap.size _ _ _ _ _ _ _ _ _ _) (Nat.le_refl _)⟩
  · have h7' : 7 ≤ l.length := by omega
    obtain ⟨t, ht⟩ : ∃ t, t = l.take 128 := ⟨_, rfl⟩
    have htl : t.length = min 128 l.length := by rw [ht, List.length_take]
    have hRt : Rd wa (· < w.heap.size) (.slice p t.length c) (t.map nv) := by
      by_cases h128 : 128 ≤ l.length
      · rw [ht]; exact rd_take 128 h128 HR.out c
      · rw [ht, List.take_of_length_le (by omega)]; exact HR.out
    have HT := Lib.hid ht
    have HTL := Lib.hid htl
    have HRT := Lib.hid hRt
    clear ht htl hRt HR
    go_upto_if 33 with fail
    go_cut [0, 4] from 34 to 38 (fun bb rr wx => bb = .slice p t.length c ∧ rr = .int .i64 ((l.length - t.length : Nat) : Int) ∧ wx = wa)
    case first =>
      by_cases h128 : 128 < l.length
      · have e1 : Hid (t.length = 128 ∧ l.length - t.length = l.length - 128) := Lib.hid (by have := HTL.out; omega)
        have hc128 : 128 ≤ c := by omega
        go_wp2_with fail
        go_meet
        exact ⟨by rw [e1.out.1], by rw [e1.out.2]; congr 1; omega, rfl⟩
      · have e1 : Hid (t.length = l.length) := Lib.hid (by have := HTL.out; omega)
        go_wp2_with fail
        go_meet
        exact ⟨by rw [e1.out], by rw [e1.out, Nat.sub_self]; rfl, rfl⟩
    case rest =>
      obtain ⟨rfl, rfl, rfl⟩ := hcut
      have ht7 : 7 ≤ t.length := by have := HTL.out; omega
      have ht128 : t.length ≤ 128 := by have := HTL.out; omega
      have htle : t.length ≤ l.length := by have := HTL.out; omega
      obtain ⟨V, hV⟩ : ∃ V, V = hv7 l := ⟨_, rfl⟩
      have HBt : By t := by rw [HT.out]; exact fun x hx => hl x (List.mem_of_mem_take hx)
      have HVf : Hid (∀ k, k < 10 → num (bt t) (offs.getD k 0) (wids.getD k 0) = V k) := by
        refine Lib.hid fun k hk => ?_
        rw [hV]
        have ho := off_le k hk
        unfold hv7 fv
        refine num_congr _ fun i hi => ?_
        rw [HT.out, bt_take (by omega), bt_take (by omega)]
      obtain ⟨t1, t2, t3, t4⟩ := two_boxes wc #[.slice p t.length c, .int .i64 (8 * (t.length : Int))] wcells 74 3
      have HD0 : Hid (DR w wc.heap.size (wc.heap.size + 1) t p c ((wc.alloc (.cells #[.slice p t.length c, .int .i64 (8 * (t.length : Int))] 74)).alloc (.cells wcells 3))) :=
        Lib.hid ⟨kept_row HB.out.1 t3 (by simp), t1, t2, HRT.out.keep t3, grown_trans HB.out.2 t3⟩
      have HVV := Lib.hid hV
      clear t1 t2 t3 t4 HB HRT hV
      go_wp2_with fail
      refine (widths_any _).mono ?_
      rintro e w3 ⟨rfl, rfl⟩
      go_upto_region 9 with fail
      generalize (wc.alloc _).alloc _ = w4 at *
      have HF0 : Hid (Flds w4 V 0 (.slice none 0 0) w4) := Lib.hid ⟨World.ownsRow_nil _ _ _ _, grown_refl _ _⟩
      obtain ⟨D, hD⟩ : ∃ D, D = wc.heap.size + 1 := ⟨_, rfl⟩
      rw [← hD] at HD0 ⊢
      generalize wc.heap.size = S at *
      clear hD
      go_wp2_with fail
      go_loopw [7, 8, 9] (fun f at_ i wr => ∃ k : Nat, k ≤ 10 ∧ i = .int .i64 (k : Int) ∧ at_ = .int .i64 ((offs.getD k 0 : Nat) : Int) ∧ Hid (Flds w4 V k f wr)) (fun _ _ i _ => (10 - (intOf i).toNat))
      case atStart => exact ⟨0, Nat.zero_le _, rfl, rfl, HF0⟩
      case round =>
        obtain ⟨k, hk, rfl, rfl, hF⟩ := hrel
        clear HF0
        have hsz := hF.out.2.size
        by_cases hk2 : k < 10
        · have HDr := Lib.hid (HD0.out.keep hF.out.2)
          obtain ⟨s0, s1⟩ := HDr.out.facts
          obtain ⟨hoff, hwd, hwc⟩ := off_next k hk2
          have hd := (cell_of_row _ _ k _ _ _ HDr.out.db).trans hwc
          have hVk := HVf.out k hk2
          have hol := off_le k hk2
          have hlt : V k < 2 ^ 10 := by rw [← hVk]; exact Nat.lt_of_lt_of_le (num_lt _ _ _) (Nat.pow_le_pow_right (by decide) hwd)
          obtain ⟨a2, ha2⟩ : ∃ a2, a2 = offs.getD (k + 1) 0 := ⟨_, rfl⟩
          rw [← ha2] at hoff
          generalize offs.getD k 0 = a at *
          generalize wids.getD k 0 = wd at *
          have hT := take_wholer (l := t) (A := a) (K := wd) (a := (a : Int)) (k := (wd : Int)) HBt (by omega) (by omega) (by omega) rfl rfl (HDr.out.rd.keep (hid_non wr).out)
          rw [hVk] at hT
          have HTk := Lib.hid hT
          have HOF := Lib.hid hoff
          have HA2 := Lib.hid ha2
          have HDD := Lib.hid hd
          have k0 : (0 : Int) ≤ (k : Int) := by omega
          have k10 : (k : Int) < 10 := by omega
          have hVs : V k < 1024 := hlt
          have a49 : a ≤ 49 := by omega
          clear hT hoff ha2 hVk hlt hwc hol
          go_wp2_with fail
          go_region_held3 (fun w' => w'.cell? ⟨S, 0, none⟩ = some (.slice p t.length c) ∧ w'.cell? ⟨S, 1, none⟩ = some (.int .i64 (8 * (t.length : Int))) ∧ w'.cell? ⟨D, k, none⟩ = some (.int .i64 (wd : Int)) ∧ Hid (wr.grownBy w' none))
            (first | with_reducible exact keepd s0 s1 HDD.out (hid_non wr) | (go_split_ands; with_reducible refine keepd s0 s1 HDD.out (hid_more ?_ hap); with_reducible assumption) | (go_split_ands; with_reducible refine keepd s0 s1 HDD.out ?_; with_reducible assumption))
            ((go_at_call 61; refine HTk.out.mono ?_; rintro e w' ⟨rfl, hap⟩))
          all_goals
            have GW := Lib.hid (grown_trans (hid_non wr).out hap)
            go_split_ands
            have HF2 := Lib.hid (flds_keep hF.out GW.out)
            have hown := HF2.out.1
            have hsz2 := HF2.out.2.size
            clear hap hF
            go_wp2_with (at_builtin; refine wpList_append_own _ rfl _ _ 22 rfl w4.heap.size 3 i0 (.int .i64 0) 1 8 Tryd.underlying22 hi hz0 hz1 hz2 rfl (by decide) _ _ _ rfl (hown.alloc _) ⟨w'.heap.size, 0, none⟩ 1 1 [.int .i64 ((V k : Nat) : Int)] rfl rfl ?c1 ?c2 ?c3 ?c4 ?c5 ?_)
            try (case c1 => exact cell_one _ _ _)
            case c2 => first | rfl | (intro u hu; simp at hu; subst hu; rfl)
            case c3 => first | omega | (unfold maxLen; omega)
            case c4 => omega
            case c5 => first | omega | (simp; omega)
            intro v' w1 hown' hg _
            have HF3 := Lib.hid (flds_next HF2.out hown' hg)
            have HDn := Lib.hid (HD0.out.keep HF3.out.2)
            have d1 : w1.cell? ⟨D, k, none⟩ = some (.int .i64 (wd : Int)) := (cell_of_row _ _ k _ _ _ HDn.out.db).trans ((cell_of_row _ _ k _ _ _ HDr.out.db).symm.trans HDD.out)
            clear hown' hg hown HF2 HDr HTk HDD HDn s0 s1 hd
            go_wp2_with fail
            go_roundw
            case rel => exact ⟨k + 1, by omega, by go_num, by rw [← HA2.out, HOF.out]; simp, HF3⟩
            case measure => simp [intOf]; omega
        · obtain rfl : k = 10 := by omega
          obtain ⟨gf, cf, rfl, hgf⟩ := own_form hF.out.1 (by decide)
          have HD1 := Lib.hid (HD0.out.keep hF.out.2)
          have HF1 := hF
          rw [show offs.getD 10 0 = 49 from rfl]
          clear hk hk2 hF HD0 hsz
          have HDV : Hid (decV l = if misV V ≠ 0 then (zpk, misV V) else if l.length < szV V then (zpk, 20) else
            if (restV V (8 * 2 ^ V 4) (l.take (szV V))).2 ≠ 0 then (zpk, (restV V (8 * 2 ^ V 4) (l.take (szV V))).2) else if szV V < l.length then (zpk, 21) else ((restV V (8 * 2 ^ V 4) (l.take (szV V))).1, 0)) := Lib.hid (by rw [HVV.out]; unfold decV; rw [if_neg h7])
          have f0 := flds_cell HF1.out (j := 0) (by decide)
          have f1 := flds_cell HF1.out (j := 1) (by decide)
          have f4 := flds_cell HF1.out (j := 4) (by decide)
          have f7 := flds_cell HF1.out (j := 7) (by decide)
          have f9 := flds_cell HF1.out (j := 9) (by decide)
          have v4 : V 4 < 4 := by rw [HVV.out]; exact num_lt _ _ 2
          obtain ⟨⟨r0, r1, r2, r3, r4, r5, r6, r7, r8, r9⟩, z0, z1, z2, z3, z4, z5, z6, z7, z8, z9⟩ := zp_cells HD1.out.zb
          by_cases m0 : V 0 = 2
          · by_cases m1 : V 1 = 0
            · have hE : Hid (decV l = (zpk, 1)) := Lib.hid (by rw [HDV.out]; have : misV V = 1 := by unfold misV; rw [if_neg (by omega), if_pos m1]
                                                               rw [this]; rfl)
              go_wp2_with fail
              refine bodyPost_ret (res_packet_err rfl _ _ w.heap.size _ rfl rfl (pput_row _ _ _ _ _ _ _ _ _ _ HD1.out.zb)) rfl ?_
              exact ⟨by rw [hE.out]; rfl, grown_new HD1.out.gr (pput_grown _ w.heap.size _ _ _ _ _ _ _ _ _ _) (Nat.le_refl _)⟩
            · by_cases m7 : 256 < V 7
              · have hE : Hid (decV l = (zpk, 2)) := Lib.hid (by rw [HDV.out]; have : misV V = 2 := by unfold misV; rw [if_neg (by omega), if_neg m1, if_pos (.inl m7)]
                                                                 rw [this]; rfl)
                go_wp2_with fail
                refine bodyPost_ret (res_packet_err rfl _ _ w.heap.size _ rfl rfl (pput_row _ _ _ _ _ _ _ _ _ _ HD1.out.zb)) rfl ?_
                exact ⟨by rw [hE.out]; rfl, grown_new HD1.out.gr (pput_grown _ w.heap.size _ _ _ _ _ _ _ _ _ _) (Nat.le_refl _)⟩
              · by_cases m9 : 64 < V 9
                · have hE : Hid (decV l = (zpk, 2)) := Lib.hid (by rw [HDV.out]; have : misV V = 2 := by unfold misV; rw [if_neg (by omega), if_neg m1, if_pos (.inr m9)]
                                                                   rw [this]; rfl)
                  have d7 : decide (256 < V 7) = false := by simpa using m7
                  go_wp2_with fail
                  refine bodyPost_ret (res_packet_err rfl _ _ w.heap.size _ rfl rfl (pput_row _ _ _ _ _ _ _ _ _ _ HD1.out.zb)) rfl ?_
                  exact ⟨by rw [hE.out]; rfl, grown_new HD1.out.gr (pput_grown _ w.heap.size _ _ _ _ _ _ _ _ _ _) (Nat.le_refl _)⟩
                · have hm : misV V = 0 := by unfold misV; rw [if_neg (by omega), if_neg m1, if_neg (by omega)]
                  rw [hm, if_neg (by decide)] at HDV
                  have h9 : V 9 ≤ 64 := by omega
                  obtain ⟨n, hn⟩ : ∃ n : Nat, n = 8 * 2 ^ V 4 := ⟨_, rfl⟩
                  have hn64 : n ≤ 64 := by
                    have : 2 ^ V 4 ≤ 2 ^ 3 := Nat.pow_le_pow_right (by decide) (by omega)
                    omega
                  have hdec := decoded_any (V 4) v4
                  rw [← hn] at hdec HDV
                  obtain ⟨sz, hsz⟩ : ∃ sz, sz = szV V := ⟨_, rfl⟩
                  have hszv : sz = (49 + n + 8 * V 9 + 16 + 7) / 8 := by rw [hsz, hn]; rfl
                  rw [← hsz] at HDV
                  have hrsz := rsz_any n (V 9) (by omega) (by omega)
                  rw [← hszv] at hrsz
                  have HSZ := Lib.hid hszv
                  have HDEC := Lib.hid hdec
                  have HRS := Lib.hid hrsz
                  have hszb : sz ≤ 81 := by omega
                  have d7 : decide (256 < V 7) = false := by simpa using m7
                  have d9 : decide (64 < V 9) = false := by simpa using m9
                  clear hsz hszv hdec hrsz hm hn
                  go_wp2_with fail
                  refine (HDEC.out _).mono ?_
                  rintro e w5 ⟨rfl, rfl⟩
                  go_wp2_with fail
                  refine (HRS.out _).mono ?_
                  rintro e w5 ⟨rfl, rfl⟩
                  by_cases h20 : l.length < sz
                  · have hE : Hid (decV l = (zpk, 20)) := Lib.hid (by rw [HDV.out, if_pos h20])
                    have h20t : t.length < sz := by omega
                    go_wp2_with fail
                    refine bodyPost_ret (res_packet_err rfl _ _ w.heap.size _ rfl rfl (pput_row _ _ _ _ _ _ _ _ _ _ HD1.out.zb)) rfl ?_
                    exact ⟨by rw [hE.out]; rfl, grown_new HD1.out.gr (pput_grown _ w.heap.size _ _ _ _ _ _ _ _ _ _) (Nat.le_refl _)⟩
                  · have h20t : ¬ t.length < sz := by have := HTL.out; omega
                    rw [if_neg h20] at HDV
                    have g1 := fl7 HF1.out
                    clear f0 f1 f4 f7 f9 r0 r1 r2 r3 r4 r5 r6 r7 r8 r9 z0 z1 z2 z3 z4 z5 z6 z7 z8 z9 d7 d9 HDEC
                    go_wp2_with fail
                    go_region_held3 (fun w' => w'.cell? ⟨gf, 1, none⟩ = some (.int .i64 ((V 1 : Nat) : Int)) ∧ w'.cell? ⟨gf, 2, none⟩ = some (.int .i64 ((V 2 : Nat) : Int)) ∧ w'.cell? ⟨gf, 3, none⟩ = some (.int .i64 ((V 3 : Nat) : Int)) ∧ w'.cell? ⟨gf, 5, none⟩ = some (.int .i64 ((V 5 : Nat) : Int)) ∧ w'.cell? ⟨gf, 6, none⟩ = some (.int .i64 ((V 6 : Nat) : Int)) ∧ w'.cell? ⟨gf, 7, none⟩ = some (.int .i64 ((V 7 : Nat) : Int)) ∧ w'.cell? ⟨gf, 8, none⟩ = some (.int .i64 ((V 8 : Nat) : Int)))
                      (first | with_reducible exact fl7 (flds_keep HF1.out (hid_non _).out) | with_reducible exact fl7 (flds_keep (flds_keep HF1.out (hid_non _).out) (World.grownBy_alloc _ _ none)))
                      (first | fail)
                    all_goals
                      have q1 := grown_trans (World.grownBy_alloc wr (.cells (rcells V (n : Int) 0 ⟨#[]⟩) 31) none) (grown_drew (grown_refl (wr.alloc (.cells (rcells V (n : Int) 0 ⟨#[]⟩) 31)) none))
                    have hRR : RR w w4 S D gf cf wr.heap.size V n 0 ⟨#[]⟩ t p c (wr.alloc (.cells (rcells V (n : Int) 0 ⟨#[]⟩) 31)).drew :=
                      ⟨HD1.out.keep q1, flds_keep HF1.out q1, kept_row (heap_alloc_new wr (.cells (rcells V (n : Int) 0 ⟨#[]⟩) 31)) (grown_drew (grown_refl (wr.alloc (.cells (rcells V (n : Int) 0 ⟨#[]⟩) 31)) none)) (by simp),
                        ⟨World.lt_of_row' HD1.out.zb, Nat.ne_of_lt (World.lt_of_row' HD1.out.sb), Nat.ne_of_lt (World.lt_of_row' HD1.out.db), Nat.ne_of_lt (HF1.out.1.lt gf rfl).2, HF1.out.2.size⟩⟩
                    have HRR0 := Lib.hid hRR
                    unfold rcells at HRR0
                    clear q1 hRR HD1 HF1 g1
                    go_upto_region 27 with fail
                    generalize (wr.alloc _).drew = w6 at *
                    change Hid (RR w w4 S D gf cf wr.heap.size V n 0 ⟨#[]⟩ t p c w6) at HRR0
                    generalize wr.heap.size = B at *
                    obtain ⟨s0, s1⟩ := HRR0.out.dr.facts
                    have hTk := take_wholer (l := t) (A := 49) (K := n) (a := (49 : Int)) (k := (n : Int)) HBt (by omega) hn64 (by have := HSZ.out; omega) rfl rfl HRR0.out.dr.rd
                    go_wp2_with fail
                    refine hTk.mono ?_
                    rintro e w7 ⟨rfl, hg⟩
                    have HRR1 := Lib.hid (HRR0.out.keep hg)
                    have HRR2 := Lib.hid (HRR1.out.bits (num (bt t) 49 n))
                    have c8 : w7.cell? ⟨B, 8, none⟩ = some (.int .u64 0) := cell_of_row _ _ _ _ _ _ HRR1.out.pb
                    have z8 := frozen_of_row _ _ 8 _ _ HRR1.out.pb
                    clear s0 s1 hTk hg HRR0
                    go_upto_region 28 with fail
                    obtain ⟨bv, hbv⟩ : ∃ bv, bv = num (bt t) 49 n := ⟨_, rfl⟩
                    rw [← hbv] at HRR2 ⊢
                    have HBV := Lib.hid hbv
                    generalize w7.setCell _ _ = w8 at *
                    clear c8 z8 HRR1 hbv
                    have HP0 : Hid (PayRel w8 t (49 + n) 0 (.slice none 0 0) w8) := Lib.hid ⟨World.ownsRow_nil _ _ _ _, fun _ => rfl, grown_refl _ _⟩
                    go_wp2_with fail
                    go_loopw [8, 14, 15] (fun at_ lv i wr => ∃ j : Nat, j ≤ V 9 ∧ i = .int .i64 (j : Int) ∧ at_ = .int .i64 ((49 + n + 8 * j : Nat) : Int) ∧ Hid (PayRel w8 t (49 + n) j lv wr)) (fun _ _ i _ => (V 9 - (intOf i).toNat))
                    case atStart => exact ⟨0, Nat.zero_le _, rfl, by first | rfl | simp | (congr 1), HP0⟩
                    case round =>
                      obtain ⟨j, hj, rfl, rfl, hP⟩ := hrel
                      clear HP0
                      have hsz := hP.out.2.2.size
                      have HRw := Lib.hid (HRR2.out.keep hP.out.2.2)
                      have f9 := flds_cell HRw.out.fl (j := 9) (by decide)
                      by_cases hj9 : j < V 9
                      · obtain ⟨s0, s1⟩ := HRw.out.dr.facts
                        have hTk := take_wholer (l := t) (A := 49 + n + 8 * j) (K := 8) (a := 49 + (n : Int) + 8 * (j : Int)) (k := (8 : Int)) HBt (by omega) (by decide) (by have := HSZ.out; omega) (by omega) rfl HRw.out.dr.rd
                        have hx8 : num (bt t) (49 + n + 8 * j) 8 < 256 := num_lt _ _ 8
                        have hpn : ∀ (w1 : World) (v v' : Value) (o : Obj) (wr : World), PayRel w8 t (49 + n) j v wr → w1.ownsRow w8.heap.size 5 1 v' (j + 1) ((pyl t (49 + n) j).map nv ++ [nv (num (bt t) (49 + n + 8 * j) 8)]) → (wr.alloc o).grownBy w1 v.ownBlock → PayRel w8 t (49 + n) (j + 1) v' w1 := fun _ _ _ _ _ h1 h2 h3 => pay_next h1 h2 h3
                        have HPN := Lib.hid hpn
                        generalize num (bt t) (49 + n + 8 * j) 8 = x at *
                        have hwx : IntKind.u8.wrap (x : Int) = (x : Int) := by rw [IntKind.wrap_u8]; omega
                        clear hpn
                        go_wp2_with fail
                        refine hTk.mono ?_
                        rintro e w9 ⟨rfl, hg⟩
                        have HP2 := Lib.hid (pay_keep hP.out hg)
                        have hown := HP2.out.1
                        have hsz2 := HP2.out.2.2.size
                        clear hg hTk hP s0 s1 f9
                        go_wp2_with (at_builtin; refine wpList_append_own _ rfl _ _ 23 rfl w8.heap.size 5 j0 (.int .u8 0) 1 1 Tryd.underlying23 hj0 hy0 hy1 hy2 rfl (by decide) _ _ _ rfl (hown.alloc _) ⟨w9.heap.size, 0, none⟩ 1 1 [.int .u8 (x : Int)] rfl rfl ?c1 ?c2 ?c3 ?c4 ?c5 ?_)
                        try (case c1 => exact cell_one _ _ _)
                        case c2 => first | rfl | (intro u hu; simp at hu; subst hu; rfl)
                        case c3 => first | omega | (unfold maxLen; omega)
                        case c4 => omega
                        case c5 => first | omega | (simp; omega)
                        intro v' w10 hown' hg _
                        have HP3 := Lib.hid (HPN.out _ _ _ _ _ HP2.out hown' hg)
                        clear hown' hg hown HP2 HPN HRw
                        go_wp2_with fail
                        go_roundw
                        case rel => exact ⟨j + 1, by omega, by go_num, by congr 1 <;> omega, HP3⟩
                        case measure => simp [intOf]; omega
                      · obtain rfl : j = V 9 := by omega
                        have hcv := pay_conv hP.out
                        have HRS1 := Lib.hid (HRw.out.pay (bs (pyl t (49 + n) (V 9))))
                        have c9 : wr.cell? ⟨B, 9, none⟩ = some (.string ⟨#[]⟩) := cell_of_row _ _ _ _ _ _ HRw.out.pb
                        have z9 := frozen_of_row _ _ 9 _ _ HRw.out.pb
                        obtain ⟨K, hK⟩ : ∃ K, K = 49 + n + 8 * V 9 := ⟨_, rfl⟩
                        rw [← hK]
                        have hKs : K + 16 ≤ 8 * sz := by have := HSZ.out; omega
                        have hKl : 8 * sz - (K + 16) ≤ 7 := by have := HSZ.out; omega
                        have hdr := dec_rest HT.out hszb (by omega) hK hKs
                        rw [← HBV.out] at hdr
                        rw [hdr] at HDV
                        have HK := Lib.hid hK
                        clear hdr hP hj hj9 hK
                        obtain ⟨sx, hsx⟩ : ∃ sx, sx = bs (pyl t (49 + n) (V 9)) := ⟨_, rfl⟩
                        rw [← hsx] at hcv HRS1 HDV
                        clear hsx
                        go_upto_region 37 with fail
                        generalize wr.setCell _ _ = w11 at *
                        clear hcv c9 z9 f9 HRw
                        obtain ⟨s0, s1⟩ := HRS1.out.dr.facts
                        have hSl := slice_wholer (l := t) (A := 0) (T := K) (a := (0 : Int)) (b := (K : Int)) (K : Int) rfl HBt (by omega) (by omega) rfl (by simp) HRS1.out.dr.rd
                        go_wp2_with fail
                        refine hSl.mono ?_
                        rintro e w12 ⟨p2, c2, rfl, hR2, hp2, hg⟩
                        have hgb := World.grownBy_alloc w12 (.cells #[.slice p2 (pz (fun i => bt t (0 + i)) K ((K + 7) / 8)).length c2, .int .i64 (K : Int)] 74) none
                        have HRS2 := Lib.hid (HRS1.out.keep (grown_trans hg hgb))
                        have hC := check_partr (T := K) (t := (K : Int)) rfl (by omega) (by omega) (hR2.keep hgb)
                        obtain ⟨L, hL⟩ : ∃ L, L = pz (fun i => bt t (0 + i)) K ((K + 7) / 8) := ⟨_, rfl⟩
                        rw [← hL] at hC HRS2 ⊢
                        have HC := Lib.hid hC
                        clear hC hR2 hp2 hg hgb hL s0 s1 hSl HRS1
                        go_wp2_with fail
                        refine HC.out.mono ?_
                        rintro e w13 ⟨rfl, hg⟩
                        have HRS3 := Lib.hid (HRS2.out.keep hg)
                        obtain ⟨s0, s1⟩ := HRS3.out.dr.facts
                        have hTk := take_wholer (l := t) (A := K) (K := 16) (a := (K : Int)) (k := (16 : Int)) HBt (by omega) (by decide) (by omega) rfl rfl HRS3.out.dr.rd
                        clear hg HC HRS2
                        go_wp2_with fail
                        refine hTk.mono ?_
                        rintro e w14 ⟨rfl, hg⟩
                        have HRS4 := Lib.hid (HRS3.out.keep hg)
                        obtain ⟨xc, hxc⟩ : ∃ xc, xc = num (bt t) K 16 := ⟨_, rfl⟩
                        obtain ⟨yc, hyc⟩ : ∃ yc, yc = chk (bt t) K := ⟨_, rfl⟩
                        rw [← hxc, ← hyc]
                        have hce : cErr t K sz = if xc ≠ yc then 23 else if num (bt t) (K + 16) (8 * sz - (K + 16)) ≠ 0 then 24 else 0 := by unfold cErr; rw [hxc, hyc]
                        rw [hce] at HDV
                        have HDW := Lib.hid (dec_pick HDV.out)
                        clear hg hTk s0 s1 HRS3 hce hxc hyc
                        obtain ⟨⟨r0, r1, r2, r3, r4, r5, r6, r7, r8, r9⟩, z0, z1, z2, z3, z4, z5, z6, z7, z8, z9⟩ := zp_cells HRS4.out.dr.zb
                        by_cases hxy : xc = yc
                        · rw [if_neg (fun h => h hxy)] at HDW
                          have f9 := flds_cell HRS4.out.fl (j := 9) (by decide)
                          subst hxy
                          clear r0 r1 r2 r3 r4 r5 r6 r7 r8 r9 z0 z1 z2 z3 z4 z5 z6 z7 z8 z9
                          obtain ⟨s0, s1⟩ := HRS4.out.dr.facts
                          have hTk := fun (w' : World) (h : Hid (w14.grownBy w' none)) => take_wholer (l := t) (A := K + 16) (K := 8 * sz - (K + 16)) (a := (K : Int) + 16) (k := IntKind.i64.wrap (IntKind.i64.wrap (8 * (sz : Int)) - ((K : Int) + 16))) HBt (by omega) (by omega) (by omega) (by omega) (pad_k hKs hszb) (HRS4.out.dr.rd.keep h.out)
                          have HTk := Lib.hid hTk
                          clear hTk
                          go_wp2_with fail
                          go_region_held3 (fun w' => w'.cell? ⟨S, 0, none⟩ = some (.slice p t.length c) ∧ w'.cell? ⟨S, 1, none⟩ = some (.int .i64 (8 * (t.length : Int))) ∧ w'.cell? ⟨gf, 9, none⟩ = some (.int .i64 ((V 9 : Nat) : Int)) ∧ Hid (w14.grownBy w' none))
                            (first | with_reducible exact keepd s0 s1 f9 (hid_non w14) | (go_split_ands; with_reducible refine keepd s0 s1 f9 (hid_more ?_ hap); with_reducible assumption) | (go_split_ands; with_reducible refine keepd s0 s1 f9 ?_; with_reducible assumption))
                            (first
                              | (go_at_call 63; refine (HRS.out _).mono ?_; rintro e w' ⟨rfl, rfl⟩)
                              | (go_at_call 61; refine (HTk.out _ ?_).mono ?_; (go_split_ands; with_reducible assumption); rintro e w15 ⟨rfl, hap⟩))
                          all_goals
                            go_split_ands
                            have HRS5 := Lib.hid (HRS4.out.keep (grown_trans (hid_non w14).out hap))
                            obtain ⟨pd, hpd⟩ : ∃ pd, pd = num (bt t) (K + 16) (8 * sz - (K + 16)) := ⟨_, rfl⟩
                            rw [← hpd] at HDW ⊢
                            clear hap HTk s0 s1 HRS4 hpd f9
                            have f9 := flds_cell HRS5.out.fl (j := 9) (by decide)
                            obtain ⟨⟨r0, r1, r2, r3, r4, r5, r6, r7, r8, r9⟩, z0, z1, z2, z3, z4, z5, z6, z7, z8, z9⟩ := zp_cells HRS5.out.dr.zb
                            by_cases hp0 : pd = 0
                            · subst hp0
                              rw [if_neg (fun h => h rfl)] at HDW
                              have hsum : (t.length : Int) + ((l.length - t.length : Nat) : Int) = (l.length : Int) := by omega
                              go_wp2_with fail
                              refine (HRS.out _).mono ?_
                              rintro e w16 ⟨rfl, rfl⟩
                              by_cases h21 : sz < l.length
                              · have hE : Hid (decV l = (zpk, 21)) := Lib.hid (by rw [HDW.out, if_pos h21])
                                go_wp2_with fail
                                refine bodyPost_ret (res_packet_err rfl _ _ w.heap.size _ rfl rfl (pput_row _ _ _ _ _ _ _ _ _ _ HRS5.out.dr.zb)) rfl ?_
                                exact ⟨by rw [hE.out]; rfl, grown_new HRS5.out.dr.gr (pput_grown _ w.heap.size _ _ _ _ _ _ _ _ _ _) (Nat.le_refl _)⟩
                              · have hE : Hid (decV l = (rcells V (n : Int) bv sx, 0)) := Lib.hid (by rw [HDW.out, if_neg h21])
                                obtain ⟨a0, a1, a2, a3, a4, a5, a6, a7, a8, a9⟩ := rc_cells HRS5.out.pb
                                go_wp2_with fail
                                refine bodyPost_ret (res_packet_err rfl _ _ w.heap.size _ rfl rfl (pput_row _ _ _ _ _ _ _ _ _ _ HRS5.out.dr.zb)) rfl ?_
                                exact ⟨by rw [hE.out]; rfl, grown_new HRS5.out.dr.gr (pput_grown _ w.heap.size _ _ _ _ _ _ _ _ _ _) (Nat.le_refl _)⟩
                            · have hE : Hid (decV l = (zpk, 24)) := Lib.hid (by rw [HDW.out, if_pos hp0])
                              have hne : ¬ (pd : Int) = 0 := by omega
                              go_wp2_with fail
                              refine bodyPost_ret (res_packet_err rfl _ _ w.heap.size _ rfl rfl (pput_row _ _ _ _ _ _ _ _ _ _ HRS5.out.dr.zb)) rfl ?_
                              exact ⟨by rw [hE.out]; rfl, grown_new HRS5.out.dr.gr (pput_grown _ w.heap.size _ _ _ _ _ _ _ _ _ _) (Nat.le_refl _)⟩
                        · have hE : Hid (decV l = (zpk, 23)) := Lib.hid (by rw [HDW.out, if_pos hxy])
                          have hne : ¬ (xc : Int) = (yc : Int) := by omega
                          go_wp2_with fail
                          refine bodyPost_ret (res_packet_err rfl _ _ w.heap.size _ rfl rfl (pput_row _ _ _ _ _ _ _ _ _ _ HRS4.out.dr.zb)) rfl ?_
                          exact ⟨by rw [hE.out]; rfl, grown_new HRS4.out.dr.gr (pput_grown _ w.heap.size _ _ _ _ _ _ _ _ _ _) (Nat.le_refl _)⟩
          · have hE : Hid (decV l = (zpk, 22)) := Lib.hid (by rw [HDV.out]; have : misV V = 22 := by unfold misV; rw [if_pos m0]
                                                              rw [this]; rfl)
            go_wp2_with fail
            refine bodyPost_ret (res_packet_err rfl _ _ w.heap.size _ rfl rfl (pput_row _ _ _ _ _ _ _ _ _ _ HD1.out.zb)) rfl ?_
            exact ⟨by rw [hE.out]; rfl, grown_new HD1.out.gr (pput_grown _ w.heap.size _ _ _ _ _ _ _ _ _ _) (Nat.le_refl _)⟩
end Go.Proofs.YtpabfjhjehjebaaDoor

/- The reference's DecodeFrame: what its loop keeps. -/
namespace Go.Proofs.YtpabfjhjehjebaaDoor
open Go.RowKit Bs
/-- While a route is read: the result's block is zero still, the frame's own block holds the route, which lies in a row of the call's own. -/
structure RK (W : World) (B base : Nat) (v : Value) (r : List Int) (w : World) : Prop where
  fb : Row w B 33 (v :: zfr.toList.tail)
  df : DF W w
  own : w.ownsRow base 3 1 v r.length (r.map iv)
  sz : base ≤ w.heap.size
section
variable {B base : Nat} {W w w1 : World} {v v' : Value} {r : List Int}
set_option maxRecDepth 100000 in
theorem RK.keep (h : RK W B base v r w) (g : w.grownBy w1 none) : RK W B base v r w1 :=
  ⟨h.fb.kept g (by simp), h.df.keep g, h.own.kept g (by cases hv : v.ownBlock <;> simp), Nat.le_trans h.sz g.size⟩
set_option maxRecDepth 100000 in
theorem RK.mid (h : RK W B base v r w) (hB : W.heap.size < B) (hb : B < base) {o : Obj} {x : Int} (hown : w1.ownsRow base 3 1 v' (r.length + 1) (r.map iv ++ [.int .i64 x])) (hg : (w.alloc o).grownBy w1 v.ownBlock) :
    Row w1 B 33 (v :: zfr.toList.tail) ∧ DF W w1 ∧ w1.ownsRow base 3 1 v' (r ++ [x]).length ((r ++ [x]).map iv) ∧ base ≤ w1.heap.size := by
  have hne : ∀ k, k < base → some k ≠ v.ownBlock := fun k hk e => by
    have := (h.own.lt k e.symm).1
    omega
  have k0 := World.grownBy_alloc w o none
  have hd := h.df.keep k0
  refine ⟨(h.fb.kept k0 (by simp)).kept hg (hne B hb), ⟨hd.row.kept hg (hne _ (by omega)), ?_⟩, ?_, Nat.le_trans h.sz (Nat.le_trans k0.size hg.size)⟩
  · cases hbk : v.ownBlock with
    | none => rw [hbk] at hg; exact grown_trans hd.gr hg
    | some g =>
      rw [hbk] at hg
      have := (h.own.lt g hbk).1
      exact grown_new hd.gr hg (by omega)
  · rw [List.length_append, List.map_append]; exact hown
set_option maxRecDepth 100000 in
theorem RK.put (hB : W.heap.size < B) (hb : B < base) {x : Int} (hm : Row w1 B 33 (v :: zfr.toList.tail) ∧ DF W w1 ∧ w1.ownsRow base 3 1 v' (r ++ [x]).length ((r ++ [x]).map iv) ∧ base ≤ w1.heap.size) :
    RK W B base v' (r ++ [x]) (w1.setCell ⟨B, 0, none⟩ v') := by
  obtain ⟨h1, h2, h3, h4⟩ := hm
  have k1 := grown_setCell w1 ⟨B, 0, none⟩ v'
  refine ⟨h1.set 0 v', ⟨h2.row.kept k1 (fun e => by have : W.heap.size = B := Option.some.inj e; omega), grown_new h2.gr k1 (by show W.heap.size ≤ B; omega)⟩, owni_other h3 k1 hb, Nat.le_trans h4 k1.size⟩
set_option maxRecDepth 100000 in
theorem RK.cells (h : RK W B base v r w) :
    (w.cell? ⟨B, 0, none⟩ = some v ∧ w.cell? ⟨B, 1, none⟩ = some (.int .i64 0) ∧ w.cell? ⟨B, 2, none⟩ = some (.int .i64 0) ∧ w.cell? ⟨B, 3, none⟩ = some (.int .i64 0) ∧ w.cell? ⟨B, 4, none⟩ = some (.int .i64 0) ∧ w.cell? ⟨B, 5, none⟩ = some (.int .i64 0) ∧ w.cell? ⟨B, 6, none⟩ = some (.int .i64 0) ∧ w.cell? ⟨B, 7, none⟩ = some (.int .i64 0) ∧ w.cell? ⟨B, 8, none⟩ = some (.int .i64 0) ∧ w.cell? ⟨B, 9, none⟩ = some (.int .u64 0) ∧ w.cell? ⟨B, 10, none⟩ = some (.string ⟨#[]⟩)) ∧ ∀ j, w.frozen? ⟨B, j, none⟩ = false :=
  ⟨⟨h.fb.cell rfl, h.fb.cell rfl, h.fb.cell rfl, h.fb.cell rfl, h.fb.cell rfl, h.fb.cell rfl, h.fb.cell rfl, h.fb.cell rfl, h.fb.cell rfl, h.fb.cell rfl, h.fb.cell rfl⟩, fun j => h.fb.frozen j⟩
end
set_option maxRecDepth 100000 in
theorem rtV_bad {ls : List Lab} {l : Lab} {k : Nat} (h : ls[k]? = some l) (hb : okL l = false) : rtV ls = ([], 2) := by
  unfold rtV
  rw [if_neg]
  intro ha
  have := List.all_eq_true.1 ha l (List.mem_of_getElem? h)
  rw [hb] at this
  cases this
end Go.Proofs.YtpabfjhjehjebaaDoor

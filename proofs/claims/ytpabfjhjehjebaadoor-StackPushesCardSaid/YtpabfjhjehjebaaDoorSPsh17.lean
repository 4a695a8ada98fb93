/- Parts of the proof, packed: StDecFR. -/
import Derived.Test.YtpabfjhjehjebaaDoorSPsh16
/- The reference's DecodeFrame. -/
namespace Go.Proofs.YtpabfjhjehjebaaDoor
open Go.RowKit Bs
/-- What the last part of a frame's reading needs. -/
structure DR3 (L : List Nat) (W : World) (BB base : Nat) (v : Value) (r : List Int) (B : List Nat) (p2 : Option Addr) (c2 : Nat) (w : World) : Prop where
  dec : decF L = finF r B
  by_ : By B
  le : B.length ≤ c2
  rd : Rd w (fun _ => True) (.slice p2 B.length c2) (B.map nv)
  rk : RK W BB base v r w
set_option maxRecDepth 100000 in
theorem fpk_grown (w : World) (h : Nat) (v0 v1 v2 v3 v4 v5 v6 v7 v8 v9 : Value) : w.grownBy (pput w h v0 v1 v2 v3 v4 v5 v6 v7 v8 v9) (some h) := by
  unfold pput
  have S : ∀ (u : World) (j : Nat) (x : Value), u.grownBy (u.setCell ⟨h, j, none⟩ x) (some h) := fun u j x => grown_setCell u ⟨h, j, none⟩ x
  exact grown_trans (grown_trans (grown_trans (grown_trans (grown_trans (grown_trans (grown_trans (grown_trans (grown_trans (S _ _ _) (S _ _ _)) (S _ _ _)) (S _ _ _)) (S _ _ _)) (S _ _ _)) (S _ _ _)) (S _ _ _)) (S _ _ _)) (S _ _ _)
set_option maxRecDepth 100000 in
theorem fpk_row {w : World} {h : Nat} {v : Value} (v0 v1 v2 v3 v4 v5 v6 v7 v8 v9 : Value) (hr : Row w h 33 (v :: zfr.toList.tail)) : Row (pput w h v0 v1 v2 v3 v4 v5 v6 v7 v8 v9) h 33 [v, v0, v1, v2, v3, v4, v5, v6, v7, v8, v9] :=
  (((((((((hr.set 1 v0).set 2 v1).set 3 v2).set 4 v3).set 5 v4).set 6 v5).set 7 v6).set 8 v7).set 9 v8).set 10 v9
set_option maxRecDepth 100000 in
theorem row11 {w : World} {b : Nat} {v v0 v1 v2 v3 v4 v5 v6 v7 v8 v9 : Value} (h : Row w b 33 [v, v0, v1, v2, v3, v4, v5, v6, v7, v8, v9]) :
    w.cell? ⟨b, 0, none⟩ = some v ∧ w.cell? ⟨b, 1, none⟩ = some v0 ∧ w.cell? ⟨b, 2, none⟩ = some v1 ∧ w.cell? ⟨b, 3, none⟩ = some v2 ∧ w.cell? ⟨b, 4, none⟩ = some v3 ∧ w.cell? ⟨b, 5, none⟩ = some v4 ∧ w.cell? ⟨b, 6, none⟩ = some v5 ∧ w.cell? ⟨b, 7, none⟩ = some v6 ∧ w.cell? ⟨b, 8, none⟩ = some v7 ∧ w.cell? ⟨b, 9, none⟩ = some v8 ∧ w.cell? ⟨b, 10, none⟩ = some v9 :=
  ⟨h.cell rfl, h.cell rfl, h.cell rfl, h.cell rfl, h.cell rfl, h.cell rfl, h.cell rfl, h.cell rfl, h.cell rfl, h.cell rfl, h.cell rfl⟩
set_option maxRecDepth 100000 in
theorem grown_b {w w1 w2 : World} {a g : Nat} (h : w.grownBy w1 (some a)) (k : w1.grownBy w2 (some g)) (hg : w.heap.size ≤ g ∨ g = a) : w.grownBy w2 (some a) :=
  ⟨k.os.trans h.os, k.tape.trans h.tape, k.output.trans h.output, Nat.le_trans h.size k.size, fun i hi hia => (k.block i (Nat.lt_of_lt_of_le hi h.size) (fun e => by
    have e2 := Option.some.inj e
    rcases hg with hg | hg
    · omega
    · subst hg; exact hia (by rw [e2]))).trans (h.block i hi hia)⟩
set_option maxRecDepth 100000 in
theorem rts_next {ls : List Lab} {l : Lab} {k : Nat} (h : ls[k]? = some l) : rts (ls.take (k + 1)) = rts (ls.take k) ++ [l.v - 16] := by
  unfold rts
  rw [List.take_add_one, h, List.map_append]
  rfl
set_option maxRecDepth 100000 in
theorem RK.drew {W w : World} {B base : Nat} {v : Value} {r : List Int} (h : RK W B base v r w) : RK W B base v r w.drew := ⟨h.fb, ⟨h.df.row, grown_drew h.df.gr⟩, h.own.drew, h.sz⟩
set_option maxRecDepth 100000 in
theorem rd_old {w : World} {q : Nat → Prop} {v : Value} {vs : List Value} (h : Rd w q v vs) : Rd w (· < w.heap.size) v vs := by
  obtain ⟨p, c, hv, hc⟩ := h
  refine ⟨p, c, hv, fun hne => ?_⟩
  obtain ⟨b, off, hp, _, hx⟩ := hc hne
  have hl : 0 < vs.length := List.length_pos_iff.2 hne
  exact ⟨b, off, hp, World.block_lt_of_cell? w ⟨b, off + 0, none⟩ (hx 0 vs[0] (List.getElem?_eq_getElem hl)), hx⟩
set_option maxRecDepth 100000 in
set_option maxHeartbeats 6400000 in
theorem rdecf_any (L : List Nat) (hL : By L) (p : Option Addr) (c : Nat) (hc : L.length ≤ c) (hcm : c ≤ 9223372036854775807) (hbig : L.length ≤ 9223372036854775807 / 8) (q0 : Nat → Prop) (w : World) (hR0 : Rd w q0 (.slice p L.length c) (L.map nv)) :
    Calls Tryd.prog 10 #[.slice p L.length c] w fun e w' => DFPost L w e w' := by
  have hR := rd_old hR0
  clear hR0
  obtain ⟨k1, k2⟩ := sone_box w zfr 33
  have HD : Hid (DF w (w.alloc (.cells zfr 33))) := Lib.hid ⟨k1, k2⟩
  have HR := Lib.hid (hR.keep k2)
  have HL := Lib.hid hL
  have HC := Lib.hid (And.intro hc (And.intro hcm hbig))
  have hlm := Nat.le_trans hc hcm
  unfold zfr at HD HR
  clear k1 k2 hR hL hcm hbig
  go_enter Tryd.func10, Tryd.ntmps10
  go_upto_region 1 with fail
  generalize w.alloc _ = wa at *
  obtain ⟨⟨d0, d1, d2, d3, d4, d5, d6, d7, d8, d9, d10⟩, f0, f1, f2, f3, f4, f5, f6, f7, f8, f9, f10⟩ := zfr_facts HD.out.row
  by_cases h0 : L.length = 0
  · have HE := Lib.hid (HD.out.err (L := L) (x := 20) (by unfold decF; rw [if_pos h0]))
    go_wp2_with fail
    refine bodyPost_ret (res_frame_err rfl _ _ w.heap.size zfr rfl rfl HE.out.1) rfl ?_
    exact HE.out.2
  · obtain ⟨b, off, rfl, hq, hcc⟩ := rd_cells HR.out (by omega)
    have c0 := hcc 0 (by omega)
    rw [Nat.add_zero] at c0
    have hpos : 0 < L.length := by omega
    have HF : Hid (decF L = decH (L.getD 0 0) (L.drop 1)) := Lib.hid (by unfold decF; rw [if_neg h0])
    have hx9 := HL.out.at_ hpos
    clear hcc
    generalize L.getD 0 0 = x at *
    by_cases hx : 1 < x
    · have HE := Lib.hid (HD.out.err (L := L) (x := 22) (by rw [HF.out]; unfold decH; rw [if_pos hx]))
      go_wp2_with fail
      refine bodyPost_ret (res_frame_err rfl _ _ w.heap.size zfr rfl rfl HE.out.1) rfl ?_
      exact HE.out.2
    · have hx01 : x = 0 ∨ x = 1 := by omega
      have hl0 : ((L.length : Int) == 0) = false := beq_eq_false_iff_ne.2 (by omega)
      go_upto_region 6 with fail
      obtain ⟨k1, k2⟩ := sone_box wa zfr 33
      have HK : Hid (RK w wa.heap.size (wa.alloc (.cells zfr 33)).heap.size (.slice none 0 0) [] (wa.alloc (.cells zfr 33)) ∧ wa.heap.size < (wa.alloc (.cells zfr 33)).heap.size ∧ w.heap.size < wa.heap.size) := Lib.hid ⟨⟨k1, HD.out.keep k2, World.ownsRow_nil _ _ _ _, Nat.le_refl _⟩, by simp, HD.out.row.lt⟩
      have HR2 := Lib.hid (HR.out.keep k2)
      have c0b := k2.cell c0 (by simp)
      clear k1 k2 c0 HR HD d0 d1 d2 d3 d4 d5 d6 d7 d8 d9 d10 f0 f1 f2 f3 f4 f5 f6 f7 f8 f9 f10
      unfold zfr at HK HR2 c0b
      generalize hbs : (wa.alloc _).heap.size = base at *
      generalize wa.alloc _ = wb at *
      generalize wa.heap.size = BB at *
      have hB1 : (L.drop 1).length = L.length - 1 := List.length_drop
      go_cut [5] from 21 to 22 (fun rr wx => ∃ pt : Option Addr, rr = .slice pt (L.length - 1) (c - 1) ∧ wx = wb ∧ Hid (Rd wb (· < w.heap.size) (.slice pt (L.drop 1).length (c - 1)) ((L.drop 1).map nv)))
      case first =>
        by_cases hc1 : c = 1
        · subst hc1
          go_wp2_with fail
          go_meet
          exact ⟨some ⟨b, off, none⟩, by rw [show L.length - 1 = 0 by omega], rfl, Lib.hid (rd_nil2 (by omega) rfl)⟩
        · have hc2 : ¬ c - 1 = 0 := by omega
          go_wp2_with fail
          go_meet
          exact ⟨_, rfl, rfl, Lib.hid (rd_drop HR2.out 1 (c - 1))⟩
      case rest =>
      obtain ⟨pt, rfl, rfl, HRT⟩ := hcut
      obtain ⟨B, hB⟩ : ∃ B, L.drop 1 = B := ⟨_, rfl⟩
      have hBy : By B := by rw [← hB]; exact HL.out.drop 1
      rw [hB] at HF HRT hB1
      obtain ⟨n, hn⟩ : ∃ n, L.length - 1 = n := ⟨_, rfl⟩
      obtain ⟨cB, hcB⟩ : ∃ cB, c - 1 = cB := ⟨_, rfl⟩
      have hbc : B.length ≤ cB := by omega
      have hbm : cB ≤ 9223372036854775807 := by have := HC.out.2.1; omega
      have hb8 : B.length ≤ 9223372036854775807 / 8 := by have := HC.out.2.2; omega
      rw [hn] at hB1 ⊢
      rw [hcB] at HRT ⊢
      subst hB1
      clear hB hn hcB hq
      go_upto_if 26 with fail
      have HBB := Lib.hid (And.intro hBy (And.intro hbc (And.intro hbm hb8)))
      have HKB := Lib.hid HK.out.2.2
      go_cut [5, 6, 7, 8, 9] from 27 to 91 (fun rr l6 s7 e8 i9 wx => ∃ bs2 v r B2 p2 c2, rr = .slice p2 (B2 : List Nat).length c2 ∧ Hid (DR3 L w BB bs2 v r B2 p2 c2 wx ∧ BB < bs2 ∧ B2.length ≤ 9223372036854775807 / 8))
      case first =>
        rcases hx01 with rfl | rfl
        · have c0' : wc.cell? ⟨b, off, none⟩ = some (.int .u8 0) := c0b
          clear c0b
          go_wp2_with fail
          go_meet
          exact ⟨base, _, [], B, pt, cB, rfl, Lib.hid ⟨⟨by rw [HF.out]; rfl, HBB.out.1, HBB.out.2.1, HRT.out.mono fun _ _ => trivial, HK.out.1⟩, HK.out.2.1, HBB.out.2.2.2⟩⟩
        · have c0' : wc.cell? ⟨b, off, none⟩ = some (.int .u8 1) := c0b
          clear c0b
          go_wp2_with fail
          refine (rdecl_any B HBB.out.1 pt cB HBB.out.2.1 HBB.out.2.2.1 _ wc HRT.out).mono ?_
          rintro e w1 ⟨v, rfl, hO, hg⟩
          have hDM := decGo_le B 24 0
          obtain ⟨m, e2, hM⟩ : ∃ m e2, decM B = (m, e2) := ⟨_, _, rfl⟩
          rw [show decGo B 24 0 = decM B from rfl, hM] at hDM
          obtain ⟨m1, m2, m3, -⟩ := hDM
          rw [hM] at hO ⊢
          obtain ⟨ls, hls⟩ : ∃ ls, labsN B m = ls := ⟨_, rfl⟩
          have hll : ls.length = m := by rw [← hls, labsN_len]
          have hH : decF L = (if e2 = 0 then (if (rtV ls).2 = 0 then finF (rtV ls).1 (B.drop (4 * m)) else ([], zpk, (rtV ls).2)) else ([], zpk, e2)) := by
            rw [HF.out]
            show decH 1 B = _
            unfold decH
            rw [if_neg (by decide), if_pos rfl, hM]
            simp only
            rw [hls]
          rw [show (m, e2).1 = m from rfl, hls] at hO
          have HKK := Lib.hid (HK.out.1.keep hg)
          have HK1 := Lib.hid (And.intro hO hH)
          have HRT1 := Lib.hid (HRT.out.keep hg)
          have HMM := Lib.hid (And.intro m1 m2)
          have HBL := HK.out.2
          obtain ⟨p6, c6, rfl, hx6⟩ := rdk_of_own hO
          clear hx6 hO hH hg hls hM HF m1 m2 m3 HRT c0' HR2
          simp only
          by_cases he : e2 = 0
          · subst he
            subst hll
            have h4 : 4 * ls.length ≤ B.length := HMM.out.2
            have hdl : (B.drop (4 * ls.length)).length = B.length - 4 * ls.length := List.length_drop
            go_upto_region 11 with fail
            go_cut [5] from 37 to 39 (fun rr wx => ∃ p2 c2, rr = .slice p2 (B.drop (4 * ls.length)).length c2 ∧ wx = w1 ∧ Hid (Rd w1 (· < w.heap.size) (.slice p2 (B.drop (4 * ls.length)).length c2) ((B.drop (4 * ls.length)).map nv) ∧ (B.drop (4 * ls.length)).length ≤ c2))
            case first =>
              have hlb : B.length ≤ 9223372036854775807 := by omega
              by_cases hcap : cB - 4 * ls.length = 0
              · go_wp2_with fail
                go_meet
                exact ⟨pt, 0, by rw [List.length_drop], rfl, Lib.hid ⟨rd_nil2 (by rw [List.length_drop]; omega) rfl, by rw [List.length_drop]; omega⟩⟩
              · go_wp2_with fail
                go_meet
                exact ⟨pt.map (fun x => x.add (4 * ls.length)), cB - 4 * ls.length, by rw [List.length_drop], rfl, Lib.hid ⟨rd_drop2 HRT1.out (4 * ls.length) _, by rw [List.length_drop]; omega⟩⟩
            case rest =>
            obtain ⟨p2, c2, rfl, hwx, HRR⟩ := hcut
            replace hwx := hwx.symm
            subst hwx
            have HK2 : Hid (RK w BB w1.heap.size (.slice none 0 0) [] w1 ∧ BB < w1.heap.size) := Lib.hid ⟨⟨HKK.out.fb, HKK.out.df, World.ownsRow_nil _ _ _ _, Nat.le_refl _⟩, HKK.out.fb.lt⟩
            have HLS := Lib.hid (rdk_of_own HK1.out.1)
            have HHH := Lib.hid HK1.out.2
            have hBw : wc.heap.size ≤ w1.heap.size := by have := HKK.out.sz; omega
            have h24 : ls.length ≤ 24 := by have := HMM.out.1; simp only at this; omega
            clear HKK HK1 HRT1 hdl HK
            obtain ⟨i0, hi0, hz0, hz1, hz2⟩ := info_parts info_int
            go_wp2_with fail
            go_loopw [9] (fun i wr => ∃ k : Nat, k ≤ ls.length ∧ i = .int .i64 (k : Int) ∧ ∃ v r, Hid (rts (ls.take k) = r ∧ (ls.take k).all okL = true ∧ (r : List Int).length ≤ 24) ∧ Hid (RK w BB w1.heap.size v r wr) ∧ Hid (w1.grownBy wr (some BB))) (fun i _ => ls.length - (intOf i).toNat)
            case atStart => exact ⟨0, Nat.zero_le _, rfl, _, [], Lib.hid ⟨rfl, rfl, by simp⟩, Lib.hid HK2.out.1, Lib.hid (grown_refl _ _)⟩
            case round =>
              obtain ⟨k, hk, rfl, v, r, HRT, HRK, HGB⟩ := hrel
              by_cases hlt : k < ls.length
              · obtain ⟨-, gl, ol, rfl, hql, hcl⟩ := RdL.cells HLS.out (by omega)
                obtain ⟨l, hl⟩ : ∃ l, ls[k] = l := ⟨_, rfl⟩
                obtain ⟨l0, l1, l2⟩ := hcl k hlt
                rw [hl] at l0 l1 l2
                have hglB : gl ≠ BB := by have := HBL.1; omega
                replace l0 := HGB.out.cell l0 (by simpa using hglB)
                replace l1 := HGB.out.cell l1 (by simpa using hglB)
                replace l2 := HGB.out.cell l2 (by simpa using hglB)
                have HLK : Hid (ls[k]? = some l) := Lib.hid (by rw [← hl]; exact List.getElem?_eq_getElem hlt)
                clear hcl hl
                go_upto_region 15 with fail
                go_cut [75] from 46 to 75 (fun bb wx => bb = .bool (!okL l) ∧ wx = wr)
                case first =>
                  by_cases q1 : l.v < 17
                  · have e : okL l = false := by unfold okL; simp; omega
                    go_wp2_with fail
                    go_meet
                    exact ⟨by rw [e]; rfl, rfl⟩
                  · by_cases q2 : 115 < l.v
                    · have e : okL l = false := by unfold okL; simp; omega
                      go_wp2_with fail
                      go_meet
                      exact ⟨by rw [e]; rfl, rfl⟩
                    · by_cases q3 : l.c = 0
                      · have q3b : (l.c != 0) = false := by simpa using q3
                        by_cases q4 : l.h = 255
                        · have q4b : (l.h != 255) = false := by simpa using q4
                          have e : okL l = true := by unfold okL; simp; omega
                          go_wp2_with fail
                          go_meet
                          exact ⟨by rw [e]; rfl, rfl⟩
                        · have q4b : (l.h != 255) = true := by simpa using q4
                          have e : okL l = false := by unfold okL; simp; omega
                          go_wp2_with fail
                          go_meet
                          exact ⟨by rw [e]; rfl, rfl⟩
                      · have q3b : (l.c != 0) = true := by simpa using q3
                        have e : okL l = false := by unfold okL; simp; omega
                        go_wp2_with fail
                        go_meet
                        exact ⟨by rw [e]; rfl, rfl⟩
                case rest =>
                obtain ⟨rfl, hwx⟩ := hcut
                replace hwx := hwx.symm
                subst hwx
                cases ho : okL l
                · have HE := Lib.hid (HRK.out.df.err (L := L) (x := 2) (by rw [HHH.out]; simp [rtV_bad HLK.out ho]))
                  obtain ⟨⟨d0, d1, d2, d3, d4, d5, d6, d7, d8, d9, d10⟩, f0, f1, f2, f3, f4, f5, f6, f7, f8, f9, f10⟩ := zfr_facts HRK.out.df.row
                  clear l0 l1 l2
                  go_wp2_with fail
                  refine bodyPost_ret (res_frame_err rfl _ _ w.heap.size zfr rfl rfl HE.out.1) rfl ?_
                  exact HE.out.2
                · have hb : 17 ≤ l.v ∧ l.v ≤ 115 := by
                    have h := ho
                    unfold okL at h
                    simp at h
                    omega
                  obtain ⟨hb1, hb2⟩ := hb
                  have e0 := HRK.out.cells.1.1
                  have HKd := Lib.hid HRK.out.drew
                  have HGd := Lib.hid (grown_drew HGB.out)
                  have hown0 := HRK.out.own.drew
                  have hrl := HRT.out.2.2
                  have hszr := HRK.out.sz
                  have hszd : w1.heap.size ≤ wr.drew.heap.size := hszr
                  have hBn : ¬ BB = wr.heap.size := by have := HK2.out.2; omega
                  have A0 := (World.grownBy_alloc wr (.cells #[.int .i64 (l.v - 16)] 3) none).cell e0 (by simp)
                  have hwl : IntKind.i64.wrap (l.v - 16) = l.v - 16 := by rw [IntKind.wrap_i64]; omega
                  have k0 : (0 : Int) ≤ (k : Int) := by omega
                  have k1 : (k : Int) < (ls.length : Int) := by omega
                  have hBw1 := HBL.2
                  have hBw2 := HK2.out.2
                  go_wp2_with fail
                  go_region_law (refine step_append_lies _ rfl _ _ 22 rfl w1.heap.size 3 i0 (.int .i64 0) 1 8 Tryd.underlying22 hi0 hz0 hz1 hz2 rfl (by decide) v r.length (r.map iv) (by rfl) (hown0.alloc _) ⟨wr.heap.size, 0, none⟩ 1 1 [.int .i64 (l.v - 16)] (by rfl) (by rfl) (cell_one wr.drew _ _) (by intro u hu; simp at hu; subst hu; rfl) (by omega) (by unfold maxLen; omega) (by omega) (by simp; omega) _ rfl ?_; intro g cap w7 hown hgrow hat hlt; have HM := Lib.hid (HKd.out.mid (by omega) hBw2 hown hgrow); have cB := HM.out.1.cell (j := 0) rfl; have fB := HM.out.1.frozen 0)
                  all_goals
                    have HK7 := Lib.hid (RK.put (by omega) hBw2 HM.out)
                    have HG7 : Hid (w1.grownBy (w7.setCell ⟨BB, 0, none⟩ (.slice (some ⟨g, 0, none⟩) (r.length + 1) cap)) (some BB)) := Lib.hid (by
                      refine grown_b (g := BB) ?_ (grown_setCell w7 ⟨BB, 0, none⟩ _) (Or.inr rfl)
                      have h1 : w1.grownBy (wr.drew.alloc (.cells #[.int .i64 (l.v - 16)] 3)) (some BB) := grown_trans HGd.out (World.grownBy_alloc wr.drew _ _)
                      cases hbk : v.ownBlock with
                      | none => rw [hbk] at hgrow; exact grown_trans h1 (grown_none hgrow _)
                      | some g0 => rw [hbk] at hgrow; exact grown_b h1 hgrow (Or.inl (hown0.lt g0 hbk).1))
                    have HR7 : Hid (rts (ls.take (k + 1)) = r ++ [l.v - 16] ∧ (ls.take (k + 1)).all okL = true ∧ (r ++ [l.v - 16]).length ≤ 24) := Lib.hid (by
                      refine ⟨by rw [rts_next HLK.out, HRT.out.1], by rw [List.take_add_one, HLK.out, List.all_append, HRT.out.2.1]; simp [ho], ?_⟩
                      have h1 := HRT.out.1
                      have h2 : r.length = k := by rw [← h1]; unfold rts; rw [List.length_map, List.length_take]; omega
                      rw [List.length_append]
                      simp
                      omega)
                    clear hown hgrow hat hlt HM cB fB
                    go_wp2_with fail
                    exact ⟨⟨k + 1, by omega, by congr 1, _, _, HR7, HK7, HG7⟩, by simp [intOf]; omega⟩
              · have hke : k = ls.length := by omega
                have hr1 : rts ls = r := by have := HRT.out.1; rw [hke, List.take_length] at this; exact this
                have hr2 : ls.all okL = true := by have := HRT.out.2.1; rw [hke, List.take_length] at this; exact this
                have hr3 := HRT.out.2.2
                obtain ⟨p1, c1, rfl, hn1, hc1, hp1⟩ := owni_facts HRK.out.own
                have e0 := HRK.out.cells.1.1
                have HRS := Lib.hid (And.intro hr1 hr2)
                clear hn1 hc1 hp1 hr1 hr2
                go_wp2_with fail
                refine (rrep_any r p1 c1 _ _ (rd_of_own HRK.out.own) (by omega)).mono ?_
                rintro e w5 ⟨rfl, hg5⟩
                have HRK5 := Lib.hid (HRK.out.keep hg5)
                have HRD5 := Lib.hid ((HRR.out.1.grown HGB.out (fun b hb e => by have := Option.some.inj e; have := HBL.2; omega)).keep hg5)
                clear e0 hg5
                cases hre : rep r
                · go_wp2_with fail
                  go_meet
                  refine ⟨w1.heap.size, _, r, B.drop (4 * ls.length), p2, c2, by rw [List.length_drop], Lib.hid ⟨⟨?_, HBB.out.1.drop _, HRR.out.2, HRD5.out.mono fun _ _ => trivial, HRK5.out⟩, HK2.out.2, by rw [List.length_drop]; have := HBB.out.2.2.2; omega⟩⟩
                  rw [HHH.out]
                  unfold rtV
                  rw [HRS.out.2, HRS.out.1, hre]
                  simp
                · have HE := Lib.hid (HRK5.out.df.err (L := L) (x := 5) (by rw [HHH.out]; unfold rtV; rw [HRS.out.2, HRS.out.1, hre]; simp))
                  obtain ⟨⟨d0, d1, d2, d3, d4, d5, d6, d7, d8, d9, d10⟩, f0, f1, f2, f3, f4, f5, f6, f7, f8, f9, f10⟩ := zfr_facts HRK5.out.df.row
                  go_wp2_with fail
                  refine bodyPost_ret (res_frame_err rfl _ _ w.heap.size zfr rfl rfl HE.out.1) rfl ?_
                  exact HE.out.2
          · have heb : (e2 == 0) = false := by simpa using he
            have hen : (e2 != 0) = true := by simpa using he
            have HE := Lib.hid (HKK.out.df.err (L := L) (x := e2) (by rw [HK1.out.2, if_neg he]))
            obtain ⟨⟨d0, d1, d2, d3, d4, d5, d6, d7, d8, d9, d10⟩, f0, f1, f2, f3, f4, f5, f6, f7, f8, f9, f10⟩ := zfr_facts HKK.out.df.row
            go_wp2_with fail
            refine bodyPost_ret (res_frame_err rfl _ _ w.heap.size zfr rfl rfl HE.out.1) rfl ?_
            exact HE.out.2
      case rest =>
        obtain ⟨bs2, v, r, B2, p2, c2, rfl, H⟩ := hcut
        obtain ⟨X, y, hXy⟩ : ∃ X y, decV B2 = (X, y) := ⟨_, _, rfl⟩
        obtain ⟨n0, n1, n2, n3, n4, n5, n6, n7, n8, s9, hX⟩ := dec_form3 B2
        have hle := H.out.1.le
        have C := fun w0 h => rdecode_any B2 H.out.1.by_ p2 c2 hle H.out.2.2 (fun _ => True) w0 h
        rw [hXy] at C hX
        simp only at C hX
        subst hX
        have HXY := Lib.hid hXy
        clear hXy HK HRT HBB HR2 c0b
        go_wp2_with fail
        refine (C _ H.out.1.rd).mono ?_
        clear C
        rintro e w3 ⟨rfl, hg⟩
        go_upto_region 21 with fail
        obtain ⟨k1, k2⟩ := sone_box w3 #[.int .i64 n0, .int .i64 n1, .int .i64 n2, .int .i64 n3, .int .i64 n4, .int .i64 n5, .int .i64 n6, .int .i64 n7, .int .u64 n8, .string s9] 31
        have HRK := Lib.hid (H.out.1.rk.keep (grown_trans hg k2))
        have a0 := cell_of_row _ _ 0 _ _ _ k1
        have a1 := cell_of_row _ _ 1 _ _ _ k1
        have a2 := cell_of_row _ _ 2 _ _ _ k1
        have a3 := cell_of_row _ _ 3 _ _ _ k1
        have a4 := cell_of_row _ _ 4 _ _ _ k1
        have a5 := cell_of_row _ _ 5 _ _ _ k1
        have a6 := cell_of_row _ _ 6 _ _ _ k1
        have a7 := cell_of_row _ _ 7 _ _ _ k1
        have a8 := cell_of_row _ _ 8 _ _ _ k1
        have a9 := cell_of_row _ _ 9 _ _ _ k1
        simp only [List.getElem?_toArray, List.getElem?_cons_zero, List.getElem?_cons_succ] at a0 a1 a2 a3 a4 a5 a6 a7 a8 a9
        have HDC : Hid (decF L = if y = 0 then (r, #[.int .i64 n0, .int .i64 n1, .int .i64 n2, .int .i64 n3, .int .i64 n4, .int .i64 n5, .int .i64 n6, .int .i64 n7, .int .u64 n8, .string s9], 0) else ([], zpk, y)) := by
          refine Lib.hid ?_
          rw [H.out.1.dec]
          unfold finF
          rw [HXY.out]
        have HLT := Lib.hid (And.intro HKB.out H.out.2.1)
        clear hg k1 k2 H HXY
        generalize w3.alloc _ = w4 at *
        obtain ⟨⟨d0, d1, d2, d3, d4, d5, d6, d7, d8, d9, d10⟩, f0, f1, f2, f3, f4, f5, f6, f7, f8, f9, f10⟩ := zfr_facts HRK.out.df.row
        by_cases hy : y = 0
        · subst hy
          obtain ⟨p1, c1, rfl, hn1, hc1, hp1⟩ := owni_facts HRK.out.own
          obtain ⟨⟨e0, e1, e2, e3, e4, e5, e6, e7, e8, e9, e10⟩, hfr⟩ := HRK.out.cells
          have g1 := hfr 1
          have g2 := hfr 2
          have g3 := hfr 3
          have g4 := hfr 4
          have g5 := hfr 5
          have g6 := hfr 6
          have g7 := hfr 7
          have g8 := hfr 8
          have g9 := hfr 9
          have g10 := hfr 10
          have KG := fpk_grown w4 BB (.int .i64 n0) (.int .i64 n1) (.int .i64 n2) (.int .i64 n3) (.int .i64 n4) (.int .i64 n5) (.int .i64 n6) (.int .i64 n7) (.int .u64 n8) (.string s9)
          have KR := fpk_row (.int .i64 n0) (.int .i64 n1) (.int .i64 n2) (.int .i64 n3) (.int .i64 n4) (.int .i64 n5) (.int .i64 n6) (.int .i64 n7) (.int .u64 n8) (.string s9) HRK.out.fb
          have hne : w.heap.size ≠ BB := Nat.ne_of_lt HLT.out.1
          have HDF2 := Lib.hid (show DF w (pput w4 BB (.int .i64 n0) (.int .i64 n1) (.int .i64 n2) (.int .i64 n3) (.int .i64 n4) (.int .i64 n5) (.int .i64 n6) (.int .i64 n7) (.int .u64 n8) (.string s9)) from ⟨HRK.out.df.row.kept KG (fun e => hne (Option.some.inj e)), grown_new HRK.out.df.gr KG (Nat.le_of_lt HLT.out.1)⟩)
          have HOW := Lib.hid (owni_other HRK.out.own KG HLT.out.2)
          have HKR := Lib.hid KR
          have HN := Lib.hid (And.intro hn1 (And.intro hc1 hp1))
          clear hfr KG KR hn1 hc1 hp1
          go_upto_region 24 with fail
          obtain ⟨w5, hw5⟩ : ∃ w5, pput w4 BB (.int .i64 n0) (.int .i64 n1) (.int .i64 n2) (.int .i64 n3) (.int .i64 n4) (.int .i64 n5) (.int .i64 n6) (.int .i64 n7) (.int .u64 n8) (.string s9) = w5 := ⟨_, rfl⟩
          rw [hw5] at HDF2 HOW HKR
          unfold pput at hw5
          rw [hw5]
          clear hw5 d0 d1 d2 d3 d4 d5 d6 d7 d8 d9 d10 f0 f1 f2 f3 f4 f5 f6 f7 f8 f9 f10 e0 e1 e2 e3 e4 e5 e6 e7 e8 e9 e10 g1 g2 g3 g4 g5 g6 g7 g8 g9 g10 a0 a1 a2 a3 a4 a5 a6 a7 a8 a9
          obtain ⟨⟨d0, d1, d2, d3, d4, d5, d6, d7, d8, d9, d10⟩, f0, f1, f2, f3, f4, f5, f6, f7, f8, f9, f10⟩ := zfr_facts HDF2.out.row
          obtain ⟨e0, e1, e2, e3, e4, e5, e6, e7, e8, e9, e10⟩ := row11 HKR.out
          go_wp2_with fail
          refine bodyPost_ret (res_frame_err rfl _ _ w.heap.size _ rfl rfl (fput_row _ _ _ _ _ _ _ _ _ _ _ HDF2.out.row)) rfl ?_
          have hd := HDC.out
          rw [if_pos trivial] at hd
          refine ⟨p1, c1, by rw [hd]; rfl, ?_, by rw [hd]; exact HN.out.1, HN.out.2.1, HN.out.2.2, grown_new HDF2.out.gr (fput_grown _ _ _ _ _ _ _ _ _ _ _ _ _) (Nat.le_refl _)⟩
          rw [hd]
          exact ((rd_of_own HOW.out).grown (fput_grown _ w.heap.size _ _ _ _ _ _ _ _ _ _ _) (fun b hb e => by have := Option.some.inj e; have := HLT.out; omega)).mono (fun b hb => by have := HLT.out; omega)
        · have hyb : (y == 0) = false := by simpa using hy
          have hyn : (y != 0) = true := by simpa using hy
          have HE := Lib.hid (HRK.out.df.err (L := L) (x := y) (by rw [HDC.out, if_neg hy]))
          go_wp2_with fail
          refine bodyPost_ret (res_frame_err rfl _ _ w.heap.size zfr rfl rfl HE.out.1) rfl ?_
          exact HE.out.2
end Go.Proofs.YtpabfjhjehjebaaDoor

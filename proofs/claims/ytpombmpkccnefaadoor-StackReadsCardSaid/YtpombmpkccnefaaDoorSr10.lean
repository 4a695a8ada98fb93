/- Parts of the proof, packed: StDecF, StSame, PkAwake, IoRows, StAwake, StDecR, PkText. -/
import Derived.Test.YtpombmpkccnefaaDoorSr9
import Derived.Test.YtpombmpkccnefaaDoorSr8
import Derived.Test.YtpombmpkccnefaaDoorSr6
import Derived.Test.YtpombmpkccnefaaDoorSr2
import Derived.Test.YtpombmpkccnefaaDoorSr3
import Derived.Test.YtpombmpkccnefaaDoorSr7
/- stack: DecodeFrame. -/
namespace Go.Proofs.YtpombmpkccnefaaDoor
open Go.RowKit Bs
/-- A zero frame's cells. -/
def zfr : Array Value := #[.slice none 0 0, .int .i64 0, .int .i64 0, .int .i64 0, .int .i64 0, .int .i64 0, .int .i64 0, .int .i64 0, .int .i64 0, .int .u64 0, .string ⟨#[]⟩]
/-- What DecodeFrame returns. -/
def DFPost (L : List Nat) (w : World) (e : Ending) (w' : World) : Prop :=
  ∃ p c, e = .returned (.tuple #[.agg (#[.slice p (decF L).1.length c] ++ (decF L).2.1), .int .i64 (decF L).2.2]) ∧ Rd w' (w.heap.size ≤ ·) (.slice p (decF L).1.length c) ((decF L).1.map iv) ∧ (decF L).1.length ≤ c ∧ c ≤ 9223372036854775807 ∧ (p = none → c = 0) ∧ w.grownBy w' none
set_option maxRecDepth 100000 in
theorem df_err {L : List Nat} {w w' : World} {x : Int} (h : decF L = ([], zpk, x)) (g : w.grownBy w' none) : DFPost L w (.returned (.tuple #[.agg zfr, .int .i64 x])) w' := by
  refine ⟨none, 0, by rw [h]; rfl, ?_, by rw [h]; exact Nat.le_refl _, by omega, fun _ => rfl, g⟩
  rw [h]
  exact Rd.nil_ _ _ _ _
set_option maxRecDepth 100000 in
theorem frame_size : (Tryd.prog.info? 43).map (·.size) = some 11 := by kernel_rfl
set_option maxRecDepth 100000 in
theorem res_frame_err {fn : Func} {p u : Tmp} (h : fn.results = #[.cell p 43, .tmp u]) (tmps : Array Value) (w : World) (g : Nat) (xs : Array Value) (hp : tmps.getD p undef = .pointer (some ⟨g, 0, none⟩)) (hn : xs.size = 11) (hg : w.heap[g]? = some (.cells xs 43 (0, 0))) :
    (results fn tmps).run Tryd.prog w = .ok (.tuple #[.agg xs, tmps.getD u undef]) w := by
  have hp' : tmps[p]?.getD undef = .pointer (some ⟨g, 0, none⟩) := by simpa using hp
  rw [results_cell_tmp h]
  simp [hp', asAddr, run_loadVar_row w g _ _ _ _ _ hg Tryd.underlying43 rfl (by rw [hn]; exact frame_size), Result.andThen]
/-- A frame is stored. -/
def fput (w : World) (h : Nat) (v v0 v1 v2 v3 v4 v5 v6 v7 v8 v9 : Value) : World :=
  (((((((((((w.setCell ⟨h, 0, none⟩ v).setCell ⟨h, 1, none⟩ v0).setCell ⟨h, 2, none⟩ v1).setCell ⟨h, 3, none⟩ v2).setCell ⟨h, 4, none⟩ v3).setCell ⟨h, 5, none⟩ v4).setCell ⟨h, 6, none⟩ v5).setCell ⟨h, 7, none⟩ v6).setCell ⟨h, 8, none⟩ v7).setCell ⟨h, 9, none⟩ v8).setCell ⟨h, 10, none⟩ v9)
set_option maxRecDepth 100000 in
theorem fput_row {w : World} {h : Nat} (v v0 v1 v2 v3 v4 v5 v6 v7 v8 v9 : Value) (hr : Row w h 43 zfr.toList) : Row (fput w h v v0 v1 v2 v3 v4 v5 v6 v7 v8 v9) h 43 [v, v0, v1, v2, v3, v4, v5, v6, v7, v8, v9] :=
  ((((((((((hr.set 0 v).set 1 v0).set 2 v1).set 3 v2).set 4 v3).set 5 v4).set 6 v5).set 7 v6).set 8 v7).set 9 v8).set 10 v9
set_option maxRecDepth 100000 in
theorem fput_grown (w : World) (h : Nat) (v v0 v1 v2 v3 v4 v5 v6 v7 v8 v9 : Value) : w.grownBy (fput w h v v0 v1 v2 v3 v4 v5 v6 v7 v8 v9) (some h) := by
  unfold fput
  have S : ∀ (u : World) (j : Nat) (x : Value), u.grownBy (u.setCell ⟨h, j, none⟩ x) (some h) := fun u j x => grown_setCell u ⟨h, j, none⟩ x
  exact grown_trans (grown_trans (grown_trans (grown_trans (grown_trans (grown_trans (grown_trans (grown_trans (grown_trans (grown_trans (S _ _ _) (S _ _ _)) (S _ _ _)) (S _ _ _)) (S _ _ _)) (S _ _ _)) (S _ _ _)) (S _ _ _)) (S _ _ _)) (S _ _ _)) (S _ _ _)
set_option maxRecDepth 100000 in
theorem zfr_facts {w : World} {b : Nat} (h : Row w b 43 zfr.toList) :
    (w.cell? ⟨b, 0, none⟩ = some (.slice none 0 0) ∧ w.cell? ⟨b, 1, none⟩ = some (.int .i64 0) ∧ w.cell? ⟨b, 2, none⟩ = some (.int .i64 0) ∧ w.cell? ⟨b, 3, none⟩ = some (.int .i64 0) ∧ w.cell? ⟨b, 4, none⟩ = some (.int .i64 0) ∧ w.cell? ⟨b, 5, none⟩ = some (.int .i64 0) ∧ w.cell? ⟨b, 6, none⟩ = some (.int .i64 0) ∧ w.cell? ⟨b, 7, none⟩ = some (.int .i64 0) ∧ w.cell? ⟨b, 8, none⟩ = some (.int .i64 0) ∧ w.cell? ⟨b, 9, none⟩ = some (.int .u64 0) ∧ w.cell? ⟨b, 10, none⟩ = some (.string ⟨#[]⟩)) ∧
    (w.frozen? ⟨b, 0, none⟩ = false ∧ w.frozen? ⟨b, 1, none⟩ = false ∧ w.frozen? ⟨b, 2, none⟩ = false ∧ w.frozen? ⟨b, 3, none⟩ = false ∧ w.frozen? ⟨b, 4, none⟩ = false ∧ w.frozen? ⟨b, 5, none⟩ = false ∧ w.frozen? ⟨b, 6, none⟩ = false ∧ w.frozen? ⟨b, 7, none⟩ = false ∧ w.frozen? ⟨b, 8, none⟩ = false ∧ w.frozen? ⟨b, 9, none⟩ = false ∧ w.frozen? ⟨b, 10, none⟩ = false) :=
  ⟨⟨h.cell rfl, h.cell rfl, h.cell rfl, h.cell rfl, h.cell rfl, h.cell rfl, h.cell rfl, h.cell rfl, h.cell rfl, h.cell rfl, h.cell rfl⟩, h.frozen _, h.frozen _, h.frozen _, h.frozen _, h.frozen _, h.frozen _, h.frozen _, h.frozen _, h.frozen _, h.frozen _, h.frozen _⟩
/-- While a frame is decoded: the result's block is zero still. -/
structure DF (W : World) (w : World) : Prop where
  row : Row w W.heap.size 43 zfr.toList
  gr : W.grownBy w none
set_option maxRecDepth 100000 in
theorem DF.keep {W w w' : World} (h : DF W w) (g : w.grownBy w' none) : DF W w' := ⟨h.row.kept g (by simp), grown_trans h.gr g⟩
set_option maxRecDepth 100000 in
theorem DF.err {L : List Nat} {W w : World} {x : Int} (h : DF W w) (hx : decF L = ([], zpk, x)) :
    Row (fput w W.heap.size (.slice none 0 0) (.int .i64 0) (.int .i64 0) (.int .i64 0) (.int .i64 0) (.int .i64 0) (.int .i64 0) (.int .i64 0) (.int .i64 0) (.int .u64 0) (.string ⟨#[]⟩)) W.heap.size 43 zfr.toList ∧
      DFPost L W (.returned (.tuple #[.agg zfr, .int .i64 x])) (fput w W.heap.size (.slice none 0 0) (.int .i64 0) (.int .i64 0) (.int .i64 0) (.int .i64 0) (.int .i64 0) (.int .i64 0) (.int .i64 0) (.int .i64 0) (.int .u64 0) (.string ⟨#[]⟩)) :=
  ⟨fput_row _ _ _ _ _ _ _ _ _ _ _ h.row, df_err hx (grown_new h.gr (fput_grown _ _ _ _ _ _ _ _ _ _ _ _ _) (Nat.le_refl _))⟩
set_option maxRecDepth 100000 in
theorem dec_form3 (l : List Nat) : ∃ (m0 m1 m2 m3 m4 m5 m6 m7 m8 : Int) (s9 : ByteArray), (decV l).1 = #[.int .i64 m0, .int .i64 m1, .int .i64 m2, .int .i64 m3, .int .i64 m4, .int .i64 m5, .int .i64 m6, .int .i64 m7, .int .u64 m8, .string s9] := by
  unfold decV
  split
  · exact ⟨_, _, _, _, _, _, _, _, _, _, rfl⟩
  · split
    · exact ⟨_, _, _, _, _, _, _, _, _, _, rfl⟩
    · split
      · exact ⟨_, _, _, _, _, _, _, _, _, _, rfl⟩
      · split
        · exact ⟨_, _, _, _, _, _, _, _, _, _, rfl⟩
        · split
          · exact ⟨_, _, _, _, _, _, _, _, _, _, rfl⟩
          · unfold restV
            split
            · exact ⟨_, _, _, _, _, _, _, _, _, _, rfl⟩
            · exact ⟨_, _, _, _, _, _, _, _, _, _, rfl⟩
/-- What the last part of a frame's reading needs. -/
structure DR2 (L : List Nat) (W : World) (r : List Int) (B : List Nat) (p1 p2 : Option Addr) (c1 c2 : Nat) (w : World) : Prop where
  dec : decF L = finF r B
  by_ : By B
  le : B.length ≤ c2
  rd : Rd w (fun _ => True) (.slice p2 B.length c2) (B.map nv)
  rt : Rd w (W.heap.size < ·) (.slice p1 r.length c1) (r.map iv)
  rle : r.length ≤ c1
  cmax : c1 ≤ 9223372036854775807
  pc : p1 = none → c1 = 0
  df : DF W w
set_option maxRecDepth 100000 in
theorem rd_drop2 {w : World} {q : Nat → Prop} {p : Option Addr} {n c : Nat} {B : List Nat} (h : Rd w q (.slice p n c) (B.map nv)) (k c2 : Nat) : Rd w q (.slice (p.map (fun x => x.add k)) (B.drop k).length c2) ((B.drop k).map nv) := by
  by_cases hne : (B.drop k).length = 0
  · have e := List.eq_nil_of_length_eq_zero hne
    rw [e]
    exact Rd.nil_ _ _ _ _
  · obtain ⟨b, off, rfl, _⟩ := rd_cells h (by rw [List.length_drop] at hne; omega)
    show Rd w q (.slice (some ((⟨b, off, none⟩ : Addr).add k)) _ c2) _
    rw [add_plain]
    exact rd_drop h k c2
set_option maxRecDepth 100000 in
theorem rd_nil2 {w : World} {q : Nat → Prop} {p : Option Addr} {n c : Nat} {B : List Nat} (h : B.length = 0) (hn : n = B.length) : Rd w q (.slice p n c) (B.map nv) := by
  have e := List.eq_nil_of_length_eq_zero h
  subst e
  subst hn
  exact Rd.nil_ _ _ _ _
set_option maxRecDepth 100000 in
set_option maxHeartbeats 3200000 in
theorem sdecf_any (L : List Nat) (hL : By L) (p : Option Addr) (c : Nat) (hc : L.length ≤ c) (hcm : c ≤ 9223372036854775807) (q : Nat → Prop) (w : World) (hR : Rd w q (.slice p L.length c) (L.map nv)) :
    Calls Tryd.prog 34 #[.slice p L.length c] w fun e w' => DFPost L w e w' := by
  obtain ⟨k1, k2⟩ := sone_box w zfr 43
  have HD : Hid (DF w (w.alloc (.cells zfr 43))) := Lib.hid ⟨k1, k2⟩
  have HR := Lib.hid (hR.keep k2)
  have HL := Lib.hid hL
  have HC := Lib.hid (And.intro hc hcm)
  have hlm := Nat.le_trans hc hcm
  unfold zfr at HD HR
  clear k1 k2 hR hL hcm
  go_enter Tryd.func34, Tryd.ntmps34
  go_upto_region 1 with fail
  generalize w.alloc _ = wa at *
  obtain ⟨⟨d0, d1, d2, d3, d4, d5, d6, d7, d8, d9, d10⟩, f0, f1, f2, f3, f4, f5, f6, f7, f8, f9, f10⟩ := zfr_facts HD.out.row
  by_cases h0 : L.length = 0
  · have HE := Lib.hid (HD.out.err (L := L) (x := 20) (by unfold decF; rw [if_pos h0]))
    go_wp2_with fail
    refine bodyPost_ret (res_frame_err rfl _ _ w.heap.size zfr rfl rfl HE.out.1) rfl ?_
    exact HE.out.2
  · obtain ⟨b, off, rfl, hq, hcc⟩ := rd_cells HR.out (by omega)
    have c0 := hcc 0 (by omega)
    rw [Nat.add_zero] at c0
    have hpos : 0 < L.length := by omega
    have HF : Hid (decF L = decH (L.getD 0 0) (L.drop 1)) := Lib.hid (by unfold decF; rw [if_neg h0])
    have hx9 := HL.out.at_ hpos
    clear hcc
    generalize L.getD 0 0 = x at *
    by_cases hx : 1 < x
    · have HE := Lib.hid (HD.out.err (L := L) (x := 22) (by rw [HF.out]; unfold decH; rw [if_pos hx]))
      have hx0 : ((x : Int) != 0) = true := by simp; omega
      have hx1 : ((x : Int) != 1) = true := by simp; omega
      go_wp2_with fail
      refine bodyPost_ret (res_frame_err rfl _ _ w.heap.size zfr rfl rfl HE.out.1) rfl ?_
      exact HE.out.2
    · have hx01 : x = 0 ∨ x = 1 := by omega
      have hl0 : ((L.length : Int) == 0) = false := by simp; intro e; exact h0 (by rw [e]; rfl)
      go_upto_region 3 with fail
      first | rw [hl0] | skip
      go_cut [24] from 15 to 24 (fun bb wx => bb = .bool false ∧ wx = wa)
      case first =>
        rcases hx01 with rfl | rfl
        · have c0' : wa.cell? ⟨b, off, none⟩ = some (.int .u8 0) := c0
          clear c0
          go_wp2_with fail
          go_meet
          exact ⟨rfl, rfl⟩
        · have c0' : wa.cell? ⟨b, off, none⟩ = some (.int .u8 1) := c0
          clear c0
          go_wp2_with fail
          go_meet
          exact ⟨rfl, rfl⟩
      case rest =>
      obtain ⟨rfl, rfl⟩ := hcut
      go_upto_region 6 with fail
      have hB1 : (L.drop 1).length = L.length - 1 := List.length_drop
      go_cut [5] from 26 to 27 (fun rr wx => ∃ pt : Option Addr, rr = .slice pt (L.length - 1) (c - 1) ∧ wx = wc ∧ Hid (Rd wc q (.slice pt (L.drop 1).length (c - 1)) ((L.drop 1).map nv)))
      case first =>
        by_cases hc1 : c = 1
        · subst hc1
          go_wp2_with fail
          go_meet
          exact ⟨some ⟨b, off, none⟩, by rw [show L.length - 1 = 0 by omega], rfl, Lib.hid (rd_nil2 (by omega) rfl)⟩
        · have hc2 : ¬ c - 1 = 0 := by omega
          go_wp2_with fail
          go_meet
          exact ⟨_, rfl, rfl, Lib.hid (rd_drop HR.out 1 (c - 1))⟩
      case rest =>
      obtain ⟨pt, rfl, rfl, HRT⟩ := hcut
      obtain ⟨B, hB⟩ : ∃ B, L.drop 1 = B := ⟨_, rfl⟩
      have hBy : By B := by rw [← hB]; exact HL.out.drop 1
      rw [hB] at HF HRT hB1
      obtain ⟨n, hn⟩ : ∃ n, L.length - 1 = n := ⟨_, rfl⟩
      obtain ⟨cB, hcB⟩ : ∃ cB, c - 1 = cB := ⟨_, rfl⟩
      have hbc : B.length ≤ cB := by omega
      have hbm : cB ≤ 9223372036854775807 := by have := HC.out.2; omega
      rw [hn] at hB1 ⊢
      rw [hcB] at HRT ⊢
      subst hB1
      clear hB hn hcB hq
      go_upto_if 31 with fail
      have HBB := Lib.hid (And.intro hBy (And.intro hbc hbm))
      go_cut [4, 5, 6, 7, 8] from 28 to 51 (fun rt rr l6 s7 e8 wx => ∃ r B2 p1 p2 c1 c2, rt = .slice p1 r.length c1 ∧ rr = .slice p2 B2.length c2 ∧ Hid (DR2 L w r B2 p1 p2 c1 c2 wx))
      case first =>
        rcases hx01 with rfl | rfl
        · have c0' : wc.cell? ⟨b, off, none⟩ = some (.int .u8 0) := c0
          clear c0
          go_wp2_with fail
          go_meet
          exact ⟨[], B, none, pt, 0, cB, rfl, rfl, Lib.hid ⟨by rw [HF.out]; rfl, HBB.out.1, HBB.out.2.1, HRT.out.mono fun _ _ => trivial, Rd.nil_ _ _ _ _, Nat.le_refl _, by omega, fun _ => rfl, HD.out⟩⟩
        · have c0' : wc.cell? ⟨b, off, none⟩ = some (.int .u8 1) := c0
          clear c0
          go_wp2_with fail
          refine (sdecl_any B HBB.out.1 pt cB HBB.out.2.1 HBB.out.2.2 q wc HRT.out).mono ?_
          rintro e w1 ⟨v, rfl, hO, hg⟩
          have hDM := decGo_le B 24 0
          obtain ⟨m, e2, hM⟩ : ∃ m e2, decM B = (m, e2) := ⟨_, _, rfl⟩
          rw [show decGo B 24 0 = decM B from rfl, hM] at hDM
          obtain ⟨m1, m2, m3, -⟩ := hDM
          rw [hM] at hO ⊢
          obtain ⟨ls, hls⟩ : ∃ ls, labsN B m = ls := ⟨_, rfl⟩
          have hll : ls.length = m := by rw [← hls, labsN_len]
          have hlv : ∀ l ∈ ls, vlab l = true := by
            intro l hl
            rw [← hls] at hl
            obtain ⟨i, _, rfl⟩ := List.mem_map.1 hl
            exact labN_v (word4_lt HBB.out.1 i)
          have hH : decF L = (if e2 = 0 then (if (rtV ls).2 = 0 then finF (rtV ls).1 (B.drop (4 * m)) else ([], zpk, (rtV ls).2)) else ([], zpk, e2)) := by
            rw [HF.out]
            show decH 1 B = _
            unfold decH
            rw [if_neg (by decide), if_pos rfl, hM]
            simp only
            rw [hls]
          rw [show (m, e2).1 = m from rfl, hls] at hO
          obtain ⟨pl, cl, rfl, hx⟩ := rdk_of_own hO
          have hRL : RdL w1 (wc.heap.size ≤ ·) (.slice pl ls.length cl) ls := ⟨pl, cl, rfl, hx⟩
          have HDD := Lib.hid (HD.out.keep hg)
          have HK1 := Lib.hid (And.intro hRL (And.intro hlv hH))
          have HRT1 := Lib.hid (HRT.out.keep hg)
          have HMM := Lib.hid (And.intro m1 m2)
          have h24 : ls.length ≤ 24 := by simp only at m1; omega
          clear hO hx hRL hlv hH hg hls hM HF m1 m2 HRT HD d0 d1 d2 d3 d4 d5 d6 d7 d8 d9 d10 f0 f1 f2 f3 f4 f5 f6 f7 f8 f9 f10 c0'
          simp only
          by_cases he : e2 = 0
          · subst he
            go_wp2_with fail
            have C := srtof_any ls HK1.out.2.1 h24 pl cl _ w1 HK1.out.1
            rw [hll] at C
            refine C.mono ?_
            clear C
            rintro e w2 ⟨p3, c3, rfl, hRr, hle3, hm3, hp3, hg3⟩
            obtain ⟨r, e3, hr⟩ : ∃ r e3, rtV ls = (r, e3) := ⟨_, _, rfl⟩
            have hH := HK1.out.2.2
            rw [if_pos trivial, hr] at hH
            rw [hr] at hRr hle3 ⊢
            simp only at hH hRr hle3 ⊢
            have HDD2 := Lib.hid (HDD.out.keep hg3)
            have HRT2 := Lib.hid (HRT1.out.keep hg3)
            have HR3 := Lib.hid (And.intro (hRr.mono (q' := (w.heap.size < ·)) (fun b hb => Nat.lt_of_lt_of_le HDD.out.row.lt hb)) (And.intro hle3 (And.intro hm3 hp3)))
            have HH := Lib.hid hH
            clear hRr hle3 hm3 hp3 hg3 hr hH HK1 HDD HRT1
            by_cases he3 : e3 = 0
            · subst he3
              have h4 : 4 * m ≤ B.length := HMM.out.2
              have hlb : B.length ≤ 9223372036854775807 := by omega
              by_cases hcap : cB - 4 * m = 0
              · go_wp2_with fail
                go_meet
                exact ⟨r, B.drop (4 * m), p3, pt, c3, 0, rfl, by rw [List.length_drop], Lib.hid ⟨by have := HH.out; simpa using this, HBB.out.1.drop _, by rw [List.length_drop]; omega, rd_nil2 (by rw [List.length_drop]; omega) rfl, HR3.out.1, HR3.out.2.1, HR3.out.2.2.1, HR3.out.2.2.2, HDD2.out⟩⟩
              · go_wp2_with fail
                go_meet
                exact ⟨r, B.drop (4 * m), p3, pt.map (fun x => x.add (4 * m)), c3, cB - 4 * m, rfl, by rw [List.length_drop], Lib.hid ⟨by have := HH.out; simpa using this, HBB.out.1.drop _, by rw [List.length_drop]; omega, (rd_drop2 HRT2.out (4 * m) _).mono (fun _ _ => trivial), HR3.out.1, HR3.out.2.1, HR3.out.2.2.1, HR3.out.2.2.2, HDD2.out⟩⟩
            · have heb : (e3 == 0) = false := by simpa using he3
              have hen : (e3 != 0) = true := by simpa using he3
              have HE := Lib.hid (HDD2.out.err (L := L) (x := e3) (by rw [HH.out, if_neg he3]))
              obtain ⟨⟨d0, d1, d2, d3, d4, d5, d6, d7, d8, d9, d10⟩, f0, f1, f2, f3, f4, f5, f6, f7, f8, f9, f10⟩ := zfr_facts HDD2.out.row
              go_wp2_with fail
              refine bodyPost_ret (res_frame_err rfl _ _ w.heap.size zfr rfl rfl HE.out.1) rfl ?_
              exact HE.out.2
          · have heb : (e2 == 0) = false := by simpa using he
            have hen : (e2 != 0) = true := by simpa using he
            have HE := Lib.hid (HDD.out.err (L := L) (x := e2) (by rw [HK1.out.2.2, if_neg he]))
            obtain ⟨⟨d0, d1, d2, d3, d4, d5, d6, d7, d8, d9, d10⟩, f0, f1, f2, f3, f4, f5, f6, f7, f8, f9, f10⟩ := zfr_facts HDD.out.row
            go_wp2_with fail
            refine bodyPost_ret (res_frame_err rfl _ _ w.heap.size zfr rfl rfl HE.out.1) rfl ?_
            exact HE.out.2
      case rest =>
        obtain ⟨r, B2, p1, p2, c1, c2, rfl, rfl, H⟩ := hcut
        have hle := H.out.le
        clear HD HRT HBB c0 d0 d1 d2 d3 d4 d5 d6 d7 d8 d9 d10 f0 f1 f2 f3 f4 f5 f6 f7 f8 f9 f10
        obtain ⟨X, y, hXy⟩ : ∃ X y, decV B2 = (X, y) := ⟨_, _, rfl⟩
        obtain ⟨n0, n1, n2, n3, n4, n5, n6, n7, n8, s9, hX⟩ := dec_form3 B2
        have C := fun w0 h => pdecode_any B2 H.out.by_ p2 c2 hle (fun _ => True) w0 h
        rw [hXy] at C hX
        simp only at C hX
        subst hX
        have HXY := Lib.hid hXy
        clear hXy
        go_wp2_with fail
        refine (C _ H.out.rd).mono ?_
        clear C
        rintro e w3 ⟨rfl, hg⟩
        go_upto_region 15 with fail
        obtain ⟨k1, k2⟩ := sone_box w3 #[.int .i64 n0, .int .i64 n1, .int .i64 n2, .int .i64 n3, .int .i64 n4, .int .i64 n5, .int .i64 n6, .int .i64 n7, .int .u64 n8, .string s9] 31
        have HDF := Lib.hid (H.out.df.keep (grown_trans hg k2))
        have HRR := Lib.hid (H.out.rt.keep (grown_trans hg k2))
        have a0 := cell_of_row _ _ 0 _ _ _ k1
        have a1 := cell_of_row _ _ 1 _ _ _ k1
        have a2 := cell_of_row _ _ 2 _ _ _ k1
        have a3 := cell_of_row _ _ 3 _ _ _ k1
        have a4 := cell_of_row _ _ 4 _ _ _ k1
        have a5 := cell_of_row _ _ 5 _ _ _ k1
        have a6 := cell_of_row _ _ 6 _ _ _ k1
        have a7 := cell_of_row _ _ 7 _ _ _ k1
        have a8 := cell_of_row _ _ 8 _ _ _ k1
        have a9 := cell_of_row _ _ 9 _ _ _ k1
        simp only [List.getElem?_toArray, List.getElem?_cons_zero, List.getElem?_cons_succ] at a0 a1 a2 a3 a4 a5 a6 a7 a8 a9
        have HDC : Hid (decF L = if y = 0 then (r, #[.int .i64 n0, .int .i64 n1, .int .i64 n2, .int .i64 n3, .int .i64 n4, .int .i64 n5, .int .i64 n6, .int .i64 n7, .int .u64 n8, .string s9], 0) else ([], zpk, y)) := by
          refine Lib.hid ?_
          rw [H.out.dec]
          unfold finF
          rw [HXY.out]
        have HR4 := Lib.hid (And.intro H.out.rle (And.intro H.out.cmax H.out.pc))
        clear hg k1 k2 H HXY
        generalize w3.alloc _ = w4 at *
        obtain ⟨⟨d0, d1, d2, d3, d4, d5, d6, d7, d8, d9, d10⟩, f0, f1, f2, f3, f4, f5, f6, f7, f8, f9, f10⟩ := zfr_facts HDF.out.row
        by_cases hy : y = 0
        · subst hy
          go_wp2_with fail
          refine bodyPost_ret (res_frame_err rfl _ _ w.heap.size _ rfl rfl (fput_row _ _ _ _ _ _ _ _ _ _ _ HDF.out.row)) rfl ?_
          have hd := HDC.out
          rw [if_pos trivial] at hd
          refine ⟨p1, c1, by rw [hd]; rfl, ?_, by rw [hd]; exact HR4.out.1, HR4.out.2.1, HR4.out.2.2, grown_new HDF.out.gr (fput_grown _ _ _ _ _ _ _ _ _ _ _ _ _) (Nat.le_refl _)⟩
          rw [hd]
          exact (HRR.out.grown (fput_grown _ w.heap.size _ _ _ _ _ _ _ _ _ _ _) (fun b hb e => by have := Option.some.inj e; omega)).mono (fun b hb => Nat.le_of_lt hb)
        · have hyb : (y == 0) = false := by simpa using hy
          have hyn : (y != 0) = true := by simpa using hy
          have HE := Lib.hid (HDF.out.err (L := L) (x := y) (by rw [HDC.out, if_neg hy]))
          go_wp2_with fail
          refine bodyPost_ret (res_frame_err rfl _ _ w.heap.size zfr rfl rfl HE.out.1) rfl ?_
          exact HE.out.2
end Go.Proofs.YtpombmpkccnefaaDoor

/- The reference's Ints and Same, and the statements' sameLabels, at equal lists. -/
namespace Go.Proofs.YtpombmpkccnefaaDoor
open Go.RowKit Bs
set_option maxRecDepth 100000 in
set_option maxHeartbeats 3200000 in
theorem rints_any (r : List Int) (p1 p2 : Option Addr) (c1 c2 : Nat) (q1 q2 : Nat → Prop) (w : World) (h1 : Rd w q1 (.slice p1 r.length c1) (r.map iv)) (h2 : Rd w q2 (.slice p2 r.length c2) (r.map iv)) (hm : r.length ≤ 9223372036854775807) :
    Calls Tryd.prog 82 #[.slice p1 r.length c1, .slice p2 r.length c2] w fun e w' => e = .returned (.bool true) ∧ w.grownBy w' none := by
  have H := Lib.hid (And.intro h1 h2)
  clear h1 h2
  go_enter Tryd.func82, Tryd.ntmps82
  go_wp2_with fail
  go_loopw [5] (fun a wr => ∃ k : Nat, k ≤ r.length ∧ a = .int .i64 (k : Int) ∧ w.grownBy wr none) (fun a _ => r.length - (intOf a).toNat)
  case atStart => exact ⟨0, Nat.zero_le _, rfl, grown_refl _ _⟩
  case round =>
    obtain ⟨k, hk, rfl, hG⟩ := hrel
    by_cases hlt : k < r.length
    · obtain ⟨b1, o1, rfl, _, hc1⟩ := rdi_cells (H.out.1.keep hG) (by omega)
      obtain ⟨b2, o2, rfl, _, hc2⟩ := rdi_cells (H.out.2.keep hG) (by omega)
      have e1 := hc1 k hlt
      have e2 := hc2 k hlt
      have HG := Lib.hid hG
      clear hc1 hc2 hG
      generalize r.getD k 0 = y at *
      go_wp2_with fail
      go_region
      have HG2 := Lib.hid (grown_drew HG.out)
      clear HG e1 e2
      change Exit.then _ _ _ _ wr.drew
      generalize wr.drew = w2 at *
      go_wp2_with fail
      exact ⟨⟨k + 1, by omega, congrArg _ (by omega), HG2.out⟩, by simp only [intOf]; omega⟩
    · obtain rfl : k = r.length := by omega
      have HG := Lib.hid hG
      clear hG
      go_wp2_with fail
      go_ret
      exact ⟨rfl, HG.out⟩
set_option maxRecDepth 100000 in
set_option maxHeartbeats 3200000 in
theorem rsl_any (ls : List Lab) (p1 p2 : Option Addr) (c1 c2 : Nat) (q1 q2 : Nat → Prop) (w : World) (h1 : RdL w q1 (.slice p1 ls.length c1) ls) (h2 : RdL w q2 (.slice p2 ls.length c2) ls) (hm : ls.length ≤ 9223372036854775807) :
    Calls Tryd.prog 30 #[.slice p1 ls.length c1, .slice p2 ls.length c2] w fun e w' => e = .returned (.bool true) ∧ w.grownBy w' none := by
  have H := Lib.hid (And.intro h1 h2)
  clear h1 h2
  go_enter Tryd.func30, Tryd.ntmps30
  go_wp2_with fail
  go_loopw [5] (fun a wr => ∃ k : Nat, k ≤ ls.length ∧ a = .int .i64 (k : Int) ∧ w.grownBy wr none) (fun a _ => ls.length - (intOf a).toNat)
  case atStart => exact ⟨0, Nat.zero_le _, rfl, grown_refl _ _⟩
  case round =>
    obtain ⟨k, hk, rfl, hG⟩ := hrel
    by_cases hlt : k < ls.length
    · obtain ⟨-, b1, o1, rfl, _, hc1⟩ := (H.out.1.keep hG).cells (by omega)
      obtain ⟨-, b2, o2, rfl, _, hc2⟩ := (H.out.2.keep hG).cells (by omega)
      obtain ⟨e1, e2, e3⟩ := hc1 k hlt
      obtain ⟨e4, e5, e6⟩ := hc2 k hlt
      have HG := Lib.hid hG
      clear hc1 hc2 hG
      generalize ls[k] = l at *
      go_wp2_with fail
      go_region
      have HG2 := Lib.hid (grown_drew HG.out)
      clear HG e1 e2 e3 e4 e5 e6
      change Exit.then _ _ _ _ wr.drew
      generalize wr.drew = w2 at *
      go_wp2_with fail
      exact ⟨⟨k + 1, by omega, congrArg _ (by omega), HG2.out⟩, by simp only [intOf]; omega⟩
    · obtain rfl : k = ls.length := by omega
      have HG := Lib.hid hG
      clear hG
      go_wp2_with fail
      go_ret
      exact ⟨rfl, HG.out⟩
/-- The cells of a frame, each by its kind. -/
def gcells (v : Value) (n0 n1 n2 n3 n4 n5 n6 n7 n8 : Int) (s9 : ByteArray) : Array Value := #[v, .int .i64 n0, .int .i64 n1, .int .i64 n2, .int .i64 n3, .int .i64 n4, .int .i64 n5, .int .i64 n6, .int .i64 n7, .int .u64 n8, .string s9]
set_option maxRecDepth 100000 in
theorem g_facts {w : World} {b : Nat} {v : Value} {n0 n1 n2 n3 n4 n5 n6 n7 n8 : Int} {s9 : ByteArray} (h : w.heap[b]? = some (.cells (gcells v n0 n1 n2 n3 n4 n5 n6 n7 n8 s9) 43 (0, 0))) :
    w.cell? ⟨b, 0, none⟩ = some v ∧ w.cell? ⟨b, 1, none⟩ = some (.int .i64 n0) ∧ w.cell? ⟨b, 2, none⟩ = some (.int .i64 n1) ∧ w.cell? ⟨b, 3, none⟩ = some (.int .i64 n2) ∧ w.cell? ⟨b, 4, none⟩ = some (.int .i64 n3) ∧ w.cell? ⟨b, 5, none⟩ = some (.int .i64 n4) ∧ w.cell? ⟨b, 6, none⟩ = some (.int .i64 n5) ∧ w.cell? ⟨b, 7, none⟩ = some (.int .i64 n6) ∧ w.cell? ⟨b, 8, none⟩ = some (.int .i64 n7) ∧ w.cell? ⟨b, 9, none⟩ = some (.int .u64 n8) ∧ w.cell? ⟨b, 10, none⟩ = some (.string s9) :=
  ⟨cell_of_row _ _ _ _ _ _ h, cell_of_row _ _ _ _ _ _ h, cell_of_row _ _ _ _ _ _ h, cell_of_row _ _ _ _ _ _ h, cell_of_row _ _ _ _ _ _ h, cell_of_row _ _ _ _ _ _ h, cell_of_row _ _ _ _ _ _ h, cell_of_row _ _ _ _ _ _ h, cell_of_row _ _ _ _ _ _ h, cell_of_row _ _ _ _ _ _ h, cell_of_row _ _ _ _ _ _ h⟩
set_option maxRecDepth 100000 in
set_option maxHeartbeats 3200000 in
theorem rsame_any (r : List Int) (n0 n1 n2 n3 n4 n5 n6 n7 n8 : Int) (s9 : ByteArray) (p1 p2 : Option Addr) (c1 c2 : Nat) (q1 q2 : Nat → Prop) (w : World) (h1 : Rd w q1 (.slice p1 r.length c1) (r.map iv)) (h2 : Rd w q2 (.slice p2 r.length c2) (r.map iv)) (hm : r.length ≤ 9223372036854775807) :
    Calls Tryd.prog 35 #[.agg #[.slice p1 r.length c1, .int .i64 n0, .int .i64 n1, .int .i64 n2, .int .i64 n3, .int .i64 n4, .int .i64 n5, .int .i64 n6, .int .i64 n7, .int .u64 n8, .string s9], .agg #[.slice p2 r.length c2, .int .i64 n0, .int .i64 n1, .int .i64 n2, .int .i64 n3, .int .i64 n4, .int .i64 n5, .int .i64 n6, .int .i64 n7, .int .u64 n8, .string s9]] w fun e w' => e = .returned (.bool true) ∧ w.grownBy w' none := by
  obtain ⟨k1, k2, k3, k4⟩ := two_boxes w (gcells (.slice p1 r.length c1) n0 n1 n2 n3 n4 n5 n6 n7 n8 s9) (gcells (.slice p2 r.length c2) n0 n1 n2 n3 n4 n5 n6 n7 n8 s9) 43 43
  obtain ⟨a0, a1, a2, a3, a4, a5, a6, a7, a8, a9, a10⟩ := g_facts k1
  obtain ⟨b0, b1, b2, b3, b4, b5, b6, b7, b8, b9, b10⟩ := g_facts k2
  have H := Lib.hid (And.intro (h1.keep k3) (h2.keep k3))
  have K := Lib.hid k3
  clear k1 k2 k3 k4 h1 h2
  unfold gcells at *
  go_enter Tryd.func35, Tryd.ntmps35
  go_upto_region 1 with fail
  generalize (w.alloc _).alloc _ = wa at *
  go_wp2_with (go_at_call 82; refine (rints_any r p1 p2 c1 c2 _ _ wa H.out.1 H.out.2 hm).mono ?_; rintro e w' ⟨rfl, hg⟩; have G := Lib.hid hg; clear hg)
  go_ret
  exact ⟨rfl, grown_trans K.out G.out⟩
end Go.Proofs.YtpombmpkccnefaaDoor

/- packet: the chapter's example. -/
namespace Go.Proofs.YtpombmpkccnefaaDoor
open Go.RowKit Bs
/-- The example's packet. -/
def exP : Pk := ⟨1, 0, 0, 8, 0, 0, 0, 0, 0, ⟨#[]⟩⟩
set_option maxRecDepth 100000 in
theorem ex_valid : vpk exP = true := by decide +kernel
set_option maxRecDepth 100000 in
theorem ex_enc : enc exP = [144, 0, 0, 0, 0, 0, 0, 109, 76, 0] := by decide +kernel
set_option maxRecDepth 100000 in
theorem ex_size : sizeV exP = 10 := by decide +kernel
set_option maxRecDepth 100000 in
theorem ex_wf : exP.Wf := ⟨by unfold I64; decide, by unfold I64; decide, by unfold I64; decide, by unfold I64; decide, by unfold I64; decide, by unfold I64; decide, by unfold I64; decide, by unfold I64; decide, by unfold U64; decide, by decide⟩
set_option maxRecDepth 100000 in
theorem ex_dec : decV [144, 0, 0, 0, 0, 0, 0, 109, 76, 0] = (#[.int .i64 1, .int .i64 0, .int .i64 0, .int .i64 8, .int .i64 0, .int .i64 0, .int .i64 0, .int .i64 0, .int .u64 0, .string ⟨#[]⟩], 0) := by kernel_rfl
set_option maxRecDepth 100000 in
set_option maxHeartbeats 3200000 in
theorem awake_any (w : World) (hT : Tb w) :
    Calls Tryd.prog 17 #[] w fun e w' => e = .returned (.bool true) ∧ w.grownBy w' none := by
  go_enter Tryd.func17, Tryd.ntmps17
  go_wp2_with fail
  obtain ⟨k1, k2⟩ := one_box w #[.int .i64 1, .int .i64 0, .int .i64 0, .int .i64 8, .int .i64 0, .int .i64 0, .int .i64 0, .int .i64 0, .int .u64 0, .string ⟨#[]⟩] 31
  have HP := Lib.hid (And.intro k1 k2)
  have HT := Lib.hid (hT.keep k2)
  clear k1 k2
  generalize w.alloc _ = wa at *
  refine (pencode_any exP ex_wf wa HT.out).mono ?_
  rintro e w2 (⟨_, g, rfl, hB, hge, hg⟩ | ⟨h, _⟩)
  · rw [ex_enc] at hB ⊢
    have HQ := Lib.hid (And.intro (kept_row HP.out.1 hg (by simp)) (grown_trans HP.out.2 hg))
    have HB := Lib.hid hB
    clear hB hge hg HP
    go_wp2_with fail
    refine (pdecode_any [144, 0, 0, 0, 0, 0, 0, 109, 76, 0] (by intro x hx; simp at hx; omega) (some ⟨g, 0, none⟩) 10 (Nat.le_refl _) (fun _ => True) w2 (HB.out.rd _ trivial _)).mono ?_
    rintro e w3 ⟨rfl, hg⟩
    rw [ex_dec]
    have hgb := World.grownBy_alloc w3 (.cells #[.int .i64 1, .int .i64 0, .int .i64 0, .int .i64 8, .int .i64 0, .int .i64 0, .int .i64 0, .int .i64 0, .int .u64 0, .string ⟨#[]⟩] 31) none
    have HQ3 := Lib.hid (And.intro (kept_row HQ.out.1 (grown_trans hg hgb) (by simp)) (grown_trans HQ.out.2 (grown_trans hg hgb)))
    have hB3 := (HB.out.keep hg).keep hgb
    have b0 : (w3.alloc (.cells #[.int .i64 1, .int .i64 0, .int .i64 0, .int .i64 8, .int .i64 0, .int .i64 0, .int .i64 0, .int .i64 0, .int .u64 0, .string ⟨#[]⟩] 31)).cell? ⟨g, 0, none⟩ = some (.int .u8 144) := hB3.cell (j := 0) (by decide)
    have a0 : (w3.alloc (.cells #[.int .i64 1, .int .i64 0, .int .i64 0, .int .i64 8, .int .i64 0, .int .i64 0, .int .i64 0, .int .i64 0, .int .u64 0, .string ⟨#[]⟩] 31)).cell? ⟨w.heap.size, 0, none⟩ = some (.int .i64 1) := cell_of_row _ _ _ _ _ _ HQ3.out.1
    have a1 : (w3.alloc (.cells #[.int .i64 1, .int .i64 0, .int .i64 0, .int .i64 8, .int .i64 0, .int .i64 0, .int .i64 0, .int .i64 0, .int .u64 0, .string ⟨#[]⟩] 31)).cell? ⟨w.heap.size, 1, none⟩ = some (.int .i64 0) := cell_of_row _ _ _ _ _ _ HQ3.out.1
    have a2 : (w3.alloc (.cells #[.int .i64 1, .int .i64 0, .int .i64 0, .int .i64 8, .int .i64 0, .int .i64 0, .int .i64 0, .int .i64 0, .int .u64 0, .string ⟨#[]⟩] 31)).cell? ⟨w.heap.size, 2, none⟩ = some (.int .i64 0) := cell_of_row _ _ _ _ _ _ HQ3.out.1
    have a3 : (w3.alloc (.cells #[.int .i64 1, .int .i64 0, .int .i64 0, .int .i64 8, .int .i64 0, .int .i64 0, .int .i64 0, .int .i64 0, .int .u64 0, .string ⟨#[]⟩] 31)).cell? ⟨w.heap.size, 3, none⟩ = some (.int .i64 8) := cell_of_row _ _ _ _ _ _ HQ3.out.1
    have a4 : (w3.alloc (.cells #[.int .i64 1, .int .i64 0, .int .i64 0, .int .i64 8, .int .i64 0, .int .i64 0, .int .i64 0, .int .i64 0, .int .u64 0, .string ⟨#[]⟩] 31)).cell? ⟨w.heap.size, 4, none⟩ = some (.int .i64 0) := cell_of_row _ _ _ _ _ _ HQ3.out.1
    have a5 : (w3.alloc (.cells #[.int .i64 1, .int .i64 0, .int .i64 0, .int .i64 8, .int .i64 0, .int .i64 0, .int .i64 0, .int .i64 0, .int .u64 0, .string ⟨#[]⟩] 31)).cell? ⟨w.heap.size, 5, none⟩ = some (.int .i64 0) := cell_of_row _ _ _ _ _ _ HQ3.out.1
    have a6 : (w3.alloc (.cells #[.int .i64 1, .int .i64 0, .int .i64 0, .int .i64 8, .int .i64 0, .int .i64 0, .int .i64 0, .int .i64 0, .int .u64 0, .string ⟨#[]⟩] 31)).cell? ⟨w.heap.size, 6, none⟩ = some (.int .i64 0) := cell_of_row _ _ _ _ _ _ HQ3.out.1
    have a7 : (w3.alloc (.cells #[.int .i64 1, .int .i64 0, .int .i64 0, .int .i64 8, .int .i64 0, .int .i64 0, .int .i64 0, .int .i64 0, .int .u64 0, .string ⟨#[]⟩] 31)).cell? ⟨w.heap.size, 7, none⟩ = some (.int .i64 0) := cell_of_row _ _ _ _ _ _ HQ3.out.1
    have a8 : (w3.alloc (.cells #[.int .i64 1, .int .i64 0, .int .i64 0, .int .i64 8, .int .i64 0, .int .i64 0, .int .i64 0, .int .i64 0, .int .u64 0, .string ⟨#[]⟩] 31)).cell? ⟨w.heap.size, 8, none⟩ = some (.int .u64 0) := cell_of_row _ _ _ _ _ _ HQ3.out.1
    have a9 : (w3.alloc (.cells #[.int .i64 1, .int .i64 0, .int .i64 0, .int .i64 8, .int .i64 0, .int .i64 0, .int .i64 0, .int .i64 0, .int .u64 0, .string ⟨#[]⟩] 31)).cell? ⟨w.heap.size, 9, none⟩ = some (.string ⟨#[]⟩) := cell_of_row _ _ _ _ _ _ HQ3.out.1
    clear hg hgb hB3 HQ HB
    go_wp2_with fail
    refine (psize_any exP ex_wf _).mono ?_
    rintro e w5 ⟨rfl, hg⟩
    rw [ex_size]
    have GE := Lib.hid (grown_trans HQ3.out.2 hg)
    clear hg b0 a0 a1 a2 a3 a4 a5 a6 a7 a8 a9
    go_wp2_with fail
    go_ret
    exact ⟨rfl, GE.out⟩
  · rw [ex_valid] at h; cases h
end Go.Proofs.YtpombmpkccnefaaDoor

/- Rows of the call's own that grow apart. -/
namespace Go.Proofs.YtpombmpkccnefaaDoor
open Go.RowKit Bs
def zv (x : Nat) : Value := .int .i64 (x : Int)
set_option maxRecDepth 100000 in
theorem zv_one {l : List Nat} : ∀ u ∈ l.map zv, u.oneCell' = true := by
  intro u hu
  obtain ⟨x, _, rfl⟩ := List.mem_map.1 hu
  rfl
set_option maxRecDepth 100000 in
/-- append of ints that are read, onto a row of the call's own. -/
theorem wpList_append_ints {w : World} {ops : Array Oper} {rest : List Oper} {o : Oper} {a : Act} {Q : Exit → Act → World → Prop} (hgd : o.guard = none) (s x : Operand)
    (ho : o.op = .call { callee := .builtin .append, args := #[s, x], argTypes := #[22, 22] }) (base : Nat) (v : Value) (n : Nat) (l : List Nat) (hs : a.eval s = v) (hown : w.ownsRow base 3 1 v n (l.map zv))
    (p : Option Addr) (k c : Nat) (r : List Nat) (hx : a.eval x = .slice p k c) (hk : k = r.length) (hn0 : p = none → c = 0 ∧ k = 0) (hnews : ∀ ad, p = some ad → ∀ j u, (r.map zv)[j]? = some u → w.cell? (ad.add j) = some u) (h63 : n + r.length ≤ 100000) (hbase : base ≤ w.heap.size)
    (h : ∀ v' w', w'.ownsRow base 3 1 v' (n + r.length) ((l ++ r).map zv) → w.grownBy w' v.ownBlock → wpList Tryd.prog ops Q rest (a.put o.dst v') w') : wpList Tryd.prog ops Q (o :: rest) a w := by
  obtain ⟨i0, hi, hz0, hz1, hz2⟩ := info_parts info_int
  subst hk
  cases p with
  | none =>
    obtain ⟨rfl, hr⟩ := hn0 rfl
    obtain rfl := List.eq_nil_of_length_eq_zero hr
    refine wpList_append_own_none hgd s x 22 ho base 3 i0 1 Tryd.underlying22 hi v n (l.map zv) hs hown hx ?_
    refine h v w ?_ (grown_refl _ _)
    rw [List.append_nil]; exact hown
  | some ad =>
    refine wpList_append_own w hgd s x 22 ho base 3 i0 (.int .i64 0) 1 8 Tryd.underlying22 hi hz0 hz1 hz2 rfl (by decide) v n (l.map zv) hs hown ad r.length c (r.map zv) hx (by simp) (hnews ad rfl) zv_one (by unfold maxLen; omega) (by omega) hbase ?_
    intro v' w' h1 h2 _
    refine h v' w' ?_ h2
    rw [List.map_append]; exact h1
set_option maxRecDepth 100000 in
theorem tp_new2 {w1 w2 : World} {a b : Nat} (h : Tp w1 a) (k : w1.grownBy w2 (some b)) (hb : a < b) : Tp w2 a := by
  have hlt := h.lt
  obtain ⟨v, n, i, T⟩ := h
  have hb' : w2.heap[a]? = w1.heap[a]? := k.block a hlt (by intro e; have := Option.some.inj e; omega)
  refine ⟨v, n, i, (World.cell?_of_block (a := ⟨a, 0, none⟩) hb').trans T.l, (World.cell?_of_block (a := ⟨a, 1, none⟩) hb').trans T.p, (World.frozen?_of_block (a := ⟨a, 1, none⟩) hb').trans T.fr, ?_, T.le, T.len⟩
  obtain ⟨p, c, hv, hc⟩ := T.ints
  refine ⟨p, c, hv, fun hn => ?_⟩
  obtain ⟨g, off, hp, hg, hx⟩ := hc hn
  exact ⟨g, off, hp, hg, fun i hi => by obtain ⟨x, hx, hcell⟩ := hx i hi; exact ⟨x, hx, k.cell hcell (by intro e; have e2 : g = b := Option.some.inj e; omega)⟩⟩
set_option maxRecDepth 100000 in
theorem own_cap {w : World} {base n g cap : Nat} {e : TypeId} {xs : List Value} (h : w.ownsRow base e 1 (.slice (some ⟨g, 0, none⟩) n cap) n xs) : n ≤ cap ∧ cap ≤ maxLen := by
  rcases h.2 with ⟨h0, _⟩ | ⟨g', cap', cur, hv, _, _, hn, hc, _⟩
  · cases h0
  · injection hv with _ _ h3
    subst h3
    exact ⟨hn, hc⟩
set_option maxRecDepth 100000 in
theorem grown_own_row {w w1 : World} {k : Nat} {b : Option Nat} (h : w.grownBy w1 b) (hk : k < w.heap.size) (hb : some k ≠ b) : w1.heap[k]? = w.heap[k]? := h.block k hk hb
set_option maxRecDepth 100000 in
/-- An order is made: the old row g is read, the new one lies behind. -/
theorem own_apart {w w1 : World} {base base2 g n cap : Nat} {e : TypeId} {v : Value} {m : Nat} {e2 : TypeId} {xs ys : List Value} (h : w.ownsRow base e 1 (.slice (some ⟨g, 0, none⟩) n cap) n xs) (hv : w.ownsRow base2 e2 1 v m ys) (hg : g < base2) (k : w.grownBy w1 v.ownBlock) : w1.ownsRow base e 1 (.slice (some ⟨g, 0, none⟩) n cap) n xs :=
  h.kept k (.inr (own_ne hv hg))
set_option maxRecDepth 100000 in
theorem St.own_grow {a base n : Nat} {W w w1 : World} {e : TypeId} {v : Value} {xs : List Value} (h : St a W w) (ho : w.ownsRow base e 1 v n xs) (hb : W.heap.size ≤ base) (ha : a < W.heap.size) (k : w.grownBy w1 v.ownBlock) : St a W w1 := by
  have g : W.grownBy w1 (some a) := ⟨k.os.trans h.1.os, k.tape.trans h.1.tape, k.output.trans h.1.output, Nat.le_trans h.1.size k.size, fun i hi hia => (k.block i (Nat.lt_of_lt_of_le hi h.1.size) (own_ne ho (by omega))).trans (h.1.block i hi hia)⟩
  refine ⟨g, ?_⟩
  cases hv : v.ownBlock with
  | none => rw [hv] at k; exact h.2.keep k
  | some b =>
    rw [hv] at k
    exact tp_new2 h.2 k (by have := (ho.lt b hv).1; omega)
set_option maxRecDepth 100000 in
theorem St.none_ {a : Nat} {W w w1 : World} (h : St a W w) (g : w.grownBy w1 none) : St a W w1 := ⟨grown_trans h.1 (grown_none g _), h.2.keep g⟩
end Go.Proofs.YtpombmpkccnefaaDoor

/- stack: the chapter's example. -/
namespace Go.Proofs.YtpombmpkccnefaaDoor
open Go.RowKit Bs
def exLs : List Lab := [⟨17, 0, 255⟩, ⟨20, 0, 255⟩]
set_option maxRecDepth 100000 in
theorem exE : encE exLs = 0 := by decide
set_option maxRecDepth 100000 in
theorem exB : encB exLs = [0, 1, 16, 255, 0, 1, 65, 255] := by decide
set_option maxRecDepth 100000 in
theorem exF : encF [1, 4] exP = [1, 0, 1, 16, 255, 0, 1, 65, 255, 144, 0, 0, 0, 0, 0, 0, 109, 76, 0] := by
  unfold encF
  rw [if_neg (by decide), ex_enc]
  decide
set_option maxRecDepth 100000 in
theorem exVF : vfr [1, 4] exP = true := by
  unfold vfr
  rw [ex_valid]
  decide
set_option maxRecDepth 100000 in
theorem exDF : decF [1, 0, 1, 16, 255, 0, 1, 65, 255, 144, 0, 0, 0, 0, 0, 0, 109, 76, 0] = ([1, 4], pcells exP, 0) := by
  rw [← exF]
  exact dec_encF ex_wf exVF
set_option maxRecDepth 100000 in
theorem own_room {w : World} {base c : Nat} {p : Option Addr} {l : List Nat} (h : Own w base p c l) : l.length ≤ c ∧ c ≤ 9223372036854775807 := by
  rcases Nat.eq_zero_or_pos l.length with h0 | h0
  · rcases Joins.ownsRow_forms h.own with ⟨e, _⟩ | ⟨g, cap, e⟩
    · injection e with _ _ e3
      subst e3
      omega
    · injection e with e1 e2 e3
      subst e1
      subst e3
      exact own_cap h.own
  · obtain ⟨g, cap, e⟩ := Joins.ownsRow_form h.own h0
    injection e with e1 e2 e3
    subst e1
    subst e3
    exact own_cap h.own
set_option maxRecDepth 100000 in
theorem exBS : bs [0, 1, 16, 255, 0, 1, 65, 255] = ⟨#[0, 1, 16, 255, 0, 1, 65, 255]⟩ := by rfl
set_option maxRecDepth 100000 in
set_option maxHeartbeats 3200000 in
theorem sawake_any (w : World) (hT : Tb w) :
    Calls Tryd.prog 24 #[] w fun e w' => e = .returned (.bool true) ∧ w.grownBy w' none := by
  have HT := Lib.hid hT
  clear hT
  go_enter Tryd.func24, Tryd.ntmps24
  go_wp2_with fail
  obtain ⟨k1, k2⟩ := sone_box w #[.int .i64 17, .int .i64 0, .int .i64 255, .int .i64 20, .int .i64 0, .int .i64 255] 41
  have hrow : Row (w.alloc (.cells #[.int .i64 17, .int .i64 0, .int .i64 255, .int .i64 20, .int .i64 0, .int .i64 255] 41)) w.heap.size 41 (labsC exLs) := k1
  have C : Calls Tryd.prog 27 #[.slice (some ⟨w.heap.size, 0, none⟩) 2 2] (w.alloc (.cells #[.int .i64 17, .int .i64 0, .int .i64 255, .int .i64 20, .int .i64 0, .int .i64 255] 41)) fun e w' => ELPost exLs _ e w' :=
    sencl_any exLs _ 2 _ _ (hrow.rd 2 2)
  refine C.mono ?_
  clear C hrow k1
  rintro e w1 ⟨p1, c1, rfl, hO, hg⟩
  rw [exB] at hO ⊢
  rw [exE]
  have H1 := Lib.hid (And.intro hO (grown_trans k2 hg))
  have HT1 := Lib.hid (HT.out.keep (grown_trans k2 hg))
  clear hO hg k2
  go_wp2_with fail
  obtain ⟨k1, k2, k3, k4⟩ := two_boxes w1 #[.int .i64 1, .int .i64 4] #[.slice (some ⟨w1.heap.size, 0, none⟩) 2 2, .int .i64 1, .int .i64 0, .int .i64 0, .int .i64 8, .int .i64 0, .int .i64 0, .int .i64 0, .int .i64 0, .int .u64 0, .string ⟨#[]⟩] 3 43
  have G2 : Hid (w.grownBy ((w1.alloc (.cells #[.int .i64 1, .int .i64 4] 3)).alloc (.cells #[.slice (some ⟨w1.heap.size, 0, none⟩) 2 2, .int .i64 1, .int .i64 0, .int .i64 0, .int .i64 8, .int .i64 0, .int .i64 0, .int .i64 0, .int .i64 0, .int .u64 0, .string ⟨#[]⟩] 43)) none) := Lib.hid (grown_trans H1.out.2 k3)
  have HK := Lib.hid (And.intro k1 k2)
  have HT2 := Lib.hid (HT1.out.keep k3)
  have HO2 := Lib.hid (H1.out.1.keep k3)
  clear k1 k2 k3 k4 HT1 H1
  generalize (w1.alloc _).alloc _ = w2 at *
  have hrt : Row w2 w1.heap.size 3 (([1, 4] : List Int).map iv) := HK.out.1
  have hRd : Rd w2 (fun _ => True) (.slice (some ⟨w1.heap.size, 0, none⟩) 2 2) (([1, 4] : List Int).map iv) := ⟨_, 2, rfl, fun _ => ⟨w1.heap.size, 0, rfl, trivial, fun i x hi => by rw [Nat.zero_add]; exact hrt.cell hi⟩⟩
  have HRd := Lib.hid hRd
  have C : Calls Tryd.prog 32 #[.agg #[.slice (some ⟨w1.heap.size, 0, none⟩) 2 2, .int .i64 1, .int .i64 0, .int .i64 0, .int .i64 8, .int .i64 0, .int .i64 0, .int .i64 0, .int .i64 0, .int .u64 0, .string ⟨#[]⟩]] w2 fun e w' => EFPost [1, 4] exP w2 e w' :=
    sencf_any [1, 4] exP ex_wf (some ⟨w1.heap.size, 0, none⟩) 2 (by decide) (by omega) _ w2 HT2.out hRd
  clear hrt hRd
  refine C.mono ?_
  clear C
  intro e w3 hE
  rcases hE with ⟨-, p3, c3, rfl, hO3, hg3⟩ | ⟨hbad, _⟩
  case inr => rw [exVF] at hbad; cases hbad
  rw [exF] at hO3 ⊢
  have G3 := Lib.hid (grown_trans G2.out hg3)
  have HB3 := Lib.hid (kept_row HK.out.2 hg3 (by simp))
  have HO4 := Lib.hid (HO2.out.keep hg3)
  have HRd3 := Lib.hid (HRd.out.keep hg3)
  have HO3 := Lib.hid hO3
  clear hO3 hg3 HO2 HRd HK HT2 G2
  go_wp2_with fail
  have D : Calls Tryd.prog 34 #[.slice p3 19 c3] w3 fun e w' => DFPost [1, 0, 1, 16, 255, 0, 1, 65, 255, 144, 0, 0, 0, 0, 0, 0, 109, 76, 0] w3 e w' :=
    sdecf_any _ HO3.out.by_ p3 c3 (own_room HO3.out).1 (own_room HO3.out).2 _ w3 HO3.out.rd
  refine D.mono ?_
  clear D
  rintro e w4 ⟨p4, c4, rfl, hR4, hl4, hm4, hp4, hg4⟩
  rw [exDF] at hR4 hl4 ⊢
  simp only at hR4 hl4 ⊢
  have hag : #[Value.slice p4 ([1, 4] : List Int).length c4] ++ pcells exP = #[.slice p4 2 c4, .int .i64 1, .int .i64 0, .int .i64 0, .int .i64 8, .int .i64 0, .int .i64 0, .int .i64 0, .int .i64 0, .int .u64 0, .string ⟨#[]⟩] := rfl
  rw [hag]
  have G4 := Lib.hid (grown_trans G3.out hg4)
  have HB4 := Lib.hid (kept_row HB3.out hg4 (by simp))
  have HO5 := Lib.hid (HO4.out.keep hg4)
  have HRd4 := Lib.hid (HRd3.out.keep hg4)
  have HR4 := Lib.hid hR4
  clear hR4 hg4 HO4 HRd3 HB3 G3 hag HO3 hl4 hm4 hp4
  go_upto_region 5 with fail
  obtain ⟨k1, k2⟩ := sone_box w4 #[.slice p4 2 c4, .int .i64 1, .int .i64 0, .int .i64 0, .int .i64 8, .int .i64 0, .int .i64 0, .int .i64 0, .int .i64 0, .int .u64 0, .string ⟨#[]⟩] 43
  obtain ⟨a0, a1, a2, a3, a4, a5, a6, a7, a8, a9, a10⟩ := g_facts (n0 := 1) (n1 := 0) (n2 := 0) (n3 := 8) (n4 := 0) (n5 := 0) (n6 := 0) (n7 := 0) (n8 := 0) (s9 := ⟨#[]⟩) (kept_row HB4.out k2 (by simp))
  obtain ⟨b0, b1, b2, b3, b4, b5, b6, b7, b8, b9, b10⟩ := g_facts (n0 := 1) (n1 := 0) (n2 := 0) (n3 := 8) (n4 := 0) (n5 := 0) (n6 := 0) (n7 := 0) (n8 := 0) (s9 := ⟨#[]⟩) k1
  have hO := HO5.out.keep k2
  have E := conv_nv hO.by_ rfl hO.rd hO.pc
  rw [exBS] at E
  have G5 := Lib.hid (grown_trans G4.out k2)
  have HA := Lib.hid (HRd4.out.keep k2)
  have HB := Lib.hid (HR4.out.keep k2)
  clear k1 k2 hO HO5 HB4 HRd4 HR4 G4
  generalize w4.alloc _ = w5 at *
  have E2 : (convert 23 9 (.slice p1 8 c1)).run Tryd.prog w5 = .ok (.string ⟨#[0, 1, 16, 255, 0, 1, 65, 255]⟩) w5 := E
  clear E
  go_wp2_with (go_at_call 35; refine (rsame_any [1, 4] _ _ _ _ _ _ _ _ _ _ _ _ _ _ _ _ w5 HA.out HB.out (by decide)).mono ?_; rintro e w' ⟨rfl, hg⟩; have G := Lib.hid hg; clear hg)
  go_ret
  exact ⟨rfl, grown_trans G5.out G.out⟩
end Go.Proofs.YtpombmpkccnefaaDoor

/- The reference's DecodeLabels. -/
namespace Go.Proofs.YtpombmpkccnefaaDoor
open Go.RowKit Bs
set_option maxRecDepth 100000 in
theorem i64_or_nat (a b : Nat) (ha : a < 4294967296) (hb : b < 4294967296) : bits .or .i64 (a : Int) (b : Int) = ((a ||| b : Nat) : Int) := by
  have hx : a ||| b < 2 ^ 32 := Nat.or_lt_two_pow (by omega) (by omega)
  show IntKind.i64.wrap ((BitVec.ofInt 64 (a : Int) ||| BitVec.ofInt 64 (b : Int)).toNat : Int) = _
  rw [BitVec.toNat_or, ofInt_u64 a (by omega), ofInt_u64 b (by omega)]
  exact IntWalk.i64_in _ (by omega)
set_option maxRecDepth 100000 in
theorem labN_int (n : Nat) : labN n = ⟨(n : Int) / 4096, (n : Int) / 512 % 8, (n : Int) % 256⟩ := by
  unfold labN
  simp
set_option maxRecDepth 100000 in
theorem botN_int (n : Nat) : botN n = decide ((n : Int) / 256 % 2 = 1) := by
  unfold botN
  rw [Bool.eq_iff_iff, beq_iff_eq, decide_eq_true_eq]
  omega
set_option maxRecDepth 100000 in
theorem word_ori {a b c d : Nat} (ha : a < 256) (hb : b < 256) (hc : c < 256) (hd : d < 256) :
    bits .or .i64 (bits .or .i64 (bits .or .i64 (((a : Nat) : Int) * 16777216) ((b : Nat) * 65536)) ((c : Nat) * 256)) (d : Nat) = ((a * 16777216 + b * 65536 + c * 256 + d : Nat) : Int) := by
  have e1 : ((a : Nat) : Int) * 16777216 = ((a * 16777216 : Nat) : Int) := by omega
  have e2 : ((b : Nat) : Int) * 65536 = ((b * 65536 : Nat) : Int) := by omega
  have e3 : ((c : Nat) : Int) * 256 = ((c * 256 : Nat) : Int) := by omega
  have o1 : a * 16777216 ||| b * 65536 = a * 16777216 + b * 65536 := or_join (k := 24) (by omega)
  have o2 : (a * 16777216 + b * 65536) ||| c * 256 = a * 16777216 + b * 65536 + c * 256 := by
    have := or_join (a := a * 256 + b) (b := c * 256) (k := 16) (by omega)
    have e : (a * 256 + b) * 2 ^ 16 = a * 16777216 + b * 65536 := by omega
    rw [e] at this
    exact this
  have o3 : (a * 16777216 + b * 65536 + c * 256) ||| d = a * 16777216 + b * 65536 + c * 256 + d := by
    have := or_join (a := a * 65536 + b * 256 + c) (b := d) (k := 8) (by omega)
    have e : (a * 65536 + b * 256 + c) * 2 ^ 8 = a * 16777216 + b * 65536 + c * 256 := by omega
    rw [e] at this
    exact this
  rw [e1, e2, e3, i64_or_nat _ _ (by omega) (by omega), o1, i64_or_nat _ _ (by omega) (by omega), o2, i64_or_nat _ _ (by omega) (by omega), o3]
set_option maxRecDepth 100000 in
set_option maxHeartbeats 3200000 in
theorem rdecl_any (L : List Nat) (hL : By L) (p : Option Addr) (c : Nat) (hc : L.length ≤ c) (hcm : c ≤ 9223372036854775807) (q : Nat → Prop) (w : World) (hR : Rd w q (.slice p L.length c) (L.map nv)) :
    Calls Tryd.prog 31 #[.slice p L.length c] w fun e w' => DLPost L w e w' := by
  obtain ⟨i0, hi, hz0, hz1, hz2⟩ := info_parts info_lab
  have HR := Lib.hid hR
  have HL := Lib.hid hL
  have HC := Lib.hid (And.intro hc hcm)
  clear hR hL hc hcm
  have HM : Hid (decM L = decGo L 24 0) := Lib.hid rfl
  go_enter Tryd.func31, Tryd.ntmps31
  go_wp2_with fail
  go_loopw [5, 6] (fun v a wr => ∃ k : Nat, k < 24 ∧ a = .int .i64 ((4 * k : Nat) : Int) ∧ OwnL wr w.heap.size v (labsN L k) ∧ w.grownBy wr none ∧ decM L = decGo L (24 - k) k ∧ ∃ p2 c2, v = .slice p2 k c2) (fun _ a _ => 24 - (intOf a).toNat / 4)
  case atStart => exact ⟨0, by omega, rfl, World.ownsRow_nil _ _ _ _, grown_refl _ _, HM.out, none, 0, rfl⟩
  case round =>
    obtain ⟨k, hk, rfl, hO, hG, hM, p2, c2, rfl⟩ := hrel
    have HO := Lib.hid hO
    have HG := Lib.hid hG
    have HM2 := Lib.hid hM
    clear hO hG hM HM
    by_cases hs : L.length < 4 * k + 4
    · go_wp2_with fail
      go_ret3
      exact dl_err (by rw [HM2.out, show 24 - k = (23 - k) + 1 by omega, decGo, if_pos hs]) HG.out
    · obtain ⟨b, off, rfl, hb, hcc⟩ := rd_cells (HR.out.keep HG.out) (by omega)
      have hle : 4 * k ≤ L.length := by omega
      have hlc := HC.out.1
      have hlm := Nat.le_trans HC.out.1 HC.out.2
      have c0 := hcc (4 * k) (by omega)
      have c1 := hcc (4 * k + 1) (by omega)
      have c2' := hcc (4 * k + 2) (by omega)
      have c3 := hcc (4 * k + 3) (by omega)
      have y0 := HL.out.at_ (j := 4 * k) (by omega)
      have y1 := HL.out.at_ (j := 4 * k + 1) (by omega)
      have y2 := HL.out.at_ (j := 4 * k + 2) (by omega)
      have y3 := HL.out.at_ (j := 4 * k + 3) (by omega)
      have HW : Hid (word4 L k = L.getD (4 * k) 0 * 16777216 + L.getD (4 * k + 1) 0 * 65536 + L.getD (4 * k + 2) 0 * 256 + L.getD (4 * k + 3) 0) := Lib.hid rfl
      have HWO := Lib.hid (word_ori y0 y1 y2 y3)
      have HY := Lib.hid (word4_lt HL.out k)
      clear hcc
      generalize L.getD (4 * k) 0 = x0 at *
      generalize L.getD (4 * k + 1) 0 = x1 at *
      generalize L.getD (4 * k + 2) 0 = x2 at *
      generalize L.getD (4 * k + 3) 0 = x3 at *
      have l0 : 4 * k < L.length := by omega
      have l1 : 4 * k + 1 < L.length := by omega
      have l2 : 4 * k + 2 < L.length := by omega
      have l3 : 4 * k + 3 < L.length := by omega
      go_wp2_with fail
      go_region
      rw [HWO.out, ← HW.out]
      obtain ⟨n, hn⟩ : ∃ n, word4 L k = n := ⟨_, rfl⟩
      have hY := HY.out
      rw [hn] at hY ⊢
      have HN := Lib.hid hn
      have HO1 : Hid (OwnL wr.drew w.heap.size (.slice p2 k c2) (labsN L k)) := Lib.hid HO.out.drew
      have HG1 := hid_drew HG
      clear HO HG hn HY HW HWO c0 c1 c2' c3 y0 y1 y2 y3
      generalize wr.drew = w1 at *
      go_wp2_with (at_builtin; refine wpList_append_own _ rfl _ _ 49 rfl w.heap.size 41 i0 (.agg #[.int .i64 0, .int .i64 0, .int .i64 0]) 3 24 Tryd.underlying49 hi hz0 hz1 hz2 rfl (by decide) (.slice p2 k c2) (labsN L k).length (labsC (labsN L k)) rfl (HO1.out.alloc _) ⟨w1.heap.size, 0, none⟩ 1 1 [.int .i64 ((n : Int) / 4096), .int .i64 ((n : Int) / 512 % 8), .int .i64 ((n : Int) % 256)] rfl rfl ?c1 ?c2 ?c3 ?c4 ?c5 ?_)
      case c1 => exact cells3 _ _ _ _ _
      case c2 => intro u hu; simp at hu; rcases hu with rfl | rfl | rfl <;> rfl
      case c3 => rw [labsN_len]; unfold maxLen; omega
      case c4 => rw [labsN_len]; omega
      case c5 => have := HG1.out.size; simp; omega
      intro v' w2 hown2 hg2 _
      obtain ⟨O2, G2⟩ := dl_step (l := ⟨(n : Int) / 4096, (n : Int) / 512 % 8, (n : Int) % 256⟩) HG1.out HO1.out (by rw [HN.out, labN_int]) hg2 hown2
      have HO2 := Lib.hid O2
      have HG2 := Lib.hid G2
      clear hown2 hg2 O2 G2 HO1 HG1
      have HM3 : Hid (decM L = if botN n = true then (k + 1, 0) else decGo L (23 - k) (k + 1)) := by
        refine Lib.hid ?_
        rw [HM2.out, show 24 - k = (23 - k) + 1 by omega, decGo, if_neg hs, HN.out]
      have HBN := Lib.hid (botN_int n)
      clear HM2
      by_cases hz : (n : Int) / 256 % 2 = 1
      · go_wp2_with fail
        go_ret3
        have e : decM L = (k + 1, 0) := by rw [HM3.out, HBN.out, if_pos (by simpa using hz)]
        have e2 : 4 * (k : Int) + 4 = ((4 * (k + 1) : Nat) : Int) := by omega
        refine ⟨v', ?_, ?_, HG2.out⟩
        · show Ending.returned (.tuple #[v', .int .i64 (4 * (k : Int) + 4), .int .i64 0]) = _
          rw [e2, e]
        · rw [e]
          exact HO2.out
      · have e : decM L = decGo L (23 - k) (k + 1) := by rw [HM3.out, HBN.out, if_neg (by simpa using hz)]
        have HE := Lib.hid e
        obtain ⟨g, cap, hv⟩ := Joins.ownsRow_form HO2.out (by rw [labsN_len]; omega)
        rw [labsN_len] at hv
        subst hv
        clear e
        by_cases h24 : k + 1 = 24
        · obtain rfl : k = 23 := by omega
          go_wp2_with fail
          go_ret3
          exact dl_err (by rw [HE.out]; rfl) HG2.out
        · have h24' : (k : Int) + 1 ≠ 24 := by omega
          go_wp2_with fail
          refine ⟨⟨k + 1, by omega, congrArg _ (by omega), HO2.out, HG2.out, by rw [HE.out, show 24 - (k + 1) = 23 - k by omega], _, _, rfl⟩, ?_⟩
          simp only [intOf]
          omega
end Go.Proofs.YtpombmpkccnefaaDoor

/- The tape's texts. -/
namespace Go.Proofs.YtpombmpkccnefaaDoor
open Go.RowKit Bs
def bval (x : UInt8) : Value := .int .u8 (x.toNat : Int)
set_option maxRecDepth 100000 in
theorem conv_bytes {w : World} {q : Nat → Prop} {v : Value} {l : List UInt8} (hR : Rd w q v (l.map bval)) (h0 : l = [] → v = .slice none 0 0) :
    (convert 23 9 v).run Tryd.prog w = .ok (.string ⟨l.toArray⟩) w := by
  by_cases hl : l = []
  · rw [h0 hl, hl]
    exact Lib.run_convert_nil_bytes (P := Tryd.prog) w 23 9 5 0 Tryd.underlying23 Tryd.underlying5 Tryd.underlying9
  · obtain ⟨p, c, rfl, hc⟩ := hR
    obtain ⟨b, off, rfl, _, hcell⟩ := hc (by simpa using hl)
    rw [List.length_map]
    refine run_convert_bytes_back (P := Tryd.prog) w 23 9 5 ⟨b, off, none⟩ c l Tryd.underlying23 Tryd.underlying5 Tryd.underlying9 (fun j hj => ?_)
    have hadd : (⟨b, off, none⟩ : Addr).add j = ⟨b, off + j, none⟩ := by unfold Addr.add; split <;> simp_all
    rw [hadd]
    exact hcell j _ (by rw [List.getElem?_map, List.getElem?_eq_getElem hj]; rfl)
/-- A drawn text. -/
def TextRel (a most : Nat) (w : World) (v : Value) (k : Nat) (wr : World) : Prop :=
  ∃ l : List UInt8, l.length + k ≤ most ∧ wr.ownsRow w.heap.size 5 1 v l.length (l.map bval) ∧ (l = [] → v = .slice none 0 0) ∧ St a w wr
set_option maxRecDepth 100000 in
theorem TextRel.open_ {a most k : Nat} {w wr : World} {v : Value} (h : TextRel a most w v k wr) : ∃ l : List UInt8, l.length + k ≤ most ∧ wr.ownsRow w.heap.size 5 1 v l.length (l.map bval) ∧ (l = [] → v = .slice none 0 0) ∧ St a w wr := h
def TextPost (a most : Nat) (w : World) (e : Ending) (w' : World) : Prop := ∃ s : ByteArray, e = .returned (.string s) ∧ s.size ≤ most ∧ St a w w'
set_option maxRecDepth 100000 in
set_option maxHeartbeats 1600000 in
theorem text_any (a : Nat) (most : Nat) (hm : most ≤ 1000) (w : World) (hT : Tp w a) :
    Calls Tryd.prog 52 #[.pointer (some ⟨a, 0, none⟩), .int .i64 (most : Int)] w fun e w' => TextPost a most w e w' := by
  obtain ⟨i0, hi, hz0, hz1, hz2⟩ := info_parts info_u8
  have ha := hT.lt
  go_enter Tryd.func52, Tryd.ntmps52
  go_wp2_with fail
  refine (range_any a 0 (most : Int) (by omega) (by omega) (by omega) (by omega) _ hT).mono ?_
  rintro e w1 ⟨r, rfl, hr, hs1⟩
  obtain ⟨K, rfl⟩ := Int.eq_ofNat_of_zero_le hr.1
  have hK : K ≤ most := by unfold RangeOf at hr; omega
  have L0 : Hid (TextRel a most w (.slice none 0 0) K w1) :=
    Lib.hid ⟨[], by simpa using hK, World.ownsRow_nil _ _ _ _, fun _ => rfl, hs1⟩
  clear hr hs1
  go_wp2_with fail
  go_loopw [5, 6] (fun v i wr => ∃ k : Nat, k ≤ most ∧ i = .int .i64 (k : Int) ∧ TextRel a most w v k wr) (fun _ i _ => (intOf i).toNat)
  case atStart => exact ⟨K, hK, rfl, L0.out⟩
  case round =>
    obtain ⟨k, hk, rfl, hL⟩ := hrel
    obtain ⟨l, hlk, hown0, hnil, hs⟩ := hL.open_
    clear hL L0
    by_cases hk1 : 1 ≤ k
    · clear hnil
      go_wp2_with fail
      refine (next_any a 256 (by unfold I64; omega) _ hs.2).mono ?_
      rintro e w2 ⟨x, rfl, hx, hs2⟩
      obtain ⟨X, rfl⟩ := Int.eq_ofNat_of_zero_le hx.1
      have hX : X < 256 := by have := hx.2.1 (by omega); omega
      have hown := own_kept ha hown0 hs2.1
      have HS := Lib.hid (hs.trans hs2)
      have HO := Lib.hid hown
      have hsz := HS.out.1.size
      have hll : l.length ≤ 1000 := by omega
      have HLK := Lib.hid hlk
      clear hx hs hs2 hown0
      go_wp2_with (at_builtin; refine wpList_append_own _ rfl _ _ 23 rfl w.heap.size 5 i0 (.int .u8 0) 1 1 Tryd.underlying23 hi hz0 hz1 hz2 rfl (by decide) _ _ _ rfl (hown.alloc _) ⟨w2.heap.size, 0, none⟩ 1 1 [.int .u8 (X : Int)] rfl rfl ?c1 ?c2 ?c3 ?c4 ?c5 ?_)
      case c1 => exact cell_one _ _ _
      case c2 => intro u hu; simp at hu; subst hu; rfl
      case c3 => unfold maxLen; omega
      case c4 => omega
      case c5 => simp; omega
      intro v' w3 hown' hg _
      have R : Hid (TextRel a most w v' (k - 1) w3) := by
        have e1 := st_append HS.out ha HO.out hg
        have ex : bval (UInt8.ofNat X) = .int .u8 (X : Int) := by
          show Value.int .u8 (((UInt8.ofNat X).toNat : Nat) : Int) = _
          rw [UInt8.toNat_ofNat', Nat.mod_eq_of_lt hX]
        exact Lib.hid ⟨l ++ [UInt8.ofNat X], by rw [List.length_append]; have := HLK.out; simp; omega, by rw [List.length_append, List.map_append, List.map_cons, List.map_nil, ex]; exact hown', fun e => by simp at e, e1⟩
      clear hown' hg hown
      go_wp2_with fail
      go_roundw
      case rel => exact ⟨k - 1, by omega, by congr 1; omega, R.out⟩
      case measure => simp [intOf]; omega
    · obtain rfl : k = 0 := by omega
      have hconv := conv_bytes (rd_of_own hown0) hnil
      have HS := Lib.hid hs
      have HL := Lib.hid hlk
      clear hown0 hnil hs hlk
      go_wp2_with fail
      go_ret
      exact ⟨_, rfl, by have := HL.out; show l.toArray.size ≤ most; simp; omega, HS.out⟩
end Go.Proofs.YtpombmpkccnefaaDoor

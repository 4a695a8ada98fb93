/- Parts of the proof, packed: StDecF, IoOrder, StTFrame. -/
import Derived.Test.YtpabfjhjehjebaaDoorSDec10
import Derived.Test.YtpabfjhjehjebaaDoorSDec9
import Derived.Test.YtpabfjhjehjebaaDoorSDec7
/- stack: DecodeFrame. -/
namespace Go.Proofs.YtpabfjhjehjebaaDoor
open Go.RowKit Bs
/-- A zero frame's cells. -/
def zfr : Array Value := #[.slice none 0 0, .int .i64 0, .int .i64 0, .int .i64 0, .int .i64 0, .int .i64 0, .int .i64 0, .int .i64 0, .int .i64 0, .int .u64 0, .string ⟨#[]⟩]
/-- What DecodeFrame returns. -/
def DFPost (L : List Nat) (w : World) (e : Ending) (w' : World) : Prop :=
  ∃ p c, e = .returned (.tuple #[.agg (#[.slice p (decF L).1.length c] ++ (decF L).2.1), .int .i64 (decF L).2.2]) ∧ Rd w' (w.heap.size ≤ ·) (.slice p (decF L).1.length c) ((decF L).1.map iv) ∧ (decF L).1.length ≤ c ∧ c ≤ 9223372036854775807 ∧ (p = none → c = 0) ∧ w.grownBy w' none
set_option maxRecDepth 100000 in
theorem df_err {L : List Nat} {w w' : World} {x : Int} (h : decF L = ([], zpk, x)) (g : w.grownBy w' none) : DFPost L w (.returned (.tuple #[.agg zfr, .int .i64 x])) w' := by
  refine ⟨none, 0, by rw [h]; rfl, ?_, by rw [h]; exact Nat.le_refl _, by omega, fun _ => rfl, g⟩
  rw [h]
  exact Rd.nil_ _ _ _ _
set_option maxRecDepth 100000 in
theorem frame_size : (Tryd.prog.info? 33).map (·.size) = some 11 := by kernel_rfl
set_option maxRecDepth 100000 in
theorem res_frame_err {fn : Func} {p u : Tmp} (h : fn.results = #[.cell p 33, .tmp u]) (tmps : Array Value) (w : World) (g : Nat) (xs : Array Value) (hp : tmps.getD p undef = .pointer (some ⟨g, 0, none⟩)) (hn : xs.size = 11) (hg : w.heap[g]? = some (.cells xs 33 (0, 0))) :
    (results fn tmps).run Tryd.prog w = .ok (.tuple #[.agg xs, tmps.getD u undef]) w := by
  have hp' : tmps[p]?.getD undef = .pointer (some ⟨g, 0, none⟩) := by simpa using hp
  rw [results_cell_tmp h]
  simp [hp', asAddr, run_loadVar_row w g _ _ _ _ _ hg Tryd.underlying33 rfl (by rw [hn]; exact frame_size), Result.andThen]
/-- A frame is stored. -/
def fput (w : World) (h : Nat) (v v0 v1 v2 v3 v4 v5 v6 v7 v8 v9 : Value) : World :=
  (((((((((((w.setCell ⟨h, 0, none⟩ v).setCell ⟨h, 1, none⟩ v0).setCell ⟨h, 2, none⟩ v1).setCell ⟨h, 3, none⟩ v2).setCell ⟨h, 4, none⟩ v3).setCell ⟨h, 5, none⟩ v4).setCell ⟨h, 6, none⟩ v5).setCell ⟨h, 7, none⟩ v6).setCell ⟨h, 8, none⟩ v7).setCell ⟨h, 9, none⟩ v8).setCell ⟨h, 10, none⟩ v9)
set_option maxRecDepth 100000 in
theorem fput_row {w : World} {h : Nat} (v v0 v1 v2 v3 v4 v5 v6 v7 v8 v9 : Value) (hr : Row w h 33 zfr.toList) : Row (fput w h v v0 v1 v2 v3 v4 v5 v6 v7 v8 v9) h 33 [v, v0, v1, v2, v3, v4, v5, v6, v7, v8, v9] :=
  ((((((((((hr.set 0 v).set 1 v0).set 2 v1).set 3 v2).set 4 v3).set 5 v4).set 6 v5).set 7 v6).set 8 v7).set 9 v8).set 10 v9
set_option maxRecDepth 100000 in
theorem fput_grown (w : World) (h : Nat) (v v0 v1 v2 v3 v4 v5 v6 v7 v8 v9 : Value) : w.grownBy (fput w h v v0 v1 v2 v3 v4 v5 v6 v7 v8 v9) (some h) := by
  unfold fput
  have S : ∀ (u : World) (j : Nat) (x : Value), u.grownBy (u.setCell ⟨h, j, none⟩ x) (some h) := fun u j x => grown_setCell u ⟨h, j, none⟩ x
  exact grown_trans (grown_trans (grown_trans (grown_trans (grown_trans (grown_trans (grown_trans (grown_trans (grown_trans (grown_trans (S _ _ _) (S _ _ _)) (S _ _ _)) (S _ _ _)) (S _ _ _)) (S _ _ _)) (S _ _ _)) (S _ _ _)) (S _ _ _)) (S _ _ _)) (S _ _ _)
set_option maxRecDepth 100000 in
theorem zfr_facts {w : World} {b : Nat} (h : Row w b 33 zfr.toList) :
    (w.cell? ⟨b, 0, none⟩ = some (.slice none 0 0) ∧ w.cell? ⟨b, 1, none⟩ = some (.int .i64 0) ∧ w.cell? ⟨b, 2, none⟩ = some (.int .i64 0) ∧ w.cell? ⟨b, 3, none⟩ = some (.int .i64 0) ∧ w.cell? ⟨b, 4, none⟩ = some (.int .i64 0) ∧ w.cell? ⟨b, 5, none⟩ = some (.int .i64 0) ∧ w.cell? ⟨b, 6, none⟩ = some (.int .i64 0) ∧ w.cell? ⟨b, 7, none⟩ = some (.int .i64 0) ∧ w.cell? ⟨b, 8, none⟩ = some (.int .i64 0) ∧ w.cell? ⟨b, 9, none⟩ = some (.int .u64 0) ∧ w.cell? ⟨b, 10, none⟩ = some (.string ⟨#[]⟩)) ∧
    (w.frozen? ⟨b, 0, none⟩ = false ∧ w.frozen? ⟨b, 1, none⟩ = false ∧ w.frozen? ⟨b, 2, none⟩ = false ∧ w.frozen? ⟨b, 3, none⟩ = false ∧ w.frozen? ⟨b, 4, none⟩ = false ∧ w.frozen? ⟨b, 5, none⟩ = false ∧ w.frozen? ⟨b, 6, none⟩ = false ∧ w.frozen? ⟨b, 7, none⟩ = false ∧ w.frozen? ⟨b, 8, none⟩ = false ∧ w.frozen? ⟨b, 9, none⟩ = false ∧ w.frozen? ⟨b, 10, none⟩ = false) :=
  ⟨⟨h.cell rfl, h.cell rfl, h.cell rfl, h.cell rfl, h.cell rfl, h.cell rfl, h.cell rfl, h.cell rfl, h.cell rfl, h.cell rfl, h.cell rfl⟩, h.frozen _, h.frozen _, h.frozen _, h.frozen _, h.frozen _, h.frozen _, h.frozen _, h.frozen _, h.frozen _, h.frozen _, h.frozen _⟩
/-- While a frame is decoded: the result's block is zero still. -/
structure DF (W : World) (w : World) : Prop where
  row : Row w W.heap.size 33 zfr.toList
  gr : W.grownBy w none
set_option maxRecDepth 100000 in
theorem DF.keep {W w w' : World} (h : DF W w) (g : w.grownBy w' none) : DF W w' := ⟨h.row.kept g (by simp), grown_trans h.gr g⟩
set_option maxRecDepth 100000 in
theorem DF.err {L : List Nat} {W w : World} {x : Int} (h : DF W w) (hx : decF L = ([], zpk, x)) :
    Row (fput w W.heap.size (.slice none 0 0) (.int .i64 0) (.int .i64 0) (.int .i64 0) (.int .i64 0) (.int .i64 0) (.int .i64 0) (.int .i64 0) (.int .i64 0) (.int .u64 0) (.string ⟨#[]⟩)) W.heap.size 33 zfr.toList ∧
      DFPost L W (.returned (.tuple #[.agg zfr, .int .i64 x])) (fput w W.heap.size (.slice none 0 0) (.int .i64 0) (.int .i64 0) (.int .i64 0) (.int .i64 0) (.int .i64 0) (.int .i64 0) (.int .i64 0) (.int .i64 0) (.int .u64 0) (.string ⟨#[]⟩)) :=
  ⟨fput_row _ _ _ _ _ _ _ _ _ _ _ h.row, df_err hx (grown_new h.gr (fput_grown _ _ _ _ _ _ _ _ _ _ _ _ _) (Nat.le_refl _))⟩
set_option maxRecDepth 100000 in
theorem dec_form3 (l : List Nat) : ∃ (m0 m1 m2 m3 m4 m5 m6 m7 m8 : Int) (s9 : ByteArray), (decV l).1 = #[.int .i64 m0, .int .i64 m1, .int .i64 m2, .int .i64 m3, .int .i64 m4, .int .i64 m5, .int .i64 m6, .int .i64 m7, .int .u64 m8, .string s9] := by
  unfold decV
  split
  · exact ⟨_, _, _, _, _, _, _, _, _, _, rfl⟩
  · split
    · exact ⟨_, _, _, _, _, _, _, _, _, _, rfl⟩
    · split
      · exact ⟨_, _, _, _, _, _, _, _, _, _, rfl⟩
      · split
        · exact ⟨_, _, _, _, _, _, _, _, _, _, rfl⟩
        · split
          · exact ⟨_, _, _, _, _, _, _, _, _, _, rfl⟩
          · unfold restV
            split
            · exact ⟨_, _, _, _, _, _, _, _, _, _, rfl⟩
            · exact ⟨_, _, _, _, _, _, _, _, _, _, rfl⟩
/-- What the last part of a frame's reading needs. -/
structure DR2 (L : List Nat) (W : World) (r : List Int) (B : List Nat) (p1 p2 : Option Addr) (c1 c2 : Nat) (w : World) : Prop where
  dec : decF L = finF r B
  by_ : By B
  le : B.length ≤ c2
  rd : Rd w (fun _ => True) (.slice p2 B.length c2) (B.map nv)
  rt : Rd w (W.heap.size < ·) (.slice p1 r.length c1) (r.map iv)
  rle : r.length ≤ c1
  cmax : c1 ≤ 9223372036854775807
  pc : p1 = none → c1 = 0
  df : DF W w
set_option maxRecDepth 100000 in
theorem rd_drop2 {w : World} {q : Nat → Prop} {p : Option Addr} {n c : Nat} {B : List Nat} (h : Rd w q (.slice p n c) (B.map nv)) (k c2 : Nat) : Rd w q (.slice (p.map (fun x => x.add k)) (B.drop k).length c2) ((B.drop k).map nv) := by
  by_cases hne : (B.drop k).length = 0
  · have e := List.eq_nil_of_length_eq_zero hne
    rw [e]
    exact Rd.nil_ _ _ _ _
  · obtain ⟨b, off, rfl, _⟩ := rd_cells h (by rw [List.length_drop] at hne; omega)
    show Rd w q (.slice (some ((⟨b, off, none⟩ : Addr).add k)) _ c2) _
    rw [add_plain]
    exact rd_drop h k c2
set_option maxRecDepth 100000 in
theorem rd_nil2 {w : World} {q : Nat → Prop} {p : Option Addr} {n c : Nat} {B : List Nat} (h : B.length = 0) (hn : n = B.length) : Rd w q (.slice p n c) (B.map nv) := by
  have e := List.eq_nil_of_length_eq_zero h
  subst e
  subst hn
  exact Rd.nil_ _ _ _ _
set_option maxRecDepth 100000 in
set_option maxHeartbeats 3200000 in
theorem sdecf_any (L : List Nat) (hL : By L) (p : Option Addr) (c : Nat) (hc : L.length ≤ c) (hcm : c ≤ 9223372036854775807) (q : Nat → Prop) (w : World) (hR : Rd w q (.slice p L.length c) (L.map nv)) :
    Calls Tryd.prog 9 #[.slice p L.length c] w fun e w' => DFPost L w e w' := by
  obtain ⟨k1, k2⟩ := sone_box w zfr 33
  have HD : Hid (DF w (w.alloc (.cells zfr 33))) := Lib.hid ⟨k1, k2⟩
  have HR := Lib.hid (hR.keep k2)
  have HL := Lib.hid hL
  have HC := Lib.hid (And.intro hc hcm)
  have hlm := Nat.le_trans hc hcm
  unfold zfr at HD HR
  clear k1 k2 hR hL hcm
  go_enter Tryd.func9, Tryd.ntmps9
  go_upto_region 1 with fail
  generalize w.alloc _ = wa at *
  obtain ⟨⟨d0, d1, d2, d3, d4, d5, d6, d7, d8, d9, d10⟩, f0, f1, f2, f3, f4, f5, f6, f7, f8, f9, f10⟩ := zfr_facts HD.out.row
  by_cases h0 : L.length = 0
  · have HE := Lib.hid (HD.out.err (L := L) (x := 20) (by unfold decF; rw [if_pos h0]))
    go_wp2_with fail
    refine bodyPost_ret (res_frame_err rfl _ _ w.heap.size zfr rfl rfl HE.out.1) rfl ?_
    exact HE.out.2
  · obtain ⟨b, off, rfl, hq, hcc⟩ := rd_cells HR.out (by omega)
    have c0 := hcc 0 (by omega)
    rw [Nat.add_zero] at c0
    have hpos : 0 < L.length := by omega
    have HF : Hid (decF L = decH (L.getD 0 0) (L.drop 1)) := Lib.hid (by unfold decF; rw [if_neg h0])
    have hx9 := HL.out.at_ hpos
    clear hcc
    generalize L.getD 0 0 = x at *
    by_cases hx : 1 < x
    · have HE := Lib.hid (HD.out.err (L := L) (x := 22) (by rw [HF.out]; unfold decH; rw [if_pos hx]))
      have hx0 : ((x : Int) != 0) = true := by simp; omega
      have hx1 : ((x : Int) != 1) = true := by simp; omega
      go_wp2_with fail
      refine bodyPost_ret (res_frame_err rfl _ _ w.heap.size zfr rfl rfl HE.out.1) rfl ?_
      exact HE.out.2
    · have hx01 : x = 0 ∨ x = 1 := by omega
      have hl0 : ((L.length : Int) == 0) = false := by simp; intro e; exact h0 (by rw [e]; rfl)
      go_upto_region 3 with fail
      first | rw [hl0] | skip
      go_cut [24] from 15 to 24 (fun bb wx => bb = .bool false ∧ wx = wa)
      case first =>
        rcases hx01 with rfl | rfl
        · have c0' : wa.cell? ⟨b, off, none⟩ = some (.int .u8 0) := c0
          clear c0
          go_wp2_with fail
          go_meet
          exact ⟨rfl, rfl⟩
        · have c0' : wa.cell? ⟨b, off, none⟩ = some (.int .u8 1) := c0
          clear c0
          go_wp2_with fail
          go_meet
          exact ⟨rfl, rfl⟩
      case rest =>
      obtain ⟨rfl, rfl⟩ := hcut
      go_upto_region 6 with fail
      have hB1 : (L.drop 1).length = L.length - 1 := List.length_drop
      go_cut [5] from 26 to 27 (fun rr wx => ∃ pt : Option Addr, rr = .slice pt (L.length - 1) (c - 1) ∧ wx = wc ∧ Hid (Rd wc q (.slice pt (L.drop 1).length (c - 1)) ((L.drop 1).map nv)))
      case first =>
        by_cases hc1 : c = 1
        · subst hc1
          go_wp2_with fail
          go_meet
          exact ⟨some ⟨b, off, none⟩, by rw [show L.length - 1 = 0 by omega], rfl, Lib.hid (rd_nil2 (by omega) rfl)⟩
        · have hc2 : ¬ c - 1 = 0 := by omega
          go_wp2_with fail
          go_meet
          exact ⟨_, rfl, rfl, Lib.hid (rd_drop HR.out 1 (c - 1))⟩
      case rest =>
      obtain ⟨pt, rfl, rfl, HRT⟩ := hcut
      obtain ⟨B, hB⟩ : ∃ B, L.drop 1 = B := ⟨_, rfl⟩
      have hBy : By B := by rw [← hB]; exact HL.out.drop 1
      rw [hB] at HF HRT hB1
      obtain ⟨n, hn⟩ : ∃ n, L.length - 1 = n := ⟨_, rfl⟩
      obtain ⟨cB, hcB⟩ : ∃ cB, c - 1 = cB := ⟨_, rfl⟩
      have hbc : B.length ≤ cB := by omega
      have hbm : cB ≤ 9223372036854775807 := by have := HC.out.2; omega
      rw [hn] at hB1 ⊢
      rw [hcB] at HRT ⊢
      subst hB1
      clear hB hn hcB hq
      go_upto_if 31 with fail
      have HBB := Lib.hid (And.intro hBy (And.intro hbc hbm))
      go_cut [4, 5, 6, 7, 8] from 28 to 51 (fun rt rr l6 s7 e8 wx => ∃ r B2 p1 p2 c1 c2, rt = .slice p1 r.length c1 ∧ rr = .slice p2 B2.length c2 ∧ Hid (DR2 L w r B2 p1 p2 c1 c2 wx))
      case first =>
        rcases hx01 with rfl | rfl
        · have c0' : wc.cell? ⟨b, off, none⟩ = some (.int .u8 0) := c0
          clear c0
          go_wp2_with fail
          go_meet
          exact ⟨[], B, none, pt, 0, cB, rfl, rfl, Lib.hid ⟨by rw [HF.out]; rfl, HBB.out.1, HBB.out.2.1, HRT.out.mono fun _ _ => trivial, Rd.nil_ _ _ _ _, Nat.le_refl _, by omega, fun _ => rfl, HD.out⟩⟩
        · have c0' : wc.cell? ⟨b, off, none⟩ = some (.int .u8 1) := c0
          clear c0
          go_wp2_with fail
          refine (sdecl_any B HBB.out.1 pt cB HBB.out.2.1 HBB.out.2.2 q wc HRT.out).mono ?_
          rintro e w1 ⟨v, rfl, hO, hg⟩
          have hDM := decGo_le B 24 0
          obtain ⟨m, e2, hM⟩ : ∃ m e2, decM B = (m, e2) := ⟨_, _, rfl⟩
          rw [show decGo B 24 0 = decM B from rfl, hM] at hDM
          obtain ⟨m1, m2, m3, -⟩ := hDM
          rw [hM] at hO ⊢
          obtain ⟨ls, hls⟩ : ∃ ls, labsN B m = ls := ⟨_, rfl⟩
          have hll : ls.length = m := by rw [← hls, labsN_len]
          have hlv : ∀ l ∈ ls, vlab l = true := by
            intro l hl
            rw [← hls] at hl
            obtain ⟨i, _, rfl⟩ := List.mem_map.1 hl
            exact labN_v (word4_lt HBB.out.1 i)
          have hH : decF L = (if e2 = 0 then (if (rtV ls).2 = 0 then finF (rtV ls).1 (B.drop (4 * m)) else ([], zpk, (rtV ls).2)) else ([], zpk, e2)) := by
            rw [HF.out]
            show decH 1 B = _
            unfold decH
            rw [if_neg (by decide), if_pos rfl, hM]
            simp only
            rw [hls]
          rw [show (m, e2).1 = m from rfl, hls] at hO
          obtain ⟨pl, cl, rfl, hx⟩ := rdk_of_own hO
          have hRL : RdL w1 (wc.heap.size ≤ ·) (.slice pl ls.length cl) ls := ⟨pl, cl, rfl, hx⟩
          have HDD := Lib.hid (HD.out.keep hg)
          have HK1 := Lib.hid (And.intro hRL (And.intro hlv hH))
          have HRT1 := Lib.hid (HRT.out.keep hg)
          have HMM := Lib.hid (And.intro m1 m2)
          have h24 : ls.length ≤ 24 := by simp only at m1; omega
          clear hO hx hRL hlv hH hg hls hM HF m1 m2 HRT HD d0 d1 d2 d3 d4 d5 d6 d7 d8 d9 d10 f0 f1 f2 f3 f4 f5 f6 f7 f8 f9 f10 c0'
          simp only
          by_cases he : e2 = 0
          · subst he
            go_wp2_with fail
            have C := srtof_any ls HK1.out.2.1 h24 pl cl _ w1 HK1.out.1
            rw [hll] at C
            refine C.mono ?_
            clear C
            rintro e w2 ⟨p3, c3, rfl, hRr, hle3, hm3, hp3, hg3⟩
            obtain ⟨r, e3, hr⟩ : ∃ r e3, rtV ls = (r, e3) := ⟨_, _, rfl⟩
            have hH := HK1.out.2.2
            rw [if_pos trivial, hr] at hH
            rw [hr] at hRr hle3 ⊢
            simp only at hH hRr hle3 ⊢
            have HDD2 := Lib.hid (HDD.out.keep hg3)
            have HRT2 := Lib.hid (HRT1.out.keep hg3)
            have HR3 := Lib.hid (And.intro (hRr.mono (q' := (w.heap.size < ·)) (fun b hb => Nat.lt_of_lt_of_le HDD.out.row.lt hb)) (And.intro hle3 (And.intro hm3 hp3)))
            have HH := Lib.hid hH
            clear hRr hle3 hm3 hp3 hg3 hr hH HK1 HDD HRT1
            by_cases he3 : e3 = 0
            · subst he3
              have h4 : 4 * m ≤ B.length := HMM.out.2
              have hlb : B.length ≤ 9223372036854775807 := by omega
              by_cases hcap : cB - 4 * m = 0
              · go_wp2_with fail
                go_meet
                exact ⟨r, B.drop (4 * m), p3, pt, c3, 0, rfl, by rw [List.length_drop], Lib.hid ⟨by have := HH.out; simpa using this, HBB.out.1.drop _, by rw [List.length_drop]; omega, rd_nil2 (by rw [List.length_drop]; omega) rfl, HR3.out.1, HR3.out.2.1, HR3.out.2.2.1, HR3.out.2.2.2, HDD2.out⟩⟩
              · go_wp2_with fail
                go_meet
                exact ⟨r, B.drop (4 * m), p3, pt.map (fun x => x.add (4 * m)), c3, cB - 4 * m, rfl, by rw [List.length_drop], Lib.hid ⟨by have := HH.out; simpa using this, HBB.out.1.drop _, by rw [List.length_drop]; omega, (rd_drop2 HRT2.out (4 * m) _).mono (fun _ _ => trivial), HR3.out.1, HR3.out.2.1, HR3.out.2.2.1, HR3.out.2.2.2, HDD2.out⟩⟩
            · have heb : (e3 == 0) = false := by simpa using he3
              have hen : (e3 != 0) = true := by simpa using he3
              have HE := Lib.hid (HDD2.out.err (L := L) (x := e3) (by rw [HH.out, if_neg he3]))
              obtain ⟨⟨d0, d1, d2, d3, d4, d5, d6, d7, d8, d9, d10⟩, f0, f1, f2, f3, f4, f5, f6, f7, f8, f9, f10⟩ := zfr_facts HDD2.out.row
              go_wp2_with fail
              refine bodyPost_ret (res_frame_err rfl _ _ w.heap.size zfr rfl rfl HE.out.1) rfl ?_
              exact HE.out.2
          · have heb : (e2 == 0) = false := by simpa using he
            have hen : (e2 != 0) = true := by simpa using he
            have HE := Lib.hid (HDD.out.err (L := L) (x := e2) (by rw [HK1.out.2.2, if_neg he]))
            obtain ⟨⟨d0, d1, d2, d3, d4, d5, d6, d7, d8, d9, d10⟩, f0, f1, f2, f3, f4, f5, f6, f7, f8, f9, f10⟩ := zfr_facts HDD.out.row
            go_wp2_with fail
            refine bodyPost_ret (res_frame_err rfl _ _ w.heap.size zfr rfl rfl HE.out.1) rfl ?_
            exact HE.out.2
      case rest =>
        obtain ⟨r, B2, p1, p2, c1, c2, rfl, rfl, H⟩ := hcut
        have hle := H.out.le
        clear HD HRT HBB c0 d0 d1 d2 d3 d4 d5 d6 d7 d8 d9 d10 f0 f1 f2 f3 f4 f5 f6 f7 f8 f9 f10
        obtain ⟨X, y, hXy⟩ : ∃ X y, decV B2 = (X, y) := ⟨_, _, rfl⟩
        obtain ⟨n0, n1, n2, n3, n4, n5, n6, n7, n8, s9, hX⟩ := dec_form3 B2
        have C := fun w0 h => pdecode_any B2 H.out.by_ p2 c2 hle (fun _ => True) w0 h
        rw [hXy] at C hX
        simp only at C hX
        subst hX
        have HXY := Lib.hid hXy
        clear hXy
        go_wp2_with fail
        refine (C _ H.out.rd).mono ?_
        clear C
        rintro e w3 ⟨rfl, hg⟩
        go_upto_region 15 with fail
        obtain ⟨k1, k2⟩ := sone_box w3 #[.int .i64 n0, .int .i64 n1, .int .i64 n2, .int .i64 n3, .int .i64 n4, .int .i64 n5, .int .i64 n6, .int .i64 n7, .int .u64 n8, .string s9] 31
        have HDF := Lib.hid (H.out.df.keep (grown_trans hg k2))
        have HRR := Lib.hid (H.out.rt.keep (grown_trans hg k2))
        have a0 := cell_of_row _ _ 0 _ _ _ k1
        have a1 := cell_of_row _ _ 1 _ _ _ k1
        have a2 := cell_of_row _ _ 2 _ _ _ k1
        have a3 := cell_of_row _ _ 3 _ _ _ k1
        have a4 := cell_of_row _ _ 4 _ _ _ k1
        have a5 := cell_of_row _ _ 5 _ _ _ k1
        have a6 := cell_of_row _ _ 6 _ _ _ k1
        have a7 := cell_of_row _ _ 7 _ _ _ k1
        have a8 := cell_of_row _ _ 8 _ _ _ k1
        have a9 := cell_of_row _ _ 9 _ _ _ k1
        simp only [List.getElem?_toArray, List.getElem?_cons_zero, List.getElem?_cons_succ] at a0 a1 a2 a3 a4 a5 a6 a7 a8 a9
        have HDC : Hid (decF L = if y = 0 then (r, #[.int .i64 n0, .int .i64 n1, .int .i64 n2, .int .i64 n3, .int .i64 n4, .int .i64 n5, .int .i64 n6, .int .i64 n7, .int .u64 n8, .string s9], 0) else ([], zpk, y)) := by
          refine Lib.hid ?_
          rw [H.out.dec]
          unfold finF
          rw [HXY.out]
        have HR4 := Lib.hid (And.intro H.out.rle (And.intro H.out.cmax H.out.pc))
        clear hg k1 k2 H HXY
        generalize w3.alloc _ = w4 at *
        obtain ⟨⟨d0, d1, d2, d3, d4, d5, d6, d7, d8, d9, d10⟩, f0, f1, f2, f3, f4, f5, f6, f7, f8, f9, f10⟩ := zfr_facts HDF.out.row
        by_cases hy : y = 0
        · subst hy
          go_wp2_with fail
          refine bodyPost_ret (res_frame_err rfl _ _ w.heap.size _ rfl rfl (fput_row _ _ _ _ _ _ _ _ _ _ _ HDF.out.row)) rfl ?_
          have hd := HDC.out
          rw [if_pos trivial] at hd
          refine ⟨p1, c1, by rw [hd]; rfl, ?_, by rw [hd]; exact HR4.out.1, HR4.out.2.1, HR4.out.2.2, grown_new HDF.out.gr (fput_grown _ _ _ _ _ _ _ _ _ _ _ _ _) (Nat.le_refl _)⟩
          rw [hd]
          exact (HRR.out.grown (fput_grown _ w.heap.size _ _ _ _ _ _ _ _ _ _ _) (fun b hb e => by have := Option.some.inj e; omega)).mono (fun b hb => Nat.le_of_lt hb)
        · have hyb : (y == 0) = false := by simpa using hy
          have hyn : (y != 0) = true := by simpa using hy
          have HE := Lib.hid (HDF.out.err (L := L) (x := y) (by rw [HDC.out, if_neg hy]))
          go_wp2_with fail
          refine bodyPost_ret (res_frame_err rfl _ _ w.heap.size zfr rfl rfl HE.out.1) rfl ?_
          exact HE.out.2
end Go.Proofs.YtpabfjhjehjebaaDoor

/- The tape's orders. -/
namespace Go.Proofs.YtpabfjhjehjebaaDoor
open Go.RowKit Bs
/-- An order of the first numbers. -/
def Ord (l : List Nat) (i : Nat) : Prop := l.length = i ∧ l.Nodup ∧ ∀ x ∈ l, x < i
set_option maxRecDepth 100000 in
theorem ord_next {l : List Nat} {i k : Nat} (h : Ord l i) : Ord (l.take k ++ [i] ++ l.drop k) (i + 1) := by
  obtain ⟨h1, h2, h3⟩ := h
  refine ⟨?_, ?_, ?_⟩
  · simp; omega
  · have e : (l.take k ++ [i] ++ l.drop k).Perm (i :: l) := by
      rw [List.append_assoc]
      have e2 : (l.take k ++ ([i] ++ l.drop k)).Perm (([i] ++ l.drop k) ++ l.take k) := List.perm_append_comm
      refine e2.trans ?_
      rw [List.append_assoc]
      show (i :: (l.drop k ++ l.take k)).Perm (i :: l)
      refine List.Perm.cons i ?_
      refine List.perm_append_comm.trans ?_
      rw [List.take_append_drop]
    rw [e.nodup_iff, List.nodup_cons]
    exact ⟨fun hm => by have := h3 i hm; omega, h2⟩
  · intro x hx
    rw [List.mem_append, List.mem_append] at hx
    rcases hx with (hx | hx) | hx
    · have := h3 x (List.mem_of_mem_take hx); omega
    · have : x = i := by simpa using hx
      omega
    · have := h3 x (List.mem_of_mem_drop hx); omega
/-- The slice v is an order of the first i numbers, in a row of the call's own. -/
def OrdRel (a : Nat) (W : World) (i : Nat) (v : Value) (w' : World) : Prop := ∃ l, Ord l i ∧ w'.ownsRow W.heap.size 3 1 v i (l.map zv) ∧ (i = 0 → v = .slice none 0 0) ∧ St a W w'
def OrdPost (a : Nat) (n : Nat) (W : World) (e : Ending) (w' : World) : Prop := ∃ v, e = .returned v ∧ OrdRel a W n v w'
set_option maxRecDepth 100000 in
set_option maxHeartbeats 3200000 in
theorem order_any (a n : Nat) (hn : n ≤ 1000) (w : World) (hT : Tp w a) :
    Calls Tryd.prog 24 #[.pointer (some ⟨a, 0, none⟩), .int .i64 (n : Int)] w fun e w' => OrdPost a n w e w' := by
  have ha := hT.lt
  have hS0 : Hid (OrdRel a w 0 (.slice none 0 0) w) := Lib.hid ⟨[], ⟨rfl, List.nodup_nil, fun x hx => by cases hx⟩, World.ownsRow_nil _ _ _ _, fun _ => rfl, grown_refl _ _, hT⟩
  clear hT
  go_enter Tryd.func24, Tryd.ntmps24
  go_wp2_with fail
  go_loopw [5, 6] (fun v i wr => ∃ j : Nat, j ≤ n ∧ i = .int .i64 (j : Int) ∧ OrdRel a w j v wr) (fun _ i _ => (n - (intOf i).toNat))
  case atStart => exact ⟨0, Nat.zero_le _, rfl, hS0.out⟩
  case round =>
    obtain ⟨j, hj, rfl, hR⟩ := hrel
    have HR := Lib.hid hR
    clear hR hS0
    by_cases hlt : j < n
    · obtain ⟨l, hO, hown, hv0, hSt⟩ := HR.out
      have HO := Lib.hid hO
      have hT := hSt.2
      have HOWN := Lib.hid hown
      have HST := Lib.hid hSt
      clear hO hown hSt HR
      go_wp2_with fail
      refine (next_any a ((j : Int) + 1) (by unfold I64; omega) _ hT).mono ?_
      rintro e w3 ⟨r, rfl, hr, hs⟩
      obtain ⟨k, rfl⟩ := Int.eq_ofNat_of_zero_le hr.1
      have hkj : k ≤ j := by have := hr.2.1 (by omega); omega
      have HS3 := Lib.hid (HST.out.trans hs)
      have HOWN3 := Lib.hid (own_kept ha HOWN.out hs.1)
      clear hr hs hT HST HOWN
      by_cases hj0 : j = 0
      · subst hj0
        obtain rfl : k = 0 := by omega
        obtain rfl := hv0 rfl
        have hl : l = [] := List.eq_nil_of_length_eq_zero HO.out.1
        clear hv0
        obtain ⟨i0, hi, hz0, hz1, hz2⟩ := info_parts info_int
        have hsz3 := Lib.hid HS3.out.1.size
        go_wp2_with (first
          | (at_builtin; refine wpList_append_own_none rfl _ _ 22 rfl w3.heap.size 3 i0 1 Tryd.underlying22 hi (.slice none 0 0) 0 [] rfl (World.ownsRow_nil _ _ _ _) rfl ?_)
          | (at_builtin; refine wpList_append_ints rfl _ _ rfl w3.heap.size (.slice none 0 0) 0 [] rfl (World.ownsRow_nil _ _ _ _) (some ⟨w3.heap.size, 0, none⟩) 1 1 [0] rfl rfl (by intro h; cases h) (by intro ad h; obtain rfl := Option.some.inj h; exact cell_one _ _ _) (by simp) (by simp) ?_; intro v2 w5 hown2 hg2; have HOWN2 := Lib.hid hown2; have HG2 := Lib.hid (grown_trans (World.grownBy_alloc w3 _ none) hg2); clear hown2 hg2)
          | (at_builtin; refine wpList_append_own_none rfl _ _ 22 rfl w3.heap.size 3 i0 1 Tryd.underlying22 hi v2 1 [zv 0] rfl HOWN2.out rfl ?_))
        go_roundw
        case rel =>
          refine ⟨1, by omega, rfl, [0], ⟨rfl, by simp, by simp⟩, ?_, by omega, ?_⟩
          · exact HOWN2.out.mono hsz3.out
          · exact ⟨grown_trans HS3.out.1 (grown_none HG2.out _), HS3.out.2.keep HG2.out⟩
        case measure => simp [intOf]; omega
      · have hj1 : 0 < j := by omega
        obtain ⟨g, cap, rfl, hgb⟩ := own_form HOWN3.out hj1
        obtain ⟨hcap1, hcap2⟩ := own_cap HOWN3.out
        have hcap3 : cap ≤ 9223372036854775807 := by unfold maxLen at hcap2; omega
        have hgl := (HOWN3.out.lt g rfl).2
        have hll := HO.out.1
        have HLL := Lib.hid hll
        have hkc : k ≤ cap := by omega
        have hkl : (l.take k).length = k := by rw [List.length_take]; omega
        have hdl : (l.drop k).length = j - k := by rw [List.length_drop]; omega
        have HKL := Lib.hid hkl
        have HDL := Lib.hid hdl
        have hj9 : j ≤ 1000 := by omega
        have hsz3 := Lib.hid HS3.out.1.size
        have N1 : Hid (∀ ad, some (⟨g, 0, none⟩ : Addr) = some ad → ∀ i u, ((l.take k).map zv)[i]? = some u → w3.cell? (ad.add i) = some u) := by
          refine Lib.hid ?_
          intro ad h i u hu
          obtain rfl := Option.some.inj h
          refine HOWN3.out.cells rfl i u ?_
          rw [List.map_take, List.getElem?_take] at hu
          split at hu
          · exact hu
          · cases hu
        clear hll hkl hdl hv0 hcap2
        generalize hT1 : l.take k = t1 at *
        generalize hT2 : l.drop k = t2 at *
        have HT1 := Lib.hid hT1
        have HT2 := Lib.hid hT2
        clear hT1
        by_cases hkj : k < j
        · have hkcap : k < cap := by omega
          have news : Hid (∀ (W : World) c, W.ownsRow w.heap.size 3 1 (.slice (some ⟨g, 0, none⟩) j c) j (l.map zv) → ∀ i u, (t2.map zv)[i]? = some u → W.cell? ⟨g, k + i, none⟩ = some u) := by
            refine Lib.hid ?_
            intro W c h i u hu
            rw [← hT2, List.map_drop, List.getElem?_drop] at hu
            have := h.cells rfl (k + i) u hu
            rw [add_plain, Nat.zero_add] at this
            exact this
          clear hT2
          go_wp2_with (first
            | (at_builtin; refine wpList_append_ints rfl _ _ rfl w3.heap.size (.slice none 0 0) 0 [] rfl (World.ownsRow_nil _ _ _ _) (some ⟨g, 0, none⟩) k cap t1 rfl HKL.out.symm (by intro h; cases h) N1.out (by rw [HKL.out]; omega) (Nat.le_refl _) ?_; intro v1 w4 hown1 hg1; rw [Nat.zero_add, List.nil_append, HKL.out] at hown1; have HOWN1 := Lib.hid hown1; have HO4 := Lib.hid (own_apart HOWN3.out (World.ownsRow_nil w3 w3.heap.size 3 1) hgl hg1); have HS4 := Lib.hid (HS3.out.own_grow (World.ownsRow_nil w3 w3.heap.size 3 1) hsz3.out ha hg1); have HZ4 := Lib.hid hg1.size; clear hown1 hg1)
            | (at_builtin; refine wpList_append_ints rfl _ _ rfl w3.heap.size v1 k t1 rfl (HOWN1.out.alloc _) (some ⟨w4.heap.size, 0, none⟩) 1 1 [j] rfl rfl (by intro h; cases h) (by intro ad h; obtain rfl := Option.some.inj h; exact cell_one _ _ _) (by simp; omega) (by have := HZ4.out; simp; omega) ?_; intro v2 w5 hown2 hg2; have HOWN2 : Hid (w5.ownsRow w3.heap.size 3 1 v2 (k + 1) ((t1 ++ [j]).map zv)) := Lib.hid hown2; have HO5 := Lib.hid (own_apart (HO4.out.alloc _) (HOWN1.out.alloc _) hgl hg2); have HS5 := Lib.hid ((HS4.out.none_ (World.grownBy_alloc w4 _ none)).own_grow (HOWN1.out.alloc _) hsz3.out ha hg2); have HZ5 : Hid (w3.heap.size ≤ w5.heap.size) := Lib.hid (Nat.le_trans HZ4.out (Nat.le_trans (by simp) hg2.size)); clear hown2 hg2)
            | (at_builtin; refine wpList_append_ints rfl _ _ rfl w3.heap.size v2 (k + 1) (t1 ++ [j]) rfl HOWN2.out _ _ _ t2 rfl (by have := HDL.out; omega) (by intro h; cases h) (by intro ad h; obtain rfl := Option.some.inj h; intro i u hu; rw [add_plain]; exact news.out w5 cap HO5.out i u hu) (by have := HDL.out; omega) HZ5.out ?_; intro v3 w6 hown3 hg3; have HOWN6 := Lib.hid hown3; have HS6 := Lib.hid (HS5.out.own_grow HOWN2.out hsz3.out ha hg3); clear hown3 hg3))
          go_roundw
          case rel =>
            refine ⟨j + 1, by omega, by go_num, l.take k ++ [j] ++ l.drop k, ord_next HO.out, ?_, by omega, HS6.out⟩
            have h6 := HOWN6.out.mono hsz3.out
            rw [← HT1.out, ← HT2.out, show k + 1 + (l.drop k).length = j + 1 by rw [List.length_drop, HLL.out]; omega] at h6
            exact h6
          case measure => simp [intOf]; omega
        · obtain rfl : k = j := by omega
          have ht2 : t2 = [] := by
            rw [← hT2]
            exact List.drop_of_length_le (Nat.le_of_eq HLL.out)
          clear hT2
          have HN2 : Hid (∀ (i : Nat) (u : Value), (t2.map zv)[i]? = some u → False) := Lib.hid (by intro i u hu; rw [ht2] at hu; simp at hu)
          clear ht2
          by_cases hcj : k = cap
          · subst hcj
            go_wp2_with (first
              | (at_builtin; refine wpList_append_ints rfl _ _ rfl w3.heap.size (.slice none 0 0) 0 [] rfl (World.ownsRow_nil _ _ _ _) (some ⟨g, 0, none⟩) k k t1 rfl HKL.out.symm (by intro h; cases h) N1.out (by rw [HKL.out]; omega) (Nat.le_refl _) ?_; intro v1 w4 hown1 hg1; rw [Nat.zero_add, List.nil_append, HKL.out] at hown1; have HOWN1 := Lib.hid hown1; have HO4 := Lib.hid (own_apart HOWN3.out (World.ownsRow_nil w3 w3.heap.size 3 1) hgl hg1); have HS4 := Lib.hid (HS3.out.own_grow (World.ownsRow_nil w3 w3.heap.size 3 1) hsz3.out ha hg1); have HZ4 := Lib.hid hg1.size; clear hown1 hg1)
              | (at_builtin; refine wpList_append_ints rfl _ _ rfl w3.heap.size v1 k t1 rfl (HOWN1.out.alloc _) (some ⟨w4.heap.size, 0, none⟩) 1 1 [k] rfl rfl (by intro h; cases h) (by intro ad h; obtain rfl := Option.some.inj h; exact cell_one _ _ _) (by simp; omega) (by have := HZ4.out; simp; omega) ?_; intro v2 w5 hown2 hg2; have HOWN2 : Hid (w5.ownsRow w3.heap.size 3 1 v2 (k + 1) ((t1 ++ [k]).map zv)) := Lib.hid hown2; have HO5 := Lib.hid (own_apart (HO4.out.alloc _) (HOWN1.out.alloc _) hgl hg2); have HS5 := Lib.hid ((HS4.out.none_ (World.grownBy_alloc w4 _ none)).own_grow (HOWN1.out.alloc _) hsz3.out ha hg2); have HZ5 : Hid (w3.heap.size ≤ w5.heap.size) := Lib.hid (Nat.le_trans HZ4.out (Nat.le_trans (by simp) hg2.size)); clear hown2 hg2)
              | (at_builtin; refine wpList_append_ints rfl _ _ rfl w3.heap.size v2 (k + 1) (t1 ++ [k]) rfl HOWN2.out _ _ _ t2 rfl (by have := HDL.out; omega) (by intro h; cases h) (by intro ad h i u hu; exact (HN2.out i u hu).elim) (by have := HDL.out; omega) HZ5.out ?_; intro v3 w6 hown3 hg3; have HOWN6 := Lib.hid hown3; have HS6 := Lib.hid (HS5.out.own_grow HOWN2.out hsz3.out ha hg3); clear hown3 hg3))
            go_roundw
            case rel =>
              refine ⟨k + 1, by omega, by go_num, l.take k ++ [k] ++ l.drop k, ord_next HO.out, ?_, by omega, HS6.out⟩
              have h6 := HOWN6.out.mono hsz3.out
              rw [← HT1.out, ← HT2.out, show k + 1 + (l.drop k).length = k + 1 by rw [List.length_drop, HLL.out]; omega] at h6
              exact h6
            case measure => simp [intOf]; omega
          · have hkcap : k < cap := by omega
            go_wp2_with (first
              | (at_builtin; refine wpList_append_ints rfl _ _ rfl w3.heap.size (.slice none 0 0) 0 [] rfl (World.ownsRow_nil _ _ _ _) (some ⟨g, 0, none⟩) k cap t1 rfl HKL.out.symm (by intro h; cases h) N1.out (by rw [HKL.out]; omega) (Nat.le_refl _) ?_; intro v1 w4 hown1 hg1; rw [Nat.zero_add, List.nil_append, HKL.out] at hown1; have HOWN1 := Lib.hid hown1; have HO4 := Lib.hid (own_apart HOWN3.out (World.ownsRow_nil w3 w3.heap.size 3 1) hgl hg1); have HS4 := Lib.hid (HS3.out.own_grow (World.ownsRow_nil w3 w3.heap.size 3 1) hsz3.out ha hg1); have HZ4 := Lib.hid hg1.size; clear hown1 hg1)
              | (at_builtin; refine wpList_append_ints rfl _ _ rfl w3.heap.size v1 k t1 rfl (HOWN1.out.alloc _) (some ⟨w4.heap.size, 0, none⟩) 1 1 [k] rfl rfl (by intro h; cases h) (by intro ad h; obtain rfl := Option.some.inj h; exact cell_one _ _ _) (by simp; omega) (by have := HZ4.out; simp; omega) ?_; intro v2 w5 hown2 hg2; have HOWN2 : Hid (w5.ownsRow w3.heap.size 3 1 v2 (k + 1) ((t1 ++ [k]).map zv)) := Lib.hid hown2; have HO5 := Lib.hid (own_apart (HO4.out.alloc _) (HOWN1.out.alloc _) hgl hg2); have HS5 := Lib.hid ((HS4.out.none_ (World.grownBy_alloc w4 _ none)).own_grow (HOWN1.out.alloc _) hsz3.out ha hg2); have HZ5 : Hid (w3.heap.size ≤ w5.heap.size) := Lib.hid (Nat.le_trans HZ4.out (Nat.le_trans (by simp) hg2.size)); clear hown2 hg2)
              | (at_builtin; refine wpList_append_ints rfl _ _ rfl w3.heap.size v2 (k + 1) (t1 ++ [k]) rfl HOWN2.out _ _ _ t2 rfl (by have := HDL.out; omega) (by intro h; cases h) (by intro ad h i u hu; exact (HN2.out i u hu).elim) (by have := HDL.out; omega) HZ5.out ?_; intro v3 w6 hown3 hg3; have HOWN6 := Lib.hid hown3; have HS6 := Lib.hid (HS5.out.own_grow HOWN2.out hsz3.out ha hg3); clear hown3 hg3))
            go_roundw
            case rel =>
              refine ⟨k + 1, by omega, by go_num, l.take k ++ [k] ++ l.drop k, ord_next HO.out, ?_, by omega, HS6.out⟩
              have h6 := HOWN6.out.mono hsz3.out
              rw [← HT1.out, ← HT2.out, show k + 1 + (l.drop k).length = k + 1 by rw [List.length_drop, HLL.out]; omega] at h6
              exact h6
            case measure => simp [intOf]; omega
    · obtain rfl : j = n := by omega
      go_wp2_with fail
      go_ret
      exact ⟨_, rfl, HR.out⟩
end Go.Proofs.YtpabfjhjehjebaaDoor

/- The tape's frames. -/
namespace Go.Proofs.YtpabfjhjehjebaaDoor
open Go.RowKit Bs
/-- While a frame is made: its block B, the result's block, the route in a row of the call's own. -/
structure FK (a : Nat) (W : World) (B base : Nat) (v : Value) (r : List Int) (P : Pk) (w : World) : Prop where
  fb : w.heap[B]? = some (.cells (frcells v P) 33 (0, 0))
  rb : Row w W.heap.size 33 zfr.toList
  own : w.ownsRow base 3 1 v r.length (r.map iv)
  st : St a W w
  wf : P.Wf
  sz : base ≤ w.heap.size
section
variable {a B base : Nat} {W w w1 : World} {v v' : Value} {r : List Int} {P P' : Pk}
theorem owni_other {xs : List Value} {n : Nat} (h : w.ownsRow base 3 1 v n xs) {b : Nat} (g : w.grownBy w1 (some b)) (hb : b < base) : w1.ownsRow base 3 1 v n xs :=
  h.kept g (by
    cases hv : v.ownBlock with
    | none => exact .inl rfl
    | some k => exact .inr (fun e => by have e2 := Option.some.inj e; have := (h.lt k hv).1; omega))
theorem FK.tape (h : FK a W B base v r P w) (ha : a < W.heap.size) (hB : W.heap.size < B) (hb : B < base) (k : St a w w1) : FK a W B base v r P w1 :=
  ⟨kept_row h.fb k.1 (fun e => by have := Option.some.inj e; omega), h.rb.kept k.1 (fun e => by have := Option.some.inj e; omega), owni_other h.own k.1 (by omega), h.st.trans k, h.wf, Nat.le_trans h.sz k.1.size⟩
theorem FK.mid (h : FK a W B base v r P w) (ha : a < W.heap.size) (hB : W.heap.size < B) (hb : B < base) {o : Obj} {x : Int} (hown : w1.ownsRow base 3 1 v' (r.length + 1) (r.map iv ++ [.int .i64 x])) (hg : (w.alloc o).grownBy w1 v.ownBlock) :
    w1.heap[B]? = some (.cells (frcells v P) 33 (0, 0)) ∧ Row w1 W.heap.size 33 zfr.toList ∧ w1.ownsRow base 3 1 v' (r ++ [x]).length ((r ++ [x]).map iv) ∧ St a W w1 ∧ base ≤ w1.heap.size := by
  have hne : ∀ k, k < base → some k ≠ v.ownBlock := fun k hk e => by
    have := (h.own.lt k e.symm).1
    omega
  have k0 := World.grownBy_alloc w o none
  refine ⟨kept_row (kept_row h.fb k0 (by simp)) hg (hne B hb), (h.rb.kept k0 (by simp)).kept hg (hne _ (by omega)), ?_, ?_, Nat.le_trans h.sz (Nat.le_trans k0.size hg.size)⟩
  · rw [List.length_append, List.map_append]; exact hown
  · have h1 : St a W (w.alloc o) := h.st.trans ⟨World.grownBy_alloc w o _, h.st.2.alloc o⟩
    cases hbk : v.ownBlock with
    | none => rw [hbk] at hg; exact ⟨grown_trans h1.1 (grown_none hg _), h1.2.keep hg⟩
    | some g =>
      rw [hbk] at hg
      have := (h.own.lt g hbk).1
      exact h1.store hg (by omega) ha
theorem FK.put (ha : a < W.heap.size) (hB : W.heap.size < B) (hb : B < base) {x : Int} (wf : P.Wf) (hm : w1.heap[B]? = some (.cells (frcells v P) 33 (0, 0)) ∧ Row w1 W.heap.size 33 zfr.toList ∧ w1.ownsRow base 3 1 v' (r ++ [x]).length ((r ++ [x]).map iv) ∧ St a W w1 ∧ base ≤ w1.heap.size) :
    FK a W B base v' (r ++ [x]) P (w1.setCell ⟨B, 0, none⟩ v') := by
  obtain ⟨h1, h2, h3, h4, h5⟩ := hm
  have k1 := grown_setCell w1 ⟨B, 0, none⟩ v'
  refine ⟨?_, h2.kept k1 (fun e => by have : W.heap.size = B := Option.some.inj e; omega), owni_other h3 k1 hb, h4.store (b := B) k1 (by omega) ha, wf, Nat.le_trans h5 k1.size⟩
  exact heap_setCell_same w1 B 0 _ _ v' h1
end
/-- A packet is stored into a frame. -/
def pput (w : World) (h : Nat) (v0 v1 v2 v3 v4 v5 v6 v7 v8 v9 : Value) : World :=
  ((((((((((w.setCell ⟨h, 1, none⟩ v0).setCell ⟨h, 2, none⟩ v1).setCell ⟨h, 3, none⟩ v2).setCell ⟨h, 4, none⟩ v3).setCell ⟨h, 5, none⟩ v4).setCell ⟨h, 6, none⟩ v5).setCell ⟨h, 7, none⟩ v6).setCell ⟨h, 8, none⟩ v7).setCell ⟨h, 9, none⟩ v8).setCell ⟨h, 10, none⟩ v9)
set_option maxRecDepth 100000 in
theorem FK.pkt {a B base : Nat} {W w : World} {v : Value} {r : List Int} {P P' : Pk} (h : FK a W B base v r P w) (ha : a < W.heap.size) (hB : W.heap.size < B) (hb : B < base) (wf : P'.Wf) :
    FK a W B base v r P' (pput w B (.int .i64 P'.mode) (.int .i64 P'.sub) (.int .i64 P'.set) (.int .i64 P'.len) (.int .i64 P'.ttl) (.int .i64 P'.ent) (.int .i64 P'.ing) (.int .i64 P'.pro) (.int .u64 (P'.bits : Int)) (.string P'.pay)) := by
  have S : ∀ (u : World) (j : Nat) (x : Value), u.grownBy (u.setCell ⟨B, j, none⟩ x) (some B) := fun u j x => grown_setCell u ⟨B, j, none⟩ x
  have k1 : w.grownBy (pput w B (.int .i64 P'.mode) (.int .i64 P'.sub) (.int .i64 P'.set) (.int .i64 P'.len) (.int .i64 P'.ttl) (.int .i64 P'.ent) (.int .i64 P'.ing) (.int .i64 P'.pro) (.int .u64 (P'.bits : Int)) (.string P'.pay)) (some B) := by
    unfold pput
    exact grown_trans (grown_trans (grown_trans (grown_trans (grown_trans (grown_trans (grown_trans (grown_trans (grown_trans (S _ _ _) (S _ _ _)) (S _ _ _)) (S _ _ _)) (S _ _ _)) (S _ _ _)) (S _ _ _)) (S _ _ _)) (S _ _ _)) (S _ _ _)
  have hr : Row w B 33 (frcells v P).toList := h.fb
  have hrow := ((((((((((hr.set 1 (.int .i64 P'.mode)).set 2 (.int .i64 P'.sub)).set 3 (.int .i64 P'.set)).set 4 (.int .i64 P'.len)).set 5 (.int .i64 P'.ttl)).set 6 (.int .i64 P'.ent)).set 7 (.int .i64 P'.ing)).set 8 (.int .i64 P'.pro)).set 9 (.int .u64 (P'.bits : Int))).set 10 (.string P'.pay))
  exact ⟨hrow, h.rb.kept k1 (fun e => by have : W.heap.size = B := Option.some.inj e; omega), owni_other h.own k1 hb, h.st.store (b := B) k1 (by omega) ha, wf, Nat.le_trans h.sz k1.size⟩
set_option maxRecDepth 100000 in
theorem owni_facts {w : World} {base : Nat} {v : Value} {n : Nat} {xs : List Value} (h : w.ownsRow base 3 1 v n xs) : ∃ (p : Option Addr) (c : Nat), v = .slice p n c ∧ n ≤ c ∧ c ≤ 9223372036854775807 ∧ (p = none → c = 0) := by
  rcases Joins.ownsRow_forms h with ⟨e, e0⟩ | ⟨g, cap, e⟩
  · subst e0
    exact ⟨none, 0, e, by omega, by omega, fun _ => rfl⟩
  · subst e
    have := own_cap h
    exact ⟨_, cap, rfl, this.1, this.2, fun e => by cases e⟩
set_option maxRecDepth 100000 in
theorem frame1_size : (Tryd.prog.info? 33).map (·.size) = some 11 := by kernel_rfl
set_option maxRecDepth 100000 in
theorem res_frame1 {fn : Func} {p : Tmp} (h : fn.results = #[.cell p 33]) (tmps : Array Value) (w : World) (g : Nat) (xs : Array Value) (hp : tmps.getD p undef = .pointer (some ⟨g, 0, none⟩)) (hn : xs.size = 11) (hg : w.heap[g]? = some (.cells xs 33 (0, 0))) :
    (results fn tmps).run Tryd.prog w = .ok (.agg xs) w := by
  exact results_cell_row h tmps w g _ _ _ _ hp hg Tryd.underlying33 rfl (by rw [hn]; exact frame1_size)
/-- What the tape's Frame returns. -/
def TFPost (a : Nat) (w : World) (e : Ending) (w' : World) : Prop :=
  ∃ (r : List Int) (P : Pk) (p : Option Addr) (c : Nat), e = .returned (fval (.slice p r.length c) P) ∧ P.Wf ∧ r.length ≤ 40 ∧ r.length ≤ c ∧ c ≤ 9223372036854775807 ∧ Rd w' (w.heap.size < ·) (.slice p r.length c) (r.map iv) ∧ (p = none → c = 0) ∧ St a w w'
set_option maxRecDepth 100000 in
set_option maxHeartbeats 6400000 in
theorem frame_any (a : Nat) (n : Int) (hn : I64 n) (w : World) (hT : Tp w a) :
    Calls Tryd.prog 7 #[.pointer (some ⟨a, 0, none⟩), .int .i64 n] w fun e w' => TFPost a w e w' := by
  obtain ⟨i0, hi0, hz0, hz1, hz2⟩ := info_parts info_int
  have ha := hT.lt
  obtain ⟨k1, k2⟩ := sone_box w zfr 33
  have HS : Hid (St a w (w.alloc (.cells zfr 33))) := Lib.hid ⟨grown_none k2 _, hT.keep k2⟩
  have HB : Hid (Row (w.alloc (.cells zfr 33)) w.heap.size 33 zfr.toList) := Lib.hid k1
  have HZ := Lib.hid (show zfr = #[.slice none 0 0, .int .i64 0, .int .i64 0, .int .i64 0, .int .i64 0, .int .i64 0, .int .i64 0, .int .i64 0, .int .i64 0, .int .u64 0, .string ⟨#[]⟩] from rfl)
  have HW := Lib.hid (show w.heap.size < (w.alloc (.cells zfr 33)).heap.size by simp)
  rw [HZ.out] at HS HW
  rw [show (w.alloc (.cells zfr 33)) = (w.alloc (.cells #[.slice none 0 0, .int .i64 0, .int .i64 0, .int .i64 0, .int .i64 0, .int .i64 0, .int .i64 0, .int .i64 0, .int .i64 0, .int .u64 0, .string ⟨#[]⟩] 33)) from rfl] at HB
  clear k1 k2 hT
  go_enter Tryd.func7, Tryd.ntmps7
  go_upto_region 1 with fail
  generalize w.alloc _ = wa at *
  go_wp2_with fail
  refine (packet0_any a wa HS.out.2).mono ?_
  rintro e w3 ⟨P, rfl, hWf, hvp, hs⟩
  have hval : P.val = .agg #[.int .i64 P.mode, .int .i64 P.sub, .int .i64 P.set, .int .i64 P.len, .int .i64 P.ttl, .int .i64 P.ent, .int .i64 P.ing, .int .i64 P.pro, .int .u64 (P.bits : Int), .string P.pay] := rfl
  rw [hval]
  go_upto_region 2 with fail
  obtain ⟨k1, k2⟩ := sone_box w3 (frcells (.slice none 0 0) P) 33
  have HF4 : Hid ((w3.alloc (.cells (frcells (.slice none 0 0) P) 33)).heap[w3.heap.size]? = some (.cells (frcells (.slice none 0 0) P) 33 (0, 0)) ∧ Row (w3.alloc (.cells (frcells (.slice none 0 0) P) 33)) w.heap.size 33 zfr.toList ∧ St a w (w3.alloc (.cells (frcells (.slice none 0 0) P) 33)) ∧ w3.heap.size < (w3.alloc (.cells (frcells (.slice none 0 0) P) 33)).heap.size) :=
    Lib.hid ⟨k1, (HB.out.kept hs.1 (fun e => by have := Option.some.inj e; omega)).kept k2 (by simp), (HS.out.trans hs).trans ⟨grown_none k2 _, hs.2.keep k2⟩, by simp⟩
  have HB3 : Hid (w.heap.size < w3.heap.size ∧ P.Wf) := Lib.hid ⟨Nat.lt_of_lt_of_le HW.out hs.1.size, hWf⟩
  have HFC := Lib.hid (show frcells (.slice none 0 0) P = #[.slice none 0 0, .int .i64 P.mode, .int .i64 P.sub, .int .i64 P.set, .int .i64 P.len, .int .i64 P.ttl, .int .i64 P.ent, .int .i64 P.ing, .int .i64 P.pro, .int .u64 (P.bits : Int), .string P.pay] from rfl)
  rw [HFC.out] at HF4
  clear k1 k2 hs hvp hWf hval HB HS HW
  generalize w3.alloc _ = w4 at *
  generalize w3.heap.size = B at *
  rw [← HFC.out] at HF4
  go_wp2_with fail
  refine (order_any a 5 (by omega) w4 HF4.out.2.2.1.2).mono ?_
  rintro e w5 ⟨vo, rfl, l, hl, hown, _, hs⟩
  obtain ⟨go, co, rfl⟩ := Joins.ownsRow_form hown (by omega)
  have hRo := rd_of_own hown
  have hBw4 := HF4.out.2.2.2
  have HK0 : Hid (FK a w B w5.heap.size (.slice none 0 0) [] P w5) := Lib.hid ⟨kept_row HF4.out.1 hs.1 (fun e => by have := Option.some.inj e; have := ha; have := HB3.out.1; omega), HF4.out.2.1.kept hs.1 (fun e => by have := Option.some.inj e; omega), World.ownsRow_nil _ _ _ _, HF4.out.2.2.1.trans hs, HB3.out.2, Nat.le_refl _⟩
  have hBb : B < w5.heap.size := Nat.lt_of_lt_of_le hBw4 hs.1.size
  obtain ⟨hgoB, hgob, hgo4⟩ : go ≠ B ∧ go < w5.heap.size ∧ a < go := by
    obtain ⟨h1, h2⟩ := hown.lt go rfl
    exact ⟨by omega, h2, Nat.lt_of_lt_of_le HF4.out.2.2.1.2.lt h1⟩
  obtain ⟨cur, hcur, hcl⟩ : ∃ cur, w5.heap[go]? = some (.cells cur 3 (0, 0)) ∧ ∀ i, i < 5 → ∃ y : Nat, y < 5 ∧ cur[i]? = some (.int .i64 (y : Int)) := by
    rcases hown.2 with ⟨h0, _⟩ | ⟨g', cap', cur, hv, _, hh, _, _, _, htake⟩
    · cases h0
    · cases hv
      refine ⟨cur, hh, fun i hi => ?_⟩
      have h5 : i < l.length := by rw [hl.1]; exact hi
      refine ⟨l[i], hl.2.2 _ (List.getElem_mem h5), ?_⟩
      have e1 : (cur.toList.take (5 * 1))[i]? = (l.map zv)[i]? := by rw [htake]
      rw [List.getElem?_take, if_pos (by omega), List.getElem?_map, List.getElem?_eq_getElem h5] at e1
      simpa [zv] using e1
  have HCU := Lib.hid hcl
  have HGO := Lib.hid hcur
  have HWB := HB3.out.1
  clear hown hRo hs hl hcur hcl HF4
  go_wp2_with fail
  refine (next_any a 5 (by unfold I64; omega) w5 HK0.out.st.2).mono ?_
  rintro e w6 ⟨xx, rfl, hx, hs⟩
  obtain ⟨x, rfl⟩ := Int.eq_ofNat_of_zero_le hx.1
  have hx5 : x ≤ 4 := by have := hx.2.1 (by decide); omega
  have HK1 := Lib.hid (HK0.out.tape ha HWB hBb hs)
  have HGO1 := Lib.hid (kept_row HGO.out hs.1 (fun e => by have := Option.some.inj e; omega))
  have hsz6 := hs.1.size
  clear hx hs HK0 HGO
  generalize hbase : w5.heap.size = base at *
  go_wp2_with fail
  go_loopw [7] (fun i wr => ∃ k : Nat, k ≤ 4 ∧ i = .int .i64 (k : Int) ∧ ∃ vr r, (r : List Int).length + k ≤ 4 ∧ Hid (FK a w B base vr r P wr) ∧ Hid (wr.heap[go]? = some (.cells cur 3 (0, 0))) ∧ base ≤ wr.heap.size) (fun i _ => (intOf i).toNat)
  case atStart => exact ⟨x, hx5, rfl, _, [], by simpa using hx5, HK1, HGO1, hsz6⟩
  case round =>
    obtain ⟨k, hk, rfl, vr, r, hrk, hK, hO, hsz⟩ := hrel
    clear HK1 HGO1
    by_cases hk1 : 1 ≤ k
    · obtain ⟨y, hy5, hyc⟩ := HCU.out k (by omega)
      have c0 := (fr_facts hK.out.fb).1
      have c1 := (cell_of_row _ _ k _ _ _ hO.out).trans hyc
      have f0 := frozen_of_row _ _ 0 _ _ hK.out.fb
      have A0 := (World.grownBy_alloc wr (.cells #[.int .i64 (1 + (y : Int))] 3) none).cell c0 (by simp)
      have hKd : Hid (FK a w B base vr r P wr.drew) := Lib.hid ⟨hK.out.fb, hK.out.rb, hK.out.own.drew, ⟨grown_drew hK.out.st.1, hK.out.st.2.drew⟩, hK.out.wf, hK.out.sz⟩
      have hO2 := Lib.hid (And.intro hK.out.wf hO.out)
      have I1 : ¬ B = wr.heap.size := by have := (hK.out.fb |> World.lt_of_row'); omega
      have hsz3 : base ≤ wr.drew.heap.size := hsz
      have hown0 := hK.out.own.drew
      have hrl : r.length ≤ 4 := by omega
      have k5 : (k : Int) < 5 := by omega
      have hwy : IntKind.i64.wrap (1 + (y : Int)) = 1 + (y : Int) := by rw [IntKind.wrap_i64]; omega
      have k0 : (0 : Int) ≤ (k : Int) := by omega
      go_wp2_with fail
      go_region_law (refine step_append_lies _ rfl _ _ 22 rfl base 3 i0 (.int .i64 0) 1 8 Tryd.underlying22 hi0 hz0 hz1 hz2 rfl (by decide) vr r.length (r.map iv) (by rfl) (hown0.alloc _) ⟨wr.heap.size, 0, none⟩ 1 1 [.int .i64 (1 + (y : Int))] (by rfl) (by rfl) (cell_one wr.drew _ _) (by intro u hu; simp at hu; subst hu; rfl) (by omega) (by unfold maxLen; omega) (by omega) (by simp; omega) _ rfl ?_; intro g cap w7 hown hgrow hat hlt; have HM := Lib.hid (hKd.out.mid ha HWB hBb hown hgrow); have cB := (fr_facts HM.out.1).1; have fB := frozen_of_row _ _ 0 _ _ HM.out.1; have HGO7 := Lib.hid (kept_row (kept_row (show wr.drew.heap[go]? = _ from hO.out) (World.grownBy_alloc wr.drew _ none) (by simp)) hgrow (fun e => by have := (hown0.lt go e.symm).1; omega)))
      all_goals
        have HK2 := Lib.hid (FK.put ha HWB hBb hK.out.wf HM.out)
        have HGO8 : Hid ((w7.setCell ⟨B, 0, none⟩ (.slice (some ⟨g, 0, none⟩) (r.length + 1) cap)).heap[go]? = some (.cells cur 3 (0, 0))) := Lib.hid (kept_row HGO7.out (grown_setCell w7 ⟨B, 0, none⟩ _) (fun e => hgoB (Option.some.inj e)))
        have hszw : base ≤ (w7.setCell ⟨B, 0, none⟩ (.slice (some ⟨g, 0, none⟩) (r.length + 1) cap)).heap.size := by
          have h1 := hgrow.size
          have h2 := (grown_setCell w7 ⟨B, 0, none⟩ (.slice (some ⟨g, 0, none⟩) (r.length + 1) cap)).size
          simp at h1
          have h3 : wr.heap.size = wr.drew.heap.size := rfl
          omega
        clear hown hgrow hat hlt HM cB fB HGO7 hKd hO2 hK hO A0 c0 c1 f0
        go_wp2_with fail
        exact ⟨⟨k - 1, by omega, by congr 1; omega, _, r ++ [1 + (y : Int)], by rw [List.length_append]; simp; omega, HK2, HGO8, hszw⟩, by simp [intOf]; omega⟩
    · obtain rfl : k = 0 := by omega
      have HKx := Lib.hid (And.intro hK.out hsz)
      clear hK hO hk1 hsz HCU
      go_upto_region 7 with fail
      go_cut [36] from 30 to 36 (fun bb wx => ∃ z, bb = .bool z ∧ Hid (FK a w B base vr r P wx))
      case first =>
        by_cases hn1 : 0 < n
        · go_wp2_with (go_at_call 14; refine (one_any _ n hn _ HKx.out.1.st.2).mono ?_; rintro e w7 ⟨z, rfl, hs⟩; have HK2 := Lib.hid (HKx.out.1.tape ha HWB hBb hs); clear hs)
          go_meet
          exact ⟨z, rfl, HK2⟩
        · go_wp2_with fail
          go_meet
          exact ⟨false, rfl, Lib.hid HKx.out.1⟩
      case rest =>
      obtain ⟨z, rfl, HK3⟩ := hcut
      clear HKx
      go_upto_if 36 with fail
      go_cut [8] from 37 to 64 (fun ii wx => ∃ v2 r2 P2, (r2 : List Int).length ≤ 40 ∧ Hid (FK a w B base v2 r2 P2 wx))
      case first =>
        cases z
        · go_wp2_with fail
          go_meet
          exact ⟨vr, r, P, by omega, HK3⟩
        · have hTp := Lib.hid HK3.out.st.2
          go_wp2_with fail
          refine (next_any _ 3 (by unfold I64; omega) _ hTp.out).mono ?_
          rintro e w8 ⟨qq, rfl, hq, hs⟩
          obtain ⟨q, rfl⟩ := Int.eq_ofNat_of_zero_le hq.1
          have hq3 : q < 3 := by have := hq.2.1 (by decide); omega
          have HK4 := Lib.hid (HK3.out.tape ha HWB hBb hs)
          clear hq hs hTp HK3
          rcases (show q = 0 ∨ q = 1 ∨ q = 2 by omega) with rfl | rfl | rfl
          · go_wp2_with fail
            refine (packetN_agg a 1 (by omega) (by omega) w8 HK4.out.st.2).mono ?_
            rintro e w9 ⟨P2, rfl, hWf2, hs⟩
            have HK5 := Lib.hid (HK4.out.tape ha HWB hBb hs)
            have HK6 := Lib.hid (HK5.out.pkt ha HWB hBb hWf2)
            obtain ⟨d0, d1, d2, d3, d4, d5, d6, d7, d8, d9, d10⟩ := fr_facts HK5.out.fb
            have f1 := frozen_of_row _ _ 1 _ _ HK5.out.fb
            have f2 := frozen_of_row _ _ 2 _ _ HK5.out.fb
            have f3 := frozen_of_row _ _ 3 _ _ HK5.out.fb
            have f4 := frozen_of_row _ _ 4 _ _ HK5.out.fb
            have f5 := frozen_of_row _ _ 5 _ _ HK5.out.fb
            have f6 := frozen_of_row _ _ 6 _ _ HK5.out.fb
            have f7 := frozen_of_row _ _ 7 _ _ HK5.out.fb
            have f8 := frozen_of_row _ _ 8 _ _ HK5.out.fb
            have f9 := frozen_of_row _ _ 9 _ _ HK5.out.fb
            have f10 := frozen_of_row _ _ 10 _ _ HK5.out.fb
            clear hs HK4 hWf2
            go_wp2_with fail
            go_meet
            exact ⟨vr, r, P2, by omega, HK6⟩
          · have c0 := (fr_facts HK4.out.fb).1
            have A0 := (World.grownBy_alloc w8 (.cells #[.int .i64 0, .int .i64 1, .int .i64 2, .int .i64 99, .int .i64 100] 3) none).cell c0 (by simp)
            have hrl : r.length ≤ 4 := by omega
            have HT8 := Lib.hid (HK4.out.st.2.alloc (.cells #[.int .i64 0, .int .i64 1, .int .i64 2, .int .i64 99, .int .i64 100] 3)).drew
            have HA8 : Hid (Among I64 (w8.alloc (.cells #[.int .i64 0, .int .i64 1, .int .i64 2, .int .i64 99, .int .i64 100] 3)).drew a w8.heap.size 0 5) := Lib.hid (among_list I64 w8 a [0, 1, 2, 99, 100] #[.int .i64 0, .int .i64 1, .int .i64 2, .int .i64 99, .int .i64 100] 3 HK4.out.st.2.lt rfl (by intro x hx; simp at hx; unfold I64; omega))
            go_wp2_with fail
            go_region_law (first
              | (go_simp; go_at_call 25; refine (pick_any I64 a _ 0 5 5 (by omega) (by omega) _ HT8.out HA8.out).mono ?_; rintro e w9 ⟨x, rfl, hx, hsk⟩; have HK5 := Lib.hid (HK4.out.tape ha HWB hBb (St.alloc_left (w := w8) (show St a (w8.alloc _) w9 from ⟨⟨hsk.1.os, hsk.1.tape, hsk.1.output, hsk.1.size, hsk.1.block⟩, hsk.2⟩))); have c9 := (fr_facts HK5.out.fb).1; have A9 := (World.grownBy_alloc w9 (.cells #[.int .i64 x] 3) none).cell c9 (by simp); have hown9 := HK5.out.own; have hsz9 := HK5.out.sz)
              | (refine step_append_lies _ rfl _ _ 22 rfl base 3 i0 (.int .i64 0) 1 8 Tryd.underlying22 hi0 hz0 hz1 hz2 rfl (by decide) vr r.length (r.map iv) (by rfl) (hown9.alloc _) ⟨w9.heap.size, 0, none⟩ 1 1 [.int .i64 x] (by rfl) (by rfl) (cell_one w9 _ _) (by intro u hu; simp at hu; subst hu; rfl) (by omega) (by unfold maxLen; omega) (by omega) (by simp; omega) _ rfl ?_; intro g cap w10 hown hgrow hat hlt; have HM := Lib.hid (HK5.out.mid ha HWB hBb hown hgrow); have cB := (fr_facts HM.out.1).1; have fB := frozen_of_row _ _ 0 _ _ HM.out.1))
            all_goals
              have HK6 := Lib.hid (FK.put ha HWB hBb HK5.out.wf HM.out)
              clear hown hgrow hat hlt HM cB fB hsk HK5 HK4 A0 A9 c0 c9 hown9
              go_wp2_with fail
              go_meet
              exact ⟨_, r ++ [x], P, by rw [List.length_append]; simp; omega, HK6⟩
          · go_wp2_with fail
            go_loopw [8] (fun i wr => ∃ k : Nat, k ≤ 25 ∧ i = .int .i64 (k : Int) ∧ ∃ v2 r2, (r2 : List Int).length ≤ 4 + k ∧ Hid (FK a w B base v2 r2 P wr)) (fun i _ => 25 - (intOf i).toNat)
            case atStart => exact ⟨0, by omega, rfl, vr, r, by omega, HK4⟩
            case round =>
              obtain ⟨k, hk, rfl, v2, r2, hr2, hK⟩ := hrel
              clear HK4
              by_cases hk25 : k < 25
              · have c0 := (fr_facts hK.out.fb).1
                have hown0 := hK.out.own
                have hbw : base ≤ wr.heap.size := hK.out.sz
                go_wp2_with (at_builtin; refine wpList_append_own _ rfl _ _ 22 rfl base 3 i0 (.int .i64 0) 1 8 Tryd.underlying22 hi0 hz0 hz1 hz2 rfl (by decide) v2 r2.length (r2.map iv) rfl (hown0.alloc _) ⟨wr.heap.size, 0, none⟩ 1 1 [.int .i64 (50 + (k : Int))] rfl rfl ?c1 ?c2 ?c3 ?c4 ?c5 ?_)
                case c1 => exact cell_one _ _ _
                case c2 => intro u hu; simp at hu; subst hu; rfl
                case c3 => unfold maxLen; omega
                case c4 => omega
                case c5 => simp; omega
                intro v' w9 hown hg _
                obtain ⟨g, cap, rfl⟩ := Joins.ownsRow_form hown (by omega)
                have HM := Lib.hid (hK.out.mid ha HWB hBb hown hg)
                have cB := (fr_facts HM.out.1).1
                have fB := frozen_of_row _ _ 0 _ _ HM.out.1
                have HK2 := Lib.hid (FK.put ha HWB hBb hK.out.wf HM.out)
                clear hown hg HM hK c0 hown0
                go_wp2_with fail
                go_roundw
                case rel =>
                  exact ⟨k + 1, by omega, by go_num, _, r2 ++ [50 + (k : Int)], by rw [List.length_append]; simp; omega, HK2⟩
                case measure => simp [intOf]; omega
              · go_wp2_with fail
                go_meet
                exact ⟨v2, r2, P, by omega, hK⟩
      case rest =>
        obtain ⟨v2, r2, P2, hr2, HK7⟩ := hcut
        obtain ⟨p2, c2, rfl, hn2, hc2, hp2⟩ := owni_facts HK7.out.own
        obtain ⟨d0, d1, d2, d3, d4, d5, d6, d7, d8, d9, d10⟩ := fr_facts HK7.out.fb
        obtain ⟨⟨e0, e1, e2, e3, e4, e5, e6, e7, e8, e9, e10⟩, f0, f1, f2, f3, f4, f5, f6, f7, f8, f9, f10⟩ := zfr_facts HK7.out.rb
        have HN := Lib.hid (And.intro hn2 (And.intro hc2 hp2))
        clear hn2 hc2 hp2
        go_wp2_with fail
        refine bodyPost_ret (res_frame1 rfl _ _ w.heap.size _ rfl rfl (fput_row _ _ _ _ _ _ _ _ _ _ _ HK7.out.rb)) rfl ?_
        exact ⟨r2, P2, p2, c2, rfl, HK7.out.wf, hr2, HN.out.1, HN.out.2.1, ((rd_of_own HK7.out.own).grown (fput_grown _ w.heap.size _ _ _ _ _ _ _ _ _ _ _) (fun b hb e => by have := Option.some.inj e; omega)).mono (fun b hb => by omega), HN.out.2.2, HK7.out.st.store (b := w.heap.size) (fput_grown _ w.heap.size _ _ _ _ _ _ _ _ _ _ _) (Nat.le_refl _) ha⟩
end Go.Proofs.YtpabfjhjehjebaaDoor

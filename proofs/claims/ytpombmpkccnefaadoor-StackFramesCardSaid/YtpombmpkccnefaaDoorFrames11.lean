/- Parts of the proof, packed: StDecL, StDecF, IoOrder. -/
import Derived.Test.YtpombmpkccnefaaDoorFrames6
import Derived.Lib.SmallJoins
import Derived.Test.YtpombmpkccnefaaDoorFrames10
import Derived.Test.YtpombmpkccnefaaDoorFrames9
import Derived.Test.YtpombmpkccnefaaDoorFrames8
/- stack: DecodeLabels. -/
namespace Go.Proofs.YtpombmpkccnefaaDoor
open Go.RowKit Bs
/-- What DecodeLabels returns: the labels lie in memory of the call's own. -/
def DLPost (b : List Nat) (w : World) (e : Ending) (w' : World) : Prop :=
  ∃ v, e = .returned (.tuple #[v, .int .i64 ((4 * (decM b).1 : Nat) : Int), .int .i64 (decM b).2]) ∧ OwnL w' w.heap.size v (labsN b (decM b).1) ∧ w.grownBy w' none
set_option maxRecDepth 100000 in
theorem dl_err {b : List Nat} {w w' : World} {e : Int} (h : decM b = (0, e)) (g : w.grownBy w' none) : DLPost b w (.returned (.tuple #[.slice none 0 0, .int .i64 0, .int .i64 e])) w' := by
  refine ⟨.slice none 0 0, ?_, ?_, g⟩
  · rw [h]; rfl
  · rw [h]; exact World.ownsRow_nil _ _ _ _
set_option maxRecDepth 100000 in
theorem dl_step {b : List Nat} {w wr w1 : World} {k : Nat} {v v' : Value} {o : Obj} {l : Lab} (g : w.grownBy wr none) (h : OwnL wr w.heap.size v (labsN b k)) (hl : l = labN (word4 b k)) (ha : (wr.alloc o).grownBy w1 v.ownBlock)
    (hown : w1.ownsRow w.heap.size 41 3 v' ((labsN b k).length + 1) (labsC (labsN b k) ++ [.int .i64 l.v, .int .i64 l.c, .int .i64 l.h])) : OwnL w1 w.heap.size v' (labsN b (k + 1)) ∧ w.grownBy w1 none := by
  refine ⟨?_, own_step g h ha⟩
  show w1.ownsRow w.heap.size 41 3 v' (labsN b (k + 1)).length (labsC (labsN b (k + 1)))
  rw [labsN_snoc, labsC_snoc, List.length_append, ← hl]
  exact hown
set_option maxRecDepth 100000 in
set_option maxHeartbeats 3200000 in
theorem sdecl_any (L : List Nat) (hL : By L) (p : Option Addr) (c : Nat) (hc : L.length ≤ c) (hcm : c ≤ 9223372036854775807) (q : Nat → Prop) (w : World) (hR : Rd w q (.slice p L.length c) (L.map nv)) :
    Calls Tryd.prog 29 #[.slice p L.length c] w fun e w' => DLPost L w e w' := by
  obtain ⟨i0, hi, hz0, hz1, hz2⟩ := info_parts info_lab
  have HR := Lib.hid hR
  have HL := Lib.hid hL
  have HC := Lib.hid (And.intro hc hcm)
  clear hR hL hc hcm
  have HM : Hid (decM L = decGo L 24 0) := Lib.hid rfl
  go_enter Tryd.func29, Tryd.ntmps29
  go_wp2_with fail
  go_loopw [5, 6] (fun v a wr => ∃ k : Nat, k ≤ 24 ∧ a = .int .i64 ((4 * k : Nat) : Int) ∧ OwnL wr w.heap.size v (labsN L k) ∧ w.grownBy wr none ∧ decM L = decGo L (24 - k) k ∧ ∃ p2 c2, v = .slice p2 k c2) (fun _ a _ => 24 - (intOf a).toNat / 4)
  case atStart => exact ⟨0, by omega, rfl, World.ownsRow_nil _ _ _ _, grown_refl _ _, HM.out, none, 0, rfl⟩
  case round =>
    obtain ⟨k, hk, rfl, hO, hG, hM, p2, c2, rfl⟩ := hrel
    have HO := Lib.hid hO
    have HG := Lib.hid hG
    have HM2 := Lib.hid hM
    clear hO hG hM HM
    by_cases h24 : k < 24
    · by_cases hs : L.length < 4 * k + 4
      · go_wp2_with fail
        go_ret3
        exact dl_err (by rw [HM2.out, show 24 - k = (23 - k) + 1 by omega, decGo, if_pos hs]) HG.out
      · obtain ⟨b, off, rfl, hb, _⟩ := rd_cells HR.out (by omega)
        have hle : 4 * k ≤ L.length := by omega
        have hlc := HC.out.1
        have hlm := Nat.le_trans HC.out.1 HC.out.2
        go_wp2_with fail
        have C := rdlab_any (L.drop (4 * k)) (HL.out.drop _) (by rw [List.length_drop]; omega) q (some ⟨b, off + 4 * k, none⟩) (c - 4 * k) wr (rd_drop (HR.out.keep HG.out) _ _)
        rw [List.length_drop, word4_drop] at C
        refine C.mono ?_
        clear C
        rintro e w1 ⟨rfl, hg1⟩
        obtain ⟨l, hl⟩ : ∃ l, labN (word4 L k) = l := ⟨_, rfl⟩
        obtain ⟨z, hz⟩ : ∃ z, botN (word4 L k) = z := ⟨_, rfl⟩
        rw [hl, hz]
        have HO1 : Hid (OwnL w1 w.heap.size (.slice p2 k c2) (labsN L k)) := Lib.hid (HO.out.kept hg1 (by cases hv : (Value.slice p2 k c2).ownBlock <;> simp))
        have HG1 := Lib.hid (grown_trans HG.out hg1)
        have HLZ := Lib.hid (And.intro hl hz)
        clear hg1 hl hz HO HG
        go_wp2_with (at_builtin; refine wpList_append_own _ rfl _ _ 49 rfl w.heap.size 41 i0 (.agg #[.int .i64 0, .int .i64 0, .int .i64 0]) 3 24 Tryd.underlying49 hi hz0 hz1 hz2 rfl (by decide) (.slice p2 k c2) (labsN L k).length (labsC (labsN L k)) rfl ((HO1.out.alloc _).alloc _) ⟨w1.heap.size + 1, 0, none⟩ 1 1 [.int .i64 l.v, .int .i64 l.c, .int .i64 l.h] rfl rfl ?c1 ?c2 ?c3 ?c4 ?c5 ?_)
        case c1 => rw [← show (w1.alloc (.cells #[.int .i64 l.v, .int .i64 l.c, .int .i64 l.h] 41)).heap.size = w1.heap.size + 1 by simp]; exact cells3 _ _ _ _ _
        case c2 => intro u hu; simp at hu; rcases hu with rfl | rfl | rfl <;> rfl
        case c3 => rw [labsN_len]; unfold maxLen; omega
        case c4 => rw [labsN_len]; omega
        case c5 => have := HG1.out.size; simp; omega
        intro v' w2 hown2 hg2 _
        obtain ⟨O2, G2⟩ := dl_step (grown_trans HG1.out (World.grownBy_alloc w1 _ _)) (HO1.out.alloc _) HLZ.out.1.symm hg2 hown2
        have HO2 := Lib.hid O2
        have HG2 := Lib.hid G2
        have hzz := HLZ.out.2
        clear hown2 hg2 O2 G2 HO1 HG1
        have hM : decM L = if z = true then (k + 1, 0) else decGo L (23 - k) (k + 1) := by
          rw [HM2.out, show 24 - k = (23 - k) + 1 by omega, decGo, if_neg hs, hzz]
        have HM3 := Lib.hid hM
        clear hM hzz HLZ HM2
        cases z
        · go_wp2_with fail
          obtain ⟨g, cap, hv⟩ := Joins.ownsRow_form HO2.out (by rw [labsN_len]; omega)
          rw [labsN_len] at hv
          refine ⟨⟨k + 1, by omega, congrArg _ (by omega), HO2.out, HG2.out, by rw [HM3.out, if_neg (by decide), show 24 - (k + 1) = 23 - k by omega], _, _, hv⟩, ?_⟩
          simp only [intOf]
          omega
        · go_wp2_with fail
          go_ret3
          have e : decM L = (k + 1, 0) := by have := HM3.out; simpa using this
          have e2 : 4 * (k : Int) + 4 = ((4 * (k + 1) : Nat) : Int) := by omega
          refine ⟨v', ?_, ?_, HG2.out⟩
          · show Ending.returned (.tuple #[v', .int .i64 (4 * (k : Int) + 4), .int .i64 0]) = _
            rw [e2, e]
          · rw [e]
            exact HO2.out
    · have hk24 : k = 24 := by omega
      subst hk24
      go_wp2_with fail
      go_ret3
      exact dl_err (by rw [HM2.out]; rfl) HG.out
end Go.Proofs.YtpombmpkccnefaaDoor

/- stack: DecodeFrame. -/
namespace Go.Proofs.YtpombmpkccnefaaDoor
open Go.RowKit Bs
/-- A zero frame's cells. -/
def zfr : Array Value := #[.slice none 0 0, .int .i64 0, .int .i64 0, .int .i64 0, .int .i64 0, .int .i64 0, .int .i64 0, .int .i64 0, .int .i64 0, .int .u64 0, .string ⟨#[]⟩]
/-- What DecodeFrame returns. -/
def DFPost (L : List Nat) (w : World) (e : Ending) (w' : World) : Prop :=
  ∃ p c, e = .returned (.tuple #[.agg (#[.slice p (decF L).1.length c] ++ (decF L).2.1), .int .i64 (decF L).2.2]) ∧ Rd w' (w.heap.size ≤ ·) (.slice p (decF L).1.length c) ((decF L).1.map iv) ∧ (decF L).1.length ≤ c ∧ c ≤ 9223372036854775807 ∧ (p = none → c = 0) ∧ w.grownBy w' none
set_option maxRecDepth 100000 in
theorem df_err {L : List Nat} {w w' : World} {x : Int} (h : decF L = ([], zpk, x)) (g : w.grownBy w' none) : DFPost L w (.returned (.tuple #[.agg zfr, .int .i64 x])) w' := by
  refine ⟨none, 0, by rw [h]; rfl, ?_, by rw [h]; exact Nat.le_refl _, by omega, fun _ => rfl, g⟩
  rw [h]
  exact Rd.nil_ _ _ _ _
set_option maxRecDepth 100000 in
theorem frame_size : (Tryd.prog.info? 43).map (·.size) = some 11 := by kernel_rfl
set_option maxRecDepth 100000 in
theorem res_frame_err {fn : Func} {p u : Tmp} (h : fn.results = #[.cell p 43, .tmp u]) (tmps : Array Value) (w : World) (g : Nat) (xs : Array Value) (hp : tmps.getD p undef = .pointer (some ⟨g, 0, none⟩)) (hn : xs.size = 11) (hg : w.heap[g]? = some (.cells xs 43 (0, 0))) :
    (results fn tmps).run Tryd.prog w = .ok (.tuple #[.agg xs, tmps.getD u undef]) w := by
  have hp' : tmps[p]?.getD undef = .pointer (some ⟨g, 0, none⟩) := by simpa using hp
  rw [results_cell_tmp h]
  simp [hp', asAddr, run_loadVar_row w g _ _ _ _ _ hg Tryd.underlying43 rfl (by rw [hn]; exact frame_size), Result.andThen]
/-- A frame is stored. -/
def fput (w : World) (h : Nat) (v v0 v1 v2 v3 v4 v5 v6 v7 v8 v9 : Value) : World :=
  (((((((((((w.setCell ⟨h, 0, none⟩ v).setCell ⟨h, 1, none⟩ v0).setCell ⟨h, 2, none⟩ v1).setCell ⟨h, 3, none⟩ v2).setCell ⟨h, 4, none⟩ v3).setCell ⟨h, 5, none⟩ v4).setCell ⟨h, 6, none⟩ v5).setCell ⟨h, 7, none⟩ v6).setCell ⟨h, 8, none⟩ v7).setCell ⟨h, 9, none⟩ v8).setCell ⟨h, 10, none⟩ v9)
set_option maxRecDepth 100000 in
theorem fput_row {w : World} {h : Nat} (v v0 v1 v2 v3 v4 v5 v6 v7 v8 v9 : Value) (hr : Row w h 43 zfr.toList) : Row (fput w h v v0 v1 v2 v3 v4 v5 v6 v7 v8 v9) h 43 [v, v0, v1, v2, v3, v4, v5, v6, v7, v8, v9] :=
  ((((((((((hr.set 0 v).set 1 v0).set 2 v1).set 3 v2).set 4 v3).set 5 v4).set 6 v5).set 7 v6).set 8 v7).set 9 v8).set 10 v9
set_option maxRecDepth 100000 in
theorem fput_grown (w : World) (h : Nat) (v v0 v1 v2 v3 v4 v5 v6 v7 v8 v9 : Value) : w.grownBy (fput w h v v0 v1 v2 v3 v4 v5 v6 v7 v8 v9) (some h) := by
  unfold fput
  have S : ∀ (u : World) (j : Nat) (x : Value), u.grownBy (u.setCell ⟨h, j, none⟩ x) (some h) := fun u j x => grown_setCell u ⟨h, j, none⟩ x
  exact grown_trans (grown_trans (grown_trans (grown_trans (grown_trans (grown_trans (grown_trans (grown_trans (grown_trans (grown_trans (S _ _ _) (S _ _ _)) (S _ _ _)) (S _ _ _)) (S _ _ _)) (S _ _ _)) (S _ _ _)) (S _ _ _)) (S _ _ _)) (S _ _ _)) (S _ _ _)
set_option maxRecDepth 100000 in
theorem zfr_facts {w : World} {b : Nat} (h : Row w b 43 zfr.toList) :
    (w.cell? ⟨b, 0, none⟩ = some (.slice none 0 0) ∧ w.cell? ⟨b, 1, none⟩ = some (.int .i64 0) ∧ w.cell? ⟨b, 2, none⟩ = some (.int .i64 0) ∧ w.cell? ⟨b, 3, none⟩ = some (.int .i64 0) ∧ w.cell? ⟨b, 4, none⟩ = some (.int .i64 0) ∧ w.cell? ⟨b, 5, none⟩ = some (.int .i64 0) ∧ w.cell? ⟨b, 6, none⟩ = some (.int .i64 0) ∧ w.cell? ⟨b, 7, none⟩ = some (.int .i64 0) ∧ w.cell? ⟨b, 8, none⟩ = some (.int .i64 0) ∧ w.cell? ⟨b, 9, none⟩ = some (.int .u64 0) ∧ w.cell? ⟨b, 10, none⟩ = some (.string ⟨#[]⟩)) ∧
    (w.frozen? ⟨b, 0, none⟩ = false ∧ w.frozen? ⟨b, 1, none⟩ = false ∧ w.frozen? ⟨b, 2, none⟩ = false ∧ w.frozen? ⟨b, 3, none⟩ = false ∧ w.frozen? ⟨b, 4, none⟩ = false ∧ w.frozen? ⟨b, 5, none⟩ = false ∧ w.frozen? ⟨b, 6, none⟩ = false ∧ w.frozen? ⟨b, 7, none⟩ = false ∧ w.frozen? ⟨b, 8, none⟩ = false ∧ w.frozen? ⟨b, 9, none⟩ = false ∧ w.frozen? ⟨b, 10, none⟩ = false) :=
  ⟨⟨h.cell rfl, h.cell rfl, h.cell rfl, h.cell rfl, h.cell rfl, h.cell rfl, h.cell rfl, h.cell rfl, h.cell rfl, h.cell rfl, h.cell rfl⟩, h.frozen _, h.frozen _, h.frozen _, h.frozen _, h.frozen _, h.frozen _, h.frozen _, h.frozen _, h.frozen _, h.frozen _, h.frozen _⟩
/-- While a frame is decoded: the result's block is zero still. -/
structure DF (W : World) (w : World) : Prop where
  row : Row w W.heap.size 43 zfr.toList
  gr : W.grownBy w none
set_option maxRecDepth 100000 in
theorem DF.keep {W w w' : World} (h : DF W w) (g : w.grownBy w' none) : DF W w' := ⟨h.row.kept g (by simp), grown_trans h.gr g⟩
set_option maxRecDepth 100000 in
theorem DF.err {L : List Nat} {W w : World} {x : Int} (h : DF W w) (hx : decF L = ([], zpk, x)) :
    Row (fput w W.heap.size (.slice none 0 0) (.int .i64 0) (.int .i64 0) (.int .i64 0) (.int .i64 0) (.int .i64 0) (.int .i64 0) (.int .i64 0) (.int .i64 0) (.int .u64 0) (.string ⟨#[]⟩)) W.heap.size 43 zfr.toList ∧
      DFPost L W (.returned (.tuple #[.agg zfr, .int .i64 x])) (fput w W.heap.size (.slice none 0 0) (.int .i64 0) (.int .i64 0) (.int .i64 0) (.int .i64 0) (.int .i64 0) (.int .i64 0) (.int .i64 0) (.int .i64 0) (.int .u64 0) (.string ⟨#[]⟩)) :=
  ⟨fput_row _ _ _ _ _ _ _ _ _ _ _ h.row, df_err hx (grown_new h.gr (fput_grown _ _ _ _ _ _ _ _ _ _ _ _ _) (Nat.le_refl _))⟩
set_option maxRecDepth 100000 in
theorem dec_form3 (l : List Nat) : ∃ (m0 m1 m2 m3 m4 m5 m6 m7 m8 : Int) (s9 : ByteArray), (decV l).1 = #[.int .i64 m0, .int .i64 m1, .int .i64 m2, .int .i64 m3, .int .i64 m4, .int .i64 m5, .int .i64 m6, .int .i64 m7, .int .u64 m8, .string s9] := by
  unfold decV
  split
  · exact ⟨_, _, _, _, _, _, _, _, _, _, rfl⟩
  · split
    · exact ⟨_, _, _, _, _, _, _, _, _, _, rfl⟩
    · split
      · exact ⟨_, _, _, _, _, _, _, _, _, _, rfl⟩
      · split
        · exact ⟨_, _, _, _, _, _, _, _, _, _, rfl⟩
        · split
          · exact ⟨_, _, _, _, _, _, _, _, _, _, rfl⟩
          · unfold restV
            split
            · exact ⟨_, _, _, _, _, _, _, _, _, _, rfl⟩
            · exact ⟨_, _, _, _, _, _, _, _, _, _, rfl⟩
/-- What the last part of a frame's reading needs. -/
structure DR2 (L : List Nat) (W : World) (r : List Int) (B : List Nat) (p1 p2 : Option Addr) (c1 c2 : Nat) (w : World) : Prop where
  dec : decF L = finF r B
  by_ : By B
  le : B.length ≤ c2
  rd : Rd w (fun _ => True) (.slice p2 B.length c2) (B.map nv)
  rt : Rd w (W.heap.size < ·) (.slice p1 r.length c1) (r.map iv)
  rle : r.length ≤ c1
  cmax : c1 ≤ 9223372036854775807
  pc : p1 = none → c1 = 0
  df : DF W w
set_option maxRecDepth 100000 in
theorem rd_drop2 {w : World} {q : Nat → Prop} {p : Option Addr} {n c : Nat} {B : List Nat} (h : Rd w q (.slice p n c) (B.map nv)) (k c2 : Nat) : Rd w q (.slice (p.map (fun x => x.add k)) (B.drop k).length c2) ((B.drop k).map nv) := by
  by_cases hne : (B.drop k).length = 0
  · have e := List.eq_nil_of_length_eq_zero hne
    rw [e]
    exact Rd.nil_ _ _ _ _
  · obtain ⟨b, off, rfl, _⟩ := rd_cells h (by rw [List.length_drop] at hne; omega)
    show Rd w q (.slice (some ((⟨b, off, none⟩ : Addr).add k)) _ c2) _
    rw [add_plain]
    exact rd_drop h k c2
set_option maxRecDepth 100000 in
theorem rd_nil2 {w : World} {q : Nat → Prop} {p : Option Addr} {n c : Nat} {B : List Nat} (h : B.length = 0) (hn : n = B.length) : Rd w q (.slice p n c) (B.map nv) := by
  have e := List.eq_nil_of_length_eq_zero h
  subst e
  subst hn
  exact Rd.nil_ _ _ _ _
set_option maxRecDepth 100000 in
set_option maxHeartbeats 3200000 in
theorem sdecf_any (L : List Nat) (hL : By L) (p : Option Addr) (c : Nat) (hc : L.length ≤ c) (hcm : c ≤ 9223372036854775807) (q : Nat → Prop) (w : World) (hR : Rd w q (.slice p L.length c) (L.map nv)) :
    Calls Tryd.prog 34 #[.slice p L.length c] w fun e w' => DFPost L w e w' := by
  obtain ⟨k1, k2⟩ := sone_box w zfr 43
  have HD : Hid (DF w (w.alloc (.cells zfr 43))) := Lib.hid ⟨k1, k2⟩
  have HR := Lib.hid (hR.keep k2)
  have HL := Lib.hid hL
  have HC := Lib.hid (And.intro hc hcm)
  have hlm := Nat.le_trans hc hcm
  unfold zfr at HD HR
  clear k1 k2 hR hL hcm
  go_enter Tryd.func34, Tryd.ntmps34
  go_upto_region 1 with fail
  generalize w.alloc _ = wa at *
  obtain ⟨⟨d0, d1, d2, d3, d4, d5, d6, d7, d8, d9, d10⟩, f0, f1, f2, f3, f4, f5, f6, f7, f8, f9, f10⟩ := zfr_facts HD.out.row
  by_cases h0 : L.length = 0
  · have HE := Lib.hid (HD.out.err (L := L) (x := 20) (by unfold decF; rw [if_pos h0]))
    go_wp2_with fail
    refine bodyPost_ret (res_frame_err rfl _ _ w.heap.size zfr rfl rfl HE.out.1) rfl ?_
    exact HE.out.2
  · obtain ⟨b, off, rfl, hq, hcc⟩ := rd_cells HR.out (by omega)
    have c0 := hcc 0 (by omega)
    rw [Nat.add_zero] at c0
    have hpos : 0 < L.length := by omega
    have HF : Hid (decF L = decH (L.getD 0 0) (L.drop 1)) := Lib.hid (by unfold decF; rw [if_neg h0])
    have hx9 := HL.out.at_ hpos
    clear hcc
    generalize L.getD 0 0 = x at *
    by_cases hx : 1 < x
    · have HE := Lib.hid (HD.out.err (L := L) (x := 22) (by rw [HF.out]; unfold decH; rw [if_pos hx]))
      have hx0 : ((x : Int) != 0) = true := by simp; omega
      have hx1 : ((x : Int) != 1) = true := by simp; omega
      go_wp2_with fail
      refine bodyPost_ret (res_frame_err rfl _ _ w.heap.size zfr rfl rfl HE.out.1) rfl ?_
      exact HE.out.2
    · have hx01 : x = 0 ∨ x = 1 := by omega
      have hl0 : ((L.length : Int) == 0) = false := by simp; intro e; exact h0 (by rw [e]; rfl)
      go_upto_region 3 with fail
      first | rw [hl0] | skip
      go_cut [24] from 15 to 24 (fun bb wx => bb = .bool false ∧ wx = wa)
      case first =>
        rcases hx01 with rfl | rfl
        · have c0' : wa.cell? ⟨b, off, none⟩ = some (.int .u8 0) := c0
          clear c0
          go_wp2_with fail
          go_meet
          exact ⟨rfl, rfl⟩
        · have c0' : wa.cell? ⟨b, off, none⟩ = some (.int .u8 1) := c0
          clear c0
          go_wp2_with fail
          go_meet
          exact ⟨rfl, rfl⟩
      case rest =>
      obtain ⟨rfl, rfl⟩ := hcut
      go_upto_region 6 with fail
      have hB1 : (L.drop 1).length = L.length - 1 := List.length_drop
      go_cut [5] from 26 to 27 (fun rr wx => ∃ pt : Option Addr, rr = .slice pt (L.length - 1) (c - 1) ∧ wx = wc ∧ Hid (Rd wc q (.slice pt (L.drop 1).length (c - 1)) ((L.drop 1).map nv)))
      case first =>
        by_cases hc1 : c = 1
        · subst hc1
          go_wp2_with fail
          go_meet
          exact ⟨some ⟨b, off, none⟩, by rw [show L.length - 1 = 0 by omega], rfl, Lib.hid (rd_nil2 (by omega) rfl)⟩
        · have hc2 : ¬ c - 1 = 0 := by omega
          go_wp2_with fail
          go_meet
          exact ⟨_, rfl, rfl, Lib.hid (rd_drop HR.out 1 (c - 1))⟩
      case rest =>
      obtain ⟨pt, rfl, rfl, HRT⟩ := hcut
      obtain ⟨B, hB⟩ : ∃ B, L.drop 1 = B := ⟨_, rfl⟩
      have hBy : By B := by rw [← hB]; exact HL.out.drop 1
      rw [hB] at HF HRT hB1
      obtain ⟨n, hn⟩ : ∃ n, L.length - 1 = n := ⟨_, rfl⟩
      obtain ⟨cB, hcB⟩ : ∃ cB, c - 1 = cB := ⟨_, rfl⟩
      have hbc : B.length ≤ cB := by omega
      have hbm : cB ≤ 9223372036854775807 := by have := HC.out.2; omega
      rw [hn] at hB1 ⊢
      rw [hcB] at HRT ⊢
      subst hB1
      clear hB hn hcB hq
      go_upto_if 31 with fail
      have HBB := Lib.hid (And.intro hBy (And.intro hbc hbm))
      go_cut [4, 5, 6, 7, 8] from 28 to 51 (fun rt rr l6 s7 e8 wx => ∃ r B2 p1 p2 c1 c2, rt = .slice p1 r.length c1 ∧ rr = .slice p2 B2.length c2 ∧ Hid (DR2 L w r B2 p1 p2 c1 c2 wx))
      case first =>
        rcases hx01 with rfl | rfl
        · have c0' : wc.cell? ⟨b, off, none⟩ = some (.int .u8 0) := c0
          clear c0
          go_wp2_with fail
          go_meet
          exact ⟨[], B, none, pt, 0, cB, rfl, rfl, Lib.hid ⟨by rw [HF.out]; rfl, HBB.out.1, HBB.out.2.1, HRT.out.mono fun _ _ => trivial, Rd.nil_ _ _ _ _, Nat.le_refl _, by omega, fun _ => rfl, HD.out⟩⟩
        · have c0' : wc.cell? ⟨b, off, none⟩ = some (.int .u8 1) := c0
          clear c0
          go_wp2_with fail
          refine (sdecl_any B HBB.out.1 pt cB HBB.out.2.1 HBB.out.2.2 q wc HRT.out).mono ?_
          rintro e w1 ⟨v, rfl, hO, hg⟩
          have hDM := decGo_le B 24 0
          obtain ⟨m, e2, hM⟩ : ∃ m e2, decM B = (m, e2) := ⟨_, _, rfl⟩
          rw [show decGo B 24 0 = decM B from rfl, hM] at hDM
          obtain ⟨m1, m2, m3, -⟩ := hDM
          rw [hM] at hO ⊢
          obtain ⟨ls, hls⟩ : ∃ ls, labsN B m = ls := ⟨_, rfl⟩
          have hll : ls.length = m := by rw [← hls, labsN_len]
          have hlv : ∀ l ∈ ls, vlab l = true := by
            intro l hl
            rw [← hls] at hl
            obtain ⟨i, _, rfl⟩ := List.mem_map.1 hl
            exact labN_v (word4_lt HBB.out.1 i)
          have hH : decF L = (if e2 = 0 then (if (rtV ls).2 = 0 then finF (rtV ls).1 (B.drop (4 * m)) else ([], zpk, (rtV ls).2)) else ([], zpk, e2)) := by
            rw [HF.out]
            show decH 1 B = _
            unfold decH
            rw [if_neg (by decide), if_pos rfl, hM]
            simp only
            rw [hls]
          rw [show (m, e2).1 = m from rfl, hls] at hO
          obtain ⟨pl, cl, rfl, hx⟩ := rdk_of_own hO
          have hRL : RdL w1 (wc.heap.size ≤ ·) (.slice pl ls.length cl) ls := ⟨pl, cl, rfl, hx⟩
          have HDD := Lib.hid (HD.out.keep hg)
          have HK1 := Lib.hid (And.intro hRL (And.intro hlv hH))
          have HRT1 := Lib.hid (HRT.out.keep hg)
          have HMM := Lib.hid (And.intro m1 m2)
          have h24 : ls.length ≤ 24 := by simp only at m1; omega
          clear hO hx hRL hlv hH hg hls hM HF m1 m2 HRT HD d0 d1 d2 d3 d4 d5 d6 d7 d8 d9 d10 f0 f1 f2 f3 f4 f5 f6 f7 f8 f9 f10 c0'
          simp only
          by_cases he : e2 = 0
          · subst he
            go_wp2_with fail
            have C := srtof_any ls HK1.out.2.1 h24 pl cl _ w1 HK1.out.1
            rw [hll] at C
            refine C.mono ?_
            clear C
            rintro e w2 ⟨p3, c3, rfl, hRr, hle3, hm3, hp3, hg3⟩
            obtain ⟨r, e3, hr⟩ : ∃ r e3, rtV ls = (r, e3) := ⟨_, _, rfl⟩
            have hH := HK1.out.2.2
            rw [if_pos trivial, hr] at hH
            rw [hr] at hRr hle3 ⊢
            simp only at hH hRr hle3 ⊢
            have HDD2 := Lib.hid (HDD.out.keep hg3)
            have HRT2 := Lib.hid (HRT1.out.keep hg3)
            have HR3 := Lib.hid (And.intro (hRr.mono (q' := (w.heap.size < ·)) (fun b hb => Nat.lt_of_lt_of_le HDD.out.row.lt hb)) (And.intro hle3 (And.intro hm3 hp3)))
            have HH := Lib.hid hH
            clear hRr hle3 hm3 hp3 hg3 hr hH HK1 HDD HRT1
            by_cases he3 : e3 = 0
            · subst he3
              have h4 : 4 * m ≤ B.length := HMM.out.2
              have hlb : B.length ≤ 9223372036854775807 := by omega
              by_cases hcap : cB - 4 * m = 0
              · go_wp2_with fail
                go_meet
                exact ⟨r, B.drop (4 * m), p3, pt, c3, 0, rfl, by rw [List.length_drop], Lib.hid ⟨by have := HH.out; simpa using this, HBB.out.1.drop _, by rw [List.length_drop]; omega, rd_nil2 (by rw [List.length_drop]; omega) rfl, HR3.out.1, HR3.out.2.1, HR3.out.2.2.1, HR3.out.2.2.2, HDD2.out⟩⟩
              · go_wp2_with fail
                go_meet
                exact ⟨r, B.drop (4 * m), p3, pt.map (fun x => x.add (4 * m)), c3, cB - 4 * m, rfl, by rw [List.length_drop], Lib.hid ⟨by have := HH.out; simpa using this, HBB.out.1.drop _, by rw [List.length_drop]; omega, (rd_drop2 HRT2.out (4 * m) _).mono (fun _ _ => trivial), HR3.out.1, HR3.out.2.1, HR3.out.2.2.1, HR3.out.2.2.2, HDD2.out⟩⟩
            · have heb : (e3 == 0) = false := by simpa using he3
              have hen : (e3 != 0) = true := by simpa using he3
              have HE := Lib.hid (HDD2.out.err (L := L) (x := e3) (by rw [HH.out, if_neg he3]))
              obtain ⟨⟨d0, d1, d2, d3, d4, d5, d6, d7, d8, d9, d10⟩, f0, f1, f2, f3, f4, f5, f6, f7, f8, f9, f10⟩ := zfr_facts HDD2.out.row
              go_wp2_with fail
              refine bodyPost_ret (res_frame_err rfl _ _ w.heap.size zfr rfl rfl HE.out.1) rfl ?_
              exact HE.out.2
          · have heb : (e2 == 0) = false := by simpa using he
            have hen : (e2 != 0) = true := by simpa using he
            have HE := Lib.hid (HDD.out.err (L := L) (x := e2) (by rw [HK1.out.2.2, if_neg he]))
            obtain ⟨⟨d0, d1, d2, d3, d4, d5, d6, d7, d8, d9, d10⟩, f0, f1, f2, f3, f4, f5, f6, f7, f8, f9, f10⟩ := zfr_facts HDD.out.row
            go_wp2_with fail
            refine bodyPost_ret (res_frame_err rfl _ _ w.heap.size zfr rfl rfl HE.out.1) rfl ?_
            exact HE.out.2
      case rest =>
        obtain ⟨r, B2, p1, p2, c1, c2, rfl, rfl, H⟩ := hcut
        have hle := H.out.le
        clear HD HRT HBB c0 d0 d1 d2 d3 d4 d5 d6 d7 d8 d9 d10 f0 f1 f2 f3 f4 f5 f6 f7 f8 f9 f10
        obtain ⟨X, y, hXy⟩ : ∃ X y, decV B2 = (X, y) := ⟨_, _, rfl⟩
        obtain ⟨n0, n1, n2, n3, n4, n5, n6, n7, n8, s9, hX⟩ := dec_form3 B2
        have C := fun w0 h => pdecode_any B2 H.out.by_ p2 c2 hle (fun _ => True) w0 h
        rw [hXy] at C hX
        simp only at C hX
        subst hX
        have HXY := Lib.hid hXy
        clear hXy
        go_wp2_with fail
        refine (C _ H.out.rd).mono ?_
        clear C
        rintro e w3 ⟨rfl, hg⟩
        go_upto_region 15 with fail
        obtain ⟨k1, k2⟩ := sone_box w3 #[.int .i64 n0, .int .i64 n1, .int .i64 n2, .int .i64 n3, .int .i64 n4, .int .i64 n5, .int .i64 n6, .int .i64 n7, .int .u64 n8, .string s9] 31
        have HDF := Lib.hid (H.out.df.keep (grown_trans hg k2))
        have HRR := Lib.hid (H.out.rt.keep (grown_trans hg k2))
        have a0 := cell_of_row _ _ 0 _ _ _ k1
        have a1 := cell_of_row _ _ 1 _ _ _ k1
        have a2 := cell_of_row _ _ 2 _ _ _ k1
        have a3 := cell_of_row _ _ 3 _ _ _ k1
        have a4 := cell_of_row _ _ 4 _ _ _ k1
        have a5 := cell_of_row _ _ 5 _ _ _ k1
        have a6 := cell_of_row _ _ 6 _ _ _ k1
        have a7 := cell_of_row _ _ 7 _ _ _ k1
        have a8 := cell_of_row _ _ 8 _ _ _ k1
        have a9 := cell_of_row _ _ 9 _ _ _ k1
        simp only [List.getElem?_toArray, List.getElem?_cons_zero, List.getElem?_cons_succ] at a0 a1 a2 a3 a4 a5 a6 a7 a8 a9
        have HDC : Hid (decF L = if y = 0 then (r, #[.int .i64 n0, .int .i64 n1, .int .i64 n2, .int .i64 n3, .int .i64 n4, .int .i64 n5, .int .i64 n6, .int .i64 n7, .int .u64 n8, .string s9], 0) else ([], zpk, y)) := by
          refine Lib.hid ?_
          rw [H.out.dec]
          unfold finF
          rw [HXY.out]
        have HR4 := Lib.hid (And.intro H.out.rle (And.intro H.out.cmax H.out.pc))
        clear hg k1 k2 H HXY
        generalize w3.alloc _ = w4 at *
        obtain ⟨⟨d0, d1, d2, d3, d4, d5, d6, d7, d8, d9, d10⟩, f0, f1, f2, f3, f4, f5, f6, f7, f8, f9, f10⟩ := zfr_facts HDF.out.row
        by_cases hy : y = 0
        · subst hy
          go_wp2_with fail
          refine bodyPost_ret (res_frame_err rfl _ _ w.heap.size _ rfl rfl (fput_row _ _ _ _ _ _ _ _ _ _ _ HDF.out.row)) rfl ?_
          have hd := HDC.out
          rw [if_pos trivial] at hd
          refine ⟨p1, c1, by rw [hd]; rfl, ?_, by rw [hd]; exact HR4.out.1, HR4.out.2.1, HR4.out.2.2, grown_new HDF.out.gr (fput_grown _ _ _ _ _ _ _ _ _ _ _ _ _) (Nat.le_refl _)⟩
          rw [hd]
          exact (HRR.out.grown (fput_grown _ w.heap.size _ _ _ _ _ _ _ _ _ _ _) (fun b hb e => by have := Option.some.inj e; omega)).mono (fun b hb => Nat.le_of_lt hb)
        · have hyb : (y == 0) = false := by simpa using hy
          have hyn : (y != 0) = true := by simpa using hy
          have HE := Lib.hid (HDF.out.err (L := L) (x := y) (by rw [HDC.out, if_neg hy]))
          go_wp2_with fail
          refine bodyPost_ret (res_frame_err rfl _ _ w.heap.size zfr rfl rfl HE.out.1) rfl ?_
          exact HE.out.2
end Go.Proofs.YtpombmpkccnefaaDoor

/- The tape's orders. -/
namespace Go.Proofs.YtpombmpkccnefaaDoor
open Go.RowKit Bs
/-- An order of the first numbers. -/
def Ord (l : List Nat) (i : Nat) : Prop := l.length = i ∧ l.Nodup ∧ ∀ x ∈ l, x < i
set_option maxRecDepth 100000 in
theorem ord_next {l : List Nat} {i k : Nat} (h : Ord l i) : Ord (l.take k ++ [i] ++ l.drop k) (i + 1) := by
  obtain ⟨h1, h2, h3⟩ := h
  refine ⟨?_, ?_, ?_⟩
  · simp; omega
  · have e : (l.take k ++ [i] ++ l.drop k).Perm (i :: l) := by
      rw [List.append_assoc]
      have e2 : (l.take k ++ ([i] ++ l.drop k)).Perm (([i] ++ l.drop k) ++ l.take k) := List.perm_append_comm
      refine e2.trans ?_
      rw [List.append_assoc]
      show (i :: (l.drop k ++ l.take k)).Perm (i :: l)
      refine List.Perm.cons i ?_
      refine List.perm_append_comm.trans ?_
      rw [List.take_append_drop]
    rw [e.nodup_iff, List.nodup_cons]
    exact ⟨fun hm => by have := h3 i hm; omega, h2⟩
  · intro x hx
    rw [List.mem_append, List.mem_append] at hx
    rcases hx with (hx | hx) | hx
    · have := h3 x (List.mem_of_mem_take hx); omega
    · have : x = i := by simpa using hx
      omega
    · have := h3 x (List.mem_of_mem_drop hx); omega
/-- The slice v is an order of the first i numbers, in a row of the call's own. -/
def OrdRel (a : Nat) (W : World) (i : Nat) (v : Value) (w' : World) : Prop := ∃ l, Ord l i ∧ w'.ownsRow W.heap.size 3 1 v i (l.map zv) ∧ (i = 0 → v = .slice none 0 0) ∧ St a W w'
def OrdPost (a : Nat) (n : Nat) (W : World) (e : Ending) (w' : World) : Prop := ∃ v, e = .returned v ∧ OrdRel a W n v w'
set_option maxRecDepth 100000 in
set_option maxHeartbeats 3200000 in
theorem order_any (a n : Nat) (hn : n ≤ 1000) (w : World) (hT : Tp w a) :
    Calls Tryd.prog 72 #[.pointer (some ⟨a, 0, none⟩), .int .i64 (n : Int)] w fun e w' => OrdPost a n w e w' := by
  have ha := hT.lt
  have hS0 : Hid (OrdRel a w 0 (.slice none 0 0) w) := Lib.hid ⟨[], ⟨rfl, List.nodup_nil, fun x hx => by cases hx⟩, World.ownsRow_nil _ _ _ _, fun _ => rfl, grown_refl _ _, hT⟩
  clear hT
  go_enter Tryd.func72, Tryd.ntmps72
  go_wp2_with fail
  go_loopw [5, 6] (fun v i wr => ∃ j : Nat, j ≤ n ∧ i = .int .i64 (j : Int) ∧ OrdRel a w j v wr) (fun _ i _ => (n - (intOf i).toNat))
  case atStart => exact ⟨0, Nat.zero_le _, rfl, hS0.out⟩
  case round =>
    obtain ⟨j, hj, rfl, hR⟩ := hrel
    have HR := Lib.hid hR
    clear hR hS0
    by_cases hlt : j < n
    · obtain ⟨l, hO, hown, hv0, hSt⟩ := HR.out
      have HO := Lib.hid hO
      have hT := hSt.2
      have HOWN := Lib.hid hown
      have HST := Lib.hid hSt
      clear hO hown hSt HR
      go_wp2_with fail
      refine (next_any a ((j : Int) + 1) (by unfold I64; omega) _ hT).mono ?_
      rintro e w3 ⟨r, rfl, hr, hs⟩
      obtain ⟨k, rfl⟩ := Int.eq_ofNat_of_zero_le hr.1
      have hkj : k ≤ j := by have := hr.2.1 (by omega); omega
      have HS3 := Lib.hid (HST.out.trans hs)
      have HOWN3 := Lib.hid (own_kept ha HOWN.out hs.1)
      clear hr hs hT HST HOWN
      by_cases hj0 : j = 0
      · subst hj0
        obtain rfl : k = 0 := by omega
        obtain rfl := hv0 rfl
        have hl : l = [] := List.eq_nil_of_length_eq_zero HO.out.1
        clear hv0
        obtain ⟨i0, hi, hz0, hz1, hz2⟩ := info_parts info_int
        have hsz3 := Lib.hid HS3.out.1.size
        go_wp2_with (first
          | (at_builtin; refine wpList_append_own_none rfl _ _ 22 rfl w3.heap.size 3 i0 1 Tryd.underlying22 hi (.slice none 0 0) 0 [] rfl (World.ownsRow_nil _ _ _ _) rfl ?_)
          | (at_builtin; refine wpList_append_ints rfl _ _ rfl w3.heap.size (.slice none 0 0) 0 [] rfl (World.ownsRow_nil _ _ _ _) (some ⟨w3.heap.size, 0, none⟩) 1 1 [0] rfl rfl (by intro h; cases h) (by intro ad h; obtain rfl := Option.some.inj h; exact cell_one _ _ _) (by simp) (by simp) ?_; intro v2 w5 hown2 hg2; have HOWN2 := Lib.hid hown2; have HG2 := Lib.hid (grown_trans (World.grownBy_alloc w3 _ none) hg2); clear hown2 hg2)
          | (at_builtin; refine wpList_append_own_none rfl _ _ 22 rfl w3.heap.size 3 i0 1 Tryd.underlying22 hi v2 1 [zv 0] rfl HOWN2.out rfl ?_))
        go_roundw
        case rel =>
          refine ⟨1, by omega, rfl, [0], ⟨rfl, by simp, by simp⟩, ?_, by omega, ?_⟩
          · exact HOWN2.out.mono hsz3.out
          · exact ⟨grown_trans HS3.out.1 (grown_none HG2.out _), HS3.out.2.keep HG2.out⟩
        case measure => simp [intOf]; omega
      · have hj1 : 0 < j := by omega
        obtain ⟨g, cap, rfl, hgb⟩ := own_form HOWN3.out hj1
        obtain ⟨hcap1, hcap2⟩ := own_cap HOWN3.out
        have hcap3 : cap ≤ 9223372036854775807 := by unfold maxLen at hcap2; omega
        have hgl := (HOWN3.out.lt g rfl).2
        have hll := HO.out.1
        have HLL := Lib.hid hll
        have hkc : k ≤ cap := by omega
        have hkl : (l.take k).length = k := by rw [List.length_take]; omega
        have hdl : (l.drop k).length = j - k := by rw [List.length_drop]; omega
        have HKL := Lib.hid hkl
        have HDL := Lib.hid hdl
        have hj9 : j ≤ 1000 := by omega
        have hsz3 := Lib.hid HS3.out.1.size
        have N1 : Hid (∀ ad, some (⟨g, 0, none⟩ : Addr) = some ad → ∀ i u, ((l.take k).map zv)[i]? = some u → w3.cell? (ad.add i) = some u) := by
          refine Lib.hid ?_
          intro ad h i u hu
          obtain rfl := Option.some.inj h
          refine HOWN3.out.cells rfl i u ?_
          rw [List.map_take, List.getElem?_take] at hu
          split at hu
          · exact hu
          · cases hu
        clear hll hkl hdl hv0 hcap2
        generalize hT1 : l.take k = t1 at *
        generalize hT2 : l.drop k = t2 at *
        have HT1 := Lib.hid hT1
        have HT2 := Lib.hid hT2
        clear hT1
        by_cases hkj : k < j
        · have hkcap : k < cap := by omega
          have news : Hid (∀ (W : World) c, W.ownsRow w.heap.size 3 1 (.slice (some ⟨g, 0, none⟩) j c) j (l.map zv) → ∀ i u, (t2.map zv)[i]? = some u → W.cell? ⟨g, k + i, none⟩ = some u) := by
            refine Lib.hid ?_
            intro W c h i u hu
            rw [← hT2, List.map_drop, List.getElem?_drop] at hu
            have := h.cells rfl (k + i) u hu
            rw [add_plain, Nat.zero_add] at this
            exact this
          clear hT2
          go_wp2_with (first
            | (at_builtin; refine wpList_append_ints rfl _ _ rfl w3.heap.size (.slice none 0 0) 0 [] rfl (World.ownsRow_nil _ _ _ _) (some ⟨g, 0, none⟩) k cap t1 rfl HKL.out.symm (by intro h; cases h) N1.out (by rw [HKL.out]; omega) (Nat.le_refl _) ?_; intro v1 w4 hown1 hg1; rw [Nat.zero_add, List.nil_append, HKL.out] at hown1; have HOWN1 := Lib.hid hown1; have HO4 := Lib.hid (own_apart HOWN3.out (World.ownsRow_nil w3 w3.heap.size 3 1) hgl hg1); have HS4 := Lib.hid (HS3.out.own_grow (World.ownsRow_nil w3 w3.heap.size 3 1) hsz3.out ha hg1); have HZ4 := Lib.hid hg1.size; clear hown1 hg1)
            | (at_builtin; refine wpList_append_ints rfl _ _ rfl w3.heap.size v1 k t1 rfl (HOWN1.out.alloc _) (some ⟨w4.heap.size, 0, none⟩) 1 1 [j] rfl rfl (by intro h; cases h) (by intro ad h; obtain rfl := Option.some.inj h; exact cell_one _ _ _) (by simp; omega) (by have := HZ4.out; simp; omega) ?_; intro v2 w5 hown2 hg2; have HOWN2 : Hid (w5.ownsRow w3.heap.size 3 1 v2 (k + 1) ((t1 ++ [j]).map zv)) := Lib.hid hown2; have HO5 := Lib.hid (own_apart (HO4.out.alloc _) (HOWN1.out.alloc _) hgl hg2); have HS5 := Lib.hid ((HS4.out.none_ (World.grownBy_alloc w4 _ none)).own_grow (HOWN1.out.alloc _) hsz3.out ha hg2); have HZ5 : Hid (w3.heap.size ≤ w5.heap.size) := Lib.hid (Nat.le_trans HZ4.out (Nat.le_trans (by simp) hg2.size)); clear hown2 hg2)
            | (at_builtin; refine wpList_append_ints rfl _ _ rfl w3.heap.size v2 (k + 1) (t1 ++ [j]) rfl HOWN2.out _ _ _ t2 rfl (by have := HDL.out; omega) (by intro h; cases h) (by intro ad h; obtain rfl := Option.some.inj h; intro i u hu; rw [add_plain]; exact news.out w5 cap HO5.out i u hu) (by have := HDL.out; omega) HZ5.out ?_; intro v3 w6 hown3 hg3; have HOWN6 := Lib.hid hown3; have HS6 := Lib.hid (HS5.out.own_grow HOWN2.out hsz3.out ha hg3); clear hown3 hg3))
          go_roundw
          case rel =>
            refine ⟨j + 1, by omega, by go_num, l.take k ++ [j] ++ l.drop k, ord_next HO.out, ?_, by omega, HS6.out⟩
            have h6 := HOWN6.out.mono hsz3.out
            rw [← HT1.out, ← HT2.out, show k + 1 + (l.drop k).length = j + 1 by rw [List.length_drop, HLL.out]; omega] at h6
            exact h6
          case measure => simp [intOf]; omega
        · obtain rfl : k = j := by omega
          have ht2 : t2 = [] := by
            rw [← hT2]
            exact List.drop_of_length_le (Nat.le_of_eq HLL.out)
          clear hT2
          have HN2 : Hid (∀ (i : Nat) (u : Value), (t2.map zv)[i]? = some u → False) := Lib.hid (by intro i u hu; rw [ht2] at hu; simp at hu)
          clear ht2
          by_cases hcj : k = cap
          · subst hcj
            go_wp2_with (first
              | (at_builtin; refine wpList_append_ints rfl _ _ rfl w3.heap.size (.slice none 0 0) 0 [] rfl (World.ownsRow_nil _ _ _ _) (some ⟨g, 0, none⟩) k k t1 rfl HKL.out.symm (by intro h; cases h) N1.out (by rw [HKL.out]; omega) (Nat.le_refl _) ?_; intro v1 w4 hown1 hg1; rw [Nat.zero_add, List.nil_append, HKL.out] at hown1; have HOWN1 := Lib.hid hown1; have HO4 := Lib.hid (own_apart HOWN3.out (World.ownsRow_nil w3 w3.heap.size 3 1) hgl hg1); have HS4 := Lib.hid (HS3.out.own_grow (World.ownsRow_nil w3 w3.heap.size 3 1) hsz3.out ha hg1); have HZ4 := Lib.hid hg1.size; clear hown1 hg1)
              | (at_builtin; refine wpList_append_ints rfl _ _ rfl w3.heap.size v1 k t1 rfl (HOWN1.out.alloc _) (some ⟨w4.heap.size, 0, none⟩) 1 1 [k] rfl rfl (by intro h; cases h) (by intro ad h; obtain rfl := Option.some.inj h; exact cell_one _ _ _) (by simp; omega) (by have := HZ4.out; simp; omega) ?_; intro v2 w5 hown2 hg2; have HOWN2 : Hid (w5.ownsRow w3.heap.size 3 1 v2 (k + 1) ((t1 ++ [k]).map zv)) := Lib.hid hown2; have HO5 := Lib.hid (own_apart (HO4.out.alloc _) (HOWN1.out.alloc _) hgl hg2); have HS5 := Lib.hid ((HS4.out.none_ (World.grownBy_alloc w4 _ none)).own_grow (HOWN1.out.alloc _) hsz3.out ha hg2); have HZ5 : Hid (w3.heap.size ≤ w5.heap.size) := Lib.hid (Nat.le_trans HZ4.out (Nat.le_trans (by simp) hg2.size)); clear hown2 hg2)
              | (at_builtin; refine wpList_append_ints rfl _ _ rfl w3.heap.size v2 (k + 1) (t1 ++ [k]) rfl HOWN2.out _ _ _ t2 rfl (by have := HDL.out; omega) (by intro h; cases h) (by intro ad h i u hu; exact (HN2.out i u hu).elim) (by have := HDL.out; omega) HZ5.out ?_; intro v3 w6 hown3 hg3; have HOWN6 := Lib.hid hown3; have HS6 := Lib.hid (HS5.out.own_grow HOWN2.out hsz3.out ha hg3); clear hown3 hg3))
            go_roundw
            case rel =>
              refine ⟨k + 1, by omega, by go_num, l.take k ++ [k] ++ l.drop k, ord_next HO.out, ?_, by omega, HS6.out⟩
              have h6 := HOWN6.out.mono hsz3.out
              rw [← HT1.out, ← HT2.out, show k + 1 + (l.drop k).length = k + 1 by rw [List.length_drop, HLL.out]; omega] at h6
              exact h6
            case measure => simp [intOf]; omega
          · have hkcap : k < cap := by omega
            go_wp2_with (first
              | (at_builtin; refine wpList_append_ints rfl _ _ rfl w3.heap.size (.slice none 0 0) 0 [] rfl (World.ownsRow_nil _ _ _ _) (some ⟨g, 0, none⟩) k cap t1 rfl HKL.out.symm (by intro h; cases h) N1.out (by rw [HKL.out]; omega) (Nat.le_refl _) ?_; intro v1 w4 hown1 hg1; rw [Nat.zero_add, List.nil_append, HKL.out] at hown1; have HOWN1 := Lib.hid hown1; have HO4 := Lib.hid (own_apart HOWN3.out (World.ownsRow_nil w3 w3.heap.size 3 1) hgl hg1); have HS4 := Lib.hid (HS3.out.own_grow (World.ownsRow_nil w3 w3.heap.size 3 1) hsz3.out ha hg1); have HZ4 := Lib.hid hg1.size; clear hown1 hg1)
              | (at_builtin; refine wpList_append_ints rfl _ _ rfl w3.heap.size v1 k t1 rfl (HOWN1.out.alloc _) (some ⟨w4.heap.size, 0, none⟩) 1 1 [k] rfl rfl (by intro h; cases h) (by intro ad h; obtain rfl := Option.some.inj h; exact cell_one _ _ _) (by simp; omega) (by have := HZ4.out; simp; omega) ?_; intro v2 w5 hown2 hg2; have HOWN2 : Hid (w5.ownsRow w3.heap.size 3 1 v2 (k + 1) ((t1 ++ [k]).map zv)) := Lib.hid hown2; have HO5 := Lib.hid (own_apart (HO4.out.alloc _) (HOWN1.out.alloc _) hgl hg2); have HS5 := Lib.hid ((HS4.out.none_ (World.grownBy_alloc w4 _ none)).own_grow (HOWN1.out.alloc _) hsz3.out ha hg2); have HZ5 : Hid (w3.heap.size ≤ w5.heap.size) := Lib.hid (Nat.le_trans HZ4.out (Nat.le_trans (by simp) hg2.size)); clear hown2 hg2)
              | (at_builtin; refine wpList_append_ints rfl _ _ rfl w3.heap.size v2 (k + 1) (t1 ++ [k]) rfl HOWN2.out _ _ _ t2 rfl (by have := HDL.out; omega) (by intro h; cases h) (by intro ad h i u hu; exact (HN2.out i u hu).elim) (by have := HDL.out; omega) HZ5.out ?_; intro v3 w6 hown3 hg3; have HOWN6 := Lib.hid hown3; have HS6 := Lib.hid (HS5.out.own_grow HOWN2.out hsz3.out ha hg3); clear hown3 hg3))
            go_roundw
            case rel =>
              refine ⟨k + 1, by omega, by go_num, l.take k ++ [k] ++ l.drop k, ord_next HO.out, ?_, by omega, HS6.out⟩
              have h6 := HOWN6.out.mono hsz3.out
              rw [← HT1.out, ← HT2.out, show k + 1 + (l.drop k).length = k + 1 by rw [List.length_drop, HLL.out]; omega] at h6
              exact h6
            case measure => simp [intOf]; omega
    · obtain rfl : j = n := by omega
      go_wp2_with fail
      go_ret
      exact ⟨_, rfl, HR.out⟩
end Go.Proofs.YtpombmpkccnefaaDoor

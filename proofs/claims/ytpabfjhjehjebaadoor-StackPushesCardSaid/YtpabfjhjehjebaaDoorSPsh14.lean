/- Parts of the proof, packed: StDecL, StDecF, StPush, StDecR, StTape. -/
import Derived.Test.YtpabfjhjehjebaaDoorSPsh6
import Derived.Lib.SmallJoins
import Derived.Test.YtpabfjhjehjebaaDoorSPsh13
import Derived.Test.YtpabfjhjehjebaaDoorSPsh9
import Derived.Test.YtpabfjhjehjebaaDoorSPsh8
import Derived.Test.YtpabfjhjehjebaaDoorSPsh10
import Derived.Test.YtpabfjhjehjebaaDoorSPsh2
import Derived.Test.YtpabfjhjehjebaaDoorSPsh11
/- stack: DecodeLabels. -/
namespace Go.Proofs.YtpabfjhjehjebaaDoor
open Go.RowKit Bs
/-- What DecodeLabels returns: the labels lie in memory of the call's own. -/
def DLPost (b : List Nat) (w : World) (e : Ending) (w' : World) : Prop :=
  ∃ v, e = .returned (.tuple #[v, .int .i64 ((4 * (decM b).1 : Nat) : Int), .int .i64 (decM b).2]) ∧ OwnL w' w.heap.size v (labsN b (decM b).1) ∧ w.grownBy w' none
set_option maxRecDepth 100000 in
theorem dl_err {b : List Nat} {w w' : World} {e : Int} (h : decM b = (0, e)) (g : w.grownBy w' none) : DLPost b w (.returned (.tuple #[.slice none 0 0, .int .i64 0, .int .i64 e])) w' := by
  refine ⟨.slice none 0 0, ?_, ?_, g⟩
  · rw [h]; rfl
  · rw [h]; exact World.ownsRow_nil _ _ _ _
set_option maxRecDepth 100000 in
theorem dl_step {b : List Nat} {w wr w1 : World} {k : Nat} {v v' : Value} {o : Obj} {l : Lab} (g : w.grownBy wr none) (h : OwnL wr w.heap.size v (labsN b k)) (hl : l = labN (word4 b k)) (ha : (wr.alloc o).grownBy w1 v.ownBlock)
    (hown : w1.ownsRow w.heap.size 55 3 v' ((labsN b k).length + 1) (labsC (labsN b k) ++ [.int .i64 l.v, .int .i64 l.c, .int .i64 l.h])) : OwnL w1 w.heap.size v' (labsN b (k + 1)) ∧ w.grownBy w1 none := by
  refine ⟨?_, own_step g h ha⟩
  show w1.ownsRow w.heap.size 55 3 v' (labsN b (k + 1)).length (labsC (labsN b (k + 1)))
  rw [labsN_snoc, labsC_snoc, List.length_append, ← hl]
  exact hown
set_option maxRecDepth 100000 in
set_option maxHeartbeats 3200000 in
theorem sdecl_any (L : List Nat) (hL : By L) (p : Option Addr) (c : Nat) (hc : L.length ≤ c) (hcm : c ≤ 9223372036854775807) (q : Nat → Prop) (w : World) (hR : Rd w q (.slice p L.length c) (L.map nv)) :
    Calls Tryd.prog 28 #[.slice p L.length c] w fun e w' => DLPost L w e w' := by
  obtain ⟨i0, hi, hz0, hz1, hz2⟩ := info_parts info_lab
  have HR := Lib.hid hR
  have HL := Lib.hid hL
  have HC := Lib.hid (And.intro hc hcm)
  clear hR hL hc hcm
  have HM : Hid (decM L = decGo L 24 0) := Lib.hid rfl
  go_enter Tryd.func28, Tryd.ntmps28
  go_wp2_with fail
  go_loopw [5, 6] (fun v a wr => ∃ k : Nat, k ≤ 24 ∧ a = .int .i64 ((4 * k : Nat) : Int) ∧ OwnL wr w.heap.size v (labsN L k) ∧ w.grownBy wr none ∧ decM L = decGo L (24 - k) k ∧ ∃ p2 c2, v = .slice p2 k c2) (fun _ a _ => 24 - (intOf a).toNat / 4)
  case atStart => exact ⟨0, by omega, rfl, World.ownsRow_nil _ _ _ _, grown_refl _ _, HM.out, none, 0, rfl⟩
  case round =>
    obtain ⟨k, hk, rfl, hO, hG, hM, p2, c2, rfl⟩ := hrel
    have HO := Lib.hid hO
    have HG := Lib.hid hG
    have HM2 := Lib.hid hM
    clear hO hG hM HM
    by_cases h24 : k < 24
    · by_cases hs : L.length < 4 * k + 4
      · go_wp2_with fail
        go_ret3
        exact dl_err (by rw [HM2.out, show 24 - k = (23 - k) + 1 by omega, decGo, if_pos hs]) HG.out
      · obtain ⟨b, off, rfl, hb, _⟩ := rd_cells HR.out (by omega)
        have hle : 4 * k ≤ L.length := by omega
        have hlc := HC.out.1
        have hlm := Nat.le_trans HC.out.1 HC.out.2
        go_wp2_with fail
        have C := rdlab_any (L.drop (4 * k)) (HL.out.drop _) (by rw [List.length_drop]; omega) q (some ⟨b, off + 4 * k, none⟩) (c - 4 * k) wr (rd_drop (HR.out.keep HG.out) _ _)
        rw [List.length_drop, word4_drop] at C
        refine C.mono ?_
        clear C
        rintro e w1 ⟨rfl, hg1⟩
        obtain ⟨l, hl⟩ : ∃ l, labN (word4 L k) = l := ⟨_, rfl⟩
        obtain ⟨z, hz⟩ : ∃ z, botN (word4 L k) = z := ⟨_, rfl⟩
        rw [hl, hz]
        have HO1 : Hid (OwnL w1 w.heap.size (.slice p2 k c2) (labsN L k)) := Lib.hid (HO.out.kept hg1 (by cases hv : (Value.slice p2 k c2).ownBlock <;> simp))
        have HG1 := Lib.hid (grown_trans HG.out hg1)
        have HLZ := Lib.hid (And.intro hl hz)
        clear hg1 hl hz HO HG
        go_wp2_with (at_builtin; refine wpList_append_own _ rfl _ _ 53 rfl w.heap.size 55 i0 (.agg #[.int .i64 0, .int .i64 0, .int .i64 0]) 3 24 Tryd.underlying53 hi hz0 hz1 hz2 rfl (by decide) (.slice p2 k c2) (labsN L k).length (labsC (labsN L k)) rfl ((HO1.out.alloc _).alloc _) ⟨w1.heap.size + 1, 0, none⟩ 1 1 [.int .i64 l.v, .int .i64 l.c, .int .i64 l.h] rfl rfl ?c1 ?c2 ?c3 ?c4 ?c5 ?_)
        case c1 => rw [← show (w1.alloc (.cells #[.int .i64 l.v, .int .i64 l.c, .int .i64 l.h] 55)).heap.size = w1.heap.size + 1 by simp]; exact cells3 _ _ _ _ _
        case c2 => intro u hu; simp at hu; rcases hu with rfl | rfl | rfl <;> rfl
        case c3 => rw [labsN_len]; unfold maxLen; omega
        case c4 => rw [labsN_len]; omega
        case c5 => have := HG1.out.size; simp; omega
        intro v' w2 hown2 hg2 _
        obtain ⟨O2, G2⟩ := dl_step (grown_trans HG1.out (World.grownBy_alloc w1 _ _)) (HO1.out.alloc _) HLZ.out.1.symm hg2 hown2
        have HO2 := Lib.hid O2
        have HG2 := Lib.hid G2
        have hzz := HLZ.out.2
        clear hown2 hg2 O2 G2 HO1 HG1
        have hM : decM L = if z = true then (k + 1, 0) else decGo L (23 - k) (k + 1) := by
          rw [HM2.out, show 24 - k = (23 - k) + 1 by omega, decGo, if_neg hs, hzz]
        have HM3 := Lib.hid hM
        clear hM hzz HLZ HM2
        cases z
        · go_wp2_with fail
          obtain ⟨g, cap, hv⟩ := Joins.ownsRow_form HO2.out (by rw [labsN_len]; omega)
          rw [labsN_len] at hv
          refine ⟨⟨k + 1, by omega, congrArg _ (by omega), HO2.out, HG2.out, by rw [HM3.out, if_neg (by decide), show 24 - (k + 1) = 23 - k by omega], _, _, hv⟩, ?_⟩
          simp only [intOf]
          omega
        · go_wp2_with fail
          go_ret3
          have e : decM L = (k + 1, 0) := by have := HM3.out; simpa using this
          have e2 : 4 * (k : Int) + 4 = ((4 * (k + 1) : Nat) : Int) := by omega
          refine ⟨v', ?_, ?_, HG2.out⟩
          · show Ending.returned (.tuple #[v', .int .i64 (4 * (k : Int) + 4), .int .i64 0]) = _
            rw [e2, e]
          · rw [e]
            exact HO2.out
    · have hk24 : k = 24 := by omega
      subst hk24
      go_wp2_with fail
      go_ret3
      exact dl_err (by rw [HM2.out]; rfl) HG.out
end Go.Proofs.YtpabfjhjehjebaaDoor

/- stack: DecodeFrame. -/
namespace Go.Proofs.YtpabfjhjehjebaaDoor
open Go.RowKit Bs
/-- A zero frame's cells. -/
def zfr : Array Value := #[.slice none 0 0, .int .i64 0, .int .i64 0, .int .i64 0, .int .i64 0, .int .i64 0, .int .i64 0, .int .i64 0, .int .i64 0, .int .u64 0, .string ⟨#[]⟩]
/-- What DecodeFrame returns. -/
def DFPost (L : List Nat) (w : World) (e : Ending) (w' : World) : Prop :=
  ∃ p c, e = .returned (.tuple #[.agg (#[.slice p (decF L).1.length c] ++ (decF L).2.1), .int .i64 (decF L).2.2]) ∧ Rd w' (w.heap.size ≤ ·) (.slice p (decF L).1.length c) ((decF L).1.map iv) ∧ (decF L).1.length ≤ c ∧ c ≤ 9223372036854775807 ∧ (p = none → c = 0) ∧ w.grownBy w' none
set_option maxRecDepth 100000 in
theorem df_err {L : List Nat} {w w' : World} {x : Int} (h : decF L = ([], zpk, x)) (g : w.grownBy w' none) : DFPost L w (.returned (.tuple #[.agg zfr, .int .i64 x])) w' := by
  refine ⟨none, 0, by rw [h]; rfl, ?_, by rw [h]; exact Nat.le_refl _, by omega, fun _ => rfl, g⟩
  rw [h]
  exact Rd.nil_ _ _ _ _
set_option maxRecDepth 100000 in
theorem frame_size : (Tryd.prog.info? 33).map (·.size) = some 11 := by kernel_rfl
set_option maxRecDepth 100000 in
theorem res_frame_err {fn : Func} {p u : Tmp} (h : fn.results = #[.cell p 33, .tmp u]) (tmps : Array Value) (w : World) (g : Nat) (xs : Array Value) (hp : tmps.getD p undef = .pointer (some ⟨g, 0, none⟩)) (hn : xs.size = 11) (hg : w.heap[g]? = some (.cells xs 33 (0, 0))) :
    (results fn tmps).run Tryd.prog w = .ok (.tuple #[.agg xs, tmps.getD u undef]) w := by
  have hp' : tmps[p]?.getD undef = .pointer (some ⟨g, 0, none⟩) := by simpa using hp
  rw [results_cell_tmp h]
  simp [hp', asAddr, run_loadVar_row w g _ _ _ _ _ hg Tryd.underlying33 rfl (by rw [hn]; exact frame_size), Result.andThen]
/-- A frame is stored. -/
def fput (w : World) (h : Nat) (v v0 v1 v2 v3 v4 v5 v6 v7 v8 v9 : Value) : World :=
  (((((((((((w.setCell ⟨h, 0, none⟩ v).setCell ⟨h, 1, none⟩ v0).setCell ⟨h, 2, none⟩ v1).setCell ⟨h, 3, none⟩ v2).setCell ⟨h, 4, none⟩ v3).setCell ⟨h, 5, none⟩ v4).setCell ⟨h, 6, none⟩ v5).setCell ⟨h, 7, none⟩ v6).setCell ⟨h, 8, none⟩ v7).setCell ⟨h, 9, none⟩ v8).setCell ⟨h, 10, none⟩ v9)
set_option maxRecDepth 100000 in
theorem fput_row {w : World} {h : Nat} (v v0 v1 v2 v3 v4 v5 v6 v7 v8 v9 : Value) (hr : Row w h 33 zfr.toList) : Row (fput w h v v0 v1 v2 v3 v4 v5 v6 v7 v8 v9) h 33 [v, v0, v1, v2, v3, v4, v5, v6, v7, v8, v9] :=
  ((((((((((hr.set 0 v).set 1 v0).set 2 v1).set 3 v2).set 4 v3).set 5 v4).set 6 v5).set 7 v6).set 8 v7).set 9 v8).set 10 v9
set_option maxRecDepth 100000 in
theorem fput_grown (w : World) (h : Nat) (v v0 v1 v2 v3 v4 v5 v6 v7 v8 v9 : Value) : w.grownBy (fput w h v v0 v1 v2 v3 v4 v5 v6 v7 v8 v9) (some h) := by
  unfold fput
  have S : ∀ (u : World) (j : Nat) (x : Value), u.grownBy (u.setCell ⟨h, j, none⟩ x) (some h) := fun u j x => grown_setCell u ⟨h, j, none⟩ x
  exact grown_trans (grown_trans (grown_trans (grown_trans (grown_trans (grown_trans (grown_trans (grown_trans (grown_trans (grown_trans (S _ _ _) (S _ _ _)) (S _ _ _)) (S _ _ _)) (S _ _ _)) (S _ _ _)) (S _ _ _)) (S _ _ _)) (S _ _ _)) (S _ _ _)) (S _ _ _)
set_option maxRecDepth 100000 in
theorem zfr_facts {w : World} {b : Nat} (h : Row w b 33 zfr.toList) :
    (w.cell? ⟨b, 0, none⟩ = some (.slice none 0 0) ∧ w.cell? ⟨b, 1, none⟩ = some (.int .i64 0) ∧ w.cell? ⟨b, 2, none⟩ = some (.int .i64 0) ∧ w.cell? ⟨b, 3, none⟩ = some (.int .i64 0) ∧ w.cell? ⟨b, 4, none⟩ = some (.int .i64 0) ∧ w.cell? ⟨b, 5, none⟩ = some (.int .i64 0) ∧ w.cell? ⟨b, 6, none⟩ = some (.int .i64 0) ∧ w.cell? ⟨b, 7, none⟩ = some (.int .i64 0) ∧ w.cell? ⟨b, 8, none⟩ = some (.int .i64 0) ∧ w.cell? ⟨b, 9, none⟩ = some (.int .u64 0) ∧ w.cell? ⟨b, 10, none⟩ = some (.string ⟨#[]⟩)) ∧
    (w.frozen? ⟨b, 0, none⟩ = false ∧ w.frozen? ⟨b, 1, none⟩ = false ∧ w.frozen? ⟨b, 2, none⟩ = false ∧ w.frozen? ⟨b, 3, none⟩ = false ∧ w.frozen? ⟨b, 4, none⟩ = false ∧ w.frozen? ⟨b, 5, none⟩ = false ∧ w.frozen? ⟨b, 6, none⟩ = false ∧ w.frozen? ⟨b, 7, none⟩ = false ∧ w.frozen? ⟨b, 8, none⟩ = false ∧ w.frozen? ⟨b, 9, none⟩ = false ∧ w.frozen? ⟨b, 10, none⟩ = false) :=
  ⟨⟨h.cell rfl, h.cell rfl, h.cell rfl, h.cell rfl, h.cell rfl, h.cell rfl, h.cell rfl, h.cell rfl, h.cell rfl, h.cell rfl, h.cell rfl⟩, h.frozen _, h.frozen _, h.frozen _, h.frozen _, h.frozen _, h.frozen _, h.frozen _, h.frozen _, h.frozen _, h.frozen _, h.frozen _⟩
/-- While a frame is decoded: the result's block is zero still. -/
structure DF (W : World) (w : World) : Prop where
  row : Row w W.heap.size 33 zfr.toList
  gr : W.grownBy w none
set_option maxRecDepth 100000 in
theorem DF.keep {W w w' : World} (h : DF W w) (g : w.grownBy w' none) : DF W w' := ⟨h.row.kept g (by simp), grown_trans h.gr g⟩
set_option maxRecDepth 100000 in
theorem DF.err {L : List Nat} {W w : World} {x : Int} (h : DF W w) (hx : decF L = ([], zpk, x)) :
    Row (fput w W.heap.size (.slice none 0 0) (.int .i64 0) (.int .i64 0) (.int .i64 0) (.int .i64 0) (.int .i64 0) (.int .i64 0) (.int .i64 0) (.int .i64 0) (.int .u64 0) (.string ⟨#[]⟩)) W.heap.size 33 zfr.toList ∧
      DFPost L W (.returned (.tuple #[.agg zfr, .int .i64 x])) (fput w W.heap.size (.slice none 0 0) (.int .i64 0) (.int .i64 0) (.int .i64 0) (.int .i64 0) (.int .i64 0) (.int .i64 0) (.int .i64 0) (.int .i64 0) (.int .u64 0) (.string ⟨#[]⟩)) :=
  ⟨fput_row _ _ _ _ _ _ _ _ _ _ _ h.row, df_err hx (grown_new h.gr (fput_grown _ _ _ _ _ _ _ _ _ _ _ _ _) (Nat.le_refl _))⟩
set_option maxRecDepth 100000 in
theorem dec_form3 (l : List Nat) : ∃ (m0 m1 m2 m3 m4 m5 m6 m7 m8 : Int) (s9 : ByteArray), (decV l).1 = #[.int .i64 m0, .int .i64 m1, .int .i64 m2, .int .i64 m3, .int .i64 m4, .int .i64 m5, .int .i64 m6, .int .i64 m7, .int .u64 m8, .string s9] := by
  unfold decV
  split
  · exact ⟨_, _, _, _, _, _, _, _, _, _, rfl⟩
  · split
    · exact ⟨_, _, _, _, _, _, _, _, _, _, rfl⟩
    · split
      · exact ⟨_, _, _, _, _, _, _, _, _, _, rfl⟩
      · split
        · exact ⟨_, _, _, _, _, _, _, _, _, _, rfl⟩
        · split
          · exact ⟨_, _, _, _, _, _, _, _, _, _, rfl⟩
          · unfold restV
            split
            · exact ⟨_, _, _, _, _, _, _, _, _, _, rfl⟩
            · exact ⟨_, _, _, _, _, _, _, _, _, _, rfl⟩
/-- What the last part of a frame's reading needs. -/
structure DR2 (L : List Nat) (W : World) (r : List Int) (B : List Nat) (p1 p2 : Option Addr) (c1 c2 : Nat) (w : World) : Prop where
  dec : decF L = finF r B
  by_ : By B
  le : B.length ≤ c2
  rd : Rd w (fun _ => True) (.slice p2 B.length c2) (B.map nv)
  rt : Rd w (W.heap.size < ·) (.slice p1 r.length c1) (r.map iv)
  rle : r.length ≤ c1
  cmax : c1 ≤ 9223372036854775807
  pc : p1 = none → c1 = 0
  df : DF W w
set_option maxRecDepth 100000 in
theorem rd_drop2 {w : World} {q : Nat → Prop} {p : Option Addr} {n c : Nat} {B : List Nat} (h : Rd w q (.slice p n c) (B.map nv)) (k c2 : Nat) : Rd w q (.slice (p.map (fun x => x.add k)) (B.drop k).length c2) ((B.drop k).map nv) := by
  by_cases hne : (B.drop k).length = 0
  · have e := List.eq_nil_of_length_eq_zero hne
    rw [e]
    exact Rd.nil_ _ _ _ _
  · obtain ⟨b, off, rfl, _⟩ := rd_cells h (by rw [List.length_drop] at hne; omega)
    show Rd w q (.slice (some ((⟨b, off, none⟩ : Addr).add k)) _ c2) _
    rw [add_plain]
    exact rd_drop h k c2
set_option maxRecDepth 100000 in
theorem rd_nil2 {w : World} {q : Nat → Prop} {p : Option Addr} {n c : Nat} {B : List Nat} (h : B.length = 0) (hn : n = B.length) : Rd w q (.slice p n c) (B.map nv) := by
  have e := List.eq_nil_of_length_eq_zero h
  subst e
  subst hn
  exact Rd.nil_ _ _ _ _
set_option maxRecDepth 100000 in
set_option maxHeartbeats 3200000 in
theorem sdecf_any (L : List Nat) (hL : By L) (p : Option Addr) (c : Nat) (hc : L.length ≤ c) (hcm : c ≤ 9223372036854775807) (q : Nat → Prop) (w : World) (hR : Rd w q (.slice p L.length c) (L.map nv)) :
    Calls Tryd.prog 9 #[.slice p L.length c] w fun e w' => DFPost L w e w' := by
  obtain ⟨k1, k2⟩ := sone_box w zfr 33
  have HD : Hid (DF w (w.alloc (.cells zfr 33))) := Lib.hid ⟨k1, k2⟩
  have HR := Lib.hid (hR.keep k2)
  have HL := Lib.hid hL
  have HC := Lib.hid (And.intro hc hcm)
  have hlm := Nat.le_trans hc hcm
  unfold zfr at HD HR
  clear k1 k2 hR hL hcm
  go_enter Tryd.func9, Tryd.ntmps9
  go_upto_region 1 with fail
  generalize w.alloc _ = wa at *
  obtain ⟨⟨d0, d1, d2, d3, d4, d5, d6, d7, d8, d9, d10⟩, f0, f1, f2, f3, f4, f5, f6, f7, f8, f9, f10⟩ := zfr_facts HD.out.row
  by_cases h0 : L.length = 0
  · have HE := Lib.hid (HD.out.err (L := L) (x := 20) (by unfold decF; rw [if_pos h0]))
    go_wp2_with fail
    refine bodyPost_ret (res_frame_err rfl _ _ w.heap.size zfr rfl rfl HE.out.1) rfl ?_
    exact HE.out.2
  · obtain ⟨b, off, rfl, hq, hcc⟩ := rd_cells HR.out (by omega)
    have c0 := hcc 0 (by omega)
    rw [Nat.add_zero] at c0
    have hpos : 0 < L.length := by omega
    have HF : Hid (decF L = decH (L.getD 0 0) (L.drop 1)) := Lib.hid (by unfold decF; rw [if_neg h0])
    have hx9 := HL.out.at_ hpos
    clear hcc
    generalize L.getD 0 0 = x at *
    by_cases hx : 1 < x
    · have HE := Lib.hid (HD.out.err (L := L) (x := 22) (by rw [HF.out]; unfold decH; rw [if_pos hx]))
      have hx0 : ((x : Int) != 0) = true := by simp; omega
      have hx1 : ((x : Int) != 1) = true := by simp; omega
      go_wp2_with fail
      refine bodyPost_ret (res_frame_err rfl _ _ w.heap.size zfr rfl rfl HE.out.1) rfl ?_
      exact HE.out.2
    · have hx01 : x = 0 ∨ x = 1 := by omega
      have hl0 : ((L.length : Int) == 0) = false := by simp; intro e; exact h0 (by rw [e]; rfl)
      go_upto_region 3 with fail
      first | rw [hl0] | skip
      go_cut [24] from 15 to 24 (fun bb wx => bb = .bool false ∧ wx = wa)
      case first =>
        rcases hx01 with rfl | rfl
        · have c0' : wa.cell? ⟨b, off, none⟩ = some (.int .u8 0) := c0
          clear c0
          go_wp2_with fail
          go_meet
          exact ⟨rfl, rfl⟩
        · have c0' : wa.cell? ⟨b, off, none⟩ = some (.int .u8 1) := c0
          clear c0
          go_wp2_with fail
          go_meet
          exact ⟨rfl, rfl⟩
      case rest =>
      obtain ⟨rfl, rfl⟩ := hcut
      go_upto_region 6 with fail
      have hB1 : (L.drop 1).length = L.length - 1 := List.length_drop
      go_cut [5] from 26 to 27 (fun rr wx => ∃ pt : Option Addr, rr = .slice pt (L.length - 1) (c - 1) ∧ wx = wc ∧ Hid (Rd wc q (.slice pt (L.drop 1).length (c - 1)) ((L.drop 1).map nv)))
      case first =>
        by_cases hc1 : c = 1
        · subst hc1
          go_wp2_with fail
          go_meet
          exact ⟨some ⟨b, off, none⟩, by rw [show L.length - 1 = 0 by omega], rfl, Lib.hid (rd_nil2 (by omega) rfl)⟩
        · have hc2 : ¬ c - 1 = 0 := by omega
          go_wp2_with fail
          go_meet
          exact ⟨_, rfl, rfl, Lib.hid (rd_drop HR.out 1 (c - 1))⟩
      case rest =>
      obtain ⟨pt, rfl, rfl, HRT⟩ := hcut
      obtain ⟨B, hB⟩ : ∃ B, L.drop 1 = B := ⟨_, rfl⟩
      have hBy : By B := by rw [← hB]; exact HL.out.drop 1
      rw [hB] at HF HRT hB1
      obtain ⟨n, hn⟩ : ∃ n, L.length - 1 = n := ⟨_, rfl⟩
      obtain ⟨cB, hcB⟩ : ∃ cB, c - 1 = cB := ⟨_, rfl⟩
      have hbc : B.length ≤ cB := by omega
      have hbm : cB ≤ 9223372036854775807 := by have := HC.out.2; omega
      rw [hn] at hB1 ⊢
      rw [hcB] at HRT ⊢
      subst hB1
      clear hB hn hcB hq
      go_upto_if 31 with fail
      have HBB := Lib.hid (And.intro hBy (And.intro hbc hbm))
      go_cut [4, 5, 6, 7, 8] from 28 to 51 (fun rt rr l6 s7 e8 wx => ∃ r B2 p1 p2 c1 c2, rt = .slice p1 r.length c1 ∧ rr = .slice p2 B2.length c2 ∧ Hid (DR2 L w r B2 p1 p2 c1 c2 wx))
      case first =>
        rcases hx01 with rfl | rfl
        · have c0' : wc.cell? ⟨b, off, none⟩ = some (.int .u8 0) := c0
          clear c0
          go_wp2_with fail
          go_meet
          exact ⟨[], B, none, pt, 0, cB, rfl, rfl, Lib.hid ⟨by rw [HF.out]; rfl, HBB.out.1, HBB.out.2.1, HRT.out.mono fun _ _ => trivial, Rd.nil_ _ _ _ _, Nat.le_refl _, by omega, fun _ => rfl, HD.out⟩⟩
        · have c0' : wc.cell? ⟨b, off, none⟩ = some (.int .u8 1) := c0
          clear c0
          go_wp2_with fail
          refine (sdecl_any B HBB.out.1 pt cB HBB.out.2.1 HBB.out.2.2 q wc HRT.out).mono ?_
          rintro e w1 ⟨v, rfl, hO, hg⟩
          have hDM := decGo_le B 24 0
          obtain ⟨m, e2, hM⟩ : ∃ m e2, decM B = (m, e2) := ⟨_, _, rfl⟩
          rw [show decGo B 24 0 = decM B from rfl, hM] at hDM
          obtain ⟨m1, m2, m3, -⟩ := hDM
          rw [hM] at hO ⊢
          obtain ⟨ls, hls⟩ : ∃ ls, labsN B m = ls := ⟨_, rfl⟩
          have hll : ls.length = m := by rw [← hls, labsN_len]
          have hlv : ∀ l ∈ ls, vlab l = true := by
            intro l hl
            rw [← hls] at hl
            obtain ⟨i, _, rfl⟩ := List.mem_map.1 hl
            exact labN_v (word4_lt HBB.out.1 i)
          have hH : decF L = (if e2 = 0 then (if (rtV ls).2 = 0 then finF (rtV ls).1 (B.drop (4 * m)) else ([], zpk, (rtV ls).2)) else ([], zpk, e2)) := by
            rw [HF.out]
            show decH 1 B = _
            unfold decH
            rw [if_neg (by decide), if_pos rfl, hM]
            simp only
            rw [hls]
          rw [show (m, e2).1 = m from rfl, hls] at hO
          obtain ⟨pl, cl, rfl, hx⟩ := rdk_of_own hO
          have hRL : RdL w1 (wc.heap.size ≤ ·) (.slice pl ls.length cl) ls := ⟨pl, cl, rfl, hx⟩
          have HDD := Lib.hid (HD.out.keep hg)
          have HK1 := Lib.hid (And.intro hRL (And.intro hlv hH))
          have HRT1 := Lib.hid (HRT.out.keep hg)
          have HMM := Lib.hid (And.intro m1 m2)
          have h24 : ls.length ≤ 24 := by simp only at m1; omega
          clear hO hx hRL hlv hH hg hls hM HF m1 m2 HRT HD d0 d1 d2 d3 d4 d5 d6 d7 d8 d9 d10 f0 f1 f2 f3 f4 f5 f6 f7 f8 f9 f10 c0'
          simp only
          by_cases he : e2 = 0
          · subst he
            go_wp2_with fail
            have C := srtof_any ls HK1.out.2.1 h24 pl cl _ w1 HK1.out.1
            rw [hll] at C
            refine C.mono ?_
            clear C
            rintro e w2 ⟨p3, c3, rfl, hRr, hle3, hm3, hp3, hg3⟩
            obtain ⟨r, e3, hr⟩ : ∃ r e3, rtV ls = (r, e3) := ⟨_, _, rfl⟩
            have hH := HK1.out.2.2
            rw [if_pos trivial, hr] at hH
            rw [hr] at hRr hle3 ⊢
            simp only at hH hRr hle3 ⊢
            have HDD2 := Lib.hid (HDD.out.keep hg3)
            have HRT2 := Lib.hid (HRT1.out.keep hg3)
            have HR3 := Lib.hid (And.intro (hRr.mono (q' := (w.heap.size < ·)) (fun b hb => Nat.lt_of_lt_of_le HDD.out.row.lt hb)) (And.intro hle3 (And.intro hm3 hp3)))
            have HH := Lib.hid hH
            clear hRr hle3 hm3 hp3 hg3 hr hH HK1 HDD HRT1
            by_cases he3 : e3 = 0
            · subst he3
              have h4 : 4 * m ≤ B.length := HMM.out.2
              have hlb : B.length ≤ 9223372036854775807 := by omega
              by_cases hcap : cB - 4 * m = 0
              · go_wp2_with fail
                go_meet
                exact ⟨r, B.drop (4 * m), p3, pt, c3, 0, rfl, by rw [List.length_drop], Lib.hid ⟨by have := HH.out; simpa using this, HBB.out.1.drop _, by rw [List.length_drop]; omega, rd_nil2 (by rw [List.length_drop]; omega) rfl, HR3.out.1, HR3.out.2.1, HR3.out.2.2.1, HR3.out.2.2.2, HDD2.out⟩⟩
              · go_wp2_with fail
                go_meet
                exact ⟨r, B.drop (4 * m), p3, pt.map (fun x => x.add (4 * m)), c3, cB - 4 * m, rfl, by rw [List.length_drop], Lib.hid ⟨by have := HH.out; simpa using this, HBB.out.1.drop _, by rw [List.length_drop]; omega, (rd_drop2 HRT2.out (4 * m) _).mono (fun _ _ => trivial), HR3.out.1, HR3.out.2.1, HR3.out.2.2.1, HR3.out.2.2.2, HDD2.out⟩⟩
            · have heb : (e3 == 0) = false := by simpa using he3
              have hen : (e3 != 0) = true := by simpa using he3
              have HE := Lib.hid (HDD2.out.err (L := L) (x := e3) (by rw [HH.out, if_neg he3]))
              obtain ⟨⟨d0, d1, d2, d3, d4, d5, d6, d7, d8, d9, d10⟩, f0, f1, f2, f3, f4, f5, f6, f7, f8, f9, f10⟩ := zfr_facts HDD2.out.row
              go_wp2_with fail
              refine bodyPost_ret (res_frame_err rfl _ _ w.heap.size zfr rfl rfl HE.out.1) rfl ?_
              exact HE.out.2
          · have heb : (e2 == 0) = false := by simpa using he
            have hen : (e2 != 0) = true := by simpa using he
            have HE := Lib.hid (HDD.out.err (L := L) (x := e2) (by rw [HK1.out.2.2, if_neg he]))
            obtain ⟨⟨d0, d1, d2, d3, d4, d5, d6, d7, d8, d9, d10⟩, f0, f1, f2, f3, f4, f5, f6, f7, f8, f9, f10⟩ := zfr_facts HDD.out.row
            go_wp2_with fail
            refine bodyPost_ret (res_frame_err rfl _ _ w.heap.size zfr rfl rfl HE.out.1) rfl ?_
            exact HE.out.2
      case rest =>
        obtain ⟨r, B2, p1, p2, c1, c2, rfl, rfl, H⟩ := hcut
        have hle := H.out.le
        clear HD HRT HBB c0 d0 d1 d2 d3 d4 d5 d6 d7 d8 d9 d10 f0 f1 f2 f3 f4 f5 f6 f7 f8 f9 f10
        obtain ⟨X, y, hXy⟩ : ∃ X y, decV B2 = (X, y) := ⟨_, _, rfl⟩
        obtain ⟨n0, n1, n2, n3, n4, n5, n6, n7, n8, s9, hX⟩ := dec_form3 B2
        have C := fun w0 h => pdecode_any B2 H.out.by_ p2 c2 hle (fun _ => True) w0 h
        rw [hXy] at C hX
        simp only at C hX
        subst hX
        have HXY := Lib.hid hXy
        clear hXy
        go_wp2_with fail
        refine (C _ H.out.rd).mono ?_
        clear C
        rintro e w3 ⟨rfl, hg⟩
        go_upto_region 15 with fail
        obtain ⟨k1, k2⟩ := sone_box w3 #[.int .i64 n0, .int .i64 n1, .int .i64 n2, .int .i64 n3, .int .i64 n4, .int .i64 n5, .int .i64 n6, .int .i64 n7, .int .u64 n8, .string s9] 31
        have HDF := Lib.hid (H.out.df.keep (grown_trans hg k2))
        have HRR := Lib.hid (H.out.rt.keep (grown_trans hg k2))
        have a0 := cell_of_row _ _ 0 _ _ _ k1
        have a1 := cell_of_row _ _ 1 _ _ _ k1
        have a2 := cell_of_row _ _ 2 _ _ _ k1
        have a3 := cell_of_row _ _ 3 _ _ _ k1
        have a4 := cell_of_row _ _ 4 _ _ _ k1
        have a5 := cell_of_row _ _ 5 _ _ _ k1
        have a6 := cell_of_row _ _ 6 _ _ _ k1
        have a7 := cell_of_row _ _ 7 _ _ _ k1
        have a8 := cell_of_row _ _ 8 _ _ _ k1
        have a9 := cell_of_row _ _ 9 _ _ _ k1
        simp only [List.getElem?_toArray, List.getElem?_cons_zero, List.getElem?_cons_succ] at a0 a1 a2 a3 a4 a5 a6 a7 a8 a9
        have HDC : Hid (decF L = if y = 0 then (r, #[.int .i64 n0, .int .i64 n1, .int .i64 n2, .int .i64 n3, .int .i64 n4, .int .i64 n5, .int .i64 n6, .int .i64 n7, .int .u64 n8, .string s9], 0) else ([], zpk, y)) := by
          refine Lib.hid ?_
          rw [H.out.dec]
          unfold finF
          rw [HXY.out]
        have HR4 := Lib.hid (And.intro H.out.rle (And.intro H.out.cmax H.out.pc))
        clear hg k1 k2 H HXY
        generalize w3.alloc _ = w4 at *
        obtain ⟨⟨d0, d1, d2, d3, d4, d5, d6, d7, d8, d9, d10⟩, f0, f1, f2, f3, f4, f5, f6, f7, f8, f9, f10⟩ := zfr_facts HDF.out.row
        by_cases hy : y = 0
        · subst hy
          go_wp2_with fail
          refine bodyPost_ret (res_frame_err rfl _ _ w.heap.size _ rfl rfl (fput_row _ _ _ _ _ _ _ _ _ _ _ HDF.out.row)) rfl ?_
          have hd := HDC.out
          rw [if_pos trivial] at hd
          refine ⟨p1, c1, by rw [hd]; rfl, ?_, by rw [hd]; exact HR4.out.1, HR4.out.2.1, HR4.out.2.2, grown_new HDF.out.gr (fput_grown _ _ _ _ _ _ _ _ _ _ _ _ _) (Nat.le_refl _)⟩
          rw [hd]
          exact (HRR.out.grown (fput_grown _ w.heap.size _ _ _ _ _ _ _ _ _ _ _) (fun b hb e => by have := Option.some.inj e; omega)).mono (fun b hb => Nat.le_of_lt hb)
        · have hyb : (y == 0) = false := by simpa using hy
          have hyn : (y != 0) = true := by simpa using hy
          have HE := Lib.hid (HDF.out.err (L := L) (x := y) (by rw [HDC.out, if_neg hy]))
          go_wp2_with fail
          refine bodyPost_ret (res_frame_err rfl _ _ w.heap.size zfr rfl rfl HE.out.1) rfl ?_
          exact HE.out.2
end Go.Proofs.YtpabfjhjehjebaaDoor

/- stack: Push of program and reference. -/
namespace Go.Proofs.YtpabfjhjehjebaaDoor
open Go.RowKit Bs
/-- What Push returns. -/
def pushV (t r : List Int) (P : Pk) : List Int × Array Value × Int :=
  if vfr r P = false then ([], zpk, 1) else if allR t = false then ([], zpk, 2) else if 24 < t.length + r.length then ([], zpk, 3) else if rep (t ++ r) = true then ([], zpk, 5) else (t ++ r, #[.int .i64 P.mode, .int .i64 P.sub, .int .i64 P.set, .int .i64 P.len, .int .i64 P.ttl, .int .i64 P.ent, .int .i64 P.ing, .int .i64 P.pro, .int .u64 (P.bits : Int), .string P.pay], 0)
def PUPost (V : List Int × Array Value × Int) (w : World) (e : Ending) (w' : World) : Prop :=
  ∃ p c, e = .returned (.tuple #[.agg (#[.slice p V.1.length c] ++ V.2.1), .int .i64 V.2.2]) ∧ Rd w' (fun _ => True) (.slice p V.1.length c) (V.1.map iv) ∧ V.1.length ≤ c ∧ c ≤ 9223372036854775807 ∧ (p = none → c = 0) ∧ w.grownBy w' none
/-- A frame that came in lies in a box; the result's block is zero still. -/
structure PB (w : World) (v : Value) (P : Pk) (wr : World) : Prop where
  box : wr.heap[w.heap.size]? = some (.cells (frcells v P) 33 (0, 0))
  res : Row wr (w.heap.size + 1) 33 zfr.toList
  gr : w.grownBy wr none
set_option maxRecDepth 100000 in
theorem PB.start (w : World) (v : Value) (P : Pk) : PB w v P ((w.alloc (.cells (frcells v P) 33)).alloc (.cells zfr 33)) := by
  obtain ⟨k1, k2, k3, _⟩ := two_boxes w (frcells v P) zfr 33 33
  exact ⟨k1, k2, k3⟩
set_option maxRecDepth 100000 in
theorem PB.keep {w wr w' : World} {v : Value} {P : Pk} (h : PB w v P wr) (g : wr.grownBy w' none) : PB w v P w' :=
  ⟨kept_row h.box g (by simp), h.res.kept g (by simp), grown_trans h.gr g⟩
set_option maxRecDepth 100000 in
theorem PB.put {w wr : World} {v0 : Value} {P : Pk} (h : PB w v0 P wr) (v u0 u1 u2 u3 u4 u5 u6 u7 u8 u9 : Value) :
    Row (fput wr (w.heap.size + 1) v u0 u1 u2 u3 u4 u5 u6 u7 u8 u9) (w.heap.size + 1) 33 [v, u0, u1, u2, u3, u4, u5, u6, u7, u8, u9] ∧ w.grownBy (fput wr (w.heap.size + 1) v u0 u1 u2 u3 u4 u5 u6 u7 u8 u9) none :=
  ⟨fput_row _ _ _ _ _ _ _ _ _ _ _ h.res, grown_new h.gr (fput_grown _ _ _ _ _ _ _ _ _ _ _ _ _) (by omega)⟩
set_option maxRecDepth 100000 in
theorem PB.err {w wr : World} {v0 : Value} {P : Pk} {V : List Int × Array Value × Int} {x : Int} (h : PB w v0 P wr) (hV : V = ([], zpk, x)) :
    Row (fput wr (w.heap.size + 1) (.slice none 0 0) (.int .i64 0) (.int .i64 0) (.int .i64 0) (.int .i64 0) (.int .i64 0) (.int .i64 0) (.int .i64 0) (.int .i64 0) (.int .u64 0) (.string ⟨#[]⟩)) (w.heap.size + 1) 33 zfr.toList ∧
      PUPost V w (.returned (.tuple #[.agg zfr, .int .i64 x])) (fput wr (w.heap.size + 1) (.slice none 0 0) (.int .i64 0) (.int .i64 0) (.int .i64 0) (.int .i64 0) (.int .i64 0) (.int .i64 0) (.int .i64 0) (.int .i64 0) (.int .u64 0) (.string ⟨#[]⟩)) := by
  obtain ⟨k1, k2⟩ := h.put (.slice none 0 0) (.int .i64 0) (.int .i64 0) (.int .i64 0) (.int .i64 0) (.int .i64 0) (.int .i64 0) (.int .i64 0) (.int .i64 0) (.int .u64 0) (.string ⟨#[]⟩)
  subst hV
  exact ⟨k1, none, 0, rfl, Rd.nil_ _ _ _ _, Nat.le_refl _, by omega, fun _ => rfl, k2⟩
set_option maxRecDepth 100000 in
theorem ownret_rd {l : List Int} {w w' : World} {v : Value} (h : w'.ownsRow w.heap.size 3 1 v l.length (l.map iv)) : ∃ p c, v = .slice p l.length c ∧ Rd w' (w.heap.size ≤ ·) (.slice p l.length c) (l.map iv) ∧ l.length ≤ c ∧ c ≤ 9223372036854775807 ∧ (p = none → c = 0) := by
  have hr := rd_of_own h
  rcases Joins.ownsRow_forms h with ⟨e, e0⟩ | ⟨g, cap, e⟩
  · subst e
    obtain rfl := List.eq_nil_of_length_eq_zero e0
    exact ⟨none, 0, rfl, hr, Nat.le_refl _, by omega, fun _ => rfl⟩
  · subst e
    have := own_cap h
    unfold maxLen at this
    exact ⟨_, cap, rfl, hr, this.1, by omega, fun e => by cases e⟩
set_option maxRecDepth 100000 in
set_option maxHeartbeats 6400000 in
theorem spush_any (t r : List Int) (P : Pk) (hP : P.Wf) (pt p : Option Addr) (ct c : Nat) (hc : r.length ≤ c ∧ c ≤ 9223372036854775807) (hct : t.length ≤ ct ∧ ct ≤ 9223372036854775807) (hn : p = none → c = 0) (hnt : pt = none → ct = 0) (q q2 : Nat → Prop) (w : World) (hR : Rd w q (.slice p r.length c) (r.map iv)) (hRt : Rd w q2 (.slice pt t.length ct) (t.map iv)) :
    Calls Tryd.prog 16 #[fval (.slice p r.length c) P, .slice pt t.length ct] w fun e w' => PUPost (pushV t r P) w e w' := by
  have hB := PB.start w (.slice p r.length c) P
  have HR := Lib.hid (And.intro (hR.keep hB.gr) (hRt.keep hB.gr))
  have HN := Lib.hid (And.intro hn hnt)
  have HP := Lib.hid hP
  have HC := Lib.hid (And.intro hc hct)
  have B0 := Lib.hid hB
  have hfv : fval (.slice p r.length c) P = .agg #[.slice p r.length c, .int .i64 P.mode, .int .i64 P.sub, .int .i64 P.set, .int .i64 P.len, .int .i64 P.ttl, .int .i64 P.ent, .int .i64 P.ing, .int .i64 P.pro, .int .u64 (P.bits : Int), .string P.pay] := rfl
  have HFV := Lib.hid hfv
  have hval : P.val = .agg #[.int .i64 P.mode, .int .i64 P.sub, .int .i64 P.set, .int .i64 P.len, .int .i64 P.ttl, .int .i64 P.ent, .int .i64 P.ing, .int .i64 P.pro, .int .u64 (P.bits : Int), .string P.pay] := rfl
  have hm2 : t.length ≤ 9223372036854775807 := by omega
  rw [hfv]
  clear hR hRt hn hnt hP hc hct hB hfv hval
  go_enter Tryd.func16, Tryd.ntmps16
  go_upto_region 1 with fail
  change Hid (PB w (.slice p r.length c) P ((w.alloc (.cells #[.slice p r.length c, .int .i64 P.mode, .int .i64 P.sub, .int .i64 P.set, .int .i64 P.len, .int .i64 P.ttl, .int .i64 P.ent, .int .i64 P.ing, .int .i64 P.pro, .int .u64 (P.bits : Int), .string P.pay] 33)).alloc (.cells #[.slice none 0 0, .int .i64 0, .int .i64 0, .int .i64 0, .int .i64 0, .int .i64 0, .int .i64 0, .int .i64 0, .int .i64 0, .int .u64 0, .string ⟨#[]⟩] 33))) at B0
  change Hid (Rd ((w.alloc (.cells #[.slice p r.length c, .int .i64 P.mode, .int .i64 P.sub, .int .i64 P.set, .int .i64 P.len, .int .i64 P.ttl, .int .i64 P.ent, .int .i64 P.ing, .int .i64 P.pro, .int .u64 (P.bits : Int), .string P.pay] 33)).alloc (.cells #[.slice none 0 0, .int .i64 0, .int .i64 0, .int .i64 0, .int .i64 0, .int .i64 0, .int .i64 0, .int .i64 0, .int .i64 0, .int .u64 0, .string ⟨#[]⟩] 33)) q _ _ ∧ Rd ((w.alloc (.cells #[.slice p r.length c, .int .i64 P.mode, .int .i64 P.sub, .int .i64 P.set, .int .i64 P.len, .int .i64 P.ttl, .int .i64 P.ent, .int .i64 P.ing, .int .i64 P.pro, .int .u64 (P.bits : Int), .string P.pay] 33)).alloc (.cells #[.slice none 0 0, .int .i64 0, .int .i64 0, .int .i64 0, .int .i64 0, .int .i64 0, .int .i64 0, .int .i64 0, .int .i64 0, .int .u64 0, .string ⟨#[]⟩] 33)) q2 _ _) at HR
  generalize (w.alloc _).alloc _ = wa at *
  obtain ⟨c0, c1, c2, c3, c4, c5, c6, c7, c8, c9, c10⟩ := fr_facts B0.out.box
  have C : Calls Tryd.prog 38 #[.agg #[.slice p r.length c, .int .i64 P.mode, .int .i64 P.sub, .int .i64 P.set, .int .i64 P.len, .int .i64 P.ttl, .int .i64 P.ent, .int .i64 P.ing, .int .i64 P.pro, .int .u64 (P.bits : Int), .string P.pay]] wa fun e w' => e = .returned (.bool (vfr r P)) ∧ wa.grownBy w' none := svfr_any r P HP.out p c HC.out.1.1 HC.out.1.2 q wa HR.out.1
  go_wp2_with fail
  refine C.mono ?_
  clear C
  rintro e w1 ⟨rfl, hg⟩
  have B1 := Lib.hid (B0.out.keep hg)
  have HR1 := Lib.hid (And.intro (HR.out.1.keep hg) (HR.out.2.keep hg))
  clear hg B0 HR c0 c1 c2 c3 c4 c5 c6 c7 c8 c9 c10
  obtain ⟨⟨d0, d1, d2, d3, d4, d5, d6, d7, d8, d9, d10⟩, f0, f1, f2, f3, f4, f5, f6, f7, f8, f9, f10⟩ := zfr_facts B1.out.res
  cases hv : vfr r P
  · have HE := Lib.hid (B1.out.err (V := pushV t r P) (x := 1) (by unfold pushV; rw [if_pos hv]))
    clear hv
    go_wp2_with fail
    refine bodyPost_ret (res_frame_err rfl _ _ (w.heap.size + 1) zfr rfl rfl HE.out.1) rfl ?_
    exact HE.out.2
  have HV := Lib.hid hv
  obtain ⟨h24, -, -, -⟩ := vfr_parts hv
  clear hv
  go_wp2_with fail
  refine (sallv_any t pt ct q2 w1 HR1.out.2 hm2).mono ?_
  rintro e w1 ⟨rfl, rfl⟩
  cases ha : allR t
  · have HE := Lib.hid (B1.out.err (V := pushV t r P) (x := 2) (by unfold pushV; rw [HV.out, if_neg (by simp), if_pos ha]))
    clear ha
    go_wp2_with fail
    refine bodyPost_ret (res_frame_err rfl _ _ (w.heap.size + 1) zfr rfl rfl HE.out.1) rfl ?_
    exact HE.out.2
  have HA := Lib.hid ha
  clear ha
  obtain ⟨c0, c1, c2, c3, c4, c5, c6, c7, c8, c9, c10⟩ := fr_facts B1.out.box
  by_cases hl : 24 < t.length + r.length
  · have HE := Lib.hid (B1.out.err (V := pushV t r P) (x := 3) (by unfold pushV; rw [HV.out, HA.out, if_neg (by simp), if_neg (by simp), if_pos hl]))
    have hl2 : (24 : Int) - (r.length : Int) < (t.length : Int) := by omega
    go_wp2_with fail
    refine bodyPost_ret (res_frame_err rfl _ _ (w.heap.size + 1) zfr rfl rfl HE.out.1) rfl ?_
    exact HE.out.2
  have hl2 : ¬ (24 : Int) - (r.length : Int) < (t.length : Int) := by omega
  have HL := Lib.hid hl
  go_upto_region 7 with fail
  obtain ⟨k1, k2⟩ := sone_box w1 #[.slice pt t.length ct, .slice p r.length c] 22
  obtain ⟨g0, g1⟩ := row_cells k1
  have B2 := Lib.hid (B1.out.keep k2)
  have HR2 := Lib.hid (And.intro (HR1.out.1.keep k2) (HR1.out.2.keep k2))
  have HG := Lib.hid (And.intro g0 g1)
  clear k1 k2 g0 g1 B1 HR1
  go_wp2_with fail
  generalize w1.alloc _ = w2 at *
  have hlt2 := B2.out.res.lt
  have C := sconcat_any t r pt p ct c q2 q w1.heap.size w2 HR2.out.2 HR2.out.1 HN.out.2 HN.out.1 HC.out.2.1 HC.out.1.1 (by omega) HG.out.1 HG.out.2
  obtain ⟨R, hR⟩ : ∃ R, R = t ++ r := ⟨_, rfl⟩
  rw [← hR] at C
  refine C.mono ?_
  clear C
  have HRT := Lib.hid hR
  clear hR
  rintro e w3 ⟨v3, rfl, ho, hg⟩
  obtain ⟨p3, c3', rfl, hr3, hl3, hm3, hn3⟩ := ownret_rd ho
  have B3 := Lib.hid (B2.out.keep hg)
  have HR3 := Lib.hid (And.intro hr3 (And.intro hl3 (And.intro hm3 hn3)))
  clear ho hg hr3 hl3 hm3 hn3 B2 HR2 HG c0 c1 c2 c3 c4 c5 c6 c7 c8 c9 c10 d0 d1 d2 d3 d4 d5 d6 d7 d8 d9 d10 f0 f1 f2 f3 f4 f5 f6 f7 f8 f9 f10
  obtain ⟨c0, c1, c2, c3, c4, c5, c6, c7, c8, c9, c10⟩ := fr_facts B3.out.box
  obtain ⟨⟨d0, d1, d2, d3, d4, d5, d6, d7, d8, d9, d10⟩, f0, f1, f2, f3, f4, f5, f6, f7, f8, f9, f10⟩ := zfr_facts B3.out.res
  go_wp2_with fail
  refine (salld_any R p3 c3' HR3.out.2.1 HR3.out.2.2.1 _ w3 HR3.out.1).mono ?_
  rintro e w3 ⟨rfl, rfl⟩
  cases hp : rep R
  · have HV2 : Hid (pushV t r P = (R, #[.int .i64 P.mode, .int .i64 P.sub, .int .i64 P.set, .int .i64 P.len, .int .i64 P.ttl, .int .i64 P.ent, .int .i64 P.ing, .int .i64 P.pro, .int .u64 (P.bits : Int), .string P.pay], 0)) := Lib.hid (by unfold pushV; rw [HV.out, HA.out, if_neg (by simp), if_neg (by simp), if_neg HL.out, ← HRT.out, hp, if_neg (by simp)])
    have HE := Lib.hid (B3.out.put (.slice p3 R.length c3') (.int .i64 P.mode) (.int .i64 P.sub) (.int .i64 P.set) (.int .i64 P.len) (.int .i64 P.ttl) (.int .i64 P.ent) (.int .i64 P.ing) (.int .i64 P.pro) (.int .u64 (P.bits : Int)) (.string P.pay))
    clear hp
    go_wp2_with fail
    refine bodyPost_ret (res_frame_err rfl _ _ (w.heap.size + 1) _ rfl rfl HE.out.1) rfl ?_
    rw [HV2.out]
    refine ⟨p3, c3', rfl, ?_, HR3.out.2.1, HR3.out.2.2.1, HR3.out.2.2.2, HE.out.2⟩
    exact (HR3.out.1.grown (fput_grown _ (w.heap.size + 1) _ _ _ _ _ _ _ _ _ _ _) (fun b hb e => by have := Option.some.inj e; omega)).mono (fun _ _ => trivial)
  · have HE := Lib.hid (B3.out.err (V := pushV t r P) (x := 5) (by unfold pushV; rw [HV.out, HA.out, if_neg (by simp), if_neg (by simp), if_neg HL.out, ← HRT.out, if_pos hp]))
    clear hp
    go_wp2_with fail
    refine bodyPost_ret (res_frame_err rfl _ _ (w.heap.size + 1) zfr rfl rfl HE.out.1) rfl ?_
    exact HE.out.2
end Go.Proofs.YtpabfjhjehjebaaDoor

/- The reference's DecodeLabels. -/
namespace Go.Proofs.YtpabfjhjehjebaaDoor
open Go.RowKit Bs
set_option maxRecDepth 100000 in
theorem i64_or_nat (a b : Nat) (ha : a < 4294967296) (hb : b < 4294967296) : bits .or .i64 (a : Int) (b : Int) = ((a ||| b : Nat) : Int) := by
  have hx : a ||| b < 2 ^ 32 := Nat.or_lt_two_pow (by omega) (by omega)
  show IntKind.i64.wrap ((BitVec.ofInt 64 (a : Int) ||| BitVec.ofInt 64 (b : Int)).toNat : Int) = _
  rw [BitVec.toNat_or, ofInt_u64 a (by omega), ofInt_u64 b (by omega)]
  exact IntWalk.i64_in _ (by omega)
set_option maxRecDepth 100000 in
theorem labN_int (n : Nat) : labN n = ⟨(n : Int) / 4096, (n : Int) / 512 % 8, (n : Int) % 256⟩ := by
  unfold labN
  simp
set_option maxRecDepth 100000 in
theorem botN_int (n : Nat) : botN n = decide ((n : Int) / 256 % 2 = 1) := by
  unfold botN
  rw [Bool.eq_iff_iff, beq_iff_eq, decide_eq_true_eq]
  omega
set_option maxRecDepth 100000 in
theorem word_ori {a b c d : Nat} (ha : a < 256) (hb : b < 256) (hc : c < 256) (hd : d < 256) :
    bits .or .i64 (bits .or .i64 (bits .or .i64 (((a : Nat) : Int) * 16777216) ((b : Nat) * 65536)) ((c : Nat) * 256)) (d : Nat) = ((a * 16777216 + b * 65536 + c * 256 + d : Nat) : Int) := by
  have e1 : ((a : Nat) : Int) * 16777216 = ((a * 16777216 : Nat) : Int) := by omega
  have e2 : ((b : Nat) : Int) * 65536 = ((b * 65536 : Nat) : Int) := by omega
  have e3 : ((c : Nat) : Int) * 256 = ((c * 256 : Nat) : Int) := by omega
  have o1 : a * 16777216 ||| b * 65536 = a * 16777216 + b * 65536 := or_join (k := 24) (by omega)
  have o2 : (a * 16777216 + b * 65536) ||| c * 256 = a * 16777216 + b * 65536 + c * 256 := by
    have := or_join (a := a * 256 + b) (b := c * 256) (k := 16) (by omega)
    have e : (a * 256 + b) * 2 ^ 16 = a * 16777216 + b * 65536 := by omega
    rw [e] at this
    exact this
  have o3 : (a * 16777216 + b * 65536 + c * 256) ||| d = a * 16777216 + b * 65536 + c * 256 + d := by
    have := or_join (a := a * 65536 + b * 256 + c) (b := d) (k := 8) (by omega)
    have e : (a * 65536 + b * 256 + c) * 2 ^ 8 = a * 16777216 + b * 65536 + c * 256 := by omega
    rw [e] at this
    exact this
  rw [e1, e2, e3, i64_or_nat _ _ (by omega) (by omega), o1, i64_or_nat _ _ (by omega) (by omega), o2, i64_or_nat _ _ (by omega) (by omega), o3]
set_option maxRecDepth 100000 in
set_option maxHeartbeats 3200000 in
theorem rdecl_any (L : List Nat) (hL : By L) (p : Option Addr) (c : Nat) (hc : L.length ≤ c) (hcm : c ≤ 9223372036854775807) (q : Nat → Prop) (w : World) (hR : Rd w q (.slice p L.length c) (L.map nv)) :
    Calls Tryd.prog 31 #[.slice p L.length c] w fun e w' => DLPost L w e w' := by
  obtain ⟨i0, hi, hz0, hz1, hz2⟩ := info_parts info_lab
  have HR := Lib.hid hR
  have HL := Lib.hid hL
  have HC := Lib.hid (And.intro hc hcm)
  clear hR hL hc hcm
  have HM : Hid (decM L = decGo L 24 0) := Lib.hid rfl
  go_enter Tryd.func31, Tryd.ntmps31
  go_wp2_with fail
  go_loopw [5, 6] (fun v a wr => ∃ k : Nat, k < 24 ∧ a = .int .i64 ((4 * k : Nat) : Int) ∧ OwnL wr w.heap.size v (labsN L k) ∧ w.grownBy wr none ∧ decM L = decGo L (24 - k) k ∧ ∃ p2 c2, v = .slice p2 k c2) (fun _ a _ => 24 - (intOf a).toNat / 4)
  case atStart => exact ⟨0, by omega, rfl, World.ownsRow_nil _ _ _ _, grown_refl _ _, HM.out, none, 0, rfl⟩
  case round =>
    obtain ⟨k, hk, rfl, hO, hG, hM, p2, c2, rfl⟩ := hrel
    have HO := Lib.hid hO
    have HG := Lib.hid hG
    have HM2 := Lib.hid hM
    clear hO hG hM HM
    by_cases hs : L.length < 4 * k + 4
    · go_wp2_with fail
      go_ret3
      exact dl_err (by rw [HM2.out, show 24 - k = (23 - k) + 1 by omega, decGo, if_pos hs]) HG.out
    · obtain ⟨b, off, rfl, hb, hcc⟩ := rd_cells (HR.out.keep HG.out) (by omega)
      have hle : 4 * k ≤ L.length := by omega
      have hlc := HC.out.1
      have hlm := Nat.le_trans HC.out.1 HC.out.2
      have c0 := hcc (4 * k) (by omega)
      have c1 := hcc (4 * k + 1) (by omega)
      have c2' := hcc (4 * k + 2) (by omega)
      have c3 := hcc (4 * k + 3) (by omega)
      have y0 := HL.out.at_ (j := 4 * k) (by omega)
      have y1 := HL.out.at_ (j := 4 * k + 1) (by omega)
      have y2 := HL.out.at_ (j := 4 * k + 2) (by omega)
      have y3 := HL.out.at_ (j := 4 * k + 3) (by omega)
      have HW : Hid (word4 L k = L.getD (4 * k) 0 * 16777216 + L.getD (4 * k + 1) 0 * 65536 + L.getD (4 * k + 2) 0 * 256 + L.getD (4 * k + 3) 0) := Lib.hid rfl
      have HWO := Lib.hid (word_ori y0 y1 y2 y3)
      have HY := Lib.hid (word4_lt HL.out k)
      clear hcc
      generalize L.getD (4 * k) 0 = x0 at *
      generalize L.getD (4 * k + 1) 0 = x1 at *
      generalize L.getD (4 * k + 2) 0 = x2 at *
      generalize L.getD (4 * k + 3) 0 = x3 at *
      have l0 : 4 * k < L.length := by omega
      have l1 : 4 * k + 1 < L.length := by omega
      have l2 : 4 * k + 2 < L.length := by omega
      have l3 : 4 * k + 3 < L.length := by omega
      go_wp2_with fail
      go_region
      rw [HWO.out, ← HW.out]
      obtain ⟨n, hn⟩ : ∃ n, word4 L k = n := ⟨_, rfl⟩
      have hY := HY.out
      rw [hn] at hY ⊢
      have HN := Lib.hid hn
      have HO1 : Hid (OwnL wr.drew w.heap.size (.slice p2 k c2) (labsN L k)) := Lib.hid HO.out.drew
      have HG1 := hid_drew HG
      clear HO HG hn HY HW HWO c0 c1 c2' c3 y0 y1 y2 y3
      generalize wr.drew = w1 at *
      go_wp2_with (at_builtin; refine wpList_append_own _ rfl _ _ 53 rfl w.heap.size 55 i0 (.agg #[.int .i64 0, .int .i64 0, .int .i64 0]) 3 24 Tryd.underlying53 hi hz0 hz1 hz2 rfl (by decide) (.slice p2 k c2) (labsN L k).length (labsC (labsN L k)) rfl (HO1.out.alloc _) ⟨w1.heap.size, 0, none⟩ 1 1 [.int .i64 ((n : Int) / 4096), .int .i64 ((n : Int) / 512 % 8), .int .i64 ((n : Int) % 256)] rfl rfl ?c1 ?c2 ?c3 ?c4 ?c5 ?_)
      case c1 => exact cells3 _ _ _ _ _
      case c2 => intro u hu; simp at hu; rcases hu with rfl | rfl | rfl <;> rfl
      case c3 => rw [labsN_len]; unfold maxLen; omega
      case c4 => rw [labsN_len]; omega
      case c5 => have := HG1.out.size; simp; omega
      intro v' w2 hown2 hg2 _
      obtain ⟨O2, G2⟩ := dl_step (l := ⟨(n : Int) / 4096, (n : Int) / 512 % 8, (n : Int) % 256⟩) HG1.out HO1.out (by rw [HN.out, labN_int]) hg2 hown2
      have HO2 := Lib.hid O2
      have HG2 := Lib.hid G2
      clear hown2 hg2 O2 G2 HO1 HG1
      have HM3 : Hid (decM L = if botN n = true then (k + 1, 0) else decGo L (23 - k) (k + 1)) := by
        refine Lib.hid ?_
        rw [HM2.out, show 24 - k = (23 - k) + 1 by omega, decGo, if_neg hs, HN.out]
      have HBN := Lib.hid (botN_int n)
      clear HM2
      by_cases hz : (n : Int) / 256 % 2 = 1
      · go_wp2_with fail
        go_ret3
        have e : decM L = (k + 1, 0) := by rw [HM3.out, HBN.out, if_pos (by simpa using hz)]
        have e2 : 4 * (k : Int) + 4 = ((4 * (k + 1) : Nat) : Int) := by omega
        refine ⟨v', ?_, ?_, HG2.out⟩
        · show Ending.returned (.tuple #[v', .int .i64 (4 * (k : Int) + 4), .int .i64 0]) = _
          rw [e2, e]
        · rw [e]
          exact HO2.out
      · have e : decM L = decGo L (23 - k) (k + 1) := by rw [HM3.out, HBN.out, if_neg (by simpa using hz)]
        have HE := Lib.hid e
        obtain ⟨g, cap, hv⟩ := Joins.ownsRow_form HO2.out (by rw [labsN_len]; omega)
        rw [labsN_len] at hv
        subst hv
        clear e
        by_cases h24 : k + 1 = 24
        · obtain rfl : k = 23 := by omega
          go_wp2_with fail
          go_ret3
          exact dl_err (by rw [HE.out]; rfl) HG2.out
        · have h24' : (k : Int) + 1 ≠ 24 := by omega
          go_wp2_with fail
          refine ⟨⟨k + 1, by omega, congrArg _ (by omega), HO2.out, HG2.out, by rw [HE.out, show 24 - (k + 1) = 23 - k by omega], _, _, rfl⟩, ?_⟩
          simp only [intOf]
          omega
end Go.Proofs.YtpabfjhjehjebaaDoor

/- The tape's labels. -/
namespace Go.Proofs.YtpabfjhjehjebaaDoor
open Go.RowKit Bs
def LabelPost (a : Nat) (w : World) (e : Ending) (w' : World) : Prop := ∃ l : Lab, e = .returned (.agg #[.int .i64 l.v, .int .i64 l.c, .int .i64 l.h]) ∧ l.Wf ∧ St a w w'
end Go.Proofs.YtpabfjhjehjebaaDoor

/- Parts of the proof, packed: TaTpM, TaTap, MaPln, MaLay, MaSrt, MaAll, MaAwk, MaMsk, MaUsM, MaHas, MaMeLaw, MaRAl. -/
import Derived.Test.YtgofadmncgmhoaaDv18
import Derived.Test.YtgofadmncgmhoaaDv19
import Derived.Test.YtgofadmncgmhoaaDv7
import Derived.Test.YtgofadmncgmhoaaDv13
import Derived.Shelf.SlIterI.Sorted
import Derived.Shelf.SlLaysM
import Derived.Shelf.SortM.Plain
import Derived.Shelf.SortM.SortNone
import Derived.Deep.AppendLies
import Derived.Laws.StructEq
import Derived.Test.YtgofadmncgmhoaaDv1
import Derived.Test.YtgofadmncgmhoaaDv5
/- tables: what the tape's Table keeps in memory. -/
namespace Go.Proofs.Ytgofadmncgmhoaa
open Go.RowKit Bs
set_option maxRecDepth 100000 in
theorem tg_of_ownT {w : World} {base : Nat} {vR vL : Value} {R : List Rt} {L : List Lk} (hR : w.ownsRow base 82 2 vR R.length (R.flatMap rtC)) (hL : w.ownsRow base 96 5 vL L.length (L.flatMap lkC)) :
    ∃ pR cR pL cL, vR = .slice pR R.length cR ∧ vL = .slice pL L.length cL ∧ TgOk w (fun b => base ≤ b ∧ b < w.heap.size) ⟨R, L, pR, cR, pL, cL⟩ := by
  obtain ⟨pR, cR, rfl, h1, h2⟩ := own_shape hR
  obtain ⟨pL, cL, rfl, h3, h4⟩ := own_shape hL
  exact ⟨pR, cR, pL, cL, rfl, rfl, rdf_of_own2 hR, rdf_of_own2 hL, ⟨h1, h2⟩, ⟨h3, h4⟩⟩
/-- The topology is there. -/
structure TT (a : Nat) (W : World) (B : Nat) (T : Tg) (w : World) : Prop where
  rs : w.heap[W.heap.size]? = some (.cells #[.int .i64 0, .int .i64 0, .int .i64 0, .slice none 0 0] 27 (0, 0))
  bT : w.heap[B]? = some (.cells #[.slice T.pR T.R.length T.cR, .slice T.pL T.L.length T.cL] 55 (0, 0))
  t : TgOk w (fun b => W.heap.size + 1 ≤ b ∧ b < B) T
  st : St a W w
  lo : W.heap.size + 1 ≤ B ∧ B < w.heap.size
set_option maxRecDepth 100000 in
theorem TT.keep {a : Nat} {W : World} {B : Nat} {T : Tg} {w w1 : World} (h : TT a W B T w) (g : w.grownBy w1 none) : TT a W B T w1 :=
  ⟨kept_row h.rs g (by simp), kept_row h.bT g (by simp), h.t.keep g, h.st.none_ g, h.lo.1, Nat.lt_of_lt_of_le h.lo.2 g.size⟩
set_option maxRecDepth 100000 in
theorem TT.tape {a : Nat} {W : World} {B : Nat} {T : Tg} {w w1 : World} (h : TT a W B T w) (ha : a < W.heap.size) (k : St a w w1) : TT a W B T w1 := by
  have hlo := h.lo
  have hn : ∀ b, W.heap.size ≤ b → some b ≠ some a := fun b hb e => by have := Option.some.inj e; omega
  exact ⟨kept_row h.rs k.1 (hn _ (Nat.le_refl _)), kept_row h.bT k.1 (hn _ (by omega)), h.t.grown k.1 (fun b hb => hn _ (by omega)), h.st.trans k, h.lo.1, Nat.lt_of_lt_of_le h.lo.2 k.1.size⟩
/-- The tables are there. -/
structure TW (a : Nat) (W : World) (C : Nat) (v : Value) (Ts : List Tb) (w : World) : Prop where
  rs : w.heap[W.heap.size]? = some (.cells #[.int .i64 0, .int .i64 0, .int .i64 0, .slice none 0 0] 27 (0, 0))
  own : w.ownsRow C 27 4 v Ts.length (Ts.flatMap tbC)
  tabs : ∀ x ∈ Ts, TbX C w v x
  st : St a W w
  lo : W.heap.size + 1 ≤ C ∧ C ≤ w.heap.size
set_option maxRecDepth 100000 in
theorem TbX.tape {a lo : Nat} {w w1 : World} {v : Value} {x : Tb} (h : TbX lo w v x) (hl : a < lo) (g : w.grownBy w1 (some a)) : TbX lo w1 v x := h.over g (fun b hb e => by omega)
set_option maxRecDepth 100000 in
theorem TW.tape {a : Nat} {W : World} {C : Nat} {v : Value} {Ts : List Tb} {w w1 : World} (h : TW a W C v Ts w) (ha : a < W.heap.size) (k : St a w w1) : TW a W C v Ts w1 := by
  have hlo := h.lo
  exact ⟨kept_row h.rs k.1 (fun e => by have := Option.some.inj e; omega), own_otherL h.own k.1 (by omega), fun x hx => (h.tabs x hx).tape (by omega) k.1, h.st.trans k, h.lo.1, Nat.le_trans h.lo.2 k.1.size⟩
/-- What the tape's Table gives without mistakes. -/
def TabPost0 (a : Nat) (w : World) (e : Ending) (w' : World) : Prop :=
  ∃ (r s n : Int) (L : List Rw) (p : Option Addr) (c : Nat), e = .returned (.agg #[.int .i64 r, .int .i64 s, .int .i64 n, .slice p L.length c]) ∧ OwnT w.heap.size w' (.slice p L.length c) L ∧ ckT r s n L = 0 ∧ St a w w'
set_option maxRecDepth 100000 in
theorem rows_len {s n : Int} {E : List Ed} (h : vPl s n E = true) : E.length ≤ 24 := by
  unfold vPl at h
  simp only [Bool.and_eq_true, decide_eq_true_eq] at h
  omega
end Go.Proofs.Ytgofadmncgmhoaa

/- tables: the tape's Table without mistakes. -/
namespace Go.Proofs.Ytgofadmncgmhoaa
open Go.RowKit Bs
set_option maxRecDepth 100000 in
set_option maxHeartbeats 6400000 in
theorem ttab0_any (a : Nat) (n0 : Int) (hn0 : n0 ≤ 0) (hn1 : I64 n0) (w : World) (hT : Tp w a) :
    Calls Try.prog 7 #[.pointer (some ⟨a, 0, none⟩), .int .i64 n0] w fun e w' => TabPost0 a w e w' := by
  have ha := hT.lt
  have HA := Lib.hid ha
  obtain ⟨k1, k2⟩ := tone_box w #[.int .i64 0, .int .i64 0, .int .i64 0, .slice none 0 0] 27
  have HB := Lib.hid (And.intro k1 (And.intro k2 (And.intro (hT.keep k2) (by simp : (w.alloc (.cells #[.int .i64 0, .int .i64 0, .int .i64 0, .slice none 0 0] 27)).heap.size = w.heap.size + 1))))
  clear k1 k2 hT ha
  go_enter Try.func7, Try.ntmps7
  go_upto_region 1 with fail
  generalize w.alloc _ = wa at *
  go_wp2_with fail
  refine (mixed_any a 6 (by omega) (by omega) wa HB.out.2.2.1).mono ?_
  rintro e w1 ⟨R0, R, L0, vR, vL, rfl, hR, hL, hO, hid, hs⟩
  obtain ⟨pR, cR, pL, cL, rfl, rfl, hTg⟩ := tg_of_ownT hR hL
  have hlen : R.length = R0.length := by have := congrArg List.length hid; simpa using this
  have hck := (hO.2.2.2.2 (Int.le_refl 0)).1
  have hR6 : R.length ≤ 6 := by have := (hO.2.2.2.2 (Int.le_refl 0)).2; omega
  have HOK : Hid (chk R L0 = 0) := Lib.hid (by rw [chk_idsT hid]; exact hck)
  obtain ⟨b1, g1⟩ := tone_box w1 #[.slice pR R.length cR, .slice pL L0.length cL] 55
  have H1 : Hid (TT a w w1.heap.size ⟨R, L0, pR, cR, pL, cL⟩ (w1.alloc (.cells #[.slice pR R.length cR, .slice pL L0.length cL] 55))) := Lib.hid (by
    have hh := HB.out
    have hz := hh.2.2.2
    have hsz := hs.1.size
    exact ⟨kept_row (kept_row hh.1 hs.1 (fun e => by have := Option.some.inj e; have := HA.out; omega)) g1 (by simp), b1, (hTg.keep g1).mono (fun b hb => ⟨by have := hb.1; omega, hb.2⟩), (show St a w w1 from ⟨grown_trans (grown_none hh.2.1 _) hs.1, hs.2⟩).none_ g1, by omega, by simp⟩)
  clear hR hL hO hid hs hTg hck hlen b1 g1 HB
  go_upto_region 2 with fail
  generalize w1.alloc _ = w2 at *
  generalize w1.heap.size = B at *
  obtain ⟨t0, t1⟩ := row_cells H1.out.bT
  go_wp2_with fail
  refine (tplan_any a 0 (by unfold I64; omega) R pR pL cR L0.length cL (by omega) w2 H1.out.st.2 (H1.out.t.r.mono (fun b hb => ⟨by have := hb.1; have := HA.out; omega, by have := hb.2; have := H1.out.lo; omega⟩))).mono ?_
  rintro e w3 ⟨sub, len, E, pE, cE, rfl, hE, -, hgood, hs⟩
  obtain ⟨hg1, hg2, O, i, id, hO, hP⟩ := hgood (Int.le_refl 0)
  have hsub : inV sub 0 7 = true := by unfold inV at hg1 ⊢; simp only [decide_eq_true_eq] at hg1 ⊢; omega
  have HVP := Lib.hid (hP.valid HOK.out hO hsub hg2).1
  obtain ⟨b3, g3⟩ := tone_box w3 #[.int .i64 sub, .int .i64 len, .slice pE E.length cE] 59
  have H3 := Lib.hid (And.intro ((H1.out.tape HA.out hs).keep g3) (And.intro (kept_row b3 (grown_refl _ none) (by simp)) ((rdf_of_own hE).keep g3)))
  clear hE hgood hg1 hg2 hO hP hsub hs b3 g3 t0 t1 H1
  go_upto_region 3 with fail
  generalize w3.alloc _ = w4 at *
  generalize w3.heap.size = Bp at *
  obtain ⟨t0, t1⟩ := row_cells H3.out.1.bT
  obtain ⟨q0, q1, q2⟩ := row3B H3.out.2.1
  have hE24 := rows_len HVP.out
  go_wp2_with fail
  refine (rall11_any ⟨R, L0, pR, cR, pL, cL⟩ sub len E pE cE _ _ w4 H3.out.1.t H3.out.2.2 (by omega)).mono ?_
  rintro e w5 ⟨Ts, p, c, er, rfl, hres, hown, htab, hg⟩
  have hT5 := H3.out.1.keep hg
  have hsz4 := H3.out.1.lo
  have K5 : Hid (TW a w w4.heap.size (.slice p Ts.length c) Ts w5) := Lib.hid ⟨hT5.rs, hown, htab, hT5.st, by omega, hg.size⟩
  have hok : okT R L0 = true := by unfold okT; simpa using HOK.out
  have HM : Hid (AllM R L0 sub len E R Ts) := Lib.hid (by
    rcases hres with h | h
    · exact h.2.2.2
    · exact absurd ⟨hok, HVP.out⟩ h.2.1)
  have hTl : Ts.length ≤ 6 := Nat.le_trans HM.out.len hR6
  have HOKT := Lib.hid hok
  clear hres hown htab hg hT5 hok H3 t0 t1 q0 q1 q2 hsz4 HOK
  simp only
  obtain ⟨C, hC⟩ : ∃ C, w4.heap.size = C := ⟨_, rfl⟩
  rw [hC] at K5
  clear hC
  by_cases h0 : Ts.length = 0
  case pos =>
    have h0' : ((Ts.length : Int) == 0) = true := by simpa using h0
    obtain ⟨z0, z1, z2, z3⟩ := row4T K5.out.rs
    have f0 := frozen_of_row _ _ 0 _ _ K5.out.rs
    have f1 := frozen_of_row _ _ 1 _ _ K5.out.rs
    have f2 := frozen_of_row _ _ 2 _ _ K5.out.rs
    have f3 := frozen_of_row _ _ 3 _ _ K5.out.rs
    have HT := Lib.hid (store4B (.int .i64 1) (.int .i64 0) (.int .i64 8) (.slice none 0 0) K5.out.rs)
    clear h0
    go_wp2_with fail
    refine bodyPost_ret (res_tabB rfl _ _ w.heap.size _ _ _ _ rfl HT.out.1) rfl ?_
    have hst := K5.out.st.storeT HT.out.2 (Nat.le_refl _) HA.out
    exact ⟨1, 0, 8, [], none, 0, rfl, OwnT.nil _ _, by decide, hst⟩
  have h0' : ((Ts.length : Int) == 0) = false := by simpa using h0
  clear h0'
  have h0'' : ¬ (Ts.length : Int) = 0 := by omega
  have h0' : ((Ts.length : Int) == 0) = false := by simpa using h0
  have hTl' : (Ts.length : Int) ≤ 6 := by omega
  clear h0
  go_wp2_with fail
  refine (next_any a (Ts.length : Int) (by unfold I64; omega) w5 K5.out.st.2).mono ?_
  rintro e w6 ⟨r, rfl, hr, hs⟩
  have K6 := Lib.hid (K5.out.tape HA.out hs)
  have hr2 : 0 ≤ r ∧ r < (Ts.length : Int) := by unfold CutOf at hr; omega
  clear hs hr K5
  obtain ⟨j, rfl⟩ : ∃ j : Nat, r = (j : Int) := ⟨r.toNat, by omega⟩
  have hj : j < Ts.length := by omega
  obtain ⟨x, hx⟩ : ∃ x, Ts[j]? = some x := ⟨_, List.getElem?_eq_getElem hj⟩
  obtain ⟨-, bt, ot, rfl, -, hc⟩ := tb_cells (rdf_of_own K6.out.own) (by omega)
  obtain ⟨a0, a1, a2, a3⟩ := hc j x hx
  have HX := Lib.hid (List.mem_of_getElem? hx)
  have hj1 : (j : Int) < (Ts.length : Int) := hr2.2
  have hj0 : (0 : Int) ≤ (j : Int) := hr2.1
  clear hc hx hr2 hj
  obtain ⟨HV1, HV2, HV3, -, HV5⟩ := all_valid HM.out HOKT.out HVP.out HX.out
  have HVB := Lib.hid (And.intro HV1 (And.intro HV2 (And.intro HV3 HV5)))
  have hxl : x.L.length ≤ 24 := by rw [HV5.1]; exact hE24
  have HXL := Lib.hid hxl
  have HNL : Hid (∀ y ∈ x.L, y.nx.length ≤ 24) := Lib.hid (by
    have hv := tab_valid HV5 HOKT.out (s := x.s) (n := x.n) (by rw [HV1, HV2]; exact HVP.out) HV3
    have h4 := (ck_ok hv).2.2.2.1
    intro y hy
    have := List.any_eq_false.1 h4 y hy
    unfold lgW at this
    simp only [decide_eq_true_eq] at this
    omega)
  clear HV1 HV2 HV3 HV5 hxl
  have hX := K6.out.tabs x HX.out
  go_wp2_with fail
  refine (copiedT_any x.r x.s x.n x.L x.p x.c _ w6 hX.rd hX.hy (by have := HXL.out; omega) (fun y hy => by have := HNL.out y hy; omega)).mono ?_
  rintro e w7 ⟨M, p2, c2, rfl, hO, hM, hg⟩
  have hM2 : ckT x.r x.s x.n M = 0 := tab_valid (bldM_congr HVB.out.2.2.2 hM) HOKT.out (by rw [HVB.out.1, HVB.out.2.1]; exact HVP.out) HVB.out.2.2.1
  have hro := ids_inT HOKT.out HVB.out.2.2.1
  have HM2 := Lib.hid (And.intro hM2 hro)
  have hMl : M.length ≤ 24 := by have := congrArg List.length hM; rw [List.length_map, List.length_map] at this; rw [this]; exact HXL.out
  have HML := Lib.hid hMl
  obtain ⟨b7, g7⟩ := tone_box w7 #[.int .i64 x.r, .int .i64 x.s, .int .i64 x.n, .slice p2 M.length c2] 27
  have hlo6 := K6.out.lo
  have K7 := Lib.hid (And.intro (kept_row (kept_row K6.out.rs hg (by simp)) g7 (by simp)) (And.intro b7 (And.intro ((hO.mono (lo2 := w.heap.size + 1) (by omega)).keep g7) (And.intro ((K6.out.st.none_ hg).none_ g7) (show w.heap.size + 1 ≤ w7.heap.size by have := hg.size; omega)))))
  have K7O := Lib.hid (And.intro (show ∀ b, (Value.slice p2 M.length c2).ownBlock = some b → b < w7.heap.size from fun b e => (hO.own.lt b e).2) (show ∀ y ∈ M, ∀ b, y.v.ownBlock = some b → b < w7.heap.size from fun y hy b e => ((hO.nx y hy).lt b e).2))
  clear hO hM hg hM2 hro hMl b7 g7 hlo6 hX K6 a0 a1 a2 a3 HX HVB HXL HNL HM hTl hTl' h0' h0'' hj0 hj1
  go_upto_region 7 with fail
  generalize w7.alloc _ = w8 at *
  generalize w7.heap.size = B9 at *
  generalize x.r = tr at *
  generalize x.s = ts at *
  generalize x.n = tn at *
  have hng : ¬ 0 < n0 := by omega
  obtain ⟨z0, z1, z2, z3⟩ := row4T K7.out.1
  obtain ⟨d0, d1, d2, d3⟩ := row4T K7.out.2.1
  have f0 := frozen_of_row _ _ 0 _ _ K7.out.1
  have f1 := frozen_of_row _ _ 1 _ _ K7.out.1
  have f2 := frozen_of_row _ _ 2 _ _ K7.out.1
  have f3 := frozen_of_row _ _ 3 _ _ K7.out.1
  have HT := Lib.hid (store4B (.int .i64 tr) (.int .i64 ts) (.int .i64 tn) (.slice p2 M.length c2) K7.out.1)
  go_wp2_with fail
  refine bodyPost_ret (res_tabB rfl _ _ w.heap.size _ _ _ _ rfl HT.out.1) rfl ?_
  have hst := K7.out.2.2.2.1.storeT HT.out.2 (Nat.le_refl _) HA.out
  exact ⟨tr, ts, tn, M, p2, c2, rfl, (K7.out.2.2.1.over HT.out.2 (by omega)).mono (by omega), HM2.out.1, hst⟩
end Go.Proofs.Ytgofadmncgmhoaa

/- masks: Planes. -/
namespace Go.Proofs.Ytgofadmncgmhoaa
open Go.RowKit Go.Maps Bs
end Go.Proofs.Ytgofadmncgmhoaa

/- The library's contracts on maps.Keys, slices.Sorted and slices.Sort, laid at this program. -/
namespace Go.Proofs.Ytgofadmncgmhoaa
open Go.Shelf
def keysU_ren : Go.Shelf.Ren := ⟨fun | 7 => 32 | 10 => 49 | n => n, fun | 23 => 68 | 26 => 3 | 3 => 31 | 28 => 72 | 0 => 0 | 27 => 71 | 33 => 65 | 4 => 4 | n => n, fun | n => n⟩
set_option maxRecDepth 100000 in
theorem keysU : Go.Proofs.SlLaysZI.n7 Try.prog keysU_ren where
  mixed := by kernel_rfl
  f7 := ⟨ "maps.Keys[map[int]uint64,int,uint64]", by decide, Try.func32.trans (congrArg some (by kernel_rfl))⟩
  f10 := ⟨ "maps.Keys[map[int]uint64,int,uint64]$1", by decide, Try.func49.trans (congrArg some (by kernel_rfl))⟩
  t0 := Try.underlying0
  a0 := Try.isAgg0
  z0 := Try.sizeOf0
  v0 := Try.zeroValue0
  t4 := Try.underlying4
  a4 := Try.isAgg4
  z4 := Try.sizeOf4
  v4 := Try.zeroValue4
  t23 := Try.underlying68
  a23 := Try.isAgg68
  z23 := Try.sizeOf68
  v23 := Try.zeroValue68
  t26 := Try.underlying3
  a26 := Try.isAgg3
  z26 := Try.sizeOf3
  v26 := Try.zeroValue3
  t27 := Try.underlying71
  a27 := Try.isAgg71
  z27 := Try.sizeOf71
  v27 := Try.zeroValue71
  t28 := Try.underlying72
  a28 := Try.isAgg72
  z28 := Try.sizeOf72
  v28 := Try.zeroValue72
  t33 := Try.underlying65
  a33 := Try.isAgg65
  z33 := Try.sizeOf65
  v33 := Try.zeroValue65
def sortedU_ren : Go.Shelf.Ren := ⟨fun | 6 => 31 | 8 => 47 | 9 => 48 | 11 => 63 | 13 => 65 | 12 => 64 | 23 => 89 | 24 => 90 | 14 => 80 | 15 => 81 | 16 => 82 | 17 => 83 | 18 => 84 | 19 => 85 | 20 => 86 | 21 => 87 | 22 => 88 | 25 => 102 | 26 => 103 | 27 => 104 | 28 => 105 | 29 => 106 | 30 => 107 | 31 => 109 | n => n, fun | 26 => 3 | 28 => 72 | 24 => 22 | 0 => 0 | 3 => 3 | 37 => 67 | 48 => 121 | 50 => 31 | 4 => 4 | 40 => 113 | 39 => 112 | 45 => 118 | 5 => 5 | 9 => 9 | 51 => 129 | 55 => 133 | 57 => 136 | 58 => 137 | 33 => 65 | n => n, fun | n => n⟩
set_option maxRecDepth 100000 in
theorem sortedU : Go.Proofs.SlLaysZI.n6 Try.prog sortedU_ren where
  mixed := by kernel_rfl
  f6 := ⟨ "slices.Sorted[int]", by decide, Try.func31.trans (congrArg some (by kernel_rfl))⟩
  f8 := ⟨ "slices.Collect[int]", by decide, Try.func47.trans (congrArg some (by kernel_rfl))⟩
  f11 := ⟨ "slices.AppendSeq[[]int,int]", by decide, Try.func63.trans (congrArg some (by kernel_rfl))⟩
  t0 := Try.underlying0
  a0 := Try.isAgg0
  z0 := Try.sizeOf0
  v0 := Try.zeroValue0
  t24 := Try.underlying22
  a24 := Try.isAgg22
  z24 := Try.sizeOf22
  v24 := Try.zeroValue22
  t26 := Try.underlying3
  a26 := Try.isAgg3
  z26 := Try.sizeOf3
  v26 := Try.zeroValue3
  t28 := Try.underlying72
  a28 := Try.isAgg72
  z28 := Try.sizeOf72
  v28 := Try.zeroValue72
  i26 := by kernel_rfl
def sortU_ren : Go.Shelf.Ren := ⟨fun | 5 => 48 | 8 => 65 | 7 => 64 | 19 => 89 | 20 => 90 | 10 => 80 | 11 => 81 | 12 => 82 | 13 => 83 | 14 => 84 | 15 => 85 | 16 => 86 | 17 => 87 | 18 => 88 | 30 => 102 | 31 => 103 | 32 => 104 | 33 => 105 | 34 => 106 | 35 => 107 | 40 => 109 | n => n, fun | 23 => 22 | 25 => 3 | 3 => 3 | 32 => 67 | 22 => 22 | 0 => 0 | 44 => 121 | 46 => 31 | 4 => 4 | 36 => 113 | 35 => 112 | 41 => 118 | 5 => 5 | 9 => 9 | 53 => 129 | 57 => 133 | 63 => 136 | 64 => 137 | n => n, fun | n => n⟩
set_option maxRecDepth 100000 in
theorem sortU : Go.Proofs.SlLaysM.n5 Try.prog sortU_ren where
  mixed := by kernel_rfl
  f5 := ⟨ "slices.Sort[[]int,int]", by decide, Try.func48.trans (congrArg some (by kernel_rfl))⟩
  f7 := ⟨ "slices.pdqsortOrdered[int]", by decide, Try.func64.trans (congrArg some (by kernel_rfl))⟩
  f8 := Try.func65.trans (congrArg some (by kernel_rfl))
  f10 := ⟨ "slices.insertionSortOrdered[int]", by decide, Try.func80.trans (congrArg some (by kernel_rfl))⟩
  f11 := ⟨ "slices.heapSortOrdered[int]", by decide, Try.func81.trans (congrArg some (by kernel_rfl))⟩
  f12 := ⟨ "slices.breakPatternsOrdered[int]", by decide, Try.func82.trans (congrArg some (by kernel_rfl))⟩
  f13 := ⟨ "slices.choosePivotOrdered[int]", by decide, Try.func83.trans (congrArg some (by kernel_rfl))⟩
  f14 := ⟨ "slices.reverseRangeOrdered[int]", by decide, Try.func84.trans (congrArg some (by kernel_rfl))⟩
  f15 := ⟨ "slices.partialInsertionSortOrdered[int]", by decide, Try.func85.trans (congrArg some (by kernel_rfl))⟩
  f16 := ⟨ "cmp.Less[int]", by decide, Try.func86.trans (congrArg some (by kernel_rfl))⟩
  f17 := ⟨ "slices.partitionEqualOrdered[int]", by decide, Try.func87.trans (congrArg some (by kernel_rfl))⟩
  f18 := ⟨ "slices.partitionOrdered[int]", by decide, Try.func88.trans (congrArg some (by kernel_rfl))⟩
  f19 := Try.func89.trans (congrArg some (by kernel_rfl))
  f20 := Try.func90.trans (congrArg some (by kernel_rfl))
  f30 := ⟨ "slices.siftDownOrdered[int]", by decide, Try.func102.trans (congrArg some (by kernel_rfl))⟩
  f31 := Try.func103.trans (congrArg some (by kernel_rfl))
  f32 := Try.func104.trans (congrArg some (by kernel_rfl))
  f33 := ⟨ "slices.medianAdjacentOrdered[int]", by decide, Try.func105.trans (congrArg some (by kernel_rfl))⟩
  f34 := ⟨ "slices.medianOrdered[int]", by decide, Try.func106.trans (congrArg some (by kernel_rfl))⟩
  f35 := ⟨ "cmp.isNaN[int]", by decide, Try.func107.trans (congrArg some (by kernel_rfl))⟩
  f40 := ⟨ "slices.order2Ordered[int]", by decide, Try.func109.trans (congrArg some (by kernel_rfl))⟩
  t0 := Try.underlying0
  a0 := Try.isAgg0
  z0 := Try.sizeOf0
  v0 := Try.zeroValue0
  t3 := Try.underlying3
  a3 := Try.isAgg3
  z3 := Try.sizeOf3
  v3 := Try.zeroValue3
  t4 := Try.underlying4
  a4 := Try.isAgg4
  z4 := Try.sizeOf4
  v4 := Try.zeroValue4
  t5 := Try.underlying5
  a5 := Try.isAgg5
  z5 := Try.sizeOf5
  v5 := Try.zeroValue5
  t9 := Try.underlying9
  a9 := Try.isAgg9
  z9 := Try.sizeOf9
  v9 := Try.zeroValue9
  t22 := Try.underlying22
  a22 := Try.isAgg22
  z22 := Try.sizeOf22
  v22 := Try.zeroValue22
  t23 := Try.underlying22
  a23 := Try.isAgg22
  z23 := Try.sizeOf22
  v23 := Try.zeroValue22
  t25 := Try.underlying3
  a25 := Try.isAgg3
  z25 := Try.sizeOf3
  v25 := Try.zeroValue3
  t32 := Try.underlying67
  a32 := Try.isAgg67
  z32 := Try.sizeOf67
  v32 := Try.zeroValue67
  t35 := Try.underlying112
  a35 := Try.isAgg112
  z35 := Try.sizeOf112
  v35 := Try.zeroValue112
  t36 := Try.underlying113
  a36 := Try.isAgg113
  z36 := Try.sizeOf113
  v36 := Try.zeroValue113
  t41 := Try.underlying118
  a41 := Try.isAgg118
  z41 := Try.sizeOf118
  v41 := Try.zeroValue118
  t44 := Try.underlying121
  a44 := Try.isAgg121
  z44 := Try.sizeOf121
  v44 := Try.zeroValue121
  t46 := Try.underlying31
  a46 := Try.isAgg31
  z46 := Try.sizeOf31
  v46 := Try.zeroValue31
  t53 := Try.underlying129
  a53 := Try.isAgg129
  z53 := Try.sizeOf129
  v53 := Try.zeroValue129
  t57 := Try.underlying133
  a57 := Try.isAgg133
  z57 := Try.sizeOf133
  v57 := Try.zeroValue133
  t63 := Try.underlying136
  a63 := Try.isAgg136
  z63 := Try.sizeOf136
  v63 := Try.zeroValue136
  t64 := Try.underlying137
  a64 := Try.isAgg137
  z64 := Try.sizeOf137
  v64 := Try.zeroValue137
end Go.Proofs.Ytgofadmncgmhoaa

/- slices.Sorted(maps.Keys(masks)). -/
namespace Go.Proofs.Ytgofadmncgmhoaa
open Go.RowKit Go.Maps Bs
set_option maxRecDepth 100000 in
theorem sortsU (m : Nat) : AnyZI.SortsIn Try.prog sortedU_ren Fence.wide m :=
  ⟨fun blk off cap ss W hH hblk hsz => callsIn_wide.2 (AnyM.slices_Sort_int sortU blk off cap ss W hH hblk hsz),
   fun p cap W => callsIn_wide.2 (AnyM.slices_Sort_int_none sortU p cap W)⟩
/-- The keys of a table, ascending. -/
structure AscM (f : Int → Option Nat) (ts : List Int) : Prop where
  asc : ts.Pairwise (· < ·)
  mem : ∀ x, x ∈ ts ↔ (f x).isSome = true
set_option maxRecDepth 100000 in
theorem ascM_of {ss : List Int} (h : ss.Nodup) : (ss.mergeSort (fun x y => decide (x ≤ y))).Pairwise (· < ·) := by
  have h1 : (ss.mergeSort (fun x y => decide (x ≤ y))).Pairwise (fun x y => decide (x ≤ y) = true) :=
    List.pairwise_mergeSort (fun a b c h1 h2 => by have := of_decide_eq_true h1; have := of_decide_eq_true h2; exact decide_eq_true (by omega)) (fun a b => by
      by_cases hab : a ≤ b
      · simp [hab]
      · have : b ≤ a := by omega
        simp [this]) ss
  have h2 : (ss.mergeSort (fun x y => decide (x ≤ y))).Nodup := (List.mergeSort_perm ss _).nodup_iff.2 h
  have h3 := List.Pairwise.and h1 h2
  exact h3.imp (fun {a b} h => by have := of_decide_eq_true h.1; have := h.2; omega)
set_option maxRecDepth 100000 in
theorem below_grownU {w w' : World} (h : Go.RowKit.Below w.heap.size w w') : w.grownBy w' none := ⟨h.os, h.tape, h.output, h.size, fun b hb _ => h.block b hb⟩
set_option maxRecDepth 100000 in
theorem mkeys_any (mb : Option Nat) (w : World) :
    Calls Try.prog 32 #[.map mb] w fun e w' => e = .returned (.func (.func 49) #[] #[.pointer (some ⟨w.heap.size, 0, none⟩)]) ∧ w' = w.alloc (.cells #[.map mb] 68) :=
  callsIn_wide.1 (AnyZI.keys_in keysU Fence.wide 5 trivial rfl mb w)
set_option maxRecDepth 100000 in
set_option maxHeartbeats 1600000 in
theorem mkz_any (f : Int → Option Nat) (b n : Nat) (hn : n ≤ 1000000) (Bk : Nat) (w : World) (hk : w.cell? ⟨Bk, 0, none⟩ = some (.map (some b))) (hBk : Bk < w.heap.size) (hm : OMu w b n f) :
    Calls Try.prog 31 #[.func (.func 49) #[] #[.pointer (some ⟨Bk, 0, none⟩)]] w fun e w' =>
      ∃ v ts, e = .returned v ∧ AscM f ts ∧ w'.ownsRow w.heap.size 3 1 v ts.length (ts.map tv) ∧ w.grownBy w' none := by
  obtain ⟨D, hown, hmf⟩ := hm
  have hsz := hown.size_le
  have hseq := AnyZI.keys_gives (ρ := keysU_ren) { keysU with } Fence.wide 2 trivial rfl (by omega) Bk b n D w hBk hk hown
  have cS := callsIn_wide.1 (AnyZI.sorted_in sortedU Fence.wide 5 trivial trivial trivial trivial rfl (by omega) (sortsU _) (enters_of Try.func48 (by kernel_rfl) rfl) 49 #[.pointer (some ⟨Bk, 0, none⟩)] trivial (enters_of Try.func49 (by kernel_rfl) rfl) _ (Maps.size D) (by unfold maxLen; omega) (by omega) w hseq)
  change Calls Try.prog 31 _ _ _ at cS
  refine cS.mono ?_
  rintro e w1 ⟨v, ss, rfl, hS, hrow, hnil, hb⟩
  obtain ⟨hnd, hmem⟩ := OMu.keys hown hmf hS
  refine ⟨v, ss.mergeSort (fun x y => decide (x ≤ y)), rfl, ⟨ascM_of hnd, fun x => ?_⟩, ?_, below_grownU hb⟩
  · rw [(List.mergeSort_perm ss _).mem_iff]
    exact hmem x
  · rw [List.length_mergeSort]
    exact hrow
end Go.Proofs.Ytgofadmncgmhoaa

/- masks: All, Mask, Local. -/
namespace Go.Proofs.Ytgofadmncgmhoaa
open Go.RowKit Go.Maps Bs
/-- A neighbour with its bits. -/
structure Md where
  x : Int
  b : Nat
def mdC (m : Md) : List Value := [.int .i64 m.x, .int .u64 (m.b : Int)]
set_option maxRecDepth 100000 in
theorem md_one (m : Md) : ∀ u ∈ mdC m, u.oneCell' = true := by
  intro u hu
  simp [mdC] at hu
  rcases hu with rfl | rfl <;> rfl
/-- The neighbours of a list with their bits. -/
def mdL (f : Int → Option Nat) (ts : List Int) : List Md := ts.map fun x => ⟨x, (f x).getD 0⟩
def mdK (f : Int → Option Nat) (ts : List Int) (k : Nat) : List Md := mdL f (ts.take k)
set_option maxRecDepth 100000 in
theorem mdK_next {f : Int → Option Nat} {ts : List Int} {k : Nat} {x : Int} (h : ts[k]? = some x) : mdK f ts (k + 1) = mdK f ts k ++ [⟨x, (f x).getD 0⟩] := by
  unfold mdK mdL
  rw [List.take_add_one, h, List.map_append]; rfl
set_option maxRecDepth 100000 in
theorem mdK_end (f : Int → Option Nat) (ts : List Int) : mdK f ts ts.length = mdL f ts := by unfold mdK; rw [List.take_length]
set_option maxRecDepth 100000 in
theorem mdK_len (f : Int → Option Nat) (ts : List Int) (k : Nat) : (mdK f ts k).length ≤ ts.length := by unfold mdK mdL; rw [List.length_map, List.length_take]; omega
set_option maxRecDepth 100000 in
theorem mdL_len (f : Int → Option Nat) (ts : List Int) : (mdL f ts).length = ts.length := by unfold mdL; rw [List.length_map]
set_option maxRecDepth 100000 in
theorem asc_len99 : ∀ (ts : List Int) (lo : Int), ts.Pairwise (· < ·) → (∀ x ∈ ts, lo < x ∧ x ≤ 99) → lo ≤ 99 → (ts.length : Int) + lo ≤ 99
  | [], lo, _, _, h => by simpa using h
  | a :: t, lo, hp, hr, h => by
    obtain ⟨h1, h2⟩ := List.pairwise_cons.1 hp
    have ha := hr a (List.mem_cons_self ..)
    have := asc_len99 t a h2 (fun x hx => ⟨h1 x hx, (hr x (List.mem_cons_of_mem _ hx)).2⟩) ha.2
    simp only [List.length_cons]
    omega
set_option maxRecDepth 100000 in
theorem ascM_len {f : Int → Option Nat} {ts : List Int} (h : AscM f ts) (ho : ColOk f) : ts.length ≤ 99 := by
  have := asc_len99 ts 0 h.asc (fun x hx => by
    obtain ⟨d, hd⟩ := Option.isSome_iff_exists.1 ((h.mem x).1 hx)
    have := (ho.u x d hd).2
    omega) (by omega)
  omega
set_option maxRecDepth 100000 in
theorem info_md : (Try.prog.info? 40).map (fun i => (i.zero, i.size, i.bytes)) = some (some (.agg #[.int .i64 0, .int .u64 0]), 2, 16) := by kernel_rfl
set_option maxRecDepth 100000 in
theorem md_row (w : World) (x : Int) (b : Nat) (t : TypeId) : ∀ j u, [Value.int .i64 x, .int .u64 (b : Int)][j]? = some u → (w.alloc (.cells #[.int .i64 x, .int .u64 (b : Int)] t)).cell? ((⟨w.heap.size, 0, none⟩ : Addr).add j) = some u := by
  intro j u hu
  rw [add_plain]
  have hb := heap_alloc_new w (.cells #[.int .i64 x, .int .u64 (b : Int)] t)
  rcases j with _ | _ | j
  · cases hu; exact cell_of_row _ _ _ _ _ _ hb
  · cases hu; exact cell_of_row _ _ _ _ _ _ hb
  · simp at hu
/-- While the neighbours come. -/
structure AL (W : World) (Mb N : Nat) (f : Int → Option Nat) (ts : List Int) (ps : Option Addr) (cs C : Nat) (v : Value) (M : List Md) (w : World) : Prop where
  mp : OMu w Mb N f
  rt : Rd w (fun b => b < C) (.slice ps ts.length cs) (ts.map tv)
  own : w.ownsRow C 40 2 v M.length (M.flatMap mdC)
  gr : W.grownBy w none
  lo : Mb < C ∧ C ≤ w.heap.size ∧ W.heap.size ≤ C
set_option maxRecDepth 100000 in
theorem AL.keep {W w w1 : World} {Mb N : Nat} {f : Int → Option Nat} {ts : List Int} {ps : Option Addr} {cs C : Nat} {v : Value} {M : List Md} (h : AL W Mb N f ts ps cs C v M w) (g : w.grownBy w1 none) : AL W Mb N f ts ps cs C v M w1 :=
  ⟨h.mp.kept g (by simp), h.rt.keep g, h.own.kept g (by cases v.ownBlock <;> simp), grown_trans h.gr g, h.lo.1, Nat.le_trans h.lo.2.1 g.size, h.lo.2.2⟩
set_option maxRecDepth 100000 in
theorem AL.put {W w w1 : World} {Mb N : Nat} {f : Int → Option Nat} {ts : List Int} {ps : Option Addr} {cs C : Nat} {v v' : Value} {M M2 : List Md} (h : AL W Mb N f ts ps cs C v M w) (hown : w1.ownsRow C 40 2 v' M2.length (M2.flatMap mdC)) (g : w.grownBy w1 v.ownBlock) : AL W Mb N f ts ps cs C v' M2 w1 := by
  have hlo := h.lo
  have hne : ∀ b, b < C → some b ≠ v.ownBlock := fun b hb e => by have := (h.own.lt b e.symm).1; omega
  exact ⟨h.mp.kept g (hne _ hlo.1), h.rt.grown g hne, hown, grown_any h.gr g (fun b hb => hne b (by omega)), h.lo.1, Nat.le_trans h.lo.2.1 g.size, h.lo.2.2⟩
/-- What All returns. -/
def AllPost (r s n : Int) (L : List Rw) (pl set : Int) (w : World) (e : Ending) (w' : World) : Prop :=
  ∃ (ts : List Int) (p : Option Addr) (c : Nat), e = .returned (.slice p (mdL (coF r s n L pl set) ts).length c) ∧ AscM (coF r s n L pl set) ts ∧ w'.ownsRow w.heap.size 40 2 (.slice p (mdL (coF r s n L pl set) ts).length c) (mdL (coF r s n L pl set) ts).length ((mdL (coF r s n L pl set) ts).flatMap mdC) ∧ w.grownBy w' none
set_option maxRecDepth 100000 in
set_option maxHeartbeats 6400000 in
theorem mall_any (r s n : Int) (p : Option Addr) (c : Nat) (L : List Rw) (pl set : Int) (w : World) (hR : RdW w (· < w.heap.size) p c L) (hm : L.length ≤ 9223372036854775807) :
    Calls Try.prog 11 #[.agg #[.int .i64 r, .int .i64 s, .int .i64 n, .slice p L.length c], .int .i64 pl, .int .i64 set] w fun e w' => AllPost r s n L pl set w e w' := by
  obtain ⟨ie, hie, he0, he1, he2⟩ := info_parts info_md
  obtain ⟨k1, k2⟩ := tone_box w #[.int .i64 r, .int .i64 s, .int .i64 n, .slice p L.length c] 27
  have H0 := Lib.hid (And.intro k1 (And.intro k2 (And.intro ((hR.keep k2).mono (q' := (· < (w.alloc (.cells #[.int .i64 r, .int .i64 s, .int .i64 n, .slice p L.length c] 27)).heap.size)) (fun b (hb : b < w.heap.size) => by show b < _; simp; omega)) (show w.heap.size < (w.alloc (.cells #[.int .i64 r, .int .i64 s, .int .i64 n, .slice p L.length c] 27)).heap.size by simp))))
  clear k1 k2 hR
  go_enter Try.func11, Try.ntmps11
  go_upto_region 1 with fail
  generalize w.alloc _ = w1 at *
  obtain ⟨d0, d1, d2, d3⟩ := row4T H0.out.1
  go_wp2_with fail
  refine (mcollect_any r s n p c L pl set w1 H0.out.2.2.1 hm).mono ?_
  rintro e w2 ⟨rfl, ⟨N, hN, hmp⟩, hg⟩
  have H2 := Lib.hid (And.intro hmp (grown_trans H0.out.2.1 hg))
  have hzz : w.heap.size < w1.heap.size := H0.out.2.2.2
  clear hmp hg H0 d0 d1 d2 d3
  obtain ⟨f, hf⟩ : ∃ f, coF r s n L pl set = f := ⟨_, rfl⟩
  have HF := Lib.hid hf
  have HOK : Hid (ColOk f) := Lib.hid (by rw [← hf]; exact coF_ok r s n L pl set)
  rw [hf] at H2
  clear hf
  generalize w1.heap.size + 1 = Mb at *
  go_wp2_with fail
  refine (mkeys_any (some Mb) w2).mono ?_
  rintro e w4 ⟨rfl, hw4⟩
  have hb4 := heap_alloc_new w2 (.cells #[.map (some Mb)] 68)
  have hg4 := World.grownBy_alloc w2 (.cells #[.map (some Mb)] 68) none
  rw [← hw4] at hb4 hg4
  have hz4 : w2.heap.size < w4.heap.size := by rw [hw4]; simp
  have HW4 := Lib.hid (And.intro hb4 (And.intro hg4 hz4))
  clear hw4 hb4 hg4 hz4
  go_wp2_with fail
  refine (mkz_any f Mb N (by omega) w2.heap.size w4 (by rw [cell_of_row _ _ _ _ _ _ HW4.out.1]; rfl) HW4.out.2.2 (H2.out.1.kept HW4.out.2.1 (by simp))).mono ?_
  rintro e w5 ⟨vs, ts, rfl, hS, hrow, hg5⟩
  obtain ⟨ps, cs, rfl, hcs1, hcs2⟩ := own_shape hrow
  have hlen := ascM_len hS HOK.out
  have HTS := Lib.hid hS
  have g25 := grown_trans HW4.out.2.1 hg5
  have A0 : Hid (AL w Mb N f ts ps cs w5.heap.size (.slice none 0 0) (mdK f ts 0) w5) := Lib.hid ⟨H2.out.1.kept g25 (by simp), (rd_of_own hrow).old, World.ownsRow_nil _ _ _ _, grown_trans H2.out.2 g25, Nat.lt_of_lt_of_le H2.out.1.lt g25.size, Nat.le_refl _, Nat.le_trans H2.out.2.size g25.size⟩
  clear hS hrow hg5 HW4 H2 g25
  generalize w5.heap.size = C at *
  go_wp2_with fail
  go_loopw [8, 19] (fun vo a wr => ∃ (k : Nat) (po : Option Addr) (co : Nat), k ≤ ts.length ∧ a = .int .i64 (k : Int) ∧ vo = .slice po (mdK f ts k).length co ∧ Hid (AL w Mb N f ts ps cs C (.slice po (mdK f ts k).length co) (mdK f ts k) wr)) (fun _ a _ => ts.length - (RowKit.intOf a).toNat)
  case atStart => exact ⟨0, none, 0, Nat.zero_le _, rfl, rfl, A0⟩
  case round =>
  clear A0
  obtain ⟨k, po, co, hk, rfl, rfl, A1⟩ := hrel
  obtain ⟨w6, hw6⟩ : ∃ w6, w6 = wr := ⟨_, rfl⟩
  rw [← hw6] at A1 ⊢
  clear hw6
  by_cases hlt : k < ts.length
  case neg =>
    obtain rfl : k = ts.length := by omega
    have hnl : ¬ (ts.length : Int) < (ts.length : Int) := by omega
    rw [mdK_end] at A1 ⊢
    go_wp2_with fail
    go_ret
    exact ⟨ts, po, co, by rw [HF.out]; rfl, by rw [HF.out]; exact HTS.out, by rw [HF.out]; exact A1.out.own.mono A1.out.lo.2.2, A1.out.gr⟩
  case pos =>
  have hlt' : (k : Int) < (ts.length : Int) := by omega
  obtain ⟨x, hx⟩ : ∃ x, ts[k]? = some x := ⟨_, List.getElem?_eq_getElem hlt⟩
  obtain ⟨-, b, off, rfl, hq, hc⟩ := tvT_at A1.out.rt hx
  have d0 := hc k x hx
  obtain ⟨d, hd⟩ := Option.isSome_iff_exists.1 ((HTS.out.mem x).1 (List.mem_of_getElem? hx))
  have hdb := HOK.out.u x d hd
  have hx1 := hdb.2
  have q1 := (A1.out.mp.look (x := x) (by unfold I64; omega)).1
  rw [hd] at q1
  simp only [Option.getD_some] at q1
  have HS : Hid (mdK f ts (k + 1) = mdK f ts k ++ [⟨x, d⟩]) := Lib.hid (by have := mdK_next (f := f) hx; rw [hd] at this; exact this)
  have hMl := mdK_len f ts k
  obtain ⟨M, hM⟩ : ∃ M, mdK f ts k = M := ⟨_, rfl⟩
  obtain ⟨M2, hM2⟩ : ∃ M2, mdK f ts (k + 1) = M2 := ⟨_, rfl⟩
  rw [hM] at A1 HS hMl ⊢
  rw [hM2] at HS
  have HM2 := Lib.hid hM2
  have HO2 := Lib.hid A1.out.own
  have hsz : C ≤ w6.heap.size := A1.out.lo.2.1
  clear hc hx hd hM hM2 hdb hx1
  go_wp2_with (at_builtin; refine hold_on ?_)
  refine Lib.hid ?_
  refine wpList_append_lies _ rfl _ _ 37 rfl C 40 ie (.agg #[.int .i64 0, .int .u64 0]) 2 16 Try.underlying37 hie he0 he1 he2 rfl (by decide) (.slice po M.length co) M.length (M.flatMap mdC) rfl (HO2.out.alloc _) ⟨w6.heap.size, 0, none⟩ 1 1 [.int .i64 x, .int .u64 (d : Int)] rfl rfl (md_row w6 x d _) (md_one ⟨x, d⟩) (by decide) (by unfold maxLen; omega) (by omega) (by simp; omega) _ rfl ?_
  intro g cap w8 hown hgrow hat hlt8
  have A2 := Lib.hid ((A1.out.keep (World.grownBy_alloc _ _ none)).put (M2 := M ++ [(⟨x, d⟩ : Md)]) (by rw [List.length_append, List.flatMap_append]; simpa [mdC] using hown) hgrow)
  rw [← HS.out] at A2
  have HL : Hid (M.length + 1 = M2.length) := Lib.hid (by rw [HS.out, List.length_append]; rfl)
  rw [HL.out] at A2 ⊢
  clear hown hgrow hat hlt8 HO2 A1 hsz HL HS q1 d0 hMl
  go_wp2_with fail
  exact ⟨⟨k + 1, some ⟨g, 0, none⟩, cap, by omega, congrArg _ (by omega), by rw [HM2.out], by rw [HM2.out]; exact A2⟩, by simp only [RowKit.intOf]; omega⟩
end Go.Proofs.Ytgofadmncgmhoaa

/- masks: the laws' example. -/
namespace Go.Proofs.Ytgofadmncgmhoaa
open Go.RowKit Go.Maps Bs
set_option maxRecDepth 100000 in
theorem asc_same : ∀ {l m : List Int}, l.Pairwise (· < ·) → m.Pairwise (· < ·) → (∀ x, x ∈ l ↔ x ∈ m) → l = m
  | [], [], _, _, _ => rfl
  | [], b :: m, _, _, h => by have := (h b).2 (by simp); cases this
  | a :: l, [], _, _, h => by have := (h a).1 (by simp); cases this
  | a :: l, b :: m, hl, hm, h => by
    obtain ⟨h1, h2⟩ := List.pairwise_cons.1 hl
    obtain ⟨h3, h4⟩ := List.pairwise_cons.1 hm
    have e : a = b := by
      rcases List.mem_cons.1 ((h a).1 (by simp)) with e | e
      · exact e
      · rcases List.mem_cons.1 ((h b).2 (by simp)) with e2 | e2
        · exact e2.symm
        · have := h1 b e2; have := h3 a e; omega
    subst e
    refine congrArg _ (asc_same h2 h4 fun x => ⟨fun hx => ?_, fun hx => ?_⟩)
    · rcases List.mem_cons.1 ((h x).1 (List.mem_cons_of_mem _ hx)) with e | e
      · have := h1 x hx; omega
      · exact e
    · rcases List.mem_cons.1 ((h x).2 (List.mem_cons_of_mem _ hx)) with e | e
      · have := h3 x hx; omega
      · exact e
def exT (p1 p2 : Option Addr) : List Rw := [⟨1, [2, 3], p1, 2⟩, ⟨2, [3], p2, 1⟩]
set_option maxRecDepth 100000 in
theorem ex_ck (p1 p2 : Option Addr) : ckT 1 0 8 (exT p1 p2) = 0 := by kernel_rfl
set_option maxRecDepth 100000 in
theorem ex_pl : plS 1 8 = 0 ∧ plS 2 8 = 0 := ⟨by kernel_rfl, by kernel_rfl⟩
set_option maxRecDepth 100000 in
theorem ex_nx : nxI [2, 3] 0 = 2 ∧ nxI [3] 0 = 3 ∧ nxI [2, 3] 1 = 3 ∧ nxI [3] 1 = 3 := ⟨by kernel_rfl, by kernel_rfl, by kernel_rfl, by kernel_rfl⟩
set_option maxRecDepth 100000 in
theorem ex_co0 (p1 p2 : Option Addr) : coF 1 0 8 (exT p1 p2) 0 0 = colL 8 0 0 (exT p1 p2) := by
  unfold coF
  rw [if_pos ⟨⟨by decide, by decide⟩, ex_ck p1 p2⟩]; rfl
set_option maxRecDepth 100000 in
theorem ex_co1 (p1 p2 : Option Addr) : coF 1 0 8 (exT p1 p2) 1 0 = colL 8 0 1 (exT p1 p2) := by
  unfold coF
  rw [if_pos ⟨⟨by decide, by decide⟩, ex_ck p1 p2⟩]; rfl
set_option maxRecDepth 100000 in
theorem ex_v0 (p1 p2 : Option Addr) : colL 8 0 0 (exT p1 p2) 2 = some 1 ∧ colL 8 0 0 (exT p1 p2) 3 = some 2 := ⟨by kernel_rfl, by kernel_rfl⟩
set_option maxRecDepth 100000 in
theorem ex_v1 (p1 p2 : Option Addr) : colL 8 0 1 (exT p1 p2) 3 = some 3 := by kernel_rfl
set_option maxRecDepth 100000 in
theorem ex_all0 {p1 p2 : Option Addr} {ts : List Int} (h : AscM (coF 1 0 8 (exT p1 p2) 0 0) ts) : mdL (coF 1 0 8 (exT p1 p2) 0 0) ts = [⟨2, 1⟩, ⟨3, 2⟩] := by
  rw [ex_co0] at h ⊢
  have e : ts = [2, 3] := asc_same h.asc (by decide) fun x => by
    rw [h.mem x, colL_some]
    unfold exT
    simp [ex_pl.1, ex_pl.2, ex_nx.1, ex_nx.2.1]
    omega
  subst e
  unfold mdL
  simp [(ex_v0 p1 p2).1, (ex_v0 p1 p2).2]
set_option maxRecDepth 100000 in
theorem ex_all1 {p1 p2 : Option Addr} {ts : List Int} (h : AscM (coF 1 0 8 (exT p1 p2) 1 0) ts) : mdL (coF 1 0 8 (exT p1 p2) 1 0) ts = [⟨3, 3⟩] := by
  rw [ex_co1] at h ⊢
  have e : ts = [3] := asc_same h.asc (by decide) fun x => by
    rw [h.mem x, colL_some]
    unfold exT
    simp [ex_pl.1, ex_pl.2, ex_nx.2.2.1, ex_nx.2.2.2]
    constructor
    · rintro ⟨h, -⟩
      exact h.symm
    · rintro h
      exact ⟨h.symm, by omega⟩
  subst e
  unfold mdL
  simp [ex_v1 p1 p2]
/-- The example's table. -/
structure EX (w : World) (B : Nat) (p1 p2 p8 : Option Addr) (u : World) : Prop where
  box : u.heap[B]? = some (.cells #[.int .i64 1, .int .i64 0, .int .i64 8, .slice p8 2 2] 27)
  rd : RdW u (· < B) p8 2 (exT p1 p2)
  gr : w.grownBy u none
set_option maxRecDepth 100000 in
theorem EX.keep {w : World} {B : Nat} {p1 p2 p8 : Option Addr} {u u1 : World} (h : EX w B p1 p2 p8 u) (g : u.grownBy u1 none) : EX w B p1 p2 p8 u1 := ⟨kept_row h.box g (by simp), h.rd.keep g, grown_trans h.gr g⟩
set_option maxRecDepth 100000 in
theorem EX.all {w : World} {B : Nat} {p1 p2 p8 : Option Addr} {u : World} (h : EX w B p1 p2 p8 u) : RdW u (· < u.heap.size) p8 2 (exT p1 p2) := by
  refine h.rd.mono fun b hb => ?_
  have hz : B < u.heap.size := by
    by_cases hz : B < u.heap.size
    · exact hz
    · have := h.box
      rw [Array.getElem?_eq_none (by omega)] at this; cases this
  exact Nat.lt_trans hb hz
set_option maxRecDepth 100000 in
theorem ex_start (w : World) : EX w (w.heap.size + 1 + 1 + 1) (some ⟨w.heap.size, 0, none⟩) (some ⟨w.heap.size + 1, 0, none⟩) (some ⟨w.heap.size + 1 + 1, 0, none⟩)
    ((((w.alloc (.cells #[.int .i64 2, .int .i64 3] 3)).alloc (.cells #[.int .i64 3] 3)).alloc (.cells #[.int .i64 1, .slice (some ⟨w.heap.size, 0, none⟩) 2 2, .int .i64 2, .slice (some ⟨w.heap.size + 1, 0, none⟩) 1 1] 35)).alloc (.cells #[.int .i64 1, .int .i64 0, .int .i64 8, .slice (some ⟨w.heap.size + 1 + 1, 0, none⟩) 2 2] 27)) := by
  obtain ⟨w1, h1⟩ : ∃ w1, w1 = w.alloc (.cells #[.int .i64 2, .int .i64 3] 3) := ⟨_, rfl⟩
  have a1 := heap_alloc_new w (.cells #[.int .i64 2, .int .i64 3] 3)
  have g1 := World.grownBy_alloc w (.cells #[.int .i64 2, .int .i64 3] 3) none
  have z1 : w1.heap.size = w.heap.size + 1 := by rw [h1]; simp
  rw [← h1] at a1 g1 ⊢
  clear h1
  obtain ⟨w2, h2⟩ : ∃ w2, w2 = w1.alloc (.cells #[.int .i64 3] 3) := ⟨_, rfl⟩
  have a2 := heap_alloc_new w1 (.cells #[.int .i64 3] 3)
  have g2 := World.grownBy_alloc w1 (.cells #[.int .i64 3] 3) none
  have z2 : w2.heap.size = w.heap.size + 1 + 1 := by rw [h2, ← z1]; simp
  rw [← h2] at a2 g2 ⊢
  rw [z1] at a2
  clear h2
  obtain ⟨w3, h3⟩ : ∃ w3, w3 = w2.alloc (.cells #[.int .i64 1, .slice (some ⟨w.heap.size, 0, none⟩) 2 2, .int .i64 2, .slice (some ⟨w.heap.size + 1, 0, none⟩) 1 1] 35) := ⟨_, rfl⟩
  have a3 := heap_alloc_new w2 (.cells #[.int .i64 1, .slice (some ⟨w.heap.size, 0, none⟩) 2 2, .int .i64 2, .slice (some ⟨w.heap.size + 1, 0, none⟩) 1 1] 35)
  have g3 := World.grownBy_alloc w2 (.cells #[.int .i64 1, .slice (some ⟨w.heap.size, 0, none⟩) 2 2, .int .i64 2, .slice (some ⟨w.heap.size + 1, 0, none⟩) 1 1] 35) none
  have z3 : w3.heap.size = w.heap.size + 1 + 1 + 1 := by rw [h3, ← z2]; simp
  rw [← h3] at a3 g3 ⊢
  rw [z2] at a3
  clear h3
  have a4 := heap_alloc_new w3 (.cells #[.int .i64 1, .int .i64 0, .int .i64 8, .slice (some ⟨w.heap.size + 1 + 1, 0, none⟩) 2 2] 27)
  have g4 := World.grownBy_alloc w3 (.cells #[.int .i64 1, .int .i64 0, .int .i64 8, .slice (some ⟨w.heap.size + 1 + 1, 0, none⟩) 2 2] 27) none
  rw [z3] at a4
  generalize w3.alloc _ = w4 at *
  have b3 := kept_row a3 g4 (by simp)
  have b2 := kept_row (kept_row a2 g3 (by simp)) g4 (by simp)
  have b1 := kept_row (kept_row (kept_row a1 g2 (by simp)) g3 (by simp)) g4 (by simp)
  refine ⟨a4, ⟨⟨_, 2, rfl, fun _ => ⟨_, _, rfl, by omega, fun i u hi => ?_⟩⟩, fun x hx => ?_⟩, grown_trans (grown_trans (grown_trans g1 g2) g3) g4⟩
  · rw [Nat.zero_add, cell_of_row _ _ _ _ _ _ b3]
    simpa [exT, rwC] using hi
  · unfold exT at hx
    simp only [List.mem_cons, List.not_mem_nil, or_false] at hx
    rcases hx with rfl | rfl
    · refine ⟨⟨_, 2, rfl, fun _ => ⟨_, _, rfl, by omega, fun i u hi => ?_⟩⟩, ⟨by show 2 ≤ 2; decide, by show 2 ≤ 9223372036854775807; decide⟩⟩
      rw [Nat.zero_add, cell_of_row _ _ _ _ _ _ b1]
      simpa [tv] using hi
    · refine ⟨⟨_, 1, rfl, fun _ => ⟨_, _, rfl, by omega, fun i u hi => ?_⟩⟩, ⟨by show 1 ≤ 1; decide, by show 1 ≤ 9223372036854775807; decide⟩⟩
      rw [Nat.zero_add, cell_of_row _ _ _ _ _ _ b2]
      simpa [tv] using hi
set_option maxRecDepth 100000 in
set_option maxHeartbeats 6400000 in
theorem mawake_any (w : World) :
    Calls Try.prog 15 #[] w fun e w' => e = .returned (.bool true) ∧ w.grownBy w' none := by
  have H0 := Lib.hid (ex_start w)
  go_enter Try.func15, Try.ntmps15
  go_upto_region 2 with fail
  generalize (((w.alloc _).alloc _).alloc _).alloc _ = w4 at *
  generalize (some (⟨w.heap.size, 0, none⟩ : Addr)) = p1 at *
  generalize (some (⟨w.heap.size + 1, 0, none⟩ : Addr)) = p2 at *
  generalize w.heap.size + 1 + 1 + 1 = B at *
  generalize (some (⟨w.heap.size + 1 + 1, 0, none⟩ : Addr)) = p8 at *
  refine wp_region_held_drew (S := fun w' => Hid (EX w B p1 p2 p8 w')) (by kernel_rfl) (Lib.hid (H0.out.keep (grown_drew (grown_refl _ none)))) (fun hHeld => ?_)
  refine wpAnyH_take (i := 0) (oi := { dst := some 10, op := Op.load 27 (Operand.tmp 1), type := 27, pos := "law.go:18", after := #[], guard := none }) (v := ?_) rfl (by kernel_rfl) (by kernel_rfl) (by kernel_rfl) (fun _ _ _ h => h) (Or.inl ⟨by rfl, ?_⟩) hHeld ?_
  rotate_left 1
  · intro u hSu
    obtain ⟨d0, d1, d2, d3⟩ := row4T hSu.out.box
    go_simp
    first | done | with_reducible rfl
  (try simp only [Act.put, List.setIfInBounds_toArray, List.set_cons_zero, List.set_cons_succ])
  refine wpAnyH_take (i := 2) (oi := { dst := some 12, op := Op.load 27 (Operand.tmp 1), type := 27, pos := "law.go:18", after := #[], guard := none }) (v := ?_) rfl (by kernel_rfl) (by kernel_rfl) (by kernel_rfl) (fun _ _ _ h => h) (Or.inl ⟨by rfl, ?_⟩) hHeld ?_
  rotate_left 1
  · intro u hSu
    obtain ⟨d0, d1, d2, d3⟩ := row4T hSu.out.box
    go_simp
    first | done | with_reducible rfl
  (try simp only [Act.put, List.setIfInBounds_toArray, List.set_cons_zero, List.set_cons_succ])
  refine wpAnyH_ready (rs := [1]) (by kernel_rfl) (by simp) ?_
  refine AllReadyH.cons (o := { dst := some 11, op := Op.call { callee := Callee.value (Operand.func 11), args := #[Operand.tmp 10, Operand.const (Value.int IntKind.i64 0), Operand.const (Value.int IntKind.i64 0)], argTypes := #[27, 3, 3] }, type := 37, pos := "law.go:18", after := #[{ on := 0, ground := Ground.data }], guard := none }) rfl (fun Kz hK => ?_) AllReadyH.nil
  go_simp
  go_at_call 11
  refine (mall_any 1 0 8 p8 2 (exT p1 p2) 0 0 _ hHeld.out.all (by show 2 ≤ 9223372036854775807; decide)).mono ?_
  rintro e w5 ⟨ts, q5, r5, rfl, hA, ho, hg⟩
  rw [ex_all0 hA] at ho ⊢
  have HN := Lib.hid (hHeld.out.keep hg)
  have HR5 := Lib.hid (rdf_of_own ho)
  clear hA ho hg
  refine hK.out _ _ (HN) (fun hH2 => ?_)
  clear hK Kz hHeld
  have hHeld := hH2
  clear hH2
  (try simp only [Act.put, List.setIfInBounds_toArray, List.set_cons_zero, List.set_cons_succ])
  refine wpAnyH_ready (rs := [3]) (by kernel_rfl) (by simp) ?_
  refine AllReadyH.cons (o := { dst := some 13, op := Op.call { callee := Callee.value (Operand.func 11), args := #[Operand.tmp 12, Operand.const (Value.int IntKind.i64 1), Operand.const (Value.int IntKind.i64 0)], argTypes := #[27, 3, 3] }, type := 37, pos := "law.go:18", after := #[{ on := 2, ground := Ground.data }, { on := 1, ground := Ground.chain }], guard := none }) rfl (fun Kz hK => ?_) AllReadyH.nil
  go_simp
  go_at_call 11
  refine (mall_any 1 0 8 p8 2 (exT p1 p2) 1 0 _ hHeld.out.all (by show 2 ≤ 9223372036854775807; decide)).mono ?_
  rintro e w6 ⟨ts, q6, r6, rfl, hA, ho, hg⟩
  rw [ex_all1 hA] at ho ⊢
  have HN := Lib.hid (hHeld.out.keep hg)
  have HP := Lib.hid (HR5.out.keep hg)
  have HR6 := Lib.hid (rdf_of_own ho)
  clear hA ho hg
  refine hK.out _ _ (HN) (fun hH2 => ?_)
  clear hK Kz hHeld
  have hHeld := hH2
  clear hH2
  (try simp only [Act.put, List.setIfInBounds_toArray, List.set_cons_zero, List.set_cons_succ])
  refine wpAnyH_take (i := 4) (oi := { dst := some 2, op := Op.assign (Operand.tmp 11), type := 37, pos := "law.go:18", after := #[{ on := 1, ground := Ground.data }, { on := 3, ground := Ground.chain }, { on := 0, ground := Ground.phase }, { on := 1, ground := Ground.phase }, { on := 2, ground := Ground.textOnly Departure.lateStores }, { on := 3, ground := Ground.textOnly Departure.lateStoresUnsure }], guard := none }) (v := ?_) rfl (by kernel_rfl) (by kernel_rfl) (by kernel_rfl) (fun _ _ _ h => h) (Or.inl ⟨by rfl, ?_⟩) hHeld ?_
  rotate_left 1
  · intro u hSu
    obtain ⟨d0, d1, d2, d3⟩ := row4T hSu.out.box
    go_simp
    first | done | with_reducible rfl
  (try simp only [Act.put, List.setIfInBounds_toArray, List.set_cons_zero, List.set_cons_succ])
  refine wpAnyH_take (i := 5) (oi := { dst := some 3, op := Op.assign (Operand.tmp 13), type := 37, pos := "law.go:18", after := #[{ on := 3, ground := Ground.data }, { on := 4, ground := Ground.chain }, { on := 0, ground := Ground.phase }, { on := 1, ground := Ground.phase }, { on := 2, ground := Ground.phase }, { on := 3, ground := Ground.phase }, { on := 4, ground := Ground.phase }], guard := none }) (v := ?_) rfl (by kernel_rfl) (by kernel_rfl) (by kernel_rfl) (fun _ _ _ h => h) (Or.inl ⟨by rfl, ?_⟩) hHeld ?_
  rotate_left 1
  · intro u hSu
    obtain ⟨d0, d1, d2, d3⟩ := row4T hSu.out.box
    go_simp
    first | done | with_reducible rfl
  (try simp only [Act.put, List.setIfInBounds_toArray, List.set_cons_zero, List.set_cons_succ])
  refine wpAnyH_done (by kernel_rfl) ?_ _
  clear H0
  obtain ⟨-, g1, o1, rfl, -, hE⟩ := RdF.cells (f := mdC) (k := 2) (fun _ => rfl) (by decide) HP.out (by decide)
  obtain ⟨-, g2, o2, rfl, -, hO⟩ := RdF.cells (f := mdC) (k := 2) (fun _ => rfl) (by decide) HR6.out (by decide)
  have e0 : w6.cell? ⟨g1, o1, none⟩ = some (.int .i64 2) := hE 0 _ rfl 0 _ rfl
  have e1 : w6.cell? ⟨g1, o1 + 1, none⟩ = some (.int .u64 1) := hE 0 _ rfl 1 _ rfl
  have e2 : w6.cell? ⟨g1, o1 + 2, none⟩ = some (.int .i64 3) := hE 1 _ rfl 0 _ rfl
  have e3 : w6.cell? ⟨g1, o1 + 2 + 1, none⟩ = some (.int .u64 2) := hE 1 _ rfl 1 _ rfl
  have f0 : w6.cell? ⟨g2, o2, none⟩ = some (.int .i64 3) := hO 0 _ rfl 0 _ rfl
  have f1 : w6.cell? ⟨g2, o2 + 1, none⟩ = some (.int .u64 3) := hO 0 _ rfl 1 _ rfl
  clear hE hO HP HR6 HR5
  go_wp2_with fail
  go_ret
  exact ⟨rfl, hHeld.out.gr⟩
end Go.Proofs.Ytgofadmncgmhoaa

/- masks: Mask, Local. -/
namespace Go.Proofs.Ytgofadmncgmhoaa
open Go.RowKit Go.Maps Bs
set_option maxRecDepth 100000 in
set_option maxHeartbeats 1600000 in
theorem mmask_any (r s n : Int) (p : Option Addr) (c : Nat) (L : List Rw) (pl set u : Int) (hu : I64 u) (w : World) (hR : RdW w (· < w.heap.size) p c L) (hm : L.length ≤ 9223372036854775807) :
    Calls Try.prog 12 #[.agg #[.int .i64 r, .int .i64 s, .int .i64 n, .slice p L.length c], .int .i64 pl, .int .i64 set, .int .i64 u] w fun e w' => e = .returned (.int .u64 (((coF r s n L pl set u).getD 0 : Nat) : Int)) ∧ w.grownBy w' none := by
  obtain ⟨k1, k2⟩ := tone_box w #[.int .i64 r, .int .i64 s, .int .i64 n, .slice p L.length c] 27
  have H0 := Lib.hid (And.intro k1 (And.intro k2 (And.intro ((hR.keep k2).mono (q' := (· < (w.alloc (.cells #[.int .i64 r, .int .i64 s, .int .i64 n, .slice p L.length c] 27)).heap.size)) (fun b (hb : b < w.heap.size) => by show b < _; simp; omega)) (show w.heap.size < (w.alloc (.cells #[.int .i64 r, .int .i64 s, .int .i64 n, .slice p L.length c] 27)).heap.size by simp))))
  clear k1 k2 hR
  go_enter Try.func12, Try.ntmps12
  go_upto_region 1 with fail
  generalize w.alloc _ = w1 at *
  obtain ⟨d0, d1, d2, d3⟩ := row4T H0.out.1
  go_wp2_with fail
  refine (mcollect_any r s n p c L pl set w1 H0.out.2.2.1 hm).mono ?_
  rintro e w2 ⟨rfl, ⟨N, hN, hmp⟩, hg⟩
  have q1 := (hmp.look (x := u) hu).1
  have HG := Lib.hid (grown_trans H0.out.2.1 hg)
  clear hg H0 d0 d1 d2 d3
  go_wp2_with fail
  go_ret
  exact ⟨rfl, HG.out⟩
set_option maxRecDepth 100000 in
set_option maxHeartbeats 1600000 in
theorem mlocal_any (r s n : Int) (hr : I64 r) (p : Option Addr) (c : Nat) (L : List Rw) (set : Int) (w : World) (hR : RdW w (· < w.heap.size) p c L) (hm : L.length ≤ 9223372036854775807) :
    Calls Try.prog 13 #[.agg #[.int .i64 r, .int .i64 s, .int .i64 n, .slice p L.length c], .int .i64 set] w fun e w' => e = .returned (.int .u64 (((coF r s n L 0 set r).getD 0 : Nat) : Int)) ∧ w.grownBy w' none := by
  obtain ⟨k1, k2⟩ := tone_box w #[.int .i64 r, .int .i64 s, .int .i64 n, .slice p L.length c] 27
  have H0 := Lib.hid (And.intro k1 (And.intro k2 ((hR.keep k2).mono (q' := (· < (w.alloc (.cells #[.int .i64 r, .int .i64 s, .int .i64 n, .slice p L.length c] 27)).heap.size)) (fun b (hb : b < w.heap.size) => by show b < _; simp; omega))))
  clear k1 k2 hR
  go_enter Try.func13, Try.ntmps13
  go_upto_region 1 with fail
  generalize w.alloc _ = wa at *
  obtain ⟨d0, d1, d2, d3⟩ := row4T H0.out.1
  go_wp2_with fail
  refine (mmask_any r s n p c L 0 set r hr wa H0.out.2.2 hm).mono ?_
  rintro e w1 ⟨rfl, hg⟩
  have G := Lib.hid (grown_trans H0.out.2.1 hg)
  clear hg H0 d0 d1 d2 d3
  go_wp2_with fail
  go_ret
  exact ⟨rfl, G.out⟩
end Go.Proofs.Ytgofadmncgmhoaa

/- masks: what the laws over the tape's tables share. -/
namespace Go.Proofs.Ytgofadmncgmhoaa
open Go.RowKit Bs
set_option maxRecDepth 100000 in
theorem own_rdw {lo : Nat} {w : World} {L : List Rw} {p : Option Addr} {c : Nat} (h : OwnT lo w (.slice p L.length c) L) : RdW w (· < w.heap.size) p c L ∧ (p = none → c = 0) ∧ (L.length ≤ c ∧ c ≤ 9223372036854775807) ∧ ∀ y ∈ L, y.p = none → y.c = 0 := by
  refine ⟨⟨(rdf_of_own2 h.own).mono (fun b hb => hb.2), fun x hx => ⟨(rd_of_own (h.nx x hx)).old, ?_⟩⟩, ?_, ?_, fun y hy hp => ?_⟩
  · rcases own_formF (h.nx x hx) with ⟨e, h0⟩ | ⟨g, cap, e, h1, h2⟩
    · unfold Rw.v at e; injection e with e1 e2 e3; exact ⟨by omega, by omega⟩
    · unfold Rw.v at e; injection e with e1 e2 e3; exact ⟨by omega, by omega⟩
  · intro hp
    rcases own_formF h.own with ⟨e, h0⟩ | ⟨g, cap, e, -⟩
    · injection e
    · injection e with e1; subst hp; cases e1
  · rcases own_formF h.own with ⟨e, h0⟩ | ⟨g, cap, e, h1, h2⟩
    · injection e with e1 e2 e3; subst e3; exact ⟨by omega, by omega⟩
    · injection e with e1 e2 e3; subst e3; exact ⟨h1, h2⟩
  · rcases own_formF (h.nx y hy) with ⟨e, h0⟩ | ⟨g, cap, e, -⟩
    · unfold Rw.v at e; injection e
    · unfold Rw.v at e; injection e with e1; rw [hp] at e1; cases e1
set_option maxRecDepth 100000 in
theorem asc_ltI : ∀ E : List Int, ascB ltI E = true → E.Pairwise (· < ·)
  | [], _ => List.Pairwise.nil
  | [a], _ => List.pairwise_singleton _ _
  | a :: b :: t, h => by
    rw [ascB, Bool.and_eq_true] at h
    have ih := asc_ltI (b :: t) h.2
    have hab : a < b := of_decide_eq_true h.1
    refine List.pairwise_cons.2 ⟨fun y hy => ?_, ih⟩
    rcases List.mem_cons.1 hy with rfl | hy
    · exact hab
    · have := (List.pairwise_cons.1 ih).1 y hy; omega
set_option maxRecDepth 100000 in
theorem row_asc {r s n : Int} {L : List Rw} (h : ckT r s n L = 0) {x : Rw} (hx : x ∈ L) : x.nx.Pairwise (· < ·) ∧ x.nx.length ≤ 24 ∧ (∀ y ∈ x.nx, 1 ≤ y ∧ y ≤ 99) ∧ (1 ≤ x.id ∧ x.id ≤ 256) ∧ (1 < x.nx.length → r ∉ x.nx) := by
  obtain ⟨-, h2, -, h4, -, h6, h7⟩ := ck_ok h
  have a2 := List.any_eq_false.1 h2 x hx
  have a4 := List.any_eq_false.1 h4 x hx
  have a6 := List.any_eq_false.1 h6 x hx
  have a7 := List.any_eq_false.1 h7 x hx
  unfold wrW at a2
  simp only [Bool.not_eq_true, Bool.or_eq_false_iff, Bool.not_eq_false'] at a2
  unfold lgW at a4
  unfold dsW at a6
  simp only [Bool.not_eq_true, Bool.not_eq_false'] at a6
  unfold cfW at a7
  simp only [Bool.and_eq_true, decide_eq_true_eq, List.any_eq_true, not_and, not_exists] at a7
  simp only [decide_eq_true_eq] at a4
  refine ⟨asc_ltI x.nx a6, by omega, fun y hy => ?_, by have := a2.1; unfold inV at this; simpa using this, fun h1 hm => a7 h1 r hm rfl⟩
  have := List.any_eq_false.1 a2.2 y hy
  unfold inV at this
  simpa using this
end Go.Proofs.Ytgofadmncgmhoaa

/- masks: the reference's Has of a bit string; a box beside the tape. -/
namespace Go.Proofs.Ytgofadmncgmhoaa
open Go.RowKit Bs
set_option maxRecDepth 100000 in
theorem wrapU1 (x : Nat) (h : U64 x) : IntKind.u64.wrap (x : Int) = (x : Int) := by
  have := h.lt
  rw [IntKind.wrap_u64]; omega
set_option maxRecDepth 100000 in
theorem pow_word1 (k : Nat) (hk : k < 64) : IntKind.u64.wrap ((2 : Int) ^ k) = ((b2 k : Nat) : Int) := by
  have e : ((2 : Int) ^ k) = ((2 ^ k : Nat) : Int) := by simp
  rw [e]
  exact wrapU1 _ (Nat.pow_lt_pow_right (by decide) hk)
set_option maxRecDepth 100000 in
theorem ret_int1 {k : IntKind} {a b : Int} (h : a = b) : Ending.returned (.int k a) = .returned (.int k b) := by rw [h]
set_option maxRecDepth 100000 in
set_option maxHeartbeats 400000 in
theorem bit1_any (k : Nat) (hk : k < 64) (w : World) :
    Calls Try.prog 10 #[.int .i64 (k : Int)] w fun e w' => e = .returned (.int .u64 ((b2 k : Nat) : Int)) ∧ w = w' := by
  go_enter Try.func10, Try.ntmps10
  go_wp2
  all_goals go_ret
  exact ⟨ret_int1 (pow_word1 k hk), rfl⟩
end Go.Proofs.Ytgofadmncgmhoaa

/- masks: the law of a single ID. -/
namespace Go.Proofs.Ytgofadmncgmhoaa
open Go.RowKit Bs
set_option maxRecDepth 100000 in
theorem pl_inj {a b len : Int} (ha : plOk a len = true) (hb : plOk b len = true) (h1 : plS a len = plS b len) (h2 : plB a len = plB b len) : a = b := by
  unfold plS at h1
  unfold plB at h2
  rw [if_pos ha, if_pos hb] at h1 h2
  obtain ⟨hl, a1, a2⟩ := pl_fields ha
  obtain ⟨-, b1, b2⟩ := pl_fields hb
  have e1 := Int.mul_tdiv_add_tmod (a - 1) len
  have e2 := Int.mul_tdiv_add_tmod (b - 1) len
  rw [Int.tmod_eq_emod_of_nonneg (by omega)] at e1 e2
  rw [h1, h2] at e1
  omega
set_option maxRecDepth 100000 in
theorem row_pl {r s n : Int} {L : List Rw} (h : ckT r s n L = 0) {x : Rw} (hx : x ∈ L) : plOk x.id n = true := by
  obtain ⟨-, -, -, h4, -⟩ := row_asc h hx
  have h1 := (ck_ok h).1
  unfold hdT at h1
  rw [Bool.not_eq_false'] at h1
  simp only [Bool.and_eq_true, Bool.or_eq_true, decide_eq_true_eq] at h1
  unfold plOk inV
  rw [Bool.and_eq_true]
  refine ⟨?_, by simpa using h4⟩
  rcases h1.2 with h2 | h2
  · exact h2
  · have := List.length_pos_of_mem hx; omega
set_option maxRecDepth 100000 in
theorem nxI_zero {r s n : Int} {L : List Rw} (h : ckT r s n L = 0) {x : Rw} (hx : x ∈ L) (k : Nat) : (x.nx.length = 0 → nxI x.nx k = 0) ∧ (x.nx.length ≠ 0 → nxI x.nx k ≠ 0 ∧ nxI x.nx k ∈ x.nx) := by
  obtain ⟨-, -, h3, -⟩ := row_asc h hx
  refine ⟨fun h0 => by unfold nxI; rw [if_pos h0], fun h0 => ?_⟩
  have hm : nxI x.nx k ∈ x.nx := List.mem_of_getElem? (nxI_at h0)
  have := h3 _ hm
  exact ⟨by omega, hm⟩
set_option maxRecDepth 100000 in
theorem plB_nn (id len : Int) : 0 ≤ plB id len := by
  unfold plB
  split
  · rename_i h
    obtain ⟨hl, h1, h2⟩ := pl_fields h
    rcases hl with rfl | rfl | rfl | rfl <;> omega
  · exact Int.le_refl _
end Go.Proofs.Ytgofadmncgmhoaa

/- masks, the reference's functions: All. -/
namespace Go.Proofs.Ytgofadmncgmhoaa
open Go.RowKit Go.Maps Bs
end Go.Proofs.Ytgofadmncgmhoaa

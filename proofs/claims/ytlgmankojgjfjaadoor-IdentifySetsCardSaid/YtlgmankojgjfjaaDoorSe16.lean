/- Parts of the proof, packed: IdSeLaw. -/
import Derived.Test.YtlgmankojgjfjaaDoorSe15
import Derived.Test.YtlgmankojgjfjaaDoorSe6
/- The law IdentifySets. -/
namespace Go.Proofs.YtlgmankojgjfjaaDoor
open Go.RowKit Bs
set_option maxRecDepth 100000 in
theorem seO_len {sub n : Int} {E : List Ed} {Y : List Int} (h : Y.length ≤ 1000000) : (seO sub n E Y).length ≤ 1000000 := by
  unfold seO
  split
  · have := seL_len n Y []
    unfold seL
    simp only [List.length_nil] at this
    omega
  · simp
set_option maxRecDepth 100000 in
theorem nmO_len (sub n : Int) (E : List Ed) (s : Int) (b : Nat) : (nmO sub n E s b).length ≤ 1000000 := by
  unfold nmO
  split
  · have := nmL_len s n b
    have := bl_length_le b
    omega
  · simp
set_option maxRecDepth 100000 in
theorem ints_keepD {W w : World} {v : Value} (h : IntsIn W v) (g : W.grownBy w none) : IntsIn w v := by
  obtain ⟨p, n, c, rfl, h1, h2, h3⟩ := h
  refine ⟨p, n, c, rfl, h1, h2, fun hn => ?_⟩
  obtain ⟨b, off, hp, hb, hc⟩ := h3 hn
  exact ⟨b, off, hp, Nat.lt_of_lt_of_le hb g.size, fun i hi => by obtain ⟨x, hx, hx2⟩ := hc i hi; exact ⟨x, hx, g.cell hx2 (by simp)⟩⟩
/-- What the law keeps in memory. -/
structure SL (W w1 : World) (a P : Nat) (sub n : Int) (E : List Ed) (pE : Option Addr) (cE : Nat) (xs : Int) (xb : Nat) (X : List Int) (px : Option Addr) (cx : Nat) (w : World) : Prop where
  hx : w.heap[W.heap.size]? = some (.cells #[.int .i64 xs, .int .u64 (xb : Int)] 25 (0, 0))
  hp : w.heap[P]? = some (.cells #[.int .i64 sub, .int .i64 n, .slice pE E.length cE] 30 (0, 0))
  rd : RdF w (fun b => b ≠ a ∧ b < P) (.slice pE E.length cE) E.length (E.flatMap edC)
  rr : Rd w (fun b => b < W.heap.size) (.slice px X.length cx) (X.map tv)
  gr : W.grownBy w none
  st : St a w1 w
  lo : W.heap.size < a ∧ a < w1.heap.size ∧ w1.heap.size ≤ P ∧ P < w.heap.size
section
variable {W w w1 w2 : World} {a P : Nat} {sub n : Int} {E : List Ed} {pE : Option Addr} {cE : Nat} {xs : Int} {xb : Nat} {X : List Int} {px : Option Addr} {cx : Nat}
set_option maxRecDepth 100000 in
theorem SL.keep (h : SL W w1 a P sub n E pE cE xs xb X px cx w) (g : w.grownBy w2 none) : SL W w1 a P sub n E pE cE xs xb X px cx w2 :=
  ⟨kept_row h.hx g (by simp), kept_row h.hp g (by simp), h.rd.keep g, h.rr.keep g, grown_trans h.gr g, h.st.none_ g, h.lo.1, h.lo.2.1, h.lo.2.2.1, Nat.lt_of_lt_of_le h.lo.2.2.2 g.size⟩
set_option maxRecDepth 100000 in
theorem SL.tape (h : SL W w1 a P sub n E pE cE xs xb X px cx w) (k : St a w w2) : SL W w1 a P sub n E pE cE xs xb X px cx w2 := by
  have hlo := h.lo
  have hn : ∀ b, b ≠ a → some b ≠ some a := fun b hb e => hb (Option.some.inj e)
  exact ⟨kept_row h.hx k.1 (hn _ (by omega)), kept_row h.hp k.1 (hn _ (by omega)), h.rd.grown k.1 (fun b hb => hn b hb.1), h.rr.grown k.1 (fun b hb => hn b (by omega)), grown_new h.gr k.1 (by omega), h.st.trans k, h.lo.1, h.lo.2.1, h.lo.2.2.1, Nat.lt_of_lt_of_le h.lo.2.2.2 k.1.size⟩
set_option maxRecDepth 100000 in
theorem SL.row {base m : Nat} {e : TypeId} {v : Value} {xs2 : List Value} (h : SL W w1 a P sub n E pE cE xs xb X px cx w) (ho : w.ownsRow base e 1 v m xs2) (hb : P < base) (g : w.grownBy w2 v.ownBlock) : SL W w1 a P sub n E pE cE xs xb X px cx w2 := by
  have hlo := h.lo
  have hne : ∀ b, b ≤ P → some b ≠ v.ownBlock := fun b hb2 e => by have := (ho.lt b e.symm).1; omega
  exact ⟨kept_row h.hx g (hne _ (by omega)), kept_row h.hp g (hne _ (by omega)), h.rd.grown g (fun b hb2 => hne b (by omega)), h.rr.grown g (fun b hb2 => hne b (by omega)), grown_any h.gr g (fun b hb2 => hne b (by omega)), h.st.rowT ho (by omega) hlo.2.1 g, h.lo.1, h.lo.2.1, h.lo.2.2.1, Nat.lt_of_lt_of_le h.lo.2.2.2 g.size⟩
set_option maxRecDepth 100000 in
theorem SL.xAt (h : SL W w1 a P sub n E pE cE xs xb X px cx w) : w.cell? ⟨W.heap.size, 0, none⟩ = some (.int .i64 xs) ∧ w.cell? ⟨W.heap.size, 1, none⟩ = some (.int .u64 (xb : Int)) :=
  ⟨cell_of_row _ _ _ _ _ _ h.hx, cell_of_row _ _ _ _ _ _ h.hx⟩
/-- The two lists. -/
structure LL (D : Nat) (M : List Int) (q : Option Addr) (d : Nat) (X : List Int) (px : Option Addr) (cx : Nat) (w : World) : Prop where
  hd : w.heap[D]? = some (.cells #[.slice q M.length d, .slice px X.length cx] 22 (0, 0))
  rm : Rd w (fun _ => True) (.slice q M.length d) (M.map tv)
set_option maxRecDepth 100000 in
theorem LL.keep {D : Nat} {M : List Int} {q : Option Addr} {d : Nat} (h : LL D M q d X px cx w) (g : w.grownBy w2 none) : LL D M q d X px cx w2 := ⟨kept_row h.hd g (by simp), h.rm.keep g⟩
end
set_option maxRecDepth 100000 in
set_option maxHeartbeats 51200000 in
theorem sets_walk (v : Value) (X : List Int) (px : Option Addr) (cx : Nat) (xs : Int) (xb : Nat) (hxb : U64 xb) (w : World) (hv : IntsIn w v) (hX : Rd w (· < w.heap.size) (.slice px X.length cx) (X.map tv)) (hxm : X.length ≤ 9223372036854775807) (hT : Tb w) :
    Calls Tryd.prog 3 #[v, .slice px X.length cx, .agg #[.int .i64 xs, .int .u64 (xb : Int)]] w fun e w' => e = .returned (.bool true) ∧ w.grownBy w' none := by
  obtain ⟨ii, hi, hi0, hi1, hi2⟩ := info_parts info_int
  obtain ⟨k1, k2⟩ := tone_box w #[.int .i64 xs, .int .u64 (xb : Int)] 25
  have HV := Lib.hid (ints_keepD hv k2)
  have HTB := Lib.hid hT
  have HXB := Lib.hid hxb
  have H0 := Lib.hid (And.intro k1 (And.intro k2 (And.intro (hX.keep k2) (show w.heap.size < (w.alloc (.cells #[.int .i64 xs, .int .u64 (xb : Int)] 25)).heap.size by simp))))
  clear k1 k2 hv hX hT hxb
  go_enter Tryd.func3, Tryd.ntmps3
  go_upto_region 1 with fail
  generalize w.alloc _ = wa at *
  go_wp2_with fail
  refine (new_any v wa HV.out).mono ?_
  rintro e w1 ⟨rfl, hg1, hT1⟩
  have H1 := Lib.hid (And.intro hT1 (And.intro (kept_row H0.out.1 hg1 (by simp)) (And.intro (grown_trans H0.out.2.1 hg1) (And.intro (H0.out.2.2.1.keep hg1) (And.intro H0.out.2.2.2 hT1.lt)))))
  clear hg1 hT1 HV H0
  obtain ⟨a, ha⟩ : ∃ a, wa.heap.size = a := ⟨_, rfl⟩
  rw [ha] at H1 ⊢
  clear ha
  have HW := Lib.hid (And.intro H1.out.2.2.2.2.1 H1.out.2.2.2.2.2)
  have hne : ∀ b, b < a → some b ≠ some a := fun b hb e => by have := Option.some.inj e; omega
  go_wp2_with fail
  refine (topo_any a 7 0 (by omega) (by omega) (by unfold I64; omega) _ H1.out.1).mono ?_
  rintro e w4 ⟨R, L, vR, vL, rfl, hoR, hoL, -, hTo, hs⟩
  obtain ⟨pR, cR, rfl, -, -⟩ := own_shape hoR
  obtain ⟨pL, cL, rfl, -, -⟩ := own_shape hoL
  have hR40 : R.length ≤ 40 := by have := hTo.2.2.1; omega
  have hRR : RdR w4 (fun b => b ≠ a ∧ b < w4.heap.size) (.slice pR R.length cR) R := (rdf_of_own2 hoR).mono (fun b hb => ⟨by have := hb.1; have := HW.out.2; omega, hb.2⟩)
  go_wp2_with fail
  refine (tplan_any a 6 (by unfold I64; omega) R pR pL cR L.length cL hR40 w4 hs.2 hRR).mono ?_
  rintro e w5 ⟨sub, n, E, pE, cE, rfl, hoE, hEl, -, hs5⟩
  have hs2 := hs.trans hs5
  have hEl2 : E.length ≤ 41 := by omega
  obtain ⟨n1k, n2k⟩ := tone_box w5 #[.int .i64 sub, .int .i64 n, .slice pE E.length cE] 30
  have S0 : Hid (SL w w1 a w5.heap.size sub n E pE cE xs xb X px cx (w5.alloc (.cells #[.int .i64 sub, .int .i64 n, .slice pE E.length cE] 30))) := Lib.hid ⟨kept_row (kept_row H1.out.2.1 hs2.1 (hne _ HW.out.1)) n2k (by simp), n1k, ((rdf_of_own2 hoE).mono (fun b hb => ⟨by have := hb.1; have := hs.1.size; have := HW.out.2; omega, hb.2⟩)).keep n2k, (H1.out.2.2.2.1.grown hs2.1 (fun b hb => hne b (by have := HW.out.1; omega))).keep n2k, grown_trans (grown_new H1.out.2.2.1 hs2.1 (Nat.le_of_lt HW.out.1)) n2k, hs2.none_ n2k, HW.out.1, HW.out.2, hs2.1.size, by simp⟩
  clear hs hs2 hs5 hoE hoR hoL hTo hRR hEl hne H1 n1k n2k
  go_upto_region 3 with fail
  generalize w5.alloc _ = w6 at *
  generalize w5.heap.size = P at *
  have O0 : Hid (w6.ownsRow (P + 1) 3 1 (.slice none 0 0) 0 []) := Lib.hid (World.ownsRow_nil _ _ _ _)
  go_wp2_with fail
  go_loopw [9, 10] (fun v x wr => ∃ (k : Nat) (M : List Int) (q : Option Addr) (d : Nat), k ≤ E.length ∧ x = .int .i64 (k : Int) ∧ v = .slice q M.length d ∧ M.length ≤ k ∧ Hid (SL w w1 a P sub n E pE cE xs xb X px cx wr ∧ wr.ownsRow (P + 1) 3 1 (.slice q M.length d) M.length (M.map tv))) (fun _ x _ => E.length - (RowKit.intOf x).toNat)
  case atStart => exact ⟨0, [], none, 0, Nat.zero_le _, rfl, rfl, Nat.zero_le _, Lib.hid ⟨S0.out, O0.out⟩⟩
  case round =>
  clear S0 O0
  obtain ⟨k, M, q, d, hk, rfl, rfl, hMk, S1⟩ := hrel
  obtain ⟨w7, hw7⟩ : ∃ w7, w7 = wr := ⟨_, rfl⟩
  rw [← hw7] at S1 ⊢
  clear hw7
  obtain ⟨⟨d0, d1, d2⟩, -⟩ := row3i S1.out.1.hp
  by_cases hlt : k < E.length
  case pos =>
    have hlt' : (k : Int) < (E.length : Int) := by omega
    go_wp2_with fail
    refine (next_any a 2 (by unfold I64; omega) _ S1.out.1.st.2).mono ?_
    rintro e w8 ⟨y, rfl, -, hs⟩
    have S2 := Lib.hid (And.intro (S1.out.1.tape hs) (own_other S1.out.2 hs.1 (by have := S1.out.1.lo; omega)))
    clear hs S1 d0 d1 d2
    by_cases hy : y = 0
    case neg =>
      have hy' : (y == 0) = false := by simpa using hy
      go_wp2_with fail
      exact ⟨⟨k + 1, M, q, d, by omega, congrArg _ (by omega), rfl, by omega, S2⟩, by simp only [RowKit.intOf]; omega⟩
    subst hy
    obtain ⟨⟨d0, d1, d2⟩, -⟩ := row3i S2.out.1.hp
    obtain ⟨-, b, off, rfl, -, hcc⟩ := ed_cells S2.out.1.rd (by omega)
    obtain ⟨x, hx⟩ : ∃ x, E[k]? = some x := ⟨_, List.getElem?_eq_getElem hlt⟩
    obtain ⟨-, a1⟩ := hcc k x hx
    clear hcc hx
    have HO2 := Lib.hid S2.out.2
    have hsz : P < w8.heap.size := S2.out.1.lo.2.2.2
    go_wp2_with (at_builtin; refine hold_on ?_)
    refine Lib.hid ?_
    refine wpList_append_lies _ rfl _ _ 22 rfl (P + 1) 3 ii (.int .i64 0) 1 8 Tryd.underlying22 hi hi0 hi1 hi2 rfl (by decide) (.slice q M.length d) M.length (M.map tv) rfl (HO2.out.alloc _) ⟨w8.heap.size, 0, none⟩ 1 1 [.int .i64 x.i] rfl rfl (int_row w8 x.i _) (int_one x.i) (by decide) (by unfold maxLen; omega) (by omega) (by simp; omega) _ rfl ?_
    intro g cap w9 hown hgrow hat hlt9
    have S3 := Lib.hid (And.intro ((S2.out.1.keep (World.grownBy_alloc _ _ none)).row (S2.out.2.alloc _) (by omega) hgrow) (show w9.ownsRow (P + 1) 3 1 (.slice (some ⟨g, 0, none⟩) (M ++ [x.i]).length cap) (M ++ [x.i]).length ((M ++ [x.i]).map tv) by rw [List.length_append, List.map_append]; simpa [tv] using hown))
    have hl2 : (M ++ [x.i]).length ≤ k + 1 := by rw [List.length_append]; simp; omega
    have hl3 : M.length + 1 = (M ++ [x.i]).length := by rw [List.length_append]; rfl
    rw [hl3]
    obtain ⟨M2, hM2⟩ : ∃ M2, M ++ [x.i] = M2 := ⟨_, rfl⟩
    rw [hM2] at S3 hl2 ⊢
    clear hown hgrow hat hlt9 HO2 S2 hl3 hM2 d0 d1 d2 a1 hsz
    go_wp2_with fail
    exact ⟨⟨k + 1, M2, some ⟨g, 0, none⟩, cap, by omega, congrArg _ (by omega), rfl, hl2, S3⟩, by simp only [RowKit.intOf]; omega⟩
  case neg =>
  obtain rfl : k = E.length := by omega
  have hnl : ¬ (E.length : Int) < (E.length : Int) := by omega
  go_wp2_with fail
  refine (one_any a 4 (by unfold I64; omega) _ S1.out.1.st.2).mono ?_
  rintro e w8 ⟨z, rfl, hs⟩
  have S2 := Lib.hid (And.intro (S1.out.1.tape hs) (own_other S1.out.2 hs.1 (by have := S1.out.1.lo; omega)))
  clear hs S1 d0 d1 d2 hnl
  go_upto_if 50 with fail
  go_cut [9] from 51 to 56 (fun v wx => ∃ (M : List Int) (q : Option Addr) (d : Nat), v = .slice q M.length d ∧ M.length ≤ 100 ∧ Hid (SL w w1 a P sub n E pE cE xs xb X px cx wx ∧ wx.ownsRow (P + 1) 3 1 (.slice q M.length d) M.length (M.map tv)))
  case first =>
    cases z
    case false =>
      go_wp2_with fail
      go_meet
      exact ⟨M, q, d, rfl, by omega, S2⟩
    go_wp2_with fail
    refine (pick_any (fun _ => True) a _ 0 6 6 (by omega) (by omega) _ (S2.out.1.st.2.alloc _) (among_list _ w8 a [0, 1, 8, 9, 256, 257] _ _ S2.out.1.st.2.lt rfl (fun _ _ => trivial))).mono ?_
    rintro e w9 ⟨y, rfl, -, hs⟩
    have S3 := Lib.hid (And.intro (S2.out.1.tape hs.alloc_left) (own_other S2.out.2 hs.alloc_left.1 (by have := S2.out.1.lo; omega)))
    clear hs S2
    have HO2 := Lib.hid S3.out.2
    have hsz : P < w9.heap.size := S3.out.1.lo.2.2.2
    go_wp2_with (at_builtin; refine hold_on ?_)
    refine Lib.hid ?_
    refine wpList_append_lies _ rfl _ _ 22 rfl (P + 1) 3 ii (.int .i64 0) 1 8 Tryd.underlying22 hi hi0 hi1 hi2 rfl (by decide) (.slice q M.length d) M.length (M.map tv) rfl (HO2.out.alloc _) ⟨w9.heap.size, 0, none⟩ 1 1 [.int .i64 y] rfl rfl (int_row w9 y _) (int_one y) (by decide) (by unfold maxLen; omega) (by omega) (by simp; omega) _ rfl ?_
    intro g cap w10 hown hgrow hat hlt9
    have S4 := Lib.hid (And.intro ((S3.out.1.keep (World.grownBy_alloc _ _ none)).row (S3.out.2.alloc _) (by omega) hgrow) (show w10.ownsRow (P + 1) 3 1 (.slice (some ⟨g, 0, none⟩) (M ++ [y]).length cap) (M ++ [y]).length ((M ++ [y]).map tv) by rw [List.length_append, List.map_append]; simpa [tv] using hown))
    have hl2 : (M ++ [y]).length ≤ 100 := by rw [List.length_append]; simp; omega
    have hl3 : M.length + 1 = (M ++ [y]).length := by rw [List.length_append]; rfl
    rw [hl3]
    obtain ⟨M2, hM2⟩ : ∃ M2, M ++ [y] = M2 := ⟨_, rfl⟩
    rw [hM2] at S4 hl2 ⊢
    clear hown hgrow hat hlt9 HO2 S3 hl3 hM2 hsz
    go_wp2_with fail
    go_meet
    exact ⟨M2, some ⟨g, 0, none⟩, cap, rfl, hl2, S4⟩
  case rest =>
  clear S2 hMk hk hlt
  obtain ⟨M, q, d, rfl, hM100, S3⟩ := hcut
  obtain ⟨n1k, n2k⟩ := tone_box wc #[.slice q M.length d, .slice px X.length cx] 22
  have S4 : Hid (SL w w1 a P sub n E pE cE xs xb X px cx _ ∧ LL wc.heap.size M q d X px cx _) := Lib.hid ⟨S3.out.1.keep n2k, n1k, ((rd_of_own S3.out.2).mono (fun _ _ => trivial)).keep n2k⟩
  clear S3 n1k n2k
  go_upto_region 12 with fail
  generalize wc.alloc _ = wd at *
  generalize wc.heap.size = D at *
  go_upto_block 2 with fail
  go_cut [12, 13, 14, 15, 16, 17] from 60 to 111 (fun _ _ _ _ _ _ wx => Hid (SL w w1 a P sub n E pE cE xs xb X px cx wx))
  case first =>
    go_wp2_with fail
    go_loopw [12] (fun x wr => ∃ i : Nat, i ≤ 2 ∧ x = .int .i64 (i : Int) ∧ Hid (SL w w1 a P sub n E pE cE xs xb X px cx wr ∧ LL D M q d X px cx wr)) (fun x _ => 2 - (RowKit.intOf x).toNat)
    case atStart => exact ⟨0, by omega, rfl, S4⟩
    case round =>
    clear S4
    obtain ⟨i, hi2, rfl, S0⟩ := hrel
    obtain ⟨w7, hw7⟩ : ∃ w7, w7 = wr := ⟨_, rfl⟩
    rw [← hw7] at S0 ⊢
    clear hw7
    by_cases hgo : i < 2 ∧ X.length ≤ 300
    case neg =>
      have S7 := Lib.hid S0.out.1
      by_cases hlt2 : i < 2
      · have hX3 : ¬ X.length ≤ 300 := fun h => hgo ⟨hlt2, h⟩
        have hX3' : ¬ (X.length : Int) ≤ 300 := by omega
        have hi2' : (i : Int) < 2 := by omega
        clear S0 hgo
        go_wp2_with fail
        go_meet
        exact S7
      · have hi2' : ¬ (i : Int) < 2 := by omega
        clear S0 hgo
        go_wp2_with fail
        go_meet
        exact S7
    case pos =>
    obtain ⟨hlt2, hX3⟩ := hgo
    have hX3' : (X.length : Int) ≤ 300 := by omega
    obtain ⟨Y, py, cy, hYl, hcY, hrY⟩ : ∃ (Y : List Int) (py : Option Addr) (cy : Nat), Y.length ≤ 300 ∧ w7.cell? ⟨D, i, none⟩ = some (.slice py Y.length cy) ∧ Rd w7 (fun _ => True) (.slice py Y.length cy) (Y.map tv) := by
      rcases (show i = 0 ∨ i = 1 by omega) with rfl | rfl
      · exact ⟨M, q, d, by omega, cell_of_row _ _ _ _ _ _ S0.out.2.hd, S0.out.2.rm⟩
      · exact ⟨X, px, cx, hX3, cell_of_row _ _ _ _ _ _ S0.out.2.hd, S0.out.1.rr.mono (fun _ _ => trivial)⟩
    have HF := Lib.hid S0.out.1
    have HC := Lib.hid (show w7.cell? ⟨D, i, none⟩ = some (.slice py Y.length cy) ∧ Rd w7 (fun _ => True) (.slice py Y.length cy) (Y.map tv) from ⟨hcY, hrY⟩)
    have GZ : Hid (w7.grownBy w7 none) := Lib.hid (grown_refl _ _)
    have hi0 : (0 : Int) ≤ (i : Int) := by omega
    have hi2 : (i : Int) < 2 := by omega
    have hEm : E.length ≤ 9223372036854775807 := by omega
    clear hcY hrY
    go_upto_region 15 with fail
    refine wp_region_held_drew (S := fun w' => Hid (w7.grownBy w' none)) (by kernel_rfl) (hid_drew GZ) (fun hHeld => ?_)
    refine wpAnyH_take (i := 0) (oi := { dst := some 70, op := Op.load 30 (Operand.tmp 8), type := 30, pos := "law.go:178", after := #[], guard := none }) (v := ?_) rfl (by kernel_rfl) (by kernel_rfl) (by kernel_rfl) (fun _ _ _ h => h) (Or.inl ⟨by rfl, ?_⟩) hHeld ?_
    rotate_left 1
    · intro u hSu
      obtain ⟨⟨d0, d1, d2⟩, -⟩ := row3i (kept_row HF.out.hp hSu.out (by simp))
      have cD := hSu.out.cell HC.out.1 (by simp)
      go_simp
      first | done | with_reducible rfl
    (try simp only [Act.put, List.setIfInBounds_toArray, List.set_cons_zero, List.set_cons_succ])
    refine wpAnyH_take (i := 1) (oi := { dst := some 71, op := Op.move (Operand.tmp 11), type := 42, pos := "law.go:178", after := #[], guard := none }) (v := ?_) rfl (by kernel_rfl) (by kernel_rfl) (by kernel_rfl) (fun _ _ _ h => h) (Or.inl ⟨by rfl, ?_⟩) hHeld ?_
    rotate_left 1
    · intro u hSu
      obtain ⟨⟨d0, d1, d2⟩, -⟩ := row3i (kept_row HF.out.hp hSu.out (by simp))
      have cD := hSu.out.cell HC.out.1 (by simp)
      go_simp
      first | done | with_reducible rfl
    (try simp only [Act.put, List.setIfInBounds_toArray, List.set_cons_zero, List.set_cons_succ])
    refine wpAnyH_take (i := 2) (oi := { dst := some 72, op := Op.move (Operand.tmp 12), type := 3, pos := "law.go:178", after := #[], guard := none }) (v := ?_) rfl (by kernel_rfl) (by kernel_rfl) (by kernel_rfl) (fun _ _ _ h => h) (Or.inl ⟨by rfl, ?_⟩) hHeld ?_
    rotate_left 1
    · intro u hSu
      obtain ⟨⟨d0, d1, d2⟩, -⟩ := row3i (kept_row HF.out.hp hSu.out (by simp))
      have cD := hSu.out.cell HC.out.1 (by simp)
      go_simp
      first | done | with_reducible rfl
    (try simp only [Act.put, List.setIfInBounds_toArray, List.set_cons_zero, List.set_cons_succ])
    refine wpAnyH_take (i := 3) (oi := { dst := some 73, op := Op.indexAddr 42 (Operand.tmp 71) (Operand.tmp 72), type := 0, pos := "law.go:178", after := #[{ on := 1, ground := Ground.data }, { on := 2, ground := Ground.data }], guard := none }) (v := ?_) rfl (by kernel_rfl) (by kernel_rfl) (by kernel_rfl) (fun _ _ _ h => h) (Or.inl ⟨by rfl, ?_⟩) hHeld ?_
    rotate_left 1
    · intro u hSu
      obtain ⟨⟨d0, d1, d2⟩, -⟩ := row3i (kept_row HF.out.hp hSu.out (by simp))
      have cD := hSu.out.cell HC.out.1 (by simp)
      go_simp
      first | done | with_reducible rfl
    (try simp only [Act.put, List.setIfInBounds_toArray, List.set_cons_zero, List.set_cons_succ])
    refine wpAnyH_take (i := 4) (oi := { dst := some 74, op := Op.load 22 (Operand.tmp 73), type := 22, pos := "law.go:178", after := #[{ on := 3, ground := Ground.data }], guard := none }) (v := ?_) rfl (by kernel_rfl) (by kernel_rfl) (by kernel_rfl) (fun _ _ _ h => h) (Or.inl ⟨by rfl, ?_⟩) hHeld ?_
    rotate_left 1
    · intro u hSu
      obtain ⟨⟨d0, d1, d2⟩, -⟩ := row3i (kept_row HF.out.hp hSu.out (by simp))
      have cD := hSu.out.cell HC.out.1 (by simp)
      go_simp
      first | done | with_reducible rfl
    (try simp only [Act.put, List.setIfInBounds_toArray, List.set_cons_zero, List.set_cons_succ])
    refine wpAnyH_ready (rs := [5]) (by kernel_rfl) (by simp) ?_
    refine AllReadyH.cons (o := { dst := some 75, op := Op.call { callee := Callee.value (Operand.func 11), args := #[Operand.tmp 70, Operand.tmp 74], argTypes := #[30, 22] }, type := 45, pos := "law.go:178", after := #[{ on := 0, ground := Ground.data }, { on := 4, ground := Ground.data }], guard := none }) rfl (fun Kz hK => ?_) AllReadyH.nil
    go_simp
    go_at_call 11
    refine (isets_any sub n E pE cE Y py cy _ (HF.out.rd.keep hHeld.out).old hEm (HC.out.2.keep hHeld.out).old (by omega)).mono ?_
    rintro e w8 ⟨p1, c1, rfl, ho, hg⟩
    have Hn : Hid (w7.grownBy _ none) := Lib.hid (grown_trans hHeld.out hg)
    have hol := Lib.hid ((rdf_of_own ho).mono (q' := fun _ => True) (fun _ _ => trivial))
    clear ho
    clear hg
    refine hK.out _ _ (Hn) (fun hH2 => ?_)
    clear hK Kz hHeld
    have hHeld := hH2
    clear hH2
    (try simp only [Act.put, List.setIfInBounds_toArray, List.set_cons_zero, List.set_cons_succ])
    refine wpAnyH_take (i := 6) (oi := { dst := some 69, op := Op.move (Operand.tmp 75), type := 45, pos := "law.go:178", after := #[{ on := 5, ground := Ground.data }], guard := none }) (v := ?_) rfl (by kernel_rfl) (by kernel_rfl) (by kernel_rfl) (fun _ _ _ h => h) (Or.inl ⟨by rfl, ?_⟩) hHeld ?_
    rotate_left 1
    · intro u hSu
      obtain ⟨⟨d0, d1, d2⟩, -⟩ := row3i (kept_row HF.out.hp hSu.out (by simp))
      have cD := hSu.out.cell HC.out.1 (by simp)
      go_simp
      first | done | with_reducible rfl
    (try simp only [Act.put, List.setIfInBounds_toArray, List.set_cons_zero, List.set_cons_succ])
    refine wpAnyH_take (i := 7) (oi := { dst := some 76, op := Op.extract (Operand.tmp 69) 0, type := 43, pos := "law.go:178", after := #[{ on := 6, ground := Ground.data }], guard := none }) (v := ?_) rfl (by kernel_rfl) (by kernel_rfl) (by kernel_rfl) (fun _ _ _ h => h) (Or.inl ⟨by rfl, ?_⟩) hHeld ?_
    rotate_left 1
    · intro u hSu
      obtain ⟨⟨d0, d1, d2⟩, -⟩ := row3i (kept_row HF.out.hp hSu.out (by simp))
      have cD := hSu.out.cell HC.out.1 (by simp)
      go_simp
      first | done | with_reducible rfl
    (try simp only [Act.put, List.setIfInBounds_toArray, List.set_cons_zero, List.set_cons_succ])
    refine wpAnyH_take (i := 8) (oi := { dst := some 77, op := Op.extract (Operand.tmp 69) 1, type := 44, pos := "law.go:178", after := #[{ on := 6, ground := Ground.data }, { on := 9, ground := Ground.gcOnly Departure.lateStores }], guard := none }) (v := ?_) rfl (by kernel_rfl) (by kernel_rfl) (by kernel_rfl) (fun _ _ _ h => h) (Or.inl ⟨by rfl, ?_⟩) hHeld ?_
    rotate_left 1
    · intro u hSu
      obtain ⟨⟨d0, d1, d2⟩, -⟩ := row3i (kept_row HF.out.hp hSu.out (by simp))
      have cD := hSu.out.cell HC.out.1 (by simp)
      go_simp
      first | done | with_reducible rfl
    (try simp only [Act.put, List.setIfInBounds_toArray, List.set_cons_zero, List.set_cons_succ])
    refine wpAnyH_take (i := 9) (oi := { dst := some 13, op := Op.assign (Operand.tmp 76), type := 43, pos := "law.go:178", after := #[{ on := 7, ground := Ground.data }, { on := 5, ground := Ground.chain }, { on := 0, ground := Ground.phase }, { on := 1, ground := Ground.phase }, { on := 2, ground := Ground.phase }, { on := 3, ground := Ground.phase }, { on := 4, ground := Ground.phase }, { on := 5, ground := Ground.phase }, { on := 6, ground := Ground.phase }, { on := 7, ground := Ground.phase }, { on := 8, ground := Ground.textOnly Departure.lateStores }], guard := none }) (v := ?_) rfl (by kernel_rfl) (by kernel_rfl) (by kernel_rfl) (fun _ _ _ h => h) (Or.inl ⟨by rfl, ?_⟩) hHeld ?_
    rotate_left 1
    · intro u hSu
      obtain ⟨⟨d0, d1, d2⟩, -⟩ := row3i (kept_row HF.out.hp hSu.out (by simp))
      have cD := hSu.out.cell HC.out.1 (by simp)
      go_simp
      first | done | with_reducible rfl
    (try simp only [Act.put, List.setIfInBounds_toArray, List.set_cons_zero, List.set_cons_succ])
    refine wpAnyH_take (i := 10) (oi := { dst := some 14, op := Op.assign (Operand.tmp 77), type := 44, pos := "law.go:178", after := #[{ on := 8, ground := Ground.data }, { on := 9, ground := Ground.chain }, { on := 0, ground := Ground.phase }, { on := 1, ground := Ground.phase }, { on := 2, ground := Ground.phase }, { on := 3, ground := Ground.phase }, { on := 4, ground := Ground.phase }, { on := 5, ground := Ground.phase }, { on := 6, ground := Ground.phase }, { on := 7, ground := Ground.phase }, { on := 8, ground := Ground.phase }, { on := 9, ground := Ground.phase }], guard := none }) (v := ?_) rfl (by kernel_rfl) (by kernel_rfl) (by kernel_rfl) (fun _ _ _ h => h) (Or.inl ⟨by rfl, ?_⟩) hHeld ?_
    rotate_left 1
    · intro u hSu
      obtain ⟨⟨d0, d1, d2⟩, -⟩ := row3i (kept_row HF.out.hp hSu.out (by simp))
      have cD := hSu.out.cell HC.out.1 (by simp)
      go_simp
      first | done | with_reducible rfl
    (try simp only [Act.put, List.setIfInBounds_toArray, List.set_cons_zero, List.set_cons_succ])
    refine wpAnyH_done (by kernel_rfl) ?_ _
    have H8 := Lib.hid (And.intro hHeld.out (hol.out))
    clear hHeld GZ hol
    have HF2 := Lib.hid (HF.out.keep H8.out.1)
    have HC2 := Lib.hid (And.intro (H8.out.1.cell HC.out.1 (by simp)) (HC.out.2.keep H8.out.1))
    have HL2 := Lib.hid (S0.out.2.keep H8.out.1)
    have HR1 := Lib.hid H8.out.2
    have GZ : Hid (w8.grownBy w8 none) := Lib.hid (grown_refl _ _)
    clear H8 HF HC S0
    obtain ⟨SO, hSO⟩ : ∃ SO, seO sub n E Y = SO := ⟨_, rfl⟩
    obtain ⟨SX, hSX⟩ : ∃ SX, seX sub n E Y = SX := ⟨_, rfl⟩
    have HSL : Hid (SO.length ≤ 1000000) := Lib.hid (by rw [← hSO]; exact seO_len (by omega))
    have HSO := Lib.hid (And.intro hSO hSX)
    rw [hSO] at HR1
    rw [hSO, hSX]
    clear hSO hSX
    go_upto_region 16 with fail
    refine wp_region_held_drew (S := fun w' => Hid (w8.grownBy w' none)) (by kernel_rfl) (hid_drew GZ) (fun hHeld => ?_)
    refine wpAnyH_take (i := 0) (oi := { dst := some 79, op := Op.load 30 (Operand.tmp 8), type := 30, pos := "law.go:179", after := #[], guard := none }) (v := ?_) rfl (by kernel_rfl) (by kernel_rfl) (by kernel_rfl) (fun _ _ _ h => h) (Or.inl ⟨by rfl, ?_⟩) hHeld ?_
    rotate_left 1
    · intro u hSu
      obtain ⟨⟨d0, d1, d2⟩, -⟩ := row3i (kept_row HF2.out.hp hSu.out (by simp))
      have cD := hSu.out.cell HC2.out.1 (by simp)
      go_simp
      first | done | with_reducible rfl
    (try simp only [Act.put, List.setIfInBounds_toArray, List.set_cons_zero, List.set_cons_succ])
    refine wpAnyH_take (i := 1) (oi := { dst := some 80, op := Op.move (Operand.tmp 11), type := 42, pos := "law.go:179", after := #[], guard := none }) (v := ?_) rfl (by kernel_rfl) (by kernel_rfl) (by kernel_rfl) (fun _ _ _ h => h) (Or.inl ⟨by rfl, ?_⟩) hHeld ?_
    rotate_left 1
    · intro u hSu
      obtain ⟨⟨d0, d1, d2⟩, -⟩ := row3i (kept_row HF2.out.hp hSu.out (by simp))
      have cD := hSu.out.cell HC2.out.1 (by simp)
      go_simp
      first | done | with_reducible rfl
    (try simp only [Act.put, List.setIfInBounds_toArray, List.set_cons_zero, List.set_cons_succ])
    refine wpAnyH_take (i := 2) (oi := { dst := some 81, op := Op.move (Operand.tmp 12), type := 3, pos := "law.go:179", after := #[], guard := none }) (v := ?_) rfl (by kernel_rfl) (by kernel_rfl) (by kernel_rfl) (fun _ _ _ h => h) (Or.inl ⟨by rfl, ?_⟩) hHeld ?_
    rotate_left 1
    · intro u hSu
      obtain ⟨⟨d0, d1, d2⟩, -⟩ := row3i (kept_row HF2.out.hp hSu.out (by simp))
      have cD := hSu.out.cell HC2.out.1 (by simp)
      go_simp
      first | done | with_reducible rfl
    (try simp only [Act.put, List.setIfInBounds_toArray, List.set_cons_zero, List.set_cons_succ])
    refine wpAnyH_take (i := 3) (oi := { dst := some 82, op := Op.indexAddr 42 (Operand.tmp 80) (Operand.tmp 81), type := 0, pos := "law.go:179", after := #[{ on := 1, ground := Ground.data }, { on := 2, ground := Ground.data }], guard := none }) (v := ?_) rfl (by kernel_rfl) (by kernel_rfl) (by kernel_rfl) (fun _ _ _ h => h) (Or.inl ⟨by rfl, ?_⟩) hHeld ?_
    rotate_left 1
    · intro u hSu
      obtain ⟨⟨d0, d1, d2⟩, -⟩ := row3i (kept_row HF2.out.hp hSu.out (by simp))
      have cD := hSu.out.cell HC2.out.1 (by simp)
      go_simp
      first | done | with_reducible rfl
    (try simp only [Act.put, List.setIfInBounds_toArray, List.set_cons_zero, List.set_cons_succ])
    refine wpAnyH_take (i := 4) (oi := { dst := some 83, op := Op.load 22 (Operand.tmp 82), type := 22, pos := "law.go:179", after := #[{ on := 3, ground := Ground.data }], guard := none }) (v := ?_) rfl (by kernel_rfl) (by kernel_rfl) (by kernel_rfl) (fun _ _ _ h => h) (Or.inl ⟨by rfl, ?_⟩) hHeld ?_
    rotate_left 1
    · intro u hSu
      obtain ⟨⟨d0, d1, d2⟩, -⟩ := row3i (kept_row HF2.out.hp hSu.out (by simp))
      have cD := hSu.out.cell HC2.out.1 (by simp)
      go_simp
      first | done | with_reducible rfl
    (try simp only [Act.put, List.setIfInBounds_toArray, List.set_cons_zero, List.set_cons_succ])
    refine wpAnyH_ready (rs := [5]) (by kernel_rfl) (by simp) ?_
    refine AllReadyH.cons (o := { dst := some 84, op := Op.call { callee := Callee.value (Operand.func 12), args := #[Operand.tmp 79, Operand.tmp 83], argTypes := #[30, 22] }, type := 45, pos := "law.go:179", after := #[{ on := 0, ground := Ground.data }, { on := 4, ground := Ground.data }], guard := none }) rfl (fun Kz hK => ?_) AllReadyH.nil
    go_simp
    go_at_call 12
    refine (irsets_any sub n E pE cE Y py cy _ (HF2.out.rd.keep hHeld.out).old hEm (HC2.out.2.keep hHeld.out).old (by omega)).mono ?_
    rintro e w9 ⟨p2, c2, rfl, ho, hg⟩
    have Hn : Hid (w8.grownBy _ none) := Lib.hid (grown_trans hHeld.out hg)
    have hol := Lib.hid ((rdf_of_own ho).mono (q' := fun _ => True) (fun _ _ => trivial))
    clear ho
    clear hg
    refine hK.out _ _ (Hn) (fun hH2 => ?_)
    clear hK Kz hHeld
    have hHeld := hH2
    clear hH2
    (try simp only [Act.put, List.setIfInBounds_toArray, List.set_cons_zero, List.set_cons_succ])
    refine wpAnyH_take (i := 6) (oi := { dst := some 78, op := Op.move (Operand.tmp 84), type := 45, pos := "law.go:179", after := #[{ on := 5, ground := Ground.data }], guard := none }) (v := ?_) rfl (by kernel_rfl) (by kernel_rfl) (by kernel_rfl) (fun _ _ _ h => h) (Or.inl ⟨by rfl, ?_⟩) hHeld ?_
    rotate_left 1
    · intro u hSu
      obtain ⟨⟨d0, d1, d2⟩, -⟩ := row3i (kept_row HF2.out.hp hSu.out (by simp))
      have cD := hSu.out.cell HC2.out.1 (by simp)
      go_simp
      first | done | with_reducible rfl
    (try simp only [Act.put, List.setIfInBounds_toArray, List.set_cons_zero, List.set_cons_succ])
    refine wpAnyH_take (i := 7) (oi := { dst := some 85, op := Op.extract (Operand.tmp 78) 0, type := 43, pos := "law.go:179", after := #[{ on := 6, ground := Ground.data }], guard := none }) (v := ?_) rfl (by kernel_rfl) (by kernel_rfl) (by kernel_rfl) (fun _ _ _ h => h) (Or.inl ⟨by rfl, ?_⟩) hHeld ?_
    rotate_left 1
    · intro u hSu
      obtain ⟨⟨d0, d1, d2⟩, -⟩ := row3i (kept_row HF2.out.hp hSu.out (by simp))
      have cD := hSu.out.cell HC2.out.1 (by simp)
      go_simp
      first | done | with_reducible rfl
    (try simp only [Act.put, List.setIfInBounds_toArray, List.set_cons_zero, List.set_cons_succ])
    refine wpAnyH_take (i := 8) (oi := { dst := some 86, op := Op.extract (Operand.tmp 78) 1, type := 44, pos := "law.go:179", after := #[{ on := 6, ground := Ground.data }, { on := 9, ground := Ground.gcOnly Departure.lateStores }], guard := none }) (v := ?_) rfl (by kernel_rfl) (by kernel_rfl) (by kernel_rfl) (fun _ _ _ h => h) (Or.inl ⟨by rfl, ?_⟩) hHeld ?_
    rotate_left 1
    · intro u hSu
      obtain ⟨⟨d0, d1, d2⟩, -⟩ := row3i (kept_row HF2.out.hp hSu.out (by simp))
      have cD := hSu.out.cell HC2.out.1 (by simp)
      go_simp
      first | done | with_reducible rfl
    (try simp only [Act.put, List.setIfInBounds_toArray, List.set_cons_zero, List.set_cons_succ])
    refine wpAnyH_take (i := 9) (oi := { dst := some 15, op := Op.assign (Operand.tmp 85), type := 43, pos := "law.go:179", after := #[{ on := 7, ground := Ground.data }, { on := 5, ground := Ground.chain }, { on := 0, ground := Ground.phase }, { on := 1, ground := Ground.phase }, { on := 2, ground := Ground.phase }, { on := 3, ground := Ground.phase }, { on := 4, ground := Ground.phase }, { on := 5, ground := Ground.phase }, { on := 6, ground := Ground.phase }, { on := 7, ground := Ground.phase }, { on := 8, ground := Ground.textOnly Departure.lateStores }], guard := none }) (v := ?_) rfl (by kernel_rfl) (by kernel_rfl) (by kernel_rfl) (fun _ _ _ h => h) (Or.inl ⟨by rfl, ?_⟩) hHeld ?_
    rotate_left 1
    · intro u hSu
      obtain ⟨⟨d0, d1, d2⟩, -⟩ := row3i (kept_row HF2.out.hp hSu.out (by simp))
      have cD := hSu.out.cell HC2.out.1 (by simp)
      go_simp
      first | done | with_reducible rfl
    (try simp only [Act.put, List.setIfInBounds_toArray, List.set_cons_zero, List.set_cons_succ])
    refine wpAnyH_take (i := 10) (oi := { dst := some 16, op := Op.assign (Operand.tmp 86), type := 44, pos := "law.go:179", after := #[{ on := 8, ground := Ground.data }, { on := 9, ground := Ground.chain }, { on := 0, ground := Ground.phase }, { on := 1, ground := Ground.phase }, { on := 2, ground := Ground.phase }, { on := 3, ground := Ground.phase }, { on := 4, ground := Ground.phase }, { on := 5, ground := Ground.phase }, { on := 6, ground := Ground.phase }, { on := 7, ground := Ground.phase }, { on := 8, ground := Ground.phase }, { on := 9, ground := Ground.phase }], guard := none }) (v := ?_) rfl (by kernel_rfl) (by kernel_rfl) (by kernel_rfl) (fun _ _ _ h => h) (Or.inl ⟨by rfl, ?_⟩) hHeld ?_
    rotate_left 1
    · intro u hSu
      obtain ⟨⟨d0, d1, d2⟩, -⟩ := row3i (kept_row HF2.out.hp hSu.out (by simp))
      have cD := hSu.out.cell HC2.out.1 (by simp)
      go_simp
      first | done | with_reducible rfl
    (try simp only [Act.put, List.setIfInBounds_toArray, List.set_cons_zero, List.set_cons_succ])
    refine wpAnyH_done (by kernel_rfl) ?_ _
    have H9 := Lib.hid (And.intro hHeld.out (hol.out))
    clear hHeld GZ hol
    rw [HSO.out.1] at H9
    rw [HSO.out.1, HSO.out.2]
    have S9 := Lib.hid (And.intro (HF2.out.keep H9.out.1) (HL2.out.keep H9.out.1))
    have HR := Lib.hid (And.intro (HR1.out.keep H9.out.1) H9.out.2)
    clear H9 HF2 HC2 HL2 HR1 HSO
    have hsl := HSL.out
    go_wp2_with fail
    go_loopw [17] (fun x wr => ∃ k : Nat, k ≤ SO.length ∧ x = .int .i64 (k : Int) ∧ Hid (w9.grownBy wr none)) (fun x _ => SO.length - (RowKit.intOf x).toNat)
    case atStart => exact ⟨0, Nat.zero_le _, rfl, Lib.hid (grown_refl _ _)⟩
    case round =>
    obtain ⟨k, hk, rfl, HG⟩ := hrel
    obtain ⟨w10, hw10⟩ : ∃ w10, w10 = wr := ⟨_, rfl⟩
    rw [← hw10] at HG ⊢
    clear hw10
    by_cases hlt : k < SO.length
    case pos =>
      have hlt' : (k : Int) < (SO.length : Int) := by omega
      obtain ⟨-, b1, o1, rfl, _, hc1⟩ := RdF.cells (f := sbC) (k := 2) (fun _ => rfl) (by decide) (HR.out.1.keep HG.out) (by omega)
      obtain ⟨-, b2, o2, rfl, _, hc2⟩ := RdF.cells (f := sbC) (k := 2) (fun _ => rfl) (by decide) (HR.out.2.keep HG.out) (by omega)
      obtain ⟨y, hy⟩ : ∃ y, SO[k]? = some y := ⟨_, List.getElem?_eq_getElem hlt⟩
      have a0 := hc1 k y hy 0 _ rfl
      have a1 := hc1 k y hy 1 _ rfl
      have z0 := hc2 k y hy 0 _ rfl
      have z1 := hc2 k y hy 1 _ rfl
      rw [Nat.add_zero] at a0 z0
      clear hc1 hc2 hy
      go_upto_region 22 with fail
      go_region
      have HG2 := Lib.hid (grown_drew HG.out)
      clear HG a0 a1 z0 z1
      change Exit.then _ _ _ _ w10.drew
      generalize w10.drew = w11 at *
      go_wp2_with fail
      exact ⟨⟨k + 1, by omega, congrArg _ (by omega), HG2⟩, by simp only [RowKit.intOf]; omega⟩
    case neg =>
      obtain rfl : k = SO.length := by omega
      have hnl : ¬ (SO.length : Int) < (SO.length : Int) := by omega
      have S10 := Lib.hid (And.intro (S9.out.1.keep HG.out) (S9.out.2.keep HG.out))
      clear S9 HR HG hsl HSL
      go_wp2_with fail
      exact ⟨⟨i + 1, by omega, congrArg _ (by omega), S10⟩, by simp only [RowKit.intOf]; omega⟩
  case rest =>
  have S7 := hcut
  clear hcut S4
  go_upto_region 24 with fail
  refine wp_region_held_drew (S := fun w' => Hid (SL w w1 a P sub n E pE cE xs xb X px cx w')) (by kernel_rfl) (Lib.hid (S7.out.keep (grown_drew (grown_refl _ none)))) (fun hHeld => ?_)
  refine wpAnyH_take (i := 0) (oi := { dst := some 112, op := Op.load 25 (Operand.tmp 5), type := 25, pos := "law.go:189", after := #[], guard := none }) (v := ?_) rfl (by kernel_rfl) (by kernel_rfl) (by kernel_rfl) (fun _ _ _ h => h) (Or.inl ⟨by rfl, ?_⟩) hHeld ?_
  rotate_left 1
  · intro u hSu
    have x0 := hSu.out.xAt.1
    have x1 := hSu.out.xAt.2
    go_simp
    first | done | with_reducible rfl
  (try simp only [Act.put, List.setIfInBounds_toArray, List.set_cons_zero, List.set_cons_succ])
  refine wpAnyH_take (i := 1) (oi := { dst := some 113, op := Op.move (Operand.tmp 7), type := 26, pos := "law.go:189", after := #[], guard := none }) (v := ?_) rfl (by kernel_rfl) (by kernel_rfl) (by kernel_rfl) (fun _ _ _ h => h) (Or.inl ⟨by rfl, ?_⟩) hHeld ?_
  rotate_left 1
  · intro u hSu
    have x0 := hSu.out.xAt.1
    have x1 := hSu.out.xAt.2
    go_simp
    first | done | with_reducible rfl
  (try simp only [Act.put, List.setIfInBounds_toArray, List.set_cons_zero, List.set_cons_succ])
  refine wpAnyH_take (i := 3) (oi := { dst := some 115, op := Op.move (Operand.tmp 7), type := 26, pos := "law.go:189", after := #[], guard := none }) (v := ?_) rfl (by kernel_rfl) (by kernel_rfl) (by kernel_rfl) (fun _ _ _ h => h) (Or.inl ⟨by rfl, ?_⟩) hHeld ?_
  rotate_left 1
  · intro u hSu
    have x0 := hSu.out.xAt.1
    have x1 := hSu.out.xAt.2
    go_simp
    first | done | with_reducible rfl
  (try simp only [Act.put, List.setIfInBounds_toArray, List.set_cons_zero, List.set_cons_succ])
  refine wpAnyH_take (i := 6) (oi := { dst := some 118, op := Op.move (Operand.tmp 7), type := 26, pos := "law.go:189", after := #[], guard := none }) (v := ?_) rfl (by kernel_rfl) (by kernel_rfl) (by kernel_rfl) (fun _ _ _ h => h) (Or.inl ⟨by rfl, ?_⟩) hHeld ?_
  rotate_left 1
  · intro u hSu
    have x0 := hSu.out.xAt.1
    have x1 := hSu.out.xAt.2
    go_simp
    first | done | with_reducible rfl
  (try simp only [Act.put, List.setIfInBounds_toArray, List.set_cons_zero, List.set_cons_succ])
  refine wpAnyH_ready (rs := [2]) (by kernel_rfl) (by simp) ?_
  refine AllReadyH.cons (o := { dst := some 114, op := Op.call { callee := Callee.value (Operand.func 8), args := #[Operand.tmp 113, Operand.const (Value.int IntKind.i64 3)], argTypes := #[26, 3] }, type := 3, pos := "law.go:189", after := #[{ on := 1, ground := Ground.data }], guard := none }) rfl (fun Kz hK => ?_) AllReadyH.nil
  go_simp
  go_at_call 8
  refine (next_any a 3 (by unfold I64; omega) _ hHeld.out.st.2).mono ?_
  rintro e w8 ⟨y1, rfl, -, hs⟩
  have Hn := Lib.hid (hHeld.out.tape hs)
  clear hs
  refine hK.out _ _ (Hn) (fun hH2 => ?_)
  clear hK Kz hHeld
  have hHeld := hH2
  clear hH2
  (try simp only [Act.put, List.setIfInBounds_toArray, List.set_cons_zero, List.set_cons_succ])
  refine wpAnyH_ready (rs := [4]) (by kernel_rfl) (by simp) ?_
  refine AllReadyH.cons (o := { dst := some 116, op := Op.call { callee := Callee.value (Operand.func 13), args := #[Operand.tmp 115, Operand.const (Value.int IntKind.i64 8)], argTypes := #[26, 3] }, type := 23, pos := "law.go:189", after := #[{ on := 3, ground := Ground.data }, { on := 2, ground := Ground.chain }], guard := none }) rfl (fun Kz hK => ?_) AllReadyH.nil
  go_simp
  go_at_call 13
  refine (bits_any a 8 (by decide) _ hHeld.out.st.2).mono ?_
  rintro e w9 ⟨y2, rfl, hy2, -, hs⟩
  have Hn := Lib.hid (hHeld.out.tape hs)
  have HY2 := Lib.hid hy2
  clear hy2
  clear hs
  refine hK.out _ _ (Hn) (fun hH2 => ?_)
  clear hK Kz hHeld
  have hHeld := hH2
  clear hH2
  (try simp only [Act.put, List.setIfInBounds_toArray, List.set_cons_zero, List.set_cons_succ])
  refine wpAnyH_take (i := 5) (oi := { dst := some 117, op := Op.build 25 #[(0, Operand.tmp 114), (1, Operand.tmp 116)], type := 25, pos := "law.go:189", after := #[{ on := 2, ground := Ground.data }, { on := 4, ground := Ground.data }], guard := none }) (v := ?_) rfl (by kernel_rfl) (by kernel_rfl) (by kernel_rfl) (fun _ _ _ h => h) (Or.inl ⟨by rfl, ?_⟩) hHeld ?_
  rotate_left 1
  · intro u hSu
    have x0 := hSu.out.xAt.1
    have x1 := hSu.out.xAt.2
    go_simp
    first | done | with_reducible rfl
  (try simp only [Act.put, List.setIfInBounds_toArray, List.set_cons_zero, List.set_cons_succ])
  refine wpAnyH_ready (rs := [7]) (by kernel_rfl) (by simp) ?_
  refine AllReadyH.cons (o := { dst := some 119, op := Op.call { callee := Callee.value (Operand.func 8), args := #[Operand.tmp 118, Operand.const (Value.int IntKind.i64 8)], argTypes := #[26, 3] }, type := 3, pos := "law.go:189", after := #[{ on := 6, ground := Ground.data }, { on := 4, ground := Ground.chain }], guard := none }) rfl (fun Kz hK => ?_) AllReadyH.nil
  go_simp
  go_at_call 8
  refine (next_any a 8 (by unfold I64; omega) _ hHeld.out.st.2).mono ?_
  rintro e w10 ⟨y3, rfl, hy3, hs⟩
  have Hn := Lib.hid (hHeld.out.tape hs)
  obtain ⟨m, rfl⟩ := Int.eq_ofNat_of_zero_le hy3.1
  have hm8 : m < 64 := by have := hy3.2.1 (by omega); omega
  clear hy3
  clear hs
  refine hK.out _ _ (Hn) (fun hH2 => ?_)
  clear hK Kz hHeld
  have hHeld := hH2
  clear hH2
  (try simp only [Act.put, List.setIfInBounds_toArray, List.set_cons_zero, List.set_cons_succ])
  refine wpAnyH_ready (rs := [8]) (by kernel_rfl) (by simp) ?_
  refine AllReadyH.cons (o := { dst := some 120, op := Op.call { callee := Callee.value (Operand.func 14), args := #[Operand.tmp 119], argTypes := #[3] }, type := 23, pos := "law.go:189", after := #[{ on := 7, ground := Ground.data }, { on := 7, ground := Ground.chain }], guard := none }) rfl (fun Kz hK => ?_) AllReadyH.nil
  go_simp
  go_at_call 14
  refine (bit_any m hm8 _).mono ?_
  rintro e w11 ⟨rfl, rfl⟩
  refine hK.out _ _ (hHeld) (fun hH2 => ?_)
  clear hK Kz hHeld
  have hHeld := hH2
  clear hH2
  (try simp only [Act.put, List.setIfInBounds_toArray, List.set_cons_zero, List.set_cons_succ])
  refine wpAnyH_take (i := 9) (oi := { dst := some 121, op := Op.build 25 #[(0, Operand.const (Value.int IntKind.i64 0)), (1, Operand.tmp 120)], type := 25, pos := "law.go:189", after := #[{ on := 8, ground := Ground.data }], guard := none }) (v := ?_) rfl (by kernel_rfl) (by kernel_rfl) (by kernel_rfl) (fun _ _ _ h => h) (Or.inl ⟨by rfl, ?_⟩) hHeld ?_
  rotate_left 1
  · intro u hSu
    have x0 := hSu.out.xAt.1
    have x1 := hSu.out.xAt.2
    go_simp
    first | done | with_reducible rfl
  (try simp only [Act.put, List.setIfInBounds_toArray, List.set_cons_zero, List.set_cons_succ])
  refine wpAnyH_ready (rs := [10]) (by kernel_rfl) (by simp) ?_
  refine AllReadyH.cons (o := { dst := some 122, op := Op.buildSlice 43 3 #[(0, Operand.tmp 112), (1, Operand.tmp 117), (2, Operand.tmp 121)], type := 43, pos := "law.go:189", after := #[{ on := 0, ground := Ground.data }, { on := 5, ground := Ground.data }, { on := 9, ground := Ground.data }], guard := none }) rfl (fun Kz hK => ?_) AllReadyH.nil
  have H10 := hHeld
  go_simp
  refine hK.out _ _ (Lib.hid (hHeld.out.keep (World.grownBy_alloc _ _ none))) (fun hH2 => ?_)
  clear hK Kz hHeld
  have hHeld := hH2
  clear hH2
  (try simp only [Act.put, List.setIfInBounds_toArray, List.set_cons_zero, List.set_cons_succ])
  refine wpAnyH_take (i := 11) (oi := { dst := some 18, op := Op.assign (Operand.tmp 122), type := 43, pos := "law.go:189", after := #[{ on := 10, ground := Ground.data }, { on := 8, ground := Ground.chain }, { on := 0, ground := Ground.phase }, { on := 1, ground := Ground.phase }, { on := 2, ground := Ground.phase }, { on := 3, ground := Ground.phase }, { on := 4, ground := Ground.phase }, { on := 5, ground := Ground.phase }, { on := 6, ground := Ground.phase }, { on := 7, ground := Ground.phase }, { on := 8, ground := Ground.phase }, { on := 9, ground := Ground.phase }, { on := 10, ground := Ground.phase }], guard := none }) (v := ?_) rfl (by kernel_rfl) (by kernel_rfl) (by kernel_rfl) (fun _ _ _ h => h) (Or.inl ⟨by rfl, ?_⟩) hHeld ?_
  rotate_left 1
  · intro u hSu
    have x0 := hSu.out.xAt.1
    have x1 := hSu.out.xAt.2
    go_simp
    first | done | with_reducible rfl
  (try simp only [Act.put, List.setIfInBounds_toArray, List.set_cons_zero, List.set_cons_succ])
  refine wpAnyH_done (by kernel_rfl) ?_ _
  obtain ⟨n1k, n2k⟩ := tone_box w10 #[.int .i64 xs, .int .u64 (xb : Int), .int .i64 y1, .int .u64 (y2 : Int), .int .i64 0, .int .u64 ((b2 m : Nat) : Int)] 25
  have S12 : Hid (SL w w1 a P sub n E pE cE xs xb X px cx _ ∧ _) := Lib.hid (And.intro (H10.out.keep n2k) n1k)
  clear n1k n2k H10 hHeld S7
  obtain ⟨wb, hwb⟩ : ∃ wb, wb = w10.alloc (.cells #[.int .i64 xs, .int .u64 (xb : Int), .int .i64 y1, .int .u64 (y2 : Int), .int .i64 0, .int .u64 ((b2 m : Nat) : Int)] 25) := ⟨_, rfl⟩
  rw [← hwb] at S12 ⊢
  clear hwb
  generalize w10.heap.size = D2 at *
  go_wp2_with fail
  go_loopw [19] (fun x wr => ∃ i : Nat, i ≤ 3 ∧ x = .int .i64 (i : Int) ∧ Hid (SL w w1 a P sub n E pE cE xs xb X px cx wr ∧ wr.heap[D2]? = some (.cells #[.int .i64 xs, .int .u64 (xb : Int), .int .i64 y1, .int .u64 (y2 : Int), .int .i64 0, .int .u64 ((b2 m : Nat) : Int)] 25 (0, 0)))) (fun x _ => 3 - (RowKit.intOf x).toNat)
  case atStart => exact ⟨0, by omega, rfl, S12⟩
  case round =>
  clear S12
  obtain ⟨i3, hi3, rfl, S12⟩ := hrel
  obtain ⟨w12, hw12⟩ : ∃ w12, w12 = wr := ⟨_, rfl⟩
  rw [← hw12] at S12 ⊢
  clear hw12
  by_cases hlt3 : i3 < 3
  case neg =>
    obtain rfl : i3 = 3 := by omega
    go_wp2_with fail
    refine (iawake_any w12).mono ?_
    rintro e w13 ⟨rfl, hg⟩
    have G := Lib.hid (grown_trans S12.out.1.gr hg)
    clear hg S12
    go_wp2_with fail
    go_ret
    exact ⟨rfl, G.out⟩
  case pos =>
  have hi3' : (i3 : Int) < 3 := by omega
  have hi30 : (0 : Int) ≤ (i3 : Int) := by omega
  obtain ⟨si, bi, hbi, hc0, hc1⟩ : ∃ (si : Int) (bi : Nat), U64 bi ∧ w12.cell? ⟨D2, i3 * 2, none⟩ = some (.int .i64 si) ∧ w12.cell? ⟨D2, i3 * 2 + 1, none⟩ = some (.int .u64 (bi : Int)) := by
    rcases (show i3 = 0 ∨ i3 = 1 ∨ i3 = 2 by omega) with rfl | rfl | rfl
    · exact ⟨xs, xb, HXB.out, cell_of_row _ _ _ _ _ _ S12.out.2, cell_of_row _ _ _ _ _ _ S12.out.2⟩
    · exact ⟨y1, y2, HY2.out, cell_of_row _ _ _ _ _ _ S12.out.2, cell_of_row _ _ _ _ _ _ S12.out.2⟩
    · exact ⟨0, b2 m, b2_u64 hm8, cell_of_row _ _ _ _ _ _ S12.out.2, cell_of_row _ _ _ _ _ _ S12.out.2⟩
  have HF := Lib.hid S12.out.1
  have HC := Lib.hid (And.intro hc0 hc1)
  have HD2 := Lib.hid S12.out.2
  have hEm : E.length ≤ 9223372036854775807 := by omega
  have GZ : Hid (w12.grownBy w12 none) := Lib.hid (grown_refl _ _)
  clear hc0 hc1 S12
  go_upto_region 28 with fail
  refine wp_region_held_drew (S := fun w' => Hid (w12.grownBy w' none)) (by kernel_rfl) (hid_drew GZ) (fun hHeld => ?_)
  refine wpAnyH_take (i := 0) (oi := { dst := some 128, op := Op.load 30 (Operand.tmp 8), type := 30, pos := "law.go:191", after := #[], guard := none }) (v := ?_) rfl (by kernel_rfl) (by kernel_rfl) (by kernel_rfl) (fun _ _ _ h => h) (Or.inl ⟨by rfl, ?_⟩) hHeld ?_
  rotate_left 1
  · intro u hSu
    obtain ⟨⟨d0, d1, d2⟩, -⟩ := row3i (kept_row HF.out.hp hSu.out (by simp))
    have cs0 := hSu.out.cell HC.out.1 (by simp)
    have cs1 := hSu.out.cell HC.out.2 (by simp)
    go_simp
    first | done | with_reducible rfl
  (try simp only [Act.put, List.setIfInBounds_toArray, List.set_cons_zero, List.set_cons_succ])
  refine wpAnyH_take (i := 1) (oi := { dst := some 129, op := Op.move (Operand.tmp 18), type := 43, pos := "law.go:191", after := #[], guard := none }) (v := ?_) rfl (by kernel_rfl) (by kernel_rfl) (by kernel_rfl) (fun _ _ _ h => h) (Or.inl ⟨by rfl, ?_⟩) hHeld ?_
  rotate_left 1
  · intro u hSu
    obtain ⟨⟨d0, d1, d2⟩, -⟩ := row3i (kept_row HF.out.hp hSu.out (by simp))
    have cs0 := hSu.out.cell HC.out.1 (by simp)
    have cs1 := hSu.out.cell HC.out.2 (by simp)
    go_simp
    first | done | with_reducible rfl
  (try simp only [Act.put, List.setIfInBounds_toArray, List.set_cons_zero, List.set_cons_succ])
  refine wpAnyH_take (i := 2) (oi := { dst := some 130, op := Op.move (Operand.tmp 19), type := 3, pos := "law.go:191", after := #[], guard := none }) (v := ?_) rfl (by kernel_rfl) (by kernel_rfl) (by kernel_rfl) (fun _ _ _ h => h) (Or.inl ⟨by rfl, ?_⟩) hHeld ?_
  rotate_left 1
  · intro u hSu
    obtain ⟨⟨d0, d1, d2⟩, -⟩ := row3i (kept_row HF.out.hp hSu.out (by simp))
    have cs0 := hSu.out.cell HC.out.1 (by simp)
    have cs1 := hSu.out.cell HC.out.2 (by simp)
    go_simp
    first | done | with_reducible rfl
  (try simp only [Act.put, List.setIfInBounds_toArray, List.set_cons_zero, List.set_cons_succ])
  refine wpAnyH_take (i := 3) (oi := { dst := some 131, op := Op.indexAddr 43 (Operand.tmp 129) (Operand.tmp 130), type := 0, pos := "law.go:191", after := #[{ on := 1, ground := Ground.data }, { on := 2, ground := Ground.data }], guard := none }) (v := ?_) rfl (by kernel_rfl) (by kernel_rfl) (by kernel_rfl) (fun _ _ _ h => h) (Or.inl ⟨by rfl, ?_⟩) hHeld ?_
  rotate_left 1
  · intro u hSu
    obtain ⟨⟨d0, d1, d2⟩, -⟩ := row3i (kept_row HF.out.hp hSu.out (by simp))
    have cs0 := hSu.out.cell HC.out.1 (by simp)
    have cs1 := hSu.out.cell HC.out.2 (by simp)
    go_simp
    first | done | with_reducible rfl
  (try simp only [Act.put, List.setIfInBounds_toArray, List.set_cons_zero, List.set_cons_succ])
  refine wpAnyH_take (i := 4) (oi := { dst := some 132, op := Op.load 25 (Operand.tmp 131), type := 25, pos := "law.go:191", after := #[{ on := 3, ground := Ground.data }], guard := none }) (v := ?_) rfl (by kernel_rfl) (by kernel_rfl) (by kernel_rfl) (fun _ _ _ h => h) (Or.inl ⟨by rfl, ?_⟩) hHeld ?_
  rotate_left 1
  · intro u hSu
    obtain ⟨⟨d0, d1, d2⟩, -⟩ := row3i (kept_row HF.out.hp hSu.out (by simp))
    have cs0 := hSu.out.cell HC.out.1 (by simp)
    have cs1 := hSu.out.cell HC.out.2 (by simp)
    go_simp
    first | done | with_reducible rfl
  (try simp only [Act.put, List.setIfInBounds_toArray, List.set_cons_zero, List.set_cons_succ])
  refine wpAnyH_ready (rs := [5]) (by kernel_rfl) (by simp) ?_
  refine AllReadyH.cons (o := { dst := some 133, op := Op.call { callee := Callee.value (Operand.func 15), args := #[Operand.tmp 128, Operand.tmp 132], argTypes := #[30, 25] }, type := 48, pos := "law.go:191", after := #[{ on := 0, ground := Ground.data }, { on := 4, ground := Ground.data }], guard := none }) rfl (fun Kz hK => ?_) AllReadyH.nil
  go_simp
  go_at_call 15
  refine (inames_any sub n E pE cE si bi hbi _ (HF.out.rd.keep hHeld.out).old hEm (HTB.out.keep (grown_trans HF.out.gr hHeld.out))).mono ?_
  rintro e w13 ⟨p1, c1, rfl, ho, hg⟩
  have Hn : Hid (w12.grownBy _ none) := Lib.hid (grown_trans hHeld.out hg)
  have hol := Lib.hid ((rd_of_own ho).mono (q' := fun _ => True) (fun _ _ => trivial))
  clear ho
  clear hg
  refine hK.out _ _ (Hn) (fun hH2 => ?_)
  clear hK Kz hHeld
  have hHeld := hH2
  clear hH2
  (try simp only [Act.put, List.setIfInBounds_toArray, List.set_cons_zero, List.set_cons_succ])
  refine wpAnyH_take (i := 6) (oi := { dst := some 127, op := Op.move (Operand.tmp 133), type := 48, pos := "law.go:191", after := #[{ on := 5, ground := Ground.data }], guard := none }) (v := ?_) rfl (by kernel_rfl) (by kernel_rfl) (by kernel_rfl) (fun _ _ _ h => h) (Or.inl ⟨by rfl, ?_⟩) hHeld ?_
  rotate_left 1
  · intro u hSu
    obtain ⟨⟨d0, d1, d2⟩, -⟩ := row3i (kept_row HF.out.hp hSu.out (by simp))
    have cs0 := hSu.out.cell HC.out.1 (by simp)
    have cs1 := hSu.out.cell HC.out.2 (by simp)
    go_simp
    first | done | with_reducible rfl
  (try simp only [Act.put, List.setIfInBounds_toArray, List.set_cons_zero, List.set_cons_succ])
  refine wpAnyH_take (i := 7) (oi := { dst := some 134, op := Op.extract (Operand.tmp 127) 0, type := 22, pos := "law.go:191", after := #[{ on := 6, ground := Ground.data }], guard := none }) (v := ?_) rfl (by kernel_rfl) (by kernel_rfl) (by kernel_rfl) (fun _ _ _ h => h) (Or.inl ⟨by rfl, ?_⟩) hHeld ?_
  rotate_left 1
  · intro u hSu
    obtain ⟨⟨d0, d1, d2⟩, -⟩ := row3i (kept_row HF.out.hp hSu.out (by simp))
    have cs0 := hSu.out.cell HC.out.1 (by simp)
    have cs1 := hSu.out.cell HC.out.2 (by simp)
    go_simp
    first | done | with_reducible rfl
  (try simp only [Act.put, List.setIfInBounds_toArray, List.set_cons_zero, List.set_cons_succ])
  refine wpAnyH_take (i := 8) (oi := { dst := some 135, op := Op.extract (Operand.tmp 127) 1, type := 44, pos := "law.go:191", after := #[{ on := 6, ground := Ground.data }, { on := 9, ground := Ground.gcOnly Departure.lateStores }], guard := none }) (v := ?_) rfl (by kernel_rfl) (by kernel_rfl) (by kernel_rfl) (fun _ _ _ h => h) (Or.inl ⟨by rfl, ?_⟩) hHeld ?_
  rotate_left 1
  · intro u hSu
    obtain ⟨⟨d0, d1, d2⟩, -⟩ := row3i (kept_row HF.out.hp hSu.out (by simp))
    have cs0 := hSu.out.cell HC.out.1 (by simp)
    have cs1 := hSu.out.cell HC.out.2 (by simp)
    go_simp
    first | done | with_reducible rfl
  (try simp only [Act.put, List.setIfInBounds_toArray, List.set_cons_zero, List.set_cons_succ])
  refine wpAnyH_take (i := 9) (oi := { dst := some 20, op := Op.assign (Operand.tmp 134), type := 22, pos := "law.go:191", after := #[{ on := 7, ground := Ground.data }, { on := 5, ground := Ground.chain }, { on := 0, ground := Ground.phase }, { on := 1, ground := Ground.phase }, { on := 2, ground := Ground.phase }, { on := 3, ground := Ground.phase }, { on := 4, ground := Ground.phase }, { on := 5, ground := Ground.phase }, { on := 6, ground := Ground.phase }, { on := 7, ground := Ground.phase }, { on := 8, ground := Ground.textOnly Departure.lateStores }], guard := none }) (v := ?_) rfl (by kernel_rfl) (by kernel_rfl) (by kernel_rfl) (fun _ _ _ h => h) (Or.inl ⟨by rfl, ?_⟩) hHeld ?_
  rotate_left 1
  · intro u hSu
    obtain ⟨⟨d0, d1, d2⟩, -⟩ := row3i (kept_row HF.out.hp hSu.out (by simp))
    have cs0 := hSu.out.cell HC.out.1 (by simp)
    have cs1 := hSu.out.cell HC.out.2 (by simp)
    go_simp
    first | done | with_reducible rfl
  (try simp only [Act.put, List.setIfInBounds_toArray, List.set_cons_zero, List.set_cons_succ])
  refine wpAnyH_take (i := 10) (oi := { dst := some 21, op := Op.assign (Operand.tmp 135), type := 44, pos := "law.go:191", after := #[{ on := 8, ground := Ground.data }, { on := 9, ground := Ground.chain }, { on := 0, ground := Ground.phase }, { on := 1, ground := Ground.phase }, { on := 2, ground := Ground.phase }, { on := 3, ground := Ground.phase }, { on := 4, ground := Ground.phase }, { on := 5, ground := Ground.phase }, { on := 6, ground := Ground.phase }, { on := 7, ground := Ground.phase }, { on := 8, ground := Ground.phase }, { on := 9, ground := Ground.phase }], guard := none }) (v := ?_) rfl (by kernel_rfl) (by kernel_rfl) (by kernel_rfl) (fun _ _ _ h => h) (Or.inl ⟨by rfl, ?_⟩) hHeld ?_
  rotate_left 1
  · intro u hSu
    obtain ⟨⟨d0, d1, d2⟩, -⟩ := row3i (kept_row HF.out.hp hSu.out (by simp))
    have cs0 := hSu.out.cell HC.out.1 (by simp)
    have cs1 := hSu.out.cell HC.out.2 (by simp)
    go_simp
    first | done | with_reducible rfl
  (try simp only [Act.put, List.setIfInBounds_toArray, List.set_cons_zero, List.set_cons_succ])
  refine wpAnyH_done (by kernel_rfl) ?_ _
  have H13 := Lib.hid (And.intro hHeld.out (hol.out))
  clear hHeld GZ hol
  have HF2 := Lib.hid (HF.out.keep H13.out.1)
  have HC2 := Lib.hid (And.intro (H13.out.1.cell HC.out.1 (by simp)) (H13.out.1.cell HC.out.2 (by simp)))
  have HD3 := Lib.hid (kept_row HD2.out H13.out.1 (by simp))
  have HR1 := Lib.hid H13.out.2
  have GZ : Hid (w13.grownBy w13 none) := Lib.hid (grown_refl _ _)
  clear H13 HF HC HD2
  obtain ⟨NO, hNO⟩ : ∃ NO, nmO sub n E si bi = NO := ⟨_, rfl⟩
  obtain ⟨NX, hNX⟩ : ∃ NX, nmX sub n E si bi = NX := ⟨_, rfl⟩
  have HNL : Hid (NO.length ≤ 1000000) := Lib.hid (by rw [← hNO]; exact nmO_len _ _ _ _ _)
  have HNO := Lib.hid (And.intro hNO hNX)
  rw [hNO] at HR1
  rw [hNO, hNX]
  clear hNO hNX
  go_upto_region 29 with fail
  refine wp_region_held_drew (S := fun w' => Hid (w13.grownBy w' none)) (by kernel_rfl) (hid_drew GZ) (fun hHeld => ?_)
  refine wpAnyH_take (i := 0) (oi := { dst := some 137, op := Op.load 30 (Operand.tmp 8), type := 30, pos := "law.go:192", after := #[], guard := none }) (v := ?_) rfl (by kernel_rfl) (by kernel_rfl) (by kernel_rfl) (fun _ _ _ h => h) (Or.inl ⟨by rfl, ?_⟩) hHeld ?_
  rotate_left 1
  · intro u hSu
    obtain ⟨⟨d0, d1, d2⟩, -⟩ := row3i (kept_row HF2.out.hp hSu.out (by simp))
    have cs0 := hSu.out.cell HC2.out.1 (by simp)
    have cs1 := hSu.out.cell HC2.out.2 (by simp)
    go_simp
    first | done | with_reducible rfl
  (try simp only [Act.put, List.setIfInBounds_toArray, List.set_cons_zero, List.set_cons_succ])
  refine wpAnyH_take (i := 1) (oi := { dst := some 138, op := Op.move (Operand.tmp 18), type := 43, pos := "law.go:192", after := #[], guard := none }) (v := ?_) rfl (by kernel_rfl) (by kernel_rfl) (by kernel_rfl) (fun _ _ _ h => h) (Or.inl ⟨by rfl, ?_⟩) hHeld ?_
  rotate_left 1
  · intro u hSu
    obtain ⟨⟨d0, d1, d2⟩, -⟩ := row3i (kept_row HF2.out.hp hSu.out (by simp))
    have cs0 := hSu.out.cell HC2.out.1 (by simp)
    have cs1 := hSu.out.cell HC2.out.2 (by simp)
    go_simp
    first | done | with_reducible rfl
  (try simp only [Act.put, List.setIfInBounds_toArray, List.set_cons_zero, List.set_cons_succ])
  refine wpAnyH_take (i := 2) (oi := { dst := some 139, op := Op.move (Operand.tmp 19), type := 3, pos := "law.go:192", after := #[], guard := none }) (v := ?_) rfl (by kernel_rfl) (by kernel_rfl) (by kernel_rfl) (fun _ _ _ h => h) (Or.inl ⟨by rfl, ?_⟩) hHeld ?_
  rotate_left 1
  · intro u hSu
    obtain ⟨⟨d0, d1, d2⟩, -⟩ := row3i (kept_row HF2.out.hp hSu.out (by simp))
    have cs0 := hSu.out.cell HC2.out.1 (by simp)
    have cs1 := hSu.out.cell HC2.out.2 (by simp)
    go_simp
    first | done | with_reducible rfl
  (try simp only [Act.put, List.setIfInBounds_toArray, List.set_cons_zero, List.set_cons_succ])
  refine wpAnyH_take (i := 3) (oi := { dst := some 140, op := Op.indexAddr 43 (Operand.tmp 138) (Operand.tmp 139), type := 0, pos := "law.go:192", after := #[{ on := 1, ground := Ground.data }, { on := 2, ground := Ground.data }], guard := none }) (v := ?_) rfl (by kernel_rfl) (by kernel_rfl) (by kernel_rfl) (fun _ _ _ h => h) (Or.inl ⟨by rfl, ?_⟩) hHeld ?_
  rotate_left 1
  · intro u hSu
    obtain ⟨⟨d0, d1, d2⟩, -⟩ := row3i (kept_row HF2.out.hp hSu.out (by simp))
    have cs0 := hSu.out.cell HC2.out.1 (by simp)
    have cs1 := hSu.out.cell HC2.out.2 (by simp)
    go_simp
    first | done | with_reducible rfl
  (try simp only [Act.put, List.setIfInBounds_toArray, List.set_cons_zero, List.set_cons_succ])
  refine wpAnyH_take (i := 4) (oi := { dst := some 141, op := Op.load 25 (Operand.tmp 140), type := 25, pos := "law.go:192", after := #[{ on := 3, ground := Ground.data }], guard := none }) (v := ?_) rfl (by kernel_rfl) (by kernel_rfl) (by kernel_rfl) (fun _ _ _ h => h) (Or.inl ⟨by rfl, ?_⟩) hHeld ?_
  rotate_left 1
  · intro u hSu
    obtain ⟨⟨d0, d1, d2⟩, -⟩ := row3i (kept_row HF2.out.hp hSu.out (by simp))
    have cs0 := hSu.out.cell HC2.out.1 (by simp)
    have cs1 := hSu.out.cell HC2.out.2 (by simp)
    go_simp
    first | done | with_reducible rfl
  (try simp only [Act.put, List.setIfInBounds_toArray, List.set_cons_zero, List.set_cons_succ])
  refine wpAnyH_ready (rs := [5]) (by kernel_rfl) (by simp) ?_
  refine AllReadyH.cons (o := { dst := some 142, op := Op.call { callee := Callee.value (Operand.func 16), args := #[Operand.tmp 137, Operand.tmp 141], argTypes := #[30, 25] }, type := 48, pos := "law.go:192", after := #[{ on := 0, ground := Ground.data }, { on := 4, ground := Ground.data }], guard := none }) rfl (fun Kz hK => ?_) AllReadyH.nil
  go_simp
  go_at_call 16
  refine (irnames_any sub n E pE cE si bi hbi _ (HF2.out.rd.keep hHeld.out).old hEm).mono ?_
  rintro e w14 ⟨p2, c2, rfl, ho, hg⟩
  have Hn : Hid (w13.grownBy _ none) := Lib.hid (grown_trans hHeld.out hg)
  have hol := Lib.hid ((rd_of_own ho).mono (q' := fun _ => True) (fun _ _ => trivial))
  clear ho
  clear hg
  refine hK.out _ _ (Hn) (fun hH2 => ?_)
  clear hK Kz hHeld
  have hHeld := hH2
  clear hH2
  (try simp only [Act.put, List.setIfInBounds_toArray, List.set_cons_zero, List.set_cons_succ])
  refine wpAnyH_take (i := 6) (oi := { dst := some 136, op := Op.move (Operand.tmp 142), type := 48, pos := "law.go:192", after := #[{ on := 5, ground := Ground.data }], guard := none }) (v := ?_) rfl (by kernel_rfl) (by kernel_rfl) (by kernel_rfl) (fun _ _ _ h => h) (Or.inl ⟨by rfl, ?_⟩) hHeld ?_
  rotate_left 1
  · intro u hSu
    obtain ⟨⟨d0, d1, d2⟩, -⟩ := row3i (kept_row HF2.out.hp hSu.out (by simp))
    have cs0 := hSu.out.cell HC2.out.1 (by simp)
    have cs1 := hSu.out.cell HC2.out.2 (by simp)
    go_simp
    first | done | with_reducible rfl
  (try simp only [Act.put, List.setIfInBounds_toArray, List.set_cons_zero, List.set_cons_succ])
  refine wpAnyH_take (i := 7) (oi := { dst := some 143, op := Op.extract (Operand.tmp 136) 0, type := 22, pos := "law.go:192", after := #[{ on := 6, ground := Ground.data }], guard := none }) (v := ?_) rfl (by kernel_rfl) (by kernel_rfl) (by kernel_rfl) (fun _ _ _ h => h) (Or.inl ⟨by rfl, ?_⟩) hHeld ?_
  rotate_left 1
  · intro u hSu
    obtain ⟨⟨d0, d1, d2⟩, -⟩ := row3i (kept_row HF2.out.hp hSu.out (by simp))
    have cs0 := hSu.out.cell HC2.out.1 (by simp)
    have cs1 := hSu.out.cell HC2.out.2 (by simp)
    go_simp
    first | done | with_reducible rfl
  (try simp only [Act.put, List.setIfInBounds_toArray, List.set_cons_zero, List.set_cons_succ])
  refine wpAnyH_take (i := 8) (oi := { dst := some 144, op := Op.extract (Operand.tmp 136) 1, type := 44, pos := "law.go:192", after := #[{ on := 6, ground := Ground.data }, { on := 9, ground := Ground.gcOnly Departure.lateStores }], guard := none }) (v := ?_) rfl (by kernel_rfl) (by kernel_rfl) (by kernel_rfl) (fun _ _ _ h => h) (Or.inl ⟨by rfl, ?_⟩) hHeld ?_
  rotate_left 1
  · intro u hSu
    obtain ⟨⟨d0, d1, d2⟩, -⟩ := row3i (kept_row HF2.out.hp hSu.out (by simp))
    have cs0 := hSu.out.cell HC2.out.1 (by simp)
    have cs1 := hSu.out.cell HC2.out.2 (by simp)
    go_simp
    first | done | with_reducible rfl
  (try simp only [Act.put, List.setIfInBounds_toArray, List.set_cons_zero, List.set_cons_succ])
  refine wpAnyH_take (i := 9) (oi := { dst := some 22, op := Op.assign (Operand.tmp 143), type := 22, pos := "law.go:192", after := #[{ on := 7, ground := Ground.data }, { on := 5, ground := Ground.chain }, { on := 0, ground := Ground.phase }, { on := 1, ground := Ground.phase }, { on := 2, ground := Ground.phase }, { on := 3, ground := Ground.phase }, { on := 4, ground := Ground.phase }, { on := 5, ground := Ground.phase }, { on := 6, ground := Ground.phase }, { on := 7, ground := Ground.phase }, { on := 8, ground := Ground.textOnly Departure.lateStores }], guard := none }) (v := ?_) rfl (by kernel_rfl) (by kernel_rfl) (by kernel_rfl) (fun _ _ _ h => h) (Or.inl ⟨by rfl, ?_⟩) hHeld ?_
  rotate_left 1
  · intro u hSu
    obtain ⟨⟨d0, d1, d2⟩, -⟩ := row3i (kept_row HF2.out.hp hSu.out (by simp))
    have cs0 := hSu.out.cell HC2.out.1 (by simp)
    have cs1 := hSu.out.cell HC2.out.2 (by simp)
    go_simp
    first | done | with_reducible rfl
  (try simp only [Act.put, List.setIfInBounds_toArray, List.set_cons_zero, List.set_cons_succ])
  refine wpAnyH_take (i := 10) (oi := { dst := some 23, op := Op.assign (Operand.tmp 144), type := 44, pos := "law.go:192", after := #[{ on := 8, ground := Ground.data }, { on := 9, ground := Ground.chain }, { on := 0, ground := Ground.phase }, { on := 1, ground := Ground.phase }, { on := 2, ground := Ground.phase }, { on := 3, ground := Ground.phase }, { on := 4, ground := Ground.phase }, { on := 5, ground := Ground.phase }, { on := 6, ground := Ground.phase }, { on := 7, ground := Ground.phase }, { on := 8, ground := Ground.phase }, { on := 9, ground := Ground.phase }], guard := none }) (v := ?_) rfl (by kernel_rfl) (by kernel_rfl) (by kernel_rfl) (fun _ _ _ h => h) (Or.inl ⟨by rfl, ?_⟩) hHeld ?_
  rotate_left 1
  · intro u hSu
    obtain ⟨⟨d0, d1, d2⟩, -⟩ := row3i (kept_row HF2.out.hp hSu.out (by simp))
    have cs0 := hSu.out.cell HC2.out.1 (by simp)
    have cs1 := hSu.out.cell HC2.out.2 (by simp)
    go_simp
    first | done | with_reducible rfl
  (try simp only [Act.put, List.setIfInBounds_toArray, List.set_cons_zero, List.set_cons_succ])
  refine wpAnyH_done (by kernel_rfl) ?_ _
  have H14 := Lib.hid (And.intro hHeld.out (hol.out))
  clear hHeld GZ hol
  rw [HNO.out.1] at H14
  rw [HNO.out.1, HNO.out.2]
  have S14 := Lib.hid (And.intro (HF2.out.keep H14.out.1) (kept_row HD3.out H14.out.1 (by simp)))
  have HR := Lib.hid (And.intro (HR1.out.keep H14.out.1) H14.out.2)
  clear H14 HF2 HC2 HD3 HR1 HNO
  go_wp2_with fail
  refine (iints_any NO p1 p2 c1 c2 _ _ w14 HR.out.1 HR.out.2 (by have := HNL.out; omega)).mono ?_
  rintro e w15 ⟨rfl, hg⟩
  have S15 := Lib.hid (And.intro (S14.out.1.keep hg) (kept_row S14.out.2 hg (by simp)))
  clear hg S14 HR HNL
  go_wp2_with fail
  exact ⟨⟨i3 + 1, by omega, congrArg _ (by omega), S15⟩, by simp only [RowKit.intOf]; omega⟩
end Go.Proofs.YtlgmankojgjfjaaDoor

/- Parts of the proof, packed: MaCol, MaRRw, TaBld. -/
import Derived.Test.YtgofadmncgmhoaaDv12
import Derived.Test.YtgofadmncgmhoaaDv7
import Derived.Test.YtgofadmncgmhoaaDv1
import Derived.Test.YtgofadmncgmhoaaDv11
/- masks: valid, nextIn, collect. -/
namespace Go.Proofs.Ytgofadmncgmhoaa
open Go.RowKit Go.Maps Bs
/-- Are both the table and the plane valid? -/
def vaT (r s n : Int) (L : List Rw) (pl : Int) : Bool := decide ((0 ≤ pl ∧ pl < 8) ∧ ckT r s n L = 0)
set_option maxRecDepth 100000 in
theorem mvalid_any (r s n : Int) (p : Option Addr) (c : Nat) (L : List Rw) (pl : Int) (q : Nat → Prop) (w : World) (hR : RdW w q p c L) (hm : L.length ≤ 9223372036854775807) :
    Calls Try.prog 35 #[.agg #[.int .i64 r, .int .i64 s, .int .i64 n, .slice p L.length c], .int .i64 pl] w fun e w' => e = .returned (.bool (vaT r s n L pl)) ∧ w.grownBy w' none := by
  obtain ⟨k1, k2⟩ := tone_box w #[.int .i64 r, .int .i64 s, .int .i64 n, .slice p L.length c] 27
  have HB := Lib.hid (And.intro k1 (And.intro k2 (hR.keep k2)))
  clear k1 k2 hR
  go_enter Try.func35, Try.ntmps35
  go_upto_region 1 with fail
  generalize w.alloc _ = w1 at *
  obtain ⟨d0, d1, d2, d3⟩ := row4T HB.out.1
  by_cases h0 : 0 ≤ pl
  case neg =>
    have HO : Hid (vaT r s n L pl = false) := Lib.hid (decide_eq_false (fun h => h0 h.1.1))
    go_wp2_with fail
    go_ret
    rw [HO.out]
    exact ⟨rfl, HB.out.2.1⟩
  by_cases h8 : pl < 8
  case neg =>
    have HO : Hid (vaT r s n L pl = false) := Lib.hid (decide_eq_false (fun h => h8 h.1.2))
    go_wp2_with fail
    go_ret
    rw [HO.out]
    exact ⟨rfl, HB.out.2.1⟩
  have HO : Hid (vaT r s n L pl = (ckT r s n L == 0)) := Lib.hid (by
    unfold vaT
    by_cases hc : ckT r s n L = 0
    · rw [decide_eq_true ⟨⟨h0, h8⟩, hc⟩, hc]; rfl
    · rw [decide_eq_false (fun h => hc h.2)]
      exact (beq_eq_false_iff_ne.2 hc).symm)
  go_wp2_with fail
  refine (tcheckT_any r s n p c L q w1 HB.out.2.2 hm).mono ?_
  rintro e w2 ⟨rfl, hg⟩
  have G := Lib.hid (grown_trans HB.out.2.1 hg)
  clear hg
  go_wp2_with fail
  go_ret
  rw [HO.out]
  exact ⟨rfl, G.out⟩
set_option maxRecDepth 100000 in
set_option maxHeartbeats 1600000 in
theorem mnext_any (x : Rw) (k : Nat) (hk : k < 8) (q : Nat → Prop) (w : World) (hx : RwOk w q x) :
    Calls Try.prog 37 #[.agg #[.int .i64 x.id, .slice x.p x.nx.length x.c], .int .i64 (k : Int)] w fun e w' => e = .returned (.int .i64 (nxI x.nx k)) ∧ w.grownBy w' none := by
  obtain ⟨k1, k2⟩ := tone_box w #[.int .i64 x.id, .slice x.p x.nx.length x.c] 35
  have HB := Lib.hid (And.intro k1 (And.intro k2 (hx.keep k2)))
  clear k1 k2 hx
  go_enter Try.func37, Try.ntmps37
  go_upto_region 1 with fail
  generalize w.alloc _ = w1 at *
  have c1 : w1.cell? ⟨w.heap.size, 1, none⟩ = some (.slice x.p x.nx.length x.c) := cell_of_row _ _ _ _ _ _ HB.out.1
  by_cases h0 : x.nx.length = 0
  · have h0' : ((x.nx.length : Int) == 0) = true := beq_iff_eq.2 (by omega)
    have HO : Hid (nxI x.nx k = 0) := Lib.hid (by unfold nxI; rw [if_pos h0])
    clear h0
    go_wp2_with fail
    go_ret
    rw [HO.out]
    exact ⟨rfl, HB.out.2.1⟩
  · have h0' : ((x.nx.length : Int) == 0) = false := beq_eq_false_iff_ne.2 (by omega)
    have hm : x.nx.length ≤ 9223372036854775807 := Nat.le_trans HB.out.2.2.hc.1 HB.out.2.2.hc.2
    obtain ⟨xp, hxp⟩ : ∃ xp, x.p = xp := ⟨_, rfl⟩
    have hat := nxI_at (k := k) h0
    have hrd := HB.out.2.2.rd
    obtain ⟨-, b, off, hp, hq, hc⟩ := tvT_at hrd hat
    have a0 := hc _ _ hat
    obtain ⟨j, hj⟩ : ∃ j, k % x.nx.length = j := ⟨_, rfl⟩
    have hjl : j < x.nx.length := by rw [← hj]; exact Nat.mod_lt _ (by omega)
    rw [hj] at a0
    rw [hp] at c1
    obtain ⟨v, hv⟩ : ∃ v, nxI x.nx k = v := ⟨_, rfl⟩
    rw [hv] at a0
    have HV := Lib.hid hv
    have r1 : ((k : Int)).tmod (x.nx.length : Int) = (j : Int) := by rw [Int.tmod_eq_emod_of_nonneg (by omega), ← hj]; exact (Int.natCast_emod k x.nx.length).symm
    have r1b : ((k : Int)) % (x.nx.length : Int) = (j : Int) := by rw [← hj]; exact (Int.natCast_emod k x.nx.length).symm
    have r2 : IntKind.i64.wrap (j : Int) = (j : Int) := IntWalk.i64_in _ (by omega)
    have r0 : (x.nx.length : Int) ≠ 0 := by omega
    have j0 : (0 : Int) ≤ (j : Int) := by omega
    have j1 : (j : Int) < (x.nx.length : Int) := by omega
    clear h0 hat hrd hc hj hv hxp
    go_upto_region 3 with fail
    go_region
    have G := Lib.hid (grown_drew HB.out.2.1)
    clear a0 c1 r1 r1b r2 r0 j0 j1
    go_wp2_with fail
    go_ret
    rw [HV.out]
    exact ⟨rfl, G.out⟩
/-- While the masks are collected. -/
structure CO (W : World) (r s n : Int) (p : Option Addr) (c : Nat) (L : List Rw) (N : Nat) (f : Int → Option Nat) (w : World) : Prop where
  bx : w.heap[W.heap.size]? = some (.cells #[.int .i64 r, .int .i64 s, .int .i64 n, .slice p L.length c] 27 (0, 0))
  rd : RdW w (fun b => b < W.heap.size) p c L
  mp : OMu w (W.heap.size + 1) N f
  gr : W.grownBy w none
set_option maxRecDepth 100000 in
theorem CO.keep {W w w1 : World} {r s n : Int} {p : Option Addr} {c : Nat} {L : List Rw} {N : Nat} {f : Int → Option Nat} (h : CO W r s n p c L N f w) (g : w.grownBy w1 none) : CO W r s n p c L N f w1 :=
  ⟨kept_row h.bx g (by simp), h.rd.keep g, h.mp.kept g (by simp), grown_trans h.gr g⟩
set_option maxRecDepth 100000 in
theorem CO.put {W w w1 : World} {r s n : Int} {p : Option Addr} {c : Nat} {L : List Rw} {N M : Nat} {f f' : Int → Option Nat} (h : CO W r s n p c L N f w) (hm : OMu w1 (W.heap.size + 1) M f') (g : w.grownBy w1 (some (W.heap.size + 1))) : CO W r s n p c L M f' w1 := by
  have hn : ∀ b, b ≤ W.heap.size → some b ≠ some (W.heap.size + 1) := fun b hb e => by have := Option.some.inj e; omega
  exact ⟨kept_row h.bx g (hn _ (Nat.le_refl _)), h.rd.grown g (fun b hb => hn b (Nat.le_of_lt hb)), hm, grown_new h.gr g (by omega)⟩
/-- What collect returns. -/
def CoPost (r s n : Int) (L : List Rw) (pl set : Int) (w : World) (e : Ending) (w' : World) : Prop :=
  e = .returned (.map (some (w.heap.size + 1))) ∧ (∃ N, N ≤ 256 ∧ OMu w' (w.heap.size + 1) N (coF r s n L pl set)) ∧ w.grownBy w' none
set_option maxRecDepth 100000 in
set_option maxHeartbeats 3200000 in
theorem mcollect_any (r s n : Int) (p : Option Addr) (c : Nat) (L : List Rw) (pl set : Int) (w : World) (hR : RdW w (· < w.heap.size) p c L) (hm : L.length ≤ 9223372036854775807) :
    Calls Try.prog 30 #[.agg #[.int .i64 r, .int .i64 s, .int .i64 n, .slice p L.length c], .int .i64 pl, .int .i64 set] w fun e w' => CoPost r s n L pl set w e w' := by
  obtain ⟨k1, k2⟩ := tone_box w #[.int .i64 r, .int .i64 s, .int .i64 n, .slice p L.length c] 27
  have hsz : (w.alloc (.cells #[.int .i64 r, .int .i64 s, .int .i64 n, .slice p L.length c] 27)).heap.size = w.heap.size + 1 := by simp
  have gm := World.grownBy_alloc (w.alloc (.cells #[.int .i64 r, .int .i64 s, .int .i64 n, .slice p L.length c] 27)) (.map #[] 0) none
  have hmade := OMu.made (w.alloc (.cells #[.int .i64 r, .int .i64 s, .int .i64 n, .slice p L.length c] 27))
  rw [hsz] at hmade
  have H0 : Hid (CO w r s n p c L 0 (fun _ => none) _) := Lib.hid ⟨kept_row k1 gm (by simp), (hR.keep k2).keep gm, hmade, grown_trans k2 gm⟩
  have HSZ := Lib.hid hsz
  have hmm := fun t w => run_makeMap (P := Try.prog) t w
  clear k1 k2 hR gm hmade hsz
  go_enter Try.func30, Try.ntmps30
  go_upto_region 2 with fail
  rw [HSZ.out] at *
  clear hmm HSZ
  generalize ((w.alloc _).alloc _) = w1 at *
  obtain ⟨d0, d1, d2, d3⟩ := row4T H0.out.bx
  go_wp2_with fail
  refine (mvalid_any r s n p c L pl _ w1 H0.out.rd hm).mono ?_
  rintro e w2 ⟨rfl, hg⟩
  have H1 := Lib.hid (H0.out.keep hg)
  clear hg H0 d0 d1 d2 d3
  cases hv : vaT r s n L pl
  case false =>
    have HF : Hid (coF r s n L pl set = fun _ => none) := Lib.hid (by
      unfold coF
      unfold vaT at hv
      rw [if_neg (of_decide_eq_false hv)])
    clear hv
    go_wp2_with fail
    go_ret
    exact ⟨rfl, ⟨0, by omega, by rw [HF.out]; exact H1.out.mp⟩, H1.out.gr⟩
  have hvp : (0 ≤ pl ∧ pl < 8) ∧ ckT r s n L = 0 := by unfold vaT at hv; exact of_decide_eq_true hv
  obtain ⟨k, rfl⟩ := Int.eq_ofNat_of_zero_le hvp.1.1
  have hk8 : k < 8 := by have := hvp.1.2; omega
  have HF : Hid (coF r s n L (k : Int) set = colL n set k L) := Lib.hid (by
    unfold coF
    rw [if_pos hvp]; rfl)
  have HOK := Lib.hid (ck_ok hvp.2)
  have hL256 : L.length ≤ 256 := HOK.out.2.2.1
  clear hv hvp
  obtain ⟨d0, d1, d2, d3⟩ := row4T H1.out.bx
  have H2 : Hid (CO w r s n p c L 0 (colL n set k (L.take 0)) w2) := Lib.hid (by rw [List.take_zero]; exact H1.out)
  clear H1
  go_wp2_with fail
  clear d0 d1 d2 d3
  go_loopw [23] (fun a wr => ∃ (i N : Nat), i ≤ L.length ∧ a = .int .i64 (i : Int) ∧ N ≤ i ∧ Hid (CO w r s n p c L N (colL n set k (L.take i)) wr)) (fun a _ => L.length - (RowKit.intOf a).toNat)
  case atStart => exact ⟨0, 0, Nat.zero_le _, rfl, Nat.le_refl _, H2⟩
  case round =>
  clear H2
  obtain ⟨i, N, hi, rfl, hN, S0⟩ := hrel
  obtain ⟨w3, hw3⟩ : ∃ w3, w3 = wr := ⟨_, rfl⟩
  rw [← hw3] at S0 ⊢
  clear hw3
  by_cases hlt : i < L.length
  case neg =>
    obtain rfl : i = L.length := by omega
    have hnl : ¬ (L.length : Int) < (L.length : Int) := by omega
    rw [List.take_length] at S0
    go_wp2_with fail
    go_ret
    exact ⟨rfl, ⟨N, by omega, by rw [HF.out]; exact S0.out.mp⟩, S0.out.gr⟩
  case pos =>
  have hlt' : (i : Int) < (L.length : Int) := by omega
  obtain ⟨x, hx⟩ : ∃ x, L[i]? = some x := ⟨_, List.getElem?_eq_getElem hlt⟩
  have hxm := List.mem_of_getElem? hx
  obtain ⟨-, b, off, rfl, hq, hc⟩ := rw_cells S0.out.rd.rd (by omega)
  obtain ⟨a0, a1⟩ := hc i x hx
  have HX := Lib.hid hx
  have HW := Lib.hid (any_memT HOK.out.2.1 hxm)
  have HXM := Lib.hid hxm
  clear hc hx hxm
  obtain ⟨k1, k2⟩ := tone_box w3 #[.int .i64 x.id, .slice x.p x.nx.length x.c] 35
  have S1 := Lib.hid (And.intro (S0.out.keep k2) k1)
  clear k1 k2 S0
  go_upto_region 7 with fail
  generalize w3.alloc _ = w4 at *
  generalize w3.heap.size = Bx at *
  clear a0 a1
  have e0 : w4.cell? ⟨Bx, 0, none⟩ = some (.int .i64 x.id) := cell_of_row _ _ _ _ _ _ S1.out.2
  have e1 : w4.cell? ⟨Bx, 1, none⟩ = some (.slice x.p x.nx.length x.c) := cell_of_row _ _ _ _ _ _ S1.out.2
  go_wp2_with fail
  refine (mnext_any x k hk8 _ w4 (S1.out.1.rd.ok x HXM.out)).mono ?_
  rintro e w5 ⟨rfl, hg⟩
  have S2 := Lib.hid (And.intro (S1.out.1.keep hg) (kept_row S1.out.2 hg (by simp)))
  clear hg S1 e0 e1
  have e0 : w5.cell? ⟨Bx, 0, none⟩ = some (.int .i64 x.id) := cell_of_row _ _ _ _ _ _ S2.out.2
  obtain ⟨d0, d1, d2, d3⟩ := row4T S2.out.1.bx
  go_wp2_with fail
  refine (iplc_any x.id n w5).mono ?_
  rintro e w6 ⟨rfl, hg⟩
  have S3 := Lib.hid (S2.out.1.keep hg)
  clear hg S2 e0 d0 d1 d2 d3
  obtain ⟨m, hm1⟩ : ∃ m : Nat, plB x.id n = (m : Int) := by
    have : 0 ≤ plB x.id n := by
      unfold plB
      split
      · rename_i h
        obtain ⟨hl, h1, h2⟩ := pl_fields h
        rcases hl with rfl | rfl | rfl | rfl <;> omega
      · omega
    exact Int.eq_ofNat_of_zero_le this
  have hm64 : m < 64 := by have := plB_lt64 x.id n; omega
  obtain ⟨st, hst⟩ : ∃ st, plS x.id n = st := ⟨_, rfl⟩
  obtain ⟨h, hh⟩ : ∃ h, nxI x.nx k = h := ⟨_, rfl⟩
  have HST : Hid (colL n set k (L.take (i + 1)) = if st = set ∧ h ≠ 0 then putU (colL n set k (L.take i)) h ((colL n set k (L.take i) h).getD 0 ||| b2 m) else colL n set k (L.take i)) := Lib.hid (by
    rw [colL_take HX.out]
    unfold colS
    rw [hst, hh, hm1]; rfl)
  have HNX : Hid (h ≠ 0 → 1 ≤ h ∧ h ≤ 99) := Lib.hid (by rw [← hh]; exact fun h0 => nx_in HW.out h0)
  have HCO : Hid (ColOk (colL n set k (L.take i))) := Lib.hid (colL_ok HOK.out.2.1 i)
  rw [hst, hh, hm1]
  clear hst hh hm1
  by_cases h1 : st = set
  case neg =>
    have h1' : (st == set) = false := by simpa using h1
    have HS2 : Hid (CO w r s n (some ⟨b, off, none⟩) c L N (colL n set k (L.take (i + 1))) w6) := Lib.hid (by rw [HST.out, if_neg (fun h => h1 h.1)]; exact S3.out)
    clear h1
    go_wp2_with fail
    exact ⟨⟨i + 1, N, by omega, congrArg _ (by omega), by omega, HS2⟩, by simp only [RowKit.intOf]; omega⟩
  have h1' : (st == set) = true := by simpa using h1
  by_cases h2 : h = 0
  case pos =>
    have h2' : (h != 0) = false := by simpa using h2
    have HS2 : Hid (CO w r s n (some ⟨b, off, none⟩) c L N (colL n set k (L.take (i + 1))) w6) := Lib.hid (by rw [HST.out, if_neg (fun h3 => h3.2 h2)]; exact S3.out)
    clear h1 h2
    go_wp2_with fail
    exact ⟨⟨i + 1, N, by omega, congrArg _ (by omega), by omega, HS2⟩, by simp only [RowKit.intOf]; omega⟩
  have h2' : (h != 0) = true := by simpa using h2
  have hh1 := HNX.out h2
  obtain ⟨f, hf⟩ : ∃ f, colL n set k (L.take i) = f := ⟨_, rfl⟩
  rw [hf] at HST HCO S3
  have hU := HCO.out.getD h
  obtain ⟨y, hy⟩ : ∃ y, (f h).getD 0 = y := ⟨_, rfl⟩
  rw [hy] at hU
  have hor : U64 (y ||| b2 m) := Nat.or_lt_two_pow (n := 64) hU (b2_u64 hm64)
  have S4 := Lib.hid (S3.out.keep (grown_drew (grown_refl _ none)))
  have hlook := (S4.out.mp.look (x := h) (by unfold I64; omega)).1
  rw [hy] at hlook
  obtain ⟨w7, hput, hmp, hgr⟩ := S4.out.mp.put (x := h) (d := y ||| b2 m) (by omega) (by unfold I64; omega) hor
  have hor2 : bits .or .u64 (y : Int) (IntKind.u64.wrap (2 ^ m)) = ((y ||| b2 m : Nat) : Int) := by rw [pow_word m hm64, orU _ _ hU (b2_u64 hm64)]
  rw [← hor2] at hput
  have HS2 : Hid (CO w r s n (some ⟨b, off, none⟩) c L (N + 1) (colL n set k (L.take (i + 1))) w7) := Lib.hid (by
    rw [HST.out, if_pos ⟨h1, h2⟩, hy]
    exact S4.out.put hmp hgr)
  have m1 : (m : Int) < 64 := by omega
  have m0 : ¬ (m : Int) < 0 := by omega
  clear h1 h2 hh1 hf hy hmp hgr HST HCO hor hor2 S3 S4
  go_upto_region 10 with fail
  go_region
  clear hlook hput m1 m0
  go_wp2_with fail
  exact ⟨⟨i + 1, N + 1, by omega, congrArg _ (by omega), by omega, HS2⟩, by simp only [RowKit.intOf]; omega⟩
end Go.Proofs.Ytgofadmncgmhoaa

/- tables, the reference's functions: inside, plane, Row, Hop. -/
namespace Go.Proofs.Ytgofadmncgmhoaa
open Go.RowKit Go.Maps Bs
set_option maxRecDepth 100000 in
theorem rin11_any (n lo hi : Int) (w : World) :
    Calls Try.prog 27 #[.int .i64 n, .int .i64 lo, .int .i64 hi] w fun e w' => e = .returned (.bool (inV n lo hi)) ∧ w = w' := by
  have HV : Hid (inV n lo hi = (decide (lo ≤ n) && decide (n ≤ hi))) := Lib.hid (by unfold inV; rw [Bool.decide_and])
  go_enter Try.func27, Try.ntmps27
  by_cases h1 : lo ≤ n
  · go_wp2_with fail
    go_ret
    exact ⟨by rw [HV.out]; simp [h1], rfl⟩
  · go_wp2_with fail
    go_ret
    exact ⟨by rw [HV.out]; simp; omega, rfl⟩
def isW (id : Int) (x : Rw) : Bool := decide (x.id = id)
def fdW (L : List Rw) (id : Int) : Option Rw := L.find? (isW id)
set_option maxRecDepth 100000 in
theorem rowR2 {w : World} {b : Nat} {x y : Value} {t : TypeId} (h : w.heap[b]? = some (.cells #[x, y] t (0, 0))) : w.cell? ⟨b, 0, none⟩ = some x ∧ w.cell? ⟨b, 1, none⟩ = some y :=
  ⟨cell_of_row _ _ _ _ _ _ h, cell_of_row _ _ _ _ _ _ h⟩
end Go.Proofs.Ytgofadmncgmhoaa

/- tables, the reference's functions: build. -/
namespace Go.Proofs.Ytgofadmncgmhoaa
open Go.RowKit Bs
set_option maxRecDepth 100000 in
theorem row3B {w : World} {b : Nat} {x y z : Value} {t : TypeId} (h : w.heap[b]? = some (.cells #[x, y, z] t (0, 0))) : w.cell? ⟨b, 0, none⟩ = some x ∧ w.cell? ⟨b, 1, none⟩ = some y ∧ w.cell? ⟨b, 2, none⟩ = some z :=
  ⟨cell_of_row _ _ _ _ _ _ h, cell_of_row _ _ _ _ _ _ h, cell_of_row _ _ _ _ _ _ h⟩
set_option maxRecDepth 100000 in
theorem RdX.over {lo : Nat} {w w1 : World} {v : Value} {p : Option Addr} {c : Nat} {X : List Int} {r : Nat} (h : RdX lo w v p c X) (g : w.grownBy w1 (some r)) (hr : ∀ b, lo ≤ b → b ≠ r) : RdX lo w1 v p c X :=
  ⟨(h.1.grown g (fun b hb e => hr b hb.1 (Option.some.inj e))).mono (fun b hb => ⟨hb.1, Nat.lt_of_lt_of_le hb.2.1 g.size, hb.2.2⟩), h.2⟩
/-- What build keeps in memory. -/
structure BD (W : World) (T : Tg) (s n ro : Int) (E : List Ed) (pE : Option Addr) (cE : Nat) (v : Value) (L : List Rw) (w : World) : Prop where
  bT : w.heap[W.heap.size]? = some (.cells #[.slice T.pR T.R.length T.cR, .slice T.pL T.L.length T.cL] 55 (0, 0))
  bP : w.heap[W.heap.size + 1]? = some (.cells #[.int .i64 s, .int .i64 n, .slice pE E.length cE] 59 (0, 0))
  bR : w.heap[W.heap.size + 1 + 1]? = some (.cells #[.int .i64 0, .int .i64 0, .int .i64 0, .slice none 0 0] 27 (0, 0))
  bB : w.heap[W.heap.size + 1 + 1 + 1]? = some (.cells #[.int .i64 ro, .int .i64 s, .int .i64 n, v] 27 (0, 0))
  t : TgOk w (· < W.heap.size) T
  e : RdF w (· < W.heap.size) (.slice pE E.length cE) E.length (E.flatMap edC)
  own : w.ownsRow (W.heap.size + 4) 35 2 v L.length (L.flatMap rwC)
  rows : ∀ x ∈ L, RdX (W.heap.size + 4) w v x.p x.c x.nx
  gr : W.grownBy w none
  lo : W.heap.size + 4 ≤ w.heap.size
set_option maxRecDepth 100000 in
theorem BD.keep {W : World} {T : Tg} {s n ro : Int} {E : List Ed} {pE : Option Addr} {cE : Nat} {v : Value} {L : List Rw} {w w1 : World} (h : BD W T s n ro E pE cE v L w) (g : w.grownBy w1 none) : BD W T s n ro E pE cE v L w1 :=
  ⟨kept_row h.bT g (by simp), kept_row h.bP g (by simp), kept_row h.bR g (by simp), kept_row h.bB g (by simp), h.t.keep g, h.e.keep g, h.own.kept g (by cases v.ownBlock <;> simp), fun x hx => (h.rows x hx).keep g, grown_trans h.gr g, Nat.le_trans h.lo g.size⟩
set_option maxRecDepth 100000 in
theorem edT_cells {w : World} {q : Nat → Prop} {p : Option Addr} {n c : Nat} {E : List Ed} (h : RdF w q (.slice p n c) E.length (E.flatMap edC)) (hn : 0 < E.length) :
    ∃ b off, p = some ⟨b, off, none⟩ ∧ ∀ i x, E[i]? = some x → w.cell? ⟨b, off + i * 2, none⟩ = some (.int .i64 x.r) ∧ w.cell? ⟨b, off + i * 2 + 1, none⟩ = some (.int .i64 x.i) := by
  obtain ⟨-, b, off, hp, -, hc⟩ := RdF.cells (f := edC) (k := 2) (fun _ => rfl) (by decide) h hn
  exact ⟨b, off, hp, fun i x hi => ⟨hc i x hi 0 _ rfl, hc i x hi 1 _ rfl⟩⟩
set_option maxRecDepth 100000 in
theorem alloc_row {w : World} (A : Array Value) (t : TypeId) {n : Nat} (hn : w.heap.size = n) : (w.alloc (.cells A t)).heap[n]? = some (.cells A t (0, 0)) ∧ w.grownBy (w.alloc (.cells A t)) none ∧ (w.alloc (.cells A t)).heap.size = n + 1 := by
  subst hn
  exact ⟨heap_alloc_new w _, World.grownBy_alloc w _ _, by simp⟩
set_option maxRecDepth 100000 in
theorem bd_start {w : World} {T : Tg} {q q2 : Nat → Prop} (s n ro : Int) {E : List Ed} {pE : Option Addr} {cE : Nat} (hT : TgOk w q T) (hE : RdF w q2 (.slice pE E.length cE) E.length (E.flatMap edC)) :
    BD w T s n ro E pE cE (.slice none 0 0) [] ((((w.alloc (.cells #[.slice T.pR T.R.length T.cR, .slice T.pL T.L.length T.cL] 55)).alloc (.cells #[.int .i64 s, .int .i64 n, .slice pE E.length cE] 59)).alloc (.cells #[.int .i64 0, .int .i64 0, .int .i64 0, .slice none 0 0] 27)).alloc (.cells #[.int .i64 ro, .int .i64 s, .int .i64 n, .slice none 0 0] 27)) := by
  obtain ⟨a1, g1, z1⟩ := alloc_row (w := w) #[.slice T.pR T.R.length T.cR, .slice T.pL T.L.length T.cL] 55 rfl
  generalize w.alloc _ = w1 at *
  obtain ⟨a2, g2, z2⟩ := alloc_row (w := w1) #[.int .i64 s, .int .i64 n, .slice pE E.length cE] 59 z1
  generalize w1.alloc _ = w2 at *
  obtain ⟨a3, g3, z3⟩ := alloc_row (w := w2) #[.int .i64 0, .int .i64 0, .int .i64 0, .slice none 0 0] 27 z2
  generalize w2.alloc _ = w3 at *
  obtain ⟨a4, g4, z4⟩ := alloc_row (w := w3) #[.int .i64 ro, .int .i64 s, .int .i64 n, .slice none 0 0] 27 z3
  generalize w3.alloc _ = w4 at *
  have gg := grown_trans (grown_trans (grown_trans g1 g2) g3) g4
  exact ⟨kept_row (kept_row (kept_row a1 g2 (by simp)) g3 (by simp)) g4 (by simp), kept_row (kept_row a2 g3 (by simp)) g4 (by simp), kept_row a3 g4 (by simp), a4, hT.old.keep gg, hE.old.keep gg, World.ownsRow_nil _ _ _ _, fun x hx => (by cases hx), gg, by omega⟩
set_option maxRecDepth 100000 in
theorem store4B {w : World} {b : Nat} {t : TypeId} {z0 z1 z2 z3 : Value} (u0 u1 u2 u3 : Value) (h : w.heap[b]? = some (.cells #[z0, z1, z2, z3] t (0, 0))) :
    ((((w.setCell ⟨b, 0, none⟩ u0).setCell ⟨b, 1, none⟩ u1).setCell ⟨b, 2, none⟩ u2).setCell ⟨b, 3, none⟩ u3).heap[b]? = some (.cells #[u0, u1, u2, u3] t (0, 0)) ∧ w.grownBy ((((w.setCell ⟨b, 0, none⟩ u0).setCell ⟨b, 1, none⟩ u1).setCell ⟨b, 2, none⟩ u2).setCell ⟨b, 3, none⟩ u3) (some b) := by
  have h1 := heap_setCell_same w b 0 _ _ u0 h
  have h2 := heap_setCell_same _ b 1 _ _ u1 h1
  have h3 := heap_setCell_same _ b 2 _ _ u2 h2
  have h4 := heap_setCell_same _ b 3 _ _ u3 h3
  exact ⟨h4, grown_trans (grown_trans (grown_trans (grown_setCell w ⟨b, 0, none⟩ u0) (grown_setCell _ ⟨b, 1, none⟩ u1)) (grown_setCell _ ⟨b, 2, none⟩ u2)) (grown_setCell _ ⟨b, 3, none⟩ u3)⟩
set_option maxRecDepth 100000 in
theorem tab_sizeB : (Try.prog.info? 27).map (·.size) = some 4 := by kernel_rfl
set_option maxRecDepth 100000 in
theorem res_tabB {fn : Func} {p : Tmp} (h : fn.results = #[.cell p 27]) (tmps : Array Value) (w : World) (g : Nat) (x y z u : Value) (hp : tmps.getD p undef = .pointer (some ⟨g, 0, none⟩)) (hg : w.heap[g]? = some (.cells #[x, y, z, u] 27 (0, 0))) :
    (results fn tmps).run Try.prog w = .ok (.agg #[x, y, z, u]) w :=
  results_cell_row h tmps w g _ _ _ _ hp hg Try.underlying27 rfl tab_sizeB
set_option maxRecDepth 100000 in
theorem BD.push {W : World} {T : Tg} {s n ro : Int} {E : List Ed} {pE : Option Addr} {cE : Nat} {v v' : Value} {L : List Rw} {w w1 : World} {x : Rw} (h : BD W T s n ro E pE cE v L w) (hx : RdX (W.heap.size + 4) w v x.p x.c x.nx) (hown : w1.ownsRow (W.heap.size + 4) 35 2 v' (L ++ [x]).length ((L ++ [x]).flatMap rwC)) (g : w.grownBy w1 v.ownBlock) (hv : v'.ownBlock = v.ownBlock ∨ ∀ b, some b = v'.ownBlock → w.heap.size ≤ b) :
    w1.heap[W.heap.size + 1 + 1 + 1]? = some (.cells #[.int .i64 ro, .int .i64 s, .int .i64 n, v] 27 (0, 0)) ∧ BD W T s n ro E pE cE v' (L ++ [x]) (w1.setCell ⟨W.heap.size + 1 + 1 + 1, 3, none⟩ v') := by
  have hne : ∀ b, b < W.heap.size + 4 → some b ≠ v.ownBlock := fun b hb e => by have := (h.own.lt b e.symm).1; omega
  have hB := kept_row h.bB g (hne _ (by omega))
  have g2 : w1.grownBy (w1.setCell ⟨W.heap.size + 1 + 1 + 1, 3, none⟩ v') (some (W.heap.size + 1 + 1 + 1)) := grown_setCell w1 ⟨W.heap.size + 1 + 1 + 1, 3, none⟩ v'
  have hn2 : ∀ b, b ≠ W.heap.size + 1 + 1 + 1 → some b ≠ some (W.heap.size + 1 + 1 + 1) := fun b hb e => hb (Option.some.inj e)
  refine ⟨hB, kept_row (kept_row h.bT g (hne _ (by omega))) g2 (hn2 _ (by omega)), kept_row (kept_row h.bP g (hne _ (by omega))) g2 (hn2 _ (by omega)), kept_row (kept_row h.bR g (hne _ (by omega))) g2 (hn2 _ (by omega)), heap_setCell_same w1 _ 3 _ _ v' hB, (h.t.grown g (fun b hb => hne b (by omega))).grown g2 (fun b hb => hn2 b (by omega)), (h.e.grown g (fun b hb => hne b (by omega))).grown g2 (fun b hb => hn2 b (by omega)), hown.kept g2 ?_, fun y hy => ?_, grown_any (grown_any h.gr g (fun b hb => hne b (by omega))) g2 (fun b hb => hn2 b (by omega)), Nat.le_trans (Nat.le_trans h.lo g.size) g2.size⟩
  · cases hvo : v'.ownBlock with
    | none => exact Or.inl rfl
    | some b => exact Or.inr (fun e => by have := (hown.lt b hvo).1; have := Option.some.inj e; omega)
  · have hy1 : RdX (W.heap.size + 4) w v y.p y.c y.nx := by
      rcases List.mem_append.1 hy with hm | hm
      · exact h.rows y hm
      · rw [List.mem_singleton.1 hm]; exact hx
    exact (hy1.put g hv).over g2 (fun b hb => by omega)
set_option maxRecDepth 100000 in
theorem rwB_row (w : World) (x : Rw) (t : TypeId) : ∀ j u, (rwC x)[j]? = some u → (w.alloc (.cells #[.int .i64 x.id, .slice x.p x.nx.length x.c] t)).cell? ((⟨w.heap.size, 0, none⟩ : Addr).add j) = some u := by
  intro j u hu
  rw [add_plain]
  have hb := heap_alloc_new w (.cells #[.int .i64 x.id, .slice x.p x.nx.length x.c] t)
  rcases j with _ | _ | j
  · cases hu; exact cell_of_row _ _ _ _ _ _ hb
  · cases hu; exact cell_of_row _ _ _ _ _ _ hb
  · simp [rwC] at hu
set_option maxRecDepth 100000 in
theorem lt_rowB {w : World} {b : Nat} {o : Obj} (h : w.heap[b]? = some o) : b < w.heap.size := by
  rcases Nat.lt_or_ge b w.heap.size with hz | hz
  · exact hz
  · rw [Array.getElem?_eq_none hz] at h; cases h
/-- What is known of the rows that build makes. -/
def NxB (R : List Rt) (L0 : List Lk) (ro r : Int) (X : List Int) : Prop := if r = ro then X = [ro] else if capV R L0 r = true then (X.Pairwise (· < ·) ∧ (∀ y ∈ X, y ∈ ids R) ∧ HopsIs R L0 ro r X) else X = []
def BldM (R : List Rt) (L0 : List Lk) (ro : Int) (E : List Ed) (L : List Rw) : Prop := L.length = E.length ∧ ∀ (i : Nat) (e : Ed) (x : Rw), E[i]? = some e → L[i]? = some x → x.id = e.i ∧ NxB R L0 ro e.r x.nx
set_option maxRecDepth 100000 in
theorem BldM.push {R : List Rt} {L0 : List Lk} {ro : Int} {E : List Ed} {L : List Rw} {k : Nat} {e : Ed} (h : BldM R L0 ro (E.take k) L) (he : E[k]? = some e) {X : List Int} (hx : NxB R L0 ro e.r X) (p : Option Addr) (c : Nat) : BldM R L0 ro (E.take (k + 1)) (L ++ [⟨e.i, X, p, c⟩]) := by
  have hk : k < E.length := (List.getElem?_eq_some_iff.1 he).1
  have hl : L.length = k := by rw [h.1, List.length_take]; omega
  refine ⟨by rw [List.length_append, List.length_take, hl]; show k + 1 = _; omega, fun i f x hi hx2 => ?_⟩
  rcases Nat.lt_or_ge i k with hlt | hge
  · rw [List.getElem?_append_left (by omega)] at hx2
    rw [List.getElem?_take_of_lt (by omega)] at hi
    exact h.2 i f x (by rw [List.getElem?_take_of_lt hlt]; exact hi) hx2
  · have hik : i = k := by
      have := (List.getElem?_eq_some_iff.1 hx2).1
      rw [List.length_append, hl] at this
      have h1 : ([⟨e.i, X, p, c⟩] : List Rw).length = 1 := rfl
      omega
    subst hik
    rw [List.getElem?_take_of_lt (by omega), he] at hi
    obtain rfl := Option.some.inj hi
    rw [List.getElem?_append_right (by omega), hl, Nat.sub_self] at hx2
    obtain rfl := Option.some.inj hx2
    exact ⟨rfl, hx⟩
/-- What build returns. -/
def BldPost (R : List Rt) (L0 : List Lk) (ro s n : Int) (E : List Ed) (w : World) (e : Ending) (w' : World) : Prop :=
  ∃ (L : List Rw) (p : Option Addr) (c : Nat), e = .returned (.agg #[.int .i64 ro, .int .i64 s, .int .i64 n, .slice p L.length c]) ∧ w'.ownsRow w.heap.size 35 2 (.slice p L.length c) L.length (L.flatMap rwC) ∧ (∀ x ∈ L, RdX w.heap.size w' (.slice p L.length c) x.p x.c x.nx) ∧ BldM R L0 ro E L ∧ w.grownBy w' none
set_option maxRecDepth 100000 in
theorem info_rowT : (Try.prog.info? 35).map (fun i => (i.zero, i.size, i.bytes)) = some (some (.agg #[.int .i64 0, .slice none 0 0]), 2, 32) := by kernel_rfl
set_option maxRecDepth 100000 in
set_option maxHeartbeats 12800000 in
theorem rbuild_any (T : Tg) (s n ro : Int) (E : List Ed) (pE : Option Addr) (cE : Nat) (q q2 : Nat → Prop) (w : World) (hT : TgOk w q T) (hE : RdF w q2 (.slice pE E.length cE) E.length (E.flatMap edC)) (hm : E.length ≤ 1000) :
    Calls Try.prog 45 #[.agg #[.slice T.pR T.R.length T.cR, .slice T.pL T.L.length T.cL], .agg #[.int .i64 s, .int .i64 n, .slice pE E.length cE], .int .i64 ro] w fun e w' => BldPost T.R T.L ro s n E w e w' := by
  obtain ⟨R, L0, pR, cR, pL, cL⟩ := T
  simp only
  obtain ⟨ii, hii, hi0, hi1, hi2⟩ := info_parts info_rowT
  have H0 := Lib.hid (bd_start s n ro hT hE)
  clear hT hE
  go_enter Try.func45, Try.ntmps45
  go_upto_region 2 with fail
  generalize (((w.alloc _).alloc _).alloc _).alloc _ = wa at *
  go_wp2_with fail
  go_loopw [8] (fun a wr => ∃ (k : Nat) (L : List Rw) (p : Option Addr) (c : Nat), k ≤ E.length ∧ a = .int .i64 (k : Int) ∧ Hid (BldM R L0 ro (E.take k) L) ∧ Hid (BD w ⟨R, L0, pR, cR, pL, cL⟩ s n ro E pE cE (.slice p L.length c) L wr)) (fun a _ => E.length - (RowKit.intOf a).toNat)
  case atStart => exact ⟨0, [], none, 0, Nat.zero_le _, rfl, Lib.hid ⟨by rw [List.take_zero]; rfl, fun i e x hi => by rw [List.take_zero] at hi; simp at hi⟩, H0⟩
  case round =>
  clear H0
  obtain ⟨k, L, p, c, hk, rfl, HB, K⟩ := hrel
  obtain ⟨w5, hw5⟩ : ∃ w5, w5 = wr := ⟨_, rfl⟩
  rw [← hw5] at K ⊢
  clear hw5
  obtain ⟨q0, q1, q2⟩ := row3B K.out.bP
  by_cases hlt : k < E.length
  case neg =>
    obtain rfl : k = E.length := by omega
    have hnl : ¬ (E.length : Int) < (E.length : Int) := by omega
    rw [List.take_length] at HB
    obtain ⟨d0, d1, d2, d3⟩ := row4T K.out.bB
    obtain ⟨z0, z1, z2, z3⟩ := row4T K.out.bR
    have f0 := frozen_of_row _ _ 0 _ _ K.out.bR
    have f1 := frozen_of_row _ _ 1 _ _ K.out.bR
    have f2 := frozen_of_row _ _ 2 _ _ K.out.bR
    have f3 := frozen_of_row _ _ 3 _ _ K.out.bR
    have HT := Lib.hid (store4B (.int .i64 ro) (.int .i64 s) (.int .i64 n) (.slice p L.length c) K.out.bR)
    have HK := Lib.hid K.out
    clear K
    go_wp2_with fail
    refine bodyPost_ret (res_tabB rfl _ _ (w.heap.size + 1 + 1) _ _ _ _ rfl HT.out.1) rfl ?_
    have hne : ∀ b, w.heap.size + 4 ≤ b → b ≠ w.heap.size + 1 + 1 := fun b hb => by omega
    exact ⟨L, p, c, rfl, (HK.out.own.kept HT.out.2 (by
      cases hvo : (Value.slice p L.length c).ownBlock with
      | none => exact Or.inl rfl
      | some b => exact Or.inr (fun e => by have := (HK.out.own.lt b hvo).1; have := Option.some.inj e; omega))).mono (by omega), fun x hx => by
        have h := (HK.out.rows x hx).over HT.out.2 hne
        exact ⟨h.1.mono (fun b hb => ⟨by have := hb.1; omega, hb.2⟩), h.2⟩, HB.out, grown_new HK.out.gr HT.out.2 (by omega)⟩
  have hlt' : (k : Int) < (E.length : Int) := by omega
  obtain ⟨e, he⟩ : ∃ e, E[k]? = some e := ⟨_, List.getElem?_eq_getElem hlt⟩
  obtain ⟨b, off, rfl, hc⟩ := edT_cells K.out.e (by omega)
  obtain ⟨a0, a1⟩ := hc k e he
  have HE := Lib.hid he
  have hB5 := alloc_row (w := w5) #[.int .i64 e.i, .slice none 0 0] 35 rfl
  have H5 := Lib.hid (And.intro hB5.1 hB5.2.1)
  clear hc he hB5
  go_upto_region 6 with fail
  clear a0 a1
  have KG := Lib.hid K.out.own
  have hLE : Hid (L.length ≤ 1000) := Lib.hid (by have := HB.out.1; rw [List.length_take] at this; omega)
  generalize w5.alloc _ = w6 at *
  obtain ⟨g, hg⟩ : ∃ g, w5.heap.size = g := ⟨_, rfl⟩
  have HGE := Lib.hid hg
  rw [hg] at H5 ⊢
  clear hg
  have K6 := Lib.hid (K.out.keep H5.out.2)
  obtain ⟨q0, q1, q2⟩ := row3B K6.out.bP
  obtain ⟨b', off', hpe, hc⟩ := edT_cells K6.out.e (by omega)
  injection hpe with hpe
  injection hpe with e1 e2
  subst e1
  subst e2
  obtain ⟨a0, a1⟩ := hc k e HE.out
  clear hc
  by_cases her : e.r = ro
  case pos =>
    have her' : (e.r == ro) = true := by simpa using her
    have HER := Lib.hid her
    clear her
    obtain ⟨m0, m1⟩ := rowR2 (kept_row H5.out.1 (World.grownBy_alloc w6 (.cells #[.int .i64 ro] 3) none) (by simp))
    have f1 := frozen_of_row _ _ 1 _ _ (kept_row H5.out.1 (World.grownBy_alloc w6 (.cells #[.int .i64 ro] 3) none) (by simp))
    have hb6 := alloc_row (w := w6) #[.int .i64 ro] 3 rfl
    have HB6 := Lib.hid (And.intro hb6.1 hb6.2.1)
    clear hb6
    go_upto_region 10 with fail
    clear m0 m1 f1
    have hg6 : g < w6.heap.size := lt_rowB H5.out.1
    have hset := heap_setCell_same (w6.alloc (.cells #[.int .i64 ro] 3)) g 1 _ _ (.slice (some ⟨w6.heap.size, 0, none⟩) 1 1) (kept_row H5.out.1 HB6.out.2 (by simp))
    have gset : (w6.alloc (.cells #[.int .i64 ro] 3)).grownBy ((w6.alloc (.cells #[.int .i64 ro] 3)).setCell ⟨g, 1, none⟩ (.slice (some ⟨w6.heap.size, 0, none⟩) 1 1)) (some g) := grown_setCell _ _ _
    have hlit := kept_row HB6.out.1 gset (fun e => by have := Option.some.inj e; omega)
    have KX := Lib.hid (K.out.keep (grown_new (grown_trans H5.out.2 HB6.out.2) gset (by rw [HGE.out]; exact Nat.le_refl _)))
    have HG : Hid (_ = some (Obj.cells #[.int .i64 e.i, .slice (some ⟨w6.heap.size, 0, none⟩) ([ro] : List Int).length 1] 35 (0, 0))) := Lib.hid hset
    have HX : Hid (RdX (w.heap.size + 4) _ (.slice p L.length c) (some ⟨w6.heap.size, 0, none⟩) 1 [ro]) := Lib.hid ⟨⟨_, 1, rfl, fun _ => ⟨_, _, rfl, ⟨by have := K6.out.lo; omega, lt_rowB hlit, fun e => by have := (K.out.own.lt _ e.symm).2; have := H5.out.2.size; omega⟩, fun i u hi => by
      rw [Nat.zero_add, cell_of_row _ _ _ _ _ _ hlit]
      simpa [tv] using hi⟩⟩, fun h => (by cases h), by show 1 ≤ 1; decide, by show 1 ≤ 9223372036854775807; decide⟩
    obtain ⟨X, hX⟩ : ∃ X, X = [ro] := ⟨_, rfl⟩
    rw [← hX] at HG HX
    have HXM : Hid (NxB R L0 ro e.r X) := Lib.hid (by unfold NxB; rw [if_pos HER.out]; exact hX)
    generalize ((w6.alloc _).setCell _ _) = wx at *
    generalize (some (⟨w6.heap.size, 0, none⟩ : Addr)) = p1 at *
    clear hset gset hlit K6 q0 q1 q2 a0 a1 HB6 hX
    obtain ⟨d0, d1, d2, d3⟩ := row4T KX.out.bB
    obtain ⟨m0, m1⟩ := rowR2 HG.out
    have hLl := hLE.out
    have hlo := KX.out.lo
    have hXl := HX.out.2.2
    go_wp2_with (at_builtin; refine hold_on ?_)
    refine Lib.hid ?_
    refine wpList_append_lies _ rfl _ _ 25 rfl (w.heap.size + 4) 35 ii (.agg #[.int .i64 0, .slice none 0 0]) 2 32 Try.underlying25 hii hi0 hi1 hi2 rfl (by decide) (.slice p L.length c) L.length (L.flatMap rwC) rfl (KX.out.own.alloc _) ⟨wx.heap.size, 0, none⟩ 1 1 (rwC ⟨e.i, X, p1, 1⟩) rfl rfl (rwB_row wx ⟨e.i, X, p1, 1⟩ _) (rw_one ⟨e.i, X, p1, 1⟩) (by decide) (by unfold maxLen; omega) (by omega) (by simp; omega) _ rfl ?_
    intro g2 cap w8 hown hgrow hat hlt8
    have ga := World.grownBy_alloc wx (.cells #[.int .i64 e.i, .slice p1 X.length 1] 35) none
    have hv : (Value.slice (some ⟨g2, 0, none⟩) (L.length + 1) cap).ownBlock = (Value.slice p L.length c).ownBlock ∨ ∀ b, some b = (Value.slice (some ⟨g2, 0, none⟩) (L.length + 1) cap).ownBlock → (wx.alloc (.cells #[.int .i64 e.i, .slice p1 X.length 1] 35)).heap.size ≤ b := by
      rcases hat with h | h
      · exact Or.inl h.symm
      · refine Or.inr fun b e => ?_
        have e2 : some b = some g2 := e
        have := Option.some.inj e2
        rw [this, h]
        exact Nat.le_refl _
    obtain ⟨hB8, hBD⟩ := (KX.out.keep ga).push (x := ⟨e.i, X, p1, 1⟩) (v' := .slice (some ⟨g2, 0, none⟩) (L.length + 1) cap) (HX.out.keep ga) (by rw [List.length_append, List.flatMap_append]; simpa [rwC] using hown) hgrow hv
    obtain ⟨y0, y1, y2, y3⟩ := row4T hB8
    have f3 := frozen_of_row _ _ 3 _ _ hB8
    have HBD := Lib.hid hBD
    have HBM : Hid (BldM R L0 ro (E.take (k + 1)) (L ++ [⟨e.i, X, p1, 1⟩])) := Lib.hid (HB.out.push HE.out HXM.out p1 1)
    have HLL : Hid ((L ++ [(⟨e.i, X, p1, 1⟩ : Rw)]).length = L.length + 1) := Lib.hid (by rw [List.length_append]; rfl)
    clear hown hgrow hat hlt8 ga hv hBD m0 m1 d0 d1 d2 d3 HX HG HXM KX
    go_wp2_with fail
    exact ⟨⟨k + 1, L ++ [⟨e.i, X, p1, 1⟩], some ⟨g2, 0, none⟩, cap, by omega, congrArg _ (by omega), HBM, by rw [HLL.out]; exact HBD⟩, by simp only [RowKit.intOf]; omega⟩
  have her' : (e.r == ro) = false := by simpa using her
  have HER := Lib.hid her
  clear her
  go_upto_region 8 with fail
  refine wp_region_held_drew (S := fun w' => Hid (w6.grownBy w' none)) (by kernel_rfl) (Lib.hid (grown_drew (grown_refl _ none))) (fun hHeld => ?_)
  refine wpAnyH_take (i := 0) (oi := { dst := some 41, op := Op.load 55 (Operand.tmp 3), type := 55, pos := "ref.go:135", after := #[], guard := none }) (v := ?_) rfl (by kernel_rfl) (by kernel_rfl) (by kernel_rfl) (fun _ _ _ h => h) (Or.inl ⟨by rfl, ?_⟩) hHeld ?_
  rotate_left 1
  · intro u hSu
    obtain ⟨t0u, t1u⟩ := row_cells (kept_row K6.out.bT hSu.out (by simp))
    have q2u := hSu.out.cell q2 (by simp)
    have a0u := hSu.out.cell a0 (by simp)
    go_simp
    first | done | with_reducible rfl
  (try simp only [Act.put, List.setIfInBounds_toArray, List.set_cons_zero, List.set_cons_succ])
  refine wpAnyH_take (i := 1) (oi := { dst := some 42, op := Op.fieldAddr 59 (Operand.tmp 4) 2, type := 0, pos := "ref.go:135", after := #[], guard := none }) (v := ?_) rfl (by kernel_rfl) (by kernel_rfl) (by kernel_rfl) (fun _ _ _ h => h) (Or.inl ⟨by rfl, ?_⟩) hHeld ?_
  rotate_left 1
  · intro u hSu
    obtain ⟨t0u, t1u⟩ := row_cells (kept_row K6.out.bT hSu.out (by simp))
    have q2u := hSu.out.cell q2 (by simp)
    have a0u := hSu.out.cell a0 (by simp)
    go_simp
    first | done | with_reducible rfl
  (try simp only [Act.put, List.setIfInBounds_toArray, List.set_cons_zero, List.set_cons_succ])
  refine wpAnyH_take (i := 2) (oi := { dst := some 43, op := Op.load 57 (Operand.tmp 42), type := 57, pos := "ref.go:135", after := #[{ on := 1, ground := Ground.data }], guard := none }) (v := ?_) rfl (by kernel_rfl) (by kernel_rfl) (by kernel_rfl) (fun _ _ _ h => h) (Or.inl ⟨by rfl, ?_⟩) hHeld ?_
  rotate_left 1
  · intro u hSu
    obtain ⟨t0u, t1u⟩ := row_cells (kept_row K6.out.bT hSu.out (by simp))
    have q2u := hSu.out.cell q2 (by simp)
    have a0u := hSu.out.cell a0 (by simp)
    go_simp
    first | done | with_reducible rfl
  (try simp only [Act.put, List.setIfInBounds_toArray, List.set_cons_zero, List.set_cons_succ])
  refine wpAnyH_take (i := 3) (oi := { dst := some 44, op := Op.move (Operand.tmp 8), type := 3, pos := "ref.go:135", after := #[], guard := none }) (v := ?_) rfl (by kernel_rfl) (by kernel_rfl) (by kernel_rfl) (fun _ _ _ h => h) (Or.inl ⟨by rfl, ?_⟩) hHeld ?_
  rotate_left 1
  · intro u hSu
    obtain ⟨t0u, t1u⟩ := row_cells (kept_row K6.out.bT hSu.out (by simp))
    have q2u := hSu.out.cell q2 (by simp)
    have a0u := hSu.out.cell a0 (by simp)
    go_simp
    first | done | with_reducible rfl
  (try simp only [Act.put, List.setIfInBounds_toArray, List.set_cons_zero, List.set_cons_succ])
  refine wpAnyH_take (i := 4) (oi := { dst := some 45, op := Op.indexAddr 57 (Operand.tmp 43) (Operand.tmp 44), type := 0, pos := "ref.go:135", after := #[{ on := 2, ground := Ground.data }, { on := 3, ground := Ground.data }], guard := none }) (v := ?_) rfl (by kernel_rfl) (by kernel_rfl) (by kernel_rfl) (fun _ _ _ h => h) (Or.inl ⟨by rfl, ?_⟩) hHeld ?_
  rotate_left 1
  · intro u hSu
    obtain ⟨t0u, t1u⟩ := row_cells (kept_row K6.out.bT hSu.out (by simp))
    have q2u := hSu.out.cell q2 (by simp)
    have a0u := hSu.out.cell a0 (by simp)
    go_simp
    first | done | with_reducible rfl
  (try simp only [Act.put, List.setIfInBounds_toArray, List.set_cons_zero, List.set_cons_succ])
  refine wpAnyH_take (i := 5) (oi := { dst := some 46, op := Op.fieldAddr 86 (Operand.tmp 45) 0, type := 0, pos := "ref.go:135", after := #[{ on := 4, ground := Ground.data }], guard := none }) (v := ?_) rfl (by kernel_rfl) (by kernel_rfl) (by kernel_rfl) (fun _ _ _ h => h) (Or.inl ⟨by rfl, ?_⟩) hHeld ?_
  rotate_left 1
  · intro u hSu
    obtain ⟨t0u, t1u⟩ := row_cells (kept_row K6.out.bT hSu.out (by simp))
    have q2u := hSu.out.cell q2 (by simp)
    have a0u := hSu.out.cell a0 (by simp)
    go_simp
    first | done | with_reducible rfl
  (try simp only [Act.put, List.setIfInBounds_toArray, List.set_cons_zero, List.set_cons_succ])
  refine wpAnyH_take (i := 6) (oi := { dst := some 47, op := Op.load 3 (Operand.tmp 46), type := 3, pos := "ref.go:135", after := #[{ on := 5, ground := Ground.data }], guard := none }) (v := ?_) rfl (by kernel_rfl) (by kernel_rfl) (by kernel_rfl) (fun _ _ _ h => h) (Or.inl ⟨by rfl, ?_⟩) hHeld ?_
  rotate_left 1
  · intro u hSu
    obtain ⟨t0u, t1u⟩ := row_cells (kept_row K6.out.bT hSu.out (by simp))
    have q2u := hSu.out.cell q2 (by simp)
    have a0u := hSu.out.cell a0 (by simp)
    go_simp
    first | done | with_reducible rfl
  (try simp only [Act.put, List.setIfInBounds_toArray, List.set_cons_zero, List.set_cons_succ])
  refine wpAnyH_ready (rs := [7]) (by kernel_rfl) (by simp) ?_
  refine AllReadyH.cons (o := { dst := some 48, op := Op.call { callee := Callee.value (Operand.func 59), args := #[Operand.tmp 41, Operand.tmp 47], argTypes := #[55, 3] }, type := 4, pos := "ref.go:135", after := #[{ on := 0, ground := Ground.data }, { on := 6, ground := Ground.data }], guard := none }) rfl (fun Kz hK => ?_) AllReadyH.nil
  go_simp
  go_at_call 59
  refine (rcap_any ⟨R, L0, pR, cR, pL, cL⟩ e.r _ _ (K6.out.keep hHeld.out).t).mono ?_
  rintro e' w7 ⟨rfl, hg⟩
  have HN := Lib.hid (grown_trans hHeld.out hg)
  clear hg
  simp only
  refine hK.out _ _ (HN) (fun hH2 => ?_)
  clear hK Kz hHeld
  have hHeld := hH2
  clear hH2
  (try simp only [Act.put, List.setIfInBounds_toArray, List.set_cons_zero, List.set_cons_succ])
  refine wpAnyH_done (by kernel_rfl) ?_ _
  have K7 := Lib.hid (K.out.keep (grown_trans H5.out.2 hHeld.out))
  have G7 := Lib.hid (And.intro (grown_trans H5.out.2 hHeld.out) (kept_row H5.out.1 hHeld.out (by simp)))
  clear hHeld K6 q0 q1 q2 a0 a1
  cases hcp : capV R L0 e.r
  case false =>
    have HCP := Lib.hid hcp
    have KX := K7
    obtain ⟨X, hX⟩ : ∃ X : List Int, X = [] := ⟨_, rfl⟩
    obtain ⟨p1, hp1⟩ : ∃ p1 : Option Addr, p1 = none := ⟨_, rfl⟩
    have HG : Hid (w7.heap[g]? = some (Obj.cells #[.int .i64 e.i, .slice p1 X.length 0] 35 (0, 0))) := Lib.hid (by rw [hX, hp1]; exact G7.out.2)
    have HX : Hid (RdX (w.heap.size + 4) w7 (.slice p L.length c) p1 0 X) := Lib.hid (by rw [hX, hp1]; exact ⟨⟨none, 0, rfl, fun h => absurd rfl h⟩, fun _ => rfl, Nat.le_refl _, by show (0 : Nat) ≤ _; omega⟩)
    have HXM : Hid (NxB R L0 ro e.r X) := Lib.hid (by unfold NxB; rw [if_neg HER.out, if_neg (by rw [HCP.out]; decide)]; exact hX)
    obtain ⟨wx, hwx⟩ : ∃ wx, wx = w7 := ⟨_, rfl⟩
    rw [← hwx] at KX HG HX ⊢
    clear hX hp1 K7 G7 hcp hwx
    obtain ⟨d0, d1, d2, d3⟩ := row4T KX.out.bB
    obtain ⟨m0, m1⟩ := rowR2 HG.out
    have hLl := hLE.out
    have hlo := KX.out.lo
    have hXl := HX.out.2.2
    go_wp2_with (at_builtin; refine hold_on ?_)
    refine Lib.hid ?_
    refine wpList_append_lies _ rfl _ _ 25 rfl (w.heap.size + 4) 35 ii (.agg #[.int .i64 0, .slice none 0 0]) 2 32 Try.underlying25 hii hi0 hi1 hi2 rfl (by decide) (.slice p L.length c) L.length (L.flatMap rwC) rfl (KX.out.own.alloc _) ⟨wx.heap.size, 0, none⟩ 1 1 (rwC ⟨e.i, X, p1, 0⟩) rfl rfl (rwB_row wx ⟨e.i, X, p1, 0⟩ _) (rw_one ⟨e.i, X, p1, 0⟩) (by decide) (by unfold maxLen; omega) (by omega) (by simp; omega) _ rfl ?_
    intro g2 cap w8 hown hgrow hat hlt8
    have ga := World.grownBy_alloc wx (.cells #[.int .i64 e.i, .slice p1 X.length 0] 35) none
    have hv : (Value.slice (some ⟨g2, 0, none⟩) (L.length + 1) cap).ownBlock = (Value.slice p L.length c).ownBlock ∨ ∀ b, some b = (Value.slice (some ⟨g2, 0, none⟩) (L.length + 1) cap).ownBlock → (wx.alloc (.cells #[.int .i64 e.i, .slice p1 X.length 0] 35)).heap.size ≤ b := by
      rcases hat with h | h
      · exact Or.inl h.symm
      · refine Or.inr fun b e => ?_
        have e2 : some b = some g2 := e
        have := Option.some.inj e2
        rw [this, h]
        exact Nat.le_refl _
    obtain ⟨hB8, hBD⟩ := (KX.out.keep ga).push (x := ⟨e.i, X, p1, 0⟩) (v' := .slice (some ⟨g2, 0, none⟩) (L.length + 1) cap) (HX.out.keep ga) (by rw [List.length_append, List.flatMap_append]; simpa [rwC] using hown) hgrow hv
    obtain ⟨y0, y1, y2, y3⟩ := row4T hB8
    have f3 := frozen_of_row _ _ 3 _ _ hB8
    have HBD := Lib.hid hBD
    have HBM : Hid (BldM R L0 ro (E.take (k + 1)) (L ++ [⟨e.i, X, p1, 0⟩])) := Lib.hid (HB.out.push HE.out HXM.out p1 0)
    have HLL : Hid ((L ++ [(⟨e.i, X, p1, 0⟩ : Rw)]).length = L.length + 1) := Lib.hid (by rw [List.length_append]; rfl)
    clear hown hgrow hat hlt8 ga hv hBD m0 m1 d0 d1 d2 d3 HX HG HXM KX
    go_wp2_with fail
    exact ⟨⟨k + 1, L ++ [⟨e.i, X, p1, 0⟩], some ⟨g2, 0, none⟩, cap, by omega, congrArg _ (by omega), HBM, by rw [HLL.out]; exact HBD⟩, by simp only [RowKit.intOf]; omega⟩
  have HCP := Lib.hid hcp
  clear hcp
  obtain ⟨q0, q1, q2⟩ := row3B K7.out.bP
  obtain ⟨b', off', hpe, hc⟩ := edT_cells K7.out.e (by omega)
  injection hpe with hpe
  injection hpe with e1 e2
  subst e1
  subst e2
  obtain ⟨a0, a1⟩ := hc k e HE.out
  clear hc
  go_upto_region 9 with fail
  refine region_until (S := fun w' => Hid (w7.grownBy w' none)) (fun j => j == 10) (by kernel_rfl) (Lib.hid (grown_drew (grown_refl _ none))) (fun hHeld => ?_)
  refine anyU_take (i := 0) (oi := { dst := some 49, op := Op.load 55 (Operand.tmp 3), type := 55, pos := "ref.go:136", after := #[], guard := none }) (v := ?_) rfl (by kernel_rfl) (by kernel_rfl) (by kernel_rfl) (by kernel_rfl) (by kernel_rfl) (fun _ _ _ h => h) (Or.inl ⟨by rfl, ?_⟩) hHeld ?_
  rotate_left 1
  · intro u hSu
    obtain ⟨t0u, t1u⟩ := row_cells (kept_row K7.out.bT hSu.out (by simp))
    have q2u := hSu.out.cell q2 (by simp)
    have a0u := hSu.out.cell a0 (by simp)
    go_simp
    first | done | with_reducible rfl
  (try simp only [Act.put, List.setIfInBounds_toArray, List.set_cons_zero, List.set_cons_succ])
  refine anyU_take (i := 1) (oi := { dst := some 50, op := Op.move (Operand.tmp 2), type := 3, pos := "ref.go:136", after := #[], guard := none }) (v := ?_) rfl (by kernel_rfl) (by kernel_rfl) (by kernel_rfl) (by kernel_rfl) (by kernel_rfl) (fun _ _ _ h => h) (Or.inl ⟨by rfl, ?_⟩) hHeld ?_
  rotate_left 1
  · intro u hSu
    obtain ⟨t0u, t1u⟩ := row_cells (kept_row K7.out.bT hSu.out (by simp))
    have q2u := hSu.out.cell q2 (by simp)
    have a0u := hSu.out.cell a0 (by simp)
    go_simp
    first | done | with_reducible rfl
  (try simp only [Act.put, List.setIfInBounds_toArray, List.set_cons_zero, List.set_cons_succ])
  refine anyU_take (i := 2) (oi := { dst := some 51, op := Op.fieldAddr 59 (Operand.tmp 4) 2, type := 0, pos := "ref.go:136", after := #[], guard := none }) (v := ?_) rfl (by kernel_rfl) (by kernel_rfl) (by kernel_rfl) (by kernel_rfl) (by kernel_rfl) (fun _ _ _ h => h) (Or.inl ⟨by rfl, ?_⟩) hHeld ?_
  rotate_left 1
  · intro u hSu
    obtain ⟨t0u, t1u⟩ := row_cells (kept_row K7.out.bT hSu.out (by simp))
    have q2u := hSu.out.cell q2 (by simp)
    have a0u := hSu.out.cell a0 (by simp)
    go_simp
    first | done | with_reducible rfl
  (try simp only [Act.put, List.setIfInBounds_toArray, List.set_cons_zero, List.set_cons_succ])
  refine anyU_take (i := 3) (oi := { dst := some 52, op := Op.load 57 (Operand.tmp 51), type := 57, pos := "ref.go:136", after := #[{ on := 2, ground := Ground.data }], guard := none }) (v := ?_) rfl (by kernel_rfl) (by kernel_rfl) (by kernel_rfl) (by kernel_rfl) (by kernel_rfl) (fun _ _ _ h => h) (Or.inl ⟨by rfl, ?_⟩) hHeld ?_
  rotate_left 1
  · intro u hSu
    obtain ⟨t0u, t1u⟩ := row_cells (kept_row K7.out.bT hSu.out (by simp))
    have q2u := hSu.out.cell q2 (by simp)
    have a0u := hSu.out.cell a0 (by simp)
    go_simp
    first | done | with_reducible rfl
  (try simp only [Act.put, List.setIfInBounds_toArray, List.set_cons_zero, List.set_cons_succ])
  refine anyU_take (i := 4) (oi := { dst := some 53, op := Op.move (Operand.tmp 8), type := 3, pos := "ref.go:136", after := #[], guard := none }) (v := ?_) rfl (by kernel_rfl) (by kernel_rfl) (by kernel_rfl) (by kernel_rfl) (by kernel_rfl) (fun _ _ _ h => h) (Or.inl ⟨by rfl, ?_⟩) hHeld ?_
  rotate_left 1
  · intro u hSu
    obtain ⟨t0u, t1u⟩ := row_cells (kept_row K7.out.bT hSu.out (by simp))
    have q2u := hSu.out.cell q2 (by simp)
    have a0u := hSu.out.cell a0 (by simp)
    go_simp
    first | done | with_reducible rfl
  (try simp only [Act.put, List.setIfInBounds_toArray, List.set_cons_zero, List.set_cons_succ])
  refine anyU_take (i := 5) (oi := { dst := some 54, op := Op.indexAddr 57 (Operand.tmp 52) (Operand.tmp 53), type := 0, pos := "ref.go:136", after := #[{ on := 3, ground := Ground.data }, { on := 4, ground := Ground.data }], guard := none }) (v := ?_) rfl (by kernel_rfl) (by kernel_rfl) (by kernel_rfl) (by kernel_rfl) (by kernel_rfl) (fun _ _ _ h => h) (Or.inl ⟨by rfl, ?_⟩) hHeld ?_
  rotate_left 1
  · intro u hSu
    obtain ⟨t0u, t1u⟩ := row_cells (kept_row K7.out.bT hSu.out (by simp))
    have q2u := hSu.out.cell q2 (by simp)
    have a0u := hSu.out.cell a0 (by simp)
    go_simp
    first | done | with_reducible rfl
  (try simp only [Act.put, List.setIfInBounds_toArray, List.set_cons_zero, List.set_cons_succ])
  refine anyU_take (i := 6) (oi := { dst := some 55, op := Op.fieldAddr 86 (Operand.tmp 54) 0, type := 0, pos := "ref.go:136", after := #[{ on := 5, ground := Ground.data }], guard := none }) (v := ?_) rfl (by kernel_rfl) (by kernel_rfl) (by kernel_rfl) (by kernel_rfl) (by kernel_rfl) (fun _ _ _ h => h) (Or.inl ⟨by rfl, ?_⟩) hHeld ?_
  rotate_left 1
  · intro u hSu
    obtain ⟨t0u, t1u⟩ := row_cells (kept_row K7.out.bT hSu.out (by simp))
    have q2u := hSu.out.cell q2 (by simp)
    have a0u := hSu.out.cell a0 (by simp)
    go_simp
    first | done | with_reducible rfl
  (try simp only [Act.put, List.setIfInBounds_toArray, List.set_cons_zero, List.set_cons_succ])
  refine anyU_take (i := 7) (oi := { dst := some 56, op := Op.load 3 (Operand.tmp 55), type := 3, pos := "ref.go:136", after := #[{ on := 6, ground := Ground.data }], guard := none }) (v := ?_) rfl (by kernel_rfl) (by kernel_rfl) (by kernel_rfl) (by kernel_rfl) (by kernel_rfl) (fun _ _ _ h => h) (Or.inl ⟨by rfl, ?_⟩) hHeld ?_
  rotate_left 1
  · intro u hSu
    obtain ⟨t0u, t1u⟩ := row_cells (kept_row K7.out.bT hSu.out (by simp))
    have q2u := hSu.out.cell q2 (by simp)
    have a0u := hSu.out.cell a0 (by simp)
    go_simp
    first | done | with_reducible rfl
  (try simp only [Act.put, List.setIfInBounds_toArray, List.set_cons_zero, List.set_cons_succ])
  refine anyU_ready (rs := [8]) (by kernel_rfl) (by simp) ?_
  refine EachU.cons (o := { dst := some 57, op := Op.call { callee := Callee.value (Operand.func 60), args := #[Operand.tmp 49, Operand.tmp 50, Operand.tmp 56], argTypes := #[55, 3, 3] }, type := 22, pos := "ref.go:136", after := #[{ on := 0, ground := Ground.data }, { on := 1, ground := Ground.data }, { on := 7, ground := Ground.data }], guard := none }) rfl (fun Kz hK => ?_) EachU.nil
  go_simp
  go_at_call 60
  refine (rhops_any ⟨R, L0, pR, cR, pL, cL⟩ ro e.r _ _ (K7.out.keep hHeld.out).t).mono ?_
  rintro e' w8 ⟨X, p1, c1, rfl, hr, hn, hc, hA, hI, hIs, hg⟩
  have hr := And.intro (hr.mono (q' := fun b => w7.heap.size ≤ b) (fun b hb => Nat.le_trans hHeld.out.size hb)) (And.intro hn (And.intro hc (And.intro hA (And.intro hI hIs))))
  have HN := Lib.hid (grown_trans hHeld.out hg)
  clear hn hc hA hI hIs hg
  simp only
  refine hK.out _ _ (fun _ => HN) (fun hH2 => ?_)
  clear hK Kz hHeld
  have hHeld := hH2 rfl
  clear hH2
  (try simp only [Act.put, List.setIfInBounds_toArray, List.set_cons_zero, List.set_cons_succ])
  refine anyU_take (i := 9) (oi := { dst := some 58, op := Op.fieldAddr 35 (Operand.tmp 9) 1, type := 0, pos := "ref.go:136", after := #[{ on := 0, ground := Ground.phase }, { on := 1, ground := Ground.phase }, { on := 2, ground := Ground.phase }, { on := 3, ground := Ground.phase }, { on := 4, ground := Ground.phase }, { on := 5, ground := Ground.phase }, { on := 6, ground := Ground.phase }, { on := 7, ground := Ground.phase }, { on := 8, ground := Ground.phase }], guard := none }) (v := ?_) rfl (by kernel_rfl) (by kernel_rfl) (by kernel_rfl) (by kernel_rfl) (by kernel_rfl) (fun _ _ _ h => h) (Or.inl ⟨by rfl, ?_⟩) hHeld ?_
  rotate_left 1
  · intro u hSu
    obtain ⟨t0u, t1u⟩ := row_cells (kept_row K7.out.bT hSu.out (by simp))
    have q2u := hSu.out.cell q2 (by simp)
    have a0u := hSu.out.cell a0 (by simp)
    go_simp
    first | done | with_reducible rfl
  (try simp only [Act.put, List.setIfInBounds_toArray, List.set_cons_zero, List.set_cons_succ])
  refine anyU_ready (rs := [10]) (by kernel_rfl) (by simp) ?_
  refine EachU.cons (o := { dst := none, op := Op.store 22 (Operand.tmp 58) (Operand.tmp 57), type := 0, pos := "ref.go:136", after := #[{ on := 9, ground := Ground.data }, { on := 8, ground := Ground.data }, { on := 8, ground := Ground.chain }, { on := 0, ground := Ground.phase }, { on := 1, ground := Ground.phase }, { on := 2, ground := Ground.phase }, { on := 3, ground := Ground.phase }, { on := 4, ground := Ground.phase }, { on := 5, ground := Ground.phase }, { on := 6, ground := Ground.phase }, { on := 7, ground := Ground.phase }, { on := 8, ground := Ground.phase }], guard := none }) rfl (fun Kz hK => ?_) EachU.nil
  have H9 := Lib.hid (And.intro hHeld.out (kept_row G7.out.2 hHeld.out (by simp)))
  obtain ⟨z0, z1⟩ := rowR2 H9.out.2
  have f1 := frozen_of_row _ _ 1 _ _ H9.out.2
  go_simp
  refine hK.out _ _ (fun h => by cases h) (fun _ => ?_)
  clear hK Kz
  (try simp only [Act.put, List.setIfInBounds_toArray, List.set_cons_zero, List.set_cons_succ])
  refine anyU_done (by kernel_rfl) ?_ _
  have HGW := Lib.hid hr
  have hg7 : g < w7.heap.size := lt_rowB G7.out.2
  clear z0 z1 f1 hr
  have hset := heap_setCell_same w8 g 1 _ _ (.slice p1 X.length c1) H9.out.2
  have gset : w8.grownBy (w8.setCell ⟨g, 1, none⟩ (.slice p1 X.length c1)) (some g) := grown_setCell _ _ _
  have KX := Lib.hid (K.out.keep (grown_new (grown_trans G7.out.1 H9.out.1) gset (by rw [HGE.out]; exact Nat.le_refl _)))
  have HG : Hid (_ = some (Obj.cells #[.int .i64 e.i, .slice p1 X.length c1] 35 (0, 0))) := Lib.hid hset
  have HX : Hid (RdX (w.heap.size + 4) _ (.slice p L.length c) p1 c1 X) := Lib.hid ⟨((rd_and HGW.out.1).grown gset (fun b hb e => by have := Option.some.inj e; have := hb.1; omega)).mono (fun b hb => ⟨by have := hb.1; have := K7.out.lo; omega, Nat.lt_of_lt_of_le hb.2 gset.size, fun e => by have := (K7.out.own.lt _ e.symm).2; have := hb.1; omega⟩), HGW.out.2.1, HGW.out.2.2.1⟩
  have HXM : Hid (NxB R L0 ro e.r X) := Lib.hid (by unfold NxB; rw [if_neg HER.out, if_pos HCP.out]; exact HGW.out.2.2.2)
  generalize (w8.setCell _ _) = wx at *
  clear hset gset K7 q0 q1 q2 a0 a1 H9 HGW
  obtain ⟨d0, d1, d2, d3⟩ := row4T KX.out.bB
  obtain ⟨m0, m1⟩ := rowR2 HG.out
  have hLl := hLE.out
  have hlo := KX.out.lo
  have hXl := HX.out.2.2
  go_wp2_with (at_builtin; refine hold_on ?_)
  refine Lib.hid ?_
  refine wpList_append_lies _ rfl _ _ 25 rfl (w.heap.size + 4) 35 ii (.agg #[.int .i64 0, .slice none 0 0]) 2 32 Try.underlying25 hii hi0 hi1 hi2 rfl (by decide) (.slice p L.length c) L.length (L.flatMap rwC) rfl (KX.out.own.alloc _) ⟨wx.heap.size, 0, none⟩ 1 1 (rwC ⟨e.i, X, p1, c1⟩) rfl rfl (rwB_row wx ⟨e.i, X, p1, c1⟩ _) (rw_one ⟨e.i, X, p1, c1⟩) (by decide) (by unfold maxLen; omega) (by omega) (by simp; omega) _ rfl ?_
  intro g2 cap w8 hown hgrow hat hlt8
  have ga := World.grownBy_alloc wx (.cells #[.int .i64 e.i, .slice p1 X.length c1] 35) none
  have hv : (Value.slice (some ⟨g2, 0, none⟩) (L.length + 1) cap).ownBlock = (Value.slice p L.length c).ownBlock ∨ ∀ b, some b = (Value.slice (some ⟨g2, 0, none⟩) (L.length + 1) cap).ownBlock → (wx.alloc (.cells #[.int .i64 e.i, .slice p1 X.length c1] 35)).heap.size ≤ b := by
    rcases hat with h | h
    · exact Or.inl h.symm
    · refine Or.inr fun b e => ?_
      have e2 : some b = some g2 := e
      have := Option.some.inj e2
      rw [this, h]
      exact Nat.le_refl _
  obtain ⟨hB8, hBD⟩ := (KX.out.keep ga).push (x := ⟨e.i, X, p1, c1⟩) (v' := .slice (some ⟨g2, 0, none⟩) (L.length + 1) cap) (HX.out.keep ga) (by rw [List.length_append, List.flatMap_append]; simpa [rwC] using hown) hgrow hv
  obtain ⟨y0, y1, y2, y3⟩ := row4T hB8
  have f3 := frozen_of_row _ _ 3 _ _ hB8
  have HBD := Lib.hid hBD
  have HBM : Hid (BldM R L0 ro (E.take (k + 1)) (L ++ [⟨e.i, X, p1, c1⟩])) := Lib.hid (HB.out.push HE.out HXM.out p1 c1)
  have HLL : Hid ((L ++ [(⟨e.i, X, p1, c1⟩ : Rw)]).length = L.length + 1) := Lib.hid (by rw [List.length_append]; rfl)
  clear hown hgrow hat hlt8 ga hv hBD m0 m1 d0 d1 d2 d3 HX HG HXM KX
  go_wp2_with fail
  exact ⟨⟨k + 1, L ++ [⟨e.i, X, p1, c1⟩], some ⟨g2, 0, none⟩, cap, by omega, congrArg _ (by omega), HBM, by rw [HLL.out]; exact HBD⟩, by simp only [RowKit.intOf]; omega⟩
end Go.Proofs.Ytgofadmncgmhoaa

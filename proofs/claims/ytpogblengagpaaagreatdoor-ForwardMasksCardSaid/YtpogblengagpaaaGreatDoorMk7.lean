/- Parts of the proof, packed: MaCol, MaRRw, TaBld, TaTb, IdRsM, IdCnt, IdSeek, IdChk, IdFre, IdCon, IdLen, IdLay, IdSrt, IdEdg, IdRes, IdRsW, IdRtw, IdPln, IdVpl, IdRck, IdRcn, IdAwk, IdInt, IdRep, IdRvp, TaRAl, MaRHp, MaBit, MaRBt. -/
import Derived.Test.YtpogblengagpaaaGreatDoorMk6
import Derived.Test.YtpogblengagpaaaGreatDoorMk5
import Derived.Test.YtpogblengagpaaaGreatDoorMk1
import Derived.Test.YtpogblengagpaaaGreatDoorMk2
import Derived.Lib.SliceRun
import Derived.Deep.CutRange
import Derived.Laws.StructEq
/- masks: valid, nextIn, collect. -/
namespace Go.Proofs.YtpogblengagpaaaGreatDoor
set_option maxRecDepth 100000
open Go.RowKit Go.Maps Bs
def vaT (r s n : Int) (L : List Rw) (pl : Int) : Bool := decide ((0 ≤ pl ∧ pl < 8) ∧ ckT r s n L = 0)
theorem mvalid_any (r s n : Int) (p : Option Addr) (c : Nat) (L : List Rw) (pl : Int) (q : Nat → Prop) (w : World) (hR : RdW w q p c L) (hm : L.length ≤ 9223372036854775807) :
  Calls Tryz.prog 102 #[.agg #[.int .i64 r, .int .i64 s, .int .i64 n, .slice p L.length c], .int .i64 pl] w fun e w' => e = .returned (.bool (vaT r s n L pl)) ∧ w.grownBy w' none := by
 obtain ⟨k1, k2⟩ := tone_box w #[.int .i64 r, .int .i64 s, .int .i64 n, .slice p L.length c] 25
 have HB := Lib.hid (And.intro k1 (And.intro k2 (hR.keep k2)))
 clear k1 k2 hR
 go_enter Tryz.func102, Tryz.ntmps102
 go_upto_region 1 with fail
 generalize w.alloc _ = w1 at *
 obtain ⟨d0, d1, d2, d3⟩ := row4T HB.out.1
 by_cases h0 : 0 ≤ pl
 case neg =>
  have HO : Hid (vaT r s n L pl = false) := Lib.hid (decide_eq_false (fun h => h0 h.1.1))
  go_wp2_with fail
  go_ret
  rw [HO.out]
  exact ⟨rfl, HB.out.2.1⟩
 by_cases h8 : pl < 8
 case neg =>
  have HO : Hid (vaT r s n L pl = false) := Lib.hid (decide_eq_false (fun h => h8 h.1.2))
  go_wp2_with fail
  go_ret
  rw [HO.out]
  exact ⟨rfl, HB.out.2.1⟩
 have HO : Hid (vaT r s n L pl = (ckT r s n L == 0)) := Lib.hid (by
  unfold vaT
  by_cases hc : ckT r s n L = 0
  ·rw [decide_eq_true ⟨⟨h0, h8⟩, hc⟩, hc]; rfl
  ·rw [decide_eq_false (fun h => hc h.2)]
   exact (beq_eq_false_iff_ne.2 hc).symm)
 go_wp2_with fail
 refine (tcheckT_any r s n p c L q w1 HB.out.2.2 hm).mono ?_
 rintro e w2 ⟨rfl, hg⟩
 have G := Lib.hid (grown_trans HB.out.2.1 hg)
 clear hg
 go_wp2_with fail
 go_ret
 rw [HO.out]
 exact ⟨rfl, G.out⟩
set_option maxHeartbeats 1600000 in
theorem mnext_any (x : Rw) (k : Nat) (hk : k < 8) (q : Nat → Prop) (w : World) (hx : RwOk w q x) :
  Calls Tryz.prog 103 #[.agg #[.int .i64 x.id, .slice x.p x.nx.length x.c], .int .i64 (k : Int)] w fun e w' => e = .returned (.int .i64 (nxI x.nx k)) ∧ w.grownBy w' none := by
 obtain ⟨k1, k2⟩ := tone_box w #[.int .i64 x.id, .slice x.p x.nx.length x.c] 80
 have HB := Lib.hid (And.intro k1 (And.intro k2 (hx.keep k2)))
 clear k1 k2 hx
 go_enter Tryz.func103, Tryz.ntmps103
 go_upto_region 1 with fail
 generalize w.alloc _ = w1 at *
 have c1 : w1.cell? ⟨w.heap.size, 1, none⟩ = some (.slice x.p x.nx.length x.c) := cell_of_row _ _ _ _ _ _ HB.out.1
 by_cases h0 : x.nx.length = 0
 ·have h0' : ((x.nx.length : Int) == 0) = true := beq_iff_eq.2 (by omega)
  have HO : Hid (nxI x.nx k = 0) := Lib.hid (by unfold nxI; rw [if_pos h0])
  clear h0
  go_wp2_with fail
  go_ret
  rw [HO.out]
  exact ⟨rfl, HB.out.2.1⟩
 ·have h0' : ((x.nx.length : Int) == 0) = false := beq_eq_false_iff_ne.2 (by omega)
  have hm : x.nx.length ≤ 9223372036854775807 := Nat.le_trans HB.out.2.2.hc.1 HB.out.2.2.hc.2
  obtain ⟨xp, hxp⟩ : ∃ xp, x.p = xp := ⟨_, rfl⟩
  have hat := nxI_at (k := k) h0
  have hrd := HB.out.2.2.rd
  obtain ⟨-, b, off, hp, hq, hc⟩ := tvT_at hrd hat
  have a0 := hc _ _ hat
  obtain ⟨j, hj⟩ : ∃ j, k % x.nx.length = j := ⟨_, rfl⟩
  have hjl : j < x.nx.length := by rw [← hj]; exact Nat.mod_lt _ (by omega)
  rw [hj] at a0
  rw [hp] at c1
  obtain ⟨v, hv⟩ : ∃ v, nxI x.nx k = v := ⟨_, rfl⟩
  rw [hv] at a0
  have HV := Lib.hid hv
  have r1 : ((k : Int)).tmod (x.nx.length : Int) = (j : Int) := by rw [Int.tmod_eq_emod_of_nonneg (by omega), ← hj]; exact (Int.natCast_emod k x.nx.length).symm
  have r1b : ((k : Int)) % (x.nx.length : Int) = (j : Int) := by rw [← hj]; exact (Int.natCast_emod k x.nx.length).symm
  have r2 : IntKind.i64.wrap (j : Int) = (j : Int) := IntWalk.i64_in _ (by omega)
  have r0 : (x.nx.length : Int) ≠ 0 := by omega
  have j0 : (0 : Int) ≤ (j : Int) := by omega
  have j1 : (j : Int) < (x.nx.length : Int) := by omega
  clear h0 hat hrd hc hj hv hxp
  go_upto_region 3 with fail
  go_region
  have G := Lib.hid (grown_drew HB.out.2.1)
  clear a0 c1 r1 r1b r2 r0 j0 j1
  go_wp2_with fail
  go_ret
  rw [HV.out]
  exact ⟨rfl, G.out⟩
structure CO (W : World) (r s n : Int) (p : Option Addr) (c : Nat) (L : List Rw) (N : Nat) (f : Int → Option Nat) (w : World) : Prop where
 bx : w.heap[W.heap.size]? = some (.cells #[.int .i64 r, .int .i64 s, .int .i64 n, .slice p L.length c] 25 (0, 0))
 rd : RdW w (fun b => b < W.heap.size) p c L
 mp : OMu w (W.heap.size + 1) N f
 gr : W.grownBy w none
theorem CO.keep {W w w1 : World} {r s n : Int} {p : Option Addr} {c : Nat} {L : List Rw} {N : Nat} {f : Int → Option Nat} (h : CO W r s n p c L N f w) (g : w.grownBy w1 none) : CO W r s n p c L N f w1 :=
 ⟨kept_row h.bx g (by simp), h.rd.keep g, h.mp.kept g (by simp), grown_trans h.gr g⟩
theorem CO.put {W w w1 : World} {r s n : Int} {p : Option Addr} {c : Nat} {L : List Rw} {N M : Nat} {f f' : Int → Option Nat} (h : CO W r s n p c L N f w) (hm : OMu w1 (W.heap.size + 1) M f') (g : w.grownBy w1 (some (W.heap.size + 1))) : CO W r s n p c L M f' w1 := by
 have hn : ∀ b, b ≤ W.heap.size → some b ≠ some (W.heap.size + 1) := fun b hb e => by have := Option.some.inj e; omega
 exact ⟨kept_row h.bx g (hn _ (Nat.le_refl _)), h.rd.grown g (fun b hb => hn b (Nat.le_of_lt hb)), hm, grown_new h.gr g (by omega)⟩
def CoPost (r s n : Int) (L : List Rw) (pl set : Int) (w : World) (e : Ending) (w' : World) : Prop :=
 e = .returned (.map (some (w.heap.size + 1))) ∧ (∃ N, N ≤ 256 ∧ OMu w' (w.heap.size + 1) N (coF r s n L pl set)) ∧ w.grownBy w' none
set_option maxHeartbeats 3200000 in
theorem mcollect_any (r s n : Int) (p : Option Addr) (c : Nat) (L : List Rw) (pl set : Int) (w : World) (hR : RdW w (· < w.heap.size) p c L) (hm : L.length ≤ 9223372036854775807) :
  Calls Tryz.prog 66 #[.agg #[.int .i64 r, .int .i64 s, .int .i64 n, .slice p L.length c], .int .i64 pl, .int .i64 set] w fun e w' => CoPost r s n L pl set w e w' := by
 obtain ⟨k1, k2⟩ := tone_box w #[.int .i64 r, .int .i64 s, .int .i64 n, .slice p L.length c] 25
 have hsz : (w.alloc (.cells #[.int .i64 r, .int .i64 s, .int .i64 n, .slice p L.length c] 25)).heap.size = w.heap.size + 1 := by simp
 have gm := World.grownBy_alloc (w.alloc (.cells #[.int .i64 r, .int .i64 s, .int .i64 n, .slice p L.length c] 25)) (.map #[] 0) none
 have hmade := OMu.made (w.alloc (.cells #[.int .i64 r, .int .i64 s, .int .i64 n, .slice p L.length c] 25))
 rw [hsz] at hmade
 have H0 : Hid (CO w r s n p c L 0 (fun _ => none) _) := Lib.hid ⟨kept_row k1 gm (by simp), (hR.keep k2).keep gm, hmade, grown_trans k2 gm⟩
 have HSZ := Lib.hid hsz
 have hmm := fun t w => run_makeMap (P := Tryz.prog) t w
 clear k1 k2 hR gm hmade hsz
 go_enter Tryz.func66, Tryz.ntmps66
 go_upto_region 2 with fail
 rw [HSZ.out] at *
 clear hmm HSZ
 generalize ((w.alloc _).alloc _) = w1 at *
 obtain ⟨d0, d1, d2, d3⟩ := row4T H0.out.bx
 go_wp2_with fail
 refine (mvalid_any r s n p c L pl _ w1 H0.out.rd hm).mono ?_
 rintro e w2 ⟨rfl, hg⟩
 have H1 := Lib.hid (H0.out.keep hg)
 clear hg H0 d0 d1 d2 d3
 cases hv : vaT r s n L pl
 case false =>
  have HF : Hid (coF r s n L pl set = fun _ => none) := Lib.hid (by
   unfold coF
   unfold vaT at hv
   rw [if_neg (of_decide_eq_false hv)])
  clear hv
  go_wp2_with fail
  go_ret
  exact ⟨rfl, ⟨0, by omega, by rw [HF.out]; exact H1.out.mp⟩, H1.out.gr⟩
 have hvp : (0 ≤ pl ∧ pl < 8) ∧ ckT r s n L = 0 := by unfold vaT at hv; exact of_decide_eq_true hv
 obtain ⟨k, rfl⟩ := Int.eq_ofNat_of_zero_le hvp.1.1
 have hk8 : k < 8 := by have := hvp.1.2; omega
 have HF : Hid (coF r s n L (k : Int) set = colL n set k L) := Lib.hid (by
  unfold coF
  rw [if_pos hvp]; rfl)
 have HOK := Lib.hid (ck_ok hvp.2)
 have hL256 : L.length ≤ 256 := HOK.out.2.2.1
 clear hv hvp
 obtain ⟨d0, d1, d2, d3⟩ := row4T H1.out.bx
 have H2 : Hid (CO w r s n p c L 0 (colL n set k (L.take 0)) w2) := Lib.hid (by rw [List.take_zero]; exact H1.out)
 clear H1
 go_wp2_with fail
 clear d0 d1 d2 d3
 go_loopw [23] (fun a wr => ∃ (i N : Nat), i ≤ L.length ∧ a = .int .i64 (i : Int) ∧ N ≤ i ∧ Hid (CO w r s n p c L N (colL n set k (L.take i)) wr)) (fun a _ => L.length - (RowKit.intOf a).toNat)
 case atStart => exact ⟨0, 0, Nat.zero_le _, rfl, Nat.le_refl _, H2⟩
 case round =>
 clear H2
 obtain ⟨i, N, hi, rfl, hN, S0⟩ := hrel
 obtain ⟨w3, hw3⟩ : ∃ w3, w3 = wr := ⟨_, rfl⟩
 rw [← hw3] at S0 ⊢
 clear hw3
 by_cases hlt : i < L.length
 case neg =>
  obtain rfl : i = L.length := by omega
  have hnl : ¬ (L.length : Int) < (L.length : Int) := by omega
  rw [List.take_length] at S0
  go_wp2_with fail
  go_ret
  exact ⟨rfl, ⟨N, by omega, by rw [HF.out]; exact S0.out.mp⟩, S0.out.gr⟩
 case pos =>
 have hlt' : (i : Int) < (L.length : Int) := by omega
 obtain ⟨x, hx⟩ : ∃ x, L[i]? = some x := ⟨_, List.getElem?_eq_getElem hlt⟩
 have hxm := List.mem_of_getElem? hx
 obtain ⟨-, b, off, rfl, hq, hc⟩ := rw_cells S0.out.rd.rd (by omega)
 obtain ⟨a0, a1⟩ := hc i x hx
 have HX := Lib.hid hx
 have HW := Lib.hid (any_memT HOK.out.2.1 hxm)
 have HXM := Lib.hid hxm
 clear hc hx hxm
 obtain ⟨k1, k2⟩ := tone_box w3 #[.int .i64 x.id, .slice x.p x.nx.length x.c] 80
 have S1 := Lib.hid (And.intro (S0.out.keep k2) k1)
 clear k1 k2 S0
 go_upto_region 7 with fail
 generalize w3.alloc _ = w4 at *
 generalize w3.heap.size = Bx at *
 clear a0 a1
 have e0 : w4.cell? ⟨Bx, 0, none⟩ = some (.int .i64 x.id) := cell_of_row _ _ _ _ _ _ S1.out.2
 have e1 : w4.cell? ⟨Bx, 1, none⟩ = some (.slice x.p x.nx.length x.c) := cell_of_row _ _ _ _ _ _ S1.out.2
 go_wp2_with fail
 refine (mnext_any x k hk8 _ w4 (S1.out.1.rd.ok x HXM.out)).mono ?_
 rintro e w5 ⟨rfl, hg⟩
 have S2 := Lib.hid (And.intro (S1.out.1.keep hg) (kept_row S1.out.2 hg (by simp)))
 clear hg S1 e0 e1
 have e0 : w5.cell? ⟨Bx, 0, none⟩ = some (.int .i64 x.id) := cell_of_row _ _ _ _ _ _ S2.out.2
 obtain ⟨d0, d1, d2, d3⟩ := row4T S2.out.1.bx
 go_wp2_with fail
 refine (iplc_any x.id n w5).mono ?_
 rintro e w6 ⟨rfl, hg⟩
 have S3 := Lib.hid (S2.out.1.keep hg)
 clear hg S2 e0 d0 d1 d2 d3
 obtain ⟨m, hm1⟩ : ∃ m : Nat, plB x.id n = (m : Int) := by
  have : 0 ≤ plB x.id n := by
   unfold plB
   split
   ·rename_i h
    obtain ⟨hl, h1, h2⟩ := pl_fields h
    rcases hl with rfl | rfl | rfl | rfl <;> omega
   ·omega
  exact Int.eq_ofNat_of_zero_le this
 have hm64 : m < 64 := by have := plB_lt64 x.id n; omega
 obtain ⟨st, hst⟩ : ∃ st, plS x.id n = st := ⟨_, rfl⟩
 obtain ⟨h, hh⟩ : ∃ h, nxI x.nx k = h := ⟨_, rfl⟩
 have HST : Hid (colL n set k (L.take (i + 1)) = if st = set ∧ h ≠ 0 then putU (colL n set k (L.take i)) h ((colL n set k (L.take i) h).getD 0 ||| b2 m) else colL n set k (L.take i)) := Lib.hid (by
  rw [colL_take HX.out]
  unfold colS
  rw [hst, hh, hm1]; rfl)
 have HNX : Hid (h ≠ 0 → 1 ≤ h ∧ h ≤ 99) := Lib.hid (by rw [← hh]; exact fun h0 => nx_in HW.out h0)
 have HCO : Hid (ColOk (colL n set k (L.take i))) := Lib.hid (colL_ok HOK.out.2.1 i)
 rw [hst, hh, hm1]
 clear hst hh hm1
 by_cases h1 : st = set
 case neg =>
  have h1' : (st == set) = false := by simpa using h1
  have HS2 : Hid (CO w r s n (some ⟨b, off, none⟩) c L N (colL n set k (L.take (i + 1))) w6) := Lib.hid (by rw [HST.out, if_neg (fun h => h1 h.1)]; exact S3.out)
  clear h1
  go_wp2_with fail
  exact ⟨⟨i + 1, N, by omega, congrArg _ (by omega), by omega, HS2⟩, by simp only [RowKit.intOf]; omega⟩
 have h1' : (st == set) = true := by simpa using h1
 by_cases h2 : h = 0
 case pos =>
  have h2' : (h != 0) = false := by simpa using h2
  have HS2 : Hid (CO w r s n (some ⟨b, off, none⟩) c L N (colL n set k (L.take (i + 1))) w6) := Lib.hid (by rw [HST.out, if_neg (fun h3 => h3.2 h2)]; exact S3.out)
  clear h1 h2
  go_wp2_with fail
  exact ⟨⟨i + 1, N, by omega, congrArg _ (by omega), by omega, HS2⟩, by simp only [RowKit.intOf]; omega⟩
 have h2' : (h != 0) = true := by simpa using h2
 have hh1 := HNX.out h2
 obtain ⟨f, hf⟩ : ∃ f, colL n set k (L.take i) = f := ⟨_, rfl⟩
 rw [hf] at HST HCO S3
 have hU := HCO.out.getD h
 obtain ⟨y, hy⟩ : ∃ y, (f h).getD 0 = y := ⟨_, rfl⟩
 rw [hy] at hU
 have hor : U64 (y ||| b2 m) := Nat.or_lt_two_pow (n := 64) hU (b2_u64 hm64)
 have S4 := Lib.hid (S3.out.keep (grown_drew (grown_refl _ none)))
 have hlook := (S4.out.mp.look (x := h) (by unfold I64; omega)).1
 rw [hy] at hlook
 obtain ⟨w7, hput, hmp, hgr⟩ := S4.out.mp.put (x := h) (d := y ||| b2 m) (by omega) (by unfold I64; omega) hor
 have hor2 : bits .or .u64 (y : Int) (IntKind.u64.wrap (2 ^ m)) = ((y ||| b2 m : Nat) : Int) := by rw [pow_word m hm64, orU _ _ hU (b2_u64 hm64)]
 rw [← hor2] at hput
 have HS2 : Hid (CO w r s n (some ⟨b, off, none⟩) c L (N + 1) (colL n set k (L.take (i + 1))) w7) := Lib.hid (by
  rw [HST.out, if_pos ⟨h1, h2⟩, hy]
  exact S4.out.put hmp hgr)
 have m1 : (m : Int) < 64 := by omega
 have m0 : ¬ (m : Int) < 0 := by omega
 clear h1 h2 hh1 hf hy hmp hgr HST HCO hor hor2 S3 S4
 go_upto_region 10 with fail
 go_region
 clear hlook hput m1 m0
 go_wp2_with fail
 exact ⟨⟨i + 1, N + 1, by omega, congrArg _ (by omega), by omega, HS2⟩, by simp only [RowKit.intOf]; omega⟩
end Go.Proofs.YtpogblengagpaaaGreatDoor

/- tables, the reference's functions: inside, plane, Row, Hop. -/
namespace Go.Proofs.YtpogblengagpaaaGreatDoor
set_option maxRecDepth 100000
open Go.RowKit Go.Maps Bs
theorem rin11_any (n lo hi : Int) (w : World) :
  Calls Tryz.prog 71 #[.int .i64 n, .int .i64 lo, .int .i64 hi] w fun e w' => e = .returned (.bool (inV n lo hi)) ∧ w = w' := by
 have HV : Hid (inV n lo hi = (decide (lo ≤ n) && decide (n ≤ hi))) := Lib.hid (by unfold inV; rw [Bool.decide_and])
 go_enter Tryz.func71, Tryz.ntmps71
 by_cases h1 : lo ≤ n
 ·go_wp2_with fail
  go_ret
  exact ⟨by rw [HV.out]; simp [h1], rfl⟩
 ·go_wp2_with fail
  go_ret
  exact ⟨by rw [HV.out]; simp; omega, rfl⟩
theorem rpl12_any (k : Int) (w : World) :
  Calls Tryz.prog 54 #[.int .i64 k] w fun e w' => e = .returned (.bool (decide (0 ≤ k) && decide (k < 8))) ∧ w = w' := by
 go_enter Tryz.func54, Tryz.ntmps54
 by_cases h1 : 0 ≤ k
 ·go_wp2_with fail
  go_ret
  exact ⟨by simp [h1], rfl⟩
 ·go_wp2_with fail
  go_ret
  exact ⟨by simp; omega, rfl⟩
def isW (id : Int) (x : Rw) : Bool := decide (x.id = id)
def fdW (L : List Rw) (id : Int) : Option Rw := L.find? (isW id)
def zRw : Rw := ⟨0, [], none, 0⟩
theorem fw_take {L : List Rw} {r : Int} {k : Nat} {x : Rw} (h : (L.take k).find? (isW r) = none) (hx : L[k]? = some x) : (L.take (k + 1)).find? (isW r) = if x.id = r then some x else none := by
 rw [List.take_add_one, hx, List.find?_append, h]
 unfold isW
 by_cases e : x.id = r <;> simp [e]
theorem fw_hit {L : List Rw} {r : Int} {k : Nat} {x : Rw} (h : (L.take k).find? (isW r) = none) (hx : L[k]? = some x) (e : x.id = r) : fdW L r = some x := by
 unfold fdW
 have h2 := fw_take h hx
 rw [if_pos e] at h2
 rw [← List.take_append_drop (k + 1) L, List.find?_append, h2]
 rfl
theorem fw_end {L : List Rw} {r : Int} (h : (L.take L.length).find? (isW r) = none) : fdW L r = none := by
 rw [List.take_length] at h
 exact h
theorem row_size : (Tryz.prog.info? 80).map (·.size) = some 2 := by kernel_rfl
theorem res_row_b {fn : Func} {p u : Tmp} (h : fn.results = #[.cell p 80, .tmp u]) (tmps : Array Value) (w : World) (g : Nat) (x y : Value) (hp : tmps.getD p undef = .pointer (some ⟨g, 0, none⟩)) (hg : w.heap[g]? = some (.cells #[x, y] 80 (0, 0))) :
  (results fn tmps).run Tryz.prog w = .ok (.tuple #[.agg #[x, y], tmps.getD u undef]) w := by
 have hp' : tmps[p]?.getD undef = .pointer (some ⟨g, 0, none⟩) := by simpa using hp
 rw [results_cell_tmp h]
 simp [hp', asAddr, run_loadVar_row w g _ _ _ _ _ hg Tryz.underlying80 rfl row_size, Result.andThen]
theorem rowR2 {w : World} {b : Nat} {x y : Value} {t : TypeId} (h : w.heap[b]? = some (.cells #[x, y] t (0, 0))) : w.cell? ⟨b, 0, none⟩ = some x ∧ w.cell? ⟨b, 1, none⟩ = some y :=
 ⟨cell_of_row _ _ _ _ _ _ h, cell_of_row _ _ _ _ _ _ h⟩
theorem storeR {w : World} {b : Nat} {t : TypeId} {z0 z1 : Value} (u0 u1 : Value) (h : w.heap[b]? = some (.cells #[z0, z1] t (0, 0))) :
  ((w.setCell ⟨b, 0, none⟩ u0).setCell ⟨b, 1, none⟩ u1).heap[b]? = some (.cells #[u0, u1] t (0, 0)) ∧ w.grownBy ((w.setCell ⟨b, 0, none⟩ u0).setCell ⟨b, 1, none⟩ u1) (some b) :=
 ⟨store2 h, grown_store2 w b u0 u1⟩
structure TBm (W : World) (r s n : Int) (p : Option Addr) (c : Nat) (L : List Rw) (z0 z1 : Value) (w : World) : Prop where
 bx : w.heap[W.heap.size]? = some (.cells #[.int .i64 r, .int .i64 s, .int .i64 n, .slice p L.length c] 25 (0, 0))
 z : w.heap[W.heap.size + 1]? = some (.cells #[z0, z1] 80 (0, 0))
 rd : RdW w (· < W.heap.size) p c L
 gr : W.grownBy w none
theorem TBm.keep {W w w1 : World} {r s n : Int} {p : Option Addr} {c : Nat} {L : List Rw} {z0 z1 : Value} (h : TBm W r s n p c L z0 z1 w) (g : w.grownBy w1 none) : TBm W r s n p c L z0 z1 w1 :=
 ⟨kept_row h.bx g (by simp), kept_row h.z g (by simp), h.rd.keep g, grown_trans h.gr g⟩
theorem tb_start {w : World} {r s n : Int} {p : Option Addr} {c : Nat} {L : List Rw} (hR : RdW w (· < w.heap.size) p c L) : TBm w r s n p c L (.int .i64 0) (.slice none 0 0) ((w.alloc (.cells #[.int .i64 r, .int .i64 s, .int .i64 n, .slice p L.length c] 25)).alloc (.cells #[.int .i64 0, .slice none 0 0] 80)) := by
 obtain ⟨k1, k2, k3, k4⟩ := two_boxes w #[.int .i64 r, .int .i64 s, .int .i64 n, .slice p L.length c] #[.int .i64 0, .slice none 0 0] 25 80
 exact ⟨k1, k2, hR.keep k3, k3⟩
set_option maxHeartbeats 3200000 in
theorem rrow_any (r s n : Int) (p : Option Addr) (c : Nat) (L : List Rw) (id : Int) (w : World) (hR : RdW w (· < w.heap.size) p c L) (hm : L.length ≤ 9223372036854775807) :
  Calls Tryz.prog 109 #[.agg #[.int .i64 r, .int .i64 s, .int .i64 n, .slice p L.length c], .int .i64 id] w fun e w' => e = .returned (.tuple #[.agg #[.int .i64 ((fdW L id).getD zRw).id, .slice ((fdW L id).getD zRw).p ((fdW L id).getD zRw).nx.length ((fdW L id).getD zRw).c], .bool (fdW L id).isSome]) ∧ w.grownBy w' none := by
 have H0 := Lib.hid (tb_start (r := r) (s := s) (n := n) hR)
 clear hR
 go_enter Tryz.func109, Tryz.ntmps109
 go_upto_region 1 with fail
 generalize (w.alloc _).alloc _ = wa at *
 go_wp2_with fail
 go_loopw [6] (fun a wr => ∃ k : Nat, k ≤ L.length ∧ a = .int .i64 (k : Int) ∧ Hid ((L.take k).find? (isW id) = none) ∧ Hid (TBm w r s n p c L (.int .i64 0) (.slice none 0 0) wr)) (fun a _ => L.length - (RowKit.intOf a).toNat)
 case atStart => exact ⟨0, Nat.zero_le _, rfl, Lib.hid rfl, H0⟩
 case round =>
 obtain ⟨k, hk, rfl, HN, K⟩ := hrel
 clear H0
 obtain ⟨d0, d1, d2, d3⟩ := row4T K.out.bx
 by_cases hlt : k < L.length
 ·have hlt' : (k : Int) < (L.length : Int) := by omega
  obtain ⟨x, hx⟩ : ∃ x, L[k]? = some x := ⟨_, List.getElem?_eq_getElem hlt⟩
  obtain ⟨-, b, off, rfl, -, hc⟩ := rw_cells K.out.rd.rd (by omega)
  obtain ⟨a0, a1⟩ := hc k x hx
  have HX := Lib.hid hx
  clear hc hx
  by_cases e : x.id = id
  ·have e' : (x.id == id) = true := by simpa using e
   have HF := Lib.hid (fw_hit HN.out HX.out e)
   clear e
   obtain ⟨z0, z1⟩ := rowR2 K.out.z
   have f0 := frozen_of_row _ _ 0 _ _ K.out.z
   have f1 := frozen_of_row _ _ 1 _ _ K.out.z
   obtain ⟨t1, t2⟩ := storeR (.int .i64 x.id) (.slice x.p x.nx.length x.c) K.out.z
   have HT := Lib.hid (And.intro t1 (grown_new K.out.gr t2 (by omega)))
   clear t1 t2 K HN
   go_wp2_with fail
   refine bodyPost_ret (res_row_b rfl _ _ (w.heap.size + 1) _ _ rfl HT.out.1) rfl ?_
   exact ⟨by rw [HF.out]; rfl, HT.out.2⟩
  ·have e' : (x.id == id) = false := by simpa using e
   have HN2 : Hid ((L.take (k + 1)).find? (isW id) = none) := Lib.hid (by rw [fw_take HN.out HX.out, if_neg e])
   clear e HN
   go_wp2_with fail
   exact ⟨⟨k + 1, by omega, congrArg _ (by omega), HN2, K⟩, by simp only [RowKit.intOf]; omega⟩
 ·obtain rfl : k = L.length := by omega
  have hnl : ¬ (L.length : Int) < (L.length : Int) := by omega
  have HF := Lib.hid (fw_end HN.out)
  obtain ⟨z0, z1⟩ := rowR2 K.out.z
  have f0 := frozen_of_row _ _ 0 _ _ K.out.z
  have f1 := frozen_of_row _ _ 1 _ _ K.out.z
  obtain ⟨t1, t2⟩ := storeR (.int .i64 0) (.slice none 0 0) K.out.z
  have HT := Lib.hid (And.intro t1 (grown_new K.out.gr t2 (by omega)))
  clear t1 t2 K HN
  go_wp2_with fail
  refine bodyPost_ret (res_row_b rfl _ _ (w.heap.size + 1) _ _ rfl HT.out.1) rfl ?_
  exact ⟨by rw [HF.out]; rfl, HT.out.2⟩
end Go.Proofs.YtpogblengagpaaaGreatDoor

/- tables, the reference's functions: build. -/
namespace Go.Proofs.YtpogblengagpaaaGreatDoor
set_option maxRecDepth 100000
open Go.RowKit Bs
theorem row3B {w : World} {b : Nat} {x y z : Value} {t : TypeId} (h : w.heap[b]? = some (.cells #[x, y, z] t (0, 0))) : w.cell? ⟨b, 0, none⟩ = some x ∧ w.cell? ⟨b, 1, none⟩ = some y ∧ w.cell? ⟨b, 2, none⟩ = some z :=
 ⟨cell_of_row _ _ _ _ _ _ h, cell_of_row _ _ _ _ _ _ h, cell_of_row _ _ _ _ _ _ h⟩
theorem RdX.over {lo : Nat} {w w1 : World} {v : Value} {p : Option Addr} {c : Nat} {X : List Int} {r : Nat} (h : RdX lo w v p c X) (g : w.grownBy w1 (some r)) (hr : ∀ b, lo ≤ b → b ≠ r) : RdX lo w1 v p c X :=
 ⟨(h.1.grown g (fun b hb e => hr b hb.1 (Option.some.inj e))).mono (fun b hb => ⟨hb.1, Nat.lt_of_lt_of_le hb.2.1 g.size, hb.2.2⟩), h.2⟩
theorem store4B {w : World} {b : Nat} {t : TypeId} {z0 z1 z2 z3 : Value} (u0 u1 u2 u3 : Value) (h : w.heap[b]? = some (.cells #[z0, z1, z2, z3] t (0, 0))) :
  ((((w.setCell ⟨b, 0, none⟩ u0).setCell ⟨b, 1, none⟩ u1).setCell ⟨b, 2, none⟩ u2).setCell ⟨b, 3, none⟩ u3).heap[b]? = some (.cells #[u0, u1, u2, u3] t (0, 0)) ∧ w.grownBy ((((w.setCell ⟨b, 0, none⟩ u0).setCell ⟨b, 1, none⟩ u1).setCell ⟨b, 2, none⟩ u2).setCell ⟨b, 3, none⟩ u3) (some b) := by
 have h1 := heap_setCell_same w b 0 _ _ u0 h
 have h2 := heap_setCell_same _ b 1 _ _ u1 h1
 have h3 := heap_setCell_same _ b 2 _ _ u2 h2
 have h4 := heap_setCell_same _ b 3 _ _ u3 h3
 exact ⟨h4, grown_trans (grown_trans (grown_trans (grown_setCell w ⟨b, 0, none⟩ u0) (grown_setCell _ ⟨b, 1, none⟩ u1)) (grown_setCell _ ⟨b, 2, none⟩ u2)) (grown_setCell _ ⟨b, 3, none⟩ u3)⟩
theorem rwB_row (w : World) (x : Rw) (t : TypeId) : ∀ j u, (rwC x)[j]? = some u → (w.alloc (.cells #[.int .i64 x.id, .slice x.p x.nx.length x.c] t)).cell? ((⟨w.heap.size, 0, none⟩ : Addr).add j) = some u := by
 intro j u hu
 rw [add_plain]
 have hb := heap_alloc_new w (.cells #[.int .i64 x.id, .slice x.p x.nx.length x.c] t)
 rcases j with _ | _ | j
 ·cases hu; exact cell_of_row _ _ _ _ _ _ hb
 ·cases hu; exact cell_of_row _ _ _ _ _ _ hb
 ·simp [rwC] at hu
theorem info_rowT : (Tryz.prog.info? 80).map (fun i => (i.zero, i.size, i.bytes)) = some (some (.agg #[.int .i64 0, .slice none 0 0]), 2, 32) := by kernel_rfl
end Go.Proofs.YtpogblengagpaaaGreatDoor

/- tables: lists of tables in memory. -/
namespace Go.Proofs.YtpogblengagpaaaGreatDoor
set_option maxRecDepth 100000
open Go.RowKit Bs
end Go.Proofs.YtpogblengagpaaaGreatDoor

/- empty -/
namespace Go.Proofs.YtpogblengagpaaaGreatDoor
set_option maxRecDepth 100000
end Go.Proofs.YtpogblengagpaaaGreatDoor

/- empty -/
namespace Go.Proofs.YtpogblengagpaaaGreatDoor
set_option maxRecDepth 100000
end Go.Proofs.YtpogblengagpaaaGreatDoor

/- empty -/
namespace Go.Proofs.YtpogblengagpaaaGreatDoor
set_option maxRecDepth 100000
end Go.Proofs.YtpogblengagpaaaGreatDoor

/- empty -/
namespace Go.Proofs.YtpogblengagpaaaGreatDoor
set_option maxRecDepth 100000
end Go.Proofs.YtpogblengagpaaaGreatDoor

/- empty -/
namespace Go.Proofs.YtpogblengagpaaaGreatDoor
set_option maxRecDepth 100000
end Go.Proofs.YtpogblengagpaaaGreatDoor

/- identify: Conflicts, Length, Free. -/
namespace Go.Proofs.YtpogblengagpaaaGreatDoor
set_option maxRecDepth 100000
open Go.RowKit Bs
end Go.Proofs.YtpogblengagpaaaGreatDoor

/- empty -/
namespace Go.Proofs.YtpogblengagpaaaGreatDoor
set_option maxRecDepth 100000
end Go.Proofs.YtpogblengagpaaaGreatDoor

/- empty -/
namespace Go.Proofs.YtpogblengagpaaaGreatDoor
set_option maxRecDepth 100000
end Go.Proofs.YtpogblengagpaaaGreatDoor

/- empty -/
namespace Go.Proofs.YtpogblengagpaaaGreatDoor
set_option maxRecDepth 100000
end Go.Proofs.YtpogblengagpaaaGreatDoor

/- empty -/
namespace Go.Proofs.YtpogblengagpaaaGreatDoor
set_option maxRecDepth 100000
end Go.Proofs.YtpogblengagpaaaGreatDoor

/- empty -/
namespace Go.Proofs.YtpogblengagpaaaGreatDoor
set_option maxRecDepth 100000
end Go.Proofs.YtpogblengagpaaaGreatDoor

/- empty -/
namespace Go.Proofs.YtpogblengagpaaaGreatDoor
set_option maxRecDepth 100000
end Go.Proofs.YtpogblengagpaaaGreatDoor

/- identify: routerTwice. -/
namespace Go.Proofs.YtpogblengagpaaaGreatDoor
set_option maxRecDepth 100000
open Go.RowKit Bs
section
variable {W w w1 : World} {E : List Ed} {p : Option Addr} {c B : Nat} {kf : Nat → Bool}
end
end Go.Proofs.YtpogblengagpaaaGreatDoor

/- identify: Plan. -/
namespace Go.Proofs.YtpogblengagpaaaGreatDoor
set_option maxRecDepth 100000
open Go.RowKit Bs
end Go.Proofs.YtpogblengagpaaaGreatDoor

/- empty -/
namespace Go.Proofs.YtpogblengagpaaaGreatDoor
set_option maxRecDepth 100000
end Go.Proofs.YtpogblengagpaaaGreatDoor

/- empty -/
namespace Go.Proofs.YtpogblengagpaaaGreatDoor
set_option maxRecDepth 100000
end Go.Proofs.YtpogblengagpaaaGreatDoor

/- empty -/
namespace Go.Proofs.YtpogblengagpaaaGreatDoor
set_option maxRecDepth 100000
end Go.Proofs.YtpogblengagpaaaGreatDoor

/- empty -/
namespace Go.Proofs.YtpogblengagpaaaGreatDoor
set_option maxRecDepth 100000
end Go.Proofs.YtpogblengagpaaaGreatDoor

/- empty -/
namespace Go.Proofs.YtpogblengagpaaaGreatDoor
set_option maxRecDepth 100000
end Go.Proofs.YtpogblengagpaaaGreatDoor

/- The reference's Repeats. -/
namespace Go.Proofs.YtpogblengagpaaaGreatDoor
set_option maxRecDepth 100000
open Go.RowKit Bs
end Go.Proofs.YtpogblengagpaaaGreatDoor

/- The reference's ValidPlan. -/
namespace Go.Proofs.YtpogblengagpaaaGreatDoor
set_option maxRecDepth 100000
open Go.RowKit Bs
section
variable {W w w1 : World} {sub n : Int} {E : List Ed} {p : Option Addr} {c : Nat} {v v' : Value} {M N : List Int}
end
end Go.Proofs.YtpogblengagpaaaGreatDoor

/- tables, the reference's functions: All. -/
namespace Go.Proofs.YtpogblengagpaaaGreatDoor
set_option maxRecDepth 100000
open Go.RowKit Bs
end Go.Proofs.YtpogblengagpaaaGreatDoor

/- tables, the reference's functions: Hop. -/
namespace Go.Proofs.YtpogblengagpaaaGreatDoor
set_option maxRecDepth 100000
open Go.RowKit Go.Maps Bs
def hopI (L : List Rw) (id : Int) (k : Nat) : Int := nxI ((fdW L id).getD zRw).nx k
theorem fdW_ok {w : World} {q : Nat → Prop} {p : Option Addr} {c : Nat} {L : List Rw} {id : Int} (h : RdW w q p c L) : RwOk w q ((fdW L id).getD zRw) := by
 cases hf : fdW L id with
 | none => exact ⟨⟨none, 0, rfl, fun h => absurd rfl h⟩, ⟨Nat.le_refl _, by show (0 : Nat) ≤ _; omega⟩⟩
 | some x => exact h.ok x (List.mem_of_find?_eq_some hf)
set_option maxHeartbeats 3200000 in
theorem rhop_any (r s n : Int) (p : Option Addr) (c : Nat) (L : List Rw) (id : Int) (k : Nat) (hk : k < 8) (w : World) (hR : RdW w (· < w.heap.size) p c L) (hm : L.length ≤ 9223372036854775807) :
  Calls Tryz.prog 78 #[.agg #[.int .i64 r, .int .i64 s, .int .i64 n, .slice p L.length c], .int .i64 id, .int .i64 (k : Int)] w fun e w' => e = .returned (.int .i64 (hopI L id k)) ∧ w.grownBy w' none := by
 obtain ⟨k1, k2⟩ := tone_box w #[.int .i64 r, .int .i64 s, .int .i64 n, .slice p L.length c] 25
 have H0 := Lib.hid (And.intro k1 (And.intro k2 ((hR.keep k2).mono (q' := (· < (w.alloc (.cells #[.int .i64 r, .int .i64 s, .int .i64 n, .slice p L.length c] 25)).heap.size)) (fun b (hb : b < w.heap.size) => by show b < _; simp; omega))))
 clear k1 k2 hR
 go_enter Tryz.func78, Tryz.ntmps78
 go_upto_region 1 with fail
 generalize w.alloc _ = w1 at *
 obtain ⟨d0, d1, d2, d3⟩ := row4T H0.out.1
 go_wp2_with fail
 refine (rrow_any r s n p c L id w1 H0.out.2.2 hm).mono ?_
 rintro e w2 ⟨rfl, hg⟩
 have HX := Lib.hid (fdW_ok (id := id) (H0.out.2.2.keep hg))
 have HZ : Hid ((fdW L id).isSome = false → ((fdW L id).getD zRw).nx.length = 0) := Lib.hid (fun h => by cases hf : fdW L id with
  | none => rfl
  | some x => rw [hf] at h; cases h)
 have HH : Hid (hopI L id k = nxI ((fdW L id).getD zRw).nx k) := Lib.hid rfl
 have G2 := Lib.hid (grown_trans H0.out.2.1 hg)
 clear hg H0 d0 d1 d2 d3
 obtain ⟨res, hres⟩ : ∃ res, hopI L id k = res := ⟨_, rfl⟩
 have HRS := Lib.hid hres
 rw [hres] at HH
 clear hres
 generalize (fdW L id).getD zRw = x at *
 generalize (fdW L id).isSome = ob at *
 obtain ⟨k1, k2⟩ := tone_box w2 #[.int .i64 x.id, .slice x.p x.nx.length x.c] 80
 have HB := Lib.hid (And.intro k1 (And.intro (grown_trans G2.out k2) (HX.out.keep k2)))
 clear k1 k2 G2 HX
 go_upto_region 2 with fail
 generalize w2.alloc _ = w3 at *
 have c1 : w3.cell? ⟨w2.heap.size, 1, none⟩ = some (.slice x.p x.nx.length x.c) := cell_of_row _ _ _ _ _ _ HB.out.1
 by_cases h0 : x.nx.length = 0
 ·have h0' : ((x.nx.length : Int) == 0) = true := beq_iff_eq.2 (by omega)
  have HO : Hid (res = 0) := Lib.hid (by rw [HH.out]; unfold nxI; rw [if_pos h0])
  clear h0
  cases ob
  ·go_wp2_with fail
   go_ret
   exact ⟨by rw [HRS.out, HO.out]; rfl, HB.out.2.1⟩
  ·go_wp2_with fail
   go_ret
   exact ⟨by rw [HRS.out, HO.out]; rfl, HB.out.2.1⟩
 ·cases ob
  ·exact absurd (HZ.out rfl) h0
  have h0' : ((x.nx.length : Int) == 0) = false := beq_eq_false_iff_ne.2 (by omega)
  have hmx : x.nx.length ≤ 9223372036854775807 := Nat.le_trans HB.out.2.2.hc.1 HB.out.2.2.hc.2
  have hat := nxI_at (k := k) h0
  rw [← HH.out] at hat
  have hrd := HB.out.2.2.rd
  obtain ⟨-, b, off, hp, hq, hc⟩ := tvT_at hrd hat
  have a0 := hc _ _ hat
  obtain ⟨j, hj⟩ : ∃ j, k % x.nx.length = j := ⟨_, rfl⟩
  have hjl : j < x.nx.length := by rw [← hj]; exact Nat.mod_lt _ (by omega)
  rw [hj] at a0
  rw [hp] at c1
  have r1 : ((k : Int)).tmod (x.nx.length : Int) = (j : Int) := by rw [Int.tmod_eq_emod_of_nonneg (by omega), ← hj]; exact (Int.natCast_emod k x.nx.length).symm
  have r1b : ((k : Int)) % (x.nx.length : Int) = (j : Int) := by rw [← hj]; exact (Int.natCast_emod k x.nx.length).symm
  have r2 : IntKind.i64.wrap (j : Int) = (j : Int) := IntWalk.i64_in _ (by omega)
  have r0 : (x.nx.length : Int) ≠ 0 := by omega
  have j0 : (0 : Int) ≤ (j : Int) := by omega
  have j1 : (j : Int) < (x.nx.length : Int) := by omega
  clear h0 hat hrd hc hj HZ HH
  go_upto_region 4 with fail
  go_region
  have G := Lib.hid (grown_drew HB.out.2.1)
  clear a0 c1 r1 r1b r2 r0 j0 j1
  go_wp2_with fail
  go_ret
  exact ⟨by rw [HRS.out]; rfl, G.out⟩
end Go.Proofs.YtpogblengagpaaaGreatDoor

/- masks, the reference's Bits: the mathematics. -/
namespace Go.Proofs.YtpogblengagpaaaGreatDoor
set_option maxRecDepth 100000
open Go.RowKit Go.Maps Bs
theorem place_at {s b len : Int} (h : atOk s b len = true) : plOk (atI s b len) len = true ∧ plS (atI s b len) len = s ∧ plB (atI s b len) len = b := by
 have h0 := h
 unfold atOk inV at h
 simp only [Bool.and_eq_true, decide_eq_true_eq] at h
 obtain ⟨⟨⟨hv, hb⟩, hs⟩, hm⟩ := h
 have hl : len = 8 ∨ len = 16 ∨ len = 32 ∨ len = 64 := by
  have := pl_fields (id := 1) (len := len) (by unfold plOk inV; simp [hv])
  exact this.1
 have e : atI s b len = s * len + b + 1 := by unfold atI; rw [if_pos h0]
 have hp : plOk (s * len + b + 1) len = true := by
  unfold plOk inV
  simp only [Bool.and_eq_true, decide_eq_true_eq]
  refine ⟨hv, ?_, hm⟩
  rcases hl with rfl | rfl | rfl | rfl <;> omega
 rw [e]
 refine ⟨hp, ?_, ?_⟩
 ·unfold plS
  rw [if_pos hp, Int.tdiv_eq_ediv_of_nonneg (by rcases hl with rfl | rfl | rfl | rfl <;> omega)]
  rcases hl with rfl | rfl | rfl | rfl <;> omega
 ·unfold plB
  rw [if_pos hp]
  rcases hl with rfl | rfl | rfl | rfl <;> omega
def btP (L : List Rw) (n set u : Int) (k : Nat) (j : Nat) : Bool := atOk set (j : Int) n && decide (0 < u) && decide (hopI L (atI set (j : Int) n) k = u)
def btA (P : Nat → Bool) : Nat → Nat
 | 0 => 0
 | i + 1 => if P i = true then btA P i ||| b2 i else btA P i
theorem btA_u64 (P : Nat → Bool) : ∀ i, i ≤ 64 → U64 (btA P i)
 | 0, _ => by unfold btA; exact u64_mk (by decide)
 | i + 1, h => by
  unfold btA
  split
  ·exact Nat.or_lt_two_pow (n := 64) (btA_u64 P i (by omega)) (b2_u64 (by omega))
  ·exact btA_u64 P i (by omega)
theorem btA_bit (P : Nat → Bool) : ∀ N j, (btA P N).testBit j = true ↔ j < N ∧ P j = true
 | 0, j => by unfold btA; simp
 | i + 1, j => by
  have ih := btA_bit P i j
  unfold btA
  by_cases hp : P i = true
  ·rw [if_pos hp, Nat.testBit_or]
   unfold b2
   rw [Nat.testBit_two_pow]
   simp only [Bool.or_eq_true, decide_eq_true_eq, ih]
   constructor
   ·rintro (h | rfl)
    ·exact ⟨by omega, h.2⟩
    ·exact ⟨by omega, hp⟩
   ·rintro ⟨h1, h2⟩
    by_cases e : i = j
    ·exact Or.inr e
    ·exact Or.inl ⟨by omega, h2⟩
  ·rw [if_neg hp, ih]
   constructor
   ·rintro h; exact ⟨by omega, h.2⟩
   ·rintro ⟨h1, h2⟩
    by_cases e : i = j
    ·subst e; exact absurd h2 hp
    ·exact ⟨by omega, h2⟩
theorem ascW_pair : ∀ E : List Rw, ascB ltW E = true → E.Pairwise (fun x y => x.id < y.id)
 | [], _ => List.Pairwise.nil
 | [a], _ => List.pairwise_singleton _ _
 | a :: b :: t, h => by
  rw [ascB, Bool.and_eq_true] at h
  have ih := ascW_pair (b :: t) h.2
  have hab : a.id < b.id := of_decide_eq_true h.1
  refine List.pairwise_cons.2 ⟨fun y hy => ?_, ih⟩
  rcases List.mem_cons.1 hy with rfl | hy
  ·exact hab
  ·have := (List.pairwise_cons.1 ih).1 y hy; omega
theorem fdW_mem {L : List Rw} (h : ascB ltW L = true) {x : Rw} (hx : x ∈ L) : fdW L x.id = some x := by
 have hp := ascW_pair L h
 clear h
 unfold fdW
 induction L with
 | nil => cases hx
 | cons a t ih =>
  obtain ⟨h1, h2⟩ := List.pairwise_cons.1 hp
  rw [List.find?_cons]
  rcases List.mem_cons.1 hx with rfl | hm
  ·simp [isW]
  ·have := h1 x hm
   have e : isW x.id a = false := by unfold isW; simp; omega
   rw [e]
   exact ih hm h2
theorem mask_eq {r s n : Int} {L : List Rw} (h : ckT r s n L = 0) {N : Nat} (hN : n = (N : Int)) {k : Nat} {set u : Int} (hu : 0 < u) :
  btA (btP L n set u k) N = (colL n set k L u).getD 0 := by
 have ho := ck_ok h
 refine Nat.eq_of_testBit_eq fun j => ?_
 rw [Bool.eq_iff_iff, btA_bit, colL_bit]
 unfold btP
 simp only [Bool.and_eq_true, decide_eq_true_eq]
 constructor
 ·rintro ⟨hj, ⟨h1, -⟩, h3⟩
  obtain ⟨p1, p2, p3⟩ := place_at h1
  unfold hopI at h3
  cases hf : fdW L (atI set (j : Int) n) with
  | none =>
   rw [hf] at h3
   have : nxI ([] : List Int) k = 0 := rfl
   simp only [Option.getD_none] at h3
   have h4 : (0 : Int) = u := h3
   omega
  | some x =>
   rw [hf, Option.getD_some] at h3
   have hx := List.mem_of_find?_eq_some hf
   have he : x.id = atI set (j : Int) n := by
    have := List.find?_some hf
    unfold isW at this
    simpa using this
   refine ⟨x, hx, by rw [he]; exact p2, h3, by omega, by rw [he, p3]; omega⟩
 ·rintro ⟨x, hx, h1, h2, h3, h4⟩
  have hw := any_memT ho.2.1 hx
  have hid : 1 ≤ x.id ∧ x.id ≤ 256 := by
   unfold wrW inV at hw
   rw [Bool.or_eq_false_iff] at hw
   simpa using hw.1
  have hvl : vl n = true := by
   have := ho.1
   unfold hdT at this
   have hl : ¬ L.length = 0 := by
    intro e
    have := List.eq_nil_of_length_eq_zero e
    subst this
    cases hx
   simp [hl] at this
   exact this.2
  have hp : plOk x.id n = true := by unfold plOk inV; simp [hvl, hid.1, hid.2]
  obtain ⟨a1, a2⟩ := at_place hp
  have hB : plB x.id n = (j : Int) := by
   have : 0 ≤ plB x.id n := by
    obtain ⟨hl, -⟩ := pl_fields hp
    unfold plB
    rw [if_pos hp]
    rcases hl with rfl | rfl | rfl | rfl <;> omega
   omega
  have hjn : (j : Int) < n := by
   rw [← hB]
   obtain ⟨hl, -⟩ := pl_fields hp
   unfold plB
   rw [if_pos hp]
   rcases hl with rfl | rfl | rfl | rfl <;> omega
  rw [h1, hB] at a1 a2
  refine ⟨by omega, ⟨a1, hu⟩, ?_⟩
  unfold hopI
  rw [a2, fdW_mem ho.2.2.2.2.1 hx, Option.getD_some]
  exact h2
end Go.Proofs.YtpogblengagpaaaGreatDoor

/- masks, the reference's functions: Bits. -/
namespace Go.Proofs.YtpogblengagpaaaGreatDoor
set_option maxRecDepth 100000
open Go.RowKit Go.Maps Bs
structure BX (W : World) (r s n : Int) (p : Option Addr) (c : Nat) (L : List Rw) (w : World) : Prop where
 bx : w.heap[W.heap.size]? = some (.cells #[.int .i64 r, .int .i64 s, .int .i64 n, .slice p L.length c] 25 (0, 0))
 rd : RdW w (· < w.heap.size) p c L
 gr : W.grownBy w none
theorem BX.keep {W w w1 : World} {r s n : Int} {p : Option Addr} {c : Nat} {L : List Rw} (h : BX W r s n p c L w) (g : w.grownBy w1 none) : BX W r s n p c L w1 :=
 ⟨kept_row h.bx g (by simp), (h.rd.keep g).mono (fun b (hb : b < w.heap.size) => Nat.lt_of_lt_of_le hb g.size), grown_trans h.gr g⟩
theorem bx_start {w : World} {r s n : Int} {p : Option Addr} {c : Nat} {L : List Rw} (hR : RdW w (· < w.heap.size) p c L) : BX w r s n p c L (w.alloc (.cells #[.int .i64 r, .int .i64 s, .int .i64 n, .slice p L.length c] 25)) := by
 obtain ⟨k1, k2⟩ := tone_box w #[.int .i64 r, .int .i64 s, .int .i64 n, .slice p L.length c] 25
 exact ⟨k1, (hR.keep k2).mono (fun b (hb : b < w.heap.size) => Nat.lt_of_lt_of_le hb k2.size), k2⟩
set_option maxHeartbeats 3200000 in
theorem rbits_any (r s : Int) (N : Nat) (hN : N ≤ 64) (p : Option Addr) (c : Nat) (L : List Rw) (k : Nat) (hk : k < 8) (set u : Int) (w : World) (hR : RdW w (· < w.heap.size) p c L) (hm : L.length ≤ 9223372036854775807) :
  Calls Tryz.prog 55 #[.agg #[.int .i64 r, .int .i64 s, .int .i64 (N : Int), .slice p L.length c], .int .i64 (k : Int), .int .i64 set, .int .i64 u] w fun e w' => e = .returned (.int .u64 ((btA (btP L (N : Int) set u k) N : Nat) : Int)) ∧ w.grownBy w' none := by
 have H0 := Lib.hid (bx_start (r := r) (s := s) (n := (N : Int)) hR)
 obtain ⟨P, hP⟩ : ∃ P, btP L (N : Int) set u k = P := ⟨_, rfl⟩
 have HP := Lib.hid hP
 rw [hP]
 clear hR hP
 go_enter Tryz.func55, Tryz.ntmps55
 go_upto_region 1 with fail
 generalize w.alloc _ = wa at *
 go_wp2_with fail
 go_loopw [9, 10] (fun o a wr => ∃ i : Nat, i ≤ N ∧ a = .int .i64 (i : Int) ∧ o = .int .u64 ((btA P i : Nat) : Int) ∧ Hid (BX w r s (N : Int) p c L wr)) (fun _ a _ => N - (RowKit.intOf a).toNat)
 case atStart => exact ⟨0, Nat.zero_le _, rfl, rfl, H0⟩
 case round =>
 obtain ⟨i, hi, rfl, rfl, K⟩ := hrel
 clear H0
 obtain ⟨d0, d1, d2, d3⟩ := row4T K.out.bx
 by_cases hlt : i < N
 case neg =>
  obtain rfl : i = N := by omega
  have hnl : ¬ (i : Int) < (i : Int) := by omega
  go_wp2_with fail
  go_ret
  exact ⟨rfl, K.out.gr⟩
 have hlt' : (i : Int) < (N : Int) := by omega
 have HU := Lib.hid (btA_u64 P i (by omega))
 have HS : Hid (btA P (i + 1) = if P i = true then btA P i ||| b2 i else btA P i) := Lib.hid rfl
 have hPi : Hid (P i = (atOk set (i : Int) (N : Int) && decide (0 < u) && decide (hopI L (atI set (i : Int) (N : Int)) k = u))) := Lib.hid (by rw [← HP.out]; rfl)
 obtain ⟨B, hB⟩ : ∃ B, btA P i = B := ⟨_, rfl⟩
 rw [hB] at HU HS ⊢
 clear hB
 go_wp2_with fail
 refine (irat_any set i N wr).mono ?_
 rintro e w1 ⟨rfl, hg⟩
 have K1 := Lib.hid (K.out.keep hg)
 clear hg K d0 d1 d2 d3
 obtain ⟨ok, hok⟩ : ∃ ok, atOk set (i : Int) (N : Int) = ok := ⟨_, rfl⟩
 obtain ⟨id, hid⟩ : ∃ id, atI set (i : Int) (N : Int) = id := ⟨_, rfl⟩
 rw [hok, hid] at hPi ⊢
 clear hok hid
 obtain ⟨d0, d1, d2, d3⟩ := row4T K1.out.bx
 cases ok
 case false =>
  have HE : Hid (btA P (i + 1) = B) := Lib.hid (by rw [HS.out, hPi.out]; simp)
  go_wp2_with fail
  exact ⟨⟨i + 1, by omega, congrArg _ (by omega), by rw [HE.out], K1⟩, by simp only [RowKit.intOf]; omega⟩
 by_cases hu : 0 < u
 case neg =>
  have HE : Hid (btA P (i + 1) = B) := Lib.hid (by rw [HS.out, hPi.out]; simp [hu])
  go_wp2_with fail
  exact ⟨⟨i + 1, by omega, congrArg _ (by omega), by rw [HE.out], K1⟩, by simp only [RowKit.intOf]; omega⟩
 go_wp2_with fail
 refine (rhop_any r s N p c L id k hk w1 K1.out.rd hm).mono ?_
 rintro e w2 ⟨rfl, hg⟩
 have K2 := Lib.hid (K1.out.keep hg)
 clear hg K1 d0 d1 d2 d3
 obtain ⟨h, hh⟩ : ∃ h, hopI L id k = h := ⟨_, rfl⟩
 rw [hh] at hPi ⊢
 clear hh
 by_cases he : h = u
 case neg =>
  have he' : (h == u) = false := by simpa using he
  have HE : Hid (btA P (i + 1) = B) := Lib.hid (by rw [HS.out, hPi.out]; simp [he])
  clear he
  go_wp2_with fail
  exact ⟨⟨i + 1, by omega, congrArg _ (by omega), by rw [HE.out], K2⟩, by simp only [RowKit.intOf]; omega⟩
 have he' : (h == u) = true := by simpa using he
 have HE : Hid (btA P (i + 1) = B ||| b2 i) := Lib.hid (by rw [HS.out, hPi.out]; simp [he, hu])
 clear he
 go_wp2_with fail
 refine (bit_any i (by omega) w2).mono ?_
 rintro e w3 ⟨rfl, rfl⟩
 have HU2 := HU.out
 have HB2 : U64 (b2 i) := b2_u64 (by omega)
 go_wp2_with fail
 exact ⟨⟨i + 1, by omega, congrArg _ (by omega), by rw [HE.out]; exact congrArg _ (orU _ _ HU2 HB2), K2⟩, by simp only [RowKit.intOf]; omega⟩
end Go.Proofs.YtpogblengagpaaaGreatDoor

/- Parts of the proof, packed: MaCol, MaRRw, TaBld, TaTb, IdRsM, IdCnt, IdSeek, IdChk, IdFre, IdCon, IdLen, IdLay, IdSrt, IdEdg, IdRes, IdRsW, IdRtw, IdPln, IdVpl, IdRck, IdRcn, IdAwk, IdInt, IdRep, IdRvp, TaRAl, MaRHp, MaBit, MaRBt, TaRck, MaRMk, MaNxt, TaCpM, TaCpy, IoOrder, IdTpM, TaVal, IoZeros, IoTake, IoAppend, IoAppendR, IoSlice, IoJoin, IoAlign, IoCheck, Spread. -/
import Derived.Test.YtpogblengagpaaaDoorSi6
import Derived.Test.YtpogblengagpaaaDoorSi5
import Derived.Test.YtpogblengagpaaaDoorSi1
import Derived.Test.YtpogblengagpaaaDoorSi2
import Derived.Lib.SliceRun
import Derived.Deep.CutRange
import Derived.Laws.StructEq
import Derived.Test.YtpogblengagpaaaDoorSi4
import Derived.Deep.OwnRows
import Derived.WalkMore
/- masks: valid, nextIn, collect. -/
namespace Go.Proofs.YtpogblengagpaaaDoor
set_option maxRecDepth 100000
open Go.RowKit Go.Maps Bs
def vaT (r s n : Int) (L : List Rw) (pl : Int) : Bool := decide ((0 ≤ pl ∧ pl < 8) ∧ ckT r s n L = 0)
theorem mvalid_any (r s n : Int) (p : Option Addr) (c : Nat) (L : List Rw) (pl : Int) (q : Nat → Prop) (w : World) (hR : RdW w q p c L) (hm : L.length ≤ 9223372036854775807) :
  Calls Tryd.prog 64 #[.agg #[.int .i64 r, .int .i64 s, .int .i64 n, .slice p L.length c], .int .i64 pl] w fun e w' => e = .returned (.bool (vaT r s n L pl)) ∧ w.grownBy w' none := by
 obtain ⟨k1, k2⟩ := tone_box w #[.int .i64 r, .int .i64 s, .int .i64 n, .slice p L.length c] 27
 have HB := Lib.hid (And.intro k1 (And.intro k2 (hR.keep k2)))
 clear k1 k2 hR
 go_enter Tryd.func64, Tryd.ntmps64
 go_upto_region 1 with fail
 generalize w.alloc _ = w1 at *
 obtain ⟨d0, d1, d2, d3⟩ := row4T HB.out.1
 by_cases h0 : 0 ≤ pl
 case neg =>
  have HO : Hid (vaT r s n L pl = false) := Lib.hid (decide_eq_false (fun h => h0 h.1.1))
  go_wp2_with fail
  go_ret
  rw [HO.out]
  exact ⟨rfl, HB.out.2.1⟩
 by_cases h8 : pl < 8
 case neg =>
  have HO : Hid (vaT r s n L pl = false) := Lib.hid (decide_eq_false (fun h => h8 h.1.2))
  go_wp2_with fail
  go_ret
  rw [HO.out]
  exact ⟨rfl, HB.out.2.1⟩
 have HO : Hid (vaT r s n L pl = (ckT r s n L == 0)) := Lib.hid (by
  unfold vaT
  by_cases hc : ckT r s n L = 0
  ·rw [decide_eq_true ⟨⟨h0, h8⟩, hc⟩, hc]; rfl
  ·rw [decide_eq_false (fun h => hc h.2)]
   exact (beq_eq_false_iff_ne.2 hc).symm)
 go_wp2_with fail
 refine (tcheckT_any r s n p c L q w1 HB.out.2.2 hm).mono ?_
 rintro e w2 ⟨rfl, hg⟩
 have G := Lib.hid (grown_trans HB.out.2.1 hg)
 clear hg
 go_wp2_with fail
 go_ret
 rw [HO.out]
 exact ⟨rfl, G.out⟩
set_option maxHeartbeats 1600000 in
theorem mnext_any (x : Rw) (k : Nat) (hk : k < 8) (q : Nat → Prop) (w : World) (hx : RwOk w q x) :
  Calls Tryd.prog 65 #[.agg #[.int .i64 x.id, .slice x.p x.nx.length x.c], .int .i64 (k : Int)] w fun e w' => e = .returned (.int .i64 (nxI x.nx k)) ∧ w.grownBy w' none := by
 obtain ⟨k1, k2⟩ := tone_box w #[.int .i64 x.id, .slice x.p x.nx.length x.c] 70
 have HB := Lib.hid (And.intro k1 (And.intro k2 (hx.keep k2)))
 clear k1 k2 hx
 go_enter Tryd.func65, Tryd.ntmps65
 go_upto_region 1 with fail
 generalize w.alloc _ = w1 at *
 have c1 : w1.cell? ⟨w.heap.size, 1, none⟩ = some (.slice x.p x.nx.length x.c) := cell_of_row _ _ _ _ _ _ HB.out.1
 by_cases h0 : x.nx.length = 0
 ·have h0' : ((x.nx.length : Int) == 0) = true := beq_iff_eq.2 (by omega)
  have HO : Hid (nxI x.nx k = 0) := Lib.hid (by unfold nxI; rw [if_pos h0])
  clear h0
  go_wp2_with fail
  go_ret
  rw [HO.out]
  exact ⟨rfl, HB.out.2.1⟩
 ·have h0' : ((x.nx.length : Int) == 0) = false := beq_eq_false_iff_ne.2 (by omega)
  have hm : x.nx.length ≤ 9223372036854775807 := Nat.le_trans HB.out.2.2.hc.1 HB.out.2.2.hc.2
  obtain ⟨xp, hxp⟩ : ∃ xp, x.p = xp := ⟨_, rfl⟩
  have hat := nxI_at (k := k) h0
  have hrd := HB.out.2.2.rd
  obtain ⟨-, b, off, hp, hq, hc⟩ := tvT_at hrd hat
  have a0 := hc _ _ hat
  obtain ⟨j, hj⟩ : ∃ j, k % x.nx.length = j := ⟨_, rfl⟩
  have hjl : j < x.nx.length := by rw [← hj]; exact Nat.mod_lt _ (by omega)
  rw [hj] at a0
  rw [hp] at c1
  obtain ⟨v, hv⟩ : ∃ v, nxI x.nx k = v := ⟨_, rfl⟩
  rw [hv] at a0
  have HV := Lib.hid hv
  have r1 : ((k : Int)).tmod (x.nx.length : Int) = (j : Int) := by rw [Int.tmod_eq_emod_of_nonneg (by omega), ← hj]; exact (Int.natCast_emod k x.nx.length).symm
  have r1b : ((k : Int)) % (x.nx.length : Int) = (j : Int) := by rw [← hj]; exact (Int.natCast_emod k x.nx.length).symm
  have r2 : IntKind.i64.wrap (j : Int) = (j : Int) := IntWalk.i64_in _ (by omega)
  have r0 : (x.nx.length : Int) ≠ 0 := by omega
  have j0 : (0 : Int) ≤ (j : Int) := by omega
  have j1 : (j : Int) < (x.nx.length : Int) := by omega
  clear h0 hat hrd hc hj hv hxp
  go_upto_region 3 with fail
  go_region
  have G := Lib.hid (grown_drew HB.out.2.1)
  clear a0 c1 r1 r1b r2 r0 j0 j1
  go_wp2_with fail
  go_ret
  rw [HV.out]
  exact ⟨rfl, G.out⟩
structure CO (W : World) (r s n : Int) (p : Option Addr) (c : Nat) (L : List Rw) (N : Nat) (f : Int → Option Nat) (w : World) : Prop where
 bx : w.heap[W.heap.size]? = some (.cells #[.int .i64 r, .int .i64 s, .int .i64 n, .slice p L.length c] 27 (0, 0))
 rd : RdW w (fun b => b < W.heap.size) p c L
 mp : OMu w (W.heap.size + 1) N f
 gr : W.grownBy w none
theorem CO.keep {W w w1 : World} {r s n : Int} {p : Option Addr} {c : Nat} {L : List Rw} {N : Nat} {f : Int → Option Nat} (h : CO W r s n p c L N f w) (g : w.grownBy w1 none) : CO W r s n p c L N f w1 :=
 ⟨kept_row h.bx g (by simp), h.rd.keep g, h.mp.kept g (by simp), grown_trans h.gr g⟩
theorem CO.put {W w w1 : World} {r s n : Int} {p : Option Addr} {c : Nat} {L : List Rw} {N M : Nat} {f f' : Int → Option Nat} (h : CO W r s n p c L N f w) (hm : OMu w1 (W.heap.size + 1) M f') (g : w.grownBy w1 (some (W.heap.size + 1))) : CO W r s n p c L M f' w1 := by
 have hn : ∀ b, b ≤ W.heap.size → some b ≠ some (W.heap.size + 1) := fun b hb e => by have := Option.some.inj e; omega
 exact ⟨kept_row h.bx g (hn _ (Nat.le_refl _)), h.rd.grown g (fun b hb => hn b (Nat.le_of_lt hb)), hm, grown_new h.gr g (by omega)⟩
def CoPost (r s n : Int) (L : List Rw) (pl set : Int) (w : World) (e : Ending) (w' : World) : Prop :=
 e = .returned (.map (some (w.heap.size + 1))) ∧ (∃ N, N ≤ 256 ∧ OMu w' (w.heap.size + 1) N (coF r s n L pl set)) ∧ w.grownBy w' none
set_option maxHeartbeats 3200000 in
theorem mcollect_any (r s n : Int) (p : Option Addr) (c : Nat) (L : List Rw) (pl set : Int) (w : World) (hR : RdW w (· < w.heap.size) p c L) (hm : L.length ≤ 9223372036854775807) :
  Calls Tryd.prog 43 #[.agg #[.int .i64 r, .int .i64 s, .int .i64 n, .slice p L.length c], .int .i64 pl, .int .i64 set] w fun e w' => CoPost r s n L pl set w e w' := by
 obtain ⟨k1, k2⟩ := tone_box w #[.int .i64 r, .int .i64 s, .int .i64 n, .slice p L.length c] 27
 have hsz : (w.alloc (.cells #[.int .i64 r, .int .i64 s, .int .i64 n, .slice p L.length c] 27)).heap.size = w.heap.size + 1 := by simp
 have gm := World.grownBy_alloc (w.alloc (.cells #[.int .i64 r, .int .i64 s, .int .i64 n, .slice p L.length c] 27)) (.map #[] 0) none
 have hmade := OMu.made (w.alloc (.cells #[.int .i64 r, .int .i64 s, .int .i64 n, .slice p L.length c] 27))
 rw [hsz] at hmade
 have H0 : Hid (CO w r s n p c L 0 (fun _ => none) _) := Lib.hid ⟨kept_row k1 gm (by simp), (hR.keep k2).keep gm, hmade, grown_trans k2 gm⟩
 have HSZ := Lib.hid hsz
 have hmm := fun t w => run_makeMap (P := Tryd.prog) t w
 clear k1 k2 hR gm hmade hsz
 go_enter Tryd.func43, Tryd.ntmps43
 go_upto_region 2 with fail
 rw [HSZ.out] at *
 clear hmm HSZ
 generalize ((w.alloc _).alloc _) = w1 at *
 obtain ⟨d0, d1, d2, d3⟩ := row4T H0.out.bx
 go_wp2_with fail
 refine (mvalid_any r s n p c L pl _ w1 H0.out.rd hm).mono ?_
 rintro e w2 ⟨rfl, hg⟩
 have H1 := Lib.hid (H0.out.keep hg)
 clear hg H0 d0 d1 d2 d3
 cases hv : vaT r s n L pl
 case false =>
  have HF : Hid (coF r s n L pl set = fun _ => none) := Lib.hid (by
   unfold coF
   unfold vaT at hv
   rw [if_neg (of_decide_eq_false hv)])
  clear hv
  go_wp2_with fail
  go_ret
  exact ⟨rfl, ⟨0, by omega, by rw [HF.out]; exact H1.out.mp⟩, H1.out.gr⟩
 have hvp : (0 ≤ pl ∧ pl < 8) ∧ ckT r s n L = 0 := by unfold vaT at hv; exact of_decide_eq_true hv
 obtain ⟨k, rfl⟩ := Int.eq_ofNat_of_zero_le hvp.1.1
 have hk8 : k < 8 := by have := hvp.1.2; omega
 have HF : Hid (coF r s n L (k : Int) set = colL n set k L) := Lib.hid (by
  unfold coF
  rw [if_pos hvp]; rfl)
 have HOK := Lib.hid (ck_ok hvp.2)
 have hL256 : L.length ≤ 256 := HOK.out.2.2.1
 clear hv hvp
 obtain ⟨d0, d1, d2, d3⟩ := row4T H1.out.bx
 have H2 : Hid (CO w r s n p c L 0 (colL n set k (L.take 0)) w2) := Lib.hid (by rw [List.take_zero]; exact H1.out)
 clear H1
 go_wp2_with fail
 clear d0 d1 d2 d3
 go_loopw [23] (fun a wr => ∃ (i N : Nat), i ≤ L.length ∧ a = .int .i64 (i : Int) ∧ N ≤ i ∧ Hid (CO w r s n p c L N (colL n set k (L.take i)) wr)) (fun a _ => L.length - (RowKit.intOf a).toNat)
 case atStart => exact ⟨0, 0, Nat.zero_le _, rfl, Nat.le_refl _, H2⟩
 case round =>
 clear H2
 obtain ⟨i, N, hi, rfl, hN, S0⟩ := hrel
 obtain ⟨w3, hw3⟩ : ∃ w3, w3 = wr := ⟨_, rfl⟩
 rw [← hw3] at S0 ⊢
 clear hw3
 by_cases hlt : i < L.length
 case neg =>
  obtain rfl : i = L.length := by omega
  have hnl : ¬ (L.length : Int) < (L.length : Int) := by omega
  rw [List.take_length] at S0
  go_wp2_with fail
  go_ret
  exact ⟨rfl, ⟨N, by omega, by rw [HF.out]; exact S0.out.mp⟩, S0.out.gr⟩
 case pos =>
 have hlt' : (i : Int) < (L.length : Int) := by omega
 obtain ⟨x, hx⟩ : ∃ x, L[i]? = some x := ⟨_, List.getElem?_eq_getElem hlt⟩
 have hxm := List.mem_of_getElem? hx
 obtain ⟨-, b, off, rfl, hq, hc⟩ := rw_cells S0.out.rd.rd (by omega)
 obtain ⟨a0, a1⟩ := hc i x hx
 have HX := Lib.hid hx
 have HW := Lib.hid (any_memT HOK.out.2.1 hxm)
 have HXM := Lib.hid hxm
 clear hc hx hxm
 obtain ⟨k1, k2⟩ := tone_box w3 #[.int .i64 x.id, .slice x.p x.nx.length x.c] 70
 have S1 := Lib.hid (And.intro (S0.out.keep k2) k1)
 clear k1 k2 S0
 go_upto_region 7 with fail
 generalize w3.alloc _ = w4 at *
 generalize w3.heap.size = Bx at *
 clear a0 a1
 have e0 : w4.cell? ⟨Bx, 0, none⟩ = some (.int .i64 x.id) := cell_of_row _ _ _ _ _ _ S1.out.2
 have e1 : w4.cell? ⟨Bx, 1, none⟩ = some (.slice x.p x.nx.length x.c) := cell_of_row _ _ _ _ _ _ S1.out.2
 go_wp2_with fail
 refine (mnext_any x k hk8 _ w4 (S1.out.1.rd.ok x HXM.out)).mono ?_
 rintro e w5 ⟨rfl, hg⟩
 have S2 := Lib.hid (And.intro (S1.out.1.keep hg) (kept_row S1.out.2 hg (by simp)))
 clear hg S1 e0 e1
 have e0 : w5.cell? ⟨Bx, 0, none⟩ = some (.int .i64 x.id) := cell_of_row _ _ _ _ _ _ S2.out.2
 obtain ⟨d0, d1, d2, d3⟩ := row4T S2.out.1.bx
 go_wp2_with fail
 refine (iplc_any x.id n w5).mono ?_
 rintro e w6 ⟨rfl, hg⟩
 have S3 := Lib.hid (S2.out.1.keep hg)
 clear hg S2 e0 d0 d1 d2 d3
 obtain ⟨m, hm1⟩ : ∃ m : Nat, plB x.id n = (m : Int) := by
  have : 0 ≤ plB x.id n := by
   unfold plB
   split
   ·rename_i h
    obtain ⟨hl, h1, h2⟩ := pl_fields h
    rcases hl with rfl | rfl | rfl | rfl <;> omega
   ·omega
  exact Int.eq_ofNat_of_zero_le this
 have hm64 : m < 64 := by have := plB_lt64 x.id n; omega
 obtain ⟨st, hst⟩ : ∃ st, plS x.id n = st := ⟨_, rfl⟩
 obtain ⟨h, hh⟩ : ∃ h, nxI x.nx k = h := ⟨_, rfl⟩
 have HST : Hid (colL n set k (L.take (i + 1)) = if st = set ∧ h ≠ 0 then putU (colL n set k (L.take i)) h ((colL n set k (L.take i) h).getD 0 ||| b2 m) else colL n set k (L.take i)) := Lib.hid (by
  rw [colL_take HX.out]
  unfold colS
  rw [hst, hh, hm1]; rfl)
 have HNX : Hid (h ≠ 0 → 1 ≤ h ∧ h ≤ 99) := Lib.hid (by rw [← hh]; exact fun h0 => nx_in HW.out h0)
 have HCO : Hid (ColOk (colL n set k (L.take i))) := Lib.hid (colL_ok HOK.out.2.1 i)
 rw [hst, hh, hm1]
 clear hst hh hm1
 by_cases h1 : st = set
 case neg =>
  have h1' : (st == set) = false := by simpa using h1
  have HS2 : Hid (CO w r s n (some ⟨b, off, none⟩) c L N (colL n set k (L.take (i + 1))) w6) := Lib.hid (by rw [HST.out, if_neg (fun h => h1 h.1)]; exact S3.out)
  clear h1
  go_wp2_with fail
  exact ⟨⟨i + 1, N, by omega, congrArg _ (by omega), by omega, HS2⟩, by simp only [RowKit.intOf]; omega⟩
 have h1' : (st == set) = true := by simpa using h1
 by_cases h2 : h = 0
 case pos =>
  have h2' : (h != 0) = false := by simpa using h2
  have HS2 : Hid (CO w r s n (some ⟨b, off, none⟩) c L N (colL n set k (L.take (i + 1))) w6) := Lib.hid (by rw [HST.out, if_neg (fun h3 => h3.2 h2)]; exact S3.out)
  clear h1 h2
  go_wp2_with fail
  exact ⟨⟨i + 1, N, by omega, congrArg _ (by omega), by omega, HS2⟩, by simp only [RowKit.intOf]; omega⟩
 have h2' : (h != 0) = true := by simpa using h2
 have hh1 := HNX.out h2
 obtain ⟨f, hf⟩ : ∃ f, colL n set k (L.take i) = f := ⟨_, rfl⟩
 rw [hf] at HST HCO S3
 have hU := HCO.out.getD h
 obtain ⟨y, hy⟩ : ∃ y, (f h).getD 0 = y := ⟨_, rfl⟩
 rw [hy] at hU
 have hor : U64 (y ||| b2 m) := Nat.or_lt_two_pow (n := 64) hU (b2_u64 hm64)
 have S4 := Lib.hid (S3.out.keep (grown_drew (grown_refl _ none)))
 have hlook := (S4.out.mp.look (x := h) (by unfold I64; omega)).1
 rw [hy] at hlook
 obtain ⟨w7, hput, hmp, hgr⟩ := S4.out.mp.put (x := h) (d := y ||| b2 m) (by omega) (by unfold I64; omega) hor
 have hor2 : bits .or .u64 (y : Int) (IntKind.u64.wrap (2 ^ m)) = ((y ||| b2 m : Nat) : Int) := by rw [pow_word m hm64, orU _ _ hU (b2_u64 hm64)]
 rw [← hor2] at hput
 have HS2 : Hid (CO w r s n (some ⟨b, off, none⟩) c L (N + 1) (colL n set k (L.take (i + 1))) w7) := Lib.hid (by
  rw [HST.out, if_pos ⟨h1, h2⟩, hy]
  exact S4.out.put hmp hgr)
 have m1 : (m : Int) < 64 := by omega
 have m0 : ¬ (m : Int) < 0 := by omega
 clear h1 h2 hh1 hf hy hmp hgr HST HCO hor hor2 S3 S4
 go_upto_region 10 with fail
 go_region
 clear hlook hput m1 m0
 go_wp2_with fail
 exact ⟨⟨i + 1, N + 1, by omega, congrArg _ (by omega), by omega, HS2⟩, by simp only [RowKit.intOf]; omega⟩
end Go.Proofs.YtpogblengagpaaaDoor

/- tables, the reference's functions: inside, plane, Row, Hop. -/
namespace Go.Proofs.YtpogblengagpaaaDoor
set_option maxRecDepth 100000
open Go.RowKit Go.Maps Bs
def isW (id : Int) (x : Rw) : Bool := decide (x.id = id)
def fdW (L : List Rw) (id : Int) : Option Rw := L.find? (isW id)
def zRw : Rw := ⟨0, [], none, 0⟩
end Go.Proofs.YtpogblengagpaaaDoor

/- tables, the reference's functions: build. -/
namespace Go.Proofs.YtpogblengagpaaaDoor
set_option maxRecDepth 100000
open Go.RowKit Bs
theorem row3B {w : World} {b : Nat} {x y z : Value} {t : TypeId} (h : w.heap[b]? = some (.cells #[x, y, z] t (0, 0))) : w.cell? ⟨b, 0, none⟩ = some x ∧ w.cell? ⟨b, 1, none⟩ = some y ∧ w.cell? ⟨b, 2, none⟩ = some z :=
 ⟨cell_of_row _ _ _ _ _ _ h, cell_of_row _ _ _ _ _ _ h, cell_of_row _ _ _ _ _ _ h⟩
theorem RdX.over {lo : Nat} {w w1 : World} {v : Value} {p : Option Addr} {c : Nat} {X : List Int} {r : Nat} (h : RdX lo w v p c X) (g : w.grownBy w1 (some r)) (hr : ∀ b, lo ≤ b → b ≠ r) : RdX lo w1 v p c X :=
 ⟨(h.1.grown g (fun b hb e => hr b hb.1 (Option.some.inj e))).mono (fun b hb => ⟨hb.1, Nat.lt_of_lt_of_le hb.2.1 g.size, hb.2.2⟩), h.2⟩
theorem store4B {w : World} {b : Nat} {t : TypeId} {z0 z1 z2 z3 : Value} (u0 u1 u2 u3 : Value) (h : w.heap[b]? = some (.cells #[z0, z1, z2, z3] t (0, 0))) :
  ((((w.setCell ⟨b, 0, none⟩ u0).setCell ⟨b, 1, none⟩ u1).setCell ⟨b, 2, none⟩ u2).setCell ⟨b, 3, none⟩ u3).heap[b]? = some (.cells #[u0, u1, u2, u3] t (0, 0)) ∧ w.grownBy ((((w.setCell ⟨b, 0, none⟩ u0).setCell ⟨b, 1, none⟩ u1).setCell ⟨b, 2, none⟩ u2).setCell ⟨b, 3, none⟩ u3) (some b) := by
 have h1 := heap_setCell_same w b 0 _ _ u0 h
 have h2 := heap_setCell_same _ b 1 _ _ u1 h1
 have h3 := heap_setCell_same _ b 2 _ _ u2 h2
 have h4 := heap_setCell_same _ b 3 _ _ u3 h3
 exact ⟨h4, grown_trans (grown_trans (grown_trans (grown_setCell w ⟨b, 0, none⟩ u0) (grown_setCell _ ⟨b, 1, none⟩ u1)) (grown_setCell _ ⟨b, 2, none⟩ u2)) (grown_setCell _ ⟨b, 3, none⟩ u3)⟩
theorem rwB_row (w : World) (x : Rw) (t : TypeId) : ∀ j u, (rwC x)[j]? = some u → (w.alloc (.cells #[.int .i64 x.id, .slice x.p x.nx.length x.c] t)).cell? ((⟨w.heap.size, 0, none⟩ : Addr).add j) = some u := by
 intro j u hu
 rw [add_plain]
 have hb := heap_alloc_new w (.cells #[.int .i64 x.id, .slice x.p x.nx.length x.c] t)
 rcases j with _ | _ | j
 ·cases hu; exact cell_of_row _ _ _ _ _ _ hb
 ·cases hu; exact cell_of_row _ _ _ _ _ _ hb
 ·simp [rwC] at hu
theorem info_rowT : (Tryd.prog.info? 70).map (fun i => (i.zero, i.size, i.bytes)) = some (some (.agg #[.int .i64 0, .slice none 0 0]), 2, 32) := by kernel_rfl
end Go.Proofs.YtpogblengagpaaaDoor

/- empty -/
namespace Go.Proofs.YtpogblengagpaaaDoor
set_option maxRecDepth 100000
end Go.Proofs.YtpogblengagpaaaDoor

/- empty -/
namespace Go.Proofs.YtpogblengagpaaaDoor
set_option maxRecDepth 100000
end Go.Proofs.YtpogblengagpaaaDoor

/- empty -/
namespace Go.Proofs.YtpogblengagpaaaDoor
set_option maxRecDepth 100000
end Go.Proofs.YtpogblengagpaaaDoor

/- empty -/
namespace Go.Proofs.YtpogblengagpaaaDoor
set_option maxRecDepth 100000
end Go.Proofs.YtpogblengagpaaaDoor

/- empty -/
namespace Go.Proofs.YtpogblengagpaaaDoor
set_option maxRecDepth 100000
end Go.Proofs.YtpogblengagpaaaDoor

/- empty -/
namespace Go.Proofs.YtpogblengagpaaaDoor
set_option maxRecDepth 100000
end Go.Proofs.YtpogblengagpaaaDoor

/- empty -/
namespace Go.Proofs.YtpogblengagpaaaDoor
set_option maxRecDepth 100000
end Go.Proofs.YtpogblengagpaaaDoor

/- empty -/
namespace Go.Proofs.YtpogblengagpaaaDoor
set_option maxRecDepth 100000
end Go.Proofs.YtpogblengagpaaaDoor

/- empty -/
namespace Go.Proofs.YtpogblengagpaaaDoor
set_option maxRecDepth 100000
end Go.Proofs.YtpogblengagpaaaDoor

/- empty -/
namespace Go.Proofs.YtpogblengagpaaaDoor
set_option maxRecDepth 100000
end Go.Proofs.YtpogblengagpaaaDoor

/- empty -/
namespace Go.Proofs.YtpogblengagpaaaDoor
set_option maxRecDepth 100000
end Go.Proofs.YtpogblengagpaaaDoor

/- empty -/
namespace Go.Proofs.YtpogblengagpaaaDoor
set_option maxRecDepth 100000
end Go.Proofs.YtpogblengagpaaaDoor

/- empty -/
namespace Go.Proofs.YtpogblengagpaaaDoor
set_option maxRecDepth 100000
end Go.Proofs.YtpogblengagpaaaDoor

/- empty -/
namespace Go.Proofs.YtpogblengagpaaaDoor
set_option maxRecDepth 100000
end Go.Proofs.YtpogblengagpaaaDoor

/- empty -/
namespace Go.Proofs.YtpogblengagpaaaDoor
set_option maxRecDepth 100000
end Go.Proofs.YtpogblengagpaaaDoor

/- empty -/
namespace Go.Proofs.YtpogblengagpaaaDoor
set_option maxRecDepth 100000
end Go.Proofs.YtpogblengagpaaaDoor

/- empty -/
namespace Go.Proofs.YtpogblengagpaaaDoor
set_option maxRecDepth 100000
end Go.Proofs.YtpogblengagpaaaDoor

/- empty -/
namespace Go.Proofs.YtpogblengagpaaaDoor
set_option maxRecDepth 100000
end Go.Proofs.YtpogblengagpaaaDoor

/- empty -/
namespace Go.Proofs.YtpogblengagpaaaDoor
set_option maxRecDepth 100000
end Go.Proofs.YtpogblengagpaaaDoor

/- empty -/
namespace Go.Proofs.YtpogblengagpaaaDoor
set_option maxRecDepth 100000
end Go.Proofs.YtpogblengagpaaaDoor

/- empty -/
namespace Go.Proofs.YtpogblengagpaaaDoor
set_option maxRecDepth 100000
end Go.Proofs.YtpogblengagpaaaDoor

/- empty -/
namespace Go.Proofs.YtpogblengagpaaaDoor
set_option maxRecDepth 100000
end Go.Proofs.YtpogblengagpaaaDoor

/- empty -/
namespace Go.Proofs.YtpogblengagpaaaDoor
set_option maxRecDepth 100000
end Go.Proofs.YtpogblengagpaaaDoor

/- tables, the reference's functions: Hop. -/
namespace Go.Proofs.YtpogblengagpaaaDoor
set_option maxRecDepth 100000
open Go.RowKit Go.Maps Bs
def hopI (L : List Rw) (id : Int) (k : Nat) : Int := nxI ((fdW L id).getD zRw).nx k
end Go.Proofs.YtpogblengagpaaaDoor

/- masks, the reference's Bits: the mathematics. -/
namespace Go.Proofs.YtpogblengagpaaaDoor
set_option maxRecDepth 100000
open Go.RowKit Go.Maps Bs
theorem place_at {s b len : Int} (h : atOk s b len = true) : plOk (atI s b len) len = true ∧ plS (atI s b len) len = s ∧ plB (atI s b len) len = b := by
 have h0 := h
 unfold atOk inV at h
 simp only [Bool.and_eq_true, decide_eq_true_eq] at h
 obtain ⟨⟨⟨hv, hb⟩, hs⟩, hm⟩ := h
 have hl : len = 8 ∨ len = 16 ∨ len = 32 ∨ len = 64 := by
  have := pl_fields (id := 1) (len := len) (by unfold plOk inV; simp [hv])
  exact this.1
 have e : atI s b len = s * len + b + 1 := by unfold atI; rw [if_pos h0]
 have hp : plOk (s * len + b + 1) len = true := by
  unfold plOk inV
  simp only [Bool.and_eq_true, decide_eq_true_eq]
  refine ⟨hv, ?_, hm⟩
  rcases hl with rfl | rfl | rfl | rfl <;> omega
 rw [e]
 refine ⟨hp, ?_, ?_⟩
 ·unfold plS
  rw [if_pos hp, Int.tdiv_eq_ediv_of_nonneg (by rcases hl with rfl | rfl | rfl | rfl <;> omega)]
  rcases hl with rfl | rfl | rfl | rfl <;> omega
 ·unfold plB
  rw [if_pos hp]
  rcases hl with rfl | rfl | rfl | rfl <;> omega
def btP (L : List Rw) (n set u : Int) (k : Nat) (j : Nat) : Bool := atOk set (j : Int) n && decide (0 < u) && decide (hopI L (atI set (j : Int) n) k = u)
def btA (P : Nat → Bool) : Nat → Nat
 | 0 => 0
 | i + 1 => if P i = true then btA P i ||| b2 i else btA P i
theorem btA_bit (P : Nat → Bool) : ∀ N j, (btA P N).testBit j = true ↔ j < N ∧ P j = true
 | 0, j => by unfold btA; simp
 | i + 1, j => by
  have ih := btA_bit P i j
  unfold btA
  by_cases hp : P i = true
  ·rw [if_pos hp, Nat.testBit_or]
   unfold b2
   rw [Nat.testBit_two_pow]
   simp only [Bool.or_eq_true, decide_eq_true_eq, ih]
   constructor
   ·rintro (h | rfl)
    ·exact ⟨by omega, h.2⟩
    ·exact ⟨by omega, hp⟩
   ·rintro ⟨h1, h2⟩
    by_cases e : i = j
    ·exact Or.inr e
    ·exact Or.inl ⟨by omega, h2⟩
  ·rw [if_neg hp, ih]
   constructor
   ·rintro h; exact ⟨by omega, h.2⟩
   ·rintro ⟨h1, h2⟩
    by_cases e : i = j
    ·subst e; exact absurd h2 hp
    ·exact ⟨by omega, h2⟩
theorem ascW_pair : ∀ E : List Rw, ascB ltW E = true → E.Pairwise (fun x y => x.id < y.id)
 | [], _ => List.Pairwise.nil
 | [a], _ => List.pairwise_singleton _ _
 | a :: b :: t, h => by
  rw [ascB, Bool.and_eq_true] at h
  have ih := ascW_pair (b :: t) h.2
  have hab : a.id < b.id := of_decide_eq_true h.1
  refine List.pairwise_cons.2 ⟨fun y hy => ?_, ih⟩
  rcases List.mem_cons.1 hy with rfl | hy
  ·exact hab
  ·have := (List.pairwise_cons.1 ih).1 y hy; omega
theorem fdW_mem {L : List Rw} (h : ascB ltW L = true) {x : Rw} (hx : x ∈ L) : fdW L x.id = some x := by
 have hp := ascW_pair L h
 clear h
 unfold fdW
 induction L with
 | nil => cases hx
 | cons a t ih =>
  obtain ⟨h1, h2⟩ := List.pairwise_cons.1 hp
  rw [List.find?_cons]
  rcases List.mem_cons.1 hx with rfl | hm
  ·simp [isW]
  ·have := h1 x hm
   have e : isW x.id a = false := by unfold isW; simp; omega
   rw [e]
   exact ih hm h2
theorem mask_eq {r s n : Int} {L : List Rw} (h : ckT r s n L = 0) {N : Nat} (hN : n = (N : Int)) {k : Nat} {set u : Int} (hu : 0 < u) :
  btA (btP L n set u k) N = (colL n set k L u).getD 0 := by
 have ho := ck_ok h
 refine Nat.eq_of_testBit_eq fun j => ?_
 rw [Bool.eq_iff_iff, btA_bit, colL_bit]
 unfold btP
 simp only [Bool.and_eq_true, decide_eq_true_eq]
 constructor
 ·rintro ⟨hj, ⟨h1, -⟩, h3⟩
  obtain ⟨p1, p2, p3⟩ := place_at h1
  unfold hopI at h3
  cases hf : fdW L (atI set (j : Int) n) with
  | none =>
   rw [hf] at h3
   have : nxI ([] : List Int) k = 0 := rfl
   simp only [Option.getD_none] at h3
   have h4 : (0 : Int) = u := h3
   omega
  | some x =>
   rw [hf, Option.getD_some] at h3
   have hx := List.mem_of_find?_eq_some hf
   have he : x.id = atI set (j : Int) n := by
    have := List.find?_some hf
    unfold isW at this
    simpa using this
   refine ⟨x, hx, by rw [he]; exact p2, h3, by omega, by rw [he, p3]; omega⟩
 ·rintro ⟨x, hx, h1, h2, h3, h4⟩
  have hw := any_memT ho.2.1 hx
  have hid : 1 ≤ x.id ∧ x.id ≤ 256 := by
   unfold wrW inV at hw
   rw [Bool.or_eq_false_iff] at hw
   simpa using hw.1
  have hvl : vl n = true := by
   have := ho.1
   unfold hdT at this
   have hl : ¬ L.length = 0 := by
    intro e
    have := List.eq_nil_of_length_eq_zero e
    subst this
    cases hx
   simp [hl] at this
   exact this.2
  have hp : plOk x.id n = true := by unfold plOk inV; simp [hvl, hid.1, hid.2]
  obtain ⟨a1, a2⟩ := at_place hp
  have hB : plB x.id n = (j : Int) := by
   have : 0 ≤ plB x.id n := by
    obtain ⟨hl, -⟩ := pl_fields hp
    unfold plB
    rw [if_pos hp]
    rcases hl with rfl | rfl | rfl | rfl <;> omega
   omega
  have hjn : (j : Int) < n := by
   rw [← hB]
   obtain ⟨hl, -⟩ := pl_fields hp
   unfold plB
   rw [if_pos hp]
   rcases hl with rfl | rfl | rfl | rfl <;> omega
  rw [h1, hB] at a1 a2
  refine ⟨by omega, ⟨a1, hu⟩, ?_⟩
  unfold hopI
  rw [a2, fdW_mem ho.2.2.2.2.1 hx, Option.getD_some]
  exact h2
end Go.Proofs.YtpogblengagpaaaDoor

/- masks, the reference's functions: Bits. -/
namespace Go.Proofs.YtpogblengagpaaaDoor
set_option maxRecDepth 100000
open Go.RowKit Go.Maps Bs
end Go.Proofs.YtpogblengagpaaaDoor

/- empty -/
namespace Go.Proofs.YtpogblengagpaaaDoor
set_option maxRecDepth 100000
end Go.Proofs.YtpogblengagpaaaDoor

/- masks, the reference's functions: Mask, Next, Local. -/
namespace Go.Proofs.YtpogblengagpaaaDoor
set_option maxRecDepth 100000
open Go.RowKit Go.Maps Bs
theorem coF_in {r s n : Int} {L : List Rw} {k : Nat} {set u : Int} (hk : k < 8) (h : ckT r s n L = 0) : coF r s n L (k : Int) set u = colL n set k L u := by
 unfold coF
 rw [if_pos ⟨⟨by omega, by omega⟩, h⟩, Int.toNat_natCast]
end Go.Proofs.YtpogblengagpaaaDoor

/- empty -/
namespace Go.Proofs.YtpogblengagpaaaDoor
set_option maxRecDepth 100000
end Go.Proofs.YtpogblengagpaaaDoor

/- tables: rows that are their owner's. -/
namespace Go.Proofs.YtpogblengagpaaaDoor
set_option maxRecDepth 100000
open Go.RowKit Bs
def Rw.v (x : Rw) : Value := .slice x.p x.nx.length x.c
structure OwnT (lo : Nat) (w : World) (v : Value) (M : List Rw) : Prop where
 own : w.ownsRow lo 70 2 v M.length (M.flatMap rwC)
 nx : ∀ x ∈ M, w.ownsRow lo 3 1 x.v x.nx.length (x.nx.map tv)
 ap : ∀ x ∈ M, ∀ g, x.v.ownBlock = some g → v.ownBlock ≠ some g
 pw : M.Pairwise fun x y => ∀ g, x.v.ownBlock = some g → y.v.ownBlock ≠ some g
theorem own_keptN {w w1 : World} {base size n : Nat} {e : TypeId} {v : Value} {xs : List Value} (h : w.ownsRow base e size v n xs) (g : w.grownBy w1 none) : w1.ownsRow base e size v n xs := h.kept g (by cases v.ownBlock <;> simp)
theorem own_keptV {w w1 : World} {base size n : Nat} {e : TypeId} {v : Value} {u : Value} {xs : List Value} (h : w.ownsRow base e size v n xs) (g : w.grownBy w1 u.ownBlock) (hne : ∀ b, v.ownBlock = some b → u.ownBlock ≠ some b) : w1.ownsRow base e size v n xs := by
 refine h.kept g ?_
 cases hv : v.ownBlock with
 | none => exact .inl rfl
 | some b => exact .inr (fun e => hne b hv e.symm)
theorem own_otherL {w w' : World} {base size n b : Nat} {e : TypeId} {v : Value} {xs : List Value} (h : w.ownsRow base e size v n xs) (g : w.grownBy w' (some b)) (hb : b < base) : w'.ownsRow base e size v n xs := by
 refine h.kept g ?_
 cases hv : v.ownBlock with
 | none => exact .inl rfl
 | some k => exact .inr (fun e => by have := (h.lt k hv).1; have := Option.some.inj e; omega)
theorem OwnT.nil (lo : Nat) (w : World) : OwnT lo w (.slice none 0 0) [] := ⟨World.ownsRow_nil _ _ _ _, fun x hx => (by cases hx), fun x hx => (by cases hx), List.Pairwise.nil⟩
theorem OwnT.keep {lo : Nat} {w w1 : World} {v : Value} {M : List Rw} (h : OwnT lo w v M) (g : w.grownBy w1 none) : OwnT lo w1 v M := ⟨own_keptN h.own g, fun x hx => own_keptN (h.nx x hx) g, h.ap, h.pw⟩
theorem OwnT.mono {lo lo2 : Nat} {w : World} {v : Value} {M : List Rw} (h : OwnT lo w v M) (hl : lo2 ≤ lo) : OwnT lo2 w v M := ⟨h.own.mono hl, fun x hx => (h.nx x hx).mono hl, h.ap, h.pw⟩
theorem OwnT.over {lo r : Nat} {w w1 : World} {v : Value} {M : List Rw} (h : OwnT lo w v M) (g : w.grownBy w1 (some r)) (hr : r < lo) : OwnT lo w1 v M :=
 ⟨own_otherL h.own g hr, fun x hx => own_otherL (h.nx x hx) g hr, h.ap, h.pw⟩
theorem OwnT.push {lo : Nat} {w0 w w1 : World} {v v' : Value} {M : List Rw} {x : Rw} (h : OwnT lo w0 v M) (hlo : lo ≤ w0.heap.size) (g0 : w0.grownBy w none) (hx : w.ownsRow w0.heap.size 3 1 x.v x.nx.length (x.nx.map tv)) (hown : w1.ownsRow lo 70 2 v' (M ++ [x]).length ((M ++ [x]).flatMap rwC)) (g : w.grownBy w1 v.ownBlock) (hv : v'.ownBlock = v.ownBlock ∨ ∀ b, some b = v'.ownBlock → w.heap.size ≤ b) : OwnT lo w1 v' (M ++ [x]) := by
 have hvl : ∀ b, v.ownBlock = some b → b < w0.heap.size := fun b e => (h.own.lt b e).2
 have hyl : ∀ y ∈ M, ∀ b, y.v.ownBlock = some b → b < w0.heap.size := fun y hy b e => ((h.nx y hy).lt b e).2
 have hxl : ∀ b, x.v.ownBlock = some b → w0.heap.size ≤ b ∧ b < w.heap.size := fun b e => hx.lt b e
 have hv' : ∀ b, v'.ownBlock = some b → (v.ownBlock = some b ∨ w.heap.size ≤ b) := fun b e => by
  rcases hv with hv | hv
  ·exact Or.inl (hv ▸ e)
  ·exact Or.inr (hv b e.symm)
 refine ⟨hown, fun y hy => ?_, fun y hy b hb e => ?_, ?_⟩
 ·rcases List.mem_append.1 hy with hy | hy
  ·exact own_keptV (own_keptN (h.nx y hy) g0) g (h.ap y hy)
  ·rw [List.mem_singleton.1 hy]
   exact (own_keptV hx g (fun b hb e => by have := hxl b hb; have := hvl b e; omega)).mono hlo
 ·have h0 := g0.size
  rcases List.mem_append.1 hy with hy | hy
  ·rcases hv' b e with e | e
   ·exact h.ap y hy b hb e
   ·have := hyl y hy b hb; omega
  ·rw [List.mem_singleton.1 hy] at hb
   have := hxl b hb
   rcases hv' b e with e | e
   ·have := hvl b e; omega
   ·omega
 ·refine List.pairwise_append.2 ⟨h.pw, List.pairwise_singleton _ _, fun y hy z hz b hb e => ?_⟩
  rw [List.mem_singleton.1 hz] at e
  have := hyl y hy b hb
  have := hxl b e
  omega
theorem RdW.old {w : World} {q : Nat → Prop} {p : Option Addr} {c : Nat} {L : List Rw} (h : RdW w q p c L) : RdW w (· < w.heap.size) p c L := ⟨h.rd.old, fun x hx => ⟨(h.ok x hx).rd.old, (h.ok x hx).hc⟩⟩
end Go.Proofs.YtpogblengagpaaaDoor

/- empty -/
namespace Go.Proofs.YtpogblengagpaaaDoor
set_option maxRecDepth 100000
end Go.Proofs.YtpogblengagpaaaDoor

/- The tape's orders. -/
namespace Go.Proofs.YtpogblengagpaaaDoor
set_option maxRecDepth 100000
open Go.RowKit Bs
def Ord (l : List Nat) (i : Nat) : Prop := l.length = i ∧ l.Nodup ∧ ∀ x ∈ l, x < i
theorem ord_next {l : List Nat} {i k : Nat} (h : Ord l i) : Ord (l.take k ++ [i] ++ l.drop k) (i + 1) := by
 obtain ⟨h1, h2, h3⟩ := h
 refine ⟨?_, ?_, ?_⟩
 ·simp; omega
 ·have e : (l.take k ++ [i] ++ l.drop k).Perm (i :: l) := by
   rw [List.append_assoc]
   have e2 : (l.take k ++ ([i] ++ l.drop k)).Perm (([i] ++ l.drop k) ++ l.take k) := List.perm_append_comm
   refine e2.trans ?_
   rw [List.append_assoc]
   show (i :: (l.drop k ++ l.take k)).Perm (i :: l)
   refine List.Perm.cons i ?_
   refine List.perm_append_comm.trans ?_
   rw [List.take_append_drop]
  rw [e.nodup_iff, List.nodup_cons]
  exact ⟨fun hm => by have := h3 i hm; omega, h2⟩
 ·intro x hx
  rw [List.mem_append, List.mem_append] at hx
  rcases hx with (hx | hx) | hx
  ·have := h3 x (List.mem_of_mem_take hx); omega
  ·have : x = i := by simpa using hx
   omega
  ·have := h3 x (List.mem_of_mem_drop hx); omega
def OrdRel (a : Nat) (W : World) (i : Nat) (v : Value) (w' : World) : Prop := ∃ l, Ord l i ∧ w'.ownsRow W.heap.size 3 1 v i (l.map zv) ∧ (i = 0 → v = .slice none 0 0) ∧ St a W w'
def OrdPost (a : Nat) (n : Nat) (W : World) (e : Ending) (w' : World) : Prop := ∃ v, e = .returned v ∧ OrdRel a W n v w'
set_option maxHeartbeats 3200000 in
theorem order_any (a n : Nat) (hn : n ≤ 1000) (w : World) (hT : Tp w a) :
  Calls Tryd.prog 36 #[.pointer (some ⟨a, 0, none⟩), .int .i64 (n : Int)] w fun e w' => OrdPost a n w e w' := by
 have ha := hT.lt
 have hS0 : Hid (OrdRel a w 0 (.slice none 0 0) w) := Lib.hid ⟨[], ⟨rfl, List.nodup_nil, fun x hx => by cases hx⟩, World.ownsRow_nil _ _ _ _, fun _ => rfl, grown_refl _ _, hT⟩
 clear hT
 go_enter Tryd.func36, Tryd.ntmps36
 go_wp2_with fail
 go_loopw [5, 6] (fun v i wr => ∃ j : Nat, j ≤ n ∧ i = .int .i64 (j : Int) ∧ OrdRel a w j v wr) (fun _ i _ => (n - (RowKit.intOf i).toNat))
 case atStart => exact ⟨0, Nat.zero_le _, rfl, hS0.out⟩
 case round =>
  obtain ⟨j, hj, rfl, hR⟩ := hrel
  have HR := Lib.hid hR
  clear hR hS0
  by_cases hlt : j < n
  ·obtain ⟨l, hO, hown, hv0, hSt⟩ := HR.out
   have HO := Lib.hid hO
   have hT := hSt.2
   have HOWN := Lib.hid hown
   have HST := Lib.hid hSt
   clear hO hown hSt HR
   go_wp2_with fail
   refine (next_any a ((j : Int) + 1) (by unfold I64; omega) _ hT).mono ?_
   rintro e w3 ⟨r, rfl, hr, hs⟩
   obtain ⟨k, rfl⟩ := Int.eq_ofNat_of_zero_le hr.1
   have hkj : k ≤ j := by have := hr.2.1 (by omega); omega
   have HS3 := Lib.hid (HST.out.trans hs)
   have HOWN3 := Lib.hid (own_kept ha HOWN.out hs.1)
   clear hr hs hT HST HOWN
   by_cases hj0 : j = 0
   ·subst hj0
    obtain rfl : k = 0 := by omega
    obtain rfl := hv0 rfl
    have hl : l = [] := List.eq_nil_of_length_eq_zero HO.out.1
    clear hv0
    obtain ⟨i0, hi, hz0, hz1, hz2⟩ := info_parts info_int
    have hsz3 := Lib.hid HS3.out.1.size
    go_wp2_with (first
     | (at_builtin; refine wpList_append_own_none rfl _ _ 22 rfl w3.heap.size 3 i0 1 Tryd.underlying22 hi (.slice none 0 0) 0 [] rfl (World.ownsRow_nil _ _ _ _) rfl ?_)
     | (at_builtin; refine wpList_append_ints rfl _ _ rfl w3.heap.size (.slice none 0 0) 0 [] rfl (World.ownsRow_nil _ _ _ _) (some ⟨w3.heap.size, 0, none⟩) 1 1 [0] rfl rfl (by intro h; cases h) (by intro ad h; obtain rfl := Option.some.inj h; exact cell_one _ _ _) (by simp) (by simp) ?_; intro v2 w5 hown2 hg2; have HOWN2 := Lib.hid hown2; have HG2 := Lib.hid (grown_trans (World.grownBy_alloc w3 _ none) hg2); clear hown2 hg2)
     | (at_builtin; refine wpList_append_own_none rfl _ _ 22 rfl w3.heap.size 3 i0 1 Tryd.underlying22 hi v2 1 [zv 0] rfl HOWN2.out rfl ?_))
    go_roundw
    case rel =>
     refine ⟨1, by omega, rfl, [0], ⟨rfl, by simp, by simp⟩, ?_, by omega, ?_⟩
     ·exact HOWN2.out.mono hsz3.out
     ·exact ⟨grown_trans HS3.out.1 (grown_none HG2.out _), HS3.out.2.keep HG2.out⟩
    case measure => simp [RowKit.intOf]; omega
   ·have hj1 : 0 < j := by omega
    obtain ⟨g, cap, rfl, hgb⟩ := own_form HOWN3.out hj1
    obtain ⟨hcap1, hcap2⟩ := own_cap HOWN3.out
    have hcap3 : cap ≤ 9223372036854775807 := by unfold maxLen at hcap2; omega
    have hgl := (HOWN3.out.lt g rfl).2
    have hll := HO.out.1
    have HLL := Lib.hid hll
    have hkc : k ≤ cap := by omega
    have hkl : (l.take k).length = k := by rw [List.length_take]; omega
    have hdl : (l.drop k).length = j - k := by rw [List.length_drop]; omega
    have HKL := Lib.hid hkl
    have HDL := Lib.hid hdl
    have hj9 : j ≤ 1000 := by omega
    have hsz3 := Lib.hid HS3.out.1.size
    have N1 : Hid (∀ ad, some (⟨g, 0, none⟩ : Addr) = some ad → ∀ i u, ((l.take k).map zv)[i]? = some u → w3.cell? (ad.add i) = some u) := by
     refine Lib.hid ?_
     intro ad h i u hu
     obtain rfl := Option.some.inj h
     refine HOWN3.out.cells rfl i u ?_
     rw [List.map_take, List.getElem?_take] at hu
     split at hu
     ·exact hu
     ·cases hu
    clear hll hkl hdl hv0 hcap2
    generalize hT1 : l.take k = t1 at *
    generalize hT2 : l.drop k = t2 at *
    have HT1 := Lib.hid hT1
    have HT2 := Lib.hid hT2
    clear hT1
    by_cases hkj : k < j
    ·have hkcap : k < cap := by omega
     have news : Hid (∀ (W : World) c, W.ownsRow w.heap.size 3 1 (.slice (some ⟨g, 0, none⟩) j c) j (l.map zv) → ∀ i u, (t2.map zv)[i]? = some u → W.cell? ⟨g, k + i, none⟩ = some u) := by
      refine Lib.hid ?_
      intro W c h i u hu
      rw [← hT2, List.map_drop, List.getElem?_drop] at hu
      have := h.cells rfl (k + i) u hu
      rw [add_plain, Nat.zero_add] at this
      exact this
     clear hT2
     go_wp2_with (first
      | (at_builtin; refine wpList_append_ints rfl _ _ rfl w3.heap.size (.slice none 0 0) 0 [] rfl (World.ownsRow_nil _ _ _ _) (some ⟨g, 0, none⟩) k cap t1 rfl HKL.out.symm (by intro h; cases h) N1.out (by rw [HKL.out]; omega) (Nat.le_refl _) ?_; intro v1 w4 hown1 hg1; rw [Nat.zero_add, List.nil_append, HKL.out] at hown1; have HOWN1 := Lib.hid hown1; have HO4 := Lib.hid (own_apart HOWN3.out (World.ownsRow_nil w3 w3.heap.size 3 1) hgl hg1); have HS4 := Lib.hid (HS3.out.own_grow (World.ownsRow_nil w3 w3.heap.size 3 1) hsz3.out ha hg1); have HZ4 := Lib.hid hg1.size; clear hown1 hg1)
      | (at_builtin; refine wpList_append_ints rfl _ _ rfl w3.heap.size v1 k t1 rfl (HOWN1.out.alloc _) (some ⟨w4.heap.size, 0, none⟩) 1 1 [j] rfl rfl (by intro h; cases h) (by intro ad h; obtain rfl := Option.some.inj h; exact cell_one _ _ _) (by simp; omega) (by have := HZ4.out; simp; omega) ?_; intro v2 w5 hown2 hg2; have HOWN2 : Hid (w5.ownsRow w3.heap.size 3 1 v2 (k + 1) ((t1 ++ [j]).map zv)) := Lib.hid hown2; have HO5 := Lib.hid (own_apart (HO4.out.alloc _) (HOWN1.out.alloc _) hgl hg2); have HS5 := Lib.hid ((HS4.out.none_ (World.grownBy_alloc w4 _ none)).own_grow (HOWN1.out.alloc _) hsz3.out ha hg2); have HZ5 : Hid (w3.heap.size ≤ w5.heap.size) := Lib.hid (Nat.le_trans HZ4.out (Nat.le_trans (by simp) hg2.size)); clear hown2 hg2)
      | (at_builtin; refine wpList_append_ints rfl _ _ rfl w3.heap.size v2 (k + 1) (t1 ++ [j]) rfl HOWN2.out _ _ _ t2 rfl (by have := HDL.out; omega) (by intro h; cases h) (by intro ad h; obtain rfl := Option.some.inj h; intro i u hu; rw [add_plain]; exact news.out w5 cap HO5.out i u hu) (by have := HDL.out; omega) HZ5.out ?_; intro v3 w6 hown3 hg3; have HOWN6 := Lib.hid hown3; have HS6 := Lib.hid (HS5.out.own_grow HOWN2.out hsz3.out ha hg3); clear hown3 hg3))
     go_roundw
     case rel =>
      refine ⟨j + 1, by omega, by go_num, l.take k ++ [j] ++ l.drop k, ord_next HO.out, ?_, by omega, HS6.out⟩
      have h6 := HOWN6.out.mono hsz3.out
      rw [← HT1.out, ← HT2.out, show k + 1 + (l.drop k).length = j + 1 by rw [List.length_drop, HLL.out]; omega] at h6
      exact h6
     case measure => simp [RowKit.intOf]; omega
    ·obtain rfl : k = j := by omega
     have ht2 : t2 = [] := by
      rw [← hT2]
      exact List.drop_of_length_le (Nat.le_of_eq HLL.out)
     clear hT2
     have HN2 : Hid (∀ (i : Nat) (u : Value), (t2.map zv)[i]? = some u → False) := Lib.hid (by intro i u hu; rw [ht2] at hu; simp at hu)
     clear ht2
     by_cases hcj : k = cap
     ·subst hcj
      go_wp2_with (first
       | (at_builtin; refine wpList_append_ints rfl _ _ rfl w3.heap.size (.slice none 0 0) 0 [] rfl (World.ownsRow_nil _ _ _ _) (some ⟨g, 0, none⟩) k k t1 rfl HKL.out.symm (by intro h; cases h) N1.out (by rw [HKL.out]; omega) (Nat.le_refl _) ?_; intro v1 w4 hown1 hg1; rw [Nat.zero_add, List.nil_append, HKL.out] at hown1; have HOWN1 := Lib.hid hown1; have HO4 := Lib.hid (own_apart HOWN3.out (World.ownsRow_nil w3 w3.heap.size 3 1) hgl hg1); have HS4 := Lib.hid (HS3.out.own_grow (World.ownsRow_nil w3 w3.heap.size 3 1) hsz3.out ha hg1); have HZ4 := Lib.hid hg1.size; clear hown1 hg1)
       | (at_builtin; refine wpList_append_ints rfl _ _ rfl w3.heap.size v1 k t1 rfl (HOWN1.out.alloc _) (some ⟨w4.heap.size, 0, none⟩) 1 1 [k] rfl rfl (by intro h; cases h) (by intro ad h; obtain rfl := Option.some.inj h; exact cell_one _ _ _) (by simp; omega) (by have := HZ4.out; simp; omega) ?_; intro v2 w5 hown2 hg2; have HOWN2 : Hid (w5.ownsRow w3.heap.size 3 1 v2 (k + 1) ((t1 ++ [k]).map zv)) := Lib.hid hown2; have HO5 := Lib.hid (own_apart (HO4.out.alloc _) (HOWN1.out.alloc _) hgl hg2); have HS5 := Lib.hid ((HS4.out.none_ (World.grownBy_alloc w4 _ none)).own_grow (HOWN1.out.alloc _) hsz3.out ha hg2); have HZ5 : Hid (w3.heap.size ≤ w5.heap.size) := Lib.hid (Nat.le_trans HZ4.out (Nat.le_trans (by simp) hg2.size)); clear hown2 hg2)
       | (at_builtin; refine wpList_append_ints rfl _ _ rfl w3.heap.size v2 (k + 1) (t1 ++ [k]) rfl HOWN2.out _ _ _ t2 rfl (by have := HDL.out; omega) (by intro h; cases h) (by intro ad h i u hu; exact (HN2.out i u hu).elim) (by have := HDL.out; omega) HZ5.out ?_; intro v3 w6 hown3 hg3; have HOWN6 := Lib.hid hown3; have HS6 := Lib.hid (HS5.out.own_grow HOWN2.out hsz3.out ha hg3); clear hown3 hg3))
      go_roundw
      case rel =>
       refine ⟨k + 1, by omega, by go_num, l.take k ++ [k] ++ l.drop k, ord_next HO.out, ?_, by omega, HS6.out⟩
       have h6 := HOWN6.out.mono hsz3.out
       rw [← HT1.out, ← HT2.out, show k + 1 + (l.drop k).length = k + 1 by rw [List.length_drop, HLL.out]; omega] at h6
       exact h6
      case measure => simp [RowKit.intOf]; omega
     ·have hkcap : k < cap := by omega
      go_wp2_with (first
       | (at_builtin; refine wpList_append_ints rfl _ _ rfl w3.heap.size (.slice none 0 0) 0 [] rfl (World.ownsRow_nil _ _ _ _) (some ⟨g, 0, none⟩) k cap t1 rfl HKL.out.symm (by intro h; cases h) N1.out (by rw [HKL.out]; omega) (Nat.le_refl _) ?_; intro v1 w4 hown1 hg1; rw [Nat.zero_add, List.nil_append, HKL.out] at hown1; have HOWN1 := Lib.hid hown1; have HO4 := Lib.hid (own_apart HOWN3.out (World.ownsRow_nil w3 w3.heap.size 3 1) hgl hg1); have HS4 := Lib.hid (HS3.out.own_grow (World.ownsRow_nil w3 w3.heap.size 3 1) hsz3.out ha hg1); have HZ4 := Lib.hid hg1.size; clear hown1 hg1)
       | (at_builtin; refine wpList_append_ints rfl _ _ rfl w3.heap.size v1 k t1 rfl (HOWN1.out.alloc _) (some ⟨w4.heap.size, 0, none⟩) 1 1 [k] rfl rfl (by intro h; cases h) (by intro ad h; obtain rfl := Option.some.inj h; exact cell_one _ _ _) (by simp; omega) (by have := HZ4.out; simp; omega) ?_; intro v2 w5 hown2 hg2; have HOWN2 : Hid (w5.ownsRow w3.heap.size 3 1 v2 (k + 1) ((t1 ++ [k]).map zv)) := Lib.hid hown2; have HO5 := Lib.hid (own_apart (HO4.out.alloc _) (HOWN1.out.alloc _) hgl hg2); have HS5 := Lib.hid ((HS4.out.none_ (World.grownBy_alloc w4 _ none)).own_grow (HOWN1.out.alloc _) hsz3.out ha hg2); have HZ5 : Hid (w3.heap.size ≤ w5.heap.size) := Lib.hid (Nat.le_trans HZ4.out (Nat.le_trans (by simp) hg2.size)); clear hown2 hg2)
       | (at_builtin; refine wpList_append_ints rfl _ _ rfl w3.heap.size v2 (k + 1) (t1 ++ [k]) rfl HOWN2.out _ _ _ t2 rfl (by have := HDL.out; omega) (by intro h; cases h) (by intro ad h i u hu; exact (HN2.out i u hu).elim) (by have := HDL.out; omega) HZ5.out ?_; intro v3 w6 hown3 hg3; have HOWN6 := Lib.hid hown3; have HS6 := Lib.hid (HS5.out.own_grow HOWN2.out hsz3.out ha hg3); clear hown3 hg3))
      go_roundw
      case rel =>
       refine ⟨k + 1, by omega, by go_num, l.take k ++ [k] ++ l.drop k, ord_next HO.out, ?_, by omega, HS6.out⟩
       have h6 := HOWN6.out.mono hsz3.out
       rw [← HT1.out, ← HT2.out, show k + 1 + (l.drop k).length = k + 1 by rw [List.length_drop, HLL.out]; omega] at h6
       exact h6
      case measure => simp [RowKit.intOf]; omega
  ·obtain rfl : j = n := by omega
   go_wp2_with fail
   go_ret
   exact ⟨_, rfl, HR.out⟩
end Go.Proofs.YtpogblengagpaaaDoor

/- The tape's plans: the mathematics. -/
namespace Go.Proofs.YtpogblengagpaaaDoor
set_option maxRecDepth 100000
open Go.RowKit Bs
def ridR (R : List Rt) (k : Nat) : Int := (R[k]?.map Rt.id).getD 0
theorem ridR_at {R : List Rt} {k : Nat} {r : Rt} (h : R[k]? = some r) : ridR R k = r.id := by unfold ridR; rw [h]; rfl
structure PlE (R : List Rt) (O : List Nat) (i : Nat) (id : Int) (E : List Ed) : Prop where
 sub : (E.map Ed.r).Sublist ((O.take i).map (ridR R))
 ids : ∀ e ∈ E, 1 ≤ e.i ∧ e.i ≤ id ∧ e.i ≤ 256
 asc : E.Pairwise (fun x y => x.i < y.i)
theorem PlE.nil (R : List Rt) (O : List Nat) : PlE R O 0 0 [] := ⟨List.nil_sublist _, fun e h => (by cases h), List.Pairwise.nil⟩
theorem take_map_succ {O : List Nat} {i k : Nat} (hk : O[i]? = some k) (f : Nat → Int) : (O.take (i + 1)).map f = (O.take i).map f ++ [f k] := by
 rw [List.take_add_one, hk, List.map_append]; rfl
theorem PlE.skip {R : List Rt} {O : List Nat} {i : Nat} {id : Int} {E : List Ed} (h : PlE R O i id E) : PlE R O (i + 1) id E := by
 refine ⟨h.sub.trans ?_, h.ids, h.asc⟩
 exact List.Sublist.map _ (List.take_sublist_take_left (by omega))
theorem PlE.more {R : List Rt} {O : List Nat} {i : Nat} {id id2 : Int} {E : List Ed} (h : PlE R O i id E) (h2 : id ≤ id2) : PlE R O i id2 E :=
 ⟨h.sub, fun e he => by have := h.ids e he; omega, h.asc⟩
theorem PlE.add {R : List Rt} {O : List Nat} {i k : Nat} {id id2 r : Int} {E : List Ed} (h : PlE R O i id E) (hk : O[i]? = some k) (hr : ridR R k = r) (h0 : 0 ≤ id) (h1 : id < id2) (h2 : id2 ≤ 256) : PlE R O (i + 1) id2 (E ++ [⟨r, id2⟩]) := by
 refine ⟨?_, fun e he => ?_, ?_⟩
 ·rw [List.map_append, take_map_succ hk, hr]
  exact List.Sublist.append h.sub (List.Sublist.refl _)
 ·rcases List.mem_append.1 he with he | he
  ·have := h.ids e he; omega
  ·obtain rfl : e = ⟨r, id2⟩ := by simpa using he
   exact ⟨by show 1 ≤ id2; omega, Int.le_refl _, h2⟩
 ·refine List.pairwise_append.2 ⟨h.asc, List.pairwise_singleton _ _, fun x hx y hy => ?_⟩
  obtain rfl : y = ⟨r, id2⟩ := by simpa using hy
  have := h.ids x hx
  show x.i < id2
  omega
theorem PlE.len {R : List Rt} {O : List Nat} {i : Nat} {id : Int} {E : List Ed} (h : PlE R O i id E) : E.length ≤ i := by
 have := h.sub.length_le
 rw [List.length_map, List.length_map, List.length_take] at this
 omega
theorem rep_noT {L : List Int} (h : ∀ k x, L[k]? = some x → x ∉ L.take k) : repI L = false := by
 unfold repI
 rw [List.any_eq_false]
 intro k hk
 have hk := List.mem_range.1 hk
 rw [List.getD_eq_getElem?_getD, List.getElem?_eq_getElem hk]
 simpa using h k _ (List.getElem?_eq_getElem hk)
theorem repI_nodup {L : List Int} (h : L.Nodup) : repI L = false := by
 refine rep_noT fun k x hx hm => ?_
 obtain ⟨hk, e⟩ := List.getElem?_eq_some_iff.1 hx
 obtain ⟨j, hj, hj2⟩ := List.mem_iff_getElem.1 hm
 rw [List.length_take] at hj
 rw [List.getElem_take] at hj2
 have := (List.nodup_iff_pairwise_ne.1 h)
 have h3 := List.pairwise_iff_getElem.1 this j k (by omega) hk (by omega)
 exact h3 (by rw [hj2, e])
theorem ascR_nodup : ∀ R : List Rt, ascB ltR R = true → R.Pairwise (fun x y => x.id < y.id)
 | [], _ => List.Pairwise.nil
 | [a], _ => List.pairwise_singleton _ _
 | a :: b :: t, h => by
  rw [ascB, Bool.and_eq_true] at h
  have ih := ascR_nodup (b :: t) h.2
  have hab : a.id < b.id := of_decide_eq_true h.1
  refine List.pairwise_cons.2 ⟨fun y hy => ?_, ih⟩
  rcases List.mem_cons.1 hy with rfl | hy
  ·exact hab
  ·have := (List.pairwise_cons.1 ih).1 y hy; omega
theorem chk0 {R : List Rt} {L : List Lk} (h : chk R L = 0) : R.length ≤ 24 ∧ R.any wrId = false ∧ ascB ltR R = true := by
 unfold chk at h
 split at h
 ·cases h
 ·rename_i h1
  split at h
  ·cases h
  ·rename_i h2
   split at h
   ·cases h
   ·rename_i h3
    exact ⟨by omega, by simpa using h2, by simpa using h3⟩
theorem PlE.valid {R : List Rt} {L : List Lk} {O : List Nat} {i : Nat} {id : Int} {E : List Ed} (h : PlE R O i id E) (hc : chk R L = 0) (hO : Ord O R.length) {s n : Int} (hs : inV s 0 7 = true) (hn : vl n = true) :
  vPl s n E = true ∧ E.length ≤ R.length ∧ ∀ e ∈ E, hasR R e.r = true := by
 obtain ⟨c1, c2, c3⟩ := chk0 hc
 have hmem : ∀ e ∈ E, ∃ r ∈ R, r.id = e.r := fun e he => by
  have h1 := h.sub.subset (List.mem_map.2 ⟨e, he, rfl⟩)
  obtain ⟨k, hk, hke⟩ := List.mem_map.1 h1
  have hk2 := hO.2.2 k (List.mem_of_mem_take hk)
  refine ⟨R[k], List.getElem_mem hk2, ?_⟩
  rw [← hke, ridR_at (List.getElem?_eq_getElem hk2)]
 have hnd : (E.map Ed.r).Nodup := by
  refine List.Nodup.sublist (h.sub.trans (List.Sublist.map _ (List.take_sublist i O))) ?_
  rw [List.Nodup, List.pairwise_map]
  refine List.Pairwise.imp_of_mem (fun {x y} hx hy hne => ?_) hO.2.1
  have hx := hO.2.2 x hx
  have hy := hO.2.2 y hy
  rw [ridR_at (List.getElem?_eq_getElem hx), ridR_at (List.getElem?_eq_getElem hy)]
  have hp := List.pairwise_iff_getElem.1 (ascR_nodup R c3)
  rcases Nat.lt_or_gt_of_ne hne with hlt | hlt
  ·have := hp x y hx hy hlt; omega
  ·have := hp y x hy hx hlt; omega
 have hlen : E.length ≤ R.length := by
  have h1 := (h.sub.trans (List.Sublist.map _ (List.take_sublist i O))).length_le
  rw [List.length_map, List.length_map, hO.1] at h1
  exact h1
 refine ⟨?_, hlen, fun e he => ?_⟩
 ·unfold vPl
  rw [hs, hn, repI_nodup hnd, pair_ascE E h.asc, decide_eq_true (show E.length ≤ 24 by omega)]
  have hw : E.any wrE = false := by
   rw [List.any_eq_false]
   intro e he
   obtain ⟨r, hr, hre⟩ := hmem e he
   have h1 := any_mem c2 hr
   have h2 := h.ids e he
   unfold wrId at h1
   rw [hre] at h1
   unfold wrE inV
   rw [decide_eq_true (show 1 ≤ e.i ∧ e.i ≤ 256 by omega)]
   have h3 : decide (1 ≤ e.r ∧ e.r ≤ 99) = true := by
    cases hh : decide (1 ≤ e.r ∧ e.r ≤ 99)
    ·rw [hh] at h1; cases h1
    ·rfl
   rw [h3]; simp
  rw [hw]; rfl
 ·obtain ⟨r, hr, hre⟩ := hmem e he
  exact List.any_eq_true.2 ⟨r, hr, decide_eq_true hre⟩
end Go.Proofs.YtpogblengagpaaaDoor

/- tables: what build makes is valid. -/
namespace Go.Proofs.YtpogblengagpaaaDoor
set_option maxRecDepth 100000
open Go.RowKit Bs
theorem asc_ofW {α : Type} {f : α → α → Bool} : ∀ l : List α, l.Pairwise (fun a b => f a b = true) → ascB f l = true
 | [], _ => rfl
 | [a], _ => rfl
 | a :: b :: t, h => by
  have h1 := List.pairwise_cons.1 h
  rw [ascB, Bool.and_eq_true]
  exact ⟨h1.1 b (by simp), asc_ofW (b :: t) h1.2⟩
theorem asc_pairT : ∀ E : List Ed, ascB ltE E = true → E.Pairwise (fun x y => x.i < y.i)
 | [], _ => List.Pairwise.nil
 | [a], _ => List.pairwise_singleton _ _
 | a :: b :: t, h => by
  rw [ascB, Bool.and_eq_true] at h
  have ih := asc_pairT (b :: t) h.2
  have hab : a.i < b.i := of_decide_eq_true h.1
  refine List.pairwise_cons.2 ⟨fun y hy => ?_, ih⟩
  rcases List.mem_cons.1 hy with rfl | hy
  ·exact hab
  ·have := (List.pairwise_cons.1 ih).1 y hy; omega
theorem ids_inT {R : List Rt} {L0 : List Lk} (hok : okT R L0 = true) {y : Int} (hy : y ∈ ids R) : 1 ≤ y ∧ y ≤ 99 := by
 obtain ⟨r, hr, rfl⟩ := List.mem_map.1 hy
 have := List.any_eq_false.1 (okT_all hok).id r hr
 unfold wrId at this
 simpa using this
theorem chk_idsT {R R0 : List Rt} {L : List Lk} (h : R.map (·.id) = R0.map (·.id)) : chk R L = chk R0 L := by
 have h1 : R.length = R0.length := by have := congrArg List.length h; simpa using this
 have h2 : ∀ R : List Rt, R.any wrId = (R.map (·.id)).any (fun x => !decide (1 ≤ x ∧ x ≤ 99)) := fun R => by rw [List.any_map]; rfl
 have h3 : ∀ R : List Rt, ascB ltR R = ascB (fun x y : Int => decide (x < y)) (R.map (·.id)) := by
  intro R
  induction R with
  | nil => rfl
  | cons a t ih =>
   cases t with
   | nil => rfl
   | cons b t => rw [List.map_cons, List.map_cons, ascB, ascB, ih]; rfl
 have h4 : ∀ x, hasR R x = hasR R0 x := fun x => by
  have e : ∀ R : List Rt, hasR R x = (R.map (·.id)).any (fun y => decide (y = x)) := fun R => by unfold hasR; rw [List.any_map]; rfl
  rw [e, e, h]
 have h5 : unk R = unk R0 := by funext l; unfold unk; rw [h4, h4]
 unfold chk
 rw [h1, h2, h2, h3, h3, h, h5]
end Go.Proofs.YtpogblengagpaaaDoor

/- empty -/
namespace Go.Proofs.YtpogblengagpaaaDoor
set_option maxRecDepth 100000
end Go.Proofs.YtpogblengagpaaaDoor

/- Take, of the program and of the reference. -/
namespace Go.Proofs.YtpogblengagpaaaDoor
set_option maxRecDepth 100000
open Go.RowKit Bs
theorem one_box (w : World) (A : Array Value) (t : TypeId) : (w.alloc (.cells A t)).heap[w.heap.size]? = some (.cells A t (0, 0)) ∧ w.grownBy (w.alloc (.cells A t)) none := ⟨heap_alloc_new w _, World.grownBy_alloc w _ _⟩
end Go.Proofs.YtpogblengagpaaaDoor

/- empty -/
namespace Go.Proofs.YtpogblengagpaaaDoor
set_option maxRecDepth 100000
end Go.Proofs.YtpogblengagpaaaDoor

/- empty -/
namespace Go.Proofs.YtpogblengagpaaaDoor
set_option maxRecDepth 100000
end Go.Proofs.YtpogblengagpaaaDoor

/- empty -/
namespace Go.Proofs.YtpogblengagpaaaDoor
set_option maxRecDepth 100000
end Go.Proofs.YtpogblengagpaaaDoor

/- empty -/
namespace Go.Proofs.YtpogblengagpaaaDoor
set_option maxRecDepth 100000
end Go.Proofs.YtpogblengagpaaaDoor

/- empty -/
namespace Go.Proofs.YtpogblengagpaaaDoor
set_option maxRecDepth 100000
end Go.Proofs.YtpogblengagpaaaDoor

/- The program's check number. -/
namespace Go.Proofs.YtpogblengagpaaaDoor
set_option maxRecDepth 100000
open Go.RowKit Bs
namespace Bs
def stp (r : Nat) (b : Bool) : Nat := if (r.testBit 15 != b) = true then (2 * r % 65536) ^^^ 4129 else 2 * r % 65536
def crcB (f : Nat → Bool) : Nat → Nat
 | 0 => 65535
 | k + 1 => stp (crcB f k) (f k)
end Bs
end Go.Proofs.YtpogblengagpaaaDoor

/- Spread, Gather, Nth, Rank as plain functions of numbers. No program is named here. -/
namespace Go.Proofs.YtpogblengagpaaaDoor
set_option maxRecDepth 100000
open Go.RowKit
namespace Bs
def put (t : Bool) (k : Nat) : Nat := if t then b2 k else 0
theorem compl_test {f : Nat} (h : U64 f) (i : Nat) : (18446744073709551615 - f).testBit i = (decide (i < 64) && !f.testBit i) := by
 have := Nat.testBit_two_pow_sub_succ h.pow i
 rw [← this]
 congr 1
 have := h.lt
 omega
theorem and_compl (z : Nat) {f : Nat} (h : U64 f) : (z &&& f) &&& (18446744073709551615 - f) = 0 := by
 apply Nat.eq_of_testBit_eq
 intro i
 rw [Nat.testBit_and, Nat.testBit_and, compl_test h, Nat.zero_testBit]
 cases f.testBit i <;> simp
end Bs
end Go.Proofs.YtpogblengagpaaaDoor

/- Parts of the proof, packed: TaTpM, FwX, FwFit, TaTap, MaAwk, MaMsk, MaUsM, FwLw, FwBi, FwBiR. -/
import Derived.Test.YtpogblengagpaaaGreatDoorPa20
import Derived.Test.YtpogblengagpaaaGreatDoorPa22
import Derived.Test.YtpogblengagpaaaGreatDoorPa11
import Derived.Test.YtpogblengagpaaaGreatDoorPa16
import Derived.Test.YtpogblengagpaaaGreatDoorPa18
import Derived.Test.YtpogblengagpaaaGreatDoorPa21
import Derived.Test.YtpogblengagpaaaGreatDoorPa9
import Derived.Laws.StructEq
import Derived.Test.YtpogblengagpaaaGreatDoorPa5
import Derived.Test.YtpogblengagpaaaGreatDoorPa7
import Derived.Test.YtpogblengagpaaaGreatDoorPa1
import Derived.Test.YtpogblengagpaaaGreatDoorPa6
/- tables: what the tape's Table keeps in memory. -/
namespace Go.Proofs.YtpogblengagpaaaGreatDoor
set_option maxRecDepth 100000
open Go.RowKit Bs
theorem tg_of_ownT {w : World} {base : Nat} {vR vL : Value} {R : List Rt} {L : List Lk} (hR : w.ownsRow base 105 2 vR R.length (R.flatMap rtC)) (hL : w.ownsRow base 135 5 vL L.length (L.flatMap lkC)) :
  ∃ pR cR pL cL, vR = .slice pR R.length cR ∧ vL = .slice pL L.length cL ∧ TgOk w (fun b => base ≤ b ∧ b < w.heap.size) ⟨R, L, pR, cR, pL, cL⟩ := by
 obtain ⟨pR, cR, rfl, h1, h2⟩ := own_shape hR
 obtain ⟨pL, cL, rfl, h3, h4⟩ := own_shape hL
 exact ⟨pR, cR, pL, cL, rfl, rfl, rdf_of_own2 hR, rdf_of_own2 hL, ⟨h1, h2⟩, ⟨h3, h4⟩⟩
structure TT (a : Nat) (W : World) (B : Nat) (T : Tg) (w : World) : Prop where
 rs : w.heap[W.heap.size]? = some (.cells #[.int .i64 0, .int .i64 0, .int .i64 0, .slice none 0 0] 25 (0, 0))
 bT : w.heap[B]? = some (.cells #[.slice T.pR T.R.length T.cR, .slice T.pL T.L.length T.cL] 68 (0, 0))
 t : TgOk w (fun b => W.heap.size + 1 ≤ b ∧ b < B) T
 st : St a W w
 lo : W.heap.size + 1 ≤ B ∧ B < w.heap.size
theorem TT.keep {a : Nat} {W : World} {B : Nat} {T : Tg} {w w1 : World} (h : TT a W B T w) (g : w.grownBy w1 none) : TT a W B T w1 :=
 ⟨kept_row h.rs g (by simp), kept_row h.bT g (by simp), h.t.keep g, h.st.none_ g, h.lo.1, Nat.lt_of_lt_of_le h.lo.2 g.size⟩
theorem TT.tape {a : Nat} {W : World} {B : Nat} {T : Tg} {w w1 : World} (h : TT a W B T w) (ha : a < W.heap.size) (k : St a w w1) : TT a W B T w1 := by
 have hlo := h.lo
 have hn : ∀ b, W.heap.size ≤ b → some b ≠ some a := fun b hb e => by have := Option.some.inj e; omega
 exact ⟨kept_row h.rs k.1 (hn _ (Nat.le_refl _)), kept_row h.bT k.1 (hn _ (by omega)), h.t.grown k.1 (fun b hb => hn _ (by omega)), h.st.trans k, h.lo.1, Nat.lt_of_lt_of_le h.lo.2 k.1.size⟩
structure TW (a : Nat) (W : World) (C : Nat) (v : Value) (Ts : List TbS) (w : World) : Prop where
 rs : w.heap[W.heap.size]? = some (.cells #[.int .i64 0, .int .i64 0, .int .i64 0, .slice none 0 0] 25 (0, 0))
 own : w.ownsRow C 25 4 v Ts.length (Ts.flatMap tbC)
 tabs : ∀ x ∈ Ts, TbX C w v x
 st : St a W w
 lo : W.heap.size + 1 ≤ C ∧ C ≤ w.heap.size
theorem TbX.tape {a lo : Nat} {w w1 : World} {v : Value} {x : TbS} (h : TbX lo w v x) (hl : a < lo) (g : w.grownBy w1 (some a)) : TbX lo w1 v x := h.over g (fun b hb e => by omega)
theorem TW.tape {a : Nat} {W : World} {C : Nat} {v : Value} {Ts : List TbS} {w w1 : World} (h : TW a W C v Ts w) (ha : a < W.heap.size) (k : St a w w1) : TW a W C v Ts w1 := by
 have hlo := h.lo
 exact ⟨kept_row h.rs k.1 (fun e => by have := Option.some.inj e; omega), own_otherL h.own k.1 (by omega), fun x hx => (h.tabs x hx).tape (by omega) k.1, h.st.trans k, h.lo.1, Nat.le_trans h.lo.2 k.1.size⟩
def TabPost (a : Nat) (w : World) (e : Ending) (w' : World) : Prop :=
 ∃ (r s n : Int) (L : List Rw) (p : Option Addr) (c : Nat), e = .returned (.agg #[.int .i64 r, .int .i64 s, .int .i64 n, .slice p L.length c]) ∧ RdW w' (fun b => w.heap.size ≤ b ∧ b < w'.heap.size) p c L ∧ (p = none → c = 0) ∧ (L.length ≤ c ∧ c ≤ 9223372036854775807) ∧ (∀ y ∈ L, y.p = none → y.c = 0) ∧ I64 r ∧ L.length ≤ 200 ∧ (∀ y ∈ L, y.nx.length ≤ 200) ∧ St a w w'
theorem rows_len {s n : Int} {E : List Ed} (h : vPl s n E = true) : E.length ≤ 24 := by
 unfold vPl at h
 simp only [Bool.and_eq_true, decide_eq_true_eq] at h
 omega
end Go.Proofs.YtpogblengagpaaaGreatDoor

/- forward: the laws' example. -/
namespace Go.Proofs.YtpogblengagpaaaGreatDoor
set_option maxRecDepth 100000
open Go.RowKit Go.Maps Bs
def fxT (p1 p2 : Option Addr) : List Rw := [⟨1, [2, 3], p1, 2⟩, ⟨2, [3], p2, 1⟩]
def fxP : Pk := ⟨1, 0, 0, 8, 4, 0, 0, 0, 35, ⟨#[]⟩⟩
theorem i64_lit {x : Int} (h : decide (-1000 ≤ x ∧ x ≤ 1000) = true) : I64 x := by
 have := of_decide_eq_true h
 unfold I64
 omega
theorem fxP_wf : fxP.Wf := ⟨i64_lit rfl, i64_lit rfl, i64_lit rfl, i64_lit rfl, i64_lit rfl, i64_lit rfl, i64_lit rfl, i64_lit rfl, by show U64 35; unfold U64; decide, by show 0 ≤ maxLen; omega⟩
theorem fx_E (p1 p2 : Option Addr) : fwE 1 0 8 (fxT p1 p2) fxP = 0 := by kernel_rfl
theorem fx_loc (p1 p2 : Option Addr) : fltB (fun j => decide (fwH 8 (fxT p1 p2) fxP j = 1)) 35 = 0 := by kernel_rfl
theorem fx_lost (p1 p2 : Option Addr) : fltB (lzB (fwH 8 (fxT p1 p2) fxP) 1 (decide (fxP.ttl = 0))) 35 = 32 := by kernel_rfl
theorem fx_cs (p1 p2 : Option Addr) : cpB (fwM 8 (fxT p1 p2) fxP) (fwH 8 (fxT p1 p2) fxP) (fltB (czB (fwH 8 (fxT p1 p2) fxP) 1 (decide (fxP.ttl = 0))) 35) = [(2, 1), (3, 2)] := by kernel_rfl
theorem fx_R {p1 p2 : Option Addr} {x : Int} {loc lost : Nat} {cs : List (Int × Nat)} (h : FwR 1 0 8 (fxT p1 p2) fxP x loc lost cs) : x = 0 ∧ loc = 0 ∧ lost = 32 ∧ cs = [(2, 1), (3, 2)] := by
 have h0 : x = 0 := h.he.trans (fx_E p1 p2)
 have D := h.ok h0
 have hu : U64 35 := by unfold U64; decide
 refine ⟨h0, ?_, ?_, D.hcs.trans (fx_cs p1 p2)⟩
 ·rw [← fx_loc p1 p2]
  exact Nat.eq_of_testBit_eq fun j => (D.hloc j).trans (fltB_bit hu (fun j => decide (fwH 8 (fxT p1 p2) fxP j = 1)) j).symm
 ·rw [← fx_lost p1 p2]
  exact Nat.eq_of_testBit_eq fun j => (D.hlost j).trans (fltB_bit hu (lzB (fwH 8 (fxT p1 p2) fxP) 1 (decide (fxP.ttl = 0))) j).symm
def SmpPost (w : World) (e : Ending) (w' : World) : Prop := ∃ p1 p2 p8 : Option Addr, e = .returned (.agg #[.int .i64 1, .int .i64 0, .int .i64 8, .slice p8 (fxT p1 p2).length 2]) ∧ RdW w' (· < w'.heap.size) p8 2 (fxT p1 p2) ∧ w.grownBy w' none
theorem tab_size : (Tryz.prog.info? 25).map (·.size) = some 4 := by kernel_rfl
theorem res_tabF {fn : Func} {p : Tmp} (h : fn.results = #[.cell p 25]) (tmps : Array Value) (w : World) (g : Nat) (xs : Array Value) (hp : tmps.getD p undef = .pointer (some ⟨g, 0, none⟩)) (hn : xs.size = 4) (hg : w.heap[g]? = some (.cells xs 25 (0, 0))) :
  (results fn tmps).run Tryz.prog w = .ok (.agg xs) w := by
 exact results_cell_row h tmps w g _ _ _ _ hp hg Tryz.underlying25 rfl (by rw [hn]; exact tab_size)
theorem fx_start (w : World) : ∀ w4, w4 = (((w.alloc (.cells #[.int .i64 1, .int .i64 0, .int .i64 8, .slice (some ⟨w.heap.size + 1 + 1 + 1, 0, none⟩) 2 2] 25)).alloc (.cells #[.int .i64 2, .int .i64 3] 3)).alloc (.cells #[.int .i64 3] 3)).alloc (.cells #[.int .i64 1, .slice (some ⟨w.heap.size + 1, 0, none⟩) 2 2, .int .i64 2, .slice (some ⟨w.heap.size + 1 + 1, 0, none⟩) 1 1] 80) →
  w4.heap[w.heap.size]? = some (.cells #[.int .i64 1, .int .i64 0, .int .i64 8, .slice (some ⟨w.heap.size + 1 + 1 + 1, 0, none⟩) 2 2] 25 (0, 0)) ∧ RdW w4 (fun b => w.heap.size < b ∧ b < w4.heap.size) (some ⟨w.heap.size + 1 + 1 + 1, 0, none⟩) 2 (fxT (some ⟨w.heap.size + 1, 0, none⟩) (some ⟨w.heap.size + 1 + 1, 0, none⟩)) ∧ w.grownBy w4 none := by
 rintro w4 rfl
 have st : ∀ (wx : World) (b : Nat) (o o2 : Obj), wx.heap[b]? = some o → (wx.alloc o2).heap[b]? = some o := fun wx b o o2 h => kept_row h (World.grownBy_alloc wx o2 none) (by simp)
 generalize hA : Obj.cells #[.int .i64 1, .int .i64 0, .int .i64 8, .slice (some ⟨w.heap.size + 1 + 1 + 1, 0, none⟩) 2 2] 25 = A
 generalize hB : Obj.cells #[.int .i64 2, .int .i64 3] 3 = B
 generalize hC : Obj.cells #[.int .i64 3] 3 = C
 generalize hD : Obj.cells #[.int .i64 1, .slice (some ⟨w.heap.size + 1, 0, none⟩) 2 2, .int .i64 2, .slice (some ⟨w.heap.size + 1 + 1, 0, none⟩) 1 1] 80 = D
 have n1 := heap_alloc_new w A
 have n2 := heap_alloc_new (w.alloc A) B
 have n3 := heap_alloc_new ((w.alloc A).alloc B) C
 have n4 := heap_alloc_new (((w.alloc A).alloc B).alloc C) D
 rw [show (w.alloc A).heap.size = w.heap.size + 1 by simp] at n2
 rw [show ((w.alloc A).alloc B).heap.size = w.heap.size + 1 + 1 by simp] at n3
 rw [show (((w.alloc A).alloc B).alloc C).heap.size = w.heap.size + 1 + 1 + 1 by simp] at n4
 have b1 := st _ _ _ D (st _ _ _ C (st _ _ _ B n1))
 have b2 := st _ _ _ D (st _ _ _ C n2)
 have b3 := st _ _ _ D n3
 have hz : ((((w.alloc A).alloc B).alloc C).alloc D).heap.size = w.heap.size + 4 := by simp
 have hg : w.grownBy ((((w.alloc A).alloc B).alloc C).alloc D) none := grown_trans (World.grownBy_alloc _ _ _) (grown_trans (World.grownBy_alloc _ _ _) (grown_trans (World.grownBy_alloc _ _ _) (World.grownBy_alloc _ _ _)))
 generalize (((w.alloc A).alloc B).alloc C).alloc D = w4 at *
 subst hA hB hC hD
 refine ⟨b1, ⟨⟨_, 2, rfl, fun _ => ⟨_, _, rfl, by omega, fun i u hi => ?_⟩⟩, fun x hx => ?_⟩, hg⟩
 ·rw [Nat.zero_add, cell_of_row _ _ _ _ _ _ n4]
  simpa [fxT, rwC] using hi
 ·unfold fxT at hx
  simp only [List.mem_cons, List.not_mem_nil, or_false] at hx
  rcases hx with rfl | rfl
  ·refine ⟨⟨_, 2, rfl, fun _ => ⟨_, _, rfl, by omega, fun i u hi => ?_⟩⟩, ⟨by show 2 ≤ 2; decide, by show 2 ≤ 9223372036854775807; decide⟩⟩
   rw [Nat.zero_add, cell_of_row _ _ _ _ _ _ b2]
   simpa [tv] using hi
  ·refine ⟨⟨_, 1, rfl, fun _ => ⟨_, _, rfl, by omega, fun i u hi => ?_⟩⟩, ⟨by show 1 ≤ 1; decide, by show 1 ≤ 9223372036854775807; decide⟩⟩
   rw [Nat.zero_add, cell_of_row _ _ _ _ _ _ b3]
   simpa [tv] using hi
set_option maxHeartbeats 3200000 in
theorem smp_any (w : World) : Calls Tryz.prog 46 #[] w fun e w' => SmpPost w e w' := by
 go_enter Tryz.func46, Tryz.ntmps46
 go_wp2_with fail
 obtain ⟨h1, h2, h3⟩ := fx_start w _ rfl
 generalize (((w.alloc _).alloc _).alloc _).alloc _ = w4 at *
 refine bodyPost_ret (res_tabF rfl _ _ w.heap.size _ rfl rfl h1) rfl ?_
 exact ⟨_, _, _, rfl, h2.mono (fun b hb => hb.2), h3⟩
theorem fx_cells {w : World} {C c : Nat} {p : Option Addr} {cs : List (Int × Nat)} (h : w.ownsRow C 58 12 (.slice p cs.length c) cs.length (cs.flatMap (cyC fxP))) (hc : cs = [(2, 1), (3, 2)]) :
  ∃ g, p = some ⟨g, 0, none⟩ ∧ w.cell? ⟨g, 0, none⟩ = some (.int .i64 2) ∧ w.cell? ⟨g, 10, none⟩ = some (.int .u64 1) ∧ w.cell? ⟨g, 12, none⟩ = some (.int .i64 3) ∧ w.cell? ⟨g, 22, none⟩ = some (.int .u64 2) ∧ w.cell? ⟨g, 18, none⟩ = some (.int .i64 3) := by
 subst hc
 rcases h.2 with ⟨-, h0⟩ | ⟨g, cap, cur, h1, -⟩
 ·simp at h0
 ·injection h1 with e1 e2 e3
  subst e1
  have hx := h.cells (g := g) rfl
  have f : ∀ j u, ([(2, 1), (3, 2)].flatMap (cyC fxP))[j]? = some u → w.cell? ⟨g, j, none⟩ = some u := fun j u hu => by
   have := hx j u hu
   rwa [add_plain, Nat.zero_add] at this
  exact ⟨g, rfl, f 0 _ rfl, f 10 _ rfl, f 12 _ rfl, f 22 _ rfl, f 18 _ rfl⟩
set_option maxHeartbeats 6400000 in
theorem awk13_any (w : World) (hT : Tb w) : Calls Tryz.prog 16 #[] w fun e w' => e = .returned (.bool true) ∧ w.grownBy w' none := by
 have HT := Lib.hid hT
 clear hT
 go_enter Tryz.func16, Tryz.ntmps16
 go_wp2_with fail
 refine (smp_any w).mono ?_
 rintro e w1 ⟨p1, p2, p8, rfl, hR, hg⟩
 have HR := Lib.hid (And.intro hR hg)
 clear hR hg
 go_wp2_with fail
 refine (fwpk_any 1 0 8 p8 2 (fxT p1 p2) fxP fxP_wf w1 HR.out.1 (by show 2 ≤ 9223372036854775807; decide) (HT.out.keep HR.out.2)).mono ?_
 rintro e w2 ⟨x, loc, lost, cs, p, c, rfl, hF, hO, hg⟩
 obtain ⟨rfl, rfl, rfl, hcs⟩ := fx_R hF
 obtain ⟨g, rfl, q0, q1, q2, q3, q4⟩ := fx_cells hO hcs
 have hl : cs.length = 2 := by rw [hcs]; rfl
 have HG := Lib.hid (grown_trans HR.out.2 hg)
 clear hF hO hg hcs HR
 rw [hl]
 clear hl
 obtain ⟨k1, k2⟩ := tone_box w2 #[.int .u64 ((0 : Nat) : Int), .int .u64 ((32 : Nat) : Int), .slice (some ⟨g, 0, none⟩) 2 c] 38
 have HB := Lib.hid (And.intro k1 k2)
 clear k1 k2
 go_upto_region 2 with fail
 replace q0 := HB.out.2.cell q0 (by simp)
 replace q1 := HB.out.2.cell q1 (by simp)
 replace q2 := HB.out.2.cell q2 (by simp)
 replace q3 := HB.out.2.cell q3 (by simp)
 replace q4 := HB.out.2.cell q4 (by simp)
 generalize w2.alloc _ = w3 at *
 obtain ⟨o0, o1, o2⟩ := row3B HB.out.1
 go_wp2_with fail
 go_ret
 exact ⟨rfl, grown_trans HG.out HB.out.2⟩
end Go.Proofs.YtpogblengagpaaaGreatDoor

/- forward: fit. -/
namespace Go.Proofs.YtpogblengagpaaaGreatDoor
set_option maxRecDepth 100000
open Go.RowKit Bs
def FitPost (a : Nat) (w : World) (e : Ending) (w' : World) : Prop :=
 ∃ (r s n : Int) (L : List Rw) (p : Option Addr) (c : Nat) (Q : Pk), e = .returned (.tuple #[.agg #[.int .i64 r, .int .i64 s, .int .i64 n, .slice p L.length c], .agg #[.int .i64 Q.mode, .int .i64 Q.sub, .int .i64 Q.set, .int .i64 Q.len, .int .i64 Q.ttl, .int .i64 Q.ent, .int .i64 Q.ing, .int .i64 Q.pro, .int .u64 (Q.bits : Int), .string Q.pay]]) ∧ OwnT w.heap.size w' (.slice p L.length c) L ∧ ckT r s n L = 0 ∧ ForOk s n Q ∧ L.length ≤ 24 ∧ St a w w'
structure FS (W : World) (a Bt Bp : Nat) (T : Tg) (s n : Int) (pE : Option Addr) (cE : Nat) (E : List Ed) (w : World) : Prop where
 rt : w.heap[W.heap.size]? = some (.cells #[.int .i64 0, .int .i64 0, .int .i64 0, .slice none 0 0] 25 (0, 0))
 rq : w.heap[W.heap.size + 1]? = some (.cells zpk 28 (0, 0))
 bt : w.heap[Bt]? = some (.cells #[.slice T.pR T.R.length T.cR, .slice T.pL T.L.length T.cL] 68 (0, 0))
 tg : TgOk w (fun b => b ≠ a ∧ b ≤ Bp) T
 bp : w.heap[Bp]? = some (.cells #[.int .i64 s, .int .i64 n, .slice pE E.length cE] 72 (0, 0))
 ed : RdF w (fun b => b ≠ a ∧ b ≤ Bp) (.slice pE E.length cE) E.length (E.flatMap edC)
 st : St a W w
 lo : a < W.heap.size ∧ W.heap.size + 1 < Bt ∧ Bt < Bp
variable {W w w1 : World} {a Bt Bp : Nat} {T : Tg} {s n : Int} {pE : Option Addr} {cE : Nat} {E : List Ed}
theorem FS.over (h : FS W a Bt Bp T s n pE cE E w) {r : Nat} (g : w.grownBy w1 (some r)) (ht : Tp w1 a) (hr : r = a ∨ Bp < r) : FS W a Bt Bp T s n pE cE E w1 := by
 have hl := h.lo
 have ne : ∀ k, k ≠ r → some k ≠ some r := fun k hk e => hk (Option.some.inj e)
 refine ⟨kept_row h.rt g (ne _ (by omega)), kept_row h.rq g (ne _ (by omega)), kept_row h.bt g (ne _ (by omega)), h.tg.grown g (fun b hb => ne b (by have h1 := hb.1; have h2 := hb.2; omega)), kept_row h.bp g (ne _ (by omega)), h.ed.grown g (fun b hb => ne b (by have h1 := hb.1; have h2 := hb.2; omega)), ⟨?_, ht⟩, hl⟩
 rcases hr with rfl | hr
 ·exact grown_trans h.st.gr g
 ·exact grown_over h.st.gr g (by omega)
theorem FS.keep (h : FS W a Bt Bp T s n pE cE E w) (g : w.grownBy w1 none) : FS W a Bt Bp T s n pE cE E w1 :=
 ⟨kept_row h.rt g (by simp), kept_row h.rq g (by simp), kept_row h.bt g (by simp), h.tg.keep g, kept_row h.bp g (by simp), h.ed.grown g (fun _ _ => by simp), h.st.none_ g, h.lo⟩
structure FT (W : World) (a Bt Bp : Nat) (T : Tg) (s n : Int) (pE : Option Addr) (cE : Nat) (E : List Ed) (Bq Bb : Nat) (Q : Pk) (r : Int) (p : Option Addr) (c : Nat) (M : List Rw) (w : World) : Prop where
 fs : FS W a Bt Bp T s n pE cE E w
 qb : w.heap[Bq]? = some (.cells (pcells Q) 28 (0, 0))
 bb : w.heap[Bb]? = some (.cells #[.int .i64 r, .int .i64 s, .int .i64 n, .slice p M.length c] 25 (0, 0))
 own : OwnT (Bb + 1) w (.slice p M.length c) M
 lo : Bp < Bq ∧ Bq < Bb ∧ Bb < w.heap.size
structure IG (w0 : World) (a B : Nat) (id : Int) (pX : Option Addr) (cX : Nat) (X : List Int) (w : World) : Prop where
 bx : w.heap[B]? = some (.cells #[.int .i64 id, .slice pX X.length cX] 80 (0, 0))
 own : w.ownsRow (B + 1) 3 1 (.slice pX X.length cX) X.length (X.map tv)
 gr : w0.grownBy w (some a)
 tp : Tp w a
 lo : w0.heap.size ≤ B ∧ a < w0.heap.size
theorem IG.tape {w0 w w1 : World} {B : Nat} {id : Int} {pX : Option Addr} {cX : Nat} {X : List Int} (h : IG w0 a B id pX cX X w) (hs : St a w w1) : IG w0 a B id pX cX X w1 := by
 have hl := h.lo
 exact ⟨kept_row h.bx hs.gr (fun e => by have := Option.some.inj e; omega), own_otherL h.own hs.gr (by omega), grown_trans h.gr hs.gr, hs.tp, hl⟩
theorem IG.new {w0 w w1 w2 : World} {B : Nat} {id : Int} {pX pX2 : Option Addr} {cX cX2 : Nat} {X X2 : List Int} {v : Value} (h : IG w0 a B id pX cX X w) (g : w.grownBy w1 v.ownBlock) (hv : ∀ b, v.ownBlock = some b → B < b) (hown : w1.ownsRow (B + 1) 3 1 (.slice pX2 X2.length cX2) X2.length (X2.map tv)) (e : w1.setCell ⟨B, 1, none⟩ (.slice pX2 X2.length cX2) = w2) : IG w0 a B id pX2 cX2 X2 w2 := by
 have hl := h.lo
 have j := grown_setCell w1 ⟨B, 1, none⟩ (.slice pX2 X2.length cX2)
 rw [e] at j
 have hb := kept_row h.bx g (fun e => by have := hv _ e.symm; omega)
 have g1 : w0.grownBy w1 (some a) := ⟨g.os.trans h.gr.os, g.tape.trans h.gr.tape, g.output.trans h.gr.output, Nat.le_trans h.gr.size g.size, fun i hi hr => (g.block i (Nat.lt_of_lt_of_le hi h.gr.size) (fun e => by have := hv _ e.symm; omega)).trans (h.gr.block i hi hr)⟩
 have t1 : Tp w1 a := by
  cases hvv : v.ownBlock with
  | none => rw [hvv] at g; exact h.tp.keep g
  | some b => rw [hvv] at g; have := hv b hvv; exact tp_store h.tp g (by omega)
 exact ⟨by rw [← e]; exact heap_setCell_same w1 _ 1 _ _ _ hb, hown.kept j (Or.inr (fun e => by have := (hown.lt _ e).1; have e2 : B + 1 ≤ B := this; omega)), grown_over g1 j hl.1, tp_store t1 j (show a < B by omega), hl⟩
theorem FS.own (h : FS W a Bt Bp T s n pE cE E w) {v : Value} (g : w.grownBy w1 v.ownBlock) (hv : ∀ b, v.ownBlock = some b → Bp < b) : FS W a Bt Bp T s n pE cE E w1 := by
 have hl := h.lo
 cases hvv : v.ownBlock with
 | none => rw [hvv] at g; exact h.keep g
 | some b => rw [hvv] at g; have hb := hv b hvv; exact h.over g (tp_store h.st.2 g (by omega)) (Or.inr hb)
theorem FT.keep {Bq Bb : Nat} {Q : Pk} {r : Int} {p : Option Addr} {c : Nat} {M : List Rw} (h : FT W a Bt Bp T s n pE cE E Bq Bb Q r p c M w) (g : w.grownBy w1 none) : FT W a Bt Bp T s n pE cE E Bq Bb Q r p c M w1 :=
 ⟨h.fs.keep g, kept_row h.qb g (by simp), kept_row h.bb g (by simp), h.own.keep g, ⟨h.lo.1, h.lo.2.1, Nat.lt_of_lt_of_le h.lo.2.2 g.size⟩⟩
theorem FT.push {Bq Bb : Nat} {Q : Pk} {r : Int} {p p2 : Option Addr} {c c2 : Nat} {M : List Rw} {w0 w w1 w2 : World} {x : Rw} (h : FT W a Bt Bp T s n pE cE E Bq Bb Q r p c M w0) (g0 : w0.grownBy w (some a)) (ht : Tp w a) (hx : w.ownsRow w0.heap.size 3 1 x.v x.nx.length (x.nx.map tv)) (g : w.grownBy w1 (Value.slice p M.length c).ownBlock) (hown : w1.ownsRow (Bb + 1) 80 2 (.slice p2 (M ++ [x]).length c2) (M ++ [x]).length ((M ++ [x]).flatMap rwC)) (hv : (Value.slice p2 (M ++ [x]).length c2).ownBlock = (Value.slice p M.length c).ownBlock ∨ ∀ b, some b = (Value.slice p2 (M ++ [x]).length c2).ownBlock → w.heap.size ≤ b) (e : w1.setCell ⟨Bb, 3, none⟩ (.slice p2 (M ++ [x]).length c2) = w2) : FT W a Bt Bp T s n pE cE E Bq Bb Q r p2 c2 (M ++ [x]) w2 := by
 have hl := h.lo
 have hl2 := h.fs.lo
 have hvb : ∀ b, (Value.slice p M.length c).ownBlock = some b → Bb < b := fun b hb => (h.own.own.lt b hb).1
 have ne : ∀ k, k ≠ a → some k ≠ some a := fun k hk e => hk (Option.some.inj e)
 have nv : ∀ k, k ≤ Bb → some k ≠ (Value.slice p M.length c).ownBlock := fun k hk e => by have := hvb k e.symm; omega
 have j := grown_setCell w1 ⟨Bb, 3, none⟩ (.slice p2 (M ++ [x]).length c2)
 have F1 := (h.fs.over g0 ht (Or.inl rfl)).own g (fun b hb => by have := hvb b hb; omega)
 have hb1 := kept_row (kept_row h.bb g0 (ne _ (by omega))) g (nv _ (Nat.le_refl _))
 have hq1 := kept_row (kept_row h.qb g0 (ne _ (by omega))) g (nv _ (by omega))
 have o1 := h.own.pushT (by omega) (by omega) g0 hx hown g hv
 have hset := heap_setCell_same w1 Bb 3 _ _ (.slice p2 (M ++ [x]).length c2) hb1
 rw [e] at j hset
 exact ⟨F1.over j (tp_store F1.st.2 j (show a < Bb by omega)) (Or.inr (by show Bp < Bb; omega)), kept_row hq1 j (fun e => by have : Bq = Bb := Option.some.inj e; omega), hset, o1.over j (Nat.lt_succ_self _), ⟨hl.1, hl.2.1, Nat.lt_of_lt_of_le hl.2.2 (Nat.le_trans g0.size (Nat.le_trans g.size j.size))⟩⟩
theorem res_fit {fn : Func} {p q : Tmp} (h : fn.results = #[.cell p 25, .cell q 28]) (tmps : Array Value) (w : World) (g k : Nat) (xs ys : Array Value) (hp : tmps.getD p undef = .pointer (some ⟨g, 0, none⟩)) (hq : tmps.getD q undef = .pointer (some ⟨k, 0, none⟩)) (hn : xs.size = 4) (hm : ys.size = 10) (hg : w.heap[g]? = some (.cells xs 25 (0, 0))) (hk : w.heap[k]? = some (.cells ys 28 (0, 0))) :
  (results fn tmps).run Tryz.prog w = .ok (.tuple #[.agg xs, .agg ys]) w := by
 have hp' : tmps[p]?.getD undef = .pointer (some ⟨g, 0, none⟩) := by simpa using hp
 have hq' : tmps[q]?.getD undef = .pointer (some ⟨k, 0, none⟩) := by simpa using hq
 simp [results, h, Sem.run_bind, hp', hq', asAddr, run_loadVar_row w g _ _ _ _ _ hg Tryz.underlying25 rfl (by rw [hn]; exact tab_size), run_loadVar_row w k _ _ _ _ _ hk Tryz.underlying28 rfl (by rw [hm]; exact packet_size), Result.andThen]
set_option maxHeartbeats 12800000 in
theorem fit_any (a : Nat) (w : World) (hT : Tp w a) :
  Calls Tryz.prog 7 #[.pointer (some ⟨a, 0, none⟩)] w fun e w' => FitPost a w e w' := by
 obtain ⟨ii, hii, hj0, hj1, hj2⟩ := info_parts info_rowT
 obtain ⟨ie, hie, he0, he1, he2⟩ := info_parts info_int
 have ha := hT.lt
 have HA := Lib.hid ha
 obtain ⟨k1, k2, k3, k4⟩ := two_boxes w #[.int .i64 0, .int .i64 0, .int .i64 0, .slice none 0 0] zpk 25 28
 have H0 := Lib.hid (And.intro k1 (And.intro k2 (And.intro k3 (And.intro (hT.keep k3) k4))))
 unfold zpk at H0
 clear k1 k2 k3 k4 hT ha
 go_enter Tryz.func7, Tryz.ntmps7
 go_upto_region 1 with fail
 generalize (w.alloc _).alloc _ = wa at *
 go_wp2_with fail
 refine (mixed_any a 6 (by omega) (by omega) wa H0.out.2.2.2.1).mono ?_
 rintro e w1 ⟨R0, R, L0, vR, vL, rfl, hR, hL, hO, hid, hs⟩
 obtain ⟨pR, cR, pL, cL, rfl, rfl, hTg⟩ := tg_of_ownT hR hL
 have hlen : R.length = R0.length := by have := congrArg List.length hid; simpa using this
 have hck := (hO.2.2.2.2 (Int.le_refl 0)).1
 have hR6 : R.length ≤ 6 := by have := (hO.2.2.2.2 (Int.le_refl 0)).2; omega
 have hR1 : 1 ≤ R.length := by have := hO.1; omega
 have HOK : Hid (chk R L0 = 0) := Lib.hid (by rw [chk_idsT hid]; exact hck)
 obtain ⟨b1, g1⟩ := tone_box w1 #[.slice pR R.length cR, .slice pL L0.length cL] 68
 have H1 := Lib.hid (And.intro (hTg.keep g1) (And.intro b1 (And.intro hs g1)))
 clear hR hL hO hid hs hTg hck hlen b1 g1
 go_upto_region 2 with fail
 generalize w1.alloc _ = w2 at *
 obtain ⟨t0, t1⟩ := row_cells H1.out.2.1
 have hsz : w1.heap.size < w2.heap.size := (Array.getElem?_eq_some_iff.1 H1.out.2.1).1
 go_wp2_with fail
 refine (tplan_any a 0 (by unfold I64; omega) R pR pL cR L0.length cL (by omega) w2 (H1.out.2.2.1.tp.keep H1.out.2.2.2) (H1.out.1.r.mono (fun b hb => ⟨by have h1 := hb.1; have := HA.out; have := H0.out.2.2.2.2; omega, by have := hb.2; omega⟩))).mono ?_
 rintro e w3 ⟨sub, len, E, pE, cE, rfl, hE, -, hgood, hs⟩
 obtain ⟨hg1, hg2, O, i, id, hO, hP⟩ := hgood (Int.le_refl 0)
 have hsub : inV sub 0 7 = true := by unfold inV at hg1 ⊢; simp only [decide_eq_true_eq] at hg1 ⊢; omega
 have HVP := Lib.hid (And.intro (hP.valid HOK.out hO hsub hg2).1 (And.intro hg2 (show 0 ≤ sub ∧ sub ≤ 7 by unfold inV at hsub; simpa using hsub)))
 obtain ⟨b3, g3⟩ := tone_box w3 #[.int .i64 sub, .int .i64 len, .slice pE E.length cE] 72
 have ne : ∀ k, k ≠ a → some k ≠ some a := fun k hk e => hk (Option.some.inj e)
 have K4 : Hid (FS w a w1.heap.size w3.heap.size ⟨R, L0, pR, cR, pL, cL⟩ sub len pE cE E (w3.alloc (.cells #[.int .i64 sub, .int .i64 len, .slice pE E.length cE] 72))) := Lib.hid (by
  have h0 := H0.out
  have h1 := H1.out
  have hz := h0.2.2.2.2
  have hs1 := h1.2.2.1.gr.size
  have hs3 := hs.gr.size
  have ha := HA.out
  have st3 : St a w w3 := ⟨grown_trans (grown_trans (grown_none h0.2.2.1 _) (grown_trans h1.2.2.1.gr (grown_none h1.2.2.2 _))) hs.gr, hs.tp⟩
  exact ⟨kept_row (kept_row (kept_row (kept_row h0.1 h1.2.2.1.gr (ne _ (by omega))) h1.2.2.2 (by simp)) hs.gr (ne _ (by omega))) g3 (by simp), kept_row (kept_row (kept_row (kept_row h0.2.1 h1.2.2.1.gr (ne _ (by omega))) h1.2.2.2 (by simp)) hs.gr (ne _ (by omega))) g3 (by simp), kept_row (kept_row h1.2.1 hs.gr (ne _ (by omega))) g3 (by simp), ((h1.1.grown hs.gr (fun b hb => ne b (by have := hb.1; omega))).mono (fun b hb => ⟨by have := hb.1; omega, by have := hb.2; omega⟩)).keep g3, b3, ((rdf_of_own2 hE).mono (fun b hb => ⟨by have := hb.1; omega, by have := hb.2; omega⟩)).grown g3 (fun _ _ => by simp), st3.none_ g3, ⟨ha, by omega, by omega⟩⟩)
 have hEi : ∀ e ∈ E, 1 ≤ e.i ∧ e.i ≤ 256 := by
  have hv := HVP.out.1
  unfold vPl at hv
  simp only [Bool.and_eq_true, Bool.not_eq_true', decide_eq_true_eq, Bool.or_eq_true] at hv
  intro e he
  have := List.any_eq_false.1 hv.1.1.2 e he
  unfold wrE inV at this
  simp only [Bool.not_eq_true, Bool.not_eq_false', Bool.and_eq_true, decide_eq_true_eq] at this
  exact this.2
 have hE24 := rows_len HVP.out.1
 have HEI := Lib.hid (And.intro hEi hE24)
 clear hE hgood hg1 hg2 hO hP hsub hs b3 g3 t0 t1 H1 H0 hsz hEi ne
 go_upto_region 3 with fail
 generalize w3.alloc _ = w4 at *
 generalize w3.heap.size = Bp at *
 generalize w1.heap.size = Bt at *
 obtain ⟨q0, q1, q2⟩ := row3B K4.out.bp
 have hsz : Bp < w4.heap.size := (Array.getElem?_eq_some_iff.1 K4.out.bp).1
 go_wp2_with fail
 refine (for_any a sub len pE cE E HVP.out.2.1 HVP.out.2.2 HEI.out.1 HEI.out.2 w4 K4.out.st.2 (K4.out.ed.mono (fun b hb => ⟨hb.1, by have := hb.2; omega⟩))).mono ?_
 rintro e w5 ⟨Q0, rfl, FO0, hs⟩
 have K5 := K4.out.over hs.gr hs.tp (Or.inl rfl)
 obtain ⟨k1, k2⟩ := one_box w5 (pcells Q0) 28
 have K6 := Lib.hid (And.intro (K5.keep k2) (And.intro k1 (show Bp < w5.heap.size from (Array.getElem?_eq_some_iff.1 K5.bp).1)))
 have HFO := Lib.hid FO0
 unfold pcells at K6
 clear K5 k1 k2 hs K4 q0 q1 q2 hsz FO0
 go_upto_region 4 with fail
 generalize w5.alloc _ = w6 at *
 generalize w5.heap.size = Bq at *
 change Hid (FS w a Bt Bp ⟨R, L0, pR, cR, pL, cL⟩ sub len pE cE E w6 ∧ w6.heap[Bq]? = some (.cells (pcells Q0) 28 (0, 0)) ∧ Bp < Bq) at K6
 have hl6 := K6.out.1.lo
 have hz6 : Bq < w6.heap.size := (Array.getElem?_eq_some_iff.1 K6.out.2.1).1
 have HT := Lib.hid (K6.out.1.st.2.alloc (.cells #[.int .i64 1, .int .i64 4, .int .i64 63, .int .i64 0] 3))
 have HAM := Lib.hid (among_list (fun x => 0 ≤ x ∧ x ≤ 63) w6 a [1, 4, 63, 0] #[.int .i64 1, .int .i64 4, .int .i64 63, .int .i64 0] 3 K6.out.1.st.2.lt rfl (by intro x hx; simp at hx; omega))
 go_wp2_with fail
 refine (pick_any _ a _ 0 4 4 (by omega) (by omega) _ HT.out HAM.out).mono ?_
 rintro e w7 ⟨tt, rfl, htt, hs⟩
 have K7 := Lib.hid (And.intro ((K6.out.1.keep (World.grownBy_alloc _ _ _)).over hs.gr hs.tp (Or.inl rfl)) (And.intro (kept_row (kept_row K6.out.2.1 (World.grownBy_alloc _ _ none) (by simp)) hs.gr (fun e => by have := Option.some.inj e; have := K6.out.2.2; omega)) K6.out.2.2))
 have HFT := Lib.hid (HFO.out.ttl_ htt)
 clear hs HT HAM K6 HFO htt hz6
 obtain ⟨a0, a1, a2, a3, a4, a5, a6, a7, a8, a9⟩ := p_facts K7.out.2.1
 have f4 := q_frozen K7.out.2.1 4
 have KS := Lib.hid (And.intro (K7.out.1.over (grown_setCell w7 ⟨Bq, 4, none⟩ (.int .i64 tt)) (tp_store K7.out.1.st.2 (grown_setCell w7 ⟨Bq, 4, none⟩ (.int .i64 tt)) (show a < Bq by have := K7.out.2.2; omega)) (Or.inr K7.out.2.2)) (And.intro (qput (Q2 := { Q0 with ttl := tt }) (k := 4) (v := .int .i64 tt) K7.out.2.1 rfl) K7.out.2.2))
 obtain ⟨Q, hQ⟩ : ∃ Q : Pk, { Q0 with ttl := tt } = Q := ⟨_, rfl⟩
 rw [hQ] at KS HFT
 clear hQ
 go_upto_region 5 with fail
 clear a0 a1 a2 a3 a4 a5 a6 a7 a8 a9 f4 K7 hl6
 generalize w7.setCell _ _ = w8 at *
 obtain ⟨t0, t1⟩ := row_cells KS.out.1.bt
 go_wp2_with fail
 refine (srtr_any a ⟨R, L0, pR, cR, pL, cL⟩ 0 (by unfold I64; omega) _ w8 KS.out.1.tg (fun b hb => hb.1) KS.out.1.st.2).mono ?_
 rintro e w9 ⟨r, hr, rfl, hs⟩
 have hr99 : 1 ≤ r ∧ r ≤ 99 := by
  rcases hr with ⟨y, hy, e⟩ | ⟨h, -⟩
  ·exact ids_inT (by unfold okT; simpa using HOK.out) (List.mem_map.2 ⟨y, hy, e⟩)
  ·have h2 : R.length = 0 := by
    rcases h with h | h
    ·omega
    ·exact h
   omega
 have HR := Lib.hid hr99
 have K9 := Lib.hid (And.intro (KS.out.1.over hs.gr hs.tp (Or.inl rfl)) (And.intro (kept_row KS.out.2.1 hs.gr (fun e => by have := Option.some.inj e; have := KS.out.2.2; have := KS.out.1.lo; omega)) KS.out.2.2))
 clear hs hr hr99 KS t0 t1
 obtain ⟨q0, q1, q2⟩ := row3B K9.out.1.bp
 obtain ⟨b9, g9⟩ := tone_box w9 #[.int .i64 r, .int .i64 sub, .int .i64 len, .slice none 0 0] 25
 have K10 : Hid (FT w a Bt Bp ⟨R, L0, pR, cR, pL, cL⟩ sub len pE cE E Bq w9.heap.size Q r none 0 [] (w9.alloc (.cells #[.int .i64 r, .int .i64 sub, .int .i64 len, .slice none 0 0] 25))) := Lib.hid ⟨K9.out.1.keep g9, kept_row K9.out.2.1 g9 (by simp), b9, OwnT.nil _ _, ⟨K9.out.2.2, (Array.getElem?_eq_some_iff.1 K9.out.2.1).1, by simp⟩⟩
 go_upto_region 7 with fail
 clear q0 q1 q2 b9 g9 K9
 generalize w9.alloc _ = w10 at *
 generalize w9.heap.size = Bb at *
 have HB0 : Hid (FxM r (E.take 0) []) := Lib.hid (by rw [List.take_zero]; exact FxM.nil r)
 have hEL := HEI.out.2
 go_wp2_with fail
 go_loopw [9] (fun u wr => ∃ (i : Nat) (M : List Rw) (p : Option Addr) (c : Nat), i ≤ E.length ∧ u = .int .i64 (i : Int) ∧ Hid (FxM r (E.take i) M) ∧ Hid (FT w a Bt Bp ⟨R, L0, pR, cR, pL, cL⟩ sub len pE cE E Bq Bb Q r p c M wr)) (fun u _ => E.length - (RowKit.intOf u).toNat)
 case atStart => exact ⟨0, [], none, 0, Nat.zero_le _, rfl, HB0, K10⟩
 case round =>
 clear K10 HB0
 obtain ⟨i, M, p, c, hi, rfl, HB, K⟩ := hrel
 obtain ⟨w5', hw5⟩ : ∃ w5', w5' = wr := ⟨_, rfl⟩
 rw [← hw5] at K ⊢
 clear hw5
 obtain ⟨q0, q1, q2⟩ := row3B K.out.fs.bp
 by_cases hlt : i < E.length
 case neg =>
  obtain rfl : i = E.length := by omega
  have hnl : ¬ (E.length : Int) < (E.length : Int) := by omega
  rw [List.take_length] at HB
  have HV : Hid (ckT r sub len M = 0 ∧ M.length ≤ 24) := Lib.hid ⟨fit_valid HB.out HVP.out.1 HR.out, by have := HB.out.1; omega⟩
  go_upto_region 19 with fail
  refine wp_region_held_drew (S := fun w' => Hid (w'.heap[Bb]? = some (.cells #[.int .i64 r, .int .i64 sub, .int .i64 len, .slice p M.length c] 25 (0, 0)) ∧ w'.heap[Bq]? = some (.cells (pcells Q) 28 (0, 0)))) (by kernel_rfl) (Lib.hid ⟨K.out.bb, K.out.qb⟩) (fun hHeld => ?_)
  obtain ⟨wd, hwd⟩ : ∃ wd, w5'.drew = wd := ⟨_, rfl⟩
  have KD := Lib.hid (K.out.keep (grown_drew (grown_refl _ none)))
  rw [hwd] at hHeld KD ⊢
  clear hwd
  refine zT (i := 0) (v := ?_) rfl ?_ hHeld ?_
  rotate_left 1
  ·intro u hSu
   obtain ⟨b0u, b1u, b2u, b3u⟩ := row4T hSu.out.1
   obtain ⟨a0u, a1u, a2u, a3u, a4u, a5u, a6u, a7u, a8u, a9u⟩ := p_facts hSu.out.2
   go_simp
   first | done | with_reducible rfl
  try simp only [Act.put, zA, zB, zC]
  refine zT (i := 1) (v := ?_) rfl ?_ hHeld ?_
  rotate_left 1
  ·intro u hSu
   obtain ⟨b0u, b1u, b2u, b3u⟩ := row4T hSu.out.1
   obtain ⟨a0u, a1u, a2u, a3u, a4u, a5u, a6u, a7u, a8u, a9u⟩ := p_facts hSu.out.2
   go_simp
   first | done | with_reducible rfl
  try simp only [Act.put, zA, zB, zC]
  refine wpAnyH_ready (rs := [2]) (by kernel_rfl) (by simp) ?_
  refine AllReadyH.cons (o := ⟨_, _, _, _, _, _⟩) rfl (fun Kz hK => ?_) AllReadyH.nil
  have HSt := store4B (.int .i64 r) (.int .i64 sub) (.int .i64 len) (.slice p M.length c) KD.out.fs.rt
  obtain ⟨z0, z1, z2, z3⟩ := row4T KD.out.fs.rt
  have y0 := frozen_of_row _ _ 0 _ _ KD.out.fs.rt
  have y1 := frozen_of_row _ _ 1 _ _ KD.out.fs.rt
  have y2 := frozen_of_row _ _ 2 _ _ KD.out.fs.rt
  have y3 := frozen_of_row _ _ 3 _ _ KD.out.fs.rt
  go_simp
  clear z0 z1 z2 z3 y0 y1 y2 y3
  refine hK.out _ _ (Lib.hid ⟨kept_row KD.out.bb HSt.2 (fun e => by have : Bb = w.heap.size := Option.some.inj e; have := K.out.lo; have := K.out.fs.lo; omega), kept_row KD.out.qb HSt.2 (fun e => by have : Bq = w.heap.size := Option.some.inj e; have := K.out.lo; have := K.out.fs.lo; omega)⟩) (fun hH2 => ?_)
  clear hK Kz hHeld
  have hHeld := hH2
  clear hH2
  try simp only [Act.put, zA, zB, zC]
  refine wpAnyH_ready (rs := [3]) (by kernel_rfl) (by simp) ?_
  refine AllReadyH.cons (o := ⟨_, _, _, _, _, _⟩) rfl (fun Kz hK => ?_) AllReadyH.nil
  have hrq := kept_row KD.out.fs.rq HSt.2 (fun e => by have : w.heap.size + 1 = w.heap.size := Option.some.inj e; omega)
  have hown := KD.out.own.over HSt.2 (show w.heap.size < Bb + 1 by have := K.out.lo; have := K.out.fs.lo; omega)
  have hst := grown_over KD.out.fs.st.1 HSt.2 (Nat.le_refl _)
  have htp : Tp _ a := tp_store KD.out.fs.st.2 HSt.2 (show a < w.heap.size by have := K.out.fs.lo; omega)
  have hrt := HSt.1
  clear HSt
  generalize (((wd.setCell _ _).setCell _ _).setCell _ _).setCell _ _ = w6 at *
  obtain ⟨⟨z0, z1, z2, z3, z4, z5, z6, z7, z8, z9⟩, f0, f1, f2, f3, f4, f5, f6, f7, f8, f9⟩ := zp_cells hrq
  have HPR := pput_row (.int .i64 Q.mode) (.int .i64 Q.sub) (.int .i64 Q.set) (.int .i64 Q.len) (.int .i64 Q.ttl) (.int .i64 Q.ent) (.int .i64 Q.ing) (.int .i64 Q.pro) (.int .u64 (Q.bits : Int)) (.string Q.pay) hrq
  have HPG := pput_grown w6 (w.heap.size + 1) (.int .i64 Q.mode) (.int .i64 Q.sub) (.int .i64 Q.set) (.int .i64 Q.len) (.int .i64 Q.ttl) (.int .i64 Q.ent) (.int .i64 Q.ing) (.int .i64 Q.pro) (.int .u64 (Q.bits : Int)) (.string Q.pay)
  go_simp
  clear z0 z1 z2 z3 z4 z5 z6 z7 z8 z9 f0 f1 f2 f3 f4 f5 f6 f7 f8 f9
  refine hK.out _ _ (Lib.hid ⟨kept_row hHeld.out.1 HPG (fun e => by have : Bb = w.heap.size + 1 := Option.some.inj e; have := K.out.lo; have := K.out.fs.lo; omega), kept_row hHeld.out.2 HPG (fun e => by have : Bq = w.heap.size + 1 := Option.some.inj e; have := K.out.lo; have := K.out.fs.lo; omega)⟩) (fun hH2 => ?_)
  clear hK Kz hHeld
  have hHeld := hH2
  clear hH2
  try simp only [Act.put, zA, zB, zC]
  refine wpAnyH_done (by kernel_rfl) ?_ _
  have hrt2 := kept_row hrt HPG (fun e => by have : w.heap.size = w.heap.size + 1 := Option.some.inj e; omega)
  go_wp2_with fail
  refine bodyPost_ret (res_fit rfl _ _ w.heap.size (w.heap.size + 1) _ _ rfl rfl rfl rfl hrt2 HPR) rfl ?_
  exact ⟨r, sub, len, M, p, c, Q, rfl, (hown.over HPG (show w.heap.size + 1 < Bb + 1 by have := K.out.lo; have := K.out.fs.lo; omega)).mono (by have := K.out.lo; have := K.out.fs.lo; omega), HV.out.1, HFT.out, HV.out.2, ⟨grown_over hst HPG (Nat.le_succ _), tp_store htp HPG (show a < w.heap.size + 1 by have := K.out.fs.lo; omega)⟩⟩
 have hlt' : (i : Int) < (E.length : Int) := by omega
 have hi0 : (0 : Int) ≤ (i : Int) := by omega
 obtain ⟨y, hy⟩ : ∃ y, E[i]? = some y := ⟨_, List.getElem?_eq_getElem hlt⟩
 obtain ⟨-, gE, oE, rfl, hqE, hc⟩ := RdF.cells (f := edC) (k := 2) (fun _ => rfl) (by decide) K.out.fs.ed (by omega)
 have d1 : w5'.cell? ⟨gE, oE + i * 2 + 1, none⟩ = some (.int .i64 y.i) := hc i y hy 1 _ rfl
 have HY := Lib.hid hy
 clear hc hy hqE
 obtain ⟨b5, g5⟩ := tone_box w5' #[.int .i64 y.i, .slice none 0 0] 80
 have G0 : Hid (IG w5' a w5'.heap.size y.i none 0 [] (w5'.alloc (.cells #[.int .i64 y.i, .slice none 0 0] 80))) := Lib.hid ⟨b5, World.ownsRow_nil _ _ _ _, World.grownBy_alloc _ _ _, K.out.fs.st.2.keep g5, ⟨Nat.le_refl _, by have := K.out.fs.lo; have := K.out.lo; omega⟩⟩
 go_upto_region 11 with fail
 clear d1 b5 g5 q0 q1 q2
 generalize w5'.alloc _ = w6 at *
 generalize hBr : w5'.heap.size = Br at *
 have HBr := Lib.hid hBr
 clear hBr
 have HX0 : Hid (XK r 1 []) := Lib.hid (XK.nil r)
 go_wp2_with fail
 go_loopw [11] (fun u wr => ∃ (k : Nat) (X : List Int) (pX : Option Addr) (cX : Nat), 1 ≤ k ∧ k ≤ 8 ∧ u = .int .i64 (k : Int) ∧ Hid (XK r k X) ∧ Hid (IG w5' a Br y.i pX cX X wr)) (fun u _ => 8 - (RowKit.intOf u).toNat)
 case atStart => exact ⟨1, [], none, 0, by omega, by omega, rfl, HX0, G0⟩
 case round =>
 clear G0 HX0
 obtain ⟨k, X, pX, cX, hk1, hk8, rfl, HX, G⟩ := hrel
 obtain ⟨w7, hw7⟩ : ∃ w7, w7 = wr := ⟨_, rfl⟩
 rw [← hw7] at G ⊢
 clear hw7
 by_cases hlt7 : k ≤ 7
 case neg =>
  obtain rfl : k = 8 := by omega
  have hnl : ¬ (((8 : Nat) : Int) ≤ 7) := by omega
  have HXF := Lib.hid HX.out.fin
  go_wp2_with fail
  refine (one_any a 5 (by unfold I64; omega) _ G.out.tp).mono ?_
  rintro e w8 ⟨z, rfl, hs⟩
  replace G := Lib.hid (G.out.tape hs)
  clear hs hnl HX
  go_upto_if 65 with fail
  go_cut [] from 64 to 68 (fun wx => ∃ (X2 : List Int) (p2 : Option Addr) (c2 : Nat), Hid (FxN r X2) ∧ Hid (IG w5' a Br y.i p2 c2 X2 wx))
  case first =>
   cases z
   case false =>
    go_wp2_with fail
    go_meet
    exact ⟨X, pX, cX, HXF, G⟩
   have ga := World.grownBy_alloc w8 (.cells #[.int .i64 r] 3) none
   have ol : (w8.alloc (.cells #[.int .i64 r] 3)).ownsRow w8.heap.size 3 1 (.slice (some ⟨w8.heap.size, 0, none⟩) 1 1) 1 ([r].map tv) := World.ownsRow_lit w8 #[.int .i64 r] 1 (Nat.le_refl _) (by decide) rfl
   have hbo := kept_row G.out.bx ga (by simp)
   have x1 := (row_cells hbo).2
   have f1 := frozen_of_row _ _ 1 _ _ hbo
   have HIG : Hid (∀ w10, (w8.alloc (.cells #[.int .i64 r] 3)).setCell ⟨Br, 1, none⟩ (.slice (some ⟨w8.heap.size, 0, none⟩) 1 1) = w10 → IG w5' a Br y.i (some ⟨w8.heap.size, 0, none⟩) 1 [r] w10) := Lib.hid (fun w10 e => G.out.new (v := .slice none 0 0) ga (fun b hb => by cases hb) (ol.mono (Array.getElem?_eq_some_iff.1 G.out.bx).1) e)
   clear ga ol hbo
   go_wp2_with fail
   go_meet
   exact ⟨[r], some ⟨w8.heap.size, 0, none⟩, 1, Lib.hid (fxN_own HR.out), Lib.hid (HIG.out _ rfl)⟩
  case rest =>
  obtain ⟨X2, p2, c2, HXN, G2⟩ := hcut
  clear G HXF
  have hMl : M.length ≤ 24 := by have h1 := HB.out.1; rw [List.length_take] at h1; omega
  obtain ⟨x0, x1⟩ := row_cells G2.out.bx
  have hl := K.out.lo
  have hl2 := K.out.fs.lo
  have hbo := kept_row K.out.bb G2.out.gr (fun e => by have := Option.some.inj e; omega)
  obtain ⟨b0, b1, b2, b3⟩ := row4T hbo
  have hownM := own_otherL K.out.own.own G2.out.gr (by omega)
  have hszC : Bb + 1 ≤ wc.heap.size := (Array.getElem?_eq_some_iff.1 hbo).1
  go_wp2_with (at_builtin; refine hold_on ?_)
  refine wpList_append_lies _ rfl _ _ 23 rfl (Bb + 1) 80 ii (.agg #[.int .i64 0, .slice none 0 0]) 2 32 Tryz.underlying23 hii hj0 hj1 hj2 rfl (by decide) (.slice p M.length c) M.length (M.flatMap rwC) rfl (hownM.alloc _) ⟨wc.heap.size, 0, none⟩ 1 1 (rwC ⟨y.i, X2, p2, c2⟩) rfl rfl (rwB_row wc ⟨y.i, X2, p2, c2⟩ _) (rw_one ⟨y.i, X2, p2, c2⟩) (by decide) (by unfold maxLen; omega) (by omega) (by simp; omega) _ rfl ?_
  intro g cap w9 hown9 hgrow hat hlt9
  have ga := World.grownBy_alloc wc (.cells #[.int .i64 y.i, .slice p2 X2.length c2] 80) none
  have HB2 := Lib.hid (HB.out.push (x := ⟨y.i, X2, p2, c2⟩) HY.out rfl HXN.out)
  have hb9 := kept_row (kept_row hbo ga (by simp)) hgrow (fun e => by have := (hownM.lt _ e.symm).1; omega)
  have hv : (Value.slice (some ⟨g, 0, none⟩) (M ++ [(⟨y.i, X2, p2, c2⟩ : Rw)]).length cap).ownBlock = (Value.slice p M.length c).ownBlock ∨ ∀ b, some b = (Value.slice (some ⟨g, 0, none⟩) (M ++ [(⟨y.i, X2, p2, c2⟩ : Rw)]).length cap).ownBlock → (wc.alloc (.cells #[.int .i64 y.i, .slice p2 X2.length c2] 80)).heap.size ≤ b := by
   rcases hat with h | h
   ·exact Or.inl h.symm
   ·refine Or.inr fun b e => ?_
    have e2 : some b = some g := e
    have := Option.some.inj e2
    rw [this, h]
    exact Nat.le_refl _
  have KP : Hid (∀ w10, w9.setCell ⟨Bb, 3, none⟩ (.slice (some ⟨g, 0, none⟩) (M.length + 1) cap) = w10 → FT w a Bt Bp ⟨R, L0, pR, cR, pL, cL⟩ sub len (some ⟨gE, oE, none⟩) cE E Bq Bb Q r (some ⟨g, 0, none⟩) cap (M ++ [(⟨y.i, X2, p2, c2⟩ : Rw)]) w10) := Lib.hid (fun w10 e => K.out.push (x := ⟨y.i, X2, p2, c2⟩) (grown_trans G2.out.gr (grown_none ga _)) (G2.out.tp.keep ga) ((own_keptN G2.out.own ga).mono (by have := G2.out.lo; omega)) hgrow (by rw [List.length_append, List.flatMap_append]; simpa [rwC] using hown9) hv (by rw [List.length_append]; exact e))
  clear b0 b1 b2 b3 x0 x1 hbo hownM hszC hown9 hgrow hat hlt9 ga hv K G2 HXN hl hl2 HB
  obtain ⟨b0, b1, b2, b3⟩ := row4T hb9
  have f3 := frozen_of_row _ _ 3 _ _ hb9
  clear hb9
  go_wp2_with fail
  exact ⟨⟨i + 1, M ++ [(⟨y.i, X2, p2, c2⟩ : Rw)], some ⟨g, 0, none⟩, cap, by omega, congrArg _ (by omega), HB2, Lib.hid (KP.out _ rfl)⟩, by simp only [RowKit.intOf]; omega⟩
 have hlt7' : (k : Int) ≤ 7 := by omega
 have hk0 : (0 : Int) ≤ (k : Int) := by omega
 by_cases hkr : (k : Int) = r
 case pos =>
  have hkr' : ((k : Int) != r) = false := by simpa using hkr
  have HX2 := Lib.hid HX.out.skip
  clear hkr
  go_wp2_with fail
  exact ⟨⟨k + 1, X, pX, cX, by omega, by omega, congrArg _ (by omega), HX2, G⟩, by simp only [RowKit.intOf]; omega⟩
 have HKR := Lib.hid hkr
 have hkr' : ((k : Int) != r) = true := by simpa using hkr
 clear hkr
 go_wp2_with fail
 refine (one_any a 3 (by unfold I64; omega) _ G.out.tp).mono ?_
 rintro e w8 ⟨z, rfl, hs⟩
 replace G := Lib.hid (G.out.tape hs)
 clear hs
 cases z
 case false =>
  have HX2 := Lib.hid HX.out.skip
  go_wp2_with fail
  exact ⟨⟨k + 1, X, pX, cX, by omega, by omega, congrArg _ (by omega), HX2, G⟩, by simp only [RowKit.intOf]; omega⟩
 obtain ⟨x0, x1⟩ := row_cells G.out.bx
 have hXl : X.length ≤ 8 := by have := HX.out.2.1; omega
 have hsz : Br + 1 ≤ w8.heap.size := (Array.getElem?_eq_some_iff.1 G.out.bx).1
 go_wp2_with (at_builtin; refine hold_on ?_)
 refine wpList_append_lies _ rfl _ _ 22 rfl (Br + 1) 3 ie (.int .i64 0) 1 8 Tryz.underlying22 hie he0 he1 he2 rfl (by decide) (.slice pX X.length cX) X.length (X.map tv) rfl (G.out.own.alloc _) ⟨w8.heap.size, 0, none⟩ 1 1 [.int .i64 (k : Int)] rfl rfl (cell_one w8 (.int .i64 (k : Int)) _) (by intro u hu; simp at hu; subst hu; rfl) (by decide) (by unfold maxLen; omega) (by omega) (by simp; omega) _ rfl ?_
 intro g cap w9 hown9 hgrow hat hlt9
 have HX2 := Lib.hid (HX.out.push hk1 HKR.out)
 have gr9 : w8.grownBy w9 (Value.slice pX X.length cX).ownBlock := grown_trans (grown_none (World.grownBy_alloc _ _ none) _) hgrow
 have hbo := kept_row G.out.bx gr9 (fun e => by have := (G.out.own.lt _ e.symm).1; omega)
 have f1 := frozen_of_row _ _ 1 _ _ hbo
 have x1' := (row_cells hbo).2
 have HIG : Hid (∀ w10, w9.setCell ⟨Br, 1, none⟩ (.slice (some ⟨g, 0, none⟩) (X.length + 1) cap) = w10 → IG w5' a Br y.i (some ⟨g, 0, none⟩) cap (X ++ [(k : Int)]) w10) := Lib.hid (fun w10 e => G.out.new gr9 (fun b hb => (G.out.own.lt b hb).1) (by rw [List.length_append, List.map_append]; exact hown9) (by rw [List.length_append]; exact e))
 clear hown9 hgrow hat hlt9 gr9 hbo x0 x1 G HX hsz
 go_wp2_with fail
 exact ⟨⟨k + 1, X ++ [(k : Int)], some ⟨g, 0, none⟩, cap, by omega, by omega, congrArg _ (by omega), HX2, Lib.hid (HIG.out _ rfl)⟩, by simp only [RowKit.intOf]; omega⟩
end Go.Proofs.YtpogblengagpaaaGreatDoor

/- tables: the tape's Table without mistakes. -/
namespace Go.Proofs.YtpogblengagpaaaGreatDoor
set_option maxRecDepth 100000
open Go.RowKit Bs
end Go.Proofs.YtpogblengagpaaaGreatDoor

/- empty -/
namespace Go.Proofs.YtpogblengagpaaaGreatDoor
set_option maxRecDepth 100000
end Go.Proofs.YtpogblengagpaaaGreatDoor

/- empty -/
namespace Go.Proofs.YtpogblengagpaaaGreatDoor
set_option maxRecDepth 100000
end Go.Proofs.YtpogblengagpaaaGreatDoor

/- masks: what the laws over the tape's tables share. -/
namespace Go.Proofs.YtpogblengagpaaaGreatDoor
set_option maxRecDepth 100000
open Go.RowKit Bs
theorem own_rdw {lo : Nat} {w : World} {L : List Rw} {p : Option Addr} {c : Nat} (h : OwnT lo w (.slice p L.length c) L) : RdW w (· < w.heap.size) p c L ∧ (p = none → c = 0) ∧ (L.length ≤ c ∧ c ≤ 9223372036854775807) ∧ ∀ y ∈ L, y.p = none → y.c = 0 := by
 refine ⟨⟨(rdf_of_own2 h.own).mono (fun b hb => hb.2), fun x hx => ⟨(rd_of_own (h.nx x hx)).old, ?_⟩⟩, ?_, ?_, fun y hy hp => ?_⟩
 ·rcases own_formF (h.nx x hx) with ⟨e, h0⟩ | ⟨g, cap, e, h1, h2⟩
  ·unfold Rw.v at e; injection e with e1 e2 e3; exact ⟨by omega, by omega⟩
  ·unfold Rw.v at e; injection e with e1 e2 e3; exact ⟨by omega, by omega⟩
 ·intro hp
  rcases own_formF h.own with ⟨e, h0⟩ | ⟨g, cap, e, -⟩
  ·injection e
  ·injection e with e1; subst hp; cases e1
 ·rcases own_formF h.own with ⟨e, h0⟩ | ⟨g, cap, e, h1, h2⟩
  ·injection e with e1 e2 e3; subst e3; exact ⟨by omega, by omega⟩
  ·injection e with e1 e2 e3; subst e3; exact ⟨h1, h2⟩
 ·rcases own_formF (h.nx y hy) with ⟨e, h0⟩ | ⟨g, cap, e, -⟩
  ·unfold Rw.v at e; injection e
  ·unfold Rw.v at e; injection e with e1; rw [hp] at e1; cases e1
theorem own_rdw2 {lo : Nat} {w : World} {L : List Rw} {p : Option Addr} {c : Nat} (h : OwnT lo w (.slice p L.length c) L) : RdW w (fun b => lo ≤ b ∧ b < w.heap.size) p c L :=
 ⟨rdf_of_own2 h.own, fun x hx => ⟨(rd_and (rd_of_own (h.nx x hx))), ((own_rdw h).1.ok x hx).hc⟩⟩
theorem asc_ltI : ∀ E : List Int, ascB ltI E = true → E.Pairwise (· < ·)
 | [], _ => List.Pairwise.nil
 | [a], _ => List.pairwise_singleton _ _
 | a :: b :: t, h => by
  rw [ascB, Bool.and_eq_true] at h
  have ih := asc_ltI (b :: t) h.2
  have hab : a < b := of_decide_eq_true h.1
  refine List.pairwise_cons.2 ⟨fun y hy => ?_, ih⟩
  rcases List.mem_cons.1 hy with rfl | hy
  ·exact hab
  ·have := (List.pairwise_cons.1 ih).1 y hy; omega
theorem row_asc {r s n : Int} {L : List Rw} (h : ckT r s n L = 0) {x : Rw} (hx : x ∈ L) : x.nx.Pairwise (· < ·) ∧ x.nx.length ≤ 24 ∧ (∀ y ∈ x.nx, 1 ≤ y ∧ y ≤ 99) ∧ (1 ≤ x.id ∧ x.id ≤ 256) ∧ (1 < x.nx.length → r ∉ x.nx) := by
 obtain ⟨-, h2, -, h4, -, h6, h7⟩ := ck_ok h
 have a2 := List.any_eq_false.1 h2 x hx
 have a4 := List.any_eq_false.1 h4 x hx
 have a6 := List.any_eq_false.1 h6 x hx
 have a7 := List.any_eq_false.1 h7 x hx
 unfold wrW at a2
 simp only [Bool.not_eq_true, Bool.or_eq_false_iff, Bool.not_eq_false'] at a2
 unfold lgW at a4
 unfold dsW at a6
 simp only [Bool.not_eq_true, Bool.not_eq_false'] at a6
 unfold cfW at a7
 simp only [Bool.and_eq_true, decide_eq_true_eq, List.any_eq_true, not_and, not_exists] at a7
 simp only [decide_eq_true_eq] at a4
 refine ⟨asc_ltI x.nx a6, by omega, fun y hy => ?_, by have := a2.1; unfold inV at this; simpa using this, fun h1 hm => a7 h1 r hm rfl⟩
 have := List.any_eq_false.1 a2.2 y hy
 unfold inV at this
 simpa using this
end Go.Proofs.YtpogblengagpaaaGreatDoor

/- forward: what the laws keep. -/
namespace Go.Proofs.YtpogblengagpaaaGreatDoor
set_option maxRecDepth 100000
open Go.RowKit Go.Maps Bs
variable {W w w1 : World} {Bb Bo : Nat} {r s n : Int} {p : Option Addr} {c : Nat} {L : List Rw} {Q : Pk} {loc lost : Nat} {pc : Option Addr} {cc : Nat} {cs : List (Int × Nat)}
theorem two_newF (w : World) (A B : Obj) : ((w.alloc A).alloc B).heap[w.heap.size]? = some A ∧ ((w.alloc A).alloc B).heap[w.heap.size + 1]? = some B ∧ w.grownBy ((w.alloc A).alloc B) none := by
 have n1 := heap_alloc_new w A
 have n2 := heap_alloc_new (w.alloc A) B
 rw [show (w.alloc A).heap.size = w.heap.size + 1 by simp] at n2
 exact ⟨kept_row n1 (World.grownBy_alloc _ _ none) (by simp), n2, grown_trans (World.grownBy_alloc _ _ _) (World.grownBy_alloc _ _ _)⟩
end Go.Proofs.YtpogblengagpaaaGreatDoor

/- forward: Bits. -/
namespace Go.Proofs.YtpogblengagpaaaGreatDoor
set_option maxRecDepth 100000
open Go.RowKit Go.Maps Bs
theorem orC_u : ∀ (l : List (Int × Nat)) (a : Nat), U64 a → (∀ y ∈ l, U64 y.2) → U64 (orC l a)
 | [], a, h, _ => h
 | y :: l, a, h, hl => by
  have := orC_u l (a ||| y.2) (u64_orl _ _ h (hl y (List.mem_cons_self ..))) (fun z hz => hl z (List.mem_cons_of_mem _ hz))
  unfold orC at this ⊢
  rw [List.foldl_cons]
  exact this
structure BW (W : World) (loc lost : Nat) (pc : Option Addr) (cc : Nat) (cs : List (Int × Nat)) (Q : Pk) (w : World) : Prop where
 ob : w.heap[W.heap.size]? = some (.cells #[.int .u64 (loc : Int), .int .u64 (lost : Int), .slice pc cs.length cc] 38 (0, 0))
 cp : RdF w (fun _ => True) (.slice pc cs.length cc) cs.length (cs.flatMap (cyC Q))
 gr : W.grownBy w none
theorem BW.keep {W w w1 : World} {loc lost : Nat} {pc : Option Addr} {cc : Nat} {cs : List (Int × Nat)} {Q : Pk} (h : BW W loc lost pc cc cs Q w) (g : w.grownBy w1 none) : BW W loc lost pc cc cs Q w1 :=
 ⟨kept_row h.ob g (by simp), h.cp.grown g (fun _ _ => by simp), grown_trans h.gr g⟩
set_option maxHeartbeats 6400000 in
theorem fwbits_any (loc lost : Nat) (hl : U64 loc) (hlo : U64 lost) (pc : Option Addr) (cc : Nat) (cs : List (Int × Nat)) (hu : ∀ y ∈ cs, U64 y.2) (hcl : cs.length ≤ 64) (Q : Pk) (q : Nat → Prop) (w : World) (hR : RdF w q (.slice pc cs.length cc) cs.length (cs.flatMap (cyC Q))) :
  Calls Tryz.prog 14 #[.agg #[.int .u64 (loc : Int), .int .u64 (lost : Int), .slice pc cs.length cc]] w fun e w' => e = .returned (.int .u64 ((orC cs (loc ||| lost) : Nat) : Int)) ∧ w.grownBy w' none := by
 obtain ⟨k1, k2⟩ := tone_box w #[.int .u64 (loc : Int), .int .u64 (lost : Int), .slice pc cs.length cc] 38
 have H0 : Hid (BW w loc lost pc cc cs Q (w.alloc (.cells #[.int .u64 (loc : Int), .int .u64 (lost : Int), .slice pc cs.length cc] 38))) := Lib.hid ⟨k1, RdF.grown (hR.mono (q' := fun _ => True) (fun _ _ => trivial)) k2 (fun _ _ => by simp), k2⟩
 have hor := orU loc lost hl hlo
 have HU := Lib.hid (And.intro hu (u64_orl loc lost hl hlo))
 clear k1 k2 hR hu hl hlo
 go_enter Tryz.func14, Tryz.ntmps14
 go_upto_region 1 with fail
 generalize w.alloc _ = wa at *
 obtain ⟨o0, o1, o2⟩ := row3B H0.out.ob
 go_wp2_with fail
 go_loopw [3, 14] (fun v u wr => ∃ i : Nat, i ≤ cs.length ∧ v = .int .u64 ((orC (cs.take i) (loc ||| lost) : Nat) : Int) ∧ u = .int .i64 (i : Int) ∧ Hid (BW w loc lost pc cc cs Q wr)) (fun _ u _ => cs.length - (RowKit.intOf u).toNat)
 case atStart => exact ⟨0, Nat.zero_le _, rfl, rfl, H0⟩
 case round =>
 clear H0 o0 o1 o2 hor
 obtain ⟨i, hi, rfl, rfl, K⟩ := hrel
 obtain ⟨w6, hw6⟩ : ∃ w6, w6 = wr := ⟨_, rfl⟩
 rw [← hw6] at K ⊢
 clear hw6
 obtain ⟨o0, o1, o2⟩ := row3B K.out.ob
 by_cases hlt : i < cs.length
 case neg =>
  obtain rfl : i = cs.length := by omega
  have hnl : ¬ (cs.length : Int) < (cs.length : Int) := by omega
  rw [List.take_length]
  go_wp2_with fail
  go_ret
  exact ⟨rfl, K.out.gr⟩
 have hlt' : (i : Int) < (cs.length : Int) := by omega
 have hi0 : (0 : Int) ≤ (i : Int) := by omega
 obtain ⟨y, hy⟩ : ∃ y, cs[i]? = some y := ⟨_, List.getElem?_eq_getElem hlt⟩
 obtain ⟨-, g, off, rfl, -, hc⟩ := RdF.cells (f := cyC Q) (k := 12) (fun _ => rfl) (by decide) K.out.cp (by omega)
 have hyu := HU.out.1 y (List.mem_of_getElem? hy)
 have htu := orC_u (cs.take i) (loc ||| lost) HU.out.2 (fun z hz => HU.out.1 z (List.mem_of_mem_take hz))
 have HT := Lib.hid (orC_take (a := loc ||| lost) hy)
 have hor := orU _ y.2 htu hyu
 rw [← HT.out] at hor
 obtain ⟨A, hA⟩ : ∃ A, orC (cs.take i) (loc ||| lost) = A := ⟨_, rfl⟩
 obtain ⟨B, hB⟩ : ∃ B, orC (cs.take (i + 1)) (loc ||| lost) = B := ⟨_, rfl⟩
 rw [hA, hB] at hor
 rw [hA]
 have HB := Lib.hid hB
 clear hA hB htu hyu HT
 have c0 : w6.cell? ⟨g, off + i * 12, none⟩ = some (.int .i64 y.1) := hc i y hy 0 _ rfl
 have c1 : w6.cell? ⟨g, off + i * 12 + 1, none⟩ = some (.slice none 0 0) := hc i y hy 1 _ rfl
 have c2 : w6.cell? ⟨g, off + i * 12 + 2, none⟩ = some (.int .i64 Q.mode) := hc i y hy 2 _ rfl
 have c3 : w6.cell? ⟨g, off + i * 12 + 3, none⟩ = some (.int .i64 Q.sub) := hc i y hy 3 _ rfl
 have c4 : w6.cell? ⟨g, off + i * 12 + 4, none⟩ = some (.int .i64 Q.set) := hc i y hy 4 _ rfl
 have c5 : w6.cell? ⟨g, off + i * 12 + 5, none⟩ = some (.int .i64 Q.len) := hc i y hy 5 _ rfl
 have c6 : w6.cell? ⟨g, off + i * 12 + 6, none⟩ = some (.int .i64 (Q.ttl - 1)) := hc i y hy 6 _ rfl
 have c7 : w6.cell? ⟨g, off + i * 12 + 7, none⟩ = some (.int .i64 Q.ent) := hc i y hy 7 _ rfl
 have c8 : w6.cell? ⟨g, off + i * 12 + 8, none⟩ = some (.int .i64 Q.ing) := hc i y hy 8 _ rfl
 have c9 : w6.cell? ⟨g, off + i * 12 + 9, none⟩ = some (.int .i64 Q.pro) := hc i y hy 9 _ rfl
 have c10 : w6.cell? ⟨g, off + i * 12 + 10, none⟩ = some (.int .u64 (y.2 : Int)) := hc i y hy 10 _ rfl
 have c11 : w6.cell? ⟨g, off + i * 12 + 11, none⟩ = some (.string Q.pay) := hc i y hy 11 _ rfl
 have ga := World.grownBy_alloc w6 (.cells #[.int .i64 y.1, .slice none 0 0, .int .i64 Q.mode, .int .i64 Q.sub, .int .i64 Q.set, .int .i64 Q.len, .int .i64 (Q.ttl - 1), .int .i64 Q.ent, .int .i64 Q.ing, .int .i64 Q.pro, .int .u64 (y.2 : Int), .string Q.pay] 58) none
 have hb := heap_alloc_new w6 (.cells #[.int .i64 y.1, .slice none 0 0, .int .i64 Q.mode, .int .i64 Q.sub, .int .i64 Q.set, .int .i64 Q.len, .int .i64 (Q.ttl - 1), .int .i64 Q.ent, .int .i64 Q.ing, .int .i64 Q.pro, .int .u64 (y.2 : Int), .string Q.pay] 58)
 have KB := Lib.hid (And.intro (K.out.keep ga) hb)
 clear ga hb hc hy
 go_upto_region 5 with fail
 clear c0 c1 c2 c3 c4 c5 c6 c7 c8 c9 c10 c11 K o0 o1 o2
 generalize w6.alloc _ = w7 at *
 have m10 : w7.cell? ⟨w6.heap.size, 10, none⟩ = some (.int .u64 (y.2 : Int)) := cell_of_row _ _ _ _ _ _ KB.out.2
 have KB2 := Lib.hid KB.out.1
 go_wp2_with fail
 exact ⟨⟨i + 1, by omega, by rw [HB.out], congrArg _ (by omega), KB2⟩, by simp only [RowKit.intOf]; omega⟩
end Go.Proofs.YtpogblengagpaaaGreatDoor

/- forward: the reference's Bits. -/
namespace Go.Proofs.YtpogblengagpaaaGreatDoor
set_option maxRecDepth 100000
open Go.RowKit Go.Maps Bs
set_option maxHeartbeats 6400000 in
theorem rfbits_any (loc lost : Nat) (hl : U64 loc) (hlo : U64 lost) (pc : Option Addr) (cc : Nat) (cs : List (Int × Nat)) (hu : ∀ y ∈ cs, U64 y.2) (hcl : cs.length ≤ 64) (Q : Pk) (q : Nat → Prop) (w : World) (hR : RdF w q (.slice pc cs.length cc) cs.length (cs.flatMap (cyC Q))) :
  Calls Tryz.prog 15 #[.agg #[.int .u64 (loc : Int), .int .u64 (lost : Int), .slice pc cs.length cc]] w fun e w' => e = .returned (.int .u64 ((orC cs (loc ||| lost) : Nat) : Int)) ∧ w.grownBy w' none := by
 obtain ⟨k1, k2⟩ := tone_box w #[.int .u64 (loc : Int), .int .u64 (lost : Int), .slice pc cs.length cc] 38
 have H0 : Hid (BW w loc lost pc cc cs Q (w.alloc (.cells #[.int .u64 (loc : Int), .int .u64 (lost : Int), .slice pc cs.length cc] 38))) := Lib.hid ⟨k1, RdF.grown (hR.mono (q' := fun _ => True) (fun _ _ => trivial)) k2 (fun _ _ => by simp), k2⟩
 have hor := orU loc lost hl hlo
 have HU := Lib.hid (And.intro hu (u64_orl loc lost hl hlo))
 clear k1 k2 hR hu hl hlo
 go_enter Tryz.func15, Tryz.ntmps15
 go_upto_region 1 with fail
 generalize w.alloc _ = wa at *
 obtain ⟨o0, o1, o2⟩ := row3B H0.out.ob
 go_wp2_with fail
 go_loopw [3, 4] (fun v u wr => ∃ i : Nat, i ≤ cs.length ∧ v = .int .u64 ((orC (cs.take i) (loc ||| lost) : Nat) : Int) ∧ u = .int .i64 (i : Int) ∧ Hid (BW w loc lost pc cc cs Q wr)) (fun _ u _ => cs.length - (RowKit.intOf u).toNat)
 case atStart => exact ⟨0, Nat.zero_le _, rfl, rfl, H0⟩
 case round =>
 clear H0 o0 o1 o2 hor
 obtain ⟨i, hi, rfl, rfl, K⟩ := hrel
 obtain ⟨w6, hw6⟩ : ∃ w6, w6 = wr := ⟨_, rfl⟩
 rw [← hw6] at K ⊢
 clear hw6
 obtain ⟨o0, o1, o2⟩ := row3B K.out.ob
 by_cases hlt : i < cs.length
 case neg =>
  obtain rfl : i = cs.length := by omega
  have hnl : ¬ (cs.length : Int) < (cs.length : Int) := by omega
  rw [List.take_length]
  go_wp2_with fail
  go_ret
  exact ⟨rfl, K.out.gr⟩
 have hlt' : (i : Int) < (cs.length : Int) := by omega
 have hi0 : (0 : Int) ≤ (i : Int) := by omega
 obtain ⟨y, hy⟩ : ∃ y, cs[i]? = some y := ⟨_, List.getElem?_eq_getElem hlt⟩
 obtain ⟨-, g, off, rfl, -, hc⟩ := RdF.cells (f := cyC Q) (k := 12) (fun _ => rfl) (by decide) K.out.cp (by omega)
 have hyu := HU.out.1 y (List.mem_of_getElem? hy)
 have htu := orC_u (cs.take i) (loc ||| lost) HU.out.2 (fun z hz => HU.out.1 z (List.mem_of_mem_take hz))
 have HT := Lib.hid (orC_take (a := loc ||| lost) hy)
 have hor := orU _ y.2 htu hyu
 rw [← HT.out] at hor
 obtain ⟨A, hA⟩ : ∃ A, orC (cs.take i) (loc ||| lost) = A := ⟨_, rfl⟩
 obtain ⟨B, hB⟩ : ∃ B, orC (cs.take (i + 1)) (loc ||| lost) = B := ⟨_, rfl⟩
 rw [hA, hB] at hor
 rw [hA]
 have HB := Lib.hid hB
 clear hA hB htu hyu HT
 have c10 : w6.cell? ⟨g, off + i * 12 + 10, none⟩ = some (.int .u64 (y.2 : Int)) := hc i y hy 10 _ rfl
 clear hc hy
 go_wp2_with fail
 exact ⟨⟨i + 1, by omega, by rw [HB.out], congrArg _ (by omega), K⟩, by simp only [RowKit.intOf]; omega⟩
end Go.Proofs.YtpogblengagpaaaGreatDoor

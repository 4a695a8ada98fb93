/- Parts of the proof, packed: FwH, FwN, FwW, StMath, StLeaf, StWord, StRead, StMem, PkWrite, PkAlign, PkEncode, PkDecode, PkBack, StFrame, StRoute, StVFrame, StSame. -/
import Derived.Test.YtpogblengagpaaaGreatDoorPa15
import Derived.Test.YtpogblengagpaaaGreatDoorPa6
import Derived.Test.YtpogblengagpaaaGreatDoorPa7
import Derived.Test.YtpogblengagpaaaGreatDoorPa1
import Derived.Deep.CutRange
import Derived.Deep.RegionHeld3
import Derived.Deep.QuietTactic
import Derived.BigQuiet
import Derived.Test.YtpogblengagpaaaGreatDoorPa8
/- forward: handOver. -/
namespace Go.Proofs.YtpogblengagpaaaGreatDoor
set_option maxRecDepth 100000
open Go.RowKit Go.Maps Bs
theorem five_new (w : World) (A B C D E : Obj) : (((((w.alloc A).alloc B).alloc C).alloc D).alloc E).heap[w.heap.size]? = some A ∧ (((((w.alloc A).alloc B).alloc C).alloc D).alloc E).heap[w.heap.size + 1]? = some B ∧ (((((w.alloc A).alloc B).alloc C).alloc D).alloc E).heap[w.heap.size + 2]? = some C ∧ (((((w.alloc A).alloc B).alloc C).alloc D).alloc E).heap[w.heap.size + 3]? = some D ∧ (((((w.alloc A).alloc B).alloc C).alloc D).alloc E).heap[w.heap.size + 4]? = some E ∧
  w.grownBy (((((w.alloc A).alloc B).alloc C).alloc D).alloc E) none ∧ (((((w.alloc A).alloc B).alloc C).alloc D).alloc E).heap.size = w.heap.size + 5 := by
 have st : ∀ (wx : World) (b : Nat) (o o2 : Obj), wx.heap[b]? = some o → (wx.alloc o2).heap[b]? = some o := fun wx b o o2 h => kept_row h (World.grownBy_alloc wx o2 none) (by simp)
 have n1 := heap_alloc_new w A
 have n2 := heap_alloc_new (w.alloc A) B
 have n3 := heap_alloc_new ((w.alloc A).alloc B) C
 have n4 := heap_alloc_new (((w.alloc A).alloc B).alloc C) D
 have n5 := heap_alloc_new ((((w.alloc A).alloc B).alloc C).alloc D) E
 rw [show (w.alloc A).heap.size = w.heap.size + 1 by simp] at n2
 rw [show ((w.alloc A).alloc B).heap.size = w.heap.size + 2 by simp] at n3
 rw [show (((w.alloc A).alloc B).alloc C).heap.size = w.heap.size + 3 by simp] at n4
 rw [show ((((w.alloc A).alloc B).alloc C).alloc D).heap.size = w.heap.size + 4 by simp] at n5
 exact ⟨st _ _ _ _ (st _ _ _ _ (st _ _ _ _ (st _ _ _ _ n1))), st _ _ _ _ (st _ _ _ _ (st _ _ _ _ n2)), st _ _ _ _ (st _ _ _ _ n3), st _ _ _ _ n4, n5, grown_trans (World.grownBy_alloc _ _ _) (grown_trans (World.grownBy_alloc _ _ _) (grown_trans (World.grownBy_alloc _ _ _) (grown_trans (World.grownBy_alloc _ _ _) (World.grownBy_alloc _ _ _)))), by simp⟩
structure HB (W : World) (O : Nat) (loc lost : Nat) (vc : Value) (r s n : Int) (p : Option Addr) (c : Nat) (L : List Rw) (P : Pk) (u : Int) (mb : Nat) (w : World) : Prop where
 ob : w.heap[O]? = some (.cells #[.int .u64 (loc : Int), .int .u64 (lost : Int), vc] 38 (0, 0))
 bx : w.heap[O + 1]? = some (.cells #[.int .i64 r, .int .i64 s, .int .i64 n, .slice p L.length c] 25 (0, 0))
 pb : w.heap[O + 1 + 1]? = some (.cells (pcells P) 28 (0, 0))
 mb : w.heap[O + 1 + 1 + 1]? = some (.cells #[.int .i64 u, .int .u64 (mb : Int)] 94 (0, 0))
 rb : w.heap[O + 1 + 1 + 1 + 1]? = some (.cells #[.int .u64 0, .int .u64 0, .slice none 0 0] 38 (0, 0))
 gr : W.grownBy w none
 le : W.heap.size ≤ O
theorem HB.keep {W w w1 : World} {O : Nat} {loc lost : Nat} {vc : Value} {r s n : Int} {p : Option Addr} {c : Nat} {L : List Rw} {P : Pk} {u : Int} {mb : Nat} (h : HB W O loc lost vc r s n p c L P u mb w) (g : w.grownBy w1 none) : HB W O loc lost vc r s n p c L P u mb w1 :=
 ⟨kept_row h.ob g (by simp), kept_row h.bx g (by simp), kept_row h.pb g (by simp), kept_row h.mb g (by simp), kept_row h.rb g (by simp), grown_trans h.gr g, h.le⟩
theorem hb_start (w : World) (loc lost : Nat) (vc : Value) (r s n : Int) (p : Option Addr) (c : Nat) (L : List Rw) (P : Pk) (u : Int) (mb : Nat) :
  HB w w.heap.size loc lost vc r s n p c L P u mb (((((w.alloc (.cells #[.int .u64 (loc : Int), .int .u64 (lost : Int), vc] 38)).alloc (.cells #[.int .i64 r, .int .i64 s, .int .i64 n, .slice p L.length c] 25)).alloc (.cells (pcells P) 28)).alloc (.cells #[.int .i64 u, .int .u64 (mb : Int)] 94)).alloc (.cells #[.int .u64 0, .int .u64 0, .slice none 0 0] 38)) := by
 obtain ⟨h1, h2, h3, h4, h5, g, -⟩ := five_new w (.cells #[.int .u64 (loc : Int), .int .u64 (lost : Int), vc] 38) (.cells #[.int .i64 r, .int .i64 s, .int .i64 n, .slice p L.length c] 25) (.cells (pcells P) 28) (.cells #[.int .i64 u, .int .u64 (mb : Int)] 94) (.cells #[.int .u64 0, .int .u64 0, .slice none 0 0] 38)
 exact ⟨h1, h2, h3, h4, h5, g, Nat.le_refl _⟩
theorem HB.at0 {W w : World} {O : Nat} {loc lost : Nat} {vc : Value} {r s n : Int} {p : Option Addr} {c : Nat} {L : List Rw} {P : Pk} {u : Int} {mb : Nat} (h : HB W O loc lost vc r s n p c L P u mb w) (x : Nat) : HB W O x lost vc r s n p c L P u mb (w.setCell ⟨O, 0, none⟩ (.int .u64 (x : Int))) := by
 have j := grown_setCell w ⟨O, 0, none⟩ (.int .u64 (x : Int))
 have ne : ∀ k, some (O + (k + 1)) ≠ some O := fun k e => by have : O + (k + 1) = O := Option.some.inj e; omega
 exact ⟨heap_setCell_same w _ 0 _ _ _ h.ob, kept_row h.bx j (ne 0), kept_row h.pb j (ne 1), kept_row h.mb j (ne 2), kept_row h.rb j (ne 3), grown_new h.gr j h.le, h.le⟩
theorem HB.at1 {W w : World} {O : Nat} {loc lost : Nat} {vc : Value} {r s n : Int} {p : Option Addr} {c : Nat} {L : List Rw} {P : Pk} {u : Int} {mb : Nat} (h : HB W O loc lost vc r s n p c L P u mb w) (x : Nat) : HB W O loc x vc r s n p c L P u mb (w.setCell ⟨O, 1, none⟩ (.int .u64 (x : Int))) := by
 have j := grown_setCell w ⟨O, 1, none⟩ (.int .u64 (x : Int))
 have ne : ∀ k, some (O + (k + 1)) ≠ some O := fun k e => by have : O + (k + 1) = O := Option.some.inj e; omega
 exact ⟨heap_setCell_same w _ 1 _ _ _ h.ob, kept_row h.bx j (ne 0), kept_row h.pb j (ne 1), kept_row h.mb j (ne 2), kept_row h.rb j (ne 3), grown_new h.gr j h.le, h.le⟩
theorem ob_put {w : World} {g : Nat} {a b c : Value} (v0 v1 v2 : Value) (hr : w.heap[g]? = some (.cells #[a, b, c] 38 (0, 0))) :
  (((w.setCell ⟨g, 0, none⟩ v0).setCell ⟨g, 1, none⟩ v1).setCell ⟨g, 2, none⟩ v2).heap[g]? = some (.cells #[v0, v1, v2] 38 (0, 0)) :=
 heap_setCell_same _ g 2 _ _ v2 (heap_setCell_same _ g 1 _ _ v1 (heap_setCell_same _ g 0 _ _ v0 hr))
theorem ob_grown (w : World) (g : Nat) (v0 v1 v2 : Value) : w.grownBy (((w.setCell ⟨g, 0, none⟩ v0).setCell ⟨g, 1, none⟩ v1).setCell ⟨g, 2, none⟩ v2) (some g) :=
 grown_trans (grown_trans (grown_setCell _ ⟨g, 0, none⟩ _) (grown_setCell _ ⟨g, 1, none⟩ _)) (grown_setCell _ ⟨g, 2, none⟩ _)
theorem row3f {w : World} {b : Nat} {x y z : Value} {t : TypeId} (h : w.heap[b]? = some (.cells #[x, y, z] t (0, 0))) : (w.cell? ⟨b, 0, none⟩ = some x ∧ w.cell? ⟨b, 1, none⟩ = some y ∧ w.cell? ⟨b, 2, none⟩ = some z) ∧ w.frozen? ⟨b, 0, none⟩ = false ∧ w.frozen? ⟨b, 1, none⟩ = false ∧ w.frozen? ⟨b, 2, none⟩ = false :=
 ⟨⟨cell_of_row _ _ _ _ _ _ h, cell_of_row _ _ _ _ _ _ h, cell_of_row _ _ _ _ _ _ h⟩, frozen_of_row _ _ _ _ _ h, frozen_of_row _ _ _ _ _ h, frozen_of_row _ _ _ _ _ h⟩
theorem outcome_size : (Tryz.prog.info? 38).map (·.size) = some 3 := by kernel_rfl
theorem res_outcome {fn : Func} {p : Tmp} (h : fn.results = #[.cell p 38]) (tmps : Array Value) (w : World) (g : Nat) (xs : Array Value) (hp : tmps.getD p undef = .pointer (some ⟨g, 0, none⟩)) (hn : xs.size = 3) (hg : w.heap[g]? = some (.cells xs 38 (0, 0))) :
  (results fn tmps).run Tryz.prog w = .ok (.agg xs) w := by
 exact results_cell_row h tmps w g _ _ _ _ hp hg Tryz.underlying38 rfl (by rw [hn]; exact outcome_size)
theorem res_outcome_err {fn : Func} {p u : Tmp} (h : fn.results = #[.cell p 38, .tmp u]) (tmps : Array Value) (w : World) (g : Nat) (xs : Array Value) (hp : tmps.getD p undef = .pointer (some ⟨g, 0, none⟩)) (hn : xs.size = 3) (hg : w.heap[g]? = some (.cells xs 38 (0, 0))) :
  (results fn tmps).run Tryz.prog w = .ok (.tuple #[.agg xs, tmps.getD u undef]) w := by
 have hp' : tmps[p]?.getD undef = .pointer (some ⟨g, 0, none⟩) := by simpa using hp
 rw [results_cell_tmp h]
 simp [hp', asAddr, run_loadVar_row w g _ _ _ _ _ hg Tryz.underlying38 rfl (by rw [hn]; exact outcome_size), Result.andThen]
theorem grown_over {w w1 w2 : World} {r : Option Nat} {O : Nat} (h : w.grownBy w1 r) (k : w1.grownBy w2 (some O)) (hO : w.heap.size ≤ O) : w.grownBy w2 r :=
 ⟨k.os.trans h.os, k.tape.trans h.tape, k.output.trans h.output, Nat.le_trans h.size k.size, fun i hi hr => (k.block i (Nat.lt_of_lt_of_le hi h.size) (fun e => by have := Option.some.inj e; omega)).trans (h.block i hi hr)⟩
set_option maxHeartbeats 3200000 in
theorem fwh_loc (loc lost : Nat) (hl : U64 loc) (pc : Option Addr) (nc cc : Nat) (r s n : Int) (p : Option Addr) (c : Nat) (L : List Rw) (P : Pk) (hP : P.Wf) (mb : Nat) (hmb : U64 mb) (w : World) :
  Calls Tryz.prog 41 #[.agg #[.int .u64 (loc : Int), .int .u64 (lost : Int), .slice pc nc cc], .agg #[.int .i64 r, .int .i64 s, .int .i64 n, .slice p L.length c], P.val, .agg #[.int .i64 r, .int .u64 (mb : Int)]] w fun e w' => e = .returned (.agg #[.int .u64 ((loc ||| (P.bits &&& mb) : Nat) : Int), .int .u64 (lost : Int), .slice pc nc cc]) ∧ w.grownBy w' none := by
 have hval : P.val = .agg #[.int .i64 P.mode, .int .i64 P.sub, .int .i64 P.set, .int .i64 P.len, .int .i64 P.ttl, .int .i64 P.ent, .int .i64 P.ing, .int .i64 P.pro, .int .u64 (P.bits : Int), .string P.pay] := rfl
 rw [hval]
 have H0 := Lib.hid (hb_start w loc lost (.slice pc nc cc) r s n p c L P r mb)
 unfold pcells at H0
 have hand := andU P.bits mb hP.bits hmb
 have hor := orU loc (P.bits &&& mb) hl (u64_andl _ _ hP.bits)
 clear hval
 go_enter Tryz.func41, Tryz.ntmps41
 go_upto_region 1 with fail
 generalize ((((w.alloc _).alloc _).alloc _).alloc _).alloc _ = wa at *
 obtain ⟨m0, m1⟩ := row_cells H0.out.mb
 obtain ⟨d0, d1, d2, d3⟩ := row4T H0.out.bx
 obtain ⟨a0, a1, a2, a3, a4, a5, a6, a7, a8, a9⟩ := p_facts H0.out.pb
 obtain ⟨⟨o0, o1, o2⟩, f0, f1, f2⟩ := row3f H0.out.ob
 have hrr : (r == r) = true := by simp
 have H1 := Lib.hid (H0.out.at0 (loc ||| (P.bits &&& mb)))
 go_upto_region 8 with fail
 clear m0 m1 d0 d1 d2 d3 a0 a1 a2 a3 a4 a5 a6 a7 a8 a9 o0 o1 o2 f0 f1 f2 H0 hor hand
 generalize wa.setCell _ _ = w1 at *
 obtain ⟨⟨o0, o1, o2⟩, -⟩ := row3f H1.out.ob
 obtain ⟨⟨z0, z1, z2⟩, f0, f1, f2⟩ := row3f H1.out.rb
 go_wp2_with fail
 refine bodyPost_ret (res_outcome rfl _ _ (w.heap.size + 1 + 1 + 1 + 1) _ rfl rfl (ob_put _ _ _ H1.out.rb)) rfl ?_
 exact ⟨rfl, grown_new H1.out.gr (ob_grown _ _ _ _ _) (by omega)⟩
set_option maxHeartbeats 3200000 in
theorem fwh_lost (loc lost : Nat) (hl : U64 lost) (pc : Option Addr) (nc cc : Nat) (r s n : Int) (p : Option Addr) (c : Nat) (L : List Rw) (P : Pk) (hP : P.Wf) (ht : P.ttl = 0) (u : Int) (hu : u ≠ r) (mb : Nat) (hmb : U64 mb) (w : World) :
  Calls Tryz.prog 41 #[.agg #[.int .u64 (loc : Int), .int .u64 (lost : Int), .slice pc nc cc], .agg #[.int .i64 r, .int .i64 s, .int .i64 n, .slice p L.length c], P.val, .agg #[.int .i64 u, .int .u64 (mb : Int)]] w fun e w' => e = .returned (.agg #[.int .u64 (loc : Int), .int .u64 ((lost ||| (P.bits &&& mb) : Nat) : Int), .slice pc nc cc]) ∧ w.grownBy w' none := by
 have hval : P.val = .agg #[.int .i64 P.mode, .int .i64 P.sub, .int .i64 P.set, .int .i64 P.len, .int .i64 P.ttl, .int .i64 P.ent, .int .i64 P.ing, .int .i64 P.pro, .int .u64 (P.bits : Int), .string P.pay] := rfl
 rw [hval]
 have htt := Lib.hid (show (P.ttl == 0) = true by simpa using ht)
 have hrr := Lib.hid (show (u == r) = false by simpa using hu)
 clear hu ht
 have H0 := Lib.hid (hb_start w loc lost (.slice pc nc cc) r s n p c L P u mb)
 unfold pcells at H0
 have hand := andU P.bits mb hP.bits hmb
 have hor := orU lost (P.bits &&& mb) hl (u64_andl _ _ hP.bits)
 clear hval
 go_enter Tryz.func41, Tryz.ntmps41
 go_upto_region 1 with fail
 generalize ((((w.alloc _).alloc _).alloc _).alloc _).alloc _ = wa at *
 obtain ⟨m0, m1⟩ := row_cells H0.out.mb
 obtain ⟨d0, d1, d2, d3⟩ := row4T H0.out.bx
 obtain ⟨a0, a1, a2, a3, a4, a5, a6, a7, a8, a9⟩ := p_facts H0.out.pb
 obtain ⟨⟨o0, o1, o2⟩, f0, f1, f2⟩ := row3f H0.out.ob
 replace htt := htt.out
 replace hrr := hrr.out
 have H1 := Lib.hid (H0.out.at1 (lost ||| (P.bits &&& mb)))
 go_upto_region 8 with fail
 clear m0 m1 d0 d1 d2 d3 a0 a1 a2 a3 a4 a5 a6 a7 a8 a9 o0 o1 o2 f0 f1 f2 H0 hor hand
 generalize wa.setCell _ _ = w1 at *
 obtain ⟨⟨o0, o1, o2⟩, -⟩ := row3f H1.out.ob
 obtain ⟨⟨z0, z1, z2⟩, f0, f1, f2⟩ := row3f H1.out.rb
 go_wp2_with fail
 refine bodyPost_ret (res_outcome rfl _ _ (w.heap.size + 1 + 1 + 1 + 1) _ rfl rfl (ob_put _ _ _ H1.out.rb)) rfl ?_
 exact ⟨rfl, grown_new H1.out.gr (ob_grown _ _ _ _ _) (by omega)⟩
theorem cy_row (w : World) (P : Pk) (y : Int × Nat) (t : TypeId) : ∀ j u, (cyC P y)[j]? = some u → (w.alloc (.cells #[.int .i64 y.1, .slice none 0 0, .int .i64 P.mode, .int .i64 P.sub, .int .i64 P.set, .int .i64 P.len, .int .i64 (P.ttl - 1), .int .i64 P.ent, .int .i64 P.ing, .int .i64 P.pro, .int .u64 (y.2 : Int), .string P.pay] t)).cell? ((⟨w.heap.size, 0, none⟩ : Addr).add j) = some u := by
 intro j u hu
 rw [add_plain, cell_of_row _ _ _ _ _ _ (heap_alloc_new w _), Nat.zero_add]
 simpa [cyC] using hu
theorem maskc_any (P : Pk) (hP : P.Wf) (b : Nat) (hb : U64 b) (hm : mskP P b = (cyP P b, true)) (w : World) :
  Calls Tryz.prog 70 #[P.val, .int .u64 (b : Int)] w fun e w' => e = .returned (.tuple #[.agg #[.int .i64 P.mode, .int .i64 P.sub, .int .i64 P.set, .int .i64 P.len, .int .i64 (P.ttl - 1), .int .i64 P.ent, .int .i64 P.ing, .int .i64 P.pro, .int .u64 (b : Int), .string P.pay], .bool true]) ∧ w.grownBy w' none := by
 refine (maskp_any P hP b hb w).mono ?_
 rintro e w' ⟨rfl, h⟩
 rw [hm]
 exact ⟨rfl, h⟩
set_option maxHeartbeats 3200000 in
theorem fwh_copy (loc lost : Nat) (C : Nat) (pc : Option Addr) (cc : Nat) (cs : List (Int × Nat)) (hcl : cs.length ≤ 64) (r s n : Int) (p : Option Addr) (c : Nat) (L : List Rw) (P : Pk) (hP : P.Wf) (hv : vpk P = true) (ht : P.ttl ≠ 0) (u : Int) (hu : u ≠ r) (mb : Nat) (hmb : U64 mb) (hpm : P.bits &&& mb ≠ 0) (w : World) (hC : C ≤ w.heap.size) (hown : w.ownsRow C 58 12 (.slice pc cs.length cc) cs.length (cs.flatMap (cyC P))) :
  Calls Tryz.prog 41 #[.agg #[.int .u64 (loc : Int), .int .u64 (lost : Int), .slice pc cs.length cc], .agg #[.int .i64 r, .int .i64 s, .int .i64 n, .slice p L.length c], P.val, .agg #[.int .i64 u, .int .u64 (mb : Int)]] w fun e w' => ∃ (p2 : Option Addr) (c2 : Nat), e = .returned (.agg #[.int .u64 (loc : Int), .int .u64 (lost : Int), .slice p2 (cs ++ [(u, P.bits &&& mb)]).length c2]) ∧ w'.ownsRow C 58 12 (.slice p2 (cs ++ [(u, P.bits &&& mb)]).length c2) (cs ++ [(u, P.bits &&& mb)]).length ((cs ++ [(u, P.bits &&& mb)]).flatMap (cyC P)) ∧ w.grownBy w' (Value.slice pc cs.length cc).ownBlock := by
 have hval : P.val = .agg #[.int .i64 P.mode, .int .i64 P.sub, .int .i64 P.set, .int .i64 P.len, .int .i64 P.ttl, .int .i64 P.ent, .int .i64 P.ing, .int .i64 P.pro, .int .u64 (P.bits : Int), .string P.pay] := rfl
 rw [hval]
 obtain ⟨b, hb⟩ : ∃ b, P.bits &&& mb = b := ⟨_, rfl⟩
 have hbu : U64 b := by rw [← hb]; exact u64_andl _ _ hP.bits
 have HM : Hid (mskP P b = (cyP P b, true)) := Lib.hid (by
  have e : P.bits &&& b = b := by rw [← hb, ← Nat.and_assoc, Nat.and_self]
  unfold mskP cyP
  rw [if_pos ⟨hv, ht, by rw [e, ← hb]; exact hpm⟩, e])
 have HVB : Hid (∀ b, (Value.slice pc cs.length cc).ownBlock = some b → b < w.heap.size) := Lib.hid (fun b e => (hown.lt b e).2)
 have htt := Lib.hid (show (P.ttl == 0) = false by simpa using ht)
 have hrr := Lib.hid (show (u == r) = false by simpa using hu)
 clear hu ht
 have H0 := Lib.hid (hb_start w loc lost (.slice pc cs.length cc) r s n p c L P u mb)
 unfold pcells at H0
 have hand := andU P.bits mb hP.bits hmb
 rw [hb] at hand ⊢
 clear hb hpm
 go_enter Tryz.func41, Tryz.ntmps41
 go_upto_region 1 with fail
 generalize ((((w.alloc _).alloc _).alloc _).alloc _).alloc _ = wa at *
 obtain ⟨m0, m1⟩ := row_cells H0.out.mb
 obtain ⟨d0, d1, d2, d3⟩ := row4T H0.out.bx
 obtain ⟨a0, a1, a2, a3, a4, a5, a6, a7, a8, a9⟩ := p_facts H0.out.pb
 obtain ⟨⟨o0, o1, o2⟩, f0, f1, f2⟩ := row3f H0.out.ob
 replace htt := htt.out
 replace hrr := hrr.out
 have hsz : C ≤ wa.heap.size := Nat.le_trans hC H0.out.gr.size
 have HO := Lib.hid (hown.kept H0.out.gr (by cases (Value.slice pc cs.length cc).ownBlock <;> simp))
 have HC := Lib.hid (And.intro hC hsz)
 clear hown hC hsz hv
 have hval2 := Lib.hid hval
 clear hval
 go_wp2_with fail
 rw [← hval2.out]
 refine (maskc_any P hP b hbu HM.out wa).mono ?_
 rintro e w1 ⟨rfl, hg⟩
 have H1 := Lib.hid (H0.out.keep hg)
 have HO1 := Lib.hid (HO.out.kept hg (by cases (Value.slice pc cs.length cc).ownBlock <;> simp))
 have HC1 := Lib.hid (And.intro HC.out.1 (Nat.le_trans HC.out.2 hg.size))
 clear m0 m1 d0 d1 d2 d3 a0 a1 a2 a3 a4 a5 a6 a7 a8 a9 o0 o1 o2 f0 f1 f2 hg H0 HO HC htt hrr hand
 obtain ⟨k1, k2⟩ := tone_box w1 (pcells (cyP P b)) 28
 have HN := Lib.hid (And.intro k1 (And.intro k2 (show (w1.alloc (.cells (pcells (cyP P b)) 28)).heap.size = w1.heap.size + 1 by simp)))
 unfold pcells cyP at HN
 clear k1 k2 HM
 go_upto_region 3 with fail
 generalize w1.alloc _ = w2 at *
 have H2 := Lib.hid (H1.out.keep HN.out.2.1)
 have HO2 := Lib.hid (HO1.out.kept HN.out.2.1 (by cases (Value.slice pc cs.length cc).ownBlock <;> simp))
 have HC2 := Lib.hid (And.intro HC1.out.1 (Nat.le_trans HC1.out.2 HN.out.2.1.size))
 have HQ : Hid (w2.heap[w1.heap.size]? = some (.cells (pcells (cyP P b)) 28 (0, 0))) := Lib.hid HN.out.1
 obtain ⟨a0, a1, a2, a3, a4, a5, a6, a7, a8, a9⟩ := p_facts HQ.out
 simp only [cyP] at a0 a1 a2 a3 a4 a5 a6 a7 a8 a9
 generalize w1.heap.size = G at *
 clear H1 HO1 HC1 HN HQ
 obtain ⟨m0, m1⟩ := row_cells H2.out.mb
 obtain ⟨⟨o0, o1, o2⟩, f0, f1, f2⟩ := row3f H2.out.ob
 obtain ⟨ie, hie, he0, he1, he2⟩ := info_parts info_cy
 have hsz : C ≤ w2.heap.size := HC2.out.2
 go_wp2_with (at_builtin; refine hold_on ?_)
 refine wpList_append_lies _ rfl _ _ 36 rfl C 58 ie (.agg #[.int .i64 0, .slice none 0 0, .int .i64 0, .int .i64 0, .int .i64 0, .int .i64 0, .int .i64 0, .int .i64 0, .int .i64 0, .int .i64 0, .int .u64 0, .string ⟨#[]⟩]) 12 120 Tryz.underlying36 hie he0 he1 he2 rfl (by decide) (.slice pc cs.length cc) cs.length (cs.flatMap (cyC P)) rfl (HO2.out.alloc _) ⟨w2.heap.size, 0, none⟩ 1 1 (cyC P (u, b)) rfl rfl (cy_row w2 P (u, b) _) (cy_one P (u, b)) (by decide) (by unfold maxLen; omega) (by omega) (by simp; omega) _ rfl ?_
 intro g cap w8 hown8 hgrow hat hlt8
 have ga := World.grownBy_alloc w2 (.cells #[.int .i64 u, .slice none 0 0, .int .i64 P.mode, .int .i64 P.sub, .int .i64 P.set, .int .i64 P.len, .int .i64 (P.ttl - 1), .int .i64 P.ent, .int .i64 P.ing, .int .i64 P.pro, .int .u64 (b : Int), .string P.pay] 58) none
 have hvb := HVB.out
 have ob8 := kept_row (kept_row H2.out.ob ga (by simp)) hgrow (fun e => by have := hvb _ e.symm; omega)
 have rb8 := kept_row (kept_row H2.out.rb ga (by simp)) hgrow (fun e => by have := hvb _ e.symm; omega)
 have gr8 := grown_trans (grown_none (grown_trans H2.out.gr ga) (Value.slice pc cs.length cc).ownBlock) hgrow
 have hg8 : g ≠ w.heap.size ∧ g ≠ w.heap.size + 1 + 1 + 1 + 1 := by
  obtain ⟨h4, -⟩ := Array.getElem?_eq_some_iff.1 H2.out.rb
  rcases hat with e | e
  ·have := hvb _ e
   omega
  ·simp at e
   omega
 have X8 := Lib.hid (And.intro hown8 (And.intro gr8 (And.intro hg8 (And.intro ob8 rb8))))
 clear hown8 hgrow hat hlt8 ga hvb ob8 rb8 gr8 hg8 a0 a1 a2 a3 a4 a5 a6 a7 a8 a9 m0 m1 o0 o1 o2 f0 f1 f2 H2 HO2 HC2 hsz
 obtain ⟨⟨o0, o1, o2⟩, f0, f1, f2⟩ := row3f X8.out.2.2.2.1
 go_upto_region 8 with fail
 have ob9 := heap_setCell_same w8 _ 2 _ _ (.slice (some ⟨g, 0, none⟩) (cs.length + 1) cap) X8.out.2.2.2.1
 have j9 := grown_setCell w8 ⟨w.heap.size, 2, none⟩ (.slice (some ⟨g, 0, none⟩) (cs.length + 1) cap)
 have X9 := Lib.hid (And.intro (X8.out.1.kept j9 (Or.inr (fun e => X8.out.2.2.1.1 (Option.some.inj e)))) (And.intro (grown_over X8.out.2.1 j9 (Nat.le_refl _)) (And.intro X8.out.2.2.1.2 (And.intro ob9 (kept_row X8.out.2.2.2.2 j9 (fun e => by have : w.heap.size + 1 + 1 + 1 + 1 = w.heap.size := Option.some.inj e; omega))))))
 clear ob9 j9 X8 o0 o1 o2 f0 f1 f2
 generalize w8.setCell _ _ = w9 at *
 obtain ⟨⟨o0, o1, o2⟩, -⟩ := row3f X9.out.2.2.2.1
 obtain ⟨⟨z0, z1, z2⟩, f0, f1, f2⟩ := row3f X9.out.2.2.2.2
 go_wp2_with fail
 refine bodyPost_ret (res_outcome rfl _ _ (w.heap.size + 1 + 1 + 1 + 1) _ rfl rfl (ob_put _ _ _ X9.out.2.2.2.2)) rfl ?_
 have jr := ob_grown w9 (w.heap.size + 1 + 1 + 1 + 1) (.int .u64 (loc : Int)) (.int .u64 (lost : Int)) (.slice (some ⟨g, 0, none⟩) (cs.length + 1) cap)
 refine ⟨some ⟨g, 0, none⟩, cap, by rw [List.length_append]; rfl, ?_, grown_over X9.out.2.1 jr (by omega)⟩
 have := X9.out.1.kept jr (Or.inr (fun e => X9.out.2.2.1 (Option.some.inj e)))
 rw [List.length_append, List.flatMap_append]
 simpa using this
end Go.Proofs.YtpogblengagpaaaGreatDoor

/- forward: what the walk over the masks asks. -/
namespace Go.Proofs.YtpogblengagpaaaGreatDoor
set_option maxRecDepth 100000
open Go.RowKit Go.Maps Bs
theorem planeV_in (P : Pk) : 0 ≤ planeV P ∧ planeV P < 8 := by
 unfold planeV
 split <;> omega
theorem coF_fw {r s n : Int} {L : List Rw} {P : Pk} (h : ckT r s n L = 0) (u : Int) : (coF r s n L (planeV P) P.set u) = colL n P.set (planeV P).toNat L u := by
 obtain ⟨h1, h2⟩ := planeV_in P
 obtain ⟨k, hk⟩ := Int.eq_ofNat_of_zero_le h1
 rw [hk] at h2 ⊢
 rw [coF_in (by omega) h, Int.toNat_natCast]
structure MdF (n : Int) (L : List Rw) (P : Pk) (M : List Md) : Prop where
 b : ∀ y ∈ M, y.b = fwM n L P y.x ∧ 1 ≤ y.x ∧ U64 y.b
 all : ∀ u j, (fwM n L P u).testBit j = true → ∃ y ∈ M, y.x = u
 len : M.length ≤ 99
theorem mdF_of {r s n : Int} {L : List Rw} {P : Pk} {ts : List Int} (h : ckT r s n L = 0) (hA : AscM (coF r s n L (planeV P) P.set) ts) : MdF n L P (mdL (coF r s n L (planeV P) P.set) ts) := by
 have ho := coF_ok r s n L (planeV P) P.set
 refine ⟨fun y hy => ?_, fun u j hj => ?_, by rw [mdL_len]; exact ascM_len hA ho⟩
 ·obtain ⟨x, hx, rfl⟩ := List.mem_map.1 hy
  obtain ⟨d, hd⟩ := Option.isSome_iff_exists.1 ((hA.mem x).1 hx)
  refine ⟨?_, (ho.u x d hd).2.1, ho.getD x⟩
  show (coF r s n L (planeV P) P.set x).getD 0 = (colL n P.set (planeV P).toNat L x).getD 0
  rw [coF_fw h]
 ·unfold fwM at hj
  rw [← coF_fw (r := r) (s := s) h] at hj
  refine ⟨⟨u, (coF r s n L (planeV P) P.set u).getD 0⟩, List.mem_map.2 ⟨u, (hA.mem u).2 ?_, rfl⟩, rfl⟩
  cases hc : coF r s n L (planeV P) P.set u with
  | none =>
   rw [hc] at hj
   simp at hj
  | some d => rfl
theorem ck_rtF {r s n : Int} {L : List Rw} (h : ckT r s n L = 0) : 1 ≤ r ∧ r ≤ 99 := by
 have := (ck_ok h).1
 unfold hdT at this
 simp only [Bool.not_eq_false', Bool.and_eq_true] at this
 have h1 := this.1.1
 unfold inV at h1
 simpa using h1
end Go.Proofs.YtpogblengagpaaaGreatDoor

/- forward: Packet. -/
namespace Go.Proofs.YtpogblengagpaaaGreatDoor
set_option maxRecDepth 100000
open Go.RowKit Go.Maps Bs
structure FL (W : World) (r s n : Int) (p : Option Addr) (c : Nat) (L : List Rw) (P : Pk) (Z C : Nat) (pm : Option Addr) (cm : Nat) (M : List Md) (loc lost : Nat) (pc : Option Addr) (cc : Nat) (cs : List (Int × Nat)) (w : World) : Prop where
 fb : FB W W.heap.size r s n p c L P w
 rb : w.heap[W.heap.size + 1 + 1]? = some (.cells #[.int .u64 0, .int .u64 0, .slice none 0 0] 38 (0, 0))
 ob : w.heap[Z]? = some (.cells #[.int .u64 (loc : Int), .int .u64 (lost : Int), .slice pc cs.length cc] 38 (0, 0))
 ms : RdF w (fun b => b < C ∧ b ≠ Z) (.slice pm M.length cm) M.length (M.flatMap mdC)
 own : w.ownsRow C 58 12 (.slice pc cs.length cc) cs.length (cs.flatMap (cyC P))
 lo : W.heap.size + 1 + 1 < Z ∧ Z < C ∧ C ≤ w.heap.size
 tb : Tb w
variable {W w w1 : World} {r s n : Int} {p : Option Addr} {c : Nat} {L : List Rw} {P : Pk} {Z C : Nat} {pm : Option Addr} {cm : Nat} {M : List Md} {loc lost : Nat} {pc : Option Addr} {cc : Nat} {cs : List (Int × Nat)}
theorem FL.keep (h : FL W r s n p c L P Z C pm cm M loc lost pc cc cs w) (g : w.grownBy w1 none) : FL W r s n p c L P Z C pm cm M loc lost pc cc cs w1 :=
 ⟨h.fb.keep g, kept_row h.rb g (by simp), kept_row h.ob g (by simp), h.ms.grown g (fun _ _ => by simp), h.own.kept g (by cases (Value.slice pc cs.length cc).ownBlock <;> simp), ⟨h.lo.1, h.lo.2.1, Nat.le_trans h.lo.2.2 g.size⟩, h.tb.keep g⟩
theorem Tb.lt {w : World} (h : Tb w) : 0 < w.heap.size := by
 have h0 := h 0 (by decide)
 rcases Nat.lt_or_ge 0 w.heap.size with h1 | h1
 ·exact h1
 ·rw [World.cell?, Array.getElem?_eq_none h1] at h0
  cases h0
theorem FL.over {pc2 : Option Addr} {cc2 : Nat} {cs2 : List (Int × Nat)} (h : FL W r s n p c L P Z C pm cm M loc lost pc cc cs w) (hT : Tb W) (g : w.grownBy w1 (Value.slice pc cs.length cc).ownBlock) (hown : w1.ownsRow C 58 12 (.slice pc2 cs2.length cc2) cs2.length (cs2.flatMap (cyC P))) {loc2 lost2 : Nat} {w2 : World} (j : w1.grownBy w2 (some Z)) (hob : w2.heap[Z]? = some (.cells #[.int .u64 (loc2 : Int), .int .u64 (lost2 : Int), .slice pc2 cs2.length cc2] 38 (0, 0))) :
  FL W r s n p c L P Z C pm cm M loc2 lost2 pc2 cc2 cs2 w2 := by
 have hlo := h.lo
 have hge : ∀ b, (Value.slice pc cs.length cc).ownBlock = some b → C ≤ b := fun b e => (h.own.lt b e).1
 have hge2 : ∀ b, (Value.slice pc2 cs2.length cc2).ownBlock = some b → C ≤ b := fun b e => (hown.lt b e).1
 have hW := h.fb.gr.size
 have hz := hT.lt
 have ne1 : ∀ k, k < C → some k ≠ (Value.slice pc cs.length cc).ownBlock := fun k hk e => by have := hge k e.symm; omega
 have ne2 : ∀ k, k < Z → some k ≠ some Z := fun k hk e => by have := Option.some.inj e; omega
 have gr1 : W.grownBy w1 none := grown_any h.fb.gr g (fun b hb => ne1 b (by omega))
 have gr2 : W.grownBy w2 none := grown_any gr1 j (fun b hb => ne2 b (by omega))
 exact ⟨⟨kept_row (kept_row h.fb.bx g (ne1 _ (by omega))) j (ne2 _ (by omega)), kept_row (kept_row h.fb.pb g (ne1 _ (by omega))) j (ne2 _ (by omega)), (h.fb.rd.grown g (fun b hb => ne1 b (by omega))).grown j (fun b hb => ne2 b (by omega)), gr2, Nat.le_refl _⟩,
  kept_row (kept_row h.rb g (ne1 _ (by omega))) j (ne2 _ (by omega)), hob, (h.ms.grown g (fun b hb => ne1 b hb.1)).grown j (fun b hb e => hb.2 (Option.some.inj e)),
  hown.kept j (Or.inr (fun e => by have := hge2 Z e; omega)), ⟨hlo.1, hlo.2.1, Nat.le_trans hlo.2.2 (Nat.le_trans g.size j.size)⟩,
  (h.tb.grown g (fun e => ne1 _ (by omega) e.symm)).grown j (fun e => ne2 _ (by omega) e.symm)⟩
theorem FL.put {pc2 : Option Addr} {cc2 : Nat} {cs2 : List (Int × Nat)} (h : FL W r s n p c L P Z C pm cm M loc lost pc cc cs w) (hT : Tb W) (g : w.grownBy w1 (Value.slice pc cs.length cc).ownBlock) (hown : w1.ownsRow C 58 12 (.slice pc2 cs2.length cc2) cs2.length (cs2.flatMap (cyC P))) (loc2 lost2 : Nat) :
  FL W r s n p c L P Z C pm cm M loc2 lost2 pc2 cc2 cs2 (((w1.setCell ⟨Z, 0, none⟩ (.int .u64 (loc2 : Int))).setCell ⟨Z, 1, none⟩ (.int .u64 (lost2 : Int))).setCell ⟨Z, 2, none⟩ (.slice pc2 cs2.length cc2)) :=
 h.over hT g hown (ob_grown _ _ _ _ _) (ob_put _ _ _ (kept_row h.ob g (fun e => by have := (h.own.lt _ e.symm).1; have := h.lo.2.1; omega)))
structure F0 (W : World) (r s n : Int) (p : Option Addr) (c : Nat) (L : List Rw) (P : Pk) (w : World) : Prop where
 fb : FB W W.heap.size r s n p c L P w
 rb : w.heap[W.heap.size + 1 + 1]? = some (.cells #[.int .u64 0, .int .u64 0, .slice none 0 0] 38 (0, 0))
 tb : Tb w
theorem F0.keep (h : F0 W r s n p c L P w) (g : w.grownBy w1 none) : F0 W r s n p c L P w1 := ⟨h.fb.keep g, kept_row h.rb g (by simp), h.tb.keep g⟩
theorem f0_start (hR : RdW w (· < w.heap.size) p c L) (hT : Tb w) : F0 w r s n p c L P (((w.alloc (.cells #[.int .i64 r, .int .i64 s, .int .i64 n, .slice p L.length c] 25)).alloc (.cells (pcells P) 28)).alloc (.cells #[.int .u64 0, .int .u64 0, .slice none 0 0] 38)) := by
 have h1 := fb_start (r := r) (s := s) (n := n) (P := P) hR
 have h2 := heap_alloc_new ((w.alloc (.cells #[.int .i64 r, .int .i64 s, .int .i64 n, .slice p L.length c] 25)).alloc (.cells (pcells P) 28)) (.cells #[.int .u64 0, .int .u64 0, .slice none 0 0] 38)
 rw [show ((w.alloc (.cells #[.int .i64 r, .int .i64 s, .int .i64 n, .slice p L.length c] 25)).alloc (.cells (pcells P) 28)).heap.size = w.heap.size + 1 + 1 by simp] at h2
 have g := World.grownBy_alloc ((w.alloc (.cells #[.int .i64 r, .int .i64 s, .int .i64 n, .slice p L.length c] 25)).alloc (.cells (pcells P) 28)) (.cells #[.int .u64 0, .int .u64 0, .slice none 0 0] 38) none
 exact ⟨h1.keep g, h2, (hT.keep h1.gr).keep g⟩
set_option maxHeartbeats 6400000 in
theorem fwpk_any (r s n : Int) (p : Option Addr) (c : Nat) (L : List Rw) (P : Pk) (hP : P.Wf) (w : World) (hR : RdW w (· < w.heap.size) p c L) (hm : L.length ≤ 9223372036854775807) (hT : Tb w) :
  Calls Tryz.prog 11 #[.agg #[.int .i64 r, .int .i64 s, .int .i64 n, .slice p L.length c], P.val] w fun e w' => FwPost r s n L P w e w' := by
 have hval : P.val = .agg #[.int .i64 P.mode, .int .i64 P.sub, .int .i64 P.set, .int .i64 P.len, .int .i64 P.ttl, .int .i64 P.ent, .int .i64 P.ing, .int .i64 P.pro, .int .u64 (P.bits : Int), .string P.pay] := rfl
 rw [hval]
 have H0 := Lib.hid (f0_start (r := r) (s := s) (n := n) (P := P) hR hT)
 unfold pcells at H0
 have HT := Lib.hid hT
 clear hR hT
 go_enter Tryz.func11, Tryz.ntmps11
 go_upto_region 1 with fail
 generalize ((w.alloc _).alloc _).alloc _ = wa at *
 obtain ⟨a0, a1, a2, a3, a4, a5, a6, a7, a8, a9⟩ := p_facts H0.out.fb.pb
 obtain ⟨d0, d1, d2, d3⟩ := row4T H0.out.fb.bx
 go_step3
 go_wp2_with fail
 rw [← hval]
 refine (fwmis_any r s n p c L P hP wa H0.out.fb.all hm).mono ?_
 rintro e w1 ⟨rfl, hg⟩
 have H1 := Lib.hid (H0.out.keep hg)
 clear hg H0 d0 d1 d2 d3 a0 a1 a2 a3 a4 a5 a6 a7 a8 a9
 obtain ⟨E, hE⟩ : ∃ E, fwE r s n L P = E := ⟨_, rfl⟩
 have HE := Lib.hid hE
 rw [hE]
 clear hE
 by_cases h0 : E = 0
 case neg =>
  have h0' : (E != 0) = true := by simpa using h0
  have HZ := Lib.hid h0
  clear h0
  obtain ⟨⟨z0, z1, z2⟩, f0, f1, f2⟩ := row3f H1.out.rb
  go_wp2_with fail
  rw [Exit.noGoto_ret]
  refine bodyPost_ret (res_outcome_err rfl _ _ (w.heap.size + 1 + 1) _ rfl rfl (ob_put _ _ _ H1.out.rb)) rfl ?_
  exact ⟨E, 0, 0, [], none, 0, rfl, ⟨HE.out.symm, fun e => absurd e HZ.out, fun _ => ⟨rfl, rfl, rfl⟩, u64_zero, u64_zero⟩, World.ownsRow_nil _ _ _ _, grown_new H1.out.fb.gr (ob_grown _ _ _ _ _) (by omega)⟩
 subst h0
 obtain ⟨hck, hv, -, hsub, hlen⟩ := fwE_ok HE.out
 have HCK := Lib.hid (And.intro hck (And.intro hv (And.intro hsub hlen)))
 clear hck hv hsub hlen
 obtain ⟨k1, k2⟩ := tone_box w1 #[.int .u64 0, .int .u64 0, .slice none 0 0] 38
 have HZ := Lib.hid (And.intro (H1.out.keep k2) (And.intro k1 (And.intro (show w.heap.size + 1 + 1 < w1.heap.size from (Array.getElem?_eq_some_iff.1 H1.out.rb).1) (show (w1.alloc (.cells #[.int .u64 0, .int .u64 0, .slice none 0 0] 38)).heap.size = w1.heap.size + 1 by simp))))
 clear k1 k2 H1
 go_upto_region 5 with fail
 generalize w1.alloc _ = w2 at *
 generalize w1.heap.size = Z at *
 obtain ⟨a0, a1, a2, a3, a4, a5, a6, a7, a8, a9⟩ := p_facts HZ.out.1.fb.pb
 obtain ⟨d0, d1, d2, d3⟩ := row4T HZ.out.1.fb.bx
 refine wp_region_held_drew (S := fun w' => Hid (w2.grownBy w' none)) (by kernel_rfl) (Lib.hid (grown_drew (grown_refl _ none))) (fun hHeld => ?_)
 refine zT (i := 0) (v := ?_) rfl ?_ hHeld ?_
 rotate_left 1
 ·intro u hSu
  obtain ⟨a0u, a1u, a2u, a3u, a4u, a5u, a6u, a7u, a8u, a9u⟩ := p_facts (HZ.out.1.keep hSu.out).fb.pb
  obtain ⟨d0u, d1u, d2u, d3u⟩ := row4T (HZ.out.1.keep hSu.out).fb.bx
  go_simp
  first | done | with_reducible rfl
 try simp only [Act.put, zA, zB, zC]
 refine zT (i := 1) (v := ?_) rfl ?_ hHeld ?_
 rotate_left 1
 ·intro u hSu
  obtain ⟨a0u, a1u, a2u, a3u, a4u, a5u, a6u, a7u, a8u, a9u⟩ := p_facts (HZ.out.1.keep hSu.out).fb.pb
  obtain ⟨d0u, d1u, d2u, d3u⟩ := row4T (HZ.out.1.keep hSu.out).fb.bx
  go_simp
  first | done | with_reducible rfl
 try simp only [Act.put, zA, zB, zC]
 refine zT (i := 3) (v := ?_) rfl ?_ hHeld ?_
 rotate_left 1
 ·intro u hSu
  go_simp
  first | done | with_reducible rfl
 try simp only [Act.put, zA, zB, zC]
 refine zT (i := 4) (v := ?_) rfl ?_ hHeld ?_
 rotate_left 1
 ·intro u hSu
  obtain ⟨a0u, a1u, a2u, a3u, a4u, a5u, a6u, a7u, a8u, a9u⟩ := p_facts (HZ.out.1.keep hSu.out).fb.pb
  obtain ⟨d0u, d1u, d2u, d3u⟩ := row4T (HZ.out.1.keep hSu.out).fb.bx
  go_simp
  first | done | with_reducible rfl
 try simp only [Act.put, zA, zB, zC]
 refine wpAnyH_ready (rs := [2]) (by kernel_rfl) (by simp) ?_
 refine AllReadyH.cons (o := ⟨_, _, _, _, _, _⟩) rfl (fun Kz hK => ?_) AllReadyH.nil
 go_simp
 go_at_call 39
 refine (pplane_any P hP _).mono ?_
 rintro e' w7 ⟨rfl, hg⟩
 have HN := Lib.hid (grown_trans hHeld.out hg)
 clear hg
 simp only
 refine hK.out _ _ (HN) (fun hH2 => ?_)
 clear hK Kz hHeld
 have hHeld := hH2
 clear hH2
 try simp only [Act.put, zA, zB, zC]
 refine wpAnyH_ready (rs := [5]) (by kernel_rfl) (by simp) ?_
 refine AllReadyH.cons (o := ⟨_, _, _, _, _, _⟩) rfl (fun Kz hK => ?_) AllReadyH.nil
 go_simp
 go_at_call 38
 refine (mall_any r s n p c L (planeV P) P.set _ (HZ.out.1.keep hHeld.out).fb.all hm).mono ?_
 rintro e' w8 ⟨ts, pm, cm, rfl, hA, hO, hg⟩
 have HN2 := Lib.hid (grown_trans hHeld.out hg)
 have HA := Lib.hid (And.intro hA (And.intro hO hHeld.out.size))
 clear hA hO hg
 simp only
 refine hK.out _ _ (HN2) (fun hH2 => ?_)
 clear hK Kz hHeld
 have hHeld := hH2
 clear hH2
 try simp only [Act.put, zA, zB, zC]
 refine zT (i := 6) (v := ?_) rfl ?_ hHeld ?_
 rotate_left 1
 ·intro u hSu
  go_simp
  first | done | with_reducible rfl
 try simp only [Act.put, zA, zB, zC]
 refine wpAnyH_done (by kernel_rfl) ?_ _
 obtain ⟨M, hM⟩ : ∃ M, mdL (coF r s n L (planeV P) P.set) ts = M := ⟨_, rfl⟩
 have HMD : Hid (MdF n L P M) := Lib.hid (by rw [← hM]; exact mdF_of HCK.out.1 HA.out.1)
 have hO := HA.out.2.1
 rw [hM] at hO ⊢
 have hsz8 := hO
 obtain ⟨hms, hsz⟩ : RdF w8 (fun b => b < w8.heap.size ∧ b ≠ Z) (.slice pm M.length cm) M.length (M.flatMap mdC) ∧ w2.heap.size ≤ w8.heap.size := ⟨(rdf_of_own2 hO).mono (fun b hb => ⟨hb.2, by have := HA.out.2.2; have := HZ.out.2.2.2; omega⟩), hHeld.out.size⟩
 have K0 : Hid (FL w r s n p c L P Z w8.heap.size pm cm M 0 0 none 0 [] w8) := Lib.hid (by
  have hf := HZ.out.1.keep hHeld.out
  exact ⟨hf.fb, hf.rb, kept_row HZ.out.2.1 hHeld.out (by simp), hms, World.ownsRow_nil _ _ _ _, ⟨HZ.out.2.2.1, by have := HZ.out.2.2.2; omega, Nat.le_refl _⟩, hf.tb⟩)
 obtain ⟨b0, b1, b2, b3, b4, b5, b6, b7, b8, b9⟩ := p_facts K0.out.fb.pb
 have HMS := Lib.hid (fw_ms HE.out)
 have hML : M.length ≤ 99 := HMD.out.len
 have HR0 : Hid (r ≠ 0) := Lib.hid (by have := ck_rtF HCK.out.1; omega)
 clear hM hO hsz8 hms hsz HA HZ hHeld a0 a1 a2 a3 a4 a5 a6 a7 a8 a9 d0 d1 d2 d3
 generalize w8.heap.size = C at *
 have HPB := Lib.hid hP.bits
 have hval2 := Lib.hid hval
 clear hval
 go_wp2_with fail
 go_step3
 go_wp2_with fail
 clear b0 b1 b2 b3 b4 b5 b6 b7 b8 b9
 go_loopw [9] (fun u wr => ∃ (left loc lost : Nat) (cs : List (Int × Nat)) (pc : Option Addr) (cc : Nat), u = .int .u64 (left : Int) ∧ Hid (FwW n r L P left loc lost cs) ∧ Hid (FL w r s n p c L P Z C pm cm M loc lost pc cc cs wr)) (fun u _ => (RowKit.intOf u).toNat)
 case atStart => exact ⟨P.bits, 0, 0, [], none, 0, rfl, Lib.hid (fwI_start hP.bits), K0⟩
 case round =>
 clear K0
 obtain ⟨left, loc, lost, cs, pc, cc, rfl, I, K⟩ := hrel
 obtain ⟨w9, hw9⟩ : ∃ w9, w9 = wr := ⟨_, rfl⟩
 rw [← hw9] at K ⊢
 clear hw9
 by_cases hz : left = 0
 case pos =>
  subst hz
  obtain ⟨⟨o0, o1, o2⟩, -⟩ := row3f K.out.ob
  obtain ⟨⟨z0, z1, z2⟩, f0, f1, f2⟩ := row3f K.out.rb
  go_wp2_with fail
  rw [Exit.noGoto_ret]
  refine bodyPost_ret (res_outcome_err rfl _ _ (w.heap.size + 1 + 1) _ rfl rfl (ob_put _ _ _ K.out.rb)) rfl ?_
  have jr := ob_grown w9 (w.heap.size + 1 + 1) (.int .u64 (loc : Int)) (.int .u64 (lost : Int)) (.slice pc cs.length cc)
  have hlo := K.out.lo
  exact ⟨0, loc, lost, cs, pc, cc, rfl, ⟨HE.out.symm, fun _ => I.out.fin, fun e => absurd rfl e, I.out.hu.2⟩, (K.out.own.kept jr (Or.inr (fun e => by have := (K.out.own.lt _ e).1; omega))).mono (by omega), grown_new K.out.fb.gr jr (by omega)⟩
 have hz' : ((left : Int) != 0) = true := by simpa using hz
 have hlu := I.out.hu.1
 obtain ⟨j, hj⟩ : ∃ j, Lib.ctz 64 left = j := ⟨_, rfl⟩
 have HJ : Hid (Lst left j) := Lib.hid (by rw [← hj]; exact lst_ctz hlu hz)
 have hj64 := u64_bit hlu HJ.out.on
 have hpw := pow_word j hj64
 have HFP : Hid (∀ wx : World, Tb wx → Calls Tryz.prog 40 #[.int .u64 (left : Int)] wx fun e w' => e = .returned (.int .i64 (j : Int)) ∧ wx = w') := Lib.hid (fun wx hx => by
  rw [← hj]
  have := firstp_any left hlu wx hx
  unfold fst at this
  rwa [if_neg hz] at this)
 clear hj hz
 have HJ64 := Lib.hid hj64
 go_upto_region 8 with fail
 clear hz'
 go_wp2_with fail
 refine (HFP.out w9 K.out.tb).mono ?_
 rintro e w' ⟨rfl, rfl⟩
 go_upto_region 10 with fail
 clear hpw hj64
 go_loopw [9, 35] (fun v u wr => ∃ k : Nat, k ≤ M.length ∧ v = .int .u64 (left : Int) ∧ u = .int .i64 (k : Int) ∧ Hid (∀ i y, i < k → M[i]? = some y → y.b.testBit j = false) ∧ Hid (FL w r s n p c L P Z C pm cm M loc lost pc cc cs wr)) (fun _ u _ => M.length - (RowKit.intOf u).toNat)
 case atStart => exact ⟨0, Nat.zero_le _, rfl, rfl, Lib.hid (fun i y hi => absurd hi (by omega)), K⟩
 case round =>
 clear K
 obtain ⟨k, hk, rfl, rfl, HN, K⟩ := hrel
 obtain ⟨w9, hw9⟩ : ∃ w9, w9 = wr := ⟨_, rfl⟩
 rw [← hw9] at K ⊢
 clear hw9
 by_cases hlt : k < M.length
 case neg =>
  obtain rfl : k = M.length := by omega
  have hnl : ¬ (M.length : Int) < (M.length : Int) := by omega
  have H0 : Hid (fwH n L P j = 0) := Lib.hid (Classical.byContradiction fun hne => by
   have hb := ((HMS.out _ hne).2 j).2 ⟨rfl, HJ64.out⟩
   obtain ⟨y, hy, hx⟩ := HMD.out.all _ j hb
   obtain ⟨i, hi, he⟩ := List.mem_iff_getElem.1 hy
   have h1 := HN.out i y hi (by rw [List.getElem?_eq_getElem hi, he])
   rw [(HMD.out.b y hy).1, hx, hb] at h1
   cases h1)
  have I2 := Lib.hid (I.out.oneLost HPB.out HR0.out HJ.out H0.out)
  have hor := orU lost (b2 j) I.out.hu.2.2 (b2_u64 HJ64.out)
  have hnt : bits .andNot .u64 (left : Int) ((b2 j : Nat) : Int) = ((ntB left (b2 j) : Nat) : Int) := andNotU left (b2 j) I.out.hu.1 (b2_u64 HJ64.out)
  have hlt3 := ntB_lt I.out.hu.1 (b2_u64 HJ64.out) HJ.out.on (show (b2 j).testBit j = true from Nat.testBit_two_pow_self)
  obtain ⟨⟨o0, o1, o2⟩, f0, f1, f2⟩ := row3f K.out.ob
  have hob := heap_setCell_same w9 Z 1 _ _ (.int .u64 ((lost ||| b2 j : Nat) : Int)) K.out.ob
  have jr := grown_setCell w9 ⟨Z, 1, none⟩ (.int .u64 ((lost ||| b2 j : Nat) : Int))
  have K2 := Lib.hid (K.out.over HT.out (w1 := w9) (grown_refl _ _) K.out.own jr hob)
  clear hob jr
  go_wp2_with fail
  exact ⟨⟨ntB left (b2 j), loc, lost ||| b2 j, cs, pc, cc, rfl, I2, K2⟩, by simp only [RowKit.intOf]; omega⟩
 have hlt' : (k : Int) < (M.length : Int) := by omega
 have hk0 : (0 : Int) ≤ (k : Int) := by omega
 obtain ⟨y, hy⟩ : ∃ y, M[k]? = some y := ⟨_, List.getElem?_eq_getElem hlt⟩
 obtain ⟨-, b, off, rfl, -, hc⟩ := RdF.cells (f := mdC) (k := 2) (fun _ => rfl) (by decide) K.out.ms (by omega)
 have m0 : w9.cell? ⟨b, off + k * 2, none⟩ = some (.int .i64 y.x) := hc k y hy 0 _ rfl
 have m1 : w9.cell? ⟨b, off + k * 2 + 1, none⟩ = some (.int .u64 (y.b : Int)) := hc k y hy 1 _ rfl
 have HY := Lib.hid (And.intro hy (List.mem_of_getElem? hy))
 clear hc hy
 obtain ⟨k1, k2⟩ := tone_box w9 #[.int .i64 y.x, .int .u64 (y.b : Int)] 94
 have KB := Lib.hid (And.intro (K.out.keep k2) (And.intro k1 (And.intro (show ∀ b, (Value.slice pc cs.length cc).ownBlock = some b → b < w9.heap.size from fun b e => (K.out.own.lt b e).2) (show Z < w9.heap.size from Nat.lt_of_lt_of_le K.out.lo.2.1 K.out.lo.2.2))))
 clear k1 k2 K
 go_upto_region 12 with fail
 clear m0 m1 hlt'
 generalize w9.alloc _ = wb at *
 generalize w9.heap.size = Y at *
 obtain ⟨m0, m1⟩ := row_cells KB.out.2.1
 have hyb := HMD.out.b y HY.out.2
 have hand := andU y.b (b2 j) hyb.2.2 (b2_u64 HJ64.out)
 cases hb : y.b.testBit j with
 | false =>
  have h0 := (and_two (a := y.b) (j := j)).2 hb
  have HN2 : Hid (∀ i z, i < k + 1 → M[i]? = some z → z.b.testBit j = false) := Lib.hid (fun i z hi hz => by
   rcases Nat.lt_or_ge i k with h1 | h1
   ·exact HN.out i z h1 hz
   ·obtain rfl : i = k := by omega
    rw [HY.out.1] at hz
    cases hz
    exact hb)
  rw [show y.b &&& b2 j = 0 from h0] at hand
  have KB2 := Lib.hid KB.out.1
  clear hb h0 hyb KB HN HY
  go_wp2_with fail
  exact ⟨⟨k + 1, by omega, rfl, congrArg (Value.int .i64) (by omega), HN2, KB2⟩, by simp only [RowKit.intOf]; omega⟩
 | true =>
 have hne : ((y.b &&& b2 j : Nat) : Int) ≠ 0 := fun e => by
  have h1 : y.b &&& b2 j = 0 := by omega
  rw [(and_two (a := y.b) (j := j)).1 h1] at hb
  cases hb
 have hne' : (((y.b &&& b2 j : Nat) : Int) != 0) = true := by simpa using hne
 have hM : y.b = fwM n L P y.x := hyb.1
 have hx0 : y.x ≠ 0 := by omega
 have HH : Hid (fwH n L P j = y.x) := Lib.hid (((HMS.out _ hx0).2 j).1 (hM ▸ hb)).1
 have HX := Lib.hid (And.intro hM (And.intro hx0 hyb.2.2))
 have hlt3 := ntB_lt I.out.hu.1 hyb.2.2 HJ.out.on hb
 have hnt : bits .andNot .u64 (left : Int) (y.b : Int) = ((ntB left y.b : Nat) : Int) := andNotU left y.b I.out.hu.1 hyb.2.2
 have HPM : Hid (P.bits &&& y.b ≠ 0) := Lib.hid (fun e => by
  have h1 := congrArg (fun x => x.testBit j) e
  simp only [Nat.testBit_and, Nat.zero_testBit, hb, I.out.sub j HJ.out.on, Bool.and_self] at h1
  cases h1)
 clear hne hM hx0 hyb hb HN HY
 obtain ⟨⟨o0, o1, o2⟩, f0, f1, f2⟩ := row3f KB.out.1.ob
 obtain ⟨a0, a1, a2, a3, a4, a5, a6, a7, a8, a9⟩ := p_facts KB.out.1.fb.pb
 obtain ⟨d0, d1, d2, d3⟩ := row4T KB.out.1.fb.bx
 go_wp2_with fail
 by_cases hxr : y.x = r
 case pos =>
  have C1 : Calls Tryz.prog 41 #[.agg #[.int .u64 (loc : Int), .int .u64 (lost : Int), .slice pc cs.length cc], .agg #[.int .i64 r, .int .i64 s, .int .i64 n, .slice p L.length c], P.val, .agg #[.int .i64 y.x, .int .u64 (y.b : Int)]] wb fun e w' => e = .returned (.agg #[.int .u64 ((loc ||| (P.bits &&& y.b) : Nat) : Int), .int .u64 (lost : Int), .slice pc cs.length cc]) ∧ wb.grownBy w' none := by
   rw [hxr]
   exact fwh_loc loc lost I.out.hu.2.1 pc cs.length cc r s n p c L P hP y.b HX.out.2.2 wb
  have I2 : Hid (FwW n r L P (ntB left y.b) (loc ||| (P.bits &&& y.b)) lost cs) := Lib.hid (by
   have := I.out.allLoc HMS.out HPB.out HR0.out
   rw [HX.out.1, hxr]
   exact this)
  refine C1.mono ?_
  clear C1 hxr
  rintro e w10 ⟨rfl, hg⟩
  have hg2 := grown_none hg (Value.slice pc cs.length cc).ownBlock
  have K3 := Lib.hid (KB.out.1.put HT.out hg2 (KB.out.1.keep hg).own (loc ||| (P.bits &&& y.b)) lost)
  have hmb := kept_row (kept_row KB.out.2.1 hg2 (fun e => by have := KB.out.2.2.1 _ e.symm; omega)) (ob_grown w10 Z (.int .u64 ((loc ||| (P.bits &&& y.b) : Nat) : Int)) (.int .u64 (lost : Int)) (.slice pc cs.length cc)) (fun e => by have := Option.some.inj e; have := KB.out.2.2.2; omega)
  have hob := (KB.out.1.keep hg).ob
  clear o0 o1 o2 f0 f1 f2 a0 a1 a2 a3 a4 a5 a6 a7 a8 a9 d0 d1 d2 d3 m0 m1 KB hg hg2
  obtain ⟨⟨o0, o1, o2⟩, f0, f1, f2⟩ := row3f hob
  clear hob
  go_upto_region 14 with fail
  clear o0 o1 o2 f0 f1 f2
  generalize ((w10.setCell _ _).setCell _ _).setCell _ _ = w11 at *
  obtain ⟨m0, m1⟩ := row_cells hmb
  clear hmb
  go_wp2_with fail
  exact ⟨⟨ntB left y.b, loc ||| (P.bits &&& y.b), lost, cs, pc, cc, rfl, I2, K3⟩, by simp only [RowKit.intOf]; omega⟩
 have hne0 : fwH n L P j ≠ 0 := by rw [HH.out]; exact HX.out.2.1
 have hner : fwH n L P j ≠ r := by rw [HH.out]; exact hxr
 have hsame := I.out.same HMS.out HJ.out hne0 hner
 rw [HH.out, ← HX.out.1] at hsame
 by_cases ht : P.ttl = 0
 case pos =>
  have C1 := fwh_lost loc lost I.out.hu.2.2 pc cs.length cc r s n p c L P hP ht y.x hxr y.b HX.out.2.2 wb
  have I2 : Hid (FwW n r L P (ntB left y.b) loc (lost ||| (P.bits &&& y.b)) cs) := Lib.hid (by
   have I3 := I.out
   unfold FwW at I3 ⊢
   rw [decide_eq_true ht] at I3 ⊢
   have := I3.allLost HMS.out HPB.out HX.out.2.1 hxr
   rw [← HX.out.1, ← hsame] at this
   exact this)
  clear hsame hne0 hner ht
  refine C1.mono ?_
  clear C1 hxr
  rintro e w10 ⟨rfl, hg⟩
  have hg2 := grown_none hg (Value.slice pc cs.length cc).ownBlock
  have K3 := Lib.hid (KB.out.1.put HT.out hg2 (KB.out.1.keep hg).own loc (lost ||| (P.bits &&& y.b)))
  have hmb := kept_row (kept_row KB.out.2.1 hg2 (fun e => by have := KB.out.2.2.1 _ e.symm; omega)) (ob_grown w10 Z (.int .u64 (loc : Int)) (.int .u64 ((lost ||| (P.bits &&& y.b) : Nat) : Int)) (.slice pc cs.length cc)) (fun e => by have := Option.some.inj e; have := KB.out.2.2.2; omega)
  have hob := (KB.out.1.keep hg).ob
  clear o0 o1 o2 f0 f1 f2 a0 a1 a2 a3 a4 a5 a6 a7 a8 a9 d0 d1 d2 d3 m0 m1 KB hg hg2
  obtain ⟨⟨o0, o1, o2⟩, f0, f1, f2⟩ := row3f hob
  clear hob
  go_upto_region 14 with fail
  clear o0 o1 o2 f0 f1 f2
  generalize ((w10.setCell _ _).setCell _ _).setCell _ _ = w11 at *
  obtain ⟨m0, m1⟩ := row_cells hmb
  clear hmb
  go_wp2_with fail
  exact ⟨⟨ntB left y.b, loc, lost ||| (P.bits &&& y.b), cs, pc, cc, rfl, I2, K3⟩, by simp only [RowKit.intOf]; omega⟩
 have C1 := fwh_copy loc lost C pc cc cs (I.out.len HMS.out HPB.out) r s n p c L P hP HCK.out.2.1 ht y.x hxr y.b HX.out.2.2 HPM.out wb KB.out.1.lo.2.2 KB.out.1.own
 obtain ⟨cs2, hcs2⟩ : ∃ cs2, cs ++ [(y.x, P.bits &&& y.b)] = cs2 := ⟨_, rfl⟩
 have I2 : Hid (FwW n r L P (ntB left y.b) loc lost cs2) := Lib.hid (by
  have I3 := I.out
  unfold FwW at I3 ⊢
  rw [decide_eq_false ht] at I3 ⊢
  have := I3.copy HMS.out HPB.out HJ.out hne0 hner
  rw [HH.out, ← HX.out.1, ← hsame, hcs2] at this
  exact this)
 rw [hcs2] at C1
 clear hsame hne0 hner ht hcs2
 refine C1.mono ?_
 clear C1 hxr
 rintro e w10 ⟨p2, c2, rfl, hown, hg⟩
 have K3 := Lib.hid (KB.out.1.put HT.out hg hown loc lost)
 have hmb := kept_row (kept_row KB.out.2.1 hg (fun e => by have := KB.out.2.2.1 _ e.symm; omega)) (ob_grown w10 Z (.int .u64 (loc : Int)) (.int .u64 (lost : Int)) (.slice p2 cs2.length c2)) (fun e => by have := Option.some.inj e; have := KB.out.2.2.2; omega)
 have hob := kept_row KB.out.1.ob hg (fun e => by have := (KB.out.1.own.lt _ e.symm).1; have := KB.out.1.lo.2.1; omega)
 clear o0 o1 o2 f0 f1 f2 a0 a1 a2 a3 a4 a5 a6 a7 a8 a9 d0 d1 d2 d3 m0 m1 KB hg hown
 obtain ⟨⟨o0, o1, o2⟩, f0, f1, f2⟩ := row3f hob
 clear hob
 go_upto_region 14 with fail
 clear o0 o1 o2 f0 f1 f2
 generalize ((w10.setCell _ _).setCell _ _).setCell _ _ = w11 at *
 obtain ⟨m0, m1⟩ := row_cells hmb
 clear hmb
 go_wp2_with fail
 exact ⟨⟨ntB left y.b, loc, lost, cs2, p2, c2, rfl, I2, K3⟩, by simp only [RowKit.intOf]; omega⟩
end Go.Proofs.YtpogblengagpaaaGreatDoor

/- empty -/
namespace Go.Proofs.YtpogblengagpaaaGreatDoor
set_option maxRecDepth 100000
end Go.Proofs.YtpogblengagpaaaGreatDoor

/- empty -/
namespace Go.Proofs.YtpogblengagpaaaGreatDoor
set_option maxRecDepth 100000
end Go.Proofs.YtpogblengagpaaaGreatDoor

/- empty -/
namespace Go.Proofs.YtpogblengagpaaaGreatDoor
set_option maxRecDepth 100000
end Go.Proofs.YtpogblengagpaaaGreatDoor

/- empty -/
namespace Go.Proofs.YtpogblengagpaaaGreatDoor
set_option maxRecDepth 100000
end Go.Proofs.YtpogblengagpaaaGreatDoor

/- Slices of labels in memory. -/
namespace Go.Proofs.YtpogblengagpaaaGreatDoor
set_option maxRecDepth 100000
open Go.RowKit Bs
theorem By.drop {L : List Nat} (h : By L) (k : Nat) : By (L.drop k) := fun x hx => h x (List.mem_of_mem_drop hx)
end Go.Proofs.YtpogblengagpaaaGreatDoor

/- empty -/
namespace Go.Proofs.YtpogblengagpaaaGreatDoor
set_option maxRecDepth 100000
end Go.Proofs.YtpogblengagpaaaGreatDoor

/- empty -/
namespace Go.Proofs.YtpogblengagpaaaGreatDoor
set_option maxRecDepth 100000
end Go.Proofs.YtpogblengagpaaaGreatDoor

/- packet: Encode. -/
namespace Go.Proofs.YtpogblengagpaaaGreatDoor
set_option maxRecDepth 100000
open Go.RowKit Bs
section
variable {W w w1 : World} {P : Pk} {S n : Nat} {B B2 : List Bool} {p : Option Addr} {c : Nat}
end
end Go.Proofs.YtpogblengagpaaaGreatDoor

/- empty -/
namespace Go.Proofs.YtpogblengagpaaaGreatDoor
set_option maxRecDepth 100000
end Go.Proofs.YtpogblengagpaaaGreatDoor

/- empty -/
namespace Go.Proofs.YtpogblengagpaaaGreatDoor
set_option maxRecDepth 100000
end Go.Proofs.YtpogblengagpaaaGreatDoor

/- empty -/
namespace Go.Proofs.YtpogblengagpaaaGreatDoor
set_option maxRecDepth 100000
end Go.Proofs.YtpogblengagpaaaGreatDoor

/- stack: allValid, allDifferent; slices.Index and Contains of numbers. -/
namespace Go.Proofs.YtpogblengagpaaaGreatDoor
set_option maxRecDepth 100000
open Go.RowKit Bs
def iv (z : Int) : Value := .int .i64 z
theorem rdi_cells {w : World} {q : Nat → Prop} {p : Option Addr} {n c : Nat} {r : List Int} (h : Rd w q (.slice p n c) (r.map iv)) (hn : 0 < r.length) :
  ∃ b off, p = some ⟨b, off, none⟩ ∧ q b ∧ ∀ i, i < r.length → w.cell? ⟨b, off + i, none⟩ = some (.int .i64 (r.getD i 0)) := by
 obtain ⟨p1, c1, e1, hx⟩ := h
 injection e1 with a1 a2 a3
 subst a1
 obtain ⟨b, off, hp, hq, hc⟩ := hx (by intro e; have := congrArg List.length e; simp only [List.length_map, List.length_nil] at this; omega)
 refine ⟨b, off, hp, hq, fun i hi => hc i _ ?_⟩
 rw [List.getElem?_map, List.getElem?_eq_getElem hi, List.getD_eq_getElem?_getD, List.getElem?_eq_getElem hi]; rfl
end Go.Proofs.YtpogblengagpaaaGreatDoor

/- empty -/
namespace Go.Proofs.YtpogblengagpaaaGreatDoor
set_option maxRecDepth 100000
end Go.Proofs.YtpogblengagpaaaGreatDoor

/- The reference's Ints and Same, and the statements' sameLabels, at equal lists. -/
namespace Go.Proofs.YtpogblengagpaaaGreatDoor
set_option maxRecDepth 100000
open Go.RowKit Bs
set_option maxHeartbeats 3200000 in
theorem rintsSt_any (r : List Int) (p1 p2 : Option Addr) (c1 c2 : Nat) (q1 q2 : Nat → Prop) (w : World) (h1 : Rd w q1 (.slice p1 r.length c1) (r.map iv)) (h2 : Rd w q2 (.slice p2 r.length c2) (r.map iv)) (hm : r.length ≤ 9223372036854775807) :
  Calls Tryz.prog 80 #[.slice p1 r.length c1, .slice p2 r.length c2] w fun e w' => e = .returned (.bool true) ∧ w.grownBy w' none := by
 have H := Lib.hid (And.intro h1 h2)
 clear h1 h2
 go_enter Tryz.func80, Tryz.ntmps80
 go_wp2_with fail
 go_loopw [5] (fun a wr => ∃ k : Nat, k ≤ r.length ∧ a = .int .i64 (k : Int) ∧ w.grownBy wr none) (fun a _ => r.length - (RowKit.intOf a).toNat)
 case atStart => exact ⟨0, Nat.zero_le _, rfl, grown_refl _ _⟩
 case round =>
  obtain ⟨k, hk, rfl, hG⟩ := hrel
  by_cases hlt : k < r.length
  ·obtain ⟨b1, o1, rfl, _, hc1⟩ := rdi_cells (H.out.1.keep hG) (by omega)
   obtain ⟨b2, o2, rfl, _, hc2⟩ := rdi_cells (H.out.2.keep hG) (by omega)
   have e1 := hc1 k hlt
   have e2 := hc2 k hlt
   have HG := Lib.hid hG
   clear hc1 hc2 hG
   generalize r.getD k 0 = y at *
   go_wp2_with fail
   go_region
   have HG2 := Lib.hid (grown_drew HG.out)
   clear HG e1 e2
   change Exit.then _ _ _ _ wr.drew
   generalize wr.drew = w2 at *
   go_wp2_with fail
   exact ⟨⟨k + 1, by omega, congrArg _ (by omega), HG2.out⟩, by simp only [RowKit.intOf]; omega⟩
  ·obtain rfl : k = r.length := by omega
   have HG := Lib.hid hG
   clear hG
   go_wp2_with fail
   go_ret
   exact ⟨rfl, HG.out⟩
def gcells (v : Value) (n0 n1 n2 n3 n4 n5 n6 n7 n8 : Int) (s9 : ByteArray) : Array Value := #[v, .int .i64 n0, .int .i64 n1, .int .i64 n2, .int .i64 n3, .int .i64 n4, .int .i64 n5, .int .i64 n6, .int .i64 n7, .int .u64 n8, .string s9]
theorem g_facts {w : World} {b : Nat} {v : Value} {n0 n1 n2 n3 n4 n5 n6 n7 n8 : Int} {s9 : ByteArray} (h : w.heap[b]? = some (.cells (gcells v n0 n1 n2 n3 n4 n5 n6 n7 n8 s9) 56 (0, 0))) :
  w.cell? ⟨b, 0, none⟩ = some v ∧ w.cell? ⟨b, 1, none⟩ = some (.int .i64 n0) ∧ w.cell? ⟨b, 2, none⟩ = some (.int .i64 n1) ∧ w.cell? ⟨b, 3, none⟩ = some (.int .i64 n2) ∧ w.cell? ⟨b, 4, none⟩ = some (.int .i64 n3) ∧ w.cell? ⟨b, 5, none⟩ = some (.int .i64 n4) ∧ w.cell? ⟨b, 6, none⟩ = some (.int .i64 n5) ∧ w.cell? ⟨b, 7, none⟩ = some (.int .i64 n6) ∧ w.cell? ⟨b, 8, none⟩ = some (.int .i64 n7) ∧ w.cell? ⟨b, 9, none⟩ = some (.int .u64 n8) ∧ w.cell? ⟨b, 10, none⟩ = some (.string s9) :=
 ⟨cell_of_row _ _ _ _ _ _ h, cell_of_row _ _ _ _ _ _ h, cell_of_row _ _ _ _ _ _ h, cell_of_row _ _ _ _ _ _ h, cell_of_row _ _ _ _ _ _ h, cell_of_row _ _ _ _ _ _ h, cell_of_row _ _ _ _ _ _ h, cell_of_row _ _ _ _ _ _ h, cell_of_row _ _ _ _ _ _ h, cell_of_row _ _ _ _ _ _ h, cell_of_row _ _ _ _ _ _ h⟩
set_option maxHeartbeats 3200000 in
theorem rsame_any (r : List Int) (n0 n1 n2 n3 n4 n5 n6 n7 n8 : Int) (s9 : ByteArray) (p1 p2 : Option Addr) (c1 c2 : Nat) (q1 q2 : Nat → Prop) (w : World) (h1 : Rd w q1 (.slice p1 r.length c1) (r.map iv)) (h2 : Rd w q2 (.slice p2 r.length c2) (r.map iv)) (hm : r.length ≤ 9223372036854775807) :
  Calls Tryz.prog 45 #[.agg #[.slice p1 r.length c1, .int .i64 n0, .int .i64 n1, .int .i64 n2, .int .i64 n3, .int .i64 n4, .int .i64 n5, .int .i64 n6, .int .i64 n7, .int .u64 n8, .string s9], .agg #[.slice p2 r.length c2, .int .i64 n0, .int .i64 n1, .int .i64 n2, .int .i64 n3, .int .i64 n4, .int .i64 n5, .int .i64 n6, .int .i64 n7, .int .u64 n8, .string s9]] w fun e w' => e = .returned (.bool true) ∧ w.grownBy w' none := by
 obtain ⟨k1, k2, k3, k4⟩ := two_boxes w (gcells (.slice p1 r.length c1) n0 n1 n2 n3 n4 n5 n6 n7 n8 s9) (gcells (.slice p2 r.length c2) n0 n1 n2 n3 n4 n5 n6 n7 n8 s9) 56 56
 obtain ⟨a0, a1, a2, a3, a4, a5, a6, a7, a8, a9, a10⟩ := g_facts k1
 obtain ⟨b0, b1, b2, b3, b4, b5, b6, b7, b8, b9, b10⟩ := g_facts k2
 have H := Lib.hid (And.intro (h1.keep k3) (h2.keep k3))
 have K := Lib.hid k3
 clear k1 k2 k3 k4 h1 h2
 unfold gcells at *
 go_enter Tryz.func45, Tryz.ntmps45
 go_upto_region 1 with fail
 generalize (w.alloc _).alloc _ = wa at *
 go_wp2_with (go_at_call 80; refine (rintsSt_any r p1 p2 c1 c2 _ _ wa H.out.1 H.out.2 hm).mono ?_; rintro e w' ⟨rfl, hg⟩; have G := Lib.hid hg; clear hg)
 go_ret
 exact ⟨rfl, grown_trans K.out G.out⟩
end Go.Proofs.YtpogblengagpaaaGreatDoor

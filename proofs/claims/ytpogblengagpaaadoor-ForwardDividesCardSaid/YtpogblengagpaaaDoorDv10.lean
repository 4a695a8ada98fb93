/- Parts of the proof, packed: FwH, FwFor. -/
import Derived.Test.YtpogblengagpaaaDoorDv9
import Derived.Test.YtpogblengagpaaaDoorDv8
import Derived.Test.YtpogblengagpaaaDoorDv7
import Derived.Test.YtpogblengagpaaaDoorDv3
import Derived.Deep.CutRange
/- forward: handOver. -/
namespace Go.Proofs.YtpogblengagpaaaDoor
set_option maxRecDepth 100000
open Go.RowKit Go.Maps Bs
theorem five_new (w : World) (A B C D E : Obj) : (((((w.alloc A).alloc B).alloc C).alloc D).alloc E).heap[w.heap.size]? = some A ∧ (((((w.alloc A).alloc B).alloc C).alloc D).alloc E).heap[w.heap.size + 1]? = some B ∧ (((((w.alloc A).alloc B).alloc C).alloc D).alloc E).heap[w.heap.size + 2]? = some C ∧ (((((w.alloc A).alloc B).alloc C).alloc D).alloc E).heap[w.heap.size + 3]? = some D ∧ (((((w.alloc A).alloc B).alloc C).alloc D).alloc E).heap[w.heap.size + 4]? = some E ∧
  w.grownBy (((((w.alloc A).alloc B).alloc C).alloc D).alloc E) none ∧ (((((w.alloc A).alloc B).alloc C).alloc D).alloc E).heap.size = w.heap.size + 5 := by
 have st : ∀ (wx : World) (b : Nat) (o o2 : Obj), wx.heap[b]? = some o → (wx.alloc o2).heap[b]? = some o := fun wx b o o2 h => kept_row h (World.grownBy_alloc wx o2 none) (by simp)
 have n1 := heap_alloc_new w A
 have n2 := heap_alloc_new (w.alloc A) B
 have n3 := heap_alloc_new ((w.alloc A).alloc B) C
 have n4 := heap_alloc_new (((w.alloc A).alloc B).alloc C) D
 have n5 := heap_alloc_new ((((w.alloc A).alloc B).alloc C).alloc D) E
 rw [show (w.alloc A).heap.size = w.heap.size + 1 by simp] at n2
 rw [show ((w.alloc A).alloc B).heap.size = w.heap.size + 2 by simp] at n3
 rw [show (((w.alloc A).alloc B).alloc C).heap.size = w.heap.size + 3 by simp] at n4
 rw [show ((((w.alloc A).alloc B).alloc C).alloc D).heap.size = w.heap.size + 4 by simp] at n5
 exact ⟨st _ _ _ _ (st _ _ _ _ (st _ _ _ _ (st _ _ _ _ n1))), st _ _ _ _ (st _ _ _ _ (st _ _ _ _ n2)), st _ _ _ _ (st _ _ _ _ n3), st _ _ _ _ n4, n5, grown_trans (World.grownBy_alloc _ _ _) (grown_trans (World.grownBy_alloc _ _ _) (grown_trans (World.grownBy_alloc _ _ _) (grown_trans (World.grownBy_alloc _ _ _) (World.grownBy_alloc _ _ _)))), by simp⟩
structure HB (W : World) (O : Nat) (loc lost : Nat) (vc : Value) (r s n : Int) (p : Option Addr) (c : Nat) (L : List Rw) (P : Pk) (u : Int) (mb : Nat) (w : World) : Prop where
 ob : w.heap[O]? = some (.cells #[.int .u64 (loc : Int), .int .u64 (lost : Int), vc] 35 (0, 0))
 bx : w.heap[O + 1]? = some (.cells #[.int .i64 r, .int .i64 s, .int .i64 n, .slice p L.length c] 27 (0, 0))
 pb : w.heap[O + 1 + 1]? = some (.cells (pcells P) 30 (0, 0))
 mb : w.heap[O + 1 + 1 + 1]? = some (.cells #[.int .i64 u, .int .u64 (mb : Int)] 78 (0, 0))
 rb : w.heap[O + 1 + 1 + 1 + 1]? = some (.cells #[.int .u64 0, .int .u64 0, .slice none 0 0] 35 (0, 0))
 gr : W.grownBy w none
 le : W.heap.size ≤ O
theorem HB.keep {W w w1 : World} {O : Nat} {loc lost : Nat} {vc : Value} {r s n : Int} {p : Option Addr} {c : Nat} {L : List Rw} {P : Pk} {u : Int} {mb : Nat} (h : HB W O loc lost vc r s n p c L P u mb w) (g : w.grownBy w1 none) : HB W O loc lost vc r s n p c L P u mb w1 :=
 ⟨kept_row h.ob g (by simp), kept_row h.bx g (by simp), kept_row h.pb g (by simp), kept_row h.mb g (by simp), kept_row h.rb g (by simp), grown_trans h.gr g, h.le⟩
theorem hb_start (w : World) (loc lost : Nat) (vc : Value) (r s n : Int) (p : Option Addr) (c : Nat) (L : List Rw) (P : Pk) (u : Int) (mb : Nat) :
  HB w w.heap.size loc lost vc r s n p c L P u mb (((((w.alloc (.cells #[.int .u64 (loc : Int), .int .u64 (lost : Int), vc] 35)).alloc (.cells #[.int .i64 r, .int .i64 s, .int .i64 n, .slice p L.length c] 27)).alloc (.cells (pcells P) 30)).alloc (.cells #[.int .i64 u, .int .u64 (mb : Int)] 78)).alloc (.cells #[.int .u64 0, .int .u64 0, .slice none 0 0] 35)) := by
 obtain ⟨h1, h2, h3, h4, h5, g, -⟩ := five_new w (.cells #[.int .u64 (loc : Int), .int .u64 (lost : Int), vc] 35) (.cells #[.int .i64 r, .int .i64 s, .int .i64 n, .slice p L.length c] 27) (.cells (pcells P) 30) (.cells #[.int .i64 u, .int .u64 (mb : Int)] 78) (.cells #[.int .u64 0, .int .u64 0, .slice none 0 0] 35)
 exact ⟨h1, h2, h3, h4, h5, g, Nat.le_refl _⟩
theorem HB.at0 {W w : World} {O : Nat} {loc lost : Nat} {vc : Value} {r s n : Int} {p : Option Addr} {c : Nat} {L : List Rw} {P : Pk} {u : Int} {mb : Nat} (h : HB W O loc lost vc r s n p c L P u mb w) (x : Nat) : HB W O x lost vc r s n p c L P u mb (w.setCell ⟨O, 0, none⟩ (.int .u64 (x : Int))) := by
 have j := grown_setCell w ⟨O, 0, none⟩ (.int .u64 (x : Int))
 have ne : ∀ k, some (O + (k + 1)) ≠ some O := fun k e => by have : O + (k + 1) = O := Option.some.inj e; omega
 exact ⟨heap_setCell_same w _ 0 _ _ _ h.ob, kept_row h.bx j (ne 0), kept_row h.pb j (ne 1), kept_row h.mb j (ne 2), kept_row h.rb j (ne 3), grown_new h.gr j h.le, h.le⟩
theorem HB.at1 {W w : World} {O : Nat} {loc lost : Nat} {vc : Value} {r s n : Int} {p : Option Addr} {c : Nat} {L : List Rw} {P : Pk} {u : Int} {mb : Nat} (h : HB W O loc lost vc r s n p c L P u mb w) (x : Nat) : HB W O loc x vc r s n p c L P u mb (w.setCell ⟨O, 1, none⟩ (.int .u64 (x : Int))) := by
 have j := grown_setCell w ⟨O, 1, none⟩ (.int .u64 (x : Int))
 have ne : ∀ k, some (O + (k + 1)) ≠ some O := fun k e => by have : O + (k + 1) = O := Option.some.inj e; omega
 exact ⟨heap_setCell_same w _ 1 _ _ _ h.ob, kept_row h.bx j (ne 0), kept_row h.pb j (ne 1), kept_row h.mb j (ne 2), kept_row h.rb j (ne 3), grown_new h.gr j h.le, h.le⟩
theorem ob_put {w : World} {g : Nat} {a b c : Value} (v0 v1 v2 : Value) (hr : w.heap[g]? = some (.cells #[a, b, c] 35 (0, 0))) :
  (((w.setCell ⟨g, 0, none⟩ v0).setCell ⟨g, 1, none⟩ v1).setCell ⟨g, 2, none⟩ v2).heap[g]? = some (.cells #[v0, v1, v2] 35 (0, 0)) :=
 heap_setCell_same _ g 2 _ _ v2 (heap_setCell_same _ g 1 _ _ v1 (heap_setCell_same _ g 0 _ _ v0 hr))
theorem ob_grown (w : World) (g : Nat) (v0 v1 v2 : Value) : w.grownBy (((w.setCell ⟨g, 0, none⟩ v0).setCell ⟨g, 1, none⟩ v1).setCell ⟨g, 2, none⟩ v2) (some g) :=
 grown_trans (grown_trans (grown_setCell _ ⟨g, 0, none⟩ _) (grown_setCell _ ⟨g, 1, none⟩ _)) (grown_setCell _ ⟨g, 2, none⟩ _)
theorem row3f {w : World} {b : Nat} {x y z : Value} {t : TypeId} (h : w.heap[b]? = some (.cells #[x, y, z] t (0, 0))) : (w.cell? ⟨b, 0, none⟩ = some x ∧ w.cell? ⟨b, 1, none⟩ = some y ∧ w.cell? ⟨b, 2, none⟩ = some z) ∧ w.frozen? ⟨b, 0, none⟩ = false ∧ w.frozen? ⟨b, 1, none⟩ = false ∧ w.frozen? ⟨b, 2, none⟩ = false :=
 ⟨⟨cell_of_row _ _ _ _ _ _ h, cell_of_row _ _ _ _ _ _ h, cell_of_row _ _ _ _ _ _ h⟩, frozen_of_row _ _ _ _ _ h, frozen_of_row _ _ _ _ _ h, frozen_of_row _ _ _ _ _ h⟩
theorem outcome_size : (Tryd.prog.info? 35).map (·.size) = some 3 := by kernel_rfl
theorem res_outcome {fn : Func} {p : Tmp} (h : fn.results = #[.cell p 35]) (tmps : Array Value) (w : World) (g : Nat) (xs : Array Value) (hp : tmps.getD p undef = .pointer (some ⟨g, 0, none⟩)) (hn : xs.size = 3) (hg : w.heap[g]? = some (.cells xs 35 (0, 0))) :
  (results fn tmps).run Tryd.prog w = .ok (.agg xs) w := by
 exact results_cell_row h tmps w g _ _ _ _ hp hg Tryd.underlying35 rfl (by rw [hn]; exact outcome_size)
theorem res_outcome_err {fn : Func} {p u : Tmp} (h : fn.results = #[.cell p 35, .tmp u]) (tmps : Array Value) (w : World) (g : Nat) (xs : Array Value) (hp : tmps.getD p undef = .pointer (some ⟨g, 0, none⟩)) (hn : xs.size = 3) (hg : w.heap[g]? = some (.cells xs 35 (0, 0))) :
  (results fn tmps).run Tryd.prog w = .ok (.tuple #[.agg xs, tmps.getD u undef]) w := by
 have hp' : tmps[p]?.getD undef = .pointer (some ⟨g, 0, none⟩) := by simpa using hp
 rw [results_cell_tmp h]
 simp [hp', asAddr, run_loadVar_row w g _ _ _ _ _ hg Tryd.underlying35 rfl (by rw [hn]; exact outcome_size), Result.andThen]
theorem grown_over {w w1 w2 : World} {r : Option Nat} {O : Nat} (h : w.grownBy w1 r) (k : w1.grownBy w2 (some O)) (hO : w.heap.size ≤ O) : w.grownBy w2 r :=
 ⟨k.os.trans h.os, k.tape.trans h.tape, k.output.trans h.output, Nat.le_trans h.size k.size, fun i hi hr => (k.block i (Nat.lt_of_lt_of_le hi h.size) (fun e => by have := Option.some.inj e; omega)).trans (h.block i hi hr)⟩
set_option maxHeartbeats 3200000 in
theorem fwh_loc (loc lost : Nat) (hl : U64 loc) (pc : Option Addr) (nc cc : Nat) (r s n : Int) (p : Option Addr) (c : Nat) (L : List Rw) (P : Pk) (hP : P.Wf) (mb : Nat) (hmb : U64 mb) (w : World) :
  Calls Tryd.prog 27 #[.agg #[.int .u64 (loc : Int), .int .u64 (lost : Int), .slice pc nc cc], .agg #[.int .i64 r, .int .i64 s, .int .i64 n, .slice p L.length c], P.val, .agg #[.int .i64 r, .int .u64 (mb : Int)]] w fun e w' => e = .returned (.agg #[.int .u64 ((loc ||| (P.bits &&& mb) : Nat) : Int), .int .u64 (lost : Int), .slice pc nc cc]) ∧ w.grownBy w' none := by
 have hval : P.val = .agg #[.int .i64 P.mode, .int .i64 P.sub, .int .i64 P.set, .int .i64 P.len, .int .i64 P.ttl, .int .i64 P.ent, .int .i64 P.ing, .int .i64 P.pro, .int .u64 (P.bits : Int), .string P.pay] := rfl
 rw [hval]
 have H0 := Lib.hid (hb_start w loc lost (.slice pc nc cc) r s n p c L P r mb)
 unfold pcells at H0
 have hand := andU P.bits mb hP.bits hmb
 have hor := orU loc (P.bits &&& mb) hl (u64_andl _ _ hP.bits)
 clear hval
 go_enter Tryd.func27, Tryd.ntmps27
 go_upto_region 1 with fail
 generalize ((((w.alloc _).alloc _).alloc _).alloc _).alloc _ = wa at *
 obtain ⟨m0, m1⟩ := row_cells H0.out.mb
 obtain ⟨d0, d1, d2, d3⟩ := row4T H0.out.bx
 obtain ⟨a0, a1, a2, a3, a4, a5, a6, a7, a8, a9⟩ := p_facts H0.out.pb
 obtain ⟨⟨o0, o1, o2⟩, f0, f1, f2⟩ := row3f H0.out.ob
 have hrr : (r == r) = true := by simp
 have H1 := Lib.hid (H0.out.at0 (loc ||| (P.bits &&& mb)))
 go_upto_region 8 with fail
 clear m0 m1 d0 d1 d2 d3 a0 a1 a2 a3 a4 a5 a6 a7 a8 a9 o0 o1 o2 f0 f1 f2 H0 hor hand
 generalize wa.setCell _ _ = w1 at *
 obtain ⟨⟨o0, o1, o2⟩, -⟩ := row3f H1.out.ob
 obtain ⟨⟨z0, z1, z2⟩, f0, f1, f2⟩ := row3f H1.out.rb
 go_wp2_with fail
 refine bodyPost_ret (res_outcome rfl _ _ (w.heap.size + 1 + 1 + 1 + 1) _ rfl rfl (ob_put _ _ _ H1.out.rb)) rfl ?_
 exact ⟨rfl, grown_new H1.out.gr (ob_grown _ _ _ _ _) (by omega)⟩
set_option maxHeartbeats 3200000 in
theorem fwh_lost (loc lost : Nat) (hl : U64 lost) (pc : Option Addr) (nc cc : Nat) (r s n : Int) (p : Option Addr) (c : Nat) (L : List Rw) (P : Pk) (hP : P.Wf) (ht : P.ttl = 0) (u : Int) (hu : u ≠ r) (mb : Nat) (hmb : U64 mb) (w : World) :
  Calls Tryd.prog 27 #[.agg #[.int .u64 (loc : Int), .int .u64 (lost : Int), .slice pc nc cc], .agg #[.int .i64 r, .int .i64 s, .int .i64 n, .slice p L.length c], P.val, .agg #[.int .i64 u, .int .u64 (mb : Int)]] w fun e w' => e = .returned (.agg #[.int .u64 (loc : Int), .int .u64 ((lost ||| (P.bits &&& mb) : Nat) : Int), .slice pc nc cc]) ∧ w.grownBy w' none := by
 have hval : P.val = .agg #[.int .i64 P.mode, .int .i64 P.sub, .int .i64 P.set, .int .i64 P.len, .int .i64 P.ttl, .int .i64 P.ent, .int .i64 P.ing, .int .i64 P.pro, .int .u64 (P.bits : Int), .string P.pay] := rfl
 rw [hval]
 have htt := Lib.hid (show (P.ttl == 0) = true by simpa using ht)
 have hrr := Lib.hid (show (u == r) = false by simpa using hu)
 clear hu ht
 have H0 := Lib.hid (hb_start w loc lost (.slice pc nc cc) r s n p c L P u mb)
 unfold pcells at H0
 have hand := andU P.bits mb hP.bits hmb
 have hor := orU lost (P.bits &&& mb) hl (u64_andl _ _ hP.bits)
 clear hval
 go_enter Tryd.func27, Tryd.ntmps27
 go_upto_region 1 with fail
 generalize ((((w.alloc _).alloc _).alloc _).alloc _).alloc _ = wa at *
 obtain ⟨m0, m1⟩ := row_cells H0.out.mb
 obtain ⟨d0, d1, d2, d3⟩ := row4T H0.out.bx
 obtain ⟨a0, a1, a2, a3, a4, a5, a6, a7, a8, a9⟩ := p_facts H0.out.pb
 obtain ⟨⟨o0, o1, o2⟩, f0, f1, f2⟩ := row3f H0.out.ob
 replace htt := htt.out
 replace hrr := hrr.out
 have H1 := Lib.hid (H0.out.at1 (lost ||| (P.bits &&& mb)))
 go_upto_region 8 with fail
 clear m0 m1 d0 d1 d2 d3 a0 a1 a2 a3 a4 a5 a6 a7 a8 a9 o0 o1 o2 f0 f1 f2 H0 hor hand
 generalize wa.setCell _ _ = w1 at *
 obtain ⟨⟨o0, o1, o2⟩, -⟩ := row3f H1.out.ob
 obtain ⟨⟨z0, z1, z2⟩, f0, f1, f2⟩ := row3f H1.out.rb
 go_wp2_with fail
 refine bodyPost_ret (res_outcome rfl _ _ (w.heap.size + 1 + 1 + 1 + 1) _ rfl rfl (ob_put _ _ _ H1.out.rb)) rfl ?_
 exact ⟨rfl, grown_new H1.out.gr (ob_grown _ _ _ _ _) (by omega)⟩
theorem cy_row (w : World) (P : Pk) (y : Int × Nat) (t : TypeId) : ∀ j u, (cyC P y)[j]? = some u → (w.alloc (.cells #[.int .i64 y.1, .slice none 0 0, .int .i64 P.mode, .int .i64 P.sub, .int .i64 P.set, .int .i64 P.len, .int .i64 (P.ttl - 1), .int .i64 P.ent, .int .i64 P.ing, .int .i64 P.pro, .int .u64 (y.2 : Int), .string P.pay] t)).cell? ((⟨w.heap.size, 0, none⟩ : Addr).add j) = some u := by
 intro j u hu
 rw [add_plain, cell_of_row _ _ _ _ _ _ (heap_alloc_new w _), Nat.zero_add]
 simpa [cyC] using hu
theorem maskc_any (P : Pk) (hP : P.Wf) (b : Nat) (hb : U64 b) (hm : mskP P b = (cyP P b, true)) (w : World) :
  Calls Tryd.prog 47 #[P.val, .int .u64 (b : Int)] w fun e w' => e = .returned (.tuple #[.agg #[.int .i64 P.mode, .int .i64 P.sub, .int .i64 P.set, .int .i64 P.len, .int .i64 (P.ttl - 1), .int .i64 P.ent, .int .i64 P.ing, .int .i64 P.pro, .int .u64 (b : Int), .string P.pay], .bool true]) ∧ w.grownBy w' none := by
 refine (maskp_any P hP b hb w).mono ?_
 rintro e w' ⟨rfl, h⟩
 rw [hm]
 exact ⟨rfl, h⟩
set_option maxHeartbeats 3200000 in
theorem fwh_copy (loc lost : Nat) (C : Nat) (pc : Option Addr) (cc : Nat) (cs : List (Int × Nat)) (hcl : cs.length ≤ 64) (r s n : Int) (p : Option Addr) (c : Nat) (L : List Rw) (P : Pk) (hP : P.Wf) (hv : vpk P = true) (ht : P.ttl ≠ 0) (u : Int) (hu : u ≠ r) (mb : Nat) (hmb : U64 mb) (hpm : P.bits &&& mb ≠ 0) (w : World) (hC : C ≤ w.heap.size) (hown : w.ownsRow C 43 12 (.slice pc cs.length cc) cs.length (cs.flatMap (cyC P))) :
  Calls Tryd.prog 27 #[.agg #[.int .u64 (loc : Int), .int .u64 (lost : Int), .slice pc cs.length cc], .agg #[.int .i64 r, .int .i64 s, .int .i64 n, .slice p L.length c], P.val, .agg #[.int .i64 u, .int .u64 (mb : Int)]] w fun e w' => ∃ (p2 : Option Addr) (c2 : Nat), e = .returned (.agg #[.int .u64 (loc : Int), .int .u64 (lost : Int), .slice p2 (cs ++ [(u, P.bits &&& mb)]).length c2]) ∧ w'.ownsRow C 43 12 (.slice p2 (cs ++ [(u, P.bits &&& mb)]).length c2) (cs ++ [(u, P.bits &&& mb)]).length ((cs ++ [(u, P.bits &&& mb)]).flatMap (cyC P)) ∧ w.grownBy w' (Value.slice pc cs.length cc).ownBlock := by
 have hval : P.val = .agg #[.int .i64 P.mode, .int .i64 P.sub, .int .i64 P.set, .int .i64 P.len, .int .i64 P.ttl, .int .i64 P.ent, .int .i64 P.ing, .int .i64 P.pro, .int .u64 (P.bits : Int), .string P.pay] := rfl
 rw [hval]
 obtain ⟨b, hb⟩ : ∃ b, P.bits &&& mb = b := ⟨_, rfl⟩
 have hbu : U64 b := by rw [← hb]; exact u64_andl _ _ hP.bits
 have HM : Hid (mskP P b = (cyP P b, true)) := Lib.hid (by
  have e : P.bits &&& b = b := by rw [← hb, ← Nat.and_assoc, Nat.and_self]
  unfold mskP cyP
  rw [if_pos ⟨hv, ht, by rw [e, ← hb]; exact hpm⟩, e])
 have HVB : Hid (∀ b, (Value.slice pc cs.length cc).ownBlock = some b → b < w.heap.size) := Lib.hid (fun b e => (hown.lt b e).2)
 have htt := Lib.hid (show (P.ttl == 0) = false by simpa using ht)
 have hrr := Lib.hid (show (u == r) = false by simpa using hu)
 clear hu ht
 have H0 := Lib.hid (hb_start w loc lost (.slice pc cs.length cc) r s n p c L P u mb)
 unfold pcells at H0
 have hand := andU P.bits mb hP.bits hmb
 rw [hb] at hand ⊢
 clear hb hpm
 go_enter Tryd.func27, Tryd.ntmps27
 go_upto_region 1 with fail
 generalize ((((w.alloc _).alloc _).alloc _).alloc _).alloc _ = wa at *
 obtain ⟨m0, m1⟩ := row_cells H0.out.mb
 obtain ⟨d0, d1, d2, d3⟩ := row4T H0.out.bx
 obtain ⟨a0, a1, a2, a3, a4, a5, a6, a7, a8, a9⟩ := p_facts H0.out.pb
 obtain ⟨⟨o0, o1, o2⟩, f0, f1, f2⟩ := row3f H0.out.ob
 replace htt := htt.out
 replace hrr := hrr.out
 have hsz : C ≤ wa.heap.size := Nat.le_trans hC H0.out.gr.size
 have HO := Lib.hid (hown.kept H0.out.gr (by cases (Value.slice pc cs.length cc).ownBlock <;> simp))
 have HC := Lib.hid (And.intro hC hsz)
 clear hown hC hsz hv
 have hval2 := Lib.hid hval
 clear hval
 go_wp2_with fail
 rw [← hval2.out]
 refine (maskc_any P hP b hbu HM.out wa).mono ?_
 rintro e w1 ⟨rfl, hg⟩
 have H1 := Lib.hid (H0.out.keep hg)
 have HO1 := Lib.hid (HO.out.kept hg (by cases (Value.slice pc cs.length cc).ownBlock <;> simp))
 have HC1 := Lib.hid (And.intro HC.out.1 (Nat.le_trans HC.out.2 hg.size))
 clear m0 m1 d0 d1 d2 d3 a0 a1 a2 a3 a4 a5 a6 a7 a8 a9 o0 o1 o2 f0 f1 f2 hg H0 HO HC htt hrr hand
 obtain ⟨k1, k2⟩ := tone_box w1 (pcells (cyP P b)) 30
 have HN := Lib.hid (And.intro k1 (And.intro k2 (show (w1.alloc (.cells (pcells (cyP P b)) 30)).heap.size = w1.heap.size + 1 by simp)))
 unfold pcells cyP at HN
 clear k1 k2 HM
 go_upto_region 3 with fail
 generalize w1.alloc _ = w2 at *
 have H2 := Lib.hid (H1.out.keep HN.out.2.1)
 have HO2 := Lib.hid (HO1.out.kept HN.out.2.1 (by cases (Value.slice pc cs.length cc).ownBlock <;> simp))
 have HC2 := Lib.hid (And.intro HC1.out.1 (Nat.le_trans HC1.out.2 HN.out.2.1.size))
 have HQ : Hid (w2.heap[w1.heap.size]? = some (.cells (pcells (cyP P b)) 30 (0, 0))) := Lib.hid HN.out.1
 obtain ⟨a0, a1, a2, a3, a4, a5, a6, a7, a8, a9⟩ := p_facts HQ.out
 simp only [cyP] at a0 a1 a2 a3 a4 a5 a6 a7 a8 a9
 generalize w1.heap.size = G at *
 clear H1 HO1 HC1 HN HQ
 obtain ⟨m0, m1⟩ := row_cells H2.out.mb
 obtain ⟨⟨o0, o1, o2⟩, f0, f1, f2⟩ := row3f H2.out.ob
 obtain ⟨ie, hie, he0, he1, he2⟩ := info_parts info_cy
 have hsz : C ≤ w2.heap.size := HC2.out.2
 go_wp2_with (at_builtin; refine hold_on ?_)
 refine wpList_append_lies _ rfl _ _ 33 rfl C 43 ie (.agg #[.int .i64 0, .slice none 0 0, .int .i64 0, .int .i64 0, .int .i64 0, .int .i64 0, .int .i64 0, .int .i64 0, .int .i64 0, .int .i64 0, .int .u64 0, .string ⟨#[]⟩]) 12 120 Tryd.underlying33 hie he0 he1 he2 rfl (by decide) (.slice pc cs.length cc) cs.length (cs.flatMap (cyC P)) rfl (HO2.out.alloc _) ⟨w2.heap.size, 0, none⟩ 1 1 (cyC P (u, b)) rfl rfl (cy_row w2 P (u, b) _) (cy_one P (u, b)) (by decide) (by unfold maxLen; omega) (by omega) (by simp; omega) _ rfl ?_
 intro g cap w8 hown8 hgrow hat hlt8
 have ga := World.grownBy_alloc w2 (.cells #[.int .i64 u, .slice none 0 0, .int .i64 P.mode, .int .i64 P.sub, .int .i64 P.set, .int .i64 P.len, .int .i64 (P.ttl - 1), .int .i64 P.ent, .int .i64 P.ing, .int .i64 P.pro, .int .u64 (b : Int), .string P.pay] 43) none
 have hvb := HVB.out
 have ob8 := kept_row (kept_row H2.out.ob ga (by simp)) hgrow (fun e => by have := hvb _ e.symm; omega)
 have rb8 := kept_row (kept_row H2.out.rb ga (by simp)) hgrow (fun e => by have := hvb _ e.symm; omega)
 have gr8 := grown_trans (grown_none (grown_trans H2.out.gr ga) (Value.slice pc cs.length cc).ownBlock) hgrow
 have hg8 : g ≠ w.heap.size ∧ g ≠ w.heap.size + 1 + 1 + 1 + 1 := by
  obtain ⟨h4, -⟩ := Array.getElem?_eq_some_iff.1 H2.out.rb
  rcases hat with e | e
  ·have := hvb _ e
   omega
  ·simp at e
   omega
 have X8 := Lib.hid (And.intro hown8 (And.intro gr8 (And.intro hg8 (And.intro ob8 rb8))))
 clear hown8 hgrow hat hlt8 ga hvb ob8 rb8 gr8 hg8 a0 a1 a2 a3 a4 a5 a6 a7 a8 a9 m0 m1 o0 o1 o2 f0 f1 f2 H2 HO2 HC2 hsz
 obtain ⟨⟨o0, o1, o2⟩, f0, f1, f2⟩ := row3f X8.out.2.2.2.1
 go_upto_region 8 with fail
 have ob9 := heap_setCell_same w8 _ 2 _ _ (.slice (some ⟨g, 0, none⟩) (cs.length + 1) cap) X8.out.2.2.2.1
 have j9 := grown_setCell w8 ⟨w.heap.size, 2, none⟩ (.slice (some ⟨g, 0, none⟩) (cs.length + 1) cap)
 have X9 := Lib.hid (And.intro (X8.out.1.kept j9 (Or.inr (fun e => X8.out.2.2.1.1 (Option.some.inj e)))) (And.intro (grown_over X8.out.2.1 j9 (Nat.le_refl _)) (And.intro X8.out.2.2.1.2 (And.intro ob9 (kept_row X8.out.2.2.2.2 j9 (fun e => by have : w.heap.size + 1 + 1 + 1 + 1 = w.heap.size := Option.some.inj e; omega))))))
 clear ob9 j9 X8 o0 o1 o2 f0 f1 f2
 generalize w8.setCell _ _ = w9 at *
 obtain ⟨⟨o0, o1, o2⟩, -⟩ := row3f X9.out.2.2.2.1
 obtain ⟨⟨z0, z1, z2⟩, f0, f1, f2⟩ := row3f X9.out.2.2.2.2
 go_wp2_with fail
 refine bodyPost_ret (res_outcome rfl _ _ (w.heap.size + 1 + 1 + 1 + 1) _ rfl rfl (ob_put _ _ _ X9.out.2.2.2.2)) rfl ?_
 have jr := ob_grown w9 (w.heap.size + 1 + 1 + 1 + 1) (.int .u64 (loc : Int)) (.int .u64 (lost : Int)) (.slice (some ⟨g, 0, none⟩) (cs.length + 1) cap)
 refine ⟨some ⟨g, 0, none⟩, cap, by rw [List.length_append]; rfl, ?_, grown_over X9.out.2.1 jr (by omega)⟩
 have := X9.out.1.kept jr (Or.inr (fun e => X9.out.2.2.1 (Option.some.inj e)))
 rw [List.length_append, List.flatMap_append]
 simpa using this
end Go.Proofs.YtpogblengagpaaaDoor

/- The tape's For. -/
namespace Go.Proofs.YtpogblengagpaaaDoor
set_option maxRecDepth 100000
open Go.RowKit Bs
structure FP (W : World) (a : Nat) (s n : Int) (pE : Option Addr) (cE : Nat) (E : List Ed) (Bq : Nat) (w : World) : Prop where
 pl : w.heap[W.heap.size]? = some (.cells #[.int .i64 s, .int .i64 n, .slice pE E.length cE] 62 (0, 0))
 rs : w.heap[W.heap.size + 1]? = some (.cells zpk 30 (0, 0))
 ed : RdF w (fun b => b ≠ a ∧ b < W.heap.size) (.slice pE E.length cE) E.length (E.flatMap edC)
 tp : Tp w a
 gr : W.grownBy w (some a)
 lo : a < W.heap.size ∧ W.heap.size + 1 < Bq
variable {W w w1 : World} {a : Nat} {s n : Int} {pE : Option Addr} {cE : Nat} {E : List Ed} {Bq : Nat} {Q : Pk}
theorem FP.keep (h : FP W a s n pE cE E Bq w) (g : w.grownBy w1 none) : FP W a s n pE cE E Bq w1 :=
 ⟨kept_row h.pl g (by simp), kept_row h.rs g (by simp), h.ed.grown g (fun _ _ => by simp), h.tp.keep g, grown_trans h.gr (grown_none g _), h.lo⟩
theorem FP.tape (h : FP W a s n pE cE E Bq w) (hs : St a w w1) : FP W a s n pE cE E Bq w1 := by
 have hl := h.lo
 exact ⟨kept_row h.pl hs.gr (fun e => by have := Option.some.inj e; omega), kept_row h.rs hs.gr (fun e => by have := Option.some.inj e; omega), h.ed.grown hs.gr (fun b hb e => hb.1 (Option.some.inj e)), hs.tp, grown_trans h.gr hs.gr, hl⟩
theorem FP.put (h : FP W a s n pE cE E Bq w) (k : Nat) (v : Value) : FP W a s n pE cE E Bq (w.setCell ⟨Bq, k, none⟩ v) := by
 have hl := h.lo
 have j := grown_setCell w ⟨Bq, k, none⟩ v
 exact ⟨kept_row h.pl j (fun e => by have : W.heap.size = Bq := Option.some.inj e; omega), kept_row h.rs j (fun e => by have : W.heap.size + 1 = Bq := Option.some.inj e; omega), h.ed.grown j (fun b hb e => by have : b = Bq := Option.some.inj e; have := hb.2; omega), tp_store h.tp j (show a < Bq by omega), ⟨j.os.trans h.gr.os, j.tape.trans h.gr.tape, j.output.trans h.gr.output, Nat.le_trans h.gr.size j.size, fun i hi hr => (j.block i (Nat.lt_of_lt_of_le hi h.gr.size) (fun e => by have : i = Bq := Option.some.inj e; omega)).trans (h.gr.block i hi hr)⟩, hl⟩
theorem FP.at1_ (h : FP W a s n pE cE E Bq w) {i : Nat} {x : Ed} (hi : E[i]? = some x) : ∃ g off, pE = some ⟨g, off, none⟩ ∧ ∀ w1, FP W a s n pE cE E Bq w1 → w1.cell? ⟨g, off + i * 2 + 1, none⟩ = some (.int .i64 x.i) := by
 have hl : 0 < E.length := by have := (List.getElem?_eq_some_iff.1 hi).1; omega
 obtain ⟨-, g, off, hp, -, -⟩ := RdF.cells (f := edC) (k := 2) (fun _ => rfl) (by decide) h.ed hl
 refine ⟨g, off, hp, fun w1 h1 => ?_⟩
 obtain ⟨-, g2, off2, hp2, -, hc⟩ := RdF.cells (f := edC) (k := 2) (fun _ => rfl) (by decide) h1.ed hl
 rw [hp] at hp2
 injection hp2 with e
 injection e with e1 e2
 subst e1 e2
 exact hc i x hi 1 _ rfl
theorem qput {k : Nat} {v : Value} {Q2 : Pk} (h : w.heap[Bq]? = some (.cells (pcells Q) 30 (0, 0))) (e : (pcells Q).setIfInBounds k v = pcells Q2) : (w.setCell ⟨Bq, k, none⟩ v).heap[Bq]? = some (.cells (pcells Q2) 30 (0, 0)) := by
 rw [← e]
 exact heap_setCell_same w _ k _ _ _ h
theorem q_frozen (h : w.heap[Bq]? = some (.cells (pcells Q) 30 (0, 0))) (k : Nat) : w.frozen? ⟨Bq, k, none⟩ = false := frozen_of_row _ _ k _ _ h
theorem packet0_aggV (a : Nat) (w : World) (hT : Tp w a) :
  Calls Tryd.prog 38 #[.pointer (some ⟨a, 0, none⟩), .int .i64 0] w fun e w' => ∃ Q : Pk, e = .returned (.agg #[.int .i64 Q.mode, .int .i64 Q.sub, .int .i64 Q.set, .int .i64 Q.len, .int .i64 Q.ttl, .int .i64 Q.ent, .int .i64 Q.ing, .int .i64 Q.pro, .int .u64 (Q.bits : Int), .string Q.pay]) ∧ Q.Wf ∧ vpk Q = true ∧ St a w w' := by
 refine (packet0_any a w hT).mono ?_
 rintro e w' ⟨P, rfl, h1, h2, h3⟩
 exact ⟨P, rfl, h1, h2, h3⟩
set_option maxHeartbeats 6400000 in
theorem for_any (a : Nat) (s n : Int) (pE : Option Addr) (cE : Nat) (E : List Ed) (hvl : vl n = true) (hs : 0 ≤ s ∧ s ≤ 7) (hE : ∀ e ∈ E, 1 ≤ e.i ∧ e.i ≤ 256) (hlE : E.length ≤ 24) (w : World) (hT : Tp w a) (hR : RdF w (fun b => b ≠ a ∧ b < w.heap.size) (.slice pE E.length cE) E.length (E.flatMap edC)) :
  Calls Tryd.prog 19 #[.pointer (some ⟨a, 0, none⟩), .agg #[.int .i64 s, .int .i64 n, .slice pE E.length cE]] w fun e w' => ∃ Q : Pk, e = .returned (.agg #[.int .i64 Q.mode, .int .i64 Q.sub, .int .i64 Q.set, .int .i64 Q.len, .int .i64 Q.ttl, .int .i64 Q.ent, .int .i64 Q.ing, .int .i64 Q.pro, .int .u64 (Q.bits : Int), .string Q.pay]) ∧ ForOk s n Q ∧ St a w w' := by
 have HVL := Lib.hid hvl
 have HS := Lib.hid hs
 have HE := Lib.hid hE
 have hne : (n == 0) = false := by rcases vl_cases hvl with rfl | rfl | rfl | rfl <;> rfl
 have HNE := Lib.hid hne
 obtain ⟨k1, k2, k3, k4⟩ := two_boxes w #[.int .i64 s, .int .i64 n, .slice pE E.length cE] zpk 62 30
 have H0 := Lib.hid (And.intro k1 (And.intro k2 (And.intro k3 (And.intro (hT.keep k3) (And.intro (RdF.grown hR k3 (fun _ _ => by simp)) (And.intro hT.lt k4))))))
 unfold zpk at H0
 clear k1 k2 k3 k4 hT hR hvl hs hE hne
 go_enter Tryd.func19, Tryd.ntmps19
 go_upto_region 1 with fail
 generalize (w.alloc _).alloc _ = wa at *
 go_wp2_with fail
 refine (packet0_aggV a wa H0.out.2.2.2.1).mono ?_
 rintro e w2 ⟨Q, rfl, hQ, hv, hs⟩
 obtain ⟨k1, k2⟩ := one_box w2 (pcells Q) 30
 have K2 : Hid (FP w a s n pE cE E w2.heap.size (w2.alloc (.cells (pcells Q) 30))) := Lib.hid (by
  have h := H0.out
  have ne : ∀ k, k ≠ a → some k ≠ some a := fun k hk e => hk (Option.some.inj e)
  have hsz := hs.gr.size
  exact FP.keep ⟨kept_row h.1 hs.gr (ne _ (by omega)), kept_row h.2.1 hs.gr (ne _ (by omega)), h.2.2.2.2.1.grown hs.gr (fun b hb e => hb.1 (Option.some.inj e)), hs.tp, grown_trans (grown_none h.2.2.1 _) hs.gr, ⟨h.2.2.2.2.2.1, by omega⟩⟩ k2)
 have HB := Lib.hid k1
 have HQ := Lib.hid (And.intro hQ hv)
 unfold pcells at K2 HB
 clear k1 k2 hs hQ hv H0
 go_upto_region 2 with fail
 generalize w2.alloc _ = w4 at *
 generalize w2.heap.size = Bq at *
 change Hid (FP w a s n pE cE E Bq w4) at K2
 change Hid (w4.heap[Bq]? = some (.cells (pcells Q) 30 (0, 0))) at HB
 refine wp_region_held_drew (S := fun w' => Hid (FP w a s n pE cE E Bq w')) (by kernel_rfl) (Lib.hid (K2.out.keep (grown_drew (grown_refl _ _)))) (fun hHeld => ?_)
 refine zT (i := 0) (v := ?_) rfl ?_ hHeld ?_
 rotate_left 1
 ·intro u hSu
  go_simp
  first | done | with_reducible rfl
 try simp only [Act.put, zA, zB, zC]
 refine zT (i := 1) (v := ?_) rfl ?_ hHeld ?_
 rotate_left 1
 ·intro u hSu
  obtain ⟨q0u, q1u, q2u⟩ := row3B hSu.out.pl
  go_simp
  first | done | with_reducible rfl
 try simp only [Act.put, zA, zB, zC]
 refine zT (i := 2) (v := ?_) rfl ?_ hHeld ?_
 rotate_left 1
 ·intro u hSu
  go_simp
  first | done | with_reducible rfl
 try simp only [Act.put, zA, zB, zC]
 refine zT (i := 3) (v := ?_) rfl ?_ hHeld ?_
 rotate_left 1
 ·intro u hSu
  obtain ⟨q0u, q1u, q2u⟩ := row3B hSu.out.pl
  go_simp
  first | done | with_reducible rfl
 try simp only [Act.put, zA, zB, zC]
 refine zT (i := 4) (v := ?_) rfl ?_ hHeld ?_
 rotate_left 1
 ·intro u hSu
  go_simp
  first | done | with_reducible rfl
 try simp only [Act.put, zA, zB, zC]
 refine wpAnyH_ready (rs := [5]) (by kernel_rfl) (by simp) ?_
 refine AllReadyH.cons (o := ⟨_, _, _, _, _, _⟩) rfl (fun Kz hK => ?_) AllReadyH.nil
 obtain ⟨a0, a1, a2, a3, a4, a5, a6, a7, a8, a9⟩ := p_facts HB.out
 have f0 := q_frozen HB.out 0
 have K20 := Lib.hid (K2.out.put 0 (.int .i64 1))
 have HB0 := Lib.hid (qput (Q2 := { Q with mode := 1 }) (k := 0) (v := .int .i64 1) HB.out rfl)
 go_simp
 clear a0 a1 a2 a3 a4 a5 a6 a7 a8 a9 f0
 refine hK.out _ _ (Lib.hid (K20.out.keep (grown_drew (grown_refl _ _)))) (fun hH2 => ?_)
 clear hK Kz hHeld
 have hHeld := hH2
 clear hH2
 try simp only [Act.put, zA, zB, zC]
 refine zT (i := 6) (v := ?_) rfl ?_ hHeld ?_
 rotate_left 1
 ·intro u hSu
  go_simp
  first | done | with_reducible rfl
 try simp only [Act.put, zA, zB, zC]
 refine wpAnyH_ready (rs := [7]) (by kernel_rfl) (by simp) ?_
 refine AllReadyH.cons (o := ⟨_, _, _, _, _, _⟩) rfl (fun Kz hK => ?_) AllReadyH.nil
 obtain ⟨a0, a1, a2, a3, a4, a5, a6, a7, a8, a9⟩ := p_facts HB0.out
 have f1 := q_frozen HB0.out 1
 have K21 := Lib.hid (K20.out.put 1 (.int .i64 s))
 have HB1 := Lib.hid (qput (Q2 := { Q with mode := 1, sub := s }) (k := 1) (v := .int .i64 s) HB0.out rfl)
 go_simp
 clear a0 a1 a2 a3 a4 a5 a6 a7 a8 a9 f1
 refine hK.out _ _ (Lib.hid (K21.out.keep (grown_drew (grown_refl _ _)))) (fun hH2 => ?_)
 clear hK Kz hHeld
 have hHeld := hH2
 clear hH2
 try simp only [Act.put, zA, zB, zC]
 refine zT (i := 8) (v := ?_) rfl ?_ hHeld ?_
 rotate_left 1
 ·intro u hSu
  go_simp
  first | done | with_reducible rfl
 try simp only [Act.put, zA, zB, zC]
 refine wpAnyH_ready (rs := [9]) (by kernel_rfl) (by simp) ?_
 refine AllReadyH.cons (o := ⟨_, _, _, _, _, _⟩) rfl (fun Kz hK => ?_) AllReadyH.nil
 obtain ⟨a0, a1, a2, a3, a4, a5, a6, a7, a8, a9⟩ := p_facts HB1.out
 have f3 := q_frozen HB1.out 3
 have K22 := Lib.hid (K21.out.put 3 (.int .i64 n))
 have HB2 := Lib.hid (qput (Q2 := { Q with mode := 1, sub := s, len := n }) (k := 3) (v := .int .i64 n) HB1.out rfl)
 go_simp
 clear a0 a1 a2 a3 a4 a5 a6 a7 a8 a9 f3
 refine hK.out _ _ (Lib.hid (K22.out.keep (grown_drew (grown_refl _ _)))) (fun hH2 => ?_)
 clear hK Kz hHeld
 have hHeld := hH2
 clear hH2
 try simp only [Act.put, zA, zB, zC]
 refine zT (i := 10) (v := ?_) rfl ?_ hHeld ?_
 rotate_left 1
 ·intro u hSu
  go_simp
  first | done | with_reducible rfl
 try simp only [Act.put, zA, zB, zC]
 refine wpAnyH_ready (rs := [11]) (by kernel_rfl) (by simp) ?_
 refine AllReadyH.cons (o := ⟨_, _, _, _, _, _⟩) rfl (fun Kz hK => ?_) AllReadyH.nil
 obtain ⟨a0, a1, a2, a3, a4, a5, a6, a7, a8, a9⟩ := p_facts HB2.out
 have f2 := q_frozen HB2.out 2
 have K23 := Lib.hid (K22.out.put 2 (.int .i64 0))
 have HB3 := Lib.hid (qput (Q2 := { Q with mode := 1, sub := s, len := n, set := 0 }) (k := 2) (v := .int .i64 0) HB2.out rfl)
 go_simp
 clear a0 a1 a2 a3 a4 a5 a6 a7 a8 a9 f2
 refine hK.out _ _ (Lib.hid (K23.out.keep (grown_drew (grown_refl _ _)))) (fun hH2 => ?_)
 clear hK Kz hHeld
 have hHeld := hH2
 clear hH2
 try simp only [Act.put, zA, zB, zC]
 refine zT (i := 12) (v := ?_) rfl ?_ hHeld ?_
 rotate_left 1
 ·intro u hSu
  go_simp
  first | done | with_reducible rfl
 try simp only [Act.put, zA, zB, zC]
 refine wpAnyH_ready (rs := [13]) (by kernel_rfl) (by simp) ?_
 refine AllReadyH.cons (o := ⟨_, _, _, _, _, _⟩) rfl (fun Kz hK => ?_) AllReadyH.nil
 obtain ⟨a0, a1, a2, a3, a4, a5, a6, a7, a8, a9⟩ := p_facts HB3.out
 have f8 := q_frozen HB3.out 8
 have K24 := Lib.hid (K23.out.put 8 (.int .u64 0))
 have HB4 := Lib.hid (qput (Q2 := { Q with mode := 1, sub := s, len := n, set := 0, bits := 0 }) (k := 8) (v := .int .u64 0) HB3.out rfl)
 go_simp
 clear a0 a1 a2 a3 a4 a5 a6 a7 a8 a9 f8
 refine hK.out _ _ (Lib.hid (K24.out.keep (grown_drew (grown_refl _ _)))) (fun hH2 => ?_)
 clear hK Kz hHeld
 have hHeld := hH2
 clear hH2
 try simp only [Act.put, zA, zB, zC]
 refine wpAnyH_done (by kernel_rfl) ?_ _
 obtain ⟨Q1, hQ1⟩ : ∃ Q1 : Pk, { Q with mode := 1, sub := s, len := n, set := 0, bits := 0 } = Q1 := ⟨_, rfl⟩
 have FO : Hid (ForOk s n Q1) := Lib.hid (by rw [← hQ1]; exact forOk_start HQ.out.2 HQ.out.1 HS.out HVL.out)
 have K5 := Lib.hid (K24.out.keep (grown_drew (grown_refl _ none)))
 have HB5 := Lib.hid (kept_row HB4.out (grown_drew (grown_refl _ none)) (by simp))
 rw [hQ1] at HB5
 clear hHeld K2 K20 K21 K22 K23 K24 HB HB0 HB1 HB2 HB3 HB4 HQ hQ1
 generalize ((((w4.setCell _ _).setCell _ _).setCell _ _).setCell _ _).setCell _ _ = w5 at *
 obtain ⟨w6, hw6⟩ : ∃ w6, w5.drew = w6 := ⟨_, rfl⟩
 rw [hw6] at K5 HB5 ⊢
 clear hw6
 obtain ⟨q0, q1, q2⟩ := row3B K5.out.pl
 have hne := HNE.out
 go_upto_if 28 with fail
 clear hne
 go_cut [] from 25 to 46 (fun wx => ∃ Q2, Hid (FP w a s n pE cE E Bq wx) ∧ Hid (wx.heap[Bq]? = some (.cells (pcells Q2) 30 (0, 0))) ∧ Hid (ForOk s n Q2))
 case first =>
  by_cases h0 : 0 < E.length
  case neg =>
   have h0' : ¬ (0 : Int) < (E.length : Int) := by omega
   go_wp2_with fail
   go_meet
   exact ⟨Q1, K5, HB5, FO⟩
  have h0' : (0 : Int) < (E.length : Int) := by omega
  go_upto_region 6 with fail
  refine wp_region_held_drew (S := fun w' => Hid (FP w a s n pE cE E Bq w')) (by kernel_rfl) (Lib.hid (K5.out.keep (grown_drew (grown_refl _ _)))) (fun hHeld => ?_)
  refine zT (i := 0) (v := ?_) rfl ?_ hHeld ?_
  rotate_left 1
  ·intro u hSu
   obtain ⟨q0u, q1u, q2u⟩ := row3B hSu.out.pl
   try have d0u := HCC.out u hSu.out
   go_simp
   first | done | with_reducible rfl
  try simp only [Act.put, zA, zB, zC]
  refine zT (i := 1) (v := ?_) rfl ?_ hHeld ?_
  rotate_left 1
  ·intro u hSu
   obtain ⟨q0u, q1u, q2u⟩ := row3B hSu.out.pl
   try have d0u := HCC.out u hSu.out
   go_simp
   first | done | with_reducible rfl
  try simp only [Act.put, zA, zB, zC]
  refine zT (i := 2) (v := ?_) rfl ?_ hHeld ?_
  rotate_left 1
  ·intro u hSu
   obtain ⟨q0u, q1u, q2u⟩ := row3B hSu.out.pl
   try have d0u := HCC.out u hSu.out
   go_simp
   first | done | with_reducible rfl
  try simp only [Act.put, zA, zB, zC]
  refine zT (i := 3) (v := ?_) rfl ?_ hHeld ?_
  rotate_left 1
  ·intro u hSu
   obtain ⟨q0u, q1u, q2u⟩ := row3B hSu.out.pl
   try have d0u := HCC.out u hSu.out
   go_simp
   first | done | with_reducible rfl
  try simp only [Act.put, zA, zB, zC]
  refine zT (i := 4) (v := ?_) rfl ?_ hHeld ?_
  rotate_left 1
  ·intro u hSu
   obtain ⟨q0u, q1u, q2u⟩ := row3B hSu.out.pl
   try have d0u := HCC.out u hSu.out
   go_simp
   first | done | with_reducible rfl
  try simp only [Act.put, zA, zB, zC]
  refine zT (i := 5) (v := ?_) rfl ?_ hHeld ?_
  rotate_left 1
  ·intro u hSu
   obtain ⟨q0u, q1u, q2u⟩ := row3B hSu.out.pl
   try have d0u := HCC.out u hSu.out
   go_simp
   first | done | with_reducible rfl
  try simp only [Act.put, zA, zB, zC]
  refine zT (i := 10) (v := ?_) rfl ?_ hHeld ?_
  rotate_left 1
  ·intro u hSu
   obtain ⟨q0u, q1u, q2u⟩ := row3B hSu.out.pl
   try have d0u := HCC.out u hSu.out
   go_simp
   first | done | with_reducible rfl
  try simp only [Act.put, zA, zB, zC]
  refine zT (i := 11) (v := ?_) rfl ?_ hHeld ?_
  rotate_left 1
  ·intro u hSu
   obtain ⟨q0u, q1u, q2u⟩ := row3B hSu.out.pl
   try have d0u := HCC.out u hSu.out
   go_simp
   first | done | with_reducible rfl
  try simp only [Act.put, zA, zB, zC]
  refine wpAnyH_ready (rs := [6]) (by kernel_rfl) (by simp) ?_
  refine AllReadyH.cons (o := ⟨_, _, _, _, _, _⟩) rfl (fun Kz hK => ?_) AllReadyH.nil
  go_simp
  go_at_call 16
  refine (next_any a (E.length : Int) (by unfold I64; omega) _ hHeld.out.tp).mono ?_
  rintro e' w7 ⟨r, rfl, hr, hs⟩
  obtain ⟨x, hr0, hx⟩ : ∃ x : Nat, r = (x : Int) ∧ x < E.length := by have h1 := hr.2.1 (by omega); exact ⟨r.toNat, by have := hr.1; omega, by have := hr.1; omega⟩
  subst hr0
  have HN := Lib.hid (hHeld.out.tape hs)
  replace HB5 := Lib.hid (kept_row HB5.out (by first | exact hs.gr | exact grown_undrew_some hs.gr) (fun e => by have := Option.some.inj e; have := hHeld.out.lo; omega))
  obtain ⟨y, hy⟩ : ∃ y, E[x]? = some y := ⟨_, List.getElem?_eq_getElem hx⟩
  obtain ⟨gE, oE, hpE, hc⟩ := HN.out.at1_ hy
  subst hpE
  have HCC := Lib.hid hc
  have hx2 : (x : Int) < (E.length : Int) := by omega
  have hx0 : (0 : Int) ≤ (x : Int) := by omega
  clear hr hs hc hy hx
  simp only
  refine hK.out _ _ (HN) (fun hH2 => ?_)
  clear hK Kz hHeld
  have hHeld := hH2
  clear hH2
  try simp only [Act.put, zA, zB, zC]
  refine zT (i := 7) (v := ?_) rfl ?_ hHeld ?_
  rotate_left 1
  ·intro u hSu
   obtain ⟨q0u, q1u, q2u⟩ := row3B hSu.out.pl
   try have d0u := HCC.out u hSu.out
   go_simp
   first | done | with_reducible rfl
  try simp only [Act.put, zA, zB, zC]
  refine zT (i := 8) (v := ?_) rfl ?_ hHeld ?_
  rotate_left 1
  ·intro u hSu
   obtain ⟨q0u, q1u, q2u⟩ := row3B hSu.out.pl
   try have d0u := HCC.out u hSu.out
   go_simp
   first | done | with_reducible rfl
  try simp only [Act.put, zA, zB, zC]
  refine zT (i := 9) (v := ?_) rfl ?_ hHeld ?_
  rotate_left 1
  ·intro u hSu
   obtain ⟨q0u, q1u, q2u⟩ := row3B hSu.out.pl
   try have d0u := HCC.out u hSu.out
   go_simp
   first | done | with_reducible rfl
  try simp only [Act.put, zA, zB, zC]
  refine wpAnyH_ready (rs := [12]) (by kernel_rfl) (by simp) ?_
  refine AllReadyH.cons (o := ⟨_, _, _, _, _, _⟩) rfl (fun Kz hK => ?_) AllReadyH.nil
  go_simp
  go_at_call 39
  refine (irplc_any y.i n _).mono ?_
  rintro e' w8 ⟨rfl, hg⟩
  have HN := Lib.hid (hHeld.out.keep hg)
  replace HB5 := Lib.hid (kept_row HB5.out hg (by simp))
  clear hg
  simp only
  refine hK.out _ _ (HN) (fun hH2 => ?_)
  clear hK Kz hHeld
  have hHeld := hH2
  clear hH2
  try simp only [Act.put, zA, zB, zC]
  refine zT (i := 13) (v := ?_) rfl ?_ hHeld ?_
  rotate_left 1
  ·intro u hSu
   obtain ⟨q0u, q1u, q2u⟩ := row3B hSu.out.pl
   try have d0u := HCC.out u hSu.out
   go_simp
   first | done | with_reducible rfl
  try simp only [Act.put, zA, zB, zC]
  refine zT (i := 14) (v := ?_) rfl ?_ hHeld ?_
  rotate_left 1
  ·intro u hSu
   obtain ⟨q0u, q1u, q2u⟩ := row3B hSu.out.pl
   try have d0u := HCC.out u hSu.out
   go_simp
   first | done | with_reducible rfl
  try simp only [Act.put, zA, zB, zC]
  refine zT (i := 15) (v := ?_) rfl ?_ hHeld ?_
  rotate_left 1
  ·intro u hSu
   obtain ⟨q0u, q1u, q2u⟩ := row3B hSu.out.pl
   try have d0u := HCC.out u hSu.out
   go_simp
   first | done | with_reducible rfl
  try simp only [Act.put, zA, zB, zC]
  refine zT (i := 16) (v := ?_) rfl ?_ hHeld ?_
  rotate_left 1
  ·intro u hSu
   obtain ⟨q0u, q1u, q2u⟩ := row3B hSu.out.pl
   try have d0u := HCC.out u hSu.out
   go_simp
   first | done | with_reducible rfl
  try simp only [Act.put, zA, zB, zC]
  refine zT (i := 17) (v := ?_) rfl ?_ hHeld ?_
  rotate_left 1
  ·intro u hSu
   obtain ⟨q0u, q1u, q2u⟩ := row3B hSu.out.pl
   try have d0u := HCC.out u hSu.out
   go_simp
   first | done | with_reducible rfl
  try simp only [Act.put, zA, zB, zC]
  refine wpAnyH_ready (rs := [18]) (by kernel_rfl) (by simp) ?_
  refine AllReadyH.cons (o := ⟨_, _, _, _, _, _⟩) rfl (fun Kz hK => ?_) AllReadyH.nil
  obtain ⟨a0, a1, a2, a3, a4, a5, a6, a7, a8, a9⟩ := p_facts HB5.out
  have f2 := q_frozen HB5.out 2
  have KS := Lib.hid (hHeld.out.put 2 (.int .i64 (plS y.i n)))
  have HBS := Lib.hid (qput (Q2 := { Q1 with set := plS y.i n }) (k := 2) (v := .int .i64 (plS y.i n)) HB5.out rfl)
  go_simp
  clear a0 a1 a2 a3 a4 a5 a6 a7 a8 a9 f2
  refine hK.out _ _ (KS) (fun hH2 => ?_)
  clear hK Kz hHeld
  have hHeld := hH2
  clear hH2
  try simp only [Act.put, zA, zB, zC]
  refine wpAnyH_done (by kernel_rfl) ?_ _
  go_wp2_with fail
  go_meet
  exact ⟨_, KS, HBS, Lib.hid (FO.out.set_ plS_inF)⟩
 case rest =>
 obtain ⟨Q2, K7, HB7, FO7⟩ := hcut
 clear K5 HB5 FO q0 q1 q2
 go_wp2_with fail
 go_loopw [6] (fun u wr => ∃ (i : Nat) (Q3 : Pk), i ≤ E.length ∧ u = .int .i64 (i : Int) ∧ Hid (FP w a s n pE cE E Bq wr) ∧ Hid (wr.heap[Bq]? = some (.cells (pcells Q3) 30 (0, 0))) ∧ Hid (ForOk s n Q3)) (fun u _ => E.length - (RowKit.intOf u).toNat)
 case atStart => exact ⟨0, Q2, Nat.zero_le _, rfl, K7, HB7, FO7⟩
 case round =>
 clear K7 HB7 FO7
 obtain ⟨i, Q3, hi, rfl, K, HB, FO⟩ := hrel
 obtain ⟨w8, hw8⟩ : ∃ w8, w8 = wr := ⟨_, rfl⟩
 rw [← hw8] at K HB ⊢
 clear hw8
 obtain ⟨q0, q1, q2⟩ := row3B K.out.pl
 by_cases hlt : i < E.length
 case neg =>
  obtain rfl : i = E.length := by omega
  have hnl : ¬ (E.length : Int) < (E.length : Int) := by omega
  go_wp2_with fail
  refine (one_any a 6 (by unfold I64; omega) _ K.out.tp).mono ?_
  rintro e w9 ⟨z, rfl, hs⟩
  replace HB := Lib.hid (kept_row HB.out hs.gr (fun e => by have := Option.some.inj e; have := K.out.lo; omega))
  replace K := Lib.hid (K.out.tape hs)
  clear hs q0 q1 q2 hnl
  cases z
  case false =>
   obtain ⟨a0, a1, a2, a3, a4, a5, a6, a7, a8, a9⟩ := p_facts HB.out
   obtain ⟨⟨z0, z1, z2, z3, z4, z5, z6, z7, z8, z9⟩, f0, f1, f2, f3, f4, f5, f6, f7, f8, f9⟩ := zp_cells K.out.rs
   go_wp2_with fail
   refine bodyPost_ret (res_packet rfl _ _ (w.heap.size + 1) _ rfl rfl (pput_row _ _ _ _ _ _ _ _ _ _ K.out.rs)) rfl ?_
   exact ⟨Q3, rfl, FO.out, ⟨grown_over K.out.gr (pput_grown _ (w.heap.size + 1) _ _ _ _ _ _ _ _ _ _) (Nat.le_succ _), tp_store K.out.tp (pput_grown _ (w.heap.size + 1) _ _ _ _ _ _ _ _ _ _) (by have := K.out.lo; omega)⟩⟩
  obtain ⟨a0, a1, a2, a3, a4, a5, a6, a7, a8, a9⟩ := p_facts HB.out
  go_upto_region 14 with fail
  refine region_until (S := fun w' => Hid (FP w a s n pE cE E Bq w') ∧ Hid (w'.heap[Bq]? = some (.cells (pcells Q3) 30 (0, 0)))) (fun j => j == 8) (by kernel_rfl) (⟨Lib.hid (K.out.keep (grown_drew (grown_refl _ _))), Lib.hid (kept_row HB.out (grown_drew (grown_refl _ none)) (by simp))⟩) (fun hHeld => ?_)
  refine zU (i := 0) (v := ?_) rfl ?_ hHeld ?_
  rotate_left 1
  ·intro u hSu
   go_simp
   first | done | with_reducible rfl
  try simp only [Act.put, zA, zB, zC]
  refine zU (i := 1) (v := ?_) rfl ?_ hHeld ?_
  rotate_left 1
  ·intro u hSu
   obtain ⟨a0u, a1u, a2u, a3u, a4u, a5u, a6u, a7u, a8u, a9u⟩ := p_facts hSu.2.out
   go_simp
   first | done | with_reducible rfl
  try simp only [Act.put, zA, zB, zC]
  refine zU (i := 2) (v := ?_) rfl ?_ hHeld ?_
  rotate_left 1
  ·intro u hSu
   go_simp
   first | done | with_reducible rfl
  try simp only [Act.put, zA, zB, zC]
  refine zU (i := 3) (v := ?_) rfl ?_ hHeld ?_
  rotate_left 1
  ·intro u hSu
   go_simp
   first | done | with_reducible rfl
  try simp only [Act.put, zA, zB, zC]
  refine zU (i := 4) (v := ?_) rfl ?_ hHeld ?_
  rotate_left 1
  ·intro u hSu
   obtain ⟨a0u, a1u, a2u, a3u, a4u, a5u, a6u, a7u, a8u, a9u⟩ := p_facts hSu.2.out
   go_simp
   first | done | with_reducible rfl
  try simp only [Act.put, zA, zB, zC]
  refine anyU_ready (rs := [5]) (by kernel_rfl) (by simp) ?_
  refine EachU.cons (o := ⟨_, _, _, _, _, _⟩) rfl (fun Kz hK => ?_) EachU.nil
  go_simp
  go_at_call 40
  simp only [FO.out.len]
  refine (bits_any a n HVL.out _ hHeld.1.out.tp).mono ?_
  rintro e' w7 ⟨x, rfl, hx, hvb, hs⟩
  have HN := And.intro (Lib.hid (hHeld.1.out.tape hs)) (Lib.hid (kept_row hHeld.2.out hs.gr (fun e => by have := Option.some.inj e; have := hHeld.1.out.lo; omega)))
  have hor := orU Q3.bits x FO.out.wf.bits hx
  have FO2 := Lib.hid (FO.out.bits (b := Q3.bits ||| x) (u64_orl _ _ FO.out.wf.bits hx) (vb_or (by have h := FO.out.v; have hl := FO.out.len; have := (vpk_parts h); unfold vpk at h; simp only [decide_eq_true_eq] at h; rw [← hl]; exact h.2.2.2.2.2.2.2.2) hvb))
  clear hs hx hvb
  simp only
  refine hK.out _ _ (fun _ => HN) (fun hH2 => ?_)
  clear hK Kz hHeld
  have hHeld := hH2 rfl
  clear hH2
  try simp only [Act.put, zA, zB, zC]
  refine zU (i := 6) (v := .int .u64 ((Q3.bits ||| x : Nat) : Int)) rfl ?_ hHeld ?_
  ·intro u hSu
   go_simp
   first | done | exact hor | simp_all
  try simp only [Act.put, zA, zB, zC]
  refine zU (i := 7) (v := ?_) rfl ?_ hHeld ?_
  rotate_left 1
  ·intro u hSu
   go_simp
   first | done | with_reducible rfl
  try simp only [Act.put, zA, zB, zC]
  refine anyU_ready (rs := [8]) (by kernel_rfl) (by simp) ?_
  refine EachU.cons (o := ⟨_, _, _, _, _, _⟩) rfl (fun Kz hK => ?_) EachU.nil
  obtain ⟨a0, a1, a2, a3, a4, a5, a6, a7, a8, a9⟩ := p_facts hHeld.2.out
  have f8 := q_frozen hHeld.2.out 8
  have KS := Lib.hid (hHeld.1.out.put 8 (.int .u64 ((Q3.bits ||| x : Nat) : Int)))
  have HBS := Lib.hid (qput (Q2 := { Q3 with bits := Q3.bits ||| x }) (k := 8) (v := .int .u64 ((Q3.bits ||| x : Nat) : Int)) hHeld.2.out rfl)
  go_simp
  refine hK.out _ _ (fun h => by cases h) (fun _ => ?_)
  clear hK Kz
  try simp only [Act.put, zA, zB, zC]
  refine anyU_done (by kernel_rfl) ?_ _
  clear hHeld
  obtain ⟨Q4, hQ4⟩ : ∃ Q4 : Pk, { Q3 with bits := Q3.bits ||| x } = Q4 := ⟨_, rfl⟩
  rw [hQ4] at HBS FO2
  clear hQ4 a0 a1 a2 a3 a4 a5 a6 a7 a8 a9
  generalize World.setCell _ _ _ = wz at *
  obtain ⟨a0, a1, a2, a3, a4, a5, a6, a7, a8, a9⟩ := p_facts HBS.out
  obtain ⟨⟨z0, z1, z2, z3, z4, z5, z6, z7, z8, z9⟩, f0, f1, f2, f3, f4, f5, f6, f7, f8, f9⟩ := zp_cells KS.out.rs
  go_wp2_with fail
  refine bodyPost_ret (res_packet rfl _ _ (w.heap.size + 1) _ rfl rfl (pput_row _ _ _ _ _ _ _ _ _ _ KS.out.rs)) rfl ?_
  exact ⟨Q4, rfl, FO2.out, ⟨grown_over KS.out.gr (pput_grown _ (w.heap.size + 1) _ _ _ _ _ _ _ _ _ _) (Nat.le_succ _), tp_store KS.out.tp (pput_grown _ (w.heap.size + 1) _ _ _ _ _ _ _ _ _ _) (by have := KS.out.lo; omega)⟩⟩
 have hlt' : (i : Int) < (E.length : Int) := by omega
 have hi0 : (0 : Int) ≤ (i : Int) := by omega
 obtain ⟨y, hy⟩ : ∃ y, E[i]? = some y := ⟨_, List.getElem?_eq_getElem hlt⟩
 obtain ⟨gE, oE, hpE, hc⟩ := K.out.at1_ hy
 subst hpE
 have HCC := Lib.hid hc
 have HID := Lib.hid (HE.out y (List.mem_of_getElem? hy))
 have d0 := hc w8 K.out
 clear hc hy
 go_upto_region 10 with fail
 refine wp_region_held_drew (S := fun w' => Hid (FP w a s n (some ⟨gE, oE, none⟩) cE E Bq w') ∧ Hid (w'.heap[Bq]? = some (.cells (pcells Q3) 30 (0, 0)))) (by kernel_rfl) (⟨Lib.hid (K.out.keep (grown_drew (grown_refl _ _))), Lib.hid (kept_row HB.out (grown_drew (grown_refl _ none)) (by simp))⟩) (fun hHeld => ?_)
 refine zT (i := 0) (v := ?_) rfl ?_ hHeld ?_
 rotate_left 1
 ·intro u hSu
  go_simp
  first | done | with_reducible rfl
 try simp only [Act.put, zA, zB, zC]
 refine zT (i := 1) (v := ?_) rfl ?_ hHeld ?_
 rotate_left 1
 ·intro u hSu
  obtain ⟨q0u, q1u, q2u⟩ := row3B hSu.1.out.pl
  have d0u := HCC.out u hSu.1.out
  go_simp
  first | done | with_reducible rfl
 try simp only [Act.put, zA, zB, zC]
 refine zT (i := 2) (v := ?_) rfl ?_ hHeld ?_
 rotate_left 1
 ·intro u hSu
  go_simp
  first | done | with_reducible rfl
 try simp only [Act.put, zA, zB, zC]
 refine zT (i := 3) (v := ?_) rfl ?_ hHeld ?_
 rotate_left 1
 ·intro u hSu
  go_simp
  first | done | with_reducible rfl
 try simp only [Act.put, zA, zB, zC]
 refine zT (i := 4) (v := ?_) rfl ?_ hHeld ?_
 rotate_left 1
 ·intro u hSu
  go_simp
  first | done | with_reducible rfl
 try simp only [Act.put, zA, zB, zC]
 refine zT (i := 5) (v := ?_) rfl ?_ hHeld ?_
 rotate_left 1
 ·intro u hSu
  obtain ⟨q0u, q1u, q2u⟩ := row3B hSu.1.out.pl
  have d0u := HCC.out u hSu.1.out
  go_simp
  first | done | with_reducible rfl
 try simp only [Act.put, zA, zB, zC]
 refine zT (i := 6) (v := ?_) rfl ?_ hHeld ?_
 rotate_left 1
 ·intro u hSu
  go_simp
  first | done | with_reducible rfl
 try simp only [Act.put, zA, zB, zC]
 refine zT (i := 7) (v := ?_) rfl ?_ hHeld ?_
 rotate_left 1
 ·intro u hSu
  obtain ⟨q0u, q1u, q2u⟩ := row3B hSu.1.out.pl
  have d0u := HCC.out u hSu.1.out
  go_simp
  first | done | with_reducible rfl
 try simp only [Act.put, zA, zB, zC]
 refine wpAnyH_ready (rs := [8]) (by kernel_rfl) (by simp) ?_
 refine AllReadyH.cons (o := ⟨_, _, _, _, _, _⟩) rfl (fun Kz hK => ?_) AllReadyH.nil
 go_simp
 go_at_call 39
 refine (irplc_any y.i n _).mono ?_
 rintro e' w9 ⟨rfl, hg⟩
 have HN := And.intro (Lib.hid (hHeld.1.out.keep hg)) (Lib.hid (kept_row hHeld.2.out hg (by simp)))
 clear hg
 simp only
 refine hK.out _ _ (HN) (fun hH2 => ?_)
 clear hK Kz hHeld
 have hHeld := hH2
 clear hH2
 try simp only [Act.put, zA, zB, zC]
 refine zT (i := 9) (v := ?_) rfl ?_ hHeld ?_
 rotate_left 1
 ·intro u hSu
  go_simp
  first | done | with_reducible rfl
 try simp only [Act.put, zA, zB, zC]
 refine zT (i := 10) (v := ?_) rfl ?_ hHeld ?_
 rotate_left 1
 ·intro u hSu
  go_simp
  first | done | with_reducible rfl
 try simp only [Act.put, zA, zB, zC]
 refine zT (i := 11) (v := ?_) rfl ?_ hHeld ?_
 rotate_left 1
 ·intro u hSu
  go_simp
  first | done | with_reducible rfl
 try simp only [Act.put, zA, zB, zC]
 refine zT (i := 12) (v := ?_) rfl ?_ hHeld ?_
 rotate_left 1
 ·intro u hSu
  go_simp
  first | done | with_reducible rfl
 try simp only [Act.put, zA, zB, zC]
 refine zT (i := 13) (v := ?_) rfl ?_ hHeld ?_
 rotate_left 1
 ·intro u hSu
  go_simp
  first | done | with_reducible rfl
 try simp only [Act.put, zA, zB, zC]
 refine zT (i := 14) (v := ?_) rfl ?_ hHeld ?_
 rotate_left 1
 ·intro u hSu
  go_simp
  first | done | with_reducible rfl
 try simp only [Act.put, zA, zB, zC]
 refine zT (i := 15) (v := ?_) rfl ?_ hHeld ?_
 rotate_left 1
 ·intro u hSu
  go_simp
  first | done | with_reducible rfl
 try simp only [Act.put, zA, zB, zC]
 refine wpAnyH_done (by kernel_rfl) ?_ _
 replace K := hHeld.1
 replace HB := hHeld.2
 have hpo : plOk y.i n = true := by
  unfold plOk inV
  rw [HVL.out, Bool.true_and]
  exact decide_eq_true HID.out
 obtain ⟨hp1, hp2, hp3⟩ := vb_pl hpo
 obtain ⟨k, hk⟩ := Int.eq_ofNat_of_zero_le hp1
 rw [hk] at hp2 hp3 ⊢
 rw [Int.toNat_natCast] at hp3
 have hk64 : k < 64 := by omega
 have HK := Lib.hid (And.intro hk64 hp3)
 clear hHeld hp1 hp2 hp3 hk hpo d0 q0 q1 q2 hk64
 generalize plS y.i n = st at *
 generalize plOk y.i n = okb at *
 obtain ⟨a0, a1, a2, a3, a4, a5, a6, a7, a8, a9⟩ := p_facts HB.out
 by_cases hss : st = Q3.set
 case neg =>
  have hss' : (st == Q3.set) = false := by simpa using hss
  clear hss
  go_wp2_with fail
  exact ⟨⟨i + 1, Q3, by omega, congrArg _ (by omega), K, HB, FO⟩, by simp only [RowKit.intOf]; omega⟩
 have hss' : (st == Q3.set) = true := by simpa using hss
 clear hss
 go_wp2_with fail
 refine (next_any a 4 (by unfold I64; omega) _ K.out.tp).mono ?_
 rintro e w10 ⟨r, rfl, -, hs⟩
 replace HB := Lib.hid (kept_row HB.out hs.gr (fun e => by have := Option.some.inj e; have := K.out.lo; omega))
 replace K := Lib.hid (K.out.tape hs)
 clear hs a0 a1 a2 a3 a4 a5 a6 a7 a8 a9 hss'
 by_cases hr : 0 < r
 case neg =>
  go_wp2_with fail
  exact ⟨⟨i + 1, Q3, by omega, congrArg _ (by omega), K, HB, FO⟩, by simp only [RowKit.intOf]; omega⟩
 have hor := orU Q3.bits (b2 k) FO.out.wf.bits (b2_u64 HK.out.1)
 have FO2 : Hid (ForOk s n { Q3 with bits := Q3.bits ||| b2 k }) := Lib.hid (FO.out.bits (b := Q3.bits ||| b2 k) (u64_orl _ _ FO.out.wf.bits (b2_u64 HK.out.1)) (vb_or (by have h := FO.out.v; have hl := FO.out.len; unfold vpk at h; simp only [decide_eq_true_eq] at h; rw [← hl]; exact h.2.2.2.2.2.2.2.2) HK.out.2))
 obtain ⟨a0, a1, a2, a3, a4, a5, a6, a7, a8, a9⟩ := p_facts HB.out
 go_upto_region 12 with fail
 refine region_until (S := fun w' => Hid (FP w a s n (some ⟨gE, oE, none⟩) cE E Bq w') ∧ Hid (w'.heap[Bq]? = some (.cells (pcells Q3) 30 (0, 0)))) (fun j => j == 6) (by kernel_rfl) (⟨Lib.hid (K.out.keep (grown_drew (grown_refl _ none))), Lib.hid (kept_row HB.out (grown_drew (grown_refl _ none)) (by simp))⟩) (fun hHeld => ?_)
 refine zU (i := 0) (v := ?_) rfl ?_ hHeld ?_
 rotate_left 1
 ·intro u hSu
  go_simp
  first | done | with_reducible rfl
 try simp only [Act.put, zA, zB, zC]
 refine zU (i := 1) (v := ?_) rfl ?_ hHeld ?_
 rotate_left 1
 ·intro u hSu
  obtain ⟨a0u, a1u, a2u, a3u, a4u, a5u, a6u, a7u, a8u, a9u⟩ := p_facts hSu.2.out
  go_simp
  first | done | with_reducible rfl
 try simp only [Act.put, zA, zB, zC]
 refine zU (i := 2) (v := ?_) rfl ?_ hHeld ?_
 rotate_left 1
 ·intro u hSu
  go_simp
  first | done | with_reducible rfl
 try simp only [Act.put, zA, zB, zC]
 refine anyU_ready (rs := [3]) (by kernel_rfl) (by simp) ?_
 refine EachU.cons (o := ⟨_, _, _, _, _, _⟩) rfl (fun Kz hK => ?_) EachU.nil
 go_simp
 go_at_call 13
 refine (bit_any k HK.out.1 _).mono ?_
 rintro e' w11 ⟨rfl, rfl⟩
 simp only
 refine hK.out _ _ (fun _ => hHeld) (fun hH2 => ?_)
 clear hK Kz hHeld
 have hHeld := hH2 rfl
 clear hH2
 try simp only [Act.put, zA, zB, zC]
 refine zU (i := 4) (v := .int .u64 ((Q3.bits ||| b2 k : Nat) : Int)) rfl ?_ hHeld ?_
 ·intro u hSu
  go_simp
  first | done | exact hor | simp_all
 try simp only [Act.put, zA, zB, zC]
 refine zU (i := 5) (v := ?_) rfl ?_ hHeld ?_
 rotate_left 1
 ·intro u hSu
  go_simp
  first | done | with_reducible rfl
 try simp only [Act.put, zA, zB, zC]
 refine anyU_ready (rs := [6]) (by kernel_rfl) (by simp) ?_
 refine EachU.cons (o := ⟨_, _, _, _, _, _⟩) rfl (fun Kz hK => ?_) EachU.nil
 obtain ⟨a0, a1, a2, a3, a4, a5, a6, a7, a8, a9⟩ := p_facts HB.out
 have f8 := q_frozen HB.out 8
 have KS := Lib.hid (K.out.put 8 (.int .u64 ((Q3.bits ||| b2 k : Nat) : Int)))
 have HBS := Lib.hid (qput (Q2 := { Q3 with bits := Q3.bits ||| b2 k }) (k := 8) (v := .int .u64 ((Q3.bits ||| b2 k : Nat) : Int)) HB.out rfl)
 go_simp
 refine hK.out _ _ (fun h => by cases h) (fun _ => ?_)
 clear hK Kz
 try simp only [Act.put, zA, zB, zC]
 refine anyU_done (by kernel_rfl) ?_ _
 clear hHeld
 obtain ⟨Q4, hQ4⟩ : ∃ Q4 : Pk, { Q3 with bits := Q3.bits ||| b2 k } = Q4 := ⟨_, rfl⟩
 rw [hQ4] at HBS FO2
 clear hQ4 a0 a1 a2 a3 a4 a5 a6 a7 a8 a9
 have KS2 := Lib.hid (KS.out.keep (grown_drew (grown_refl _ none)))
 have HBS2 := Lib.hid (kept_row HBS.out (grown_drew (grown_refl _ none)) (by simp))
 go_wp2_with fail
 exact ⟨⟨i + 1, Q4, by omega, congrArg _ (by omega), KS2, HBS2, FO2⟩, by simp only [RowKit.intOf]; omega⟩
end Go.Proofs.YtpogblengagpaaaDoor

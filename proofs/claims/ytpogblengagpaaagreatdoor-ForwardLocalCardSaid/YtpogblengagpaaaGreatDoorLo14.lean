/- Parts of the proof, packed: FwO, FwP, FwH, PkWrite, PkAlign, PkEncode, PkOnly2. -/
import Derived.Test.YtpogblengagpaaaGreatDoorLo3
import Derived.Test.YtpogblengagpaaaGreatDoorLo6
import Derived.Test.YtpogblengagpaaaGreatDoorLo7
import Derived.Test.YtpogblengagpaaaGreatDoorLo4
import Derived.Test.YtpogblengagpaaaGreatDoorLo13
import Derived.Test.YtpogblengagpaaaGreatDoorLo5
import Derived.Deep.CutRange
import Derived.Test.YtpogblengagpaaaGreatDoorLo2
/- forward: copies in memory; what Packet returns. -/
namespace Go.Proofs.YtpogblengagpaaaGreatDoor
set_option maxRecDepth 100000
open Go.RowKit Go.Maps Bs
def cyP (P : Pk) (b : Nat) : Pk := { P with bits := b, ttl := P.ttl - 1 }
def cyC (P : Pk) (y : Int × Nat) : List Value := [.int .i64 y.1, .slice none 0 0, .int .i64 P.mode, .int .i64 P.sub, .int .i64 P.set, .int .i64 P.len, .int .i64 (P.ttl - 1), .int .i64 P.ent, .int .i64 P.ing, .int .i64 P.pro, .int .u64 (y.2 : Int), .string P.pay]
theorem cy_one (P : Pk) (y : Int × Nat) : ∀ u ∈ cyC P y, u.oneCell' = true := by
 intro u hu
 simp [cyC] at hu
 rcases hu with rfl | rfl | rfl | rfl | rfl | rfl | rfl | rfl | rfl | rfl | rfl | rfl <;> rfl
theorem info_cy : (Tryz.prog.info? 58).map (fun i => (i.zero, i.size, i.bytes)) = some (some (.agg #[.int .i64 0, .slice none 0 0, .int .i64 0, .int .i64 0, .int .i64 0, .int .i64 0, .int .i64 0, .int .i64 0, .int .i64 0, .int .i64 0, .int .u64 0, .string ⟨#[]⟩]), 12, 120) := by kernel_rfl
def fwE (r s n : Int) (L : List Rw) (P : Pk) : Int := if ckT r s n L ≠ 0 ∨ vpk P = false then 1 else if P.mode = 2 then 7 else if P.sub ≠ s ∨ P.len ≠ n then 8 else 0
theorem fwE_ok {r s n : Int} {L : List Rw} {P : Pk} (h : fwE r s n L P = 0) : ckT r s n L = 0 ∧ vpk P = true ∧ P.mode ≠ 2 ∧ P.sub = s ∧ P.len = n := by
 unfold fwE at h
 split at h
 ·omega
 split at h
 ·omega
 split at h
 ·omega
 rename_i h1 h2 h3
 refine ⟨?_, ?_, h2, ?_, ?_⟩
 ·exact Classical.not_not.1 fun e => h1 (Or.inl e)
 ·cases e : vpk P with
  | true => rfl
  | false => exact absurd (Or.inr e) h1
 ·exact Classical.not_not.1 fun e => h3 (Or.inl e)
 ·exact Classical.not_not.1 fun e => h3 (Or.inr e)
def fwM (n : Int) (L : List Rw) (P : Pk) : Int → Nat := fun u => (colL n P.set (planeV P).toNat L u).getD 0
def fwH (n : Int) (L : List Rw) (P : Pk) : Nat → Int := hpF n P.set (planeV P).toNat L
theorem fw_ms {r s n : Int} {L : List Rw} {P : Pk} (h : fwE r s n L P = 0) : Ms (fwM n L P) (fwH n L P) := by
 obtain ⟨h1, h2, -, -, h5⟩ := fwE_ok h
 obtain ⟨h6, -⟩ := vpk_len h2
 exact ms_fw h1 (N := P.len.toNat) (by omega) _ _
abbrev FwW (n : Int) (r : Int) (L : List Rw) (P : Pk) (left loc lost : Nat) (cs : List (Int × Nat)) : Prop := FwI (fwM n L P) (fwH n L P) r (decide (P.ttl = 0)) P.bits left loc lost cs
structure FwR (r s n : Int) (L : List Rw) (P : Pk) (e : Int) (loc lost : Nat) (cs : List (Int × Nat)) : Prop where
 he : e = fwE r s n L P
 ok : e = 0 → FwD (fwM n L P) (fwH n L P) r (decide (P.ttl = 0)) P.bits loc lost cs
 no : e ≠ 0 → loc = 0 ∧ lost = 0 ∧ cs = []
 hu : U64 loc ∧ U64 lost
theorem FwR.uniq {r s n : Int} {L : List Rw} {P : Pk} {e e2 : Int} {loc lost loc2 lost2 : Nat} {cs cs2 : List (Int × Nat)} (h : FwR r s n L P e loc lost cs) (k : FwR r s n L P e2 loc2 lost2 cs2) : e = e2 ∧ loc = loc2 ∧ lost = lost2 ∧ cs = cs2 := by
 have he : e = e2 := h.he.trans k.he.symm
 refine ⟨he, ?_⟩
 by_cases h0 : e = 0
 ·have D := h.ok h0
  have E := k.ok (he ▸ h0)
  exact ⟨Nat.eq_of_testBit_eq fun j => (D.hloc j).trans (E.hloc j).symm, Nat.eq_of_testBit_eq fun j => (D.hlost j).trans (E.hlost j).symm, D.hcs.trans E.hcs.symm⟩
 ·obtain ⟨a1, a2, a3⟩ := h.no h0
  obtain ⟨b1, b2, b3⟩ := k.no (fun e0 => h0 (he.trans e0))
  exact ⟨a1.trans b1.symm, a2.trans b2.symm, a3.trans b3.symm⟩
def FwPost (r s n : Int) (L : List Rw) (P : Pk) (w : World) (e : Ending) (w' : World) : Prop :=
 ∃ (x : Int) (loc lost : Nat) (cs : List (Int × Nat)) (p : Option Addr) (c : Nat), e = .returned (.tuple #[.agg #[.int .u64 (loc : Int), .int .u64 (lost : Int), .slice p cs.length c], .int .i64 x]) ∧ FwR r s n L P x loc lost cs ∧ w'.ownsRow w.heap.size 58 12 (.slice p cs.length c) cs.length (cs.flatMap (cyC P)) ∧ w.grownBy w' none
theorem cpB_len64 {M : Int → Nat} {h : Nat → Int} (hM : Ms M h) {x : Nat} (hx : U64 x) (hz : ∀ j, x.testBit j = true → h j ≠ 0) : (cpB M h x).length ≤ 64 := by
 have h1 : ((cpB M h x).map (·.1)).Nodup := by
  unfold List.Nodup
  rw [List.pairwise_map]
  exact cpB_once hM x hx hz
 have h2 := nodup_leH _ ((List.range 64).map h) h1 (fun y hy => by
  obtain ⟨z, hz1, rfl⟩ := List.mem_map.1 hy
  obtain ⟨-, j, hj, e⟩ := cpB_mem hM x hx hz z hz1
  exact List.mem_map.2 ⟨j, List.mem_range.2 (u64_bit hx hj), e⟩)
 simpa using h2
theorem FwI.len {M : Int → Nat} {h : Nat → Int} {r : Int} {t : Bool} {P left loc lost : Nat} {cs : List (Int × Nat)} (I : FwI M h r t P left loc lost cs) (hM : Ms M h) (hP : U64 P) : cs.length ≤ 64 := by
 have h1 := cpB_len64 hM (fltB_u (czB h r t) hP) (FwD.zs hP)
 have h2 := congrArg List.length I.hcs
 rw [List.length_append] at h2
 omega
theorem FwD.len {M : Int → Nat} {h : Nat → Int} {r : Int} {t : Bool} {P loc lost : Nat} {cs : List (Int × Nat)} (D : FwD M h r t P loc lost cs) (hM : Ms M h) (hP : U64 P) : cs.length ≤ 64 := by
 rw [D.hcs]
 exact cpB_len64 hM (fltB_u (czB h r t) hP) (FwD.zs hP)
end Go.Proofs.YtpogblengagpaaaGreatDoor

/- forward: mistake. -/
namespace Go.Proofs.YtpogblengagpaaaGreatDoor
set_option maxRecDepth 100000
open Go.RowKit Go.Maps Bs
structure FB (W : World) (B : Nat) (r s n : Int) (p : Option Addr) (c : Nat) (L : List Rw) (P : Pk) (w : World) : Prop where
 bx : w.heap[B]? = some (.cells #[.int .i64 r, .int .i64 s, .int .i64 n, .slice p L.length c] 25 (0, 0))
 pb : w.heap[B + 1]? = some (.cells (pcells P) 28 (0, 0))
 rd : RdW w (· < W.heap.size) p c L
 gr : W.grownBy w none
 le : W.heap.size ≤ B
theorem FB.keep {W w w1 : World} {B : Nat} {r s n : Int} {p : Option Addr} {c : Nat} {L : List Rw} {P : Pk} (h : FB W B r s n p c L P w) (g : w.grownBy w1 none) : FB W B r s n p c L P w1 :=
 ⟨kept_row h.bx g (by simp), kept_row h.pb g (by simp), h.rd.keep g, grown_trans h.gr g, h.le⟩
theorem FB.all {W w : World} {B : Nat} {r s n : Int} {p : Option Addr} {c : Nat} {L : List Rw} {P : Pk} (h : FB W B r s n p c L P w) : RdW w (· < w.heap.size) p c L := h.rd.mono fun _ hb => Nat.lt_of_lt_of_le hb h.gr.size
theorem fb_start {w : World} {r s n : Int} {p : Option Addr} {c : Nat} {L : List Rw} {P : Pk} (hR : RdW w (· < w.heap.size) p c L) : FB w w.heap.size r s n p c L P ((w.alloc (.cells #[.int .i64 r, .int .i64 s, .int .i64 n, .slice p L.length c] 25)).alloc (.cells (pcells P) 28)) := by
 obtain ⟨k1, k2, k3, -⟩ := two_boxes w #[.int .i64 r, .int .i64 s, .int .i64 n, .slice p L.length c] (pcells P) 25 28
 exact ⟨k1, k2, hR.keep k3, k3, Nat.le_refl _⟩
theorem fwE_1 {r s n : Int} {L : List Rw} {P : Pk} (h : ckT r s n L ≠ 0) : fwE r s n L P = 1 := by unfold fwE; rw [if_pos (Or.inl h)]
theorem fwE_2 {r s n : Int} {L : List Rw} {P : Pk} (h : vpk P = false) : fwE r s n L P = 1 := by unfold fwE; rw [if_pos (Or.inr h)]
theorem fwE_7 {r s n : Int} {L : List Rw} {P : Pk} (h1 : ckT r s n L = 0) (h2 : vpk P = true) (h3 : P.mode = 2) : fwE r s n L P = 7 := by unfold fwE; rw [if_neg (by simp [h1, h2]), if_pos h3]
theorem fwE_8 {r s n : Int} {L : List Rw} {P : Pk} (h1 : ckT r s n L = 0) (h2 : vpk P = true) (h3 : P.mode ≠ 2) (h4 : P.sub ≠ s ∨ P.len ≠ n) : fwE r s n L P = 8 := by unfold fwE; rw [if_neg (by simp [h1, h2]), if_neg h3, if_pos h4]
theorem fwE_0 {r s n : Int} {L : List Rw} {P : Pk} (h1 : ckT r s n L = 0) (h2 : vpk P = true) (h3 : P.mode ≠ 2) (h4 : P.sub = s) (h5 : P.len = n) : fwE r s n L P = 0 := by unfold fwE; rw [if_neg (by simp [h1, h2]), if_neg h3, if_neg (by simp [h4, h5])]
set_option maxHeartbeats 3200000 in
theorem fwmis_any (r s n : Int) (p : Option Addr) (c : Nat) (L : List Rw) (P : Pk) (hP : P.Wf) (w : World) (hR : RdW w (· < w.heap.size) p c L) (hm : L.length ≤ 9223372036854775807) :
  Calls Tryz.prog 37 #[.agg #[.int .i64 r, .int .i64 s, .int .i64 n, .slice p L.length c], P.val] w fun e w' => e = .returned (.int .i64 (fwE r s n L P)) ∧ w.grownBy w' none := by
 have hval : P.val = .agg #[.int .i64 P.mode, .int .i64 P.sub, .int .i64 P.set, .int .i64 P.len, .int .i64 P.ttl, .int .i64 P.ent, .int .i64 P.ing, .int .i64 P.pro, .int .u64 (P.bits : Int), .string P.pay] := rfl
 rw [hval]
 have H0 := Lib.hid (fb_start (r := r) (s := s) (n := n) (P := P) hR)
 unfold pcells at H0
 clear hR
 go_enter Tryz.func37, Tryz.ntmps37
 go_upto_region 1 with fail
 generalize (w.alloc _).alloc _ = wa at *
 obtain ⟨d0, d1, d2, d3⟩ := row4T H0.out.bx
 go_wp2_with fail
 refine (tcheckT_any r s n p c L (· < wa.heap.size) wa H0.out.all hm).mono ?_
 rintro e w1 ⟨rfl, hg⟩
 have K := Lib.hid (H0.out.keep hg)
 clear hg H0 d0 d1 d2 d3
 by_cases hck : ckT r s n L = 0
 case neg =>
  have hck' : (ckT r s n L != 0) = true := by simpa using hck
  have HZ : Hid (fwE r s n L P = 1) := Lib.hid (fwE_1 hck)
  clear hck hval
  go_wp2_with fail
  go_ret
  exact ⟨by rw [HZ.out]; rfl, K.out.gr⟩
 have HCK := Lib.hid hck
 have hck' : (ckT r s n L != 0) = false := by simpa using hck
 clear hck
 obtain ⟨a0, a1, a2, a3, a4, a5, a6, a7, a8, a9⟩ := p_facts K.out.pb
 go_wp2_with fail
 rw [← hval]
 refine (pvalid_any P hP _).mono ?_
 rintro e w2 ⟨rfl, hg⟩
 have K2 := Lib.hid (K.out.keep hg)
 clear hg K a0 a1 a2 a3 a4 a5 a6 a7 a8 a9 hck' hval
 cases hv : vpk P with
 | false =>
  have HZ : Hid (fwE r s n L P = 1) := Lib.hid (fwE_2 hv)
  clear hv
  go_wp2_with fail
  go_ret
  exact ⟨by rw [HZ.out]; rfl, K2.out.gr⟩
 | true =>
 have HV := Lib.hid hv
 clear hv
 obtain ⟨a0, a1, a2, a3, a4, a5, a6, a7, a8, a9⟩ := p_facts K2.out.pb
 obtain ⟨d0, d1, d2, d3⟩ := row4T K2.out.bx
 by_cases h7 : P.mode = 2
 ·have HZ : Hid (fwE r s n L P = 7) := Lib.hid (fwE_7 HCK.out HV.out h7)
  have h7' : (P.mode == 2) = true := by simpa using h7
  clear h7
  go_wp2_with fail
  go_ret
  exact ⟨by rw [HZ.out]; rfl, K2.out.gr⟩
 have H7 := Lib.hid h7
 have h7' : (P.mode == 2) = false := by simpa using h7
 clear h7
 by_cases h8 : P.sub = s
 case neg =>
  have HZ : Hid (fwE r s n L P = 8) := Lib.hid (fwE_8 HCK.out HV.out H7.out (Or.inl h8))
  have h8' : (P.sub != s) = true := by simpa using h8
  clear h8
  go_wp2_with fail
  go_ret
  exact ⟨by rw [HZ.out]; rfl, K2.out.gr⟩
 have H8 := Lib.hid h8
 have h8' : (P.sub != s) = false := by simpa using h8
 clear h8
 by_cases h9 : P.len = n
 case neg =>
  have HZ : Hid (fwE r s n L P = 8) := Lib.hid (fwE_8 HCK.out HV.out H7.out (Or.inr h9))
  have h9' : (P.len != n) = true := by simpa using h9
  clear h9
  go_wp2_with fail
  go_ret
  exact ⟨by rw [HZ.out]; rfl, K2.out.gr⟩
 have HZ : Hid (fwE r s n L P = 0) := Lib.hid (fwE_0 HCK.out HV.out H7.out H8.out h9)
 have h9' : (P.len != n) = false := by simpa using h9
 clear h9
 go_wp2_with fail
 go_ret
 exact ⟨by rw [HZ.out]; rfl, K2.out.gr⟩
end Go.Proofs.YtpogblengagpaaaGreatDoor

/- forward: handOver. -/
namespace Go.Proofs.YtpogblengagpaaaGreatDoor
set_option maxRecDepth 100000
open Go.RowKit Go.Maps Bs
theorem five_new (w : World) (A B C D E : Obj) : (((((w.alloc A).alloc B).alloc C).alloc D).alloc E).heap[w.heap.size]? = some A ∧ (((((w.alloc A).alloc B).alloc C).alloc D).alloc E).heap[w.heap.size + 1]? = some B ∧ (((((w.alloc A).alloc B).alloc C).alloc D).alloc E).heap[w.heap.size + 2]? = some C ∧ (((((w.alloc A).alloc B).alloc C).alloc D).alloc E).heap[w.heap.size + 3]? = some D ∧ (((((w.alloc A).alloc B).alloc C).alloc D).alloc E).heap[w.heap.size + 4]? = some E ∧
  w.grownBy (((((w.alloc A).alloc B).alloc C).alloc D).alloc E) none ∧ (((((w.alloc A).alloc B).alloc C).alloc D).alloc E).heap.size = w.heap.size + 5 := by
 have st : ∀ (wx : World) (b : Nat) (o o2 : Obj), wx.heap[b]? = some o → (wx.alloc o2).heap[b]? = some o := fun wx b o o2 h => kept_row h (World.grownBy_alloc wx o2 none) (by simp)
 have n1 := heap_alloc_new w A
 have n2 := heap_alloc_new (w.alloc A) B
 have n3 := heap_alloc_new ((w.alloc A).alloc B) C
 have n4 := heap_alloc_new (((w.alloc A).alloc B).alloc C) D
 have n5 := heap_alloc_new ((((w.alloc A).alloc B).alloc C).alloc D) E
 rw [show (w.alloc A).heap.size = w.heap.size + 1 by simp] at n2
 rw [show ((w.alloc A).alloc B).heap.size = w.heap.size + 2 by simp] at n3
 rw [show (((w.alloc A).alloc B).alloc C).heap.size = w.heap.size + 3 by simp] at n4
 rw [show ((((w.alloc A).alloc B).alloc C).alloc D).heap.size = w.heap.size + 4 by simp] at n5
 exact ⟨st _ _ _ _ (st _ _ _ _ (st _ _ _ _ (st _ _ _ _ n1))), st _ _ _ _ (st _ _ _ _ (st _ _ _ _ n2)), st _ _ _ _ (st _ _ _ _ n3), st _ _ _ _ n4, n5, grown_trans (World.grownBy_alloc _ _ _) (grown_trans (World.grownBy_alloc _ _ _) (grown_trans (World.grownBy_alloc _ _ _) (grown_trans (World.grownBy_alloc _ _ _) (World.grownBy_alloc _ _ _)))), by simp⟩
structure HB (W : World) (O : Nat) (loc lost : Nat) (vc : Value) (r s n : Int) (p : Option Addr) (c : Nat) (L : List Rw) (P : Pk) (u : Int) (mb : Nat) (w : World) : Prop where
 ob : w.heap[O]? = some (.cells #[.int .u64 (loc : Int), .int .u64 (lost : Int), vc] 38 (0, 0))
 bx : w.heap[O + 1]? = some (.cells #[.int .i64 r, .int .i64 s, .int .i64 n, .slice p L.length c] 25 (0, 0))
 pb : w.heap[O + 1 + 1]? = some (.cells (pcells P) 28 (0, 0))
 mb : w.heap[O + 1 + 1 + 1]? = some (.cells #[.int .i64 u, .int .u64 (mb : Int)] 94 (0, 0))
 rb : w.heap[O + 1 + 1 + 1 + 1]? = some (.cells #[.int .u64 0, .int .u64 0, .slice none 0 0] 38 (0, 0))
 gr : W.grownBy w none
 le : W.heap.size ≤ O
theorem HB.keep {W w w1 : World} {O : Nat} {loc lost : Nat} {vc : Value} {r s n : Int} {p : Option Addr} {c : Nat} {L : List Rw} {P : Pk} {u : Int} {mb : Nat} (h : HB W O loc lost vc r s n p c L P u mb w) (g : w.grownBy w1 none) : HB W O loc lost vc r s n p c L P u mb w1 :=
 ⟨kept_row h.ob g (by simp), kept_row h.bx g (by simp), kept_row h.pb g (by simp), kept_row h.mb g (by simp), kept_row h.rb g (by simp), grown_trans h.gr g, h.le⟩
theorem hb_start (w : World) (loc lost : Nat) (vc : Value) (r s n : Int) (p : Option Addr) (c : Nat) (L : List Rw) (P : Pk) (u : Int) (mb : Nat) :
  HB w w.heap.size loc lost vc r s n p c L P u mb (((((w.alloc (.cells #[.int .u64 (loc : Int), .int .u64 (lost : Int), vc] 38)).alloc (.cells #[.int .i64 r, .int .i64 s, .int .i64 n, .slice p L.length c] 25)).alloc (.cells (pcells P) 28)).alloc (.cells #[.int .i64 u, .int .u64 (mb : Int)] 94)).alloc (.cells #[.int .u64 0, .int .u64 0, .slice none 0 0] 38)) := by
 obtain ⟨h1, h2, h3, h4, h5, g, -⟩ := five_new w (.cells #[.int .u64 (loc : Int), .int .u64 (lost : Int), vc] 38) (.cells #[.int .i64 r, .int .i64 s, .int .i64 n, .slice p L.length c] 25) (.cells (pcells P) 28) (.cells #[.int .i64 u, .int .u64 (mb : Int)] 94) (.cells #[.int .u64 0, .int .u64 0, .slice none 0 0] 38)
 exact ⟨h1, h2, h3, h4, h5, g, Nat.le_refl _⟩
theorem HB.at0 {W w : World} {O : Nat} {loc lost : Nat} {vc : Value} {r s n : Int} {p : Option Addr} {c : Nat} {L : List Rw} {P : Pk} {u : Int} {mb : Nat} (h : HB W O loc lost vc r s n p c L P u mb w) (x : Nat) : HB W O x lost vc r s n p c L P u mb (w.setCell ⟨O, 0, none⟩ (.int .u64 (x : Int))) := by
 have j := grown_setCell w ⟨O, 0, none⟩ (.int .u64 (x : Int))
 have ne : ∀ k, some (O + (k + 1)) ≠ some O := fun k e => by have : O + (k + 1) = O := Option.some.inj e; omega
 exact ⟨heap_setCell_same w _ 0 _ _ _ h.ob, kept_row h.bx j (ne 0), kept_row h.pb j (ne 1), kept_row h.mb j (ne 2), kept_row h.rb j (ne 3), grown_new h.gr j h.le, h.le⟩
theorem HB.at1 {W w : World} {O : Nat} {loc lost : Nat} {vc : Value} {r s n : Int} {p : Option Addr} {c : Nat} {L : List Rw} {P : Pk} {u : Int} {mb : Nat} (h : HB W O loc lost vc r s n p c L P u mb w) (x : Nat) : HB W O loc x vc r s n p c L P u mb (w.setCell ⟨O, 1, none⟩ (.int .u64 (x : Int))) := by
 have j := grown_setCell w ⟨O, 1, none⟩ (.int .u64 (x : Int))
 have ne : ∀ k, some (O + (k + 1)) ≠ some O := fun k e => by have : O + (k + 1) = O := Option.some.inj e; omega
 exact ⟨heap_setCell_same w _ 1 _ _ _ h.ob, kept_row h.bx j (ne 0), kept_row h.pb j (ne 1), kept_row h.mb j (ne 2), kept_row h.rb j (ne 3), grown_new h.gr j h.le, h.le⟩
theorem ob_put {w : World} {g : Nat} {a b c : Value} (v0 v1 v2 : Value) (hr : w.heap[g]? = some (.cells #[a, b, c] 38 (0, 0))) :
  (((w.setCell ⟨g, 0, none⟩ v0).setCell ⟨g, 1, none⟩ v1).setCell ⟨g, 2, none⟩ v2).heap[g]? = some (.cells #[v0, v1, v2] 38 (0, 0)) :=
 heap_setCell_same _ g 2 _ _ v2 (heap_setCell_same _ g 1 _ _ v1 (heap_setCell_same _ g 0 _ _ v0 hr))
theorem ob_grown (w : World) (g : Nat) (v0 v1 v2 : Value) : w.grownBy (((w.setCell ⟨g, 0, none⟩ v0).setCell ⟨g, 1, none⟩ v1).setCell ⟨g, 2, none⟩ v2) (some g) :=
 grown_trans (grown_trans (grown_setCell _ ⟨g, 0, none⟩ _) (grown_setCell _ ⟨g, 1, none⟩ _)) (grown_setCell _ ⟨g, 2, none⟩ _)
theorem row3f {w : World} {b : Nat} {x y z : Value} {t : TypeId} (h : w.heap[b]? = some (.cells #[x, y, z] t (0, 0))) : (w.cell? ⟨b, 0, none⟩ = some x ∧ w.cell? ⟨b, 1, none⟩ = some y ∧ w.cell? ⟨b, 2, none⟩ = some z) ∧ w.frozen? ⟨b, 0, none⟩ = false ∧ w.frozen? ⟨b, 1, none⟩ = false ∧ w.frozen? ⟨b, 2, none⟩ = false :=
 ⟨⟨cell_of_row _ _ _ _ _ _ h, cell_of_row _ _ _ _ _ _ h, cell_of_row _ _ _ _ _ _ h⟩, frozen_of_row _ _ _ _ _ h, frozen_of_row _ _ _ _ _ h, frozen_of_row _ _ _ _ _ h⟩
theorem outcome_size : (Tryz.prog.info? 38).map (·.size) = some 3 := by kernel_rfl
theorem res_outcome {fn : Func} {p : Tmp} (h : fn.results = #[.cell p 38]) (tmps : Array Value) (w : World) (g : Nat) (xs : Array Value) (hp : tmps.getD p undef = .pointer (some ⟨g, 0, none⟩)) (hn : xs.size = 3) (hg : w.heap[g]? = some (.cells xs 38 (0, 0))) :
  (results fn tmps).run Tryz.prog w = .ok (.agg xs) w := by
 exact results_cell_row h tmps w g _ _ _ _ hp hg Tryz.underlying38 rfl (by rw [hn]; exact outcome_size)
theorem res_outcome_err {fn : Func} {p u : Tmp} (h : fn.results = #[.cell p 38, .tmp u]) (tmps : Array Value) (w : World) (g : Nat) (xs : Array Value) (hp : tmps.getD p undef = .pointer (some ⟨g, 0, none⟩)) (hn : xs.size = 3) (hg : w.heap[g]? = some (.cells xs 38 (0, 0))) :
  (results fn tmps).run Tryz.prog w = .ok (.tuple #[.agg xs, tmps.getD u undef]) w := by
 have hp' : tmps[p]?.getD undef = .pointer (some ⟨g, 0, none⟩) := by simpa using hp
 rw [results_cell_tmp h]
 simp [hp', asAddr, run_loadVar_row w g _ _ _ _ _ hg Tryz.underlying38 rfl (by rw [hn]; exact outcome_size), Result.andThen]
theorem grown_over {w w1 w2 : World} {r : Option Nat} {O : Nat} (h : w.grownBy w1 r) (k : w1.grownBy w2 (some O)) (hO : w.heap.size ≤ O) : w.grownBy w2 r :=
 ⟨k.os.trans h.os, k.tape.trans h.tape, k.output.trans h.output, Nat.le_trans h.size k.size, fun i hi hr => (k.block i (Nat.lt_of_lt_of_le hi h.size) (fun e => by have := Option.some.inj e; omega)).trans (h.block i hi hr)⟩
set_option maxHeartbeats 3200000 in
theorem fwh_loc (loc lost : Nat) (hl : U64 loc) (pc : Option Addr) (nc cc : Nat) (r s n : Int) (p : Option Addr) (c : Nat) (L : List Rw) (P : Pk) (hP : P.Wf) (mb : Nat) (hmb : U64 mb) (w : World) :
  Calls Tryz.prog 41 #[.agg #[.int .u64 (loc : Int), .int .u64 (lost : Int), .slice pc nc cc], .agg #[.int .i64 r, .int .i64 s, .int .i64 n, .slice p L.length c], P.val, .agg #[.int .i64 r, .int .u64 (mb : Int)]] w fun e w' => e = .returned (.agg #[.int .u64 ((loc ||| (P.bits &&& mb) : Nat) : Int), .int .u64 (lost : Int), .slice pc nc cc]) ∧ w.grownBy w' none := by
 have hval : P.val = .agg #[.int .i64 P.mode, .int .i64 P.sub, .int .i64 P.set, .int .i64 P.len, .int .i64 P.ttl, .int .i64 P.ent, .int .i64 P.ing, .int .i64 P.pro, .int .u64 (P.bits : Int), .string P.pay] := rfl
 rw [hval]
 have H0 := Lib.hid (hb_start w loc lost (.slice pc nc cc) r s n p c L P r mb)
 unfold pcells at H0
 have hand := andU P.bits mb hP.bits hmb
 have hor := orU loc (P.bits &&& mb) hl (u64_andl _ _ hP.bits)
 clear hval
 go_enter Tryz.func41, Tryz.ntmps41
 go_upto_region 1 with fail
 generalize ((((w.alloc _).alloc _).alloc _).alloc _).alloc _ = wa at *
 obtain ⟨m0, m1⟩ := row_cells H0.out.mb
 obtain ⟨d0, d1, d2, d3⟩ := row4T H0.out.bx
 obtain ⟨a0, a1, a2, a3, a4, a5, a6, a7, a8, a9⟩ := p_facts H0.out.pb
 obtain ⟨⟨o0, o1, o2⟩, f0, f1, f2⟩ := row3f H0.out.ob
 have hrr : (r == r) = true := by simp
 have H1 := Lib.hid (H0.out.at0 (loc ||| (P.bits &&& mb)))
 go_upto_region 8 with fail
 clear m0 m1 d0 d1 d2 d3 a0 a1 a2 a3 a4 a5 a6 a7 a8 a9 o0 o1 o2 f0 f1 f2 H0 hor hand
 generalize wa.setCell _ _ = w1 at *
 obtain ⟨⟨o0, o1, o2⟩, -⟩ := row3f H1.out.ob
 obtain ⟨⟨z0, z1, z2⟩, f0, f1, f2⟩ := row3f H1.out.rb
 go_wp2_with fail
 refine bodyPost_ret (res_outcome rfl _ _ (w.heap.size + 1 + 1 + 1 + 1) _ rfl rfl (ob_put _ _ _ H1.out.rb)) rfl ?_
 exact ⟨rfl, grown_new H1.out.gr (ob_grown _ _ _ _ _) (by omega)⟩
set_option maxHeartbeats 3200000 in
theorem fwh_lost (loc lost : Nat) (hl : U64 lost) (pc : Option Addr) (nc cc : Nat) (r s n : Int) (p : Option Addr) (c : Nat) (L : List Rw) (P : Pk) (hP : P.Wf) (ht : P.ttl = 0) (u : Int) (hu : u ≠ r) (mb : Nat) (hmb : U64 mb) (w : World) :
  Calls Tryz.prog 41 #[.agg #[.int .u64 (loc : Int), .int .u64 (lost : Int), .slice pc nc cc], .agg #[.int .i64 r, .int .i64 s, .int .i64 n, .slice p L.length c], P.val, .agg #[.int .i64 u, .int .u64 (mb : Int)]] w fun e w' => e = .returned (.agg #[.int .u64 (loc : Int), .int .u64 ((lost ||| (P.bits &&& mb) : Nat) : Int), .slice pc nc cc]) ∧ w.grownBy w' none := by
 have hval : P.val = .agg #[.int .i64 P.mode, .int .i64 P.sub, .int .i64 P.set, .int .i64 P.len, .int .i64 P.ttl, .int .i64 P.ent, .int .i64 P.ing, .int .i64 P.pro, .int .u64 (P.bits : Int), .string P.pay] := rfl
 rw [hval]
 have htt := Lib.hid (show (P.ttl == 0) = true by simpa using ht)
 have hrr := Lib.hid (show (u == r) = false by simpa using hu)
 clear hu ht
 have H0 := Lib.hid (hb_start w loc lost (.slice pc nc cc) r s n p c L P u mb)
 unfold pcells at H0
 have hand := andU P.bits mb hP.bits hmb
 have hor := orU lost (P.bits &&& mb) hl (u64_andl _ _ hP.bits)
 clear hval
 go_enter Tryz.func41, Tryz.ntmps41
 go_upto_region 1 with fail
 generalize ((((w.alloc _).alloc _).alloc _).alloc _).alloc _ = wa at *
 obtain ⟨m0, m1⟩ := row_cells H0.out.mb
 obtain ⟨d0, d1, d2, d3⟩ := row4T H0.out.bx
 obtain ⟨a0, a1, a2, a3, a4, a5, a6, a7, a8, a9⟩ := p_facts H0.out.pb
 obtain ⟨⟨o0, o1, o2⟩, f0, f1, f2⟩ := row3f H0.out.ob
 replace htt := htt.out
 replace hrr := hrr.out
 have H1 := Lib.hid (H0.out.at1 (lost ||| (P.bits &&& mb)))
 go_upto_region 8 with fail
 clear m0 m1 d0 d1 d2 d3 a0 a1 a2 a3 a4 a5 a6 a7 a8 a9 o0 o1 o2 f0 f1 f2 H0 hor hand
 generalize wa.setCell _ _ = w1 at *
 obtain ⟨⟨o0, o1, o2⟩, -⟩ := row3f H1.out.ob
 obtain ⟨⟨z0, z1, z2⟩, f0, f1, f2⟩ := row3f H1.out.rb
 go_wp2_with fail
 refine bodyPost_ret (res_outcome rfl _ _ (w.heap.size + 1 + 1 + 1 + 1) _ rfl rfl (ob_put _ _ _ H1.out.rb)) rfl ?_
 exact ⟨rfl, grown_new H1.out.gr (ob_grown _ _ _ _ _) (by omega)⟩
theorem cy_row (w : World) (P : Pk) (y : Int × Nat) (t : TypeId) : ∀ j u, (cyC P y)[j]? = some u → (w.alloc (.cells #[.int .i64 y.1, .slice none 0 0, .int .i64 P.mode, .int .i64 P.sub, .int .i64 P.set, .int .i64 P.len, .int .i64 (P.ttl - 1), .int .i64 P.ent, .int .i64 P.ing, .int .i64 P.pro, .int .u64 (y.2 : Int), .string P.pay] t)).cell? ((⟨w.heap.size, 0, none⟩ : Addr).add j) = some u := by
 intro j u hu
 rw [add_plain, cell_of_row _ _ _ _ _ _ (heap_alloc_new w _), Nat.zero_add]
 simpa [cyC] using hu
theorem maskc_any (P : Pk) (hP : P.Wf) (b : Nat) (hb : U64 b) (hm : mskP P b = (cyP P b, true)) (w : World) :
  Calls Tryz.prog 70 #[P.val, .int .u64 (b : Int)] w fun e w' => e = .returned (.tuple #[.agg #[.int .i64 P.mode, .int .i64 P.sub, .int .i64 P.set, .int .i64 P.len, .int .i64 (P.ttl - 1), .int .i64 P.ent, .int .i64 P.ing, .int .i64 P.pro, .int .u64 (b : Int), .string P.pay], .bool true]) ∧ w.grownBy w' none := by
 refine (maskp_any P hP b hb w).mono ?_
 rintro e w' ⟨rfl, h⟩
 rw [hm]
 exact ⟨rfl, h⟩
set_option maxHeartbeats 3200000 in
theorem fwh_copy (loc lost : Nat) (C : Nat) (pc : Option Addr) (cc : Nat) (cs : List (Int × Nat)) (hcl : cs.length ≤ 64) (r s n : Int) (p : Option Addr) (c : Nat) (L : List Rw) (P : Pk) (hP : P.Wf) (hv : vpk P = true) (ht : P.ttl ≠ 0) (u : Int) (hu : u ≠ r) (mb : Nat) (hmb : U64 mb) (hpm : P.bits &&& mb ≠ 0) (w : World) (hC : C ≤ w.heap.size) (hown : w.ownsRow C 58 12 (.slice pc cs.length cc) cs.length (cs.flatMap (cyC P))) :
  Calls Tryz.prog 41 #[.agg #[.int .u64 (loc : Int), .int .u64 (lost : Int), .slice pc cs.length cc], .agg #[.int .i64 r, .int .i64 s, .int .i64 n, .slice p L.length c], P.val, .agg #[.int .i64 u, .int .u64 (mb : Int)]] w fun e w' => ∃ (p2 : Option Addr) (c2 : Nat), e = .returned (.agg #[.int .u64 (loc : Int), .int .u64 (lost : Int), .slice p2 (cs ++ [(u, P.bits &&& mb)]).length c2]) ∧ w'.ownsRow C 58 12 (.slice p2 (cs ++ [(u, P.bits &&& mb)]).length c2) (cs ++ [(u, P.bits &&& mb)]).length ((cs ++ [(u, P.bits &&& mb)]).flatMap (cyC P)) ∧ w.grownBy w' (Value.slice pc cs.length cc).ownBlock := by
 have hval : P.val = .agg #[.int .i64 P.mode, .int .i64 P.sub, .int .i64 P.set, .int .i64 P.len, .int .i64 P.ttl, .int .i64 P.ent, .int .i64 P.ing, .int .i64 P.pro, .int .u64 (P.bits : Int), .string P.pay] := rfl
 rw [hval]
 obtain ⟨b, hb⟩ : ∃ b, P.bits &&& mb = b := ⟨_, rfl⟩
 have hbu : U64 b := by rw [← hb]; exact u64_andl _ _ hP.bits
 have HM : Hid (mskP P b = (cyP P b, true)) := Lib.hid (by
  have e : P.bits &&& b = b := by rw [← hb, ← Nat.and_assoc, Nat.and_self]
  unfold mskP cyP
  rw [if_pos ⟨hv, ht, by rw [e, ← hb]; exact hpm⟩, e])
 have HVB : Hid (∀ b, (Value.slice pc cs.length cc).ownBlock = some b → b < w.heap.size) := Lib.hid (fun b e => (hown.lt b e).2)
 have htt := Lib.hid (show (P.ttl == 0) = false by simpa using ht)
 have hrr := Lib.hid (show (u == r) = false by simpa using hu)
 clear hu ht
 have H0 := Lib.hid (hb_start w loc lost (.slice pc cs.length cc) r s n p c L P u mb)
 unfold pcells at H0
 have hand := andU P.bits mb hP.bits hmb
 rw [hb] at hand ⊢
 clear hb hpm
 go_enter Tryz.func41, Tryz.ntmps41
 go_upto_region 1 with fail
 generalize ((((w.alloc _).alloc _).alloc _).alloc _).alloc _ = wa at *
 obtain ⟨m0, m1⟩ := row_cells H0.out.mb
 obtain ⟨d0, d1, d2, d3⟩ := row4T H0.out.bx
 obtain ⟨a0, a1, a2, a3, a4, a5, a6, a7, a8, a9⟩ := p_facts H0.out.pb
 obtain ⟨⟨o0, o1, o2⟩, f0, f1, f2⟩ := row3f H0.out.ob
 replace htt := htt.out
 replace hrr := hrr.out
 have hsz : C ≤ wa.heap.size := Nat.le_trans hC H0.out.gr.size
 have HO := Lib.hid (hown.kept H0.out.gr (by cases (Value.slice pc cs.length cc).ownBlock <;> simp))
 have HC := Lib.hid (And.intro hC hsz)
 clear hown hC hsz hv
 have hval2 := Lib.hid hval
 clear hval
 go_wp2_with fail
 rw [← hval2.out]
 refine (maskc_any P hP b hbu HM.out wa).mono ?_
 rintro e w1 ⟨rfl, hg⟩
 have H1 := Lib.hid (H0.out.keep hg)
 have HO1 := Lib.hid (HO.out.kept hg (by cases (Value.slice pc cs.length cc).ownBlock <;> simp))
 have HC1 := Lib.hid (And.intro HC.out.1 (Nat.le_trans HC.out.2 hg.size))
 clear m0 m1 d0 d1 d2 d3 a0 a1 a2 a3 a4 a5 a6 a7 a8 a9 o0 o1 o2 f0 f1 f2 hg H0 HO HC htt hrr hand
 obtain ⟨k1, k2⟩ := tone_box w1 (pcells (cyP P b)) 28
 have HN := Lib.hid (And.intro k1 (And.intro k2 (show (w1.alloc (.cells (pcells (cyP P b)) 28)).heap.size = w1.heap.size + 1 by simp)))
 unfold pcells cyP at HN
 clear k1 k2 HM
 go_upto_region 3 with fail
 generalize w1.alloc _ = w2 at *
 have H2 := Lib.hid (H1.out.keep HN.out.2.1)
 have HO2 := Lib.hid (HO1.out.kept HN.out.2.1 (by cases (Value.slice pc cs.length cc).ownBlock <;> simp))
 have HC2 := Lib.hid (And.intro HC1.out.1 (Nat.le_trans HC1.out.2 HN.out.2.1.size))
 have HQ : Hid (w2.heap[w1.heap.size]? = some (.cells (pcells (cyP P b)) 28 (0, 0))) := Lib.hid HN.out.1
 obtain ⟨a0, a1, a2, a3, a4, a5, a6, a7, a8, a9⟩ := p_facts HQ.out
 simp only [cyP] at a0 a1 a2 a3 a4 a5 a6 a7 a8 a9
 generalize w1.heap.size = G at *
 clear H1 HO1 HC1 HN HQ
 obtain ⟨m0, m1⟩ := row_cells H2.out.mb
 obtain ⟨⟨o0, o1, o2⟩, f0, f1, f2⟩ := row3f H2.out.ob
 obtain ⟨ie, hie, he0, he1, he2⟩ := info_parts info_cy
 have hsz : C ≤ w2.heap.size := HC2.out.2
 go_wp2_with (at_builtin; refine hold_on ?_)
 refine wpList_append_lies _ rfl _ _ 36 rfl C 58 ie (.agg #[.int .i64 0, .slice none 0 0, .int .i64 0, .int .i64 0, .int .i64 0, .int .i64 0, .int .i64 0, .int .i64 0, .int .i64 0, .int .i64 0, .int .u64 0, .string ⟨#[]⟩]) 12 120 Tryz.underlying36 hie he0 he1 he2 rfl (by decide) (.slice pc cs.length cc) cs.length (cs.flatMap (cyC P)) rfl (HO2.out.alloc _) ⟨w2.heap.size, 0, none⟩ 1 1 (cyC P (u, b)) rfl rfl (cy_row w2 P (u, b) _) (cy_one P (u, b)) (by decide) (by unfold maxLen; omega) (by omega) (by simp; omega) _ rfl ?_
 intro g cap w8 hown8 hgrow hat hlt8
 have ga := World.grownBy_alloc w2 (.cells #[.int .i64 u, .slice none 0 0, .int .i64 P.mode, .int .i64 P.sub, .int .i64 P.set, .int .i64 P.len, .int .i64 (P.ttl - 1), .int .i64 P.ent, .int .i64 P.ing, .int .i64 P.pro, .int .u64 (b : Int), .string P.pay] 58) none
 have hvb := HVB.out
 have ob8 := kept_row (kept_row H2.out.ob ga (by simp)) hgrow (fun e => by have := hvb _ e.symm; omega)
 have rb8 := kept_row (kept_row H2.out.rb ga (by simp)) hgrow (fun e => by have := hvb _ e.symm; omega)
 have gr8 := grown_trans (grown_none (grown_trans H2.out.gr ga) (Value.slice pc cs.length cc).ownBlock) hgrow
 have hg8 : g ≠ w.heap.size ∧ g ≠ w.heap.size + 1 + 1 + 1 + 1 := by
  obtain ⟨h4, -⟩ := Array.getElem?_eq_some_iff.1 H2.out.rb
  rcases hat with e | e
  ·have := hvb _ e
   omega
  ·simp at e
   omega
 have X8 := Lib.hid (And.intro hown8 (And.intro gr8 (And.intro hg8 (And.intro ob8 rb8))))
 clear hown8 hgrow hat hlt8 ga hvb ob8 rb8 gr8 hg8 a0 a1 a2 a3 a4 a5 a6 a7 a8 a9 m0 m1 o0 o1 o2 f0 f1 f2 H2 HO2 HC2 hsz
 obtain ⟨⟨o0, o1, o2⟩, f0, f1, f2⟩ := row3f X8.out.2.2.2.1
 go_upto_region 8 with fail
 have ob9 := heap_setCell_same w8 _ 2 _ _ (.slice (some ⟨g, 0, none⟩) (cs.length + 1) cap) X8.out.2.2.2.1
 have j9 := grown_setCell w8 ⟨w.heap.size, 2, none⟩ (.slice (some ⟨g, 0, none⟩) (cs.length + 1) cap)
 have X9 := Lib.hid (And.intro (X8.out.1.kept j9 (Or.inr (fun e => X8.out.2.2.1.1 (Option.some.inj e)))) (And.intro (grown_over X8.out.2.1 j9 (Nat.le_refl _)) (And.intro X8.out.2.2.1.2 (And.intro ob9 (kept_row X8.out.2.2.2.2 j9 (fun e => by have : w.heap.size + 1 + 1 + 1 + 1 = w.heap.size := Option.some.inj e; omega))))))
 clear ob9 j9 X8 o0 o1 o2 f0 f1 f2
 generalize w8.setCell _ _ = w9 at *
 obtain ⟨⟨o0, o1, o2⟩, -⟩ := row3f X9.out.2.2.2.1
 obtain ⟨⟨z0, z1, z2⟩, f0, f1, f2⟩ := row3f X9.out.2.2.2.2
 go_wp2_with fail
 refine bodyPost_ret (res_outcome rfl _ _ (w.heap.size + 1 + 1 + 1 + 1) _ rfl rfl (ob_put _ _ _ X9.out.2.2.2.2)) rfl ?_
 have jr := ob_grown w9 (w.heap.size + 1 + 1 + 1 + 1) (.int .u64 (loc : Int)) (.int .u64 (lost : Int)) (.slice (some ⟨g, 0, none⟩) (cs.length + 1) cap)
 refine ⟨some ⟨g, 0, none⟩, cap, by rw [List.length_append]; rfl, ?_, grown_over X9.out.2.1 jr (by omega)⟩
 have := X9.out.1.kept jr (Or.inr (fun e => X9.out.2.2.1 (Option.some.inj e)))
 rw [List.length_append, List.flatMap_append]
 simpa using this
end Go.Proofs.YtpogblengagpaaaGreatDoor

/- empty -/
namespace Go.Proofs.YtpogblengagpaaaGreatDoor
set_option maxRecDepth 100000
end Go.Proofs.YtpogblengagpaaaGreatDoor

/- empty -/
namespace Go.Proofs.YtpogblengagpaaaGreatDoor
set_option maxRecDepth 100000
end Go.Proofs.YtpogblengagpaaaGreatDoor

/- packet: Encode. -/
namespace Go.Proofs.YtpogblengagpaaaGreatDoor
set_option maxRecDepth 100000
open Go.RowKit Bs
theorem mask_bit {b n i : Nat} (hb : b < 2 ^ 64) (hi : n ≤ i) (hbi : b.testBit i = true) (h : b &&& ((2 ^ (64 - n) - 1) * 2 ^ n) = 0) : False := by
 have hi2 : i < 64 := by
  refine Nat.lt_of_not_le fun h64 => ?_
  rw [Nat.testBit_lt_two_pow (Nat.lt_of_lt_of_le hb (Nat.pow_le_pow_right (by decide) h64))] at hbi
  cases hbi
 have e := congrArg (fun x : Nat => x.testBit i) h
 simp only [Nat.testBit_and, hbi, Nat.zero_testBit, Bool.true_and, Nat.testBit_mul_two_pow, Nat.testBit_two_pow_sub_one] at e
 simp at e
 omega
theorem vb_lt {b : Nat} {n : Int} (h : vb b n = true) (hb : U64 b) : b < 2 ^ n.toNat := by
 refine Nat.lt_of_not_le fun hge => ?_
 obtain ⟨i, hi, hbi⟩ := Nat.exists_ge_and_testBit_of_ge_two_pow hge
 have hl := vb_vl h
 unfold vb at h
 have hm := (Bool.and_eq_true _ _ ▸ h).2
 have hm := eq_of_beq hm
 rcases vl_cases hl with rfl | rfl | rfl | rfl
 ·exact mask_bit hb hi hbi (by rw [full_val.1] at hm; exact hm)
 ·exact mask_bit hb hi hbi (by rw [full_val.2.1] at hm; exact hm)
 ·exact mask_bit hb hi hbi (by rw [full_val.2.2.1] at hm; exact hm)
 ·exact mask_bit hb hi hbi (by rw [full_val.2.2.2] at hm; exact hm)
section
variable {W w w1 : World} {P : Pk} {S n : Nat} {B B2 : List Bool} {p : Option Addr} {c : Nat}
end
end Go.Proofs.YtpogblengagpaaaGreatDoor

/- packet: the program's Only. -/
namespace Go.Proofs.YtpogblengagpaaaGreatDoor
set_option maxRecDepth 100000
open Go.RowKit Bs
theorem and_b2 {b K : Nat} (h : b.testBit K = true) : b &&& b2 K ≠ 0 := by
 intro e
 have := congrArg (fun x => Nat.testBit x K) e
 simp [b2, Nat.testBit_two_pow_self, h] at this
theorem and_b2_no {b K : Nat} (h : b.testBit K = false) : b &&& b2 K = 0 := by
 apply Nat.eq_of_testBit_eq
 intro i
 rw [Nat.testBit_and, Nat.zero_testBit, b2, Nat.testBit_two_pow]
 by_cases hi : K = i
 ·subst hi; simp [h]
 ·simp [hi]
theorem of_one {k n : Int} (hv : vl n = true) (h0 : 0 ≤ k) (h1 : k < n) : ofV [k] n = (b2 k.toNat, 0) := by
 refine ofV_ok hv (fun j hj => ?_) ?_
 ·obtain rfl : j = 0 := by simp at hj; omega
  exact ⟨h0, h1⟩
 ·show ofr [k] 1 = _
  rw [ofr_miss (K := k.toNat) (show ofr [k] 0 = some 0 from rfl) (by show k = _; omega) (by simp)]
  simp
theorem of_out {k n : Int} (hv : vl n = true) (h : ¬ (0 ≤ k ∧ k < n)) : ofV [k] n = (0, 2) := ofV_range hv (j := 0) (by simp) h
set_option maxHeartbeats 3200000 in
theorem onlyp_any (P : Pk) (hP : P.Wf) (k : Int) (w : World) :
  Calls Tryz.prog 51 #[P.val, .int .i64 k] w fun e w' => e = .returned (onlyP P k).val ∧ w.grownBy w' none := by
 have hval : P.val = .agg #[.int .i64 P.mode, .int .i64 P.sub, .int .i64 P.set, .int .i64 P.len, .int .i64 P.ttl, .int .i64 P.ent, .int .i64 P.ing, .int .i64 P.pro, .int .u64 (P.bits : Int), .string P.pay] := rfl
 rw [hval]
 go_enter Tryz.func51, Tryz.ntmps51
 go_wp2_with fail
 obtain ⟨k1, k2, k3, hsz⟩ := two_boxes w (pcells P) zpk 28 28
 have H0 := Lib.hid (TB.mk k1 k2 k3)
 clear k1 k2 k3
 unfold pcells zpk at H0 hsz
 generalize (w.alloc _).alloc (.cells #[.int .i64 0, .int .i64 0, .int .i64 0, .int .i64 0, .int .i64 0, .int .i64 0, .int .i64 0, .int .i64 0, .int .u64 0, .string ⟨#[]⟩] 28) = wa at *
 have hR := rd_new wa #[.int .i64 k] 3 1
 rw [hsz] at hR
 have H1 := Lib.hid (H0.out.keep (World.grownBy_alloc wa (.cells #[.int .i64 k] 3) none))
 generalize wa.alloc (.cells #[.int .i64 k] 3) = w1 at *
 refine (ofp_any [k] P.len _ _ 1 (by simp) w1 hR).mono ?_
 clear hR hsz H0
 rintro e w' ⟨rfl, rfl⟩
 obtain ⟨x, y, hxy⟩ : ∃ (x : Nat) (y : Int), ofV [k] P.len = (x, y) := ⟨_, _, rfl⟩
 rw [hxy]
 have HXY := Lib.hid hxy
 clear hxy
 obtain ⟨a0, a1, a2, a3, a4, a5, a6, a7, a8, a9⟩ := p_facts H1.out.pb
 go_wp2_with fail
 rw [← hval]
 refine (pvalid_any P hP _).mono ?_
 rintro e w2 ⟨rfl, hg⟩
 have H2 := Lib.hid (H1.out.keep hg)
 clear H1 hg a0 a1 a2 a3 a4 a5 a6 a7 a8 a9
 obtain ⟨a0, a1, a2, a3, a4, a5, a6, a7, a8, a9⟩ := p_facts H2.out.pb
 obtain ⟨⟨z0, z1, z2, z3, z4, z5, z6, z7, z8, z9⟩, f0, f1, f2, f3, f4, f5, f6, f7, f8, f9⟩ := zp_cells H2.out.zb
 by_cases hv : vpk P = true
 ·rw [hv]
  have hvl := vb_vl (vpk_parts hv).2.2.2.2.2.2.2.2
  by_cases hk : 0 ≤ k ∧ k < P.len
  ·obtain ⟨rfl, rfl⟩ : x = b2 k.toNat ∧ y = 0 := by have := HXY.out.symm.trans (of_one hvl hk.1 hk.2); simpa using this
   have hK : k.toNat < 64 := by have := (vpk_len hv).2; omega
   have hand := Lib.hid (andU P.bits (b2 k.toNat) hP.bits (b2_u64 hK))
   by_cases ht : P.bits.testBit k.toNat = true
   ·have hE : Hid (onlyP P k = { P with bits := b2 k.toNat }) := Lib.hid (by unfold onlyP; rw [if_pos ⟨hv, hk.1, by omega, ht⟩])
    have hne : ((P.bits &&& b2 k.toNat : Nat) : Int) ≠ 0 := by have := and_b2 ht; omega
    generalize ((P.bits &&& b2 k.toNat : Nat) : Int) = A at *
    generalize b2 k.toNat = b at *
    have H3 := Lib.hid (H2.out.at_bits b)
    have c8 := frozen_of_row _ _ 8 _ _ H2.out.pb
    clear hv hvl hk HXY ht hK hval
    have hand := hand.out
    go_upto_region 5 with fail
    clear a0 a1 a2 a3 a4 a5 a6 a7 a8 a9 z0 z1 z2 z3 z4 z5 z6 z7 z8 z9 f0 f1 f2 f3 f4 f5 f6 f7 f8 f9 c8 H2 hand hne
    generalize w2.setCell _ _ = w3 at *
    obtain ⟨a0, a1, a2, a3, a4, a5, a6, a7, a8, a9⟩ := p_facts H3.out.pb
    obtain ⟨⟨z0, z1, z2, z3, z4, z5, z6, z7, z8, z9⟩, f0, f1, f2, f3, f4, f5, f6, f7, f8, f9⟩ := zp_cells H3.out.zb
    go_wp2_with fail
    refine bodyPost_ret (res_packet rfl _ _ (w.heap.size + 1) _ rfl rfl (pput_row _ _ _ _ _ _ _ _ _ _ H3.out.zb)) rfl ?_
    exact ⟨by rw [hE.out]; rfl, grown_new H3.out.gr (pput_grown _ (w.heap.size + 1) _ _ _ _ _ _ _ _ _ _) (Nat.le_succ _)⟩
   ·have hE : Hid (onlyP P k = zP) := Lib.hid (by unfold onlyP; rw [if_neg (fun h => ht h.2.2.2)])
    have hne : ((P.bits &&& b2 k.toNat : Nat) : Int) = 0 := by rw [and_b2_no (by simpa using ht)]; rfl
    rw [hne] at hand
    generalize b2 k.toNat = b at *
    clear hv hvl hk HXY ht hK hval hne
    have hand := hand.out
    go_wp2_with fail
    refine bodyPost_ret (res_packet rfl _ _ (w.heap.size + 1) _ rfl rfl (pput_row _ _ _ _ _ _ _ _ _ _ H2.out.zb)) rfl ?_
    exact ⟨by rw [hE.out]; rfl, grown_new H2.out.gr (pput_grown _ (w.heap.size + 1) _ _ _ _ _ _ _ _ _ _) (Nat.le_succ _)⟩
  ·obtain ⟨rfl, rfl⟩ : x = 0 ∧ y = 2 := by have := HXY.out.symm.trans (of_out hvl hk); simpa using this
   have hE : Hid (onlyP P k = zP) := Lib.hid (by
    unfold onlyP
    rw [if_neg]
    intro h
    have hb := vb_lt (n := P.len) (vpk_parts hv).2.2.2.2.2.2.2.2 hP.bits
    have h1 := h.2.2.2
    rw [Nat.testBit_lt_two_pow (Nat.lt_of_lt_of_le hb (Nat.pow_le_pow_right (by decide) (by omega)))] at h1
    cases h1)
   clear hv hvl hk HXY hval
   go_wp2_with fail
   refine bodyPost_ret (res_packet rfl _ _ (w.heap.size + 1) _ rfl rfl (pput_row _ _ _ _ _ _ _ _ _ _ H2.out.zb)) rfl ?_
   exact ⟨by rw [hE.out]; rfl, grown_new H2.out.gr (pput_grown _ (w.heap.size + 1) _ _ _ _ _ _ _ _ _ _) (Nat.le_succ _)⟩
 ·have hE : Hid (onlyP P k = zP) := Lib.hid (by unfold onlyP; rw [if_neg (fun h => hv h.1)])
  have hf : vpk P = false := by simpa using hv
  rw [hf]
  clear hv hf HXY hval
  go_wp2_with fail
  refine bodyPost_ret (res_packet rfl _ _ (w.heap.size + 1) _ rfl rfl (pput_row _ _ _ _ _ _ _ _ _ _ H2.out.zb)) rfl ?_
  exact ⟨by rw [hE.out]; rfl, grown_new H2.out.gr (pput_grown _ (w.heap.size + 1) _ _ _ _ _ _ _ _ _ _) (Nat.le_succ _)⟩
end Go.Proofs.YtpogblengagpaaaGreatDoor

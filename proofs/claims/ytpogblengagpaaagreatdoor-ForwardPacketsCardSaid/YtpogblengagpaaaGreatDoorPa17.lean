/- Parts of the proof, packed: FwSm, FwDo, FwRp. -/
import Derived.Test.YtpogblengagpaaaGreatDoorPa16
import Derived.Test.YtpogblengagpaaaGreatDoorPa5
import Derived.Test.YtpogblengagpaaaGreatDoorPa8
import Derived.Test.YtpogblengagpaaaGreatDoorPa4
import Derived.Test.YtpogblengagpaaaGreatDoorPa6
/- forward: same of equal outcomes. -/
namespace Go.Proofs.YtpogblengagpaaaGreatDoor
set_option maxRecDepth 100000
open Go.RowKit Go.Maps Bs
theorem cy_at {w : World} {q : Nat → Prop} {pc : Option Addr} {cc : Nat} {cs : List (Int × Nat)} {P : Pk} (h : RdF w q (.slice pc cs.length cc) cs.length (cs.flatMap (cyC P))) {i : Nat} {y : Int × Nat} (hi : cs[i]? = some y) : ∃ g off, pc = some ⟨g, off, none⟩ ∧ ∀ w1, w.grownBy w1 none → w1.cell? ⟨g, off + i * 12, none⟩ = some (.int .i64 y.1) ∧ w1.cell? ⟨g, off + i * 12 + 1, none⟩ = some (.slice none 0 0) ∧ w1.cell? ⟨g, off + i * 12 + 2, none⟩ = some (.int .i64 P.mode) ∧ w1.cell? ⟨g, off + i * 12 + 3, none⟩ = some (.int .i64 P.sub) ∧ w1.cell? ⟨g, off + i * 12 + 4, none⟩ = some (.int .i64 P.set) ∧ w1.cell? ⟨g, off + i * 12 + 5, none⟩ = some (.int .i64 P.len) ∧ w1.cell? ⟨g, off + i * 12 + 6, none⟩ = some (.int .i64 (P.ttl - 1)) ∧ w1.cell? ⟨g, off + i * 12 + 7, none⟩ = some (.int .i64 P.ent) ∧ w1.cell? ⟨g, off + i * 12 + 8, none⟩ = some (.int .i64 P.ing) ∧ w1.cell? ⟨g, off + i * 12 + 9, none⟩ = some (.int .i64 P.pro) ∧ w1.cell? ⟨g, off + i * 12 + 10, none⟩ = some (.int .u64 (y.2 : Int)) ∧ w1.cell? ⟨g, off + i * 12 + 11, none⟩ = some (.string P.pay) := by
 have hl : 0 < cs.length := by have := (List.getElem?_eq_some_iff.1 hi).1; omega
 obtain ⟨-, g, off, hp, -, hc⟩ := RdF.cells (f := cyC P) (k := 12) (fun _ => rfl) (by decide) h hl
 have hx := hc i y hi
 exact ⟨g, off, hp, fun w1 g1 => ⟨g1.cell (hx 0 _ rfl) (by simp), g1.cell (hx 1 _ rfl) (by simp), g1.cell (hx 2 _ rfl) (by simp), g1.cell (hx 3 _ rfl) (by simp), g1.cell (hx 4 _ rfl) (by simp), g1.cell (hx 5 _ rfl) (by simp), g1.cell (hx 6 _ rfl) (by simp), g1.cell (hx 7 _ rfl) (by simp), g1.cell (hx 8 _ rfl) (by simp), g1.cell (hx 9 _ rfl) (by simp), g1.cell (hx 10 _ rfl) (by simp), g1.cell (hx 11 _ rfl) (by simp)⟩⟩
set_option maxHeartbeats 6400000 in
theorem same_any (loc lost : Nat) (cs : List (Int × Nat)) (P : Pk) (p1 p2 : Option Addr) (c1 c2 : Nat) (q1 q2 : Nat → Prop) (w : World) (h1 : RdF w q1 (.slice p1 cs.length c1) cs.length (cs.flatMap (cyC P))) (h2 : RdF w q2 (.slice p2 cs.length c2) cs.length (cs.flatMap (cyC P))) (hm : cs.length ≤ 64) :
  Calls Tryz.prog 13 #[.agg #[.int .u64 (loc : Int), .int .u64 (lost : Int), .slice p1 cs.length c1], .agg #[.int .u64 (loc : Int), .int .u64 (lost : Int), .slice p2 cs.length c2]] w fun e w' => e = .returned (.bool true) ∧ w.grownBy w' none := by
 obtain ⟨k1, k2, k3, k4⟩ := two_boxes w #[.int .u64 (loc : Int), .int .u64 (lost : Int), .slice p1 cs.length c1] #[.int .u64 (loc : Int), .int .u64 (lost : Int), .slice p2 cs.length c2] 38 38
 have H := Lib.hid (And.intro k1 (And.intro k2 (And.intro k3 (And.intro (h1.keep k3) (h2.keep k3)))))
 clear k1 k2 k3 k4 h1 h2
 go_enter Tryz.func13, Tryz.ntmps13
 go_upto_region 1 with fail
 generalize (w.alloc _).alloc _ = wa at *
 obtain ⟨x0, x1, x2⟩ := (row3f H.out.1).1
 obtain ⟨z0, z1, z2⟩ := (row3f H.out.2.1).1
 go_wp2_with fail
 go_loopw [5] (fun u wr => ∃ i : Nat, i ≤ cs.length ∧ u = .int .i64 (i : Int) ∧ Hid (wa.grownBy wr none)) (fun u _ => cs.length - (RowKit.intOf u).toNat)
 case atStart => exact ⟨0, Nat.zero_le _, rfl, Lib.hid (grown_refl _ _)⟩
 case round =>
 clear x0 x1 x2 z0 z1 z2
 obtain ⟨i, hi, rfl, G⟩ := hrel
 obtain ⟨w7, hw7⟩ : ∃ w7, w7 = wr := ⟨_, rfl⟩
 rw [← hw7] at G ⊢
 clear hw7
 obtain ⟨x0, x1, x2⟩ := (row3f (kept_row H.out.1 G.out (by simp))).1
 obtain ⟨z0, z1, z2⟩ := (row3f (kept_row H.out.2.1 G.out (by simp))).1
 by_cases hlt : i < cs.length
 case neg =>
  obtain rfl : i = cs.length := by omega
  have hnl : ¬ (cs.length : Int) < (cs.length : Int) := by omega
  go_wp2_with fail
  go_ret
  exact ⟨rfl, grown_trans H.out.2.2.1 G.out⟩
 have hlt' : (i : Int) < (cs.length : Int) := by omega
 have hi0 : (0 : Int) ≤ (i : Int) := by omega
 obtain ⟨y, hy⟩ : ∃ y, cs[i]? = some y := ⟨_, List.getElem?_eq_getElem hlt⟩
 obtain ⟨g1, o1, rfl, hc1⟩ := cy_at H.out.2.2.2.1 hy
 obtain ⟨g2, o2, rfl, hc2⟩ := cy_at H.out.2.2.2.2 hy
 have HC1 := Lib.hid hc1
 have HC2 := Lib.hid hc2
 have HSM := Lib.hid (show ∀ wx : World, Calls Tryz.prog 45 #[.agg #[.slice none 0 0, .int .i64 P.mode, .int .i64 P.sub, .int .i64 P.set, .int .i64 P.len, .int .i64 (P.ttl - 1), .int .i64 P.ent, .int .i64 P.ing, .int .i64 P.pro, .int .u64 (y.2 : Int), .string P.pay], .agg #[.slice none 0 0, .int .i64 P.mode, .int .i64 P.sub, .int .i64 P.set, .int .i64 P.len, .int .i64 (P.ttl - 1), .int .i64 P.ent, .int .i64 P.ing, .int .i64 P.pro, .int .u64 (y.2 : Int), .string P.pay]] wx fun e w' => e = .returned (.bool true) ∧ wx.grownBy w' none from fun wx => rsame_any [] _ _ _ _ _ _ _ _ _ _ none none 0 0 (fun _ => True) (fun _ => True) wx (Rd.nil_ wx _ none 0) (Rd.nil_ wx _ none 0) (by decide))
 clear hc1 hc2 hy
 go_upto_region 6 with fail
 refine wp_region_held_drew (S := fun w' => Hid (w7.grownBy w' none)) (by kernel_rfl) (Lib.hid (grown_drew (grown_refl _ none))) (fun hHeld => ?_)
 refine zT (i := 0) (v := ?_) rfl ?_ hHeld ?_
 rotate_left 1
 ·intro u hSu
  have GU := grown_trans G.out hSu.out
  obtain ⟨x0u, x1u, x2u⟩ := (row3f (kept_row H.out.1 GU (by simp))).1
  obtain ⟨z0u, z1u, z2u⟩ := (row3f (kept_row H.out.2.1 GU (by simp))).1
  obtain ⟨a0u, a1u, a2u, a3u, a4u, a5u, a6u, a7u, a8u, a9u, a10u, a11u⟩ := HC1.out u GU
  obtain ⟨b0u, b1u, b2u, b3u, b4u, b5u, b6u, b7u, b8u, b9u, b10u, b11u⟩ := HC2.out u GU
  go_simp
  first | done | with_reducible rfl
 try simp only [Act.put, zA, zB, zC]
 refine zT (i := 1) (v := ?_) rfl ?_ hHeld ?_
 rotate_left 1
 ·intro u hSu
  have GU := grown_trans G.out hSu.out
  obtain ⟨x0u, x1u, x2u⟩ := (row3f (kept_row H.out.1 GU (by simp))).1
  obtain ⟨z0u, z1u, z2u⟩ := (row3f (kept_row H.out.2.1 GU (by simp))).1
  obtain ⟨a0u, a1u, a2u, a3u, a4u, a5u, a6u, a7u, a8u, a9u, a10u, a11u⟩ := HC1.out u GU
  obtain ⟨b0u, b1u, b2u, b3u, b4u, b5u, b6u, b7u, b8u, b9u, b10u, b11u⟩ := HC2.out u GU
  go_simp
  first | done | with_reducible rfl
 try simp only [Act.put, zA, zB, zC]
 refine zT (i := 2) (v := ?_) rfl ?_ hHeld ?_
 rotate_left 1
 ·intro u hSu
  have GU := grown_trans G.out hSu.out
  obtain ⟨x0u, x1u, x2u⟩ := (row3f (kept_row H.out.1 GU (by simp))).1
  obtain ⟨z0u, z1u, z2u⟩ := (row3f (kept_row H.out.2.1 GU (by simp))).1
  obtain ⟨a0u, a1u, a2u, a3u, a4u, a5u, a6u, a7u, a8u, a9u, a10u, a11u⟩ := HC1.out u GU
  obtain ⟨b0u, b1u, b2u, b3u, b4u, b5u, b6u, b7u, b8u, b9u, b10u, b11u⟩ := HC2.out u GU
  go_simp
  first | done | with_reducible rfl
 try simp only [Act.put, zA, zB, zC]
 refine zT (i := 3) (v := ?_) rfl ?_ hHeld ?_
 rotate_left 1
 ·intro u hSu
  have GU := grown_trans G.out hSu.out
  obtain ⟨x0u, x1u, x2u⟩ := (row3f (kept_row H.out.1 GU (by simp))).1
  obtain ⟨z0u, z1u, z2u⟩ := (row3f (kept_row H.out.2.1 GU (by simp))).1
  obtain ⟨a0u, a1u, a2u, a3u, a4u, a5u, a6u, a7u, a8u, a9u, a10u, a11u⟩ := HC1.out u GU
  obtain ⟨b0u, b1u, b2u, b3u, b4u, b5u, b6u, b7u, b8u, b9u, b10u, b11u⟩ := HC2.out u GU
  go_simp
  first | done | with_reducible rfl
 try simp only [Act.put, zA, zB, zC]
 refine zT (i := 4) (v := ?_) rfl ?_ hHeld ?_
 rotate_left 1
 ·intro u hSu
  have GU := grown_trans G.out hSu.out
  obtain ⟨x0u, x1u, x2u⟩ := (row3f (kept_row H.out.1 GU (by simp))).1
  obtain ⟨z0u, z1u, z2u⟩ := (row3f (kept_row H.out.2.1 GU (by simp))).1
  obtain ⟨a0u, a1u, a2u, a3u, a4u, a5u, a6u, a7u, a8u, a9u, a10u, a11u⟩ := HC1.out u GU
  obtain ⟨b0u, b1u, b2u, b3u, b4u, b5u, b6u, b7u, b8u, b9u, b10u, b11u⟩ := HC2.out u GU
  go_simp
  first | done | with_reducible rfl
 try simp only [Act.put, zA, zB, zC]
 refine zT (i := 5) (v := ?_) rfl ?_ hHeld ?_
 rotate_left 1
 ·intro u hSu
  have GU := grown_trans G.out hSu.out
  obtain ⟨x0u, x1u, x2u⟩ := (row3f (kept_row H.out.1 GU (by simp))).1
  obtain ⟨z0u, z1u, z2u⟩ := (row3f (kept_row H.out.2.1 GU (by simp))).1
  obtain ⟨a0u, a1u, a2u, a3u, a4u, a5u, a6u, a7u, a8u, a9u, a10u, a11u⟩ := HC1.out u GU
  obtain ⟨b0u, b1u, b2u, b3u, b4u, b5u, b6u, b7u, b8u, b9u, b10u, b11u⟩ := HC2.out u GU
  go_simp
  first | done | with_reducible rfl
 try simp only [Act.put, zA, zB, zC]
 refine zT (i := 6) (v := ?_) rfl ?_ hHeld ?_
 rotate_left 1
 ·intro u hSu
  have GU := grown_trans G.out hSu.out
  obtain ⟨x0u, x1u, x2u⟩ := (row3f (kept_row H.out.1 GU (by simp))).1
  obtain ⟨z0u, z1u, z2u⟩ := (row3f (kept_row H.out.2.1 GU (by simp))).1
  obtain ⟨a0u, a1u, a2u, a3u, a4u, a5u, a6u, a7u, a8u, a9u, a10u, a11u⟩ := HC1.out u GU
  obtain ⟨b0u, b1u, b2u, b3u, b4u, b5u, b6u, b7u, b8u, b9u, b10u, b11u⟩ := HC2.out u GU
  go_simp
  first | done | with_reducible rfl
 try simp only [Act.put, zA, zB, zC]
 refine zT (i := 7) (v := ?_) rfl ?_ hHeld ?_
 rotate_left 1
 ·intro u hSu
  have GU := grown_trans G.out hSu.out
  obtain ⟨x0u, x1u, x2u⟩ := (row3f (kept_row H.out.1 GU (by simp))).1
  obtain ⟨z0u, z1u, z2u⟩ := (row3f (kept_row H.out.2.1 GU (by simp))).1
  obtain ⟨a0u, a1u, a2u, a3u, a4u, a5u, a6u, a7u, a8u, a9u, a10u, a11u⟩ := HC1.out u GU
  obtain ⟨b0u, b1u, b2u, b3u, b4u, b5u, b6u, b7u, b8u, b9u, b10u, b11u⟩ := HC2.out u GU
  go_simp
  first | done | with_reducible rfl
 try simp only [Act.put, zA, zB, zC]
 refine zT (i := 8) (v := ?_) rfl ?_ hHeld ?_
 rotate_left 1
 ·intro u hSu
  have GU := grown_trans G.out hSu.out
  obtain ⟨x0u, x1u, x2u⟩ := (row3f (kept_row H.out.1 GU (by simp))).1
  obtain ⟨z0u, z1u, z2u⟩ := (row3f (kept_row H.out.2.1 GU (by simp))).1
  obtain ⟨a0u, a1u, a2u, a3u, a4u, a5u, a6u, a7u, a8u, a9u, a10u, a11u⟩ := HC1.out u GU
  obtain ⟨b0u, b1u, b2u, b3u, b4u, b5u, b6u, b7u, b8u, b9u, b10u, b11u⟩ := HC2.out u GU
  go_simp
  first | done | with_reducible rfl
 try simp only [Act.put, zA, zB, zC]
 refine zT (i := 9) (v := ?_) rfl ?_ hHeld ?_
 rotate_left 1
 ·intro u hSu
  have GU := grown_trans G.out hSu.out
  obtain ⟨x0u, x1u, x2u⟩ := (row3f (kept_row H.out.1 GU (by simp))).1
  obtain ⟨z0u, z1u, z2u⟩ := (row3f (kept_row H.out.2.1 GU (by simp))).1
  obtain ⟨a0u, a1u, a2u, a3u, a4u, a5u, a6u, a7u, a8u, a9u, a10u, a11u⟩ := HC1.out u GU
  obtain ⟨b0u, b1u, b2u, b3u, b4u, b5u, b6u, b7u, b8u, b9u, b10u, b11u⟩ := HC2.out u GU
  go_simp
  first | done | with_reducible rfl
 try simp only [Act.put, zA, zB, zC]
 refine zT (i := 10) (v := ?_) rfl ?_ hHeld ?_
 rotate_left 1
 ·intro u hSu
  have GU := grown_trans G.out hSu.out
  obtain ⟨x0u, x1u, x2u⟩ := (row3f (kept_row H.out.1 GU (by simp))).1
  obtain ⟨z0u, z1u, z2u⟩ := (row3f (kept_row H.out.2.1 GU (by simp))).1
  obtain ⟨a0u, a1u, a2u, a3u, a4u, a5u, a6u, a7u, a8u, a9u, a10u, a11u⟩ := HC1.out u GU
  obtain ⟨b0u, b1u, b2u, b3u, b4u, b5u, b6u, b7u, b8u, b9u, b10u, b11u⟩ := HC2.out u GU
  go_simp
  first | done | with_reducible rfl
 try simp only [Act.put, zA, zB, zC]
 refine zT (i := 11) (v := ?_) rfl ?_ hHeld ?_
 rotate_left 1
 ·intro u hSu
  have GU := grown_trans G.out hSu.out
  obtain ⟨x0u, x1u, x2u⟩ := (row3f (kept_row H.out.1 GU (by simp))).1
  obtain ⟨z0u, z1u, z2u⟩ := (row3f (kept_row H.out.2.1 GU (by simp))).1
  obtain ⟨a0u, a1u, a2u, a3u, a4u, a5u, a6u, a7u, a8u, a9u, a10u, a11u⟩ := HC1.out u GU
  obtain ⟨b0u, b1u, b2u, b3u, b4u, b5u, b6u, b7u, b8u, b9u, b10u, b11u⟩ := HC2.out u GU
  go_simp
  first | done | with_reducible rfl
 try simp only [Act.put, zA, zB, zC]
 refine zT (i := 12) (v := .bool false) rfl ?_ hHeld ?_
 ·intro u hSu
  have GU := grown_trans G.out hSu.out
  obtain ⟨x0u, x1u, x2u⟩ := (row3f (kept_row H.out.1 GU (by simp))).1
  obtain ⟨z0u, z1u, z2u⟩ := (row3f (kept_row H.out.2.1 GU (by simp))).1
  obtain ⟨a0u, a1u, a2u, a3u, a4u, a5u, a6u, a7u, a8u, a9u, a10u, a11u⟩ := HC1.out u GU
  obtain ⟨b0u, b1u, b2u, b3u, b4u, b5u, b6u, b7u, b8u, b9u, b10u, b11u⟩ := HC2.out u GU
  go_simp
  first | done | rfl | simp
 try simp only [Act.put, zA, zB, zC]
 refine zT (i := 13) (v := ?_) rfl ?_ hHeld ?_
 rotate_left 1
 ·intro u hSu
  have GU := grown_trans G.out hSu.out
  obtain ⟨x0u, x1u, x2u⟩ := (row3f (kept_row H.out.1 GU (by simp))).1
  obtain ⟨z0u, z1u, z2u⟩ := (row3f (kept_row H.out.2.1 GU (by simp))).1
  obtain ⟨a0u, a1u, a2u, a3u, a4u, a5u, a6u, a7u, a8u, a9u, a10u, a11u⟩ := HC1.out u GU
  obtain ⟨b0u, b1u, b2u, b3u, b4u, b5u, b6u, b7u, b8u, b9u, b10u, b11u⟩ := HC2.out u GU
  go_simp
  first | done | with_reducible rfl
 try simp only [Act.put, zA, zB, zC]
 refine zT (i := 14) (v := ?_) rfl ?_ hHeld ?_
 rotate_left 1
 ·intro u hSu
  have GU := grown_trans G.out hSu.out
  obtain ⟨x0u, x1u, x2u⟩ := (row3f (kept_row H.out.1 GU (by simp))).1
  obtain ⟨z0u, z1u, z2u⟩ := (row3f (kept_row H.out.2.1 GU (by simp))).1
  obtain ⟨a0u, a1u, a2u, a3u, a4u, a5u, a6u, a7u, a8u, a9u, a10u, a11u⟩ := HC1.out u GU
  obtain ⟨b0u, b1u, b2u, b3u, b4u, b5u, b6u, b7u, b8u, b9u, b10u, b11u⟩ := HC2.out u GU
  go_simp
  first | done | with_reducible rfl
 try simp only [Act.put, zA, zB, zC]
 refine zT (i := 15) (v := ?_) rfl ?_ hHeld ?_
 rotate_left 1
 ·intro u hSu
  have GU := grown_trans G.out hSu.out
  obtain ⟨x0u, x1u, x2u⟩ := (row3f (kept_row H.out.1 GU (by simp))).1
  obtain ⟨z0u, z1u, z2u⟩ := (row3f (kept_row H.out.2.1 GU (by simp))).1
  obtain ⟨a0u, a1u, a2u, a3u, a4u, a5u, a6u, a7u, a8u, a9u, a10u, a11u⟩ := HC1.out u GU
  obtain ⟨b0u, b1u, b2u, b3u, b4u, b5u, b6u, b7u, b8u, b9u, b10u, b11u⟩ := HC2.out u GU
  go_simp
  first | done | with_reducible rfl
 try simp only [Act.put, zA, zB, zC]
 refine zT (i := 16) (v := ?_) rfl ?_ hHeld ?_
 rotate_left 1
 ·intro u hSu
  have GU := grown_trans G.out hSu.out
  obtain ⟨x0u, x1u, x2u⟩ := (row3f (kept_row H.out.1 GU (by simp))).1
  obtain ⟨z0u, z1u, z2u⟩ := (row3f (kept_row H.out.2.1 GU (by simp))).1
  obtain ⟨a0u, a1u, a2u, a3u, a4u, a5u, a6u, a7u, a8u, a9u, a10u, a11u⟩ := HC1.out u GU
  obtain ⟨b0u, b1u, b2u, b3u, b4u, b5u, b6u, b7u, b8u, b9u, b10u, b11u⟩ := HC2.out u GU
  go_simp
  first | done | with_reducible rfl
 try simp only [Act.put, zA, zB, zC]
 refine zT (i := 17) (v := ?_) rfl ?_ hHeld ?_
 rotate_left 1
 ·intro u hSu
  have GU := grown_trans G.out hSu.out
  obtain ⟨x0u, x1u, x2u⟩ := (row3f (kept_row H.out.1 GU (by simp))).1
  obtain ⟨z0u, z1u, z2u⟩ := (row3f (kept_row H.out.2.1 GU (by simp))).1
  obtain ⟨a0u, a1u, a2u, a3u, a4u, a5u, a6u, a7u, a8u, a9u, a10u, a11u⟩ := HC1.out u GU
  obtain ⟨b0u, b1u, b2u, b3u, b4u, b5u, b6u, b7u, b8u, b9u, b10u, b11u⟩ := HC2.out u GU
  go_simp
  first | done | with_reducible rfl
 try simp only [Act.put, zA, zB, zC]
 refine zT (i := 18) (v := ?_) rfl ?_ hHeld ?_
 rotate_left 1
 ·intro u hSu
  have GU := grown_trans G.out hSu.out
  obtain ⟨x0u, x1u, x2u⟩ := (row3f (kept_row H.out.1 GU (by simp))).1
  obtain ⟨z0u, z1u, z2u⟩ := (row3f (kept_row H.out.2.1 GU (by simp))).1
  obtain ⟨a0u, a1u, a2u, a3u, a4u, a5u, a6u, a7u, a8u, a9u, a10u, a11u⟩ := HC1.out u GU
  obtain ⟨b0u, b1u, b2u, b3u, b4u, b5u, b6u, b7u, b8u, b9u, b10u, b11u⟩ := HC2.out u GU
  go_simp
  first | done | with_reducible rfl
 try simp only [Act.put, zA, zB, zC]
 refine zT (i := 19) (v := ?_) rfl ?_ hHeld ?_
 rotate_left 1
 ·intro u hSu
  have GU := grown_trans G.out hSu.out
  obtain ⟨x0u, x1u, x2u⟩ := (row3f (kept_row H.out.1 GU (by simp))).1
  obtain ⟨z0u, z1u, z2u⟩ := (row3f (kept_row H.out.2.1 GU (by simp))).1
  obtain ⟨a0u, a1u, a2u, a3u, a4u, a5u, a6u, a7u, a8u, a9u, a10u, a11u⟩ := HC1.out u GU
  obtain ⟨b0u, b1u, b2u, b3u, b4u, b5u, b6u, b7u, b8u, b9u, b10u, b11u⟩ := HC2.out u GU
  go_simp
  first | done | with_reducible rfl
 try simp only [Act.put, zA, zB, zC]
 refine zT (i := 20) (v := ?_) rfl ?_ hHeld ?_
 rotate_left 1
 ·intro u hSu
  have GU := grown_trans G.out hSu.out
  obtain ⟨x0u, x1u, x2u⟩ := (row3f (kept_row H.out.1 GU (by simp))).1
  obtain ⟨z0u, z1u, z2u⟩ := (row3f (kept_row H.out.2.1 GU (by simp))).1
  obtain ⟨a0u, a1u, a2u, a3u, a4u, a5u, a6u, a7u, a8u, a9u, a10u, a11u⟩ := HC1.out u GU
  obtain ⟨b0u, b1u, b2u, b3u, b4u, b5u, b6u, b7u, b8u, b9u, b10u, b11u⟩ := HC2.out u GU
  go_simp
  first | done | with_reducible rfl
 try simp only [Act.put, zA, zB, zC]
 refine zT (i := 21) (v := ?_) rfl ?_ hHeld ?_
 rotate_left 1
 ·intro u hSu
  have GU := grown_trans G.out hSu.out
  obtain ⟨x0u, x1u, x2u⟩ := (row3f (kept_row H.out.1 GU (by simp))).1
  obtain ⟨z0u, z1u, z2u⟩ := (row3f (kept_row H.out.2.1 GU (by simp))).1
  obtain ⟨a0u, a1u, a2u, a3u, a4u, a5u, a6u, a7u, a8u, a9u, a10u, a11u⟩ := HC1.out u GU
  obtain ⟨b0u, b1u, b2u, b3u, b4u, b5u, b6u, b7u, b8u, b9u, b10u, b11u⟩ := HC2.out u GU
  go_simp
  first | done | with_reducible rfl
 try simp only [Act.put, zA, zB, zC]
 refine zT (i := 22) (v := ?_) rfl ?_ hHeld ?_
 rotate_left 1
 ·intro u hSu
  have GU := grown_trans G.out hSu.out
  obtain ⟨x0u, x1u, x2u⟩ := (row3f (kept_row H.out.1 GU (by simp))).1
  obtain ⟨z0u, z1u, z2u⟩ := (row3f (kept_row H.out.2.1 GU (by simp))).1
  obtain ⟨a0u, a1u, a2u, a3u, a4u, a5u, a6u, a7u, a8u, a9u, a10u, a11u⟩ := HC1.out u GU
  obtain ⟨b0u, b1u, b2u, b3u, b4u, b5u, b6u, b7u, b8u, b9u, b10u, b11u⟩ := HC2.out u GU
  go_simp
  first | done | with_reducible rfl
 try simp only [Act.put, zA, zB, zC]
 refine zT (i := 23) (v := ?_) rfl ?_ hHeld ?_
 rotate_left 1
 ·intro u hSu
  have GU := grown_trans G.out hSu.out
  obtain ⟨x0u, x1u, x2u⟩ := (row3f (kept_row H.out.1 GU (by simp))).1
  obtain ⟨z0u, z1u, z2u⟩ := (row3f (kept_row H.out.2.1 GU (by simp))).1
  obtain ⟨a0u, a1u, a2u, a3u, a4u, a5u, a6u, a7u, a8u, a9u, a10u, a11u⟩ := HC1.out u GU
  obtain ⟨b0u, b1u, b2u, b3u, b4u, b5u, b6u, b7u, b8u, b9u, b10u, b11u⟩ := HC2.out u GU
  go_simp
  first | done | with_reducible rfl
 try simp only [Act.put, zA, zB, zC]
 refine zT (i := 24) (v := ?_) rfl ?_ hHeld ?_
 rotate_left 1
 ·intro u hSu
  have GU := grown_trans G.out hSu.out
  obtain ⟨x0u, x1u, x2u⟩ := (row3f (kept_row H.out.1 GU (by simp))).1
  obtain ⟨z0u, z1u, z2u⟩ := (row3f (kept_row H.out.2.1 GU (by simp))).1
  obtain ⟨a0u, a1u, a2u, a3u, a4u, a5u, a6u, a7u, a8u, a9u, a10u, a11u⟩ := HC1.out u GU
  obtain ⟨b0u, b1u, b2u, b3u, b4u, b5u, b6u, b7u, b8u, b9u, b10u, b11u⟩ := HC2.out u GU
  go_simp
  first | done | with_reducible rfl
 try simp only [Act.put, zA, zB, zC]
 refine zT (i := 25) (v := ?_) rfl ?_ hHeld ?_
 rotate_left 1
 ·intro u hSu
  have GU := grown_trans G.out hSu.out
  obtain ⟨x0u, x1u, x2u⟩ := (row3f (kept_row H.out.1 GU (by simp))).1
  obtain ⟨z0u, z1u, z2u⟩ := (row3f (kept_row H.out.2.1 GU (by simp))).1
  obtain ⟨a0u, a1u, a2u, a3u, a4u, a5u, a6u, a7u, a8u, a9u, a10u, a11u⟩ := HC1.out u GU
  obtain ⟨b0u, b1u, b2u, b3u, b4u, b5u, b6u, b7u, b8u, b9u, b10u, b11u⟩ := HC2.out u GU
  go_simp
  first | done | with_reducible rfl
 try simp only [Act.put, zA, zB, zC]
 refine wpAnyH_ready (rs := [26]) (by kernel_rfl) (by simp) ?_
 refine AllReadyH.cons (o := ⟨_, _, _, _, _, _⟩) rfl (fun Kz hK => ?_) AllReadyH.nil
 go_simp
 go_at_call 45
 refine (HSM.out _).mono ?_
 rintro e' wn ⟨rfl, hg⟩
 have HN := Lib.hid (grown_trans hHeld.out hg)
 clear hg
 simp only
 refine hK.out _ _ (HN) (fun hH2 => ?_)
 clear hK Kz hHeld
 have hHeld := hH2
 clear hH2
 try simp only [Act.put, zA, zB, zC]
 refine zT (i := 27) (v := ?_) rfl ?_ hHeld ?_
 rotate_left 1
 ·intro u hSu
  have GU := grown_trans G.out hSu.out
  obtain ⟨x0u, x1u, x2u⟩ := (row3f (kept_row H.out.1 GU (by simp))).1
  obtain ⟨z0u, z1u, z2u⟩ := (row3f (kept_row H.out.2.1 GU (by simp))).1
  obtain ⟨a0u, a1u, a2u, a3u, a4u, a5u, a6u, a7u, a8u, a9u, a10u, a11u⟩ := HC1.out u GU
  obtain ⟨b0u, b1u, b2u, b3u, b4u, b5u, b6u, b7u, b8u, b9u, b10u, b11u⟩ := HC2.out u GU
  go_simp
  first | done | with_reducible rfl
 try simp only [Act.put, zA, zB, zC]
 refine zT (i := 28) (v := ?_) rfl ?_ hHeld ?_
 rotate_left 1
 ·intro u hSu
  have GU := grown_trans G.out hSu.out
  obtain ⟨x0u, x1u, x2u⟩ := (row3f (kept_row H.out.1 GU (by simp))).1
  obtain ⟨z0u, z1u, z2u⟩ := (row3f (kept_row H.out.2.1 GU (by simp))).1
  obtain ⟨a0u, a1u, a2u, a3u, a4u, a5u, a6u, a7u, a8u, a9u, a10u, a11u⟩ := HC1.out u GU
  obtain ⟨b0u, b1u, b2u, b3u, b4u, b5u, b6u, b7u, b8u, b9u, b10u, b11u⟩ := HC2.out u GU
  go_simp
  first | done | with_reducible rfl
 try simp only [Act.put, zA, zB, zC]
 refine wpAnyH_done (by kernel_rfl) ?_ _
 have G8 := Lib.hid (grown_trans G.out hHeld.out)
 clear hHeld x0 x1 x2 z0 z1 z2 G
 go_wp2_with fail
 exact ⟨⟨i + 1, by omega, congrArg _ (by omega), G8⟩, by simp only [RowKit.intOf]; omega⟩
end Go.Proofs.YtpogblengagpaaaGreatDoor

/- forward: the reference's Do. -/
namespace Go.Proofs.YtpogblengagpaaaGreatDoor
set_option maxRecDepth 100000
open Go.RowKit Go.Maps Bs
theorem hop_fw {r s n : Int} {L : List Rw} {P : Pk} (h : ckT r s n L = 0) (j : Nat) : hopI L (atI P.set (j : Int) n) (planeV P).toNat = fwH n L P j := by
 unfold fwH hpF
 by_cases ha : atOk P.set (j : Int) n = true
 ·rw [if_pos ha]
 ·rw [if_neg ha]
  have e : atI P.set (j : Int) n = 0 := by unfold atI; rw [if_neg ha]
  rw [e]
  unfold hopI
  cases hf : fdW L 0 with
  | none => rfl
  | some x =>
   have hm := any_memT (ck_ok h).2.1 (List.mem_of_find?_eq_some hf)
   have hx := List.find?_some hf
   unfold wrW inV at hm
   simp only [Bool.or_eq_false_iff, Bool.not_eq_false', decide_eq_true_eq] at hm
   have hx2 : x.id = 0 := by unfold isW at hx; simpa using hx
   have := hm.1
   omega
theorem hop_pos2 {r s n : Int} {L : List Rw} {P : Pk} (h : ckT r s n L = 0) {j : Nat} (h0 : fwH n L P j ≠ 0) : 0 < fwH n L P j := by
 rw [← hop_fw h j] at h0 ⊢
 have := hop_pos h h0
 omega
theorem maskr_yes (P : Pk) (hP : P.Wf) (b : Nat) (hb : U64 b) (hm : mskP P b = (cyP P b, true)) (w : World) :
  Calls Tryz.prog 79 #[P.val, .int .u64 (b : Int)] w fun e w' => e = .returned (.tuple #[.agg #[.int .i64 P.mode, .int .i64 P.sub, .int .i64 P.set, .int .i64 P.len, .int .i64 (P.ttl - 1), .int .i64 P.ent, .int .i64 P.ing, .int .i64 P.pro, .int .u64 (b : Int), .string P.pay], .bool true]) ∧ w.grownBy w' none := by
 refine (maskr_any P hP b hb w).mono ?_
 rintro e w' ⟨rfl, h⟩
 rw [hm]
 exact ⟨rfl, h⟩
theorem maskr_no (P : Pk) (hP : P.Wf) (b : Nat) (hb : U64 b) (hm : mskP P b = (zP, false)) (w : World) :
  Calls Tryz.prog 79 #[P.val, .int .u64 (b : Int)] w fun e w' => e = .returned (.tuple #[.agg #[.int .i64 0, .int .i64 0, .int .i64 0, .int .i64 0, .int .i64 0, .int .i64 0, .int .i64 0, .int .i64 0, .int .u64 0, .string ⟨#[]⟩], .bool false]) ∧ w.grownBy w' none := by
 refine (maskr_any P hP b hb w).mono ?_
 rintro e w' ⟨rfl, h⟩
 rw [hm]
 exact ⟨rfl, h⟩
def DoPost (r s n : Int) (L : List Rw) (P : Pk) (w : World) (e : Ending) (w' : World) : Prop :=
 ∃ (loc lost : Nat) (cs : List (Int × Nat)) (p : Option Addr) (c : Nat), e = .returned (.agg #[.int .u64 (loc : Int), .int .u64 (lost : Int), .slice p cs.length c]) ∧ FwR r s n L P 0 loc lost cs ∧ w'.ownsRow w.heap.size 58 12 (.slice p cs.length c) cs.length (cs.flatMap (cyC P)) ∧ w.grownBy w' none
set_option maxHeartbeats 12800000 in
theorem rdo_any (r s n : Int) (p : Option Addr) (c : Nat) (L : List Rw) (P : Pk) (hP : P.Wf) (w : World) (hR : RdW w (· < w.heap.size) p c L) (hm : L.length ≤ 9223372036854775807) (hT : Tb w) (hE : fwE r s n L P = 0) :
  Calls Tryz.prog 44 #[.agg #[.int .i64 r, .int .i64 s, .int .i64 n, .slice p L.length c], P.val] w fun e w' => DoPost r s n L P w e w' := by
 have hval : P.val = .agg #[.int .i64 P.mode, .int .i64 P.sub, .int .i64 P.set, .int .i64 P.len, .int .i64 P.ttl, .int .i64 P.ent, .int .i64 P.ing, .int .i64 P.pro, .int .u64 (P.bits : Int), .string P.pay] := rfl
 rw [hval]
 obtain ⟨ie, hie, he0, he1, he2⟩ := info_parts info_cy
 have H0 := Lib.hid (f0_start (r := r) (s := s) (n := n) (P := P) hR hT)
 unfold pcells at H0
 have HT := Lib.hid hT
 have HE := Lib.hid hE
 obtain ⟨hck, hv, -, hsub, hlen⟩ := fwE_ok hE
 have HCK := Lib.hid (And.intro hck (And.intro hv (And.intro hsub hlen)))
 obtain ⟨kp, hkp⟩ := Int.eq_ofNat_of_zero_le (planeV_in P).1
 have hkp8 : kp < 8 := by have := (planeV_in P).2; omega
 have HKP := Lib.hid (And.intro hkp hkp8)
 obtain ⟨hl1, hl2⟩ := vpk_len hv
 have HN := Lib.hid (show n = ((P.len.toNat : Nat) : Int) ∧ P.len.toNat ≤ 64 from ⟨by omega, hl2⟩)
 clear hR hT hE hck hv hsub hlen hkp hkp8 hval hl1 hl2
 go_enter Tryz.func44, Tryz.ntmps44
 go_upto_region 1 with fail
 generalize ((w.alloc _).alloc _).alloc _ = w1 at *
 obtain ⟨k1, k2⟩ := tone_box w1 #[.int .u64 0, .int .u64 0, .slice none 0 0] 38
 have HZ := Lib.hid (And.intro (H0.out.keep k2) (And.intro k1 (And.intro (show w.heap.size + 1 + 1 < w1.heap.size from (Array.getElem?_eq_some_iff.1 H0.out.rb).1) (show (w1.alloc (.cells #[.int .u64 0, .int .u64 0, .slice none 0 0] 38)).heap.size = w1.heap.size + 1 by simp))))
 clear k1 k2 H0
 go_upto_region 2 with fail
 generalize w1.alloc _ = w8 at *
 generalize w1.heap.size = Z at *
 have K0 : Hid (FL w r s n p c L P Z w8.heap.size none 0 [] 0 0 none 0 [] w8) := Lib.hid (by
  have h := HZ.out
  exact ⟨h.1.fb, h.1.rb, h.2.1, ⟨none, 0, rfl, fun e => absurd rfl e⟩, World.ownsRow_nil _ _ _ _, ⟨h.2.2.1, by omega, Nat.le_refl _⟩, h.1.tb⟩)
 obtain ⟨b0, b1, b2', b3, b4, b5, b6, b7, b8, b9⟩ := p_facts K0.out.fb.pb
 have HMS := Lib.hid (fw_ms HE.out)
 have HR0 : Hid (r ≠ 0) := Lib.hid (by have := ck_rtF HCK.out.1; omega)
 have HPB := Lib.hid hP.bits
 clear HZ
 generalize w8.heap.size = C at *
 go_upto_region 3 with fail
 clear b0 b1 b2' b3 b4 b5 b6 b7 b8 b9
 go_wp2_with fail
 go_loopw [6] (fun u wr => ∃ (left loc lost : Nat) (cs : List (Int × Nat)) (pc : Option Addr) (cc : Nat), u = .int .u64 (left : Int) ∧ Hid (FwW n r L P left loc lost cs) ∧ Hid (FL w r s n p c L P Z C none 0 [] loc lost pc cc cs wr)) (fun u _ => (RowKit.intOf u).toNat)
 case atStart => exact ⟨P.bits, 0, 0, [], none, 0, rfl, Lib.hid (fwI_start hP.bits), K0⟩
 case round =>
 clear K0
 obtain ⟨left, loc, lost, cs, pc, cc, rfl, I, K⟩ := hrel
 obtain ⟨w9, hw9⟩ : ∃ w9, w9 = wr := ⟨_, rfl⟩
 rw [← hw9] at K ⊢
 clear hw9
 by_cases hz : left = 0
 case pos =>
  subst hz
  obtain ⟨⟨o0, o1, o2⟩, -⟩ := row3f K.out.ob
  obtain ⟨⟨z0, z1, z2⟩, f0, f1, f2⟩ := row3f K.out.rb
  go_wp2_with fail
  refine bodyPost_ret (res_outcome rfl _ _ (w.heap.size + 1 + 1) _ rfl rfl (ob_put _ _ _ K.out.rb)) rfl ?_
  have jr := ob_grown w9 (w.heap.size + 1 + 1) (.int .u64 (loc : Int)) (.int .u64 (lost : Int)) (.slice pc cs.length cc)
  have hlo := K.out.lo
  exact ⟨loc, lost, cs, pc, cc, rfl, ⟨HE.out.symm, fun _ => I.out.fin, fun e => absurd rfl e, I.out.hu.2⟩, (K.out.own.kept jr (Or.inr (fun e => by have := (K.out.own.lt _ e).1; omega))).mono (by omega), grown_new K.out.fb.gr jr (by omega)⟩
 have hz' : ((left : Int) != 0) = true := by simpa using hz
 have hlu := I.out.hu.1
 obtain ⟨j, hj⟩ : ∃ j, Lib.ctz 64 left = j := ⟨_, rfl⟩
 have HJ : Hid (Lst left j) := Lib.hid (by rw [← hj]; exact lst_ctz hlu hz)
 have HJ64 := Lib.hid (u64_bit hlu HJ.out.on)
 have HFP : Hid (∀ wx : World, Calls Tryz.prog 76 #[.int .u64 (left : Int)] wx fun e w' => e = .returned (.int .i64 (j : Int)) ∧ wx.grownBy w' none) := Lib.hid (fun wx => by
  rw [← hj]
  have := firstr_any left hlu wx
  unfold fst at this
  rwa [if_neg hz] at this)
 clear hj hz
 go_wp2_with fail
 refine (HFP.out w9).mono ?_
 rintro e wx ⟨rfl, hg⟩
 replace K := Lib.hid (K.out.keep hg)
 clear hg hz'
 obtain ⟨b0, b1, b2', b3, b4, b5, b6, b7, b8, b9⟩ := p_facts K.out.fb.pb
 go_wp2_with fail
 refine (irat_any P.set (j : Int) P.len wx).mono ?_
 rintro e w10 ⟨rfl, hg⟩
 replace K := Lib.hid (K.out.keep hg)
 clear hg b0 b1 b2' b3 b4 b5 b6 b7 b8 b9
 have HRH := Lib.hid (show ∀ wq : World, RdW wq (· < wq.heap.size) p c L → Calls Tryz.prog 78 #[.agg #[.int .i64 r, .int .i64 s, .int .i64 n, .slice p L.length c], .int .i64 (atI P.set (j : Int) P.len), .int .i64 (planeV P)] wq fun e w' => e = .returned (.int .i64 (fwH n L P j)) ∧ wq.grownBy w' none from fun wq hq => by
  have h := rhop_any r s n p c L (atI P.set (j : Int) P.len) kp HKP.out.2 wq hq hm
  rw [← hop_fw HCK.out.1 j, HKP.out.1, Int.toNat_natCast, ← HCK.out.2.2.2]
  rw [← HCK.out.2.2.2] at h
  exact h)
 go_upto_region 6 with fail
 generalize atI P.set (j : Int) P.len = id at *
 generalize atOk P.set (j : Int) P.len = idok at *
 refine wp_region_held_drew (S := fun w' => Hid (w10.grownBy w' none)) (by kernel_rfl) (Lib.hid (grown_drew (grown_refl _ none))) (fun hHeld => ?_)
 refine zT (i := 0) (v := ?_) rfl ?_ hHeld ?_
 rotate_left 1
 ·intro u hSu
  obtain ⟨a0u, a1u, a2u, a3u, a4u, a5u, a6u, a7u, a8u, a9u⟩ := p_facts (K.out.keep hSu.out).fb.pb
  obtain ⟨d0u, d1u, d2u, d3u⟩ := row4T (K.out.keep hSu.out).fb.bx
  go_simp
  first | done | with_reducible rfl
 try simp only [Act.put, zA, zB, zC]
 refine zT (i := 1) (v := ?_) rfl ?_ hHeld ?_
 rotate_left 1
 ·intro u hSu
  go_simp
  first | done | with_reducible rfl
 try simp only [Act.put, zA, zB, zC]
 refine zT (i := 2) (v := ?_) rfl ?_ hHeld ?_
 rotate_left 1
 ·intro u hSu
  obtain ⟨a0u, a1u, a2u, a3u, a4u, a5u, a6u, a7u, a8u, a9u⟩ := p_facts (K.out.keep hSu.out).fb.pb
  obtain ⟨d0u, d1u, d2u, d3u⟩ := row4T (K.out.keep hSu.out).fb.bx
  go_simp
  first | done | with_reducible rfl
 try simp only [Act.put, zA, zB, zC]
 refine wpAnyH_ready (rs := [3]) (by kernel_rfl) (by simp) ?_
 refine AllReadyH.cons (o := ⟨_, _, _, _, _, _⟩) rfl (fun Kz hK => ?_) AllReadyH.nil
 go_simp
 go_at_call 21
 refine (rplane_any P hP _).mono ?_
 rintro e' wn ⟨rfl, hg⟩
 have HNN := Lib.hid (grown_trans hHeld.out hg)
 clear hg
 simp only
 refine hK.out _ _ (HNN) (fun hH2 => ?_)
 clear hK Kz hHeld
 have hHeld := hH2
 clear hH2
 try simp only [Act.put, zA, zB, zC]
 refine wpAnyH_ready (rs := [4]) (by kernel_rfl) (by simp) ?_
 refine AllReadyH.cons (o := ⟨_, _, _, _, _, _⟩) rfl (fun Kz hK => ?_) AllReadyH.nil
 go_simp
 go_at_call 78
 refine (HRH.out _ (K.out.keep hHeld.out).fb.all).mono ?_
 rintro e' wm ⟨rfl, hg⟩
 have HNN := Lib.hid (grown_trans hHeld.out hg)
 clear hg
 simp only
 refine hK.out _ _ (HNN) (fun hH2 => ?_)
 clear hK Kz hHeld
 have hHeld := hH2
 clear hH2
 try simp only [Act.put, zA, zB, zC]
 refine zT (i := 5) (v := ?_) rfl ?_ hHeld ?_
 rotate_left 1
 ·intro u hSu
  go_simp
  first | done | with_reducible rfl
 try simp only [Act.put, zA, zB, zC]
 refine wpAnyH_done (by kernel_rfl) ?_ _
 replace K := Lib.hid (K.out.keep hHeld.out)
 clear hHeld
 obtain ⟨hh, hhh⟩ : ∃ hh : Int, fwH n L P j = hh := ⟨_, rfl⟩
 rw [hhh]
 have HHH := Lib.hid hhh
 clear hhh
 go_wp2_with fail
 refine (bit_any j HJ64.out _).mono ?_
 rintro e w11 ⟨rfl, rfl⟩
 have hlu := I.out.hu.1
 by_cases h0 : hh = 0
 case pos =>
  have h0' : (hh == 0) = true := by simpa using h0
  have I2 := Lib.hid (I.out.oneLost HPB.out HR0.out HJ.out (HHH.out.trans h0))
  have hor := orU lost (b2 j) I.out.hu.2.2 (b2_u64 HJ64.out)
  have hnt : bits .andNot .u64 (left : Int) ((b2 j : Nat) : Int) = ((ntB left (b2 j) : Nat) : Int) := andNotU left (b2 j) I.out.hu.1 (b2_u64 HJ64.out)
  have hlt3 := ntB_lt I.out.hu.1 (b2_u64 HJ64.out) HJ.out.on (show (b2 j).testBit j = true from Nat.testBit_two_pow_self)
  obtain ⟨⟨o0, o1, o2⟩, f0, f1, f2⟩ := row3f K.out.ob
  have hob := heap_setCell_same wm Z 1 _ _ (.int .u64 ((lost ||| b2 j : Nat) : Int)) K.out.ob
  have jr := grown_setCell wm ⟨Z, 1, none⟩ (.int .u64 ((lost ||| b2 j : Nat) : Int))
  have K2 := Lib.hid (K.out.over HT.out (w1 := wm) (grown_refl _ _) K.out.own jr hob)
  clear hob jr h0
  go_wp2_with fail
  exact ⟨⟨ntB left (b2 j), loc, lost ||| b2 j, cs, pc, cc, rfl, I2, K2⟩, by simp only [RowKit.intOf]; omega⟩
 have h0' : (hh == 0) = false := by simpa using h0
 by_cases hr : hh = r
 case pos =>
  have hr' : (hh == r) = true := by simpa using hr
  have I2 := Lib.hid (I.out.oneLoc HPB.out HR0.out HJ.out (HHH.out.trans hr))
  have hor := orU loc (b2 j) I.out.hu.2.1 (b2_u64 HJ64.out)
  have hnt : bits .andNot .u64 (left : Int) ((b2 j : Nat) : Int) = ((ntB left (b2 j) : Nat) : Int) := andNotU left (b2 j) I.out.hu.1 (b2_u64 HJ64.out)
  have hlt3 := ntB_lt I.out.hu.1 (b2_u64 HJ64.out) HJ.out.on (show (b2 j).testBit j = true from Nat.testBit_two_pow_self)
  obtain ⟨⟨o0, o1, o2⟩, f0, f1, f2⟩ := row3f K.out.ob
  obtain ⟨d0, d1, d2, d3⟩ := row4T K.out.fb.bx
  have hob := heap_setCell_same wm Z 0 _ _ (.int .u64 ((loc ||| b2 j : Nat) : Int)) K.out.ob
  have jr := grown_setCell wm ⟨Z, 0, none⟩ (.int .u64 ((loc ||| b2 j : Nat) : Int))
  have K2 := Lib.hid (K.out.over HT.out (w1 := wm) (grown_refl _ _) K.out.own jr hob)
  clear hob jr h0 hr
  go_wp2_with fail
  exact ⟨⟨ntB left (b2 j), loc ||| b2 j, lost, cs, pc, cc, rfl, I2, K2⟩, by simp only [RowKit.intOf]; omega⟩
 have hr' : (hh == r) = false := by simpa using hr
 have HHR := Lib.hid (And.intro (show fwH n L P j ≠ 0 by rw [HHH.out]; exact h0) (And.intro (show fwH n L P j ≠ r by rw [HHH.out]; exact hr) (And.intro h0 hr)))
 obtain ⟨M, hM⟩ : ∃ M, fwM n L P hh = M := ⟨_, rfl⟩
 have HM := Lib.hid hM
 have hMu : U64 M := by rw [← hM]; exact (HMS.out hh h0).1
 have hMb : M.testBit j = true := by rw [← hM]; exact ((HMS.out hh h0).2 j).2 ⟨HHH.out, HJ64.out⟩
 have HRB := Lib.hid (show ∀ wq : World, RdW wq (· < wq.heap.size) p c L → Calls Tryz.prog 55 #[.agg #[.int .i64 r, .int .i64 s, .int .i64 n, .slice p L.length c], .int .i64 (planeV P), .int .i64 P.set, .int .i64 hh] wq fun e w' => e = .returned (.int .u64 (M : Int)) ∧ wq.grownBy w' none from fun wq hq => by
  have h := rbits_any r s P.len.toNat HN.out.2 p c L kp HKP.out.2 P.set hh wq hq hm
  rw [← HN.out.1, mask_eq HCK.out.1 HN.out.1 (by rw [← HHH.out]; exact hop_pos2 HCK.out.1 HHR.out.1)] at h
  rw [← hM, HKP.out.1]
  unfold fwM
  rw [HKP.out.1, Int.toNat_natCast]
  exact h)
 obtain ⟨mm, hmm⟩ : ∃ mm, left &&& M = mm := ⟨_, rfl⟩
 have hmu : U64 mm := by rw [← hmm]; exact u64_andl _ _ hlu
 have hand := andU left M hlu hMu
 rw [hmm] at hand
 have hmb : mm.testBit j = true := by rw [← hmm, Nat.testBit_and, hMb, HJ.out.on]; rfl
 have hpm : P.bits &&& mm = mm := Nat.eq_of_testBit_eq fun i => by
  rw [Nat.testBit_and]
  cases hb : mm.testBit i with
  | false => simp
  | true =>
   rw [← hmm, Nat.testBit_and] at hb
   simp only [Bool.and_eq_true] at hb
   rw [I.out.sub i hb.1]
   rfl
 have hm0 : mm ≠ 0 := fun e => by rw [e, Nat.zero_testBit] at hmb; cases hmb
 have hntM : ntB left mm = ntB left M := by rw [← hmm]; exact ntB_and hlu hMu
 have hnt : bits .andNot .u64 (left : Int) (mm : Int) = ((ntB left M : Nat) : Int) := by rw [← hntM]; exact andNotU left mm hlu hmu
 have hlt3 := ntB_lt hlu hMu HJ.out.on hMb
 have HNT := Lib.hid (And.intro hnt hlt3)
 have HMM := Lib.hid (And.intro hmm (And.intro hmu (And.intro hpm hm0)))
 have HAND := Lib.hid hand
 clear hM hMu hMb hmm hmu hand hmb hpm hm0 hntM hnt hlt3 h0 hr
 obtain ⟨d0, d1, d2, d3⟩ := row4T K.out.fb.bx
 obtain ⟨wk, hwk⟩ : ∃ wk, wk = wm := ⟨_, rfl⟩
 rw [← hwk] at K d0 d1 d2 d3 ⊢
 clear hwk
 go_upto_region 8 with fail
 refine wp_region_held_drew (S := fun w' => Hid (wk.grownBy w' none)) (by kernel_rfl) (Lib.hid (grown_drew (grown_refl _ none))) (fun hHeld => ?_)
 refine zT (i := 0) (v := ?_) rfl ?_ hHeld ?_
 rotate_left 1
 ·intro u hSu
  go_simp
  first | done | with_reducible rfl
 try simp only [Act.put, zA, zB, zC]
 refine zT (i := 1) (v := ?_) rfl ?_ hHeld ?_
 rotate_left 1
 ·intro u hSu
  obtain ⟨a0u, a1u, a2u, a3u, a4u, a5u, a6u, a7u, a8u, a9u⟩ := p_facts (K.out.keep hSu.out).fb.pb
  obtain ⟨d0u, d1u, d2u, d3u⟩ := row4T (K.out.keep hSu.out).fb.bx
  go_simp
  first | done | with_reducible rfl
 try simp only [Act.put, zA, zB, zC]
 refine zT (i := 2) (v := ?_) rfl ?_ hHeld ?_
 rotate_left 1
 ·intro u hSu
  obtain ⟨a0u, a1u, a2u, a3u, a4u, a5u, a6u, a7u, a8u, a9u⟩ := p_facts (K.out.keep hSu.out).fb.pb
  obtain ⟨d0u, d1u, d2u, d3u⟩ := row4T (K.out.keep hSu.out).fb.bx
  go_simp
  first | done | with_reducible rfl
 try simp only [Act.put, zA, zB, zC]
 refine zT (i := 4) (v := ?_) rfl ?_ hHeld ?_
 rotate_left 1
 ·intro u hSu
  go_simp
  first | done | with_reducible rfl
 try simp only [Act.put, zA, zB, zC]
 refine zT (i := 5) (v := ?_) rfl ?_ hHeld ?_
 rotate_left 1
 ·intro u hSu
  obtain ⟨a0u, a1u, a2u, a3u, a4u, a5u, a6u, a7u, a8u, a9u⟩ := p_facts (K.out.keep hSu.out).fb.pb
  obtain ⟨d0u, d1u, d2u, d3u⟩ := row4T (K.out.keep hSu.out).fb.bx
  go_simp
  first | done | with_reducible rfl
 try simp only [Act.put, zA, zB, zC]
 refine zT (i := 6) (v := ?_) rfl ?_ hHeld ?_
 rotate_left 1
 ·intro u hSu
  go_simp
  first | done | with_reducible rfl
 try simp only [Act.put, zA, zB, zC]
 refine wpAnyH_ready (rs := [3]) (by kernel_rfl) (by simp) ?_
 refine AllReadyH.cons (o := ⟨_, _, _, _, _, _⟩) rfl (fun Kz hK => ?_) AllReadyH.nil
 go_simp
 go_at_call 21
 refine (rplane_any P hP _).mono ?_
 rintro e' wu ⟨rfl, hg⟩
 have HNN := Lib.hid (grown_trans hHeld.out hg)
 clear hg
 simp only
 refine hK.out _ _ (HNN) (fun hH2 => ?_)
 clear hK Kz hHeld
 have hHeld := hH2
 clear hH2
 try simp only [Act.put, zA, zB, zC]
 refine wpAnyH_ready (rs := [7]) (by kernel_rfl) (by simp) ?_
 refine AllReadyH.cons (o := ⟨_, _, _, _, _, _⟩) rfl (fun Kz hK => ?_) AllReadyH.nil
 go_simp
 go_at_call 55
 refine (HRB.out _ (K.out.keep hHeld.out).fb.all).mono ?_
 rintro e' wv ⟨rfl, hg⟩
 have HNN := Lib.hid (grown_trans hHeld.out hg)
 clear hg
 simp only
 refine hK.out _ _ (HNN) (fun hH2 => ?_)
 clear hK Kz hHeld
 have hHeld := hH2
 clear hH2
 try simp only [Act.put, zA, zB, zC]
 refine zT (i := 8) (v := .int .u64 (mm : Int)) rfl ?_ hHeld ?_
 ·intro u hSu
  obtain ⟨a0u, a1u, a2u, a3u, a4u, a5u, a6u, a7u, a8u, a9u⟩ := p_facts (K.out.keep hSu.out).fb.pb
  obtain ⟨d0u, d1u, d2u, d3u⟩ := row4T (K.out.keep hSu.out).fb.bx
  have hand := HAND.out
  go_simp
  first | done | exact hand | simp_all
 try simp only [Act.put, zA, zB, zC]
 refine zT (i := 9) (v := ?_) rfl ?_ hHeld ?_
 rotate_left 1
 ·intro u hSu
  go_simp
  first | done | with_reducible rfl
 try simp only [Act.put, zA, zB, zC]
 refine wpAnyH_done (by kernel_rfl) ?_ _
 replace K := Lib.hid (K.out.keep hHeld.out)
 clear hHeld d0 d1 d2 d3 h0' hr'
 have hnt := HNT.out.1
 have hlt3 := HNT.out.2
 obtain ⟨b0, b1, b2', b3, b4, b5, b6, b7, b8, b9⟩ := p_facts K.out.fb.pb
 by_cases ht : P.ttl = 0
 case pos =>
  have hmz : mskP P mm = (zP, false) := by unfold mskP; rw [if_neg (fun h => h.2.1 ht)]
  have I2 : Hid (FwW n r L P (ntB left M) loc (lost ||| mm) cs) := Lib.hid (by
   have I3 := I.out
   unfold FwW at I3 ⊢
   rw [decide_eq_true ht] at I3 ⊢
   have := I3.allLost HMS.out HPB.out HHR.out.2.2.1 HHR.out.2.2.2
   rw [HM.out, HMM.out.1] at this
   exact this)
  have C1 := maskr_no P hP mm HMM.out.2.1 hmz
  have hor := orU lost mm I.out.hu.2.2 HMM.out.2.1
  clear ht hmz
  go_wp2_with fail
  refine (C1 wv).mono ?_
  rintro e w12 ⟨rfl, hg⟩
  clear C1
  obtain ⟨k1, k2⟩ := tone_box w12 #[.int .i64 0, .int .i64 0, .int .i64 0, .int .i64 0, .int .i64 0, .int .i64 0, .int .i64 0, .int .i64 0, .int .u64 0, .string ⟨#[]⟩] 28
  replace K := Lib.hid (K.out.keep (grown_trans hg k2))
  have K13 := K
  clear hg k1 k2 b0 b1 b2' b3 b4 b5 b6 b7 b8 b9
  go_upto_region 10 with fail
  generalize w12.alloc _ = w13 at *
  obtain ⟨⟨o0, o1, o2⟩, f0, f1, f2⟩ := row3f K.out.ob
  have hob := heap_setCell_same w13 Z 1 _ _ (.int .u64 ((lost ||| mm : Nat) : Int)) K.out.ob
  have jr := grown_setCell w13 ⟨Z, 1, none⟩ (.int .u64 ((lost ||| mm : Nat) : Int))
  have K2 := Lib.hid (K.out.over HT.out (w1 := w13) (grown_refl _ _) K.out.own jr hob)
  clear hob jr
  go_wp2_with fail
  exact ⟨⟨ntB left M, loc, lost ||| mm, cs, pc, cc, rfl, I2, K2⟩, by simp only [RowKit.intOf]; omega⟩
 have hmz : mskP P mm = (cyP P mm, true) := by
  unfold mskP cyP
  rw [if_pos ⟨HCK.out.2.1, ht, by rw [HMM.out.2.2.1]; exact HMM.out.2.2.2⟩, HMM.out.2.2.1]
 obtain ⟨cs2, hcs2⟩ : ∃ cs2, cs ++ [(hh, mm)] = cs2 := ⟨_, rfl⟩
 have I2 : Hid (FwW n r L P (ntB left M) loc lost cs2) := Lib.hid (by
  have I3 := I.out
  unfold FwW at I3 ⊢
  rw [decide_eq_false ht] at I3 ⊢
  have := I3.copy HMS.out HPB.out HJ.out HHR.out.1 HHR.out.2.1
  rw [HHH.out, HM.out, HMM.out.1, hcs2] at this
  exact this)
 have hcl := I.out.len HMS.out HPB.out
 have C1 := maskr_yes P hP mm HMM.out.2.1 hmz
 have HCS2 := Lib.hid hcs2
 clear ht hmz hcs2
 go_wp2_with fail
 refine (C1 wv).mono ?_
 rintro e w12 ⟨rfl, hg⟩
 clear C1
 obtain ⟨k1, k2⟩ := tone_box w12 (pcells (cyP P mm)) 28
 have HNB := Lib.hid (And.intro k1 k2)
 unfold pcells cyP at HNB
 replace K := Lib.hid (K.out.keep hg)
 clear hg k1 k2 b0 b1 b2' b3 b4 b5 b6 b7 b8 b9
 go_upto_region 10 with fail
 generalize w12.alloc _ = w13 at *
 replace K := Lib.hid (K.out.keep HNB.out.2)
 have HQX : Hid (w13.heap[w12.heap.size]? = some (.cells (pcells (cyP P mm)) 28 (0, 0))) := Lib.hid HNB.out.1
 obtain ⟨a0, a1, a2, a3, a4, a5, a6, a7, a8, a9⟩ := p_facts HQX.out
 simp only [cyP] at a0 a1 a2 a3 a4 a5 a6 a7 a8 a9
 clear HNB HQX
 obtain ⟨⟨o0, o1, o2⟩, f0, f1, f2⟩ := row3f K.out.ob
 have hsz : C ≤ w13.heap.size := K.out.lo.2.2
 have HNT2 := HNT
 go_wp2_with (at_builtin; refine hold_on ?_)
 refine wpList_append_lies _ rfl _ _ 36 rfl C 58 ie (.agg #[.int .i64 0, .slice none 0 0, .int .i64 0, .int .i64 0, .int .i64 0, .int .i64 0, .int .i64 0, .int .i64 0, .int .i64 0, .int .i64 0, .int .u64 0, .string ⟨#[]⟩]) 12 120 Tryz.underlying36 hie he0 he1 he2 rfl (by decide) (.slice pc cs.length cc) cs.length (cs.flatMap (cyC P)) rfl (K.out.own.alloc _) ⟨w13.heap.size, 0, none⟩ 1 1 (cyC P (hh, mm)) rfl rfl (cy_row w13 P (hh, mm) _) (cy_one P (hh, mm)) (by decide) (by unfold maxLen; omega) (by omega) (by simp; omega) _ rfl ?_
 intro g cap w14 hown hgrow hat hlt8
 have ga : w13.grownBy w14 (Value.slice pc cs.length cc).ownBlock := grown_trans (grown_none (World.grownBy_alloc w13 _ none) _) hgrow
 have hl2 : cs2.length = cs.length + 1 := by rw [← HCS2.out, List.length_append]; rfl
 have hob := kept_row K.out.ob ga (fun e => by have := (K.out.own.lt _ e.symm).1; have := K.out.lo.2.1; omega)
 have KP : Hid (∀ w15, w14.setCell ⟨Z, 2, none⟩ (.slice (some ⟨g, 0, none⟩) (cs.length + 1) cap) = w15 → FL w r s n p c L P Z C none 0 [] loc lost (some ⟨g, 0, none⟩) cap cs2 w15) := Lib.hid (fun w15 e => by
  subst e
  exact K.out.over HT.out (w1 := w14) ga (by rw [hl2, ← HCS2.out, List.flatMap_append]; simpa using hown) (grown_setCell w14 ⟨Z, 2, none⟩ _) (by rw [hl2]; exact heap_setCell_same w14 Z 2 _ _ _ hob))
 clear ga hown hgrow hat hlt8 hl2 o0 o1 o2 f0 f1 f2 a0 a1 a2 a3 a4 a5 a6 a7 a8 a9 hsz K
 obtain ⟨⟨o0, o1, o2⟩, f0, f1, f2⟩ := row3f hob
 clear hob
 go_wp2_with fail
 exact ⟨⟨ntB left M, loc, lost, cs2, some ⟨g, 0, none⟩, cap, rfl, I2, Lib.hid (KP.out _ rfl)⟩, by simp only [RowKit.intOf]; omega⟩
end Go.Proofs.YtpogblengagpaaaGreatDoor

/- forward: the reference's Packet. -/
namespace Go.Proofs.YtpogblengagpaaaGreatDoor
set_option maxRecDepth 100000
open Go.RowKit Go.Maps Bs
set_option maxHeartbeats 6400000 in
theorem rpk_any (r s n : Int) (p : Option Addr) (c : Nat) (L : List Rw) (P : Pk) (hP : P.Wf) (w : World) (hR : RdW w (· < w.heap.size) p c L) (hm : L.length ≤ 9223372036854775807) (hT : Tb w) :
  Calls Tryz.prog 12 #[.agg #[.int .i64 r, .int .i64 s, .int .i64 n, .slice p L.length c], P.val] w fun e w' => FwPost r s n L P w e w' := by
 have hval : P.val = .agg #[.int .i64 P.mode, .int .i64 P.sub, .int .i64 P.set, .int .i64 P.len, .int .i64 P.ttl, .int .i64 P.ent, .int .i64 P.ing, .int .i64 P.pro, .int .u64 (P.bits : Int), .string P.pay] := rfl
 rw [hval]
 have H0 := Lib.hid (f0_start (r := r) (s := s) (n := n) (P := P) hR hT)
 unfold pcells at H0
 clear hR hT
 go_enter Tryz.func12, Tryz.ntmps12
 go_upto_region 1 with fail
 generalize ((w.alloc _).alloc _).alloc _ = wa at *
 obtain ⟨d0, d1, d2, d3⟩ := row4T H0.out.fb.bx
 go_wp2_with fail
 refine (rck11_any r s n p c L wa H0.out.fb.all hm).mono ?_
 rintro e w1 ⟨rfl, hg⟩
 have K := Lib.hid (H0.out.keep hg)
 clear hg H0 d0 d1 d2 d3
 by_cases hck : ckT r s n L = 0
 case neg =>
  have hck' : (ckT r s n L != 0) = true := by simpa using hck
  have HZ : Hid (fwE r s n L P = 1) := Lib.hid (fwE_1 hck)
  clear hck hval
  obtain ⟨⟨z0, z1, z2⟩, f0, f1, f2⟩ := row3f K.out.rb
  go_wp2_with fail
  first | rw [Exit.noGoto_ret] | skip
  refine bodyPost_ret (res_outcome_err rfl _ _ (w.heap.size + 1 + 1) _ rfl rfl (ob_put _ _ _ K.out.rb)) rfl ?_
  exact ⟨1, 0, 0, [], none, 0, rfl, ⟨HZ.out.symm, fun e => absurd e (by decide), fun _ => ⟨rfl, rfl, rfl⟩, u64_zero, u64_zero⟩, World.ownsRow_nil _ _ _ _, grown_new K.out.fb.gr (ob_grown _ _ _ _ _) (by omega)⟩
 have HCK := Lib.hid hck
 have hck' : (ckT r s n L != 0) = false := by simpa using hck
 clear hck
 obtain ⟨a0, a1, a2, a3, a4, a5, a6, a7, a8, a9⟩ := p_facts K.out.fb.pb
 go_wp2_with fail
 rw [← hval]
 refine (rvalid_any P hP _).mono ?_
 rintro e w2 ⟨rfl, hg⟩
 have K2 := Lib.hid (K.out.keep hg)
 clear hg K a0 a1 a2 a3 a4 a5 a6 a7 a8 a9 hck' hval
 obtain ⟨⟨z0, z1, z2⟩, f0, f1, f2⟩ := row3f K2.out.rb
 cases hv : vpk P with
 | false =>
  have HZ : Hid (fwE r s n L P = 1) := Lib.hid (fwE_2 hv)
  clear hv
  go_wp2_with fail
  first | rw [Exit.noGoto_ret] | skip
  refine bodyPost_ret (res_outcome_err rfl _ _ (w.heap.size + 1 + 1) _ rfl rfl (ob_put _ _ _ K2.out.rb)) rfl ?_
  exact ⟨1, 0, 0, [], none, 0, rfl, ⟨HZ.out.symm, fun e => absurd e (by decide), fun _ => ⟨rfl, rfl, rfl⟩, u64_zero, u64_zero⟩, World.ownsRow_nil _ _ _ _, grown_new K2.out.fb.gr (ob_grown _ _ _ _ _) (by omega)⟩
 | true =>
 have HV := Lib.hid hv
 clear hv
 obtain ⟨a0, a1, a2, a3, a4, a5, a6, a7, a8, a9⟩ := p_facts K2.out.fb.pb
 obtain ⟨d0, d1, d2, d3⟩ := row4T K2.out.fb.bx
 by_cases h7 : P.mode = 2
 ·have HZ : Hid (fwE r s n L P = 7) := Lib.hid (fwE_7 HCK.out HV.out h7)
  have h7' : (P.mode == 2) = true := by simpa using h7
  clear h7
  go_wp2_with fail
  first | rw [Exit.noGoto_ret] | skip
  refine bodyPost_ret (res_outcome_err rfl _ _ (w.heap.size + 1 + 1) _ rfl rfl (ob_put _ _ _ K2.out.rb)) rfl ?_
  exact ⟨7, 0, 0, [], none, 0, rfl, ⟨HZ.out.symm, fun e => absurd e (by decide), fun _ => ⟨rfl, rfl, rfl⟩, u64_zero, u64_zero⟩, World.ownsRow_nil _ _ _ _, grown_new K2.out.fb.gr (ob_grown _ _ _ _ _) (by omega)⟩
 have H7 := Lib.hid h7
 have h7' : (P.mode == 2) = false := by simpa using h7
 clear h7
 by_cases h8 : P.sub = s
 case neg =>
  have HZ : Hid (fwE r s n L P = 8) := Lib.hid (fwE_8 HCK.out HV.out H7.out (Or.inl h8))
  have h8' : (P.sub != s) = true := by simpa using h8
  clear h8
  go_wp2_with fail
  first | rw [Exit.noGoto_ret] | skip
  refine bodyPost_ret (res_outcome_err rfl _ _ (w.heap.size + 1 + 1) _ rfl rfl (ob_put _ _ _ K2.out.rb)) rfl ?_
  exact ⟨8, 0, 0, [], none, 0, rfl, ⟨HZ.out.symm, fun e => absurd e (by decide), fun _ => ⟨rfl, rfl, rfl⟩, u64_zero, u64_zero⟩, World.ownsRow_nil _ _ _ _, grown_new K2.out.fb.gr (ob_grown _ _ _ _ _) (by omega)⟩
 have H8 := Lib.hid h8
 have h8' : (P.sub != s) = false := by simpa using h8
 clear h8
 by_cases h9 : P.len = n
 case neg =>
  have HZ : Hid (fwE r s n L P = 8) := Lib.hid (fwE_8 HCK.out HV.out H7.out (Or.inr h9))
  have h9' : (P.len != n) = true := by simpa using h9
  clear h9
  go_wp2_with fail
  first | rw [Exit.noGoto_ret] | skip
  refine bodyPost_ret (res_outcome_err rfl _ _ (w.heap.size + 1 + 1) _ rfl rfl (ob_put _ _ _ K2.out.rb)) rfl ?_
  exact ⟨8, 0, 0, [], none, 0, rfl, ⟨HZ.out.symm, fun e => absurd e (by decide), fun _ => ⟨rfl, rfl, rfl⟩, u64_zero, u64_zero⟩, World.ownsRow_nil _ _ _ _, grown_new K2.out.fb.gr (ob_grown _ _ _ _ _) (by omega)⟩
 have HZ : Hid (fwE r s n L P = 0) := Lib.hid (fwE_0 HCK.out HV.out H7.out H8.out h9)
 have h9' : (P.len != n) = false := by simpa using h9
 clear h9
 go_wp2_with fail
 have hval : P.val = .agg #[.int .i64 P.mode, .int .i64 P.sub, .int .i64 P.set, .int .i64 P.len, .int .i64 P.ttl, .int .i64 P.ent, .int .i64 P.ing, .int .i64 P.pro, .int .u64 (P.bits : Int), .string P.pay] := rfl
 rw [← hval]
 refine (rdo_any r s n p c L P hP w2 K2.out.fb.all hm K2.out.tb HZ.out).mono ?_
 rintro e w3 ⟨loc, lost, cs, pc, cc, rfl, hr, hown, hg⟩
 have hr2 := Lib.hid (And.intro hr hown)
 have K3 := Lib.hid (K2.out.keep hg)
 have hsz := Lib.hid (show w.heap.size + 1 + 1 < w2.heap.size from (Array.getElem?_eq_some_iff.1 K2.out.rb).1)
 clear hg hr hown K2 a0 a1 a2 a3 a4 a5 a6 a7 a8 a9 d0 d1 d2 d3 z0 z1 z2 f0 f1 f2 h7' h8' h9' hval
 obtain ⟨⟨z0, z1, z2⟩, f0, f1, f2⟩ := row3f K3.out.rb
 go_wp2_with fail
 first | rw [Exit.noGoto_ret] | skip
 refine bodyPost_ret (res_outcome_err rfl _ _ (w.heap.size + 1 + 1) _ rfl rfl (ob_put _ _ _ K3.out.rb)) rfl ?_
 have jr := ob_grown w3 (w.heap.size + 1 + 1) (.int .u64 (loc : Int)) (.int .u64 (lost : Int)) (.slice pc cs.length cc)
 have hs := hsz.out
 exact ⟨0, loc, lost, cs, pc, cc, rfl, hr2.out.1, (hr2.out.2.kept jr (Or.inr (fun e => by have := (hr2.out.2.lt _ e).1; omega))).mono (by omega), grown_new K3.out.fb.gr jr (by omega)⟩
end Go.Proofs.YtpogblengagpaaaGreatDoor

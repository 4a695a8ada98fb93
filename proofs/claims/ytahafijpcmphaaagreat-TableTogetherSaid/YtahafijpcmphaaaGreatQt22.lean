/- Parts of the proof, packed: TaCa, TaCaR. -/
import Derived.Test.YtahafijpcmphaaaGreatQt21
import Derived.Test.YtahafijpcmphaaaGreatQt17
/- tables: the program's CheckAll. -/
namespace Go.Proofs.YtahafijpcmphaaaGreat
set_option maxRecDepth 100000
open Go.RowKit Bs
structure RdT (w : World) (q : Nat → Prop) (p : Option Addr) (c : Nat) (Ts : List Tb) : Prop where
 rd : RdF w q (.slice p Ts.length c) Ts.length (Ts.flatMap tbC)
 ok : ∀ x ∈ Ts, RdW w q x.p x.c x.L ∧ x.L.length ≤ 9223372036854775807
theorem RdT.keep {w w1 : World} {q : Nat → Prop} {p : Option Addr} {c : Nat} {Ts : List Tb} (h : RdT w q p c Ts) (g : w.grownBy w1 none) : RdT w1 q p c Ts := ⟨h.rd.keep g, fun x hx => ⟨(h.ok x hx).1.keep g, (h.ok x hx).2⟩⟩
structure TQ (W : World) (p : Option Addr) (c : Nat) (Ts : List Tb) (q : Nat → Prop) (w : World) : Prop where
 bx : w.heap[W.heap.size]? = some (.cells #[.slice p Ts.length c] 29 (0, 0))
 rd : RdT w q p c Ts
 gr : W.grownBy w none
theorem TQ.keep {W : World} {p : Option Addr} {c : Nat} {Ts : List Tb} {q : Nat → Prop} {w w1 : World} (h : TQ W p c Ts q w) (g : w.grownBy w1 none) : TQ W p c Ts q w1 := ⟨kept_row h.bx g (by simp), h.rd.keep g, grown_trans h.gr g⟩
theorem TQ.c0 {W : World} {p : Option Addr} {c : Nat} {Ts : List Tb} {q : Nat → Prop} {w : World} (h : TQ W p c Ts q w) : w.cell? ⟨W.heap.size, 0, none⟩ = some (.slice p Ts.length c) := cell_of_row _ _ _ _ _ _ h.bx
set_option maxHeartbeats 3200000 in
theorem tCheckAll_any (p : Option Addr) (c : Nat) (Ts : List Tb) (q : Nat → Prop) (w : World) (hR : RdT w q p c Ts) (hm : Ts.length ≤ 9223372036854775807) :
  Calls Tryz.prog 24 #[.slice p Ts.length c] w fun e w' => e = .returned (.int .i64 (caT Ts)) ∧ w.grownBy w' none := by
 have hmf : ∀ (fn : Fn) (first cap : Array Value) (w : World), (Instr.makeFunc fn first cap).run Tryz.prog w = .ok (.func fn first cap) w := fun _ _ _ _ => rfl
 have e1 : EnterF 65 := enters_of Tryz.func65 (by kernel_rfl) rfl
 have e3 : EnterF 68 := enters_of Tryz.func68 (by kernel_rfl) rfl
 have EG := Lib.hid (And.intro e1 e3)
 obtain ⟨k1, k2⟩ := tone_box w #[.slice p Ts.length c] 29
 have H0 : Hid (TQ w p c Ts q _) := Lib.hid ⟨k1, hR.keep k2, k2⟩
 have HC : Hid (caT Ts = if 24 < Ts.length then 3 else if Ts.any caW = true then 1 else if ascB ltTb Ts = false then 25 else if Ts.any (cfTb ((Ts.head?.map Tb.s).getD 0) ((Ts.head?.map Tb.n).getD 0)) = true then 8 else 0) := Lib.hid rfl
 clear k1 k2 hR e1 e3
 go_enter Tryz.func24, Tryz.ntmps24
 go_upto_region 1 with fail
 generalize w.alloc _ = w1 at *
 have d0 := H0.out.c0
 by_cases h24 : 24 < Ts.length
 case pos =>
  have h24' : (24 : Int) < (Ts.length : Int) := by omega
  have HO : Hid (caT Ts = 3) := Lib.hid (by rw [HC.out, if_pos h24])
  clear h24
  go_wp2_with fail
  go_ret
  rw [HO.out]
  exact ⟨rfl, H0.out.gr⟩
 have h24' : ¬ (24 : Int) < (Ts.length : Int) := by omega
 have HN24 := Lib.hid h24
 clear h24
 go_wp2_with fail
 refine (tcontT_any 65 #[] caW EG.out.1 Ts p c q w1 H0.out.rd.rd hm (fun x w' hx g => tca1_any x _ w' ((H0.out.rd.ok x hx).1.keep g) (H0.out.rd.ok x hx).2)).mono ?_
 rintro e w2 ⟨rfl, hg⟩
 have H1 := Lib.hid (H0.out.keep hg)
 clear hg d0 H0
 cases f1 : Ts.any caW
 case true =>
  have HO : Hid (caT Ts = 1) := Lib.hid (by rw [HC.out, if_neg HN24.out, if_pos f1])
  clear f1
  go_wp2_with fail
  go_ret
  rw [HO.out]
  exact ⟨rfl, H1.out.gr⟩
 have F1 := Lib.hid f1
 clear f1
 have d0 := H1.out.c0
 go_wp2_with fail
 refine (tascT_any Ts p c q w2 H1.out.rd.rd hm).mono ?_
 rintro e w3 ⟨rfl, hg⟩
 have H2 := Lib.hid (H1.out.keep hg)
 clear hg d0 H1
 cases f2 : ascB ltTb Ts
 case false =>
  have HO : Hid (caT Ts = 25) := Lib.hid (by rw [HC.out, if_neg HN24.out, if_neg (by rw [F1.out]; decide), if_pos f2])
  clear f2
  go_wp2_with fail
  go_ret
  rw [HO.out]
  exact ⟨rfl, H2.out.gr⟩
 have F2 := Lib.hid f2
 clear f2
 have d0 := H2.out.c0
 obtain ⟨s0, hs0⟩ : ∃ s0, (Ts.head?.map Tb.s).getD 0 = s0 := ⟨_, rfl⟩
 obtain ⟨n0, hn0⟩ : ∃ n0, (Ts.head?.map Tb.n).getD 0 = n0 := ⟨_, rfl⟩
 have HSN := Lib.hid (And.intro hs0 hn0)
 clear hs0 hn0
 have HP : Hid (∀ (x : Tb) (w' : World), x ∈ Ts → w3.grownBy w' none → Calls Tryz.prog 68 (#[.agg #[.int .i64 x.r, .int .i64 x.s, .int .i64 x.n, .slice x.p x.L.length x.c]] ++ #[.pointer (some ⟨w.heap.size, 0, none⟩)]) w' fun e w2 => e = .returned (.bool (cfTb s0 n0 x)) ∧ w'.grownBy w2 none) := Lib.hid (fun x w' hx g => by
  have hpos : 0 < Ts.length := List.length_pos_of_mem hx
  obtain ⟨y, hy⟩ : ∃ y, Ts[0]? = some y := ⟨_, List.getElem?_eq_getElem hpos⟩
  have hh : Ts.head? = some y := by rw [List.head?_eq_getElem?]; exact hy
  have h3 := H2.out.keep g
  obtain ⟨-, b, off, hp, -, hc⟩ := tb_cells h3.rd.rd hpos
  obtain ⟨-, a1, a2, -⟩ := hc 0 y hy
  have es : s0 = y.s := by rw [← HSN.out.1, hh]; rfl
  have en : n0 = y.n := by rw [← HSN.out.2, hh]; rfl
  rw [es, en]
  have hbx := h3.bx
  rw [hp] at hbx
  simp only [Nat.zero_mul, Nat.add_zero] at a1 a2
  exact tca3_any x w.heap.size b off Ts.length c y.s y.n w' hbx hpos a1 a2)
 go_wp2_with fail
 refine (tcontT_any 68 #[.pointer (some ⟨w.heap.size, 0, none⟩)] (cfTb s0 n0) EG.out.2 Ts p c q w3 H2.out.rd.rd hm HP.out).mono ?_
 rintro e w4 ⟨rfl, hg⟩
 have H3 := Lib.hid (H2.out.keep hg)
 clear hg d0 H2 HP
 cases f3 : Ts.any (cfTb s0 n0)
 case true =>
  have HO : Hid (caT Ts = 8) := Lib.hid (by rw [HC.out, if_neg HN24.out, if_neg (by rw [F1.out]; decide), if_neg (by rw [F2.out]; decide), HSN.out.1, HSN.out.2, if_pos f3])
  clear f3
  go_wp2_with fail
  go_ret
  rw [HO.out]
  exact ⟨rfl, H3.out.gr⟩
 have HO : Hid (caT Ts = 0) := Lib.hid (by rw [HC.out, if_neg HN24.out, if_neg (by rw [F1.out]; decide), if_neg (by rw [F2.out]; decide), HSN.out.1, HSN.out.2, if_neg (by rw [f3]; decide)])
 clear f3
 go_wp2_with fail
 go_ret
 rw [HO.out]
 exact ⟨rfl, H3.out.gr⟩
end Go.Proofs.YtahafijpcmphaaaGreat

/- tables, the reference's functions: CheckAll. -/
namespace Go.Proofs.YtahafijpcmphaaaGreat
set_option maxRecDepth 100000
open Go.RowKit Bs
theorem rdT_cells {w : World} {q : Nat → Prop} {b off c : Nat} {Ts : List Tb} (h : RdT w q (some ⟨b, off, none⟩) c Ts) {k : Nat} {x : Tb} (hx : Ts[k]? = some x) :
  w.cell? ⟨b, off + k * 4, none⟩ = some (.int .i64 x.r) ∧ w.cell? ⟨b, off + k * 4 + 1, none⟩ = some (.int .i64 x.s) ∧ w.cell? ⟨b, off + k * 4 + 2, none⟩ = some (.int .i64 x.n) ∧ w.cell? ⟨b, off + k * 4 + 3, none⟩ = some (.slice x.p x.L.length x.c) := by
 have hlt := (List.getElem?_eq_some_iff.1 hx).1
 obtain ⟨-, b', off', hp, -, hc⟩ := tb_cells h.rd (by omega)
 injection hp with hp
 injection hp with e1 e2
 subst e1
 subst e2
 exact hc k x hx
set_option maxHeartbeats 6400000 in
theorem rCheckAll_any (p : Option Addr) (c : Nat) (Ts : List Tb) (w : World) (hR : RdT w (· < w.heap.size) p c Ts) (hm : Ts.length ≤ 9223372036854775807) :
  Calls Tryz.prog 25 #[.slice p Ts.length c] w fun e w' => e = .returned (.int .i64 (caT Ts)) ∧ w.grownBy w' none := by
 have H := Lib.hid hR
 have HC : Hid (caT Ts = if 24 < Ts.length then 3 else if Ts.any caW = true then 1 else if ascB ltTb Ts = false then 25 else if Ts.any (cfTb ((Ts.head?.map Tb.s).getD 0) ((Ts.head?.map Tb.n).getD 0)) = true then 8 else 0) := Lib.hid rfl
 clear hR
 go_enter Tryz.func25, Tryz.ntmps25
 by_cases h24 : 24 < Ts.length
 case pos =>
  have h24' : (24 : Int) < (Ts.length : Int) := by omega
  have HO : Hid (caT Ts = 3) := Lib.hid (by rw [HC.out, if_pos h24])
  clear h24
  go_wp2_with fail
  go_ret
  rw [HO.out]
  exact ⟨rfl, grown_refl _ _⟩
 have h24' : ¬ (24 : Int) < (Ts.length : Int) := by omega
 have HN24 := Lib.hid h24
 have hT24 : Ts.length ≤ 24 := by omega
 clear h24 hm
 go_upto_region 3 with fail
 clear h24'
 go_wp2_with fail
 go_loopw [3] (fun v wr => ∃ k : Nat, k ≤ Ts.length ∧ v = .int .i64 (k : Int) ∧ Hid ((Ts.take k).any caW = false) ∧ Hid (w.grownBy wr none)) (fun v _ => Ts.length - (RowKit.intOf v).toNat)
 case atStart => exact ⟨0, Nat.zero_le _, rfl, Lib.hid rfl, Lib.hid (grown_refl _ _)⟩
 case round =>
 obtain ⟨k, hk, rfl, HN, G⟩ := hrel
 obtain ⟨w5, hw5⟩ : ∃ w5, w5 = wr := ⟨_, rfl⟩
 rw [← hw5] at G ⊢
 clear hw5
 by_cases hlt : k < Ts.length
 case pos =>
  have hlt' : (k : Int) < (Ts.length : Int) := by omega
  have hk0 : (0 : Int) ≤ (k : Int) := by omega
  obtain ⟨x, hx⟩ : ∃ x, Ts[k]? = some x := ⟨_, List.getElem?_eq_getElem hlt⟩
  obtain ⟨-, b, off, rfl, -, -⟩ := tb_cells H.out.rd (by omega)
  obtain ⟨a0, a1, a2, a3⟩ := rdT_cells (H.out.keep G.out) hx
  have HXR := Lib.hid (((H.out.keep G.out).ok x (List.mem_of_getElem? hx)).1.mono (q' := (· < w5.heap.size)) (fun b (hb : b < w.heap.size) => Nat.lt_of_lt_of_le hb G.out.size))
  have hxl := (H.out.ok x (List.mem_of_getElem? hx)).2
  have HX := Lib.hid hx
  clear hx
  go_wp2_with fail
  refine (rck11_any x.r x.s x.n x.p x.c x.L w5 HXR.out hxl).mono ?_
  rintro e w6 ⟨rfl, hg⟩
  have G6 := Lib.hid (grown_trans G.out hg)
  clear hg G a0 a1 a2 a3 HXR
  simp only
  obtain ⟨z, hz⟩ : ∃ z, ckT x.r x.s x.n x.L = z := ⟨_, rfl⟩
  have HZ : Hid (caW x = (z != 0)) := Lib.hid (by unfold caW; rw [hz])
  rw [hz]
  clear hz
  by_cases h0 : z = 0
  ·have HZF : Hid (caW x = false) := Lib.hid (by rw [HZ.out, h0]; rfl)
   have HN2 := Lib.hid (any_take HN.out HX.out HZF.out)
   subst h0
   clear HN
   go_wp2_with fail
   exact ⟨⟨k + 1, by omega, congrArg _ (by omega), HN2, G6⟩, by simp only [RowKit.intOf]; omega⟩
  ·have h0' : (z != 0) = true := by simpa using h0
   have HO : Hid (caT Ts = 1) := Lib.hid (by rw [HC.out, if_neg HN24.out, if_pos (List.any_eq_true.2 ⟨x, List.mem_of_getElem? HX.out, by rw [HZ.out]; exact h0'⟩)])
   clear h0 HN
   go_wp2_with fail
   go_ret
   rw [HO.out]
   exact ⟨rfl, G6.out⟩
 obtain rfl : k = Ts.length := by omega
 have hnl : ¬ (Ts.length : Int) < (Ts.length : Int) := by omega
 have HCA : Hid (Ts.any caW = false) := Lib.hid (by have h := HN.out; rwa [List.take_length] at h)
 clear HN hlt hk
 go_wp2_with fail
 clear hnl
 go_loopw [4] (fun v wr => ∃ k : Nat, 1 ≤ k ∧ (k ≤ Ts.length ∨ k = 1) ∧ v = .int .i64 (k : Int) ∧ Hid (∀ i x y, i + 1 < k → Ts[i]? = some x → Ts[i + 1]? = some y → ltTb x y = true) ∧ Hid (w.grownBy wr none)) (fun v _ => Ts.length - (RowKit.intOf v).toNat)
 case atStart => exact ⟨1, by omega, Or.inr rfl, rfl, Lib.hid (fun i x y h => by omega), G⟩
 case round =>
 clear G
 obtain ⟨k, hk1, hk, rfl, HN, G⟩ := hrel
 obtain ⟨w7, hw7⟩ : ∃ w7, w7 = wr := ⟨_, rfl⟩
 rw [← hw7] at G ⊢
 clear hw7
 by_cases hlt : k < Ts.length
 case pos =>
  obtain ⟨j, rfl⟩ : ∃ j, k = j + 1 := ⟨k - 1, by omega⟩
  obtain ⟨x, hx⟩ : ∃ x, Ts[j]? = some x := ⟨_, List.getElem?_eq_getElem (by omega)⟩
  obtain ⟨y, hy⟩ : ∃ y, Ts[j + 1]? = some y := ⟨_, List.getElem?_eq_getElem hlt⟩
  obtain ⟨-, b, off, rfl, -, -⟩ := tb_cells H.out.rd (by omega)
  have HA := Lib.hid (And.intro (rdT_cells (H.out.keep G.out) hx) (rdT_cells (H.out.keep G.out) hy))
  have HXY := Lib.hid (And.intro hx hy)
  clear hx hy
  have ew1 : ((j : Int) + 1 - 1) = (j : Int) := by omega
  have ew2 : IntKind.i64.wrap ((j : Int) + 1 - 1) = (j : Int) := by rw [ew1, IntWalk.i64_in _ (by omega)]
  have ew3 : IntKind.i64.wrap (j : Int) = (j : Int) := IntWalk.i64_in _ (by omega)
  have j0 : (0 : Int) ≤ (j : Int) := by omega
  have j1 : (0 : Int) ≤ (j : Int) + 1 := by omega
  have j2 : (j : Int) < (Ts.length : Int) := by omega
  have j3 : (j : Int) + 1 < (Ts.length : Int) := by omega
  have j4 : ((j : Int) + 1).toNat = j + 1 := by omega
  have hcast : ((j + 1 : Nat) : Int) = (j : Int) + 1 := by omega
  rw [hcast]
  go_upto_region 11 with fail
  obtain ⟨v, hv⟩ : ∃ v, ltTb x y = v := ⟨_, rfl⟩
  have HV : Hid (decide (y.r ≤ x.r) = !v) := Lib.hid (by rw [← hv]; unfold ltTb; rw [← decide_not, decide_eq_decide]; omega)
  have HL := Lib.hid hv
  clear hv
  refine wp_region_held_drew (S := fun w' => Hid (w7.grownBy w' none)) (by kernel_rfl) (Lib.hid (grown_drew (grown_refl _ none))) (fun hHeld => ?_)
  refine zT (i := 0) (v := ?_) rfl ?_ hHeld ?_
  rotate_left 1
  ·intro u hSu
   obtain ⟨x0, x1, x2, x3⟩ := HA.out.1
   obtain ⟨y0, y1, y2, y3⟩ := HA.out.2
   have x0u := hSu.out.cell x0 (by simp)
   have x1u := hSu.out.cell x1 (by simp)
   have x2u := hSu.out.cell x2 (by simp)
   have x3u := hSu.out.cell x3 (by simp)
   have y0u := hSu.out.cell y0 (by simp)
   have y1u := hSu.out.cell y1 (by simp)
   have y2u := hSu.out.cell y2 (by simp)
   have y3u := hSu.out.cell y3 (by simp)
   go_simp
   first | done | with_reducible rfl
  try simp only [Act.put, zA, zB, zC]
  refine zT (i := 1) (v := ?_) rfl ?_ hHeld ?_
  rotate_left 1
  ·intro u hSu
   obtain ⟨x0, x1, x2, x3⟩ := HA.out.1
   obtain ⟨y0, y1, y2, y3⟩ := HA.out.2
   have x0u := hSu.out.cell x0 (by simp)
   have x1u := hSu.out.cell x1 (by simp)
   have x2u := hSu.out.cell x2 (by simp)
   have x3u := hSu.out.cell x3 (by simp)
   have y0u := hSu.out.cell y0 (by simp)
   have y1u := hSu.out.cell y1 (by simp)
   have y2u := hSu.out.cell y2 (by simp)
   have y3u := hSu.out.cell y3 (by simp)
   go_simp
   first | done | with_reducible rfl
  try simp only [Act.put, zA, zB, zC]
  refine zT (i := 2) (v := ?_) rfl ?_ hHeld ?_
  rotate_left 1
  ·intro u hSu
   obtain ⟨x0, x1, x2, x3⟩ := HA.out.1
   obtain ⟨y0, y1, y2, y3⟩ := HA.out.2
   have x0u := hSu.out.cell x0 (by simp)
   have x1u := hSu.out.cell x1 (by simp)
   have x2u := hSu.out.cell x2 (by simp)
   have x3u := hSu.out.cell x3 (by simp)
   have y0u := hSu.out.cell y0 (by simp)
   have y1u := hSu.out.cell y1 (by simp)
   have y2u := hSu.out.cell y2 (by simp)
   have y3u := hSu.out.cell y3 (by simp)
   go_simp
   first | done | with_reducible rfl
  try simp only [Act.put, zA, zB, zC]
  refine zT (i := 3) (v := ?_) rfl ?_ hHeld ?_
  rotate_left 1
  ·intro u hSu
   obtain ⟨x0, x1, x2, x3⟩ := HA.out.1
   obtain ⟨y0, y1, y2, y3⟩ := HA.out.2
   have x0u := hSu.out.cell x0 (by simp)
   have x1u := hSu.out.cell x1 (by simp)
   have x2u := hSu.out.cell x2 (by simp)
   have x3u := hSu.out.cell x3 (by simp)
   have y0u := hSu.out.cell y0 (by simp)
   have y1u := hSu.out.cell y1 (by simp)
   have y2u := hSu.out.cell y2 (by simp)
   have y3u := hSu.out.cell y3 (by simp)
   go_simp
   first | done | with_reducible rfl
  try simp only [Act.put, zA, zB, zC]
  refine zT (i := 4) (v := ?_) rfl ?_ hHeld ?_
  rotate_left 1
  ·intro u hSu
   obtain ⟨x0, x1, x2, x3⟩ := HA.out.1
   obtain ⟨y0, y1, y2, y3⟩ := HA.out.2
   have x0u := hSu.out.cell x0 (by simp)
   have x1u := hSu.out.cell x1 (by simp)
   have x2u := hSu.out.cell x2 (by simp)
   have x3u := hSu.out.cell x3 (by simp)
   have y0u := hSu.out.cell y0 (by simp)
   have y1u := hSu.out.cell y1 (by simp)
   have y2u := hSu.out.cell y2 (by simp)
   have y3u := hSu.out.cell y3 (by simp)
   go_simp
   first | done | with_reducible rfl
  try simp only [Act.put, zA, zB, zC]
  refine zT (i := 5) (v := ?_) rfl ?_ hHeld ?_
  rotate_left 1
  ·intro u hSu
   obtain ⟨x0, x1, x2, x3⟩ := HA.out.1
   obtain ⟨y0, y1, y2, y3⟩ := HA.out.2
   have x0u := hSu.out.cell x0 (by simp)
   have x1u := hSu.out.cell x1 (by simp)
   have x2u := hSu.out.cell x2 (by simp)
   have x3u := hSu.out.cell x3 (by simp)
   have y0u := hSu.out.cell y0 (by simp)
   have y1u := hSu.out.cell y1 (by simp)
   have y2u := hSu.out.cell y2 (by simp)
   have y3u := hSu.out.cell y3 (by simp)
   go_simp
   first | done | with_reducible rfl
  try simp only [Act.put, zA, zB, zC]
  refine zT (i := 6) (v := ?_) rfl ?_ hHeld ?_
  rotate_left 1
  ·intro u hSu
   obtain ⟨x0, x1, x2, x3⟩ := HA.out.1
   obtain ⟨y0, y1, y2, y3⟩ := HA.out.2
   have x0u := hSu.out.cell x0 (by simp)
   have x1u := hSu.out.cell x1 (by simp)
   have x2u := hSu.out.cell x2 (by simp)
   have x3u := hSu.out.cell x3 (by simp)
   have y0u := hSu.out.cell y0 (by simp)
   have y1u := hSu.out.cell y1 (by simp)
   have y2u := hSu.out.cell y2 (by simp)
   have y3u := hSu.out.cell y3 (by simp)
   go_simp
   first | done | with_reducible rfl
  try simp only [Act.put, zA, zB, zC]
  refine zT (i := 7) (v := ?_) rfl ?_ hHeld ?_
  rotate_left 1
  ·intro u hSu
   obtain ⟨x0, x1, x2, x3⟩ := HA.out.1
   obtain ⟨y0, y1, y2, y3⟩ := HA.out.2
   have x0u := hSu.out.cell x0 (by simp)
   have x1u := hSu.out.cell x1 (by simp)
   have x2u := hSu.out.cell x2 (by simp)
   have x3u := hSu.out.cell x3 (by simp)
   have y0u := hSu.out.cell y0 (by simp)
   have y1u := hSu.out.cell y1 (by simp)
   have y2u := hSu.out.cell y2 (by simp)
   have y3u := hSu.out.cell y3 (by simp)
   go_simp
   first | done | with_reducible rfl
  try simp only [Act.put, zA, zB, zC]
  refine zT (i := 8) (v := ?_) rfl ?_ hHeld ?_
  rotate_left 1
  ·intro u hSu
   obtain ⟨x0, x1, x2, x3⟩ := HA.out.1
   obtain ⟨y0, y1, y2, y3⟩ := HA.out.2
   have x0u := hSu.out.cell x0 (by simp)
   have x1u := hSu.out.cell x1 (by simp)
   have x2u := hSu.out.cell x2 (by simp)
   have x3u := hSu.out.cell x3 (by simp)
   have y0u := hSu.out.cell y0 (by simp)
   have y1u := hSu.out.cell y1 (by simp)
   have y2u := hSu.out.cell y2 (by simp)
   have y3u := hSu.out.cell y3 (by simp)
   go_simp
   first | done | with_reducible rfl
  try simp only [Act.put, zA, zB, zC]
  refine zT (i := 9) (v := ?_) rfl ?_ hHeld ?_
  rotate_left 1
  ·intro u hSu
   obtain ⟨x0, x1, x2, x3⟩ := HA.out.1
   obtain ⟨y0, y1, y2, y3⟩ := HA.out.2
   have x0u := hSu.out.cell x0 (by simp)
   have x1u := hSu.out.cell x1 (by simp)
   have x2u := hSu.out.cell x2 (by simp)
   have x3u := hSu.out.cell x3 (by simp)
   have y0u := hSu.out.cell y0 (by simp)
   have y1u := hSu.out.cell y1 (by simp)
   have y2u := hSu.out.cell y2 (by simp)
   have y3u := hSu.out.cell y3 (by simp)
   go_simp
   first | done | with_reducible rfl
  try simp only [Act.put, zA, zB, zC]
  refine zT (i := 10) (v := ?_) rfl ?_ hHeld ?_
  rotate_left 1
  ·intro u hSu
   obtain ⟨x0, x1, x2, x3⟩ := HA.out.1
   obtain ⟨y0, y1, y2, y3⟩ := HA.out.2
   have x0u := hSu.out.cell x0 (by simp)
   have x1u := hSu.out.cell x1 (by simp)
   have x2u := hSu.out.cell x2 (by simp)
   have x3u := hSu.out.cell x3 (by simp)
   have y0u := hSu.out.cell y0 (by simp)
   have y1u := hSu.out.cell y1 (by simp)
   have y2u := hSu.out.cell y2 (by simp)
   have y3u := hSu.out.cell y3 (by simp)
   go_simp
   first | done | with_reducible rfl
  try simp only [Act.put, zA, zB, zC]
  refine zT (i := 11) (v := .bool (!v)) rfl ?_ hHeld ?_
  ·intro u hSu
   obtain ⟨x0, x1, x2, x3⟩ := HA.out.1
   obtain ⟨y0, y1, y2, y3⟩ := HA.out.2
   have x0u := hSu.out.cell x0 (by simp)
   have x1u := hSu.out.cell x1 (by simp)
   have x2u := hSu.out.cell x2 (by simp)
   have x3u := hSu.out.cell x3 (by simp)
   have y0u := hSu.out.cell y0 (by simp)
   have y1u := hSu.out.cell y1 (by simp)
   have y2u := hSu.out.cell y2 (by simp)
   have y3u := hSu.out.cell y3 (by simp)
   rw [← HV.out]
   go_simp
   first | done | with_reducible rfl
  try simp only [Act.put, zA, zB, zC]
  refine wpAnyH_done (by kernel_rfl) ?_ _
  have GW := Lib.hid (grown_trans G.out hHeld.out)
  clear hHeld
  cases v
  case false =>
   have HO : Hid (caT Ts = 25) := Lib.hid (by rw [HC.out, if_neg HN24.out, if_neg (by rw [HCA.out]; decide), if_pos (ascT_hit HXY.out.1 HXY.out.2 HL.out)])
   go_wp2_with fail
   go_ret
   rw [HO.out]
   exact ⟨rfl, GW.out⟩
  have HN2 : Hid (∀ i x y, i + 1 < j + 1 + 1 → Ts[i]? = some x → Ts[i + 1]? = some y → ltTb x y = true) := Lib.hid (fun i x2 y2 hi hx2 hy2 => by
   by_cases hij : i = j
   ·subst hij
    have e1 := HXY.out.1.symm.trans hx2
    have e2 := HXY.out.2.symm.trans hy2
    injection e1 with e1
    injection e2 with e2
    subst e1
    subst e2
    exact HL.out
   ·exact HN.out i x2 y2 (by omega) hx2 hy2)
  clear HN
  go_wp2_with fail
  exact ⟨⟨j + 1 + 1, by omega, Or.inl (by omega), congrArg _ (by omega), HN2, GW⟩, by simp only [RowKit.intOf]; omega⟩
 have hnl : ¬ (k : Int) < (Ts.length : Int) := by omega
 have HAS := Lib.hid (ascT_end (R := Ts) fun i x y hi hx hy => HN.out i x y (by omega) hx hy)
 clear HN hlt hk hk1
 go_wp2_with fail
 clear hnl
 obtain ⟨s0, hs0⟩ : ∃ s0, (Ts.head?.map Tb.s).getD 0 = s0 := ⟨_, rfl⟩
 obtain ⟨n0, hn0⟩ : ∃ n0, (Ts.head?.map Tb.n).getD 0 = n0 := ⟨_, rfl⟩
 have HSN := Lib.hid (And.intro hs0 hn0)
 clear hs0 hn0
 have HC8 : Hid (caT Ts = if Ts.any (cfTb s0 n0) = true then 8 else 0) := Lib.hid (by rw [HC.out, if_neg HN24.out, if_neg (by rw [HCA.out]; decide), if_neg (by rw [HAS.out]; decide), HSN.out.1, HSN.out.2])
 go_loopw [5] (fun v wr => ∃ k : Nat, 1 ≤ k ∧ (k ≤ Ts.length ∨ k = 1) ∧ v = .int .i64 (k : Int) ∧ Hid (∀ (i : Nat) (x : Tb), i < k → Ts[i]? = some x → cfTb s0 n0 x = false) ∧ Hid (w.grownBy wr none)) (fun v _ => Ts.length - (RowKit.intOf v).toNat)
 case atStart => exact ⟨1, by omega, Or.inr rfl, rfl, Lib.hid (fun i x hi hx => by
  obtain rfl : i = 0 := by omega
  have hh : Ts.head? = some x := by rw [List.head?_eq_getElem?]; exact hx
  have es : s0 = x.s := by rw [← HSN.out.1, hh]; rfl
  have en : n0 = x.n := by rw [← HSN.out.2, hh]; rfl
  unfold cfTb
  simp [es, en]), G⟩
 case round =>
 clear G
 obtain ⟨k, hk1, hk, rfl, HN, G⟩ := hrel
 obtain ⟨w9, hw9⟩ : ∃ w9, w9 = wr := ⟨_, rfl⟩
 rw [← hw9] at G ⊢
 clear hw9
 by_cases hlt : k < Ts.length
 case neg =>
  have hnl : ¬ (k : Int) < (Ts.length : Int) := by omega
  have HO : Hid (caT Ts = 0) := Lib.hid (by
   rw [HC8.out, if_neg]
   rw [Bool.not_eq_true]
   exact List.any_eq_false.2 fun x hx => by
    obtain ⟨i, hi⟩ := List.mem_iff_getElem?.1 hx
    have := HN.out i x (by have := (List.getElem?_eq_some_iff.1 hi).1; omega) hi
    rw [this]; decide)
  go_wp2_with fail
  go_ret
  rw [HO.out]
  exact ⟨rfl, G.out⟩
 have hlt' : (k : Int) < (Ts.length : Int) := by omega
 have hk0 : (0 : Int) ≤ (k : Int) := by omega
 have h0l : (0 : Int) < (Ts.length : Int) := by omega
 have h0n : 0 < Ts.length := by omega
 obtain ⟨x, hx⟩ : ∃ x, Ts[k]? = some x := ⟨_, List.getElem?_eq_getElem hlt⟩
 obtain ⟨y, hy⟩ : ∃ y, Ts[0]? = some y := ⟨_, List.getElem?_eq_getElem (by omega)⟩
 have hsy : s0 = y.s := by rw [← HSN.out.1, List.head?_eq_getElem?, hy]; rfl
 have hny : n0 = y.n := by rw [← HSN.out.2, List.head?_eq_getElem?, hy]; rfl
 obtain ⟨-, b, off, rfl, -, -⟩ := tb_cells H.out.rd (by omega)
 have hy4 := rdT_cells (H.out.keep G.out) hy
 simp only [Nat.zero_mul, Nat.add_zero] at hy4
 have HA := Lib.hid (And.intro (rdT_cells (H.out.keep G.out) hx) hy4)
 have HX := Lib.hid hx
 subst hsy
 subst hny
 clear hx hy hy4
 go_upto_region 16 with fail
 by_cases es : x.s = y.s
 case neg =>
  have es' : (x.s != y.s) = true := by simpa using es
  have HO : Hid (caT Ts = 8) := Lib.hid (by rw [HC8.out, if_pos (List.any_eq_true.2 ⟨x, List.mem_of_getElem? HX.out, by unfold cfTb; rw [es']; rfl⟩)])
  clear es HN
  refine wp_region_held_drew (S := fun w' => Hid (w9.grownBy w' none)) (by kernel_rfl) (Lib.hid (grown_drew (grown_refl _ none))) (fun hHeld => ?_)
  refine zT (i := 0) (v := ?_) rfl ?_ hHeld ?_
  rotate_left 1
  ·intro u hSu
   obtain ⟨x0, x1, x2, x3⟩ := HA.out.1
   obtain ⟨y0, y1, y2, y3⟩ := HA.out.2
   have x0u := hSu.out.cell x0 (by simp)
   have x1u := hSu.out.cell x1 (by simp)
   have x2u := hSu.out.cell x2 (by simp)
   have x3u := hSu.out.cell x3 (by simp)
   have y0u := hSu.out.cell y0 (by simp)
   have y1u := hSu.out.cell y1 (by simp)
   have y2u := hSu.out.cell y2 (by simp)
   have y3u := hSu.out.cell y3 (by simp)
   go_simp
   first | done | with_reducible rfl
  try simp only [Act.put, zA, zB, zC]
  refine zT (i := 1) (v := ?_) rfl ?_ hHeld ?_
  rotate_left 1
  ·intro u hSu
   obtain ⟨x0, x1, x2, x3⟩ := HA.out.1
   obtain ⟨y0, y1, y2, y3⟩ := HA.out.2
   have x0u := hSu.out.cell x0 (by simp)
   have x1u := hSu.out.cell x1 (by simp)
   have x2u := hSu.out.cell x2 (by simp)
   have x3u := hSu.out.cell x3 (by simp)
   have y0u := hSu.out.cell y0 (by simp)
   have y1u := hSu.out.cell y1 (by simp)
   have y2u := hSu.out.cell y2 (by simp)
   have y3u := hSu.out.cell y3 (by simp)
   go_simp
   first | done | with_reducible rfl
  try simp only [Act.put, zA, zB, zC]
  refine zT (i := 2) (v := ?_) rfl ?_ hHeld ?_
  rotate_left 1
  ·intro u hSu
   obtain ⟨x0, x1, x2, x3⟩ := HA.out.1
   obtain ⟨y0, y1, y2, y3⟩ := HA.out.2
   have x0u := hSu.out.cell x0 (by simp)
   have x1u := hSu.out.cell x1 (by simp)
   have x2u := hSu.out.cell x2 (by simp)
   have x3u := hSu.out.cell x3 (by simp)
   have y0u := hSu.out.cell y0 (by simp)
   have y1u := hSu.out.cell y1 (by simp)
   have y2u := hSu.out.cell y2 (by simp)
   have y3u := hSu.out.cell y3 (by simp)
   go_simp
   first | done | with_reducible rfl
  try simp only [Act.put, zA, zB, zC]
  refine zT (i := 3) (v := ?_) rfl ?_ hHeld ?_
  rotate_left 1
  ·intro u hSu
   obtain ⟨x0, x1, x2, x3⟩ := HA.out.1
   obtain ⟨y0, y1, y2, y3⟩ := HA.out.2
   have x0u := hSu.out.cell x0 (by simp)
   have x1u := hSu.out.cell x1 (by simp)
   have x2u := hSu.out.cell x2 (by simp)
   have x3u := hSu.out.cell x3 (by simp)
   have y0u := hSu.out.cell y0 (by simp)
   have y1u := hSu.out.cell y1 (by simp)
   have y2u := hSu.out.cell y2 (by simp)
   have y3u := hSu.out.cell y3 (by simp)
   go_simp
   first | done | with_reducible rfl
  try simp only [Act.put, zA, zB, zC]
  refine zT (i := 4) (v := ?_) rfl ?_ hHeld ?_
  rotate_left 1
  ·intro u hSu
   obtain ⟨x0, x1, x2, x3⟩ := HA.out.1
   obtain ⟨y0, y1, y2, y3⟩ := HA.out.2
   have x0u := hSu.out.cell x0 (by simp)
   have x1u := hSu.out.cell x1 (by simp)
   have x2u := hSu.out.cell x2 (by simp)
   have x3u := hSu.out.cell x3 (by simp)
   have y0u := hSu.out.cell y0 (by simp)
   have y1u := hSu.out.cell y1 (by simp)
   have y2u := hSu.out.cell y2 (by simp)
   have y3u := hSu.out.cell y3 (by simp)
   go_simp
   first | done | with_reducible rfl
  try simp only [Act.put, zA, zB, zC]
  refine zT (i := 5) (v := ?_) rfl ?_ hHeld ?_
  rotate_left 1
  ·intro u hSu
   obtain ⟨x0, x1, x2, x3⟩ := HA.out.1
   obtain ⟨y0, y1, y2, y3⟩ := HA.out.2
   have x0u := hSu.out.cell x0 (by simp)
   have x1u := hSu.out.cell x1 (by simp)
   have x2u := hSu.out.cell x2 (by simp)
   have x3u := hSu.out.cell x3 (by simp)
   have y0u := hSu.out.cell y0 (by simp)
   have y1u := hSu.out.cell y1 (by simp)
   have y2u := hSu.out.cell y2 (by simp)
   have y3u := hSu.out.cell y3 (by simp)
   go_simp
   first | done | with_reducible rfl
  try simp only [Act.put, zA, zB, zC]
  refine zT (i := 6) (v := ?_) rfl ?_ hHeld ?_
  rotate_left 1
  ·intro u hSu
   obtain ⟨x0, x1, x2, x3⟩ := HA.out.1
   obtain ⟨y0, y1, y2, y3⟩ := HA.out.2
   have x0u := hSu.out.cell x0 (by simp)
   have x1u := hSu.out.cell x1 (by simp)
   have x2u := hSu.out.cell x2 (by simp)
   have x3u := hSu.out.cell x3 (by simp)
   have y0u := hSu.out.cell y0 (by simp)
   have y1u := hSu.out.cell y1 (by simp)
   have y2u := hSu.out.cell y2 (by simp)
   have y3u := hSu.out.cell y3 (by simp)
   go_simp
   first | done | with_reducible rfl
  try simp only [Act.put, zA, zB, zC]
  refine zT (i := 7) (v := ?_) rfl ?_ hHeld ?_
  rotate_left 1
  ·intro u hSu
   obtain ⟨x0, x1, x2, x3⟩ := HA.out.1
   obtain ⟨y0, y1, y2, y3⟩ := HA.out.2
   have x0u := hSu.out.cell x0 (by simp)
   have x1u := hSu.out.cell x1 (by simp)
   have x2u := hSu.out.cell x2 (by simp)
   have x3u := hSu.out.cell x3 (by simp)
   have y0u := hSu.out.cell y0 (by simp)
   have y1u := hSu.out.cell y1 (by simp)
   have y2u := hSu.out.cell y2 (by simp)
   have y3u := hSu.out.cell y3 (by simp)
   go_simp
   first | done | with_reducible rfl
  try simp only [Act.put, zA, zB, zC]
  refine zT (i := 8) (v := ?_) rfl ?_ hHeld ?_
  rotate_left 1
  ·intro u hSu
   obtain ⟨x0, x1, x2, x3⟩ := HA.out.1
   obtain ⟨y0, y1, y2, y3⟩ := HA.out.2
   have x0u := hSu.out.cell x0 (by simp)
   have x1u := hSu.out.cell x1 (by simp)
   have x2u := hSu.out.cell x2 (by simp)
   have x3u := hSu.out.cell x3 (by simp)
   have y0u := hSu.out.cell y0 (by simp)
   have y1u := hSu.out.cell y1 (by simp)
   have y2u := hSu.out.cell y2 (by simp)
   have y3u := hSu.out.cell y3 (by simp)
   go_simp
   first | done | with_reducible rfl
  try simp only [Act.put, zA, zB, zC]
  refine zT (i := 9) (v := .bool true) rfl ?_ hHeld ?_
  ·intro u hSu
   obtain ⟨x0, x1, x2, x3⟩ := HA.out.1
   obtain ⟨y0, y1, y2, y3⟩ := HA.out.2
   have x0u := hSu.out.cell x0 (by simp)
   have x1u := hSu.out.cell x1 (by simp)
   have x2u := hSu.out.cell x2 (by simp)
   have x3u := hSu.out.cell x3 (by simp)
   have y0u := hSu.out.cell y0 (by simp)
   have y1u := hSu.out.cell y1 (by simp)
   have y2u := hSu.out.cell y2 (by simp)
   have y3u := hSu.out.cell y3 (by simp)
   go_simp
   first | done | with_reducible rfl
  try simp only [Act.put, zA, zB, zC]
  refine zT (i := 10) (v := ?_) rfl ?_ hHeld ?_
  rotate_left 1
  ·intro u hSu
   obtain ⟨x0, x1, x2, x3⟩ := HA.out.1
   obtain ⟨y0, y1, y2, y3⟩ := HA.out.2
   have x0u := hSu.out.cell x0 (by simp)
   have x1u := hSu.out.cell x1 (by simp)
   have x2u := hSu.out.cell x2 (by simp)
   have x3u := hSu.out.cell x3 (by simp)
   have y0u := hSu.out.cell y0 (by simp)
   have y1u := hSu.out.cell y1 (by simp)
   have y2u := hSu.out.cell y2 (by simp)
   have y3u := hSu.out.cell y3 (by simp)
   go_simp
   first | done | with_reducible rfl
  try simp only [Act.put, zA, zB, zC]
  refine zS (i := 11) rfl hHeld ?_
  try simp only [Act.put, zA, zB, zC]
  refine zS (i := 12) rfl hHeld ?_
  try simp only [Act.put, zA, zB, zC]
  refine zS (i := 13) rfl hHeld ?_
  try simp only [Act.put, zA, zB, zC]
  refine zS (i := 14) rfl hHeld ?_
  try simp only [Act.put, zA, zB, zC]
  refine zS (i := 15) rfl hHeld ?_
  try simp only [Act.put, zA, zB, zC]
  refine zS (i := 16) rfl hHeld ?_
  try simp only [Act.put, zA, zB, zC]
  refine zS (i := 17) rfl hHeld ?_
  try simp only [Act.put, zA, zB, zC]
  refine zS (i := 18) rfl hHeld ?_
  try simp only [Act.put, zA, zB, zC]
  refine zS (i := 19) rfl hHeld ?_
  try simp only [Act.put, zA, zB, zC]
  refine zS (i := 20) rfl hHeld ?_
  try simp only [Act.put, zA, zB, zC]
  refine zT (i := 21) (v := ?_) rfl ?_ hHeld ?_
  rotate_left 1
  ·intro u hSu
   obtain ⟨x0, x1, x2, x3⟩ := HA.out.1
   obtain ⟨y0, y1, y2, y3⟩ := HA.out.2
   have x0u := hSu.out.cell x0 (by simp)
   have x1u := hSu.out.cell x1 (by simp)
   have x2u := hSu.out.cell x2 (by simp)
   have x3u := hSu.out.cell x3 (by simp)
   have y0u := hSu.out.cell y0 (by simp)
   have y1u := hSu.out.cell y1 (by simp)
   have y2u := hSu.out.cell y2 (by simp)
   have y3u := hSu.out.cell y3 (by simp)
   go_simp
   first | done | with_reducible rfl
  try simp only [Act.put, zA, zB, zC]
  refine wpAnyH_done (by kernel_rfl) ?_ _
  have GW := Lib.hid (grown_trans G.out hHeld.out)
  clear hHeld
  go_wp2_with fail
  go_ret
  rw [HO.out]
  exact ⟨rfl, GW.out⟩
 have es' : (x.s != y.s) = false := by simpa using es
 by_cases en : x.n = y.n
 case neg =>
  have en' : (x.n != y.n) = true := by simpa using en
  have HO : Hid (caT Ts = 8) := Lib.hid (by rw [HC8.out, if_pos (List.any_eq_true.2 ⟨x, List.mem_of_getElem? HX.out, by unfold cfTb; rw [en', Bool.or_true]⟩)])
  clear es en HN
  refine wp_region_held_drew (S := fun w' => Hid (w9.grownBy w' none)) (by kernel_rfl) (Lib.hid (grown_drew (grown_refl _ none))) (fun hHeld => ?_)
  refine zT (i := 0) (v := ?_) rfl ?_ hHeld ?_
  rotate_left 1
  ·intro u hSu
   obtain ⟨x0, x1, x2, x3⟩ := HA.out.1
   obtain ⟨y0, y1, y2, y3⟩ := HA.out.2
   have x0u := hSu.out.cell x0 (by simp)
   have x1u := hSu.out.cell x1 (by simp)
   have x2u := hSu.out.cell x2 (by simp)
   have x3u := hSu.out.cell x3 (by simp)
   have y0u := hSu.out.cell y0 (by simp)
   have y1u := hSu.out.cell y1 (by simp)
   have y2u := hSu.out.cell y2 (by simp)
   have y3u := hSu.out.cell y3 (by simp)
   go_simp
   first | done | with_reducible rfl
  try simp only [Act.put, zA, zB, zC]
  refine zT (i := 1) (v := ?_) rfl ?_ hHeld ?_
  rotate_left 1
  ·intro u hSu
   obtain ⟨x0, x1, x2, x3⟩ := HA.out.1
   obtain ⟨y0, y1, y2, y3⟩ := HA.out.2
   have x0u := hSu.out.cell x0 (by simp)
   have x1u := hSu.out.cell x1 (by simp)
   have x2u := hSu.out.cell x2 (by simp)
   have x3u := hSu.out.cell x3 (by simp)
   have y0u := hSu.out.cell y0 (by simp)
   have y1u := hSu.out.cell y1 (by simp)
   have y2u := hSu.out.cell y2 (by simp)
   have y3u := hSu.out.cell y3 (by simp)
   go_simp
   first | done | with_reducible rfl
  try simp only [Act.put, zA, zB, zC]
  refine zT (i := 2) (v := ?_) rfl ?_ hHeld ?_
  rotate_left 1
  ·intro u hSu
   obtain ⟨x0, x1, x2, x3⟩ := HA.out.1
   obtain ⟨y0, y1, y2, y3⟩ := HA.out.2
   have x0u := hSu.out.cell x0 (by simp)
   have x1u := hSu.out.cell x1 (by simp)
   have x2u := hSu.out.cell x2 (by simp)
   have x3u := hSu.out.cell x3 (by simp)
   have y0u := hSu.out.cell y0 (by simp)
   have y1u := hSu.out.cell y1 (by simp)
   have y2u := hSu.out.cell y2 (by simp)
   have y3u := hSu.out.cell y3 (by simp)
   go_simp
   first | done | with_reducible rfl
  try simp only [Act.put, zA, zB, zC]
  refine zT (i := 3) (v := ?_) rfl ?_ hHeld ?_
  rotate_left 1
  ·intro u hSu
   obtain ⟨x0, x1, x2, x3⟩ := HA.out.1
   obtain ⟨y0, y1, y2, y3⟩ := HA.out.2
   have x0u := hSu.out.cell x0 (by simp)
   have x1u := hSu.out.cell x1 (by simp)
   have x2u := hSu.out.cell x2 (by simp)
   have x3u := hSu.out.cell x3 (by simp)
   have y0u := hSu.out.cell y0 (by simp)
   have y1u := hSu.out.cell y1 (by simp)
   have y2u := hSu.out.cell y2 (by simp)
   have y3u := hSu.out.cell y3 (by simp)
   go_simp
   first | done | with_reducible rfl
  try simp only [Act.put, zA, zB, zC]
  refine zT (i := 4) (v := ?_) rfl ?_ hHeld ?_
  rotate_left 1
  ·intro u hSu
   obtain ⟨x0, x1, x2, x3⟩ := HA.out.1
   obtain ⟨y0, y1, y2, y3⟩ := HA.out.2
   have x0u := hSu.out.cell x0 (by simp)
   have x1u := hSu.out.cell x1 (by simp)
   have x2u := hSu.out.cell x2 (by simp)
   have x3u := hSu.out.cell x3 (by simp)
   have y0u := hSu.out.cell y0 (by simp)
   have y1u := hSu.out.cell y1 (by simp)
   have y2u := hSu.out.cell y2 (by simp)
   have y3u := hSu.out.cell y3 (by simp)
   go_simp
   first | done | with_reducible rfl
  try simp only [Act.put, zA, zB, zC]
  refine zT (i := 5) (v := ?_) rfl ?_ hHeld ?_
  rotate_left 1
  ·intro u hSu
   obtain ⟨x0, x1, x2, x3⟩ := HA.out.1
   obtain ⟨y0, y1, y2, y3⟩ := HA.out.2
   have x0u := hSu.out.cell x0 (by simp)
   have x1u := hSu.out.cell x1 (by simp)
   have x2u := hSu.out.cell x2 (by simp)
   have x3u := hSu.out.cell x3 (by simp)
   have y0u := hSu.out.cell y0 (by simp)
   have y1u := hSu.out.cell y1 (by simp)
   have y2u := hSu.out.cell y2 (by simp)
   have y3u := hSu.out.cell y3 (by simp)
   go_simp
   first | done | with_reducible rfl
  try simp only [Act.put, zA, zB, zC]
  refine zT (i := 6) (v := ?_) rfl ?_ hHeld ?_
  rotate_left 1
  ·intro u hSu
   obtain ⟨x0, x1, x2, x3⟩ := HA.out.1
   obtain ⟨y0, y1, y2, y3⟩ := HA.out.2
   have x0u := hSu.out.cell x0 (by simp)
   have x1u := hSu.out.cell x1 (by simp)
   have x2u := hSu.out.cell x2 (by simp)
   have x3u := hSu.out.cell x3 (by simp)
   have y0u := hSu.out.cell y0 (by simp)
   have y1u := hSu.out.cell y1 (by simp)
   have y2u := hSu.out.cell y2 (by simp)
   have y3u := hSu.out.cell y3 (by simp)
   go_simp
   first | done | with_reducible rfl
  try simp only [Act.put, zA, zB, zC]
  refine zT (i := 7) (v := ?_) rfl ?_ hHeld ?_
  rotate_left 1
  ·intro u hSu
   obtain ⟨x0, x1, x2, x3⟩ := HA.out.1
   obtain ⟨y0, y1, y2, y3⟩ := HA.out.2
   have x0u := hSu.out.cell x0 (by simp)
   have x1u := hSu.out.cell x1 (by simp)
   have x2u := hSu.out.cell x2 (by simp)
   have x3u := hSu.out.cell x3 (by simp)
   have y0u := hSu.out.cell y0 (by simp)
   have y1u := hSu.out.cell y1 (by simp)
   have y2u := hSu.out.cell y2 (by simp)
   have y3u := hSu.out.cell y3 (by simp)
   go_simp
   first | done | with_reducible rfl
  try simp only [Act.put, zA, zB, zC]
  refine zT (i := 8) (v := ?_) rfl ?_ hHeld ?_
  rotate_left 1
  ·intro u hSu
   obtain ⟨x0, x1, x2, x3⟩ := HA.out.1
   obtain ⟨y0, y1, y2, y3⟩ := HA.out.2
   have x0u := hSu.out.cell x0 (by simp)
   have x1u := hSu.out.cell x1 (by simp)
   have x2u := hSu.out.cell x2 (by simp)
   have x3u := hSu.out.cell x3 (by simp)
   have y0u := hSu.out.cell y0 (by simp)
   have y1u := hSu.out.cell y1 (by simp)
   have y2u := hSu.out.cell y2 (by simp)
   have y3u := hSu.out.cell y3 (by simp)
   go_simp
   first | done | with_reducible rfl
  try simp only [Act.put, zA, zB, zC]
  refine zT (i := 9) (v := .bool false) rfl ?_ hHeld ?_
  ·intro u hSu
   obtain ⟨x0, x1, x2, x3⟩ := HA.out.1
   obtain ⟨y0, y1, y2, y3⟩ := HA.out.2
   have x0u := hSu.out.cell x0 (by simp)
   have x1u := hSu.out.cell x1 (by simp)
   have x2u := hSu.out.cell x2 (by simp)
   have x3u := hSu.out.cell x3 (by simp)
   have y0u := hSu.out.cell y0 (by simp)
   have y1u := hSu.out.cell y1 (by simp)
   have y2u := hSu.out.cell y2 (by simp)
   have y3u := hSu.out.cell y3 (by simp)
   go_simp
   first | done | with_reducible rfl
  try simp only [Act.put, zA, zB, zC]
  refine zT (i := 10) (v := ?_) rfl ?_ hHeld ?_
  rotate_left 1
  ·intro u hSu
   obtain ⟨x0, x1, x2, x3⟩ := HA.out.1
   obtain ⟨y0, y1, y2, y3⟩ := HA.out.2
   have x0u := hSu.out.cell x0 (by simp)
   have x1u := hSu.out.cell x1 (by simp)
   have x2u := hSu.out.cell x2 (by simp)
   have x3u := hSu.out.cell x3 (by simp)
   have y0u := hSu.out.cell y0 (by simp)
   have y1u := hSu.out.cell y1 (by simp)
   have y2u := hSu.out.cell y2 (by simp)
   have y3u := hSu.out.cell y3 (by simp)
   go_simp
   first | done | with_reducible rfl
  try simp only [Act.put, zA, zB, zC]
  refine zT (i := 11) (v := ?_) rfl ?_ hHeld ?_
  rotate_left 1
  ·intro u hSu
   obtain ⟨x0, x1, x2, x3⟩ := HA.out.1
   obtain ⟨y0, y1, y2, y3⟩ := HA.out.2
   have x0u := hSu.out.cell x0 (by simp)
   have x1u := hSu.out.cell x1 (by simp)
   have x2u := hSu.out.cell x2 (by simp)
   have x3u := hSu.out.cell x3 (by simp)
   have y0u := hSu.out.cell y0 (by simp)
   have y1u := hSu.out.cell y1 (by simp)
   have y2u := hSu.out.cell y2 (by simp)
   have y3u := hSu.out.cell y3 (by simp)
   go_simp
   first | done | with_reducible rfl
  try simp only [Act.put, zA, zB, zC]
  refine zT (i := 12) (v := ?_) rfl ?_ hHeld ?_
  rotate_left 1
  ·intro u hSu
   obtain ⟨x0, x1, x2, x3⟩ := HA.out.1
   obtain ⟨y0, y1, y2, y3⟩ := HA.out.2
   have x0u := hSu.out.cell x0 (by simp)
   have x1u := hSu.out.cell x1 (by simp)
   have x2u := hSu.out.cell x2 (by simp)
   have x3u := hSu.out.cell x3 (by simp)
   have y0u := hSu.out.cell y0 (by simp)
   have y1u := hSu.out.cell y1 (by simp)
   have y2u := hSu.out.cell y2 (by simp)
   have y3u := hSu.out.cell y3 (by simp)
   go_simp
   first | done | with_reducible rfl
  try simp only [Act.put, zA, zB, zC]
  refine zT (i := 13) (v := ?_) rfl ?_ hHeld ?_
  rotate_left 1
  ·intro u hSu
   obtain ⟨x0, x1, x2, x3⟩ := HA.out.1
   obtain ⟨y0, y1, y2, y3⟩ := HA.out.2
   have x0u := hSu.out.cell x0 (by simp)
   have x1u := hSu.out.cell x1 (by simp)
   have x2u := hSu.out.cell x2 (by simp)
   have x3u := hSu.out.cell x3 (by simp)
   have y0u := hSu.out.cell y0 (by simp)
   have y1u := hSu.out.cell y1 (by simp)
   have y2u := hSu.out.cell y2 (by simp)
   have y3u := hSu.out.cell y3 (by simp)
   go_simp
   first | done | with_reducible rfl
  try simp only [Act.put, zA, zB, zC]
  refine zT (i := 14) (v := ?_) rfl ?_ hHeld ?_
  rotate_left 1
  ·intro u hSu
   obtain ⟨x0, x1, x2, x3⟩ := HA.out.1
   obtain ⟨y0, y1, y2, y3⟩ := HA.out.2
   have x0u := hSu.out.cell x0 (by simp)
   have x1u := hSu.out.cell x1 (by simp)
   have x2u := hSu.out.cell x2 (by simp)
   have x3u := hSu.out.cell x3 (by simp)
   have y0u := hSu.out.cell y0 (by simp)
   have y1u := hSu.out.cell y1 (by simp)
   have y2u := hSu.out.cell y2 (by simp)
   have y3u := hSu.out.cell y3 (by simp)
   go_simp
   first | done | with_reducible rfl
  try simp only [Act.put, zA, zB, zC]
  refine zT (i := 15) (v := ?_) rfl ?_ hHeld ?_
  rotate_left 1
  ·intro u hSu
   obtain ⟨x0, x1, x2, x3⟩ := HA.out.1
   obtain ⟨y0, y1, y2, y3⟩ := HA.out.2
   have x0u := hSu.out.cell x0 (by simp)
   have x1u := hSu.out.cell x1 (by simp)
   have x2u := hSu.out.cell x2 (by simp)
   have x3u := hSu.out.cell x3 (by simp)
   have y0u := hSu.out.cell y0 (by simp)
   have y1u := hSu.out.cell y1 (by simp)
   have y2u := hSu.out.cell y2 (by simp)
   have y3u := hSu.out.cell y3 (by simp)
   go_simp
   first | done | with_reducible rfl
  try simp only [Act.put, zA, zB, zC]
  refine zT (i := 16) (v := ?_) rfl ?_ hHeld ?_
  rotate_left 1
  ·intro u hSu
   obtain ⟨x0, x1, x2, x3⟩ := HA.out.1
   obtain ⟨y0, y1, y2, y3⟩ := HA.out.2
   have x0u := hSu.out.cell x0 (by simp)
   have x1u := hSu.out.cell x1 (by simp)
   have x2u := hSu.out.cell x2 (by simp)
   have x3u := hSu.out.cell x3 (by simp)
   have y0u := hSu.out.cell y0 (by simp)
   have y1u := hSu.out.cell y1 (by simp)
   have y2u := hSu.out.cell y2 (by simp)
   have y3u := hSu.out.cell y3 (by simp)
   go_simp
   first | done | with_reducible rfl
  try simp only [Act.put, zA, zB, zC]
  refine zT (i := 17) (v := ?_) rfl ?_ hHeld ?_
  rotate_left 1
  ·intro u hSu
   obtain ⟨x0, x1, x2, x3⟩ := HA.out.1
   obtain ⟨y0, y1, y2, y3⟩ := HA.out.2
   have x0u := hSu.out.cell x0 (by simp)
   have x1u := hSu.out.cell x1 (by simp)
   have x2u := hSu.out.cell x2 (by simp)
   have x3u := hSu.out.cell x3 (by simp)
   have y0u := hSu.out.cell y0 (by simp)
   have y1u := hSu.out.cell y1 (by simp)
   have y2u := hSu.out.cell y2 (by simp)
   have y3u := hSu.out.cell y3 (by simp)
   go_simp
   first | done | with_reducible rfl
  try simp only [Act.put, zA, zB, zC]
  refine zT (i := 18) (v := ?_) rfl ?_ hHeld ?_
  rotate_left 1
  ·intro u hSu
   obtain ⟨x0, x1, x2, x3⟩ := HA.out.1
   obtain ⟨y0, y1, y2, y3⟩ := HA.out.2
   have x0u := hSu.out.cell x0 (by simp)
   have x1u := hSu.out.cell x1 (by simp)
   have x2u := hSu.out.cell x2 (by simp)
   have x3u := hSu.out.cell x3 (by simp)
   have y0u := hSu.out.cell y0 (by simp)
   have y1u := hSu.out.cell y1 (by simp)
   have y2u := hSu.out.cell y2 (by simp)
   have y3u := hSu.out.cell y3 (by simp)
   go_simp
   first | done | with_reducible rfl
  try simp only [Act.put, zA, zB, zC]
  refine zT (i := 19) (v := ?_) rfl ?_ hHeld ?_
  rotate_left 1
  ·intro u hSu
   obtain ⟨x0, x1, x2, x3⟩ := HA.out.1
   obtain ⟨y0, y1, y2, y3⟩ := HA.out.2
   have x0u := hSu.out.cell x0 (by simp)
   have x1u := hSu.out.cell x1 (by simp)
   have x2u := hSu.out.cell x2 (by simp)
   have x3u := hSu.out.cell x3 (by simp)
   have y0u := hSu.out.cell y0 (by simp)
   have y1u := hSu.out.cell y1 (by simp)
   have y2u := hSu.out.cell y2 (by simp)
   have y3u := hSu.out.cell y3 (by simp)
   go_simp
   first | done | with_reducible rfl
  try simp only [Act.put, zA, zB, zC]
  refine zT (i := 20) (v := .bool true) rfl ?_ hHeld ?_
  ·intro u hSu
   obtain ⟨x0, x1, x2, x3⟩ := HA.out.1
   obtain ⟨y0, y1, y2, y3⟩ := HA.out.2
   have x0u := hSu.out.cell x0 (by simp)
   have x1u := hSu.out.cell x1 (by simp)
   have x2u := hSu.out.cell x2 (by simp)
   have x3u := hSu.out.cell x3 (by simp)
   have y0u := hSu.out.cell y0 (by simp)
   have y1u := hSu.out.cell y1 (by simp)
   have y2u := hSu.out.cell y2 (by simp)
   have y3u := hSu.out.cell y3 (by simp)
   go_simp
   first | done | with_reducible rfl
  try simp only [Act.put, zA, zB, zC]
  refine zT (i := 21) (v := ?_) rfl ?_ hHeld ?_
  rotate_left 1
  ·intro u hSu
   obtain ⟨x0, x1, x2, x3⟩ := HA.out.1
   obtain ⟨y0, y1, y2, y3⟩ := HA.out.2
   have x0u := hSu.out.cell x0 (by simp)
   have x1u := hSu.out.cell x1 (by simp)
   have x2u := hSu.out.cell x2 (by simp)
   have x3u := hSu.out.cell x3 (by simp)
   have y0u := hSu.out.cell y0 (by simp)
   have y1u := hSu.out.cell y1 (by simp)
   have y2u := hSu.out.cell y2 (by simp)
   have y3u := hSu.out.cell y3 (by simp)
   go_simp
   first | done | with_reducible rfl
  try simp only [Act.put, zA, zB, zC]
  refine wpAnyH_done (by kernel_rfl) ?_ _
  have GW := Lib.hid (grown_trans G.out hHeld.out)
  clear hHeld
  go_wp2_with fail
  go_ret
  rw [HO.out]
  exact ⟨rfl, GW.out⟩
 have en' : (x.n != y.n) = false := by simpa using en
 have HN2 : Hid (∀ (i : Nat) (z : Tb), i < k + 1 → Ts[i]? = some z → cfTb y.s y.n z = false) := Lib.hid (fun i z hi hz => by
  rcases Nat.lt_or_ge i k with h | h
  ·exact HN.out i z h hz
  ·obtain rfl : i = k := by omega
   rw [HX.out] at hz
   obtain rfl := Option.some.inj hz
   unfold cfTb
   rw [es', en']; rfl)
 clear es en HN
 refine wp_region_held_drew (S := fun w' => Hid (w9.grownBy w' none)) (by kernel_rfl) (Lib.hid (grown_drew (grown_refl _ none))) (fun hHeld => ?_)
 refine zT (i := 0) (v := ?_) rfl ?_ hHeld ?_
 rotate_left 1
 ·intro u hSu
  obtain ⟨x0, x1, x2, x3⟩ := HA.out.1
  obtain ⟨y0, y1, y2, y3⟩ := HA.out.2
  have x0u := hSu.out.cell x0 (by simp)
  have x1u := hSu.out.cell x1 (by simp)
  have x2u := hSu.out.cell x2 (by simp)
  have x3u := hSu.out.cell x3 (by simp)
  have y0u := hSu.out.cell y0 (by simp)
  have y1u := hSu.out.cell y1 (by simp)
  have y2u := hSu.out.cell y2 (by simp)
  have y3u := hSu.out.cell y3 (by simp)
  go_simp
  first | done | with_reducible rfl
 try simp only [Act.put, zA, zB, zC]
 refine zT (i := 1) (v := ?_) rfl ?_ hHeld ?_
 rotate_left 1
 ·intro u hSu
  obtain ⟨x0, x1, x2, x3⟩ := HA.out.1
  obtain ⟨y0, y1, y2, y3⟩ := HA.out.2
  have x0u := hSu.out.cell x0 (by simp)
  have x1u := hSu.out.cell x1 (by simp)
  have x2u := hSu.out.cell x2 (by simp)
  have x3u := hSu.out.cell x3 (by simp)
  have y0u := hSu.out.cell y0 (by simp)
  have y1u := hSu.out.cell y1 (by simp)
  have y2u := hSu.out.cell y2 (by simp)
  have y3u := hSu.out.cell y3 (by simp)
  go_simp
  first | done | with_reducible rfl
 try simp only [Act.put, zA, zB, zC]
 refine zT (i := 2) (v := ?_) rfl ?_ hHeld ?_
 rotate_left 1
 ·intro u hSu
  obtain ⟨x0, x1, x2, x3⟩ := HA.out.1
  obtain ⟨y0, y1, y2, y3⟩ := HA.out.2
  have x0u := hSu.out.cell x0 (by simp)
  have x1u := hSu.out.cell x1 (by simp)
  have x2u := hSu.out.cell x2 (by simp)
  have x3u := hSu.out.cell x3 (by simp)
  have y0u := hSu.out.cell y0 (by simp)
  have y1u := hSu.out.cell y1 (by simp)
  have y2u := hSu.out.cell y2 (by simp)
  have y3u := hSu.out.cell y3 (by simp)
  go_simp
  first | done | with_reducible rfl
 try simp only [Act.put, zA, zB, zC]
 refine zT (i := 3) (v := ?_) rfl ?_ hHeld ?_
 rotate_left 1
 ·intro u hSu
  obtain ⟨x0, x1, x2, x3⟩ := HA.out.1
  obtain ⟨y0, y1, y2, y3⟩ := HA.out.2
  have x0u := hSu.out.cell x0 (by simp)
  have x1u := hSu.out.cell x1 (by simp)
  have x2u := hSu.out.cell x2 (by simp)
  have x3u := hSu.out.cell x3 (by simp)
  have y0u := hSu.out.cell y0 (by simp)
  have y1u := hSu.out.cell y1 (by simp)
  have y2u := hSu.out.cell y2 (by simp)
  have y3u := hSu.out.cell y3 (by simp)
  go_simp
  first | done | with_reducible rfl
 try simp only [Act.put, zA, zB, zC]
 refine zT (i := 4) (v := ?_) rfl ?_ hHeld ?_
 rotate_left 1
 ·intro u hSu
  obtain ⟨x0, x1, x2, x3⟩ := HA.out.1
  obtain ⟨y0, y1, y2, y3⟩ := HA.out.2
  have x0u := hSu.out.cell x0 (by simp)
  have x1u := hSu.out.cell x1 (by simp)
  have x2u := hSu.out.cell x2 (by simp)
  have x3u := hSu.out.cell x3 (by simp)
  have y0u := hSu.out.cell y0 (by simp)
  have y1u := hSu.out.cell y1 (by simp)
  have y2u := hSu.out.cell y2 (by simp)
  have y3u := hSu.out.cell y3 (by simp)
  go_simp
  first | done | with_reducible rfl
 try simp only [Act.put, zA, zB, zC]
 refine zT (i := 5) (v := ?_) rfl ?_ hHeld ?_
 rotate_left 1
 ·intro u hSu
  obtain ⟨x0, x1, x2, x3⟩ := HA.out.1
  obtain ⟨y0, y1, y2, y3⟩ := HA.out.2
  have x0u := hSu.out.cell x0 (by simp)
  have x1u := hSu.out.cell x1 (by simp)
  have x2u := hSu.out.cell x2 (by simp)
  have x3u := hSu.out.cell x3 (by simp)
  have y0u := hSu.out.cell y0 (by simp)
  have y1u := hSu.out.cell y1 (by simp)
  have y2u := hSu.out.cell y2 (by simp)
  have y3u := hSu.out.cell y3 (by simp)
  go_simp
  first | done | with_reducible rfl
 try simp only [Act.put, zA, zB, zC]
 refine zT (i := 6) (v := ?_) rfl ?_ hHeld ?_
 rotate_left 1
 ·intro u hSu
  obtain ⟨x0, x1, x2, x3⟩ := HA.out.1
  obtain ⟨y0, y1, y2, y3⟩ := HA.out.2
  have x0u := hSu.out.cell x0 (by simp)
  have x1u := hSu.out.cell x1 (by simp)
  have x2u := hSu.out.cell x2 (by simp)
  have x3u := hSu.out.cell x3 (by simp)
  have y0u := hSu.out.cell y0 (by simp)
  have y1u := hSu.out.cell y1 (by simp)
  have y2u := hSu.out.cell y2 (by simp)
  have y3u := hSu.out.cell y3 (by simp)
  go_simp
  first | done | with_reducible rfl
 try simp only [Act.put, zA, zB, zC]
 refine zT (i := 7) (v := ?_) rfl ?_ hHeld ?_
 rotate_left 1
 ·intro u hSu
  obtain ⟨x0, x1, x2, x3⟩ := HA.out.1
  obtain ⟨y0, y1, y2, y3⟩ := HA.out.2
  have x0u := hSu.out.cell x0 (by simp)
  have x1u := hSu.out.cell x1 (by simp)
  have x2u := hSu.out.cell x2 (by simp)
  have x3u := hSu.out.cell x3 (by simp)
  have y0u := hSu.out.cell y0 (by simp)
  have y1u := hSu.out.cell y1 (by simp)
  have y2u := hSu.out.cell y2 (by simp)
  have y3u := hSu.out.cell y3 (by simp)
  go_simp
  first | done | with_reducible rfl
 try simp only [Act.put, zA, zB, zC]
 refine zT (i := 8) (v := ?_) rfl ?_ hHeld ?_
 rotate_left 1
 ·intro u hSu
  obtain ⟨x0, x1, x2, x3⟩ := HA.out.1
  obtain ⟨y0, y1, y2, y3⟩ := HA.out.2
  have x0u := hSu.out.cell x0 (by simp)
  have x1u := hSu.out.cell x1 (by simp)
  have x2u := hSu.out.cell x2 (by simp)
  have x3u := hSu.out.cell x3 (by simp)
  have y0u := hSu.out.cell y0 (by simp)
  have y1u := hSu.out.cell y1 (by simp)
  have y2u := hSu.out.cell y2 (by simp)
  have y3u := hSu.out.cell y3 (by simp)
  go_simp
  first | done | with_reducible rfl
 try simp only [Act.put, zA, zB, zC]
 refine zT (i := 9) (v := .bool false) rfl ?_ hHeld ?_
 ·intro u hSu
  obtain ⟨x0, x1, x2, x3⟩ := HA.out.1
  obtain ⟨y0, y1, y2, y3⟩ := HA.out.2
  have x0u := hSu.out.cell x0 (by simp)
  have x1u := hSu.out.cell x1 (by simp)
  have x2u := hSu.out.cell x2 (by simp)
  have x3u := hSu.out.cell x3 (by simp)
  have y0u := hSu.out.cell y0 (by simp)
  have y1u := hSu.out.cell y1 (by simp)
  have y2u := hSu.out.cell y2 (by simp)
  have y3u := hSu.out.cell y3 (by simp)
  go_simp
  first | done | with_reducible rfl
 try simp only [Act.put, zA, zB, zC]
 refine zT (i := 10) (v := ?_) rfl ?_ hHeld ?_
 rotate_left 1
 ·intro u hSu
  obtain ⟨x0, x1, x2, x3⟩ := HA.out.1
  obtain ⟨y0, y1, y2, y3⟩ := HA.out.2
  have x0u := hSu.out.cell x0 (by simp)
  have x1u := hSu.out.cell x1 (by simp)
  have x2u := hSu.out.cell x2 (by simp)
  have x3u := hSu.out.cell x3 (by simp)
  have y0u := hSu.out.cell y0 (by simp)
  have y1u := hSu.out.cell y1 (by simp)
  have y2u := hSu.out.cell y2 (by simp)
  have y3u := hSu.out.cell y3 (by simp)
  go_simp
  first | done | with_reducible rfl
 try simp only [Act.put, zA, zB, zC]
 refine zT (i := 11) (v := ?_) rfl ?_ hHeld ?_
 rotate_left 1
 ·intro u hSu
  obtain ⟨x0, x1, x2, x3⟩ := HA.out.1
  obtain ⟨y0, y1, y2, y3⟩ := HA.out.2
  have x0u := hSu.out.cell x0 (by simp)
  have x1u := hSu.out.cell x1 (by simp)
  have x2u := hSu.out.cell x2 (by simp)
  have x3u := hSu.out.cell x3 (by simp)
  have y0u := hSu.out.cell y0 (by simp)
  have y1u := hSu.out.cell y1 (by simp)
  have y2u := hSu.out.cell y2 (by simp)
  have y3u := hSu.out.cell y3 (by simp)
  go_simp
  first | done | with_reducible rfl
 try simp only [Act.put, zA, zB, zC]
 refine zT (i := 12) (v := ?_) rfl ?_ hHeld ?_
 rotate_left 1
 ·intro u hSu
  obtain ⟨x0, x1, x2, x3⟩ := HA.out.1
  obtain ⟨y0, y1, y2, y3⟩ := HA.out.2
  have x0u := hSu.out.cell x0 (by simp)
  have x1u := hSu.out.cell x1 (by simp)
  have x2u := hSu.out.cell x2 (by simp)
  have x3u := hSu.out.cell x3 (by simp)
  have y0u := hSu.out.cell y0 (by simp)
  have y1u := hSu.out.cell y1 (by simp)
  have y2u := hSu.out.cell y2 (by simp)
  have y3u := hSu.out.cell y3 (by simp)
  go_simp
  first | done | with_reducible rfl
 try simp only [Act.put, zA, zB, zC]
 refine zT (i := 13) (v := ?_) rfl ?_ hHeld ?_
 rotate_left 1
 ·intro u hSu
  obtain ⟨x0, x1, x2, x3⟩ := HA.out.1
  obtain ⟨y0, y1, y2, y3⟩ := HA.out.2
  have x0u := hSu.out.cell x0 (by simp)
  have x1u := hSu.out.cell x1 (by simp)
  have x2u := hSu.out.cell x2 (by simp)
  have x3u := hSu.out.cell x3 (by simp)
  have y0u := hSu.out.cell y0 (by simp)
  have y1u := hSu.out.cell y1 (by simp)
  have y2u := hSu.out.cell y2 (by simp)
  have y3u := hSu.out.cell y3 (by simp)
  go_simp
  first | done | with_reducible rfl
 try simp only [Act.put, zA, zB, zC]
 refine zT (i := 14) (v := ?_) rfl ?_ hHeld ?_
 rotate_left 1
 ·intro u hSu
  obtain ⟨x0, x1, x2, x3⟩ := HA.out.1
  obtain ⟨y0, y1, y2, y3⟩ := HA.out.2
  have x0u := hSu.out.cell x0 (by simp)
  have x1u := hSu.out.cell x1 (by simp)
  have x2u := hSu.out.cell x2 (by simp)
  have x3u := hSu.out.cell x3 (by simp)
  have y0u := hSu.out.cell y0 (by simp)
  have y1u := hSu.out.cell y1 (by simp)
  have y2u := hSu.out.cell y2 (by simp)
  have y3u := hSu.out.cell y3 (by simp)
  go_simp
  first | done | with_reducible rfl
 try simp only [Act.put, zA, zB, zC]
 refine zT (i := 15) (v := ?_) rfl ?_ hHeld ?_
 rotate_left 1
 ·intro u hSu
  obtain ⟨x0, x1, x2, x3⟩ := HA.out.1
  obtain ⟨y0, y1, y2, y3⟩ := HA.out.2
  have x0u := hSu.out.cell x0 (by simp)
  have x1u := hSu.out.cell x1 (by simp)
  have x2u := hSu.out.cell x2 (by simp)
  have x3u := hSu.out.cell x3 (by simp)
  have y0u := hSu.out.cell y0 (by simp)
  have y1u := hSu.out.cell y1 (by simp)
  have y2u := hSu.out.cell y2 (by simp)
  have y3u := hSu.out.cell y3 (by simp)
  go_simp
  first | done | with_reducible rfl
 try simp only [Act.put, zA, zB, zC]
 refine zT (i := 16) (v := ?_) rfl ?_ hHeld ?_
 rotate_left 1
 ·intro u hSu
  obtain ⟨x0, x1, x2, x3⟩ := HA.out.1
  obtain ⟨y0, y1, y2, y3⟩ := HA.out.2
  have x0u := hSu.out.cell x0 (by simp)
  have x1u := hSu.out.cell x1 (by simp)
  have x2u := hSu.out.cell x2 (by simp)
  have x3u := hSu.out.cell x3 (by simp)
  have y0u := hSu.out.cell y0 (by simp)
  have y1u := hSu.out.cell y1 (by simp)
  have y2u := hSu.out.cell y2 (by simp)
  have y3u := hSu.out.cell y3 (by simp)
  go_simp
  first | done | with_reducible rfl
 try simp only [Act.put, zA, zB, zC]
 refine zT (i := 17) (v := ?_) rfl ?_ hHeld ?_
 rotate_left 1
 ·intro u hSu
  obtain ⟨x0, x1, x2, x3⟩ := HA.out.1
  obtain ⟨y0, y1, y2, y3⟩ := HA.out.2
  have x0u := hSu.out.cell x0 (by simp)
  have x1u := hSu.out.cell x1 (by simp)
  have x2u := hSu.out.cell x2 (by simp)
  have x3u := hSu.out.cell x3 (by simp)
  have y0u := hSu.out.cell y0 (by simp)
  have y1u := hSu.out.cell y1 (by simp)
  have y2u := hSu.out.cell y2 (by simp)
  have y3u := hSu.out.cell y3 (by simp)
  go_simp
  first | done | with_reducible rfl
 try simp only [Act.put, zA, zB, zC]
 refine zT (i := 18) (v := ?_) rfl ?_ hHeld ?_
 rotate_left 1
 ·intro u hSu
  obtain ⟨x0, x1, x2, x3⟩ := HA.out.1
  obtain ⟨y0, y1, y2, y3⟩ := HA.out.2
  have x0u := hSu.out.cell x0 (by simp)
  have x1u := hSu.out.cell x1 (by simp)
  have x2u := hSu.out.cell x2 (by simp)
  have x3u := hSu.out.cell x3 (by simp)
  have y0u := hSu.out.cell y0 (by simp)
  have y1u := hSu.out.cell y1 (by simp)
  have y2u := hSu.out.cell y2 (by simp)
  have y3u := hSu.out.cell y3 (by simp)
  go_simp
  first | done | with_reducible rfl
 try simp only [Act.put, zA, zB, zC]
 refine zT (i := 19) (v := ?_) rfl ?_ hHeld ?_
 rotate_left 1
 ·intro u hSu
  obtain ⟨x0, x1, x2, x3⟩ := HA.out.1
  obtain ⟨y0, y1, y2, y3⟩ := HA.out.2
  have x0u := hSu.out.cell x0 (by simp)
  have x1u := hSu.out.cell x1 (by simp)
  have x2u := hSu.out.cell x2 (by simp)
  have x3u := hSu.out.cell x3 (by simp)
  have y0u := hSu.out.cell y0 (by simp)
  have y1u := hSu.out.cell y1 (by simp)
  have y2u := hSu.out.cell y2 (by simp)
  have y3u := hSu.out.cell y3 (by simp)
  go_simp
  first | done | with_reducible rfl
 try simp only [Act.put, zA, zB, zC]
 refine zT (i := 20) (v := .bool false) rfl ?_ hHeld ?_
 ·intro u hSu
  obtain ⟨x0, x1, x2, x3⟩ := HA.out.1
  obtain ⟨y0, y1, y2, y3⟩ := HA.out.2
  have x0u := hSu.out.cell x0 (by simp)
  have x1u := hSu.out.cell x1 (by simp)
  have x2u := hSu.out.cell x2 (by simp)
  have x3u := hSu.out.cell x3 (by simp)
  have y0u := hSu.out.cell y0 (by simp)
  have y1u := hSu.out.cell y1 (by simp)
  have y2u := hSu.out.cell y2 (by simp)
  have y3u := hSu.out.cell y3 (by simp)
  go_simp
  first | done | with_reducible rfl
 try simp only [Act.put, zA, zB, zC]
 refine zT (i := 21) (v := ?_) rfl ?_ hHeld ?_
 rotate_left 1
 ·intro u hSu
  obtain ⟨x0, x1, x2, x3⟩ := HA.out.1
  obtain ⟨y0, y1, y2, y3⟩ := HA.out.2
  have x0u := hSu.out.cell x0 (by simp)
  have x1u := hSu.out.cell x1 (by simp)
  have x2u := hSu.out.cell x2 (by simp)
  have x3u := hSu.out.cell x3 (by simp)
  have y0u := hSu.out.cell y0 (by simp)
  have y1u := hSu.out.cell y1 (by simp)
  have y2u := hSu.out.cell y2 (by simp)
  have y3u := hSu.out.cell y3 (by simp)
  go_simp
  first | done | with_reducible rfl
 try simp only [Act.put, zA, zB, zC]
 refine wpAnyH_done (by kernel_rfl) ?_ _
 have GW := Lib.hid (grown_trans G.out hHeld.out)
 clear hHeld
 go_wp2_with fail
 exact ⟨⟨k + 1, by omega, Or.inl (by omega), congrArg _ (by omega), HN2, GW⟩, by simp only [RowKit.intOf]; omega⟩
end Go.Proofs.YtahafijpcmphaaaGreat

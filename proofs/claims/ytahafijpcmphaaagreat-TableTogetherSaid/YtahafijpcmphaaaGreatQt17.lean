/- Parts of the proof, packed: MaRHp, MaBit, MaRBt, TaRck, MaRMk, MaNxt. -/
import Derived.Test.YtahafijpcmphaaaGreatQt14
import Derived.Test.YtahafijpcmphaaaGreatQt10
import Derived.Test.YtahafijpcmphaaaGreatQt4
/- tables, the reference's functions: Hop. -/
namespace Go.Proofs.YtahafijpcmphaaaGreat
set_option maxRecDepth 100000
open Go.RowKit Go.Maps Bs
end Go.Proofs.YtahafijpcmphaaaGreat

/- masks, the reference's Bits: the mathematics. -/
namespace Go.Proofs.YtahafijpcmphaaaGreat
set_option maxRecDepth 100000
open Go.RowKit Go.Maps Bs
end Go.Proofs.YtahafijpcmphaaaGreat

/- masks, the reference's functions: Bits. -/
namespace Go.Proofs.YtahafijpcmphaaaGreat
set_option maxRecDepth 100000
open Go.RowKit Go.Maps Bs
structure BX (W : World) (r s n : Int) (p : Option Addr) (c : Nat) (L : List Rw) (w : World) : Prop where
 bx : w.heap[W.heap.size]? = some (.cells #[.int .i64 r, .int .i64 s, .int .i64 n, .slice p L.length c] 25 (0, 0))
 rd : RdW w (· < w.heap.size) p c L
 gr : W.grownBy w none
theorem BX.keep {W w w1 : World} {r s n : Int} {p : Option Addr} {c : Nat} {L : List Rw} (h : BX W r s n p c L w) (g : w.grownBy w1 none) : BX W r s n p c L w1 :=
 ⟨kept_row h.bx g (by simp), (h.rd.keep g).mono (fun b (hb : b < w.heap.size) => Nat.lt_of_lt_of_le hb g.size), grown_trans h.gr g⟩
theorem bx_start {w : World} {r s n : Int} {p : Option Addr} {c : Nat} {L : List Rw} (hR : RdW w (· < w.heap.size) p c L) : BX w r s n p c L (w.alloc (.cells #[.int .i64 r, .int .i64 s, .int .i64 n, .slice p L.length c] 25)) := by
 obtain ⟨k1, k2⟩ := tone_box w #[.int .i64 r, .int .i64 s, .int .i64 n, .slice p L.length c] 25
 exact ⟨k1, (hR.keep k2).mono (fun b (hb : b < w.heap.size) => Nat.lt_of_lt_of_le hb k2.size), k2⟩
end Go.Proofs.YtahafijpcmphaaaGreat

/- tables, the reference's functions: Check. -/
namespace Go.Proofs.YtahafijpcmphaaaGreat
set_option maxRecDepth 100000
open Go.RowKit Go.Maps Bs
theorem ck_hd {r s n : Int} {L : List Rw} (h : hdT r s n L = true) : ckT r s n L = 2 := by unfold ckT; rw [if_pos h]
theorem ck_wr {r s n : Int} {L : List Rw} (h : hdT r s n L = false) (h1 : L.any wrW = true) : ckT r s n L = 2 := by unfold ckT; rw [if_neg (by rw [h]; simp), if_pos h1]
theorem ck_l1 {r s n : Int} {L : List Rw} (h : hdT r s n L = false) (h1 : L.any wrW = false) (h2 : 256 < L.length) : ckT r s n L = 3 := by
 unfold ckT; rw [if_neg (by rw [h]; simp), if_neg (by rw [h1]; simp), if_pos h2]
theorem ck_lg {r s n : Int} {L : List Rw} (h : hdT r s n L = false) (h1 : L.any wrW = false) (h2 : ¬ 256 < L.length) (h3 : L.any lgW = true) : ckT r s n L = 3 := by
 unfold ckT; rw [if_neg (by rw [h]; simp), if_neg (by rw [h1]; simp), if_neg h2, if_pos h3]
theorem ck_or {r s n : Int} {L : List Rw} (h : hdT r s n L = false) (h1 : L.any wrW = false) (h2 : ¬ 256 < L.length) (h3 : L.any lgW = false) (h4 : ascB ltW L = false ∨ L.any dsW = true) : ckT r s n L = 25 := by
 unfold ckT; rw [if_neg (by rw [h]; simp), if_neg (by rw [h1]; simp), if_neg h2, if_neg (by rw [h3]; simp)]
 by_cases h5 : ascB ltW L = false
 ·rw [if_pos h5]
 ·rw [if_neg h5, if_pos (h4.resolve_left h5)]
theorem ck_cf {r s n : Int} {L : List Rw} (h : hdT r s n L = false) (h1 : L.any wrW = false) (h2 : ¬ 256 < L.length) (h3 : L.any lgW = false) (h4 : ascB ltW L = true) (h5 : L.any dsW = false) (h6 : L.any (cfW r) = true) : ckT r s n L = 8 := by
 unfold ckT; rw [if_neg (by rw [h]; simp), if_neg (by rw [h1]; simp), if_neg h2, if_neg (by rw [h3]; simp), if_neg (by rw [h4]; simp), if_neg (by rw [h5]; simp), if_pos h6]
theorem ck_z {r s n : Int} {L : List Rw} (h : hdT r s n L = false) (h1 : L.any wrW = false) (h2 : ¬ 256 < L.length) (h3 : L.any lgW = false) (h4 : ascB ltW L = true) (h5 : L.any dsW = false) (h6 : L.any (cfW r) = false) : ckT r s n L = 0 := by
 unfold ckT; rw [if_neg (by rw [h]; simp), if_neg (by rw [h1]; simp), if_neg h2, if_neg (by rw [h3]; simp), if_neg (by rw [h4]; simp), if_neg (by rw [h5]; simp), if_neg (by rw [h6]; simp)]
def AscK {α : Type} (f : α → α → Bool) (l : List α) (k : Nat) : Prop := ∀ i x y, i + 1 < k → l[i]? = some x → l[i + 1]? = some y → f x y = true
theorem ascK_end {α : Type} {f : α → α → Bool} {l : List α} (h : AscK f l l.length) : ascB f l = true :=
 (ascB_iff f l).2 fun i x y hx hy => h i x y (by
  by_cases hz : i + 1 < l.length
  ·exact hz
  ·rw [List.getElem?_eq_none (by omega)] at hy; cases hy) hx hy
theorem ascK_next {α : Type} {f : α → α → Bool} {l : List α} {k : Nat} (h : AscK f l (k + 1)) {x y : α} (hx : l[k]? = some x) (hy : l[k + 1]? = some y) (hf : f x y = true) : AscK f l (k + 2) := by
 intro i a b hi ha hb
 by_cases e : i = k
 ·subst e
  rw [hx] at ha; rw [hy] at hb
  cases ha; cases hb
  exact hf
 ·exact h i a b (by omega) ha hb
theorem asc_miss {α : Type} {f : α → α → Bool} {l : List α} {k : Nat} {x y : α} (hx : l[k]? = some x) (hy : l[k + 1]? = some y) (hf : f x y = false) : ascB f l = false := by
 cases h : ascB f l with
 | false => rfl
 | true => have := (ascB_iff f l).1 h k x y hx hy; rw [hf] at this; cases this
set_option maxHeartbeats 12800000 in
theorem rck11_any (r s n : Int) (p : Option Addr) (c : Nat) (L : List Rw) (w : World) (hR : RdW w (· < w.heap.size) p c L) (hm : L.length ≤ 9223372036854775807) :
  Calls Tryz.prog 14 #[.agg #[.int .i64 r, .int .i64 s, .int .i64 n, .slice p L.length c]] w fun e w' => e = .returned (.int .i64 (ckT r s n L)) ∧ w.grownBy w' none := by
 have H0 := Lib.hid (bx_start (r := r) (s := s) (n := n) hR)
 clear hR
 go_enter Tryz.func14, Tryz.ntmps14
 go_upto_region 1 with fail
 generalize w.alloc _ = wa at *
 generalize (Value.agg #[Value.int .i64 r, Value.int .i64 s, Value.int .i64 n, Value.slice p L.length c]) = vz
 obtain ⟨d0, d1, d2, d3⟩ := row4T H0.out.bx
 have HH : Hid (hdT r s n L = !(inV r 1 99 && inV s 0 7 && (vl n || (decide (n = 0) && decide (L.length = 0))))) := Lib.hid rfl
 obtain ⟨b1, hb1⟩ : ∃ b, inV r 1 99 = b := ⟨_, rfl⟩
 obtain ⟨b2, hb2⟩ : ∃ b, inV s 0 7 = b := ⟨_, rfl⟩
 obtain ⟨b3, hb3⟩ : ∃ b, vl n = b := ⟨_, rfl⟩
 rw [hb1, hb2, hb3] at HH
 have HB := Lib.hid (And.intro hb1 (And.intro hb2 hb3))
 clear hb1 hb2 hb3
 go_cut [36] from 10 to 35 (fun v wx => v = .bool (hdT r s n L) ∧ wa = wx)
 case first =>
  go_wp2_with fail
  refine (rin11_any r 1 99 wa).mono ?_
  rintro e w' ⟨rfl, rfl⟩
  rw [HB.out.1]
  cases b1
  case false =>
   go_wp2_with fail
   go_meet
   exact ⟨by rw [HH.out]; rfl, rfl⟩
  go_wp2_with fail
  refine (rin11_any s 0 7 wa).mono ?_
  rintro e w' ⟨rfl, rfl⟩
  rw [HB.out.2.1]
  cases b2
  case false =>
   go_wp2_with fail
   go_meet
   exact ⟨by rw [HH.out]; rfl, rfl⟩
  go_wp2_with fail
  refine (vlr10_lit n b3 HB.out.2.2 wa).mono ?_
  rintro e w' ⟨rfl, rfl⟩
  cases b3
  case true =>
   go_wp2_with fail
   go_meet
   exact ⟨by rw [HH.out]; rfl, rfl⟩
  by_cases n0 : n = 0
  case neg =>
   have n0' : (n != 0) = true := by simpa using n0
   have HE : Hid (hdT r s n L = true) := Lib.hid (by rw [HH.out]; simp [n0])
   clear n0
   go_wp2_with fail
   go_meet
   exact ⟨by rw [HE.out]; first | done | rfl | (simp; done) | (simp; omega), rfl⟩
  have n0' : (n != 0) = false := by simpa using n0
  by_cases l0 : 0 < L.length
  ·have l0' : (0 : Int) < (L.length : Int) := by omega
   have HE : Hid (hdT r s n L = true) := Lib.hid (by rw [HH.out]; simp [show ¬ L.length = 0 by omega])
   clear n0
   go_wp2_with fail
   go_meet
   exact ⟨by rw [HE.out]; first | done | rfl | (simp; done) | (simp; omega), rfl⟩
  ·have l0' : ¬ (0 : Int) < (L.length : Int) := by omega
   have HE : Hid (hdT r s n L = false) := Lib.hid (by rw [HH.out]; simp [n0, show L.length = 0 by omega])
   clear n0
   go_wp2_with fail
   go_meet
   exact ⟨by rw [HE.out]; first | done | rfl | (simp; done) | (simp; omega), rfl⟩
 case rest =>
 obtain ⟨rfl, rfl⟩ := hcut
 clear HB HH
 cases hhd : hdT r s n L
 case true =>
  go_wp2_with fail
  go_ret
  exact ⟨by rw [ck_hd hhd]; rfl, H0.out.gr⟩
 have HD := Lib.hid hhd
 clear hhd d0 d1 d2 d3
 go_wp2_with fail
 go_loopw [3] (fun a wr => ∃ k : Nat, k ≤ L.length ∧ a = .int .i64 (k : Int) ∧ Hid ((L.take k).any wrW = false) ∧ Hid (BX w r s n p c L wr)) (fun a _ => L.length - (RowKit.intOf a).toNat)
 case atStart => exact ⟨0, Nat.zero_le _, rfl, Lib.hid (by simp), H0⟩
 case round =>
 obtain ⟨k, hk, rfl, HN, K⟩ := hrel
 clear H0
 obtain ⟨w2, hw2⟩ : ∃ w2, w2 = wr := ⟨_, rfl⟩
 rw [← hw2] at K ⊢
 clear hw2
 obtain ⟨d0, d1, d2, d3⟩ := row4T K.out.bx
 by_cases hlt : k < L.length
 case pos =>
  have hlt' : (k : Int) < (L.length : Int) := by omega
  obtain ⟨x, hx⟩ : ∃ x, L[k]? = some x := ⟨_, List.getElem?_eq_getElem hlt⟩
  obtain ⟨-, b, off, rfl, -, hc⟩ := rw_cells K.out.rd.rd (by omega)
  obtain ⟨a0, a1⟩ := hc k x hx
  have HX := Lib.hid (And.intro hx (K.out.rd.ok x (List.mem_of_getElem? hx)))
  have hmx : x.nx.length ≤ 9223372036854775807 := Nat.le_trans HX.out.2.hc.1 HX.out.2.hc.2
  have HLX := Lib.hid hx
  clear hc hx
  have HWX : Hid (wrW x = (!inV x.id 1 256 || x.nx.any fun z => !inV z 1 99)) := Lib.hid rfl
  go_wp2_with fail
  refine (rin11_any x.id 1 256 w2).mono ?_
  rintro e w' ⟨rfl, rfl⟩
  cases hid : inV x.id 1 256
  case false =>
   rw [hid] at HWX
   go_wp2_with fail
   go_ret
   exact ⟨by rw [ck_wr HD.out (any_at HX.out.1 (by rw [HWX.out]; rfl))]; rfl, K.out.gr⟩
  rw [hid] at HWX
  clear hid
  go_wp2_with fail
  clear a0 a1 d0 d1 d2 d3
  go_loopw [4] (fun a wr => ∃ j : Nat, j ≤ x.nx.length ∧ a = .int .i64 (j : Int) ∧ Hid ((x.nx.take j).any (fun z => !inV z 1 99) = false) ∧ Hid (BX w r s n (some ⟨b, off, none⟩) c L wr)) (fun a _ => x.nx.length - (RowKit.intOf a).toNat)
  case atStart => exact ⟨0, Nat.zero_le _, rfl, Lib.hid (by simp), K⟩
  case round =>
  clear K HX
  obtain ⟨j, hj, rfl, HJ, K⟩ := hrel
  obtain ⟨w7, hw7⟩ : ∃ w7, w7 = wr := ⟨_, rfl⟩
  rw [← hw7] at K ⊢
  clear hw7
  obtain ⟨d0, d1, d2, d3⟩ := row4T K.out.bx
  obtain ⟨-, b', off', hpe, -, hc⟩ := rw_cells K.out.rd.rd (by omega)
  injection hpe with hpe
  injection hpe with e1 e2
  subst e1
  subst e2
  have hx : L[k]? = some x := HLX.out
  obtain ⟨a0, a1⟩ := hc k x hx
  have HX := Lib.hid (And.intro hx (K.out.rd.ok x (List.mem_of_getElem? hx)))
  clear hc hx
  by_cases hjl : j < x.nx.length
  case neg =>
   obtain rfl : j = x.nx.length := by omega
   have hnj : ¬ (x.nx.length : Int) < (x.nx.length : Int) := by omega
   have HN2 : Hid ((L.take (k + 1)).any wrW = false) := Lib.hid (any_take HN.out HX.out.1 (by rw [HWX.out, any_end HJ.out (Nat.le_refl _)]; rfl))
   go_wp2_with fail
   exact ⟨⟨k + 1, by omega, congrArg _ (by omega), HN2, K⟩, by simp only [RowKit.intOf]; omega⟩
  have hjl' : (j : Int) < (x.nx.length : Int) := by omega
  obtain ⟨z, hz⟩ : ∃ z, x.nx[j]? = some z := ⟨_, List.getElem?_eq_getElem hjl⟩
  obtain ⟨-, bz, oz, hpz, -, hcz⟩ := tvT_at HX.out.2.rd hz
  have f0 := hcz j z hz
  rw [hpz] at a1
  have HZ := Lib.hid hz
  clear hcz hz
  go_wp2_with fail
  refine (rin11_any z 1 99 w7).mono ?_
  rintro e w' ⟨rfl, rfl⟩
  cases hid : inV z 1 99
  case false =>
   have HE := Lib.hid hid
   clear hid
   go_wp2_with fail
   go_ret
   exact ⟨by rw [ck_wr HD.out (any_at HX.out.1 (by rw [HWX.out, any_at HZ.out (by rw [HE.out]; rfl)]; rfl))]; rfl, K.out.gr⟩
  have HJ2 : Hid ((x.nx.take (j + 1)).any (fun z => !inV z 1 99) = false) := Lib.hid (any_take HJ.out HZ.out (by rw [hid]; rfl))
  clear hid
  go_wp2_with fail
  exact ⟨⟨j + 1, by omega, congrArg _ (by omega), HJ2, K⟩, by simp only [RowKit.intOf]; omega⟩
 obtain rfl : k = L.length := by omega
 have hnl : ¬ (L.length : Int) < (L.length : Int) := by omega
 have HW := Lib.hid (any_end HN.out (Nat.le_refl _))
 clear HN hlt hk
 by_cases h256 : 256 < L.length
 case pos =>
  have h256' : (256 : Int) < (L.length : Int) := by omega
  go_wp2_with fail
  go_ret
  exact ⟨by rw [ck_l1 HD.out HW.out h256]; rfl, K.out.gr⟩
 have h256' : ¬ (256 : Int) < (L.length : Int) := by omega
 go_wp2_with fail
 clear hnl d0 d1 d2 d3
 go_loopw [5] (fun a wr => ∃ k : Nat, k ≤ L.length ∧ a = .int .i64 (k : Int) ∧ Hid ((L.take k).any lgW = false) ∧ Hid (BX w r s n p c L wr)) (fun a _ => L.length - (RowKit.intOf a).toNat)
 case atStart => exact ⟨0, Nat.zero_le _, rfl, Lib.hid (by simp), K⟩
 case round =>
 clear K
 obtain ⟨k, hk, rfl, HN, K⟩ := hrel
 obtain ⟨w3, hw3⟩ : ∃ w3, w3 = wr := ⟨_, rfl⟩
 rw [← hw3] at K ⊢
 clear hw3
 obtain ⟨d0, d1, d2, d3⟩ := row4T K.out.bx
 by_cases hlt : k < L.length
 case pos =>
  have hlt' : (k : Int) < (L.length : Int) := by omega
  obtain ⟨x, hx⟩ : ∃ x, L[k]? = some x := ⟨_, List.getElem?_eq_getElem hlt⟩
  obtain ⟨-, b, off, rfl, -, hc⟩ := rw_cells K.out.rd.rd (by omega)
  obtain ⟨a0, a1⟩ := hc k x hx
  have HX := Lib.hid (And.intro hx (K.out.rd.ok x (List.mem_of_getElem? hx)))
  have hmx : x.nx.length ≤ 9223372036854775807 := Nat.le_trans HX.out.2.hc.1 HX.out.2.hc.2
  clear hc hx
  by_cases hl24 : 24 < x.nx.length
  case pos =>
   have hl24' : (24 : Int) < (x.nx.length : Int) := by omega
   have HE : Hid (lgW x = true) := Lib.hid (by unfold lgW; simp [hl24])
   go_wp2_with fail
   go_ret
   exact ⟨by rw [ck_lg HD.out HW.out h256 (any_at HX.out.1 HE.out)]; rfl, K.out.gr⟩
  have hl24' : ¬ (24 : Int) < (x.nx.length : Int) := by omega
  have HN2 : Hid ((L.take (k + 1)).any lgW = false) := Lib.hid (any_take HN.out HX.out.1 (by unfold lgW; simp; omega))
  go_wp2_with fail
  exact ⟨⟨k + 1, by omega, congrArg _ (by omega), HN2, K⟩, by simp only [RowKit.intOf]; omega⟩
 obtain rfl : k = L.length := by omega
 have hnl : ¬ (L.length : Int) < (L.length : Int) := by omega
 have HG := Lib.hid (any_end HN.out (Nat.le_refl _))
 clear HN hlt hk
 go_wp2_with fail
 clear hnl d0 d1 d2 d3
 go_loopw [6] (fun a wr => ∃ k : Nat, k ≤ L.length ∧ a = .int .i64 (k : Int) ∧ Hid (AscK ltW L k) ∧ Hid ((L.take k).any dsW = false) ∧ Hid (BX w r s n p c L wr)) (fun a _ => L.length - (RowKit.intOf a).toNat)
 case atStart => exact ⟨0, Nat.zero_le _, rfl, Lib.hid (fun i x y hi => by omega), Lib.hid (by simp), K⟩
 case round =>
 clear K
 obtain ⟨k, hk, rfl, HA, HN, K⟩ := hrel
 obtain ⟨w4, hw4⟩ : ∃ w4, w4 = wr := ⟨_, rfl⟩
 rw [← hw4] at K ⊢
 clear hw4
 obtain ⟨d0, d1, d2, d3⟩ := row4T K.out.bx
 by_cases hlt : k < L.length
 case pos =>
  have hlt' : (k : Int) < (L.length : Int) := by omega
  obtain ⟨x, hx⟩ : ∃ x, L[k]? = some x := ⟨_, List.getElem?_eq_getElem hlt⟩
  obtain ⟨-, b, off, rfl, -, hc⟩ := rw_cells K.out.rd.rd (by omega)
  obtain ⟨a0, a1⟩ := hc k x hx
  have HX := Lib.hid (And.intro hx (K.out.rd.ok x (List.mem_of_getElem? hx)))
  have hmx : x.nx.length ≤ 9223372036854775807 := Nat.le_trans HX.out.2.hc.1 HX.out.2.hc.2
  have HLX := Lib.hid hx
  have HHC := Lib.hid hc
  clear hc hx
  go_upto_region 24 with fail
  cases k with
  | zero =>
   have HA2 : Hid (AscK ltW L (0 + 1)) := Lib.hid (fun i a b hi => by omega)
   refine wp_region_held_drew (S := fun w' => Hid (w4.grownBy w' none)) (by kernel_rfl) (Lib.hid (grown_drew (grown_refl _ none))) (fun hHeld => ?_)
   refine zT (i := 0) (v := ?_) rfl ?_ hHeld ?_
   rotate_left 1
   ·intro u hSu
    go_simp
    first | done | with_reducible rfl
   try simp only [Act.put, zA, zB, zC]
   refine zT (i := 1) (v := ?_) rfl ?_ hHeld ?_
   rotate_left 1
   ·intro u hSu
    go_simp
    first | done | with_reducible rfl
   try simp only [Act.put, zA, zB, zC]
   refine zT (i := 2) (v := ?_) rfl ?_ hHeld ?_
   rotate_left 1
   ·intro u hSu
    go_simp
    first | done | with_reducible rfl
   try simp only [Act.put, zA, zB, zC]
   refine zS (i := 3) rfl hHeld ?_
   try simp only [Act.put, zA, zB, zC]
   refine zS (i := 4) rfl hHeld ?_
   try simp only [Act.put, zA, zB, zC]
   refine zS (i := 5) rfl hHeld ?_
   try simp only [Act.put, zA, zB, zC]
   refine zS (i := 6) rfl hHeld ?_
   try simp only [Act.put, zA, zB, zC]
   refine zS (i := 7) rfl hHeld ?_
   try simp only [Act.put, zA, zB, zC]
   refine zS (i := 8) rfl hHeld ?_
   try simp only [Act.put, zA, zB, zC]
   refine zS (i := 9) rfl hHeld ?_
   try simp only [Act.put, zA, zB, zC]
   refine zS (i := 10) rfl hHeld ?_
   try simp only [Act.put, zA, zB, zC]
   refine zS (i := 11) rfl hHeld ?_
   try simp only [Act.put, zA, zB, zC]
   refine zS (i := 12) rfl hHeld ?_
   try simp only [Act.put, zA, zB, zC]
   refine zS (i := 13) rfl hHeld ?_
   try simp only [Act.put, zA, zB, zC]
   refine zS (i := 14) rfl hHeld ?_
   try simp only [Act.put, zA, zB, zC]
   refine zS (i := 15) rfl hHeld ?_
   try simp only [Act.put, zA, zB, zC]
   refine zS (i := 16) rfl hHeld ?_
   try simp only [Act.put, zA, zB, zC]
   refine zT (i := 17) (v := ?_) rfl ?_ hHeld ?_
   rotate_left 1
   ·intro u hSu
    go_simp
    first | done | with_reducible rfl
   try simp only [Act.put, zA, zB, zC]
   refine wpAnyH_done (by kernel_rfl) ?_ _
   have HK2 := Lib.hid (K.out.keep hHeld.out)
   clear hHeld K a0 a1 d0 d1 d2 d3
   generalize w4.drew = w6 at *
   go_wp2_with fail
   go_loopw [8] (fun a wr => ∃ j : Nat, 1 ≤ j ∧ (j ≤ x.nx.length ∨ j = 1) ∧ a = .int .i64 (j : Int) ∧ Hid (AscK ltI x.nx j) ∧ Hid (BX w r s n (some ⟨b, off, none⟩) c L wr)) (fun a _ => x.nx.length + 1 - (RowKit.intOf a).toNat)
   case atStart => exact ⟨1, Nat.le_refl _, Or.inr rfl, rfl, Lib.hid (fun i x y hi => by omega), HK2⟩
   case round =>
   clear HK2 HX
   obtain ⟨j, hj1, hj, rfl, HJ, K⟩ := hrel
   obtain ⟨w7, hw7⟩ : ∃ w7, w7 = wr := ⟨_, rfl⟩
   rw [← hw7] at K ⊢
   clear hw7
   have HX := Lib.hid (And.intro HLX.out (K.out.rd.ok x (List.mem_of_getElem? HLX.out)))
   by_cases hjl : j < x.nx.length
   case neg =>
    have hnj : ¬ (j : Int) < (x.nx.length : Int) := by omega
    have HN2 : Hid ((L.take (0 + 1)).any dsW = false) := Lib.hid (any_take HN.out HX.out.1 (by
     unfold dsW
     rw [ascK_end (f := ltI) (l := x.nx) (fun i a b hi => HJ.out i a b (by omega))]; rfl))
    go_wp2_with fail
    exact ⟨⟨0 + 1, by omega, congrArg _ (by omega), HA2, HN2, K⟩, by simp only [RowKit.intOf]; omega⟩
   obtain ⟨i, rfl⟩ : ∃ i, j = i + 1 := ⟨j - 1, by omega⟩
   have hjl' : (((i + 1 : Nat)) : Int) < (x.nx.length : Int) := by omega
   obtain ⟨y, hy⟩ : ∃ y, x.nx[i]? = some y := ⟨_, List.getElem?_eq_getElem (by omega)⟩
   obtain ⟨z, hz⟩ : ∃ z, x.nx[i + 1]? = some z := ⟨_, List.getElem?_eq_getElem hjl⟩
   obtain ⟨-, bz, oz, hpz, -, hcz⟩ := tvT_at HX.out.2.rd hz
   have f0 := hcz i y hy
   have f1 := hcz (i + 1) z hz
   rw [hpz] at *
   have HZ := Lib.hid (And.intro hy hz)
   clear hcz hz hy hpz
   have hi1 : (i : Int) < (x.nx.length : Int) := by omega
   have hi0 : (0 : Int) ≤ (i : Int) := by omega
   have hi00 : (0 : Int) ≤ ((i + 1 : Nat) : Int) := by omega
   have hi000 : (0 : Int) ≤ (i : Int) + 1 := by omega
   have hi001 : (i : Int) + 1 < (x.nx.length : Int) := by omega
   go_upto_region 29 with fail
   by_cases hyz : y < z
   case pos =>
    refine wp_region_held_drew (S := fun w' => Hid (w7.grownBy w' none)) (by kernel_rfl) (Lib.hid (grown_drew (grown_refl _ none))) (fun hHeld => ?_)
    refine zT (i := 0) (v := ?_) rfl ?_ hHeld ?_
    rotate_left 1
    ·intro u hSu
     go_simp
     first | done | with_reducible rfl
    try simp only [Act.put, zA, zB, zC]
    refine zT (i := 1) (v := ?_) rfl ?_ hHeld ?_
    rotate_left 1
    ·intro u hSu
     go_simp
     first | done | with_reducible rfl
    try simp only [Act.put, zA, zB, zC]
    refine zT (i := 2) (v := .int .i64 (i : Int)) rfl ?_ hHeld ?_
    ·intro u hSu
     go_simp
     first | done | with_reducible rfl | (rw [IntKind.wrap_i64]; omega) | omega
    try simp only [Act.put, zA, zB, zC]
    refine zT (i := 3) (v := ?_) rfl ?_ hHeld ?_
    rotate_left 1
    ·intro u hSu
     go_simp
     first | done | with_reducible rfl
    try simp only [Act.put, zA, zB, zC]
    refine zT (i := 4) (v := ?_) rfl ?_ hHeld ?_
    rotate_left 1
    ·intro u hSu
     have f0u := hSu.out.cell f0 (by simp)
     have f1u := hSu.out.cell f1 (by simp)
     go_simp
     first | done | with_reducible rfl
    try simp only [Act.put, zA, zB, zC]
    refine zT (i := 5) (v := ?_) rfl ?_ hHeld ?_
    rotate_left 1
    ·intro u hSu
     go_simp
     first | done | with_reducible rfl
    try simp only [Act.put, zA, zB, zC]
    refine zT (i := 6) (v := ?_) rfl ?_ hHeld ?_
    rotate_left 1
    ·intro u hSu
     go_simp
     first | done | with_reducible rfl
    try simp only [Act.put, zA, zB, zC]
    refine zT (i := 7) (v := ?_) rfl ?_ hHeld ?_
    rotate_left 1
    ·intro u hSu
     go_simp
     first | done | with_reducible rfl
    try simp only [Act.put, zA, zB, zC]
    refine zT (i := 8) (v := ?_) rfl ?_ hHeld ?_
    rotate_left 1
    ·intro u hSu
     have f0u := hSu.out.cell f0 (by simp)
     have f1u := hSu.out.cell f1 (by simp)
     go_simp
     first | done | with_reducible rfl
    try simp only [Act.put, zA, zB, zC]
    refine zT (i := 9) (v := .bool false) rfl ?_ hHeld ?_
    ·intro u hSu
     go_simp
     first | done | with_reducible rfl | (rw [IntKind.wrap_i64]; omega) | omega
    try simp only [Act.put, zA, zB, zC]
    refine wpAnyH_done (by kernel_rfl) ?_ _
    have HK2 := Lib.hid (K.out.keep hHeld.out)
    have HJ2 : Hid (AscK ltI x.nx (i + 1 + 1)) := Lib.hid (ascK_next HJ.out HZ.out.1 HZ.out.2 (by unfold ltI; simp [hyz]))
    clear hHeld K f0 f1
    go_wp2_with fail
    exact ⟨⟨i + 1 + 1, by omega, Or.inl (by omega), congrArg _ (by omega), HJ2, HK2⟩, by simp only [RowKit.intOf]; omega⟩
   refine wp_region_held_drew (S := fun w' => Hid (w7.grownBy w' none)) (by kernel_rfl) (Lib.hid (grown_drew (grown_refl _ none))) (fun hHeld => ?_)
   refine zT (i := 0) (v := ?_) rfl ?_ hHeld ?_
   rotate_left 1
   ·intro u hSu
    go_simp
    first | done | with_reducible rfl
   try simp only [Act.put, zA, zB, zC]
   refine zT (i := 1) (v := ?_) rfl ?_ hHeld ?_
   rotate_left 1
   ·intro u hSu
    go_simp
    first | done | with_reducible rfl
   try simp only [Act.put, zA, zB, zC]
   refine zT (i := 2) (v := .int .i64 (i : Int)) rfl ?_ hHeld ?_
   ·intro u hSu
    go_simp
    first | done | with_reducible rfl | (rw [IntKind.wrap_i64]; omega) | omega
   try simp only [Act.put, zA, zB, zC]
   refine zT (i := 3) (v := ?_) rfl ?_ hHeld ?_
   rotate_left 1
   ·intro u hSu
    go_simp
    first | done | with_reducible rfl
   try simp only [Act.put, zA, zB, zC]
   refine zT (i := 4) (v := ?_) rfl ?_ hHeld ?_
   rotate_left 1
   ·intro u hSu
    have f0u := hSu.out.cell f0 (by simp)
    have f1u := hSu.out.cell f1 (by simp)
    go_simp
    first | done | with_reducible rfl
   try simp only [Act.put, zA, zB, zC]
   refine zT (i := 5) (v := ?_) rfl ?_ hHeld ?_
   rotate_left 1
   ·intro u hSu
    go_simp
    first | done | with_reducible rfl
   try simp only [Act.put, zA, zB, zC]
   refine zT (i := 6) (v := ?_) rfl ?_ hHeld ?_
   rotate_left 1
   ·intro u hSu
    go_simp
    first | done | with_reducible rfl
   try simp only [Act.put, zA, zB, zC]
   refine zT (i := 7) (v := ?_) rfl ?_ hHeld ?_
   rotate_left 1
   ·intro u hSu
    go_simp
    first | done | with_reducible rfl
   try simp only [Act.put, zA, zB, zC]
   refine zT (i := 8) (v := ?_) rfl ?_ hHeld ?_
   rotate_left 1
   ·intro u hSu
    have f0u := hSu.out.cell f0 (by simp)
    have f1u := hSu.out.cell f1 (by simp)
    go_simp
    first | done | with_reducible rfl
   try simp only [Act.put, zA, zB, zC]
   refine zT (i := 9) (v := .bool true) rfl ?_ hHeld ?_
   ·intro u hSu
    go_simp
    first | done | with_reducible rfl | (rw [IntKind.wrap_i64]; omega) | omega
   try simp only [Act.put, zA, zB, zC]
   refine wpAnyH_done (by kernel_rfl) ?_ _
   have HE : Hid (dsW x = true) := Lib.hid (by
    unfold dsW
    rw [asc_miss (f := ltI) HZ.out.1 HZ.out.2 (by unfold ltI; simp; omega)]; rfl)
   have HK2 := Lib.hid (K.out.keep hHeld.out)
   clear hHeld K f0 f1
   go_wp2_with fail
   go_ret
   exact ⟨by rw [ck_or HD.out HW.out h256 HG.out (Or.inr (any_at HX.out.1 HE.out))]; rfl, HK2.out.gr⟩
  | succ m =>
   obtain ⟨y, hy⟩ : ∃ y, L[m]? = some y := ⟨_, List.getElem?_eq_getElem (by omega)⟩
   obtain ⟨g0, g1⟩ := HHC.out m y hy
   have HY := Lib.hid hy
   have hi1 : (m : Int) < (L.length : Int) := by omega
   have hi0 : (0 : Int) ≤ (m : Int) := by omega
   have hi00 : (0 : Int) ≤ ((m + 1 : Nat) : Int) := by omega
   have hi01 : (0 : Int) < ((m + 1 : Nat) : Int) := by omega
   have hi000 : (0 : Int) ≤ (m : Int) + 1 := by omega
   have hi001 : (m : Int) + 1 < (L.length : Int) := by omega
   clear hy
   by_cases hyx : y.id < x.id
   case neg =>
    refine wp_region_held_drew (S := fun w' => Hid (w4.grownBy w' none)) (by kernel_rfl) (Lib.hid (grown_drew (grown_refl _ none))) (fun hHeld => ?_)
    refine zT (i := 0) (v := ?_) rfl ?_ hHeld ?_
    rotate_left 1
    ·intro u hSu
     go_simp
     first | done | with_reducible rfl
    try simp only [Act.put, zA, zB, zC]
    refine zT (i := 1) (v := ?_) rfl ?_ hHeld ?_
    rotate_left 1
    ·intro u hSu
     go_simp
     first | done | with_reducible rfl
    try simp only [Act.put, zA, zB, zC]
    refine zT (i := 2) (v := ?_) rfl ?_ hHeld ?_
    rotate_left 1
    ·intro u hSu
     go_simp
     first | done | with_reducible rfl
    try simp only [Act.put, zA, zB, zC]
    refine zT (i := 3) (v := ?_) rfl ?_ hHeld ?_
    rotate_left 1
    ·intro u hSu
     go_simp
     first | done | with_reducible rfl
    try simp only [Act.put, zA, zB, zC]
    refine zT (i := 4) (v := ?_) rfl ?_ hHeld ?_
    rotate_left 1
    ·intro u hSu
     have e3 := hSu.out.cell d3 (by simp)
     have x0 := hSu.out.cell a0 (by simp)
     have y0 := hSu.out.cell g0 (by simp)
     go_simp
     first | done | with_reducible rfl
    try simp only [Act.put, zA, zB, zC]
    refine zT (i := 5) (v := ?_) rfl ?_ hHeld ?_
    rotate_left 1
    ·intro u hSu
     go_simp
     first | done | with_reducible rfl
    try simp only [Act.put, zA, zB, zC]
    refine zT (i := 6) (v := .int .i64 (m : Int)) rfl ?_ hHeld ?_
    ·intro u hSu
     go_simp
     first | done | with_reducible rfl | (rw [IntKind.wrap_i64]; omega) | omega
    try simp only [Act.put, zA, zB, zC]
    refine zT (i := 7) (v := ?_) rfl ?_ hHeld ?_
    rotate_left 1
    ·intro u hSu
     go_simp
     first | done | with_reducible rfl
    try simp only [Act.put, zA, zB, zC]
    refine zT (i := 8) (v := ?_) rfl ?_ hHeld ?_
    rotate_left 1
    ·intro u hSu
     go_simp
     first | done | with_reducible rfl
    try simp only [Act.put, zA, zB, zC]
    refine zT (i := 9) (v := ?_) rfl ?_ hHeld ?_
    rotate_left 1
    ·intro u hSu
     have e3 := hSu.out.cell d3 (by simp)
     have x0 := hSu.out.cell a0 (by simp)
     have y0 := hSu.out.cell g0 (by simp)
     go_simp
     first | done | with_reducible rfl
    try simp only [Act.put, zA, zB, zC]
    refine zT (i := 10) (v := ?_) rfl ?_ hHeld ?_
    rotate_left 1
    ·intro u hSu
     go_simp
     first | done | with_reducible rfl
    try simp only [Act.put, zA, zB, zC]
    refine zT (i := 11) (v := ?_) rfl ?_ hHeld ?_
    rotate_left 1
    ·intro u hSu
     have e3 := hSu.out.cell d3 (by simp)
     have x0 := hSu.out.cell a0 (by simp)
     have y0 := hSu.out.cell g0 (by simp)
     go_simp
     first | done | with_reducible rfl
    try simp only [Act.put, zA, zB, zC]
    refine zT (i := 12) (v := ?_) rfl ?_ hHeld ?_
    rotate_left 1
    ·intro u hSu
     go_simp
     first | done | with_reducible rfl
    try simp only [Act.put, zA, zB, zC]
    refine zT (i := 13) (v := ?_) rfl ?_ hHeld ?_
    rotate_left 1
    ·intro u hSu
     go_simp
     first | done | with_reducible rfl
    try simp only [Act.put, zA, zB, zC]
    refine zT (i := 14) (v := ?_) rfl ?_ hHeld ?_
    rotate_left 1
    ·intro u hSu
     go_simp
     first | done | with_reducible rfl
    try simp only [Act.put, zA, zB, zC]
    refine zT (i := 15) (v := ?_) rfl ?_ hHeld ?_
    rotate_left 1
    ·intro u hSu
     have e3 := hSu.out.cell d3 (by simp)
     have x0 := hSu.out.cell a0 (by simp)
     have y0 := hSu.out.cell g0 (by simp)
     go_simp
     first | done | with_reducible rfl
    try simp only [Act.put, zA, zB, zC]
    refine zT (i := 16) (v := .bool true) rfl ?_ hHeld ?_
    ·intro u hSu
     go_simp
     first | done | with_reducible rfl | (rw [IntKind.wrap_i64]; omega) | omega
    try simp only [Act.put, zA, zB, zC]
    refine zT (i := 17) (v := ?_) rfl ?_ hHeld ?_
    rotate_left 1
    ·intro u hSu
     go_simp
     first | done | with_reducible rfl
    try simp only [Act.put, zA, zB, zC]
    refine wpAnyH_done (by kernel_rfl) ?_ _
    have HE : Hid (ascB ltW L = false) := Lib.hid (asc_miss HY.out HLX.out (by unfold ltW; simp; omega))
    have HK2 := Lib.hid (K.out.keep hHeld.out)
    clear hHeld K a0 a1 d0 d1 d2 d3 g0 g1
    go_wp2_with fail
    go_ret
    exact ⟨by rw [ck_or HD.out HW.out h256 HG.out (Or.inl HE.out)]; rfl, HK2.out.gr⟩
   have HA2 : Hid (AscK ltW L (m + 1 + 1)) := Lib.hid (ascK_next HA.out HY.out HLX.out (by unfold ltW; simp [hyx]))
   refine wp_region_held_drew (S := fun w' => Hid (w4.grownBy w' none)) (by kernel_rfl) (Lib.hid (grown_drew (grown_refl _ none))) (fun hHeld => ?_)
   refine zT (i := 0) (v := ?_) rfl ?_ hHeld ?_
   rotate_left 1
   ·intro u hSu
    go_simp
    first | done | with_reducible rfl
   try simp only [Act.put, zA, zB, zC]
   refine zT (i := 1) (v := ?_) rfl ?_ hHeld ?_
   rotate_left 1
   ·intro u hSu
    go_simp
    first | done | with_reducible rfl
   try simp only [Act.put, zA, zB, zC]
   refine zT (i := 2) (v := ?_) rfl ?_ hHeld ?_
   rotate_left 1
   ·intro u hSu
    go_simp
    first | done | with_reducible rfl
   try simp only [Act.put, zA, zB, zC]
   refine zT (i := 3) (v := ?_) rfl ?_ hHeld ?_
   rotate_left 1
   ·intro u hSu
    go_simp
    first | done | with_reducible rfl
   try simp only [Act.put, zA, zB, zC]
   refine zT (i := 4) (v := ?_) rfl ?_ hHeld ?_
   rotate_left 1
   ·intro u hSu
    have e3 := hSu.out.cell d3 (by simp)
    have x0 := hSu.out.cell a0 (by simp)
    have y0 := hSu.out.cell g0 (by simp)
    go_simp
    first | done | with_reducible rfl
   try simp only [Act.put, zA, zB, zC]
   refine zT (i := 5) (v := ?_) rfl ?_ hHeld ?_
   rotate_left 1
   ·intro u hSu
    go_simp
    first | done | with_reducible rfl
   try simp only [Act.put, zA, zB, zC]
   refine zT (i := 6) (v := .int .i64 (m : Int)) rfl ?_ hHeld ?_
   ·intro u hSu
    go_simp
    first | done | with_reducible rfl | (rw [IntKind.wrap_i64]; omega) | omega
   try simp only [Act.put, zA, zB, zC]
   refine zT (i := 7) (v := ?_) rfl ?_ hHeld ?_
   rotate_left 1
   ·intro u hSu
    go_simp
    first | done | with_reducible rfl
   try simp only [Act.put, zA, zB, zC]
   refine zT (i := 8) (v := ?_) rfl ?_ hHeld ?_
   rotate_left 1
   ·intro u hSu
    go_simp
    first | done | with_reducible rfl
   try simp only [Act.put, zA, zB, zC]
   refine zT (i := 9) (v := ?_) rfl ?_ hHeld ?_
   rotate_left 1
   ·intro u hSu
    have e3 := hSu.out.cell d3 (by simp)
    have x0 := hSu.out.cell a0 (by simp)
    have y0 := hSu.out.cell g0 (by simp)
    go_simp
    first | done | with_reducible rfl
   try simp only [Act.put, zA, zB, zC]
   refine zT (i := 10) (v := ?_) rfl ?_ hHeld ?_
   rotate_left 1
   ·intro u hSu
    go_simp
    first | done | with_reducible rfl
   try simp only [Act.put, zA, zB, zC]
   refine zT (i := 11) (v := ?_) rfl ?_ hHeld ?_
   rotate_left 1
   ·intro u hSu
    have e3 := hSu.out.cell d3 (by simp)
    have x0 := hSu.out.cell a0 (by simp)
    have y0 := hSu.out.cell g0 (by simp)
    go_simp
    first | done | with_reducible rfl
   try simp only [Act.put, zA, zB, zC]
   refine zT (i := 12) (v := ?_) rfl ?_ hHeld ?_
   rotate_left 1
   ·intro u hSu
    go_simp
    first | done | with_reducible rfl
   try simp only [Act.put, zA, zB, zC]
   refine zT (i := 13) (v := ?_) rfl ?_ hHeld ?_
   rotate_left 1
   ·intro u hSu
    go_simp
    first | done | with_reducible rfl
   try simp only [Act.put, zA, zB, zC]
   refine zT (i := 14) (v := ?_) rfl ?_ hHeld ?_
   rotate_left 1
   ·intro u hSu
    go_simp
    first | done | with_reducible rfl
   try simp only [Act.put, zA, zB, zC]
   refine zT (i := 15) (v := ?_) rfl ?_ hHeld ?_
   rotate_left 1
   ·intro u hSu
    have e3 := hSu.out.cell d3 (by simp)
    have x0 := hSu.out.cell a0 (by simp)
    have y0 := hSu.out.cell g0 (by simp)
    go_simp
    first | done | with_reducible rfl
   try simp only [Act.put, zA, zB, zC]
   refine zT (i := 16) (v := .bool false) rfl ?_ hHeld ?_
   ·intro u hSu
    go_simp
    first | done | with_reducible rfl | (rw [IntKind.wrap_i64]; omega) | omega
   try simp only [Act.put, zA, zB, zC]
   refine zT (i := 17) (v := ?_) rfl ?_ hHeld ?_
   rotate_left 1
   ·intro u hSu
    go_simp
    first | done | with_reducible rfl
   try simp only [Act.put, zA, zB, zC]
   refine wpAnyH_done (by kernel_rfl) ?_ _
   clear g0 g1
   have HK2 := Lib.hid (K.out.keep hHeld.out)
   clear hHeld K a0 a1 d0 d1 d2 d3
   generalize w4.drew = w6 at *
   go_wp2_with fail
   go_loopw [8] (fun a wr => ∃ j : Nat, 1 ≤ j ∧ (j ≤ x.nx.length ∨ j = 1) ∧ a = .int .i64 (j : Int) ∧ Hid (AscK ltI x.nx j) ∧ Hid (BX w r s n (some ⟨b, off, none⟩) c L wr)) (fun a _ => x.nx.length + 1 - (RowKit.intOf a).toNat)
   case atStart => exact ⟨1, Nat.le_refl _, Or.inr rfl, rfl, Lib.hid (fun i x y hi => by omega), HK2⟩
   case round =>
   clear HK2 HX
   obtain ⟨j, hj1, hj, rfl, HJ, K⟩ := hrel
   obtain ⟨w7, hw7⟩ : ∃ w7, w7 = wr := ⟨_, rfl⟩
   rw [← hw7] at K ⊢
   clear hw7
   have HX := Lib.hid (And.intro HLX.out (K.out.rd.ok x (List.mem_of_getElem? HLX.out)))
   by_cases hjl : j < x.nx.length
   case neg =>
    have hnj : ¬ (j : Int) < (x.nx.length : Int) := by omega
    have HN2 : Hid ((L.take ((m + 1) + 1)).any dsW = false) := Lib.hid (any_take HN.out HX.out.1 (by
     unfold dsW
     rw [ascK_end (f := ltI) (l := x.nx) (fun i a b hi => HJ.out i a b (by omega))]; rfl))
    go_wp2_with fail
    exact ⟨⟨(m + 1) + 1, by omega, congrArg _ (by omega), HA2, HN2, K⟩, by simp only [RowKit.intOf]; omega⟩
   obtain ⟨i, rfl⟩ : ∃ i, j = i + 1 := ⟨j - 1, by omega⟩
   have hjl' : (((i + 1 : Nat)) : Int) < (x.nx.length : Int) := by omega
   obtain ⟨y, hy⟩ : ∃ y, x.nx[i]? = some y := ⟨_, List.getElem?_eq_getElem (by omega)⟩
   obtain ⟨z, hz⟩ : ∃ z, x.nx[i + 1]? = some z := ⟨_, List.getElem?_eq_getElem hjl⟩
   obtain ⟨-, bz, oz, hpz, -, hcz⟩ := tvT_at HX.out.2.rd hz
   have f0 := hcz i y hy
   have f1 := hcz (i + 1) z hz
   rw [hpz] at *
   have HZ := Lib.hid (And.intro hy hz)
   clear hcz hz hy hpz
   have hi1 : (i : Int) < (x.nx.length : Int) := by omega
   have hi0 : (0 : Int) ≤ (i : Int) := by omega
   have hi00 : (0 : Int) ≤ ((i + 1 : Nat) : Int) := by omega
   have hi000 : (0 : Int) ≤ (i : Int) + 1 := by omega
   have hi001 : (i : Int) + 1 < (x.nx.length : Int) := by omega
   go_upto_region 29 with fail
   by_cases hyz : y < z
   case pos =>
    refine wp_region_held_drew (S := fun w' => Hid (w7.grownBy w' none)) (by kernel_rfl) (Lib.hid (grown_drew (grown_refl _ none))) (fun hHeld => ?_)
    refine zT (i := 0) (v := ?_) rfl ?_ hHeld ?_
    rotate_left 1
    ·intro u hSu
     go_simp
     first | done | with_reducible rfl
    try simp only [Act.put, zA, zB, zC]
    refine zT (i := 1) (v := ?_) rfl ?_ hHeld ?_
    rotate_left 1
    ·intro u hSu
     go_simp
     first | done | with_reducible rfl
    try simp only [Act.put, zA, zB, zC]
    refine zT (i := 2) (v := .int .i64 (i : Int)) rfl ?_ hHeld ?_
    ·intro u hSu
     go_simp
     first | done | with_reducible rfl | (rw [IntKind.wrap_i64]; omega) | omega
    try simp only [Act.put, zA, zB, zC]
    refine zT (i := 3) (v := ?_) rfl ?_ hHeld ?_
    rotate_left 1
    ·intro u hSu
     go_simp
     first | done | with_reducible rfl
    try simp only [Act.put, zA, zB, zC]
    refine zT (i := 4) (v := ?_) rfl ?_ hHeld ?_
    rotate_left 1
    ·intro u hSu
     have f0u := hSu.out.cell f0 (by simp)
     have f1u := hSu.out.cell f1 (by simp)
     go_simp
     first | done | with_reducible rfl
    try simp only [Act.put, zA, zB, zC]
    refine zT (i := 5) (v := ?_) rfl ?_ hHeld ?_
    rotate_left 1
    ·intro u hSu
     go_simp
     first | done | with_reducible rfl
    try simp only [Act.put, zA, zB, zC]
    refine zT (i := 6) (v := ?_) rfl ?_ hHeld ?_
    rotate_left 1
    ·intro u hSu
     go_simp
     first | done | with_reducible rfl
    try simp only [Act.put, zA, zB, zC]
    refine zT (i := 7) (v := ?_) rfl ?_ hHeld ?_
    rotate_left 1
    ·intro u hSu
     go_simp
     first | done | with_reducible rfl
    try simp only [Act.put, zA, zB, zC]
    refine zT (i := 8) (v := ?_) rfl ?_ hHeld ?_
    rotate_left 1
    ·intro u hSu
     have f0u := hSu.out.cell f0 (by simp)
     have f1u := hSu.out.cell f1 (by simp)
     go_simp
     first | done | with_reducible rfl
    try simp only [Act.put, zA, zB, zC]
    refine zT (i := 9) (v := .bool false) rfl ?_ hHeld ?_
    ·intro u hSu
     go_simp
     first | done | with_reducible rfl | (rw [IntKind.wrap_i64]; omega) | omega
    try simp only [Act.put, zA, zB, zC]
    refine wpAnyH_done (by kernel_rfl) ?_ _
    have HK2 := Lib.hid (K.out.keep hHeld.out)
    have HJ2 : Hid (AscK ltI x.nx (i + 1 + 1)) := Lib.hid (ascK_next HJ.out HZ.out.1 HZ.out.2 (by unfold ltI; simp [hyz]))
    clear hHeld K f0 f1
    go_wp2_with fail
    exact ⟨⟨i + 1 + 1, by omega, Or.inl (by omega), congrArg _ (by omega), HJ2, HK2⟩, by simp only [RowKit.intOf]; omega⟩
   refine wp_region_held_drew (S := fun w' => Hid (w7.grownBy w' none)) (by kernel_rfl) (Lib.hid (grown_drew (grown_refl _ none))) (fun hHeld => ?_)
   refine zT (i := 0) (v := ?_) rfl ?_ hHeld ?_
   rotate_left 1
   ·intro u hSu
    go_simp
    first | done | with_reducible rfl
   try simp only [Act.put, zA, zB, zC]
   refine zT (i := 1) (v := ?_) rfl ?_ hHeld ?_
   rotate_left 1
   ·intro u hSu
    go_simp
    first | done | with_reducible rfl
   try simp only [Act.put, zA, zB, zC]
   refine zT (i := 2) (v := .int .i64 (i : Int)) rfl ?_ hHeld ?_
   ·intro u hSu
    go_simp
    first | done | with_reducible rfl | (rw [IntKind.wrap_i64]; omega) | omega
   try simp only [Act.put, zA, zB, zC]
   refine zT (i := 3) (v := ?_) rfl ?_ hHeld ?_
   rotate_left 1
   ·intro u hSu
    go_simp
    first | done | with_reducible rfl
   try simp only [Act.put, zA, zB, zC]
   refine zT (i := 4) (v := ?_) rfl ?_ hHeld ?_
   rotate_left 1
   ·intro u hSu
    have f0u := hSu.out.cell f0 (by simp)
    have f1u := hSu.out.cell f1 (by simp)
    go_simp
    first | done | with_reducible rfl
   try simp only [Act.put, zA, zB, zC]
   refine zT (i := 5) (v := ?_) rfl ?_ hHeld ?_
   rotate_left 1
   ·intro u hSu
    go_simp
    first | done | with_reducible rfl
   try simp only [Act.put, zA, zB, zC]
   refine zT (i := 6) (v := ?_) rfl ?_ hHeld ?_
   rotate_left 1
   ·intro u hSu
    go_simp
    first | done | with_reducible rfl
   try simp only [Act.put, zA, zB, zC]
   refine zT (i := 7) (v := ?_) rfl ?_ hHeld ?_
   rotate_left 1
   ·intro u hSu
    go_simp
    first | done | with_reducible rfl
   try simp only [Act.put, zA, zB, zC]
   refine zT (i := 8) (v := ?_) rfl ?_ hHeld ?_
   rotate_left 1
   ·intro u hSu
    have f0u := hSu.out.cell f0 (by simp)
    have f1u := hSu.out.cell f1 (by simp)
    go_simp
    first | done | with_reducible rfl
   try simp only [Act.put, zA, zB, zC]
   refine zT (i := 9) (v := .bool true) rfl ?_ hHeld ?_
   ·intro u hSu
    go_simp
    first | done | with_reducible rfl | (rw [IntKind.wrap_i64]; omega) | omega
   try simp only [Act.put, zA, zB, zC]
   refine wpAnyH_done (by kernel_rfl) ?_ _
   have HE : Hid (dsW x = true) := Lib.hid (by
    unfold dsW
    rw [asc_miss (f := ltI) HZ.out.1 HZ.out.2 (by unfold ltI; simp; omega)]; rfl)
   have HK2 := Lib.hid (K.out.keep hHeld.out)
   clear hHeld K f0 f1
   go_wp2_with fail
   go_ret
   exact ⟨by rw [ck_or HD.out HW.out h256 HG.out (Or.inr (any_at HX.out.1 HE.out))]; rfl, HK2.out.gr⟩
 obtain rfl : k = L.length := by omega
 have hnl : ¬ (L.length : Int) < (L.length : Int) := by omega
 have HO := Lib.hid (And.intro (ascK_end HA.out) (any_end HN.out (Nat.le_refl _)))
 clear HN HA hlt hk
 go_wp2_with fail
 clear hnl d0 d1 d2 d3
 go_loopw [9] (fun a wr => ∃ k : Nat, k ≤ L.length ∧ a = .int .i64 (k : Int) ∧ Hid ((L.take k).any (cfW r) = false) ∧ Hid (BX w r s n p c L wr)) (fun a _ => L.length - (RowKit.intOf a).toNat)
 case atStart => exact ⟨0, Nat.zero_le _, rfl, Lib.hid (by simp), K⟩
 case round =>
 clear K
 obtain ⟨k, hk, rfl, HN, K⟩ := hrel
 obtain ⟨w5, hw5⟩ : ∃ w5, w5 = wr := ⟨_, rfl⟩
 rw [← hw5] at K ⊢
 clear hw5
 obtain ⟨d0, d1, d2, d3⟩ := row4T K.out.bx
 by_cases hlt : k < L.length
 case pos =>
  have hlt' : (k : Int) < (L.length : Int) := by omega
  obtain ⟨x, hx⟩ : ∃ x, L[k]? = some x := ⟨_, List.getElem?_eq_getElem hlt⟩
  obtain ⟨-, b, off, rfl, -, hc⟩ := rw_cells K.out.rd.rd (by omega)
  obtain ⟨a0, a1⟩ := hc k x hx
  have HX := Lib.hid (And.intro hx (K.out.rd.ok x (List.mem_of_getElem? hx)))
  have hmx : x.nx.length ≤ 9223372036854775807 := Nat.le_trans HX.out.2.hc.1 HX.out.2.hc.2
  have HLX := Lib.hid hx
  have HCC : Hid (∀ u, BX w r s n (some ⟨b, off, none⟩) c L u → u.cell? ⟨b, off + k * 2, none⟩ = some (.int .i64 x.id) ∧ u.cell? ⟨b, off + k * 2 + 1, none⟩ = some (.slice x.p x.nx.length x.c)) := Lib.hid (fun u hu => by
   obtain ⟨-, b', off', hpe, -, hc'⟩ := rw_cells hu.rd.rd (by omega)
   injection hpe with hpe
   injection hpe with e1 e2
   subst e1
   subst e2
   exact hc' k x hx)
  clear hc hx HX
  have HCF : Hid (cfW r x = (decide (1 < x.nx.length) && hasI x.nx r)) := Lib.hid rfl
  go_upto_region 34 with fail
  by_cases hl1 : 1 < x.nx.length
  case neg =>
   have hl1' : ¬ (1 : Int) < (x.nx.length : Int) := by omega
   refine wp_region_held_drew (S := fun w' => Hid (BX w r s n (some ⟨b, off, none⟩) c L w')) (by kernel_rfl) (Lib.hid (K.out.keep (grown_drew (grown_refl _ none)))) (fun hHeld => ?_)
   refine zT (i := 0) (v := ?_) rfl ?_ hHeld ?_
   rotate_left 1
   ·intro u hSu
    go_simp
    first | done | with_reducible rfl
   try simp only [Act.put, zA, zB, zC]
   refine zT (i := 1) (v := ?_) rfl ?_ hHeld ?_
   rotate_left 1
   ·intro u hSu
    obtain ⟨d0u, d1u, d2u, d3u⟩ := row4T hSu.out.bx
    obtain ⟨a0u, a1u⟩ := HCC.out _ hSu.out
    go_simp
    first | done | with_reducible rfl
   try simp only [Act.put, zA, zB, zC]
   refine zT (i := 2) (v := ?_) rfl ?_ hHeld ?_
   rotate_left 1
   ·intro u hSu
    go_simp
    first | done | with_reducible rfl
   try simp only [Act.put, zA, zB, zC]
   refine zT (i := 3) (v := ?_) rfl ?_ hHeld ?_
   rotate_left 1
   ·intro u hSu
    go_simp
    first | done | with_reducible rfl
   try simp only [Act.put, zA, zB, zC]
   refine zT (i := 4) (v := ?_) rfl ?_ hHeld ?_
   rotate_left 1
   ·intro u hSu
    go_simp
    first | done | with_reducible rfl
   try simp only [Act.put, zA, zB, zC]
   refine zT (i := 5) (v := ?_) rfl ?_ hHeld ?_
   rotate_left 1
   ·intro u hSu
    obtain ⟨d0u, d1u, d2u, d3u⟩ := row4T hSu.out.bx
    obtain ⟨a0u, a1u⟩ := HCC.out _ hSu.out
    go_simp
    first | done | with_reducible rfl
   try simp only [Act.put, zA, zB, zC]
   refine zT (i := 6) (v := ?_) rfl ?_ hHeld ?_
   rotate_left 1
   ·intro u hSu
    obtain ⟨d0u, d1u, d2u, d3u⟩ := row4T hSu.out.bx
    obtain ⟨a0u, a1u⟩ := HCC.out _ hSu.out
    go_simp
    first | done | with_reducible rfl
   try simp only [Act.put, zA, zB, zC]
   refine zT (i := 7) (v := .bool false) rfl ?_ hHeld ?_
   ·intro u hSu
    go_simp
    first | done | with_reducible rfl | (rw [IntKind.wrap_i64]; omega) | omega
   try simp only [Act.put, zA, zB, zC]
   refine zT (i := 8) (v := ?_) rfl ?_ hHeld ?_
   rotate_left 1
   ·intro u hSu
    go_simp
    first | done | with_reducible rfl
   try simp only [Act.put, zA, zB, zC]
   refine zS (i := 9) rfl hHeld ?_
   try simp only [Act.put, zA, zB, zC]
   refine zS (i := 10) rfl hHeld ?_
   try simp only [Act.put, zA, zB, zC]
   refine zS (i := 11) rfl hHeld ?_
   try simp only [Act.put, zA, zB, zC]
   refine zS (i := 12) rfl hHeld ?_
   try simp only [Act.put, zA, zB, zC]
   refine zS (i := 13) rfl hHeld ?_
   try simp only [Act.put, zA, zB, zC]
   refine zS (i := 14) rfl hHeld ?_
   try simp only [Act.put, zA, zB, zC]
   refine zS (i := 15) rfl hHeld ?_
   try simp only [Act.put, zA, zB, zC]
   refine zS (i := 16) rfl hHeld ?_
   try simp only [Act.put, zA, zB, zC]
   refine zS (i := 17) rfl hHeld ?_
   try simp only [Act.put, zA, zB, zC]
   refine zT (i := 18) (v := ?_) rfl ?_ hHeld ?_
   rotate_left 1
   ·intro u hSu
    go_simp
    first | done | with_reducible rfl
   try simp only [Act.put, zA, zB, zC]
   refine wpAnyH_done (by kernel_rfl) ?_ _
   have HN2 : Hid ((L.take (k + 1)).any (cfW r) = false) := Lib.hid (any_take HN.out HLX.out (by rw [HCF.out]; simp [hl1]))
   clear a0 a1 d0 d1 d2 d3 K
   go_wp2_with fail
   exact ⟨⟨k + 1, by omega, congrArg _ (by omega), HN2, hHeld⟩, by simp only [RowKit.intOf]; omega⟩
  have hl1' : (1 : Int) < (x.nx.length : Int) := by omega
  refine wp_region_held_drew (S := fun w' => Hid (BX w r s n (some ⟨b, off, none⟩) c L w')) (by kernel_rfl) (Lib.hid (K.out.keep (grown_drew (grown_refl _ none)))) (fun hHeld => ?_)
  refine zT (i := 0) (v := ?_) rfl ?_ hHeld ?_
  rotate_left 1
  ·intro u hSu
   go_simp
   first | done | with_reducible rfl
  try simp only [Act.put, zA, zB, zC]
  refine zT (i := 1) (v := ?_) rfl ?_ hHeld ?_
  rotate_left 1
  ·intro u hSu
   obtain ⟨d0u, d1u, d2u, d3u⟩ := row4T hSu.out.bx
   obtain ⟨a0u, a1u⟩ := HCC.out _ hSu.out
   go_simp
   first | done | with_reducible rfl
  try simp only [Act.put, zA, zB, zC]
  refine zT (i := 2) (v := ?_) rfl ?_ hHeld ?_
  rotate_left 1
  ·intro u hSu
   go_simp
   first | done | with_reducible rfl
  try simp only [Act.put, zA, zB, zC]
  refine zT (i := 3) (v := ?_) rfl ?_ hHeld ?_
  rotate_left 1
  ·intro u hSu
   go_simp
   first | done | with_reducible rfl
  try simp only [Act.put, zA, zB, zC]
  refine zT (i := 4) (v := ?_) rfl ?_ hHeld ?_
  rotate_left 1
  ·intro u hSu
   go_simp
   first | done | with_reducible rfl
  try simp only [Act.put, zA, zB, zC]
  refine zT (i := 5) (v := ?_) rfl ?_ hHeld ?_
  rotate_left 1
  ·intro u hSu
   obtain ⟨d0u, d1u, d2u, d3u⟩ := row4T hSu.out.bx
   obtain ⟨a0u, a1u⟩ := HCC.out _ hSu.out
   go_simp
   first | done | with_reducible rfl
  try simp only [Act.put, zA, zB, zC]
  refine zT (i := 6) (v := ?_) rfl ?_ hHeld ?_
  rotate_left 1
  ·intro u hSu
   obtain ⟨d0u, d1u, d2u, d3u⟩ := row4T hSu.out.bx
   obtain ⟨a0u, a1u⟩ := HCC.out _ hSu.out
   go_simp
   first | done | with_reducible rfl
  try simp only [Act.put, zA, zB, zC]
  refine zT (i := 7) (v := .bool true) rfl ?_ hHeld ?_
  ·intro u hSu
   go_simp
   first | done | with_reducible rfl | (rw [IntKind.wrap_i64]; omega) | omega
  try simp only [Act.put, zA, zB, zC]
  refine zT (i := 8) (v := ?_) rfl ?_ hHeld ?_
  rotate_left 1
  ·intro u hSu
   go_simp
   first | done | with_reducible rfl
  try simp only [Act.put, zA, zB, zC]
  refine zT (i := 9) (v := ?_) rfl ?_ hHeld ?_
  rotate_left 1
  ·intro u hSu
   go_simp
   first | done | with_reducible rfl
  try simp only [Act.put, zA, zB, zC]
  refine zT (i := 10) (v := ?_) rfl ?_ hHeld ?_
  rotate_left 1
  ·intro u hSu
   obtain ⟨d0u, d1u, d2u, d3u⟩ := row4T hSu.out.bx
   obtain ⟨a0u, a1u⟩ := HCC.out _ hSu.out
   go_simp
   first | done | with_reducible rfl
  try simp only [Act.put, zA, zB, zC]
  refine zT (i := 11) (v := ?_) rfl ?_ hHeld ?_
  rotate_left 1
  ·intro u hSu
   go_simp
   first | done | with_reducible rfl
  try simp only [Act.put, zA, zB, zC]
  refine zT (i := 12) (v := ?_) rfl ?_ hHeld ?_
  rotate_left 1
  ·intro u hSu
   go_simp
   first | done | with_reducible rfl
  try simp only [Act.put, zA, zB, zC]
  refine zT (i := 13) (v := ?_) rfl ?_ hHeld ?_
  rotate_left 1
  ·intro u hSu
   go_simp
   first | done | with_reducible rfl
  try simp only [Act.put, zA, zB, zC]
  refine zT (i := 14) (v := ?_) rfl ?_ hHeld ?_
  rotate_left 1
  ·intro u hSu
   obtain ⟨d0u, d1u, d2u, d3u⟩ := row4T hSu.out.bx
   obtain ⟨a0u, a1u⟩ := HCC.out _ hSu.out
   go_simp
   first | done | with_reducible rfl
  try simp only [Act.put, zA, zB, zC]
  refine zT (i := 15) (v := ?_) rfl ?_ hHeld ?_
  rotate_left 1
  ·intro u hSu
   go_simp
   first | done | with_reducible rfl
  try simp only [Act.put, zA, zB, zC]
  refine zT (i := 16) (v := ?_) rfl ?_ hHeld ?_
  rotate_left 1
  ·intro u hSu
   obtain ⟨d0u, d1u, d2u, d3u⟩ := row4T hSu.out.bx
   obtain ⟨a0u, a1u⟩ := HCC.out _ hSu.out
   go_simp
   first | done | with_reducible rfl
  try simp only [Act.put, zA, zB, zC]
  refine wpAnyH_ready (rs := [17]) (by kernel_rfl) (by simp) ?_
  refine AllReadyH.cons (o := ⟨_, _, _, _, _, _⟩) rfl (fun Kz hK => ?_) AllReadyH.nil
  go_simp
  go_at_call 58
  refine (rhas4_any x.nx r x.p x.c _ _ (hHeld.out.rd.ok x (List.mem_of_getElem? HLX.out)).rd hmx).mono ?_
  rintro e w' ⟨rfl, rfl⟩
  refine hK.out _ _ (hHeld) (fun hH2 => ?_)
  clear hK Kz hHeld
  have hHeld := hH2
  clear hH2
  try simp only [Act.put, zA, zB, zC]
  refine zT (i := 18) (v := ?_) rfl ?_ hHeld ?_
  rotate_left 1
  ·intro u hSu
   go_simp
   first | done | with_reducible rfl
  try simp only [Act.put, zA, zB, zC]
  refine wpAnyH_done (by kernel_rfl) ?_ _
  cases hcf : hasI x.nx r
  case true =>
   have HE : Hid (cfW r x = true) := Lib.hid (by rw [HCF.out, hcf]; simp [hl1])
   clear hcf a0 a1 d0 d1 d2 d3 K
   go_wp2_with fail
   go_ret
   exact ⟨by rw [ck_cf HD.out HW.out h256 HG.out HO.out.1 HO.out.2 (any_at HLX.out HE.out)]; rfl, hHeld.out.gr⟩
  have HN2 : Hid ((L.take (k + 1)).any (cfW r) = false) := Lib.hid (any_take HN.out HLX.out (by rw [HCF.out, hcf]; simp))
  clear hcf a0 a1 d0 d1 d2 d3 K
  go_wp2_with fail
  exact ⟨⟨k + 1, by omega, congrArg _ (by omega), HN2, hHeld⟩, by simp only [RowKit.intOf]; omega⟩
 obtain rfl : k = L.length := by omega
 have hnl : ¬ (L.length : Int) < (L.length : Int) := by omega
 have HC := Lib.hid (any_end HN.out (Nat.le_refl _))
 go_wp2_with fail
 go_ret
 exact ⟨by rw [ck_z HD.out HW.out h256 HG.out HO.out.1 HO.out.2 HC.out]; rfl, K.out.gr⟩
end Go.Proofs.YtahafijpcmphaaaGreat

/- masks, the reference's functions: Mask, Next, Local. -/
namespace Go.Proofs.YtahafijpcmphaaaGreat
set_option maxRecDepth 100000
open Go.RowKit Go.Maps Bs
end Go.Proofs.YtahafijpcmphaaaGreat

/- tables: Row; masks: Next. -/
namespace Go.Proofs.YtahafijpcmphaaaGreat
set_option maxRecDepth 100000
open Go.RowKit Go.Maps Bs
def ivF (x : Int) : List Value := [tv x]
theorem ivF_one (x : Int) : ∀ u ∈ ivF x, u.oneCell' = true := by
 intro u hu
 simp [ivF, tv] at hu
 subst hu; rfl
theorem flat_ivF : ∀ X : List Int, X.flatMap ivF = X.map tv
 | [] => rfl
 | a :: t => by rw [List.flatMap_cons, flat_ivF t]; rfl
theorem rdf_ints {w : World} {q : Nat → Prop} {v : Value} {X : List Int} (h : Rd w q v (X.map tv)) : RdF w q v X.length (X.flatMap ivF) := by
 obtain ⟨p, c, h1, h2⟩ := h
 rw [List.length_map] at h1
 exact ⟨p, c, h1, fun hne => by
  rw [flat_ivF] at hne ⊢
  exact h2 hne⟩
set_option maxHeartbeats 1600000 in
theorem tcloneI_any (X : List Int) (p : Option Addr) (c : Nat) (q : Nat → Prop) (w : World) (hR : Rd w q (.slice p X.length c) (X.map tv)) (hn : p = none → c = 0) (hc : X.length ≤ c ∧ c ≤ 9223372036854775807) (hm : X.length ≤ 1000) :
  Calls Tryz.prog 103 #[.slice p X.length c] w fun e w' => ∃ v, e = .returned v ∧ w'.ownsRow w.heap.size 3 1 v X.length (X.map tv) ∧ w.grownBy w' none := by
 obtain ⟨ii, hii, hi0, hi1, hi2⟩ := info_parts info_int
 rw [← flat_ivF]
 have hRF := rdf_ints hR
 cases p with
 | none =>
  obtain rfl := hn rfl
  have h0 : X.length = 0 := by omega
  obtain rfl := List.eq_nil_of_length_eq_zero h0
  clear hR hRF
  have heq : ∀ w : World, (binOp .eql 22 (.slice none 0 0) (.slice none 0 0)).run Tryz.prog w = .ok (.bool true) w := fun w => Lib.run_eql_slice_nil w _ _ none 0 0 0 0 Tryz.underlying22
  go_enter Tryz.func103, Tryz.ntmps103
  go_wp2_with fail
  go_ret
  exact ⟨_, rfl, World.ownsRow_nil _ _ _ _, grown_refl _ _⟩
 | some ad =>
  have k0 := World.grownBy_alloc w (.cells #[] 3) none
  have hlit : (w.alloc (.cells #[] 3)).ownsRow w.heap.size 3 1 (.slice (some ⟨w.heap.size, 0, none⟩) 0 0) 0 (([] : List Int).flatMap ivF) := World.ownsRow_lit w #[] 0 (Nat.le_refl _) (by decide) rfl
  have HL := Lib.hid (And.intro hlit (And.intro k0 (hRF.keep k0)))
  clear hlit k0 hR hRF
  have heq : ∀ w : World, (binOp .eql 22 (.slice (some ad) X.length c) (.slice none 0 0)).run Tryz.prog w = .ok (.bool false) w := fun w => Lib.run_eql_slice_nil w _ _ (some ad) X.length c 0 0 Tryz.underlying22
  go_enter Tryz.func103, Tryz.ntmps103
  go_wp2_with (at_builtin; refine hold_on ?_)
  refine Lib.hid ?_
  refine wpList_append_f ivF 1 8 (by decide) (fun _ => rfl) ivF_one 3 22 ii _ Tryz.underlying22 hii hi0 hi1 hi2 rfl (by decide) rfl _ _ rfl w.heap.size _ [] 0 rfl rfl HL.out.1 _ _ _ X rfl rfl (fun h => by cases h) q HL.out.2.2 hc.1 (by omega) (by simp) ?_
  intro v' w1 hown hg
  rw [List.nil_append] at hown
  have HO := Lib.hid (And.intro hown (old_grow HL.out.2.1 HL.out.1 (Nat.le_refl _) hg))
  clear hown hg
  go_wp2_with fail
  go_ret
  exact ⟨v', rfl, HO.out.1, HO.out.2⟩
theorem lt_rowN {w : World} {b : Nat} {o : Obj} (h : w.heap[b]? = some o) : b < w.heap.size := by
 rcases Nat.lt_or_ge b w.heap.size with hz | hz
 ·exact hz
 ·rw [Array.getElem?_eq_none hz] at h; cases h
structure CB (W : World) (x : Rw) (w : World) : Prop where
 bx : w.heap[W.heap.size]? = some (.cells (rwC x).toArray 36 (0, 0))
 z : w.heap[W.heap.size + 1]? = some (.cells #[.int .i64 0, .slice none 0 0] 36 (0, 0))
 rd : RwOk w (· < W.heap.size) x
 gr : W.grownBy w none
theorem CB.keep {W w w1 : World} {x : Rw} (h : CB W x w) (g : w.grownBy w1 none) : CB W x w1 := ⟨kept_row h.bx g (by simp), kept_row h.z g (by simp), h.rd.keep g, grown_trans h.gr g⟩
theorem res_row1 {fn : Func} {p : Tmp} (h : fn.results = #[.cell p 36]) (tmps : Array Value) (w : World) (g : Nat) (x y : Value) (hp : tmps.getD p undef = .pointer (some ⟨g, 0, none⟩)) (hg : w.heap[g]? = some (.cells #[x, y] 36 (0, 0))) :
  (results fn tmps).run Tryz.prog w = .ok (.agg #[x, y]) w :=
 results_cell_row h tmps w g _ _ _ _ hp hg Tryz.underlying36 rfl row_size
set_option maxHeartbeats 3200000 in
theorem tcopied_any (x : Rw) (w : World) (hx : RwOk w (· < w.heap.size) x) (hn : x.p = none → x.c = 0) (hm : x.nx.length ≤ 1000) :
  Calls Tryz.prog 63 #[.agg #[.int .i64 x.id, .slice x.p x.nx.length x.c]] w fun e w' => ∃ (p1 : Option Addr) (c1 : Nat), e = .returned (.agg #[.int .i64 x.id, .slice p1 x.nx.length c1]) ∧ RwOk w' (w.heap.size ≤ ·) ⟨x.id, x.nx, p1, c1⟩ ∧ w.grownBy w' none := by
 obtain ⟨k1, k2, k3, k4⟩ := two_boxes w #[.int .i64 x.id, .slice x.p x.nx.length x.c] #[.int .i64 0, .slice none 0 0] 36 36
 have H0 : Hid (CB w x _) := Lib.hid ⟨k1, k2, hx.keep k3, k3⟩
 clear k1 k2 k3 k4 hx
 go_enter Tryz.func63, Tryz.ntmps63
 go_upto_region 1 with fail
 generalize (w.alloc _).alloc _ = wa at *
 refine region_until (S := fun w' => Hid (CB w x w')) (fun j => j == 6) (by kernel_rfl) (Lib.hid (H0.out.keep (grown_drew (grown_refl _ none)))) (fun hHeld => ?_)
 refine zU (i := 0) (v := ?_) rfl ?_ hHeld ?_
 rotate_left 1
 ·intro u hSu
  go_simp
  first | done | with_reducible rfl
 try simp only [Act.put, zA, zB, zC]
 refine zU (i := 1) (v := ?_) rfl ?_ hHeld ?_
 rotate_left 1
 ·intro u hSu
  obtain ⟨b0, b1⟩ := rowR2 hSu.out.bx
  go_simp
  first | done | with_reducible rfl
 try simp only [Act.put, zA, zB, zC]
 refine zU (i := 2) (v := ?_) rfl ?_ hHeld ?_
 rotate_left 1
 ·intro u hSu
  go_simp
  first | done | with_reducible rfl
 try simp only [Act.put, zA, zB, zC]
 refine zU (i := 3) (v := ?_) rfl ?_ hHeld ?_
 rotate_left 1
 ·intro u hSu
  obtain ⟨b0, b1⟩ := rowR2 hSu.out.bx
  go_simp
  first | done | with_reducible rfl
 try simp only [Act.put, zA, zB, zC]
 refine anyU_ready (rs := [4]) (by kernel_rfl) (by simp) ?_
 refine EachU.cons (o := ⟨_, _, _, _, _, _⟩) rfl (fun Kz hK => ?_) EachU.nil
 go_simp
 go_at_call 103
 refine (tcloneI_any x.nx x.p x.c _ _ hHeld.out.rd.rd hn hHeld.out.rd.hc hm).mono ?_
 rintro e w2 ⟨v, rfl, ho, hg⟩
 obtain ⟨p1, c1, rfl, hc1, hc2⟩ := own_shape ho
 have HO := Lib.hid (And.intro (rd_of_own ho) (And.intro hc1 hc2))
 have HWS := Lib.hid (lt_rowN hHeld.out.z)
 have HN := Lib.hid (hHeld.out.keep hg)
 clear ho hg hc1 hc2
 refine hK.out _ _ (fun _ => HN) (fun hH2 => ?_)
 clear hK Kz hHeld
 have hHeld := hH2 rfl
 clear hH2
 try simp only [Act.put, zA, zB, zC]
 refine zU (i := 5) (v := ?_) rfl ?_ hHeld ?_
 rotate_left 1
 ·intro u hSu
  obtain ⟨b0, b1⟩ := rowR2 hSu.out.bx
  go_simp
  first | done | with_reducible rfl
 try simp only [Act.put, zA, zB, zC]
 refine anyU_ready (rs := [6]) (by kernel_rfl) (by simp) ?_
 refine EachU.cons (o := ⟨_, _, _, _, _, _⟩) rfl (fun Kz hK => ?_) EachU.nil
 have H9 := hHeld
 obtain ⟨z0, z1⟩ := rowR2 hHeld.out.z
 have f0 := frozen_of_row _ _ 0 _ _ hHeld.out.z
 have f1 := frozen_of_row _ _ 1 _ _ hHeld.out.z
 go_simp
 refine hK.out _ _ (fun h => by cases h) (fun _ => ?_)
 clear hK Kz
 try simp only [Act.put, zA, zB, zC]
 refine anyU_done (by kernel_rfl) ?_ _
 obtain ⟨t1, t2⟩ := storeR (.int .i64 x.id) (.slice p1 x.nx.length c1) H9.out.z
 have HT := Lib.hid (And.intro t1 (And.intro (grown_new H9.out.gr t2 (by omega)) (HO.out.1.grown t2 (fun b hb e => by have := Option.some.inj e; have := HWS.out; omega))))
 clear t1 t2 H9 z0 z1 f0 f1
 go_wp2_with fail
 refine bodyPost_ret (res_row1 rfl _ _ (w.heap.size + 1) _ _ rfl HT.out.1) rfl ?_
 exact ⟨p1, c1, rfl, ⟨HT.out.2.2.mono (fun b hb => by have := HWS.out; omega), HO.out.2.1, HO.out.2.2⟩, HT.out.2.1⟩
end Go.Proofs.YtahafijpcmphaaaGreat

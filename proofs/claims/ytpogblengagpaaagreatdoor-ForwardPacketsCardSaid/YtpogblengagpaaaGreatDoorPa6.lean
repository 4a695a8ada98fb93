/- Parts of the proof, packed: TaRck, MaRMk, ToBs, ToOrdM. -/
import Derived.Test.YtpogblengagpaaaGreatDoorPa5
import Derived.Test.YtpogblengagpaaaGreatDoorPa3
import Derived.Deep.CutBlock
import Derived.Test.YtpogblengagpaaaGreatDoorPa2
/- tables, the reference's functions: Check. -/
namespace Go.Proofs.YtpogblengagpaaaGreatDoor
set_option maxRecDepth 100000
open Go.RowKit Go.Maps Bs
theorem ck_hd {r s n : Int} {L : List Rw} (h : hdT r s n L = true) : ckT r s n L = 2 := by unfold ckT; rw [if_pos h]
theorem ck_wr {r s n : Int} {L : List Rw} (h : hdT r s n L = false) (h1 : L.any wrW = true) : ckT r s n L = 2 := by unfold ckT; rw [if_neg (by rw [h]; simp), if_pos h1]
theorem ck_l1 {r s n : Int} {L : List Rw} (h : hdT r s n L = false) (h1 : L.any wrW = false) (h2 : 256 < L.length) : ckT r s n L = 3 := by
 unfold ckT; rw [if_neg (by rw [h]; simp), if_neg (by rw [h1]; simp), if_pos h2]
theorem ck_lg {r s n : Int} {L : List Rw} (h : hdT r s n L = false) (h1 : L.any wrW = false) (h2 : ¬ 256 < L.length) (h3 : L.any lgW = true) : ckT r s n L = 3 := by
 unfold ckT; rw [if_neg (by rw [h]; simp), if_neg (by rw [h1]; simp), if_neg h2, if_pos h3]
theorem ck_or {r s n : Int} {L : List Rw} (h : hdT r s n L = false) (h1 : L.any wrW = false) (h2 : ¬ 256 < L.length) (h3 : L.any lgW = false) (h4 : ascB ltW L = false ∨ L.any dsW = true) : ckT r s n L = 25 := by
 unfold ckT; rw [if_neg (by rw [h]; simp), if_neg (by rw [h1]; simp), if_neg h2, if_neg (by rw [h3]; simp)]
 by_cases h5 : ascB ltW L = false
 ·rw [if_pos h5]
 ·rw [if_neg h5, if_pos (h4.resolve_left h5)]
theorem ck_cf {r s n : Int} {L : List Rw} (h : hdT r s n L = false) (h1 : L.any wrW = false) (h2 : ¬ 256 < L.length) (h3 : L.any lgW = false) (h4 : ascB ltW L = true) (h5 : L.any dsW = false) (h6 : L.any (cfW r) = true) : ckT r s n L = 8 := by
 unfold ckT; rw [if_neg (by rw [h]; simp), if_neg (by rw [h1]; simp), if_neg h2, if_neg (by rw [h3]; simp), if_neg (by rw [h4]; simp), if_neg (by rw [h5]; simp), if_pos h6]
theorem ck_z {r s n : Int} {L : List Rw} (h : hdT r s n L = false) (h1 : L.any wrW = false) (h2 : ¬ 256 < L.length) (h3 : L.any lgW = false) (h4 : ascB ltW L = true) (h5 : L.any dsW = false) (h6 : L.any (cfW r) = false) : ckT r s n L = 0 := by
 unfold ckT; rw [if_neg (by rw [h]; simp), if_neg (by rw [h1]; simp), if_neg h2, if_neg (by rw [h3]; simp), if_neg (by rw [h4]; simp), if_neg (by rw [h5]; simp), if_neg (by rw [h6]; simp)]
def AscK {α : Type} (f : α → α → Bool) (l : List α) (k : Nat) : Prop := ∀ i x y, i + 1 < k → l[i]? = some x → l[i + 1]? = some y → f x y = true
theorem ascK_end {α : Type} {f : α → α → Bool} {l : List α} (h : AscK f l l.length) : ascB f l = true :=
 (ascB_iff f l).2 fun i x y hx hy => h i x y (by
  by_cases hz : i + 1 < l.length
  ·exact hz
  ·rw [List.getElem?_eq_none (by omega)] at hy; cases hy) hx hy
theorem ascK_next {α : Type} {f : α → α → Bool} {l : List α} {k : Nat} (h : AscK f l (k + 1)) {x y : α} (hx : l[k]? = some x) (hy : l[k + 1]? = some y) (hf : f x y = true) : AscK f l (k + 2) := by
 intro i a b hi ha hb
 by_cases e : i = k
 ·subst e
  rw [hx] at ha; rw [hy] at hb
  cases ha; cases hb
  exact hf
 ·exact h i a b (by omega) ha hb
theorem asc_miss {α : Type} {f : α → α → Bool} {l : List α} {k : Nat} {x y : α} (hx : l[k]? = some x) (hy : l[k + 1]? = some y) (hf : f x y = false) : ascB f l = false := by
 cases h : ascB f l with
 | false => rfl
 | true => have := (ascB_iff f l).1 h k x y hx hy; rw [hf] at this; cases this
set_option maxHeartbeats 12800000 in
theorem rck11_any (r s n : Int) (p : Option Addr) (c : Nat) (L : List Rw) (w : World) (hR : RdW w (· < w.heap.size) p c L) (hm : L.length ≤ 9223372036854775807) :
  Calls Tryz.prog 42 #[.agg #[.int .i64 r, .int .i64 s, .int .i64 n, .slice p L.length c]] w fun e w' => e = .returned (.int .i64 (ckT r s n L)) ∧ w.grownBy w' none := by
 have H0 := Lib.hid (bx_start (r := r) (s := s) (n := n) hR)
 clear hR
 go_enter Tryz.func42, Tryz.ntmps42
 go_upto_region 1 with fail
 generalize w.alloc _ = wa at *
 generalize (Value.agg #[Value.int .i64 r, Value.int .i64 s, Value.int .i64 n, Value.slice p L.length c]) = vz
 obtain ⟨d0, d1, d2, d3⟩ := row4T H0.out.bx
 have HH : Hid (hdT r s n L = !(inV r 1 99 && inV s 0 7 && (vl n || (decide (n = 0) && decide (L.length = 0))))) := Lib.hid rfl
 obtain ⟨b1, hb1⟩ : ∃ b, inV r 1 99 = b := ⟨_, rfl⟩
 obtain ⟨b2, hb2⟩ : ∃ b, inV s 0 7 = b := ⟨_, rfl⟩
 obtain ⟨b3, hb3⟩ : ∃ b, vl n = b := ⟨_, rfl⟩
 rw [hb1, hb2, hb3] at HH
 have HB := Lib.hid (And.intro hb1 (And.intro hb2 hb3))
 clear hb1 hb2 hb3
 go_cut [36] from 10 to 35 (fun v wx => v = .bool (hdT r s n L) ∧ wa = wx)
 case first =>
  go_wp2_with fail
  refine (rin11_any r 1 99 wa).mono ?_
  rintro e w' ⟨rfl, rfl⟩
  rw [HB.out.1]
  cases b1
  case false =>
   go_wp2_with fail
   go_meet
   exact ⟨by rw [HH.out]; rfl, rfl⟩
  go_wp2_with fail
  refine (rin11_any s 0 7 wa).mono ?_
  rintro e w' ⟨rfl, rfl⟩
  rw [HB.out.2.1]
  cases b2
  case false =>
   go_wp2_with fail
   go_meet
   exact ⟨by rw [HH.out]; rfl, rfl⟩
  go_wp2_with fail
  refine (vlr10_lit n b3 HB.out.2.2 wa).mono ?_
  rintro e w' ⟨rfl, rfl⟩
  cases b3
  case true =>
   go_wp2_with fail
   go_meet
   exact ⟨by rw [HH.out]; rfl, rfl⟩
  by_cases n0 : n = 0
  case neg =>
   have n0' : (n != 0) = true := by simpa using n0
   have HE : Hid (hdT r s n L = true) := Lib.hid (by rw [HH.out]; simp [n0])
   clear n0
   go_wp2_with fail
   go_meet
   exact ⟨by rw [HE.out]; first | done | rfl | (simp; done) | (simp; omega), rfl⟩
  have n0' : (n != 0) = false := by simpa using n0
  by_cases l0 : 0 < L.length
  ·have l0' : (0 : Int) < (L.length : Int) := by omega
   have HE : Hid (hdT r s n L = true) := Lib.hid (by rw [HH.out]; simp [show ¬ L.length = 0 by omega])
   clear n0
   go_wp2_with fail
   go_meet
   exact ⟨by rw [HE.out]; first | done | rfl | (simp; done) | (simp; omega), rfl⟩
  ·have l0' : ¬ (0 : Int) < (L.length : Int) := by omega
   have HE : Hid (hdT r s n L = false) := Lib.hid (by rw [HH.out]; simp [n0, show L.length = 0 by omega])
   clear n0
   go_wp2_with fail
   go_meet
   exact ⟨by rw [HE.out]; first | done | rfl | (simp; done) | (simp; omega), rfl⟩
 case rest =>
 obtain ⟨rfl, rfl⟩ := hcut
 clear HB HH
 cases hhd : hdT r s n L
 case true =>
  go_wp2_with fail
  go_ret
  exact ⟨by rw [ck_hd hhd]; rfl, H0.out.gr⟩
 have HD := Lib.hid hhd
 clear hhd d0 d1 d2 d3
 go_wp2_with fail
 go_loopw [3] (fun a wr => ∃ k : Nat, k ≤ L.length ∧ a = .int .i64 (k : Int) ∧ Hid ((L.take k).any wrW = false) ∧ Hid (BX w r s n p c L wr)) (fun a _ => L.length - (RowKit.intOf a).toNat)
 case atStart => exact ⟨0, Nat.zero_le _, rfl, Lib.hid (by simp), H0⟩
 case round =>
 obtain ⟨k, hk, rfl, HN, K⟩ := hrel
 clear H0
 obtain ⟨w2, hw2⟩ : ∃ w2, w2 = wr := ⟨_, rfl⟩
 rw [← hw2] at K ⊢
 clear hw2
 obtain ⟨d0, d1, d2, d3⟩ := row4T K.out.bx
 by_cases hlt : k < L.length
 case pos =>
  have hlt' : (k : Int) < (L.length : Int) := by omega
  obtain ⟨x, hx⟩ : ∃ x, L[k]? = some x := ⟨_, List.getElem?_eq_getElem hlt⟩
  obtain ⟨-, b, off, rfl, -, hc⟩ := rw_cells K.out.rd.rd (by omega)
  obtain ⟨a0, a1⟩ := hc k x hx
  have HX := Lib.hid (And.intro hx (K.out.rd.ok x (List.mem_of_getElem? hx)))
  have hmx : x.nx.length ≤ 9223372036854775807 := Nat.le_trans HX.out.2.hc.1 HX.out.2.hc.2
  have HLX := Lib.hid hx
  clear hc hx
  have HWX : Hid (wrW x = (!inV x.id 1 256 || x.nx.any fun z => !inV z 1 99)) := Lib.hid rfl
  go_wp2_with fail
  refine (rin11_any x.id 1 256 w2).mono ?_
  rintro e w' ⟨rfl, rfl⟩
  cases hid : inV x.id 1 256
  case false =>
   rw [hid] at HWX
   go_wp2_with fail
   go_ret
   exact ⟨by rw [ck_wr HD.out (any_at HX.out.1 (by rw [HWX.out]; rfl))]; rfl, K.out.gr⟩
  rw [hid] at HWX
  clear hid
  go_wp2_with fail
  clear a0 a1 d0 d1 d2 d3
  go_loopw [4] (fun a wr => ∃ j : Nat, j ≤ x.nx.length ∧ a = .int .i64 (j : Int) ∧ Hid ((x.nx.take j).any (fun z => !inV z 1 99) = false) ∧ Hid (BX w r s n (some ⟨b, off, none⟩) c L wr)) (fun a _ => x.nx.length - (RowKit.intOf a).toNat)
  case atStart => exact ⟨0, Nat.zero_le _, rfl, Lib.hid (by simp), K⟩
  case round =>
  clear K HX
  obtain ⟨j, hj, rfl, HJ, K⟩ := hrel
  obtain ⟨w7, hw7⟩ : ∃ w7, w7 = wr := ⟨_, rfl⟩
  rw [← hw7] at K ⊢
  clear hw7
  obtain ⟨d0, d1, d2, d3⟩ := row4T K.out.bx
  obtain ⟨-, b', off', hpe, -, hc⟩ := rw_cells K.out.rd.rd (by omega)
  injection hpe with hpe
  injection hpe with e1 e2
  subst e1
  subst e2
  have hx : L[k]? = some x := HLX.out
  obtain ⟨a0, a1⟩ := hc k x hx
  have HX := Lib.hid (And.intro hx (K.out.rd.ok x (List.mem_of_getElem? hx)))
  clear hc hx
  by_cases hjl : j < x.nx.length
  case neg =>
   obtain rfl : j = x.nx.length := by omega
   have hnj : ¬ (x.nx.length : Int) < (x.nx.length : Int) := by omega
   have HN2 : Hid ((L.take (k + 1)).any wrW = false) := Lib.hid (any_take HN.out HX.out.1 (by rw [HWX.out, any_end HJ.out (Nat.le_refl _)]; rfl))
   go_wp2_with fail
   exact ⟨⟨k + 1, by omega, congrArg _ (by omega), HN2, K⟩, by simp only [RowKit.intOf]; omega⟩
  have hjl' : (j : Int) < (x.nx.length : Int) := by omega
  obtain ⟨z, hz⟩ : ∃ z, x.nx[j]? = some z := ⟨_, List.getElem?_eq_getElem hjl⟩
  obtain ⟨-, bz, oz, hpz, -, hcz⟩ := tvT_at HX.out.2.rd hz
  have f0 := hcz j z hz
  rw [hpz] at a1
  have HZ := Lib.hid hz
  clear hcz hz
  go_wp2_with fail
  refine (rin11_any z 1 99 w7).mono ?_
  rintro e w' ⟨rfl, rfl⟩
  cases hid : inV z 1 99
  case false =>
   have HE := Lib.hid hid
   clear hid
   go_wp2_with fail
   go_ret
   exact ⟨by rw [ck_wr HD.out (any_at HX.out.1 (by rw [HWX.out, any_at HZ.out (by rw [HE.out]; rfl)]; rfl))]; rfl, K.out.gr⟩
  have HJ2 : Hid ((x.nx.take (j + 1)).any (fun z => !inV z 1 99) = false) := Lib.hid (any_take HJ.out HZ.out (by rw [hid]; rfl))
  clear hid
  go_wp2_with fail
  exact ⟨⟨j + 1, by omega, congrArg _ (by omega), HJ2, K⟩, by simp only [RowKit.intOf]; omega⟩
 obtain rfl : k = L.length := by omega
 have hnl : ¬ (L.length : Int) < (L.length : Int) := by omega
 have HW := Lib.hid (any_end HN.out (Nat.le_refl _))
 clear HN hlt hk
 by_cases h256 : 256 < L.length
 case pos =>
  have h256' : (256 : Int) < (L.length : Int) := by omega
  go_wp2_with fail
  go_ret
  exact ⟨by rw [ck_l1 HD.out HW.out h256]; rfl, K.out.gr⟩
 have h256' : ¬ (256 : Int) < (L.length : Int) := by omega
 go_wp2_with fail
 clear hnl d0 d1 d2 d3
 go_loopw [5] (fun a wr => ∃ k : Nat, k ≤ L.length ∧ a = .int .i64 (k : Int) ∧ Hid ((L.take k).any lgW = false) ∧ Hid (BX w r s n p c L wr)) (fun a _ => L.length - (RowKit.intOf a).toNat)
 case atStart => exact ⟨0, Nat.zero_le _, rfl, Lib.hid (by simp), K⟩
 case round =>
 clear K
 obtain ⟨k, hk, rfl, HN, K⟩ := hrel
 obtain ⟨w3, hw3⟩ : ∃ w3, w3 = wr := ⟨_, rfl⟩
 rw [← hw3] at K ⊢
 clear hw3
 obtain ⟨d0, d1, d2, d3⟩ := row4T K.out.bx
 by_cases hlt : k < L.length
 case pos =>
  have hlt' : (k : Int) < (L.length : Int) := by omega
  obtain ⟨x, hx⟩ : ∃ x, L[k]? = some x := ⟨_, List.getElem?_eq_getElem hlt⟩
  obtain ⟨-, b, off, rfl, -, hc⟩ := rw_cells K.out.rd.rd (by omega)
  obtain ⟨a0, a1⟩ := hc k x hx
  have HX := Lib.hid (And.intro hx (K.out.rd.ok x (List.mem_of_getElem? hx)))
  have hmx : x.nx.length ≤ 9223372036854775807 := Nat.le_trans HX.out.2.hc.1 HX.out.2.hc.2
  clear hc hx
  by_cases hl24 : 24 < x.nx.length
  case pos =>
   have hl24' : (24 : Int) < (x.nx.length : Int) := by omega
   have HE : Hid (lgW x = true) := Lib.hid (by unfold lgW; simp [hl24])
   go_wp2_with fail
   go_ret
   exact ⟨by rw [ck_lg HD.out HW.out h256 (any_at HX.out.1 HE.out)]; rfl, K.out.gr⟩
  have hl24' : ¬ (24 : Int) < (x.nx.length : Int) := by omega
  have HN2 : Hid ((L.take (k + 1)).any lgW = false) := Lib.hid (any_take HN.out HX.out.1 (by unfold lgW; simp; omega))
  go_wp2_with fail
  exact ⟨⟨k + 1, by omega, congrArg _ (by omega), HN2, K⟩, by simp only [RowKit.intOf]; omega⟩
 obtain rfl : k = L.length := by omega
 have hnl : ¬ (L.length : Int) < (L.length : Int) := by omega
 have HG := Lib.hid (any_end HN.out (Nat.le_refl _))
 clear HN hlt hk
 go_wp2_with fail
 clear hnl d0 d1 d2 d3
 go_loopw [6] (fun a wr => ∃ k : Nat, k ≤ L.length ∧ a = .int .i64 (k : Int) ∧ Hid (AscK ltW L k) ∧ Hid ((L.take k).any dsW = false) ∧ Hid (BX w r s n p c L wr)) (fun a _ => L.length - (RowKit.intOf a).toNat)
 case atStart => exact ⟨0, Nat.zero_le _, rfl, Lib.hid (fun i x y hi => by omega), Lib.hid (by simp), K⟩
 case round =>
 clear K
 obtain ⟨k, hk, rfl, HA, HN, K⟩ := hrel
 obtain ⟨w4, hw4⟩ : ∃ w4, w4 = wr := ⟨_, rfl⟩
 rw [← hw4] at K ⊢
 clear hw4
 obtain ⟨d0, d1, d2, d3⟩ := row4T K.out.bx
 by_cases hlt : k < L.length
 case pos =>
  have hlt' : (k : Int) < (L.length : Int) := by omega
  obtain ⟨x, hx⟩ : ∃ x, L[k]? = some x := ⟨_, List.getElem?_eq_getElem hlt⟩
  obtain ⟨-, b, off, rfl, -, hc⟩ := rw_cells K.out.rd.rd (by omega)
  obtain ⟨a0, a1⟩ := hc k x hx
  have HX := Lib.hid (And.intro hx (K.out.rd.ok x (List.mem_of_getElem? hx)))
  have hmx : x.nx.length ≤ 9223372036854775807 := Nat.le_trans HX.out.2.hc.1 HX.out.2.hc.2
  have HLX := Lib.hid hx
  have HHC := Lib.hid hc
  clear hc hx
  go_upto_region 24 with fail
  cases k with
  | zero =>
   have HA2 : Hid (AscK ltW L (0 + 1)) := Lib.hid (fun i a b hi => by omega)
   refine wp_region_held_drew (S := fun w' => Hid (w4.grownBy w' none)) (by kernel_rfl) (Lib.hid (grown_drew (grown_refl _ none))) (fun hHeld => ?_)
   refine zT (i := 0) (v := ?_) rfl ?_ hHeld ?_
   rotate_left 1
   ·intro u hSu
    go_simp
    first | done | with_reducible rfl
   try simp only [Act.put, zA, zB, zC]
   refine zT (i := 1) (v := ?_) rfl ?_ hHeld ?_
   rotate_left 1
   ·intro u hSu
    go_simp
    first | done | with_reducible rfl
   try simp only [Act.put, zA, zB, zC]
   refine zT (i := 2) (v := ?_) rfl ?_ hHeld ?_
   rotate_left 1
   ·intro u hSu
    go_simp
    first | done | with_reducible rfl
   try simp only [Act.put, zA, zB, zC]
   refine zS (i := 3) rfl hHeld ?_
   try simp only [Act.put, zA, zB, zC]
   refine zS (i := 4) rfl hHeld ?_
   try simp only [Act.put, zA, zB, zC]
   refine zS (i := 5) rfl hHeld ?_
   try simp only [Act.put, zA, zB, zC]
   refine zS (i := 6) rfl hHeld ?_
   try simp only [Act.put, zA, zB, zC]
   refine zS (i := 7) rfl hHeld ?_
   try simp only [Act.put, zA, zB, zC]
   refine zS (i := 8) rfl hHeld ?_
   try simp only [Act.put, zA, zB, zC]
   refine zS (i := 9) rfl hHeld ?_
   try simp only [Act.put, zA, zB, zC]
   refine zS (i := 10) rfl hHeld ?_
   try simp only [Act.put, zA, zB, zC]
   refine zS (i := 11) rfl hHeld ?_
   try simp only [Act.put, zA, zB, zC]
   refine zS (i := 12) rfl hHeld ?_
   try simp only [Act.put, zA, zB, zC]
   refine zS (i := 13) rfl hHeld ?_
   try simp only [Act.put, zA, zB, zC]
   refine zS (i := 14) rfl hHeld ?_
   try simp only [Act.put, zA, zB, zC]
   refine zS (i := 15) rfl hHeld ?_
   try simp only [Act.put, zA, zB, zC]
   refine zS (i := 16) rfl hHeld ?_
   try simp only [Act.put, zA, zB, zC]
   refine zT (i := 17) (v := ?_) rfl ?_ hHeld ?_
   rotate_left 1
   ·intro u hSu
    go_simp
    first | done | with_reducible rfl
   try simp only [Act.put, zA, zB, zC]
   refine wpAnyH_done (by kernel_rfl) ?_ _
   have HK2 := Lib.hid (K.out.keep hHeld.out)
   clear hHeld K a0 a1 d0 d1 d2 d3
   generalize w4.drew = w6 at *
   go_wp2_with fail
   go_loopw [8] (fun a wr => ∃ j : Nat, 1 ≤ j ∧ (j ≤ x.nx.length ∨ j = 1) ∧ a = .int .i64 (j : Int) ∧ Hid (AscK ltI x.nx j) ∧ Hid (BX w r s n (some ⟨b, off, none⟩) c L wr)) (fun a _ => x.nx.length + 1 - (RowKit.intOf a).toNat)
   case atStart => exact ⟨1, Nat.le_refl _, Or.inr rfl, rfl, Lib.hid (fun i x y hi => by omega), HK2⟩
   case round =>
   clear HK2 HX
   obtain ⟨j, hj1, hj, rfl, HJ, K⟩ := hrel
   obtain ⟨w7, hw7⟩ : ∃ w7, w7 = wr := ⟨_, rfl⟩
   rw [← hw7] at K ⊢
   clear hw7
   have HX := Lib.hid (And.intro HLX.out (K.out.rd.ok x (List.mem_of_getElem? HLX.out)))
   by_cases hjl : j < x.nx.length
   case neg =>
    have hnj : ¬ (j : Int) < (x.nx.length : Int) := by omega
    have HN2 : Hid ((L.take (0 + 1)).any dsW = false) := Lib.hid (any_take HN.out HX.out.1 (by
     unfold dsW
     rw [ascK_end (f := ltI) (l := x.nx) (fun i a b hi => HJ.out i a b (by omega))]; rfl))
    go_wp2_with fail
    exact ⟨⟨0 + 1, by omega, congrArg _ (by omega), HA2, HN2, K⟩, by simp only [RowKit.intOf]; omega⟩
   obtain ⟨i, rfl⟩ : ∃ i, j = i + 1 := ⟨j - 1, by omega⟩
   have hjl' : (((i + 1 : Nat)) : Int) < (x.nx.length : Int) := by omega
   obtain ⟨y, hy⟩ : ∃ y, x.nx[i]? = some y := ⟨_, List.getElem?_eq_getElem (by omega)⟩
   obtain ⟨z, hz⟩ : ∃ z, x.nx[i + 1]? = some z := ⟨_, List.getElem?_eq_getElem hjl⟩
   obtain ⟨-, bz, oz, hpz, -, hcz⟩ := tvT_at HX.out.2.rd hz
   have f0 := hcz i y hy
   have f1 := hcz (i + 1) z hz
   rw [hpz] at *
   have HZ := Lib.hid (And.intro hy hz)
   clear hcz hz hy hpz
   have hi1 : (i : Int) < (x.nx.length : Int) := by omega
   have hi0 : (0 : Int) ≤ (i : Int) := by omega
   have hi00 : (0 : Int) ≤ ((i + 1 : Nat) : Int) := by omega
   have hi000 : (0 : Int) ≤ (i : Int) + 1 := by omega
   have hi001 : (i : Int) + 1 < (x.nx.length : Int) := by omega
   go_upto_region 29 with fail
   by_cases hyz : y < z
   case pos =>
    refine wp_region_held_drew (S := fun w' => Hid (w7.grownBy w' none)) (by kernel_rfl) (Lib.hid (grown_drew (grown_refl _ none))) (fun hHeld => ?_)
    refine zT (i := 0) (v := ?_) rfl ?_ hHeld ?_
    rotate_left 1
    ·intro u hSu
     go_simp
     first | done | with_reducible rfl
    try simp only [Act.put, zA, zB, zC]
    refine zT (i := 1) (v := ?_) rfl ?_ hHeld ?_
    rotate_left 1
    ·intro u hSu
     go_simp
     first | done | with_reducible rfl
    try simp only [Act.put, zA, zB, zC]
    refine zT (i := 2) (v := .int .i64 (i : Int)) rfl ?_ hHeld ?_
    ·intro u hSu
     go_simp
     first | done | with_reducible rfl | (rw [IntKind.wrap_i64]; omega) | omega
    try simp only [Act.put, zA, zB, zC]
    refine zT (i := 3) (v := ?_) rfl ?_ hHeld ?_
    rotate_left 1
    ·intro u hSu
     go_simp
     first | done | with_reducible rfl
    try simp only [Act.put, zA, zB, zC]
    refine zT (i := 4) (v := ?_) rfl ?_ hHeld ?_
    rotate_left 1
    ·intro u hSu
     have f0u := hSu.out.cell f0 (by simp)
     have f1u := hSu.out.cell f1 (by simp)
     go_simp
     first | done | with_reducible rfl
    try simp only [Act.put, zA, zB, zC]
    refine zT (i := 5) (v := ?_) rfl ?_ hHeld ?_
    rotate_left 1
    ·intro u hSu
     go_simp
     first | done | with_reducible rfl
    try simp only [Act.put, zA, zB, zC]
    refine zT (i := 6) (v := ?_) rfl ?_ hHeld ?_
    rotate_left 1
    ·intro u hSu
     go_simp
     first | done | with_reducible rfl
    try simp only [Act.put, zA, zB, zC]
    refine zT (i := 7) (v := ?_) rfl ?_ hHeld ?_
    rotate_left 1
    ·intro u hSu
     go_simp
     first | done | with_reducible rfl
    try simp only [Act.put, zA, zB, zC]
    refine zT (i := 8) (v := ?_) rfl ?_ hHeld ?_
    rotate_left 1
    ·intro u hSu
     have f0u := hSu.out.cell f0 (by simp)
     have f1u := hSu.out.cell f1 (by simp)
     go_simp
     first | done | with_reducible rfl
    try simp only [Act.put, zA, zB, zC]
    refine zT (i := 9) (v := .bool false) rfl ?_ hHeld ?_
    ·intro u hSu
     go_simp
     first | done | with_reducible rfl | (rw [IntKind.wrap_i64]; omega) | omega
    try simp only [Act.put, zA, zB, zC]
    refine wpAnyH_done (by kernel_rfl) ?_ _
    have HK2 := Lib.hid (K.out.keep hHeld.out)
    have HJ2 : Hid (AscK ltI x.nx (i + 1 + 1)) := Lib.hid (ascK_next HJ.out HZ.out.1 HZ.out.2 (by unfold ltI; simp [hyz]))
    clear hHeld K f0 f1
    go_wp2_with fail
    exact ⟨⟨i + 1 + 1, by omega, Or.inl (by omega), congrArg _ (by omega), HJ2, HK2⟩, by simp only [RowKit.intOf]; omega⟩
   refine wp_region_held_drew (S := fun w' => Hid (w7.grownBy w' none)) (by kernel_rfl) (Lib.hid (grown_drew (grown_refl _ none))) (fun hHeld => ?_)
   refine zT (i := 0) (v := ?_) rfl ?_ hHeld ?_
   rotate_left 1
   ·intro u hSu
    go_simp
    first | done | with_reducible rfl
   try simp only [Act.put, zA, zB, zC]
   refine zT (i := 1) (v := ?_) rfl ?_ hHeld ?_
   rotate_left 1
   ·intro u hSu
    go_simp
    first | done | with_reducible rfl
   try simp only [Act.put, zA, zB, zC]
   refine zT (i := 2) (v := .int .i64 (i : Int)) rfl ?_ hHeld ?_
   ·intro u hSu
    go_simp
    first | done | with_reducible rfl | (rw [IntKind.wrap_i64]; omega) | omega
   try simp only [Act.put, zA, zB, zC]
   refine zT (i := 3) (v := ?_) rfl ?_ hHeld ?_
   rotate_left 1
   ·intro u hSu
    go_simp
    first | done | with_reducible rfl
   try simp only [Act.put, zA, zB, zC]
   refine zT (i := 4) (v := ?_) rfl ?_ hHeld ?_
   rotate_left 1
   ·intro u hSu
    have f0u := hSu.out.cell f0 (by simp)
    have f1u := hSu.out.cell f1 (by simp)
    go_simp
    first | done | with_reducible rfl
   try simp only [Act.put, zA, zB, zC]
   refine zT (i := 5) (v := ?_) rfl ?_ hHeld ?_
   rotate_left 1
   ·intro u hSu
    go_simp
    first | done | with_reducible rfl
   try simp only [Act.put, zA, zB, zC]
   refine zT (i := 6) (v := ?_) rfl ?_ hHeld ?_
   rotate_left 1
   ·intro u hSu
    go_simp
    first | done | with_reducible rfl
   try simp only [Act.put, zA, zB, zC]
   refine zT (i := 7) (v := ?_) rfl ?_ hHeld ?_
   rotate_left 1
   ·intro u hSu
    go_simp
    first | done | with_reducible rfl
   try simp only [Act.put, zA, zB, zC]
   refine zT (i := 8) (v := ?_) rfl ?_ hHeld ?_
   rotate_left 1
   ·intro u hSu
    have f0u := hSu.out.cell f0 (by simp)
    have f1u := hSu.out.cell f1 (by simp)
    go_simp
    first | done | with_reducible rfl
   try simp only [Act.put, zA, zB, zC]
   refine zT (i := 9) (v := .bool true) rfl ?_ hHeld ?_
   ·intro u hSu
    go_simp
    first | done | with_reducible rfl | (rw [IntKind.wrap_i64]; omega) | omega
   try simp only [Act.put, zA, zB, zC]
   refine wpAnyH_done (by kernel_rfl) ?_ _
   have HE : Hid (dsW x = true) := Lib.hid (by
    unfold dsW
    rw [asc_miss (f := ltI) HZ.out.1 HZ.out.2 (by unfold ltI; simp; omega)]; rfl)
   have HK2 := Lib.hid (K.out.keep hHeld.out)
   clear hHeld K f0 f1
   go_wp2_with fail
   go_ret
   exact ⟨by rw [ck_or HD.out HW.out h256 HG.out (Or.inr (any_at HX.out.1 HE.out))]; rfl, HK2.out.gr⟩
  | succ m =>
   obtain ⟨y, hy⟩ : ∃ y, L[m]? = some y := ⟨_, List.getElem?_eq_getElem (by omega)⟩
   obtain ⟨g0, g1⟩ := HHC.out m y hy
   have HY := Lib.hid hy
   have hi1 : (m : Int) < (L.length : Int) := by omega
   have hi0 : (0 : Int) ≤ (m : Int) := by omega
   have hi00 : (0 : Int) ≤ ((m + 1 : Nat) : Int) := by omega
   have hi01 : (0 : Int) < ((m + 1 : Nat) : Int) := by omega
   have hi000 : (0 : Int) ≤ (m : Int) + 1 := by omega
   have hi001 : (m : Int) + 1 < (L.length : Int) := by omega
   clear hy
   by_cases hyx : y.id < x.id
   case neg =>
    refine wp_region_held_drew (S := fun w' => Hid (w4.grownBy w' none)) (by kernel_rfl) (Lib.hid (grown_drew (grown_refl _ none))) (fun hHeld => ?_)
    refine zT (i := 0) (v := ?_) rfl ?_ hHeld ?_
    rotate_left 1
    ·intro u hSu
     go_simp
     first | done | with_reducible rfl
    try simp only [Act.put, zA, zB, zC]
    refine zT (i := 1) (v := ?_) rfl ?_ hHeld ?_
    rotate_left 1
    ·intro u hSu
     go_simp
     first | done | with_reducible rfl
    try simp only [Act.put, zA, zB, zC]
    refine zT (i := 2) (v := ?_) rfl ?_ hHeld ?_
    rotate_left 1
    ·intro u hSu
     go_simp
     first | done | with_reducible rfl
    try simp only [Act.put, zA, zB, zC]
    refine zT (i := 3) (v := ?_) rfl ?_ hHeld ?_
    rotate_left 1
    ·intro u hSu
     go_simp
     first | done | with_reducible rfl
    try simp only [Act.put, zA, zB, zC]
    refine zT (i := 4) (v := ?_) rfl ?_ hHeld ?_
    rotate_left 1
    ·intro u hSu
     have e3 := hSu.out.cell d3 (by simp)
     have x0 := hSu.out.cell a0 (by simp)
     have y0 := hSu.out.cell g0 (by simp)
     go_simp
     first | done | with_reducible rfl
    try simp only [Act.put, zA, zB, zC]
    refine zT (i := 5) (v := ?_) rfl ?_ hHeld ?_
    rotate_left 1
    ·intro u hSu
     go_simp
     first | done | with_reducible rfl
    try simp only [Act.put, zA, zB, zC]
    refine zT (i := 6) (v := .int .i64 (m : Int)) rfl ?_ hHeld ?_
    ·intro u hSu
     go_simp
     first | done | with_reducible rfl | (rw [IntKind.wrap_i64]; omega) | omega
    try simp only [Act.put, zA, zB, zC]
    refine zT (i := 7) (v := ?_) rfl ?_ hHeld ?_
    rotate_left 1
    ·intro u hSu
     go_simp
     first | done | with_reducible rfl
    try simp only [Act.put, zA, zB, zC]
    refine zT (i := 8) (v := ?_) rfl ?_ hHeld ?_
    rotate_left 1
    ·intro u hSu
     go_simp
     first | done | with_reducible rfl
    try simp only [Act.put, zA, zB, zC]
    refine zT (i := 9) (v := ?_) rfl ?_ hHeld ?_
    rotate_left 1
    ·intro u hSu
     have e3 := hSu.out.cell d3 (by simp)
     have x0 := hSu.out.cell a0 (by simp)
     have y0 := hSu.out.cell g0 (by simp)
     go_simp
     first | done | with_reducible rfl
    try simp only [Act.put, zA, zB, zC]
    refine zT (i := 10) (v := ?_) rfl ?_ hHeld ?_
    rotate_left 1
    ·intro u hSu
     go_simp
     first | done | with_reducible rfl
    try simp only [Act.put, zA, zB, zC]
    refine zT (i := 11) (v := ?_) rfl ?_ hHeld ?_
    rotate_left 1
    ·intro u hSu
     have e3 := hSu.out.cell d3 (by simp)
     have x0 := hSu.out.cell a0 (by simp)
     have y0 := hSu.out.cell g0 (by simp)
     go_simp
     first | done | with_reducible rfl
    try simp only [Act.put, zA, zB, zC]
    refine zT (i := 12) (v := ?_) rfl ?_ hHeld ?_
    rotate_left 1
    ·intro u hSu
     go_simp
     first | done | with_reducible rfl
    try simp only [Act.put, zA, zB, zC]
    refine zT (i := 13) (v := ?_) rfl ?_ hHeld ?_
    rotate_left 1
    ·intro u hSu
     go_simp
     first | done | with_reducible rfl
    try simp only [Act.put, zA, zB, zC]
    refine zT (i := 14) (v := ?_) rfl ?_ hHeld ?_
    rotate_left 1
    ·intro u hSu
     go_simp
     first | done | with_reducible rfl
    try simp only [Act.put, zA, zB, zC]
    refine zT (i := 15) (v := ?_) rfl ?_ hHeld ?_
    rotate_left 1
    ·intro u hSu
     have e3 := hSu.out.cell d3 (by simp)
     have x0 := hSu.out.cell a0 (by simp)
     have y0 := hSu.out.cell g0 (by simp)
     go_simp
     first | done | with_reducible rfl
    try simp only [Act.put, zA, zB, zC]
    refine zT (i := 16) (v := .bool true) rfl ?_ hHeld ?_
    ·intro u hSu
     go_simp
     first | done | with_reducible rfl | (rw [IntKind.wrap_i64]; omega) | omega
    try simp only [Act.put, zA, zB, zC]
    refine zT (i := 17) (v := ?_) rfl ?_ hHeld ?_
    rotate_left 1
    ·intro u hSu
     go_simp
     first | done | with_reducible rfl
    try simp only [Act.put, zA, zB, zC]
    refine wpAnyH_done (by kernel_rfl) ?_ _
    have HE : Hid (ascB ltW L = false) := Lib.hid (asc_miss HY.out HLX.out (by unfold ltW; simp; omega))
    have HK2 := Lib.hid (K.out.keep hHeld.out)
    clear hHeld K a0 a1 d0 d1 d2 d3 g0 g1
    go_wp2_with fail
    go_ret
    exact ⟨by rw [ck_or HD.out HW.out h256 HG.out (Or.inl HE.out)]; rfl, HK2.out.gr⟩
   have HA2 : Hid (AscK ltW L (m + 1 + 1)) := Lib.hid (ascK_next HA.out HY.out HLX.out (by unfold ltW; simp [hyx]))
   refine wp_region_held_drew (S := fun w' => Hid (w4.grownBy w' none)) (by kernel_rfl) (Lib.hid (grown_drew (grown_refl _ none))) (fun hHeld => ?_)
   refine zT (i := 0) (v := ?_) rfl ?_ hHeld ?_
   rotate_left 1
   ·intro u hSu
    go_simp
    first | done | with_reducible rfl
   try simp only [Act.put, zA, zB, zC]
   refine zT (i := 1) (v := ?_) rfl ?_ hHeld ?_
   rotate_left 1
   ·intro u hSu
    go_simp
    first | done | with_reducible rfl
   try simp only [Act.put, zA, zB, zC]
   refine zT (i := 2) (v := ?_) rfl ?_ hHeld ?_
   rotate_left 1
   ·intro u hSu
    go_simp
    first | done | with_reducible rfl
   try simp only [Act.put, zA, zB, zC]
   refine zT (i := 3) (v := ?_) rfl ?_ hHeld ?_
   rotate_left 1
   ·intro u hSu
    go_simp
    first | done | with_reducible rfl
   try simp only [Act.put, zA, zB, zC]
   refine zT (i := 4) (v := ?_) rfl ?_ hHeld ?_
   rotate_left 1
   ·intro u hSu
    have e3 := hSu.out.cell d3 (by simp)
    have x0 := hSu.out.cell a0 (by simp)
    have y0 := hSu.out.cell g0 (by simp)
    go_simp
    first | done | with_reducible rfl
   try simp only [Act.put, zA, zB, zC]
   refine zT (i := 5) (v := ?_) rfl ?_ hHeld ?_
   rotate_left 1
   ·intro u hSu
    go_simp
    first | done | with_reducible rfl
   try simp only [Act.put, zA, zB, zC]
   refine zT (i := 6) (v := .int .i64 (m : Int)) rfl ?_ hHeld ?_
   ·intro u hSu
    go_simp
    first | done | with_reducible rfl | (rw [IntKind.wrap_i64]; omega) | omega
   try simp only [Act.put, zA, zB, zC]
   refine zT (i := 7) (v := ?_) rfl ?_ hHeld ?_
   rotate_left 1
   ·intro u hSu
    go_simp
    first | done | with_reducible rfl
   try simp only [Act.put, zA, zB, zC]
   refine zT (i := 8) (v := ?_) rfl ?_ hHeld ?_
   rotate_left 1
   ·intro u hSu
    go_simp
    first | done | with_reducible rfl
   try simp only [Act.put, zA, zB, zC]
   refine zT (i := 9) (v := ?_) rfl ?_ hHeld ?_
   rotate_left 1
   ·intro u hSu
    have e3 := hSu.out.cell d3 (by simp)
    have x0 := hSu.out.cell a0 (by simp)
    have y0 := hSu.out.cell g0 (by simp)
    go_simp
    first | done | with_reducible rfl
   try simp only [Act.put, zA, zB, zC]
   refine zT (i := 10) (v := ?_) rfl ?_ hHeld ?_
   rotate_left 1
   ·intro u hSu
    go_simp
    first | done | with_reducible rfl
   try simp only [Act.put, zA, zB, zC]
   refine zT (i := 11) (v := ?_) rfl ?_ hHeld ?_
   rotate_left 1
   ·intro u hSu
    have e3 := hSu.out.cell d3 (by simp)
    have x0 := hSu.out.cell a0 (by simp)
    have y0 := hSu.out.cell g0 (by simp)
    go_simp
    first | done | with_reducible rfl
   try simp only [Act.put, zA, zB, zC]
   refine zT (i := 12) (v := ?_) rfl ?_ hHeld ?_
   rotate_left 1
   ·intro u hSu
    go_simp
    first | done | with_reducible rfl
   try simp only [Act.put, zA, zB, zC]
   refine zT (i := 13) (v := ?_) rfl ?_ hHeld ?_
   rotate_left 1
   ·intro u hSu
    go_simp
    first | done | with_reducible rfl
   try simp only [Act.put, zA, zB, zC]
   refine zT (i := 14) (v := ?_) rfl ?_ hHeld ?_
   rotate_left 1
   ·intro u hSu
    go_simp
    first | done | with_reducible rfl
   try simp only [Act.put, zA, zB, zC]
   refine zT (i := 15) (v := ?_) rfl ?_ hHeld ?_
   rotate_left 1
   ·intro u hSu
    have e3 := hSu.out.cell d3 (by simp)
    have x0 := hSu.out.cell a0 (by simp)
    have y0 := hSu.out.cell g0 (by simp)
    go_simp
    first | done | with_reducible rfl
   try simp only [Act.put, zA, zB, zC]
   refine zT (i := 16) (v := .bool false) rfl ?_ hHeld ?_
   ·intro u hSu
    go_simp
    first | done | with_reducible rfl | (rw [IntKind.wrap_i64]; omega) | omega
   try simp only [Act.put, zA, zB, zC]
   refine zT (i := 17) (v := ?_) rfl ?_ hHeld ?_
   rotate_left 1
   ·intro u hSu
    go_simp
    first | done | with_reducible rfl
   try simp only [Act.put, zA, zB, zC]
   refine wpAnyH_done (by kernel_rfl) ?_ _
   clear g0 g1
   have HK2 := Lib.hid (K.out.keep hHeld.out)
   clear hHeld K a0 a1 d0 d1 d2 d3
   generalize w4.drew = w6 at *
   go_wp2_with fail
   go_loopw [8] (fun a wr => ∃ j : Nat, 1 ≤ j ∧ (j ≤ x.nx.length ∨ j = 1) ∧ a = .int .i64 (j : Int) ∧ Hid (AscK ltI x.nx j) ∧ Hid (BX w r s n (some ⟨b, off, none⟩) c L wr)) (fun a _ => x.nx.length + 1 - (RowKit.intOf a).toNat)
   case atStart => exact ⟨1, Nat.le_refl _, Or.inr rfl, rfl, Lib.hid (fun i x y hi => by omega), HK2⟩
   case round =>
   clear HK2 HX
   obtain ⟨j, hj1, hj, rfl, HJ, K⟩ := hrel
   obtain ⟨w7, hw7⟩ : ∃ w7, w7 = wr := ⟨_, rfl⟩
   rw [← hw7] at K ⊢
   clear hw7
   have HX := Lib.hid (And.intro HLX.out (K.out.rd.ok x (List.mem_of_getElem? HLX.out)))
   by_cases hjl : j < x.nx.length
   case neg =>
    have hnj : ¬ (j : Int) < (x.nx.length : Int) := by omega
    have HN2 : Hid ((L.take ((m + 1) + 1)).any dsW = false) := Lib.hid (any_take HN.out HX.out.1 (by
     unfold dsW
     rw [ascK_end (f := ltI) (l := x.nx) (fun i a b hi => HJ.out i a b (by omega))]; rfl))
    go_wp2_with fail
    exact ⟨⟨(m + 1) + 1, by omega, congrArg _ (by omega), HA2, HN2, K⟩, by simp only [RowKit.intOf]; omega⟩
   obtain ⟨i, rfl⟩ : ∃ i, j = i + 1 := ⟨j - 1, by omega⟩
   have hjl' : (((i + 1 : Nat)) : Int) < (x.nx.length : Int) := by omega
   obtain ⟨y, hy⟩ : ∃ y, x.nx[i]? = some y := ⟨_, List.getElem?_eq_getElem (by omega)⟩
   obtain ⟨z, hz⟩ : ∃ z, x.nx[i + 1]? = some z := ⟨_, List.getElem?_eq_getElem hjl⟩
   obtain ⟨-, bz, oz, hpz, -, hcz⟩ := tvT_at HX.out.2.rd hz
   have f0 := hcz i y hy
   have f1 := hcz (i + 1) z hz
   rw [hpz] at *
   have HZ := Lib.hid (And.intro hy hz)
   clear hcz hz hy hpz
   have hi1 : (i : Int) < (x.nx.length : Int) := by omega
   have hi0 : (0 : Int) ≤ (i : Int) := by omega
   have hi00 : (0 : Int) ≤ ((i + 1 : Nat) : Int) := by omega
   have hi000 : (0 : Int) ≤ (i : Int) + 1 := by omega
   have hi001 : (i : Int) + 1 < (x.nx.length : Int) := by omega
   go_upto_region 29 with fail
   by_cases hyz : y < z
   case pos =>
    refine wp_region_held_drew (S := fun w' => Hid (w7.grownBy w' none)) (by kernel_rfl) (Lib.hid (grown_drew (grown_refl _ none))) (fun hHeld => ?_)
    refine zT (i := 0) (v := ?_) rfl ?_ hHeld ?_
    rotate_left 1
    ·intro u hSu
     go_simp
     first | done | with_reducible rfl
    try simp only [Act.put, zA, zB, zC]
    refine zT (i := 1) (v := ?_) rfl ?_ hHeld ?_
    rotate_left 1
    ·intro u hSu
     go_simp
     first | done | with_reducible rfl
    try simp only [Act.put, zA, zB, zC]
    refine zT (i := 2) (v := .int .i64 (i : Int)) rfl ?_ hHeld ?_
    ·intro u hSu
     go_simp
     first | done | with_reducible rfl | (rw [IntKind.wrap_i64]; omega) | omega
    try simp only [Act.put, zA, zB, zC]
    refine zT (i := 3) (v := ?_) rfl ?_ hHeld ?_
    rotate_left 1
    ·intro u hSu
     go_simp
     first | done | with_reducible rfl
    try simp only [Act.put, zA, zB, zC]
    refine zT (i := 4) (v := ?_) rfl ?_ hHeld ?_
    rotate_left 1
    ·intro u hSu
     have f0u := hSu.out.cell f0 (by simp)
     have f1u := hSu.out.cell f1 (by simp)
     go_simp
     first | done | with_reducible rfl
    try simp only [Act.put, zA, zB, zC]
    refine zT (i := 5) (v := ?_) rfl ?_ hHeld ?_
    rotate_left 1
    ·intro u hSu
     go_simp
     first | done | with_reducible rfl
    try simp only [Act.put, zA, zB, zC]
    refine zT (i := 6) (v := ?_) rfl ?_ hHeld ?_
    rotate_left 1
    ·intro u hSu
     go_simp
     first | done | with_reducible rfl
    try simp only [Act.put, zA, zB, zC]
    refine zT (i := 7) (v := ?_) rfl ?_ hHeld ?_
    rotate_left 1
    ·intro u hSu
     go_simp
     first | done | with_reducible rfl
    try simp only [Act.put, zA, zB, zC]
    refine zT (i := 8) (v := ?_) rfl ?_ hHeld ?_
    rotate_left 1
    ·intro u hSu
     have f0u := hSu.out.cell f0 (by simp)
     have f1u := hSu.out.cell f1 (by simp)
     go_simp
     first | done | with_reducible rfl
    try simp only [Act.put, zA, zB, zC]
    refine zT (i := 9) (v := .bool false) rfl ?_ hHeld ?_
    ·intro u hSu
     go_simp
     first | done | with_reducible rfl | (rw [IntKind.wrap_i64]; omega) | omega
    try simp only [Act.put, zA, zB, zC]
    refine wpAnyH_done (by kernel_rfl) ?_ _
    have HK2 := Lib.hid (K.out.keep hHeld.out)
    have HJ2 : Hid (AscK ltI x.nx (i + 1 + 1)) := Lib.hid (ascK_next HJ.out HZ.out.1 HZ.out.2 (by unfold ltI; simp [hyz]))
    clear hHeld K f0 f1
    go_wp2_with fail
    exact ⟨⟨i + 1 + 1, by omega, Or.inl (by omega), congrArg _ (by omega), HJ2, HK2⟩, by simp only [RowKit.intOf]; omega⟩
   refine wp_region_held_drew (S := fun w' => Hid (w7.grownBy w' none)) (by kernel_rfl) (Lib.hid (grown_drew (grown_refl _ none))) (fun hHeld => ?_)
   refine zT (i := 0) (v := ?_) rfl ?_ hHeld ?_
   rotate_left 1
   ·intro u hSu
    go_simp
    first | done | with_reducible rfl
   try simp only [Act.put, zA, zB, zC]
   refine zT (i := 1) (v := ?_) rfl ?_ hHeld ?_
   rotate_left 1
   ·intro u hSu
    go_simp
    first | done | with_reducible rfl
   try simp only [Act.put, zA, zB, zC]
   refine zT (i := 2) (v := .int .i64 (i : Int)) rfl ?_ hHeld ?_
   ·intro u hSu
    go_simp
    first | done | with_reducible rfl | (rw [IntKind.wrap_i64]; omega) | omega
   try simp only [Act.put, zA, zB, zC]
   refine zT (i := 3) (v := ?_) rfl ?_ hHeld ?_
   rotate_left 1
   ·intro u hSu
    go_simp
    first | done | with_reducible rfl
   try simp only [Act.put, zA, zB, zC]
   refine zT (i := 4) (v := ?_) rfl ?_ hHeld ?_
   rotate_left 1
   ·intro u hSu
    have f0u := hSu.out.cell f0 (by simp)
    have f1u := hSu.out.cell f1 (by simp)
    go_simp
    first | done | with_reducible rfl
   try simp only [Act.put, zA, zB, zC]
   refine zT (i := 5) (v := ?_) rfl ?_ hHeld ?_
   rotate_left 1
   ·intro u hSu
    go_simp
    first | done | with_reducible rfl
   try simp only [Act.put, zA, zB, zC]
   refine zT (i := 6) (v := ?_) rfl ?_ hHeld ?_
   rotate_left 1
   ·intro u hSu
    go_simp
    first | done | with_reducible rfl
   try simp only [Act.put, zA, zB, zC]
   refine zT (i := 7) (v := ?_) rfl ?_ hHeld ?_
   rotate_left 1
   ·intro u hSu
    go_simp
    first | done | with_reducible rfl
   try simp only [Act.put, zA, zB, zC]
   refine zT (i := 8) (v := ?_) rfl ?_ hHeld ?_
   rotate_left 1
   ·intro u hSu
    have f0u := hSu.out.cell f0 (by simp)
    have f1u := hSu.out.cell f1 (by simp)
    go_simp
    first | done | with_reducible rfl
   try simp only [Act.put, zA, zB, zC]
   refine zT (i := 9) (v := .bool true) rfl ?_ hHeld ?_
   ·intro u hSu
    go_simp
    first | done | with_reducible rfl | (rw [IntKind.wrap_i64]; omega) | omega
   try simp only [Act.put, zA, zB, zC]
   refine wpAnyH_done (by kernel_rfl) ?_ _
   have HE : Hid (dsW x = true) := Lib.hid (by
    unfold dsW
    rw [asc_miss (f := ltI) HZ.out.1 HZ.out.2 (by unfold ltI; simp; omega)]; rfl)
   have HK2 := Lib.hid (K.out.keep hHeld.out)
   clear hHeld K f0 f1
   go_wp2_with fail
   go_ret
   exact ⟨by rw [ck_or HD.out HW.out h256 HG.out (Or.inr (any_at HX.out.1 HE.out))]; rfl, HK2.out.gr⟩
 obtain rfl : k = L.length := by omega
 have hnl : ¬ (L.length : Int) < (L.length : Int) := by omega
 have HO := Lib.hid (And.intro (ascK_end HA.out) (any_end HN.out (Nat.le_refl _)))
 clear HN HA hlt hk
 go_wp2_with fail
 clear hnl d0 d1 d2 d3
 go_loopw [9] (fun a wr => ∃ k : Nat, k ≤ L.length ∧ a = .int .i64 (k : Int) ∧ Hid ((L.take k).any (cfW r) = false) ∧ Hid (BX w r s n p c L wr)) (fun a _ => L.length - (RowKit.intOf a).toNat)
 case atStart => exact ⟨0, Nat.zero_le _, rfl, Lib.hid (by simp), K⟩
 case round =>
 clear K
 obtain ⟨k, hk, rfl, HN, K⟩ := hrel
 obtain ⟨w5, hw5⟩ : ∃ w5, w5 = wr := ⟨_, rfl⟩
 rw [← hw5] at K ⊢
 clear hw5
 obtain ⟨d0, d1, d2, d3⟩ := row4T K.out.bx
 by_cases hlt : k < L.length
 case pos =>
  have hlt' : (k : Int) < (L.length : Int) := by omega
  obtain ⟨x, hx⟩ : ∃ x, L[k]? = some x := ⟨_, List.getElem?_eq_getElem hlt⟩
  obtain ⟨-, b, off, rfl, -, hc⟩ := rw_cells K.out.rd.rd (by omega)
  obtain ⟨a0, a1⟩ := hc k x hx
  have HX := Lib.hid (And.intro hx (K.out.rd.ok x (List.mem_of_getElem? hx)))
  have hmx : x.nx.length ≤ 9223372036854775807 := Nat.le_trans HX.out.2.hc.1 HX.out.2.hc.2
  have HLX := Lib.hid hx
  have HCC : Hid (∀ u, BX w r s n (some ⟨b, off, none⟩) c L u → u.cell? ⟨b, off + k * 2, none⟩ = some (.int .i64 x.id) ∧ u.cell? ⟨b, off + k * 2 + 1, none⟩ = some (.slice x.p x.nx.length x.c)) := Lib.hid (fun u hu => by
   obtain ⟨-, b', off', hpe, -, hc'⟩ := rw_cells hu.rd.rd (by omega)
   injection hpe with hpe
   injection hpe with e1 e2
   subst e1
   subst e2
   exact hc' k x hx)
  clear hc hx HX
  have HCF : Hid (cfW r x = (decide (1 < x.nx.length) && hasI x.nx r)) := Lib.hid rfl
  go_upto_region 34 with fail
  by_cases hl1 : 1 < x.nx.length
  case neg =>
   have hl1' : ¬ (1 : Int) < (x.nx.length : Int) := by omega
   refine wp_region_held_drew (S := fun w' => Hid (BX w r s n (some ⟨b, off, none⟩) c L w')) (by kernel_rfl) (Lib.hid (K.out.keep (grown_drew (grown_refl _ none)))) (fun hHeld => ?_)
   refine zT (i := 0) (v := ?_) rfl ?_ hHeld ?_
   rotate_left 1
   ·intro u hSu
    go_simp
    first | done | with_reducible rfl
   try simp only [Act.put, zA, zB, zC]
   refine zT (i := 1) (v := ?_) rfl ?_ hHeld ?_
   rotate_left 1
   ·intro u hSu
    obtain ⟨d0u, d1u, d2u, d3u⟩ := row4T hSu.out.bx
    obtain ⟨a0u, a1u⟩ := HCC.out _ hSu.out
    go_simp
    first | done | with_reducible rfl
   try simp only [Act.put, zA, zB, zC]
   refine zT (i := 2) (v := ?_) rfl ?_ hHeld ?_
   rotate_left 1
   ·intro u hSu
    go_simp
    first | done | with_reducible rfl
   try simp only [Act.put, zA, zB, zC]
   refine zT (i := 3) (v := ?_) rfl ?_ hHeld ?_
   rotate_left 1
   ·intro u hSu
    go_simp
    first | done | with_reducible rfl
   try simp only [Act.put, zA, zB, zC]
   refine zT (i := 4) (v := ?_) rfl ?_ hHeld ?_
   rotate_left 1
   ·intro u hSu
    go_simp
    first | done | with_reducible rfl
   try simp only [Act.put, zA, zB, zC]
   refine zT (i := 5) (v := ?_) rfl ?_ hHeld ?_
   rotate_left 1
   ·intro u hSu
    obtain ⟨d0u, d1u, d2u, d3u⟩ := row4T hSu.out.bx
    obtain ⟨a0u, a1u⟩ := HCC.out _ hSu.out
    go_simp
    first | done | with_reducible rfl
   try simp only [Act.put, zA, zB, zC]
   refine zT (i := 6) (v := ?_) rfl ?_ hHeld ?_
   rotate_left 1
   ·intro u hSu
    obtain ⟨d0u, d1u, d2u, d3u⟩ := row4T hSu.out.bx
    obtain ⟨a0u, a1u⟩ := HCC.out _ hSu.out
    go_simp
    first | done | with_reducible rfl
   try simp only [Act.put, zA, zB, zC]
   refine zT (i := 7) (v := .bool false) rfl ?_ hHeld ?_
   ·intro u hSu
    go_simp
    first | done | with_reducible rfl | (rw [IntKind.wrap_i64]; omega) | omega
   try simp only [Act.put, zA, zB, zC]
   refine zT (i := 8) (v := ?_) rfl ?_ hHeld ?_
   rotate_left 1
   ·intro u hSu
    go_simp
    first | done | with_reducible rfl
   try simp only [Act.put, zA, zB, zC]
   refine zS (i := 9) rfl hHeld ?_
   try simp only [Act.put, zA, zB, zC]
   refine zS (i := 10) rfl hHeld ?_
   try simp only [Act.put, zA, zB, zC]
   refine zS (i := 11) rfl hHeld ?_
   try simp only [Act.put, zA, zB, zC]
   refine zS (i := 12) rfl hHeld ?_
   try simp only [Act.put, zA, zB, zC]
   refine zS (i := 13) rfl hHeld ?_
   try simp only [Act.put, zA, zB, zC]
   refine zS (i := 14) rfl hHeld ?_
   try simp only [Act.put, zA, zB, zC]
   refine zS (i := 15) rfl hHeld ?_
   try simp only [Act.put, zA, zB, zC]
   refine zS (i := 16) rfl hHeld ?_
   try simp only [Act.put, zA, zB, zC]
   refine zS (i := 17) rfl hHeld ?_
   try simp only [Act.put, zA, zB, zC]
   refine zT (i := 18) (v := ?_) rfl ?_ hHeld ?_
   rotate_left 1
   ·intro u hSu
    go_simp
    first | done | with_reducible rfl
   try simp only [Act.put, zA, zB, zC]
   refine wpAnyH_done (by kernel_rfl) ?_ _
   have HN2 : Hid ((L.take (k + 1)).any (cfW r) = false) := Lib.hid (any_take HN.out HLX.out (by rw [HCF.out]; simp [hl1]))
   clear a0 a1 d0 d1 d2 d3 K
   go_wp2_with fail
   exact ⟨⟨k + 1, by omega, congrArg _ (by omega), HN2, hHeld⟩, by simp only [RowKit.intOf]; omega⟩
  have hl1' : (1 : Int) < (x.nx.length : Int) := by omega
  refine wp_region_held_drew (S := fun w' => Hid (BX w r s n (some ⟨b, off, none⟩) c L w')) (by kernel_rfl) (Lib.hid (K.out.keep (grown_drew (grown_refl _ none)))) (fun hHeld => ?_)
  refine zT (i := 0) (v := ?_) rfl ?_ hHeld ?_
  rotate_left 1
  ·intro u hSu
   go_simp
   first | done | with_reducible rfl
  try simp only [Act.put, zA, zB, zC]
  refine zT (i := 1) (v := ?_) rfl ?_ hHeld ?_
  rotate_left 1
  ·intro u hSu
   obtain ⟨d0u, d1u, d2u, d3u⟩ := row4T hSu.out.bx
   obtain ⟨a0u, a1u⟩ := HCC.out _ hSu.out
   go_simp
   first | done | with_reducible rfl
  try simp only [Act.put, zA, zB, zC]
  refine zT (i := 2) (v := ?_) rfl ?_ hHeld ?_
  rotate_left 1
  ·intro u hSu
   go_simp
   first | done | with_reducible rfl
  try simp only [Act.put, zA, zB, zC]
  refine zT (i := 3) (v := ?_) rfl ?_ hHeld ?_
  rotate_left 1
  ·intro u hSu
   go_simp
   first | done | with_reducible rfl
  try simp only [Act.put, zA, zB, zC]
  refine zT (i := 4) (v := ?_) rfl ?_ hHeld ?_
  rotate_left 1
  ·intro u hSu
   go_simp
   first | done | with_reducible rfl
  try simp only [Act.put, zA, zB, zC]
  refine zT (i := 5) (v := ?_) rfl ?_ hHeld ?_
  rotate_left 1
  ·intro u hSu
   obtain ⟨d0u, d1u, d2u, d3u⟩ := row4T hSu.out.bx
   obtain ⟨a0u, a1u⟩ := HCC.out _ hSu.out
   go_simp
   first | done | with_reducible rfl
  try simp only [Act.put, zA, zB, zC]
  refine zT (i := 6) (v := ?_) rfl ?_ hHeld ?_
  rotate_left 1
  ·intro u hSu
   obtain ⟨d0u, d1u, d2u, d3u⟩ := row4T hSu.out.bx
   obtain ⟨a0u, a1u⟩ := HCC.out _ hSu.out
   go_simp
   first | done | with_reducible rfl
  try simp only [Act.put, zA, zB, zC]
  refine zT (i := 7) (v := .bool true) rfl ?_ hHeld ?_
  ·intro u hSu
   go_simp
   first | done | with_reducible rfl | (rw [IntKind.wrap_i64]; omega) | omega
  try simp only [Act.put, zA, zB, zC]
  refine zT (i := 8) (v := ?_) rfl ?_ hHeld ?_
  rotate_left 1
  ·intro u hSu
   go_simp
   first | done | with_reducible rfl
  try simp only [Act.put, zA, zB, zC]
  refine zT (i := 9) (v := ?_) rfl ?_ hHeld ?_
  rotate_left 1
  ·intro u hSu
   go_simp
   first | done | with_reducible rfl
  try simp only [Act.put, zA, zB, zC]
  refine zT (i := 10) (v := ?_) rfl ?_ hHeld ?_
  rotate_left 1
  ·intro u hSu
   obtain ⟨d0u, d1u, d2u, d3u⟩ := row4T hSu.out.bx
   obtain ⟨a0u, a1u⟩ := HCC.out _ hSu.out
   go_simp
   first | done | with_reducible rfl
  try simp only [Act.put, zA, zB, zC]
  refine zT (i := 11) (v := ?_) rfl ?_ hHeld ?_
  rotate_left 1
  ·intro u hSu
   go_simp
   first | done | with_reducible rfl
  try simp only [Act.put, zA, zB, zC]
  refine zT (i := 12) (v := ?_) rfl ?_ hHeld ?_
  rotate_left 1
  ·intro u hSu
   go_simp
   first | done | with_reducible rfl
  try simp only [Act.put, zA, zB, zC]
  refine zT (i := 13) (v := ?_) rfl ?_ hHeld ?_
  rotate_left 1
  ·intro u hSu
   go_simp
   first | done | with_reducible rfl
  try simp only [Act.put, zA, zB, zC]
  refine zT (i := 14) (v := ?_) rfl ?_ hHeld ?_
  rotate_left 1
  ·intro u hSu
   obtain ⟨d0u, d1u, d2u, d3u⟩ := row4T hSu.out.bx
   obtain ⟨a0u, a1u⟩ := HCC.out _ hSu.out
   go_simp
   first | done | with_reducible rfl
  try simp only [Act.put, zA, zB, zC]
  refine zT (i := 15) (v := ?_) rfl ?_ hHeld ?_
  rotate_left 1
  ·intro u hSu
   go_simp
   first | done | with_reducible rfl
  try simp only [Act.put, zA, zB, zC]
  refine zT (i := 16) (v := ?_) rfl ?_ hHeld ?_
  rotate_left 1
  ·intro u hSu
   obtain ⟨d0u, d1u, d2u, d3u⟩ := row4T hSu.out.bx
   obtain ⟨a0u, a1u⟩ := HCC.out _ hSu.out
   go_simp
   first | done | with_reducible rfl
  try simp only [Act.put, zA, zB, zC]
  refine wpAnyH_ready (rs := [17]) (by kernel_rfl) (by simp) ?_
  refine AllReadyH.cons (o := ⟨_, _, _, _, _, _⟩) rfl (fun Kz hK => ?_) AllReadyH.nil
  go_simp
  go_at_call 73
  refine (rhas4_any x.nx r x.p x.c _ _ (hHeld.out.rd.ok x (List.mem_of_getElem? HLX.out)).rd hmx).mono ?_
  rintro e w' ⟨rfl, rfl⟩
  refine hK.out _ _ (hHeld) (fun hH2 => ?_)
  clear hK Kz hHeld
  have hHeld := hH2
  clear hH2
  try simp only [Act.put, zA, zB, zC]
  refine zT (i := 18) (v := ?_) rfl ?_ hHeld ?_
  rotate_left 1
  ·intro u hSu
   go_simp
   first | done | with_reducible rfl
  try simp only [Act.put, zA, zB, zC]
  refine wpAnyH_done (by kernel_rfl) ?_ _
  cases hcf : hasI x.nx r
  case true =>
   have HE : Hid (cfW r x = true) := Lib.hid (by rw [HCF.out, hcf]; simp [hl1])
   clear hcf a0 a1 d0 d1 d2 d3 K
   go_wp2_with fail
   go_ret
   exact ⟨by rw [ck_cf HD.out HW.out h256 HG.out HO.out.1 HO.out.2 (any_at HLX.out HE.out)]; rfl, hHeld.out.gr⟩
  have HN2 : Hid ((L.take (k + 1)).any (cfW r) = false) := Lib.hid (any_take HN.out HLX.out (by rw [HCF.out, hcf]; simp))
  clear hcf a0 a1 d0 d1 d2 d3 K
  go_wp2_with fail
  exact ⟨⟨k + 1, by omega, congrArg _ (by omega), HN2, hHeld⟩, by simp only [RowKit.intOf]; omega⟩
 obtain rfl : k = L.length := by omega
 have hnl : ¬ (L.length : Int) < (L.length : Int) := by omega
 have HC := Lib.hid (any_end HN.out (Nat.le_refl _))
 go_wp2_with fail
 go_ret
 exact ⟨by rw [ck_z HD.out HW.out h256 HG.out HO.out.1 HO.out.2 HC.out]; rfl, K.out.gr⟩
end Go.Proofs.YtpogblengagpaaaGreatDoor

/- masks, the reference's functions: Mask, Next, Local. -/
namespace Go.Proofs.YtpogblengagpaaaGreatDoor
set_option maxRecDepth 100000
open Go.RowKit Go.Maps Bs
theorem coF_in {r s n : Int} {L : List Rw} {k : Nat} {set u : Int} (hk : k < 8) (h : ckT r s n L = 0) : coF r s n L (k : Int) set u = colL n set k L u := by
 unfold coF
 rw [if_pos ⟨⟨by omega, by omega⟩, h⟩, Int.toNat_natCast]
end Go.Proofs.YtpogblengagpaaaGreatDoor

/- empty -/
namespace Go.Proofs.YtpogblengagpaaaGreatDoor
set_option maxRecDepth 100000
end Go.Proofs.YtpogblengagpaaaGreatDoor

/- Links in order, and the tape's topologies: the mathematics. -/
namespace Go.Proofs.YtpogblengagpaaaGreatDoor
set_option maxRecDepth 100000
open Go.RowKit Bs
def insL (O : List Lk) (y : Lk) : List Lk := O.takeWhile (fun x => ltL x y) ++ y :: O.dropWhile (fun x => ltL x y)
def ordL (L : List Lk) : List Lk := L.foldl insL []
theorem insL_cons (a : Lk) (t : List Lk) (y : Lk) : insL (a :: t) y = if ltL a y then a :: insL t y else y :: a :: t := by
 unfold insL
 rw [List.takeWhile_cons, List.dropWhile_cons]
 split <;> rfl
theorem insL_len (O : List Lk) (y : Lk) : (insL O y).length = O.length + 1 := by
 unfold insL
 rw [List.length_append, List.length_cons]
 have := congrArg List.length (List.takeWhile_append_dropWhile (p := fun x => ltL x y) (l := O))
 rw [List.length_append] at this
 omega
theorem ordL_take (L : List Lk) (k : Nat) (y : Lk) (h : L[k]? = some y) : ordL (L.take (k + 1)) = insL (ordL (L.take k)) y := by
 unfold ordL
 rw [List.take_add_one, h, List.foldl_append]
 rfl
theorem foldl_insL_len : ∀ (L O : List Lk), (L.foldl insL O).length = O.length + L.length
 | [], O => by simp
 | a :: t, O => by rw [List.foldl_cons, foldl_insL_len t, insL_len, List.length_cons]; omega
theorem ordL_len (L : List Lk) : (ordL L).length = L.length := by
 unfold ordL
 rw [foldl_insL_len]; simp
theorem insL_at (y : Lk) : ∀ (O : List Lk) (j : Nat), j ≤ O.length → (∀ i x, i < j → O[i]? = some x → ltL x y = true) → (∀ x, O[j]? = some x → ltL x y = false) → insL O y = O.take j ++ y :: O.drop j
 | [], j, hj, _, _ => by
  obtain rfl : j = 0 := by simpa using hj
  rfl
 | a :: t, 0, _, _, h2 => by
  rw [insL_cons, h2 a rfl]
  rfl
 | a :: t, j + 1, hj, h1, h2 => by
  rw [insL_cons, if_pos (h1 0 a (by omega) rfl), insL_at y t j (by simpa using hj) (fun i x hi hx => h1 (i + 1) x (by omega) (by simpa using hx)) (fun x hx => h2 x (by simpa using hx))]
  rfl
theorem mem_insL (y z : Lk) : ∀ O : List Lk, z ∈ insL O y ↔ z = y ∨ z ∈ O
 | [] => by simp [insL]
 | a :: t => by
  rw [insL_cons]
  split
  ·rw [List.mem_cons, List.mem_cons, mem_insL y z t]
   constructor
   ·rintro (h | h | h)
    ·exact .inr (.inl h)
    ·exact .inl h
    ·exact .inr (.inr h)
   ·rintro (h | h | h)
    ·exact .inr (.inl h)
    ·exact .inl h
    ·exact .inr (.inr h)
  ·simp
theorem ltL_trans {x y z : Lk} (h1 : ltL x y = true) (h2 : ltL y z = true) : ltL x z = true := by
 unfold ltL at *
 have h1 := of_decide_eq_true h1
 have h2 := of_decide_eq_true h2
 exact decide_eq_true (by omega)
def EndsNe (x y : Lk) : Prop := x.a ≠ y.a ∨ x.b ≠ y.b
theorem ltL_flip {x y : Lk} (h : ltL x y = false) (hn : EndsNe x y) : ltL y x = true := by
 unfold ltL at *
 have h := of_decide_eq_false h
 unfold EndsNe at hn
 exact decide_eq_true (by omega)
theorem insL_pair (y : Lk) : ∀ O : List Lk, O.Pairwise (fun x z => ltL x z = true) → (∀ x ∈ O, EndsNe x y) → (insL O y).Pairwise (fun x z => ltL x z = true)
 | [], _, _ => by simp [insL]
 | a :: t, hp, hn => by
  rw [insL_cons]
  obtain ⟨h1, h2⟩ := List.pairwise_cons.1 hp
  split
  ·next hlt =>
   refine List.pairwise_cons.2 ⟨fun z hz => ?_, insL_pair y t h2 (fun x hx => hn x (List.mem_cons_of_mem _ hx))⟩
   rcases (mem_insL y z t).1 hz with rfl | hz
   ·exact hlt
   ·exact h1 z hz
  ·next hlt =>
   have hya := ltL_flip (by simpa using hlt) (hn a (by simp))
   refine List.pairwise_cons.2 ⟨fun z hz => ?_, hp⟩
   rcases List.mem_cons.1 hz with rfl | hz
   ·exact hya
   ·exact ltL_trans hya (h1 z hz)
theorem foldl_insL_pair : ∀ (L O : List Lk), O.Pairwise (fun x z => ltL x z = true) → L.Pairwise EndsNe → (∀ x ∈ O, ∀ y ∈ L, EndsNe x y) → (L.foldl insL O).Pairwise (fun x z => ltL x z = true)
 | [], O, h, _, _ => h
 | a :: t, O, h, hL, hx => by
  obtain ⟨h1, h2⟩ := List.pairwise_cons.1 hL
  rw [List.foldl_cons]
  refine foldl_insL_pair t _ (insL_pair a O h (fun x hx1 => hx x hx1 a (by simp))) h2 (fun x hx1 y hy => ?_)
  rcases (mem_insL a x O).1 hx1 with rfl | h3
  ·exact h1 y hy
  ·exact hx x h3 y (List.mem_cons_of_mem _ hy)
theorem foldl_insL_mem (z : Lk) : ∀ (L O : List Lk), z ∈ L.foldl insL O ↔ z ∈ O ∨ z ∈ L
 | [], O => by simp
 | a :: t, O => by
  rw [List.foldl_cons, foldl_insL_mem z t, mem_insL, List.mem_cons]
  constructor
  ·rintro ((h | h) | h)
   ·exact .inr (.inl h)
   ·exact .inl h
   ·exact .inr (.inr h)
  ·rintro (h | h | h)
   ·exact .inl (.inr h)
   ·exact .inl (.inl h)
   ·exact .inr h
theorem ordL_mem (L : List Lk) (z : Lk) : z ∈ ordL L ↔ z ∈ L := by
 unfold ordL
 rw [foldl_insL_mem]
 simp
theorem ordL_pair (L : List Lk) (h : L.Pairwise EndsNe) : (ordL L).Pairwise (fun x z => ltL x z = true) :=
 foldl_insL_pair L [] List.Pairwise.nil h (fun x hx => by simp at hx)
theorem asc_of_pair {α : Type} (f : α → α → Bool) : ∀ l : List α, l.Pairwise (fun x z => f x z = true) → ascB f l = true
 | [], _ => rfl
 | [a], _ => rfl
 | a :: b :: t, h => by
  obtain ⟨h1, h2⟩ := List.pairwise_cons.1 h
  rw [ascB, h1 b (by simp), asc_of_pair f (b :: t) h2]
  rfl
def rts (k : Nat) : List Rt := (List.range k).map fun (i : Nat) => (⟨(i : Int) + 1, true⟩ : Rt)
theorem rts_succ (k : Nat) : rts (k + 1) = rts k ++ [⟨(k : Int) + 1, true⟩] := by
 unfold rts
 rw [List.range_succ, List.map_append]
 rfl
theorem rts_len (k : Nat) : (rts k).length = k := by unfold rts; simp
theorem rts_mem (k : Nat) (r : Rt) : r ∈ rts k ↔ ∃ i : Nat, i < k ∧ r = ⟨(i : Int) + 1, true⟩ := by
 unfold rts
 rw [List.mem_map]
 constructor
 ·rintro ⟨i, hi, rfl⟩; exact ⟨i, List.mem_range.1 hi, rfl⟩
 ·rintro ⟨i, hi, rfl⟩; exact ⟨i, List.mem_range.2 hi, rfl⟩
structure GoodL (k b a : Int) (L : List Lk) : Prop where
 ok : ∀ l ∈ L, (1 ≤ l.a ∧ l.a < l.b ∧ l.b ≤ k) ∧ wrNum l = false
 lt : ∀ l ∈ L, l.b < b ∨ (l.b = b ∧ l.a < a)
 ne : L.Pairwise EndsNe
theorem GoodL.nil (k b a : Int) : GoodL k b a [] := ⟨by simp, by simp, List.Pairwise.nil⟩
theorem GoodL.next {k b a : Int} {L : List Lk} (h : GoodL k b a L) : GoodL k b (a + 1) L := ⟨h.ok, fun l hl => by rcases h.lt l hl with h1 | h1 <;> omega, h.ne⟩
theorem GoodL.row {k b a : Int} {L : List Lk} (h : GoodL k b a L) : GoodL k (b + 1) 1 L := ⟨h.ok, fun l hl => by rcases h.lt l hl with h1 | h1 <;> omega, h.ne⟩
theorem GoodL.add {k b a : Int} {L : List Lk} (h : GoodL k b a L) (y : Lk) (ha : y.a = a) (hb : y.b = b) (h1 : 1 ≤ a) (h2 : a < b) (h3 : b ≤ k) (hw : wrNum y = false) : GoodL k b (a + 1) (L ++ [y]) := by
 refine ⟨fun l hl => ?_, fun l hl => ?_, ?_⟩
 ·rcases List.mem_append.1 hl with hl | hl
  ·exact h.ok l hl
  ·obtain rfl : l = y := by simpa using hl
   exact ⟨by omega, hw⟩
 ·rcases List.mem_append.1 hl with hl | hl
  ·rcases h.lt l hl with h4 | h4 <;> omega
  ·obtain rfl : l = y := by simpa using hl
   omega
 ·refine List.pairwise_append.2 ⟨h.ne, by simp, fun x hx z hz => ?_⟩
  obtain rfl : z = y := by simpa using hz
  unfold EndsNe
  rcases h.lt x hx with h4 | h4 <;> omega
theorem chk_good {k : Nat} {b a : Int} {L : List Lk} (h : GoodL k b a L) (hk : k ≤ 24) (hl : L.length ≤ 60) : chk (rts k) (ordL L) = 0 := by
 unfold chk
 rw [if_neg (by rw [rts_len, ordL_len]; omega), if_neg, if_neg, if_neg, if_neg, if_neg, if_neg]
 ·rw [asc_of_pair ltL _ (ordL_pair L h.ne)]
  simp
 ·rw [List.any_eq_true]
  rintro ⟨l, hl1, hw⟩
  have := (h.ok l ((ordL_mem L l).1 hl1)).1
  unfold wrEnd at hw
  have := of_decide_eq_true hw
  omega
 ·rw [List.any_eq_true]
  rintro ⟨l, hl1, hw⟩
  have := (h.ok l ((ordL_mem L l).1 hl1)).1
  have hh : ∀ x : Int, 1 ≤ x → x ≤ k → hasR (rts k) x = true := fun x h1 h2 => by
   unfold hasR
   refine List.any_eq_true.2 ⟨⟨x, true⟩, (rts_mem k _).2 ⟨(x - 1).toNat, by omega, ?_⟩, by simp⟩
   congr 1
   omega
  unfold unk at hw
  rw [hh _ this.1 (by omega), hh _ (by omega) this.2.2] at hw
  simp at hw
 ·rw [List.any_eq_true]
  rintro ⟨l, hl1, hw⟩
  rw [(h.ok l ((ordL_mem L l).1 hl1)).2] at hw
  cases hw
 ·rw [asc_of_pair ltR (rts k)]
  ·simp
  ·unfold rts
   rw [List.pairwise_map]
   exact List.pairwise_lt_range.imp (fun {a b} hab => decide_eq_true (by show (a : Int) + 1 < (b : Int) + 1; omega))
 ·rw [List.any_eq_true]
  rintro ⟨r, hr, hw⟩
  obtain ⟨i, hi, rfl⟩ := (rts_mem k r).1 hr
  have : wrId ⟨(i : Int) + 1, true⟩ = false := by
   unfold wrId
   rw [decide_eq_true (by constructor <;> (dsimp; omega))]
   rfl
  rw [this] at hw
  cases hw
def TopOf (most : Nat) (n : Int) (R : List Rt) (L : List Lk) : Prop :=
 1 ≤ R.length ∧ (R.length ≤ most + 1 ∨ 25 ≤ R.length) ∧ R.length ≤ most + 25 ∧ L.length ≤ 60 ∧ (n ≤ 0 → chk R L = 0 ∧ R.length ≤ most)
end Go.Proofs.YtpogblengagpaaaGreatDoor

/- Parts of the proof, packed: TaRck, MaRMk, MaNxt, TaCpM, TaCpy. -/
import Derived.Test.YtpogblengagpaaaGreatDoorMk7
import Derived.Test.YtpogblengagpaaaGreatDoorMk5
import Derived.Test.YtpogblengagpaaaGreatDoorMk2
/- tables, the reference's functions: Check. -/
namespace Go.Proofs.YtpogblengagpaaaGreatDoor
set_option maxRecDepth 100000
open Go.RowKit Go.Maps Bs
theorem ck_hd {r s n : Int} {L : List Rw} (h : hdT r s n L = true) : ckT r s n L = 2 := by unfold ckT; rw [if_pos h]
theorem ck_wr {r s n : Int} {L : List Rw} (h : hdT r s n L = false) (h1 : L.any wrW = true) : ckT r s n L = 2 := by unfold ckT; rw [if_neg (by rw [h]; simp), if_pos h1]
theorem ck_l1 {r s n : Int} {L : List Rw} (h : hdT r s n L = false) (h1 : L.any wrW = false) (h2 : 256 < L.length) : ckT r s n L = 3 := by
 unfold ckT; rw [if_neg (by rw [h]; simp), if_neg (by rw [h1]; simp), if_pos h2]
theorem ck_lg {r s n : Int} {L : List Rw} (h : hdT r s n L = false) (h1 : L.any wrW = false) (h2 : ¬ 256 < L.length) (h3 : L.any lgW = true) : ckT r s n L = 3 := by
 unfold ckT; rw [if_neg (by rw [h]; simp), if_neg (by rw [h1]; simp), if_neg h2, if_pos h3]
theorem ck_or {r s n : Int} {L : List Rw} (h : hdT r s n L = false) (h1 : L.any wrW = false) (h2 : ¬ 256 < L.length) (h3 : L.any lgW = false) (h4 : ascB ltW L = false ∨ L.any dsW = true) : ckT r s n L = 25 := by
 unfold ckT; rw [if_neg (by rw [h]; simp), if_neg (by rw [h1]; simp), if_neg h2, if_neg (by rw [h3]; simp)]
 by_cases h5 : ascB ltW L = false
 ·rw [if_pos h5]
 ·rw [if_neg h5, if_pos (h4.resolve_left h5)]
theorem ck_cf {r s n : Int} {L : List Rw} (h : hdT r s n L = false) (h1 : L.any wrW = false) (h2 : ¬ 256 < L.length) (h3 : L.any lgW = false) (h4 : ascB ltW L = true) (h5 : L.any dsW = false) (h6 : L.any (cfW r) = true) : ckT r s n L = 8 := by
 unfold ckT; rw [if_neg (by rw [h]; simp), if_neg (by rw [h1]; simp), if_neg h2, if_neg (by rw [h3]; simp), if_neg (by rw [h4]; simp), if_neg (by rw [h5]; simp), if_pos h6]
theorem ck_z {r s n : Int} {L : List Rw} (h : hdT r s n L = false) (h1 : L.any wrW = false) (h2 : ¬ 256 < L.length) (h3 : L.any lgW = false) (h4 : ascB ltW L = true) (h5 : L.any dsW = false) (h6 : L.any (cfW r) = false) : ckT r s n L = 0 := by
 unfold ckT; rw [if_neg (by rw [h]; simp), if_neg (by rw [h1]; simp), if_neg h2, if_neg (by rw [h3]; simp), if_neg (by rw [h4]; simp), if_neg (by rw [h5]; simp), if_neg (by rw [h6]; simp)]
def AscK {α : Type} (f : α → α → Bool) (l : List α) (k : Nat) : Prop := ∀ i x y, i + 1 < k → l[i]? = some x → l[i + 1]? = some y → f x y = true
theorem ascK_end {α : Type} {f : α → α → Bool} {l : List α} (h : AscK f l l.length) : ascB f l = true :=
 (ascB_iff f l).2 fun i x y hx hy => h i x y (by
  by_cases hz : i + 1 < l.length
  ·exact hz
  ·rw [List.getElem?_eq_none (by omega)] at hy; cases hy) hx hy
theorem ascK_next {α : Type} {f : α → α → Bool} {l : List α} {k : Nat} (h : AscK f l (k + 1)) {x y : α} (hx : l[k]? = some x) (hy : l[k + 1]? = some y) (hf : f x y = true) : AscK f l (k + 2) := by
 intro i a b hi ha hb
 by_cases e : i = k
 ·subst e
  rw [hx] at ha; rw [hy] at hb
  cases ha; cases hb
  exact hf
 ·exact h i a b (by omega) ha hb
theorem asc_miss {α : Type} {f : α → α → Bool} {l : List α} {k : Nat} {x y : α} (hx : l[k]? = some x) (hy : l[k + 1]? = some y) (hf : f x y = false) : ascB f l = false := by
 cases h : ascB f l with
 | false => rfl
 | true => have := (ascB_iff f l).1 h k x y hx hy; rw [hf] at this; cases this
set_option maxHeartbeats 12800000 in
theorem rck11_any (r s n : Int) (p : Option Addr) (c : Nat) (L : List Rw) (w : World) (hR : RdW w (· < w.heap.size) p c L) (hm : L.length ≤ 9223372036854775807) :
  Calls Tryz.prog 42 #[.agg #[.int .i64 r, .int .i64 s, .int .i64 n, .slice p L.length c]] w fun e w' => e = .returned (.int .i64 (ckT r s n L)) ∧ w.grownBy w' none := by
 have H0 := Lib.hid (bx_start (r := r) (s := s) (n := n) hR)
 clear hR
 go_enter Tryz.func42, Tryz.ntmps42
 go_upto_region 1 with fail
 generalize w.alloc _ = wa at *
 generalize (Value.agg #[Value.int .i64 r, Value.int .i64 s, Value.int .i64 n, Value.slice p L.length c]) = vz
 obtain ⟨d0, d1, d2, d3⟩ := row4T H0.out.bx
 have HH : Hid (hdT r s n L = !(inV r 1 99 && inV s 0 7 && (vl n || (decide (n = 0) && decide (L.length = 0))))) := Lib.hid rfl
 obtain ⟨b1, hb1⟩ : ∃ b, inV r 1 99 = b := ⟨_, rfl⟩
 obtain ⟨b2, hb2⟩ : ∃ b, inV s 0 7 = b := ⟨_, rfl⟩
 obtain ⟨b3, hb3⟩ : ∃ b, vl n = b := ⟨_, rfl⟩
 rw [hb1, hb2, hb3] at HH
 have HB := Lib.hid (And.intro hb1 (And.intro hb2 hb3))
 clear hb1 hb2 hb3
 go_cut [36] from 10 to 35 (fun v wx => v = .bool (hdT r s n L) ∧ wa = wx)
 case first =>
  go_wp2_with fail
  refine (rin11_any r 1 99 wa).mono ?_
  rintro e w' ⟨rfl, rfl⟩
  rw [HB.out.1]
  cases b1
  case false =>
   go_wp2_with fail
   go_meet
   exact ⟨by rw [HH.out]; rfl, rfl⟩
  go_wp2_with fail
  refine (rin11_any s 0 7 wa).mono ?_
  rintro e w' ⟨rfl, rfl⟩
  rw [HB.out.2.1]
  cases b2
  case false =>
   go_wp2_with fail
   go_meet
   exact ⟨by rw [HH.out]; rfl, rfl⟩
  go_wp2_with fail
  refine (vlr10_lit n b3 HB.out.2.2 wa).mono ?_
  rintro e w' ⟨rfl, rfl⟩
  cases b3
  case true =>
   go_wp2_with fail
   go_meet
   exact ⟨by rw [HH.out]; rfl, rfl⟩
  by_cases n0 : n = 0
  case neg =>
   have n0' : (n != 0) = true := by simpa using n0
   have HE : Hid (hdT r s n L = true) := Lib.hid (by rw [HH.out]; simp [n0])
   clear n0
   go_wp2_with fail
   go_meet
   exact ⟨by rw [HE.out]; first | done | rfl | (simp; done) | (simp; omega), rfl⟩
  have n0' : (n != 0) = false := by simpa using n0
  by_cases l0 : 0 < L.length
  ·have l0' : (0 : Int) < (L.length : Int) := by omega
   have HE : Hid (hdT r s n L = true) := Lib.hid (by rw [HH.out]; simp [show ¬ L.length = 0 by omega])
   clear n0
   go_wp2_with fail
   go_meet
   exact ⟨by rw [HE.out]; first | done | rfl | (simp; done) | (simp; omega), rfl⟩
  ·have l0' : ¬ (0 : Int) < (L.length : Int) := by omega
   have HE : Hid (hdT r s n L = false) := Lib.hid (by rw [HH.out]; simp [n0, show L.length = 0 by omega])
   clear n0
   go_wp2_with fail
   go_meet
   exact ⟨by rw [HE.out]; first | done | rfl | (simp; done) | (simp; omega), rfl⟩
 case rest =>
 obtain ⟨rfl, rfl⟩ := hcut
 clear HB HH
 cases hhd : hdT r s n L
 case true =>
  go_wp2_with fail
  go_ret
  exact ⟨by rw [ck_hd hhd]; rfl, H0.out.gr⟩
 have HD := Lib.hid hhd
 clear hhd d0 d1 d2 d3
 go_wp2_with fail
 go_loopw [3] (fun a wr => ∃ k : Nat, k ≤ L.length ∧ a = .int .i64 (k : Int) ∧ Hid ((L.take k).any wrW = false) ∧ Hid (BX w r s n p c L wr)) (fun a _ => L.length - (RowKit.intOf a).toNat)
 case atStart => exact ⟨0, Nat.zero_le _, rfl, Lib.hid (by simp), H0⟩
 case round =>
 obtain ⟨k, hk, rfl, HN, K⟩ := hrel
 clear H0
 obtain ⟨w2, hw2⟩ : ∃ w2, w2 = wr := ⟨_, rfl⟩
 rw [← hw2] at K ⊢
 clear hw2
 obtain ⟨d0, d1, d2, d3⟩ := row4T K.out.bx
 by_cases hlt : k < L.length
 case pos =>
  have hlt' : (k : Int) < (L.length : Int) := by omega
  obtain ⟨x, hx⟩ : ∃ x, L[k]? = some x := ⟨_, List.getElem?_eq_getElem hlt⟩
  obtain ⟨-, b, off, rfl, -, hc⟩ := rw_cells K.out.rd.rd (by omega)
  obtain ⟨a0, a1⟩ := hc k x hx
  have HX := Lib.hid (And.intro hx (K.out.rd.ok x (List.mem_of_getElem? hx)))
  have hmx : x.nx.length ≤ 9223372036854775807 := Nat.le_trans HX.out.2.hc.1 HX.out.2.hc.2
  have HLX := Lib.hid hx
  clear hc hx
  have HWX : Hid (wrW x = (!inV x.id 1 256 || x.nx.any fun z => !inV z 1 99)) := Lib.hid rfl
  go_wp2_with fail
  refine (rin11_any x.id 1 256 w2).mono ?_
  rintro e w' ⟨rfl, rfl⟩
  cases hid : inV x.id 1 256
  case false =>
   rw [hid] at HWX
   go_wp2_with fail
   go_ret
   exact ⟨by rw [ck_wr HD.out (any_at HX.out.1 (by rw [HWX.out]; rfl))]; rfl, K.out.gr⟩
  rw [hid] at HWX
  clear hid
  go_wp2_with fail
  clear a0 a1 d0 d1 d2 d3
  go_loopw [4] (fun a wr => ∃ j : Nat, j ≤ x.nx.length ∧ a = .int .i64 (j : Int) ∧ Hid ((x.nx.take j).any (fun z => !inV z 1 99) = false) ∧ Hid (BX w r s n (some ⟨b, off, none⟩) c L wr)) (fun a _ => x.nx.length - (RowKit.intOf a).toNat)
  case atStart => exact ⟨0, Nat.zero_le _, rfl, Lib.hid (by simp), K⟩
  case round =>
  clear K HX
  obtain ⟨j, hj, rfl, HJ, K⟩ := hrel
  obtain ⟨w7, hw7⟩ : ∃ w7, w7 = wr := ⟨_, rfl⟩
  rw [← hw7] at K ⊢
  clear hw7
  obtain ⟨d0, d1, d2, d3⟩ := row4T K.out.bx
  obtain ⟨-, b', off', hpe, -, hc⟩ := rw_cells K.out.rd.rd (by omega)
  injection hpe with hpe
  injection hpe with e1 e2
  subst e1
  subst e2
  have hx : L[k]? = some x := HLX.out
  obtain ⟨a0, a1⟩ := hc k x hx
  have HX := Lib.hid (And.intro hx (K.out.rd.ok x (List.mem_of_getElem? hx)))
  clear hc hx
  by_cases hjl : j < x.nx.length
  case neg =>
   obtain rfl : j = x.nx.length := by omega
   have hnj : ¬ (x.nx.length : Int) < (x.nx.length : Int) := by omega
   have HN2 : Hid ((L.take (k + 1)).any wrW = false) := Lib.hid (any_take HN.out HX.out.1 (by rw [HWX.out, any_end HJ.out (Nat.le_refl _)]; rfl))
   go_wp2_with fail
   exact ⟨⟨k + 1, by omega, congrArg _ (by omega), HN2, K⟩, by simp only [RowKit.intOf]; omega⟩
  have hjl' : (j : Int) < (x.nx.length : Int) := by omega
  obtain ⟨z, hz⟩ : ∃ z, x.nx[j]? = some z := ⟨_, List.getElem?_eq_getElem hjl⟩
  obtain ⟨-, bz, oz, hpz, -, hcz⟩ := tvT_at HX.out.2.rd hz
  have f0 := hcz j z hz
  rw [hpz] at a1
  have HZ := Lib.hid hz
  clear hcz hz
  go_wp2_with fail
  refine (rin11_any z 1 99 w7).mono ?_
  rintro e w' ⟨rfl, rfl⟩
  cases hid : inV z 1 99
  case false =>
   have HE := Lib.hid hid
   clear hid
   go_wp2_with fail
   go_ret
   exact ⟨by rw [ck_wr HD.out (any_at HX.out.1 (by rw [HWX.out, any_at HZ.out (by rw [HE.out]; rfl)]; rfl))]; rfl, K.out.gr⟩
  have HJ2 : Hid ((x.nx.take (j + 1)).any (fun z => !inV z 1 99) = false) := Lib.hid (any_take HJ.out HZ.out (by rw [hid]; rfl))
  clear hid
  go_wp2_with fail
  exact ⟨⟨j + 1, by omega, congrArg _ (by omega), HJ2, K⟩, by simp only [RowKit.intOf]; omega⟩
 obtain rfl : k = L.length := by omega
 have hnl : ¬ (L.length : Int) < (L.length : Int) := by omega
 have HW := Lib.hid (any_end HN.out (Nat.le_refl _))
 clear HN hlt hk
 by_cases h256 : 256 < L.length
 case pos =>
  have h256' : (256 : Int) < (L.length : Int) := by omega
  go_wp2_with fail
  go_ret
  exact ⟨by rw [ck_l1 HD.out HW.out h256]; rfl, K.out.gr⟩
 have h256' : ¬ (256 : Int) < (L.length : Int) := by omega
 go_wp2_with fail
 clear hnl d0 d1 d2 d3
 go_loopw [5] (fun a wr => ∃ k : Nat, k ≤ L.length ∧ a = .int .i64 (k : Int) ∧ Hid ((L.take k).any lgW = false) ∧ Hid (BX w r s n p c L wr)) (fun a _ => L.length - (RowKit.intOf a).toNat)
 case atStart => exact ⟨0, Nat.zero_le _, rfl, Lib.hid (by simp), K⟩
 case round =>
 clear K
 obtain ⟨k, hk, rfl, HN, K⟩ := hrel
 obtain ⟨w3, hw3⟩ : ∃ w3, w3 = wr := ⟨_, rfl⟩
 rw [← hw3] at K ⊢
 clear hw3
 obtain ⟨d0, d1, d2, d3⟩ := row4T K.out.bx
 by_cases hlt : k < L.length
 case pos =>
  have hlt' : (k : Int) < (L.length : Int) := by omega
  obtain ⟨x, hx⟩ : ∃ x, L[k]? = some x := ⟨_, List.getElem?_eq_getElem hlt⟩
  obtain ⟨-, b, off, rfl, -, hc⟩ := rw_cells K.out.rd.rd (by omega)
  obtain ⟨a0, a1⟩ := hc k x hx
  have HX := Lib.hid (And.intro hx (K.out.rd.ok x (List.mem_of_getElem? hx)))
  have hmx : x.nx.length ≤ 9223372036854775807 := Nat.le_trans HX.out.2.hc.1 HX.out.2.hc.2
  clear hc hx
  by_cases hl24 : 24 < x.nx.length
  case pos =>
   have hl24' : (24 : Int) < (x.nx.length : Int) := by omega
   have HE : Hid (lgW x = true) := Lib.hid (by unfold lgW; simp [hl24])
   go_wp2_with fail
   go_ret
   exact ⟨by rw [ck_lg HD.out HW.out h256 (any_at HX.out.1 HE.out)]; rfl, K.out.gr⟩
  have hl24' : ¬ (24 : Int) < (x.nx.length : Int) := by omega
  have HN2 : Hid ((L.take (k + 1)).any lgW = false) := Lib.hid (any_take HN.out HX.out.1 (by unfold lgW; simp; omega))
  go_wp2_with fail
  exact ⟨⟨k + 1, by omega, congrArg _ (by omega), HN2, K⟩, by simp only [RowKit.intOf]; omega⟩
 obtain rfl : k = L.length := by omega
 have hnl : ¬ (L.length : Int) < (L.length : Int) := by omega
 have HG := Lib.hid (any_end HN.out (Nat.le_refl _))
 clear HN hlt hk
 go_wp2_with fail
 clear hnl d0 d1 d2 d3
 go_loopw [6] (fun a wr => ∃ k : Nat, k ≤ L.length ∧ a = .int .i64 (k : Int) ∧ Hid (AscK ltW L k) ∧ Hid ((L.take k).any dsW = false) ∧ Hid (BX w r s n p c L wr)) (fun a _ => L.length - (RowKit.intOf a).toNat)
 case atStart => exact ⟨0, Nat.zero_le _, rfl, Lib.hid (fun i x y hi => by omega), Lib.hid (by simp), K⟩
 case round =>
 clear K
 obtain ⟨k, hk, rfl, HA, HN, K⟩ := hrel
 obtain ⟨w4, hw4⟩ : ∃ w4, w4 = wr := ⟨_, rfl⟩
 rw [← hw4] at K ⊢
 clear hw4
 obtain ⟨d0, d1, d2, d3⟩ := row4T K.out.bx
 by_cases hlt : k < L.length
 case pos =>
  have hlt' : (k : Int) < (L.length : Int) := by omega
  obtain ⟨x, hx⟩ : ∃ x, L[k]? = some x := ⟨_, List.getElem?_eq_getElem hlt⟩
  obtain ⟨-, b, off, rfl, -, hc⟩ := rw_cells K.out.rd.rd (by omega)
  obtain ⟨a0, a1⟩ := hc k x hx
  have HX := Lib.hid (And.intro hx (K.out.rd.ok x (List.mem_of_getElem? hx)))
  have hmx : x.nx.length ≤ 9223372036854775807 := Nat.le_trans HX.out.2.hc.1 HX.out.2.hc.2
  have HLX := Lib.hid hx
  have HHC := Lib.hid hc
  clear hc hx
  go_upto_region 24 with fail
  cases k with
  | zero =>
   have HA2 : Hid (AscK ltW L (0 + 1)) := Lib.hid (fun i a b hi => by omega)
   refine wp_region_held_drew (S := fun w' => Hid (w4.grownBy w' none)) (by kernel_rfl) (Lib.hid (grown_drew (grown_refl _ none))) (fun hHeld => ?_)
   refine zT (i := 0) (v := ?_) rfl ?_ hHeld ?_
   rotate_left 1
   ·intro u hSu
    go_simp
    first | done | with_reducible rfl
   try simp only [Act.put, zA, zB, zC]
   refine zT (i := 1) (v := ?_) rfl ?_ hHeld ?_
   rotate_left 1
   ·intro u hSu
    go_simp
    first | done | with_reducible rfl
   try simp only [Act.put, zA, zB, zC]
   refine zT (i := 2) (v := ?_) rfl ?_ hHeld ?_
   rotate_left 1
   ·intro u hSu
    go_simp
    first | done | with_reducible rfl
   try simp only [Act.put, zA, zB, zC]
   refine zS (i := 3) rfl hHeld ?_
   try simp only [Act.put, zA, zB, zC]
   refine zS (i := 4) rfl hHeld ?_
   try simp only [Act.put, zA, zB, zC]
   refine zS (i := 5) rfl hHeld ?_
   try simp only [Act.put, zA, zB, zC]
   refine zS (i := 6) rfl hHeld ?_
   try simp only [Act.put, zA, zB, zC]
   refine zS (i := 7) rfl hHeld ?_
   try simp only [Act.put, zA, zB, zC]
   refine zS (i := 8) rfl hHeld ?_
   try simp only [Act.put, zA, zB, zC]
   refine zS (i := 9) rfl hHeld ?_
   try simp only [Act.put, zA, zB, zC]
   refine zS (i := 10) rfl hHeld ?_
   try simp only [Act.put, zA, zB, zC]
   refine zS (i := 11) rfl hHeld ?_
   try simp only [Act.put, zA, zB, zC]
   refine zS (i := 12) rfl hHeld ?_
   try simp only [Act.put, zA, zB, zC]
   refine zS (i := 13) rfl hHeld ?_
   try simp only [Act.put, zA, zB, zC]
   refine zS (i := 14) rfl hHeld ?_
   try simp only [Act.put, zA, zB, zC]
   refine zS (i := 15) rfl hHeld ?_
   try simp only [Act.put, zA, zB, zC]
   refine zS (i := 16) rfl hHeld ?_
   try simp only [Act.put, zA, zB, zC]
   refine zT (i := 17) (v := ?_) rfl ?_ hHeld ?_
   rotate_left 1
   ·intro u hSu
    go_simp
    first | done | with_reducible rfl
   try simp only [Act.put, zA, zB, zC]
   refine wpAnyH_done (by kernel_rfl) ?_ _
   have HK2 := Lib.hid (K.out.keep hHeld.out)
   clear hHeld K a0 a1 d0 d1 d2 d3
   generalize w4.drew = w6 at *
   go_wp2_with fail
   go_loopw [8] (fun a wr => ∃ j : Nat, 1 ≤ j ∧ (j ≤ x.nx.length ∨ j = 1) ∧ a = .int .i64 (j : Int) ∧ Hid (AscK ltI x.nx j) ∧ Hid (BX w r s n (some ⟨b, off, none⟩) c L wr)) (fun a _ => x.nx.length + 1 - (RowKit.intOf a).toNat)
   case atStart => exact ⟨1, Nat.le_refl _, Or.inr rfl, rfl, Lib.hid (fun i x y hi => by omega), HK2⟩
   case round =>
   clear HK2 HX
   obtain ⟨j, hj1, hj, rfl, HJ, K⟩ := hrel
   obtain ⟨w7, hw7⟩ : ∃ w7, w7 = wr := ⟨_, rfl⟩
   rw [← hw7] at K ⊢
   clear hw7
   have HX := Lib.hid (And.intro HLX.out (K.out.rd.ok x (List.mem_of_getElem? HLX.out)))
   by_cases hjl : j < x.nx.length
   case neg =>
    have hnj : ¬ (j : Int) < (x.nx.length : Int) := by omega
    have HN2 : Hid ((L.take (0 + 1)).any dsW = false) := Lib.hid (any_take HN.out HX.out.1 (by
     unfold dsW
     rw [ascK_end (f := ltI) (l := x.nx) (fun i a b hi => HJ.out i a b (by omega))]; rfl))
    go_wp2_with fail
    exact ⟨⟨0 + 1, by omega, congrArg _ (by omega), HA2, HN2, K⟩, by simp only [RowKit.intOf]; omega⟩
   obtain ⟨i, rfl⟩ : ∃ i, j = i + 1 := ⟨j - 1, by omega⟩
   have hjl' : (((i + 1 : Nat)) : Int) < (x.nx.length : Int) := by omega
   obtain ⟨y, hy⟩ : ∃ y, x.nx[i]? = some y := ⟨_, List.getElem?_eq_getElem (by omega)⟩
   obtain ⟨z, hz⟩ : ∃ z, x.nx[i + 1]? = some z := ⟨_, List.getElem?_eq_getElem hjl⟩
   obtain ⟨-, bz, oz, hpz, -, hcz⟩ := tvT_at HX.out.2.rd hz
   have f0 := hcz i y hy
   have f1 := hcz (i + 1) z hz
   rw [hpz] at *
   have HZ := Lib.hid (And.intro hy hz)
   clear hcz hz hy hpz
   have hi1 : (i : Int) < (x.nx.length : Int) := by omega
   have hi0 : (0 : Int) ≤ (i : Int) := by omega
   have hi00 : (0 : Int) ≤ ((i + 1 : Nat) : Int) := by omega
   have hi000 : (0 : Int) ≤ (i : Int) + 1 := by omega
   have hi001 : (i : Int) + 1 < (x.nx.length : Int) := by omega
   go_upto_region 29 with fail
   by_cases hyz : y < z
   case pos =>
    refine wp_region_held_drew (S := fun w' => Hid (w7.grownBy w' none)) (by kernel_rfl) (Lib.hid (grown_drew (grown_refl _ none))) (fun hHeld => ?_)
    refine zT (i := 0) (v := ?_) rfl ?_ hHeld ?_
    rotate_left 1
    ·intro u hSu
     go_simp
     first | done | with_reducible rfl
    try simp only [Act.put, zA, zB, zC]
    refine zT (i := 1) (v := ?_) rfl ?_ hHeld ?_
    rotate_left 1
    ·intro u hSu
     go_simp
     first | done | with_reducible rfl
    try simp only [Act.put, zA, zB, zC]
    refine zT (i := 2) (v := .int .i64 (i : Int)) rfl ?_ hHeld ?_
    ·intro u hSu
     go_simp
     first | done | with_reducible rfl | (rw [IntKind.wrap_i64]; omega) | omega
    try simp only [Act.put, zA, zB, zC]
    refine zT (i := 3) (v := ?_) rfl ?_ hHeld ?_
    rotate_left 1
    ·intro u hSu
     go_simp
     first | done | with_reducible rfl
    try simp only [Act.put, zA, zB, zC]
    refine zT (i := 4) (v := ?_) rfl ?_ hHeld ?_
    rotate_left 1
    ·intro u hSu
     have f0u := hSu.out.cell f0 (by simp)
     have f1u := hSu.out.cell f1 (by simp)
     go_simp
     first | done | with_reducible rfl
    try simp only [Act.put, zA, zB, zC]
    refine zT (i := 5) (v := ?_) rfl ?_ hHeld ?_
    rotate_left 1
    ·intro u hSu
     go_simp
     first | done | with_reducible rfl
    try simp only [Act.put, zA, zB, zC]
    refine zT (i := 6) (v := ?_) rfl ?_ hHeld ?_
    rotate_left 1
    ·intro u hSu
     go_simp
     first | done | with_reducible rfl
    try simp only [Act.put, zA, zB, zC]
    refine zT (i := 7) (v := ?_) rfl ?_ hHeld ?_
    rotate_left 1
    ·intro u hSu
     go_simp
     first | done | with_reducible rfl
    try simp only [Act.put, zA, zB, zC]
    refine zT (i := 8) (v := ?_) rfl ?_ hHeld ?_
    rotate_left 1
    ·intro u hSu
     have f0u := hSu.out.cell f0 (by simp)
     have f1u := hSu.out.cell f1 (by simp)
     go_simp
     first | done | with_reducible rfl
    try simp only [Act.put, zA, zB, zC]
    refine zT (i := 9) (v := .bool false) rfl ?_ hHeld ?_
    ·intro u hSu
     go_simp
     first | done | with_reducible rfl | (rw [IntKind.wrap_i64]; omega) | omega
    try simp only [Act.put, zA, zB, zC]
    refine wpAnyH_done (by kernel_rfl) ?_ _
    have HK2 := Lib.hid (K.out.keep hHeld.out)
    have HJ2 : Hid (AscK ltI x.nx (i + 1 + 1)) := Lib.hid (ascK_next HJ.out HZ.out.1 HZ.out.2 (by unfold ltI; simp [hyz]))
    clear hHeld K f0 f1
    go_wp2_with fail
    exact ⟨⟨i + 1 + 1, by omega, Or.inl (by omega), congrArg _ (by omega), HJ2, HK2⟩, by simp only [RowKit.intOf]; omega⟩
   refine wp_region_held_drew (S := fun w' => Hid (w7.grownBy w' none)) (by kernel_rfl) (Lib.hid (grown_drew (grown_refl _ none))) (fun hHeld => ?_)
   refine zT (i := 0) (v := ?_) rfl ?_ hHeld ?_
   rotate_left 1
   ·intro u hSu
    go_simp
    first | done | with_reducible rfl
   try simp only [Act.put, zA, zB, zC]
   refine zT (i := 1) (v := ?_) rfl ?_ hHeld ?_
   rotate_left 1
   ·intro u hSu
    go_simp
    first | done | with_reducible rfl
   try simp only [Act.put, zA, zB, zC]
   refine zT (i := 2) (v := .int .i64 (i : Int)) rfl ?_ hHeld ?_
   ·intro u hSu
    go_simp
    first | done | with_reducible rfl | (rw [IntKind.wrap_i64]; omega) | omega
   try simp only [Act.put, zA, zB, zC]
   refine zT (i := 3) (v := ?_) rfl ?_ hHeld ?_
   rotate_left 1
   ·intro u hSu
    go_simp
    first | done | with_reducible rfl
   try simp only [Act.put, zA, zB, zC]
   refine zT (i := 4) (v := ?_) rfl ?_ hHeld ?_
   rotate_left 1
   ·intro u hSu
    have f0u := hSu.out.cell f0 (by simp)
    have f1u := hSu.out.cell f1 (by simp)
    go_simp
    first | done | with_reducible rfl
   try simp only [Act.put, zA, zB, zC]
   refine zT (i := 5) (v := ?_) rfl ?_ hHeld ?_
   rotate_left 1
   ·intro u hSu
    go_simp
    first | done | with_reducible rfl
   try simp only [Act.put, zA, zB, zC]
   refine zT (i := 6) (v := ?_) rfl ?_ hHeld ?_
   rotate_left 1
   ·intro u hSu
    go_simp
    first | done | with_reducible rfl
   try simp only [Act.put, zA, zB, zC]
   refine zT (i := 7) (v := ?_) rfl ?_ hHeld ?_
   rotate_left 1
   ·intro u hSu
    go_simp
    first | done | with_reducible rfl
   try simp only [Act.put, zA, zB, zC]
   refine zT (i := 8) (v := ?_) rfl ?_ hHeld ?_
   rotate_left 1
   ·intro u hSu
    have f0u := hSu.out.cell f0 (by simp)
    have f1u := hSu.out.cell f1 (by simp)
    go_simp
    first | done | with_reducible rfl
   try simp only [Act.put, zA, zB, zC]
   refine zT (i := 9) (v := .bool true) rfl ?_ hHeld ?_
   ·intro u hSu
    go_simp
    first | done | with_reducible rfl | (rw [IntKind.wrap_i64]; omega) | omega
   try simp only [Act.put, zA, zB, zC]
   refine wpAnyH_done (by kernel_rfl) ?_ _
   have HE : Hid (dsW x = true) := Lib.hid (by
    unfold dsW
    rw [asc_miss (f := ltI) HZ.out.1 HZ.out.2 (by unfold ltI; simp; omega)]; rfl)
   have HK2 := Lib.hid (K.out.keep hHeld.out)
   clear hHeld K f0 f1
   go_wp2_with fail
   go_ret
   exact ⟨by rw [ck_or HD.out HW.out h256 HG.out (Or.inr (any_at HX.out.1 HE.out))]; rfl, HK2.out.gr⟩
  | succ m =>
   obtain ⟨y, hy⟩ : ∃ y, L[m]? = some y := ⟨_, List.getElem?_eq_getElem (by omega)⟩
   obtain ⟨g0, g1⟩ := HHC.out m y hy
   have HY := Lib.hid hy
   have hi1 : (m : Int) < (L.length : Int) := by omega
   have hi0 : (0 : Int) ≤ (m : Int) := by omega
   have hi00 : (0 : Int) ≤ ((m + 1 : Nat) : Int) := by omega
   have hi01 : (0 : Int) < ((m + 1 : Nat) : Int) := by omega
   have hi000 : (0 : Int) ≤ (m : Int) + 1 := by omega
   have hi001 : (m : Int) + 1 < (L.length : Int) := by omega
   clear hy
   by_cases hyx : y.id < x.id
   case neg =>
    refine wp_region_held_drew (S := fun w' => Hid (w4.grownBy w' none)) (by kernel_rfl) (Lib.hid (grown_drew (grown_refl _ none))) (fun hHeld => ?_)
    refine zT (i := 0) (v := ?_) rfl ?_ hHeld ?_
    rotate_left 1
    ·intro u hSu
     go_simp
     first | done | with_reducible rfl
    try simp only [Act.put, zA, zB, zC]
    refine zT (i := 1) (v := ?_) rfl ?_ hHeld ?_
    rotate_left 1
    ·intro u hSu
     go_simp
     first | done | with_reducible rfl
    try simp only [Act.put, zA, zB, zC]
    refine zT (i := 2) (v := ?_) rfl ?_ hHeld ?_
    rotate_left 1
    ·intro u hSu
     go_simp
     first | done | with_reducible rfl
    try simp only [Act.put, zA, zB, zC]
    refine zT (i := 3) (v := ?_) rfl ?_ hHeld ?_
    rotate_left 1
    ·intro u hSu
     go_simp
     first | done | with_reducible rfl
    try simp only [Act.put, zA, zB, zC]
    refine zT (i := 4) (v := ?_) rfl ?_ hHeld ?_
    rotate_left 1
    ·intro u hSu
     have e3 := hSu.out.cell d3 (by simp)
     have x0 := hSu.out.cell a0 (by simp)
     have y0 := hSu.out.cell g0 (by simp)
     go_simp
     first | done | with_reducible rfl
    try simp only [Act.put, zA, zB, zC]
    refine zT (i := 5) (v := ?_) rfl ?_ hHeld ?_
    rotate_left 1
    ·intro u hSu
     go_simp
     first | done | with_reducible rfl
    try simp only [Act.put, zA, zB, zC]
    refine zT (i := 6) (v := .int .i64 (m : Int)) rfl ?_ hHeld ?_
    ·intro u hSu
     go_simp
     first | done | with_reducible rfl | (rw [IntKind.wrap_i64]; omega) | omega
    try simp only [Act.put, zA, zB, zC]
    refine zT (i := 7) (v := ?_) rfl ?_ hHeld ?_
    rotate_left 1
    ·intro u hSu
     go_simp
     first | done | with_reducible rfl
    try simp only [Act.put, zA, zB, zC]
    refine zT (i := 8) (v := ?_) rfl ?_ hHeld ?_
    rotate_left 1
    ·intro u hSu
     go_simp
     first | done | with_reducible rfl
    try simp only [Act.put, zA, zB, zC]
    refine zT (i := 9) (v := ?_) rfl ?_ hHeld ?_
    rotate_left 1
    ·intro u hSu
     have e3 := hSu.out.cell d3 (by simp)
     have x0 := hSu.out.cell a0 (by simp)
     have y0 := hSu.out.cell g0 (by simp)
     go_simp
     first | done | with_reducible rfl
    try simp only [Act.put, zA, zB, zC]
    refine zT (i := 10) (v := ?_) rfl ?_ hHeld ?_
    rotate_left 1
    ·intro u hSu
     go_simp
     first | done | with_reducible rfl
    try simp only [Act.put, zA, zB, zC]
    refine zT (i := 11) (v := ?_) rfl ?_ hHeld ?_
    rotate_left 1
    ·intro u hSu
     have e3 := hSu.out.cell d3 (by simp)
     have x0 := hSu.out.cell a0 (by simp)
     have y0 := hSu.out.cell g0 (by simp)
     go_simp
     first | done | with_reducible rfl
    try simp only [Act.put, zA, zB, zC]
    refine zT (i := 12) (v := ?_) rfl ?_ hHeld ?_
    rotate_left 1
    ·intro u hSu
     go_simp
     first | done | with_reducible rfl
    try simp only [Act.put, zA, zB, zC]
    refine zT (i := 13) (v := ?_) rfl ?_ hHeld ?_
    rotate_left 1
    ·intro u hSu
     go_simp
     first | done | with_reducible rfl
    try simp only [Act.put, zA, zB, zC]
    refine zT (i := 14) (v := ?_) rfl ?_ hHeld ?_
    rotate_left 1
    ·intro u hSu
     go_simp
     first | done | with_reducible rfl
    try simp only [Act.put, zA, zB, zC]
    refine zT (i := 15) (v := ?_) rfl ?_ hHeld ?_
    rotate_left 1
    ·intro u hSu
     have e3 := hSu.out.cell d3 (by simp)
     have x0 := hSu.out.cell a0 (by simp)
     have y0 := hSu.out.cell g0 (by simp)
     go_simp
     first | done | with_reducible rfl
    try simp only [Act.put, zA, zB, zC]
    refine zT (i := 16) (v := .bool true) rfl ?_ hHeld ?_
    ·intro u hSu
     go_simp
     first | done | with_reducible rfl | (rw [IntKind.wrap_i64]; omega) | omega
    try simp only [Act.put, zA, zB, zC]
    refine zT (i := 17) (v := ?_) rfl ?_ hHeld ?_
    rotate_left 1
    ·intro u hSu
     go_simp
     first | done | with_reducible rfl
    try simp only [Act.put, zA, zB, zC]
    refine wpAnyH_done (by kernel_rfl) ?_ _
    have HE : Hid (ascB ltW L = false) := Lib.hid (asc_miss HY.out HLX.out (by unfold ltW; simp; omega))
    have HK2 := Lib.hid (K.out.keep hHeld.out)
    clear hHeld K a0 a1 d0 d1 d2 d3 g0 g1
    go_wp2_with fail
    go_ret
    exact ⟨by rw [ck_or HD.out HW.out h256 HG.out (Or.inl HE.out)]; rfl, HK2.out.gr⟩
   have HA2 : Hid (AscK ltW L (m + 1 + 1)) := Lib.hid (ascK_next HA.out HY.out HLX.out (by unfold ltW; simp [hyx]))
   refine wp_region_held_drew (S := fun w' => Hid (w4.grownBy w' none)) (by kernel_rfl) (Lib.hid (grown_drew (grown_refl _ none))) (fun hHeld => ?_)
   refine zT (i := 0) (v := ?_) rfl ?_ hHeld ?_
   rotate_left 1
   ·intro u hSu
    go_simp
    first | done | with_reducible rfl
   try simp only [Act.put, zA, zB, zC]
   refine zT (i := 1) (v := ?_) rfl ?_ hHeld ?_
   rotate_left 1
   ·intro u hSu
    go_simp
    first | done | with_reducible rfl
   try simp only [Act.put, zA, zB, zC]
   refine zT (i := 2) (v := ?_) rfl ?_ hHeld ?_
   rotate_left 1
   ·intro u hSu
    go_simp
    first | done | with_reducible rfl
   try simp only [Act.put, zA, zB, zC]
   refine zT (i := 3) (v := ?_) rfl ?_ hHeld ?_
   rotate_left 1
   ·intro u hSu
    go_simp
    first | done | with_reducible rfl
   try simp only [Act.put, zA, zB, zC]
   refine zT (i := 4) (v := ?_) rfl ?_ hHeld ?_
   rotate_left 1
   ·intro u hSu
    have e3 := hSu.out.cell d3 (by simp)
    have x0 := hSu.out.cell a0 (by simp)
    have y0 := hSu.out.cell g0 (by simp)
    go_simp
    first | done | with_reducible rfl
   try simp only [Act.put, zA, zB, zC]
   refine zT (i := 5) (v := ?_) rfl ?_ hHeld ?_
   rotate_left 1
   ·intro u hSu
    go_simp
    first | done | with_reducible rfl
   try simp only [Act.put, zA, zB, zC]
   refine zT (i := 6) (v := .int .i64 (m : Int)) rfl ?_ hHeld ?_
   ·intro u hSu
    go_simp
    first | done | with_reducible rfl | (rw [IntKind.wrap_i64]; omega) | omega
   try simp only [Act.put, zA, zB, zC]
   refine zT (i := 7) (v := ?_) rfl ?_ hHeld ?_
   rotate_left 1
   ·intro u hSu
    go_simp
    first | done | with_reducible rfl
   try simp only [Act.put, zA, zB, zC]
   refine zT (i := 8) (v := ?_) rfl ?_ hHeld ?_
   rotate_left 1
   ·intro u hSu
    go_simp
    first | done | with_reducible rfl
   try simp only [Act.put, zA, zB, zC]
   refine zT (i := 9) (v := ?_) rfl ?_ hHeld ?_
   rotate_left 1
   ·intro u hSu
    have e3 := hSu.out.cell d3 (by simp)
    have x0 := hSu.out.cell a0 (by simp)
    have y0 := hSu.out.cell g0 (by simp)
    go_simp
    first | done | with_reducible rfl
   try simp only [Act.put, zA, zB, zC]
   refine zT (i := 10) (v := ?_) rfl ?_ hHeld ?_
   rotate_left 1
   ·intro u hSu
    go_simp
    first | done | with_reducible rfl
   try simp only [Act.put, zA, zB, zC]
   refine zT (i := 11) (v := ?_) rfl ?_ hHeld ?_
   rotate_left 1
   ·intro u hSu
    have e3 := hSu.out.cell d3 (by simp)
    have x0 := hSu.out.cell a0 (by simp)
    have y0 := hSu.out.cell g0 (by simp)
    go_simp
    first | done | with_reducible rfl
   try simp only [Act.put, zA, zB, zC]
   refine zT (i := 12) (v := ?_) rfl ?_ hHeld ?_
   rotate_left 1
   ·intro u hSu
    go_simp
    first | done | with_reducible rfl
   try simp only [Act.put, zA, zB, zC]
   refine zT (i := 13) (v := ?_) rfl ?_ hHeld ?_
   rotate_left 1
   ·intro u hSu
    go_simp
    first | done | with_reducible rfl
   try simp only [Act.put, zA, zB, zC]
   refine zT (i := 14) (v := ?_) rfl ?_ hHeld ?_
   rotate_left 1
   ·intro u hSu
    go_simp
    first | done | with_reducible rfl
   try simp only [Act.put, zA, zB, zC]
   refine zT (i := 15) (v := ?_) rfl ?_ hHeld ?_
   rotate_left 1
   ·intro u hSu
    have e3 := hSu.out.cell d3 (by simp)
    have x0 := hSu.out.cell a0 (by simp)
    have y0 := hSu.out.cell g0 (by simp)
    go_simp
    first | done | with_reducible rfl
   try simp only [Act.put, zA, zB, zC]
   refine zT (i := 16) (v := .bool false) rfl ?_ hHeld ?_
   ·intro u hSu
    go_simp
    first | done | with_reducible rfl | (rw [IntKind.wrap_i64]; omega) | omega
   try simp only [Act.put, zA, zB, zC]
   refine zT (i := 17) (v := ?_) rfl ?_ hHeld ?_
   rotate_left 1
   ·intro u hSu
    go_simp
    first | done | with_reducible rfl
   try simp only [Act.put, zA, zB, zC]
   refine wpAnyH_done (by kernel_rfl) ?_ _
   clear g0 g1
   have HK2 := Lib.hid (K.out.keep hHeld.out)
   clear hHeld K a0 a1 d0 d1 d2 d3
   generalize w4.drew = w6 at *
   go_wp2_with fail
   go_loopw [8] (fun a wr => ∃ j : Nat, 1 ≤ j ∧ (j ≤ x.nx.length ∨ j = 1) ∧ a = .int .i64 (j : Int) ∧ Hid (AscK ltI x.nx j) ∧ Hid (BX w r s n (some ⟨b, off, none⟩) c L wr)) (fun a _ => x.nx.length + 1 - (RowKit.intOf a).toNat)
   case atStart => exact ⟨1, Nat.le_refl _, Or.inr rfl, rfl, Lib.hid (fun i x y hi => by omega), HK2⟩
   case round =>
   clear HK2 HX
   obtain ⟨j, hj1, hj, rfl, HJ, K⟩ := hrel
   obtain ⟨w7, hw7⟩ : ∃ w7, w7 = wr := ⟨_, rfl⟩
   rw [← hw7] at K ⊢
   clear hw7
   have HX := Lib.hid (And.intro HLX.out (K.out.rd.ok x (List.mem_of_getElem? HLX.out)))
   by_cases hjl : j < x.nx.length
   case neg =>
    have hnj : ¬ (j : Int) < (x.nx.length : Int) := by omega
    have HN2 : Hid ((L.take ((m + 1) + 1)).any dsW = false) := Lib.hid (any_take HN.out HX.out.1 (by
     unfold dsW
     rw [ascK_end (f := ltI) (l := x.nx) (fun i a b hi => HJ.out i a b (by omega))]; rfl))
    go_wp2_with fail
    exact ⟨⟨(m + 1) + 1, by omega, congrArg _ (by omega), HA2, HN2, K⟩, by simp only [RowKit.intOf]; omega⟩
   obtain ⟨i, rfl⟩ : ∃ i, j = i + 1 := ⟨j - 1, by omega⟩
   have hjl' : (((i + 1 : Nat)) : Int) < (x.nx.length : Int) := by omega
   obtain ⟨y, hy⟩ : ∃ y, x.nx[i]? = some y := ⟨_, List.getElem?_eq_getElem (by omega)⟩
   obtain ⟨z, hz⟩ : ∃ z, x.nx[i + 1]? = some z := ⟨_, List.getElem?_eq_getElem hjl⟩
   obtain ⟨-, bz, oz, hpz, -, hcz⟩ := tvT_at HX.out.2.rd hz
   have f0 := hcz i y hy
   have f1 := hcz (i + 1) z hz
   rw [hpz] at *
   have HZ := Lib.hid (And.intro hy hz)
   clear hcz hz hy hpz
   have hi1 : (i : Int) < (x.nx.length : Int) := by omega
   have hi0 : (0 : Int) ≤ (i : Int) := by omega
   have hi00 : (0 : Int) ≤ ((i + 1 : Nat) : Int) := by omega
   have hi000 : (0 : Int) ≤ (i : Int) + 1 := by omega
   have hi001 : (i : Int) + 1 < (x.nx.length : Int) := by omega
   go_upto_region 29 with fail
   by_cases hyz : y < z
   case pos =>
    refine wp_region_held_drew (S := fun w' => Hid (w7.grownBy w' none)) (by kernel_rfl) (Lib.hid (grown_drew (grown_refl _ none))) (fun hHeld => ?_)
    refine zT (i := 0) (v := ?_) rfl ?_ hHeld ?_
    rotate_left 1
    ·intro u hSu
     go_simp
     first | done | with_reducible rfl
    try simp only [Act.put, zA, zB, zC]
    refine zT (i := 1) (v := ?_) rfl ?_ hHeld ?_
    rotate_left 1
    ·intro u hSu
     go_simp
     first | done | with_reducible rfl
    try simp only [Act.put, zA, zB, zC]
    refine zT (i := 2) (v := .int .i64 (i : Int)) rfl ?_ hHeld ?_
    ·intro u hSu
     go_simp
     first | done | with_reducible rfl | (rw [IntKind.wrap_i64]; omega) | omega
    try simp only [Act.put, zA, zB, zC]
    refine zT (i := 3) (v := ?_) rfl ?_ hHeld ?_
    rotate_left 1
    ·intro u hSu
     go_simp
     first | done | with_reducible rfl
    try simp only [Act.put, zA, zB, zC]
    refine zT (i := 4) (v := ?_) rfl ?_ hHeld ?_
    rotate_left 1
    ·intro u hSu
     have f0u := hSu.out.cell f0 (by simp)
     have f1u := hSu.out.cell f1 (by simp)
     go_simp
     first | done | with_reducible rfl
    try simp only [Act.put, zA, zB, zC]
    refine zT (i := 5) (v := ?_) rfl ?_ hHeld ?_
    rotate_left 1
    ·intro u hSu
     go_simp
     first | done | with_reducible rfl
    try simp only [Act.put, zA, zB, zC]
    refine zT (i := 6) (v := ?_) rfl ?_ hHeld ?_
    rotate_left 1
    ·intro u hSu
     go_simp
     first | done | with_reducible rfl
    try simp only [Act.put, zA, zB, zC]
    refine zT (i := 7) (v := ?_) rfl ?_ hHeld ?_
    rotate_left 1
    ·intro u hSu
     go_simp
     first | done | with_reducible rfl
    try simp only [Act.put, zA, zB, zC]
    refine zT (i := 8) (v := ?_) rfl ?_ hHeld ?_
    rotate_left 1
    ·intro u hSu
     have f0u := hSu.out.cell f0 (by simp)
     have f1u := hSu.out.cell f1 (by simp)
     go_simp
     first | done | with_reducible rfl
    try simp only [Act.put, zA, zB, zC]
    refine zT (i := 9) (v := .bool false) rfl ?_ hHeld ?_
    ·intro u hSu
     go_simp
     first | done | with_reducible rfl | (rw [IntKind.wrap_i64]; omega) | omega
    try simp only [Act.put, zA, zB, zC]
    refine wpAnyH_done (by kernel_rfl) ?_ _
    have HK2 := Lib.hid (K.out.keep hHeld.out)
    have HJ2 : Hid (AscK ltI x.nx (i + 1 + 1)) := Lib.hid (ascK_next HJ.out HZ.out.1 HZ.out.2 (by unfold ltI; simp [hyz]))
    clear hHeld K f0 f1
    go_wp2_with fail
    exact ⟨⟨i + 1 + 1, by omega, Or.inl (by omega), congrArg _ (by omega), HJ2, HK2⟩, by simp only [RowKit.intOf]; omega⟩
   refine wp_region_held_drew (S := fun w' => Hid (w7.grownBy w' none)) (by kernel_rfl) (Lib.hid (grown_drew (grown_refl _ none))) (fun hHeld => ?_)
   refine zT (i := 0) (v := ?_) rfl ?_ hHeld ?_
   rotate_left 1
   ·intro u hSu
    go_simp
    first | done | with_reducible rfl
   try simp only [Act.put, zA, zB, zC]
   refine zT (i := 1) (v := ?_) rfl ?_ hHeld ?_
   rotate_left 1
   ·intro u hSu
    go_simp
    first | done | with_reducible rfl
   try simp only [Act.put, zA, zB, zC]
   refine zT (i := 2) (v := .int .i64 (i : Int)) rfl ?_ hHeld ?_
   ·intro u hSu
    go_simp
    first | done | with_reducible rfl | (rw [IntKind.wrap_i64]; omega) | omega
   try simp only [Act.put, zA, zB, zC]
   refine zT (i := 3) (v := ?_) rfl ?_ hHeld ?_
   rotate_left 1
   ·intro u hSu
    go_simp
    first | done | with_reducible rfl
   try simp only [Act.put, zA, zB, zC]
   refine zT (i := 4) (v := ?_) rfl ?_ hHeld ?_
   rotate_left 1
   ·intro u hSu
    have f0u := hSu.out.cell f0 (by simp)
    have f1u := hSu.out.cell f1 (by simp)
    go_simp
    first | done | with_reducible rfl
   try simp only [Act.put, zA, zB, zC]
   refine zT (i := 5) (v := ?_) rfl ?_ hHeld ?_
   rotate_left 1
   ·intro u hSu
    go_simp
    first | done | with_reducible rfl
   try simp only [Act.put, zA, zB, zC]
   refine zT (i := 6) (v := ?_) rfl ?_ hHeld ?_
   rotate_left 1
   ·intro u hSu
    go_simp
    first | done | with_reducible rfl
   try simp only [Act.put, zA, zB, zC]
   refine zT (i := 7) (v := ?_) rfl ?_ hHeld ?_
   rotate_left 1
   ·intro u hSu
    go_simp
    first | done | with_reducible rfl
   try simp only [Act.put, zA, zB, zC]
   refine zT (i := 8) (v := ?_) rfl ?_ hHeld ?_
   rotate_left 1
   ·intro u hSu
    have f0u := hSu.out.cell f0 (by simp)
    have f1u := hSu.out.cell f1 (by simp)
    go_simp
    first | done | with_reducible rfl
   try simp only [Act.put, zA, zB, zC]
   refine zT (i := 9) (v := .bool true) rfl ?_ hHeld ?_
   ·intro u hSu
    go_simp
    first | done | with_reducible rfl | (rw [IntKind.wrap_i64]; omega) | omega
   try simp only [Act.put, zA, zB, zC]
   refine wpAnyH_done (by kernel_rfl) ?_ _
   have HE : Hid (dsW x = true) := Lib.hid (by
    unfold dsW
    rw [asc_miss (f := ltI) HZ.out.1 HZ.out.2 (by unfold ltI; simp; omega)]; rfl)
   have HK2 := Lib.hid (K.out.keep hHeld.out)
   clear hHeld K f0 f1
   go_wp2_with fail
   go_ret
   exact ⟨by rw [ck_or HD.out HW.out h256 HG.out (Or.inr (any_at HX.out.1 HE.out))]; rfl, HK2.out.gr⟩
 obtain rfl : k = L.length := by omega
 have hnl : ¬ (L.length : Int) < (L.length : Int) := by omega
 have HO := Lib.hid (And.intro (ascK_end HA.out) (any_end HN.out (Nat.le_refl _)))
 clear HN HA hlt hk
 go_wp2_with fail
 clear hnl d0 d1 d2 d3
 go_loopw [9] (fun a wr => ∃ k : Nat, k ≤ L.length ∧ a = .int .i64 (k : Int) ∧ Hid ((L.take k).any (cfW r) = false) ∧ Hid (BX w r s n p c L wr)) (fun a _ => L.length - (RowKit.intOf a).toNat)
 case atStart => exact ⟨0, Nat.zero_le _, rfl, Lib.hid (by simp), K⟩
 case round =>
 clear K
 obtain ⟨k, hk, rfl, HN, K⟩ := hrel
 obtain ⟨w5, hw5⟩ : ∃ w5, w5 = wr := ⟨_, rfl⟩
 rw [← hw5] at K ⊢
 clear hw5
 obtain ⟨d0, d1, d2, d3⟩ := row4T K.out.bx
 by_cases hlt : k < L.length
 case pos =>
  have hlt' : (k : Int) < (L.length : Int) := by omega
  obtain ⟨x, hx⟩ : ∃ x, L[k]? = some x := ⟨_, List.getElem?_eq_getElem hlt⟩
  obtain ⟨-, b, off, rfl, -, hc⟩ := rw_cells K.out.rd.rd (by omega)
  obtain ⟨a0, a1⟩ := hc k x hx
  have HX := Lib.hid (And.intro hx (K.out.rd.ok x (List.mem_of_getElem? hx)))
  have hmx : x.nx.length ≤ 9223372036854775807 := Nat.le_trans HX.out.2.hc.1 HX.out.2.hc.2
  have HLX := Lib.hid hx
  have HCC : Hid (∀ u, BX w r s n (some ⟨b, off, none⟩) c L u → u.cell? ⟨b, off + k * 2, none⟩ = some (.int .i64 x.id) ∧ u.cell? ⟨b, off + k * 2 + 1, none⟩ = some (.slice x.p x.nx.length x.c)) := Lib.hid (fun u hu => by
   obtain ⟨-, b', off', hpe, -, hc'⟩ := rw_cells hu.rd.rd (by omega)
   injection hpe with hpe
   injection hpe with e1 e2
   subst e1
   subst e2
   exact hc' k x hx)
  clear hc hx HX
  have HCF : Hid (cfW r x = (decide (1 < x.nx.length) && hasI x.nx r)) := Lib.hid rfl
  go_upto_region 34 with fail
  by_cases hl1 : 1 < x.nx.length
  case neg =>
   have hl1' : ¬ (1 : Int) < (x.nx.length : Int) := by omega
   refine wp_region_held_drew (S := fun w' => Hid (BX w r s n (some ⟨b, off, none⟩) c L w')) (by kernel_rfl) (Lib.hid (K.out.keep (grown_drew (grown_refl _ none)))) (fun hHeld => ?_)
   refine zT (i := 0) (v := ?_) rfl ?_ hHeld ?_
   rotate_left 1
   ·intro u hSu
    go_simp
    first | done | with_reducible rfl
   try simp only [Act.put, zA, zB, zC]
   refine zT (i := 1) (v := ?_) rfl ?_ hHeld ?_
   rotate_left 1
   ·intro u hSu
    obtain ⟨d0u, d1u, d2u, d3u⟩ := row4T hSu.out.bx
    obtain ⟨a0u, a1u⟩ := HCC.out _ hSu.out
    go_simp
    first | done | with_reducible rfl
   try simp only [Act.put, zA, zB, zC]
   refine zT (i := 2) (v := ?_) rfl ?_ hHeld ?_
   rotate_left 1
   ·intro u hSu
    go_simp
    first | done | with_reducible rfl
   try simp only [Act.put, zA, zB, zC]
   refine zT (i := 3) (v := ?_) rfl ?_ hHeld ?_
   rotate_left 1
   ·intro u hSu
    go_simp
    first | done | with_reducible rfl
   try simp only [Act.put, zA, zB, zC]
   refine zT (i := 4) (v := ?_) rfl ?_ hHeld ?_
   rotate_left 1
   ·intro u hSu
    go_simp
    first | done | with_reducible rfl
   try simp only [Act.put, zA, zB, zC]
   refine zT (i := 5) (v := ?_) rfl ?_ hHeld ?_
   rotate_left 1
   ·intro u hSu
    obtain ⟨d0u, d1u, d2u, d3u⟩ := row4T hSu.out.bx
    obtain ⟨a0u, a1u⟩ := HCC.out _ hSu.out
    go_simp
    first | done | with_reducible rfl
   try simp only [Act.put, zA, zB, zC]
   refine zT (i := 6) (v := ?_) rfl ?_ hHeld ?_
   rotate_left 1
   ·intro u hSu
    obtain ⟨d0u, d1u, d2u, d3u⟩ := row4T hSu.out.bx
    obtain ⟨a0u, a1u⟩ := HCC.out _ hSu.out
    go_simp
    first | done | with_reducible rfl
   try simp only [Act.put, zA, zB, zC]
   refine zT (i := 7) (v := .bool false) rfl ?_ hHeld ?_
   ·intro u hSu
    go_simp
    first | done | with_reducible rfl | (rw [IntKind.wrap_i64]; omega) | omega
   try simp only [Act.put, zA, zB, zC]
   refine zT (i := 8) (v := ?_) rfl ?_ hHeld ?_
   rotate_left 1
   ·intro u hSu
    go_simp
    first | done | with_reducible rfl
   try simp only [Act.put, zA, zB, zC]
   refine zS (i := 9) rfl hHeld ?_
   try simp only [Act.put, zA, zB, zC]
   refine zS (i := 10) rfl hHeld ?_
   try simp only [Act.put, zA, zB, zC]
   refine zS (i := 11) rfl hHeld ?_
   try simp only [Act.put, zA, zB, zC]
   refine zS (i := 12) rfl hHeld ?_
   try simp only [Act.put, zA, zB, zC]
   refine zS (i := 13) rfl hHeld ?_
   try simp only [Act.put, zA, zB, zC]
   refine zS (i := 14) rfl hHeld ?_
   try simp only [Act.put, zA, zB, zC]
   refine zS (i := 15) rfl hHeld ?_
   try simp only [Act.put, zA, zB, zC]
   refine zS (i := 16) rfl hHeld ?_
   try simp only [Act.put, zA, zB, zC]
   refine zS (i := 17) rfl hHeld ?_
   try simp only [Act.put, zA, zB, zC]
   refine zT (i := 18) (v := ?_) rfl ?_ hHeld ?_
   rotate_left 1
   ·intro u hSu
    go_simp
    first | done | with_reducible rfl
   try simp only [Act.put, zA, zB, zC]
   refine wpAnyH_done (by kernel_rfl) ?_ _
   have HN2 : Hid ((L.take (k + 1)).any (cfW r) = false) := Lib.hid (any_take HN.out HLX.out (by rw [HCF.out]; simp [hl1]))
   clear a0 a1 d0 d1 d2 d3 K
   go_wp2_with fail
   exact ⟨⟨k + 1, by omega, congrArg _ (by omega), HN2, hHeld⟩, by simp only [RowKit.intOf]; omega⟩
  have hl1' : (1 : Int) < (x.nx.length : Int) := by omega
  refine wp_region_held_drew (S := fun w' => Hid (BX w r s n (some ⟨b, off, none⟩) c L w')) (by kernel_rfl) (Lib.hid (K.out.keep (grown_drew (grown_refl _ none)))) (fun hHeld => ?_)
  refine zT (i := 0) (v := ?_) rfl ?_ hHeld ?_
  rotate_left 1
  ·intro u hSu
   go_simp
   first | done | with_reducible rfl
  try simp only [Act.put, zA, zB, zC]
  refine zT (i := 1) (v := ?_) rfl ?_ hHeld ?_
  rotate_left 1
  ·intro u hSu
   obtain ⟨d0u, d1u, d2u, d3u⟩ := row4T hSu.out.bx
   obtain ⟨a0u, a1u⟩ := HCC.out _ hSu.out
   go_simp
   first | done | with_reducible rfl
  try simp only [Act.put, zA, zB, zC]
  refine zT (i := 2) (v := ?_) rfl ?_ hHeld ?_
  rotate_left 1
  ·intro u hSu
   go_simp
   first | done | with_reducible rfl
  try simp only [Act.put, zA, zB, zC]
  refine zT (i := 3) (v := ?_) rfl ?_ hHeld ?_
  rotate_left 1
  ·intro u hSu
   go_simp
   first | done | with_reducible rfl
  try simp only [Act.put, zA, zB, zC]
  refine zT (i := 4) (v := ?_) rfl ?_ hHeld ?_
  rotate_left 1
  ·intro u hSu
   go_simp
   first | done | with_reducible rfl
  try simp only [Act.put, zA, zB, zC]
  refine zT (i := 5) (v := ?_) rfl ?_ hHeld ?_
  rotate_left 1
  ·intro u hSu
   obtain ⟨d0u, d1u, d2u, d3u⟩ := row4T hSu.out.bx
   obtain ⟨a0u, a1u⟩ := HCC.out _ hSu.out
   go_simp
   first | done | with_reducible rfl
  try simp only [Act.put, zA, zB, zC]
  refine zT (i := 6) (v := ?_) rfl ?_ hHeld ?_
  rotate_left 1
  ·intro u hSu
   obtain ⟨d0u, d1u, d2u, d3u⟩ := row4T hSu.out.bx
   obtain ⟨a0u, a1u⟩ := HCC.out _ hSu.out
   go_simp
   first | done | with_reducible rfl
  try simp only [Act.put, zA, zB, zC]
  refine zT (i := 7) (v := .bool true) rfl ?_ hHeld ?_
  ·intro u hSu
   go_simp
   first | done | with_reducible rfl | (rw [IntKind.wrap_i64]; omega) | omega
  try simp only [Act.put, zA, zB, zC]
  refine zT (i := 8) (v := ?_) rfl ?_ hHeld ?_
  rotate_left 1
  ·intro u hSu
   go_simp
   first | done | with_reducible rfl
  try simp only [Act.put, zA, zB, zC]
  refine zT (i := 9) (v := ?_) rfl ?_ hHeld ?_
  rotate_left 1
  ·intro u hSu
   go_simp
   first | done | with_reducible rfl
  try simp only [Act.put, zA, zB, zC]
  refine zT (i := 10) (v := ?_) rfl ?_ hHeld ?_
  rotate_left 1
  ·intro u hSu
   obtain ⟨d0u, d1u, d2u, d3u⟩ := row4T hSu.out.bx
   obtain ⟨a0u, a1u⟩ := HCC.out _ hSu.out
   go_simp
   first | done | with_reducible rfl
  try simp only [Act.put, zA, zB, zC]
  refine zT (i := 11) (v := ?_) rfl ?_ hHeld ?_
  rotate_left 1
  ·intro u hSu
   go_simp
   first | done | with_reducible rfl
  try simp only [Act.put, zA, zB, zC]
  refine zT (i := 12) (v := ?_) rfl ?_ hHeld ?_
  rotate_left 1
  ·intro u hSu
   go_simp
   first | done | with_reducible rfl
  try simp only [Act.put, zA, zB, zC]
  refine zT (i := 13) (v := ?_) rfl ?_ hHeld ?_
  rotate_left 1
  ·intro u hSu
   go_simp
   first | done | with_reducible rfl
  try simp only [Act.put, zA, zB, zC]
  refine zT (i := 14) (v := ?_) rfl ?_ hHeld ?_
  rotate_left 1
  ·intro u hSu
   obtain ⟨d0u, d1u, d2u, d3u⟩ := row4T hSu.out.bx
   obtain ⟨a0u, a1u⟩ := HCC.out _ hSu.out
   go_simp
   first | done | with_reducible rfl
  try simp only [Act.put, zA, zB, zC]
  refine zT (i := 15) (v := ?_) rfl ?_ hHeld ?_
  rotate_left 1
  ·intro u hSu
   go_simp
   first | done | with_reducible rfl
  try simp only [Act.put, zA, zB, zC]
  refine zT (i := 16) (v := ?_) rfl ?_ hHeld ?_
  rotate_left 1
  ·intro u hSu
   obtain ⟨d0u, d1u, d2u, d3u⟩ := row4T hSu.out.bx
   obtain ⟨a0u, a1u⟩ := HCC.out _ hSu.out
   go_simp
   first | done | with_reducible rfl
  try simp only [Act.put, zA, zB, zC]
  refine wpAnyH_ready (rs := [17]) (by kernel_rfl) (by simp) ?_
  refine AllReadyH.cons (o := ⟨_, _, _, _, _, _⟩) rfl (fun Kz hK => ?_) AllReadyH.nil
  go_simp
  go_at_call 73
  refine (rhas4_any x.nx r x.p x.c _ _ (hHeld.out.rd.ok x (List.mem_of_getElem? HLX.out)).rd hmx).mono ?_
  rintro e w' ⟨rfl, rfl⟩
  refine hK.out _ _ (hHeld) (fun hH2 => ?_)
  clear hK Kz hHeld
  have hHeld := hH2
  clear hH2
  try simp only [Act.put, zA, zB, zC]
  refine zT (i := 18) (v := ?_) rfl ?_ hHeld ?_
  rotate_left 1
  ·intro u hSu
   go_simp
   first | done | with_reducible rfl
  try simp only [Act.put, zA, zB, zC]
  refine wpAnyH_done (by kernel_rfl) ?_ _
  cases hcf : hasI x.nx r
  case true =>
   have HE : Hid (cfW r x = true) := Lib.hid (by rw [HCF.out, hcf]; simp [hl1])
   clear hcf a0 a1 d0 d1 d2 d3 K
   go_wp2_with fail
   go_ret
   exact ⟨by rw [ck_cf HD.out HW.out h256 HG.out HO.out.1 HO.out.2 (any_at HLX.out HE.out)]; rfl, hHeld.out.gr⟩
  have HN2 : Hid ((L.take (k + 1)).any (cfW r) = false) := Lib.hid (any_take HN.out HLX.out (by rw [HCF.out, hcf]; simp))
  clear hcf a0 a1 d0 d1 d2 d3 K
  go_wp2_with fail
  exact ⟨⟨k + 1, by omega, congrArg _ (by omega), HN2, hHeld⟩, by simp only [RowKit.intOf]; omega⟩
 obtain rfl : k = L.length := by omega
 have hnl : ¬ (L.length : Int) < (L.length : Int) := by omega
 have HC := Lib.hid (any_end HN.out (Nat.le_refl _))
 go_wp2_with fail
 go_ret
 exact ⟨by rw [ck_z HD.out HW.out h256 HG.out HO.out.1 HO.out.2 HC.out]; rfl, K.out.gr⟩
end Go.Proofs.YtpogblengagpaaaGreatDoor

/- masks, the reference's functions: Mask, Next, Local. -/
namespace Go.Proofs.YtpogblengagpaaaGreatDoor
set_option maxRecDepth 100000
open Go.RowKit Go.Maps Bs
theorem ck_len {r s n : Int} {L : List Rw} (h : ckT r s n L = 0) : 0 ≤ n ∧ n ≤ 64 := by
 have := (ck_ok h).1
 unfold hdT at this
 simp at this
 cases hv : vl n with
 | true => rcases vl_cases hv with rfl | rfl | rfl | rfl <;> omega
 | false => have := (this.2 hv).1; omega
theorem plS_in (id n : Int) : 0 ≤ plS id n ∧ plS id n ≤ 31 := by
 unfold plS
 split
 ·rename_i h
  obtain ⟨hl, h1, h2⟩ := pl_fields h
  rw [Int.tdiv_eq_ediv_of_nonneg (by omega)]
  rcases hl with rfl | rfl | rfl | rfl <;> omega
 ·omega
theorem coF_z1 {r s n : Int} {L : List Rw} {pl set u : Int} (h : ¬ ((0 ≤ pl ∧ pl < 8) ∧ ckT r s n L = 0)) : (coF r s n L pl set u).getD 0 = 0 := by
 unfold coF
 rw [if_neg h]; rfl
theorem coF_z2 {r s n : Int} {L : List Rw} {pl set u : Int} (h : set < 0 ∨ 31 < set) : (coF r s n L pl set u).getD 0 = 0 := by
 unfold coF
 split
 ·refine Nat.eq_of_testBit_eq fun j => ?_
  rw [Nat.zero_testBit, ← Bool.not_eq_true, colL_bit]
  rintro ⟨x, -, h1, -⟩
  have := plS_in x.id n
  omega
 ·rfl
theorem coF_z3 {r s n : Int} {L : List Rw} {pl set u : Int} (h : u < 1 ∨ 99 < u) : (coF r s n L pl set u).getD 0 = 0 := by
 cases hf : coF r s n L pl set u with
 | none => rfl
 | some d => have := ((coF_ok r s n L pl set).u u d hf).2; omega
theorem coF_in {r s n : Int} {L : List Rw} {k : Nat} {set u : Int} (hk : k < 8) (h : ckT r s n L = 0) : coF r s n L (k : Int) set u = colL n set k L u := by
 unfold coF
 rw [if_pos ⟨⟨by omega, by omega⟩, h⟩, Int.toNat_natCast]
set_option maxHeartbeats 3200000 in
theorem rmask_any (r s n : Int) (p : Option Addr) (c : Nat) (L : List Rw) (pl set u : Int) (w : World) (hR : RdW w (· < w.heap.size) p c L) (hm : L.length ≤ 9223372036854775807) :
  Calls Tryz.prog 20 #[.agg #[.int .i64 r, .int .i64 s, .int .i64 n, .slice p L.length c], .int .i64 pl, .int .i64 set, .int .i64 u] w fun e w' => e = .returned (.int .u64 (((coF r s n L pl set u).getD 0 : Nat) : Int)) ∧ w.grownBy w' none := by
 have H0 := Lib.hid (bx_start (r := r) (s := s) (n := n) hR)
 clear hR
 go_enter Tryz.func20, Tryz.ntmps20
 go_upto_region 1 with fail
 generalize w.alloc _ = wa at *
 obtain ⟨d0, d1, d2, d3⟩ := row4T H0.out.bx
 go_wp2_with fail
 refine (rck11_any r s n p c L wa H0.out.rd hm).mono ?_
 rintro e w1 ⟨rfl, hg⟩
 have K := Lib.hid (H0.out.keep hg)
 clear hg H0 d0 d1 d2 d3
 by_cases hck : ckT r s n L = 0
 case neg =>
  have hck' : (ckT r s n L != 0) = true := by simpa using hck
  have HZ : Hid ((coF r s n L pl set u).getD 0 = 0) := Lib.hid (coF_z1 fun h => hck h.2)
  clear hck
  go_wp2_with fail
  go_ret
  exact ⟨by rw [HZ.out]; rfl, K.out.gr⟩
 have HCK := Lib.hid hck
 have hck' : (ckT r s n L != 0) = false := by simpa using hck
 clear hck
 go_wp2_with fail
 refine (rpl12_any pl w1).mono ?_
 rintro e w' ⟨rfl, rfl⟩
 cases hp : (decide (0 ≤ pl) && decide (pl < 8))
 case false =>
  have HZ : Hid ((coF r s n L pl set u).getD 0 = 0) := Lib.hid (coF_z1 fun h => by simp [h.1.1, h.1.2] at hp)
  clear hp hck'
  go_wp2_with fail
  go_ret
  exact ⟨by rw [HZ.out]; rfl, K.out.gr⟩
 rw [Bool.and_eq_true, decide_eq_true_eq, decide_eq_true_eq] at hp
 obtain ⟨hp1, hp2⟩ := hp
 obtain ⟨k, rfl⟩ := Int.eq_ofNat_of_zero_le hp1
 have hk : k < 8 := by omega
 clear hck' hp1 hp2
 by_cases hs0 : set < 0
 case pos =>
  have HZ : Hid ((coF r s n L (k : Int) set u).getD 0 = 0) := Lib.hid (coF_z2 (Or.inl hs0))
  go_wp2_with fail
  go_ret
  exact ⟨by rw [HZ.out]; rfl, K.out.gr⟩
 by_cases hs1 : 31 < set
 case pos =>
  have HZ : Hid ((coF r s n L (k : Int) set u).getD 0 = 0) := Lib.hid (coF_z2 (Or.inr hs1))
  go_wp2_with fail
  go_ret
  exact ⟨by rw [HZ.out]; rfl, K.out.gr⟩
 by_cases hu0 : u < 1
 case pos =>
  have HZ : Hid ((coF r s n L (k : Int) set u).getD 0 = 0) := Lib.hid (coF_z3 (Or.inl hu0))
  go_wp2_with fail
  go_ret
  exact ⟨by rw [HZ.out]; rfl, K.out.gr⟩
 by_cases hu1 : 99 < u
 case pos =>
  have HZ : Hid ((coF r s n L (k : Int) set u).getD 0 = 0) := Lib.hid (coF_z3 (Or.inr hu1))
  go_wp2_with fail
  go_ret
  exact ⟨by rw [HZ.out]; rfl, K.out.gr⟩
 obtain ⟨hn0, hn1⟩ := ck_len HCK.out
 obtain ⟨N, rfl⟩ := Int.eq_ofNat_of_zero_le hn0
 have HE : Hid ((coF r s (N : Int) L (k : Int) set u).getD 0 = btA (btP L (N : Int) set u k) N) := Lib.hid (by rw [coF_in hk HCK.out]; exact (mask_eq HCK.out rfl (by omega)).symm)
 have hN : N ≤ 64 := by omega
 obtain ⟨d0, d1, d2, d3⟩ := row4T K.out.bx
 clear hn0 hn1
 go_wp2_with fail
 refine (rbits_any r s N hN p c L k hk set u w1 K.out.rd hm).mono ?_
 rintro e w2 ⟨rfl, hg⟩
 have G := Lib.hid (grown_trans K.out.gr hg)
 clear hg d0 d1 d2 d3
 go_wp2_with fail
 go_ret
 exact ⟨by rw [HE.out]; rfl, G.out⟩
set_option maxHeartbeats 1600000 in
theorem rlocal_any (r s n : Int) (p : Option Addr) (c : Nat) (L : List Rw) (set : Int) (w : World) (hR : RdW w (· < w.heap.size) p c L) (hm : L.length ≤ 9223372036854775807) :
  Calls Tryz.prog 23 #[.agg #[.int .i64 r, .int .i64 s, .int .i64 n, .slice p L.length c], .int .i64 set] w fun e w' => e = .returned (.int .u64 (((coF r s n L 0 set r).getD 0 : Nat) : Int)) ∧ w.grownBy w' none := by
 have H0 := Lib.hid (bx_start (r := r) (s := s) (n := n) hR)
 clear hR
 go_enter Tryz.func23, Tryz.ntmps23
 go_upto_region 1 with fail
 generalize w.alloc _ = wa at *
 obtain ⟨d0, d1, d2, d3⟩ := row4T H0.out.bx
 go_wp2_with fail
 refine (rmask_any r s n p c L 0 set r wa H0.out.rd hm).mono ?_
 rintro e w1 ⟨rfl, hg⟩
 have G := Lib.hid (grown_trans H0.out.gr hg)
 clear hg H0 d0 d1 d2 d3
 go_wp2_with fail
 go_ret
 exact ⟨rfl, G.out⟩
end Go.Proofs.YtpogblengagpaaaGreatDoor

/- tables: Row; masks: Next. -/
namespace Go.Proofs.YtpogblengagpaaaGreatDoor
set_option maxRecDepth 100000
open Go.RowKit Go.Maps Bs
end Go.Proofs.YtpogblengagpaaaGreatDoor

/- tables: rows that are their owner's. -/
namespace Go.Proofs.YtpogblengagpaaaGreatDoor
set_option maxRecDepth 100000
open Go.RowKit Bs
def Rw.v (x : Rw) : Value := .slice x.p x.nx.length x.c
structure OwnT (lo : Nat) (w : World) (v : Value) (M : List Rw) : Prop where
 own : w.ownsRow lo 80 2 v M.length (M.flatMap rwC)
 nx : ∀ x ∈ M, w.ownsRow lo 3 1 x.v x.nx.length (x.nx.map tv)
 ap : ∀ x ∈ M, ∀ g, x.v.ownBlock = some g → v.ownBlock ≠ some g
 pw : M.Pairwise fun x y => ∀ g, x.v.ownBlock = some g → y.v.ownBlock ≠ some g
theorem own_keptN {w w1 : World} {base size n : Nat} {e : TypeId} {v : Value} {xs : List Value} (h : w.ownsRow base e size v n xs) (g : w.grownBy w1 none) : w1.ownsRow base e size v n xs := h.kept g (by cases v.ownBlock <;> simp)
theorem own_keptV {w w1 : World} {base size n : Nat} {e : TypeId} {v : Value} {u : Value} {xs : List Value} (h : w.ownsRow base e size v n xs) (g : w.grownBy w1 u.ownBlock) (hne : ∀ b, v.ownBlock = some b → u.ownBlock ≠ some b) : w1.ownsRow base e size v n xs := by
 refine h.kept g ?_
 cases hv : v.ownBlock with
 | none => exact .inl rfl
 | some b => exact .inr (fun e => hne b hv e.symm)
theorem own_otherL {w w' : World} {base size n b : Nat} {e : TypeId} {v : Value} {xs : List Value} (h : w.ownsRow base e size v n xs) (g : w.grownBy w' (some b)) (hb : b < base) : w'.ownsRow base e size v n xs := by
 refine h.kept g ?_
 cases hv : v.ownBlock with
 | none => exact .inl rfl
 | some k => exact .inr (fun e => by have := (h.lt k hv).1; have := Option.some.inj e; omega)
theorem OwnT.nil (lo : Nat) (w : World) : OwnT lo w (.slice none 0 0) [] := ⟨World.ownsRow_nil _ _ _ _, fun x hx => (by cases hx), fun x hx => (by cases hx), List.Pairwise.nil⟩
theorem OwnT.keep {lo : Nat} {w w1 : World} {v : Value} {M : List Rw} (h : OwnT lo w v M) (g : w.grownBy w1 none) : OwnT lo w1 v M := ⟨own_keptN h.own g, fun x hx => own_keptN (h.nx x hx) g, h.ap, h.pw⟩
theorem OwnT.mono {lo lo2 : Nat} {w : World} {v : Value} {M : List Rw} (h : OwnT lo w v M) (hl : lo2 ≤ lo) : OwnT lo2 w v M := ⟨h.own.mono hl, fun x hx => (h.nx x hx).mono hl, h.ap, h.pw⟩
theorem OwnT.over {lo r : Nat} {w w1 : World} {v : Value} {M : List Rw} (h : OwnT lo w v M) (g : w.grownBy w1 (some r)) (hr : r < lo) : OwnT lo w1 v M :=
 ⟨own_otherL h.own g hr, fun x hx => own_otherL (h.nx x hx) g hr, h.ap, h.pw⟩
theorem OwnT.push {lo : Nat} {w0 w w1 : World} {v v' : Value} {M : List Rw} {x : Rw} (h : OwnT lo w0 v M) (hlo : lo ≤ w0.heap.size) (g0 : w0.grownBy w none) (hx : w.ownsRow w0.heap.size 3 1 x.v x.nx.length (x.nx.map tv)) (hown : w1.ownsRow lo 80 2 v' (M ++ [x]).length ((M ++ [x]).flatMap rwC)) (g : w.grownBy w1 v.ownBlock) (hv : v'.ownBlock = v.ownBlock ∨ ∀ b, some b = v'.ownBlock → w.heap.size ≤ b) : OwnT lo w1 v' (M ++ [x]) := by
 have hvl : ∀ b, v.ownBlock = some b → b < w0.heap.size := fun b e => (h.own.lt b e).2
 have hyl : ∀ y ∈ M, ∀ b, y.v.ownBlock = some b → b < w0.heap.size := fun y hy b e => ((h.nx y hy).lt b e).2
 have hxl : ∀ b, x.v.ownBlock = some b → w0.heap.size ≤ b ∧ b < w.heap.size := fun b e => hx.lt b e
 have hv' : ∀ b, v'.ownBlock = some b → (v.ownBlock = some b ∨ w.heap.size ≤ b) := fun b e => by
  rcases hv with hv | hv
  ·exact Or.inl (hv ▸ e)
  ·exact Or.inr (hv b e.symm)
 refine ⟨hown, fun y hy => ?_, fun y hy b hb e => ?_, ?_⟩
 ·rcases List.mem_append.1 hy with hy | hy
  ·exact own_keptV (own_keptN (h.nx y hy) g0) g (h.ap y hy)
  ·rw [List.mem_singleton.1 hy]
   exact (own_keptV hx g (fun b hb e => by have := hxl b hb; have := hvl b e; omega)).mono hlo
 ·have h0 := g0.size
  rcases List.mem_append.1 hy with hy | hy
  ·rcases hv' b e with e | e
   ·exact h.ap y hy b hb e
   ·have := hyl y hy b hb; omega
  ·rw [List.mem_singleton.1 hy] at hb
   have := hxl b hb
   rcases hv' b e with e | e
   ·have := hvl b e; omega
   ·omega
 ·refine List.pairwise_append.2 ⟨h.pw, List.pairwise_singleton _ _, fun y hy z hz b hb e => ?_⟩
  rw [List.mem_singleton.1 hz] at e
  have := hyl y hy b hb
  have := hxl b e
  omega
theorem RdW.old {w : World} {q : Nat → Prop} {p : Option Addr} {c : Nat} {L : List Rw} (h : RdW w q p c L) : RdW w (· < w.heap.size) p c L := ⟨h.rd.old, fun x hx => ⟨(h.ok x hx).rd.old, (h.ok x hx).hc⟩⟩
end Go.Proofs.YtpogblengagpaaaGreatDoor

/- tables: bitcastmake.copied. -/
namespace Go.Proofs.YtpogblengagpaaaGreatDoor
set_option maxRecDepth 100000
open Go.RowKit Bs
end Go.Proofs.YtpogblengagpaaaGreatDoor

/- Parts of the proof, packed: TaRck. -/
import Derived.Test.YtahafijpcmphaaaGreatQc16
/- tables, the reference's functions: Check. -/
namespace Go.Proofs.YtahafijpcmphaaaGreat
set_option maxRecDepth 100000
open Go.RowKit Go.Maps Bs
theorem ck_hd {r s n : Int} {L : List Rw} (h : hdT r s n L = true) : ckT r s n L = 2 := by unfold ckT; rw [if_pos h]
theorem ck_wr {r s n : Int} {L : List Rw} (h : hdT r s n L = false) (h1 : L.any wrW = true) : ckT r s n L = 2 := by unfold ckT; rw [if_neg (by rw [h]; simp), if_pos h1]
theorem ck_l1 {r s n : Int} {L : List Rw} (h : hdT r s n L = false) (h1 : L.any wrW = false) (h2 : 256 < L.length) : ckT r s n L = 3 := by
 unfold ckT; rw [if_neg (by rw [h]; simp), if_neg (by rw [h1]; simp), if_pos h2]
theorem ck_lg {r s n : Int} {L : List Rw} (h : hdT r s n L = false) (h1 : L.any wrW = false) (h2 : ¬ 256 < L.length) (h3 : L.any lgW = true) : ckT r s n L = 3 := by
 unfold ckT; rw [if_neg (by rw [h]; simp), if_neg (by rw [h1]; simp), if_neg h2, if_pos h3]
theorem ck_or {r s n : Int} {L : List Rw} (h : hdT r s n L = false) (h1 : L.any wrW = false) (h2 : ¬ 256 < L.length) (h3 : L.any lgW = false) (h4 : ascB ltW L = false ∨ L.any dsW = true) : ckT r s n L = 25 := by
 unfold ckT; rw [if_neg (by rw [h]; simp), if_neg (by rw [h1]; simp), if_neg h2, if_neg (by rw [h3]; simp)]
 by_cases h5 : ascB ltW L = false
 ·rw [if_pos h5]
 ·rw [if_neg h5, if_pos (h4.resolve_left h5)]
theorem ck_cf {r s n : Int} {L : List Rw} (h : hdT r s n L = false) (h1 : L.any wrW = false) (h2 : ¬ 256 < L.length) (h3 : L.any lgW = false) (h4 : ascB ltW L = true) (h5 : L.any dsW = false) (h6 : L.any (cfW r) = true) : ckT r s n L = 8 := by
 unfold ckT; rw [if_neg (by rw [h]; simp), if_neg (by rw [h1]; simp), if_neg h2, if_neg (by rw [h3]; simp), if_neg (by rw [h4]; simp), if_neg (by rw [h5]; simp), if_pos h6]
theorem ck_z {r s n : Int} {L : List Rw} (h : hdT r s n L = false) (h1 : L.any wrW = false) (h2 : ¬ 256 < L.length) (h3 : L.any lgW = false) (h4 : ascB ltW L = true) (h5 : L.any dsW = false) (h6 : L.any (cfW r) = false) : ckT r s n L = 0 := by
 unfold ckT; rw [if_neg (by rw [h]; simp), if_neg (by rw [h1]; simp), if_neg h2, if_neg (by rw [h3]; simp), if_neg (by rw [h4]; simp), if_neg (by rw [h5]; simp), if_neg (by rw [h6]; simp)]
def AscK {α : Type} (f : α → α → Bool) (l : List α) (k : Nat) : Prop := ∀ i x y, i + 1 < k → l[i]? = some x → l[i + 1]? = some y → f x y = true
theorem ascK_end {α : Type} {f : α → α → Bool} {l : List α} (h : AscK f l l.length) : ascB f l = true :=
 (ascB_iff f l).2 fun i x y hx hy => h i x y (by
  by_cases hz : i + 1 < l.length
  ·exact hz
  ·rw [List.getElem?_eq_none (by omega)] at hy; cases hy) hx hy
theorem ascK_next {α : Type} {f : α → α → Bool} {l : List α} {k : Nat} (h : AscK f l (k + 1)) {x y : α} (hx : l[k]? = some x) (hy : l[k + 1]? = some y) (hf : f x y = true) : AscK f l (k + 2) := by
 intro i a b hi ha hb
 by_cases e : i = k
 ·subst e
  rw [hx] at ha; rw [hy] at hb
  cases ha; cases hb
  exact hf
 ·exact h i a b (by omega) ha hb
theorem asc_miss {α : Type} {f : α → α → Bool} {l : List α} {k : Nat} {x y : α} (hx : l[k]? = some x) (hy : l[k + 1]? = some y) (hf : f x y = false) : ascB f l = false := by
 cases h : ascB f l with
 | false => rfl
 | true => have := (ascB_iff f l).1 h k x y hx hy; rw [hf] at this; cases this
set_option maxHeartbeats 12800000 in
theorem rck11_any (r s n : Int) (p : Option Addr) (c : Nat) (L : List Rw) (w : World) (hR : RdW w (· < w.heap.size) p c L) (hm : L.length ≤ 9223372036854775807) :
  Calls Tryz.prog 14 #[.agg #[.int .i64 r, .int .i64 s, .int .i64 n, .slice p L.length c]] w fun e w' => e = .returned (.int .i64 (ckT r s n L)) ∧ w.grownBy w' none := by
 have H0 := Lib.hid (bx_start (r := r) (s := s) (n := n) hR)
 clear hR
 go_enter Tryz.func14, Tryz.ntmps14
 go_upto_region 1 with fail
 generalize w.alloc _ = wa at *
 generalize (Value.agg #[Value.int .i64 r, Value.int .i64 s, Value.int .i64 n, Value.slice p L.length c]) = vz
 obtain ⟨d0, d1, d2, d3⟩ := row4T H0.out.bx
 have HH : Hid (hdT r s n L = !(inV r 1 99 && inV s 0 7 && (vl n || (decide (n = 0) && decide (L.length = 0))))) := Lib.hid rfl
 obtain ⟨b1, hb1⟩ : ∃ b, inV r 1 99 = b := ⟨_, rfl⟩
 obtain ⟨b2, hb2⟩ : ∃ b, inV s 0 7 = b := ⟨_, rfl⟩
 obtain ⟨b3, hb3⟩ : ∃ b, vl n = b := ⟨_, rfl⟩
 rw [hb1, hb2, hb3] at HH
 have HB := Lib.hid (And.intro hb1 (And.intro hb2 hb3))
 clear hb1 hb2 hb3
 go_cut [36] from 10 to 35 (fun v wx => v = .bool (hdT r s n L) ∧ wa = wx)
 case first =>
  go_wp2_with fail
  refine (rin11_any r 1 99 wa).mono ?_
  rintro e w' ⟨rfl, rfl⟩
  rw [HB.out.1]
  cases b1
  case false =>
   go_wp2_with fail
   go_meet
   exact ⟨by rw [HH.out]; rfl, rfl⟩
  go_wp2_with fail
  refine (rin11_any s 0 7 wa).mono ?_
  rintro e w' ⟨rfl, rfl⟩
  rw [HB.out.2.1]
  cases b2
  case false =>
   go_wp2_with fail
   go_meet
   exact ⟨by rw [HH.out]; rfl, rfl⟩
  go_wp2_with fail
  refine (vlr10_lit n b3 HB.out.2.2 wa).mono ?_
  rintro e w' ⟨rfl, rfl⟩
  cases b3
  case true =>
   go_wp2_with fail
   go_meet
   exact ⟨by rw [HH.out]; rfl, rfl⟩
  by_cases n0 : n = 0
  case neg =>
   have n0' : (n != 0) = true := by simpa using n0
   have HE : Hid (hdT r s n L = true) := Lib.hid (by rw [HH.out]; simp [n0])
   clear n0
   go_wp2_with fail
   go_meet
   exact ⟨by rw [HE.out]; first | done | rfl | (simp; done) | (simp; omega), rfl⟩
  have n0' : (n != 0) = false := by simpa using n0
  by_cases l0 : 0 < L.length
  ·have l0' : (0 : Int) < (L.length : Int) := by omega
   have HE : Hid (hdT r s n L = true) := Lib.hid (by rw [HH.out]; simp [show ¬ L.length = 0 by omega])
   clear n0
   go_wp2_with fail
   go_meet
   exact ⟨by rw [HE.out]; first | done | rfl | (simp; done) | (simp; omega), rfl⟩
  ·have l0' : ¬ (0 : Int) < (L.length : Int) := by omega
   have HE : Hid (hdT r s n L = false) := Lib.hid (by rw [HH.out]; simp [n0, show L.length = 0 by omega])
   clear n0
   go_wp2_with fail
   go_meet
   exact ⟨by rw [HE.out]; first | done | rfl | (simp; done) | (simp; omega), rfl⟩
 case rest =>
 obtain ⟨rfl, rfl⟩ := hcut
 clear HB HH
 cases hhd : hdT r s n L
 case true =>
  go_wp2_with fail
  go_ret
  exact ⟨by rw [ck_hd hhd]; rfl, H0.out.gr⟩
 have HD := Lib.hid hhd
 clear hhd d0 d1 d2 d3
 go_wp2_with fail
 go_loopw [3] (fun a wr => ∃ k : Nat, k ≤ L.length ∧ a = .int .i64 (k : Int) ∧ Hid ((L.take k).any wrW = false) ∧ Hid (BX w r s n p c L wr)) (fun a _ => L.length - (RowKit.intOf a).toNat)
 case atStart => exact ⟨0, Nat.zero_le _, rfl, Lib.hid (by simp), H0⟩
 case round =>
 obtain ⟨k, hk, rfl, HN, K⟩ := hrel
 clear H0
 obtain ⟨w2, hw2⟩ : ∃ w2, w2 = wr := ⟨_, rfl⟩
 rw [← hw2] at K ⊢
 clear hw2
 obtain ⟨d0, d1, d2, d3⟩ := row4T K.out.bx
 by_cases hlt : k < L.length
 case pos =>
  have hlt' : (k : Int) < (L.length : Int) := by omega
  obtain ⟨x, hx⟩ : ∃ x, L[k]? = some x := ⟨_, List.getElem?_eq_getElem hlt⟩
  obtain ⟨-, b, off, rfl, -, hc⟩ := rw_cells K.out.rd.rd (by omega)
  obtain ⟨a0, a1⟩ := hc k x hx
  have HX := Lib.hid (And.intro hx (K.out.rd.ok x (List.mem_of_getElem? hx)))
  have hmx : x.nx.length ≤ 9223372036854775807 := Nat.le_trans HX.out.2.hc.1 HX.out.2.hc.2
  have HLX := Lib.hid hx
  clear hc hx
  have HWX : Hid (wrW x = (!inV x.id 1 256 || x.nx.any fun z => !inV z 1 99)) := Lib.hid rfl
  go_wp2_with fail
  refine (rin11_any x.id 1 256 w2).mono ?_
  rintro e w' ⟨rfl, rfl⟩
  cases hid : inV x.id 1 256
  case false =>
   rw [hid] at HWX
   go_wp2_with fail
   go_ret
   exact ⟨by rw [ck_wr HD.out (any_at HX.out.1 (by rw [HWX.out]; rfl))]; rfl, K.out.gr⟩
  rw [hid] at HWX
  clear hid
  go_wp2_with fail
  clear a0 a1 d0 d1 d2 d3
  go_loopw [4] (fun a wr => ∃ j : Nat, j ≤ x.nx.length ∧ a = .int .i64 (j : Int) ∧ Hid ((x.nx.take j).any (fun z => !inV z 1 99) = false) ∧ Hid (BX w r s n (some ⟨b, off, none⟩) c L wr)) (fun a _ => x.nx.length - (RowKit.intOf a).toNat)
  case atStart => exact ⟨0, Nat.zero_le _, rfl, Lib.hid (by simp), K⟩
  case round =>
  clear K HX
  obtain ⟨j, hj, rfl, HJ, K⟩ := hrel
  obtain ⟨w7, hw7⟩ : ∃ w7, w7 = wr := ⟨_, rfl⟩
  rw [← hw7] at K ⊢
  clear hw7
  obtain ⟨d0, d1, d2, d3⟩ := row4T K.out.bx
  obtain ⟨-, b', off', hpe, -, hc⟩ := rw_cells K.out.rd.rd (by omega)
  injection hpe with hpe
  injection hpe with e1 e2
  subst e1
  subst e2
  have hx : L[k]? = some x := HLX.out
  obtain ⟨a0, a1⟩ := hc k x hx
  have HX := Lib.hid (And.intro hx (K.out.rd.ok x (List.mem_of_getElem? hx)))
  clear hc hx
  by_cases hjl : j < x.nx.length
  case neg =>
   obtain rfl : j = x.nx.length := by omega
   have hnj : ¬ (x.nx.length : Int) < (x.nx.length : Int) := by omega
   have HN2 : Hid ((L.take (k + 1)).any wrW = false) := Lib.hid (any_take HN.out HX.out.1 (by rw [HWX.out, any_end HJ.out (Nat.le_refl _)]; rfl))
   go_wp2_with fail
   exact ⟨⟨k + 1, by omega, congrArg _ (by omega), HN2, K⟩, by simp only [RowKit.intOf]; omega⟩
  have hjl' : (j : Int) < (x.nx.length : Int) := by omega
  obtain ⟨z, hz⟩ : ∃ z, x.nx[j]? = some z := ⟨_, List.getElem?_eq_getElem hjl⟩
  obtain ⟨-, bz, oz, hpz, -, hcz⟩ := tvT_at HX.out.2.rd hz
  have f0 := hcz j z hz
  rw [hpz] at a1
  have HZ := Lib.hid hz
  clear hcz hz
  go_wp2_with fail
  refine (rin11_any z 1 99 w7).mono ?_
  rintro e w' ⟨rfl, rfl⟩
  cases hid : inV z 1 99
  case false =>
   have HE := Lib.hid hid
   clear hid
   go_wp2_with fail
   go_ret
   exact ⟨by rw [ck_wr HD.out (any_at HX.out.1 (by rw [HWX.out, any_at HZ.out (by rw [HE.out]; rfl)]; rfl))]; rfl, K.out.gr⟩
  have HJ2 : Hid ((x.nx.take (j + 1)).any (fun z => !inV z 1 99) = false) := Lib.hid (any_take HJ.out HZ.out (by rw [hid]; rfl))
  clear hid
  go_wp2_with fail
  exact ⟨⟨j + 1, by omega, congrArg _ (by omega), HJ2, K⟩, by simp only [RowKit.intOf]; omega⟩
 obtain rfl : k = L.length := by omega
 have hnl : ¬ (L.length : Int) < (L.length : Int) := by omega
 have HW := Lib.hid (any_end HN.out (Nat.le_refl _))
 clear HN hlt hk
 by_cases h256 : 256 < L.length
 case pos =>
  have h256' : (256 : Int) < (L.length : Int) := by omega
  go_wp2_with fail
  go_ret
  exact ⟨by rw [ck_l1 HD.out HW.out h256]; rfl, K.out.gr⟩
 have h256' : ¬ (256 : Int) < (L.length : Int) := by omega
 go_wp2_with fail
 clear hnl d0 d1 d2 d3
 go_loopw [5] (fun a wr => ∃ k : Nat, k ≤ L.length ∧ a = .int .i64 (k : Int) ∧ Hid ((L.take k).any lgW = false) ∧ Hid (BX w r s n p c L wr)) (fun a _ => L.length - (RowKit.intOf a).toNat)
 case atStart => exact ⟨0, Nat.zero_le _, rfl, Lib.hid (by simp), K⟩
 case round =>
 clear K
 obtain ⟨k, hk, rfl, HN, K⟩ := hrel
 obtain ⟨w3, hw3⟩ : ∃ w3, w3 = wr := ⟨_, rfl⟩
 rw [← hw3] at K ⊢
 clear hw3
 obtain ⟨d0, d1, d2, d3⟩ := row4T K.out.bx
 by_cases hlt : k < L.length
 case pos =>
  have hlt' : (k : Int) < (L.length : Int) := by omega
  obtain ⟨x, hx⟩ : ∃ x, L[k]? = some x := ⟨_, List.getElem?_eq_getElem hlt⟩
  obtain ⟨-, b, off, rfl, -, hc⟩ := rw_cells K.out.rd.rd (by omega)
  obtain ⟨a0, a1⟩ := hc k x hx
  have HX := Lib.hid (And.intro hx (K.out.rd.ok x (List.mem_of_getElem? hx)))
  have hmx : x.nx.length ≤ 9223372036854775807 := Nat.le_trans HX.out.2.hc.1 HX.out.2.hc.2
  clear hc hx
  by_cases hl24 : 24 < x.nx.length
  case pos =>
   have hl24' : (24 : Int) < (x.nx.length : Int) := by omega
   have HE : Hid (lgW x = true) := Lib.hid (by unfold lgW; simp [hl24])
   go_wp2_with fail
   go_ret
   exact ⟨by rw [ck_lg HD.out HW.out h256 (any_at HX.out.1 HE.out)]; rfl, K.out.gr⟩
  have hl24' : ¬ (24 : Int) < (x.nx.length : Int) := by omega
  have HN2 : Hid ((L.take (k + 1)).any lgW = false) := Lib.hid (any_take HN.out HX.out.1 (by unfold lgW; simp; omega))
  go_wp2_with fail
  exact ⟨⟨k + 1, by omega, congrArg _ (by omega), HN2, K⟩, by simp only [RowKit.intOf]; omega⟩
 obtain rfl : k = L.length := by omega
 have hnl : ¬ (L.length : Int) < (L.length : Int) := by omega
 have HG := Lib.hid (any_end HN.out (Nat.le_refl _))
 clear HN hlt hk
 go_wp2_with fail
 clear hnl d0 d1 d2 d3
 go_loopw [6] (fun a wr => ∃ k : Nat, k ≤ L.length ∧ a = .int .i64 (k : Int) ∧ Hid (AscK ltW L k) ∧ Hid ((L.take k).any dsW = false) ∧ Hid (BX w r s n p c L wr)) (fun a _ => L.length - (RowKit.intOf a).toNat)
 case atStart => exact ⟨0, Nat.zero_le _, rfl, Lib.hid (fun i x y hi => by omega), Lib.hid (by simp), K⟩
 case round =>
 clear K
 obtain ⟨k, hk, rfl, HA, HN, K⟩ := hrel
 obtain ⟨w4, hw4⟩ : ∃ w4, w4 = wr := ⟨_, rfl⟩
 rw [← hw4] at K ⊢
 clear hw4
 obtain ⟨d0, d1, d2, d3⟩ := row4T K.out.bx
 by_cases hlt : k < L.length
 case pos =>
  have hlt' : (k : Int) < (L.length : Int) := by omega
  obtain ⟨x, hx⟩ : ∃ x, L[k]? = some x := ⟨_, List.getElem?_eq_getElem hlt⟩
  obtain ⟨-, b, off, rfl, -, hc⟩ := rw_cells K.out.rd.rd (by omega)
  obtain ⟨a0, a1⟩ := hc k x hx
  have HX := Lib.hid (And.intro hx (K.out.rd.ok x (List.mem_of_getElem? hx)))
  have hmx : x.nx.length ≤ 9223372036854775807 := Nat.le_trans HX.out.2.hc.1 HX.out.2.hc.2
  have HLX := Lib.hid hx
  have HHC := Lib.hid hc
  clear hc hx
  go_upto_region 24 with fail
  cases k with
  | zero =>
   have HA2 : Hid (AscK ltW L (0 + 1)) := Lib.hid (fun i a b hi => by omega)
   refine wp_region_held_drew (S := fun w' => Hid (w4.grownBy w' none)) (by kernel_rfl) (Lib.hid (grown_drew (grown_refl _ none))) (fun hHeld => ?_)
   refine wpAnyH_take (i := 0) (oi := { dst := some 106, op := Op.move (Operand.tmp 6), type := 3, pos := _, after := _, guard := none }) (v := ?_) rfl (by kernel_rfl) (by kernel_rfl) (by kernel_rfl) (fun _ _ _ h => h) (Or.inl ⟨by rfl, ?_⟩) hHeld ?_
   rotate_left 1
   ·intro u hSu
    go_simp
    first | done | with_reducible rfl
   (try simp only [Act.put, zA, zB, zC])
   refine wpAnyH_take (i := 1) (oi := { dst := some 107, op := Op.binOp BinOp.gtr 3 (Operand.tmp 106) (Operand.const (Value.int IntKind.i64 0)) 3, type := 4, pos := _, after := _, guard := none }) (v := ?_) rfl (by kernel_rfl) (by kernel_rfl) (by kernel_rfl) (fun _ _ _ h => h) (Or.inl ⟨by rfl, ?_⟩) hHeld ?_
   rotate_left 1
   ·intro u hSu
    go_simp
    first | done | with_reducible rfl
   (try simp only [Act.put, zA, zB, zC])
   refine wpAnyH_take (i := 2) (oi := { dst := some 108, op := Op.move (Operand.tmp 107), type := 4, pos := _, after := _, guard := none }) (v := ?_) rfl (by kernel_rfl) (by kernel_rfl) (by kernel_rfl) (fun _ _ _ h => h) (Or.inl ⟨by rfl, ?_⟩) hHeld ?_
   rotate_left 1
   ·intro u hSu
    go_simp
    first | done | with_reducible rfl
   (try simp only [Act.put, zA, zB, zC])
   refine wpAnyH_take (i := 3) (oi := { dst := some 109, op := Op.fieldAddr 25 (Operand.tmp 1) 3, type := 0, pos := _, after := _, guard := some (2, true) }) (v := undef) rfl (by kernel_rfl) (by kernel_rfl) (by kernel_rfl) (fun _ _ _ h => h) (Or.inr ⟨by rfl, rfl⟩) hHeld ?_
   (try simp only [Act.put, zA, zB, zC])
   refine wpAnyH_take (i := 4) (oi := { dst := some 110, op := Op.load 23 (Operand.tmp 109), type := 23, pos := _, after := _, guard := some (2, true) }) (v := undef) rfl (by kernel_rfl) (by kernel_rfl) (by kernel_rfl) (fun _ _ _ h => h) (Or.inr ⟨by rfl, rfl⟩) hHeld ?_
   (try simp only [Act.put, zA, zB, zC])
   refine wpAnyH_take (i := 5) (oi := { dst := some 111, op := Op.move (Operand.tmp 6), type := 3, pos := _, after := _, guard := some (2, true) }) (v := undef) rfl (by kernel_rfl) (by kernel_rfl) (by kernel_rfl) (fun _ _ _ h => h) (Or.inr ⟨by rfl, rfl⟩) hHeld ?_
   (try simp only [Act.put, zA, zB, zC])
   refine wpAnyH_take (i := 6) (oi := { dst := some 112, op := Op.binOp BinOp.sub 3 (Operand.tmp 111) (Operand.const (Value.int IntKind.i64 1)) 3, type := 3, pos := _, after := _, guard := some (2, true) }) (v := undef) rfl (by kernel_rfl) (by kernel_rfl) (by kernel_rfl) (fun _ _ _ h => h) (Or.inr ⟨by rfl, rfl⟩) hHeld ?_
   (try simp only [Act.put, zA, zB, zC])
   refine wpAnyH_take (i := 7) (oi := { dst := some 113, op := Op.indexAddr 23 (Operand.tmp 110) (Operand.tmp 112), type := 0, pos := _, after := _, guard := some (2, true) }) (v := undef) rfl (by kernel_rfl) (by kernel_rfl) (by kernel_rfl) (fun _ _ _ h => h) (Or.inr ⟨by rfl, rfl⟩) hHeld ?_
   (try simp only [Act.put, zA, zB, zC])
   refine wpAnyH_take (i := 8) (oi := { dst := some 114, op := Op.fieldAddr 36 (Operand.tmp 113) 0, type := 0, pos := _, after := _, guard := some (2, true) }) (v := undef) rfl (by kernel_rfl) (by kernel_rfl) (by kernel_rfl) (fun _ _ _ h => h) (Or.inr ⟨by rfl, rfl⟩) hHeld ?_
   (try simp only [Act.put, zA, zB, zC])
   refine wpAnyH_take (i := 9) (oi := { dst := some 115, op := Op.load 3 (Operand.tmp 114), type := 3, pos := _, after := _, guard := some (2, true) }) (v := undef) rfl (by kernel_rfl) (by kernel_rfl) (by kernel_rfl) (fun _ _ _ h => h) (Or.inr ⟨by rfl, rfl⟩) hHeld ?_
   (try simp only [Act.put, zA, zB, zC])
   refine wpAnyH_take (i := 10) (oi := { dst := some 116, op := Op.fieldAddr 25 (Operand.tmp 1) 3, type := 0, pos := _, after := _, guard := some (2, true) }) (v := undef) rfl (by kernel_rfl) (by kernel_rfl) (by kernel_rfl) (fun _ _ _ h => h) (Or.inr ⟨by rfl, rfl⟩) hHeld ?_
   (try simp only [Act.put, zA, zB, zC])
   refine wpAnyH_take (i := 11) (oi := { dst := some 117, op := Op.load 23 (Operand.tmp 116), type := 23, pos := _, after := _, guard := some (2, true) }) (v := undef) rfl (by kernel_rfl) (by kernel_rfl) (by kernel_rfl) (fun _ _ _ h => h) (Or.inr ⟨by rfl, rfl⟩) hHeld ?_
   (try simp only [Act.put, zA, zB, zC])
   refine wpAnyH_take (i := 12) (oi := { dst := some 118, op := Op.move (Operand.tmp 6), type := 3, pos := _, after := _, guard := some (2, true) }) (v := undef) rfl (by kernel_rfl) (by kernel_rfl) (by kernel_rfl) (fun _ _ _ h => h) (Or.inr ⟨by rfl, rfl⟩) hHeld ?_
   (try simp only [Act.put, zA, zB, zC])
   refine wpAnyH_take (i := 13) (oi := { dst := some 119, op := Op.indexAddr 23 (Operand.tmp 117) (Operand.tmp 118), type := 0, pos := _, after := _, guard := some (2, true) }) (v := undef) rfl (by kernel_rfl) (by kernel_rfl) (by kernel_rfl) (fun _ _ _ h => h) (Or.inr ⟨by rfl, rfl⟩) hHeld ?_
   (try simp only [Act.put, zA, zB, zC])
   refine wpAnyH_take (i := 14) (oi := { dst := some 120, op := Op.fieldAddr 36 (Operand.tmp 119) 0, type := 0, pos := _, after := _, guard := some (2, true) }) (v := undef) rfl (by kernel_rfl) (by kernel_rfl) (by kernel_rfl) (fun _ _ _ h => h) (Or.inr ⟨by rfl, rfl⟩) hHeld ?_
   (try simp only [Act.put, zA, zB, zC])
   refine wpAnyH_take (i := 15) (oi := { dst := some 121, op := Op.load 3 (Operand.tmp 120), type := 3, pos := _, after := _, guard := some (2, true) }) (v := undef) rfl (by kernel_rfl) (by kernel_rfl) (by kernel_rfl) (fun _ _ _ h => h) (Or.inr ⟨by rfl, rfl⟩) hHeld ?_
   (try simp only [Act.put, zA, zB, zC])
   refine wpAnyH_take (i := 16) (oi := { dst := some 122, op := Op.binOp BinOp.geq 3 (Operand.tmp 115) (Operand.tmp 121) 3, type := 4, pos := _, after := _, guard := some (2, true) }) (v := undef) rfl (by kernel_rfl) (by kernel_rfl) (by kernel_rfl) (fun _ _ _ h => h) (Or.inr ⟨by rfl, rfl⟩) hHeld ?_
   (try simp only [Act.put, zA, zB, zC])
   refine wpAnyH_take (i := 17) (oi := { dst := some 123, op := Op.pick (Operand.tmp 108) (Operand.tmp 122) (Operand.const (Value.bool false)), type := 4, pos := _, after := _, guard := none }) (v := ?_) rfl (by kernel_rfl) (by kernel_rfl) (by kernel_rfl) (fun _ _ _ h => h) (Or.inl ⟨by rfl, ?_⟩) hHeld ?_
   rotate_left 1
   ·intro u hSu
    go_simp
    first | done | with_reducible rfl
   (try simp only [Act.put, zA, zB, zC])
   refine wpAnyH_done (by kernel_rfl) ?_ _
   have HK2 := Lib.hid (K.out.keep hHeld.out)
   clear hHeld K a0 a1 d0 d1 d2 d3
   generalize w4.drew = w6 at *
   go_wp2_with fail
   go_loopw [8] (fun a wr => ∃ j : Nat, 1 ≤ j ∧ (j ≤ x.nx.length ∨ j = 1) ∧ a = .int .i64 (j : Int) ∧ Hid (AscK ltI x.nx j) ∧ Hid (BX w r s n (some ⟨b, off, none⟩) c L wr)) (fun a _ => x.nx.length + 1 - (RowKit.intOf a).toNat)
   case atStart => exact ⟨1, Nat.le_refl _, Or.inr rfl, rfl, Lib.hid (fun i x y hi => by omega), HK2⟩
   case round =>
   clear HK2 HX
   obtain ⟨j, hj1, hj, rfl, HJ, K⟩ := hrel
   obtain ⟨w7, hw7⟩ : ∃ w7, w7 = wr := ⟨_, rfl⟩
   rw [← hw7] at K ⊢
   clear hw7
   have HX := Lib.hid (And.intro HLX.out (K.out.rd.ok x (List.mem_of_getElem? HLX.out)))
   by_cases hjl : j < x.nx.length
   case neg =>
    have hnj : ¬ (j : Int) < (x.nx.length : Int) := by omega
    have HN2 : Hid ((L.take (0 + 1)).any dsW = false) := Lib.hid (any_take HN.out HX.out.1 (by
     unfold dsW
     rw [ascK_end (f := ltI) (l := x.nx) (fun i a b hi => HJ.out i a b (by omega))]; rfl))
    go_wp2_with fail
    exact ⟨⟨0 + 1, by omega, congrArg _ (by omega), HA2, HN2, K⟩, by simp only [RowKit.intOf]; omega⟩
   obtain ⟨i, rfl⟩ : ∃ i, j = i + 1 := ⟨j - 1, by omega⟩
   have hjl' : (((i + 1 : Nat)) : Int) < (x.nx.length : Int) := by omega
   obtain ⟨y, hy⟩ : ∃ y, x.nx[i]? = some y := ⟨_, List.getElem?_eq_getElem (by omega)⟩
   obtain ⟨z, hz⟩ : ∃ z, x.nx[i + 1]? = some z := ⟨_, List.getElem?_eq_getElem hjl⟩
   obtain ⟨-, bz, oz, hpz, -, hcz⟩ := tvT_at HX.out.2.rd hz
   have f0 := hcz i y hy
   have f1 := hcz (i + 1) z hz
   rw [hpz] at *
   have HZ := Lib.hid (And.intro hy hz)
   clear hcz hz hy hpz
   have hi1 : (i : Int) < (x.nx.length : Int) := by omega
   have hi0 : (0 : Int) ≤ (i : Int) := by omega
   have hi00 : (0 : Int) ≤ ((i + 1 : Nat) : Int) := by omega
   have hi000 : (0 : Int) ≤ (i : Int) + 1 := by omega
   have hi001 : (i : Int) + 1 < (x.nx.length : Int) := by omega
   go_upto_region 29 with fail
   by_cases hyz : y < z
   case pos =>
    refine wp_region_held_drew (S := fun w' => Hid (w7.grownBy w' none)) (by kernel_rfl) (Lib.hid (grown_drew (grown_refl _ none))) (fun hHeld => ?_)
    refine wpAnyH_take (i := 0) (oi := { dst := some 130, op := Op.move (Operand.tmp 7), type := 22, pos := _, after := _, guard := none }) (v := ?_) rfl (by kernel_rfl) (by kernel_rfl) (by kernel_rfl) (fun _ _ _ h => h) (Or.inl ⟨by rfl, ?_⟩) hHeld ?_
    rotate_left 1
    ·intro u hSu
     go_simp
     first | done | with_reducible rfl
    (try simp only [Act.put, zA, zB, zC])
    refine wpAnyH_take (i := 1) (oi := { dst := some 131, op := Op.move (Operand.tmp 8), type := 3, pos := _, after := _, guard := none }) (v := ?_) rfl (by kernel_rfl) (by kernel_rfl) (by kernel_rfl) (fun _ _ _ h => h) (Or.inl ⟨by rfl, ?_⟩) hHeld ?_
    rotate_left 1
    ·intro u hSu
     go_simp
     first | done | with_reducible rfl
    (try simp only [Act.put, zA, zB, zC])
    refine wpAnyH_take (i := 2) (oi := { dst := some 132, op := Op.binOp BinOp.sub 3 (Operand.tmp 131) (Operand.const (Value.int IntKind.i64 1)) 3, type := 3, pos := _, after := _, guard := none }) (v := .int .i64 (i : Int)) rfl (by kernel_rfl) (by kernel_rfl) (by kernel_rfl) (fun _ _ _ h => h) (Or.inl ⟨by rfl, ?_⟩) hHeld ?_
    ·intro u hSu
     go_simp
     first | done | with_reducible rfl | (rw [IntKind.wrap_i64]; omega) | omega
    (try simp only [Act.put, zA, zB, zC])
    refine wpAnyH_take (i := 3) (oi := { dst := some 133, op := Op.indexAddr 22 (Operand.tmp 130) (Operand.tmp 132), type := 0, pos := _, after := _, guard := none }) (v := ?_) rfl (by kernel_rfl) (by kernel_rfl) (by kernel_rfl) (fun _ _ _ h => h) (Or.inl ⟨by rfl, ?_⟩) hHeld ?_
    rotate_left 1
    ·intro u hSu
     go_simp
     first | done | with_reducible rfl
    (try simp only [Act.put, zA, zB, zC])
    refine wpAnyH_take (i := 4) (oi := { dst := some 134, op := Op.load 3 (Operand.tmp 133), type := 3, pos := _, after := _, guard := none }) (v := ?_) rfl (by kernel_rfl) (by kernel_rfl) (by kernel_rfl) (fun _ _ _ h => h) (Or.inl ⟨by rfl, ?_⟩) hHeld ?_
    rotate_left 1
    ·intro u hSu
     have f0u := hSu.out.cell f0 (by simp)
     have f1u := hSu.out.cell f1 (by simp)
     go_simp
     first | done | with_reducible rfl
    (try simp only [Act.put, zA, zB, zC])
    refine wpAnyH_take (i := 5) (oi := { dst := some 135, op := Op.move (Operand.tmp 7), type := 22, pos := _, after := _, guard := none }) (v := ?_) rfl (by kernel_rfl) (by kernel_rfl) (by kernel_rfl) (fun _ _ _ h => h) (Or.inl ⟨by rfl, ?_⟩) hHeld ?_
    rotate_left 1
    ·intro u hSu
     go_simp
     first | done | with_reducible rfl
    (try simp only [Act.put, zA, zB, zC])
    refine wpAnyH_take (i := 6) (oi := { dst := some 136, op := Op.move (Operand.tmp 8), type := 3, pos := _, after := _, guard := none }) (v := ?_) rfl (by kernel_rfl) (by kernel_rfl) (by kernel_rfl) (fun _ _ _ h => h) (Or.inl ⟨by rfl, ?_⟩) hHeld ?_
    rotate_left 1
    ·intro u hSu
     go_simp
     first | done | with_reducible rfl
    (try simp only [Act.put, zA, zB, zC])
    refine wpAnyH_take (i := 7) (oi := { dst := some 137, op := Op.indexAddr 22 (Operand.tmp 135) (Operand.tmp 136), type := 0, pos := _, after := _, guard := none }) (v := ?_) rfl (by kernel_rfl) (by kernel_rfl) (by kernel_rfl) (fun _ _ _ h => h) (Or.inl ⟨by rfl, ?_⟩) hHeld ?_
    rotate_left 1
    ·intro u hSu
     go_simp
     first | done | with_reducible rfl
    (try simp only [Act.put, zA, zB, zC])
    refine wpAnyH_take (i := 8) (oi := { dst := some 138, op := Op.load 3 (Operand.tmp 137), type := 3, pos := _, after := _, guard := none }) (v := ?_) rfl (by kernel_rfl) (by kernel_rfl) (by kernel_rfl) (fun _ _ _ h => h) (Or.inl ⟨by rfl, ?_⟩) hHeld ?_
    rotate_left 1
    ·intro u hSu
     have f0u := hSu.out.cell f0 (by simp)
     have f1u := hSu.out.cell f1 (by simp)
     go_simp
     first | done | with_reducible rfl
    (try simp only [Act.put, zA, zB, zC])
    refine wpAnyH_take (i := 9) (oi := { dst := some 139, op := Op.binOp BinOp.geq 3 (Operand.tmp 134) (Operand.tmp 138) 3, type := 4, pos := _, after := _, guard := none }) (v := .bool false) rfl (by kernel_rfl) (by kernel_rfl) (by kernel_rfl) (fun _ _ _ h => h) (Or.inl ⟨by rfl, ?_⟩) hHeld ?_
    ·intro u hSu
     go_simp
     first | done | with_reducible rfl | (rw [IntKind.wrap_i64]; omega) | omega
    (try simp only [Act.put, zA, zB, zC])
    refine wpAnyH_done (by kernel_rfl) ?_ _
    have HK2 := Lib.hid (K.out.keep hHeld.out)
    have HJ2 : Hid (AscK ltI x.nx (i + 1 + 1)) := Lib.hid (ascK_next HJ.out HZ.out.1 HZ.out.2 (by unfold ltI; simp [hyz]))
    clear hHeld K f0 f1
    go_wp2_with fail
    exact ⟨⟨i + 1 + 1, by omega, Or.inl (by omega), congrArg _ (by omega), HJ2, HK2⟩, by simp only [RowKit.intOf]; omega⟩
   refine wp_region_held_drew (S := fun w' => Hid (w7.grownBy w' none)) (by kernel_rfl) (Lib.hid (grown_drew (grown_refl _ none))) (fun hHeld => ?_)
   refine wpAnyH_take (i := 0) (oi := { dst := some 130, op := Op.move (Operand.tmp 7), type := 22, pos := _, after := _, guard := none }) (v := ?_) rfl (by kernel_rfl) (by kernel_rfl) (by kernel_rfl) (fun _ _ _ h => h) (Or.inl ⟨by rfl, ?_⟩) hHeld ?_
   rotate_left 1
   ·intro u hSu
    go_simp
    first | done | with_reducible rfl
   (try simp only [Act.put, zA, zB, zC])
   refine wpAnyH_take (i := 1) (oi := { dst := some 131, op := Op.move (Operand.tmp 8), type := 3, pos := _, after := _, guard := none }) (v := ?_) rfl (by kernel_rfl) (by kernel_rfl) (by kernel_rfl) (fun _ _ _ h => h) (Or.inl ⟨by rfl, ?_⟩) hHeld ?_
   rotate_left 1
   ·intro u hSu
    go_simp
    first | done | with_reducible rfl
   (try simp only [Act.put, zA, zB, zC])
   refine wpAnyH_take (i := 2) (oi := { dst := some 132, op := Op.binOp BinOp.sub 3 (Operand.tmp 131) (Operand.const (Value.int IntKind.i64 1)) 3, type := 3, pos := _, after := _, guard := none }) (v := .int .i64 (i : Int)) rfl (by kernel_rfl) (by kernel_rfl) (by kernel_rfl) (fun _ _ _ h => h) (Or.inl ⟨by rfl, ?_⟩) hHeld ?_
   ·intro u hSu
    go_simp
    first | done | with_reducible rfl | (rw [IntKind.wrap_i64]; omega) | omega
   (try simp only [Act.put, zA, zB, zC])
   refine wpAnyH_take (i := 3) (oi := { dst := some 133, op := Op.indexAddr 22 (Operand.tmp 130) (Operand.tmp 132), type := 0, pos := _, after := _, guard := none }) (v := ?_) rfl (by kernel_rfl) (by kernel_rfl) (by kernel_rfl) (fun _ _ _ h => h) (Or.inl ⟨by rfl, ?_⟩) hHeld ?_
   rotate_left 1
   ·intro u hSu
    go_simp
    first | done | with_reducible rfl
   (try simp only [Act.put, zA, zB, zC])
   refine wpAnyH_take (i := 4) (oi := { dst := some 134, op := Op.load 3 (Operand.tmp 133), type := 3, pos := _, after := _, guard := none }) (v := ?_) rfl (by kernel_rfl) (by kernel_rfl) (by kernel_rfl) (fun _ _ _ h => h) (Or.inl ⟨by rfl, ?_⟩) hHeld ?_
   rotate_left 1
   ·intro u hSu
    have f0u := hSu.out.cell f0 (by simp)
    have f1u := hSu.out.cell f1 (by simp)
    go_simp
    first | done | with_reducible rfl
   (try simp only [Act.put, zA, zB, zC])
   refine wpAnyH_take (i := 5) (oi := { dst := some 135, op := Op.move (Operand.tmp 7), type := 22, pos := _, after := _, guard := none }) (v := ?_) rfl (by kernel_rfl) (by kernel_rfl) (by kernel_rfl) (fun _ _ _ h => h) (Or.inl ⟨by rfl, ?_⟩) hHeld ?_
   rotate_left 1
   ·intro u hSu
    go_simp
    first | done | with_reducible rfl
   (try simp only [Act.put, zA, zB, zC])
   refine wpAnyH_take (i := 6) (oi := { dst := some 136, op := Op.move (Operand.tmp 8), type := 3, pos := _, after := _, guard := none }) (v := ?_) rfl (by kernel_rfl) (by kernel_rfl) (by kernel_rfl) (fun _ _ _ h => h) (Or.inl ⟨by rfl, ?_⟩) hHeld ?_
   rotate_left 1
   ·intro u hSu
    go_simp
    first | done | with_reducible rfl
   (try simp only [Act.put, zA, zB, zC])
   refine wpAnyH_take (i := 7) (oi := { dst := some 137, op := Op.indexAddr 22 (Operand.tmp 135) (Operand.tmp 136), type := 0, pos := _, after := _, guard := none }) (v := ?_) rfl (by kernel_rfl) (by kernel_rfl) (by kernel_rfl) (fun _ _ _ h => h) (Or.inl ⟨by rfl, ?_⟩) hHeld ?_
   rotate_left 1
   ·intro u hSu
    go_simp
    first | done | with_reducible rfl
   (try simp only [Act.put, zA, zB, zC])
   refine wpAnyH_take (i := 8) (oi := { dst := some 138, op := Op.load 3 (Operand.tmp 137), type := 3, pos := _, after := _, guard := none }) (v := ?_) rfl (by kernel_rfl) (by kernel_rfl) (by kernel_rfl) (fun _ _ _ h => h) (Or.inl ⟨by rfl, ?_⟩) hHeld ?_
   rotate_left 1
   ·intro u hSu
    have f0u := hSu.out.cell f0 (by simp)
    have f1u := hSu.out.cell f1 (by simp)
    go_simp
    first | done | with_reducible rfl
   (try simp only [Act.put, zA, zB, zC])
   refine wpAnyH_take (i := 9) (oi := { dst := some 139, op := Op.binOp BinOp.geq 3 (Operand.tmp 134) (Operand.tmp 138) 3, type := 4, pos := _, after := _, guard := none }) (v := .bool true) rfl (by kernel_rfl) (by kernel_rfl) (by kernel_rfl) (fun _ _ _ h => h) (Or.inl ⟨by rfl, ?_⟩) hHeld ?_
   ·intro u hSu
    go_simp
    first | done | with_reducible rfl | (rw [IntKind.wrap_i64]; omega) | omega
   (try simp only [Act.put, zA, zB, zC])
   refine wpAnyH_done (by kernel_rfl) ?_ _
   have HE : Hid (dsW x = true) := Lib.hid (by
    unfold dsW
    rw [asc_miss (f := ltI) HZ.out.1 HZ.out.2 (by unfold ltI; simp; omega)]; rfl)
   have HK2 := Lib.hid (K.out.keep hHeld.out)
   clear hHeld K f0 f1
   go_wp2_with fail
   go_ret
   exact ⟨by rw [ck_or HD.out HW.out h256 HG.out (Or.inr (any_at HX.out.1 HE.out))]; rfl, HK2.out.gr⟩
  | succ m =>
   obtain ⟨y, hy⟩ : ∃ y, L[m]? = some y := ⟨_, List.getElem?_eq_getElem (by omega)⟩
   obtain ⟨g0, g1⟩ := HHC.out m y hy
   have HY := Lib.hid hy
   have hi1 : (m : Int) < (L.length : Int) := by omega
   have hi0 : (0 : Int) ≤ (m : Int) := by omega
   have hi00 : (0 : Int) ≤ ((m + 1 : Nat) : Int) := by omega
   have hi01 : (0 : Int) < ((m + 1 : Nat) : Int) := by omega
   have hi000 : (0 : Int) ≤ (m : Int) + 1 := by omega
   have hi001 : (m : Int) + 1 < (L.length : Int) := by omega
   clear hy
   by_cases hyx : y.id < x.id
   case neg =>
    refine wp_region_held_drew (S := fun w' => Hid (w4.grownBy w' none)) (by kernel_rfl) (Lib.hid (grown_drew (grown_refl _ none))) (fun hHeld => ?_)
    refine wpAnyH_take (i := 0) (oi := { dst := some 106, op := Op.move (Operand.tmp 6), type := 3, pos := _, after := _, guard := none }) (v := ?_) rfl (by kernel_rfl) (by kernel_rfl) (by kernel_rfl) (fun _ _ _ h => h) (Or.inl ⟨by rfl, ?_⟩) hHeld ?_
    rotate_left 1
    ·intro u hSu
     go_simp
     first | done | with_reducible rfl
    (try simp only [Act.put, zA, zB, zC])
    refine wpAnyH_take (i := 1) (oi := { dst := some 107, op := Op.binOp BinOp.gtr 3 (Operand.tmp 106) (Operand.const (Value.int IntKind.i64 0)) 3, type := 4, pos := _, after := _, guard := none }) (v := ?_) rfl (by kernel_rfl) (by kernel_rfl) (by kernel_rfl) (fun _ _ _ h => h) (Or.inl ⟨by rfl, ?_⟩) hHeld ?_
    rotate_left 1
    ·intro u hSu
     go_simp
     first | done | with_reducible rfl
    (try simp only [Act.put, zA, zB, zC])
    refine wpAnyH_take (i := 2) (oi := { dst := some 108, op := Op.move (Operand.tmp 107), type := 4, pos := _, after := _, guard := none }) (v := ?_) rfl (by kernel_rfl) (by kernel_rfl) (by kernel_rfl) (fun _ _ _ h => h) (Or.inl ⟨by rfl, ?_⟩) hHeld ?_
    rotate_left 1
    ·intro u hSu
     go_simp
     first | done | with_reducible rfl
    (try simp only [Act.put, zA, zB, zC])
    refine wpAnyH_take (i := 3) (oi := { dst := some 109, op := Op.fieldAddr 25 (Operand.tmp 1) 3, type := 0, pos := _, after := _, guard := some (2, true) }) (v := ?_) rfl (by kernel_rfl) (by kernel_rfl) (by kernel_rfl) (fun _ _ _ h => h) (Or.inl ⟨by rfl, ?_⟩) hHeld ?_
    rotate_left 1
    ·intro u hSu
     go_simp
     first | done | with_reducible rfl
    (try simp only [Act.put, zA, zB, zC])
    refine wpAnyH_take (i := 4) (oi := { dst := some 110, op := Op.load 23 (Operand.tmp 109), type := 23, pos := _, after := _, guard := some (2, true) }) (v := ?_) rfl (by kernel_rfl) (by kernel_rfl) (by kernel_rfl) (fun _ _ _ h => h) (Or.inl ⟨by rfl, ?_⟩) hHeld ?_
    rotate_left 1
    ·intro u hSu
     have e3 := hSu.out.cell d3 (by simp)
     have x0 := hSu.out.cell a0 (by simp)
     have y0 := hSu.out.cell g0 (by simp)
     go_simp
     first | done | with_reducible rfl
    (try simp only [Act.put, zA, zB, zC])
    refine wpAnyH_take (i := 5) (oi := { dst := some 111, op := Op.move (Operand.tmp 6), type := 3, pos := _, after := _, guard := some (2, true) }) (v := ?_) rfl (by kernel_rfl) (by kernel_rfl) (by kernel_rfl) (fun _ _ _ h => h) (Or.inl ⟨by rfl, ?_⟩) hHeld ?_
    rotate_left 1
    ·intro u hSu
     go_simp
     first | done | with_reducible rfl
    (try simp only [Act.put, zA, zB, zC])
    refine wpAnyH_take (i := 6) (oi := { dst := some 112, op := Op.binOp BinOp.sub 3 (Operand.tmp 111) (Operand.const (Value.int IntKind.i64 1)) 3, type := 3, pos := _, after := _, guard := some (2, true) }) (v := .int .i64 (m : Int)) rfl (by kernel_rfl) (by kernel_rfl) (by kernel_rfl) (fun _ _ _ h => h) (Or.inl ⟨by rfl, ?_⟩) hHeld ?_
    ·intro u hSu
     go_simp
     first | done | with_reducible rfl | (rw [IntKind.wrap_i64]; omega) | omega
    (try simp only [Act.put, zA, zB, zC])
    refine wpAnyH_take (i := 7) (oi := { dst := some 113, op := Op.indexAddr 23 (Operand.tmp 110) (Operand.tmp 112), type := 0, pos := _, after := _, guard := some (2, true) }) (v := ?_) rfl (by kernel_rfl) (by kernel_rfl) (by kernel_rfl) (fun _ _ _ h => h) (Or.inl ⟨by rfl, ?_⟩) hHeld ?_
    rotate_left 1
    ·intro u hSu
     go_simp
     first | done | with_reducible rfl
    (try simp only [Act.put, zA, zB, zC])
    refine wpAnyH_take (i := 8) (oi := { dst := some 114, op := Op.fieldAddr 36 (Operand.tmp 113) 0, type := 0, pos := _, after := _, guard := some (2, true) }) (v := ?_) rfl (by kernel_rfl) (by kernel_rfl) (by kernel_rfl) (fun _ _ _ h => h) (Or.inl ⟨by rfl, ?_⟩) hHeld ?_
    rotate_left 1
    ·intro u hSu
     go_simp
     first | done | with_reducible rfl
    (try simp only [Act.put, zA, zB, zC])
    refine wpAnyH_take (i := 9) (oi := { dst := some 115, op := Op.load 3 (Operand.tmp 114), type := 3, pos := _, after := _, guard := some (2, true) }) (v := ?_) rfl (by kernel_rfl) (by kernel_rfl) (by kernel_rfl) (fun _ _ _ h => h) (Or.inl ⟨by rfl, ?_⟩) hHeld ?_
    rotate_left 1
    ·intro u hSu
     have e3 := hSu.out.cell d3 (by simp)
     have x0 := hSu.out.cell a0 (by simp)
     have y0 := hSu.out.cell g0 (by simp)
     go_simp
     first | done | with_reducible rfl
    (try simp only [Act.put, zA, zB, zC])
    refine wpAnyH_take (i := 10) (oi := { dst := some 116, op := Op.fieldAddr 25 (Operand.tmp 1) 3, type := 0, pos := _, after := _, guard := some (2, true) }) (v := ?_) rfl (by kernel_rfl) (by kernel_rfl) (by kernel_rfl) (fun _ _ _ h => h) (Or.inl ⟨by rfl, ?_⟩) hHeld ?_
    rotate_left 1
    ·intro u hSu
     go_simp
     first | done | with_reducible rfl
    (try simp only [Act.put, zA, zB, zC])
    refine wpAnyH_take (i := 11) (oi := { dst := some 117, op := Op.load 23 (Operand.tmp 116), type := 23, pos := _, after := _, guard := some (2, true) }) (v := ?_) rfl (by kernel_rfl) (by kernel_rfl) (by kernel_rfl) (fun _ _ _ h => h) (Or.inl ⟨by rfl, ?_⟩) hHeld ?_
    rotate_left 1
    ·intro u hSu
     have e3 := hSu.out.cell d3 (by simp)
     have x0 := hSu.out.cell a0 (by simp)
     have y0 := hSu.out.cell g0 (by simp)
     go_simp
     first | done | with_reducible rfl
    (try simp only [Act.put, zA, zB, zC])
    refine wpAnyH_take (i := 12) (oi := { dst := some 118, op := Op.move (Operand.tmp 6), type := 3, pos := _, after := _, guard := some (2, true) }) (v := ?_) rfl (by kernel_rfl) (by kernel_rfl) (by kernel_rfl) (fun _ _ _ h => h) (Or.inl ⟨by rfl, ?_⟩) hHeld ?_
    rotate_left 1
    ·intro u hSu
     go_simp
     first | done | with_reducible rfl
    (try simp only [Act.put, zA, zB, zC])
    refine wpAnyH_take (i := 13) (oi := { dst := some 119, op := Op.indexAddr 23 (Operand.tmp 117) (Operand.tmp 118), type := 0, pos := _, after := _, guard := some (2, true) }) (v := ?_) rfl (by kernel_rfl) (by kernel_rfl) (by kernel_rfl) (fun _ _ _ h => h) (Or.inl ⟨by rfl, ?_⟩) hHeld ?_
    rotate_left 1
    ·intro u hSu
     go_simp
     first | done | with_reducible rfl
    (try simp only [Act.put, zA, zB, zC])
    refine wpAnyH_take (i := 14) (oi := { dst := some 120, op := Op.fieldAddr 36 (Operand.tmp 119) 0, type := 0, pos := _, after := _, guard := some (2, true) }) (v := ?_) rfl (by kernel_rfl) (by kernel_rfl) (by kernel_rfl) (fun _ _ _ h => h) (Or.inl ⟨by rfl, ?_⟩) hHeld ?_
    rotate_left 1
    ·intro u hSu
     go_simp
     first | done | with_reducible rfl
    (try simp only [Act.put, zA, zB, zC])
    refine wpAnyH_take (i := 15) (oi := { dst := some 121, op := Op.load 3 (Operand.tmp 120), type := 3, pos := _, after := _, guard := some (2, true) }) (v := ?_) rfl (by kernel_rfl) (by kernel_rfl) (by kernel_rfl) (fun _ _ _ h => h) (Or.inl ⟨by rfl, ?_⟩) hHeld ?_
    rotate_left 1
    ·intro u hSu
     have e3 := hSu.out.cell d3 (by simp)
     have x0 := hSu.out.cell a0 (by simp)
     have y0 := hSu.out.cell g0 (by simp)
     go_simp
     first | done | with_reducible rfl
    (try simp only [Act.put, zA, zB, zC])
    refine wpAnyH_take (i := 16) (oi := { dst := some 122, op := Op.binOp BinOp.geq 3 (Operand.tmp 115) (Operand.tmp 121) 3, type := 4, pos := _, after := _, guard := some (2, true) }) (v := .bool true) rfl (by kernel_rfl) (by kernel_rfl) (by kernel_rfl) (fun _ _ _ h => h) (Or.inl ⟨by rfl, ?_⟩) hHeld ?_
    ·intro u hSu
     go_simp
     first | done | with_reducible rfl | (rw [IntKind.wrap_i64]; omega) | omega
    (try simp only [Act.put, zA, zB, zC])
    refine wpAnyH_take (i := 17) (oi := { dst := some 123, op := Op.pick (Operand.tmp 108) (Operand.tmp 122) (Operand.const (Value.bool false)), type := 4, pos := _, after := _, guard := none }) (v := ?_) rfl (by kernel_rfl) (by kernel_rfl) (by kernel_rfl) (fun _ _ _ h => h) (Or.inl ⟨by rfl, ?_⟩) hHeld ?_
    rotate_left 1
    ·intro u hSu
     go_simp
     first | done | with_reducible rfl
    (try simp only [Act.put, zA, zB, zC])
    refine wpAnyH_done (by kernel_rfl) ?_ _
    have HE : Hid (ascB ltW L = false) := Lib.hid (asc_miss HY.out HLX.out (by unfold ltW; simp; omega))
    have HK2 := Lib.hid (K.out.keep hHeld.out)
    clear hHeld K a0 a1 d0 d1 d2 d3 g0 g1
    go_wp2_with fail
    go_ret
    exact ⟨by rw [ck_or HD.out HW.out h256 HG.out (Or.inl HE.out)]; rfl, HK2.out.gr⟩
   have HA2 : Hid (AscK ltW L (m + 1 + 1)) := Lib.hid (ascK_next HA.out HY.out HLX.out (by unfold ltW; simp [hyx]))
   refine wp_region_held_drew (S := fun w' => Hid (w4.grownBy w' none)) (by kernel_rfl) (Lib.hid (grown_drew (grown_refl _ none))) (fun hHeld => ?_)
   refine wpAnyH_take (i := 0) (oi := { dst := some 106, op := Op.move (Operand.tmp 6), type := 3, pos := _, after := _, guard := none }) (v := ?_) rfl (by kernel_rfl) (by kernel_rfl) (by kernel_rfl) (fun _ _ _ h => h) (Or.inl ⟨by rfl, ?_⟩) hHeld ?_
   rotate_left 1
   ·intro u hSu
    go_simp
    first | done | with_reducible rfl
   (try simp only [Act.put, zA, zB, zC])
   refine wpAnyH_take (i := 1) (oi := { dst := some 107, op := Op.binOp BinOp.gtr 3 (Operand.tmp 106) (Operand.const (Value.int IntKind.i64 0)) 3, type := 4, pos := _, after := _, guard := none }) (v := ?_) rfl (by kernel_rfl) (by kernel_rfl) (by kernel_rfl) (fun _ _ _ h => h) (Or.inl ⟨by rfl, ?_⟩) hHeld ?_
   rotate_left 1
   ·intro u hSu
    go_simp
    first | done | with_reducible rfl
   (try simp only [Act.put, zA, zB, zC])
   refine wpAnyH_take (i := 2) (oi := { dst := some 108, op := Op.move (Operand.tmp 107), type := 4, pos := _, after := _, guard := none }) (v := ?_) rfl (by kernel_rfl) (by kernel_rfl) (by kernel_rfl) (fun _ _ _ h => h) (Or.inl ⟨by rfl, ?_⟩) hHeld ?_
   rotate_left 1
   ·intro u hSu
    go_simp
    first | done | with_reducible rfl
   (try simp only [Act.put, zA, zB, zC])
   refine wpAnyH_take (i := 3) (oi := { dst := some 109, op := Op.fieldAddr 25 (Operand.tmp 1) 3, type := 0, pos := _, after := _, guard := some (2, true) }) (v := ?_) rfl (by kernel_rfl) (by kernel_rfl) (by kernel_rfl) (fun _ _ _ h => h) (Or.inl ⟨by rfl, ?_⟩) hHeld ?_
   rotate_left 1
   ·intro u hSu
    go_simp
    first | done | with_reducible rfl
   (try simp only [Act.put, zA, zB, zC])
   refine wpAnyH_take (i := 4) (oi := { dst := some 110, op := Op.load 23 (Operand.tmp 109), type := 23, pos := _, after := _, guard := some (2, true) }) (v := ?_) rfl (by kernel_rfl) (by kernel_rfl) (by kernel_rfl) (fun _ _ _ h => h) (Or.inl ⟨by rfl, ?_⟩) hHeld ?_
   rotate_left 1
   ·intro u hSu
    have e3 := hSu.out.cell d3 (by simp)
    have x0 := hSu.out.cell a0 (by simp)
    have y0 := hSu.out.cell g0 (by simp)
    go_simp
    first | done | with_reducible rfl
   (try simp only [Act.put, zA, zB, zC])
   refine wpAnyH_take (i := 5) (oi := { dst := some 111, op := Op.move (Operand.tmp 6), type := 3, pos := _, after := _, guard := some (2, true) }) (v := ?_) rfl (by kernel_rfl) (by kernel_rfl) (by kernel_rfl) (fun _ _ _ h => h) (Or.inl ⟨by rfl, ?_⟩) hHeld ?_
   rotate_left 1
   ·intro u hSu
    go_simp
    first | done | with_reducible rfl
   (try simp only [Act.put, zA, zB, zC])
   refine wpAnyH_take (i := 6) (oi := { dst := some 112, op := Op.binOp BinOp.sub 3 (Operand.tmp 111) (Operand.const (Value.int IntKind.i64 1)) 3, type := 3, pos := _, after := _, guard := some (2, true) }) (v := .int .i64 (m : Int)) rfl (by kernel_rfl) (by kernel_rfl) (by kernel_rfl) (fun _ _ _ h => h) (Or.inl ⟨by rfl, ?_⟩) hHeld ?_
   ·intro u hSu
    go_simp
    first | done | with_reducible rfl | (rw [IntKind.wrap_i64]; omega) | omega
   (try simp only [Act.put, zA, zB, zC])
   refine wpAnyH_take (i := 7) (oi := { dst := some 113, op := Op.indexAddr 23 (Operand.tmp 110) (Operand.tmp 112), type := 0, pos := _, after := _, guard := some (2, true) }) (v := ?_) rfl (by kernel_rfl) (by kernel_rfl) (by kernel_rfl) (fun _ _ _ h => h) (Or.inl ⟨by rfl, ?_⟩) hHeld ?_
   rotate_left 1
   ·intro u hSu
    go_simp
    first | done | with_reducible rfl
   (try simp only [Act.put, zA, zB, zC])
   refine wpAnyH_take (i := 8) (oi := { dst := some 114, op := Op.fieldAddr 36 (Operand.tmp 113) 0, type := 0, pos := _, after := _, guard := some (2, true) }) (v := ?_) rfl (by kernel_rfl) (by kernel_rfl) (by kernel_rfl) (fun _ _ _ h => h) (Or.inl ⟨by rfl, ?_⟩) hHeld ?_
   rotate_left 1
   ·intro u hSu
    go_simp
    first | done | with_reducible rfl
   (try simp only [Act.put, zA, zB, zC])
   refine wpAnyH_take (i := 9) (oi := { dst := some 115, op := Op.load 3 (Operand.tmp 114), type := 3, pos := _, after := _, guard := some (2, true) }) (v := ?_) rfl (by kernel_rfl) (by kernel_rfl) (by kernel_rfl) (fun _ _ _ h => h) (Or.inl ⟨by rfl, ?_⟩) hHeld ?_
   rotate_left 1
   ·intro u hSu
    have e3 := hSu.out.cell d3 (by simp)
    have x0 := hSu.out.cell a0 (by simp)
    have y0 := hSu.out.cell g0 (by simp)
    go_simp
    first | done | with_reducible rfl
   (try simp only [Act.put, zA, zB, zC])
   refine wpAnyH_take (i := 10) (oi := { dst := some 116, op := Op.fieldAddr 25 (Operand.tmp 1) 3, type := 0, pos := _, after := _, guard := some (2, true) }) (v := ?_) rfl (by kernel_rfl) (by kernel_rfl) (by kernel_rfl) (fun _ _ _ h => h) (Or.inl ⟨by rfl, ?_⟩) hHeld ?_
   rotate_left 1
   ·intro u hSu
    go_simp
    first | done | with_reducible rfl
   (try simp only [Act.put, zA, zB, zC])
   refine wpAnyH_take (i := 11) (oi := { dst := some 117, op := Op.load 23 (Operand.tmp 116), type := 23, pos := _, after := _, guard := some (2, true) }) (v := ?_) rfl (by kernel_rfl) (by kernel_rfl) (by kernel_rfl) (fun _ _ _ h => h) (Or.inl ⟨by rfl, ?_⟩) hHeld ?_
   rotate_left 1
   ·intro u hSu
    have e3 := hSu.out.cell d3 (by simp)
    have x0 := hSu.out.cell a0 (by simp)
    have y0 := hSu.out.cell g0 (by simp)
    go_simp
    first | done | with_reducible rfl
   (try simp only [Act.put, zA, zB, zC])
   refine wpAnyH_take (i := 12) (oi := { dst := some 118, op := Op.move (Operand.tmp 6), type := 3, pos := _, after := _, guard := some (2, true) }) (v := ?_) rfl (by kernel_rfl) (by kernel_rfl) (by kernel_rfl) (fun _ _ _ h => h) (Or.inl ⟨by rfl, ?_⟩) hHeld ?_
   rotate_left 1
   ·intro u hSu
    go_simp
    first | done | with_reducible rfl
   (try simp only [Act.put, zA, zB, zC])
   refine wpAnyH_take (i := 13) (oi := { dst := some 119, op := Op.indexAddr 23 (Operand.tmp 117) (Operand.tmp 118), type := 0, pos := _, after := _, guard := some (2, true) }) (v := ?_) rfl (by kernel_rfl) (by kernel_rfl) (by kernel_rfl) (fun _ _ _ h => h) (Or.inl ⟨by rfl, ?_⟩) hHeld ?_
   rotate_left 1
   ·intro u hSu
    go_simp
    first | done | with_reducible rfl
   (try simp only [Act.put, zA, zB, zC])
   refine wpAnyH_take (i := 14) (oi := { dst := some 120, op := Op.fieldAddr 36 (Operand.tmp 119) 0, type := 0, pos := _, after := _, guard := some (2, true) }) (v := ?_) rfl (by kernel_rfl) (by kernel_rfl) (by kernel_rfl) (fun _ _ _ h => h) (Or.inl ⟨by rfl, ?_⟩) hHeld ?_
   rotate_left 1
   ·intro u hSu
    go_simp
    first | done | with_reducible rfl
   (try simp only [Act.put, zA, zB, zC])
   refine wpAnyH_take (i := 15) (oi := { dst := some 121, op := Op.load 3 (Operand.tmp 120), type := 3, pos := _, after := _, guard := some (2, true) }) (v := ?_) rfl (by kernel_rfl) (by kernel_rfl) (by kernel_rfl) (fun _ _ _ h => h) (Or.inl ⟨by rfl, ?_⟩) hHeld ?_
   rotate_left 1
   ·intro u hSu
    have e3 := hSu.out.cell d3 (by simp)
    have x0 := hSu.out.cell a0 (by simp)
    have y0 := hSu.out.cell g0 (by simp)
    go_simp
    first | done | with_reducible rfl
   (try simp only [Act.put, zA, zB, zC])
   refine wpAnyH_take (i := 16) (oi := { dst := some 122, op := Op.binOp BinOp.geq 3 (Operand.tmp 115) (Operand.tmp 121) 3, type := 4, pos := _, after := _, guard := some (2, true) }) (v := .bool false) rfl (by kernel_rfl) (by kernel_rfl) (by kernel_rfl) (fun _ _ _ h => h) (Or.inl ⟨by rfl, ?_⟩) hHeld ?_
   ·intro u hSu
    go_simp
    first | done | with_reducible rfl | (rw [IntKind.wrap_i64]; omega) | omega
   (try simp only [Act.put, zA, zB, zC])
   refine wpAnyH_take (i := 17) (oi := { dst := some 123, op := Op.pick (Operand.tmp 108) (Operand.tmp 122) (Operand.const (Value.bool false)), type := 4, pos := _, after := _, guard := none }) (v := ?_) rfl (by kernel_rfl) (by kernel_rfl) (by kernel_rfl) (fun _ _ _ h => h) (Or.inl ⟨by rfl, ?_⟩) hHeld ?_
   rotate_left 1
   ·intro u hSu
    go_simp
    first | done | with_reducible rfl
   (try simp only [Act.put, zA, zB, zC])
   refine wpAnyH_done (by kernel_rfl) ?_ _
   clear g0 g1
   have HK2 := Lib.hid (K.out.keep hHeld.out)
   clear hHeld K a0 a1 d0 d1 d2 d3
   generalize w4.drew = w6 at *
   go_wp2_with fail
   go_loopw [8] (fun a wr => ∃ j : Nat, 1 ≤ j ∧ (j ≤ x.nx.length ∨ j = 1) ∧ a = .int .i64 (j : Int) ∧ Hid (AscK ltI x.nx j) ∧ Hid (BX w r s n (some ⟨b, off, none⟩) c L wr)) (fun a _ => x.nx.length + 1 - (RowKit.intOf a).toNat)
   case atStart => exact ⟨1, Nat.le_refl _, Or.inr rfl, rfl, Lib.hid (fun i x y hi => by omega), HK2⟩
   case round =>
   clear HK2 HX
   obtain ⟨j, hj1, hj, rfl, HJ, K⟩ := hrel
   obtain ⟨w7, hw7⟩ : ∃ w7, w7 = wr := ⟨_, rfl⟩
   rw [← hw7] at K ⊢
   clear hw7
   have HX := Lib.hid (And.intro HLX.out (K.out.rd.ok x (List.mem_of_getElem? HLX.out)))
   by_cases hjl : j < x.nx.length
   case neg =>
    have hnj : ¬ (j : Int) < (x.nx.length : Int) := by omega
    have HN2 : Hid ((L.take ((m + 1) + 1)).any dsW = false) := Lib.hid (any_take HN.out HX.out.1 (by
     unfold dsW
     rw [ascK_end (f := ltI) (l := x.nx) (fun i a b hi => HJ.out i a b (by omega))]; rfl))
    go_wp2_with fail
    exact ⟨⟨(m + 1) + 1, by omega, congrArg _ (by omega), HA2, HN2, K⟩, by simp only [RowKit.intOf]; omega⟩
   obtain ⟨i, rfl⟩ : ∃ i, j = i + 1 := ⟨j - 1, by omega⟩
   have hjl' : (((i + 1 : Nat)) : Int) < (x.nx.length : Int) := by omega
   obtain ⟨y, hy⟩ : ∃ y, x.nx[i]? = some y := ⟨_, List.getElem?_eq_getElem (by omega)⟩
   obtain ⟨z, hz⟩ : ∃ z, x.nx[i + 1]? = some z := ⟨_, List.getElem?_eq_getElem hjl⟩
   obtain ⟨-, bz, oz, hpz, -, hcz⟩ := tvT_at HX.out.2.rd hz
   have f0 := hcz i y hy
   have f1 := hcz (i + 1) z hz
   rw [hpz] at *
   have HZ := Lib.hid (And.intro hy hz)
   clear hcz hz hy hpz
   have hi1 : (i : Int) < (x.nx.length : Int) := by omega
   have hi0 : (0 : Int) ≤ (i : Int) := by omega
   have hi00 : (0 : Int) ≤ ((i + 1 : Nat) : Int) := by omega
   have hi000 : (0 : Int) ≤ (i : Int) + 1 := by omega
   have hi001 : (i : Int) + 1 < (x.nx.length : Int) := by omega
   go_upto_region 29 with fail
   by_cases hyz : y < z
   case pos =>
    refine wp_region_held_drew (S := fun w' => Hid (w7.grownBy w' none)) (by kernel_rfl) (Lib.hid (grown_drew (grown_refl _ none))) (fun hHeld => ?_)
    refine wpAnyH_take (i := 0) (oi := { dst := some 130, op := Op.move (Operand.tmp 7), type := 22, pos := _, after := _, guard := none }) (v := ?_) rfl (by kernel_rfl) (by kernel_rfl) (by kernel_rfl) (fun _ _ _ h => h) (Or.inl ⟨by rfl, ?_⟩) hHeld ?_
    rotate_left 1
    ·intro u hSu
     go_simp
     first | done | with_reducible rfl
    (try simp only [Act.put, zA, zB, zC])
    refine wpAnyH_take (i := 1) (oi := { dst := some 131, op := Op.move (Operand.tmp 8), type := 3, pos := _, after := _, guard := none }) (v := ?_) rfl (by kernel_rfl) (by kernel_rfl) (by kernel_rfl) (fun _ _ _ h => h) (Or.inl ⟨by rfl, ?_⟩) hHeld ?_
    rotate_left 1
    ·intro u hSu
     go_simp
     first | done | with_reducible rfl
    (try simp only [Act.put, zA, zB, zC])
    refine wpAnyH_take (i := 2) (oi := { dst := some 132, op := Op.binOp BinOp.sub 3 (Operand.tmp 131) (Operand.const (Value.int IntKind.i64 1)) 3, type := 3, pos := _, after := _, guard := none }) (v := .int .i64 (i : Int)) rfl (by kernel_rfl) (by kernel_rfl) (by kernel_rfl) (fun _ _ _ h => h) (Or.inl ⟨by rfl, ?_⟩) hHeld ?_
    ·intro u hSu
     go_simp
     first | done | with_reducible rfl | (rw [IntKind.wrap_i64]; omega) | omega
    (try simp only [Act.put, zA, zB, zC])
    refine wpAnyH_take (i := 3) (oi := { dst := some 133, op := Op.indexAddr 22 (Operand.tmp 130) (Operand.tmp 132), type := 0, pos := _, after := _, guard := none }) (v := ?_) rfl (by kernel_rfl) (by kernel_rfl) (by kernel_rfl) (fun _ _ _ h => h) (Or.inl ⟨by rfl, ?_⟩) hHeld ?_
    rotate_left 1
    ·intro u hSu
     go_simp
     first | done | with_reducible rfl
    (try simp only [Act.put, zA, zB, zC])
    refine wpAnyH_take (i := 4) (oi := { dst := some 134, op := Op.load 3 (Operand.tmp 133), type := 3, pos := _, after := _, guard := none }) (v := ?_) rfl (by kernel_rfl) (by kernel_rfl) (by kernel_rfl) (fun _ _ _ h => h) (Or.inl ⟨by rfl, ?_⟩) hHeld ?_
    rotate_left 1
    ·intro u hSu
     have f0u := hSu.out.cell f0 (by simp)
     have f1u := hSu.out.cell f1 (by simp)
     go_simp
     first | done | with_reducible rfl
    (try simp only [Act.put, zA, zB, zC])
    refine wpAnyH_take (i := 5) (oi := { dst := some 135, op := Op.move (Operand.tmp 7), type := 22, pos := _, after := _, guard := none }) (v := ?_) rfl (by kernel_rfl) (by kernel_rfl) (by kernel_rfl) (fun _ _ _ h => h) (Or.inl ⟨by rfl, ?_⟩) hHeld ?_
    rotate_left 1
    ·intro u hSu
     go_simp
     first | done | with_reducible rfl
    (try simp only [Act.put, zA, zB, zC])
    refine wpAnyH_take (i := 6) (oi := { dst := some 136, op := Op.move (Operand.tmp 8), type := 3, pos := _, after := _, guard := none }) (v := ?_) rfl (by kernel_rfl) (by kernel_rfl) (by kernel_rfl) (fun _ _ _ h => h) (Or.inl ⟨by rfl, ?_⟩) hHeld ?_
    rotate_left 1
    ·intro u hSu
     go_simp
     first | done | with_reducible rfl
    (try simp only [Act.put, zA, zB, zC])
    refine wpAnyH_take (i := 7) (oi := { dst := some 137, op := Op.indexAddr 22 (Operand.tmp 135) (Operand.tmp 136), type := 0, pos := _, after := _, guard := none }) (v := ?_) rfl (by kernel_rfl) (by kernel_rfl) (by kernel_rfl) (fun _ _ _ h => h) (Or.inl ⟨by rfl, ?_⟩) hHeld ?_
    rotate_left 1
    ·intro u hSu
     go_simp
     first | done | with_reducible rfl
    (try simp only [Act.put, zA, zB, zC])
    refine wpAnyH_take (i := 8) (oi := { dst := some 138, op := Op.load 3 (Operand.tmp 137), type := 3, pos := _, after := _, guard := none }) (v := ?_) rfl (by kernel_rfl) (by kernel_rfl) (by kernel_rfl) (fun _ _ _ h => h) (Or.inl ⟨by rfl, ?_⟩) hHeld ?_
    rotate_left 1
    ·intro u hSu
     have f0u := hSu.out.cell f0 (by simp)
     have f1u := hSu.out.cell f1 (by simp)
     go_simp
     first | done | with_reducible rfl
    (try simp only [Act.put, zA, zB, zC])
    refine wpAnyH_take (i := 9) (oi := { dst := some 139, op := Op.binOp BinOp.geq 3 (Operand.tmp 134) (Operand.tmp 138) 3, type := 4, pos := _, after := _, guard := none }) (v := .bool false) rfl (by kernel_rfl) (by kernel_rfl) (by kernel_rfl) (fun _ _ _ h => h) (Or.inl ⟨by rfl, ?_⟩) hHeld ?_
    ·intro u hSu
     go_simp
     first | done | with_reducible rfl | (rw [IntKind.wrap_i64]; omega) | omega
    (try simp only [Act.put, zA, zB, zC])
    refine wpAnyH_done (by kernel_rfl) ?_ _
    have HK2 := Lib.hid (K.out.keep hHeld.out)
    have HJ2 : Hid (AscK ltI x.nx (i + 1 + 1)) := Lib.hid (ascK_next HJ.out HZ.out.1 HZ.out.2 (by unfold ltI; simp [hyz]))
    clear hHeld K f0 f1
    go_wp2_with fail
    exact ⟨⟨i + 1 + 1, by omega, Or.inl (by omega), congrArg _ (by omega), HJ2, HK2⟩, by simp only [RowKit.intOf]; omega⟩
   refine wp_region_held_drew (S := fun w' => Hid (w7.grownBy w' none)) (by kernel_rfl) (Lib.hid (grown_drew (grown_refl _ none))) (fun hHeld => ?_)
   refine wpAnyH_take (i := 0) (oi := { dst := some 130, op := Op.move (Operand.tmp 7), type := 22, pos := _, after := _, guard := none }) (v := ?_) rfl (by kernel_rfl) (by kernel_rfl) (by kernel_rfl) (fun _ _ _ h => h) (Or.inl ⟨by rfl, ?_⟩) hHeld ?_
   rotate_left 1
   ·intro u hSu
    go_simp
    first | done | with_reducible rfl
   (try simp only [Act.put, zA, zB, zC])
   refine wpAnyH_take (i := 1) (oi := { dst := some 131, op := Op.move (Operand.tmp 8), type := 3, pos := _, after := _, guard := none }) (v := ?_) rfl (by kernel_rfl) (by kernel_rfl) (by kernel_rfl) (fun _ _ _ h => h) (Or.inl ⟨by rfl, ?_⟩) hHeld ?_
   rotate_left 1
   ·intro u hSu
    go_simp
    first | done | with_reducible rfl
   (try simp only [Act.put, zA, zB, zC])
   refine wpAnyH_take (i := 2) (oi := { dst := some 132, op := Op.binOp BinOp.sub 3 (Operand.tmp 131) (Operand.const (Value.int IntKind.i64 1)) 3, type := 3, pos := _, after := _, guard := none }) (v := .int .i64 (i : Int)) rfl (by kernel_rfl) (by kernel_rfl) (by kernel_rfl) (fun _ _ _ h => h) (Or.inl ⟨by rfl, ?_⟩) hHeld ?_
   ·intro u hSu
    go_simp
    first | done | with_reducible rfl | (rw [IntKind.wrap_i64]; omega) | omega
   (try simp only [Act.put, zA, zB, zC])
   refine wpAnyH_take (i := 3) (oi := { dst := some 133, op := Op.indexAddr 22 (Operand.tmp 130) (Operand.tmp 132), type := 0, pos := _, after := _, guard := none }) (v := ?_) rfl (by kernel_rfl) (by kernel_rfl) (by kernel_rfl) (fun _ _ _ h => h) (Or.inl ⟨by rfl, ?_⟩) hHeld ?_
   rotate_left 1
   ·intro u hSu
    go_simp
    first | done | with_reducible rfl
   (try simp only [Act.put, zA, zB, zC])
   refine wpAnyH_take (i := 4) (oi := { dst := some 134, op := Op.load 3 (Operand.tmp 133), type := 3, pos := _, after := _, guard := none }) (v := ?_) rfl (by kernel_rfl) (by kernel_rfl) (by kernel_rfl) (fun _ _ _ h => h) (Or.inl ⟨by rfl, ?_⟩) hHeld ?_
   rotate_left 1
   ·intro u hSu
    have f0u := hSu.out.cell f0 (by simp)
    have f1u := hSu.out.cell f1 (by simp)
    go_simp
    first | done | with_reducible rfl
   (try simp only [Act.put, zA, zB, zC])
   refine wpAnyH_take (i := 5) (oi := { dst := some 135, op := Op.move (Operand.tmp 7), type := 22, pos := _, after := _, guard := none }) (v := ?_) rfl (by kernel_rfl) (by kernel_rfl) (by kernel_rfl) (fun _ _ _ h => h) (Or.inl ⟨by rfl, ?_⟩) hHeld ?_
   rotate_left 1
   ·intro u hSu
    go_simp
    first | done | with_reducible rfl
   (try simp only [Act.put, zA, zB, zC])
   refine wpAnyH_take (i := 6) (oi := { dst := some 136, op := Op.move (Operand.tmp 8), type := 3, pos := _, after := _, guard := none }) (v := ?_) rfl (by kernel_rfl) (by kernel_rfl) (by kernel_rfl) (fun _ _ _ h => h) (Or.inl ⟨by rfl, ?_⟩) hHeld ?_
   rotate_left 1
   ·intro u hSu
    go_simp
    first | done | with_reducible rfl
   (try simp only [Act.put, zA, zB, zC])
   refine wpAnyH_take (i := 7) (oi := { dst := some 137, op := Op.indexAddr 22 (Operand.tmp 135) (Operand.tmp 136), type := 0, pos := _, after := _, guard := none }) (v := ?_) rfl (by kernel_rfl) (by kernel_rfl) (by kernel_rfl) (fun _ _ _ h => h) (Or.inl ⟨by rfl, ?_⟩) hHeld ?_
   rotate_left 1
   ·intro u hSu
    go_simp
    first | done | with_reducible rfl
   (try simp only [Act.put, zA, zB, zC])
   refine wpAnyH_take (i := 8) (oi := { dst := some 138, op := Op.load 3 (Operand.tmp 137), type := 3, pos := _, after := _, guard := none }) (v := ?_) rfl (by kernel_rfl) (by kernel_rfl) (by kernel_rfl) (fun _ _ _ h => h) (Or.inl ⟨by rfl, ?_⟩) hHeld ?_
   rotate_left 1
   ·intro u hSu
    have f0u := hSu.out.cell f0 (by simp)
    have f1u := hSu.out.cell f1 (by simp)
    go_simp
    first | done | with_reducible rfl
   (try simp only [Act.put, zA, zB, zC])
   refine wpAnyH_take (i := 9) (oi := { dst := some 139, op := Op.binOp BinOp.geq 3 (Operand.tmp 134) (Operand.tmp 138) 3, type := 4, pos := _, after := _, guard := none }) (v := .bool true) rfl (by kernel_rfl) (by kernel_rfl) (by kernel_rfl) (fun _ _ _ h => h) (Or.inl ⟨by rfl, ?_⟩) hHeld ?_
   ·intro u hSu
    go_simp
    first | done | with_reducible rfl | (rw [IntKind.wrap_i64]; omega) | omega
   (try simp only [Act.put, zA, zB, zC])
   refine wpAnyH_done (by kernel_rfl) ?_ _
   have HE : Hid (dsW x = true) := Lib.hid (by
    unfold dsW
    rw [asc_miss (f := ltI) HZ.out.1 HZ.out.2 (by unfold ltI; simp; omega)]; rfl)
   have HK2 := Lib.hid (K.out.keep hHeld.out)
   clear hHeld K f0 f1
   go_wp2_with fail
   go_ret
   exact ⟨by rw [ck_or HD.out HW.out h256 HG.out (Or.inr (any_at HX.out.1 HE.out))]; rfl, HK2.out.gr⟩
 obtain rfl : k = L.length := by omega
 have hnl : ¬ (L.length : Int) < (L.length : Int) := by omega
 have HO := Lib.hid (And.intro (ascK_end HA.out) (any_end HN.out (Nat.le_refl _)))
 clear HN HA hlt hk
 go_wp2_with fail
 clear hnl d0 d1 d2 d3
 go_loopw [9] (fun a wr => ∃ k : Nat, k ≤ L.length ∧ a = .int .i64 (k : Int) ∧ Hid ((L.take k).any (cfW r) = false) ∧ Hid (BX w r s n p c L wr)) (fun a _ => L.length - (RowKit.intOf a).toNat)
 case atStart => exact ⟨0, Nat.zero_le _, rfl, Lib.hid (by simp), K⟩
 case round =>
 clear K
 obtain ⟨k, hk, rfl, HN, K⟩ := hrel
 obtain ⟨w5, hw5⟩ : ∃ w5, w5 = wr := ⟨_, rfl⟩
 rw [← hw5] at K ⊢
 clear hw5
 obtain ⟨d0, d1, d2, d3⟩ := row4T K.out.bx
 by_cases hlt : k < L.length
 case pos =>
  have hlt' : (k : Int) < (L.length : Int) := by omega
  obtain ⟨x, hx⟩ : ∃ x, L[k]? = some x := ⟨_, List.getElem?_eq_getElem hlt⟩
  obtain ⟨-, b, off, rfl, -, hc⟩ := rw_cells K.out.rd.rd (by omega)
  obtain ⟨a0, a1⟩ := hc k x hx
  have HX := Lib.hid (And.intro hx (K.out.rd.ok x (List.mem_of_getElem? hx)))
  have hmx : x.nx.length ≤ 9223372036854775807 := Nat.le_trans HX.out.2.hc.1 HX.out.2.hc.2
  have HLX := Lib.hid hx
  have HCC : Hid (∀ u, BX w r s n (some ⟨b, off, none⟩) c L u → u.cell? ⟨b, off + k * 2, none⟩ = some (.int .i64 x.id) ∧ u.cell? ⟨b, off + k * 2 + 1, none⟩ = some (.slice x.p x.nx.length x.c)) := Lib.hid (fun u hu => by
   obtain ⟨-, b', off', hpe, -, hc'⟩ := rw_cells hu.rd.rd (by omega)
   injection hpe with hpe
   injection hpe with e1 e2
   subst e1
   subst e2
   exact hc' k x hx)
  clear hc hx HX
  have HCF : Hid (cfW r x = (decide (1 < x.nx.length) && hasI x.nx r)) := Lib.hid rfl
  go_upto_region 34 with fail
  by_cases hl1 : 1 < x.nx.length
  case neg =>
   have hl1' : ¬ (1 : Int) < (x.nx.length : Int) := by omega
   refine wp_region_held_drew (S := fun w' => Hid (BX w r s n (some ⟨b, off, none⟩) c L w')) (by kernel_rfl) (Lib.hid (K.out.keep (grown_drew (grown_refl _ none)))) (fun hHeld => ?_)
   refine wpAnyH_take (i := 0) (oi := { dst := some 147, op := Op.fieldAddr 25 (Operand.tmp 1) 3, type := 0, pos := _, after := _, guard := none }) (v := ?_) rfl (by kernel_rfl) (by kernel_rfl) (by kernel_rfl) (fun _ _ _ h => h) (Or.inl ⟨by rfl, ?_⟩) hHeld ?_
   rotate_left 1
   ·intro u hSu
    go_simp
    first | done | with_reducible rfl
   (try simp only [Act.put, zA, zB, zC])
   refine wpAnyH_take (i := 1) (oi := { dst := some 148, op := Op.load 23 (Operand.tmp 147), type := 23, pos := _, after := _, guard := none }) (v := ?_) rfl (by kernel_rfl) (by kernel_rfl) (by kernel_rfl) (fun _ _ _ h => h) (Or.inl ⟨by rfl, ?_⟩) hHeld ?_
   rotate_left 1
   ·intro u hSu
    obtain ⟨d0u, d1u, d2u, d3u⟩ := row4T hSu.out.bx
    obtain ⟨a0u, a1u⟩ := HCC.out _ hSu.out
    go_simp
    first | done | with_reducible rfl
   (try simp only [Act.put, zA, zB, zC])
   refine wpAnyH_take (i := 2) (oi := { dst := some 149, op := Op.move (Operand.tmp 9), type := 3, pos := _, after := _, guard := none }) (v := ?_) rfl (by kernel_rfl) (by kernel_rfl) (by kernel_rfl) (fun _ _ _ h => h) (Or.inl ⟨by rfl, ?_⟩) hHeld ?_
   rotate_left 1
   ·intro u hSu
    go_simp
    first | done | with_reducible rfl
   (try simp only [Act.put, zA, zB, zC])
   refine wpAnyH_take (i := 3) (oi := { dst := some 150, op := Op.indexAddr 23 (Operand.tmp 148) (Operand.tmp 149), type := 0, pos := _, after := _, guard := none }) (v := ?_) rfl (by kernel_rfl) (by kernel_rfl) (by kernel_rfl) (fun _ _ _ h => h) (Or.inl ⟨by rfl, ?_⟩) hHeld ?_
   rotate_left 1
   ·intro u hSu
    go_simp
    first | done | with_reducible rfl
   (try simp only [Act.put, zA, zB, zC])
   refine wpAnyH_take (i := 4) (oi := { dst := some 151, op := Op.fieldAddr 36 (Operand.tmp 150) 1, type := 0, pos := _, after := _, guard := none }) (v := ?_) rfl (by kernel_rfl) (by kernel_rfl) (by kernel_rfl) (fun _ _ _ h => h) (Or.inl ⟨by rfl, ?_⟩) hHeld ?_
   rotate_left 1
   ·intro u hSu
    go_simp
    first | done | with_reducible rfl
   (try simp only [Act.put, zA, zB, zC])
   refine wpAnyH_take (i := 5) (oi := { dst := some 152, op := Op.load 22 (Operand.tmp 151), type := 22, pos := _, after := _, guard := none }) (v := ?_) rfl (by kernel_rfl) (by kernel_rfl) (by kernel_rfl) (fun _ _ _ h => h) (Or.inl ⟨by rfl, ?_⟩) hHeld ?_
   rotate_left 1
   ·intro u hSu
    obtain ⟨d0u, d1u, d2u, d3u⟩ := row4T hSu.out.bx
    obtain ⟨a0u, a1u⟩ := HCC.out _ hSu.out
    go_simp
    first | done | with_reducible rfl
   (try simp only [Act.put, zA, zB, zC])
   refine wpAnyH_take (i := 6) (oi := { dst := some 153, op := Op.call { callee := Callee.builtin Builtin.len, args := #[Operand.tmp 152], argTypes := #[22] }, type := 3, pos := _, after := _, guard := none }) (v := ?_) rfl (by kernel_rfl) (by kernel_rfl) (by kernel_rfl) (fun _ _ _ h => h) (Or.inl ⟨by rfl, ?_⟩) hHeld ?_
   rotate_left 1
   ·intro u hSu
    obtain ⟨d0u, d1u, d2u, d3u⟩ := row4T hSu.out.bx
    obtain ⟨a0u, a1u⟩ := HCC.out _ hSu.out
    go_simp
    first | done | with_reducible rfl
   (try simp only [Act.put, zA, zB, zC])
   refine wpAnyH_take (i := 7) (oi := { dst := some 154, op := Op.binOp BinOp.gtr 3 (Operand.tmp 153) (Operand.const (Value.int IntKind.i64 1)) 3, type := 4, pos := _, after := _, guard := none }) (v := .bool false) rfl (by kernel_rfl) (by kernel_rfl) (by kernel_rfl) (fun _ _ _ h => h) (Or.inl ⟨by rfl, ?_⟩) hHeld ?_
   ·intro u hSu
    go_simp
    first | done | with_reducible rfl | (rw [IntKind.wrap_i64]; omega) | omega
   (try simp only [Act.put, zA, zB, zC])
   refine wpAnyH_take (i := 8) (oi := { dst := some 155, op := Op.move (Operand.tmp 154), type := 4, pos := _, after := _, guard := none }) (v := ?_) rfl (by kernel_rfl) (by kernel_rfl) (by kernel_rfl) (fun _ _ _ h => h) (Or.inl ⟨by rfl, ?_⟩) hHeld ?_
   rotate_left 1
   ·intro u hSu
    go_simp
    first | done | with_reducible rfl
   (try simp only [Act.put, zA, zB, zC])
   refine wpAnyH_take (i := 9) (oi := { dst := some 156, op := Op.fieldAddr 25 (Operand.tmp 1) 3, type := 0, pos := _, after := _, guard := some (8, true) }) (v := undef) rfl (by kernel_rfl) (by kernel_rfl) (by kernel_rfl) (fun _ _ _ h => h) (Or.inr ⟨by rfl, rfl⟩) hHeld ?_
   (try simp only [Act.put, zA, zB, zC])
   refine wpAnyH_take (i := 10) (oi := { dst := some 157, op := Op.load 23 (Operand.tmp 156), type := 23, pos := _, after := _, guard := some (8, true) }) (v := undef) rfl (by kernel_rfl) (by kernel_rfl) (by kernel_rfl) (fun _ _ _ h => h) (Or.inr ⟨by rfl, rfl⟩) hHeld ?_
   (try simp only [Act.put, zA, zB, zC])
   refine wpAnyH_take (i := 11) (oi := { dst := some 158, op := Op.move (Operand.tmp 9), type := 3, pos := _, after := _, guard := some (8, true) }) (v := undef) rfl (by kernel_rfl) (by kernel_rfl) (by kernel_rfl) (fun _ _ _ h => h) (Or.inr ⟨by rfl, rfl⟩) hHeld ?_
   (try simp only [Act.put, zA, zB, zC])
   refine wpAnyH_take (i := 12) (oi := { dst := some 159, op := Op.indexAddr 23 (Operand.tmp 157) (Operand.tmp 158), type := 0, pos := _, after := _, guard := some (8, true) }) (v := undef) rfl (by kernel_rfl) (by kernel_rfl) (by kernel_rfl) (fun _ _ _ h => h) (Or.inr ⟨by rfl, rfl⟩) hHeld ?_
   (try simp only [Act.put, zA, zB, zC])
   refine wpAnyH_take (i := 13) (oi := { dst := some 160, op := Op.fieldAddr 36 (Operand.tmp 159) 1, type := 0, pos := _, after := _, guard := some (8, true) }) (v := undef) rfl (by kernel_rfl) (by kernel_rfl) (by kernel_rfl) (fun _ _ _ h => h) (Or.inr ⟨by rfl, rfl⟩) hHeld ?_
   (try simp only [Act.put, zA, zB, zC])
   refine wpAnyH_take (i := 14) (oi := { dst := some 161, op := Op.load 22 (Operand.tmp 160), type := 22, pos := _, after := _, guard := some (8, true) }) (v := undef) rfl (by kernel_rfl) (by kernel_rfl) (by kernel_rfl) (fun _ _ _ h => h) (Or.inr ⟨by rfl, rfl⟩) hHeld ?_
   (try simp only [Act.put, zA, zB, zC])
   refine wpAnyH_take (i := 15) (oi := { dst := some 162, op := Op.fieldAddr 25 (Operand.tmp 1) 0, type := 0, pos := _, after := _, guard := some (8, true) }) (v := undef) rfl (by kernel_rfl) (by kernel_rfl) (by kernel_rfl) (fun _ _ _ h => h) (Or.inr ⟨by rfl, rfl⟩) hHeld ?_
   (try simp only [Act.put, zA, zB, zC])
   refine wpAnyH_take (i := 16) (oi := { dst := some 163, op := Op.load 3 (Operand.tmp 162), type := 3, pos := _, after := _, guard := some (8, true) }) (v := undef) rfl (by kernel_rfl) (by kernel_rfl) (by kernel_rfl) (fun _ _ _ h => h) (Or.inr ⟨by rfl, rfl⟩) hHeld ?_
   (try simp only [Act.put, zA, zB, zC])
   refine wpAnyH_take (i := 17) (oi := { dst := some 164, op := Op.call { callee := Callee.value (Operand.func 58), args := #[Operand.tmp 161, Operand.tmp 163], argTypes := #[22, 3] }, type := 4, pos := _, after := _, guard := some (8, true) }) (v := undef) rfl (by kernel_rfl) (by kernel_rfl) (by kernel_rfl) (fun _ _ _ h => h) (Or.inr ⟨by rfl, rfl⟩) hHeld ?_
   (try simp only [Act.put, zA, zB, zC])
   refine wpAnyH_take (i := 18) (oi := { dst := some 165, op := Op.pick (Operand.tmp 155) (Operand.tmp 164) (Operand.const (Value.bool false)), type := 4, pos := _, after := _, guard := none }) (v := ?_) rfl (by kernel_rfl) (by kernel_rfl) (by kernel_rfl) (fun _ _ _ h => h) (Or.inl ⟨by rfl, ?_⟩) hHeld ?_
   rotate_left 1
   ·intro u hSu
    go_simp
    first | done | with_reducible rfl
   (try simp only [Act.put, zA, zB, zC])
   refine wpAnyH_done (by kernel_rfl) ?_ _
   have HN2 : Hid ((L.take (k + 1)).any (cfW r) = false) := Lib.hid (any_take HN.out HLX.out (by rw [HCF.out]; simp [hl1]))
   clear a0 a1 d0 d1 d2 d3 K
   go_wp2_with fail
   exact ⟨⟨k + 1, by omega, congrArg _ (by omega), HN2, hHeld⟩, by simp only [RowKit.intOf]; omega⟩
  have hl1' : (1 : Int) < (x.nx.length : Int) := by omega
  refine wp_region_held_drew (S := fun w' => Hid (BX w r s n (some ⟨b, off, none⟩) c L w')) (by kernel_rfl) (Lib.hid (K.out.keep (grown_drew (grown_refl _ none)))) (fun hHeld => ?_)
  refine wpAnyH_take (i := 0) (oi := { dst := some 147, op := Op.fieldAddr 25 (Operand.tmp 1) 3, type := 0, pos := _, after := _, guard := none }) (v := ?_) rfl (by kernel_rfl) (by kernel_rfl) (by kernel_rfl) (fun _ _ _ h => h) (Or.inl ⟨by rfl, ?_⟩) hHeld ?_
  rotate_left 1
  ·intro u hSu
   go_simp
   first | done | with_reducible rfl
  (try simp only [Act.put, zA, zB, zC])
  refine wpAnyH_take (i := 1) (oi := { dst := some 148, op := Op.load 23 (Operand.tmp 147), type := 23, pos := _, after := _, guard := none }) (v := ?_) rfl (by kernel_rfl) (by kernel_rfl) (by kernel_rfl) (fun _ _ _ h => h) (Or.inl ⟨by rfl, ?_⟩) hHeld ?_
  rotate_left 1
  ·intro u hSu
   obtain ⟨d0u, d1u, d2u, d3u⟩ := row4T hSu.out.bx
   obtain ⟨a0u, a1u⟩ := HCC.out _ hSu.out
   go_simp
   first | done | with_reducible rfl
  (try simp only [Act.put, zA, zB, zC])
  refine wpAnyH_take (i := 2) (oi := { dst := some 149, op := Op.move (Operand.tmp 9), type := 3, pos := _, after := _, guard := none }) (v := ?_) rfl (by kernel_rfl) (by kernel_rfl) (by kernel_rfl) (fun _ _ _ h => h) (Or.inl ⟨by rfl, ?_⟩) hHeld ?_
  rotate_left 1
  ·intro u hSu
   go_simp
   first | done | with_reducible rfl
  (try simp only [Act.put, zA, zB, zC])
  refine wpAnyH_take (i := 3) (oi := { dst := some 150, op := Op.indexAddr 23 (Operand.tmp 148) (Operand.tmp 149), type := 0, pos := _, after := _, guard := none }) (v := ?_) rfl (by kernel_rfl) (by kernel_rfl) (by kernel_rfl) (fun _ _ _ h => h) (Or.inl ⟨by rfl, ?_⟩) hHeld ?_
  rotate_left 1
  ·intro u hSu
   go_simp
   first | done | with_reducible rfl
  (try simp only [Act.put, zA, zB, zC])
  refine wpAnyH_take (i := 4) (oi := { dst := some 151, op := Op.fieldAddr 36 (Operand.tmp 150) 1, type := 0, pos := _, after := _, guard := none }) (v := ?_) rfl (by kernel_rfl) (by kernel_rfl) (by kernel_rfl) (fun _ _ _ h => h) (Or.inl ⟨by rfl, ?_⟩) hHeld ?_
  rotate_left 1
  ·intro u hSu
   go_simp
   first | done | with_reducible rfl
  (try simp only [Act.put, zA, zB, zC])
  refine wpAnyH_take (i := 5) (oi := { dst := some 152, op := Op.load 22 (Operand.tmp 151), type := 22, pos := _, after := _, guard := none }) (v := ?_) rfl (by kernel_rfl) (by kernel_rfl) (by kernel_rfl) (fun _ _ _ h => h) (Or.inl ⟨by rfl, ?_⟩) hHeld ?_
  rotate_left 1
  ·intro u hSu
   obtain ⟨d0u, d1u, d2u, d3u⟩ := row4T hSu.out.bx
   obtain ⟨a0u, a1u⟩ := HCC.out _ hSu.out
   go_simp
   first | done | with_reducible rfl
  (try simp only [Act.put, zA, zB, zC])
  refine wpAnyH_take (i := 6) (oi := { dst := some 153, op := Op.call { callee := Callee.builtin Builtin.len, args := #[Operand.tmp 152], argTypes := #[22] }, type := 3, pos := _, after := _, guard := none }) (v := ?_) rfl (by kernel_rfl) (by kernel_rfl) (by kernel_rfl) (fun _ _ _ h => h) (Or.inl ⟨by rfl, ?_⟩) hHeld ?_
  rotate_left 1
  ·intro u hSu
   obtain ⟨d0u, d1u, d2u, d3u⟩ := row4T hSu.out.bx
   obtain ⟨a0u, a1u⟩ := HCC.out _ hSu.out
   go_simp
   first | done | with_reducible rfl
  (try simp only [Act.put, zA, zB, zC])
  refine wpAnyH_take (i := 7) (oi := { dst := some 154, op := Op.binOp BinOp.gtr 3 (Operand.tmp 153) (Operand.const (Value.int IntKind.i64 1)) 3, type := 4, pos := _, after := _, guard := none }) (v := .bool true) rfl (by kernel_rfl) (by kernel_rfl) (by kernel_rfl) (fun _ _ _ h => h) (Or.inl ⟨by rfl, ?_⟩) hHeld ?_
  ·intro u hSu
   go_simp
   first | done | with_reducible rfl | (rw [IntKind.wrap_i64]; omega) | omega
  (try simp only [Act.put, zA, zB, zC])
  refine wpAnyH_take (i := 8) (oi := { dst := some 155, op := Op.move (Operand.tmp 154), type := 4, pos := _, after := _, guard := none }) (v := ?_) rfl (by kernel_rfl) (by kernel_rfl) (by kernel_rfl) (fun _ _ _ h => h) (Or.inl ⟨by rfl, ?_⟩) hHeld ?_
  rotate_left 1
  ·intro u hSu
   go_simp
   first | done | with_reducible rfl
  (try simp only [Act.put, zA, zB, zC])
  refine wpAnyH_take (i := 9) (oi := { dst := some 156, op := Op.fieldAddr 25 (Operand.tmp 1) 3, type := 0, pos := _, after := _, guard := some (8, true) }) (v := ?_) rfl (by kernel_rfl) (by kernel_rfl) (by kernel_rfl) (fun _ _ _ h => h) (Or.inl ⟨by rfl, ?_⟩) hHeld ?_
  rotate_left 1
  ·intro u hSu
   go_simp
   first | done | with_reducible rfl
  (try simp only [Act.put, zA, zB, zC])
  refine wpAnyH_take (i := 10) (oi := { dst := some 157, op := Op.load 23 (Operand.tmp 156), type := 23, pos := _, after := _, guard := some (8, true) }) (v := ?_) rfl (by kernel_rfl) (by kernel_rfl) (by kernel_rfl) (fun _ _ _ h => h) (Or.inl ⟨by rfl, ?_⟩) hHeld ?_
  rotate_left 1
  ·intro u hSu
   obtain ⟨d0u, d1u, d2u, d3u⟩ := row4T hSu.out.bx
   obtain ⟨a0u, a1u⟩ := HCC.out _ hSu.out
   go_simp
   first | done | with_reducible rfl
  (try simp only [Act.put, zA, zB, zC])
  refine wpAnyH_take (i := 11) (oi := { dst := some 158, op := Op.move (Operand.tmp 9), type := 3, pos := _, after := _, guard := some (8, true) }) (v := ?_) rfl (by kernel_rfl) (by kernel_rfl) (by kernel_rfl) (fun _ _ _ h => h) (Or.inl ⟨by rfl, ?_⟩) hHeld ?_
  rotate_left 1
  ·intro u hSu
   go_simp
   first | done | with_reducible rfl
  (try simp only [Act.put, zA, zB, zC])
  refine wpAnyH_take (i := 12) (oi := { dst := some 159, op := Op.indexAddr 23 (Operand.tmp 157) (Operand.tmp 158), type := 0, pos := _, after := _, guard := some (8, true) }) (v := ?_) rfl (by kernel_rfl) (by kernel_rfl) (by kernel_rfl) (fun _ _ _ h => h) (Or.inl ⟨by rfl, ?_⟩) hHeld ?_
  rotate_left 1
  ·intro u hSu
   go_simp
   first | done | with_reducible rfl
  (try simp only [Act.put, zA, zB, zC])
  refine wpAnyH_take (i := 13) (oi := { dst := some 160, op := Op.fieldAddr 36 (Operand.tmp 159) 1, type := 0, pos := _, after := _, guard := some (8, true) }) (v := ?_) rfl (by kernel_rfl) (by kernel_rfl) (by kernel_rfl) (fun _ _ _ h => h) (Or.inl ⟨by rfl, ?_⟩) hHeld ?_
  rotate_left 1
  ·intro u hSu
   go_simp
   first | done | with_reducible rfl
  (try simp only [Act.put, zA, zB, zC])
  refine wpAnyH_take (i := 14) (oi := { dst := some 161, op := Op.load 22 (Operand.tmp 160), type := 22, pos := _, after := _, guard := some (8, true) }) (v := ?_) rfl (by kernel_rfl) (by kernel_rfl) (by kernel_rfl) (fun _ _ _ h => h) (Or.inl ⟨by rfl, ?_⟩) hHeld ?_
  rotate_left 1
  ·intro u hSu
   obtain ⟨d0u, d1u, d2u, d3u⟩ := row4T hSu.out.bx
   obtain ⟨a0u, a1u⟩ := HCC.out _ hSu.out
   go_simp
   first | done | with_reducible rfl
  (try simp only [Act.put, zA, zB, zC])
  refine wpAnyH_take (i := 15) (oi := { dst := some 162, op := Op.fieldAddr 25 (Operand.tmp 1) 0, type := 0, pos := _, after := _, guard := some (8, true) }) (v := ?_) rfl (by kernel_rfl) (by kernel_rfl) (by kernel_rfl) (fun _ _ _ h => h) (Or.inl ⟨by rfl, ?_⟩) hHeld ?_
  rotate_left 1
  ·intro u hSu
   go_simp
   first | done | with_reducible rfl
  (try simp only [Act.put, zA, zB, zC])
  refine wpAnyH_take (i := 16) (oi := { dst := some 163, op := Op.load 3 (Operand.tmp 162), type := 3, pos := _, after := _, guard := some (8, true) }) (v := ?_) rfl (by kernel_rfl) (by kernel_rfl) (by kernel_rfl) (fun _ _ _ h => h) (Or.inl ⟨by rfl, ?_⟩) hHeld ?_
  rotate_left 1
  ·intro u hSu
   obtain ⟨d0u, d1u, d2u, d3u⟩ := row4T hSu.out.bx
   obtain ⟨a0u, a1u⟩ := HCC.out _ hSu.out
   go_simp
   first | done | with_reducible rfl
  (try simp only [Act.put, zA, zB, zC])
  refine wpAnyH_ready (rs := [17]) (by kernel_rfl) (by simp) ?_
  refine AllReadyH.cons (o := { dst := some 164, op := Op.call { callee := Callee.value (Operand.func 58), args := #[Operand.tmp 161, Operand.tmp 163], argTypes := #[22, 3] }, type := 4, pos := _, after := _, guard := some (8, true) }) rfl (fun Kz hK => ?_) AllReadyH.nil
  go_simp
  go_at_call 58
  refine (rhas4_any x.nx r x.p x.c _ _ (hHeld.out.rd.ok x (List.mem_of_getElem? HLX.out)).rd hmx).mono ?_
  rintro e w' ⟨rfl, rfl⟩
  refine hK.out _ _ (hHeld) (fun hH2 => ?_)
  clear hK Kz hHeld
  have hHeld := hH2
  clear hH2
  (try simp only [Act.put, zA, zB, zC])
  refine wpAnyH_take (i := 18) (oi := { dst := some 165, op := Op.pick (Operand.tmp 155) (Operand.tmp 164) (Operand.const (Value.bool false)), type := 4, pos := _, after := _, guard := none }) (v := ?_) rfl (by kernel_rfl) (by kernel_rfl) (by kernel_rfl) (fun _ _ _ h => h) (Or.inl ⟨by rfl, ?_⟩) hHeld ?_
  rotate_left 1
  ·intro u hSu
   go_simp
   first | done | with_reducible rfl
  (try simp only [Act.put, zA, zB, zC])
  refine wpAnyH_done (by kernel_rfl) ?_ _
  cases hcf : hasI x.nx r
  case true =>
   have HE : Hid (cfW r x = true) := Lib.hid (by rw [HCF.out, hcf]; simp [hl1])
   clear hcf a0 a1 d0 d1 d2 d3 K
   go_wp2_with fail
   go_ret
   exact ⟨by rw [ck_cf HD.out HW.out h256 HG.out HO.out.1 HO.out.2 (any_at HLX.out HE.out)]; rfl, hHeld.out.gr⟩
  have HN2 : Hid ((L.take (k + 1)).any (cfW r) = false) := Lib.hid (any_take HN.out HLX.out (by rw [HCF.out, hcf]; simp))
  clear hcf a0 a1 d0 d1 d2 d3 K
  go_wp2_with fail
  exact ⟨⟨k + 1, by omega, congrArg _ (by omega), HN2, hHeld⟩, by simp only [RowKit.intOf]; omega⟩
 obtain rfl : k = L.length := by omega
 have hnl : ¬ (L.length : Int) < (L.length : Int) := by omega
 have HC := Lib.hid (any_end HN.out (Nat.le_refl _))
 go_wp2_with fail
 go_ret
 exact ⟨by rw [ck_z HD.out HW.out h256 HG.out HO.out.1 HO.out.2 HC.out]; rfl, K.out.gr⟩
end Go.Proofs.YtahafijpcmphaaaGreat

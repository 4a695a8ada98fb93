/- Parts of the proof, packed: AdDcK, IoOwnR, IoOwnA, AdROw. -/
import Derived.Test.YtpoocenooomghaaDoorDc14
import Derived.Test.YtpoocenooomghaaDoorDc7
import Derived.Test.YtpoocenooomghaaDoorDc9
import Derived.Test.YtpoocenooomghaaDoorDc12
import Derived.Test.YtpoocenooomghaaDoorDc10
import Derived.Test.YtpoocenooomghaaDoorDc11
/- advert: Encode undoes Decode, and what lies behind 200 bytes does not matter to the fields: the mathematics. -/
namespace Go.Proofs.YtpoocenooomghaaDoor
open Go.RowKit Bs
/-- k bits of bytes from a on. -/
def asg (l : List Nat) (a k : Nat) : List Bool := (List.range k).map fun t => bt l (a + t)
set_option maxRecDepth 100000 in
theorem asg_add (l : List Nat) (a k j : Nat) : asg l a k ++ asg l (a + k) j = asg l a (k + j) := by
  unfold asg
  rw [List.range_add, List.map_append, List.map_map]
  congr 1
  refine List.map_congr_left fun t _ => ?_
  show bt l (a + k + t) = bt l (a + (k + t))
  rw [Nat.add_assoc]
set_option maxRecDepth 100000 in
theorem asg_join {l : List Nat} {a b k j n : Nat} (h : b = a + k) (h2 : n = k + j) : asg l a k ++ asg l b j = asg l a n := by rw [h, h2, asg_add]
set_option maxRecDepth 100000 in
theorem asg_len (l : List Nat) (a k : Nat) : (asg l a k).length = k := by unfold asg; simp
set_option maxRecDepth 100000 in
theorem bf_asg (l : List Nat) (a k i : Nat) (h : i < k) : bf (asg l a k) i = bt l (a + i) := by
  unfold bf asg
  rw [List.getD_eq_getElem?_getD, List.getElem?_map, List.getElem?_range h]; rfl
set_option maxRecDepth 100000 in
theorem nb_asg (l : List Nat) (a k : Nat) : nb (num (bt l) a k) k = asg l a k := by
  unfold nb asg
  refine List.map_congr_left fun t ht => ?_
  have ht := List.mem_range.1 ht
  rw [num_test, show a + (k - 1 - (k - 1 - t)) = a + t by omega]
  have : decide (k - 1 - t < k) = true := by simpa using (by omega : k - 1 - t < k)
  rw [this, Bool.true_and]
set_option maxRecDepth 100000 in
theorem nb_fd (l : List Nat) (a k : Nat) (h : a + k ≤ 8 * l.length) : nb (fd l a k) k = asg l a k := by
  unfold fd
  rw [if_neg (by omega), nb_asg]
set_option maxRecDepth 100000 in
theorem codeN_of {v : Nat} (h : v < 4) : codeN ((8 * 2 ^ v : Nat) : Int) = v := by
  rcases (show v = 0 ∨ v = 1 ∨ v = 2 ∨ v = 3 by omega) with rfl | rfl | rfl | rfl <;> rfl
set_option maxRecDepth 100000 in
theorem flat_rdL (l : List Nat) : ∀ n, 33 + n * 27 ≤ 8 * l.length → (rdL l n).flatMap encR = asg l 33 (n * 27)
  | 0, _ => by unfold rdL asg; simp
  | n + 1, h => by
    rw [rdL_succ, List.flatMap_append, flat_rdL l n (by omega), List.flatMap_cons, List.flatMap_nil, List.append_nil]
    show _ ++ (nb (fd l (33 + n * 27) 7) 7 ++ nb (fd l (33 + n * 27 + 7) 10) 10 ++ nb (fd l (33 + n * 27 + 7 + 10) 10) 10) = _
    rw [nb_fd _ _ _ (by omega), nb_fd _ _ _ (by omega), nb_fd _ _ _ (by omega), asg_add, show 33 + n * 27 + 7 + 10 = 33 + n * 27 + (7 + 10) by omega, asg_add, asg_add]
    congr 1
    omega
set_option maxRecDepth 100000 in
theorem flat_rdC (l : List Nat) (p : Nat) : ∀ n, p + n * 14 ≤ 8 * l.length → (rdC l p n).flatMap encK = asg l p (n * 14)
  | 0, _ => by unfold rdC asg; simp
  | n + 1, h => by
    rw [rdC_succ, List.flatMap_append, flat_rdC l p n (by omega), List.flatMap_cons, List.flatMap_nil, List.append_nil]
    show _ ++ (nb (fd l (p + n * 14) 3) 3 ++ nb (fd l (p + n * 14 + 3) 9) 9 ++ nb (codeN ((8 * 2 ^ fd l (p + n * 14 + 3 + 9) 2 : Nat) : Int)) 2) = _
    rw [codeN_of (fd_lt _ _ 2), nb_fd _ _ _ (by omega), nb_fd _ _ _ (by omega), nb_fd _ _ _ (by omega), asg_add, show p + n * 14 + 3 + 9 = p + n * 14 + (3 + 9) by omega, asg_add, asg_add]
    congr 1
    omega
set_option maxRecDepth 100000 in
/-- The fields of what was read are the bits that were read. -/
theorem adB_asg {l : List Nat} {A : Ad} (h : AdIs l A) (hl : eCm l ≤ 8 * l.length) : adB A = asg l 0 (eCm l) := by
  have hL : A.L.length = nLk l := by rw [h.L, rdL_len]
  have hC : A.C.length = nCm l := by rw [h.C, rdC_len]
  have hcp : A.cp.toNat = fd l 27 1 := by
    have := fd_lt l 27 1
    rw [h.cp]
    rcases (show fd l 27 1 = 0 ∨ fd l 27 1 = 1 by omega) with e | e <;> rw [e] <;> rfl
  have e1 : eCm l = 33 + nLk l * 27 + 4 + nCm l * 14 := rfl
  have e2 : aCm l = 33 + nLk l * 27 := rfl
  have n1 : nb (fd l 0 7) 7 = asg l 0 7 := nb_fd _ _ _ (by omega)
  have n2 : nb (fd l 7 20) 20 = asg l 7 20 := nb_fd _ _ _ (by omega)
  have n3 : nb (fd l 27 1) 1 = asg l 27 1 := nb_fd _ _ _ (by omega)
  have n4 : nb (nLk l) 5 = asg l 28 5 := nb_fd _ _ _ (by omega)
  have n5 : nb (nCm l) 4 = asg l (aCm l) 4 := nb_fd _ _ _ (by omega)
  have j1 : asg l 0 7 ++ asg l 7 20 = asg l 0 27 := asg_join rfl rfl
  have j2 : asg l 0 27 ++ asg l 27 1 = asg l 0 28 := asg_join rfl rfl
  have j3 : asg l 0 28 ++ asg l 28 5 = asg l 0 33 := asg_join rfl rfl
  have j4 : asg l 0 33 ++ asg l 33 (nLk l * 27) = asg l 0 (aCm l) := asg_join rfl e2
  have j5 : asg l 0 (aCm l) ++ asg l (aCm l) 4 = asg l 0 (aCm l + 4) := asg_join (by omega) rfl
  have j6 : asg l 0 (aCm l + 4) ++ asg l (aCm l + 4) (nCm l * 14) = asg l 0 (eCm l) := asg_join (by omega) rfl
  unfold adB cmB mdB lkB hdB
  rw [List.take_length, List.take_length, hL, hC, hcp, h.r, h.q, h.L, h.C, Int.toNat_natCast, Int.toNat_natCast]
  rw [flat_rdL l _ (by omega), flat_rdC l _ _ (by omega), n1, n2, n3, n4, n5, j1, j2, j3, j4, j5, j6]
set_option maxRecDepth 100000 in
/-- What is decoded without an error has these bytes as its encoding. -/
theorem enc_decA {l : List Nat} {A : Ad} (hl : By l) (h : AdIs l A) (he : decE l (vAd A) = 0) : vAd A = true ∧ encA A = l := by
  unfold decE at he
  have h1 : ¬ 8 * l.length < eCm l + 16 := fun hh => by rw [if_pos hh] at he; cases he
  rw [if_neg h1] at he
  have h2 : num (bt l) (eCm l) 16 = Bs.crcB (bt l) (eCm l) := Decidable.byContradiction fun hh => by rw [if_pos hh] at he; cases he
  rw [if_neg (fun hh => hh h2)] at he
  have h3 : num (bt l) (eCm l + 16) ((8 - (eCm l + 16) % 8) % 8) = 0 := Decidable.byContradiction fun hh => by rw [if_pos hh] at he; cases he
  rw [if_neg (fun hh => hh h3)] at he
  have h4 : ¬ (eCm l + 16 + 7) / 8 < l.length := fun hh => by rw [if_pos hh] at he; cases he
  rw [if_neg h4] at he
  have h5 : vAd A = true := by
    cases hv : vAd A
    · rw [hv, if_pos rfl] at he; cases he
    · rfl
  refine ⟨h5, ?_⟩
  obtain ⟨m, hm⟩ : ∃ m, eCm l + 16 = m := ⟨_, rfl⟩
  have hA := adB_asg h (by omega)
  have hk : ck (asg l 0 (eCm l)) = num (bt l) (eCm l) 16 := by
    rw [h2]
    unfold ck
    rw [asg_len]
    refine chk_same _ fun i hi => ?_
    rw [bf_asg _ _ _ _ hi, Nat.zero_add]
  have hB : alB A = asg l 0 m := by
    unfold alB
    rw [hA, hk, nb_asg]
    have := asg_add l 0 (eCm l) 16
    rw [Nat.zero_add, hm] at this
    exact this
  rw [encA_al, hB]
  rw [hm] at h3 h4 h1
  have hz : ∀ i, m ≤ i → i < 8 * l.length → bt l i = false := fun i h6 h7 => by
    obtain ⟨t, rfl⟩ : ∃ t, i = m + t := ⟨i - m, by omega⟩
    have hk := num_test (bt l) m ((8 - m % 8) % 8) ((8 - m % 8) % 8 - 1 - t)
    rw [h3, Nat.zero_testBit, decide_eq_true (by omega), Bool.true_and, show m + ((8 - m % 8) % 8 - 1 - ((8 - m % 8) % 8 - 1 - t)) = m + t by omega] at hk
    exact hk.symm
  refine Eq.trans ?_ (pz_bt l m hl hz).symm
  unfold pk
  rw [asg_len, show (m + 7) / 8 = l.length by omega]
  refine pz_congr fun i hi => ?_
  by_cases him : i < m
  · rw [bf_asg _ _ _ _ him, Nat.zero_add]
  · simp [him]
/-! What lies behind 200 bytes. -/
set_option maxRecDepth 100000 in
theorem bt_take {l : List Nat} {i : Nat} (h : i < 1600) : bt (l.take 200) i = bt l i := by
  unfold bt
  rw [List.getD_eq_getElem?_getD, List.getD_eq_getElem?_getD, List.getElem?_take, if_pos (by omega)]
set_option maxRecDepth 100000 in
theorem fd_take {l : List Nat} {p k : Nat} (hl : 200 < l.length) (h : p + k ≤ 1600) : fd (l.take 200) p k = fd l p k := by
  unfold fd
  rw [List.length_take, Nat.min_eq_left (by omega), if_neg (by omega), if_neg (by omega)]
  exact num_congr k fun t ht => bt_take (by omega)
set_option maxRecDepth 100000 in
theorem nLk_lt (l : List Nat) : nLk l < 32 := fd_lt l 28 5
set_option maxRecDepth 100000 in
theorem nCm_lt (l : List Nat) : nCm l < 16 := fd_lt l _ 4
set_option maxRecDepth 100000 in
theorem nLk_take {l : List Nat} (hl : 200 < l.length) : nLk (l.take 200) = nLk l := fd_take hl (by omega)
set_option maxRecDepth 100000 in
theorem aCm_take {l : List Nat} (hl : 200 < l.length) : aCm (l.take 200) = aCm l := by unfold aCm; rw [nLk_take hl]
set_option maxRecDepth 100000 in
theorem nCm_take {l : List Nat} (hl : 200 < l.length) : nCm (l.take 200) = nCm l := by
  unfold nCm
  rw [aCm_take hl]
  have := nLk_lt l
  exact fd_take hl (by unfold aCm; omega)
set_option maxRecDepth 100000 in
theorem eCm_take {l : List Nat} (hl : 200 < l.length) : eCm (l.take 200) = eCm l := by unfold eCm; rw [aCm_take hl, nCm_take hl]
set_option maxRecDepth 100000 in
theorem eCm_lt (l : List Nat) : eCm l + 23 ≤ 1107 := by
  have h1 := nLk_lt l
  have h2 := nCm_lt l
  unfold eCm aCm
  omega
set_option maxRecDepth 100000 in
theorem decEh_take (l : List Nat) (v : Bool) : decEh (l.take 200) (l.length - 200) v = decE l v := by
  rcases Nat.lt_or_ge 200 l.length with h | h
  · have he := eCm_lt l
    unfold decEh decE
    rw [eCm_take h, List.length_take, Nat.min_eq_left (by omega), if_neg (show ¬ 8 * 200 < eCm l + 16 by omega), if_neg (show ¬ 8 * l.length < eCm l + 16 by omega), show 200 + (l.length - 200) = l.length by omega]
    rw [num_congr (f := bt (l.take 200)) (g := bt l) (a := eCm l) (b := eCm l) 16 fun t ht => bt_take (by omega)]
    rw [num_congr (f := bt (l.take 200)) (g := bt l) (a := eCm l + 16) (b := eCm l + 16) ((8 - (eCm l + 16) % 8) % 8) fun t ht => bt_take (by omega)]
    rw [chk_same (f := bt (l.take 200)) (g := bt l) (eCm l) fun i hi => bt_take (by omega)]
  · rw [List.take_of_length_le h, show l.length - 200 = 0 by omega]
    exact decEh_zero l v
set_option maxRecDepth 100000 in
theorem adOf_take (l : List Nat) : adOf (l.take 200) = adOf l := by
  rcases Nat.lt_or_ge 200 l.length with h | h
  · have h1 := nLk_lt l
    have h2 := nCm_lt l
    have e1 : rdL (l.take 200) (nLk l) = rdL l (nLk l) := by
      unfold rdL
      refine List.map_congr_left fun i hi => ?_
      have hi := List.mem_range.1 hi
      rw [fd_take h (by omega), fd_take h (by omega), fd_take h (by omega)]
    have e2 : rdC (l.take 200) (aCm l + 4) (nCm l) = rdC l (aCm l + 4) (nCm l) := by
      have h3 : aCm l ≤ 870 := by unfold aCm; omega
      unfold rdC
      refine List.map_congr_left fun i hi => ?_
      have hi := List.mem_range.1 hi
      rw [fd_take h (by omega), fd_take h (by omega), fd_take h (by omega)]
    unfold adOf
    rw [fd_take h (by omega), fd_take h (by omega), fd_take h (by omega), nLk_take h, aCm_take h, nCm_take h, e1, e2]
  · rw [List.take_of_length_le h]
set_option maxRecDepth 100000 in
theorem is_take {l : List Nat} {A : Ad} (h : AdIs (l.take 200) A) : AdIs l A := by
  have e := adOf_take l
  have h2 := adOf_is l
  rw [← e] at h2
  have h3 := adOf_is (l.take 200)
  exact ⟨h.r.trans (h3.r.symm.trans h2.r), h.q.trans (h3.q.symm.trans h2.q), h.cp.trans (h3.cp.symm.trans h2.cp), h.L.trans (h3.L.symm.trans h2.L), h.C.trans (h3.C.symm.trans h2.C)⟩
set_option maxRecDepth 100000 in
theorem is_sm {l : List Nat} {A B : Ad} (h : AdIs l A) (h2 : AdIs l B) : smA A B :=
  ⟨h.r.trans h2.r.symm, h.q.trans h2.q.symm, h.cp.trans h2.cp.symm, h.L.trans h2.L.symm, h.C.trans h2.C.symm⟩
set_option maxRecDepth 100000 in
theorem vAd_sm {A B : Ad} (h : smA A B) : vAd A = vAd B := by
  obtain ⟨h1, h2, h3, h4, h5⟩ := h
  unfold vAd vHd
  rw [h1, h2, h4, h5]
end Go.Proofs.YtpoocenooomghaaDoor

/- What the reference's Append gives lies in memory of the call's own. -/
namespace Go.Proofs.YtpoocenooomghaaDoor
open Go.RowKit Bs
def PutsOwn (f : Nat → Bool) (W : World) (b r N j : Nat) (w' : World) : Prop := ∃ p c, BoxAt W b r p c (pz f (N + j) ((N + j + 7) / 8)) ((N + j : Nat) : Int) w' ∧ (1 ≤ j → Own w' (W.heap.size + 2) p c (pz f (N + j) ((N + j + 7) / 8)))
set_option maxRecDepth 100000 in
theorem PutsOwn.open_ {f : Nat → Bool} {W w' : World} {b r N j : Nat} (h : PutsOwn f W b r N j w') : ∃ p c l, Hid (l = pz f (N + j) ((N + j + 7) / 8)) ∧ BoxAt W b r p c l ((N + j : Nat) : Int) w' ∧ (1 ≤ j → Own w' (W.heap.size + 2) p c l) := by
  obtain ⟨p, c, h, h2⟩ := h
  exact ⟨p, c, _, Lib.hid rfl, h, h2⟩
set_option maxRecDepth 100000 in
theorem puts_own_next {f : Nat → Bool} {W w2 : World} {b r N j m base : Nat} {p p' : Option Addr} {c c' : Nat} {l l' : List Nat} {n : Int} (h : Hid (BoxAt W b r p c l n w2)) (hm : N + j = m) (hl : l' = pz f (m + 1) ((m + 8) / 8)) (o : Own w2 base p' c' l')
    (hb : W.heap.size ≤ b) (hbr : b ≠ r) (hb2 : b < base) (hr2 : r < base) (hW : W.heap.size + 2 ≤ base) :
    Hid (PutsOwn f W b r N (j + 1) ((w2.setCell ⟨b, 0, none⟩ (.slice p' l'.length c')).setCell ⟨b, 1, none⟩ (.int .i64 ((m : Int) + 1)))) := by
  subst hm
  subst hl
  exact Lib.hid ⟨p', c', h.out.store o hb hbr hb2 hr2, fun _ => (o.other (grown_store2 w2 b _ _) hb2).mono hW⟩
set_option maxRecDepth 100000 in
set_option maxHeartbeats 3200000 in
theorem appendo_any (l : List Nat) (N : Nat) (v K : Nat) (q : Nat → Prop) (p : Option Addr) (c : Nat) (hl : By l) (hv64 : U64 v) (hpc : p = none → c = 0) (hv : vs l (N : Int) = true) (hk1 : 1 ≤ K) (h : K < 64) (h3 : ¬ 2 ^ K ≤ v) (h4 : ¬ 8192 < N + K) (w : World) (hq : ∀ b, q b → b < w.heap.size) (hR : Rd w q (.slice p l.length c) (l.map nv)) :
    Calls Tryd.prog 58 #[.agg #[.slice p l.length c, .int .i64 (N : Int)], .int .u64 (v : Int), .int .i64 (K : Int)] w fun e w' =>
      ∃ p2 c2, e = .returned (.tuple #[.agg #[.slice p2 (apV l (N : Int) v (K : Int)).1.length c2, .int .i64 (apV l (N : Int) v (K : Int)).2.1], .int .i64 0]) ∧ Own w' (w.heap.size + 2) p2 c2 (apV l (N : Int) v (K : Int)).1 ∧ w.grownBy w' none := by
  have HVS := Lib.hid hv
  clear hv
  obtain ⟨k1, k2, k3, k4⟩ := two_boxes w #[.slice p l.length c, .int .i64 (N : Int)] #[.slice none 0 0, .int .i64 0] 47 47
  have hR1 := hR.keep k3
  have H0 := Lib.hid (show BoxAt w w.heap.size (w.heap.size + 1) p c l (N : Int) _ from ⟨k1, k2, hR1.mono fun x hx => by have := hq x hx; exact ⟨by omega, by omega⟩, hpc, hl, k3⟩)
  have hq1 : ∀ b, q b → b < ((w.alloc (.cells #[.slice p l.length c, .int .i64 (N : Int)] 47)).alloc (.cells #[.slice none 0 0, .int .i64 0] 47)).heap.size := fun b hb => Nat.lt_of_lt_of_le (hq b hb) k3.size
  have HSZ : Hid (w.heap.size + 2 ≤ ((w.alloc (.cells #[.slice p l.length c, .int .i64 (N : Int)] 47)).alloc (.cells #[.slice none 0 0, .int .i64 0] 47)).heap.size) := Lib.hid (Nat.le_of_eq k4.symm)
  clear k1 k2 k3 k4 hR
  go_enter Tryd.func58, Tryd.ntmps58
  go_wp2_with fail
  generalize (w.alloc (.cells #[.slice p l.length c, .int .i64 (N : Int)] 47)).alloc (.cells #[.slice none 0 0, .int .i64 0] 47) = w1 at *
  refine (validr_any l (N : Int) q p c hl _ hq1 hR1).mono ?_
  rintro e w2 ⟨rfl, hg⟩
  have HB := Lib.hid (H0.out.keep hg)
  have HSZ2 : Hid (w.heap.size + 2 ≤ w2.heap.size) := Lib.hid (Nat.le_trans HSZ.out hg.size)
  obtain ⟨c0, c1, f0, f1, r0, r1, g0, g1⟩ := HB.out.limbs
  clear hg hR1 H0 hq1 HSZ
  have hv := HVS.out
  obtain ⟨hN, hlen⟩ := vs_bits hv
  have hw : vw (K : Int) = true := by unfold vw; simp; omega
  have hK : K ≤ 64 := by omega
  rw [hv]
  have hz : (v : Int) / 2 ^ K = 0 := by
    rw [shrW, Nat.div_eq_of_lt (by omega)]; rfl
  have HL : Hid (l = pz (apf l N v K) N ((N + 7) / 8)) := by
    have e := pz_copy (M := l.length) hl hv (Nat.le_refl _) (apf_low (v := v) (K := K))
    rw [hlen] at e
    refine Lib.hid ?_
    rw [← e]; simp [hlen]
  have V := Lib.hid (apV_ok hv hw h3 h4)
  have h4' : ¬ (8192 : Int) < (N : Int) + (K : Int) := by omega
  have P0 : Hid (PutsOwn (apf l N v K) w w.heap.size (w.heap.size + 1) N 0 w2) := by
    refine Lib.hid ⟨p, c, ?_, fun h => by omega⟩
    show BoxAt w w.heap.size (w.heap.size + 1) p c (pz (apf l N v K) N ((N + 7) / 8)) (N : Int) w2
    rw [← HL.out]
    exact HB.out
  have dk1 : decide ((K : Int) < 0) = false := by simp
  have dk2 : decide (64 < (K : Int)) = false := by simp; omega
  clear hv hlen hw HL
  go_wp2_with fail
  go_loopw [8] (fun i wr => ∃ j : Nat, j ≤ K ∧ i = .int .i64 ((K : Int) - 1 - (j : Int)) ∧ PutsOwn (apf l N v K) w w.heap.size (w.heap.size + 1) N j wr ∧ w.heap.size + 2 ≤ wr.heap.size) (fun i _ => (RowKit.intOf i + 1).toNat)
  case atStart => exact ⟨0, Nat.zero_le _, by simp, P0.out, HSZ2.out⟩
  case round =>
    obtain ⟨j, hj, rfl, hP, hsz⟩ := hrel
    obtain ⟨p1, c1, l1, HL1, hB1, hO1⟩ := hP.open_
    have HB1 := Lib.hid hB1
    have HO1 := Lib.hid hO1
    have HZ := Lib.hid hsz
    clear hP hB1 P0 hsz hO1
    by_cases hlt : j < K
    · obtain ⟨i, hi⟩ : ∃ i : Nat, i = K - 1 - j := ⟨_, rfl⟩
      have hii : (K : Int) - 1 - (j : Int) = (i : Int) := by omega
      have hi64 : i < 64 := by omega
      obtain ⟨m, hm⟩ : ∃ m : Nat, N + j = m := ⟨_, rfl⟩
      have hbit : bits .and .u64 ((v : Int) / 2 ^ i) 1 = (((apf l N v K m).toNat : Nat) : Int) := by
        rw [and_one v i hv64, ← hm, apf_high j hlt, hi]
      have hbl := Bool.toNat_le (apf l N v K m)
      have C : ∀ (l1 : List Nat) (p1 : Option Addr) (c1 : Nat), l1 = pz (apf l N v K) m ((m + 7) / 8) → (p1 = none → c1 = 0) → Rd wr (fun x => x ≠ w.heap.size ∧ x ≠ w.heap.size + 1) (.slice p1 l1.length c1) (l1.map nv) → Calls Tryd.prog 61 #[.agg #[.slice p1 l1.length c1, .int .i64 (m : Int)], .int .u64 (((apf l N v K m).toNat : Nat) : Int)] wr fun e w' => StreamPost (pz (apf l N v K) (m + 1) ((m + 8) / 8)) ((m + 1 : Nat) : Int) wr e w' :=
        fun l1 p1 c1 h1 h2 h3 => put_any (apf l N v K) m l1 _ p1 c1 (by omega) h1 h2 wr h3
      rw [hm] at HL1 HB1
      clear HO1
      have H1 := Lib.hid (C l1 p1 c1 HL1.out HB1.out.pc HB1.out.rd)
      obtain ⟨c0, c2, f0, f1, r0, r1, g0, g1⟩ := HB1.out.limbs
      have HI := Lib.hid hi
      have HM := Lib.hid hm
      have hm9 : m ≤ 8192 := by omega
      clear C hi hm
      generalize (apf l N v K m).toNat = bb at *
      rw [hii]
      have HII := Lib.hid hii
      clear hii
      go_wp2_with fail
      refine H1.out.mono ?_
      rintro e w3 ⟨p3, c3, rfl, hown3, hg3⟩
      have hm8 : m / 8 + 1 = (m + 8) / 8 := by omega
      obtain ⟨l3, hl3⟩ : ∃ l3, l3 = pz (apf l N v K) (m + 1) ((m + 8) / 8) := ⟨_, rfl⟩
      rw [← hl3] at hown3
      rw [← hl3]
      have HB3 := Lib.hid (HB1.out.keep hg3)
      have R := puts_own_next (f := apf l N v K) (N := N) (j := j) HB3 HM.out hl3 hown3 (by omega) (by omega) (by have := HZ.out; omega) (by have := HZ.out; omega) HZ.out
      have R2 := Nat.le_trans HZ.out hg3.size
      have R3 := Lib.hid R2
      obtain ⟨c0, c2, f0, f1, r0, r1, g0, g1⟩ := HB3.out.limbs
      clear hown3 hg3 hm8 hl3 R2
      go_wp2_with fail
      go_roundw
      case rel => exact ⟨j + 1, by omega, by congr 1; have := HI.out; omega, R.out, by simpa using R3.out⟩
      case measure => have := HI.out; simp [RowKit.intOf] <;> omega
    · obtain rfl : j = K := by omega
      obtain ⟨c0, c2, f0, f1, r0, r1, g0, g1⟩ := HB1.out.limbs
      have F := Lib.hid (HB1.out.fin (V := apV l (N : Int) v (j : Int)) (by rw [V.out, HL1.out]) (by omega))
      have hoo := ((HO1.out hk1).other (grown_store2 wr (w.heap.size + 1) (.slice p1 l1.length c1) (.int .i64 ((N + j : Nat) : Int))) (by omega))
      have HOO := Lib.hid hoo
      have HLL : Hid (l1 = (apV l (N : Int) v (j : Int)).1) := Lib.hid (by rw [V.out, HL1.out])
      have HGG := Lib.hid (grown_new HB1.out.gr (grown_store2 wr (w.heap.size + 1) (.slice p1 l1.length c1) (.int .i64 ((N + j : Nat) : Int))) (by omega))
      have HNN : Hid (((N + j : Nat) : Int) = (apV l (N : Int) v (j : Int)).2.1) := Lib.hid (by rw [V.out])
      clear HB1 HO1 hoo
      go_wp2_with fail
      refine bodyPost_ret (res_stream_err rfl _ _ (w.heap.size + 1) _ _ rfl F.out.1) rfl ?_
      refine ⟨p1, c1, ?_, ?_, HGG.out⟩
      · rw [← HLL.out, ← HNN.out]; rfl
      · rw [← HLL.out]; exact HOO.out

end Go.Proofs.YtpoocenooomghaaDoor

/- What the reference's Align gives back, where its argument lies in memory of the call's own. -/
namespace Go.Proofs.YtpoocenooomghaaDoor
open Go.RowKit Bs
/-- The bytes lie outside the two boxes. -/
def NB (W : World) (p : Option Addr) (n c : Nat) : Prop := ∀ x, (Value.slice p n c).ownBlock = some x → x ≠ W.heap.size ∧ x ≠ W.heap.size + 1
set_option maxRecDepth 100000 in
theorem own_nb {w : World} {base c : Nat} {p : Option Addr} {l : List Nat} (h : Own w base p c l) : NB w p l.length c := fun x hx => by have := (h.own.lt x hx).2; omega
set_option maxRecDepth 100000 in
theorem Own.apart {w w' : World} {base b c : Nat} {p : Option Addr} {l : List Nat} (h : Own w base p c l) (g : w.grownBy w' (some b)) (hne : (Value.slice p l.length c).ownBlock ≠ some b) : Own w' base p c l := ⟨h.own.kept g (.inr hne), h.pc, h.by_⟩
def AlOwn (f : Nat → Bool) (W : World) (base0 N j : Nat) (w' : World) : Prop := ∃ p c, BoxAt W W.heap.size (W.heap.size + 1) p c (pz f (N + j) ((N + j + 7) / 8)) ((N + j : Nat) : Int) w' ∧ Own w' base0 p c (pz f (N + j) ((N + j + 7) / 8)) ∧ NB W p (pz f (N + j) ((N + j + 7) / 8)).length c
set_option maxRecDepth 100000 in
theorem AlOwn.open_ {f : Nat → Bool} {W w' : World} {base0 N j : Nat} (h : AlOwn f W base0 N j w') : ∃ p c l, Hid (l = pz f (N + j) ((N + j + 7) / 8)) ∧ BoxAt W W.heap.size (W.heap.size + 1) p c l ((N + j : Nat) : Int) w' ∧ Own w' base0 p c l ∧ NB W p l.length c := by
  obtain ⟨p, c, h, h2, h3⟩ := h
  exact ⟨p, c, _, Lib.hid rfl, h, h2, h3⟩
set_option maxRecDepth 100000 in
theorem al_next {f : Nat → Bool} {W w2 : World} {base0 N j m base : Nat} {p p' : Option Addr} {c c' : Nat} {l l' : List Nat} {n : Int} (h : Hid (BoxAt W W.heap.size (W.heap.size + 1) p c l n w2)) (hm : N + j = m) (hl : l' = pz f (m + 1) ((m + 8) / 8)) (o : Own w2 base p' c' l')
    (hW : W.heap.size + 2 ≤ base) (hb0 : base0 ≤ W.heap.size) :
    Hid (AlOwn f W base0 N (j + 1) ((w2.setCell ⟨W.heap.size, 0, none⟩ (.slice p' l'.length c')).setCell ⟨W.heap.size, 1, none⟩ (.int .i64 ((m : Int) + 1)))) := by
  subst hm
  subst hl
  exact Lib.hid ⟨p', c', h.out.store o (Nat.le_refl _) (by omega) (by omega) (by omega), (o.other (grown_store2 w2 W.heap.size _ _) (by omega)).mono (by omega), fun x hx => by have := (o.own.lt x hx).1; omega⟩
set_option maxRecDepth 100000 in
set_option maxHeartbeats 3200000 in
theorem aligno_any (l : List Nat) (N : Nat) (q : Nat → Prop) (p : Option Addr) (c base0 : Nat) (hl : By l) (hpc : p = none → c = 0) (hv : vs l (N : Int) = true) (w : World) (hb0 : base0 ≤ w.heap.size) (ho : Own w base0 p c l) (hq : ∀ b, q b → b < w.heap.size) (hR : Rd w q (.slice p l.length c) (l.map nv)) :
    Calls Tryd.prog 27 #[.agg #[.slice p l.length c, .int .i64 (N : Int)]] w fun e w' =>
      ∃ p2 c2, e = .returned (.tuple #[.agg #[.slice p2 l.length c2, .int .i64 ((8 * l.length : Nat) : Int)], .int .i64 0]) ∧ Own w' base0 p2 c2 l ∧ w.grownBy w' none := by
  obtain ⟨k1, k2, k3, k4⟩ := two_boxes w #[.slice p l.length c, .int .i64 (N : Int)] #[.slice none 0 0, .int .i64 0] 47 47
  have hR1 := hR.keep k3
  have HOI := Lib.hid (And.intro (ho.keep k3) (own_nb ho))
  have HVS := Lib.hid hv
  clear hv ho
  have H0 := Lib.hid (show BoxAt w w.heap.size (w.heap.size + 1) p c l (N : Int) _ from ⟨k1, k2, hR1.mono fun x hx => by have := hq x hx; exact ⟨by omega, by omega⟩, hpc, hl, k3⟩)
  have HZ0 := Lib.hid k4
  have hq1 : ∀ b, q b → b < ((w.alloc (.cells #[.slice p l.length c, .int .i64 (N : Int)] 47)).alloc (.cells #[.slice none 0 0, .int .i64 0] 47)).heap.size := fun b hb => Nat.lt_of_lt_of_le (hq b hb) k3.size
  clear k1 k2 k3 k4 hR
  go_enter Tryd.func27, Tryd.ntmps27
  go_wp2_with fail
  generalize (w.alloc (.cells #[.slice p l.length c, .int .i64 (N : Int)] 47)).alloc (.cells #[.slice none 0 0, .int .i64 0] 47) = w1 at *
  refine (validr_any l (N : Int) q p c hl _ hq1 hR1).mono ?_
  rintro e w2 ⟨rfl, hg⟩
  have hg' := hg
  have HB := Lib.hid (H0.out.keep hg)
  have HSZ2 : Hid (w.heap.size + 2 ≤ w2.heap.size) := Lib.hid (by rw [← HZ0.out]; exact hg.size)
  clear hg hR1 H0 hq1 HZ0
  obtain ⟨c0, c1, f0, f1, r0, r1, g0, g1⟩ := HB.out.limbs
  have HO2 := Lib.hid (And.intro (HOI.out.1.keep hg') HOI.out.2)
  clear HOI hg'
  have hv := HVS.out
  have V := Lib.hid (alV_ok hv)
  obtain ⟨hN, hlen⟩ := vs_bits hv
  rw [hv]
  have P0 : Hid (AlOwn (bt l) w base0 N 0 w2) := by
    refine Lib.hid ⟨p, c, ?_⟩
    show BoxAt w w.heap.size (w.heap.size + 1) p c (pz (bt l) N ((N + 7) / 8)) (N : Int) w2 ∧ Own w2 base0 p c (pz (bt l) N ((N + 7) / 8)) ∧ NB w p (pz (bt l) N ((N + 7) / 8)).length c
    rw [← pz_valid hl hv fun _ _ => rfl]
    exact ⟨HB.out, HO2.out.1, HO2.out.2⟩
  have HV := Lib.hid hv
  have HL := Lib.hid hlen
  clear hv hlen HB f0 f1 r0 r1 g0 g1 c0 c1
  go_wp2_with fail
  go_loopg [] (8 * l.length - N) (fun g wr => ∃ j : Nat, N + j + g = 8 * l.length ∧ AlOwn (bt l) w base0 N j wr ∧ w.heap.size + 2 ≤ wr.heap.size)
  case atStart => exact ⟨0, by have := HL.out; omega, P0.out, HSZ2.out⟩
  case round =>
    obtain ⟨j, hjg, hP, hsz⟩ := hrel
    obtain ⟨p1, c1, l1, HL1, hB1, hO1, hN1⟩ := hP.open_
    have HZ := Lib.hid hsz
    have HJG := Lib.hid hjg
    obtain ⟨m, hm⟩ : ∃ m : Nat, N + j = m := ⟨_, rfl⟩
    rw [hm] at HL1 hB1
    have HO1 := Lib.hid (And.intro hO1 hN1)
    clear hO1 hN1
    have HB1 := Lib.hid hB1
    have hm8 : m ≤ 8 * l.length := by omega
    have hll : l.length ≤ 1025 := by have := HL.out; omega
    obtain ⟨b0, b1, f0, f1, r0, r1, g0, g1⟩ := HB1.out.limbs
    clear hP hB1 P0 hsz
    cases gk with
    | zero =>
      have hz8 : (m : Int) % 8 = 0 := by omega
      have hml : m = 8 * l.length := by omega
      have hl1 : l1 = l := by
        rw [HL1.out, hml, show (8 * l.length + 7) / 8 = l.length by omega]
        exact (pz_bt l (8 * l.length) hl fun i h1 h2 => by omega).symm
      have F := Lib.hid (HB1.out.fin (V := alV l (N : Int)) (by rw [V.out, hl1, hml]) (by omega))
      have gst := grown_store2 wr (w.heap.size + 1) (.slice p1 l1.length c1) (.int .i64 (m : Int))
      have HOO := Lib.hid (Own.apart HO1.out.1 gst (fun e => (HO1.out.2 _ e).2 rfl))
      have HGG := Lib.hid (grown_new HB1.out.gr gst (by omega))
      have HL1e := Lib.hid hl1
      have HMl := Lib.hid hml
      clear HB1 hm hml hl1 hjg gst HO1
      go_wp2_with fail
      refine bodyPost_ret (res_stream_err rfl _ _ (w.heap.size + 1) _ _ rfl F.out.1) rfl ?_
      refine ⟨p1, c1, ?_, ?_, HGG.out⟩
      · rw [← HL1e.out, HMl.out]; rw [HL1e.out]; rfl
      · have := HOO.out
        rw [HL1e.out] at this ⊢
        exact this
    | succ g =>
      have hz8 : ¬ ((m : Int) % 8 = 0) := by have := HL.out; omega
      have hfm : bt l m = false := (vs_iff.1 HV.out).2.2 m (by omega) (by omega)
      have C2 := put_val (f := bt l) (m := m) (x := .int .u64 0) (by rw [bw_false hfm]) l1 _ p1 c1 (by omega) HL1.out HB1.out.pc wr HB1.out.rd
      obtain ⟨l3, hl3⟩ : ∃ l3, l3 = pz (bt l) (m + 1) ((m + 8) / 8) := ⟨_, rfl⟩
      rw [← hl3] at C2
      have H2 := Lib.hid C2
      have HL3 := Lib.hid hl3
      have HM := Lib.hid hm
      have hm9 : m ≤ 9000 := by omega
      clear C2 hl3 hm hfm hjg
      go_wp2_with fail
      refine H2.out.mono ?_
      rintro e w3 ⟨p3, c3, rfl, hown3, hg3⟩
      have HB3 := Lib.hid (HB1.out.keep hg3)
      have R := al_next (f := bt l) (N := N) (j := j) (base0 := base0) HB3 HM.out HL3.out hown3 HZ.out hb0
      have R2 : Hid (w.heap.size + 2 ≤ w3.heap.size) := Lib.hid (Nat.le_trans HZ.out hg3.size)
      clear b0 b1 f0 f1 r0 r1 g0 g1
      obtain ⟨b0, b1, f0, f1, r0, r1, g0, g1⟩ := HB3.out.limbs
      clear hown3 hg3 HB1 HO1
      go_wp2_with fail
      go_roundg g
      case measure => omega
      case rel => exact ⟨j + 1, by have := HJG.out; omega, R.out, by simpa using R2.out⟩
end Go.Proofs.YtpoocenooomghaaDoor

/- The reference's put of adverts: its bytes are new; Align of bytes of one's own. -/
namespace Go.Proofs.YtpoocenooomghaaDoor
open Go.RowKit Bs
set_option maxRecDepth 100000 in
theorem res_strm {fn : Func} {p : Tmp} (h : fn.results = #[.cell p 47]) (tmps : Array Value) (w : World) (g : Nat) (x y : Value) (hp : tmps.getD p undef = .pointer (some ⟨g, 0, none⟩)) (hg : w.heap[g]? = some (.cells #[x, y] 47 (0, 0))) :
    (results fn tmps).run Tryd.prog w = .ok (.agg #[x, y]) w :=
  results_cell_row h tmps w g _ _ _ _ hp hg Tryd.underlying47 rfl stream_size
/-- A stream of these bits is returned, its bytes new. -/
def SPO (B : List Bool) (w : World) (e : Ending) (w' : World) : Prop := ∃ p c, e = .returned (.agg #[.slice p (pk B).length c, .int .i64 (B.length : Int)]) ∧ Own w' w.heap.size p c (pk B) ∧ w.grownBy w' none
set_option maxRecDepth 100000 in
theorem own_rdA {w : World} {base : Nat} {p : Option Addr} {c : Nat} {l : List Nat} (h : Own w base p c l) : Rd w (base ≤ ·) (.slice p l.length c) (l.map nv) := by
  obtain ⟨p1, c1, e1, hx⟩ := rdf_of_own h.own
  exact ⟨p1, c1, by rw [e1, List.length_map], hx⟩
set_option maxRecDepth 100000 in
set_option maxHeartbeats 3200000 in
theorem rputo_any (B : List Bool) (n : Int) (k : Nat) (p : Option Addr) (c : Nat) (q : Nat → Prop) (w : World) (h0 : 0 ≤ n) (hn : n.toNat < 2 ^ k) (hk1 : 1 ≤ k) (hk : k ≤ 20) (hl : B.length + k ≤ 8192) (hpc : p = none → c = 0) (hR : Rd w q (.slice p (pk B).length c) ((pk B).map nv)) :
    Calls Tryd.prog 48 #[.agg #[.slice p (pk B).length c, .int .i64 (B.length : Int)], .int .i64 n, .int .i64 (k : Int)] w fun e w' => SPO (B ++ nb n.toNat k) w e w' := by
  obtain ⟨m, rfl⟩ := Int.eq_ofNat_of_zero_le h0
  rw [Int.toNat_natCast] at hn ⊢
  obtain ⟨k1, k2, k3, k4⟩ := two_boxes w #[.slice p (pk B).length c, .int .i64 (B.length : Int)] #[.slice none 0 0, .int .i64 0] 47 47
  have hm20 : m < 1048576 := Nat.lt_of_lt_of_le hn (Nat.pow_le_pow_right (n := 2) (by decide) hk)
  have HX : Hid (IntKind.u64.wrap (m : Int) = (m : Int)) := Lib.hid (by rw [IntKind.wrap_u64]; omega)
  have hA := appendo_any (pk B) B.length m k _ p c (pk_by B) (by unfold U64; omega) hpc (pk_vs B (by omega)) hk1 (by omega) (Nat.not_le.2 hn) (by omega) _ (fun _ h => h) (hR.keep k3).bound
  rw [apV_pk B m k (by omega) hn hl] at hA
  have HA := Lib.hid hA
  have H0 := Lib.hid (And.intro k1 (And.intro k2 (And.intro k3 k4)))
  clear k1 k2 k3 k4 hR hpc hn h0 hA
  obtain ⟨B2, hB2⟩ : ∃ B2, B ++ nb m k = B2 := ⟨_, rfl⟩
  rw [hB2] at HA ⊢
  clear hB2
  go_enter Tryd.func48, Tryd.ntmps48
  go_upto_region 1 with fail
  generalize ((w.alloc _).alloc _) = wa at *
  obtain ⟨c0, c1⟩ := row_cells H0.out.1
  go_wp2_with fail
  refine HA.out.mono ?_
  rintro e w1 ⟨p2, c2, rfl, hO, hg⟩
  have HO := Lib.hid hO
  have hk1 := World.grownBy_alloc w1 (.cells #[.slice p2 (pk B2).length c2, .int .i64 (B2.length : Int)] 47) none
  have hsz := (grown_trans H0.out.2.2.1 hg).size
  have hsa := H0.out.2.2.1.size
  have H1 := Lib.hid (And.intro (kept_row H0.out.2.1 (grown_trans hg hk1) (by simp)) (And.intro (heap_alloc_new w1 (.cells #[.slice p2 (pk B2).length c2, .int .i64 (B2.length : Int)] 47)) (And.intro hk1 (And.intro trivial (grown_trans H0.out.2.2.1 (grown_trans hg hk1))))))
  have hwa : w.heap.size + 2 = wa.heap.size := H0.out.2.2.2.symm
  clear hg hk1 H0 HA c0 c1 hO hsz hsa
  go_upto_region 2 with fail
  generalize w1.alloc _ = w2 at *
  generalize w1.heap.size = T at *
  obtain ⟨c0, c1⟩ := row_cells H1.out.2.1
  obtain ⟨r0, r1⟩ := row_cells H1.out.1
  have f0 := frozen_of_row _ _ 0 _ _ H1.out.1
  have f1 := frozen_of_row _ _ 1 _ _ H1.out.1
  obtain ⟨t1, t2⟩ := store2c (.slice p2 (pk B2).length c2) (.int .i64 (B2.length : Int)) H1.out.1
  have HT := Lib.hid (And.intro t1 (And.intro (show World.ownsRow _ w.heap.size 5 1 (.slice p2 (pk B2).length c2) (pk B2).length ((pk B2).map nv) from (own_otherA (base := wa.heap.size + 2) (HO.out.own.kept H1.out.2.2.1 (by cases (Value.slice p2 (pk B2).length c2).ownBlock <;> simp)) t2 (by omega)).mono (by omega)) (grown_new H1.out.2.2.2.2 t2 (by omega))))
  clear t1 t2 H1
  go_wp2_with fail
  refine bodyPost_ret (res_strm rfl _ _ (w.heap.size + 1) _ _ rfl HT.out.1) rfl ?_
  exact ⟨p2, c2, rfl, ⟨HT.out.2.1, HO.out.pc, HO.out.by_⟩, HT.out.2.2⟩
set_option maxRecDepth 100000 in
theorem aalign_own {w : World} {B : List Bool} {p : Option Addr} {c base0 : Nat} (h : B.length ≤ 8192) (h0 : 1 ≤ B.length) (ho : Own w base0 p c (pk B)) :
    Calls Tryd.prog 27 #[.agg #[.slice p (pk B).length c, .int .i64 (B.length : Int)]] w fun e w' =>
      ∃ p2 c2, e = .returned (.tuple #[.agg #[.slice p2 (pk B).length c2, .int .i64 ((8 * (pk B).length : Nat) : Int)], .int .i64 0]) ∧ Own w' base0 p2 c2 (pk B) ∧ w.grownBy w' none := by
  have hb : base0 ≤ w.heap.size := by
    obtain ⟨g, cap, he, hg⟩ := own_form ho.own (by rw [pk_len]; omega)
    have h2 := (ho.own.lt g (by rw [he]; rfl)).2
    omega
  exact aligno_any (pk B) B.length _ p c base0 (pk_by B) ho.pc (pk_vs B h) w hb ho (fun _ h => h) ho.rd.bound
end Go.Proofs.YtpoocenooomghaaDoor

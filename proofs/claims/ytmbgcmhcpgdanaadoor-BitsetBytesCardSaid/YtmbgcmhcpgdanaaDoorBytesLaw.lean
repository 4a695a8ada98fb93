/- BitsetBytes: the walk. -/
import Derived.Test.YtmbgcmhcpgdanaaDoorBytes
import Derived.Test.YtmbgcmhcpgdanaaDoorAwake
import Derived.Test.YtmbgcmhcpgdanaaDoorDraw
namespace Go.Proofs.YtmbgcmhcpgdanaaDoor
open Go.RowKit Bs

theorem vb_lt {x N : Nat} (hx : U64 x) (hv : vb x (N : Int) = true) (hN : N ≤ 64) : x < 2 ^ N := by
  unfold vb at hv
  rw [Bool.and_eq_true] at hv
  have h := hv.2
  rw [full_true hv.1, Int.toNat_natCast] at h
  exact lt_of_compl hx hN (by simpa using h)
theorem byl_len (b N : Nat) : (byl b N).length = N / 8 := by unfold byl; simp
theorem byl_getD {b N j : Nat} (h : j < N / 8) : ((byl b N).getD j 0).toNat = b / 2 ^ (N - 8 - 8 * j) % 256 := by
  rw [List.getD_eq_getElem?_getD, List.getElem?_eq_getElem (by rw [byl_len]; exact h)]
  unfold byl byt
  simp
theorem fbn_byl {x N : Nat} (hx : x < 2 ^ N) (hN : 8 * (N / 8) = N) : ∀ j, j ≤ N / 8 → fbn (byl x N) j = x / 2 ^ (N - 8 * j)
  | 0, _ => by rw [fbn, Nat.mul_zero, Nat.sub_zero, Nat.div_eq_of_lt hx]
  | j + 1, h => by
    rw [fbn, fbn_byl hx hN j (by omega), byl_getD (by omega)]
    have e1 : N - 8 * j = (N - 8 - 8 * j) + 8 := by omega
    have e2 : N - 8 * (j + 1) = N - 8 - 8 * j := by omega
    rw [e1, e2, Nat.pow_add, ← Nat.div_div_eq_div_mul]
    generalize x / 2 ^ (N - 8 - 8 * j) = q
    omega
theorem frb_byl {x N : Nat} (hx : U64 x) (hv : vb x (N : Int) = true) (hl : vl (N : Int) = true) : frbV (byl x N) = (x, (N : Int), 0) := by
  have hc : N = 8 ∨ N = 16 ∨ N = 32 ∨ N = 64 := by rcases vl_cases hl with h | h | h | h <;> omega
  have h8 : 8 * (N / 8) = N := by omega
  rw [frbV_ok (by rw [byl_len]; omega), byl_len, h8, fbn_byl (vb_lt hx hv (by omega)) h8 _ (Nat.le_refl _), h8, Nat.sub_self]
  simp
theorem conv_bytes {w : World} {q : Nat → Prop} {v : Value} {l : List UInt8} (hR : Rd w q v (l.map bval)) (h0 : l = [] → v = .slice none 0 0) :
    (convert 49 9 v).run Tryd.prog w = .ok (.string ⟨l.toArray⟩) w := by
  by_cases hl : l = []
  · rw [h0 hl, hl]
    exact Lib.run_convert_nil_bytes (P := Tryd.prog) w 49 9 5 0 Tryd.underlying49 Tryd.underlying5 Tryd.underlying9
  · obtain ⟨p, c, rfl, hc⟩ := hR
    obtain ⟨b, off, rfl, _, hcell⟩ := hc (by simpa using hl)
    rw [List.length_map]
    refine run_convert_bytes_back (P := Tryd.prog) w 49 9 5 ⟨b, off, none⟩ c l Tryd.underlying49 Tryd.underlying5 Tryd.underlying9 (fun j hj => ?_)
    have hadd : (⟨b, off, none⟩ : Addr).add j = ⟨b, off + j, none⟩ := by unfold Addr.add; split <;> simp_all
    rw [hadd]
    exact hcell j _ (by rw [List.getElem?_map, List.getElem?_eq_getElem hj]; rfl)
theorem Rd.take_ {w : World} {q : Nat → Prop} {p : Option Addr} {n c k : Nat} {vs : List Value} (h : Rd w q (.slice p n c) vs) (hk : k ≤ vs.length) : Rd w q (.slice p k c) (vs.take k) := by
  obtain ⟨p1, c1, e1, hx⟩ := h
  injection e1 with a1 a2 a3
  subst a1
  have hl : (vs.take k).length = k := by rw [List.length_take]; omega
  refine ⟨p, c, by rw [hl], fun hne => ?_⟩
  obtain ⟨b, off, hp, hq, hcell⟩ := hx (by intro e; rw [e] at hne; simp at hne)
  refine ⟨b, off, hp, hq, fun i x hi => hcell i x ?_⟩
  rw [List.getElem?_take] at hi
  split at hi
  · exact hi
  · cases hi
theorem FrbPost.ends {l : List UInt8} {w w' : World} {e : Ending} (h : FrbPost l w e w') : ∃ (x : Nat) (y z : Int), e = .returned (.tuple #[.int .u64 (x : Int), .int .i64 y, .int .i64 z]) ∧ Hid (frbV l = (x, y, z)) ∧ w = w' :=
  ⟨(frbV l).1, (frbV l).2.1, (frbV l).2.2, h.1, Lib.hid rfl, h.2⟩
theorem FrbPost.same {l : List UInt8} {w w' : World} {e : Ending} {x : Nat} {y z : Int} (hv : Hid (frbV l = (x, y, z))) (h : FrbPost l w e w') : e = .returned (.tuple #[.int .u64 (x : Int), .int .i64 y, .int .i64 z]) ∧ w = w' := by
  obtain ⟨h1, h2⟩ := h
  rw [hv.out] at h1
  exact ⟨h1, h2⟩
theorem BytesPost.ends {b : Nat} {n : Int} {w w' : World} {e : Ending} (h : BytesPost b n w e w') : ∃ (v : Value) (l : List UInt8) (x : Int), e = .returned (.tuple #[v, .int .i64 x]) ∧ Hid (bytV b n = (l, x)) ∧ Rd w' (w.heap.size ≤ ·) v (l.map bval) ∧ (l = [] → v = .slice none 0 0) ∧ w.grownBy w' none := by
  obtain ⟨v, he, h1, h2, h3⟩ := h
  exact ⟨v, _, _, he, Lib.hid rfl, h1, h2, h3⟩
theorem BytesPost.same {b : Nat} {n : Int} {w w' : World} {e : Ending} {l : List UInt8} {x : Int} (hv : Hid (bytV b n = (l, x))) (h : BytesPost b n w e w') : ∃ v : Value, e = .returned (.tuple #[v, .int .i64 x]) ∧ Rd w' (w.heap.size ≤ ·) v (l.map bval) ∧ (l = [] → v = .slice none 0 0) ∧ w.grownBy w' none := by
  obtain ⟨v, he, h1, h2, h3⟩ := h
  rw [hv.out] at he h1 h2
  exact ⟨v, he, h1, h2, h3⟩
set_option maxRecDepth 100000 in
set_option maxHeartbeats 1600000 in
theorem bytes_walk (v : Value) (b : Nat) (n : Int) (raw : List UInt8) (p4 : Option Addr) (c4 : Nat) (hb : U64 b) (hl4 : raw.length ≤ c4) (hc4 : c4 ≤ 9223372036854775807) (w : World) (hv : IntsIn w v) (hR4 : Rd w (· < w.heap.size) (.slice p4 raw.length c4) (raw.map bval)) (hT : Tb w) :
    Calls Tryd.prog 8 #[v, .int .u64 (b : Int), .int .i64 n, .slice p4 raw.length c4] w fun e w' => Nw (.bool true) w e w' := by
  go_enter Tryd.func8, Tryd.ntmps8
  go_wp2_with fail
  refine (new_any v w hv).mono ?_
  rintro e w1 ⟨rfl, hg1, hT1⟩
  go_wp2_with fail
  refine (length_any _ _ hT1).mono ?_
  rintro e w2 ⟨r, rfl, hr, hs2⟩
  obtain ⟨N, rfl⟩ : ∃ N : Nat, r = (N : Int) := ⟨r.toNat, by rcases vl_cases hr with rfl | rfl | rfl | rfl <;> rfl⟩
  have HRV := Lib.hid hr
  go_wp2_with fail
  refine (bits_any _ (N : Int) hr _ hs2.2).mono ?_
  rintro e w3 ⟨x, rfl, hx, hvx, hs3⟩
  have s13 := hs2.trans hs3
  have g3 := grown_tape hg1 s13.1
  have G3 := Lib.hid g3
  have T3 := hT.keep g3
  have R3 := hR4.keep g3
  have HB := Lib.hid (bytV_ok HRV.out hvx)
  have HF := Lib.hid (frb_byl hx hvx HRV.out)
  have HVX := Lib.hid hvx
  clear hr hs2 hs3 s13 hg1 hT1 hT hR4 g3 hvx
  go_wp2_with fail
  refine (bytesp_any x (N : Int) hx _).mono ?_
  intro e w4 h
  obtain ⟨lv, rfl, hRl, _, hg4⟩ := h.same HB
  clear h
  rw [Int.toNat_natCast] at hRl
  obtain ⟨pl, cl, rfl⟩ := hRl.form (n := (byl x N).length) (by rw [List.length_map])
  go_wp2_with fail
  refine (frbp_any (byl x N) _ pl cl (by rw [byl_len]; have := vl_cases HRV.out; omega) _ hRl).mono ?_
  intro e w' h
  obtain ⟨rfl, rfl⟩ := h.same HF
  clear h hRl
  go_wp2_with fail
  refine (bytesp_any b n hb _).mono ?_
  intro e w5 h
  obtain ⟨mv, lm, xm, rfl, HM, hRm, hm0, hg5⟩ := h.ends
  clear h
  go_wp2_with fail
  refine (bytesr_any b n hb _).mono ?_
  intro e w6 h
  obtain ⟨ov, rfl, hRo, ho0, hg6⟩ := h.same HM
  clear h
  have k1 := conv_bytes (hRm.keep hg6) hm0
  have k2 := conv_bytes hRo ho0
  have g36 := grown_trans hg4 (grown_trans hg5 hg6)
  have G6 := Lib.hid (grown_trans G3.out g36)
  have T6 := T3.keep g36
  have R6 := R3.keep g36
  clear hRm hm0 hRo ho0 hg4 hg5 hg6 g36 T3 R3
  have tail : ∀ (k : Nat) (l : List UInt8), l.length = k → k ≤ 1000 → Rd w6 (· < w.heap.size) (.slice p4 k c4) (l.map bval) →
      ∃ (y : Nat) (z t : Int), (Calls Tryd.prog 48 #[.slice p4 k c4] w6 fun e w' => e = .returned (.tuple #[.int .u64 (y : Int), .int .i64 z, .int .i64 t]) ∧ w6 = w') ∧
        (Calls Tryd.prog 50 #[.slice p4 k c4] w6 fun e w' => e = .returned (.tuple #[.int .u64 (y : Int), .int .i64 z, .int .i64 t]) ∧ w6 = w') := by
    intro k l hk hk2 hR
    subst hk
    exact ⟨_, _, _, (frbp_any l _ p4 c4 hk2 w6 hR), (frbr_any l _ p4 c4 hk2 w6 hR)⟩
  by_cases hbig : 20 < raw.length
  · obtain ⟨y, z, t, C1, C2⟩ := tail 20 (raw.take 20) (by rw [List.length_take]; omega) (by omega) (by rw [List.map_take]; exact R6.take_ (by rw [List.length_map]; omega))
    have H1 := Lib.hid C1
    have H2 := Lib.hid C2
    have b20 : (20 : Int) ≤ (c4 : Int) := by omega
    clear C1 C2 tail R6
    go_wp2_with fail
    refine H1.out.mono ?_
    rintro e w' ⟨rfl, rfl⟩
    go_wp2_with fail
    refine H2.out.mono ?_
    rintro e w' ⟨rfl, rfl⟩
    go_wp2_with fail
    refine (awake_any _ T6).mono ?_
    rintro e w' ⟨rfl, hg⟩
    go_wp2_with fail
    go_ret
    exact ⟨rfl, grown_trans G6.out hg⟩
  · obtain ⟨y, z, t, C1, C2⟩ := tail raw.length raw rfl (by omega) R6
    have H1 := Lib.hid C1
    have H2 := Lib.hid C2
    clear C1 C2 tail R6
    go_wp2_with fail
    refine H1.out.mono ?_
    rintro e w' ⟨rfl, rfl⟩
    go_wp2_with fail
    refine H2.out.mono ?_
    rintro e w' ⟨rfl, rfl⟩
    go_wp2_with fail
    refine (awake_any _ T6).mono ?_
    rintro e w' ⟨rfl, hg⟩
    go_wp2_with fail
    go_ret
    exact ⟨rfl, grown_trans G6.out hg⟩
theorem bytes_all (v v3 : Value) (b : Nat) (n : Int) (zs : List Int) (hb : U64 b) (w : World) (hv : IntsIn w v) (hz : ∀ z ∈ zs, (Lit.int .u8 z).wf = true) (hr : Rd w (· < w.heap.size) v3 (zs.map fun z => .int .u8 z)) (hs : ∃ p c, v3 = .slice p zs.length c ∧ zs.length ≤ c ∧ c ≤ 9223372036854775807) (hT : Tb w) :
    Calls Tryd.prog 8 #[v, .int .u64 (b : Int), .int .i64 n, v3] w fun e w' => Nw (.bool true) w e w' := by
  obtain ⟨p, c, rfl, h1, h2⟩ := hs
  have e : zs.map (fun z => Value.int .u8 z) = (zs.map fun z => UInt8.ofNat z.toNat).map bval := by
    rw [List.map_map]
    apply List.map_congr_left
    intro z h
    have wf := hz z h
    simp [Lit.wf, IntKind.min, IntKind.max, IntKind.bits, IntKind.signed] at wf
    show Value.int .u8 z = .int .u8 (((UInt8.ofNat z.toNat).toNat : Nat) : Int)
    rw [UInt8.toNat_ofNat']
    congr 1
    omega
  rw [e] at hr
  have hl : zs.length = (zs.map fun z => UInt8.ofNat z.toNat).length := by rw [List.length_map]
  rw [hl] at hr h1 ⊢
  exact bytes_walk v b n _ p c hb h1 h2 w hv hr hT
end Go.Proofs.YtmbgcmhcpgdanaaDoor

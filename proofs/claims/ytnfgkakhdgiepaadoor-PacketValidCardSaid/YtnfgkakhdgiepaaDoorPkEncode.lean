/- packet: Encode. -/
import Derived.Test.YtnfgkakhdgiepaaDoorPkValid
import Derived.Test.YtnfgkakhdgiepaaDoorPkWrite
import Derived.Test.YtnfgkakhdgiepaaDoorPkCalls
import Derived.Test.YtnfgkakhdgiepaaDoorPkAlign
import Derived.Deep.CutRange
namespace Go.Proofs.YtnfgkakhdgiepaaDoor
open Go.RowKit Bs
set_option maxRecDepth 100000 in
theorem mask_bit {b n i : Nat} (hb : b < 2 ^ 64) (hi : n ≤ i) (hbi : b.testBit i = true) (h : b &&& ((2 ^ (64 - n) - 1) * 2 ^ n) = 0) : False := by
  have hi2 : i < 64 := by
    refine Nat.lt_of_not_le fun h64 => ?_
    rw [Nat.testBit_lt_two_pow (Nat.lt_of_lt_of_le hb (Nat.pow_le_pow_right (by decide) h64))] at hbi
    cases hbi
  have e := congrArg (fun x : Nat => x.testBit i) h
  simp only [Nat.testBit_and, hbi, Nat.zero_testBit, Bool.true_and, Nat.testBit_mul_two_pow, Nat.testBit_two_pow_sub_one] at e
  simp at e
  omega
set_option maxRecDepth 100000 in
theorem vb_lt {b : Nat} {n : Int} (h : vb b n = true) (hb : U64 b) : b < 2 ^ n.toNat := by
  refine Nat.lt_of_not_le fun hge => ?_
  obtain ⟨i, hi, hbi⟩ := Nat.exists_ge_and_testBit_of_ge_two_pow hge
  have hl := vb_vl h
  unfold vb at h
  have hm := (Bool.and_eq_true _ _ ▸ h).2
  have hm := eq_of_beq hm
  rcases vl_cases hl with rfl | rfl | rfl | rfl
  · exact mask_bit hb hi hbi (by rw [full_val.1] at hm; exact hm)
  · exact mask_bit hb hi hbi (by rw [full_val.2.1] at hm; exact hm)
  · exact mask_bit hb hi hbi (by rw [full_val.2.2.1] at hm; exact hm)
  · exact mask_bit hb hi hbi (by rw [full_val.2.2.2] at hm; exact hm)
/-- While a packet is encoded. -/
structure EN (W : World) (P : Pk) (S : Nat) (B : List Bool) (p : Option Addr) (c : Nat) (w : World) : Prop where
  pb : w.heap[W.heap.size]? = some (.cells (pcells P) 25 (0, 0))
  sb : w.heap[S]? = some (.cells #[.slice p (pk B).length c, .int .i64 (B.length : Int)] 91 (0, 0))
  rd : Rd w (fun b => b ≠ S ∧ W.heap.size ≤ b) (.slice p (pk B).length c) ((pk B).map nv)
  pc : p = none → c = 0
  lo : W.heap.size < S
  gr : W.grownBy w none
section
variable {W w w1 : World} {P : Pk} {S n : Nat} {B B2 : List Bool} {p : Option Addr} {c : Nat}
set_option maxRecDepth 100000 in
theorem EN.keep (H : EN W P S B p c w) (k : w.grownBy w1 none) : EN W P S B p c w1 :=
  ⟨kept_row H.pb k (by simp), kept_row H.sb k (by simp), H.rd.keep k, H.pc, H.lo, grown_trans H.gr k⟩
set_option maxRecDepth 100000 in
theorem EN.lt (H : EN W P S B p c w) : S < w.heap.size := World.lt_of_row' H.sb
set_option maxRecDepth 100000 in
theorem EN.turn (H : EN W P S B p c w) {p2 : Option Addr} {c2 : Nat} (hn : S < n) (hR : Rd w (n ≤ ·) (.slice p2 (pk B2).length c2) ((pk B2).map nv)) (hp : p2 = none → c2 = 0) :
    EN W P S B2 p2 c2 ((w.setCell ⟨S, 0, none⟩ (.slice p2 (pk B2).length c2)).setCell ⟨S, 1, none⟩ (.int .i64 (B2.length : Int))) := by
  have k := grown_store2 w S (.slice p2 (pk B2).length c2) (.int .i64 (B2.length : Int))
  have hlo := H.lo
  exact ⟨kept_row H.pb k (fun e => by have := Option.some.inj e; omega), store2 H.sb, (hR.weaken (q' := fun b => b ≠ S ∧ W.heap.size ≤ b) fun b hb _ => ⟨by omega, by omega⟩).grown k (fun b hb e => hb.1 (Option.some.inj e)), hp, hlo, grown_new H.gr k (by omega)⟩
set_option maxRecDepth 100000 in
theorem EN.facts (H : EN W P S B p c w) : (w.cell? ⟨W.heap.size, 3, none⟩ = some (.int .i64 P.len) ∧ w.cell? ⟨W.heap.size, 8, none⟩ = some (.int .u64 (P.bits : Int)) ∧ w.cell? ⟨W.heap.size, 9, none⟩ = some (.string P.pay)) ∧ w.cell? ⟨S, 0, none⟩ = some (.slice p (pk B).length c) ∧ w.cell? ⟨S, 1, none⟩ = some (.int .i64 (B.length : Int)) ∧ w.frozen? ⟨S, 0, none⟩ = false ∧ w.frozen? ⟨S, 1, none⟩ = false :=
  ⟨⟨cell_of_row _ _ _ _ _ _ H.pb, cell_of_row _ _ _ _ _ _ H.pb, cell_of_row _ _ _ _ _ _ H.pb⟩, (row_cells H.sb).1, (row_cells H.sb).2, frozen_of_row _ _ _ _ _ H.sb, frozen_of_row _ _ _ _ _ H.sb⟩
end
/-- What Encode returns: the bytes of a valid packet lie in a block of their own. -/
def EncPost (P : Pk) (w : World) (e : Ending) (w' : World) : Prop :=
  (vpk P = true ∧ ∃ g, e = .returned (.tuple #[.slice (some ⟨g, 0, none⟩) (enc P).length (enc P).length, .int .i64 0]) ∧ Blk w' g (enc P) ∧ w.heap.size ≤ g ∧ w.grownBy w' none) ∨
  (vpk P = false ∧ e = .returned (.tuple #[.slice none 0 0, .int .i64 1]) ∧ w.grownBy w' none)
set_option maxRecDepth 100000 in
set_option maxHeartbeats 3200000 in
theorem pencode_any (P : Pk) (hP : P.Wf) (w : World) (hT : Tb w) :
    Calls Tryd.prog 23 #[P.val] w fun e w' => EncPost P w e w' := by
  have hval : P.val = .agg #[.int .i64 P.mode, .int .i64 P.sub, .int .i64 P.set, .int .i64 P.len, .int .i64 P.ttl, .int .i64 P.ent, .int .i64 P.ing, .int .i64 P.pro, .int .u64 (P.bits : Int), .string P.pay] := rfl
  rw [hval]
  go_enter Tryd.func23, Tryd.ntmps23
  go_wp2_with fail
  obtain ⟨k1, k2⟩ := one_box w (pcells P) 25
  have HP := Lib.hid (And.intro k1 k2)
  have hTa := hT.keep k2
  clear k1 k2
  unfold pcells at HP hTa
  generalize w.alloc (.cells #[.int .i64 P.mode, .int .i64 P.sub, .int .i64 P.set, .int .i64 P.len, .int .i64 P.ttl, .int .i64 P.ent, .int .i64 P.ing, .int .i64 P.pro, .int .u64 (P.bits : Int), .string P.pay] 25) = wa at *
  change Hid (wa.heap[w.heap.size]? = some (.cells (pcells P) 25 (0, 0)) ∧ w.grownBy wa none) at HP
  rw [← hval]
  refine (pvalid_any P hP _).mono ?_
  rintro e w1 ⟨rfl, hg⟩
  have HQ := Lib.hid (And.intro (kept_row HP.out.1 hg (by simp)) (grown_trans HP.out.2 hg))
  have HT1 := Lib.hid (hTa.keep hg)
  clear hg HP hTa hT
  by_cases hv : vpk P = true
  · rw [hv]
    have HV := Lib.hid hv
    clear hv
    obtain ⟨a0, a1, a2, a3, a4, a5, a6, a7, a8, a9⟩ := p_facts HQ.out.1
    go_wp2_with fail
    rw [← hval]
    refine (writeHeader_any P HV.out w1 HT1.out).mono ?_
    rintro e w3 ⟨p, c, rfl, hR, hpc, hg⟩
    obtain ⟨k1, k2⟩ := one_box w3 #[.slice p (pk (flb (fl P))).length c, .int .i64 ((flb (fl P)).length : Int)] 91
    have H3 : Hid (EN w P w3.heap.size (flb (fl P)) p c (w3.alloc (.cells #[.slice p (pk (flb (fl P))).length c, .int .i64 ((flb (fl P)).length : Int)] 91))) :=
      Lib.hid ⟨kept_row HQ.out.1 (grown_trans hg k2) (by simp), k1, (hR.weaken (q' := fun b => b ≠ w3.heap.size ∧ w.heap.size ≤ b) fun b hb hl => ⟨by omega, Nat.le_trans HQ.out.2.size hb⟩).keep k2, hpc, Nat.lt_of_lt_of_le (World.lt_of_row' HQ.out.1) hg.size, grown_trans HQ.out.2 (grown_trans hg k2)⟩
    have HL49 := Lib.hid (hdr_len P)
    have hvb := (vpk_parts HV.out).2.2.2.2.2.2.2.2
    have HLN : Hid (0 ≤ P.len ∧ P.len.toNat ≤ 64) := Lib.hid (by rcases vl_cases (vb_vl hvb) with h | h | h | h <;> rw [h] <;> decide)
    have HBL := Lib.hid (vb_lt hvb hP.bits)
    clear a0 a1 a2 a3 a4 a5 a6 a7 a8 a9 hR hpc hg k1 k2 HQ HT1 hvb
    obtain ⟨⟨a3, a8, a9⟩, _⟩ := H3.out.facts
    go_wp2_with fail
    obtain ⟨B0, hB0⟩ : ∃ B, B = flb (fl P) := ⟨_, rfl⟩
    rw [← hB0] at H3 HL49 ⊢
    obtain ⟨B1, hB1⟩ : ∃ B, B = B0 ++ nb P.bits P.len.toNat := ⟨_, rfl⟩
    have hA := append_bits (B := B0) (v := P.bits) (k := P.len.toNat) HLN.out.2 HBL.out (by have := HLN.out.2; have := HL49.out; omega) H3.out.rd
    rw [Int.toNat_of_nonneg HLN.out.1, ← hB1] at hA
    have HB0 := Lib.hid hB0
    have HB1 := Lib.hid hB1
    clear hB0 hB1 a3 a8 a9
    generalize w3.alloc (.cells #[.slice p (pk B0).length c, .int .i64 (B0.length : Int)] 91) = w4 at *
    refine hA.mono ?_
    rintro e w5 ⟨p2, c2, rfl, hR2, hp2, hg⟩
    have H5 := Lib.hid (H3.out.keep hg)
    have H6 := Lib.hid (H5.out.turn H3.out.lt hR2 hp2)
    obtain ⟨_, r0, r1, z0, z1⟩ := H5.out.facts
    clear hA hR2 hp2 hg H3 H5
    go_upto_region 5 with fail
    generalize (w5.setCell ⟨w3.heap.size, 0, none⟩ (.slice p2 (pk B1).length c2)).setCell ⟨w3.heap.size, 1, none⟩ (.int .i64 (B1.length : Int)) = w6 at *
    obtain ⟨⟨a3, a8, a9⟩, s0, s1, _⟩ := H6.out.facts
    have hcv := Lib.run_convert_string_bytes (P := Tryd.prog) w6 9 34 5 P.pay Tryd.underlying9 Tryd.underlying34 Tryd.underlying5
    have H7 := Lib.hid (H6.out.keep (bw_grown w6 5 P.pay))
    have HRB := Lib.hid (bw_rd w6 5 P.pay (grownCap w6 P.pay.size 0 5))
    have y9 := H7.out.facts.1.2.2
    have hps : P.pay.size ≤ 64 := (vpk_parts HV.out).2.2.2.2.2.2.2.1
    have HL1 : Hid (B1.length ≤ 113) := Lib.hid (by rw [HB1.out, List.length_append, nb_len]; have := HLN.out.2; have := HL49.out; omega)
    have hJ := join_bits (B := B1) (byl_by P.pay) (by rw [byl_len]; have := HL1.out; omega) H7.out.rd HRB.out
    rw [byl_len, Int.natCast_mul] at hJ
    obtain ⟨B3, hB3⟩ : ∃ B, B = B1 ++ pb (byl P.pay) := ⟨_, rfl⟩
    rw [← hB3] at hJ
    have HB3 := Lib.hid hB3
    have HJ := Lib.hid hJ
    clear r0 r1 z0 z1 hB3 hJ
    go_wp2_with fail
    clear s0 s1 hcv HRB H6 a3 a8 a9 y9
    generalize Lib.bytesWorld w6 5 P.pay = w7 at *
    refine HJ.out.mono ?_
    rintro e w8 ⟨p3, c3, rfl, hR3, hp3, hg⟩
    have H8 := Lib.hid (H7.out.keep hg)
    have H9 := Lib.hid (H8.out.turn H7.out.lt hR3 hp3)
    obtain ⟨_, r0, r1, z0, z1⟩ := H8.out.facts
    clear hR3 hp3 hg H7 H8 HJ
    go_upto_region 6 with fail
    generalize (w8.setCell ⟨w3.heap.size, 0, none⟩ (.slice p3 (pk B3).length c3)).setCell ⟨w3.heap.size, 1, none⟩ (.int .i64 (B3.length : Int)) = w9 at *
    obtain ⟨_, s0, s1, _⟩ := H9.out.facts
    have HL3 : Hid (B3.length ≤ 625) := Lib.hid (by rw [HB3.out, List.length_append, pb_len, byl_len]; have := HL1.out; omega)
    clear r0 r1 z0 z1
    go_wp2_with fail
    refine (check_bits (by have := HL3.out; omega) H9.out.rd).mono ?_
    rintro e wa2 ⟨rfl, hg⟩
    have H10 := Lib.hid (H9.out.keep hg)
    clear s0 s1 hg H9
    obtain ⟨_, s0, s1, z0, z1⟩ := H10.out.facts
    have hA2 := append_bits (B := B3) (v := ck B3) (k := 16) (by decide) (chk_lt _ _) (by have := HL3.out; omega) H10.out.rd
    obtain ⟨B4, hB4⟩ : ∃ B, B = B3 ++ nb (ck B3) 16 := ⟨_, rfl⟩
    rw [← hB4] at hA2
    have HB4 := Lib.hid hB4
    have HA2 := Lib.hid hA2
    have HL4 : Hid (B4.length ≤ 641) := Lib.hid (by rw [hB4, List.length_append, nb_len]; have := HL3.out; omega)
    clear hB4 hA2
    go_wp2_with fail
    refine HA2.out.mono ?_
    rintro e wb ⟨p4, c4, rfl, hR4, hp4, hg⟩
    have H11 := Lib.hid (H10.out.keep hg)
    have H12 := Lib.hid (H11.out.turn H10.out.lt hR4 hp4)
    clear s0 s1 z0 z1
    obtain ⟨_, r0, r1, z0, z1⟩ := H11.out.facts
    clear hR4 hp4 hg H10 H11 HA2
    go_upto_region 8 with fail
    generalize (wb.setCell ⟨w3.heap.size, 0, none⟩ (.slice p4 (pk B4).length c4)).setCell ⟨w3.heap.size, 1, none⟩ (.int .i64 (B4.length : Int)) = wd at *
    obtain ⟨_, s0, s1, _⟩ := H12.out.facts
    clear r0 r1 z0 z1
    go_wp2_with fail
    refine (alignp_own (pk B4) (B4.length : Int) (pk_vs B4 (by have := HL4.out; omega)) _ p4 c4 (pk_by B4) wd H12.out.rd).mono ?_
    rintro e we ⟨g, rfl, hB, hge, hg⟩
    have H13 := Lib.hid (H12.out.keep hg)
    have HLT : Hid (w3.heap.size < g ∧ w.heap.size ≤ g) := Lib.hid ⟨Nat.lt_of_lt_of_le H12.out.lt hge, Nat.le_trans H12.out.gr.size hge⟩
    clear s0 s1
    obtain ⟨_, r0, r1, z0, z1⟩ := H13.out.facts
    have HB5 := Lib.hid hB
    clear hB hge hg H12
    go_wp2_with fail
    have hE : enc P = pk B4 := by unfold enc body; rw [← HB0.out, ← HB1.out, ← HB3.out, ← HB4.out]
    go_ret2
    refine .inl ⟨HV.out, g, by rw [hE]; rfl, ?_, HLT.out.2, ?_⟩
    · rw [hE]; exact HB5.out.grown (grown_store2 we w3.heap.size _ _) (fun e => by have h1 := HLT.out.1; have := Option.some.inj e; omega)
    · exact grown_new H13.out.gr (grown_store2 we w3.heap.size _ _) (by have := H13.out.lo; omega)
  · have hf : vpk P = false := by simpa using hv
    have HF := Lib.hid hf
    rw [hf]
    clear hf hv
    go_wp2_with fail
    go_ret2
    exact .inr ⟨HF.out, rfl, HQ.out.2⟩
end Go.Proofs.YtnfgkakhdgiepaaDoor

/- Parts of the proof, packed: PkEncode, PkRd, PkRes, PkRead, PkMis, IoCheckR, PkBox. -/
import Derived.Test.YtpabfjhjehjebaaDoorSPsh6
import Derived.Deep.CutRange
import Derived.Test.YtpabfjhjehjebaaDoorSPsh4
import Derived.Test.YtpabfjhjehjebaaDoorSPsh5
import Derived.Lib.BufferRead
/- packet: Encode. -/
namespace Go.Proofs.YtpabfjhjehjebaaDoor
open Go.RowKit Bs
set_option maxRecDepth 100000 in
theorem mask_bit {b n i : Nat} (hb : b < 2 ^ 64) (hi : n ≤ i) (hbi : b.testBit i = true) (h : b &&& ((2 ^ (64 - n) - 1) * 2 ^ n) = 0) : False := by
  have hi2 : i < 64 := by
    refine Nat.lt_of_not_le fun h64 => ?_
    rw [Nat.testBit_lt_two_pow (Nat.lt_of_lt_of_le hb (Nat.pow_le_pow_right (by decide) h64))] at hbi
    cases hbi
  have e := congrArg (fun x : Nat => x.testBit i) h
  simp only [Nat.testBit_and, hbi, Nat.zero_testBit, Bool.true_and, Nat.testBit_mul_two_pow, Nat.testBit_two_pow_sub_one] at e
  simp at e
  omega
set_option maxRecDepth 100000 in
theorem vb_lt {b : Nat} {n : Int} (h : vb b n = true) (hb : U64 b) : b < 2 ^ n.toNat := by
  refine Nat.lt_of_not_le fun hge => ?_
  obtain ⟨i, hi, hbi⟩ := Nat.exists_ge_and_testBit_of_ge_two_pow hge
  have hl := vb_vl h
  unfold vb at h
  have hm := (Bool.and_eq_true _ _ ▸ h).2
  have hm := eq_of_beq hm
  rcases vl_cases hl with rfl | rfl | rfl | rfl
  · exact mask_bit hb hi hbi (by rw [full_val.1] at hm; exact hm)
  · exact mask_bit hb hi hbi (by rw [full_val.2.1] at hm; exact hm)
  · exact mask_bit hb hi hbi (by rw [full_val.2.2.1] at hm; exact hm)
  · exact mask_bit hb hi hbi (by rw [full_val.2.2.2] at hm; exact hm)
/-- While a packet is encoded. -/
structure EN (W : World) (P : Pk) (S : Nat) (B : List Bool) (p : Option Addr) (c : Nat) (w : World) : Prop where
  pb : w.heap[W.heap.size]? = some (.cells (pcells P) 31 (0, 0))
  sb : w.heap[S]? = some (.cells #[.slice p (pk B).length c, .int .i64 (B.length : Int)] 74 (0, 0))
  rd : Rd w (fun b => b ≠ S ∧ W.heap.size ≤ b) (.slice p (pk B).length c) ((pk B).map nv)
  pc : p = none → c = 0
  lo : W.heap.size < S
  gr : W.grownBy w none
section
variable {W w w1 : World} {P : Pk} {S n : Nat} {B B2 : List Bool} {p : Option Addr} {c : Nat}
set_option maxRecDepth 100000 in
theorem EN.keep (H : EN W P S B p c w) (k : w.grownBy w1 none) : EN W P S B p c w1 :=
  ⟨kept_row H.pb k (by simp), kept_row H.sb k (by simp), H.rd.keep k, H.pc, H.lo, grown_trans H.gr k⟩
set_option maxRecDepth 100000 in
theorem EN.lt (H : EN W P S B p c w) : S < w.heap.size := World.lt_of_row' H.sb
set_option maxRecDepth 100000 in
theorem EN.turn (H : EN W P S B p c w) {p2 : Option Addr} {c2 : Nat} (hn : S < n) (hR : Rd w (n ≤ ·) (.slice p2 (pk B2).length c2) ((pk B2).map nv)) (hp : p2 = none → c2 = 0) :
    EN W P S B2 p2 c2 ((w.setCell ⟨S, 0, none⟩ (.slice p2 (pk B2).length c2)).setCell ⟨S, 1, none⟩ (.int .i64 (B2.length : Int))) := by
  have k := grown_store2 w S (.slice p2 (pk B2).length c2) (.int .i64 (B2.length : Int))
  have hlo := H.lo
  exact ⟨kept_row H.pb k (fun e => by have := Option.some.inj e; omega), store2 H.sb, (hR.weaken (q' := fun b => b ≠ S ∧ W.heap.size ≤ b) fun b hb _ => ⟨by omega, by omega⟩).grown k (fun b hb e => hb.1 (Option.some.inj e)), hp, hlo, grown_new H.gr k (by omega)⟩
set_option maxRecDepth 100000 in
theorem EN.facts (H : EN W P S B p c w) : (w.cell? ⟨W.heap.size, 3, none⟩ = some (.int .i64 P.len) ∧ w.cell? ⟨W.heap.size, 8, none⟩ = some (.int .u64 (P.bits : Int)) ∧ w.cell? ⟨W.heap.size, 9, none⟩ = some (.string P.pay)) ∧ w.cell? ⟨S, 0, none⟩ = some (.slice p (pk B).length c) ∧ w.cell? ⟨S, 1, none⟩ = some (.int .i64 (B.length : Int)) ∧ w.frozen? ⟨S, 0, none⟩ = false ∧ w.frozen? ⟨S, 1, none⟩ = false :=
  ⟨⟨cell_of_row _ _ _ _ _ _ H.pb, cell_of_row _ _ _ _ _ _ H.pb, cell_of_row _ _ _ _ _ _ H.pb⟩, (row_cells H.sb).1, (row_cells H.sb).2, frozen_of_row _ _ _ _ _ H.sb, frozen_of_row _ _ _ _ _ H.sb⟩
end
/-- What Encode returns: the bytes of a valid packet lie in a block of their own. -/
def EncPost (P : Pk) (w : World) (e : Ending) (w' : World) : Prop :=
  (vpk P = true ∧ ∃ g, e = .returned (.tuple #[.slice (some ⟨g, 0, none⟩) (enc P).length (enc P).length, .int .i64 0]) ∧ Blk w' g (enc P) ∧ w.heap.size ≤ g ∧ w.grownBy w' none) ∨
  (vpk P = false ∧ e = .returned (.tuple #[.slice none 0 0, .int .i64 1]) ∧ w.grownBy w' none)
set_option maxRecDepth 100000 in
set_option maxHeartbeats 3200000 in
theorem pencode_any (P : Pk) (hP : P.Wf) (w : World) (hT : Tb w) :
    Calls Tryd.prog 69 #[P.val] w fun e w' => EncPost P w e w' := by
  have hval : P.val = .agg #[.int .i64 P.mode, .int .i64 P.sub, .int .i64 P.set, .int .i64 P.len, .int .i64 P.ttl, .int .i64 P.ent, .int .i64 P.ing, .int .i64 P.pro, .int .u64 (P.bits : Int), .string P.pay] := rfl
  rw [hval]
  go_enter Tryd.func69, Tryd.ntmps69
  go_wp2_with fail
  obtain ⟨k1, k2⟩ := one_box w (pcells P) 31
  have HP := Lib.hid (And.intro k1 k2)
  have hTa := hT.keep k2
  clear k1 k2
  unfold pcells at HP hTa
  generalize w.alloc (.cells #[.int .i64 P.mode, .int .i64 P.sub, .int .i64 P.set, .int .i64 P.len, .int .i64 P.ttl, .int .i64 P.ent, .int .i64 P.ing, .int .i64 P.pro, .int .u64 (P.bits : Int), .string P.pay] 31) = wa at *
  change Hid (wa.heap[w.heap.size]? = some (.cells (pcells P) 31 (0, 0)) ∧ w.grownBy wa none) at HP
  rw [← hval]
  refine (pvalid_any P hP _).mono ?_
  rintro e w1 ⟨rfl, hg⟩
  have HQ := Lib.hid (And.intro (kept_row HP.out.1 hg (by simp)) (grown_trans HP.out.2 hg))
  have HT1 := Lib.hid (hTa.keep hg)
  clear hg HP hTa hT
  by_cases hv : vpk P = true
  · rw [hv]
    have HV := Lib.hid hv
    clear hv
    obtain ⟨a0, a1, a2, a3, a4, a5, a6, a7, a8, a9⟩ := p_facts HQ.out.1
    go_wp2_with fail
    rw [← hval]
    refine (writeHeader_any P HV.out w1 HT1.out).mono ?_
    rintro e w3 ⟨p, c, rfl, hR, hpc, hg⟩
    obtain ⟨k1, k2⟩ := one_box w3 #[.slice p (pk (flb (fl P))).length c, .int .i64 ((flb (fl P)).length : Int)] 74
    have H3 : Hid (EN w P w3.heap.size (flb (fl P)) p c (w3.alloc (.cells #[.slice p (pk (flb (fl P))).length c, .int .i64 ((flb (fl P)).length : Int)] 74))) :=
      Lib.hid ⟨kept_row HQ.out.1 (grown_trans hg k2) (by simp), k1, (hR.weaken (q' := fun b => b ≠ w3.heap.size ∧ w.heap.size ≤ b) fun b hb hl => ⟨by omega, Nat.le_trans HQ.out.2.size hb⟩).keep k2, hpc, Nat.lt_of_lt_of_le (World.lt_of_row' HQ.out.1) hg.size, grown_trans HQ.out.2 (grown_trans hg k2)⟩
    have HL49 := Lib.hid (hdr_len P)
    have hvb := (vpk_parts HV.out).2.2.2.2.2.2.2.2
    have HLN : Hid (0 ≤ P.len ∧ P.len.toNat ≤ 64) := Lib.hid (by rcases vl_cases (vb_vl hvb) with h | h | h | h <;> rw [h] <;> decide)
    have HBL := Lib.hid (vb_lt hvb hP.bits)
    clear a0 a1 a2 a3 a4 a5 a6 a7 a8 a9 hR hpc hg k1 k2 HQ HT1 hvb
    obtain ⟨⟨a3, a8, a9⟩, _⟩ := H3.out.facts
    go_wp2_with fail
    obtain ⟨B0, hB0⟩ : ∃ B, B = flb (fl P) := ⟨_, rfl⟩
    rw [← hB0] at H3 HL49 ⊢
    obtain ⟨B1, hB1⟩ : ∃ B, B = B0 ++ nb P.bits P.len.toNat := ⟨_, rfl⟩
    have hA := append_bits (B := B0) (v := P.bits) (k := P.len.toNat) HLN.out.2 HBL.out (by have := HLN.out.2; have := HL49.out; omega) H3.out.rd
    rw [Int.toNat_of_nonneg HLN.out.1, ← hB1] at hA
    have HB0 := Lib.hid hB0
    have HB1 := Lib.hid hB1
    clear hB0 hB1 a3 a8 a9
    generalize w3.alloc (.cells #[.slice p (pk B0).length c, .int .i64 (B0.length : Int)] 74) = w4 at *
    refine hA.mono ?_
    rintro e w5 ⟨p2, c2, rfl, hR2, hp2, hg⟩
    have H5 := Lib.hid (H3.out.keep hg)
    have H6 := Lib.hid (H5.out.turn H3.out.lt hR2 hp2)
    obtain ⟨_, r0, r1, z0, z1⟩ := H5.out.facts
    clear hA hR2 hp2 hg H3 H5
    go_upto_region 5 with fail
    generalize (w5.setCell ⟨w3.heap.size, 0, none⟩ (.slice p2 (pk B1).length c2)).setCell ⟨w3.heap.size, 1, none⟩ (.int .i64 (B1.length : Int)) = w6 at *
    obtain ⟨⟨a3, a8, a9⟩, s0, s1, _⟩ := H6.out.facts
    have hcv := Lib.run_convert_string_bytes (P := Tryd.prog) w6 9 23 5 P.pay Tryd.underlying9 Tryd.underlying23 Tryd.underlying5
    have H7 := Lib.hid (H6.out.keep (bw_grown w6 5 P.pay))
    have HRB := Lib.hid (bw_rd w6 5 P.pay (grownCap w6 P.pay.size 0 5))
    have y9 := H7.out.facts.1.2.2
    have hps : P.pay.size ≤ 64 := (vpk_parts HV.out).2.2.2.2.2.2.2.1
    have HL1 : Hid (B1.length ≤ 113) := Lib.hid (by rw [HB1.out, List.length_append, nb_len]; have := HLN.out.2; have := HL49.out; omega)
    have hJ := join_bits (B := B1) (byl_by P.pay) (by rw [byl_len]; have := HL1.out; omega) H7.out.rd HRB.out
    rw [byl_len, Int.natCast_mul] at hJ
    obtain ⟨B3, hB3⟩ : ∃ B, B = B1 ++ pb (byl P.pay) := ⟨_, rfl⟩
    rw [← hB3] at hJ
    have HB3 := Lib.hid hB3
    have HJ := Lib.hid hJ
    clear r0 r1 z0 z1 hB3 hJ
    go_wp2_with fail
    clear s0 s1 hcv HRB H6 a3 a8 a9 y9
    generalize Lib.bytesWorld w6 5 P.pay = w7 at *
    refine HJ.out.mono ?_
    rintro e w8 ⟨p3, c3, rfl, hR3, hp3, hg⟩
    have H8 := Lib.hid (H7.out.keep hg)
    have H9 := Lib.hid (H8.out.turn H7.out.lt hR3 hp3)
    obtain ⟨_, r0, r1, z0, z1⟩ := H8.out.facts
    clear hR3 hp3 hg H7 H8 HJ
    go_upto_region 6 with fail
    generalize (w8.setCell ⟨w3.heap.size, 0, none⟩ (.slice p3 (pk B3).length c3)).setCell ⟨w3.heap.size, 1, none⟩ (.int .i64 (B3.length : Int)) = w9 at *
    obtain ⟨_, s0, s1, _⟩ := H9.out.facts
    have HL3 : Hid (B3.length ≤ 625) := Lib.hid (by rw [HB3.out, List.length_append, pb_len, byl_len]; have := HL1.out; omega)
    clear r0 r1 z0 z1
    go_wp2_with fail
    refine (check_bits (by have := HL3.out; omega) H9.out.rd).mono ?_
    rintro e wa2 ⟨rfl, hg⟩
    have H10 := Lib.hid (H9.out.keep hg)
    clear s0 s1 hg H9
    obtain ⟨_, s0, s1, z0, z1⟩ := H10.out.facts
    have hA2 := append_bits (B := B3) (v := ck B3) (k := 16) (by decide) (chk_lt _ _) (by have := HL3.out; omega) H10.out.rd
    obtain ⟨B4, hB4⟩ : ∃ B, B = B3 ++ nb (ck B3) 16 := ⟨_, rfl⟩
    rw [← hB4] at hA2
    have HB4 := Lib.hid hB4
    have HA2 := Lib.hid hA2
    have HL4 : Hid (B4.length ≤ 641) := Lib.hid (by rw [hB4, List.length_append, nb_len]; have := HL3.out; omega)
    clear hB4 hA2
    go_wp2_with fail
    refine HA2.out.mono ?_
    rintro e wb ⟨p4, c4, rfl, hR4, hp4, hg⟩
    have H11 := Lib.hid (H10.out.keep hg)
    have H12 := Lib.hid (H11.out.turn H10.out.lt hR4 hp4)
    clear s0 s1 z0 z1
    obtain ⟨_, r0, r1, z0, z1⟩ := H11.out.facts
    clear hR4 hp4 hg H10 H11 HA2
    go_upto_region 8 with fail
    generalize (wb.setCell ⟨w3.heap.size, 0, none⟩ (.slice p4 (pk B4).length c4)).setCell ⟨w3.heap.size, 1, none⟩ (.int .i64 (B4.length : Int)) = wd at *
    obtain ⟨_, s0, s1, _⟩ := H12.out.facts
    clear r0 r1 z0 z1
    go_wp2_with fail
    refine (alignp_own (pk B4) (B4.length : Int) (pk_vs B4 (by have := HL4.out; omega)) _ p4 c4 (pk_by B4) wd H12.out.rd).mono ?_
    rintro e we ⟨g, rfl, hB, hge, hg⟩
    have H13 := Lib.hid (H12.out.keep hg)
    have HLT : Hid (w3.heap.size < g ∧ w.heap.size ≤ g) := Lib.hid ⟨Nat.lt_of_lt_of_le H12.out.lt hge, Nat.le_trans H12.out.gr.size hge⟩
    clear s0 s1
    obtain ⟨_, r0, r1, z0, z1⟩ := H13.out.facts
    have HB5 := Lib.hid hB
    clear hB hge hg H12
    go_wp2_with fail
    have hE : enc P = pk B4 := by unfold enc body; rw [← HB0.out, ← HB1.out, ← HB3.out, ← HB4.out]
    go_ret2
    refine .inl ⟨HV.out, g, by rw [hE]; rfl, ?_, HLT.out.2, ?_⟩
    · rw [hE]; exact HB5.out.grown (grown_store2 we w3.heap.size _ _) (fun e => by have h1 := HLT.out.1; have := Option.some.inj e; omega)
    · exact grown_new H13.out.gr (grown_store2 we w3.heap.size _ _) (by have := H13.out.lo; omega)
  · have hf : vpk P = false := by simpa using hv
    have HF := Lib.hid hf
    rw [hf]
    clear hf hv
    go_wp2_with fail
    go_ret2
    exact .inr ⟨HF.out, rfl, HQ.out.2⟩
end Go.Proofs.YtpabfjhjehjebaaDoor

/- packet: the header of a packet is read. -/
namespace Go.Proofs.YtpabfjhjehjebaaDoor
open Go.RowKit Bs
/-- A header's cells behind k fields. -/
def hdc (V : Nat → Nat) (k : Nat) (n : Int) : Array Value := #[.int .i64 ((if 0 < k then V 0 else 0 : Nat) : Int), .int .i64 ((if 1 < k then V 1 else 0 : Nat) : Int), .int .i64 ((if 2 < k then V 2 else 0 : Nat) : Int), .int .i64 ((if 3 < k then V 3 else 0 : Nat) : Int), .int .i64 n, .int .i64 ((if 5 < k then V 5 else 0 : Nat) : Int), .int .i64 ((if 6 < k then V 6 else 0 : Nat) : Int), .int .i64 ((if 7 < k then V 7 else 0 : Nat) : Int), .int .i64 ((if 8 < k then V 8 else 0 : Nat) : Int), .int .u64 0, .string ⟨#[]⟩, .int .i64 ((if 4 < k then V 4 else 0 : Nat) : Int), .int .i64 ((if 9 < k then V 9 else 0 : Nat) : Int)]
def wids : List Nat := [2, 2, 3, 5, 2, 6, 10, 9, 3, 7]
def offs : List Nat := [0, 2, 4, 7, 12, 14, 20, 30, 39, 42, 49]
/-- The number in field k of these bytes. -/
def fv (l : List Nat) (k : Nat) : Nat := num (bt l) (offs.getD k 0) (wids.getD k 0)
set_option maxRecDepth 100000 in
theorem read_at (V : Nat → Nat) (h k : Nat) (hk : k < 10) : ∃ o : Nat, (fcells h)[k * 2]? = some (.pointer (some ⟨h, o, none⟩)) ∧ (fcells h)[k * 2 + 1]? = some (.int .i64 ((wids.getD k 0 : Nat) : Int)) ∧ (hdc V k 0)[o]? = some (.int .i64 0) ∧ (hdc V k 0).setIfInBounds o (.int .i64 ((V k : Nat) : Int)) = hdc V (k + 1) 0 ∧
    offs.getD (k + 1) 0 = offs.getD k 0 + wids.getD k 0 ∧ wids.getD k 0 ≤ 10 ∧ offs.getD k 0 + wids.getD k 0 ≤ 49 := by
  rcases (show k = 0 ∨ k = 1 ∨ k = 2 ∨ k = 3 ∨ k = 4 ∨ k = 5 ∨ k = 6 ∨ k = 7 ∨ k = 8 ∨ k = 9 by omega) with rfl | rfl | rfl | rfl | rfl | rfl | rfl | rfl | rfl | rfl
  · exact ⟨0, rfl, rfl, rfl, rfl, rfl, by decide, by decide⟩
  · exact ⟨1, rfl, rfl, rfl, rfl, rfl, by decide, by decide⟩
  · exact ⟨2, rfl, rfl, rfl, rfl, rfl, by decide, by decide⟩
  · exact ⟨3, rfl, rfl, rfl, rfl, rfl, by decide, by decide⟩
  · exact ⟨11, rfl, rfl, rfl, rfl, rfl, by decide, by decide⟩
  · exact ⟨5, rfl, rfl, rfl, rfl, rfl, by decide, by decide⟩
  · exact ⟨6, rfl, rfl, rfl, rfl, rfl, by decide, by decide⟩
  · exact ⟨7, rfl, rfl, rfl, rfl, rfl, by decide, by decide⟩
  · exact ⟨8, rfl, rfl, rfl, rfl, rfl, by decide, by decide⟩
  · exact ⟨12, rfl, rfl, rfl, rfl, rfl, by decide, by decide⟩
set_option maxRecDepth 100000 in
theorem vs_whole {l : List Nat} (h : 8 * l.length ≤ 8192) : vs l ((8 * l.length : Nat) : Int) = true := vs_iff.2 ⟨h, by omega, fun i h1 h2 => absurd h2 (by omega)⟩
/-- While a header is read. -/
structure RD (W : World) (l : List Nat) (p : Option Addr) (c : Nat) (V : Nat → Nat) (g k : Nat) (w : World) : Prop where
  fb : w.heap[g]? = some (.cells (fcells (W.heap.size + 1)) 111 (0, 0))
  hb : w.heap[W.heap.size + 1]? = some (.cells (hdc V k 0) 88 (0, 0))
  sb : w.heap[W.heap.size + 2]? = some (.cells #[.slice p l.length c, .int .i64 (8 * (l.length : Int))] 74 (0, 0))
  rb : w.heap[W.heap.size]? = some (.cells zcells 88 (0, 0))
  rd : Rd w (· < W.heap.size) (.slice p l.length c) (l.map nv)
  gr : W.grownBy w none
section
variable {W w w1 : World} {l : List Nat} {p : Option Addr} {c : Nat} {V : Nat → Nat} {g k : Nat}
set_option maxRecDepth 100000 in
theorem RD.keep (H : RD W l p c V g k w) (j : w.grownBy w1 none) : RD W l p c V g k w1 :=
  ⟨kept_row H.fb j (by simp), kept_row H.hb j (by simp), kept_row H.sb j (by simp), kept_row H.rb j (by simp), H.rd.keep j, grown_trans H.gr j⟩
set_option maxRecDepth 100000 in
theorem RD.turn (H : RD W l p c V g k w) (hg : W.heap.size + 2 < g) {o : Nat} (ho : (hdc V k 0).setIfInBounds o (.int .i64 ((V k : Nat) : Int)) = hdc V (k + 1) 0) :
    RD W l p c V g (k + 1) (w.setCell ⟨W.heap.size + 1, o, none⟩ (.int .i64 ((V k : Nat) : Int))) := by
  have j := grown_setCell w ⟨W.heap.size + 1, o, none⟩ (.int .i64 ((V k : Nat) : Int))
  refine ⟨kept_row H.fb j (fun e => by have : g = W.heap.size + 1 := Option.some.inj e; omega), ?_, kept_row H.sb j (fun e => by have : W.heap.size + 2 = W.heap.size + 1 := Option.some.inj e; omega), kept_row H.rb j (fun e => by have : W.heap.size = W.heap.size + 1 := Option.some.inj e; omega), H.rd.grown j (fun b hb e => by have : b = W.heap.size + 1 := Option.some.inj e; omega), grown_new H.gr j (by show W.heap.size ≤ W.heap.size + 1; omega)⟩
  rw [← ho]
  exact heap_setCell_same w _ o _ _ _ H.hb
end
end Go.Proofs.YtpabfjhjehjebaaDoor

/- packet: a header's value comes back. -/
namespace Go.Proofs.YtpabfjhjehjebaaDoor
open Go.RowKit Bs
set_option maxRecDepth 100000 in
theorem three_new (w : World) (A B C : Obj) : (((w.alloc A).alloc B).alloc C).heap[w.heap.size]? = some A ∧ (((w.alloc A).alloc B).alloc C).heap[w.heap.size + 1]? = some B ∧ (((w.alloc A).alloc B).alloc C).heap[w.heap.size + 2]? = some C ∧ w.grownBy (((w.alloc A).alloc B).alloc C) none ∧ (((w.alloc A).alloc B).alloc C).heap.size = w.heap.size + 3 := by
  have g1 := World.grownBy_alloc w A none
  have g2 := World.grownBy_alloc (w.alloc A) B none
  have g3 := World.grownBy_alloc ((w.alloc A).alloc B) C none
  have s1 : (w.alloc A).heap.size = w.heap.size + 1 := by simp
  have s2 : ((w.alloc A).alloc B).heap.size = w.heap.size + 2 := by simp
  have h1 := heap_alloc_new w A
  have h2 := heap_alloc_new (w.alloc A) B
  have h3 := heap_alloc_new ((w.alloc A).alloc B) C
  rw [s1] at h2
  rw [s2] at h3
  exact ⟨kept_row (kept_row h1 g2 (by simp)) g3 (by simp), kept_row h2 g3 (by simp), h3, grown_trans g1 (grown_trans g2 g3), by simp⟩
set_option maxRecDepth 100000 in
theorem hput_row {w : World} {h : Nat} (v0 v1 v2 v3 v4 v5 v6 v7 v8 v9 v10 v11 v12 : Value) (hr : w.heap[h]? = some (.cells zcells 88 (0, 0))) :
    (((((((((((((w.setCell ⟨h, 0, none⟩ v0).setCell ⟨h, 1, none⟩ v1).setCell ⟨h, 2, none⟩ v2).setCell ⟨h, 3, none⟩ v3).setCell ⟨h, 4, none⟩ v4).setCell ⟨h, 5, none⟩ v5).setCell ⟨h, 6, none⟩ v6).setCell ⟨h, 7, none⟩ v7).setCell ⟨h, 8, none⟩ v8).setCell ⟨h, 9, none⟩ v9).setCell ⟨h, 10, none⟩ v10).setCell ⟨h, 11, none⟩ v11).setCell ⟨h, 12, none⟩ v12).heap[h]? = some (.cells #[v0, v1, v2, v3, v4, v5, v6, v7, v8, v9, v10, v11, v12] 88 (0, 0)) := by
  have e0 := heap_setCell_same _ h 0 _ _ v0 hr
  generalize w.setCell ⟨h, 0, none⟩ v0 = w0 at *
  replace e0 : w0.heap[h]? = some (.cells #[v0, .int .i64 0, .int .i64 0, .int .i64 0, .int .i64 0, .int .i64 0, .int .i64 0, .int .i64 0, .int .i64 0, .int .u64 0, .string ⟨#[]⟩, .int .i64 0, .int .i64 0] 88 (0, 0)) := e0
  have e1 := heap_setCell_same _ h 1 _ _ v1 e0
  generalize w0.setCell ⟨h, 1, none⟩ v1 = w1 at *
  replace e1 : w1.heap[h]? = some (.cells #[v0, v1, .int .i64 0, .int .i64 0, .int .i64 0, .int .i64 0, .int .i64 0, .int .i64 0, .int .i64 0, .int .u64 0, .string ⟨#[]⟩, .int .i64 0, .int .i64 0] 88 (0, 0)) := e1
  have e2 := heap_setCell_same _ h 2 _ _ v2 e1
  generalize w1.setCell ⟨h, 2, none⟩ v2 = w2 at *
  replace e2 : w2.heap[h]? = some (.cells #[v0, v1, v2, .int .i64 0, .int .i64 0, .int .i64 0, .int .i64 0, .int .i64 0, .int .i64 0, .int .u64 0, .string ⟨#[]⟩, .int .i64 0, .int .i64 0] 88 (0, 0)) := e2
  have e3 := heap_setCell_same _ h 3 _ _ v3 e2
  generalize w2.setCell ⟨h, 3, none⟩ v3 = w3 at *
  replace e3 : w3.heap[h]? = some (.cells #[v0, v1, v2, v3, .int .i64 0, .int .i64 0, .int .i64 0, .int .i64 0, .int .i64 0, .int .u64 0, .string ⟨#[]⟩, .int .i64 0, .int .i64 0] 88 (0, 0)) := e3
  have e4 := heap_setCell_same _ h 4 _ _ v4 e3
  generalize w3.setCell ⟨h, 4, none⟩ v4 = w4 at *
  replace e4 : w4.heap[h]? = some (.cells #[v0, v1, v2, v3, v4, .int .i64 0, .int .i64 0, .int .i64 0, .int .i64 0, .int .u64 0, .string ⟨#[]⟩, .int .i64 0, .int .i64 0] 88 (0, 0)) := e4
  have e5 := heap_setCell_same _ h 5 _ _ v5 e4
  generalize w4.setCell ⟨h, 5, none⟩ v5 = w5 at *
  replace e5 : w5.heap[h]? = some (.cells #[v0, v1, v2, v3, v4, v5, .int .i64 0, .int .i64 0, .int .i64 0, .int .u64 0, .string ⟨#[]⟩, .int .i64 0, .int .i64 0] 88 (0, 0)) := e5
  have e6 := heap_setCell_same _ h 6 _ _ v6 e5
  generalize w5.setCell ⟨h, 6, none⟩ v6 = w6 at *
  replace e6 : w6.heap[h]? = some (.cells #[v0, v1, v2, v3, v4, v5, v6, .int .i64 0, .int .i64 0, .int .u64 0, .string ⟨#[]⟩, .int .i64 0, .int .i64 0] 88 (0, 0)) := e6
  have e7 := heap_setCell_same _ h 7 _ _ v7 e6
  generalize w6.setCell ⟨h, 7, none⟩ v7 = w7 at *
  replace e7 : w7.heap[h]? = some (.cells #[v0, v1, v2, v3, v4, v5, v6, v7, .int .i64 0, .int .u64 0, .string ⟨#[]⟩, .int .i64 0, .int .i64 0] 88 (0, 0)) := e7
  have e8 := heap_setCell_same _ h 8 _ _ v8 e7
  generalize w7.setCell ⟨h, 8, none⟩ v8 = w8 at *
  replace e8 : w8.heap[h]? = some (.cells #[v0, v1, v2, v3, v4, v5, v6, v7, v8, .int .u64 0, .string ⟨#[]⟩, .int .i64 0, .int .i64 0] 88 (0, 0)) := e8
  have e9 := heap_setCell_same _ h 9 _ _ v9 e8
  generalize w8.setCell ⟨h, 9, none⟩ v9 = w9 at *
  replace e9 : w9.heap[h]? = some (.cells #[v0, v1, v2, v3, v4, v5, v6, v7, v8, v9, .string ⟨#[]⟩, .int .i64 0, .int .i64 0] 88 (0, 0)) := e9
  have e10 := heap_setCell_same _ h 10 _ _ v10 e9
  generalize w9.setCell ⟨h, 10, none⟩ v10 = w10 at *
  replace e10 : w10.heap[h]? = some (.cells #[v0, v1, v2, v3, v4, v5, v6, v7, v8, v9, v10, .int .i64 0, .int .i64 0] 88 (0, 0)) := e10
  have e11 := heap_setCell_same _ h 11 _ _ v11 e10
  generalize w10.setCell ⟨h, 11, none⟩ v11 = w11 at *
  replace e11 : w11.heap[h]? = some (.cells #[v0, v1, v2, v3, v4, v5, v6, v7, v8, v9, v10, v11, .int .i64 0] 88 (0, 0)) := e11
  have e12 := heap_setCell_same _ h 12 _ _ v12 e11
  generalize w11.setCell ⟨h, 12, none⟩ v12 = w12 at *
  replace e12 : w12.heap[h]? = some (.cells #[v0, v1, v2, v3, v4, v5, v6, v7, v8, v9, v10, v11, v12] 88 (0, 0)) := e12
  exact e12
set_option maxRecDepth 100000 in
theorem hput_grown (w : World) (h : Nat) (v0 v1 v2 v3 v4 v5 v6 v7 v8 v9 v10 v11 v12 : Value) : w.grownBy (((((((((((((w.setCell ⟨h, 0, none⟩ v0).setCell ⟨h, 1, none⟩ v1).setCell ⟨h, 2, none⟩ v2).setCell ⟨h, 3, none⟩ v3).setCell ⟨h, 4, none⟩ v4).setCell ⟨h, 5, none⟩ v5).setCell ⟨h, 6, none⟩ v6).setCell ⟨h, 7, none⟩ v7).setCell ⟨h, 8, none⟩ v8).setCell ⟨h, 9, none⟩ v9).setCell ⟨h, 10, none⟩ v10).setCell ⟨h, 11, none⟩ v11).setCell ⟨h, 12, none⟩ v12) (some h) := by
  exact grown_trans (grown_trans (grown_trans (grown_trans (grown_trans (grown_trans (grown_trans (grown_trans (grown_trans (grown_trans (grown_trans (grown_trans (grown_setCell _ ⟨h, 0, none⟩ _) (grown_setCell _ ⟨h, 1, none⟩ _)) (grown_setCell _ ⟨h, 2, none⟩ _)) (grown_setCell _ ⟨h, 3, none⟩ _)) (grown_setCell _ ⟨h, 4, none⟩ _)) (grown_setCell _ ⟨h, 5, none⟩ _)) (grown_setCell _ ⟨h, 6, none⟩ _)) (grown_setCell _ ⟨h, 7, none⟩ _)) (grown_setCell _ ⟨h, 8, none⟩ _)) (grown_setCell _ ⟨h, 9, none⟩ _)) (grown_setCell _ ⟨h, 10, none⟩ _)) (grown_setCell _ ⟨h, 11, none⟩ _)) (grown_setCell _ ⟨h, 12, none⟩ _)
set_option maxRecDepth 100000 in
theorem header_size : (Tryd.prog.info? 88).map (·.size) = some 13 := by kernel_rfl
set_option maxRecDepth 100000 in
theorem res_header {fn : Func} {p : Tmp} (h : fn.results = #[.cell p 88]) (tmps : Array Value) (w : World) (g : Nat) (xs : Array Value) (hp : tmps.getD p undef = .pointer (some ⟨g, 0, none⟩)) (hn : xs.size = 13) (hg : w.heap[g]? = some (.cells xs 88 (0, 0))) :
    (results fn tmps).run Tryd.prog w = .ok (.agg xs) w := by
  exact results_cell_row h tmps w g _ _ _ _ hp hg Tryd.underlying88 rfl (by rw [hn]; exact header_size)
set_option maxRecDepth 100000 in
theorem z_cells {w : World} {h : Nat} (hr : w.heap[h]? = some (.cells zcells 88 (0, 0))) :
    w.cell? ⟨h, 0, none⟩ = some (.int .i64 0) ∧ w.cell? ⟨h, 1, none⟩ = some (.int .i64 0) ∧ w.cell? ⟨h, 2, none⟩ = some (.int .i64 0) ∧ w.cell? ⟨h, 3, none⟩ = some (.int .i64 0) ∧ w.cell? ⟨h, 4, none⟩ = some (.int .i64 0) ∧ w.cell? ⟨h, 5, none⟩ = some (.int .i64 0) ∧ w.cell? ⟨h, 6, none⟩ = some (.int .i64 0) ∧ w.cell? ⟨h, 7, none⟩ = some (.int .i64 0) ∧ w.cell? ⟨h, 8, none⟩ = some (.int .i64 0) ∧ w.cell? ⟨h, 9, none⟩ = some (.int .u64 0) ∧ w.cell? ⟨h, 10, none⟩ = some (.string ⟨#[]⟩) ∧ w.cell? ⟨h, 11, none⟩ = some (.int .i64 0) ∧ w.cell? ⟨h, 12, none⟩ = some (.int .i64 0) :=
  ⟨cell_of_row _ _ _ _ _ _ hr, cell_of_row _ _ _ _ _ _ hr, cell_of_row _ _ _ _ _ _ hr, cell_of_row _ _ _ _ _ _ hr, cell_of_row _ _ _ _ _ _ hr, cell_of_row _ _ _ _ _ _ hr, cell_of_row _ _ _ _ _ _ hr, cell_of_row _ _ _ _ _ _ hr, cell_of_row _ _ _ _ _ _ hr, cell_of_row _ _ _ _ _ _ hr, cell_of_row _ _ _ _ _ _ hr, cell_of_row _ _ _ _ _ _ hr, cell_of_row _ _ _ _ _ _ hr⟩
set_option maxRecDepth 100000 in
theorem r_cells {w : World} {h : Nat} {V : Nat → Nat} (hr : w.heap[h]? = some (.cells (hdc V 10 0) 88 (0, 0))) :
    w.cell? ⟨h, 0, none⟩ = some (.int .i64 (V 0 : Int)) ∧ w.cell? ⟨h, 1, none⟩ = some (.int .i64 (V 1 : Int)) ∧ w.cell? ⟨h, 2, none⟩ = some (.int .i64 (V 2 : Int)) ∧ w.cell? ⟨h, 3, none⟩ = some (.int .i64 (V 3 : Int)) ∧ w.cell? ⟨h, 4, none⟩ = some (.int .i64 0) ∧ w.cell? ⟨h, 5, none⟩ = some (.int .i64 (V 5 : Int)) ∧ w.cell? ⟨h, 6, none⟩ = some (.int .i64 (V 6 : Int)) ∧ w.cell? ⟨h, 7, none⟩ = some (.int .i64 (V 7 : Int)) ∧ w.cell? ⟨h, 8, none⟩ = some (.int .i64 (V 8 : Int)) ∧ w.cell? ⟨h, 9, none⟩ = some (.int .u64 0) ∧ w.cell? ⟨h, 10, none⟩ = some (.string ⟨#[]⟩) ∧ w.cell? ⟨h, 11, none⟩ = some (.int .i64 (V 4 : Int)) ∧ w.cell? ⟨h, 12, none⟩ = some (.int .i64 (V 9 : Int)) :=
  ⟨cell_of_row _ _ _ _ _ _ hr, cell_of_row _ _ _ _ _ _ hr, cell_of_row _ _ _ _ _ _ hr, cell_of_row _ _ _ _ _ _ hr, cell_of_row _ _ _ _ _ _ hr, cell_of_row _ _ _ _ _ _ hr, cell_of_row _ _ _ _ _ _ hr, cell_of_row _ _ _ _ _ _ hr, cell_of_row _ _ _ _ _ _ hr, cell_of_row _ _ _ _ _ _ hr, cell_of_row _ _ _ _ _ _ hr, cell_of_row _ _ _ _ _ _ hr, cell_of_row _ _ _ _ _ _ hr⟩
/-- A header's value. -/
def hval (V : Nat → Nat) (n : Int) : Value := .agg (hdc V 10 n)
end Go.Proofs.YtpabfjhjehjebaaDoor

/- packet: the header of a packet is read. -/
namespace Go.Proofs.YtpabfjhjehjebaaDoor
open Go.RowKit Bs
set_option maxRecDepth 100000 in
set_option maxHeartbeats 3200000 in
theorem readHeader_any (l : List Nat) (hl : By l) (h7 : 7 ≤ l.length ∧ l.length ≤ 1000) (q : Nat → Prop) (p : Option Addr) (c : Nat) (w : World) (hR : Rd w q (.slice p l.length c) (l.map nv)) :
    Calls Tryd.prog 57 #[.slice p l.length c] w fun e w' => e = .returned (hval (fv l) (8 * 2 ^ fv l 4)) ∧ w.grownBy w' none := by
  obtain ⟨h71, h72⟩ := h7
  obtain ⟨k1, k2, k3, k4, k5⟩ := three_new w (.cells #[.int .i64 0, .int .i64 0, .int .i64 0, .int .i64 0, .int .i64 0, .int .i64 0, .int .i64 0, .int .i64 0, .int .i64 0, .int .u64 0, .string ⟨#[]⟩, .int .i64 0, .int .i64 0] 88) (.cells #[.int .i64 0, .int .i64 0, .int .i64 0, .int .i64 0, .int .i64 0, .int .i64 0, .int .i64 0, .int .i64 0, .int .i64 0, .int .u64 0, .string ⟨#[]⟩, .int .i64 0, .int .i64 0] 88) (.cells #[.slice p l.length c, .int .i64 (8 * (l.length : Int))] 74)
  have HA := Lib.hid (And.intro k1 (And.intro k2 (And.intro k3 (And.intro k4 k5))))
  have HR := Lib.hid (hR.bound.keep k4)
  clear k1 k2 k3 k4 k5 hR
  go_enter Tryd.func57, Tryd.ntmps57
  go_wp2_with fail
  generalize ((w.alloc (.cells #[.int .i64 0, .int .i64 0, .int .i64 0, .int .i64 0, .int .i64 0, .int .i64 0, .int .i64 0, .int .i64 0, .int .i64 0, .int .u64 0, .string ⟨#[]⟩, .int .i64 0, .int .i64 0] 88)).alloc (.cells #[.int .i64 0, .int .i64 0, .int .i64 0, .int .i64 0, .int .i64 0, .int .i64 0, .int .i64 0, .int .i64 0, .int .i64 0, .int .u64 0, .string ⟨#[]⟩, .int .i64 0, .int .i64 0] 88)).alloc (.cells #[.slice p l.length c, .int .i64 (8 * (l.length : Int))] 74) = wa at *
  refine (fields_any (w.heap.size + 1) _).mono ?_
  rintro e w5 ⟨g, rfl, hfb, hge, hg5⟩
  have HG : Hid (w.heap.size + 2 < g) := Lib.hid (by rw [HA.out.2.2.2.2] at hge; omega)
  have H0 : Hid (RD w l p c (fv l) g 0 w5) := Lib.hid ⟨hfb, kept_row HA.out.2.1 hg5 (by simp), kept_row HA.out.2.2.1 hg5 (by simp), kept_row HA.out.1 hg5 (by simp), HR.out.keep hg5, grown_trans HA.out.2.2.2.1 hg5⟩
  clear hfb hge hg5 HA HR
  go_wp2_with fail
  go_loopw [5, 17] (fun at_ i wr => ∃ k : Nat, k ≤ 10 ∧ i = .int .i64 (k : Int) ∧ at_ = .int .i64 ((offs.getD k 0 : Nat) : Int) ∧ Hid (RD w l p c (fv l) g k wr)) (fun _ i _ => (10 - (intOf i).toNat))
  case atStart => exact ⟨0, Nat.zero_le _, rfl, rfl, H0⟩
  case round =>
    obtain ⟨k, hk, rfl, rfl, hR⟩ := hrel
    clear H0
    by_cases hk2 : k < 10
    · obtain ⟨o, hc0, hc1, hc2, ho, hof, hwd, hle⟩ := read_at (fv l) (w.heap.size + 1) k hk2
      have hfv : fv l k = num (bt l) (offs.getD k 0) (wids.getD k 0) := rfl
      have d0 := (cell_of_row _ _ _ _ _ _ hR.out.fb).trans hc0
      have d1 := (cell_of_row _ _ _ _ _ _ hR.out.fb).trans hc1
      have hxlt : fv l k < 2 ^ (wids.getD k 0) := num_lt _ _ _
      obtain ⟨a2, ha2⟩ : ∃ a2, a2 = offs.getD (k + 1) 0 := ⟨_, rfl⟩
      rw [← ha2] at hof
      generalize offs.getD k 0 = a at *
      generalize wids.getD k 0 = wd at *
      have hok := takeV_ok (l := l) (n := ((8 * l.length : Nat) : Int)) (a := ((a : Nat) : Int)) (k := ((wd : Nat) : Int)) (vs_whole (by omega)) (by unfold vw; simp; omega) (by omega) (by omega)
      rw [Int.toNat_natCast, Int.toNat_natCast, ← hfv, Int.natCast_mul] at hok
      change takeV l (8 * (l.length : Int)) _ _ = _ at hok
      have hx10 : fv l k < 1024 := Nat.lt_of_lt_of_le hxlt (Nat.pow_le_pow_right (n := 2) (by decide) hwd)
      have HO := Lib.hid (And.intro ho hof)
      have HC2 := Lib.hid hc2
      have HA2 := Lib.hid ha2
      have HX := Lib.hid hok
      have HR := hR
      clear hc0 hc1 hc2 hR ho hof hok hxlt hfv ha2
      go_upto_region 7 with fail
      have HRf := Lib.hid (HR.out.keep (World.grownBy_alloc wr (.cells #[.pointer (some ⟨w.heap.size + 1, o, none⟩), .int .i64 (wd : Int)] 111) none))
      have RF := Lib.hid (heap_alloc_new wr (.cells #[.pointer (some ⟨w.heap.size + 1, o, none⟩), .int .i64 (wd : Int)] 111))
      clear d0 d1 HR
      generalize wr.alloc (.cells #[.pointer (some ⟨w.heap.size + 1, o, none⟩), .int .i64 (wd : Int)] 111) = wf at *
      have x0 : wf.cell? ⟨wr.heap.size, 0, none⟩ = some (.pointer (some ⟨w.heap.size + 1, o, none⟩)) := cell_of_row _ _ _ _ _ _ RF.out
      have x1 : wf.cell? ⟨wr.heap.size, 1, none⟩ = some (.int .i64 (wd : Int)) := cell_of_row _ _ _ _ _ _ RF.out
      have s0 : wf.cell? ⟨w.heap.size + 1 + 1, 0, none⟩ = some (.slice p l.length c) := cell_of_row _ _ _ _ _ _ HRf.out.sb
      have s1 : wf.cell? ⟨w.heap.size + 1 + 1, 1, none⟩ = some (.int .i64 (8 * (l.length : Int))) := cell_of_row _ _ _ _ _ _ HRf.out.sb
      go_wp2_with fail
      refine (takep_any l (8 * (l.length : Int)) (a : Int) (wd : Int) _ p c hl (by unfold I64; omega) _ HRf.out.rd).mono ?_
      rintro e w7 ⟨rfl, hg⟩
      rw [HX.out]
      have H7 := Lib.hid (HRf.out.keep hg)
      have hrf := kept_row RF.out hg (by simp)
      have x0 : w7.cell? ⟨wr.heap.size, 0, none⟩ = some (.pointer (some ⟨w.heap.size + 1, o, none⟩)) := cell_of_row _ _ _ _ _ _ hrf
      have x1 : w7.cell? ⟨wr.heap.size, 1, none⟩ = some (.int .i64 (wd : Int)) := cell_of_row _ _ _ _ _ _ hrf
      have t0 := (cell_of_row _ _ _ _ _ _ H7.out.hb).trans HC2.out
      have t1 := frozen_of_row _ _ o _ _ H7.out.hb
      have hne : w.heap.size + 1 ≠ wr.heap.size := fun e => by
        have h1 := RF.out
        rw [← e, HRf.out.hb] at h1
        cases h1
      have H8 := Lib.hid (H7.out.turn HG.out HO.out.1)
      clear hg hrf s0 s1 RF HRf
      go_wp2_with fail
      go_roundw
      case rel => exact ⟨k + 1, by omega, by go_num, by rw [← HA2.out, HO.out.2]; go_num, H8⟩
      case measure => simp [intOf]; omega
    · obtain rfl : k = 10 := by omega
      obtain ⟨c0, c1, c2, c3, c4, c5, c6, c7, c8, c9, c10, c11, c12⟩ := r_cells hR.out.hb
      obtain ⟨z0, z1, z2, z3, z4, z5, z6, z7, z8, z9, z10, z11, z12⟩ := z_cells hR.out.rb
      obtain ⟨f0, f1, f2, f3, f4, f5, f6, f7, f8, f9, f10, f11, f12⟩ := h_facts hR.out.rb
      have fh := frozen_of_row _ _ 4 _ _ hR.out.hb
      have hx4 : fv l 4 < 4 := num_lt _ _ 2
      go_wp2_with fail
      have hw : wrap64 (8 * 2 ^ fv l 4) = 8 * 2 ^ fv l 4 := by
        rcases (show fv l 4 = 0 ∨ fv l 4 = 1 ∨ fv l 4 = 2 ∨ fv l 4 = 3 by omega) with h | h | h | h <;> rw [h] <;> decide +kernel
      rw [hw]
      have gh := grown_setCell wr ⟨w.heap.size + 1, 4, none⟩ (.int .i64 (8 * 2 ^ fv l 4))
      have hrb := kept_row hR.out.rb gh (fun e => by have : w.heap.size = w.heap.size + 1 := Option.some.inj e; omega)
      have gr1 := grown_new hR.out.gr gh (by show w.heap.size ≤ w.heap.size + 1; omega)
      refine bodyPost_ret (res_header rfl _ _ w.heap.size _ rfl rfl (hput_row _ _ _ _ _ _ _ _ _ _ _ _ _ hrb)) rfl ?_
      exact ⟨rfl, grown_new gr1 (hput_grown _ w.heap.size _ _ _ _ _ _ _ _ _ _ _ _ _) (Nat.le_refl _)⟩
end Go.Proofs.YtpabfjhjehjebaaDoor

/- packet: sizes; the mistakes of a header. -/
namespace Go.Proofs.YtpabfjhjehjebaaDoor
open Go.RowKit Bs
set_option maxRecDepth 100000 in
set_option maxHeartbeats 3200000 in
theorem wholeBytes_any (n : Nat) (hn : n ≤ 100000) (w : World) :
    Calls Tryd.prog 56 #[.int .i64 (n : Int)] w fun e w' => e = .returned (.int .i64 (((n + 7) / 8 : Nat) : Int)) ∧ w = w' := by
  go_enter Tryd.func56, Tryd.ntmps56
  go_wp2
  all_goals (go_ret; exact ⟨by go_num, rfl⟩)
set_option maxRecDepth 100000 in
theorem bytesForP_any (n m : Nat) (hn : n ≤ 10000) (hm : m ≤ 1000) (w : World) :
    Calls Tryd.prog 59 #[.int .i64 (n : Int), .int .i64 (m : Int)] w fun e w' => e = .returned (.int .i64 (((49 + n + 8 * m + 16 + 7) / 8 : Nat) : Int)) ∧ w = w' := by
  go_enter Tryd.func59, Tryd.ntmps59
  go_wp2_with (go_at_call 56; rw [show (49 + (n : Int) + 8 * (m : Int) + 16) = ((49 + n + 8 * m + 16 : Nat) : Int) by omega]; refine (wholeBytes_any (49 + n + 8 * m + 16) (by omega) _).mono ?_; rintro e w' ⟨rfl, rfl⟩)
  all_goals (go_ret; exact ⟨rfl, rfl⟩)
/-- The first mistake of a header. -/
def misV (V : Nat → Nat) : Int := if V 0 ≠ 2 then 22 else if V 1 = 0 then 1 else if 256 < V 7 ∨ 64 < V 9 then 2 else 0
set_option maxRecDepth 100000 in
set_option maxHeartbeats 3200000 in
theorem mistake_any (V : Nat → Nat) (n : Int) (h : Nat) (w : World) (hr : w.heap[h]? = some (.cells (hdc V 10 n) 88 (0, 0))) :
    Calls Tryd.prog 58 #[.pointer (some ⟨h, 0, none⟩)] w fun e w' => e = .returned (.int .i64 (misV V)) ∧ w = w' := by
  have c0 : w.cell? ⟨h, 0, none⟩ = some (.int .i64 (V 0 : Int)) := cell_of_row _ _ _ _ _ _ hr
  have c1 : w.cell? ⟨h, 1, none⟩ = some (.int .i64 (V 1 : Int)) := cell_of_row _ _ _ _ _ _ hr
  have c7 : w.cell? ⟨h, 7, none⟩ = some (.int .i64 (V 7 : Int)) := cell_of_row _ _ _ _ _ _ hr
  have c9 : w.cell? ⟨h, 12, none⟩ = some (.int .i64 (V 9 : Int)) := cell_of_row _ _ _ _ _ _ hr
  clear hr
  by_cases h0 : V 0 = 2
  · by_cases h1 : V 1 = 0
    · have hm := Lib.hid (show misV V = 1 by unfold misV; rw [if_neg (by simp [h0]), if_pos h1])
      go_enter Tryd.func58, Tryd.ntmps58
      go_wp2
      all_goals (go_ret; exact ⟨by rw [hm.out]; rfl, rfl⟩)
    · by_cases h2 : 256 < V 7
      · have hm := Lib.hid (show misV V = 2 by unfold misV; rw [if_neg (by simp [h0]), if_neg h1, if_pos (.inl h2)])
        go_enter Tryd.func58, Tryd.ntmps58
        go_wp2
        all_goals (go_ret; exact ⟨by rw [hm.out]; rfl, rfl⟩)
      · by_cases h3 : 64 < V 9
        · have hm := Lib.hid (show misV V = 2 by unfold misV; rw [if_neg (by simp [h0]), if_neg h1, if_pos (.inr h3)])
          go_enter Tryd.func58, Tryd.ntmps58
          go_wp2
          all_goals (go_ret; exact ⟨by rw [hm.out]; rfl, rfl⟩)
        · have hm := Lib.hid (show misV V = 0 by unfold misV; rw [if_neg (by simp [h0]), if_neg h1, if_neg (by omega)])
          go_enter Tryd.func58, Tryd.ntmps58
          go_wp2
          all_goals (go_ret; exact ⟨by rw [hm.out]; rfl, rfl⟩)
  · have hm := Lib.hid (show misV V = 22 by unfold misV; rw [if_pos h0])
    go_enter Tryd.func58, Tryd.ntmps58
    go_wp2
    all_goals (go_ret; exact ⟨by rw [hm.out]; rfl, rfl⟩)
end Go.Proofs.YtpabfjhjehjebaaDoor

/- The reference's check number; Same. -/
namespace Go.Proofs.YtpabfjhjehjebaaDoor
open Go.RowKit Bs
set_option maxRecDepth 100000 in
theorem diff64 {r : Nat} {b : Bool} (hr : r < 65536) : ((r : Int) / 32768 != ((b.toNat : Nat) : Int)) = (r.testBit 15 != b) := by
  have e1 : ((r : Int) / 32768) = (((r.testBit 15).toNat : Nat) : Int) := by rw [← bit15 hr]; omega
  rw [e1, ne_bits]
set_option maxRecDepth 100000 in
theorem shift64 {r : Nat} (hr : r < 65536) : bits .and .u64 ((r : Int) * 2) 65535 = ((2 * r % 65536 : Nat) : Int) := by
  rw [show ((r : Int) * 2) = ((2 * r : Nat) : Int) by omega, show (65535 : Int) = ((2 ^ 16 - 1 : Nat) : Int) from rfl, andU _ _ (u64_mk (by omega)) (u64_mk (by decide)), Nat.and_two_pow_sub_one_eq_mod]
set_option maxRecDepth 100000 in
theorem xor64 {r : Nat} (hr : r < 65536) : bits .xor .u64 (bits .and .u64 ((r : Int) * 2) 65535) 4129 = (((2 * r % 65536) ^^^ 4129 : Nat) : Int) := by
  rw [shift64 hr, show (4129 : Int) = ((4129 : Nat) : Int) from rfl, u64_xor_nat _ _ (by omega) (by decide)]
set_option maxRecDepth 100000 in
set_option maxHeartbeats 3200000 in
theorem checkr_any (l : List Nat) (n : Int) (q : Nat → Prop) (p : Option Addr) (c : Nat) (hl : By l) (w : World) (hq : ∀ b, q b → b < w.heap.size) (hR : Rd w q (.slice p l.length c) (l.map nv)) :
    Calls Tryd.prog 47 #[.agg #[.slice p l.length c, .int .i64 n]] w fun e w' => CheckPost l n w e w' := by
  obtain ⟨k1, k2⟩ := one_box w #[.slice p l.length c, .int .i64 n] 74
  have H0 := Lib.hid (And.intro k1 k2)
  have hR1 := hR.keep k2
  have hq1 : ∀ b, q b → b < (w.alloc (.cells #[.slice p l.length c, .int .i64 n] 74)).heap.size := fun b hb => Nat.lt_of_lt_of_le (hq b hb) k2.size
  clear k1 k2 hR
  go_enter Tryd.func47, Tryd.ntmps47
  go_wp2_with fail
  generalize w.alloc (.cells #[.slice p l.length c, .int .i64 n] 74) = w1 at *
  refine (validr_any l n q p c hl _ hq1 hR1).mono ?_
  rintro e w2 ⟨rfl, hg⟩
  have hrow := kept_row H0.out.1 hg (by simp)
  obtain ⟨c0, c1⟩ := row_cells hrow
  have HG := Lib.hid (grown_trans H0.out.2 hg)
  have hR2 := hR1.keep hg
  clear hrow hg hR1 H0 hq1
  by_cases hv : vs l n = true
  · obtain ⟨N, rfl⟩ := vs_nat hv
    obtain ⟨hN, hlen⟩ := vs_bits hv
    rw [hv]
    have V := Lib.hid (chkV_ok hv)
    have HLEN := Lib.hid hlen
    clear hv hlen
    go_wp2_with fail
    go_loop [4, 5] (fun r i => ∃ j : Nat, j ≤ N ∧ i = .int .i64 (j : Int) ∧ r = .int .u64 ((chk (bt l) j : Nat) : Int)) (fun _ i => (N - (intOf i).toNat))
    case atStart => exact ⟨0, Nat.zero_le _, rfl, rfl⟩
    case round =>
      obtain ⟨j, hj, rfl, rfl⟩ := hrel
      have hrlt := chk_lt (bt l) j
      generalize hrr : chk (bt l) j = r at *
      have HRR := Lib.hid hrr
      clear hrr
      by_cases hlt : j < N
      · have C := bitr_any l j q p c hl (by have := HLEN.out; omega) (by omega) w2 hR2
        unfold bw at C
        have D := diff64 (b := bt l j) hrlt
        have HC : Hid (chk (bt l) (j + 1) = stp r (bt l j)) := by
          show chk (bt l) (j + 1) = _
          rw [chk, HRR.out]
        have H1 := Lib.hid C
        clear C
        generalize hbb : bt l j = b at *
        clear hbb
        by_cases hd : (r.testBit 15 != b) = true
        · rw [hd] at D
          have S : Hid (bits .xor .u64 (bits .and .u64 ((r : Int) * 2) 65535) 4129 = ((chk (bt l) (j + 1) : Nat) : Int)) := by
            show _ = _
            rw [HC.out, stp_diff hd, xor64 hrlt]
          generalize b.toNat = bn at *
          go_wp2_with (go_at_call 78; refine H1.out.mono ?_; rintro e w' ⟨rfl, rfl⟩)
          go_round
          case rel => exact ⟨j + 1, by omega, by go_num, by rw [S.out]⟩
          case measure => simp [intOf]; omega
        · have hd0 : (r.testBit 15 != b) = false := by simpa using hd
          rw [hd0] at D
          have S : Hid (bits .and .u64 ((r : Int) * 2) 65535 = ((chk (bt l) (j + 1) : Nat) : Int)) := by
            show _ = _
            rw [HC.out, stp_same hd0, shift64 hrlt]
          clear hd
          generalize b.toNat = bn at *
          go_wp2_with (go_at_call 78; refine H1.out.mono ?_; rintro e w' ⟨rfl, rfl⟩)
          go_round
          case rel => exact ⟨j + 1, by omega, by go_num, by rw [S.out]⟩
          case measure => simp [intOf]; omega
      · obtain rfl : j = N := by omega
        go_wp2_with fail
        go_ret2
        exact check_end (by rw [V.out, HRR.out]) HG.out
  · have hv0 : vs l n = false := by simpa using hv
    have V := Lib.hid (chkV_inv hv0)
    rw [hv0]
    go_wp2_with fail
    go_ret2
    exact check_end V.out HG.out
/-- Bytes as a string of the model. -/
def bs (l : List Nat) : ByteArray := ⟨(l.map fun x => UInt8.ofNat x).toArray⟩
set_option maxRecDepth 100000 in
theorem conv_nv {w : World} {q : Nat → Prop} {p : Option Addr} {k c : Nat} {l : List Nat} (hl : By l) (hk : k = l.length) (hR : Rd w q (.slice p k c) (l.map nv)) (hpc : p = none → c = 0) :
    (convert 23 9 (.slice p k c)).run Tryd.prog w = .ok (.string (bs l)) w := by
  subst hk
  have hmap : ∀ x ∈ l, nv x = .int .u8 (((UInt8.ofNat x).toNat : Nat) : Int) := by
    intro x hx
    have := hl x hx
    unfold nv
    rw [UInt8.toNat_ofNat', Nat.mod_eq_of_lt this]
  cases p with
  | none =>
    obtain rfl := hpc rfl
    obtain rfl : l = [] := by
      obtain ⟨p1, c1, e1, hx⟩ := hR
      injection e1 with a1 a2 a3
      subst a1
      cases l with
      | nil => rfl
      | cons y r => obtain ⟨b, off, hp, _⟩ := hx (by simp); cases hp
    exact Lib.run_convert_nil_bytes (P := Tryd.prog) w 23 9 5 0 Tryd.underlying23 Tryd.underlying5 Tryd.underlying9
  | some ad =>
    have e : l.length = (l.map fun x => UInt8.ofNat x).length := by simp
    rw [e]
    refine run_convert_bytes_back (P := Tryd.prog) w 23 9 5 ad c (l.map fun x => UInt8.ofNat x) Tryd.underlying23 Tryd.underlying5 Tryd.underlying9 (fun j hj => ?_)
    have hj' : j < l.length := by simpa using hj
    have := hR.news j (nv (l[j])) (by rw [List.getElem?_map, List.getElem?_eq_getElem hj']; rfl)
    rw [this, hmap _ (List.getElem_mem hj')]
    simp
/-- Whether two streams are one. -/
def same (l : List Nat) (n : Int) (l' : List Nat) (n' : Int) : Bool := n == n' && (bs l).toList == (bs l').toList
set_option maxRecDepth 100000 in
theorem same_self (l : List Nat) (n : Int) : same l n l n = true := by unfold same; simp
end Go.Proofs.YtpabfjhjehjebaaDoor

/- packet: a packet's block. -/
namespace Go.Proofs.YtpabfjhjehjebaaDoor
open Go.RowKit Bs
def zpk : Array Value := #[.int .i64 0, .int .i64 0, .int .i64 0, .int .i64 0, .int .i64 0, .int .i64 0, .int .i64 0, .int .i64 0, .int .u64 0, .string ⟨#[]⟩]
set_option maxRecDepth 100000 in
theorem pput_row {w : World} {h : Nat} (v0 v1 v2 v3 v4 v5 v6 v7 v8 v9 : Value) (hr : w.heap[h]? = some (.cells zpk 31 (0, 0))) :
    ((((((((((w.setCell ⟨h, 0, none⟩ v0).setCell ⟨h, 1, none⟩ v1).setCell ⟨h, 2, none⟩ v2).setCell ⟨h, 3, none⟩ v3).setCell ⟨h, 4, none⟩ v4).setCell ⟨h, 5, none⟩ v5).setCell ⟨h, 6, none⟩ v6).setCell ⟨h, 7, none⟩ v7).setCell ⟨h, 8, none⟩ v8).setCell ⟨h, 9, none⟩ v9).heap[h]? = some (.cells #[v0, v1, v2, v3, v4, v5, v6, v7, v8, v9] 31 (0, 0)) := by
  have e0 := heap_setCell_same _ h 0 _ _ v0 hr
  generalize w.setCell ⟨h, 0, none⟩ v0 = w0 at *
  replace e0 : w0.heap[h]? = some (.cells #[v0, .int .i64 0, .int .i64 0, .int .i64 0, .int .i64 0, .int .i64 0, .int .i64 0, .int .i64 0, .int .u64 0, .string ⟨#[]⟩] 31 (0, 0)) := e0
  have e1 := heap_setCell_same _ h 1 _ _ v1 e0
  generalize w0.setCell ⟨h, 1, none⟩ v1 = w1 at *
  replace e1 : w1.heap[h]? = some (.cells #[v0, v1, .int .i64 0, .int .i64 0, .int .i64 0, .int .i64 0, .int .i64 0, .int .i64 0, .int .u64 0, .string ⟨#[]⟩] 31 (0, 0)) := e1
  have e2 := heap_setCell_same _ h 2 _ _ v2 e1
  generalize w1.setCell ⟨h, 2, none⟩ v2 = w2 at *
  replace e2 : w2.heap[h]? = some (.cells #[v0, v1, v2, .int .i64 0, .int .i64 0, .int .i64 0, .int .i64 0, .int .i64 0, .int .u64 0, .string ⟨#[]⟩] 31 (0, 0)) := e2
  have e3 := heap_setCell_same _ h 3 _ _ v3 e2
  generalize w2.setCell ⟨h, 3, none⟩ v3 = w3 at *
  replace e3 : w3.heap[h]? = some (.cells #[v0, v1, v2, v3, .int .i64 0, .int .i64 0, .int .i64 0, .int .i64 0, .int .u64 0, .string ⟨#[]⟩] 31 (0, 0)) := e3
  have e4 := heap_setCell_same _ h 4 _ _ v4 e3
  generalize w3.setCell ⟨h, 4, none⟩ v4 = w4 at *
  replace e4 : w4.heap[h]? = some (.cells #[v0, v1, v2, v3, v4, .int .i64 0, .int .i64 0, .int .i64 0, .int .u64 0, .string ⟨#[]⟩] 31 (0, 0)) := e4
  have e5 := heap_setCell_same _ h 5 _ _ v5 e4
  generalize w4.setCell ⟨h, 5, none⟩ v5 = w5 at *
  replace e5 : w5.heap[h]? = some (.cells #[v0, v1, v2, v3, v4, v5, .int .i64 0, .int .i64 0, .int .u64 0, .string ⟨#[]⟩] 31 (0, 0)) := e5
  have e6 := heap_setCell_same _ h 6 _ _ v6 e5
  generalize w5.setCell ⟨h, 6, none⟩ v6 = w6 at *
  replace e6 : w6.heap[h]? = some (.cells #[v0, v1, v2, v3, v4, v5, v6, .int .i64 0, .int .u64 0, .string ⟨#[]⟩] 31 (0, 0)) := e6
  have e7 := heap_setCell_same _ h 7 _ _ v7 e6
  generalize w6.setCell ⟨h, 7, none⟩ v7 = w7 at *
  replace e7 : w7.heap[h]? = some (.cells #[v0, v1, v2, v3, v4, v5, v6, v7, .int .u64 0, .string ⟨#[]⟩] 31 (0, 0)) := e7
  have e8 := heap_setCell_same _ h 8 _ _ v8 e7
  generalize w7.setCell ⟨h, 8, none⟩ v8 = w8 at *
  replace e8 : w8.heap[h]? = some (.cells #[v0, v1, v2, v3, v4, v5, v6, v7, v8, .string ⟨#[]⟩] 31 (0, 0)) := e8
  have e9 := heap_setCell_same _ h 9 _ _ v9 e8
  generalize w8.setCell ⟨h, 9, none⟩ v9 = w9 at *
  replace e9 : w9.heap[h]? = some (.cells #[v0, v1, v2, v3, v4, v5, v6, v7, v8, v9] 31 (0, 0)) := e9
  exact e9
set_option maxRecDepth 100000 in
theorem pput_grown (w : World) (h : Nat) (v0 v1 v2 v3 v4 v5 v6 v7 v8 v9 : Value) : w.grownBy ((((((((((w.setCell ⟨h, 0, none⟩ v0).setCell ⟨h, 1, none⟩ v1).setCell ⟨h, 2, none⟩ v2).setCell ⟨h, 3, none⟩ v3).setCell ⟨h, 4, none⟩ v4).setCell ⟨h, 5, none⟩ v5).setCell ⟨h, 6, none⟩ v6).setCell ⟨h, 7, none⟩ v7).setCell ⟨h, 8, none⟩ v8).setCell ⟨h, 9, none⟩ v9) (some h) := by
  exact grown_trans (grown_trans (grown_trans (grown_trans (grown_trans (grown_trans (grown_trans (grown_trans (grown_trans (grown_setCell _ ⟨h, 0, none⟩ _) (grown_setCell _ ⟨h, 1, none⟩ _)) (grown_setCell _ ⟨h, 2, none⟩ _)) (grown_setCell _ ⟨h, 3, none⟩ _)) (grown_setCell _ ⟨h, 4, none⟩ _)) (grown_setCell _ ⟨h, 5, none⟩ _)) (grown_setCell _ ⟨h, 6, none⟩ _)) (grown_setCell _ ⟨h, 7, none⟩ _)) (grown_setCell _ ⟨h, 8, none⟩ _)) (grown_setCell _ ⟨h, 9, none⟩ _)
set_option maxRecDepth 100000 in
theorem zp_cells {w : World} {h : Nat} (hr : w.heap[h]? = some (.cells zpk 31 (0, 0))) :
    (w.cell? ⟨h, 0, none⟩ = some (.int .i64 0) ∧ w.cell? ⟨h, 1, none⟩ = some (.int .i64 0) ∧ w.cell? ⟨h, 2, none⟩ = some (.int .i64 0) ∧ w.cell? ⟨h, 3, none⟩ = some (.int .i64 0) ∧ w.cell? ⟨h, 4, none⟩ = some (.int .i64 0) ∧ w.cell? ⟨h, 5, none⟩ = some (.int .i64 0) ∧ w.cell? ⟨h, 6, none⟩ = some (.int .i64 0) ∧ w.cell? ⟨h, 7, none⟩ = some (.int .i64 0) ∧ w.cell? ⟨h, 8, none⟩ = some (.int .u64 0) ∧ w.cell? ⟨h, 9, none⟩ = some (.string ⟨#[]⟩)) ∧ w.frozen? ⟨h, 0, none⟩ = false ∧ w.frozen? ⟨h, 1, none⟩ = false ∧ w.frozen? ⟨h, 2, none⟩ = false ∧ w.frozen? ⟨h, 3, none⟩ = false ∧ w.frozen? ⟨h, 4, none⟩ = false ∧ w.frozen? ⟨h, 5, none⟩ = false ∧ w.frozen? ⟨h, 6, none⟩ = false ∧ w.frozen? ⟨h, 7, none⟩ = false ∧ w.frozen? ⟨h, 8, none⟩ = false ∧ w.frozen? ⟨h, 9, none⟩ = false :=
  ⟨⟨cell_of_row _ _ _ _ _ _ hr, cell_of_row _ _ _ _ _ _ hr, cell_of_row _ _ _ _ _ _ hr, cell_of_row _ _ _ _ _ _ hr, cell_of_row _ _ _ _ _ _ hr, cell_of_row _ _ _ _ _ _ hr, cell_of_row _ _ _ _ _ _ hr, cell_of_row _ _ _ _ _ _ hr, cell_of_row _ _ _ _ _ _ hr, cell_of_row _ _ _ _ _ _ hr⟩, frozen_of_row _ _ _ _ _ hr, frozen_of_row _ _ _ _ _ hr, frozen_of_row _ _ _ _ _ hr, frozen_of_row _ _ _ _ _ hr, frozen_of_row _ _ _ _ _ hr, frozen_of_row _ _ _ _ _ hr, frozen_of_row _ _ _ _ _ hr, frozen_of_row _ _ _ _ _ hr, frozen_of_row _ _ _ _ _ hr, frozen_of_row _ _ _ _ _ hr⟩
set_option maxRecDepth 100000 in
theorem packet_size : (Tryd.prog.info? 31).map (·.size) = some 10 := by kernel_rfl
/-- The packet of a header, with these bits and this payload. -/
def rcells (V : Nat → Nat) (n : Int) (b : Nat) (s : ByteArray) : Array Value := #[.int .i64 (V 1 : Int), .int .i64 (V 2 : Int), .int .i64 (V 3 : Int), .int .i64 n, .int .i64 (V 5 : Int), .int .i64 (V 6 : Int), .int .i64 (V 7 : Int), .int .i64 (V 8 : Int), .int .u64 (b : Int), .string s]
set_option maxRecDepth 100000 in
theorem rc_cells {w : World} {h : Nat} {V : Nat → Nat} {n : Int} {b : Nat} {s : ByteArray} (hr : w.heap[h]? = some (.cells (rcells V n b s) 31 (0, 0))) :
    w.cell? ⟨h, 0, none⟩ = some (.int .i64 (V 1 : Int)) ∧ w.cell? ⟨h, 1, none⟩ = some (.int .i64 (V 2 : Int)) ∧ w.cell? ⟨h, 2, none⟩ = some (.int .i64 (V 3 : Int)) ∧ w.cell? ⟨h, 3, none⟩ = some (.int .i64 n) ∧ w.cell? ⟨h, 4, none⟩ = some (.int .i64 (V 5 : Int)) ∧ w.cell? ⟨h, 5, none⟩ = some (.int .i64 (V 6 : Int)) ∧ w.cell? ⟨h, 6, none⟩ = some (.int .i64 (V 7 : Int)) ∧ w.cell? ⟨h, 7, none⟩ = some (.int .i64 (V 8 : Int)) ∧ w.cell? ⟨h, 8, none⟩ = some (.int .u64 (b : Int)) ∧ w.cell? ⟨h, 9, none⟩ = some (.string s) :=
  ⟨cell_of_row _ _ _ _ _ _ hr, cell_of_row _ _ _ _ _ _ hr, cell_of_row _ _ _ _ _ _ hr, cell_of_row _ _ _ _ _ _ hr, cell_of_row _ _ _ _ _ _ hr, cell_of_row _ _ _ _ _ _ hr, cell_of_row _ _ _ _ _ _ hr, cell_of_row _ _ _ _ _ _ hr, cell_of_row _ _ _ _ _ _ hr, cell_of_row _ _ _ _ _ _ hr⟩
set_option maxRecDepth 100000 in
theorem four_new (w : World) (A B C D : Obj) : ((((w.alloc A).alloc B).alloc C).alloc D).heap[w.heap.size]? = some A ∧ ((((w.alloc A).alloc B).alloc C).alloc D).heap[w.heap.size + 1]? = some B ∧ ((((w.alloc A).alloc B).alloc C).alloc D).heap[w.heap.size + 2]? = some C ∧ ((((w.alloc A).alloc B).alloc C).alloc D).heap[w.heap.size + 3]? = some D ∧
    w.grownBy ((((w.alloc A).alloc B).alloc C).alloc D) none ∧ ((((w.alloc A).alloc B).alloc C).alloc D).heap.size = w.heap.size + 4 := by
  obtain ⟨h1, h2, h3, g, s⟩ := three_new w A B C
  have g4 := World.grownBy_alloc (((w.alloc A).alloc B).alloc C) D none
  have h4 := heap_alloc_new (((w.alloc A).alloc B).alloc C) D
  rw [s] at h4
  exact ⟨kept_row h1 g4 (by simp), kept_row h2 g4 (by simp), kept_row h3 g4 (by simp), h4, grown_trans g g4, by simp⟩
end Go.Proofs.YtpabfjhjehjebaaDoor

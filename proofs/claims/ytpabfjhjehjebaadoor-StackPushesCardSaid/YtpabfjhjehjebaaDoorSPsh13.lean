/- Parts of the proof, packed: PkEncO, IoOrder, StEncFR, StRtOf. -/
import Derived.Test.YtpabfjhjehjebaaDoorSPsh12
import Derived.Test.YtpabfjhjehjebaaDoorSPsh9
import Derived.Test.YtpabfjhjehjebaaDoorSPsh10
import Derived.Lib.SmallJoins
import Derived.Test.YtpabfjhjehjebaaDoorSPsh6
/- packet: the reference's Encode gives bytes in memory of its own. -/
namespace Go.Proofs.YtpabfjhjehjebaaDoor
open Go.RowKit Bs
section
variable {w : World} {q : Nat → Prop} {B : List Bool} {p : Option Addr} {c : Nat}
theorem append_own {v k : Nat} (hk1 : 1 ≤ k) (hk : k < 64) (hv : v < 2 ^ k) (hl : B.length + k ≤ 8192) (hpc : p = none → c = 0) (hR : Rd w q (.slice p (pk B).length c) ((pk B).map nv)) :
    Calls Tryd.prog 46 #[.agg #[.slice p (pk B).length c, .int .i64 (B.length : Int)], .int .u64 (v : Int), .int .i64 (k : Int)] w fun e w' =>
      ∃ p2 c2, e = .returned (.tuple #[.agg #[.slice p2 (pk (B ++ nb v k)).length c2, .int .i64 ((B ++ nb v k).length : Int)], .int .i64 0]) ∧ Own w' (w.heap.size + 2) p2 c2 (pk (B ++ nb v k)) ∧ w.grownBy w' none := by
  have hvU : U64 v := Nat.lt_of_lt_of_le hv (Nat.pow_le_pow_right (n := 2) (by decide) (show k ≤ 64 by omega))
  refine (appendo_any (pk B) B.length v k _ p c (pk_by B) hvU hpc (pk_vs B (by omega)) hk1 hk (Nat.not_le.2 hv) (by omega) w (fun _ h => h) hR.bound).mono fun e w' hp => ?_
  rw [apV_pk B v k (by omega) hv hl] at hp
  exact hp
theorem align_own {base0 : Nat} (h : B.length ≤ 8192) (h0 : 1 ≤ B.length) (ho : Own w base0 p c (pk B)) :
    Calls Tryd.prog 48 #[.agg #[.slice p (pk B).length c, .int .i64 (B.length : Int)]] w fun e w' =>
      ∃ p2 c2, e = .returned (.tuple #[.agg #[.slice p2 (pk B).length c2, .int .i64 ((8 * (pk B).length : Nat) : Int)], .int .i64 0]) ∧ Own w' base0 p2 c2 (pk B) ∧ w.grownBy w' none := by
  have hb : base0 ≤ w.heap.size := by
    obtain ⟨g, cap, he, hg⟩ := own_form ho.own (by rw [pk_len]; omega)
    have h2 := (ho.own.lt g (by rw [he]; rfl)).2
    omega
  exact aligno_any (pk B) B.length _ p c base0 (pk_by B) ho.pc (pk_vs B h) w hb ho (fun _ h => h) ho.rd.bound
end
/-- The bytes lie in memory of the call's own. -/
def REncOwn (P : Pk) (w : World) (e : Ending) (w' : World) : Prop := ∃ p c, e = .returned (.tuple #[.slice p (enc P).length c, .int .i64 0]) ∧ Own w' w.heap.size p c (enc P) ∧ w.grownBy w' none
set_option maxRecDepth 100000 in
set_option maxHeartbeats 3200000 in
theorem rencodeo_any (P : Pk) (hP : P.Wf) (hvp : vpk P = true) (w : World) :
    Calls Tryd.prog 21 #[P.val] w fun e w' => REncOwn P w e w' := by
  have HVP := Lib.hid hvp
  clear hvp
  have hval : P.val = .agg #[.int .i64 P.mode, .int .i64 P.sub, .int .i64 P.set, .int .i64 P.len, .int .i64 P.ttl, .int .i64 P.ent, .int .i64 P.ing, .int .i64 P.pro, .int .u64 (P.bits : Int), .string P.pay] := rfl
  rw [hval]
  go_enter Tryd.func21, Tryd.ntmps21
  go_wp2_with fail
  obtain ⟨k1, k2⟩ := one_box w (pcells P) 31
  have HP := Lib.hid (And.intro k1 k2)
  clear k1 k2
  unfold pcells at HP
  generalize w.alloc _ = wa at *
  change Hid (wa.heap[w.heap.size]? = some (.cells (pcells P) 31 (0, 0)) ∧ w.grownBy wa none) at HP
  rw [← hval]
  refine (rvalid_any P hP _).mono ?_
  rintro e w1 ⟨rfl, hg⟩
  have HQ := Lib.hid (And.intro (kept_row HP.out.1 hg (by simp)) (grown_trans HP.out.2 hg))
  clear hg HP
  have hv := HVP.out
  rw [hv]
  have HV := Lib.hid hv
  have HVL := Lib.hid (vb_vl (vpk_parts hv).2.2.2.2.2.2.2.2)
  have HPY := Lib.hid (vpk_parts hv).2.2.2.2.2.2.2.1
  clear hv
  obtain ⟨a0, a1, a2, a3, a4, a5, a6, a7, a8, a9⟩ := p_facts HQ.out.1
  have HQd := Lib.hid (kept_row HQ.out.1 (grown_drew (grown_refl _ none)) (by simp))
  go_wp2_with fail
  go_region_held3 (fun w' => w'.cell? ⟨w.heap.size, 0, none⟩ = some (.int .i64 P.mode) ∧ w'.cell? ⟨w.heap.size, 1, none⟩ = some (.int .i64 P.sub) ∧ w'.cell? ⟨w.heap.size, 2, none⟩ = some (.int .i64 P.set) ∧ w'.cell? ⟨w.heap.size, 3, none⟩ = some (.int .i64 P.len) ∧ w'.cell? ⟨w.heap.size, 4, none⟩ = some (.int .i64 P.ttl) ∧ w'.cell? ⟨w.heap.size, 5, none⟩ = some (.int .i64 P.ent) ∧ w'.cell? ⟨w.heap.size, 6, none⟩ = some (.int .i64 P.ing) ∧ w'.cell? ⟨w.heap.size, 7, none⟩ = some (.int .i64 P.pro) ∧ w'.cell? ⟨w.heap.size, 8, none⟩ = some (.int .u64 (P.bits : Int)) ∧ w'.cell? ⟨w.heap.size, 9, none⟩ = some (.string P.pay))
    (first | (with_reducible exact p_facts HQ.out.1) | (with_reducible exact p_facts HQd.out) | (with_reducible exact p_facts (kept_row HQd.out (World.grownBy_alloc _ _ none) (by simp))))
    ((go_at_call 44; refine (coder_any _ HVL.out _).mono ?_; rintro e w' ⟨rfl, rfl⟩))
  all_goals
    have q1 := grown_trans (World.grownBy_alloc w1 (.cells (rfc P) 3) none) (grown_drew (grown_refl (w1.alloc (.cells (rfc P) 3)) none))
    have q2 : (w1.alloc (.cells (rfc P) 3)).drew.heap[w1.heap.size]? = some (.cells (rfc P) 3 (0, 0)) := kept_row (heap_alloc_new w1 (.cells (rfc P) 3)) (grown_drew (grown_refl (w1.alloc (.cells (rfc P) 3)) none)) (by simp)
    have q3 := kept_row HQ.out.1 q1 (by simp)
    have q4 := grown_trans HQ.out.2 q1
    have hlt : w.heap.size < w1.heap.size := World.lt_of_row' HQ.out.1
    unfold rfc at q2 q3 q4
    clear a0 a1 a2 a3 a4 a5 a6 a7 a8 a9 HQd q1 HQ
    have HX := Lib.hid (And.intro q2 (And.intro q3 (And.intro q4 hlt)))
    clear q2 q3 q4 hlt
    go_upto_region 4 with fail
    generalize (w1.alloc _).drew = w2 at *
    go_wp2_with fail
    refine (widths_any w2).mono ?_
    rintro e w3 ⟨rfl, rfl⟩
    obtain ⟨t1, t2, t3, t4⟩ := two_boxes w2 wcells #[.slice none 0 0, .int .i64 0] 3 74
    have HE0 : Hid (ER w P w1.heap.size w2.heap.size (w2.heap.size + 1) [] none 0 ((w2.alloc (.cells wcells 3)).alloc (.cells #[.slice none 0 0, .int .i64 0] 74))) := by
      have h2 := World.lt_of_row' HX.out.1
      have h3 := HX.out.2.2.2
      exact Lib.hid ⟨kept_row HX.out.2.1 t3 (by simp), kept_row HX.out.1 t3 (by simp), t1, t2, Rd.nil_ _ _ _ _, fun _ => rfl, ⟨by omega, by omega, by omega⟩, grown_trans HX.out.2.2.1 t3⟩
    clear t1 t2 t3 t4 HX
    go_upto_region 6 with fail
    generalize (w2.alloc _).alloc _ = w4 at *
    obtain ⟨S, hS⟩ : ∃ S, S = w2.heap.size + 1 := ⟨_, rfl⟩
    rw [← hS] at HE0 ⊢
    generalize w2.heap.size = D at *
    generalize w1.heap.size = F at *
    clear hS
    go_wp2_with fail
    go_loopw [7] (fun i wr => ∃ k : Nat, k ≤ 10 ∧ i = .int .i64 (k : Int) ∧ ∃ p c, Hid (ER w P F D S (flb ((fl P).take k)) p c wr)) (fun i _ => (10 - (intOf i).toNat))
    case atStart => exact ⟨0, Nat.zero_le _, rfl, none, 0, HE0⟩
    case round =>
      obtain ⟨k, hk, rfl, p, c, hR⟩ := hrel
      clear HE0
      by_cases hk2 : k < 10
      · obtain ⟨wd, x, hc1, hc2, hx, hwd, hfl⟩ := rfield_at HV.out k hk2
        have d1 := (cell_of_row _ _ k _ _ _ hR.out.fb).trans hc1
        have d2 := (cell_of_row _ _ k _ _ _ hR.out.db).trans hc2
        obtain ⟨s0, s1, _, _⟩ := hR.out.facts
        have hle := flb_take_le P k
        have hsn := flb_snoc hfl
        generalize flb ((fl P).take k) = B at *
        obtain ⟨B2, hB2⟩ : ∃ B2, B2 = flb ((fl P).take (k + 1)) := ⟨_, rfl⟩
        rw [← hB2] at hsn
        have HB2 := Lib.hid hB2
        have HX : Hid (IntKind.u64.wrap (x : Int) = (x : Int)) := Lib.hid (by have : x < 2 ^ 10 := Nat.lt_of_lt_of_le hx (Nat.pow_le_pow_right (by decide) hwd); rw [IntKind.wrap_u64]; omega)
        have hA := append_bitsr (B := B) (v := x) (k := wd) (Nat.le_trans hwd (by decide)) hx (by omega) hR.out.pc (hR.out.rd.keep (grown_drew (grown_refl wr none)))
        rw [← hsn] at hA
        have HA := Lib.hid hA
        have HR := hR
        have k0 : (0 : Int) ≤ (k : Int) := by omega
        have k10 : (k : Int) < 10 := by omega
        clear hB2 hfl hc1 hc2 hsn hA hR hle hx hwd
        go_wp2_with fail
        go_region_law (first
          | (go_simp; go_at_call 46; (try simp only [HX.out]); refine HA.out.mono ?_; rintro e w7 ⟨p2, c2, rfl, hR2, hp2, hg7⟩; have H7 := Lib.hid ((HR.out.keep (grown_drew (grown_refl _ none))).keep hg7); have R7 := Lib.hid (And.intro hR2 hp2); obtain ⟨t0, t1, z0, z1⟩ := H7.out.facts; clear hR2 hp2 hg7))
        all_goals
          have HK : Hid (ER w P F D S B2 p2 c2 ((w7.setCell ⟨S, 0, none⟩ (.slice p2 (pk B2).length c2)).setCell ⟨S, 1, none⟩ (.int .i64 (B2.length : Int)))) := Lib.hid (H7.out.turn R7.out.1 R7.out.2)
          clear t0 t1 z0 z1 s0 s1 d1 d2 H7 R7 HA HR
          generalize (w7.setCell ⟨S, 0, none⟩ (.slice p2 (pk B2).length c2)).setCell ⟨S, 1, none⟩ (.int .i64 (B2.length : Int)) = w8 at *
          go_wp2_with fail
          go_roundw
          case rel => exact ⟨k + 1, by omega, by go_num, p2, c2, by rw [← HB2.out]; exact HK⟩
          case measure => simp [intOf]; omega
      · obtain rfl : k = 10 := by omega
        rw [show (fl P).take 10 = fl P from rfl] at hR
        have HL49 := Lib.hid (hdr_len P)
        have hvb := (vpk_parts HV.out).2.2.2.2.2.2.2.2
        have HLN : Hid (0 ≤ P.len ∧ P.len.toNat ≤ 64) := Lib.hid (by rcases vl_cases (vb_vl hvb) with h | h | h | h <;> rw [h] <;> decide)
        have HBL := Lib.hid (vb_lt hvb hP.bits)
        obtain ⟨B0, hB0⟩ : ∃ B, B = flb (fl P) := ⟨_, rfl⟩
        rw [← hB0] at hR HL49
        obtain ⟨B1, hB1⟩ : ∃ B, B = B0 ++ nb P.bits P.len.toNat := ⟨_, rfl⟩
        have hA := append_bitsr (B := B0) (v := P.bits) (k := P.len.toNat) HLN.out.2 HBL.out (by have := HLN.out.2; have := HL49.out; omega) hR.out.pc hR.out.rd
        rw [Int.toNat_of_nonneg HLN.out.1, ← hB1] at hA
        have HB0 := Lib.hid hB0
        have HB1 := Lib.hid hB1
        have HA := Lib.hid hA
        have HR := hR
        obtain ⟨s0, s1, _, _⟩ := hR.out.facts
        obtain ⟨a0, a1, a2, a3, a4, a5, a6, a7, a8, a9⟩ := p_facts HR.out.pb
        clear hB0 hB1 hA hR hk hk2 hvb
        go_wp2_with fail
        refine HA.out.mono ?_
        rintro e w5 ⟨p2, c2, rfl, hR2, hp2, hg⟩
        have H5 := Lib.hid (HR.out.keep hg)
        have H6 := Lib.hid (H5.out.turn hR2 hp2)
        clear s0 s1 a0 a1 a2 a3 a4 a5 a6 a7 a8 a9
        obtain ⟨r0, r1, z0, z1⟩ := H5.out.facts
        clear HA hR2 hp2 hg H5 HR
        go_upto_region 11 with fail
        generalize (w5.setCell ⟨S, 0, none⟩ (.slice p2 (pk B1).length c2)).setCell ⟨S, 1, none⟩ (.int .i64 (B1.length : Int)) = w6 at *
        clear r0 r1 z0 z1
        have HL1 : Hid (B1.length ≤ 113) := Lib.hid (by rw [HB1.out, List.length_append, nb_len]; have := HLN.out.2; have := HL49.out; omega)
        go_wp2_with fail
        go_loopw [8] (fun i wr => ∃ m : Nat, m ≤ P.pay.size ∧ i = .int .i64 (m : Int) ∧ ∃ p c, Hid (ER w P F D S (B1 ++ pb ((byl P.pay).take m)) p c wr)) (fun i _ => (P.pay.size - (intOf i).toNat))
        case atStart => exact ⟨0, Nat.zero_le _, rfl, p2, c2, by rw [show B1 ++ pb ((byl P.pay).take 0) = B1 by simp [pb]]; exact H6⟩
        case round =>
          obtain ⟨m, hm, rfl, p, c, hR⟩ := hrel
          clear H6
          by_cases hm2 : m < P.pay.size
          · obtain ⟨s0, s1, _, _⟩ := hR.out.facts
            have a9 := (p_facts hR.out.pb).2.2.2.2.2.2.2.2.2
            have m0 : (0 : Int) ≤ (m : Int) := by omega
            have m64 : m < 64 := Nat.lt_of_lt_of_le hm2 HPY.out
            have m1 : (m : Int) < (P.pay.size : Int) := by omega
            have hsn : B1 ++ pb ((byl P.pay).take (m + 1)) = (B1 ++ pb ((byl P.pay).take m)) ++ nb (P.pay[m].toNat) 8 := by rw [byl_take _ _ hm2, pb_snoc, List.append_assoc]
            have hle : (B1 ++ pb ((byl P.pay).take m)).length ≤ 625 := by
              have := HL1.out
              have := HPY.out
              rw [List.length_append, pb_len, List.length_take]
              omega
            obtain ⟨y, hy⟩ : ∃ y : Nat, P.pay[m].toNat = y := ⟨_, rfl⟩
            have hy8 : y < 2 ^ 8 := by rw [← hy]; exact P.pay[m].toNat_lt
            rw [hy] at hsn
            have HX : Hid (IntKind.u64.wrap ((P.pay[m].toNat : Nat) : Int) = (y : Int)) := Lib.hid (by rw [hy, IntKind.wrap_u64]; omega)
            generalize B1 ++ pb ((byl P.pay).take m) = B at *
            obtain ⟨B2, hB2⟩ : ∃ B2, B2 = B1 ++ pb ((byl P.pay).take (m + 1)) := ⟨_, rfl⟩
            rw [← hB2] at hsn
            have HB2 := Lib.hid hB2
            have hA := append_bitsr (B := B) (v := y) (k := 8) (by decide) hy8 (by omega) hR.out.pc (hR.out.rd.keep (grown_drew (grown_refl wr none)))
            rw [← hsn] at hA
            have HA := Lib.hid hA
            have HR := hR
            clear hB2 hsn hA hR hle hy8 hy
            go_wp2_with fail
            go_region_law (first
              | (go_simp; go_at_call 46; (try simp only [HX.out]); refine HA.out.mono ?_; rintro e w7 ⟨p2, c2, rfl, hR2, hp2, hg7⟩; have H7 := Lib.hid ((HR.out.keep (grown_drew (grown_refl _ none))).keep hg7); have R7 := Lib.hid (And.intro hR2 hp2); obtain ⟨t0, t1, z0, z1⟩ := H7.out.facts; clear hR2 hp2 hg7))
            all_goals
              have HK : Hid (ER w P F D S B2 p2 c2 ((w7.setCell ⟨S, 0, none⟩ (.slice p2 (pk B2).length c2)).setCell ⟨S, 1, none⟩ (.int .i64 (B2.length : Int)))) := Lib.hid (H7.out.turn R7.out.1 R7.out.2)
              clear t0 t1 z0 z1 s0 s1 a9 H7 R7 HA HR
              generalize (w7.setCell ⟨S, 0, none⟩ (.slice p2 (pk B2).length c2)).setCell ⟨S, 1, none⟩ (.int .i64 (B2.length : Int)) = w8 at *
              go_wp2_with fail
              go_roundw
              case rel => exact ⟨m + 1, by omega, by go_num, p2, c2, by rw [← HB2.out]; exact HK⟩
              case measure => simp [intOf]; omega
          · obtain rfl : m = P.pay.size := by omega
            obtain ⟨B3, hB3⟩ : ∃ B, B = B1 ++ pb (byl P.pay) := ⟨_, rfl⟩
            have HB3 := Lib.hid hB3
            rw [List.take_of_length_le (by rw [byl_len]; exact Nat.le_refl _), ← hB3] at hR
            have HL3 : Hid (B3.length ≤ 625) := Lib.hid (by rw [HB3.out, List.length_append, pb_len, byl_len]; have := HL1.out; have := HPY.out; omega)
            have H9 := hR
            have a9 := (p_facts H9.out.pb).2.2.2.2.2.2.2.2.2
            obtain ⟨s0, s1, _, _⟩ := H9.out.facts
            clear hB3 hR hm2 hm
            go_wp2_with fail
            refine (check_bitsr (by have := HL3.out; omega) H9.out.pc H9.out.rd).mono ?_
            rintro e wa2 ⟨rfl, hg⟩
            have H10 := Lib.hid (H9.out.keep hg)
            clear s0 s1 hg H9 a9
            obtain ⟨s0, s1, z0, z1⟩ := H10.out.facts
            have hA2 := append_own (B := B3) (v := ck B3) (k := 16) (by decide) (by decide) (chk_lt _ _) (by have := HL3.out; omega) H10.out.pc H10.out.rd
            obtain ⟨B4, hB4⟩ : ∃ B, B = B3 ++ nb (ck B3) 16 := ⟨_, rfl⟩
            rw [← hB4] at hA2
            have HB4 := Lib.hid hB4
            have HA2 := Lib.hid hA2
            have HL4 : Hid (B4.length ≤ 641) := Lib.hid (by rw [hB4, List.length_append, nb_len]; have := HL3.out; omega)
            clear hB4 hA2
            go_wp2_with fail
            refine HA2.out.mono ?_
            rintro e wb ⟨p4, c4, rfl, hO4, hg⟩
            have hR4 := hO4.rd
            have hp4 := hO4.pc
            have HSb : Hid (S < wa2.heap.size + 2 ∧ w.heap.size ≤ wa2.heap.size + 2) := Lib.hid ⟨by have := World.lt_of_row' H10.out.sb; omega, by have := H10.out.gr.size; omega⟩
            have HO4 := Lib.hid (hO4.other (grown_store2 wb S (.slice p4 (pk B4).length c4) (.int .i64 (B4.length : Int))) HSb.out.1)
            have H11 := Lib.hid (H10.out.keep hg)
            have H12 := Lib.hid (H11.out.turn hR4 hp4)
            clear s0 s1 z0 z1
            obtain ⟨r0, r1, z0, z1⟩ := H11.out.facts
            clear hO4 hR4 hp4 hg H10 H11 HA2
            go_upto_region 17 with fail
            generalize (wb.setCell ⟨S, 0, none⟩ (.slice p4 (pk B4).length c4)).setCell ⟨S, 1, none⟩ (.int .i64 (B4.length : Int)) = wd at *
            obtain ⟨s0, s1, _, _⟩ := H12.out.facts
            clear r0 r1 z0 z1
            go_wp2_with fail
            refine (align_own (by have := HL4.out; omega) (by rw [HB4.out, List.length_append, nb_len]; omega) HO4.out).mono ?_
            rintro e we ⟨p5, c5, rfl, hO5, hg⟩
            have H13 := Lib.hid (H12.out.keep hg)
            clear s0 s1
            obtain ⟨r0, r1, z0, z1⟩ := H13.out.facts
            have HO5 := Lib.hid (hO5.other (grown_store2 we S (.slice p5 (pk B4).length c5) (.int .i64 ((8 * (pk B4).length : Nat) : Int))) HSb.out.1)
            clear hO5 hg H12
            go_wp2_with fail
            have hE : enc P = pk B4 := by unfold enc body; rw [← HB0.out, ← HB1.out, ← HB3.out, ← HB4.out]
            go_ret2
            refine ⟨p5, c5, by rw [hE]; rfl, ?_, ?_⟩
            · rw [hE]; exact (HO5.out.mono HSb.out.2)
            · exact grown_new H13.out.gr (grown_store2 we S _ _) (by have := H13.out.ne; omega)
end Go.Proofs.YtpabfjhjehjebaaDoor

/- The tape's orders. -/
namespace Go.Proofs.YtpabfjhjehjebaaDoor
open Go.RowKit Bs
/-- An order of the first numbers. -/
def Ord (l : List Nat) (i : Nat) : Prop := l.length = i ∧ l.Nodup ∧ ∀ x ∈ l, x < i
set_option maxRecDepth 100000 in
theorem ord_next {l : List Nat} {i k : Nat} (h : Ord l i) : Ord (l.take k ++ [i] ++ l.drop k) (i + 1) := by
  obtain ⟨h1, h2, h3⟩ := h
  refine ⟨?_, ?_, ?_⟩
  · simp; omega
  · have e : (l.take k ++ [i] ++ l.drop k).Perm (i :: l) := by
      rw [List.append_assoc]
      have e2 : (l.take k ++ ([i] ++ l.drop k)).Perm (([i] ++ l.drop k) ++ l.take k) := List.perm_append_comm
      refine e2.trans ?_
      rw [List.append_assoc]
      show (i :: (l.drop k ++ l.take k)).Perm (i :: l)
      refine List.Perm.cons i ?_
      refine List.perm_append_comm.trans ?_
      rw [List.take_append_drop]
    rw [e.nodup_iff, List.nodup_cons]
    exact ⟨fun hm => by have := h3 i hm; omega, h2⟩
  · intro x hx
    rw [List.mem_append, List.mem_append] at hx
    rcases hx with (hx | hx) | hx
    · have := h3 x (List.mem_of_mem_take hx); omega
    · have : x = i := by simpa using hx
      omega
    · have := h3 x (List.mem_of_mem_drop hx); omega
/-- The slice v is an order of the first i numbers, in a row of the call's own. -/
def OrdRel (a : Nat) (W : World) (i : Nat) (v : Value) (w' : World) : Prop := ∃ l, Ord l i ∧ w'.ownsRow W.heap.size 3 1 v i (l.map zv) ∧ (i = 0 → v = .slice none 0 0) ∧ St a W w'
def OrdPost (a : Nat) (n : Nat) (W : World) (e : Ending) (w' : World) : Prop := ∃ v, e = .returned v ∧ OrdRel a W n v w'
set_option maxRecDepth 100000 in
set_option maxHeartbeats 3200000 in
theorem order_any (a n : Nat) (hn : n ≤ 1000) (w : World) (hT : Tp w a) :
    Calls Tryd.prog 24 #[.pointer (some ⟨a, 0, none⟩), .int .i64 (n : Int)] w fun e w' => OrdPost a n w e w' := by
  have ha := hT.lt
  have hS0 : Hid (OrdRel a w 0 (.slice none 0 0) w) := Lib.hid ⟨[], ⟨rfl, List.nodup_nil, fun x hx => by cases hx⟩, World.ownsRow_nil _ _ _ _, fun _ => rfl, grown_refl _ _, hT⟩
  clear hT
  go_enter Tryd.func24, Tryd.ntmps24
  go_wp2_with fail
  go_loopw [5, 6] (fun v i wr => ∃ j : Nat, j ≤ n ∧ i = .int .i64 (j : Int) ∧ OrdRel a w j v wr) (fun _ i _ => (n - (intOf i).toNat))
  case atStart => exact ⟨0, Nat.zero_le _, rfl, hS0.out⟩
  case round =>
    obtain ⟨j, hj, rfl, hR⟩ := hrel
    have HR := Lib.hid hR
    clear hR hS0
    by_cases hlt : j < n
    · obtain ⟨l, hO, hown, hv0, hSt⟩ := HR.out
      have HO := Lib.hid hO
      have hT := hSt.2
      have HOWN := Lib.hid hown
      have HST := Lib.hid hSt
      clear hO hown hSt HR
      go_wp2_with fail
      refine (next_any a ((j : Int) + 1) (by unfold I64; omega) _ hT).mono ?_
      rintro e w3 ⟨r, rfl, hr, hs⟩
      obtain ⟨k, rfl⟩ := Int.eq_ofNat_of_zero_le hr.1
      have hkj : k ≤ j := by have := hr.2.1 (by omega); omega
      have HS3 := Lib.hid (HST.out.trans hs)
      have HOWN3 := Lib.hid (own_kept ha HOWN.out hs.1)
      clear hr hs hT HST HOWN
      by_cases hj0 : j = 0
      · subst hj0
        obtain rfl : k = 0 := by omega
        obtain rfl := hv0 rfl
        have hl : l = [] := List.eq_nil_of_length_eq_zero HO.out.1
        clear hv0
        obtain ⟨i0, hi, hz0, hz1, hz2⟩ := info_parts info_int
        have hsz3 := Lib.hid HS3.out.1.size
        go_wp2_with (first
          | (at_builtin; refine wpList_append_own_none rfl _ _ 22 rfl w3.heap.size 3 i0 1 Tryd.underlying22 hi (.slice none 0 0) 0 [] rfl (World.ownsRow_nil _ _ _ _) rfl ?_)
          | (at_builtin; refine wpList_append_ints rfl _ _ rfl w3.heap.size (.slice none 0 0) 0 [] rfl (World.ownsRow_nil _ _ _ _) (some ⟨w3.heap.size, 0, none⟩) 1 1 [0] rfl rfl (by intro h; cases h) (by intro ad h; obtain rfl := Option.some.inj h; exact cell_one _ _ _) (by simp) (by simp) ?_; intro v2 w5 hown2 hg2; have HOWN2 := Lib.hid hown2; have HG2 := Lib.hid (grown_trans (World.grownBy_alloc w3 _ none) hg2); clear hown2 hg2)
          | (at_builtin; refine wpList_append_own_none rfl _ _ 22 rfl w3.heap.size 3 i0 1 Tryd.underlying22 hi v2 1 [zv 0] rfl HOWN2.out rfl ?_))
        go_roundw
        case rel =>
          refine ⟨1, by omega, rfl, [0], ⟨rfl, by simp, by simp⟩, ?_, by omega, ?_⟩
          · exact HOWN2.out.mono hsz3.out
          · exact ⟨grown_trans HS3.out.1 (grown_none HG2.out _), HS3.out.2.keep HG2.out⟩
        case measure => simp [intOf]; omega
      · have hj1 : 0 < j := by omega
        obtain ⟨g, cap, rfl, hgb⟩ := own_form HOWN3.out hj1
        obtain ⟨hcap1, hcap2⟩ := own_cap HOWN3.out
        have hcap3 : cap ≤ 9223372036854775807 := by unfold maxLen at hcap2; omega
        have hgl := (HOWN3.out.lt g rfl).2
        have hll := HO.out.1
        have HLL := Lib.hid hll
        have hkc : k ≤ cap := by omega
        have hkl : (l.take k).length = k := by rw [List.length_take]; omega
        have hdl : (l.drop k).length = j - k := by rw [List.length_drop]; omega
        have HKL := Lib.hid hkl
        have HDL := Lib.hid hdl
        have hj9 : j ≤ 1000 := by omega
        have hsz3 := Lib.hid HS3.out.1.size
        have N1 : Hid (∀ ad, some (⟨g, 0, none⟩ : Addr) = some ad → ∀ i u, ((l.take k).map zv)[i]? = some u → w3.cell? (ad.add i) = some u) := by
          refine Lib.hid ?_
          intro ad h i u hu
          obtain rfl := Option.some.inj h
          refine HOWN3.out.cells rfl i u ?_
          rw [List.map_take, List.getElem?_take] at hu
          split at hu
          · exact hu
          · cases hu
        clear hll hkl hdl hv0 hcap2
        generalize hT1 : l.take k = t1 at *
        generalize hT2 : l.drop k = t2 at *
        have HT1 := Lib.hid hT1
        have HT2 := Lib.hid hT2
        clear hT1
        by_cases hkj : k < j
        · have hkcap : k < cap := by omega
          have news : Hid (∀ (W : World) c, W.ownsRow w.heap.size 3 1 (.slice (some ⟨g, 0, none⟩) j c) j (l.map zv) → ∀ i u, (t2.map zv)[i]? = some u → W.cell? ⟨g, k + i, none⟩ = some u) := by
            refine Lib.hid ?_
            intro W c h i u hu
            rw [← hT2, List.map_drop, List.getElem?_drop] at hu
            have := h.cells rfl (k + i) u hu
            rw [add_plain, Nat.zero_add] at this
            exact this
          clear hT2
          go_wp2_with (first
            | (at_builtin; refine wpList_append_ints rfl _ _ rfl w3.heap.size (.slice none 0 0) 0 [] rfl (World.ownsRow_nil _ _ _ _) (some ⟨g, 0, none⟩) k cap t1 rfl HKL.out.symm (by intro h; cases h) N1.out (by rw [HKL.out]; omega) (Nat.le_refl _) ?_; intro v1 w4 hown1 hg1; rw [Nat.zero_add, List.nil_append, HKL.out] at hown1; have HOWN1 := Lib.hid hown1; have HO4 := Lib.hid (own_apart HOWN3.out (World.ownsRow_nil w3 w3.heap.size 3 1) hgl hg1); have HS4 := Lib.hid (HS3.out.own_grow (World.ownsRow_nil w3 w3.heap.size 3 1) hsz3.out ha hg1); have HZ4 := Lib.hid hg1.size; clear hown1 hg1)
            | (at_builtin; refine wpList_append_ints rfl _ _ rfl w3.heap.size v1 k t1 rfl (HOWN1.out.alloc _) (some ⟨w4.heap.size, 0, none⟩) 1 1 [j] rfl rfl (by intro h; cases h) (by intro ad h; obtain rfl := Option.some.inj h; exact cell_one _ _ _) (by simp; omega) (by have := HZ4.out; simp; omega) ?_; intro v2 w5 hown2 hg2; have HOWN2 : Hid (w5.ownsRow w3.heap.size 3 1 v2 (k + 1) ((t1 ++ [j]).map zv)) := Lib.hid hown2; have HO5 := Lib.hid (own_apart (HO4.out.alloc _) (HOWN1.out.alloc _) hgl hg2); have HS5 := Lib.hid ((HS4.out.none_ (World.grownBy_alloc w4 _ none)).own_grow (HOWN1.out.alloc _) hsz3.out ha hg2); have HZ5 : Hid (w3.heap.size ≤ w5.heap.size) := Lib.hid (Nat.le_trans HZ4.out (Nat.le_trans (by simp) hg2.size)); clear hown2 hg2)
            | (at_builtin; refine wpList_append_ints rfl _ _ rfl w3.heap.size v2 (k + 1) (t1 ++ [j]) rfl HOWN2.out _ _ _ t2 rfl (by have := HDL.out; omega) (by intro h; cases h) (by intro ad h; obtain rfl := Option.some.inj h; intro i u hu; rw [add_plain]; exact news.out w5 cap HO5.out i u hu) (by have := HDL.out; omega) HZ5.out ?_; intro v3 w6 hown3 hg3; have HOWN6 := Lib.hid hown3; have HS6 := Lib.hid (HS5.out.own_grow HOWN2.out hsz3.out ha hg3); clear hown3 hg3))
          go_roundw
          case rel =>
            refine ⟨j + 1, by omega, by go_num, l.take k ++ [j] ++ l.drop k, ord_next HO.out, ?_, by omega, HS6.out⟩
            have h6 := HOWN6.out.mono hsz3.out
            rw [← HT1.out, ← HT2.out, show k + 1 + (l.drop k).length = j + 1 by rw [List.length_drop, HLL.out]; omega] at h6
            exact h6
          case measure => simp [intOf]; omega
        · obtain rfl : k = j := by omega
          have ht2 : t2 = [] := by
            rw [← hT2]
            exact List.drop_of_length_le (Nat.le_of_eq HLL.out)
          clear hT2
          have HN2 : Hid (∀ (i : Nat) (u : Value), (t2.map zv)[i]? = some u → False) := Lib.hid (by intro i u hu; rw [ht2] at hu; simp at hu)
          clear ht2
          by_cases hcj : k = cap
          · subst hcj
            go_wp2_with (first
              | (at_builtin; refine wpList_append_ints rfl _ _ rfl w3.heap.size (.slice none 0 0) 0 [] rfl (World.ownsRow_nil _ _ _ _) (some ⟨g, 0, none⟩) k k t1 rfl HKL.out.symm (by intro h; cases h) N1.out (by rw [HKL.out]; omega) (Nat.le_refl _) ?_; intro v1 w4 hown1 hg1; rw [Nat.zero_add, List.nil_append, HKL.out] at hown1; have HOWN1 := Lib.hid hown1; have HO4 := Lib.hid (own_apart HOWN3.out (World.ownsRow_nil w3 w3.heap.size 3 1) hgl hg1); have HS4 := Lib.hid (HS3.out.own_grow (World.ownsRow_nil w3 w3.heap.size 3 1) hsz3.out ha hg1); have HZ4 := Lib.hid hg1.size; clear hown1 hg1)
              | (at_builtin; refine wpList_append_ints rfl _ _ rfl w3.heap.size v1 k t1 rfl (HOWN1.out.alloc _) (some ⟨w4.heap.size, 0, none⟩) 1 1 [k] rfl rfl (by intro h; cases h) (by intro ad h; obtain rfl := Option.some.inj h; exact cell_one _ _ _) (by simp; omega) (by have := HZ4.out; simp; omega) ?_; intro v2 w5 hown2 hg2; have HOWN2 : Hid (w5.ownsRow w3.heap.size 3 1 v2 (k + 1) ((t1 ++ [k]).map zv)) := Lib.hid hown2; have HO5 := Lib.hid (own_apart (HO4.out.alloc _) (HOWN1.out.alloc _) hgl hg2); have HS5 := Lib.hid ((HS4.out.none_ (World.grownBy_alloc w4 _ none)).own_grow (HOWN1.out.alloc _) hsz3.out ha hg2); have HZ5 : Hid (w3.heap.size ≤ w5.heap.size) := Lib.hid (Nat.le_trans HZ4.out (Nat.le_trans (by simp) hg2.size)); clear hown2 hg2)
              | (at_builtin; refine wpList_append_ints rfl _ _ rfl w3.heap.size v2 (k + 1) (t1 ++ [k]) rfl HOWN2.out _ _ _ t2 rfl (by have := HDL.out; omega) (by intro h; cases h) (by intro ad h i u hu; exact (HN2.out i u hu).elim) (by have := HDL.out; omega) HZ5.out ?_; intro v3 w6 hown3 hg3; have HOWN6 := Lib.hid hown3; have HS6 := Lib.hid (HS5.out.own_grow HOWN2.out hsz3.out ha hg3); clear hown3 hg3))
            go_roundw
            case rel =>
              refine ⟨k + 1, by omega, by go_num, l.take k ++ [k] ++ l.drop k, ord_next HO.out, ?_, by omega, HS6.out⟩
              have h6 := HOWN6.out.mono hsz3.out
              rw [← HT1.out, ← HT2.out, show k + 1 + (l.drop k).length = k + 1 by rw [List.length_drop, HLL.out]; omega] at h6
              exact h6
            case measure => simp [intOf]; omega
          · have hkcap : k < cap := by omega
            go_wp2_with (first
              | (at_builtin; refine wpList_append_ints rfl _ _ rfl w3.heap.size (.slice none 0 0) 0 [] rfl (World.ownsRow_nil _ _ _ _) (some ⟨g, 0, none⟩) k cap t1 rfl HKL.out.symm (by intro h; cases h) N1.out (by rw [HKL.out]; omega) (Nat.le_refl _) ?_; intro v1 w4 hown1 hg1; rw [Nat.zero_add, List.nil_append, HKL.out] at hown1; have HOWN1 := Lib.hid hown1; have HO4 := Lib.hid (own_apart HOWN3.out (World.ownsRow_nil w3 w3.heap.size 3 1) hgl hg1); have HS4 := Lib.hid (HS3.out.own_grow (World.ownsRow_nil w3 w3.heap.size 3 1) hsz3.out ha hg1); have HZ4 := Lib.hid hg1.size; clear hown1 hg1)
              | (at_builtin; refine wpList_append_ints rfl _ _ rfl w3.heap.size v1 k t1 rfl (HOWN1.out.alloc _) (some ⟨w4.heap.size, 0, none⟩) 1 1 [k] rfl rfl (by intro h; cases h) (by intro ad h; obtain rfl := Option.some.inj h; exact cell_one _ _ _) (by simp; omega) (by have := HZ4.out; simp; omega) ?_; intro v2 w5 hown2 hg2; have HOWN2 : Hid (w5.ownsRow w3.heap.size 3 1 v2 (k + 1) ((t1 ++ [k]).map zv)) := Lib.hid hown2; have HO5 := Lib.hid (own_apart (HO4.out.alloc _) (HOWN1.out.alloc _) hgl hg2); have HS5 := Lib.hid ((HS4.out.none_ (World.grownBy_alloc w4 _ none)).own_grow (HOWN1.out.alloc _) hsz3.out ha hg2); have HZ5 : Hid (w3.heap.size ≤ w5.heap.size) := Lib.hid (Nat.le_trans HZ4.out (Nat.le_trans (by simp) hg2.size)); clear hown2 hg2)
              | (at_builtin; refine wpList_append_ints rfl _ _ rfl w3.heap.size v2 (k + 1) (t1 ++ [k]) rfl HOWN2.out _ _ _ t2 rfl (by have := HDL.out; omega) (by intro h; cases h) (by intro ad h i u hu; exact (HN2.out i u hu).elim) (by have := HDL.out; omega) HZ5.out ?_; intro v3 w6 hown3 hg3; have HOWN6 := Lib.hid hown3; have HS6 := Lib.hid (HS5.out.own_grow HOWN2.out hsz3.out ha hg3); clear hown3 hg3))
            go_roundw
            case rel =>
              refine ⟨k + 1, by omega, by go_num, l.take k ++ [k] ++ l.drop k, ord_next HO.out, ?_, by omega, HS6.out⟩
              have h6 := HOWN6.out.mono hsz3.out
              rw [← HT1.out, ← HT2.out, show k + 1 + (l.drop k).length = k + 1 by rw [List.length_drop, HLL.out]; omega] at h6
              exact h6
            case measure => simp [intOf]; omega
    · obtain rfl : j = n := by omega
      go_wp2_with fail
      go_ret
      exact ⟨_, rfl, HR.out⟩
end Go.Proofs.YtpabfjhjehjebaaDoor

/- The reference's EncodeFrame. -/
namespace Go.Proofs.YtpabfjhjehjebaaDoor
open Go.RowKit Bs
set_option maxRecDepth 100000 in
theorem own_lit1 (w : World) (x : Nat) : (w.alloc (.cells #[.int .u8 (x : Int)] 5)).ownsRow w.heap.size 5 1 (.slice (some ⟨w.heap.size, 0, none⟩) 1 1) 1 ([x].map nv) :=
  World.ownsRow_lit w #[.int .u8 (x : Int)] 1 (Nat.le_refl _) (by decide) rfl
set_option maxRecDepth 100000 in
theorem own_src {w : World} {base c : Nat} {p : Option Addr} {l : List Nat} (h : Own w base p c l) (hl : 0 < l.length) : ∃ g, p = some ⟨g, 0, none⟩ ∧ base ≤ g ∧ l.length ≤ c ∧ ∀ j u, (l.map nv)[j]? = some u → w.cell? ((⟨g, 0, none⟩ : Addr).add j) = some u := by
  obtain ⟨g, cap, e⟩ := Joins.ownsRow_form h.own hl
  injection e with e1 e2 e3
  subst e1
  exact ⟨g, rfl, (h.own.lt g rfl).1, (own_cap h.own).1, fun j u hj => h.own.cells (g := g) rfl j u hj⟩
set_option maxRecDepth 100000 in
theorem own_mk {w : World} {base n m : Nat} {v : Value} {A B : List Nat} (h : w.ownsRow base 5 1 v (n + m) (A.map nv ++ B.map nv)) (hn : A.length = n) (hm : B.length = m) (hA : By A) (hB : By B) (hp : 0 < n + m) :
    ∃ g c, v = .slice (some ⟨g, 0, none⟩) (A ++ B).length c ∧ base ≤ g ∧ Own w base (some ⟨g, 0, none⟩) c (A ++ B) := by
  obtain ⟨g, cap, rfl⟩ := Joins.ownsRow_form h hp
  have hl : (A ++ B).length = n + m := by rw [List.length_append]; omega
  refine ⟨g, cap, by rw [hl], (h.lt g rfl).1, ⟨by rw [hl, List.map_append]; exact h, (by intro e; cases e), ?_⟩⟩
  intro x hx
  rcases List.mem_append.1 hx with h1 | h1
  · exact hA x h1
  · exact hB x h1
set_option maxRecDepth 100000 in
theorem own_at {w : World} {base g c : Nat} {l : List Nat} (h : Own w base (some ⟨g, 0, none⟩) c l) : ∀ j u, (l.map nv)[j]? = some u → w.cell? ((⟨g, 0, none⟩ : Addr).add j) = some u := fun j u hj => h.own.cells (g := g) rfl j u hj
set_option maxRecDepth 100000 in
theorem own_alloc {w : World} {base c : Nat} {p : Option Addr} {l : List Nat} (h : Own w base p c l) (o : Obj) : Own (w.alloc o) base p c l := ⟨h.own.alloc o, h.pc, h.by_⟩
set_option maxRecDepth 100000 in
theorem own_keep {w w' : World} {base c : Nat} {p : Option Addr} {l : List Nat} (h : Own w base p c l) (g : w.grownBy w' none) : Own w' base p c l := ⟨h.own.kept g (by cases hv : (Value.slice p l.length c).ownBlock <;> simp), h.pc, h.by_⟩
set_option maxRecDepth 100000 in
set_option maxHeartbeats 6400000 in
theorem rencf_any (r : List Int) (P : Pk) (hP : P.Wf) (p : Option Addr) (c : Nat) (hc : r.length ≤ c ∧ c ≤ 9223372036854775807) (q : Nat → Prop) (w : World) (hR : Rd w q (.slice p r.length c) (r.map iv)) :
    Calls Tryd.prog 6 #[fval (.slice p r.length c) P] w fun e w' => EFPost r P w e w' := by
  have hfv : fval (.slice p r.length c) P = .agg #[.slice p r.length c, .int .i64 P.mode, .int .i64 P.sub, .int .i64 P.set, .int .i64 P.len, .int .i64 P.ttl, .int .i64 P.ent, .int .i64 P.ing, .int .i64 P.pro, .int .u64 (P.bits : Int), .string P.pay] := rfl
  rw [hfv]
  obtain ⟨j0, hj0, hy0, hy1, hy2⟩ := info_parts info_u8
  obtain ⟨i0, hi0, hz0, hz1, hz2⟩ := info_parts info_lab
  obtain ⟨k1, k2⟩ := sone_box w (frcells (.slice p r.length c) P) 33
  have HB := Lib.hid (And.intro k1 k2)
  obtain ⟨c0, c1, c2, c3, c4, c5, c6, c7, c8, c9, c10⟩ := fr_facts k1
  have HR := Lib.hid (hR.keep k2)
  have HFV := Lib.hid hfv
  have hval : P.val = .agg #[.int .i64 P.mode, .int .i64 P.sub, .int .i64 P.set, .int .i64 P.len, .int .i64 P.ttl, .int .i64 P.ent, .int .i64 P.ing, .int .i64 P.pro, .int .u64 (P.bits : Int), .string P.pay] := rfl
  have HV := Lib.hid hval
  have HC := Lib.hid hc
  clear hR hfv hval hc k1 k2
  go_enter Tryd.func6, Tryd.ntmps6
  go_upto_region 1 with fail
  have HB2 : Hid ((w.alloc (.cells #[.slice p r.length c, .int .i64 P.mode, .int .i64 P.sub, .int .i64 P.set, .int .i64 P.len, .int .i64 P.ttl, .int .i64 P.ent, .int .i64 P.ing, .int .i64 P.pro, .int .u64 (P.bits : Int), .string P.pay] 33)).heap[w.heap.size]? = some (.cells (frcells (.slice p r.length c) P) 33 (0, 0)) ∧ w.grownBy (w.alloc (.cells #[.slice p r.length c, .int .i64 P.mode, .int .i64 P.sub, .int .i64 P.set, .int .i64 P.len, .int .i64 P.ttl, .int .i64 P.ent, .int .i64 P.ing, .int .i64 P.pro, .int .u64 (P.bits : Int), .string P.pay] 33)) none) := HB
  clear HB
  unfold frcells at HR c0 c1 c2 c3 c4 c5 c6 c7 c8 c9 c10
  generalize w.alloc _ = wa at *
  go_wp2_with fail
  rw [← HFV.out]
  refine (rvfr_any r P hP p c (Nat.le_trans HC.out.1 HC.out.2) q wa HR.out).mono ?_
  rintro e w1 ⟨rfl, hg⟩
  have HB1 := Lib.hid (And.intro (kept_row HB2.out.1 hg (by simp)) (grown_trans HB2.out.2 hg))
  have HR1 := Lib.hid (HR.out.keep hg)
  clear hg HB2 HR c0 c1 c2 c3 c4 c5 c6 c7 c8 c9 c10
  cases hv : vfr r P
  · go_wp2_with fail
    go_ret2
    exact Or.inr ⟨hv, rfl, HB1.out.2⟩
  · obtain ⟨hr24, hra, hrr, hvp⟩ := vfr_parts hv
    obtain ⟨c0, c1, c2, c3, c4, c5, c6, c7, c8, c9, c10⟩ := fr_facts HB1.out.1
    have HVF := Lib.hid (And.intro hv (And.intro hra (And.intro hvp (enc_small hvp))))
    clear hv hra hrr hvp
    go_wp2_with fail
    rw [← HV.out]
    refine (rencodeo_any P hP HVF.out.2.2.1 w1).mono ?_
    rintro e w2 ⟨pE, cE, rfl, hO, hg⟩
    have hpos : 0 < (enc P).length := by rw [enc_len]; omega
    obtain ⟨gE, rfl, hgE, hcE, -⟩ := own_src hO hpos
    have HE := Lib.hid hO
    have HB3 := Lib.hid (And.intro (kept_row HB1.out.1 hg (by simp)) (grown_trans HB1.out.2 hg))
    have HR3 := Lib.hid (HR1.out.keep hg)
    obtain ⟨D, hD⟩ : ∃ D, enc P = D := ⟨_, rfl⟩
    have HEP := Lib.hid hD
    have h100 := HVF.out.2.2.2
    rw [hD] at HE hpos hcE h100 ⊢
    clear hg HB1 HR1 hO c0 c1 c2 c3 c4 c5 c6 c7 c8 c9 c10 hD
    obtain ⟨c0, c1, c2, c3, c4, c5, c6, c7, c8, c9, c10⟩ := fr_facts HB3.out.1
    clear c1 c2 c3 c4 c5 c6 c7 c8 c9 c10
    by_cases hr0 : r.length = 0
    · go_wp2_with (at_builtin; refine wpList_append_own _ rfl _ _ 23 rfl w2.heap.size 5 j0 (.int .u8 0) 1 1 Tryd.underlying23 hj0 hy0 hy1 hy2 rfl (by decide) _ 1 ([0].map nv) rfl (own_lit1 w2 0) ⟨gE, 0, none⟩ D.length cE (D.map nv) rfl (by simp) ?c1 ?c2 ?c3 ?c4 ?c5 ?_)
      case c1 => exact own_at (own_alloc HE.out _)
      case c2 => exact nv_one
      case c3 => unfold maxLen; omega
      case c4 => omega
      case c5 => simp
      intro v' w3 hown hgrow _
      obtain ⟨g3, c3, rfl, hg3, hO3⟩ := own_mk (A := [0]) (B := D) hown rfl rfl (by intro x hx; have := List.mem_singleton.1 hx; omega) HE.out.by_ (by omega)
      have HF := Lib.hid (And.intro hO3 (grown_new (World.grownBy_alloc w2 _ none) hgrow (Nat.le_refl _)))
      clear hown hgrow hO3
      go_wp2_with fail
      go_ret2
      have e0 : encF r P = [0] ++ D := by rw [← HEP.out]; have := encF_nil (P := P) hr0; rw [← this]; simp
      refine Or.inl ⟨HVF.out.1, some ⟨g3, 0, none⟩, c3, by rw [e0]; rfl, ?_, grown_trans HB3.out.2 HF.out.2⟩
      rw [e0]
      exact HF.out.1.mono HB3.out.2.size
    · obtain ⟨b, off, rfl, hq, hcc⟩ := rdi_cells HR3.out (by omega)
      have HCC := Lib.hid hcc
      have c0' := c0
      have HAL := Lib.hid (And.intro hr24 HVF.out.2.1)
      clear hcc hq c0
      have hr24' := hr24
      have hl0 : ((r.length : Int) == 0) = false := beq_eq_false_iff_ne.2 (by omega)
      clear hr24
      go_wp2_with fail
      go_loopw [6, 7] (fun v i wr => ∃ p6 c6 M, (M : List Lab).length ≤ r.length ∧ i = .int .i64 (M.length : Int) ∧ v = .slice p6 M.length c6 ∧ Hid ((r.take M.length).map lbR = M) ∧ Hid (OwnL wr w2.heap.size (.slice p6 M.length c6) M) ∧ Hid (w2.grownBy wr none)) (fun _ i _ => r.length - (intOf i).toNat)
      case atStart => exact ⟨none, 0, [], Nat.zero_le _, rfl, rfl, Lib.hid rfl, Lib.hid (World.ownsRow_nil _ _ _ _), Lib.hid (grown_refl _ _)⟩
      case round =>
        obtain ⟨p6, c6, M, hk, rfl, rfl, HM, HO6, HG6⟩ := hrel
        by_cases hlt : M.length < r.length
        · have d0 := HG6.out.cell c0' (by simp)
          have d1 := HG6.out.cell (HCC.out M.length hlt) (by simp)
          obtain ⟨z, hz⟩ : ∃ z, r.getD M.length 0 = z := ⟨_, rfl⟩
          rw [hz] at d1
          have hk2 : r[M.length]? = some z := by rw [← hz, List.getD_eq_getElem?_getD, List.getElem?_eq_getElem hlt]; rfl
          have hz9 : 1 ≤ z ∧ z ≤ 99 := by
            have := List.all_eq_true.1 HAL.out.2 z (List.mem_of_getElem? hk2)
            simpa [okR] using this
          have HK := Lib.hid hk2
          obtain ⟨hz9a, hz9b⟩ := hz9
          have hwz : IntKind.i64.wrap (16 + z) = 16 + z := by rw [IntKind.wrap_i64]; omega
          have hsz := HG6.out.size
          have k0 : (0 : Int) ≤ (M.length : Int) := by omega
          have k1 : (M.length : Int) < (r.length : Int) := by omega
          have hown := HO6.out
          clear hz hk2
          go_wp2_with (at_builtin; refine wpList_append_own _ rfl _ _ 53 rfl w2.heap.size 55 i0 (.agg #[.int .i64 0, .int .i64 0, .int .i64 0]) 3 24 Tryd.underlying53 hi0 hz0 hz1 hz2 rfl (by decide) _ M.length (labsC M) rfl (hown.alloc _) ⟨wr.heap.size, 0, none⟩ 1 1 [.int .i64 (16 + z), .int .i64 0, .int .i64 255] rfl rfl ?c1 ?c2 ?c3 ?c4 ?c5 ?_)
          case c1 => exact cells3 _ _ _ _ _
          case c2 => intro u hu; simp at hu; rcases hu with rfl | rfl | rfl <;> rfl
          case c3 => unfold maxLen; omega
          case c4 => omega
          case c5 => first | omega | (simp; omega)
          intro v' w6 hown' hg _
          obtain ⟨g6, cap6, rfl⟩ := Joins.ownsRow_form hown' (by omega)
          have hM2 : (r.take (M.length + 1)).map lbR = M ++ [lbR z] := by
            rw [List.take_add_one, HK.out, List.map_append, HM.out]; rfl
          have HO7 : Hid (OwnL w6 w2.heap.size (.slice (some ⟨g6, 0, none⟩) (M ++ [lbR z]).length cap6) (M ++ [lbR z])) := Lib.hid (by
            show w6.ownsRow _ _ 3 _ (M ++ [lbR z]).length (labsC (M ++ [lbR z]))
            rw [List.length_append, labsC_snoc]
            exact hown')
          have HG7 : Hid (w2.grownBy w6 none) := Lib.hid (by
            have h1 := grown_trans HG6.out (World.grownBy_alloc wr (.cells #[.int .i64 (16 + z), .int .i64 0, .int .i64 255] 55) none)
            cases hb : (Value.slice p6 M.length c6).ownBlock with
            | none => rw [hb] at hg; exact grown_trans h1 hg
            | some g => rw [hb] at hg; exact grown_new h1 hg (hown.lt g hb).1)
          have HM7 : Hid ((r.take (M ++ [lbR z]).length).map lbR = M ++ [lbR z]) := Lib.hid (by rw [List.length_append]; exact hM2)
          clear hown' hg hown hM2 HO6 HG6 d0 d1
          go_wp2_with fail
          go_roundw
          case rel => exact ⟨some ⟨g6, 0, none⟩, cap6, M ++ [lbR z], by rw [List.length_append]; simp; omega, by simp, by simp, HM7, HO7, HG7⟩
          case measure => simp [intOf]; omega
        · have hke : M.length = r.length := by omega
          have hMr : M = r.map lbR := by rw [← HM.out, hke, List.take_length]
          have d0 := HG6.out.cell c0' (by simp)
          obtain ⟨q1, q2⟩ := encL_route HAL.out.2 (by omega) HAL.out.1
          have C := rencl_any M p6 c6 (by omega) _ wr (rdk_of_own HO6.out)
          rw [hMr] at C
          have HQ := Lib.hid (And.intro q1 q2)
          have HMR := Lib.hid hMr
          have hlM : (r.map lbR).length = M.length := by rw [hMr]
          rw [hlM] at C
          clear q1 q2 hMr hke hlM
          go_wp2_with fail
          refine C.mono ?_
          clear C
          rintro e w4 ⟨p4, c4, rfl, hO4, hg4⟩
          rw [HQ.out.1, HQ.out.2]
          rw [HQ.out.2] at hO4
          obtain ⟨E, hE⟩ : ∃ E, encL (r.map lbR) = E := ⟨_, rfl⟩
          rw [hE] at hO4 ⊢
          have hEl : E.length = 4 * r.length := by rw [← hE, encL_len, List.length_map]
          obtain ⟨g4, rfl, hg4b, hc4, -⟩ := own_src hO4 (by omega)
          have HO4 := Lib.hid hO4
          have HGE := Lib.hid (own_keep HE.out (grown_trans HG6.out hg4))
          have HG4 := Lib.hid (grown_trans HB3.out.2 (grown_trans HG6.out hg4))
          have HEE := Lib.hid hE
          have hE96 : 0 < E.length ∧ E.length ≤ 96 := by omega
          clear hO4 hg4 hE hEl HO6 HG6 HQ HMR HM d0 HCC
          go_wp2_with (at_builtin; refine wpList_append_own _ rfl _ _ 23 rfl w4.heap.size 5 j0 (.int .u8 0) 1 1 Tryd.underlying23 hj0 hy0 hy1 hy2 rfl (by decide) _ 1 ([1].map nv) rfl (own_lit1 w4 1) ⟨g4, 0, none⟩ E.length c4 (E.map nv) rfl (by simp) ?c1 ?c2 ?c3 ?c4 ?c5 ?_)
          case c1 => exact own_at (own_alloc HO4.out _)
          case c2 => exact nv_one
          case c3 => unfold maxLen; omega
          case c4 => omega
          case c5 => simp
          intro v5 w5 hown hgrow _
          obtain ⟨g5, c5, rfl, hg5, hO5⟩ := own_mk (A := [1]) (B := E) hown rfl rfl (by intro x hx; have := List.mem_singleton.1 hx; omega) HO4.out.by_ (by omega)
          have HG5 := Lib.hid (grown_new (World.grownBy_alloc w4 _ none) hgrow (Nat.le_refl _))
          have HGE5 := Lib.hid (own_keep HGE.out HG5.out)
          obtain ⟨F, hF⟩ : ∃ F, [1] ++ E = F := ⟨_, rfl⟩
          have hFl : F.length = 1 + E.length := by rw [← hF]; simp; omega
          rw [hF] at hO5 ⊢
          have HF := Lib.hid hF
          have HO5 := Lib.hid hO5
          have hown5 := hO5.own
          have hs5 := HG5.out.size
          clear hown hgrow hO5 hF HO4 HGE
          go_wp2_with (at_builtin; refine wpList_append_own _ rfl _ _ 23 rfl w4.heap.size 5 j0 (.int .u8 0) 1 1 Tryd.underlying23 hj0 hy0 hy1 hy2 rfl (by decide) _ F.length (F.map nv) rfl hown5 ⟨gE, 0, none⟩ D.length cE (D.map nv) rfl (by simp) ?c1 ?c2 ?c3 ?c4 ?c5 ?_)
          case c1 => exact own_at HGE5.out
          case c2 => exact nv_one
          case c3 => unfold maxLen; omega
          case c4 => omega
          case c5 => exact hs5
          intro v7 w7 hown hgrow _
          obtain ⟨g7, c7, rfl, hg7, hO7⟩ := own_mk (A := F) (B := D) hown (by first | rfl | exact hFl) rfl HO5.out.by_ HGE5.out.by_ (by omega)
          have HX7 := Lib.hid (And.intro hO7 (grown_new (grown_trans HG4.out HG5.out) hgrow (Nat.le_trans HG4.out.size hg5)))
          clear hown hgrow hO7 hown5
          go_wp2_with fail
          go_ret2
          have e0 : encF r P = F ++ D := by
            rw [← HEP.out, ← HF.out, ← HEE.out, ← encF_some (P := P) hr0]; simp
          refine Or.inl ⟨HVF.out.1, some ⟨g7, 0, none⟩, c7, by rw [e0]; rfl, ?_, HX7.out.2⟩
          rw [e0]
          exact HX7.out.1.mono HG4.out.size
end Go.Proofs.YtpabfjhjehjebaaDoor

/- stack: routeOf. -/
namespace Go.Proofs.YtpabfjhjehjebaaDoor
open Go.RowKit Bs
def RTPost (ls : List Lab) (w : World) (e : Ending) (w' : World) : Prop :=
  ∃ p c, e = .returned (.tuple #[.slice p (rtV ls).1.length c, .int .i64 (rtV ls).2]) ∧ Rd w' (w.heap.size ≤ ·) (.slice p (rtV ls).1.length c) ((rtV ls).1.map iv) ∧ (rtV ls).1.length ≤ c ∧ c ≤ 9223372036854775807 ∧ (p = none → c = 0) ∧ w.grownBy w' none
set_option maxRecDepth 100000 in
theorem rt_err {ls : List Lab} {w w' : World} {x : Int} (h : rtV ls = ([], x)) (g : w.grownBy w' none) : RTPost ls w (.returned (.tuple #[.slice none 0 0, .int .i64 x])) w' := by
  refine ⟨none, 0, by rw [h]; rfl, ?_, by rw [h]; exact Nat.le_refl _, by omega, fun _ => rfl, g⟩
  rw [h]
  exact Rd.nil_ _ _ _ _
set_option maxRecDepth 100000 in
theorem keep3 {w0 w' : World} {b : Nat} {x y z : Value} (h0 : w0.cell? ⟨b, 0, none⟩ = some x) (h1 : w0.cell? ⟨b, 1, none⟩ = some y) (h2 : w0.cell? ⟨b, 2, none⟩ = some z) (g : Hid (w0.grownBy w' none)) :
    w'.cell? ⟨b, 0, none⟩ = some x ∧ w'.cell? ⟨b, 1, none⟩ = some y ∧ w'.cell? ⟨b, 2, none⟩ = some z ∧ Hid (w0.grownBy w' none) := ⟨g.out.cell h0 (by simp), g.out.cell h1 (by simp), g.out.cell h2 (by simp), g⟩
set_option maxRecDepth 100000 in
theorem grown_dn (w : World) (n : Nat) : w.grownBy (w.drewN n) none := grown_drewN w n none
set_option maxRecDepth 100000 in
theorem hid_dr (w : World) : Hid (w.grownBy w.drew none) := Lib.hid (grown_drew (grown_refl _ _))
def rtZ (ls : List Lab) (k : Nat) : List Value := (rts (ls.take k)).map iv ++ List.replicate (ls.length - k) (iv 0)
set_option maxRecDepth 100000 in
theorem rtZ_pre {ls : List Lab} {k : Nat} (h : k ≤ ls.length) : ((rts (ls.take k)).map iv).length = k := by
  unfold rts
  rw [List.length_map, List.length_map, List.length_take, Nat.min_eq_left h]
set_option maxRecDepth 100000 in
theorem rtZ_at {ls : List Lab} {k : Nat} (h : k < ls.length) : (rtZ ls k)[k]? = some (iv 0) := by
  unfold rtZ
  rw [List.getElem?_append_right (by rw [rtZ_pre (Nat.le_of_lt h)]; exact Nat.le_refl _), rtZ_pre (Nat.le_of_lt h), Nat.sub_self, List.getElem?_replicate, if_pos (by omega)]
set_option maxRecDepth 100000 in
theorem rtZ_set {ls : List Lab} {k : Nat} {l : Lab} (h : k < ls.length) (hl : ls[k]? = some l) : (rtZ ls k).set k (iv (l.v - 16)) = rtZ ls (k + 1) := by
  unfold rtZ
  have hp := rtZ_pre (Nat.le_of_lt h)
  rw [show ls.length - k = (ls.length - (k + 1)) + 1 by omega, List.replicate_succ, List.set_append_right _ _ (by rw [hp]; exact Nat.le_refl _), hp, Nat.sub_self, List.set_cons_zero, List.take_add_one, hl]
  unfold rts
  simp
set_option maxRecDepth 100000 in
theorem okL_iff (l : Lab) : okL l = true ↔ okR (l.v - 16) = true ∧ l.c = 0 ∧ l.h = 255 := by
  unfold okL okR
  rw [decide_eq_true_eq, decide_eq_true_eq]
  omega
set_option maxRecDepth 100000 in
theorem all_bad {ls : List Lab} {k : Nat} {l : Lab} (h : ls[k]? = some l) (hv : ¬ okL l = true) : rtV ls = ([], 2) := by
  have : ls.all okL = false := by
    rw [Bool.eq_false_iff]
    intro ha
    exact hv (List.all_eq_true.1 ha l (List.mem_of_getElem? h))
  unfold rtV
  rw [this]
  rfl
set_option maxRecDepth 100000 in
set_option maxHeartbeats 3200000 in
theorem srtof_any (ls : List Lab) (hv : ∀ l ∈ ls, vlab l = true) (h24 : ls.length ≤ 24) (p : Option Addr) (c : Nat) (q : Nat → Prop) (w : World) (hR : RdL w q (.slice p ls.length c) ls) :
    Calls Tryd.prog 29 #[.slice p ls.length c] w fun e w' => RTPost ls w e w' := by
  have HR := Lib.hid hR
  have HV := Lib.hid hv
  clear hR hv
  obtain ⟨i0, hi, hz0, hz1, hz2⟩ := info_parts info_int
  go_enter Tryd.func29, Tryd.ntmps29
  go_wp2_with (at_make; refine wpList_make_k _ rfl _ _ 22 rfl 3 i0 _ Tryd.underlying22 hi hz0 ls.length rfl rfl (by omega) (by omega) ?_; rw [hz1, made_same _ (iv 0) (by intro i hi; have : i = 0 := by { simp [Value.cells] at hi; omega }; subst this; rfl) (by simp [Value.cells]) _, Nat.mul_one])
  obtain ⟨k1, k2⟩ := sone_box w (Array.replicate ls.length (iv 0)) 3
  have P0 : Hid (Row (w.alloc (.cells (Array.replicate ls.length (iv 0)) 3)) w.heap.size 3 (rtZ ls 0) ∧ w.grownBy (w.alloc (.cells (Array.replicate ls.length (iv 0)) 3)) none) := by
    refine Lib.hid ⟨?_, k2⟩
    unfold Row rtZ
    rw [k1, List.take_zero, Nat.sub_zero]
    show _ = some (Obj.cells (List.replicate ls.length (iv 0)).toArray _ _)
    rw [List.toArray_replicate]
  clear k1 k2
  generalize w.alloc _ = wa at *
  go_loopw [13] (fun a wr => ∃ k : Nat, k ≤ ls.length ∧ a = .int .i64 (k : Int) ∧ Row wr w.heap.size 3 (rtZ ls k) ∧ w.grownBy wr none ∧ ∀ x ∈ ls.take k, okL x = true) (fun a _ => ls.length - (intOf a).toNat)
  case atStart => exact ⟨0, Nat.zero_le _, rfl, P0.out.1, P0.out.2, fun x hx => by simp at hx⟩
  case round =>
    obtain ⟨k, hk, rfl, hX, hG, hA⟩ := hrel
    have HX := Lib.hid (And.intro hX hG)
    have HA := Lib.hid hA
    clear hX hG P0 hA
    by_cases hlt : k < ls.length
    · obtain ⟨-, b, off, rfl, hq, hc⟩ := (HR.out.keep HX.out.2).cells (by omega)
      obtain ⟨c0, c1, c2⟩ := hc k hlt
      obtain ⟨l, hl⟩ : ∃ l, ls[k] = l := ⟨_, rfl⟩
      rw [hl] at c0 c1 c2
      have HL : Hid (ls[k]? = some l) := Lib.hid (by rw [← hl]; exact List.getElem?_eq_getElem hlt)
      have hv9 := (vlab_iff l).1 (HV.out l (List.mem_of_getElem? HL.out))
      clear hc hl
      obtain ⟨y, hy⟩ : ∃ y, l.v - 16 = y := ⟨_, rfl⟩
      have hv' : l.v = 16 + y := by omega
      obtain ⟨v0, v1⟩ : -16 ≤ y ∧ y ≤ 1048559 := by omega
      have HOK := Lib.hid (okL_iff l)
      rw [hy] at HOK
      have HY := Lib.hid hy
      rw [hv'] at c0
      obtain ⟨cc, hcc⟩ : ∃ cc, l.c = cc := ⟨_, rfl⟩
      obtain ⟨hh, hhh⟩ : ∃ hh, l.h = hh := ⟨_, rfl⟩
      rw [hcc] at c1 HOK
      rw [hhh] at c2 HOK
      clear hv' hcc hhh hy hv9
      go_upto_region 5 with fail
      obtain ⟨k1, k2⟩ := sone_box wr #[.int .i64 (16 + y), .int .i64 cc, .int .i64 hh] 55
      have HX1 := Lib.hid (And.intro (HX.out.1.kept k2 (by simp)) (grown_trans HX.out.2 k2))
      obtain ⟨d0, d1, d2⟩ := lab_facts (l := ⟨16 + y, cc, hh⟩) k1
      simp only at d0 d1 d2
      clear k1 k2 HX c0 c1 c2
      generalize wr.alloc _ = wb at *
      go_upto_region 6 with fail
      rw [show 16 + y - 16 = y by omega]
      cases hok : okR y
      · have hVR : ∀ w, Calls Tryd.prog 54 #[.int .i64 y] w fun e w' => e = .returned (.bool false) ∧ w = w' := fun w => (svr_any y w).mono (by rw [hok]; rintro e w' ⟨rfl, rfl⟩; exact ⟨rfl, rfl⟩)
        have HB := Lib.hid (all_bad HL.out (fun h => by have := (HOK.out.1 h).1; rw [hok] at this; cases this))
        clear hok
        go_quiet (first | (go_at_call 54; first | exact qt0 (hVR _) | exact qt1 (hVR _) | exact qt2 (hVR _)))
        go_wp2_with fail
        go_ret2
        exact rt_err HB.out (grown_trans HX1.out.2 (grown_dn _ _))
      · have HOKT := Lib.hid hok
        have hz9 : 1 ≤ y ∧ y ≤ 99 := by simpa [okR] using hok
        have HZ := Lib.hid hz9
        clear hok hz9
        by_cases hc0 : cc = 0
        · by_cases hh0 : hh = 255
          · subst hc0
            subst hh0
            go_region_held3 (fun w' => w'.cell? ⟨wr.heap.size, 0, none⟩ = some (.int .i64 (16 + y)) ∧ w'.cell? ⟨wr.heap.size, 1, none⟩ = some (.int .i64 0) ∧ w'.cell? ⟨wr.heap.size, 2, none⟩ = some (.int .i64 255) ∧ Hid (wb.grownBy w' none))
              (first | with_reducible exact keep3 d0 d1 d2 (hid_dr wb) | (go_split_ands; with_reducible refine keep3 d0 d1 d2 (hid_more ?_ hap); with_reducible assumption) | (go_split_ands; with_reducible refine keep3 d0 d1 d2 ?_; with_reducible assumption))
              (first | (go_at_call 54; refine (svr_any _ _).mono ?_; rw [HOKT.out]; rintro e w' ⟨rfl, rfl⟩) | (go_at_call 55; refine (slabof_any _ HZ.out _).mono ?_; rintro e w' ⟨rfl, hap⟩))
            all_goals
              have HGW := Lib.hid (And.intro (HX1.out.1.kept (grown_trans (hid_dr wb).out hap) (by simp)) (grown_trans HX1.out.2 (grown_trans (hid_dr wb).out hap)))
              go_split_ands
              clear hap
              have e0 : w'.cell? ⟨w.heap.size, k, none⟩ = some (.int .i64 0) := HGW.out.1.cell (rtZ_at hlt)
              have f0 := HGW.out.1.frozen k
              have HS : Hid (Row (w'.setCell ⟨w.heap.size, k, none⟩ (.int .i64 y)) w.heap.size 3 (rtZ ls (k + 1)) ∧ w.grownBy (w'.setCell ⟨w.heap.size, k, none⟩ (.int .i64 y)) none) := by
                refine Lib.hid ⟨?_, grown_new HGW.out.2 (grown_setCell w' ⟨w.heap.size, k, none⟩ _) (Nat.le_refl _)⟩
                rw [← rtZ_set hlt HL.out, HY.out]
                exact HGW.out.1.set _ _
              go_wp2_with fail
              refine ⟨⟨k + 1, by omega, congrArg _ (by omega), HS.out.1, HS.out.2, fun x hx => ?_⟩, by simp only [intOf]; omega⟩
              rw [List.take_add_one, HL.out] at hx
              rcases List.mem_append.1 hx with hx | hx
              · exact HA.out x hx
              · obtain rfl : x = l := by simpa using hx
                exact HOK.out.2 (by simp [HOKT.out])
          · subst hc0
            have hhb : (hh == 255) = false := by simpa using hh0
            go_region_held3 (fun w' => w'.cell? ⟨wr.heap.size, 0, none⟩ = some (.int .i64 (16 + y)) ∧ w'.cell? ⟨wr.heap.size, 1, none⟩ = some (.int .i64 0) ∧ w'.cell? ⟨wr.heap.size, 2, none⟩ = some (.int .i64 hh) ∧ Hid (wb.grownBy w' none))
              (first | with_reducible exact keep3 d0 d1 d2 (hid_dr wb) | (go_split_ands; with_reducible refine keep3 d0 d1 d2 (hid_more ?_ hap); with_reducible assumption) | (go_split_ands; with_reducible refine keep3 d0 d1 d2 ?_; with_reducible assumption))
              (first | (go_at_call 54; refine (svr_any _ _).mono ?_; rw [HOKT.out]; rintro e w' ⟨rfl, rfl⟩) | (go_at_call 55; refine (slabof_any _ HZ.out _).mono ?_; rintro e w' ⟨rfl, hap⟩))
            all_goals
              have HGW := Lib.hid (grown_trans HX1.out.2 (grown_trans (hid_dr wb).out hap))
              go_split_ands
              clear hap
              go_wp2_with fail
              go_ret2
              exact rt_err (all_bad HL.out (fun h => by have := (HOK.out.1 h).2; omega)) HGW.out
        · have hcb : (cc == 0) = false := by simpa using hc0
          go_region_held3 (fun w' => w'.cell? ⟨wr.heap.size, 0, none⟩ = some (.int .i64 (16 + y)) ∧ w'.cell? ⟨wr.heap.size, 1, none⟩ = some (.int .i64 cc) ∧ w'.cell? ⟨wr.heap.size, 2, none⟩ = some (.int .i64 hh) ∧ Hid (wb.grownBy w' none))
            (first | with_reducible exact keep3 d0 d1 d2 (hid_dr wb) | (go_split_ands; with_reducible refine keep3 d0 d1 d2 (hid_more ?_ hap); with_reducible assumption) | (go_split_ands; with_reducible refine keep3 d0 d1 d2 ?_; with_reducible assumption))
            (first | (go_at_call 54; refine (svr_any _ _).mono ?_; rw [HOKT.out]; rintro e w' ⟨rfl, rfl⟩) | (go_at_call 55; refine (slabof_any _ HZ.out _).mono ?_; rintro e w' ⟨rfl, hap⟩))
          all_goals
            have HGW := Lib.hid (grown_trans HX1.out.2 (grown_trans (hid_dr wb).out hap))
            go_split_ands
            clear hap
            go_wp2_with fail
            go_ret2
            exact rt_err (all_bad HL.out (fun h => by have := (HOK.out.1 h).2; omega)) HGW.out
    · obtain rfl : k = ls.length := by omega
      have hrow : Row wr w.heap.size 3 ((rts ls).map iv) := by
        have := HX.out.1
        unfold rtZ at this
        rw [List.take_length, Nat.sub_self] at this
        simpa using this
      have hlen : (rts ls).length = ls.length := by unfold rts; rw [List.length_map]
      have hall : ls.all okL = true := by
        rw [List.all_eq_true]
        have := HA.out
        rwa [List.take_length] at this
      have hRd : Rd wr (w.heap.size ≤ ·) (.slice (some ⟨w.heap.size, 0, none⟩) (rts ls).length (rts ls).length) ((rts ls).map iv) :=
        ⟨_, _, by rw [List.length_map], fun _ => ⟨w.heap.size, 0, rfl, Nat.le_refl _, fun i x hi => by rw [Nat.zero_add]; exact hrow.cell hi⟩⟩
      have C := salld_any (rts ls) _ _ (Nat.le_refl _) (by omega) _ wr hRd
      have hrt : rtV ls = if rep (rts ls) then ([], 5) else (rts ls, 0) := by unfold rtV; rw [if_pos hall]
      have HRT := Lib.hid hrt
      have HRD := Lib.hid hRd
      have HLN := Lib.hid hlen
      rw [hlen] at C
      clear hrow hall hRd hrt hlen
      go_wp2_with fail
      refine C.mono ?_
      clear C
      rintro e w' ⟨rfl, rfl⟩
      cases hr : rep (rts ls)
      · have e : rtV ls = (rts ls, 0) := by rw [HRT.out, if_neg (by rw [hr]; decide)]
        have HE := Lib.hid e
        clear e hr
        go_wp2_with fail
        go_ret2
        refine ⟨some ⟨w.heap.size, 0, none⟩, ls.length, ?_, ?_, ?_, by omega, by exact nofun, HX.out.2⟩
        · rw [HE.out]
          show Ending.returned (.tuple #[.slice (some ⟨w.heap.size, 0, none⟩) ls.length ls.length, .int .i64 0]) = .returned (.tuple #[.slice (some ⟨w.heap.size, 0, none⟩) (rts ls).length ls.length, .int .i64 0])
          rw [HLN.out]
        · rw [HE.out, ← HLN.out]
          exact HRD.out
        · rw [HE.out]
          exact Nat.le_of_eq HLN.out
      · have HE := Lib.hid (show rtV ls = ([], 5) by rw [HRT.out, if_pos hr])
        clear hr
        go_wp2_with fail
        go_ret2
        exact rt_err HE.out HX.out.2
end Go.Proofs.YtpabfjhjehjebaaDoor

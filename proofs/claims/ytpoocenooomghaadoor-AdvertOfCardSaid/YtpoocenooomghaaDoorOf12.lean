/- Parts of the proof, packed: AdWr, AdEnc, AdCmp, AdCf, AdLs, AdCpA, AdNew. -/
import Derived.Test.YtpoocenooomghaaDoorOf11
import Derived.Test.YtpoocenooomghaaDoorOf10
import Derived.Deep.CutRange
import Derived.Test.YtpoocenooomghaaDoorOf8
import Derived.Test.YtpoocenooomghaaDoorOf3
import Derived.Deep.RegionHeld3
/- advert.write. -/
namespace Go.Proofs.YtpoocenooomghaaDoor
open Go.RowKit Bs
set_option maxRecDepth 100000 in
set_option maxHeartbeats 12800000 in
theorem awr_any (A : Ad) (q : Nat → Prop) (w : World) (hA : AdOk w q A) (hv : VA A) (hT : Tb w) :
    Calls Tryd.prog 44 #[A.val] w fun e w' => SP (adB A) w e w' := by
  have hmf : ∀ (fn : Fn) (first cap : Array Value) (w : World), (Instr.makeFunc fn first cap).run Tryd.prog w = .ok (.func fn first cap) w := fun _ _ _ _ => rfl
  have hll := hv.ll
  have hcl := hv.cl
  have hr := hv.r
  have hq := hv.q
  have HV := Lib.hid hv
  have HT := Lib.hid hT
  have hOld : AdOk w (· < w.heap.size) A := hA.old
  have g1 := World.grownBy_alloc w (.cells (adC A) 26) none
  have g2 := World.grownBy_alloc (w.alloc (.cells (adC A) 26)) (.cells #[.slice none 0 0, .int .i64 0] 47) none
  have g3 := World.grownBy_alloc ((w.alloc (.cells (adC A) 26)).alloc (.cells #[.slice none 0 0, .int .i64 0] 47)) (.cells #[.slice none 0 0, .int .i64 0] 47) none
  have b1 := kept_row (kept_row (heap_alloc_new w (.cells (adC A) 26)) g2 (by simp)) g3 (by simp)
  have b2 := kept_row (heap_alloc_new (w.alloc (.cells (adC A) 26)) (.cells #[.slice none 0 0, .int .i64 0] 47)) g3 (by simp)
  have b3 := heap_alloc_new ((w.alloc (.cells (adC A) 26)).alloc (.cells #[.slice none 0 0, .int .i64 0] 47)) (.cells #[.slice none 0 0, .int .i64 0] 47)
  have s1 : (w.alloc (.cells (adC A) 26)).heap.size = w.heap.size + 1 := by simp
  have s2 : ((w.alloc (.cells (adC A) 26)).alloc (.cells #[.slice none 0 0, .int .i64 0] 47)).heap.size = w.heap.size + 2 := by simp
  rw [s1] at b2
  rw [s2] at b3
  have HW : Hid (WK w A w.heap.size (w.heap.size + 1) (w.heap.size + 1 + 1) [] _) := Lib.hid ⟨b1, ((hOld.keep g1).keep g2).keep g3, ⟨none, 0, ⟨b3, ⟨none, 0, rfl, fun hne => absurd rfl hne⟩⟩⟩, b2, grown_trans (grown_trans g1 g2) g3, Nat.le_refl _, by omega, by omega⟩
  clear g1 g2 g3 b1 b2 b3 s1 s2 hOld hA hT hv
  unfold Ad.val
  obtain ⟨pL, hpL⟩ : ∃ p, A.pL = p := ⟨_, rfl⟩
  obtain ⟨pC, hpC⟩ : ∃ p, A.pC = p := ⟨_, rfl⟩
  rw [hpL, hpC]
  unfold adC at HW
  rw [hpL, hpC] at HW
  have HPL := Lib.hid hpL
  have HPC := Lib.hid hpC
  clear hpL hpC
  go_enter Tryd.func44, Tryd.ntmps44
  go_upto_region 2 with fail
  generalize ((w.alloc _).alloc _).alloc _ = w0 at *
  obtain ⟨G, hG⟩ : ∃ G, w.heap.size = G := ⟨_, rfl⟩
  obtain ⟨R0, hR0⟩ : ∃ R0, G + 1 = R0 := ⟨_, rfl⟩
  obtain ⟨S, hS⟩ : ∃ S, R0 + 1 = S := ⟨_, rfl⟩
  (try rw [hG] at HW)
  (try rw [hG])
  rw [hR0, hS] at HW
  (try rw [hR0])
  (try rw [hS])
  clear hR0 hS
  have HGE := Lib.hid hG
  clear hG
  obtain ⟨a0, a1, a2, a3, a4⟩ := ad_facts (A := A) HW.out.gb
  rw [HPL.out] at a3
  rw [HPC.out] at a4
  go_wp2_with fail
  obtain ⟨pp1, cc1, hs1⟩ := HW.out.sb
  refine (aputI_any ([]) (A.r) 7 7 S pp1 cc1 _ hs1 rfl (by decide) (by omega) (by omega) (by simp only [List.length_nil]; omega)).mono ?_
  rintro e w1 ⟨pq1, cq1, rfl, hs, hg⟩
  have HWn := Lib.hid (HW.out.put hs hg)
  clear hs hg hs1
  clear HW
  have HW := HWn
  clear HWn
  (try clear a0 a1 a2 a3 a4)
  obtain ⟨a0, a1, a2, a3, a4⟩ := ad_facts (A := A) HW.out.gb
  rw [HPL.out] at a3
  rw [HPC.out] at a4
  go_wp2_with fail
  obtain ⟨pp2, cc2, hs2⟩ := HW.out.sb
  refine (aputI_any ([] ++ nb A.r.toNat 7) (A.q) 20 20 S pp2 cc2 _ hs2 rfl (by decide) (by omega) (by omega) (by simp only [List.length_append, nb_len, List.length_nil]; omega)).mono ?_
  rintro e w2 ⟨pq2, cq2, rfl, hs, hg⟩
  have HWn := Lib.hid (HW.out.put hs hg)
  clear hs hg hs2
  clear HW
  have HW := HWn
  clear HWn
  (try clear a0 a1 a2 a3 a4)
  obtain ⟨a0, a1, a2, a3, a4⟩ := ad_facts (A := A) HW.out.gb
  rw [HPL.out] at a3
  rw [HPC.out] at a4
  go_wp2_with fail
  refine (abit_any A.cp _).mono ?_
  rintro e w' ⟨rfl, rfl⟩
  go_wp2_with fail
  obtain ⟨pp3, cc3, hs3⟩ := HW.out.sb
  refine (aputI_any ([] ++ nb A.r.toNat 7 ++ nb A.q.toNat 20) (((A.cp.toNat : Nat) : Int)) 1 1 S pp3 cc3 _ hs3 rfl (by decide) (by omega) (by have := Bool.toNat_le A.cp; omega) (by simp only [List.length_append, nb_len, List.length_nil]; omega)).mono ?_
  rintro e w3 ⟨pq3, cq3, rfl, hs, hg⟩
  have HWn := Lib.hid (HW.out.put hs hg)
  clear hs hg hs3
  clear HW
  have HW := HWn
  clear HWn
  (try clear a0 a1 a2 a3 a4)
  obtain ⟨a0, a1, a2, a3, a4⟩ := ad_facts (A := A) HW.out.gb
  rw [HPL.out] at a3
  rw [HPC.out] at a4
  go_wp2_with fail
  obtain ⟨pp4, cc4, hs4⟩ := HW.out.sb
  refine (aputI_any ([] ++ nb A.r.toNat 7 ++ nb A.q.toNat 20 ++ nb ((A.cp.toNat : Nat) : Int).toNat 1) ((A.L.length : Int)) 5 5 S pp4 cc4 _ hs4 rfl (by decide) (by omega) (by omega) (by simp only [List.length_append, nb_len, List.length_nil]; omega)).mono ?_
  rintro e w4 ⟨pq4, cq4, rfl, hs, hg⟩
  have HWn := Lib.hid (HW.out.put hs hg)
  clear hs hg hs4
  clear HW
  have HW := HWn
  clear HWn
  (try clear a0 a1 a2 a3 a4)
  obtain ⟨a0, a1, a2, a3, a4⟩ := ad_facts (A := A) HW.out.gb
  rw [HPL.out] at a3
  rw [HPC.out] at a4
  have HWL : Hid (WK w A G R0 S (lkB A 0) _) := Lib.hid (by have := HW.out; simp only [List.nil_append, Int.toNat_natCast] at this; unfold lkB hdB; rw [List.take_zero, List.flatMap_nil, List.append_nil]; exact this)
  clear HW
  go_wp2_with fail
  go_loopw [31] (fun a wr => ∃ k : Nat, k ≤ A.L.length ∧ a = .int .i64 (k : Int) ∧ Hid (WK w A G R0 S (lkB A k) wr)) (fun a _ => A.L.length - (RowKit.intOf a).toNat)
  case atStart => exact ⟨0, Nat.zero_le _, rfl, HWL⟩
  case round =>
  obtain ⟨wl, rfl⟩ : ∃ wl, wl = wr := ⟨_, rfl⟩
  obtain ⟨k, hk, rfl, HW⟩ := hrel
  clear HWL a0 a1 a2 a3 a4
  by_cases hlt : k < A.L.length
  · obtain ⟨-, bL, oL, hp, -, hc⟩ := rd3_cells HW.out.ok.l (by omega)
    obtain rfl : pL = some ⟨bL, oL, none⟩ := HPL.out.symm.trans hp
    clear hp
    obtain ⟨x, hx⟩ : ∃ x, A.L[k]? = some x := ⟨_, List.getElem?_eq_getElem hlt⟩
    obtain ⟨x0, x1, x2⟩ := hc k x hx
    have hxb := HV.out.L x (List.mem_of_getElem? hx)
    have HS := Lib.hid (lkB_step hx)
    have hkl : (lkB A k).length ≤ 660 := by rw [lkB_len, List.length_take]; omega
    have HBX := Lib.hid (heap_alloc_new wl (.cells #[.int .i64 x.a, .int .i64 x.b, .int .i64 x.c] 70))
    have HGA := Lib.hid (World.grownBy_alloc wl (.cells #[.int .i64 x.a, .int .i64 x.b, .int .i64 x.c] 70) none)
    obtain ⟨B, hB⟩ : ∃ B, lkB A k = B := ⟨_, rfl⟩
    rw [hB] at HW HS hkl
    clear hc hx hB
    go_upto_region 10 with fail
    clear x0 x1 x2
    obtain ⟨gx, hgx⟩ : ∃ gx, wl.heap.size = gx := ⟨_, rfl⟩
    have hSx : S < wl.heap.size := by
      obtain ⟨p, c, hs⟩ := HW.out.sb
      rcases Nat.lt_or_ge S wl.heap.size with h | h
      · exact h
      · have := hs.bx; rw [Array.getElem?_eq_none h] at this; cases this
    generalize wl.alloc _ = wb at *
    (try rw [hgx] at HBX)
    (try rw [hgx] at hSx)
    (try rw [hgx])
    have HWn := Lib.hid (HW.out.keep HGA.out)
    clear HW hgx HGA
    have HW := HWn
    clear HWn
    obtain ⟨x0, x1, x2⟩ := row3 HBX.out
    go_wp2_with fail
    obtain ⟨pp5, cc5, hs5⟩ := HW.out.sb
    refine (aputI_any (B) (x.a) 7 7 S pp5 cc5 _ hs5 rfl (by decide) (by omega) (by omega) (by omega)).mono ?_
    rintro e w5 ⟨pq5, cq5, rfl, hs, hg⟩
    have HWn := Lib.hid (HW.out.put hs hg)
    have HBX2 := Lib.hid (kept_row HBX.out hg (fun e => by have := Option.some.inj e; omega))
    clear HBX
    have HBX := HBX2
    clear HBX2 x0 x1 x2
    clear hs hg hs5
    clear HW
    have HW := HWn
    clear HWn
    obtain ⟨x0, x1, x2⟩ := row3 HBX.out
    go_wp2_with fail
    obtain ⟨pp6, cc6, hs6⟩ := HW.out.sb
    refine (aputI_any (B ++ nb x.a.toNat 7) (x.b) 10 10 S pp6 cc6 _ hs6 rfl (by decide) (by omega) (by omega) (by simp only [List.length_append, nb_len]; omega)).mono ?_
    rintro e w6 ⟨pq6, cq6, rfl, hs, hg⟩
    have HWn := Lib.hid (HW.out.put hs hg)
    have HBX2 := Lib.hid (kept_row HBX.out hg (fun e => by have := Option.some.inj e; omega))
    clear HBX
    have HBX := HBX2
    clear HBX2 x0 x1 x2
    clear hs hg hs6
    clear HW
    have HW := HWn
    clear HWn
    obtain ⟨x0, x1, x2⟩ := row3 HBX.out
    go_wp2_with fail
    obtain ⟨pp7, cc7, hs7⟩ := HW.out.sb
    refine (aputI_any (B ++ nb x.a.toNat 7 ++ nb x.b.toNat 10) (x.c) 10 10 S pp7 cc7 _ hs7 rfl (by decide) (by omega) (by omega) (by simp only [List.length_append, nb_len]; omega)).mono ?_
    rintro e w7 ⟨pq7, cq7, rfl, hs, hg⟩
    have HWn := Lib.hid (HW.out.put hs hg)
    have HBX2 := Lib.hid (kept_row HBX.out hg (fun e => by have := Option.some.inj e; omega))
    clear HBX
    have HBX := HBX2
    clear HBX2 x0 x1 x2
    clear hs hg hs7
    clear HW
    have HW := HWn
    clear HWn
    obtain ⟨x0, x1, x2⟩ := row3 HBX.out
    have HW2 : Hid (WK w A G R0 S (lkB A (k + 1)) _) := Lib.hid (by rw [HS.out]; exact HW.out)
    clear HW x0 x1 x2
    go_wp2_with fail
    exact ⟨⟨k + 1, by omega, congrArg _ (by omega), HW2⟩, by simp only [RowKit.intOf]; omega⟩
  · obtain rfl : k = A.L.length := by omega
    have hkl : (lkB A A.L.length).length ≤ 660 := by rw [lkB_len, List.length_take]; omega
    obtain ⟨a0, a1, a2, a3, a4⟩ := ad_facts (A := A) HW.out.gb
    rw [HPL.out] at a3
    rw [HPC.out] at a4
    go_wp2_with fail
    obtain ⟨pp8, cc8, hs8⟩ := HW.out.sb
    refine (aputI_any (lkB A A.L.length) ((A.C.length : Int)) 4 4 S pp8 cc8 _ hs8 rfl (by decide) (by omega) (by omega) (by omega)).mono ?_
    rintro e w8 ⟨pq8, cq8, rfl, hs, hg⟩
    have HWn := Lib.hid (HW.out.put hs hg)
    clear hs hg hs8
    clear HW
    have HW := HWn
    clear HWn
    (try clear a0 a1 a2 a3 a4)
    obtain ⟨a0, a1, a2, a3, a4⟩ := ad_facts (A := A) HW.out.gb
    rw [HPL.out] at a3
    rw [HPC.out] at a4
    have HWC : Hid (WK w A G R0 S (cmB A 0) _) := Lib.hid (by have := HW.out; simp only [Int.toNat_natCast] at this; unfold cmB mdB; rw [List.take_zero, List.flatMap_nil, List.append_nil]; exact this)
    clear HW
    go_wp2_with fail
    go_loopw [56] (fun a wr => ∃ k : Nat, k ≤ A.C.length ∧ a = .int .i64 (k : Int) ∧ Hid (WK w A G R0 S (cmB A k) wr)) (fun a _ => A.C.length - (RowKit.intOf a).toNat)
    case atStart => exact ⟨0, Nat.zero_le _, rfl, HWC⟩
    case round =>
    obtain ⟨wl, rfl⟩ : ∃ wl, wl = wr := ⟨_, rfl⟩
    obtain ⟨k, hk, rfl, HW⟩ := hrel
    clear HWC a0 a1 a2 a3 a4 hkl
    by_cases hlt : k < A.C.length
    · obtain ⟨-, bL, oL, hp, -, hc⟩ := rd3_cells HW.out.ok.c (by omega)
      obtain rfl : pC = some ⟨bL, oL, none⟩ := HPC.out.symm.trans hp
      clear hp
      obtain ⟨x, hx⟩ : ∃ x, A.C[k]? = some x := ⟨_, List.getElem?_eq_getElem hlt⟩
      obtain ⟨x0, x1, x2⟩ := hc k x hx
      have hxb := HV.out.C x (List.mem_of_getElem? hx)
      have HS := Lib.hid (cmB_step hx)
      have hkl : (cmB A k).length ≤ 800 := by rw [cmB_len, List.length_take]; omega
      have HBX := Lib.hid (heap_alloc_new wl (.cells #[.int .i64 x.a, .int .i64 x.b, .int .i64 x.c] 73))
      have HGA := Lib.hid (World.grownBy_alloc wl (.cells #[.int .i64 x.a, .int .i64 x.b, .int .i64 x.c] 73) none)
      obtain ⟨B, hB⟩ : ∃ B, cmB A k = B := ⟨_, rfl⟩
      rw [hB] at HW HS hkl
      clear hc hx hB
      go_upto_region 18 with fail
      clear x0 x1 x2
      obtain ⟨gx, hgx⟩ : ∃ gx, wl.heap.size = gx := ⟨_, rfl⟩
      have hSx : S < wl.heap.size := by
        obtain ⟨p, c, hs⟩ := HW.out.sb
        rcases Nat.lt_or_ge S wl.heap.size with h | h
        · exact h
        · have := hs.bx; rw [Array.getElem?_eq_none h] at this; cases this
      generalize wl.alloc _ = wb at *
      (try rw [hgx] at HBX)
      (try rw [hgx] at hSx)
      (try rw [hgx])
      have HWn := Lib.hid (HW.out.keep HGA.out)
      clear HW hgx HGA
      have HW := HWn
      clear HWn
      obtain ⟨x0, x1, x2⟩ := row3 HBX.out
      go_wp2_with fail
      obtain ⟨pp9, cc9, hs9⟩ := HW.out.sb
      refine (aputI_any (B) (x.a) 3 3 S pp9 cc9 _ hs9 rfl (by decide) (by omega) (by omega) (by omega)).mono ?_
      rintro e w9 ⟨pq9, cq9, rfl, hs, hg⟩
      have HWn := Lib.hid (HW.out.put hs hg)
      have HBX2 := Lib.hid (kept_row HBX.out hg (fun e => by have := Option.some.inj e; omega))
      clear HBX
      have HBX := HBX2
      clear HBX2 x0 x1 x2
      clear hs hg hs9
      clear HW
      have HW := HWn
      clear HWn
      obtain ⟨x0, x1, x2⟩ := row3 HBX.out
      go_wp2_with fail
      obtain ⟨pp10, cc10, hs10⟩ := HW.out.sb
      refine (aputI_any (B ++ nb x.a.toNat 3) (x.b) 9 9 S pp10 cc10 _ hs10 rfl (by decide) (by omega) (by omega) (by simp only [List.length_append, nb_len]; omega)).mono ?_
      rintro e w10 ⟨pq10, cq10, rfl, hs, hg⟩
      have HWn := Lib.hid (HW.out.put hs hg)
      have HBX2 := Lib.hid (kept_row HBX.out hg (fun e => by have := Option.some.inj e; omega))
      clear HBX
      have HBX := HBX2
      clear HBX2 x0 x1 x2
      clear hs hg hs10
      clear HW
      have HW := HWn
      clear HWn
      obtain ⟨x0, x1, x2⟩ := row3 HBX.out
      obtain ⟨y, hy⟩ : ∃ y : Nat, x.c = 8 * (y : Int) := by
        rcases hxb.2.2 with h | h | h | h
        · exact ⟨1, h⟩
        · exact ⟨2, h⟩
        · exact ⟨4, h⟩
        · exact ⟨8, h⟩
      have hy8 : 1 ≤ y ∧ y ≤ 8 := by have := hxb.2.2; omega
      have HF : Hid (fst y = ((codeN x.c : Nat) : Int) ∧ codeN x.c < 4) := Lib.hid ⟨by
        have := code_fst hxb.2.2
        rw [show (x.c / 8).toNat = y by omega] at this
        exact this, by unfold codeN; split <;> (try split) <;> (try split) <;> omega⟩
      have x2' : World.cell? _ ⟨gx, 2, none⟩ = some (.int .i64 (8 * (y : Int))) := x2.trans (by rw [hy])
      have HXC := Lib.hid hy
      have hdv : (8 * (y : Int)).tdiv 8 = (y : Int) := Int.mul_tdiv_cancel_left _ (by decide)
      clear x2 hy
      go_wp2_with fail
      refine (firstp_any y (by unfold U64; omega) _ (HT.out.keep HW.out.gr)).mono ?_
      rintro e w' ⟨rfl, rfl⟩
      rw [HF.out.1]
      go_wp2_with fail
      obtain ⟨pp11, cc11, hs11⟩ := HW.out.sb
      refine (aputI_any (B ++ nb x.a.toNat 3 ++ nb x.b.toNat 9) (((codeN x.c : Nat) : Int)) 2 2 S pp11 cc11 _ hs11 rfl (by decide) (by omega) (by have := HF.out.2; omega) (by simp only [List.length_append, nb_len]; omega)).mono ?_
      rintro e w11 ⟨pq11, cq11, rfl, hs, hg⟩
      have HWn := Lib.hid (HW.out.put hs hg)
      have HBX2 := Lib.hid (kept_row HBX.out hg (fun e => by have := Option.some.inj e; omega))
      clear HBX
      have HBX := HBX2
      clear HBX2 x0 x1 x2'
      clear hs hg hs11
      clear HW
      have HW := HWn
      clear HWn
      have HW2 : Hid (WK w A G R0 S (cmB A (k + 1)) _) := Lib.hid (by rw [HS.out]; have := HW.out; rw [Int.toNat_natCast] at this; exact this)
      clear HW
      go_wp2_with fail
      exact ⟨⟨k + 1, by omega, congrArg _ (by omega), HW2⟩, by simp only [RowKit.intOf]; omega⟩
    · obtain rfl : k = A.C.length := by omega
      obtain ⟨p, c, hs⟩ := HW.out.sb
      have hrb := HW.out.rb
      have hrow := store2 (u := .slice p (pk (cmB A A.C.length)).length c) (z := .int .i64 ((cmB A A.C.length).length : Int)) hrb
      have g9 := grown_store2 wl R0 (.slice p (pk (cmB A A.C.length)).length c) (.int .i64 ((cmB A A.C.length).length : Int))
      have HO : Hid (Rd _ (fun _ => True) (.slice p (pk (cmB A A.C.length)).length c) ((pk (cmB A A.C.length)).map nv) ∧ w.grownBy _ none) := Lib.hid ⟨((rd_off (S := R0) hs.rd hrb).grown g9 (fun b hb e => hb.1 (Option.some.inj e))).mono (fun _ _ => trivial), grown_new HW.out.gr g9 (by have := HW.out.lt; omega)⟩
      have HROW := Lib.hid hrow
      obtain ⟨c0, c1⟩ := row_cells hs.bx
      obtain ⟨d0, d1⟩ := row_cells hrb
      have f0 := frozen_of_row _ _ 0 _ _ hrb
      have f1 := frozen_of_row _ _ 1 _ _ hrb
      clear hs hrow g9 hrb
      go_wp2_with fail
      refine bodyPost_ret (res_stream rfl _ _ R0 _ _ rfl HROW.out) rfl ?_
      exact ⟨p, c, rfl, HO.out⟩
end Go.Proofs.YtpoocenooomghaaDoor

/- advert.Encode. -/
namespace Go.Proofs.YtpoocenooomghaaDoor
open Go.RowKit Bs
/-- The bytes of an advert. -/
def encA (A : Ad) : List Nat := pk (adB A ++ nb (ck (adB A)) 16)
set_option maxRecDepth 100000 in
theorem adB_len (A : Ad) : (adB A).length = 37 + A.L.length * 27 + A.C.length * 14 := by unfold adB; rw [cmB_len, List.take_length]
/-- What Encode returns. -/
def AEncPost (A : Ad) (w : World) (e : Ending) (w' : World) : Prop :=
  (vAd A = true ∧ ∃ g, e = .returned (.tuple #[.slice (some ⟨g, 0, none⟩) (encA A).length (encA A).length, .int .i64 0]) ∧ Blk w' g (encA A) ∧ w.heap.size ≤ g ∧ w.grownBy w' none) ∨
  (vAd A = false ∧ e = .returned (.tuple #[.slice none 0 0, .int .i64 1]) ∧ w.grownBy w' none)
/-- While an advert is encoded. -/
structure AE (W : World) (S : Nat) (B : List Bool) (p : Option Addr) (c : Nat) (w : World) : Prop where
  sb : SB w S B p c
  gr : W.grownBy w none
  lo : W.heap.size ≤ S
set_option maxRecDepth 100000 in
theorem AE.keep {W w w1 : World} {S : Nat} {B : List Bool} {p : Option Addr} {c : Nat} (H : AE W S B p c w) (k : w.grownBy w1 none) : AE W S B p c w1 := ⟨H.sb.keep k, grown_trans H.gr k, H.lo⟩
set_option maxRecDepth 100000 in
theorem AE.lt {W w : World} {S : Nat} {B : List Bool} {p : Option Addr} {c : Nat} (H : AE W S B p c w) : S < w.heap.size := World.lt_of_row' H.sb.bx
set_option maxRecDepth 100000 in
theorem AE.turn {W w : World} {S n : Nat} {B B2 : List Bool} {p : Option Addr} {c : Nat} (H : AE W S B p c w) {p2 : Option Addr} {c2 : Nat} (hn : S < n) (hR : Rd w (n ≤ ·) (.slice p2 (pk B2).length c2) ((pk B2).map nv)) :
    AE W S B2 p2 c2 ((w.setCell ⟨S, 0, none⟩ (.slice p2 (pk B2).length c2)).setCell ⟨S, 1, none⟩ (.int .i64 (B2.length : Int))) := by
  obtain ⟨t1, t2⟩ := store2c (.slice p2 (pk B2).length c2) (.int .i64 (B2.length : Int)) H.sb.bx
  have hlo := H.lo
  exact ⟨⟨t1, (hR.grown t2 (fun b hb e => by have := Option.some.inj e; omega)).mono (fun b hb e => by omega)⟩, grown_new H.gr t2 (by omega), hlo⟩
set_option maxRecDepth 100000 in
theorem AE.facts {W w : World} {S : Nat} {B : List Bool} {p : Option Addr} {c : Nat} (H : AE W S B p c w) : w.cell? ⟨S, 0, none⟩ = some (.slice p (pk B).length c) ∧ w.cell? ⟨S, 1, none⟩ = some (.int .i64 (B.length : Int)) ∧ w.frozen? ⟨S, 0, none⟩ = false ∧ w.frozen? ⟨S, 1, none⟩ = false :=
  ⟨(row_cells H.sb.bx).1, (row_cells H.sb.bx).2, frozen_of_row _ _ _ _ _ H.sb.bx, frozen_of_row _ _ _ _ _ H.sb.bx⟩
set_option maxRecDepth 100000 in
set_option maxHeartbeats 6400000 in
theorem aenc_any (A : Ad) (q : Nat → Prop) (w : World) (hA : AdOk w q A) (hT : Tb w) :
    Calls Tryd.prog 19 #[A.val] w fun e w' => AEncPost A w e w' := by
  have hb := heap_alloc_new w (.cells (adC A) 26)
  have hg := World.grownBy_alloc w (.cells (adC A) 26) none
  have HB := Lib.hid (And.intro hb (And.intro hg (And.intro (hA.keep hg) (hT.keep hg))))
  clear hb hg hA hT
  unfold Ad.val
  go_enter Tryd.func19, Tryd.ntmps19
  go_upto_region 1 with fail
  unfold adC at HB
  generalize w.alloc _ = wa at *
  obtain ⟨c0, c1, c2, c3, c4⟩ := ad_facts (A := A) HB.out.1
  go_wp2_with fail
  refine (avalid_any A q _ HB.out.2.2.1).mono ?_
  rintro e w1 ⟨rfl, hg⟩
  have HB1 := Lib.hid (And.intro (kept_row HB.out.1 hg (by simp)) (And.intro (grown_trans HB.out.2.1 hg) (And.intro (HB.out.2.2.1.keep hg) (HB.out.2.2.2.keep hg))))
  clear hg HB c0 c1 c2 c3 c4
  cases hv : vAd A
  · have HF := Lib.hid hv
    clear hv
    go_wp2_with fail
    go_ret2
    exact .inr ⟨HF.out, rfl, HB1.out.2.1⟩
  have HV := Lib.hid hv
  clear hv
  obtain ⟨c0, c1, c2, c3, c4⟩ := ad_facts (A := A) HB1.out.1
  go_wp2_with fail
  refine (awr_any A q w1 HB1.out.2.2.1 (VA.of HV.out) HB1.out.2.2.2).mono ?_
  rintro e w3 ⟨p, c, rfl, hR, hg⟩
  have k1 := heap_alloc_new w3 (.cells #[.slice p (pk (adB A)).length c, .int .i64 ((adB A).length : Int)] 47)
  have k2 := World.grownBy_alloc w3 (.cells #[.slice p (pk (adB A)).length c, .int .i64 ((adB A).length : Int)] 47) none
  have H3 : Hid (AE w w3.heap.size (adB A) p c (w3.alloc (.cells #[.slice p (pk (adB A)).length c, .int .i64 ((adB A).length : Int)] 47))) :=
    Lib.hid ⟨⟨k1, (hR.bound.mono (fun b hb => Nat.ne_of_lt hb)).keep k2⟩, grown_trans HB1.out.2.1 (grown_trans hg k2), (grown_trans HB1.out.2.1 hg).size⟩
  have HL : Hid ((adB A).length ≤ 800) := Lib.hid (by rw [adB_len]; have := VA.of HV.out; have := this.ll; have := (VA.of HV.out).cl; omega)
  obtain ⟨B0, hB0⟩ : ∃ B, B = adB A := ⟨_, rfl⟩
  rw [← hB0] at H3 HL ⊢
  have HB0 := Lib.hid hB0
  clear hB0 c0 c1 c2 c3 c4 hR hg k1 k2 HB1
  go_upto_region 4 with fail
  generalize w3.alloc _ = w4 at *
  obtain ⟨s0, s1, z0, z1⟩ := H3.out.facts
  go_wp2_with fail
  refine (check_bits (by have := HL.out; omega) H3.out.sb.rd).mono ?_
  rintro e w5 ⟨rfl, hg⟩
  have H5 := Lib.hid (H3.out.keep hg)
  clear s0 s1 z0 z1 hg H3
  obtain ⟨s0, s1, z0, z1⟩ := H5.out.facts
  have hA2 := append_bits (B := B0) (v := ck B0) (k := 16) (by decide) (chk_lt _ _) (by have := HL.out; omega) H5.out.sb.rd
  obtain ⟨B4, hB4⟩ : ∃ B, B = B0 ++ nb (ck B0) 16 := ⟨_, rfl⟩
  rw [← hB4] at hA2
  have HB4 := Lib.hid hB4
  have HA2 := Lib.hid hA2
  have HL4 : Hid (B4.length ≤ 816) := Lib.hid (by rw [hB4, List.length_append, nb_len]; have := HL.out; omega)
  clear hB4 hA2
  go_wp2_with fail
  refine HA2.out.mono ?_
  rintro e wb ⟨p4, c4, rfl, hR4, hp4, hg⟩
  have H11 := Lib.hid (H5.out.keep hg)
  have H12 := Lib.hid (H11.out.turn H5.out.lt hR4)
  clear s0 s1 z0 z1
  obtain ⟨r0, r1, z0, z1⟩ := H11.out.facts
  clear hR4 hp4 hg H5 H11 HA2
  go_upto_region 6 with fail
  generalize (wb.setCell ⟨w3.heap.size, 0, none⟩ (.slice p4 (pk B4).length c4)).setCell ⟨w3.heap.size, 1, none⟩ (.int .i64 (B4.length : Int)) = wd at *
  clear r0 r1 z0 z1
  obtain ⟨s0, s1, z0, z1⟩ := H12.out.facts
  go_wp2_with fail
  refine (alignp_own (pk B4) (B4.length : Int) (pk_vs B4 (by have := HL4.out; omega)) _ p4 c4 (pk_by B4) _ H12.out.sb.rd).mono ?_
  rintro e we ⟨g5, rfl, hR5, hg5, hg⟩
  have HG5 := Lib.hid hg5
  have H13 := Lib.hid (H12.out.keep hg)
  have HLT : Hid (w3.heap.size < wd.heap.size ∧ w.heap.size ≤ wd.heap.size) := Lib.hid ⟨H12.out.lt, H12.out.gr.size⟩
  clear s0 s1 z0 z1
  obtain ⟨r0, r1, z0, z1⟩ := H13.out.facts
  have HR5 := Lib.hid hR5
  obtain ⟨t1, t2⟩ := store2c (.slice (some ⟨g5, 0, none⟩) (pk B4).length (pk B4).length) (.int .i64 (8 * ((pk B4).length : Int))) H13.out.sb.bx
  have HT := Lib.hid (And.intro t1 t2)
  clear hR5 hg hg5 H12 t1 t2
  go_upto_region 7 with fail
  generalize (we.setCell ⟨w3.heap.size, 0, none⟩ _).setCell ⟨w3.heap.size, 1, none⟩ _ = wf at *
  clear r0 r1 z0 z1
  obtain ⟨s0, s1⟩ := row_cells HT.out.1
  go_wp2_with fail
  have hE : encA A = pk B4 := by unfold encA; rw [← HB0.out, ← HB4.out]
  go_ret2
  refine .inl ⟨HV.out, g5, by rw [hE]; rfl, ?_, ?_, ?_⟩
  · rw [hE]; exact HR5.out.grown HT.out.2 (fun e => by have h1 := HLT.out.1; have h2 := HG5.out; have := Option.some.inj e; omega)
  · have := HG5.out; have := HLT.out.2; omega
  · exact grown_new H13.out.gr HT.out.2 (by have := H13.out.lo; omega)
end Go.Proofs.YtpoocenooomghaaDoor

/- advert: the orders of links and of claims. -/
namespace Go.Proofs.YtpoocenooomghaaDoor
open Go.RowKit Bs
def cmp3 (x y : T3) : Int := orV [cmpV x.a y.a, cmpV x.b y.b, cmpV x.c y.c]
set_option maxRecDepth 100000 in
theorem keep6A {t : TypeId} {w5 w' : World} {b g : Nat} {x y : T3} (h : w5.heap[b]? = some (.cells #[.int .i64 x.a, .int .i64 x.b, .int .i64 x.c] t (0, 0)) ∧ w5.heap[g]? = some (.cells #[.int .i64 y.a, .int .i64 y.b, .int .i64 y.c] t (0, 0))) (hg : Hid (w5.grownBy w' none)) :
    w'.cell? ⟨b, 0, none⟩ = some (.int .i64 x.a) ∧ w'.cell? ⟨b, 1, none⟩ = some (.int .i64 x.b) ∧ w'.cell? ⟨b, 2, none⟩ = some (.int .i64 x.c) ∧ w'.cell? ⟨g, 0, none⟩ = some (.int .i64 y.a) ∧ w'.cell? ⟨g, 1, none⟩ = some (.int .i64 y.b) ∧ w'.cell? ⟨g, 2, none⟩ = some (.int .i64 y.c) ∧ Hid (w5.grownBy w' none) := by
  obtain ⟨a0, a1, a2⟩ := row3 (kept_row h.1 hg.out (by simp))
  obtain ⟨b0, b1, b2⟩ := row3 (kept_row h.2 hg.out (by simp))
  exact ⟨a0, a1, a2, b0, b1, b2, hg⟩
set_option maxRecDepth 100000 in
theorem rd_trip (w : World) (x y z : Int) (q : Nat → Prop) (hq : q w.heap.size) : Rd (w.alloc (.cells #[.int .i64 x, .int .i64 y, .int .i64 z] 3)) q (.slice (some ⟨w.heap.size, 0, none⟩) 3 3) ([x, y, z].map (fun z => Value.int .i64 z)) := by
  have hb : (w.alloc (.cells #[.int .i64 x, .int .i64 y, .int .i64 z] 3)).heap[w.heap.size]? = some (.cells #[.int .i64 x, .int .i64 y, .int .i64 z] 3 (0, 0)) := heap_alloc_new w _
  refine ⟨_, 3, rfl, fun _ => ⟨_, _, rfl, hq, fun i u hi => ?_⟩⟩
  rw [Nat.zero_add, cell_of_row _ _ _ _ _ _ hb]
  simpa using hi
set_option maxRecDepth 100000 in
theorem two_boxesA (w : World) (x y : T3) (t : TypeId) :
    (((w.alloc (.cells #[.int .i64 x.a, .int .i64 x.b, .int .i64 x.c] t)).alloc (.cells #[.int .i64 y.a, .int .i64 y.b, .int .i64 y.c] t)).heap[w.heap.size]? = some (.cells #[.int .i64 x.a, .int .i64 x.b, .int .i64 x.c] t (0, 0)) ∧
     ((w.alloc (.cells #[.int .i64 x.a, .int .i64 x.b, .int .i64 x.c] t)).alloc (.cells #[.int .i64 y.a, .int .i64 y.b, .int .i64 y.c] t)).heap[w.heap.size + 1]? = some (.cells #[.int .i64 y.a, .int .i64 y.b, .int .i64 y.c] t (0, 0))) ∧
    w.grownBy ((w.alloc (.cells #[.int .i64 x.a, .int .i64 x.b, .int .i64 x.c] t)).alloc (.cells #[.int .i64 y.a, .int .i64 y.b, .int .i64 y.c] t)) none := by
  have g1 := World.grownBy_alloc w (.cells #[.int .i64 x.a, .int .i64 x.b, .int .i64 x.c] t) none
  have g2 := World.grownBy_alloc (w.alloc (.cells #[.int .i64 x.a, .int .i64 x.b, .int .i64 x.c] t)) (.cells #[.int .i64 y.a, .int .i64 y.b, .int .i64 y.c] t) none
  have b1 := kept_row (heap_alloc_new w (.cells #[.int .i64 x.a, .int .i64 x.b, .int .i64 x.c] t)) g2 (by simp)
  have b2 := heap_alloc_new (w.alloc (.cells #[.int .i64 x.a, .int .i64 x.b, .int .i64 x.c] t)) (.cells #[.int .i64 y.a, .int .i64 y.b, .int .i64 y.c] t)
  have s1 : (w.alloc (.cells #[.int .i64 x.a, .int .i64 x.b, .int .i64 x.c] t)).heap.size = w.heap.size + 1 := by simp
  rw [s1] at b2
  exact ⟨⟨b1, b2⟩, grown_trans g1 g2⟩
set_option maxRecDepth 100000 in
set_option maxHeartbeats 3200000 in
theorem acmpR_any (x y : T3) (w : World) :
    Calls Tryd.prog 79 #[.agg #[.int .i64 x.a, .int .i64 x.b, .int .i64 x.c], .agg #[.int .i64 y.a, .int .i64 y.b, .int .i64 y.c]] w fun e w' => e = .returned (.int .i64 (cmp3 x y)) ∧ w.grownBy w' none := by
  have HZ := Lib.hid (two_boxesA w x y 70)
  have HB := Lib.hid HZ.out.1
  have K := Lib.hid HZ.out.2
  clear HZ
  go_enter Tryd.func79, Tryd.ntmps79
  go_upto_region 1 with fail
  generalize (w.alloc _).alloc _ = wa at *
  have GZ : Hid (wa.grownBy wa none) := Lib.hid (grown_refl _ _)
  obtain ⟨a0, a1, a2, b0, b1, b2, -⟩ := keep6A HB.out GZ
  go_region_held3 (fun w' => w'.cell? ⟨w.heap.size, 0, none⟩ = some (.int .i64 x.a) ∧ w'.cell? ⟨w.heap.size, 1, none⟩ = some (.int .i64 x.b) ∧ w'.cell? ⟨w.heap.size, 2, none⟩ = some (.int .i64 x.c) ∧ w'.cell? ⟨w.heap.size + 1, 0, none⟩ = some (.int .i64 y.a) ∧ w'.cell? ⟨w.heap.size + 1, 1, none⟩ = some (.int .i64 y.b) ∧ w'.cell? ⟨w.heap.size + 1, 2, none⟩ = some (.int .i64 y.c) ∧ Hid (wa.grownBy w' none))
    (first | with_reducible exact keep6A HB.out (hid_drew GZ) | with_reducible exact keep6A HB.out (hid_drew (hid_more GZ (World.grownBy_alloc _ _ _))) | (go_split_ands; with_reducible refine keep6A HB.out ?_; with_reducible assumption) | (go_split_ands; with_reducible refine keep6A HB.out (hid_more ?_ (World.grownBy_alloc _ _ _)); with_reducible assumption))
    (first
      | (go_at_call 76; refine (tcmp_any _ _ _).mono ?_; rintro e w' ⟨rfl, rfl⟩)
      | (go_at_call 75; refine (tor_any [cmpV x.a y.a, cmpV x.b y.b, cmpV x.c y.c] _ _ (fun _ => True) _ ?_ (by simp)).mono ?_; exact (rd_trip _ _ _ _ _ trivial).keep (grown_drew (grown_refl _ _)); rintro e w' ⟨rfl, rfl⟩))
  all_goals
    go_split_ands
    go_wp2_with fail
    go_ret
    exact ⟨rfl, grown_trans K.out (Hid.out (by assumption))⟩
set_option maxRecDepth 100000 in
set_option maxHeartbeats 3200000 in
theorem acmpC_any (x y : T3) (w : World) :
    Calls Tryd.prog 81 #[.agg #[.int .i64 x.a, .int .i64 x.b, .int .i64 x.c], .agg #[.int .i64 y.a, .int .i64 y.b, .int .i64 y.c]] w fun e w' => e = .returned (.int .i64 (cmp3 x y)) ∧ w.grownBy w' none := by
  have HZ := Lib.hid (two_boxesA w x y 73)
  have HB := Lib.hid HZ.out.1
  have K := Lib.hid HZ.out.2
  clear HZ
  go_enter Tryd.func81, Tryd.ntmps81
  go_upto_region 1 with fail
  generalize (w.alloc _).alloc _ = wa at *
  have GZ : Hid (wa.grownBy wa none) := Lib.hid (grown_refl _ _)
  obtain ⟨a0, a1, a2, b0, b1, b2, -⟩ := keep6A HB.out GZ
  go_region_held3 (fun w' => w'.cell? ⟨w.heap.size, 0, none⟩ = some (.int .i64 x.a) ∧ w'.cell? ⟨w.heap.size, 1, none⟩ = some (.int .i64 x.b) ∧ w'.cell? ⟨w.heap.size, 2, none⟩ = some (.int .i64 x.c) ∧ w'.cell? ⟨w.heap.size + 1, 0, none⟩ = some (.int .i64 y.a) ∧ w'.cell? ⟨w.heap.size + 1, 1, none⟩ = some (.int .i64 y.b) ∧ w'.cell? ⟨w.heap.size + 1, 2, none⟩ = some (.int .i64 y.c) ∧ Hid (wa.grownBy w' none))
    (first | with_reducible exact keep6A HB.out (hid_drew GZ) | with_reducible exact keep6A HB.out (hid_drew (hid_more GZ (World.grownBy_alloc _ _ _))) | (go_split_ands; with_reducible refine keep6A HB.out ?_; with_reducible assumption) | (go_split_ands; with_reducible refine keep6A HB.out (hid_more ?_ (World.grownBy_alloc _ _ _)); with_reducible assumption))
    (first
      | (go_at_call 76; refine (tcmp_any _ _ _).mono ?_; rintro e w' ⟨rfl, rfl⟩)
      | (go_at_call 75; refine (tor_any [cmpV x.a y.a, cmpV x.b y.b, cmpV x.c y.c] _ _ (fun _ => True) _ ?_ (by simp)).mono ?_; exact (rd_trip _ _ _ _ _ trivial).keep (grown_drew (grown_refl _ _)); rintro e w' ⟨rfl, rfl⟩))
  all_goals
    go_split_ands
    go_wp2_with fail
    go_ret
    exact ⟨rfl, grown_trans K.out (Hid.out (by assumption))⟩
end Go.Proofs.YtpoocenooomghaaDoor

/- advert: slices.CompareFunc of links and of claims. -/
namespace Go.Proofs.YtpoocenooomghaaDoor
open Go.RowKit Bs
def cfL : List T3 → List T3 → Int
  | [], [] => 0
  | [], _ :: _ => -1
  | _ :: _, [] => 1
  | x :: s, y :: t => if cmp3 x y = 0 then cfL s t else cmp3 x y
set_option maxRecDepth 100000 in
theorem cfL_step {L M : List T3} {k : Nat} {x y : T3} (hx : L[k]? = some x) (hy : M[k]? = some y) : cfL (L.drop k) (M.drop k) = if cmp3 x y = 0 then cfL (L.drop (k + 1)) (M.drop (k + 1)) else cmp3 x y := by
  rw [drop_at hx, drop_at hy, cfL]
set_option maxRecDepth 100000 in
theorem cfL_more {L M : List T3} {k : Nat} {x : T3} (hx : L[k]? = some x) (hy : M.length ≤ k) : cfL (L.drop k) (M.drop k) = 1 := by
  rw [drop_at hx, List.drop_eq_nil_of_le hy, cfL]
set_option maxRecDepth 100000 in
theorem cfL_end {L M : List T3} : cfL (L.drop L.length) (M.drop L.length) = if L.length < M.length then -1 else 0 := by
  rw [List.drop_length]
  by_cases h : L.length < M.length
  · rw [if_pos h, drop_at (List.getElem?_eq_getElem h), cfL]
  · rw [if_neg h, List.drop_eq_nil_of_le (by omega), cfL]
set_option maxRecDepth 100000 in
set_option maxHeartbeats 6400000 in
theorem acfR_any (L M : List T3) (p p2 : Option Addr) (c c2 : Nat) (q q2 : Nat → Prop) (w : World) (hL : Rd3 w q (.slice p L.length c) L) (hM : Rd3 w q2 (.slice p2 M.length c2) M) (hm : L.length ≤ 9223372036854775807) (hm2 : M.length ≤ 9223372036854775807) :
    Calls Tryd.prog 107 #[.slice p L.length c, .slice p2 M.length c2, .func (.func 79) #[] #[]] w fun e w' => e = .returned (.int .i64 (cfL L M)) ∧ w.grownBy w' none := by
  have HR := Lib.hid hL
  have HR2 := Lib.hid hM
  clear hL hM
  obtain ⟨X, hX⟩ : ∃ X, cfL L M = X := ⟨_, rfl⟩
  rw [hX]
  have I0 : Hid (cfL (L.drop 0) (M.drop 0) = X) := Lib.hid hX
  have G0 : Hid (w.grownBy w none) := Lib.hid (grown_refl _ _)
  clear hX
  go_enter Tryd.func107, Tryd.ntmps107
  go_wp2_with fail
  go_loopw [13] (fun a wr => ∃ k : Nat, k ≤ L.length ∧ a = .int .i64 (k : Int) ∧ Hid (cfL (L.drop k) (M.drop k) = X) ∧ Hid (w.grownBy wr none)) (fun a _ => L.length - (RowKit.intOf a).toNat)
  case atStart => exact ⟨0, Nat.zero_le _, rfl, I0, G0⟩
  case round =>
    obtain ⟨w2, rfl⟩ : ∃ w2, w2 = wr := ⟨_, rfl⟩
    obtain ⟨k, hk, rfl, HI, HG⟩ := hrel
    clear I0 G0
    by_cases hlt : k < L.length
    · obtain ⟨-, b, off, rfl, -, hc⟩ := rd3_cells (HR.out.keep HG.out) (by omega)
      obtain ⟨x, hx⟩ : ∃ x, L[k]? = some x := ⟨_, List.getElem?_eq_getElem hlt⟩
      obtain ⟨a0, a1, a2⟩ := hc k x hx
      have HXK := Lib.hid hx
      have HBX := Lib.hid (heap_alloc_new w2 (.cells #[.int .i64 x.a, .int .i64 x.b, .int .i64 x.c] 70))
      have HGA := Lib.hid (World.grownBy_alloc w2 (.cells #[.int .i64 x.a, .int .i64 x.b, .int .i64 x.c] 70) none)
      clear hc hx
      go_upto_region 4 with fail
      clear a0 a1 a2
      generalize w2.alloc _ = w3 at *
      have HG3 := Lib.hid (grown_trans HG.out HGA.out)
      clear HG HGA
      by_cases hl2 : k < M.length
      · have hl2' : ¬ ((M.length : Int) ≤ (k : Int)) := by omega
        obtain ⟨-, b2, off2, rfl, -, hc⟩ := rd3_cells (HR2.out.keep HG3.out) (by omega)
        obtain ⟨y, hy⟩ : ∃ y, M[k]? = some y := ⟨_, List.getElem?_eq_getElem hl2⟩
        obtain ⟨a0, a1, a2⟩ := hc k y hy
        have HS := Lib.hid (HI.out.symm.trans (cfL_step HXK.out hy))
        have HBY := Lib.hid (heap_alloc_new w3 (.cells #[.int .i64 y.a, .int .i64 y.b, .int .i64 y.c] 70))
        have HGB := Lib.hid (World.grownBy_alloc w3 (.cells #[.int .i64 y.a, .int .i64 y.b, .int .i64 y.c] 70) none)
        clear hc hy HI HXK
        go_upto_region 7 with fail
        clear a0 a1 a2
        generalize w3.alloc _ = w4 at *
        have HG4 := Lib.hid (grown_trans HG3.out HGB.out)
        have HBX4 := Lib.hid (kept_row HBX.out HGB.out (by simp))
        clear HG3 HGB HBX
        obtain ⟨d0, d1, d2⟩ := row3 HBX4.out
        obtain ⟨e0, e1, e2⟩ := row3 HBY.out
        go_wp2_with fail
        refine (acmpR_any x y _).mono ?_
        rintro e w5 ⟨rfl, hg⟩
        have HG5 := Lib.hid (grown_trans HG4.out hg)
        clear hg HG4 d0 d1 d2 e0 e1 e2 HBX4 HBY
        obtain ⟨z, hz⟩ : ∃ z, cmp3 x y = z := ⟨_, rfl⟩
        rw [hz] at HS ⊢
        clear hz
        by_cases h0 : z = 0
        · subst h0
          have HI2 : Hid (cfL (L.drop (k + 1)) (M.drop (k + 1)) = X) := Lib.hid (by rw [HS.out, if_pos rfl])
          clear HS
          go_wp2_with fail
          exact ⟨⟨k + 1, by omega, congrArg _ (by omega), HI2, HG5⟩, by simp only [RowKit.intOf]; omega⟩
        · have hX : X = z := by rw [HS.out, if_neg h0]
          have h0' : (z == 0) = false := by simpa using h0
          subst hX
          clear h0 HS
          go_wp2_with fail
          go_ret
          exact ⟨rfl, HG5.out⟩
      · have hl2' : (M.length : Int) ≤ (k : Int) := by omega
        have hX : X = 1 := by rw [← HI.out, cfL_more HXK.out (by omega)]
        subst hX
        go_wp2_with fail
        go_ret
        exact ⟨rfl, HG3.out⟩
    · obtain rfl : k = L.length := by omega
      have HE := Lib.hid (HI.out.symm.trans cfL_end)
      by_cases h : L.length < M.length
      · have h' : (L.length : Int) < (M.length : Int) := by omega
        have hX : X = -1 := by rw [HE.out, if_pos h]
        subst hX
        go_wp2_with fail
        go_ret
        exact ⟨rfl, HG.out⟩
      · have h' : ¬ (L.length : Int) < (M.length : Int) := by omega
        have hX : X = 0 := by rw [HE.out, if_neg h]
        subst hX
        go_wp2_with fail
        go_ret
        exact ⟨rfl, HG.out⟩
set_option maxRecDepth 100000 in
set_option maxHeartbeats 6400000 in
theorem acfC_any (L M : List T3) (p p2 : Option Addr) (c c2 : Nat) (q q2 : Nat → Prop) (w : World) (hL : Rd3 w q (.slice p L.length c) L) (hM : Rd3 w q2 (.slice p2 M.length c2) M) (hm : L.length ≤ 9223372036854775807) (hm2 : M.length ≤ 9223372036854775807) :
    Calls Tryd.prog 108 #[.slice p L.length c, .slice p2 M.length c2, .func (.func 81) #[] #[]] w fun e w' => e = .returned (.int .i64 (cfL L M)) ∧ w.grownBy w' none := by
  have HR := Lib.hid hL
  have HR2 := Lib.hid hM
  clear hL hM
  obtain ⟨X, hX⟩ : ∃ X, cfL L M = X := ⟨_, rfl⟩
  rw [hX]
  have I0 : Hid (cfL (L.drop 0) (M.drop 0) = X) := Lib.hid hX
  have G0 : Hid (w.grownBy w none) := Lib.hid (grown_refl _ _)
  clear hX
  go_enter Tryd.func108, Tryd.ntmps108
  go_wp2_with fail
  go_loopw [13] (fun a wr => ∃ k : Nat, k ≤ L.length ∧ a = .int .i64 (k : Int) ∧ Hid (cfL (L.drop k) (M.drop k) = X) ∧ Hid (w.grownBy wr none)) (fun a _ => L.length - (RowKit.intOf a).toNat)
  case atStart => exact ⟨0, Nat.zero_le _, rfl, I0, G0⟩
  case round =>
    obtain ⟨w2, rfl⟩ : ∃ w2, w2 = wr := ⟨_, rfl⟩
    obtain ⟨k, hk, rfl, HI, HG⟩ := hrel
    clear I0 G0
    by_cases hlt : k < L.length
    · obtain ⟨-, b, off, rfl, -, hc⟩ := rd3_cells (HR.out.keep HG.out) (by omega)
      obtain ⟨x, hx⟩ : ∃ x, L[k]? = some x := ⟨_, List.getElem?_eq_getElem hlt⟩
      obtain ⟨a0, a1, a2⟩ := hc k x hx
      have HXK := Lib.hid hx
      have HBX := Lib.hid (heap_alloc_new w2 (.cells #[.int .i64 x.a, .int .i64 x.b, .int .i64 x.c] 73))
      have HGA := Lib.hid (World.grownBy_alloc w2 (.cells #[.int .i64 x.a, .int .i64 x.b, .int .i64 x.c] 73) none)
      clear hc hx
      go_upto_region 4 with fail
      clear a0 a1 a2
      generalize w2.alloc _ = w3 at *
      have HG3 := Lib.hid (grown_trans HG.out HGA.out)
      clear HG HGA
      by_cases hl2 : k < M.length
      · have hl2' : ¬ ((M.length : Int) ≤ (k : Int)) := by omega
        obtain ⟨-, b2, off2, rfl, -, hc⟩ := rd3_cells (HR2.out.keep HG3.out) (by omega)
        obtain ⟨y, hy⟩ : ∃ y, M[k]? = some y := ⟨_, List.getElem?_eq_getElem hl2⟩
        obtain ⟨a0, a1, a2⟩ := hc k y hy
        have HS := Lib.hid (HI.out.symm.trans (cfL_step HXK.out hy))
        have HBY := Lib.hid (heap_alloc_new w3 (.cells #[.int .i64 y.a, .int .i64 y.b, .int .i64 y.c] 73))
        have HGB := Lib.hid (World.grownBy_alloc w3 (.cells #[.int .i64 y.a, .int .i64 y.b, .int .i64 y.c] 73) none)
        clear hc hy HI HXK
        go_upto_region 7 with fail
        clear a0 a1 a2
        generalize w3.alloc _ = w4 at *
        have HG4 := Lib.hid (grown_trans HG3.out HGB.out)
        have HBX4 := Lib.hid (kept_row HBX.out HGB.out (by simp))
        clear HG3 HGB HBX
        obtain ⟨d0, d1, d2⟩ := row3 HBX4.out
        obtain ⟨e0, e1, e2⟩ := row3 HBY.out
        go_wp2_with fail
        refine (acmpC_any x y _).mono ?_
        rintro e w5 ⟨rfl, hg⟩
        have HG5 := Lib.hid (grown_trans HG4.out hg)
        clear hg HG4 d0 d1 d2 e0 e1 e2 HBX4 HBY
        obtain ⟨z, hz⟩ : ∃ z, cmp3 x y = z := ⟨_, rfl⟩
        rw [hz] at HS ⊢
        clear hz
        by_cases h0 : z = 0
        · subst h0
          have HI2 : Hid (cfL (L.drop (k + 1)) (M.drop (k + 1)) = X) := Lib.hid (by rw [HS.out, if_pos rfl])
          clear HS
          go_wp2_with fail
          exact ⟨⟨k + 1, by omega, congrArg _ (by omega), HI2, HG5⟩, by simp only [RowKit.intOf]; omega⟩
        · have hX : X = z := by rw [HS.out, if_neg h0]
          have h0' : (z == 0) = false := by simpa using h0
          subst hX
          clear h0 HS
          go_wp2_with fail
          go_ret
          exact ⟨rfl, HG5.out⟩
      · have hl2' : (M.length : Int) ≤ (k : Int) := by omega
        have hX : X = 1 := by rw [← HI.out, cfL_more HXK.out (by omega)]
        subst hX
        go_wp2_with fail
        go_ret
        exact ⟨rfl, HG3.out⟩
    · obtain rfl : k = L.length := by omega
      have HE := Lib.hid (HI.out.symm.trans cfL_end)
      by_cases h : L.length < M.length
      · have h' : (L.length : Int) < (M.length : Int) := by omega
        have hX : X = -1 := by rw [HE.out, if_pos h]
        subst hX
        go_wp2_with fail
        go_ret
        exact ⟨rfl, HG.out⟩
      · have h' : ¬ (L.length : Int) < (M.length : Int) := by omega
        have hX : X = 0 := by rw [HE.out, if_neg h]
        subst hX
        go_wp2_with fail
        go_ret
        exact ⟨rfl, HG.out⟩
end Go.Proofs.YtpoocenooomghaaDoor

/- advert: compareLists, compare. -/
namespace Go.Proofs.YtpoocenooomghaaDoor
open Go.RowKit Bs
def cLs (L M : List T3) : Int := orV [cmpV (L.length : Int) (M.length : Int), cfL L M]
set_option maxRecDepth 100000 in
set_option maxHeartbeats 3200000 in
theorem aclR_any (L M : List T3) (p p2 : Option Addr) (c c2 : Nat) (q q2 : Nat → Prop) (w : World) (hL : Rd3 w q (.slice p L.length c) L) (hM : Rd3 w q2 (.slice p2 M.length c2) M) (hm : L.length ≤ 9223372036854775807) (hm2 : M.length ≤ 9223372036854775807) :
    Calls Tryd.prog 78 #[.slice p L.length c, .slice p2 M.length c2, .func (.func 79) #[] #[]] w fun e w' => e = .returned (.int .i64 (cLs L M)) ∧ w.grownBy w' none := by
  have HR := Lib.hid (And.intro hL hM)
  clear hL hM
  go_enter Tryd.func78, Tryd.ntmps78
  go_wp2_with fail
  refine (tcmp_any _ _ _).mono ?_
  rintro e w' ⟨rfl, rfl⟩
  go_wp2_with fail
  refine (acfR_any L M p p2 c c2 q q2 _ HR.out.1 HR.out.2 hm hm2).mono ?_
  rintro e w1 ⟨rfl, hg⟩
  have HG := Lib.hid hg
  clear hg HR
  go_wp2_with fail
  refine (tor_any [cmpV (L.length : Int) (M.length : Int), cfL L M] _ _ (fun _ => True) _ (rd_pair _ _ _ _ trivial) (by simp)).mono ?_
  rintro e w' ⟨rfl, rfl⟩
  go_wp2_with fail
  go_ret
  exact ⟨rfl, grown_trans HG.out (World.grownBy_alloc _ _ _)⟩
set_option maxRecDepth 100000 in
set_option maxHeartbeats 3200000 in
theorem aclC_any (L M : List T3) (p p2 : Option Addr) (c c2 : Nat) (q q2 : Nat → Prop) (w : World) (hL : Rd3 w q (.slice p L.length c) L) (hM : Rd3 w q2 (.slice p2 M.length c2) M) (hm : L.length ≤ 9223372036854775807) (hm2 : M.length ≤ 9223372036854775807) :
    Calls Tryd.prog 80 #[.slice p L.length c, .slice p2 M.length c2, .func (.func 81) #[] #[]] w fun e w' => e = .returned (.int .i64 (cLs L M)) ∧ w.grownBy w' none := by
  have HR := Lib.hid (And.intro hL hM)
  clear hL hM
  go_enter Tryd.func80, Tryd.ntmps80
  go_wp2_with fail
  refine (tcmp_any _ _ _).mono ?_
  rintro e w' ⟨rfl, rfl⟩
  go_wp2_with fail
  refine (acfC_any L M p p2 c c2 q q2 _ HR.out.1 HR.out.2 hm hm2).mono ?_
  rintro e w1 ⟨rfl, hg⟩
  have HG := Lib.hid hg
  clear hg HR
  go_wp2_with fail
  refine (tor_any [cmpV (L.length : Int) (M.length : Int), cfL L M] _ _ (fun _ => True) _ (rd_pair _ _ _ _ trivial) (by simp)).mono ?_
  rintro e w' ⟨rfl, rfl⟩
  go_wp2_with fail
  go_ret
  exact ⟨rfl, grown_trans HG.out (World.grownBy_alloc _ _ _)⟩
end Go.Proofs.YtpoocenooomghaaDoor

/- advert: compare. -/
namespace Go.Proofs.YtpoocenooomghaaDoor
open Go.RowKit Bs
/-- The order of adverts. -/
def cmpA (A B : Ad) : Int := orV [cmpV A.r B.r, cmpV A.q B.q, cmpV ((A.cp.toNat : Nat) : Int) ((B.cp.toNat : Nat) : Int), cLs A.L B.L, cLs A.C B.C]
set_option maxRecDepth 100000 in
theorem keepTA {w5 w' : World} {b g : Nat} {A B : Ad} (h : w5.heap[b]? = some (.cells (adC A) 26 (0, 0)) ∧ w5.heap[g]? = some (.cells (adC B) 26 (0, 0))) (hg : Hid (w5.grownBy w' none)) :
    w'.cell? ⟨b, 0, none⟩ = some (.int .i64 A.r) ∧ w'.cell? ⟨b, 1, none⟩ = some (.int .i64 A.q) ∧ w'.cell? ⟨b, 2, none⟩ = some (.bool A.cp) ∧ w'.cell? ⟨b, 3, none⟩ = some (.slice A.pL A.L.length A.cL) ∧ w'.cell? ⟨b, 4, none⟩ = some (.slice A.pC A.C.length A.cC) ∧
    w'.cell? ⟨g, 0, none⟩ = some (.int .i64 B.r) ∧ w'.cell? ⟨g, 1, none⟩ = some (.int .i64 B.q) ∧ w'.cell? ⟨g, 2, none⟩ = some (.bool B.cp) ∧ w'.cell? ⟨g, 3, none⟩ = some (.slice B.pL B.L.length B.cL) ∧ w'.cell? ⟨g, 4, none⟩ = some (.slice B.pC B.C.length B.cC) ∧ Hid (w5.grownBy w' none) := by
  obtain ⟨a0, a1, a2, a3, a4⟩ := ad_facts (kept_row h.1 hg.out (by simp))
  obtain ⟨b0, b1, b2, b3, b4⟩ := ad_facts (kept_row h.2 hg.out (by simp))
  exact ⟨a0, a1, a2, a3, a4, b0, b1, b2, b3, b4, hg⟩
set_option maxRecDepth 100000 in
theorem rd_five (w : World) (x y z u v : Int) (q : Nat → Prop) (hq : q w.heap.size) : Rd (w.alloc (.cells #[.int .i64 x, .int .i64 y, .int .i64 z, .int .i64 u, .int .i64 v] 3)) q (.slice (some ⟨w.heap.size, 0, none⟩) 5 5) ([x, y, z, u, v].map (fun z => Value.int .i64 z)) := by
  have hb : (w.alloc (.cells #[.int .i64 x, .int .i64 y, .int .i64 z, .int .i64 u, .int .i64 v] 3)).heap[w.heap.size]? = some (.cells #[.int .i64 x, .int .i64 y, .int .i64 z, .int .i64 u, .int .i64 v] 3 (0, 0)) := heap_alloc_new w _
  refine ⟨_, 5, rfl, fun _ => ⟨_, _, rfl, hq, fun i u hi => ?_⟩⟩
  rw [Nat.zero_add, cell_of_row _ _ _ _ _ _ hb]
  simpa using hi
structure TwoA (w : World) (A B : Ad) (q q2 : Nat → Prop) : Prop where
  a : AdOk w q A
  b : AdOk w q2 B
set_option maxRecDepth 100000 in
theorem aclR_at {w0 w : World} {A B : Ad} {q q2 : Nat → Prop} (h : Hid (w0.grownBy w none)) (H : Hid (TwoA w0 A B q q2)) :
    Calls Tryd.prog 78 #[.slice A.pL A.L.length A.cL, .slice B.pL B.L.length B.cL, .func (.func 79) #[] #[]] w fun e w' => e = .returned (.int .i64 (cLs A.L B.L)) ∧ w.grownBy w' none :=
  aclR_any A.L B.L _ _ _ _ _ _ w (H.out.a.keep h.out).l (H.out.b.keep h.out).l (Nat.le_trans H.out.a.hl.1 H.out.a.hl.2) (Nat.le_trans H.out.b.hl.1 H.out.b.hl.2)
set_option maxRecDepth 100000 in
theorem aclC_at {w0 w : World} {A B : Ad} {q q2 : Nat → Prop} (h : Hid (w0.grownBy w none)) (H : Hid (TwoA w0 A B q q2)) :
    Calls Tryd.prog 80 #[.slice A.pC A.C.length A.cC, .slice B.pC B.C.length B.cC, .func (.func 81) #[] #[]] w fun e w' => e = .returned (.int .i64 (cLs A.C B.C)) ∧ w.grownBy w' none :=
  aclC_any A.C B.C _ _ _ _ _ _ w (H.out.a.keep h.out).c (H.out.b.keep h.out).c (Nat.le_trans H.out.a.hc.1 H.out.a.hc.2) (Nat.le_trans H.out.b.hc.1 H.out.b.hc.2)
set_option maxRecDepth 100000 in
theorem two_ads (w : World) (A B : Ad) : (((w.alloc (.cells (adC A) 26)).alloc (.cells (adC B) 26)).heap[w.heap.size]? = some (.cells (adC A) 26 (0, 0)) ∧ ((w.alloc (.cells (adC A) 26)).alloc (.cells (adC B) 26)).heap[w.heap.size + 1]? = some (.cells (adC B) 26 (0, 0))) ∧ w.grownBy ((w.alloc (.cells (adC A) 26)).alloc (.cells (adC B) 26)) none := by
  have g1 := World.grownBy_alloc w (.cells (adC A) 26) none
  have g2 := World.grownBy_alloc (w.alloc (.cells (adC A) 26)) (.cells (adC B) 26) none
  have b1 := kept_row (heap_alloc_new w (.cells (adC A) 26)) g2 (by simp)
  have b2 := heap_alloc_new (w.alloc (.cells (adC A) 26)) (.cells (adC B) 26)
  have s1 : (w.alloc (.cells (adC A) 26)).heap.size = w.heap.size + 1 := by simp
  rw [s1] at b2
  exact ⟨⟨b1, b2⟩, grown_trans g1 g2⟩
set_option maxRecDepth 100000 in
set_option maxHeartbeats 6400000 in
theorem acmpA_any (A B : Ad) (q q2 : Nat → Prop) (w : World) (hA : AdOk w q A) (hB : AdOk w q2 B) :
    Calls Tryd.prog 43 #[A.val, B.val] w fun e w' => e = .returned (.int .i64 (cmpA A B)) ∧ w.grownBy w' none := by
  have HZ := Lib.hid (two_ads w A B)
  have HOK : Hid (TwoA _ A B q q2) := Lib.hid ⟨hA.keep HZ.out.2, hB.keep HZ.out.2⟩
  have HB := Lib.hid HZ.out.1
  have K := Lib.hid HZ.out.2
  clear HZ hA hB
  unfold Ad.val
  go_enter Tryd.func43, Tryd.ntmps43
  go_upto_region 1 with fail
  unfold adC at HB K HOK
  generalize (w.alloc _).alloc _ = wa at *
  have HB : Hid (wa.heap[w.heap.size]? = some (.cells (adC A) 26 (0, 0)) ∧ wa.heap[w.heap.size + 1]? = some (.cells (adC B) 26 (0, 0))) := HB
  have GZ : Hid (wa.grownBy wa none) := Lib.hid (grown_refl _ _)
  obtain ⟨a0, a1, a2, a3, a4, b0, b1, b2, b3, b4, -⟩ := keepTA HB.out GZ
  go_region_held3 (fun w' => w'.cell? ⟨w.heap.size, 0, none⟩ = some (.int .i64 A.r) ∧ w'.cell? ⟨w.heap.size, 1, none⟩ = some (.int .i64 A.q) ∧ w'.cell? ⟨w.heap.size, 2, none⟩ = some (.bool A.cp) ∧ w'.cell? ⟨w.heap.size, 3, none⟩ = some (.slice A.pL A.L.length A.cL) ∧ w'.cell? ⟨w.heap.size, 4, none⟩ = some (.slice A.pC A.C.length A.cC) ∧ w'.cell? ⟨w.heap.size + 1, 0, none⟩ = some (.int .i64 B.r) ∧ w'.cell? ⟨w.heap.size + 1, 1, none⟩ = some (.int .i64 B.q) ∧ w'.cell? ⟨w.heap.size + 1, 2, none⟩ = some (.bool B.cp) ∧ w'.cell? ⟨w.heap.size + 1, 3, none⟩ = some (.slice B.pL B.L.length B.cL) ∧ w'.cell? ⟨w.heap.size + 1, 4, none⟩ = some (.slice B.pC B.C.length B.cC) ∧ Hid (wa.grownBy w' none))
    (first | with_reducible exact keepTA HB.out (hid_drew GZ) | with_reducible exact keepTA HB.out (hid_drew (hid_more GZ (World.grownBy_alloc _ _ _))) | (go_split_ands; with_reducible refine keepTA HB.out ?_; with_reducible assumption) | (go_split_ands; with_reducible refine keepTA HB.out (hid_more ?_ hap); with_reducible assumption) | (go_split_ands; with_reducible refine keepTA HB.out (hid_more ?_ (World.grownBy_alloc _ _ _)); with_reducible assumption))
    (first
      | (go_at_call 76; refine (tcmp_any _ _ _).mono ?_; rintro e w' ⟨rfl, rfl⟩)
      | (go_at_call 77; refine (abit_any _ _).mono ?_; rintro e w' ⟨rfl, rfl⟩)
      | (go_at_call 78; go_split_ands; refine (aclR_at (w0 := wa) ?_ HOK).mono ?_; assumption; rintro e wb ⟨rfl, hap⟩)
      | (go_at_call 80; go_split_ands; refine (aclC_at (w0 := wa) ?_ HOK).mono ?_; assumption; rintro e wc ⟨rfl, hap⟩)
      | (go_at_call 75; refine (tor_any [cmpV A.r B.r, cmpV A.q B.q, cmpV ((A.cp.toNat : Nat) : Int) ((B.cp.toNat : Nat) : Int), cLs A.L B.L, cLs A.C B.C] _ _ (fun _ => True) _ ?_ (by simp)).mono ?_; (first | exact rd_five _ _ _ _ _ _ _ trivial | exact (rd_five _ _ _ _ _ _ _ trivial).keep (grown_drew (grown_refl _ _))); rintro e w' ⟨rfl, rfl⟩))
  all_goals
    go_split_ands
    go_wp2_with fail
    go_ret
    exact ⟨rfl, grown_trans K.out (Hid.out (by assumption))⟩
end Go.Proofs.YtpoocenooomghaaDoor

/- advert: Same, Newer. -/
namespace Go.Proofs.YtpoocenooomghaaDoor
open Go.RowKit Bs
/-- Newer. -/
def nwA (A B : Ad) : Bool := vAd A && (vAd B && (decide (A.r = B.r) && decide (0 < cmpA A B)))
set_option maxRecDepth 100000 in
theorem TwoA.keep {w w' : World} {A B : Ad} {q q2 : Nat → Prop} (h : TwoA w A B q q2) (g : w.grownBy w' none) : TwoA w' A B q q2 := ⟨h.a.keep g, h.b.keep g⟩
set_option maxRecDepth 100000 in
set_option maxHeartbeats 6400000 in
theorem asame_any (A B : Ad) (q q2 : Nat → Prop) (w : World) (hA : AdOk w q A) (hB : AdOk w q2 B) :
    Calls Tryd.prog 16 #[A.val, B.val] w fun e w' => e = .returned (.bool (decide (cmpA A B = 0))) ∧ w.grownBy w' none := by
  have HZ := Lib.hid (two_ads w A B)
  have HOK : Hid (TwoA _ A B q q2) := Lib.hid ⟨hA.keep HZ.out.2, hB.keep HZ.out.2⟩
  have HB := Lib.hid HZ.out.1
  have K := Lib.hid HZ.out.2
  clear HZ hA hB
  obtain ⟨X, hX⟩ : ∃ X, decide (cmpA A B = 0) = X := ⟨_, rfl⟩
  rw [hX]
  have HX := Lib.hid hX
  clear hX
  unfold Ad.val
  go_enter Tryd.func16, Tryd.ntmps16
  go_upto_region 1 with fail
  unfold adC at HB K HOK
  generalize (w.alloc _).alloc _ = wa at *
  have HB : Hid (wa.heap[w.heap.size]? = some (.cells (adC A) 26 (0, 0)) ∧ wa.heap[w.heap.size + 1]? = some (.cells (adC B) 26 (0, 0))) := HB
  have GZ : Hid (wa.grownBy wa none) := Lib.hid (grown_refl _ _)
  obtain ⟨a0, a1, a2, a3, a4, b0, b1, b2, b3, b4, -⟩ := keepTA HB.out GZ
  go_wp2_with fail
  refine (acmpA_any A B q q2 _ HOK.out.a HOK.out.b).mono ?_
  rintro e w1 ⟨rfl, hg⟩
  have HG := Lib.hid (grown_trans K.out hg)
  obtain ⟨z, hz⟩ : ∃ z, cmpA A B = z := ⟨_, rfl⟩
  have HZ := Lib.hid hz
  rw [hz]
  clear hz hg a0 a1 a2 a3 a4 b0 b1 b2 b3 b4 HB HOK K GZ
  by_cases h : z = 0
  · obtain rfl : X = true := by rw [← HX.out, HZ.out, decide_eq_true h]
    clear HX HZ
    subst h
    go_wp2_with fail
    go_ret
    exact ⟨rfl, HG.out⟩
  · have h' : (z == 0) = false := by simpa using h
    obtain rfl : X = false := by rw [← HX.out, HZ.out, decide_eq_false h]
    clear h
    go_wp2_with fail
    go_ret
    exact ⟨rfl, HG.out⟩
set_option maxRecDepth 100000 in
set_option maxHeartbeats 6400000 in
theorem anewer_any (A B : Ad) (q q2 : Nat → Prop) (w : World) (hA : AdOk w q A) (hB : AdOk w q2 B) :
    Calls Tryd.prog 28 #[A.val, B.val] w fun e w' => e = .returned (.bool (nwA A B)) ∧ w.grownBy w' none := by
  have HZ := Lib.hid (two_ads w A B)
  have HOK : Hid (TwoA _ A B q q2) := Lib.hid ⟨hA.keep HZ.out.2, hB.keep HZ.out.2⟩
  have HB := Lib.hid HZ.out.1
  have K := Lib.hid HZ.out.2
  clear HZ hA hB
  obtain ⟨X, hX⟩ : ∃ X, nwA A B = X := ⟨_, rfl⟩
  rw [hX]
  have HX := Lib.hid hX
  clear hX
  unfold Ad.val
  go_enter Tryd.func28, Tryd.ntmps28
  go_upto_region 1 with fail
  unfold adC at HB K HOK
  generalize (w.alloc _).alloc _ = wa at *
  have HB : Hid (wa.heap[w.heap.size]? = some (.cells (adC A) 26 (0, 0)) ∧ wa.heap[w.heap.size + 1]? = some (.cells (adC B) 26 (0, 0))) := HB
  have GZ : Hid (wa.grownBy wa none) := Lib.hid (grown_refl _ _)
  obtain ⟨a0, a1, a2, a3, a4, b0, b1, b2, b3, b4, -⟩ := keepTA HB.out GZ
  go_wp2_with fail
  refine (avalid_any A q _ HOK.out.a).mono ?_
  rintro e w1 ⟨rfl, hg⟩
  have G1 := Lib.hid hg
  clear hg a0 a1 a2 a3 a4 b0 b1 b2 b3 b4
  obtain ⟨a0, a1, a2, a3, a4, b0, b1, b2, b3, b4, -⟩ := keepTA HB.out G1
  obtain ⟨v1, hv1⟩ : ∃ v, vAd A = v := ⟨_, rfl⟩
  have HV1 := Lib.hid hv1
  rw [hv1]
  clear hv1
  cases v1 with
  | false =>
    obtain rfl : X = false := by rw [← HX.out]; unfold nwA; rw [HV1.out]; rfl
    go_wp2_with fail
    go_ret
    exact ⟨rfl, grown_trans K.out G1.out⟩
  | true =>
    go_wp2_with fail
    refine (avalid_any B q2 _ (HOK.out.b.keep G1.out)).mono ?_
    rintro e w2 ⟨rfl, hg⟩
    have G2 := Lib.hid (grown_trans G1.out hg)
    clear hg a0 a1 a2 a3 a4 b0 b1 b2 b3 b4
    obtain ⟨a0, a1, a2, a3, a4, b0, b1, b2, b3, b4, -⟩ := keepTA HB.out G2
    obtain ⟨v2, hv2⟩ : ∃ v, vAd B = v := ⟨_, rfl⟩
    have HV2 := Lib.hid hv2
    rw [hv2]
    clear hv2
    cases v2 with
    | false =>
      obtain rfl : X = false := by rw [← HX.out]; unfold nwA; rw [HV1.out, HV2.out]; rfl
      go_wp2_with fail
      go_ret
      exact ⟨rfl, grown_trans K.out G2.out⟩
    | true =>
      by_cases h : A.r = B.r
      · have h' : (A.r == B.r) = true := by simpa using h
        have HH := Lib.hid h
        clear h
        go_wp2_with fail
        refine (acmpA_any A B q q2 _ (HOK.out.a.keep G2.out) (HOK.out.b.keep G2.out)).mono ?_
        rintro e w3 ⟨rfl, hg⟩
        have G3 := Lib.hid (grown_trans G2.out hg)
        obtain ⟨z, hz⟩ : ∃ z, cmpA A B = z := ⟨_, rfl⟩
        have HZ := Lib.hid hz
        rw [hz]
        clear hz hg a0 a1 a2 a3 a4 b0 b1 b2 b3 b4
        obtain rfl : X = decide (0 < z) := by rw [← HX.out]; unfold nwA; rw [HV1.out, HV2.out, HZ.out, decide_eq_true HH.out]; rfl
        go_wp2_with fail
        go_ret
        exact ⟨rfl, grown_trans K.out G3.out⟩
      · have h' : (A.r == B.r) = false := by simpa using h
        obtain rfl : X = false := by rw [← HX.out]; unfold nwA; rw [HV1.out, HV2.out, decide_eq_false h]; rfl
        clear h
        go_wp2_with fail
        go_ret
        exact ⟨rfl, grown_trans K.out G2.out⟩
end Go.Proofs.YtpoocenooomghaaDoor

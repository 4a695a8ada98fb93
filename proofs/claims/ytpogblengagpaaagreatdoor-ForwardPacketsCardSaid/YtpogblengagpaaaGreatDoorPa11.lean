/- Parts of the proof, packed: ToTop, ToFlr, ToMix, ToRtr. -/
import Derived.Test.YtpogblengagpaaaGreatDoorPa9
import Derived.Test.YtpogblengagpaaaGreatDoorPa10
import Derived.Test.YtpogblengagpaaaGreatDoorPa1
import Derived.Deep.RegionHeld3
import Derived.Test.YtpogblengagpaaaGreatDoorPa5
import Derived.Test.YtpogblengagpaaaGreatDoorPa2
import Derived.Deep.CutBlock
/- The tape's topologies: some topology within the bounds that TopOf says; without mistakes it is valid. -/
namespace Go.Proofs.YtpogblengagpaaaGreatDoor
set_option maxRecDepth 100000
open Go.RowKit Bs
theorem TopOf.bad {most : Nat} {n : Int} {R : List Rt} {L : List Lk} (hn : 0 < n) (h1 : 1 ≤ R.length) (h2 : R.length ≤ most + 1) (h3 : L.length ≤ 60) : TopOf most n R L := ⟨h1, .inl h2, by omega, h3, fun h => by omega⟩
theorem TopOf.many {most : Nat} {n : Int} {R : List Rt} {L : List Lk} (hn : 0 < n) (h1 : 25 ≤ R.length) (h2 : R.length ≤ most + 25) (h3 : L.length ≤ 60) : TopOf most n R L := ⟨by omega, .inr h1, h2, h3, fun h => by omega⟩
def TopJ (most : Nat) (n : Int) (R : List Rt) (L : List Lk) : Prop := TopOf most n R L ∧ (∀ r ∈ R, I64 r.id) ∧ (n ≤ 0 → ∀ r ∈ R, r.cap = true)
theorem rts_cap (K : Nat) : ∀ r ∈ rts K, r.cap = true := fun r hr => by
 obtain ⟨i, hi, rfl⟩ := (rts_mem K r).1 hr
 rfl
theorem rts_i64 (K : Nat) (h : K ≤ 100) : ∀ r ∈ rts K, I64 r.id := fun r hr => by
 obtain ⟨i, hi, rfl⟩ := (rts_mem K r).1 hr
 unfold I64
 simp only
 omega
def TopoPostJ (a : Nat) (most : Nat) (n : Int) (w : World) (e : Ending) (w' : World) : Prop :=
 ∃ (R : List Rt) (L : List Lk) (vR vL : Value), e = .returned (.agg #[vR, vL]) ∧ w'.ownsRow w.heap.size 105 2 vR R.length (R.flatMap rtC) ∧ w'.ownsRow w.heap.size 135 5 vL L.length (L.flatMap lkC) ∧ (∀ g, vR.ownBlock = some g → vL.ownBlock ≠ some g) ∧ TopJ most n R L ∧ St a w w'
theorem TKt.linkAt {a : Nat} {W w : World} {uR uL vR : Value} {R : List Rt} {L : List Lk} {g n cap i : Nat} {m : Lk} (h : TKt a W uR uL vR (.slice (some ⟨g, 0, none⟩) n cap) R L w) (hm : L[i]? = some m) :
  w.cell? ⟨g, i * 5, none⟩ = some (.int .i64 m.a) ∧ w.cell? ⟨g, i * 5 + 1, none⟩ = some (.int .i64 m.b) ∧ w.cell? ⟨g, i * 5 + 2, none⟩ = some (.int .i64 m.ca) ∧ w.cell? ⟨g, i * 5 + 3, none⟩ = some (.int .i64 m.cb) ∧ w.cell? ⟨g, i * 5 + 4, none⟩ = some (.int .i64 m.cp) := by
 have h1 := (List.getElem?_eq_some_iff.1 hm).1
 obtain ⟨p, c, e, -⟩ := own_shape h.oL
 injection e with e1 e2 e3
 subst e2
 obtain ⟨-, b', off', e, -, hc⟩ := rdl_cells (L := L) (rdf_of_own h.oL) (by omega)
 obtain ⟨p1, c1, e1', hx⟩ := rdf_of_own h.oL
 have hc2 := h.oL.cellAt
 have hf : ∀ j y, j < 5 → (lkC m)[j]? = some y → w.cell? ⟨g, i * 5 + j, none⟩ = some y := fun j y hj hy => by
  rw [hc2 (i * 5 + j) (by omega)]
  exact (flat_at lkC 5 (fun _ => rfl) L i j m hm hj).trans hy
 exact ⟨hf 0 _ (by omega) rfl, hf 1 _ (by omega) rfl, hf 2 _ (by omega) rfl, hf 3 _ (by omega) rfl, hf 4 _ (by omega) rfl⟩
set_option maxHeartbeats 12800000 in
theorem topoJ_any (a most : Nat) (n : Int) (hm1 : 1 ≤ most) (hm8 : most ≤ 8) (hn : I64 n) (w : World) (hT : Tp w a) :
  Calls Tryz.prog 57 #[.pointer (some ⟨a, 0, none⟩), .int .i64 (most : Int), .int .i64 n] w fun e w' => TopoPostJ a most n w e w' := by
 obtain ⟨ir, hir, hr0, hr1, hr2⟩ := info_parts info_rt
 obtain ⟨il, hil, hl0, hl1, hl2⟩ := info_parts info_lk
 have ha := hT.lt
 have S0 := Lib.hid (TKt.start hT)
 clear hT
 go_enter Tryz.func57, Tryz.ntmps57
 go_upto_region 2 with fail
 generalize ((w.alloc _).alloc _) = wa at *
 go_wp2_with fail
 refine (range_any a 1 (most : Int) (by omega) (by omega) (by omega) (by omega) wa S0.out.st.2).mono ?_
 rintro e w1 ⟨x, rfl, hx, hs⟩
 obtain ⟨K, rfl⟩ := Int.eq_ofNat_of_zero_le (show 0 ≤ x by have := hx.1; omega)
 have hK1 : 1 ≤ K := by have := hx.1; omega
 have hKm : K ≤ most := by have := hx.2.1 (by omega); omega
 have S1 := Lib.hid (S0.out.tape ha hs)
 clear hx hs S0
 go_upto_block 0 with fail
 go_cut [] from 19 to 30 (fun wx => ∃ vR, Hid (TKt a w vR (.slice none 0 0) vR (.slice none 0 0) (rts K) [] wx))
 case first =>
  go_wp2_with fail
  go_loopw [9] (fun i wr => ∃ k : Nat, k ≤ K ∧ i = .int .i64 ((k : Int) + 1) ∧ ∃ vR, Hid (TKt a w vR (.slice none 0 0) vR (.slice none 0 0) (rts k) [] wr)) (fun i _ => K + 1 - (RowKit.intOf i).toNat)
  case atStart => exact ⟨0, Nat.zero_le _, rfl, _, S1⟩
  case round =>
   obtain ⟨k, hk, rfl, vR, HK⟩ := hrel
   clear S1
   by_cases hlt : k < K
   ·obtain ⟨c0, c1⟩ := row_cells HK.out.gb
    go_wp2_with (at_builtin; refine hold_on ?_)
    refine Lib.hid ?_
    refine wpList_append_lies _ rfl _ _ 65 rfl (w.heap.size + 2) 105 ir (.agg #[.int .i64 0, .bool false]) 2 16 Tryz.underlying65 hir hr0 hr1 hr2 rfl (by decide) vR (rts k).length ((rts k).flatMap rtC) rfl (HK.out.oR.alloc _) ⟨wr.heap.size, 0, none⟩ 1 1 [.int .i64 ((k : Int) + 1), .bool true] rfl rfl (cells2 wr _ _ _) ?_ (by decide) ?_ ?_ ?_ _ rfl ?_
    ·intro u hu; simp at hu; rcases hu with rfl | rfl <;> rfl
    ·rw [rts_len]; unfold maxLen; omega
    ·rw [rts_len]; omega
    ·have := HK.out.sz; simp; omega
    intro g cap w3 hown3 hg3 hat hlt3
    have T1 := Lib.hid ((HK.out.keep (World.grownBy_alloc wr _ none)).addR (y := ⟨(k : Int) + 1, true⟩) ha hown3 hg3 hat)
    rw [← rts_succ] at T1
    obtain ⟨f0, f1⟩ := row_cells T1.out.gb
    have ff := frozen_of_row _ _ 0 _ _ T1.out.gb
    have T2 := Lib.hid (T1.out.put0 ha)
    clear hown3 hg3 hat hlt3 T1 HK c0 c1
    go_wp2_with fail
    exact ⟨⟨k + 1, by omega, congrArg _ (by omega), _, T2⟩, by simp only [RowKit.intOf]; omega⟩
   ·obtain rfl : k = K := by omega
    go_wp2_with fail
    go_meet
    exact ⟨vR, HK⟩
 case rest =>
 obtain ⟨vR, HK⟩ := hcut
 clear S1
 have HT := Lib.hid (HK.out.st.2.alloc (.cells #[.int .i64 1, .int .i64 2, .int .i64 2, .int .i64 5] 3))
 have HA : Hid (Among (fun x => 1 ≤ x ∧ x ≤ 5) (wc.alloc (.cells #[.int .i64 1, .int .i64 2, .int .i64 2, .int .i64 5] 3)) a wc.heap.size 0 4) := Lib.hid (among_list _ wc a [1, 2, 2, 5] #[.int .i64 1, .int .i64 2, .int .i64 2, .int .i64 5] 3 HK.out.st.2.lt rfl (by intro x hx; simp at hx; omega))
 go_wp2_with fail
 refine (pick_any _ a _ 0 4 4 (by omega) (by omega) _ HT.out HA.out).mono ?_
 rintro e w2 ⟨C, rfl, hC, hs⟩
 have H2 := Lib.hid (HK.out.tape ha (St.alloc_left hs))
 clear HK HT HA hs
 go_upto_block 2 with fail
 go_cut [] from 34 to 76 (fun wx => ∃ vL L, (L : List Lk).length ≤ 49 ∧ Hid (GoodL K ((K : Int) + 1) 1 L ∧ TKt a w vR vL vR vL (rts K) L wx))
 case first =>
  go_wp2_with fail
  go_loopw [11] (fun i wr => ∃ b : Nat, 2 ≤ b ∧ b ≤ K + 1 ∧ i = .int .i64 (b : Int) ∧ ∃ vL L, (L : List Lk).length ≤ 7 * (b - 2) ∧ Hid (GoodL K b 1 L ∧ TKt a w vR vL vR vL (rts K) L wr)) (fun i _ => K + 2 - (RowKit.intOf i).toNat)
  case atStart => exact ⟨2, by omega, by omega, rfl, _, [], by simp, Lib.hid ⟨GoodL.nil _ _ _, H2.out⟩⟩
  case round =>
   obtain ⟨b, hb2, hbK, rfl, vL, L, hLl, HK⟩ := hrel
   clear H2
   by_cases hlt : b ≤ K
   ·go_wp2_with fail
    refine (range_any a 1 ((b : Int) - 1) (by omega) (by omega) (by omega) (by omega) _ HK.out.2.st.2).mono ?_
    rintro e w3 ⟨tr, rfl, -, hs3⟩
    have H3 := Lib.hid (And.intro HK.out.1 (HK.out.2.tape ha hs3))
    clear HK hs3
    go_wp2_with fail
    refine (one_any a 9 (by unfold I64; omega) _ H3.out.2.st.2).mono ?_
    rintro e w4 ⟨sk, rfl, hs4⟩
    have H4 := Lib.hid (And.intro H3.out.1 (H3.out.2.tape ha hs4))
    clear H3 hs4
    go_wp2_with fail
    go_loopw [14] (fun i wr => ∃ A : Nat, 1 ≤ A ∧ A ≤ b ∧ i = .int .i64 (A : Int) ∧ ∃ vL L, (L : List Lk).length ≤ 7 * (b - 2) + (A - 1) ∧ Hid (GoodL K b A L ∧ TKt a w vR vL vR vL (rts K) L wr)) (fun i _ => b - (RowKit.intOf i).toNat)
    case atStart => exact ⟨1, by omega, by omega, rfl, vL, L, by omega, H4⟩
    case round =>
     obtain ⟨A, hA1, hAb, rfl, vL, L, hLl, HK⟩ := hrel
     clear H4
     by_cases hltA : A < b
     ·go_upto_region 16 with fail
      go_cut [60] from 50 to 60 (fun bb wx => ∃ z, bb = .bool z ∧ Hid (GoodL K b A L ∧ TKt a w vR vL vR vL (rts K) L wx))
      case first =>
       have hOne : ∀ (wz : World), Hid (TKt a w vR vL vR vL (rts K) L wz) → Calls Tryz.prog 8 #[.pointer (some ⟨a, 0, none⟩), .int .i64 3] wz fun e w' => ∃ z, e = .returned (.bool z) ∧ Hid (TKt a w vR vL vR vL (rts K) L w') := fun wz H => (one_any a 3 (by unfold I64; omega) _ H.out.st.2).mono (by rintro e w' ⟨z, rfl, hs⟩; exact ⟨z, rfl, Lib.hid (H.out.tape ha hs)⟩)
       by_cases h1 : (A : Int) = tr
       ·subst h1
        cases sk
        ·go_wp2_with fail
         go_meet
         exact ⟨true, rfl, HK⟩
        ·go_wp2_with fail
         refine (hOne _ (Lib.hid HK.out.2)).mono ?_
         rintro e w5 ⟨z, rfl, H5⟩
         have HG := Lib.hid (And.intro HK.out.1 H5.out)
         clear H5 HK
         go_wp2_with fail
         go_meet
         exact ⟨_, rfl, HG⟩
       ·have h1' : ((A : Int) == tr) = false := by simpa using h1
        have h1'' : decide ((A : Int) = tr) = false := decide_eq_false h1
        go_wp2_with fail
        refine (hOne _ (Lib.hid HK.out.2)).mono ?_
        rintro e w5 ⟨z, rfl, H5⟩
        have HG := Lib.hid (And.intro HK.out.1 H5.out)
        clear H5 HK
        go_wp2_with fail
        go_meet
        exact ⟨_, rfl, HG⟩
      case rest =>
      obtain ⟨z, rfl, HK5⟩ := hcut
      clear HK
      go_upto_if 60 with fail
      cases z
      ·have HN := Lib.hid (And.intro HK5.out.1.next HK5.out.2)
       clear HK5
       go_wp2_with fail
       exact ⟨⟨A + 1, by omega, by omega, congrArg _ (by omega), vL, L, by omega, HN⟩, by simp only [RowKit.intOf]; omega⟩
      ·have hLl2 : L.length ≤ 56 := by omega
       have HKd : Hid (TKt a w vR vL vR vL (rts K) L wc.drew) := Lib.hid (HK5.out.2.keep (grown_drew (grown_refl _ _)))
       have HG := Lib.hid HK5.out.1
       have HA := Lib.hid (And.intro (And.intro hA1 hltA) (And.intro hlt hC))
       clear HK5
       go_upto_region 17 with fail
       refine region_until (S := fun w' => Hid (TKt a w vR vL vR vL (rts K) L w')) (fun j => j == 14 || j == 15 || j == 16) (by kernel_rfl) (HKd) (fun hHeld => ?_)
       refine zU (i := 0) (v := ?_) rfl ?_ hHeld ?_
       rotate_left 1
       ·intro u hSu
        go_simp
        first | done | with_reducible rfl
       try simp only [Act.put, zA, zB, zC]
       refine zU (i := 1) (v := ?_) rfl ?_ hHeld ?_
       rotate_left 1
       ·intro u hSu
        obtain ⟨q0, q1⟩ := row_cells hSu.out.gb
        go_simp
        first | done | with_reducible rfl
       try simp only [Act.put, zA, zB, zC]
       refine zU (i := 2) (v := ?_) rfl ?_ hHeld ?_
       rotate_left 1
       ·intro u hSu
        go_simp
        first | done | with_reducible rfl
       try simp only [Act.put, zA, zB, zC]
       refine zU (i := 3) (v := ?_) rfl ?_ hHeld ?_
       rotate_left 1
       ·intro u hSu
        go_simp
        first | done | with_reducible rfl
       try simp only [Act.put, zA, zB, zC]
       refine zU (i := 4) (v := ?_) rfl ?_ hHeld ?_
       rotate_left 1
       ·intro u hSu
        go_simp
        first | done | with_reducible rfl
       try simp only [Act.put, zA, zB, zC]
       refine zU (i := 5) (v := ?_) rfl ?_ hHeld ?_
       rotate_left 1
       ·intro u hSu
        go_simp
        first | done | with_reducible rfl
       try simp only [Act.put, zA, zB, zC]
       refine zU (i := 7) (v := ?_) rfl ?_ hHeld ?_
       rotate_left 1
       ·intro u hSu
        go_simp
        first | done | with_reducible rfl
       try simp only [Act.put, zA, zB, zC]
       refine zU (i := 8) (v := ?_) rfl ?_ hHeld ?_
       rotate_left 1
       ·intro u hSu
        go_simp
        first | done | with_reducible rfl
       try simp only [Act.put, zA, zB, zC]
       refine zU (i := 10) (v := ?_) rfl ?_ hHeld ?_
       rotate_left 1
       ·intro u hSu
        go_simp
        first | done | with_reducible rfl
       try simp only [Act.put, zA, zB, zC]
       refine anyU_ready (rs := [6]) (by kernel_rfl) (by simp) ?_
       refine EachU.cons (o := ⟨_, _, _, _, _, _⟩) rfl (fun Kz hK => ?_) EachU.nil
       go_simp
       go_at_call 31
       refine (range_any a 1 C (by omega) (by omega) (by omega) (by omega) _ hHeld.out.st.2).mono ?_
       rintro e w5 ⟨x1, rfl, hx, hs⟩
       have HX1 := Lib.hid hx
       clear hx
       have H5n := Lib.hid (hHeld.out.tape ha hs)
       clear hs
       refine hK.out _ _ (fun _ => H5n) (fun hH2 => ?_)
       clear hK Kz hHeld
       have hHeld := hH2 rfl
       clear hH2
       try simp only [Act.put, zA, zB, zC]
       refine anyU_ready (rs := [9]) (by kernel_rfl) (by simp) ?_
       refine EachU.cons (o := ⟨_, _, _, _, _, _⟩) rfl (fun Kz hK => ?_) EachU.nil
       go_simp
       go_at_call 31
       refine (range_any a 1 C (by omega) (by omega) (by omega) (by omega) _ hHeld.out.st.2).mono ?_
       rintro e w5 ⟨x2, rfl, hx, hs⟩
       have HX2 := Lib.hid hx
       clear hx
       have H5n := Lib.hid (hHeld.out.tape ha hs)
       clear hs
       refine hK.out _ _ (fun _ => H5n) (fun hH2 => ?_)
       clear hK Kz hHeld
       have hHeld := hH2 rfl
       clear hH2
       try simp only [Act.put, zA, zB, zC]
       refine anyU_ready (rs := [11]) (by kernel_rfl) (by simp) ?_
       refine EachU.cons (o := ⟨_, _, _, _, _, _⟩) rfl (fun Kz hK => ?_) EachU.nil
       go_simp
       go_at_call 29
       refine (next_any a 4 (by unfold I64; omega) _ hHeld.out.st.2).mono ?_
       rintro e w5 ⟨x3, rfl, hx, hs⟩
       have HX3 := Lib.hid hx
       clear hx
       have H5n := Lib.hid (hHeld.out.tape ha hs)
       clear hs
       refine hK.out _ _ (fun _ => H5n) (fun hH2 => ?_)
       clear hK Kz hHeld
       have hHeld := hH2 rfl
       clear hH2
       try simp only [Act.put, zA, zB, zC]
       refine zU (i := 12) (v := ?_) rfl ?_ hHeld ?_
       rotate_left 1
       ·intro u hSu
        obtain ⟨q0, q1⟩ := row_cells hSu.out.gb
        go_simp
        first | done | with_reducible rfl
       try simp only [Act.put, zA, zB, zC]
       refine anyU_ready (rs := [13]) (by kernel_rfl) (by simp) ?_
       refine EachU.cons (o := ⟨_, _, _, _, _, _⟩) rfl (fun Kz hK => ?_) EachU.nil
       have H8 := hHeld
       go_simp
       refine hK.out _ _ (fun _ => Lib.hid (hHeld.out.keep (World.grownBy_alloc _ _ none))) (fun hH2 => ?_)
       clear hK Kz hHeld
       have hHeld := hH2 rfl
       clear hH2
       try simp only [Act.put, zA, zB, zC]
       refine anyU_ready (rs := [14]) (by kernel_rfl) (by simp) ?_
       refine EachU.cons (o := ⟨_, _, _, _, _, _⟩) rfl (fun Kz hK => ?_) EachU.nil
       refine step_append_lies _ (by rfl) _ _ 66 (by rfl) (w.heap.size + 2) 135 il (.agg #[.int .i64 0, .int .i64 0, .int .i64 0, .int .i64 0, .int .i64 0]) 5 40 Tryz.underlying66 hil hl0 hl1 hl2 rfl (by decide) vL L.length (L.flatMap lkC) (by rfl) (H8.out.oL.alloc _) ⟨w5.heap.size, 0, none⟩ 1 1 [.int .i64 (A : Int), .int .i64 (b : Int), .int .i64 x1, .int .i64 x2, .int .i64 x3] (by rfl) (by rfl) (cells5 w5 _ _ _ _ _ _) (by intro u hu; simp at hu; rcases hu with rfl | rfl | rfl | rfl | rfl <;> rfl) (by omega) (by unfold maxLen; omega) (by omega) (by have := H8.out.sz; simp; omega) _ rfl ?_
       intro g cap w9 hown hgrow hat hlt9
       have H9 := Lib.hid (hHeld.out.addL (y := ⟨A, b, x1, x2, x3⟩) ha hown hgrow hat)
       have cc := row_cells H9.out.gb
       have c90 := cc.1
       have c91 := cc.2
       have fB := frozen_of_row _ _ 1 _ _ H9.out.gb
       clear cc hown hgrow hat hlt9
       refine hK.out _ _ (fun h => by cases h) (fun _ => ?_)
       clear hK Kz
       try simp only [Act.put, zA, zB, zC]
       refine anyU_ready (rs := [15]) (by kernel_rfl) (by simp) ?_
       refine EachU.cons (o := ⟨_, _, _, _, _, _⟩) rfl (fun Kz hK => ?_) EachU.nil
       go_simp
       refine hK.out _ _ (fun h => by cases h) (fun _ => ?_)
       clear hK Kz
       try simp only [Act.put, zA, zB, zC]
       refine anyU_ready (rs := [16]) (by kernel_rfl) (by simp) ?_
       refine EachU.cons (o := ⟨_, _, _, _, _, _⟩) rfl (fun Kz hK => ?_) EachU.nil
       go_simp
       refine hK.out _ _ (fun h => by cases h) (fun _ => ?_)
       clear hK Kz
       try simp only [Act.put, zA, zB, zC]
       refine anyU_done (by kernel_rfl) ?_ _
       have HW : wrNum ⟨A, b, x1, x2, x3⟩ = false := by
        have h1 := HX1.out; have h2 := HX2.out; have h3 := HX3.out; have h4 := HA.out.2.2
        unfold RangeOf at h1 h2; unfold CutOf at h3; unfold wrNum
        rw [decide_eq_true (by dsimp; omega)]; rfl
       have H10 := Lib.hid (And.intro (HG.out.add ⟨A, b, x1, x2, x3⟩ rfl rfl (by have := HA.out.1.1; omega) (by have := HA.out.1.2; omega) (by have := HA.out.2.1; omega) HW) (H9.out.put1 ha))
       clear HW H9 H8 HKd HG c90 c91 fB hHeld
       go_wp2_with fail
       exact ⟨⟨A + 1, by omega, by omega, congrArg _ (by omega), _, _, by rw [List.length_append]; simp; omega, H10⟩, by simp only [RowKit.intOf]; omega⟩
     ·obtain rfl : A = b := by omega
      have HN : Hid (GoodL K ((A + 1 : Nat) : Int) 1 L ∧ TKt a w vR vL vR vL (rts K) L wr) := Lib.hid ⟨by have := HK.out.1.row; rwa [show ((A + 1 : Nat) : Int) = (A : Int) + 1 by omega], HK.out.2⟩
      clear HK
      go_wp2_with fail
      exact ⟨⟨A + 1, by omega, by omega, congrArg _ (by omega), vL, L, by omega, HN⟩, by simp only [RowKit.intOf]; omega⟩
   ·obtain rfl : b = K + 1 := by omega
    go_wp2_with fail
    go_meet
    exact ⟨vL, L, by omega, HK⟩
 case rest =>
 obtain ⟨vL, L, hLl, HK⟩ := hcut
 clear H2
 obtain ⟨pL, cL, rfl, -, -⟩ := own_shape HK.out.2.oL
 obtain ⟨c0, c1⟩ := row_cells HK.out.2.gb
 have HV : Hid ((ordL L).length ≤ 49 ∧ chk (rts K) (ordL L) = 0) := Lib.hid ⟨by rw [ordL_len]; exact hLl, chk_good HK.out.1 (by omega) (by omega)⟩
 obtain ⟨O, hO⟩ : ∃ O, ordL L = O := ⟨_, rfl⟩
 rw [hO] at HV
 have HO := Lib.hid hO
 clear hO
 go_wp2_with fail
 refine (ord_any L pL cL _ _ (rdf_of_own HK.out.2.oL) (by omega)).mono ?_
 rintro e w3 ⟨v3, rfl, hown, hg⟩
 rw [HO.out] at hown
 have H3 := Lib.hid (HK.out.2.newL hown hg)
 clear hown hg HK HO c0 c1
 obtain ⟨p3, c3, rfl, -, -⟩ := own_shape H3.out.oL
 obtain ⟨c0, c1⟩ := row_cells H3.out.gb
 have ff := frozen_of_row _ _ 1 _ _ H3.out.gb
 have H4 := Lib.hid (H3.out.put1 ha)
 have HOl : O.length ≤ 49 := HV.out.1
 clear H3 hLl
 go_upto_region 19 with fail
 clear c0 c1 ff
 generalize w3.setCell _ _ = w4 at *
 generalize hv3 : Value.slice p3 O.length c3 = v3 at *
 clear hv3
 go_cut [87] from 81 to 87 (fun bb wx => ∃ z, bb = .bool z ∧ Hid ((z = true → 0 < n) ∧ TKt a w vR v3 vR v3 (rts K) O wx))
 case first =>
  by_cases hn1 : 0 < n
  ·go_wp2_with fail
   refine (one_any a n hn _ H4.out.st.2).mono ?_
   rintro e w5 ⟨z, rfl, hs⟩
   have H5 := Lib.hid (H4.out.tape ha hs)
   clear hs H4
   go_wp2_with fail
   go_meet
   exact ⟨z, rfl, Lib.hid ⟨fun _ => hn1, H5.out⟩⟩
  ·go_wp2_with fail
   go_meet
   exact ⟨false, rfl, Lib.hid ⟨fun h => (by cases h), H4.out⟩⟩
 case rest =>
 obtain ⟨z, rfl, H5⟩ := hcut
 clear H4
 go_upto_if 87 with fail
 go_cut [] from 88 to 194 (fun wx => ∃ vR2 vL2 R2 L2, Hid (TopJ most n R2 L2 ∧ TKt a w vR2 vL2 vR2 vL2 R2 L2 wx))
 case first =>
  cases z
  ·go_wp2_with fail
   go_meet
   exact ⟨vR, v3, rts K, O, Lib.hid ⟨⟨⟨by rw [rts_len]; omega, by rw [rts_len]; omega, by rw [rts_len]; omega, by omega, fun _ => ⟨HV.out.2, by rw [rts_len]; omega⟩⟩, rts_i64 K (by omega), fun _ => rts_cap K⟩, H5.out.2⟩⟩
  ·have hn0 := H5.out.1 rfl
   have hl0q := hl0
   go_wp2_with fail
   refine (next_any a 7 (by unfold I64; omega) _ H5.out.2.st.2).mono ?_
   rintro e w6 ⟨qq, rfl, hq, hs⟩
   obtain ⟨q, rfl⟩ := Int.eq_ofNat_of_zero_le hq.1
   have hq7 : q < 7 := by have := hq.2.1 (by decide); omega
   have H6 := Lib.hid (H5.out.2.tape ha hs)
   clear hq hs H5
   rcases (show q = 0 ∨ q = 1 ∨ q = 2 ∨ q = 3 ∨ q = 4 ∨ q = 5 ∨ q = 6 by omega) with rfl | rfl | rfl | rfl | rfl | rfl | rfl
   ·skip
    have HKd : Hid (TKt a w vR v3 vR v3 (rts K) O w6.drew) := Lib.hid (H6.out.keep (grown_drew (grown_refl _ _)))
    go_upto_region 26 with fail
    refine region_until (S := fun w' => Hid (TKt a w vR v3 vR v3 (rts K) O w')) (fun j => j == 7 || j == 8 || j == 9) (by kernel_rfl) (HKd) (fun hHeld => ?_)
    refine zU (i := 0) (v := ?_) rfl ?_ hHeld ?_
    rotate_left 1
    ·intro u hSu
     go_simp
     first | done | with_reducible rfl
    try simp only [Act.put, zA, zB, zC]
    refine zU (i := 1) (v := ?_) rfl ?_ hHeld ?_
    rotate_left 1
    ·intro u hSu
     obtain ⟨q0, q1⟩ := row_cells hSu.out.gb
     go_simp
     first | done | with_reducible rfl
    try simp only [Act.put, zA, zB, zC]
    refine zU (i := 2) (v := ?_) rfl ?_ hHeld ?_
    rotate_left 1
    ·intro u hSu
     go_simp
     first | done | with_reducible rfl
    try simp only [Act.put, zA, zB, zC]
    refine anyU_ready (rs := [3]) (by kernel_rfl) (by simp) ?_
    refine EachU.cons (o := ⟨_, _, _, _, _, _⟩) rfl (fun Kz hK => ?_) EachU.nil
    have HP8 := hHeld
    go_simp
    refine hK.out _ _ (fun _ => Lib.hid (hHeld.out.keep (World.grownBy_alloc _ _ none))) (fun hH2 => ?_)
    clear hK Kz hHeld
    have hHeld := hH2 rfl
    clear hH2
    try simp only [Act.put, zA, zB, zC]
    refine anyU_ready (rs := [4]) (by kernel_rfl) (by simp) ?_
    refine EachU.cons (o := ⟨_, _, _, _, _, _⟩) rfl (fun Kz hK => ?_) EachU.nil
    go_simp
    go_at_call 27
    refine (pick_any I64 a _ 0 5 5 (by omega) (by omega) _ (HP8.out.st.2.alloc _) (among_list I64 _ a [0, 1, 99, 100, -1] #[.int .i64 0, .int .i64 1, .int .i64 99, .int .i64 100, .int .i64 (-1)] 3 HP8.out.st.2.lt rfl (by intro x hx; simp at hx; unfold I64; omega))).mono ?_
    rintro e w5 ⟨x, rfl, hxI, hs⟩
    have HXI := Lib.hid hxI
    clear hxI
    have H5n := Lib.hid (hHeld.out.tape ha hs)
    clear hs
    refine hK.out _ _ (fun _ => H5n) (fun hH2 => ?_)
    clear hK Kz hHeld
    have hHeld := hH2 rfl
    clear hH2
    try simp only [Act.put, zA, zB, zC]
    refine zU (i := 5) (v := ?_) rfl ?_ hHeld ?_
    rotate_left 1
    ·intro u hSu
     obtain ⟨q0, q1⟩ := row_cells hSu.out.gb
     go_simp
     first | done | with_reducible rfl
    try simp only [Act.put, zA, zB, zC]
    refine anyU_ready (rs := [6]) (by kernel_rfl) (by simp) ?_
    refine EachU.cons (o := ⟨_, _, _, _, _, _⟩) rfl (fun Kz hK => ?_) EachU.nil
    have H8 := hHeld
    go_simp
    refine hK.out _ _ (fun _ => Lib.hid (hHeld.out.keep (World.grownBy_alloc _ _ none))) (fun hH2 => ?_)
    clear hK Kz hHeld
    have hHeld := hH2 rfl
    clear hH2
    try simp only [Act.put, zA, zB, zC]
    refine anyU_ready (rs := [7]) (by kernel_rfl) (by simp) ?_
    refine EachU.cons (o := ⟨_, _, _, _, _, _⟩) rfl (fun Kz hK => ?_) EachU.nil
    refine step_append_lies _ (by rfl) _ _ 65 (by rfl) (w.heap.size + 2) 105 ir (.agg #[.int .i64 0, .bool false]) 2 16 Tryz.underlying65 hir hr0 hr1 hr2 rfl (by decide) vR (rts K).length ((rts K).flatMap rtC) (by rfl) (H8.out.oR.alloc _) ⟨w5.heap.size, 0, none⟩ 1 1 [.int .i64 x, .bool false] (by rfl) (by rfl) (cells2 w5 _ _ _) (by intro u hu; simp at hu; rcases hu with rfl | rfl <;> rfl) (by omega) (by rw [rts_len]; unfold maxLen; omega) (by rw [rts_len]; omega) (by have := H8.out.sz; simp; omega) _ rfl ?_
    intro g cap w9 hown hgrow hat hlt9
    have H9 := Lib.hid (hHeld.out.addR (y := ⟨x, false⟩) ha hown hgrow hat)
    have cc := row_cells H9.out.gb
    have c90 := cc.1
    have c91 := cc.2
    have fB := frozen_of_row _ _ 0 _ _ H9.out.gb
    clear cc hown hgrow hat hlt9
    refine hK.out _ _ (fun h => by cases h) (fun _ => ?_)
    clear hK Kz
    try simp only [Act.put, zA, zB, zC]
    refine anyU_ready (rs := [8]) (by kernel_rfl) (by simp) ?_
    refine EachU.cons (o := ⟨_, _, _, _, _, _⟩) rfl (fun Kz hK => ?_) EachU.nil
    go_simp
    refine hK.out _ _ (fun h => by cases h) (fun _ => ?_)
    clear hK Kz
    try simp only [Act.put, zA, zB, zC]
    refine anyU_ready (rs := [9]) (by kernel_rfl) (by simp) ?_
    refine EachU.cons (o := ⟨_, _, _, _, _, _⟩) rfl (fun Kz hK => ?_) EachU.nil
    go_simp
    refine hK.out _ _ (fun h => by cases h) (fun _ => ?_)
    clear hK Kz
    try simp only [Act.put, zA, zB, zC]
    refine anyU_done (by kernel_rfl) ?_ _
    have H10 := Lib.hid (H9.out.put0 ha)
    clear H9 H8 HKd c90 c91 fB hHeld H6
    go_wp2_with fail
    go_meet
    exact ⟨_, _, _, _, Lib.hid ⟨⟨TopOf.bad hn0 (by rw [List.length_append, rts_len]; simp) (by rw [List.length_append, rts_len]; simp; omega) (by omega), fun r hr => by { rcases List.mem_append.1 hr with h | h; { exact rts_i64 K (by omega) r h }; { rw [List.mem_singleton.1 h]; exact HXI.out } }, fun h => absurd h (by omega)⟩, H10.out⟩⟩
   ·skip
    have HKd : Hid (TKt a w vR v3 vR v3 (rts K) O w6.drew) := Lib.hid (H6.out.keep (grown_drew (grown_refl _ _)))
    go_upto_region 28 with fail
    refine region_until (S := fun w' => Hid (TKt a w vR v3 vR v3 (rts K) O w')) (fun j => j == 8 || j == 9 || j == 10) (by kernel_rfl) (HKd) (fun hHeld => ?_)
    refine zU (i := 0) (v := ?_) rfl ?_ hHeld ?_
    rotate_left 1
    ·intro u hSu
     go_simp
     first | done | with_reducible rfl
    try simp only [Act.put, zA, zB, zC]
    refine zU (i := 1) (v := ?_) rfl ?_ hHeld ?_
    rotate_left 1
    ·intro u hSu
     obtain ⟨q0, q1⟩ := row_cells hSu.out.gb
     go_simp
     first | done | with_reducible rfl
    try simp only [Act.put, zA, zB, zC]
    refine zU (i := 2) (v := ?_) rfl ?_ hHeld ?_
    rotate_left 1
    ·intro u hSu
     go_simp
     first | done | with_reducible rfl
    try simp only [Act.put, zA, zB, zC]
    refine zU (i := 4) (v := ?_) rfl ?_ hHeld ?_
    rotate_left 1
    ·intro u hSu
     go_simp
     first | done | with_reducible rfl
    try simp only [Act.put, zA, zB, zC]
    refine anyU_ready (rs := [3]) (by kernel_rfl) (by simp) ?_
    refine EachU.cons (o := ⟨_, _, _, _, _, _⟩) rfl (fun Kz hK => ?_) EachU.nil
    go_simp
    go_at_call 29
    refine (next_any a 4 (by unfold I64; omega) _ hHeld.out.st.2).mono ?_
    rintro e w5 ⟨x1, rfl, -, hs⟩
    have H5n := Lib.hid (hHeld.out.tape ha hs)
    clear hs
    refine hK.out _ _ (fun _ => H5n) (fun hH2 => ?_)
    clear hK Kz hHeld
    have hHeld := hH2 rfl
    clear hH2
    try simp only [Act.put, zA, zB, zC]
    refine anyU_ready (rs := [5]) (by kernel_rfl) (by simp) ?_
    refine EachU.cons (o := ⟨_, _, _, _, _, _⟩) rfl (fun Kz hK => ?_) EachU.nil
    go_simp
    go_at_call 29
    refine (next_any a 4 (by unfold I64; omega) _ hHeld.out.st.2).mono ?_
    rintro e w5 ⟨x2, rfl, -, hs⟩
    have H5n := Lib.hid (hHeld.out.tape ha hs)
    clear hs
    refine hK.out _ _ (fun _ => H5n) (fun hH2 => ?_)
    clear hK Kz hHeld
    have hHeld := hH2 rfl
    clear hH2
    try simp only [Act.put, zA, zB, zC]
    refine zU (i := 6) (v := ?_) rfl ?_ hHeld ?_
    rotate_left 1
    ·intro u hSu
     obtain ⟨q0, q1⟩ := row_cells hSu.out.gb
     go_simp
     first | done | with_reducible rfl
    try simp only [Act.put, zA, zB, zC]
    refine anyU_ready (rs := [7]) (by kernel_rfl) (by simp) ?_
    refine EachU.cons (o := ⟨_, _, _, _, _, _⟩) rfl (fun Kz hK => ?_) EachU.nil
    have H8 := hHeld
    go_simp
    refine hK.out _ _ (fun _ => Lib.hid (hHeld.out.keep (World.grownBy_alloc _ _ none))) (fun hH2 => ?_)
    clear hK Kz hHeld
    have hHeld := hH2 rfl
    clear hH2
    try simp only [Act.put, zA, zB, zC]
    refine anyU_ready (rs := [8]) (by kernel_rfl) (by simp) ?_
    refine EachU.cons (o := ⟨_, _, _, _, _, _⟩) rfl (fun Kz hK => ?_) EachU.nil
    refine step_append_lies _ (by rfl) _ _ 66 (by rfl) (w.heap.size + 2) 135 il (.agg #[.int .i64 0, .int .i64 0, .int .i64 0, .int .i64 0, .int .i64 0]) 5 40 Tryz.underlying66 hil hl0 hl1 hl2 rfl (by decide) v3 O.length (O.flatMap lkC) (by rfl) (H8.out.oL.alloc _) ⟨w5.heap.size, 0, none⟩ 1 1 [.int .i64 x1, .int .i64 x2, .int .i64 1, .int .i64 1, .int .i64 0] (by rfl) (by rfl) (cells5 w5 _ _ _ _ _ _) (by intro u hu; simp at hu; rcases hu with rfl | rfl | rfl | rfl | rfl <;> rfl) (by omega) (by unfold maxLen; omega) (by omega) (by have := H8.out.sz; simp; omega) _ rfl ?_
    intro g cap w9 hown hgrow hat hlt9
    have H9 := Lib.hid (hHeld.out.addL (y := ⟨x1, x2, 1, 1, 0⟩) ha hown hgrow hat)
    have cc := row_cells H9.out.gb
    have c90 := cc.1
    have c91 := cc.2
    have fB := frozen_of_row _ _ 1 _ _ H9.out.gb
    clear cc hown hgrow hat hlt9
    refine hK.out _ _ (fun h => by cases h) (fun _ => ?_)
    clear hK Kz
    try simp only [Act.put, zA, zB, zC]
    refine anyU_ready (rs := [9]) (by kernel_rfl) (by simp) ?_
    refine EachU.cons (o := ⟨_, _, _, _, _, _⟩) rfl (fun Kz hK => ?_) EachU.nil
    go_simp
    refine hK.out _ _ (fun h => by cases h) (fun _ => ?_)
    clear hK Kz
    try simp only [Act.put, zA, zB, zC]
    refine anyU_ready (rs := [10]) (by kernel_rfl) (by simp) ?_
    refine EachU.cons (o := ⟨_, _, _, _, _, _⟩) rfl (fun Kz hK => ?_) EachU.nil
    go_simp
    refine hK.out _ _ (fun h => by cases h) (fun _ => ?_)
    clear hK Kz
    try simp only [Act.put, zA, zB, zC]
    refine anyU_done (by kernel_rfl) ?_ _
    have H10 := Lib.hid (H9.out.put1 ha)
    clear H9 H8 HKd c90 c91 fB hHeld H6
    go_wp2_with fail
    go_meet
    exact ⟨_, _, _, _, Lib.hid ⟨⟨TopOf.bad hn0 (by rw [rts_len]; omega) (by rw [rts_len]; omega) (by rw [List.length_append]; simp; omega), rts_i64 K (by omega), fun h => absurd h (by omega)⟩, H10.out⟩⟩
   ·skip
    by_cases hl0 : 0 < O.length
    ·obtain ⟨g3, cap3, rfl⟩ : ∃ g cap, v3 = .slice (some ⟨g, 0, none⟩) O.length cap := by
      rcases own_formF H6.out.oL with ⟨-, e0⟩ | ⟨g, cap, e, -, -⟩
      ·omega
      ·exact ⟨g, cap, e⟩
     have HKd : Hid (TKt a w vR (.slice (some ⟨g3, 0, none⟩) O.length cap3) vR (.slice (some ⟨g3, 0, none⟩) O.length cap3) (rts K) O w6.drew) := Lib.hid (H6.out.keep (grown_drew (grown_refl _ _)))
     have c1 := (row_cells H6.out.gb).2
     have c1d := (row_cells HKd.out.gb).2
     go_wp2_with fail
     go_region_held3 (fun w' => w'.cell? ⟨w.heap.size + 1, 1, none⟩ = some (.slice (some ⟨g3, 0, none⟩) O.length cap3))
      (first | with_reducible exact cS | with_reducible exact c81 | with_reducible exact c71 | with_reducible exact c1d)
      (first
      | (go_simp; go_at_call 33; refine (wild_any a _ H7.out.st.2).mono ?_; rintro e w8 ⟨x, rfl, hx, hs8⟩; have H8 := Lib.hid (H7.out.tape ha hs8); clear hx hs8; have c81 := (row_cells H8.out.gb).2; have cL := (H8.out.linkAt HM.out).2.2.1; have fL := H8.out.oL.frozenAt (i * 5 + 2); obtain ⟨L', hL', HS⟩ := H8.out.setL (x := x) (j := 2) ha hi (by omega); have HS := Lib.hid HS; have cS := (row_cells HS.out.gb).2)
      | (go_simp; go_at_call 29; refine (next_any a O.length (by unfold I64; omega) _ HKd.out.st.2).mono ?_; rintro e w7 ⟨y, rfl, hy, hs7⟩; obtain ⟨i, rfl⟩ := Int.eq_ofNat_of_zero_le hy.1; have hi : i < O.length := (by have := hy.2.1 (by omega); omega); have H7 := Lib.hid (HKd.out.tape ha hs7); clear hy hs7; have c71 := (row_cells H7.out.gb).2; have i0 : (0 : Int) ≤ (i : Int) := (by omega); have i1 : (i : Int) < (O.length : Int) := (by omega); obtain ⟨m, hm⟩ : ∃ m, O[i]? = some m := ⟨_, List.getElem?_eq_getElem hi⟩; have HM := Lib.hid hm; clear hm))
     all_goals
      go_wp2_with fail
      go_meet
      exact ⟨_, _, rts K, L', Lib.hid ⟨⟨TopOf.bad hn0 (by rw [rts_len]; omega) (by rw [rts_len]; omega) (by omega), rts_i64 K (by omega), fun h => absurd h (by omega)⟩, HS.out⟩⟩
    ·have hl0' : (O.length : Int) ≤ 0 := by omega
     clear hl0
     obtain ⟨p3, c3, rfl, -, -⟩ := own_shape H6.out.oL
     have c1 := (row_cells H6.out.gb).2
     go_wp2_with fail
     go_meet
     exact ⟨vR, _, rts K, O, Lib.hid ⟨⟨TopOf.bad hn0 (by rw [rts_len]; omega) (by rw [rts_len]; omega) (by omega), rts_i64 K (by omega), fun h => absurd h (by omega)⟩, H6.out⟩⟩
   ·skip
    by_cases hl0 : 0 < O.length
    ·obtain ⟨g3, cap3, rfl⟩ : ∃ g cap, v3 = .slice (some ⟨g, 0, none⟩) O.length cap := by
      rcases own_formF H6.out.oL with ⟨-, e0⟩ | ⟨g, cap, e, -, -⟩
      ·omega
      ·exact ⟨g, cap, e⟩
     have HKd : Hid (TKt a w vR (.slice (some ⟨g3, 0, none⟩) O.length cap3) vR (.slice (some ⟨g3, 0, none⟩) O.length cap3) (rts K) O w6.drew) := Lib.hid (H6.out.keep (grown_drew (grown_refl _ _)))
     have c1 := (row_cells H6.out.gb).2
     have c1d := (row_cells HKd.out.gb).2
     go_wp2_with fail
     go_region_held3 (fun w' => w'.cell? ⟨w.heap.size + 1, 1, none⟩ = some (.slice (some ⟨g3, 0, none⟩) O.length cap3))
      (first | with_reducible exact cS | with_reducible exact c81 | with_reducible exact c71 | with_reducible exact c1d)
      (first
      | (go_simp; go_at_call 33; refine (wild_any a _ H7.out.st.2).mono ?_; rintro e w8 ⟨x, rfl, hx, hs8⟩; have H8 := Lib.hid (H7.out.tape ha hs8); clear hx hs8; have c81 := (row_cells H8.out.gb).2; have cL := (H8.out.linkAt HM.out).2.2.2.1; have fL := H8.out.oL.frozenAt (i * 5 + 3); obtain ⟨L', hL', HS⟩ := H8.out.setL (x := x) (j := 3) ha hi (by omega); have HS := Lib.hid HS; have cS := (row_cells HS.out.gb).2)
      | (go_simp; go_at_call 29; refine (next_any a O.length (by unfold I64; omega) _ HKd.out.st.2).mono ?_; rintro e w7 ⟨y, rfl, hy, hs7⟩; obtain ⟨i, rfl⟩ := Int.eq_ofNat_of_zero_le hy.1; have hi : i < O.length := (by have := hy.2.1 (by omega); omega); have H7 := Lib.hid (HKd.out.tape ha hs7); clear hy hs7; have c71 := (row_cells H7.out.gb).2; have i0 : (0 : Int) ≤ (i : Int) := (by omega); have i1 : (i : Int) < (O.length : Int) := (by omega); obtain ⟨m, hm⟩ : ∃ m, O[i]? = some m := ⟨_, List.getElem?_eq_getElem hi⟩; have HM := Lib.hid hm; clear hm))
     all_goals
      go_wp2_with fail
      go_meet
      exact ⟨_, _, rts K, L', Lib.hid ⟨⟨TopOf.bad hn0 (by rw [rts_len]; omega) (by rw [rts_len]; omega) (by omega), rts_i64 K (by omega), fun h => absurd h (by omega)⟩, HS.out⟩⟩
    ·have hl0' : (O.length : Int) ≤ 0 := by omega
     clear hl0
     obtain ⟨p3, c3, rfl, -, -⟩ := own_shape H6.out.oL
     have c1 := (row_cells H6.out.gb).2
     go_wp2_with fail
     go_meet
     exact ⟨vR, _, rts K, O, Lib.hid ⟨⟨TopOf.bad hn0 (by rw [rts_len]; omega) (by rw [rts_len]; omega) (by omega), rts_i64 K (by omega), fun h => absurd h (by omega)⟩, H6.out⟩⟩
   ·skip
    by_cases hl0 : 0 < O.length
    ·obtain ⟨g3, cap3, rfl⟩ : ∃ g cap, v3 = .slice (some ⟨g, 0, none⟩) O.length cap := by
      rcases own_formF H6.out.oL with ⟨-, e0⟩ | ⟨g, cap, e, -, -⟩
      ·omega
      ·exact ⟨g, cap, e⟩
     have HKd : Hid (TKt a w vR (.slice (some ⟨g3, 0, none⟩) O.length cap3) vR (.slice (some ⟨g3, 0, none⟩) O.length cap3) (rts K) O w6.drew) := Lib.hid (H6.out.keep (grown_drew (grown_refl _ _)))
     have c1 := (row_cells H6.out.gb).2
     have c1d := (row_cells HKd.out.gb).2
     go_wp2_with fail
     go_region_held3 (fun w' => w'.cell? ⟨w.heap.size + 1, 1, none⟩ = some (.slice (some ⟨g3, 0, none⟩) O.length cap3))
      (first | with_reducible exact cS | with_reducible exact c81 | with_reducible exact c71 | with_reducible exact c1d)
      (first
      | (go_simp; go_at_call 33; refine (wild_any a _ H7.out.st.2).mono ?_; rintro e w8 ⟨x, rfl, hx, hs8⟩; have H8 := Lib.hid (H7.out.tape ha hs8); clear hx hs8; have c81 := (row_cells H8.out.gb).2; have cL := (H8.out.linkAt HM.out).2.2.2.2; have fL := H8.out.oL.frozenAt (i * 5 + 4); obtain ⟨L', hL', HS⟩ := H8.out.setL (x := x) (j := 4) ha hi (by omega); have HS := Lib.hid HS; have cS := (row_cells HS.out.gb).2)
      | (go_simp; go_at_call 29; refine (next_any a O.length (by unfold I64; omega) _ HKd.out.st.2).mono ?_; rintro e w7 ⟨y, rfl, hy, hs7⟩; obtain ⟨i, rfl⟩ := Int.eq_ofNat_of_zero_le hy.1; have hi : i < O.length := (by have := hy.2.1 (by omega); omega); have H7 := Lib.hid (HKd.out.tape ha hs7); clear hy hs7; have c71 := (row_cells H7.out.gb).2; have i0 : (0 : Int) ≤ (i : Int) := (by omega); have i1 : (i : Int) < (O.length : Int) := (by omega); obtain ⟨m, hm⟩ : ∃ m, O[i]? = some m := ⟨_, List.getElem?_eq_getElem hi⟩; have HM := Lib.hid hm; clear hm))
     all_goals
      go_wp2_with fail
      go_meet
      exact ⟨_, _, rts K, L', Lib.hid ⟨⟨TopOf.bad hn0 (by rw [rts_len]; omega) (by rw [rts_len]; omega) (by omega), rts_i64 K (by omega), fun h => absurd h (by omega)⟩, HS.out⟩⟩
    ·have hl0' : (O.length : Int) ≤ 0 := by omega
     clear hl0
     obtain ⟨p3, c3, rfl, -, -⟩ := own_shape H6.out.oL
     have c1 := (row_cells H6.out.gb).2
     go_wp2_with fail
     go_meet
     exact ⟨vR, _, rts K, O, Lib.hid ⟨⟨TopOf.bad hn0 (by rw [rts_len]; omega) (by rw [rts_len]; omega) (by omega), rts_i64 K (by omega), fun h => absurd h (by omega)⟩, H6.out⟩⟩
   ·skip
    by_cases hl0 : 0 < O.length
    ·obtain ⟨g3, cap3, rfl⟩ : ∃ g cap, v3 = .slice (some ⟨g, 0, none⟩) O.length cap := by
      rcases own_formF H6.out.oL with ⟨-, e0⟩ | ⟨g, cap, e, -, -⟩
      ·omega
      ·exact ⟨g, cap, e⟩
     have HKd : Hid (TKt a w vR (.slice (some ⟨g3, 0, none⟩) O.length cap3) vR (.slice (some ⟨g3, 0, none⟩) O.length cap3) (rts K) O w6.drew) := Lib.hid (H6.out.keep (grown_drew (grown_refl _ _)))
     have c1 := (row_cells H6.out.gb).2
     go_upto_region 40 with fail
     clear c1
     refine region_until (S := fun w' => Hid (TKt a w vR (.slice (some ⟨g3, 0, none⟩) O.length cap3) vR (.slice (some ⟨g3, 0, none⟩) O.length cap3) (rts K) O w')) (fun j => j == 12 || j == 13 || j == 14) (by kernel_rfl) (HKd) (fun hHeld => ?_)
     refine zU (i := 0) (v := ?_) rfl ?_ hHeld ?_
     rotate_left 1
     ·intro u hSu
      go_simp
      first | done | with_reducible rfl
     try simp only [Act.put, zA, zB, zC]
     refine zU (i := 1) (v := ?_) rfl ?_ hHeld ?_
     rotate_left 1
     ·intro u hSu
      obtain ⟨q0, q1⟩ := row_cells hSu.out.gb
      go_simp
      first | done | with_reducible rfl
     try simp only [Act.put, zA, zB, zC]
     refine zU (i := 2) (v := ?_) rfl ?_ hHeld ?_
     rotate_left 1
     ·intro u hSu
      go_simp
      first | done | with_reducible rfl
     try simp only [Act.put, zA, zB, zC]
     refine zU (i := 3) (v := ?_) rfl ?_ hHeld ?_
     rotate_left 1
     ·intro u hSu
      obtain ⟨q0, q1⟩ := row_cells hSu.out.gb
      go_simp
      first | done | with_reducible rfl
     try simp only [Act.put, zA, zB, zC]
     refine zU (i := 4) (v := ?_) rfl ?_ hHeld ?_
     rotate_left 1
     ·intro u hSu
      go_simp
      first | done | with_reducible rfl
     try simp only [Act.put, zA, zB, zC]
     refine zU (i := 5) (v := ?_) rfl ?_ hHeld ?_
     rotate_left 1
     ·intro u hSu
      go_simp
      first | done | with_reducible rfl
     try simp only [Act.put, zA, zB, zC]
     refine zU (i := 6) (v := ?_) rfl ?_ hHeld ?_
     rotate_left 1
     ·intro u hSu
      obtain ⟨q0, q1⟩ := row_cells hSu.out.gb
      go_simp
      first | done | with_reducible rfl
     try simp only [Act.put, zA, zB, zC]
     refine zU (i := 7) (v := ?_) rfl ?_ hHeld ?_
     rotate_left 1
     ·intro u hSu
      obtain ⟨q0, q1⟩ := row_cells hSu.out.gb
      go_simp
      first | done | with_reducible rfl
     try simp only [Act.put, zA, zB, zC]
     refine anyU_ready (rs := [8]) (by kernel_rfl) (by simp) ?_
     refine EachU.cons (o := ⟨_, _, _, _, _, _⟩) rfl (fun Kz hK => ?_) EachU.nil
     go_simp
     go_at_call 29
     refine (next_any a O.length (by unfold I64; omega) _ hHeld.out.st.2).mono ?_
     rintro e w5 ⟨y, rfl, hy, hs⟩
     obtain ⟨i, rfl⟩ := Int.eq_ofNat_of_zero_le hy.1
     have hi : i < O.length := by have := hy.2.1 (by omega); omega
     have H5n := Lib.hid (hHeld.out.tape ha hs)
     clear hy hs
     have i0 : (0 : Int) ≤ (i : Int) := by omega
     have i1 : (i : Int) < (O.length : Int) := by omega
     obtain ⟨m, hm⟩ : ∃ m, O[i]? = some m := ⟨_, List.getElem?_eq_getElem hi⟩
     have HM := Lib.hid hm
     clear hm
     refine hK.out _ _ (fun _ => H5n) (fun hH2 => ?_)
     clear hK Kz hHeld
     have hHeld := hH2 rfl
     clear hH2
     try simp only [Act.put, zA, zB, zC]
     refine zU (i := 9) (v := ?_) rfl ?_ hHeld ?_
     rotate_left 1
     ·intro u hSu
      go_simp
      first | done | with_reducible rfl
     try simp only [Act.put, zA, zB, zC]
     refine zU (i := 10) (v := ?_) rfl ?_ hHeld ?_
     rotate_left 1
     ·intro u hSu
      obtain ⟨q0, q1⟩ := row_cells hSu.out.gb
      obtain ⟨e0, e1, e2, e3, e4⟩ := hSu.out.linkAt HM.out
      go_simp
      first | done | with_reducible rfl
     try simp only [Act.put, zA, zB, zC]
     refine anyU_ready (rs := [11]) (by kernel_rfl) (by simp) ?_
     refine EachU.cons (o := ⟨_, _, _, _, _, _⟩) rfl (fun Kz hK => ?_) EachU.nil
     have H8 := hHeld
     go_simp
     refine hK.out _ _ (fun _ => Lib.hid (hHeld.out.keep (World.grownBy_alloc _ _ none))) (fun hH2 => ?_)
     clear hK Kz hHeld
     have hHeld := hH2 rfl
     clear hH2
     try simp only [Act.put, zA, zB, zC]
     refine anyU_ready (rs := [12]) (by kernel_rfl) (by simp) ?_
     refine EachU.cons (o := ⟨_, _, _, _, _, _⟩) rfl (fun Kz hK => ?_) EachU.nil
     refine step_append_lies _ (by rfl) _ _ 66 (by rfl) (w.heap.size + 2) 135 il (.agg #[.int .i64 0, .int .i64 0, .int .i64 0, .int .i64 0, .int .i64 0]) 5 40 Tryz.underlying66 hil hl0q hl1 hl2 rfl (by decide) (.slice (some ⟨g3, 0, none⟩) O.length cap3) O.length (O.flatMap lkC) (by rfl) (H8.out.oL.alloc _) ⟨w5.heap.size, 0, none⟩ 1 1 [.int .i64 m.a, .int .i64 m.b, .int .i64 m.ca, .int .i64 m.cb, .int .i64 m.cp] (by rfl) (by rfl) (cells5 w5 _ _ _ _ _ _) (by intro u hu; simp at hu; rcases hu with rfl | rfl | rfl | rfl | rfl <;> rfl) (by omega) (by unfold maxLen; omega) (by omega) (by have := H8.out.sz; simp; omega) _ rfl ?_
     intro g cap w9 hown hgrow hat hlt9
     have H9 := Lib.hid (hHeld.out.addL (y := m) ha hown hgrow hat)
     have cc := row_cells H9.out.gb
     have c90 := cc.1
     have c91 := cc.2
     have fB := frozen_of_row _ _ 1 _ _ H9.out.gb
     clear cc hown hgrow hat hlt9
     refine hK.out _ _ (fun h => by cases h) (fun _ => ?_)
     clear hK Kz
     try simp only [Act.put, zA, zB, zC]
     refine anyU_ready (rs := [13]) (by kernel_rfl) (by simp) ?_
     refine EachU.cons (o := ⟨_, _, _, _, _, _⟩) rfl (fun Kz hK => ?_) EachU.nil
     go_simp
     refine hK.out _ _ (fun h => by cases h) (fun _ => ?_)
     clear hK Kz
     try simp only [Act.put, zA, zB, zC]
     refine anyU_ready (rs := [14]) (by kernel_rfl) (by simp) ?_
     refine EachU.cons (o := ⟨_, _, _, _, _, _⟩) rfl (fun Kz hK => ?_) EachU.nil
     go_simp
     refine hK.out _ _ (fun h => by cases h) (fun _ => ?_)
     clear hK Kz
     try simp only [Act.put, zA, zB, zC]
     refine anyU_done (by kernel_rfl) ?_ _
     have H10 := Lib.hid (H9.out.put1 ha)
     clear H9 H8 HKd c90 c91 fB hHeld H6
     go_wp2_with fail
     go_meet
     exact ⟨_, _, _, _, Lib.hid ⟨⟨TopOf.bad hn0 (by rw [rts_len]; omega) (by rw [rts_len]; omega) (by rw [List.length_append]; simp; omega), rts_i64 K (by omega), fun h => absurd h (by omega)⟩, H10.out⟩⟩
    ·have hl2' : (O.length : Int) ≤ 0 := by omega
     clear hl0
     obtain ⟨p3, c3, rfl, -, -⟩ := own_shape H6.out.oL
     have c1 := (row_cells H6.out.gb).2
     go_wp2_with fail
     go_meet
     exact ⟨vR, _, rts K, O, Lib.hid ⟨⟨TopOf.bad hn0 (by rw [rts_len]; omega) (by rw [rts_len]; omega) (by omega), rts_i64 K (by omega), fun h => absurd h (by omega)⟩, H6.out⟩⟩
   ·skip
    go_wp2_with fail
    go_loopw [15] (fun i wr => ∃ k : Nat, k ≤ 25 ∧ i = .int .i64 ((k : Int) + 50) ∧ ∃ vR2 R2, (R2 : List Rt).length = K + k ∧ Hid (∀ r ∈ R2, I64 r.id) ∧ Hid (TKt a w vR2 v3 vR2 v3 R2 O wr)) (fun i _ => 75 - (RowKit.intOf i).toNat)
    case atStart => exact ⟨0, by omega, rfl, vR, rts K, by rw [rts_len]; omega, Lib.hid (rts_i64 K (by omega)), H6⟩
    case round =>
     obtain ⟨k, hk, rfl, vR2, R2, hR2, HRI, HK⟩ := hrel
     have HR2 := Lib.hid hR2
     have hR2b : R2.length ≤ 40 := by omega
     clear H6 hR2
     by_cases hk25 : k < 25
     ·obtain ⟨c0, c1⟩ := row_cells HK.out.gb
      go_wp2_with (at_builtin; refine hold_on ?_)
      refine Lib.hid ?_
      refine wpList_append_lies _ rfl _ _ 65 rfl (w.heap.size + 2) 105 ir (.agg #[.int .i64 0, .bool false]) 2 16 Tryz.underlying65 hir hr0 hr1 hr2 rfl (by decide) vR2 R2.length (R2.flatMap rtC) rfl (HK.out.oR.alloc _) ⟨wr.heap.size, 0, none⟩ 1 1 [.int .i64 ((k : Int) + 50), .bool false] rfl rfl (cells2 wr _ _ _) ?_ (by decide) ?_ ?_ ?_ _ rfl ?_
      ·intro u hu; simp at hu; rcases hu with rfl | rfl <;> rfl
      ·unfold maxLen; omega
      ·omega
      ·have := HK.out.sz; simp; omega
      intro g cap w7 hown3 hg3 hat hlt3
      have T1 := Lib.hid ((HK.out.keep (World.grownBy_alloc wr _ none)).addR (y := ⟨(k : Int) + 50, false⟩) ha hown3 hg3 hat)
      obtain ⟨f0, f1⟩ := row_cells T1.out.gb
      have ff := frozen_of_row _ _ 0 _ _ T1.out.gb
      have T2 := Lib.hid (T1.out.put0 ha)
      clear hown3 hg3 hat hlt3 T1 HK c0 c1
      go_wp2_with fail
      exact ⟨⟨k + 1, by omega, congrArg _ (by omega), _, _, by rw [List.length_append, HR2.out]; simp; omega, Lib.hid (fun r hr => by { rcases List.mem_append.1 hr with h | h; { exact HRI.out r h }; { rw [List.mem_singleton.1 h]; unfold I64; simp only; omega } }), T2⟩, by simp only [RowKit.intOf]; omega⟩
     ·obtain rfl : k = 25 := by omega
      go_wp2_with fail
      go_meet
      exact ⟨vR2, v3, R2, O, Lib.hid ⟨⟨TopOf.many hn0 (by rw [HR2.out]; omega) (by rw [HR2.out]; omega) (by omega), HRI.out, fun h => absurd h (by omega)⟩, HK.out⟩⟩
 case rest =>
 obtain ⟨vR2, vL2, R2, L2, H7⟩ := hcut
 clear H5
 obtain ⟨pR, cR, rfl, -, -⟩ := own_shape H7.out.2.oR
 obtain ⟨pL, cL, rfl, -, -⟩ := own_shape H7.out.2.oL
 obtain ⟨c0, c1⟩ := row_cells H7.out.2.gb
 obtain ⟨d0, d1⟩ := row_cells H7.out.2.rb
 have f0 := frozen_of_row _ _ 0 _ _ H7.out.2.rb
 have f1 := frozen_of_row _ _ 1 _ _ H7.out.2.rb
 have hrow := store2 (u := .slice pR R2.length cR) (z := .slice pL L2.length cL) H7.out.2.rb
 have hst := grown_store2 wc w.heap.size (.slice pR R2.length cR) (.slice pL L2.length cL)
 have HR := Lib.hid (And.intro hrow (And.intro (own_other H7.out.2.oR hst (by omega)) (And.intro (own_other H7.out.2.oL hst (by omega)) (H7.out.2.st.storeT hst (Nat.le_refl _) ha))))
 clear hrow hst
 go_wp2_with fail
 refine bodyPost_ret (res_topo rfl _ _ w.heap.size _ _ rfl HR.out.1) rfl ?_
 exact ⟨R2, L2, _, _, rfl, HR.out.2.1.mono (by omega), HR.out.2.2.1.mono (by omega), H7.out.2.ap, H7.out.1, HR.out.2.2.2⟩
theorem topo_any (a most : Nat) (n : Int) (hm1 : 1 ≤ most) (hm8 : most ≤ 8) (hn : I64 n) (w : World) (hT : Tp w a) :
  Calls Tryz.prog 57 #[.pointer (some ⟨a, 0, none⟩), .int .i64 (most : Int), .int .i64 n] w fun e w' => TopoPost a most n w e w' :=
 (topoJ_any a most n hm1 hm8 hn w hT).mono fun _ _ ⟨R, L, vR, vL, h1, h2, h3, h4, h5, h6⟩ => ⟨R, L, vR, vL, h1, h2, h3, h4, h5.1, h6⟩
end Go.Proofs.YtpogblengagpaaaGreatDoor

/- empty -/
namespace Go.Proofs.YtpogblengagpaaaGreatDoor
set_option maxRecDepth 100000
end Go.Proofs.YtpogblengagpaaaGreatDoor

/- The tape's Router and Mixed. -/
namespace Go.Proofs.YtpogblengagpaaaGreatDoor
set_option maxRecDepth 100000
open Go.RowKit Bs
structure RM (a : Nat) (w : World) (T : Tg) (q : Nat → Prop) (wr : World) : Prop where
 tb : wr.heap[w.heap.size]? = some (.cells #[.slice T.pR T.R.length T.cR, .slice T.pL T.L.length T.cL] 68 (0, 0))
 t : TgOk wr q T
 st : St a w wr
theorem RM.keep {a : Nat} {w wr w1 : World} {T : Tg} {q : Nat → Prop} (h : RM a w T q wr) (g : wr.grownBy w1 none) : RM a w T q w1 :=
 ⟨kept_row h.tb g (by simp), h.t.keep g, h.st.trans ⟨grown_none g _, h.st.2.keep g⟩⟩
theorem RM.tape {a : Nat} {w wr w1 : World} {T : Tg} {q : Nat → Prop} (h : RM a w T q wr) (ha : a < w.heap.size) (hq : ∀ b, q b → b ≠ a) (k : St a wr w1) : RM a w T q w1 :=
 ⟨kept_row h.tb k.1 (fun e => by have := Option.some.inj e; omega), h.t.grown k.1 (fun b hb e => hq b hb (Option.some.inj e)), h.st.trans k⟩
theorem RM.rt {a : Nat} {w wr : World} {R : List Rt} {L : List Lk} {pL : Option Addr} {cR cL b off i : Nat} {q : Nat → Prop} {m : Rt} (h : RM a w ⟨R, L, some ⟨b, off, none⟩, cR, pL, cL⟩ q wr) (hm : R[i]? = some m) :
  wr.cell? ⟨b, off + i * 2, none⟩ = some (.int .i64 m.id) ∧ wr.cell? ⟨b, off + i * 2 + 1, none⟩ = some (.bool m.cap) := by
 have h1 := (List.getElem?_eq_some_iff.1 hm).1
 obtain ⟨-, b', off', e, -, hc⟩ := rdr_cells (R := R) h.t.r (by omega)
 injection e with e
 injection e with e4 e5
 subst e4
 subst e5
 exact hc i m hm
structure MK (a : Nat) (w : World) (B : Nat) (vR vL : Value) (R : List Rt) (L : List Lk) (wr : World) : Prop where
 gb : wr.heap[B]? = some (.cells #[vR, vL] 68 (0, 0))
 rb : wr.heap[w.heap.size]? = some (.cells #[.slice none 0 0, .slice none 0 0] 68 (0, 0))
 oR : wr.ownsRow (w.heap.size + 1) 105 2 vR R.length (R.flatMap rtC)
 oL : wr.ownsRow (w.heap.size + 1) 135 5 vL L.length (L.flatMap lkC)
 ap : ∀ g, vR.ownBlock = some g → vL.ownBlock ≠ some g
 nR : vR.ownBlock ≠ some B
 st : St a w wr
 bb : w.heap.size + 1 ≤ B
theorem MK.keep {a B : Nat} {w wr w1 : World} {vR vL : Value} {R : List Rt} {L : List Lk} (h : MK a w B vR vL R L wr) (g : wr.grownBy w1 none) : MK a w B vR vL R L w1 :=
 ⟨kept_row h.gb g (by simp), kept_row h.rb g (by simp), h.oR.kept g (by cases hv : vR.ownBlock <;> simp), h.oL.kept g (by cases hv : vL.ownBlock <;> simp), h.ap, h.nR, h.st.trans ⟨grown_none g _, h.st.2.keep g⟩, h.bb⟩
theorem MK.tape {a B : Nat} {w wr w1 : World} {vR vL : Value} {R : List Rt} {L : List Lk} (h : MK a w B vR vL R L wr) (ha : a < w.heap.size) (k : St a wr w1) : MK a w B vR vL R L w1 :=
 ⟨kept_row h.gb k.1 (fun e => by have := Option.some.inj e; have := h.bb; omega), kept_row h.rb k.1 (fun e => by have := Option.some.inj e; omega), own_other h.oR k.1 (by omega), own_other h.oL k.1 (by omega), h.ap, h.nR, h.st.trans k, h.bb⟩
theorem flat_setR : ∀ (R : List Rt) (k : Nat) (z : Bool), k < R.length → ∃ R' : List Rt, R'.length = R.length ∧ R'.map (·.id) = R.map (·.id) ∧ R'.flatMap rtC = (R.flatMap rtC).set (k * 2 + 1) (.bool z)
 | [], k, _, hk => absurd hk (Nat.not_lt_zero k)
 | m :: t, 0, z, _ => ⟨⟨m.id, z⟩ :: t, rfl, rfl, rfl⟩
 | m :: t, k + 1, z, hk => by
  obtain ⟨R', h1, h2, h3⟩ := flat_setR t k z (by simpa using hk)
  refine ⟨m :: R', by simp [h1], by rw [List.map_cons, h2, List.map_cons], ?_⟩
  rw [List.flatMap_cons, h3, List.flatMap_cons]
  have e : (k + 1) * 2 + 1 = (rtC m).length + (k * 2 + 1) := by
   show (k + 1) * 2 + 1 = 2 + (k * 2 + 1)
   omega
  rw [e, List.set_append_right _ _ (Nat.le_add_right _ _), Nat.add_sub_cancel_left]
theorem MK.setR {a B g n cap k : Nat} {w wr : World} {vL : Value} {R : List Rt} {L : List Lk} {z : Bool} (h : MK a w B (.slice (some ⟨g, 0, none⟩) n cap) vL R L wr) (ha : a < w.heap.size) (hk : k < R.length) :
  ∃ R' : List Rt, R'.length = R.length ∧ R'.map (·.id) = R.map (·.id) ∧ MK a w B (.slice (some ⟨g, 0, none⟩) n cap) vL R' L (wr.setCell ⟨g, k * 2 + 1, none⟩ (.bool z)) := by
 obtain ⟨R', hl, hm, hf⟩ := flat_setR R k z hk
 have hg0 := (h.oR.lt g rfl).1
 have hn : n = R.length := by
  obtain ⟨p, c, e, _⟩ := own_shape h.oR
  injection e
 subst hn
 obtain ⟨s1, s2⟩ := h.oR.stored (k * 2 + 1) (.bool z)
 refine ⟨R', hl, hm, kept_row h.gb s2 (fun e => h.nR (by rw [e]; rfl)), kept_row h.rb s2 (fun e => by have : w.heap.size = g := Option.some.inj e; omega), ?_, h.oL.kept s2 ?_, h.ap, h.nR, h.st.storeT s2 (by omega) ha, h.bb⟩
 ·rw [hl, hf]; exact s1
 ·cases hv : vL.ownBlock with
  | none => exact .inl rfl
  | some k => exact .inr (fun e => h.ap g rfl (by rw [hv, e]))
theorem MK.rtAt {a B g n cap k : Nat} {w wr : World} {vL : Value} {R : List Rt} {L : List Lk} {m : Rt} (h : MK a w B (.slice (some ⟨g, 0, none⟩) n cap) vL R L wr) (hm : R[k]? = some m) : wr.cell? ⟨g, k * 2 + 1, none⟩ = some (.bool m.cap) := by
 have h1 := (List.getElem?_eq_some_iff.1 hm).1
 have hn : n = R.length := by
  obtain ⟨p, c, e, _⟩ := own_shape h.oR
  injection e
 subst hn
 rw [h.oR.cellAt (k * 2 + 1) (by omega)]
 exact (flat_at rtC 2 (fun _ => rfl) R k 1 m hm (by decide)).trans rfl
theorem MK.frz {a B g n cap : Nat} {w wr : World} {vL : Value} {R : List Rt} {L : List Lk} (h : MK a w B (.slice (some ⟨g, 0, none⟩) n cap) vL R L wr) (j : Nat) : wr.frozen? ⟨g, j, none⟩ = false := by
 have hn : n = R.length := by
  obtain ⟨p, c, e, _⟩ := own_shape h.oR
  injection e
 subst hn
 exact h.oR.frozenAt j
set_option maxHeartbeats 3200000 in
theorem mixed_any (a most : Nat) (hm1 : 1 ≤ most) (hm8 : most ≤ 8) (w : World) (hT : Tp w a) :
  Calls Tryz.prog 24 #[.pointer (some ⟨a, 0, none⟩), .int .i64 (most : Int)] w fun e w' =>
   ∃ (R0 R : List Rt) (L : List Lk) (vR vL : Value), e = .returned (.agg #[vR, vL]) ∧ w'.ownsRow w.heap.size 105 2 vR R.length (R.flatMap rtC) ∧ w'.ownsRow w.heap.size 135 5 vL L.length (L.flatMap lkC) ∧ TopOf most 0 R0 L ∧ R.map (·.id) = R0.map (·.id) ∧ St a w w' := by
 have ha := hT.lt
 obtain ⟨k1, k2⟩ := tone_box w #[.slice none 0 0, .slice none 0 0] 68
 have HB := Lib.hid (And.intro k1 (And.intro k2 (hT.keep k2)))
 have hsz : w.heap.size + 1 = (w.alloc (.cells #[.slice none 0 0, .slice none 0 0] 68)).heap.size := by simp
 clear k1 k2 hT
 go_enter Tryz.func24, Tryz.ntmps24
 go_upto_region 1 with fail
 generalize w.alloc _ = wa at *
 go_wp2_with fail
 refine (topo_any a most 0 hm1 hm8 (by unfold I64; omega) wa HB.out.2.2).mono ?_
 rintro e w1 ⟨R0, L, vR, vL, rfl, hR, hL, hap, hO, hs⟩
 have gal := World.grownBy_alloc w1 (.cells #[vR, vL] 68) none
 have hw1 : wa.heap.size ≤ w1.heap.size := hs.1.size
 have HK0 : Hid (MK a w w1.heap.size vR vL R0 L (w1.alloc (.cells #[vR, vL] 68))) := Lib.hid ⟨heap_alloc_new w1 _, kept_row (kept_row HB.out.1 hs.1 (fun e => by have := Option.some.inj e; omega)) gal (by simp), (hR.mono (by omega)).alloc _, (hL.mono (by omega)).alloc _, hap, fun e => by have := (hR.lt _ e).2; omega, (show St a w w1 from ⟨grown_trans (grown_none HB.out.2.1 _) hs.1, hs.2⟩).trans ⟨grown_none gal _, hs.2.keep gal⟩, by omega⟩
 have HO := Lib.hid hO
 have hRl : R0.length ≤ 100 := by have := hO.2.2.1; omega
 obtain ⟨pR, cR, rfl, -, -⟩ := own_shape hR
 obtain ⟨pL, cL, rfl, -, -⟩ := own_shape hL
 clear hR hL hap hs gal hO HB
 obtain ⟨NR, hNR⟩ : ∃ NR, R0.length = NR := ⟨_, rfl⟩
 have HNR := Lib.hid hNR
 rw [hNR] at HK0 hRl
 rw [hNR]
 clear hNR
 go_upto_region 2 with fail
 generalize w1.alloc _ = w2 at *
 generalize w1.heap.size = B at *
 go_wp2_with fail
 go_loopw [6] (fun i wr => ∃ k : Nat, k ≤ NR ∧ i = .int .i64 (k : Int) ∧ ∃ R : List Rt, R.map (·.id) = R0.map (·.id) ∧ Hid (MK a w B (.slice pR NR cR) (.slice pL L.length cL) R L wr)) (fun i _ => NR - (RowKit.intOf i).toNat)
 case atStart => exact ⟨0, Nat.zero_le _, rfl, R0, rfl, HK0⟩
 case round =>
 obtain ⟨k, hk, rfl, R, hids, HK⟩ := hrel
 clear HK0
 have hRN : Hid (R.length = NR) := Lib.hid (by have := congrArg List.length hids; rw [List.length_map, List.length_map] at this; rw [this]; exact HNR.out)
 have HI := Lib.hid hids
 clear hids
 obtain ⟨c0, c1⟩ := row_cells HK.out.gb
 by_cases hlt : k < NR
 ·have hkR : k < R.length := by rw [hRN.out]; exact hlt
  obtain ⟨g, rfl⟩ : ∃ g, pR = some ⟨g, 0, none⟩ := by
   rcases own_formF HK.out.oR with ⟨-, e0⟩ | ⟨g, cap, e, -⟩
   ·omega
   ·injection e with e1; exact ⟨g, e1⟩
  obtain ⟨m, hm⟩ : ∃ m, R[k]? = some m := ⟨_, List.getElem?_eq_getElem hkR⟩
  have HM := Lib.hid hm
  have i0 : (0 : Int) ≤ (k : Int) := by omega
  have i1 : (k : Int) < (NR : Int) := by omega
  clear hm
  go_upto_region 5 with fail
  clear c0 c1
  refine region_until (S := fun w' => Hid (MK a w B (.slice (some ⟨g, 0, none⟩) NR cR) (.slice pL L.length cL) R L w')) (fun j => j == 8) (by kernel_rfl) (Lib.hid (HK.out.keep (grown_drew (grown_refl _ _)))) (fun hHeld => ?_)
  refine zU (i := 0) (v := ?_) rfl ?_ hHeld ?_
  rotate_left 1
  ·intro u hSu
   go_simp
   first | done | with_reducible rfl
  try simp only [Act.put, zA, zB, zC]
  refine zU (i := 1) (v := ?_) rfl ?_ hHeld ?_
  rotate_left 1
  ·intro u hSu
   obtain ⟨q0, q1⟩ := row_cells hSu.out.gb
   go_simp
   first | done | with_reducible rfl
  try simp only [Act.put, zA, zB, zC]
  refine zU (i := 2) (v := ?_) rfl ?_ hHeld ?_
  rotate_left 1
  ·intro u hSu
   go_simp
   first | done | with_reducible rfl
  try simp only [Act.put, zA, zB, zC]
  refine zU (i := 3) (v := ?_) rfl ?_ hHeld ?_
  rotate_left 1
  ·intro u hSu
   go_simp
   first | done | with_reducible rfl
  try simp only [Act.put, zA, zB, zC]
  refine anyU_ready (rs := [4]) (by kernel_rfl) (by simp) ?_
  refine EachU.cons (o := ⟨_, _, _, _, _, _⟩) rfl (fun Kz hK => ?_) EachU.nil
  go_simp
  go_at_call 8
  refine (one_any a 3 (by unfold I64; omega) _ hHeld.out.st.2).mono ?_
  rintro e w5 ⟨z, rfl, hs⟩
  have H5n := Lib.hid (hHeld.out.tape ha hs)
  clear hs
  refine hK.out _ _ (fun _ => H5n) (fun hH2 => ?_)
  clear hK Kz hHeld
  have hHeld := hH2 rfl
  clear hH2
  try simp only [Act.put, zA, zB, zC]
  refine zU (i := 5) (v := ?_) rfl ?_ hHeld ?_
  rotate_left 1
  ·intro u hSu
   go_simp
   first | done | with_reducible rfl
  try simp only [Act.put, zA, zB, zC]
  refine zU (i := 6) (v := ?_) rfl ?_ hHeld ?_
  rotate_left 1
  ·intro u hSu
   go_simp
   first | done | with_reducible rfl
  try simp only [Act.put, zA, zB, zC]
  refine zU (i := 7) (v := ?_) rfl ?_ hHeld ?_
  rotate_left 1
  ·intro u hSu
   go_simp
   first | done | with_reducible rfl
  try simp only [Act.put, zA, zB, zC]
  refine anyU_ready (rs := [8]) (by kernel_rfl) (by simp) ?_
  refine EachU.cons (o := ⟨_, _, _, _, _, _⟩) rfl (fun Kz hK => ?_) EachU.nil
  have cS := hHeld.out.rtAt HM.out
  have fS := hHeld.out.frz (k * 2 + 1)
  go_simp
  refine hK.out _ _ (fun h => by cases h) (fun _ => ?_)
  clear hK Kz
  try simp only [Act.put, zA, zB, zC]
  refine anyU_done (by kernel_rfl) ?_ _
  obtain ⟨R', hl', hm', HS⟩ := hHeld.out.setR (z := !z) ha hkR
  have HS := Lib.hid HS
  have hid' : R'.map (·.id) = R0.map (·.id) := hm'.trans HI.out
  clear hHeld hl' hm' cS fS
  go_wp2_with fail
  exact ⟨⟨k + 1, by omega, congrArg _ (by omega), R', hid', HS⟩, by simp only [RowKit.intOf]; omega⟩
 ·obtain rfl : k = NR := by omega
  obtain ⟨d0, d1⟩ := row_cells HK.out.rb
  have f0 := frozen_of_row _ _ 0 _ _ HK.out.rb
  have f1 := frozen_of_row _ _ 1 _ _ HK.out.rb
  have hrow := store2 (u := .slice pR k cR) (z := .slice pL L.length cL) HK.out.rb
  have hst := grown_store2 wr w.heap.size (.slice pR k cR) (.slice pL L.length cL)
  have HR := Lib.hid (And.intro hrow (And.intro (own_other HK.out.oR hst (by omega)) (And.intro (own_other HK.out.oL hst (by omega)) (HK.out.st.storeT hst (Nat.le_refl _) ha))))
  clear hrow hst HK
  go_wp2_with fail
  refine bodyPost_ret (res_topo rfl _ _ w.heap.size _ _ rfl HR.out.1) rfl ?_
  exact ⟨R0, R, L, _, _, rfl, HR.out.2.1.mono (by omega), HR.out.2.2.1.mono (by omega), HO.out, HI.out, HR.out.2.2.2⟩
end Go.Proofs.YtpogblengagpaaaGreatDoor

/- empty -/
namespace Go.Proofs.YtpogblengagpaaaGreatDoor
set_option maxRecDepth 100000
end Go.Proofs.YtpogblengagpaaaGreatDoor

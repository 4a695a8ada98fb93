/- packet: the header of a packet is written. -/
import Derived.Test.YtnfgkakhdgiepaaDoorPkHead
import Derived.Deep.CutRange
namespace Go.Proofs.YtnfgkakhdgiepaaDoor
open Go.RowKit Bs
set_option maxRecDepth 100000 in
set_option maxHeartbeats 600000 in
theorem writeHeader_any (P : Pk) (hv : vpk P = true) (w : World) (hT : Tb w) :
    Calls Tryd.prog 68 #[P.val] w fun e w' => BP (flb (fl P)) w e w' := by
  unfold Pk.val
  go_enter Tryd.func68, Tryd.ntmps68
  go_wp2_with fail
  obtain ⟨k1, k2, k3, k4⟩ := two_boxes w (pcells P) #[.slice none 0 0, .int .i64 0] 25 91
  have RP := Lib.hid k1
  have RS := Lib.hid k2
  have G := Lib.hid k3
  have SZ := Lib.hid k4
  have HTB := Lib.hid (hT.keep k3)
  clear k1 k2 k3 k4
  unfold pcells at RP RS G SZ HTB
  generalize ((w.alloc (.cells #[.int .i64 P.mode, .int .i64 P.sub, .int .i64 P.set, .int .i64 P.len, .int .i64 P.ttl, .int .i64 P.ent, .int .i64 P.ing, .int .i64 P.pro, .int .u64 (P.bits : Int), .string P.pay] 25)).alloc (.cells #[.slice none 0 0, .int .i64 0] 91)) = w2 at *
  change Hid (w2.heap[w.heap.size]? = some (.cells (pcells P) 25 (0, 0))) at RP
  obtain ⟨a0, a1, a2, a3, a4, a5, a6, a7, a8, a9⟩ := p_facts RP.out
  have RPZ := Lib.hid (kept_row RP.out (World.grownBy_alloc w2 (.cells zcells 101) none) (by simp))
  have RHZ := Lib.hid (heap_alloc_new w2 (.cells zcells 101))
  have RPd : Hid (w2.drew.heap[w.heap.size]? = some (.cells (pcells P) 25 (0, 0))) := Lib.hid RP.out
  have RPZd : Hid ((w2.alloc (.cells zcells 101)).drew.heap[w.heap.size]? = some (.cells (pcells P) 25 (0, 0))) := Lib.hid RPZ.out
  have SZ2 : Hid (w.heap.size ≠ w2.heap.size) := Lib.hid (by rw [SZ.out]; omega)
  have RPH : Hid ((w2.alloc (.cells (hcells P) 101)).drew.heap[w.heap.size]? = some (.cells (pcells P) 25 (0, 0))) := Lib.hid (kept_row RP.out (grown_drew (World.grownBy_alloc w2 (.cells (hcells P) 101) none)) (by simp))
  have RH : Hid ((w2.alloc (.cells (hcells P) 101)).drew.heap[w2.heap.size]? = some (.cells (hcells P) 101 (0, 0))) := Lib.hid (heap_alloc_new w2 (.cells (hcells P) 101))
  have GH : Hid (w.grownBy (w2.alloc (.cells (hcells P) 101)).drew none) := Lib.hid (grown_trans G.out (grown_drew (World.grownBy_alloc w2 (.cells (hcells P) 101) none)))
  have RS3 : Hid ((w2.alloc (.cells (hcells P) 101)).drew.heap[w.heap.size + 1]? = some (.cells #[.slice none 0 0, .int .i64 0] 91 (0, 0))) := Lib.hid (kept_row RS.out (grown_drew (World.grownBy_alloc w2 (.cells (hcells P) 101) none)) (by simp))
  obtain ⟨w3, hw3⟩ : ∃ w3, w3 = (w2.alloc (.cells (hcells P) 101)).drew := ⟨_, rfl⟩
  rw [← hw3] at RH GH RS3
  unfold hcells at RPH hw3
  unfold zcells at RPZ RPZd
  obtain ⟨f0, f1, f2, f3, f4, f5, f6, f7, f8, f9, f10, f11, f12⟩ := h_facts RHZ.out
  unfold zcells at f0 f1 f2 f3 f4 f5 f6 f7 f8 f9 f10 f11 f12
  have hvl := vb_vl (vpk_parts hv).2.2.2.2.2.2.2.2
  have HL : Hid (IntKind.u64.wrap (IntKind.i64.wrap (P.len.tdiv 8)) = ((P.len.toNat / 8 : Nat) : Int)) := Lib.hid (by rcases vl_cases hvl with h | h | h | h <;> rw [h] <;> decide)
  have HF := Lib.hid (fst_code hvl)
  have HU : Hid (U64 (P.len.toNat / 8)) := Lib.hid (by rcases vl_cases hvl with h | h | h | h <;> rw [h] <;> (unfold U64; decide))
  clear hvl
  go_cut [3] from 7 to 16 (fun hh wx => hh = .pointer (some ⟨w2.heap.size, 0, none⟩) ∧ wx = w3)
  case first =>
    go_region_held3 (fun w' => w'.cell? ⟨w.heap.size, 0, none⟩ = some (.int .i64 P.mode) ∧ w'.cell? ⟨w.heap.size, 1, none⟩ = some (.int .i64 P.sub) ∧ w'.cell? ⟨w.heap.size, 2, none⟩ = some (.int .i64 P.set) ∧ w'.cell? ⟨w.heap.size, 3, none⟩ = some (.int .i64 P.len) ∧ w'.cell? ⟨w.heap.size, 4, none⟩ = some (.int .i64 P.ttl) ∧ w'.cell? ⟨w.heap.size, 5, none⟩ = some (.int .i64 P.ent) ∧ w'.cell? ⟨w.heap.size, 6, none⟩ = some (.int .i64 P.ing) ∧ w'.cell? ⟨w.heap.size, 7, none⟩ = some (.int .i64 P.pro) ∧ w'.cell? ⟨w.heap.size, 8, none⟩ = some (.int .u64 (P.bits : Int)) ∧ w'.cell? ⟨w.heap.size, 9, none⟩ = some (.string P.pay))
      (first | (with_reducible exact p_facts RP.out) | (with_reducible exact p_facts RPd.out) | (with_reducible exact p_facts RPZ.out) | (with_reducible exact p_facts RPZd.out) | (with_reducible exact p_facts RPH.out))
      ((go_at_call 108; go_split_ands; simp only [HL.out]; refine (firstp_any _ HU.out _ (HTB.out.keep ?_)).mono ?_; (focus (repeat (first | (with_reducible exact grown_refl _ _) | apply grown_drew | (with_reducible exact World.grownBy_alloc _ _ _)))); rintro e w' ⟨rfl, rfl⟩; rw [HF.out]))
    all_goals
      rw [← hw3]
      go_wp2_with fail
      go_meet
      exact ⟨rfl, rfl⟩
  case rest =>
    obtain ⟨rfl, rfl⟩ := hcut
    clear a0 a1 a2 a3 a4 a5 a6 a7 a8 a9 f0 f1 f2 f3 f4 f5 f6 f7 f8 f9 f10 f11 f12 RPH RPZ RPZd RPd RP RS HL HF HU hw3 HTB RHZ
    go_wp2_with fail
    refine (fields_any w2.heap.size _).mono ?_
    rintro e w5 ⟨g, rfl, hfb, hge, hg5⟩
    obtain ⟨q1, q2⟩ := one_box wc #[.slice none 0 0, .int .i64 0] 91
    have hSw : w2.heap.size < wc.heap.size := World.lt_of_row' RH.out
    have hge2 : wc.heap.size < g := by have : (wc.alloc (.cells #[.slice none 0 0, .int .i64 0] 91)).heap.size = wc.heap.size + 1 := by simp
                                       omega
    have hW : Hid (WH w P w2.heap.size g wc.heap.size (flb ((fl P).take 0)) w5) := by
      rw [show flb ((fl P).take 0) = [] from rfl]
      refine Lib.hid ⟨hfb, kept_row RH.out (grown_trans q2 hg5) (by simp), ⟨none, 0, ?_, ?_, fun _ => rfl⟩, kept_row RS3.out (grown_trans q2 hg5) (by simp), grown_trans GH.out (grown_trans q2 hg5)⟩
      · rw [show pk [] = [] from rfl]; exact kept_row q1 hg5 (by simp)
      · rw [show pk [] = [] from rfl]; exact Rd.nil_ _ _ _ _
    have HN : Hid (wc.heap.size ≠ w2.heap.size ∧ wc.heap.size ≠ g ∧ w.heap.size + 2 ≤ wc.heap.size) := Lib.hid ⟨by omega, by omega, by rw [SZ.out] at hSw; omega⟩
    clear RS3 GH RH q1 q2 hfb hge hg5 hSw hge2 SZ SZ2 G
    go_wp2_with fail
    go_loopw [19] (fun i wr => ∃ k : Nat, k ≤ 10 ∧ i = .int .i64 (k : Int) ∧ Hid (WH w P w2.heap.size g wc.heap.size (flb ((fl P).take k)) wr)) (fun i _ => (10 - (intOf i).toNat))
    case atStart => exact ⟨0, Nat.zero_le _, rfl, hW⟩
    case round =>
      obtain ⟨k, hk, rfl, hR⟩ := hrel
      clear hW
      by_cases hk2 : k < 10
      · obtain ⟨o, wd, x, hc0, hc1, hc2, hx, hwd, hfl⟩ := field_at hv w2.heap.size k hk2
        have d0 := (cell_of_row _ _ _ _ _ _ hR.out.fb).trans hc0
        have d1 := (cell_of_row _ _ _ _ _ _ hR.out.fb).trans hc1
        have d2 := (cell_of_row _ _ _ _ _ _ hR.out.hb).trans hc2
        have hle := flb_take_le P k
        have hsn := flb_snoc hfl
        generalize flb ((fl P).take k) = B at *
        obtain ⟨B2, hB2⟩ : ∃ B2, B2 = flb ((fl P).take (k + 1)) := ⟨_, rfl⟩
        rw [← hB2] at hsn
        have HB2 := Lib.hid hB2
        clear hB2
        have HSN := Lib.hid hsn
        have HR := hR
        clear hfl hc0 hc1 hc2 hsn hR
        go_wp2_with fail
        have HRf := Lib.hid (HR.out.keep (World.grownBy_alloc wr (.cells #[.pointer (some ⟨w2.heap.size, o, none⟩), .int .i64 (wd : Int)] 124) none))
        have RF := Lib.hid (heap_alloc_new wr (.cells #[.pointer (some ⟨w2.heap.size, o, none⟩), .int .i64 (wd : Int)] 124))
        have d2 := (World.grownBy_alloc wr (.cells #[.pointer (some ⟨w2.heap.size, o, none⟩), .int .i64 (wd : Int)] 124) none).cell d2 (by simp)
        clear d0 d1 HR
        generalize wr.alloc (.cells #[.pointer (some ⟨w2.heap.size, o, none⟩), .int .i64 (wd : Int)] 124) = wf at *
        obtain ⟨p, c, hs, hRd, hpc⟩ := HRf.out.st
        obtain ⟨s0, s1⟩ := row_cells hs
        have x0 : wf.cell? ⟨wr.heap.size, 0, none⟩ = some (.pointer (some ⟨w2.heap.size, o, none⟩)) := cell_of_row _ _ _ _ _ _ RF.out
        have x1 : wf.cell? ⟨wr.heap.size, 1, none⟩ = some (.int .i64 (wd : Int)) := cell_of_row _ _ _ _ _ _ RF.out
        have HX : Hid (IntKind.u64.wrap (x : Int) = (x : Int)) := Lib.hid (by have : x < 2 ^ 10 := Nat.lt_of_lt_of_le hx (Nat.pow_le_pow_right (by decide) hwd); rw [IntKind.wrap_u64]; omega)
        have HA := Lib.hid fun (w' : World) (hg : wf.grownBy w' none) => append_bits (B := B) (v := x) (k := wd) (Nat.le_trans hwd (by decide)) hx (by omega) (hRd.keep hg)
        rw [← HSN.out] at HA
        clear hs hRd hpc RF
        go_region_law (first
          | (go_simp; go_at_call 69; (try simp only [HX.out]); refine (HA.out _ (grown_drew (grown_refl _ _))).mono ?_; rintro e w7 ⟨p2, c2, rfl, hR2, hp2, hg7⟩; have H7 := Lib.hid ((HRf.out.keep (grown_drew (grown_refl _ none))).keep hg7); have R7 := Lib.hid (And.intro hR2 hp2); obtain ⟨p7, c7, hs7, _, _⟩ := H7.out.st; obtain ⟨t0, t1⟩ := row_cells hs7; have z0 := frozen_of_row _ _ 0 _ _ hs7; have z1 := frozen_of_row _ _ 1 _ _ hs7; clear hR2 hp2 hg7 hs7))
        all_goals
          have HK : Hid (WH w P w2.heap.size g wc.heap.size B2 ((w7.setCell ⟨wc.heap.size, 0, none⟩ (.slice p2 (pk B2).length c2)).setCell ⟨wc.heap.size, 1, none⟩ (.int .i64 (B2.length : Int)))) := Lib.hid (H7.out.turn HN.out (R7.out.1.weaken fun b hb _ => Nat.lt_of_lt_of_le (World.lt_of_row' HRf.out.st.choose_spec.choose_spec.1) hb) R7.out.2)
          clear t0 t1 z0 z1 s0 s1 x0 x1 HA d2 H7 R7
          generalize (w7.setCell ⟨wc.heap.size, 0, none⟩ (.slice p2 (pk B2).length c2)).setCell ⟨wc.heap.size, 1, none⟩ (.int .i64 (B2.length : Int)) = w8 at *
          go_wp2_with fail
          go_roundw
          case rel => exact ⟨k + 1, by omega, by go_num, by rw [← HB2.out]; exact HK⟩
          case measure => simp [intOf]; omega
      · obtain rfl : k = 10 := by omega
        rw [show (fl P).take 10 = fl P from rfl] at hR
        obtain ⟨p, c, hs, hRd, hpc⟩ := hR.out.st
        obtain ⟨s0, s1⟩ := row_cells hs
        obtain ⟨r0, r1⟩ := row_cells hR.out.rb
        have z0 := frozen_of_row _ _ 0 _ _ hR.out.rb
        have z1 := frozen_of_row _ _ 1 _ _ hR.out.rb
        have HQ := Lib.hid (And.intro hRd hpc)
        clear hs hRd hpc
        go_wp2_with fail
        have hS := HN.out.2.2
        have k2 := grown_store2 wr (w.heap.size + 1) (.slice p (pk (flb (fl P))).length c) (.int .i64 ((flb (fl P)).length : Int))
        refine bodyPost_ret (res_stream rfl _ _ (w.heap.size + 1) _ _ rfl (store2 hR.out.rb)) rfl ?_
        exact ⟨p, c, rfl, (HQ.out.1.weaken (q' := fun b => w.heap.size + 2 ≤ b) fun b hb _ => by omega).grown k2 (fun b hb e => by have := Option.some.inj e; omega) |>.weaken fun b hb _ => by omega, HQ.out.2, grown_new hR.out.gr k2 (by omega)⟩
end Go.Proofs.YtnfgkakhdgiepaaDoor

/- Parts of the proof, packed: PkTapeN, PkList, StTape, StMB, StLabelsLaw. -/
import Derived.Test.YtpombmpkccnefaaDoorSl11
import Derived.Deep.CutRange
import Derived.Deep.RegionHeld3
import Derived.Test.YtpombmpkccnefaaDoorSl9
import Derived.Test.YtpombmpkccnefaaDoorSl2
/- The tape's packets, also with a mistake. -/
namespace Go.Proofs.YtpombmpkccnefaaDoor
open Go.RowKit Bs
def AnyPacketPost (a : Nat) (w : World) (e : Ending) (w' : World) : Prop := ∃ P : Pk, e = .returned P.val ∧ P.Wf ∧ P.pay.size ≤ 100 ∧ St a w w'
/-- The packet's block and the result's, while a mistake is laid. -/
structure TK (a : Nat) (W : World) (B : Nat) (P : Pk) (w : World) : Prop where
  pb : w.heap[B]? = some (.cells (pcells P) 31 (0, 0))
  rb : w.heap[W.heap.size]? = some (.cells zpk 31 (0, 0))
  st : St a W w
  wf : P.Wf
  sm : P.pay.size ≤ 100
section
variable {a B : Nat} {W w w1 : World} {P P' : Pk}
set_option maxRecDepth 100000 in
theorem TK.tape (H : TK a W B P w) (ha : a < W.heap.size) (hB : W.heap.size < B) (g : St a w w1) : TK a W B P w1 :=
  ⟨kept_row H.pb g.1 (fun e => by have := Option.some.inj e; omega), kept_row H.rb g.1 (fun e => by have := Option.some.inj e; omega), H.st.trans g, H.wf, H.sm⟩
set_option maxRecDepth 100000 in
theorem TK.turn (H : TK a W B P w) (ha : a < W.heap.size) (hB : W.heap.size < B) {k : Nat} {v : Value} (h : (pcells P).setIfInBounds k v = pcells P') (hw : P'.Wf) (hs : P'.pay.size ≤ 100) : TK a W B P' (w.setCell ⟨B, k, none⟩ v) := by
  have j := grown_setCell w ⟨B, k, none⟩ v
  refine ⟨?_, kept_row H.rb j (fun e => by have : W.heap.size = B := Option.some.inj e; omega), H.st.store (b := B) j (by omega) ha, hw, hs⟩
  rw [← h]
  exact heap_setCell_same w _ k _ _ _ H.pb
set_option maxRecDepth 100000 in
theorem TK.at_mode (H : TK a W B P w) (ha : a < W.heap.size) (hB : W.heap.size < B) {x : Int} (hx : I64 x) : TK a W B { P with mode := x } (w.setCell ⟨B, 0, none⟩ (.int .i64 x)) :=
  H.turn ha hB rfl ⟨hx, H.wf.sub, H.wf.set, H.wf.len, H.wf.ttl, H.wf.ent, H.wf.ing, H.wf.pro, H.wf.bits, H.wf.pay⟩ H.sm
set_option maxRecDepth 100000 in
theorem TK.at_sub (H : TK a W B P w) (ha : a < W.heap.size) (hB : W.heap.size < B) {x : Int} (hx : I64 x) : TK a W B { P with sub := x } (w.setCell ⟨B, 1, none⟩ (.int .i64 x)) :=
  H.turn ha hB rfl ⟨H.wf.mode, hx, H.wf.set, H.wf.len, H.wf.ttl, H.wf.ent, H.wf.ing, H.wf.pro, H.wf.bits, H.wf.pay⟩ H.sm
set_option maxRecDepth 100000 in
theorem TK.at_set (H : TK a W B P w) (ha : a < W.heap.size) (hB : W.heap.size < B) {x : Int} (hx : I64 x) : TK a W B { P with set := x } (w.setCell ⟨B, 2, none⟩ (.int .i64 x)) :=
  H.turn ha hB rfl ⟨H.wf.mode, H.wf.sub, hx, H.wf.len, H.wf.ttl, H.wf.ent, H.wf.ing, H.wf.pro, H.wf.bits, H.wf.pay⟩ H.sm
set_option maxRecDepth 100000 in
theorem TK.at_len (H : TK a W B P w) (ha : a < W.heap.size) (hB : W.heap.size < B) {x : Int} (hx : I64 x) : TK a W B { P with len := x } (w.setCell ⟨B, 3, none⟩ (.int .i64 x)) :=
  H.turn ha hB rfl ⟨H.wf.mode, H.wf.sub, H.wf.set, hx, H.wf.ttl, H.wf.ent, H.wf.ing, H.wf.pro, H.wf.bits, H.wf.pay⟩ H.sm
set_option maxRecDepth 100000 in
theorem TK.at_ttl (H : TK a W B P w) (ha : a < W.heap.size) (hB : W.heap.size < B) {x : Int} (hx : I64 x) : TK a W B { P with ttl := x } (w.setCell ⟨B, 4, none⟩ (.int .i64 x)) :=
  H.turn ha hB rfl ⟨H.wf.mode, H.wf.sub, H.wf.set, H.wf.len, hx, H.wf.ent, H.wf.ing, H.wf.pro, H.wf.bits, H.wf.pay⟩ H.sm
set_option maxRecDepth 100000 in
theorem TK.at_ent (H : TK a W B P w) (ha : a < W.heap.size) (hB : W.heap.size < B) {x : Int} (hx : I64 x) : TK a W B { P with ent := x } (w.setCell ⟨B, 5, none⟩ (.int .i64 x)) :=
  H.turn ha hB rfl ⟨H.wf.mode, H.wf.sub, H.wf.set, H.wf.len, H.wf.ttl, hx, H.wf.ing, H.wf.pro, H.wf.bits, H.wf.pay⟩ H.sm
set_option maxRecDepth 100000 in
theorem TK.at_ing (H : TK a W B P w) (ha : a < W.heap.size) (hB : W.heap.size < B) {x : Int} (hx : I64 x) : TK a W B { P with ing := x } (w.setCell ⟨B, 6, none⟩ (.int .i64 x)) :=
  H.turn ha hB rfl ⟨H.wf.mode, H.wf.sub, H.wf.set, H.wf.len, H.wf.ttl, H.wf.ent, hx, H.wf.pro, H.wf.bits, H.wf.pay⟩ H.sm
set_option maxRecDepth 100000 in
theorem TK.at_pro (H : TK a W B P w) (ha : a < W.heap.size) (hB : W.heap.size < B) {x : Int} (hx : I64 x) : TK a W B { P with pro := x } (w.setCell ⟨B, 7, none⟩ (.int .i64 x)) :=
  H.turn ha hB rfl ⟨H.wf.mode, H.wf.sub, H.wf.set, H.wf.len, H.wf.ttl, H.wf.ent, H.wf.ing, hx, H.wf.bits, H.wf.pay⟩ H.sm
set_option maxRecDepth 100000 in
theorem TK.at_pay (H : TK a W B P w) (ha : a < W.heap.size) (hB : W.heap.size < B) {s : ByteArray} (hs : s.size ≤ 100) : TK a W B { P with pay := s } (w.setCell ⟨B, 9, none⟩ (.string s)) :=
  H.turn ha hB rfl ⟨H.wf.mode, H.wf.sub, H.wf.set, H.wf.len, H.wf.ttl, H.wf.ent, H.wf.ing, H.wf.pro, H.wf.bits, Nat.le_trans hs (by decide)⟩ hs
end
/-- How much the payload lacks. -/
def payLeft (w : World) (B : Nat) : Nat := match w.cell? ⟨B, 9, none⟩ with | some (.string s) => 62 - s.size | _ => 0
set_option maxRecDepth 100000 in
set_option maxHeartbeats 3200000 in
theorem packetN_any (a : Nat) (n : Int) (hn : 1 ≤ n) (hn2 : n ≤ 1000) (w : World) (hT : Tp w a) :
    Calls Tryd.prog 12 #[.pointer (some ⟨a, 0, none⟩), .int .i64 n] w fun e w' => AnyPacketPost a w e w' := by
  have ha := hT.lt
  obtain ⟨k1, k2⟩ := one_box w zpk 31
  have HB := Lib.hid k1
  have S0 : St a w (w.alloc (.cells zpk 31)) := ⟨grown_none k2 _, hT.keep k2⟩
  clear k1 k2
  unfold zpk at HB S0
  go_enter Tryd.func12, Tryd.ntmps12
  go_wp2_with fail
  generalize w.alloc _ = wa at *
  change Hid (wa.heap[w.heap.size]? = some (.cells zpk 31 (0, 0))) at HB
  refine (length_any a _ S0.2).mono ?_
  rintro e w1 ⟨len, rfl, hlen, hs1⟩
  have S1 := S0.trans hs1
  go_wp2_with fail
  refine (range_any a 1 3 (by decide) (by decide) (by decide) (by decide) _ S1.2).mono ?_
  rintro e w2 ⟨mode, rfl, hmode, hs2⟩
  go_wp2_with fail
  refine (range_any a 0 7 (by decide) (by decide) (by decide) (by decide) _ hs2.2).mono ?_
  rintro e w3 ⟨sub, rfl, hsub, hs3⟩
  go_wp2_with fail
  refine (pick_any (fun r => 0 ≤ r ∧ r ≤ 31) a _ 0 5 5 (by omega) (by omega) _ (hs3.2.alloc _) (among_list _ w3 a [0, 0, 1, 2, 31] _ _ hs3.2.lt rfl (by decide))).mono ?_
  rintro e w4 ⟨set, rfl, hset, hs4⟩
  go_wp2_with fail
  refine (pick_any (fun r => 0 ≤ r ∧ r ≤ 63) a _ 0 5 5 (by omega) (by omega) _ (hs4.2.alloc _) (among_list _ w4 a [0, 1, 2, 5, 63] _ _ hs4.2.lt rfl (by decide))).mono ?_
  rintro e w5 ⟨ttl, rfl, httl, hs5⟩
  go_wp2_with fail
  refine (next_any a 1024 (by unfold I64; omega) _ hs5.2).mono ?_
  rintro e w6 ⟨ent, rfl, hent, hs6⟩
  go_wp2_with fail
  refine (pick_any (fun r => 0 ≤ r ∧ r ≤ 256) a _ 0 5 5 (by omega) (by omega) _ (hs6.2.alloc _) (among_list _ w6 a [0, 1, 8, 255, 256] _ _ hs6.2.lt rfl (by decide))).mono ?_
  rintro e w7 ⟨ing, rfl, hing, hs7⟩
  go_wp2_with fail
  refine (next_any a 8 (by unfold I64; omega) _ hs7.2).mono ?_
  rintro e w8 ⟨pro, rfl, hpro, hs8⟩
  go_wp2_with fail
  refine (bits_any a len hlen _ hs8.2).mono ?_
  rintro e w9 ⟨bits, rfl, hbu, hbv, hs9⟩
  go_wp2_with fail
  refine (text_any a 6 (by decide) _ hs9.2).mono ?_
  rintro e w10 ⟨pay, rfl, hpay, hs10⟩
  have S' := ((((((((hs1.trans hs2).trans hs3).trans hs4.alloc_left).trans hs5.alloc_left).trans hs6).trans hs7.alloc_left).trans hs8).trans hs9).trans hs10
  have S := Lib.hid (S0.trans S')
  have HR := Lib.hid (kept_row HB.out S'.1 (fun e => by have := Option.some.inj e; omega))
  have hV : Hid (vpk ⟨mode, sub, set, len, ttl, ent, ing, pro, bits, pay⟩ = true ∧ (⟨mode, sub, set, len, ttl, ent, ing, pro, bits, pay⟩ : Pk).Wf) := by
    have r1 := hmode.1
    have r2 := hmode.2.1 (by decide)
    have r3 := hsub.1
    have r4 := hsub.2.1 (by decide)
    have r5 := hent.1
    have r6 := hent.2.1 (by decide)
    have r7 := hpro.1
    have r8 := hpro.2.1 (by decide)
    refine Lib.hid ⟨decide_eq_true ⟨⟨r1, r2⟩, ⟨r3, r4⟩, hset, httl, ⟨r5, by show ent ≤ 1023; omega⟩, hing, ⟨r7, by show pro ≤ 7; omega⟩, Nat.le_trans hpay (by decide), hbv⟩, ?_⟩
    have hl : I64 len := by rcases vl_cases hlen with h | h | h | h <;> rw [h] <;> (unfold I64; decide)
    obtain ⟨q1, q2⟩ := hset
    obtain ⟨q3, q4⟩ := httl
    obtain ⟨q5, q6⟩ := hing
    exact ⟨i64_small (x := mode) (by omega) (by omega), i64_small (x := sub) (by omega) (by omega), i64_small (x := set) (by omega) (by omega), hl, i64_small (x := ttl) (by omega) (by omega), i64_small (x := ent) (by omega) (by omega), i64_small (x := ing) (by omega) (by omega), i64_small (x := pro) (by omega) (by omega), hbu, Nat.le_trans hpay (by decide)⟩
  have g11 := World.grownBy_alloc w10 (.cells #[.int .i64 mode, .int .i64 sub, .int .i64 set, .int .i64 len, .int .i64 ttl, .int .i64 ent, .int .i64 ing, .int .i64 pro, .int .u64 (bits : Int), .string pay] 31) none
  have HR2 := Lib.hid (kept_row HR.out g11 (by simp))
  have S2 := Lib.hid (S.out.none_ g11)
  have K0 : Hid (TK a w w10.heap.size ⟨mode, sub, set, len, ttl, ent, ing, pro, bits, pay⟩ (w10.alloc (.cells #[.int .i64 mode, .int .i64 sub, .int .i64 set, .int .i64 len, .int .i64 ttl, .int .i64 ent, .int .i64 ing, .int .i64 pro, .int .u64 (bits : Int), .string pay] 31))) := Lib.hid ⟨heap_alloc_new w10 _, HR2.out, S2.out, hV.out.2, Nat.le_trans hpay (by decide)⟩
  have hB : w.heap.size < w10.heap.size := by have h := S.out.1.size; have h2 := World.lt_of_row' HR.out; omega
  have HBB := Lib.hid hB
  have HPY := Lib.hid hpay
  clear S' S HR HR2 S2 hV hB HB S0 S1 hs1 hs2 hs3 hs4 hs5 hs6 hs7 hs8 hs9 hs10 hmode hsub hset httl hent hing hpro hbu hbv hpay hlen g11
  go_upto_region 3 with fail
  generalize w10.alloc (.cells #[.int .i64 mode, .int .i64 sub, .int .i64 set, .int .i64 len, .int .i64 ttl, .int .i64 ent, .int .i64 ing, .int .i64 pro, .int .u64 (bits : Int), .string pay] 31) = w11 at *
  have hT11 := K0.out.st.2
  go_wp2_with fail
  refine (one_any a n (by unfold I64; omega) _ hT11).mono ?_
  rintro e w12 ⟨b, rfl, hs⟩
  have K1 := Lib.hid (K0.out.tape ha HBB.out hs)
  clear K0 hT11 hs
  go_upto_if 39 with fail
  go_cut [] from 40 to 96 (fun wx => ∃ P, Hid (TK a w w10.heap.size P wx))
  case first =>
    cases b with
    | false =>
      go_wp2_with fail
      go_meet
      exact ⟨_, K1⟩
    | true =>
      have hT12 := K1.out.st.2
      go_wp2_with fail
      refine (next_any a 9 (by unfold I64; omega) _ hT12).mono ?_
      rintro e w13 ⟨r, rfl, hr, hs⟩
      have K2 := Lib.hid (K1.out.tape ha HBB.out hs)
      clear K1 hT12 hs
      have hr9 : 0 ≤ r ∧ r < 9 := ⟨hr.1, hr.2.1 (by decide)⟩
      obtain ⟨p0, p1, p2, p3, p4, p5, p6, p7, p8, p9⟩ := p_facts K2.out.pb
      have hT13 := K2.out.st.2
      rcases (show r = 0 ∨ r = 1 ∨ r = 2 ∨ r = 3 ∨ r = 4 ∨ r = 5 ∨ r = 6 ∨ r = 7 ∨ r = 8 by omega) with rfl | rfl | rfl | rfl | rfl | rfl | rfl | rfl | rfl
      · go_wp2_with fail
        refine (wild_any a _ hT13).mono ?_
        rintro e w14 ⟨x, rfl, hx, hs⟩
        have K3 := Lib.hid (K2.out.tape ha HBB.out hs)
        have c0 : w14.cell? ⟨w10.heap.size, 0, none⟩ = some (.int .i64 mode) := cell_of_row _ _ _ _ _ _ K3.out.pb
        have c1 := frozen_of_row _ _ 0 _ _ K3.out.pb
        have K4 := Lib.hid (K3.out.at_mode ha HBB.out hx)
        clear K2 K3 hs p0 p1 p2 p3 p4 p5 p6 p7 p8 p9
        go_wp2_with fail
        go_meet
        exact ⟨_, K4⟩
      · go_wp2_with fail
        refine (wild_any a _ hT13).mono ?_
        rintro e w14 ⟨x, rfl, hx, hs⟩
        have K3 := Lib.hid (K2.out.tape ha HBB.out hs)
        have c0 : w14.cell? ⟨w10.heap.size, 1, none⟩ = some (.int .i64 sub) := cell_of_row _ _ _ _ _ _ K3.out.pb
        have c1 := frozen_of_row _ _ 1 _ _ K3.out.pb
        have K4 := Lib.hid (K3.out.at_sub ha HBB.out hx)
        clear K2 K3 hs p0 p1 p2 p3 p4 p5 p6 p7 p8 p9
        go_wp2_with fail
        go_meet
        exact ⟨_, K4⟩
      · go_wp2_with fail
        refine (wild_any a _ hT13).mono ?_
        rintro e w14 ⟨x, rfl, hx, hs⟩
        have K3 := Lib.hid (K2.out.tape ha HBB.out hs)
        have c0 : w14.cell? ⟨w10.heap.size, 2, none⟩ = some (.int .i64 set) := cell_of_row _ _ _ _ _ _ K3.out.pb
        have c1 := frozen_of_row _ _ 2 _ _ K3.out.pb
        have K4 := Lib.hid (K3.out.at_set ha HBB.out hx)
        clear K2 K3 hs p0 p1 p2 p3 p4 p5 p6 p7 p8 p9
        go_wp2_with fail
        go_meet
        exact ⟨_, K4⟩
      · go_wp2_with fail
        refine (pick_any (fun r => I64 r) a _ 0 8 8 (by omega) (by omega) _ (hT13.alloc _) (among_list _ w13 a [0, 8, 16, 24, 63, 64, 65, -8] _ _ hT13.lt rfl (by unfold I64; decide))).mono ?_
        rintro e w14 ⟨x, rfl, hx, hs0⟩
        have hs := hs0.alloc_left
        have K3 := Lib.hid (K2.out.tape ha HBB.out hs)
        have c0 : w14.cell? ⟨w10.heap.size, 3, none⟩ = some (.int .i64 len) := cell_of_row _ _ _ _ _ _ K3.out.pb
        have c1 := frozen_of_row _ _ 3 _ _ K3.out.pb
        have K4 := Lib.hid (K3.out.at_len ha HBB.out hx)
        clear K2 K3 hs hs0 p0 p1 p2 p3 p4 p5 p6 p7 p8 p9
        go_wp2_with fail
        go_meet
        exact ⟨_, K4⟩
      · go_wp2_with fail
        refine (wild_any a _ hT13).mono ?_
        rintro e w14 ⟨x, rfl, hx, hs⟩
        have K3 := Lib.hid (K2.out.tape ha HBB.out hs)
        have c0 : w14.cell? ⟨w10.heap.size, 4, none⟩ = some (.int .i64 ttl) := cell_of_row _ _ _ _ _ _ K3.out.pb
        have c1 := frozen_of_row _ _ 4 _ _ K3.out.pb
        have K4 := Lib.hid (K3.out.at_ttl ha HBB.out hx)
        clear K2 K3 hs p0 p1 p2 p3 p4 p5 p6 p7 p8 p9
        go_wp2_with fail
        go_meet
        exact ⟨_, K4⟩
      · go_wp2_with fail
        refine (wild_any a _ hT13).mono ?_
        rintro e w14 ⟨x, rfl, hx, hs⟩
        have K3 := Lib.hid (K2.out.tape ha HBB.out hs)
        have c0 : w14.cell? ⟨w10.heap.size, 5, none⟩ = some (.int .i64 ent) := cell_of_row _ _ _ _ _ _ K3.out.pb
        have c1 := frozen_of_row _ _ 5 _ _ K3.out.pb
        have K4 := Lib.hid (K3.out.at_ent ha HBB.out hx)
        clear K2 K3 hs p0 p1 p2 p3 p4 p5 p6 p7 p8 p9
        go_wp2_with fail
        go_meet
        exact ⟨_, K4⟩
      · go_wp2_with fail
        refine (wild_any a _ hT13).mono ?_
        rintro e w14 ⟨x, rfl, hx, hs⟩
        have K3 := Lib.hid (K2.out.tape ha HBB.out hs)
        have c0 : w14.cell? ⟨w10.heap.size, 6, none⟩ = some (.int .i64 ing) := cell_of_row _ _ _ _ _ _ K3.out.pb
        have c1 := frozen_of_row _ _ 6 _ _ K3.out.pb
        have K4 := Lib.hid (K3.out.at_ing ha HBB.out hx)
        clear K2 K3 hs p0 p1 p2 p3 p4 p5 p6 p7 p8 p9
        go_wp2_with fail
        go_meet
        exact ⟨_, K4⟩
      · go_wp2_with fail
        refine (wild_any a _ hT13).mono ?_
        rintro e w14 ⟨x, rfl, hx, hs⟩
        have K3 := Lib.hid (K2.out.tape ha HBB.out hs)
        have c0 : w14.cell? ⟨w10.heap.size, 7, none⟩ = some (.int .i64 pro) := cell_of_row _ _ _ _ _ _ K3.out.pb
        have c1 := frozen_of_row _ _ 7 _ _ K3.out.pb
        have K4 := Lib.hid (K3.out.at_pro ha HBB.out hx)
        clear K2 K3 hs p0 p1 p2 p3 p4 p5 p6 p7 p8 p9
        go_wp2_with fail
        go_meet
        exact ⟨_, K4⟩
      · go_wp2_with fail
        go_loopw [44] (fun _ wr => ∃ P : Pk, P.pay.size ≤ 64 ∧ Hid (TK a w w10.heap.size P wr)) (fun _ wr => payLeft wr w10.heap.size)
        case atStart => exact ⟨_, Nat.le_trans HPY.out (by decide), K2⟩
        case round =>
          obtain ⟨P, hP64, HK⟩ := hrel
          clear K2 p0 p1 p2 p3 p4 p5 p6 p7 p8 p9 hT13
          have c9 : wr.cell? ⟨w10.heap.size, 9, none⟩ = some (.string P.pay) := cell_of_row _ _ _ _ _ _ HK.out.pb
          have d9 := frozen_of_row _ _ 9 _ _ HK.out.pb
          by_cases hlt : P.pay.size < 62
          · have hsz : (P.pay ++ ⟨#[97, 98, 99]⟩ : ByteArray).size = P.pay.size + 3 := by rw [ByteArray.size_append]; rfl
            have K' := HK.out.at_pay ha HBB.out (s := P.pay ++ ⟨#[97, 98, 99]⟩) (by rw [hsz]; omega)
            have c9' : (wr.setCell ⟨w10.heap.size, 9, none⟩ (.string (P.pay ++ ⟨#[97, 98, 99]⟩))).cell? ⟨w10.heap.size, 9, none⟩ = some (.string (P.pay ++ ⟨#[97, 98, 99]⟩)) := cell_of_row _ _ _ _ _ _ K'.pb
            have H9 := Lib.hid (And.intro c9 (And.intro c9' hsz))
            have HK' := Lib.hid K'
            clear c9' hsz K'
            go_wp2_with fail
            go_roundw
            case rel => exact ⟨_, by show (P.pay ++ ⟨#[97, 98, 99]⟩ : ByteArray).size ≤ 64; rw [H9.out.2.2]; omega, HK'⟩
            case measure =>
              unfold payLeft
              rw [H9.out.1, H9.out.2.1]
              show 62 - (P.pay ++ ⟨#[97, 98, 99]⟩ : ByteArray).size < 62 - P.pay.size
              rw [H9.out.2.2]; omega
          · have hT14 := HK.out.st.2
            go_wp2_with fail
            go_region_law (first
              | (go_simp; go_at_call 52; refine (text_any a 4 (by decide) _ hT14.drew).mono ?_; rintro e w15 ⟨s, rfl, hs4, hs⟩; have K5 := Lib.hid (HK.out.tape ha HBB.out (w1 := w15) ⟨grown_trans (grown_drew (grown_refl wr _)) hs.1, hs.2⟩); have e9 : w15.cell? ⟨w10.heap.size, 9, none⟩ = some (.string P.pay) := cell_of_row _ _ _ _ _ _ K5.out.pb; have f9 := frozen_of_row _ _ 9 _ _ K5.out.pb; have K6 := Lib.hid (K5.out.at_pay ha HBB.out (s := P.pay ++ s) (by rw [ByteArray.size_append]; omega)); have hcat : ¬ 9223372036854775807 < P.pay.size + s.size := (by omega); clear hs))
            all_goals
              clear K5 c9 d9 e9 f9 hcat hs4
              go_wp2_with fail
              go_meet
              exact ⟨_, K6⟩
  case rest =>
    obtain ⟨P, HK⟩ := hcut
    obtain ⟨⟨r0, r1, r2, r3, r4, r5, r6, r7, r8, r9⟩, f0, f1, f2, f3, f4, f5, f6, f7, f8, f9⟩ := zp_cells HK.out.rb
    obtain ⟨p0, p1, p2, p3, p4, p5, p6, p7, p8, p9⟩ := p_facts HK.out.pb
    clear K1
    go_wp2_with fail
    refine bodyPost_ret (res_packet rfl _ _ w.heap.size _ rfl rfl (pput_row _ _ _ _ _ _ _ _ _ _ HK.out.rb)) rfl ?_
    exact ⟨P, rfl, HK.out.wf, HK.out.sm, HK.out.st.store (pput_grown _ w.heap.size _ _ _ _ _ _ _ _ _ _) (Nat.le_refl _) ha⟩
end Go.Proofs.YtpombmpkccnefaaDoor

/- A list of three packets that a statement draws, and its members. -/
namespace Go.Proofs.YtpombmpkccnefaaDoor
open Go.RowKit Bs
set_option maxRecDepth 100000 in
theorem ints_keep {w w1 : World} {v : Value} (h : IntsIn w v) (g : w.grownBy w1 none) : IntsIn w1 v := by
  obtain ⟨p, n, c, hv, h1, h2, h3⟩ := h
  refine ⟨p, n, c, hv, h1, h2, fun hn => ?_⟩
  obtain ⟨b, off, hp, hb, hx⟩ := h3 hn
  refine ⟨b, off, hp, Nat.lt_of_lt_of_le hb g.size, fun i hi => ?_⟩
  obtain ⟨x, hx1, hx2⟩ := hx i hi
  exact ⟨x, hx1, g.cell hx2 (by simp)⟩
set_option maxRecDepth 100000 in
theorem grown_undrew_some {a : Nat} {w w1 : World} (g : w.drew.grownBy w1 (some a)) : w.grownBy w1 (some a) := ⟨g.os, g.tape, g.output, g.size, g.block⟩
set_option maxRecDepth 100000 in
theorem St.tp {a : Nat} {w w1 : World} (h : St a w w1) : Tp w1 a := h.2
set_option maxRecDepth 100000 in
theorem St.gr {a : Nat} {w w1 : World} (h : St a w w1) : w.grownBy w1 (some a) := h.1
/-- A packet comes back, cell by cell. -/
def AggPost (a : Nat) (w : World) (e : Ending) (w' : World) : Prop := ∃ P : Pk, e = .returned (.agg #[.int .i64 P.mode, .int .i64 P.sub, .int .i64 P.set, .int .i64 P.len, .int .i64 P.ttl, .int .i64 P.ent, .int .i64 P.ing, .int .i64 P.pro, .int .u64 (P.bits : Int), .string P.pay]) ∧ P.Wf ∧ St a w w'
set_option maxRecDepth 100000 in
theorem packetN_agg (a : Nat) (n : Int) (hn : 1 ≤ n) (hn2 : n ≤ 1000) (w : World) (hT : Tp w a) :
    Calls Tryd.prog 12 #[.pointer (some ⟨a, 0, none⟩), .int .i64 n] w fun e w' => AggPost a w e w' := by
  refine (packetN_any a n hn hn2 w hT).mono ?_
  rintro e w' ⟨P, rfl, h1, _, h2⟩
  exact ⟨P, rfl, h1, h2⟩
set_option maxRecDepth 100000 in
theorem packet1_agg (a : Nat) (w : World) (hT : Tp w a) :
    Calls Tryd.prog 12 #[.pointer (some ⟨a, 0, none⟩), .int .i64 1] w fun e w' => AggPost a w e w' := packetN_agg a 1 (by decide) (by decide) w hT
set_option maxRecDepth 100000 in
theorem packet2_agg (a : Nat) (w : World) (hT : Tp w a) :
    Calls Tryd.prog 12 #[.pointer (some ⟨a, 0, none⟩), .int .i64 2] w fun e w' => AggPost a w e w' := packetN_agg a 2 (by decide) (by decide) w hT
set_option maxRecDepth 100000 in
theorem packet4_agg (a : Nat) (w : World) (hT : Tp w a) :
    Calls Tryd.prog 12 #[.pointer (some ⟨a, 0, none⟩), .int .i64 4] w fun e w' => AggPost a w e w' := packetN_agg a 4 (by decide) (by decide) w hT
set_option maxRecDepth 100000 in
theorem packet0_agg (a : Nat) (w : World) (hT : Tp w a) :
    Calls Tryd.prog 12 #[.pointer (some ⟨a, 0, none⟩), .int .i64 0] w fun e w' => AggPost a w e w' := by
  refine (packet0_any a w hT).mono ?_
  rintro e w' ⟨P, rfl, h1, _, h2⟩
  exact ⟨P, rfl, h1, h2⟩
set_option maxRecDepth 100000 in
theorem keep12 {w0 w' : World} {a b : Nat} {P : Pk} (h : w0.heap[b]? = some (.cells (pcells P) 31 (0, 0))) (hab : b ≠ a) (hT : Tp w' a) (hg : Hid (w0.grownBy w' (some a))) :
    w'.cell? ⟨b, 0, none⟩ = some (.int .i64 P.mode) ∧ w'.cell? ⟨b, 1, none⟩ = some (.int .i64 P.sub) ∧ w'.cell? ⟨b, 2, none⟩ = some (.int .i64 P.set) ∧ w'.cell? ⟨b, 3, none⟩ = some (.int .i64 P.len) ∧ w'.cell? ⟨b, 4, none⟩ = some (.int .i64 P.ttl) ∧ w'.cell? ⟨b, 5, none⟩ = some (.int .i64 P.ent) ∧ w'.cell? ⟨b, 6, none⟩ = some (.int .i64 P.ing) ∧ w'.cell? ⟨b, 7, none⟩ = some (.int .i64 P.pro) ∧ w'.cell? ⟨b, 8, none⟩ = some (.int .u64 (P.bits : Int)) ∧ w'.cell? ⟨b, 9, none⟩ = some (.string P.pay) ∧ Tp w' a ∧ Hid (w0.grownBy w' (some a)) := by
  obtain ⟨h0, h1, h2, h3, h4, h5, h6, h7, h8, h9⟩ := p_facts (kept_row h hg.out (fun e => hab (Option.some.inj e)))
  exact ⟨h0, h1, h2, h3, h4, h5, h6, h7, h8, h9, hT, hg⟩
/-- The cells of three packets. -/
def c30 (P Q R : Pk) : Array Value := #[.int .i64 P.mode, .int .i64 P.sub, .int .i64 P.set, .int .i64 P.len, .int .i64 P.ttl, .int .i64 P.ent, .int .i64 P.ing, .int .i64 P.pro, .int .u64 (P.bits : Int), .string P.pay,
  .int .i64 Q.mode, .int .i64 Q.sub, .int .i64 Q.set, .int .i64 Q.len, .int .i64 Q.ttl, .int .i64 Q.ent, .int .i64 Q.ing, .int .i64 Q.pro, .int .u64 (Q.bits : Int), .string Q.pay,
  .int .i64 R.mode, .int .i64 R.sub, .int .i64 R.set, .int .i64 R.len, .int .i64 R.ttl, .int .i64 R.ent, .int .i64 R.ing, .int .i64 R.pro, .int .u64 (R.bits : Int), .string R.pay]
def sel3 (P Q R : Pk) (j : Nat) : Pk := match j with | 0 => P | 1 => Q | _ => R
/-- Member j of the list. -/
def At10 (w : World) (b j : Nat) (P : Pk) : Prop :=
  w.cell? ⟨b, j * 10, none⟩ = some (.int .i64 P.mode) ∧ w.cell? ⟨b, j * 10 + 1, none⟩ = some (.int .i64 P.sub) ∧ w.cell? ⟨b, j * 10 + 2, none⟩ = some (.int .i64 P.set) ∧ w.cell? ⟨b, j * 10 + 3, none⟩ = some (.int .i64 P.len) ∧ w.cell? ⟨b, j * 10 + 4, none⟩ = some (.int .i64 P.ttl) ∧ w.cell? ⟨b, j * 10 + 5, none⟩ = some (.int .i64 P.ent) ∧ w.cell? ⟨b, j * 10 + 6, none⟩ = some (.int .i64 P.ing) ∧ w.cell? ⟨b, j * 10 + 7, none⟩ = some (.int .i64 P.pro) ∧ w.cell? ⟨b, j * 10 + 8, none⟩ = some (.int .u64 (P.bits : Int)) ∧ w.cell? ⟨b, j * 10 + 9, none⟩ = some (.string P.pay)
set_option maxRecDepth 100000 in
theorem c30_at {w : World} {b : Nat} {P Q R : Pk} (hr : w.heap[b]? = some (.cells (c30 P Q R) 31 (0, 0))) (j : Nat) (hj : j < 3) : At10 w b j (sel3 P Q R j) := by
  rcases (show j = 0 ∨ j = 1 ∨ j = 2 by omega) with rfl | rfl | rfl
  · exact ⟨cell_of_row _ _ _ _ _ _ hr, cell_of_row _ _ _ _ _ _ hr, cell_of_row _ _ _ _ _ _ hr, cell_of_row _ _ _ _ _ _ hr, cell_of_row _ _ _ _ _ _ hr, cell_of_row _ _ _ _ _ _ hr, cell_of_row _ _ _ _ _ _ hr, cell_of_row _ _ _ _ _ _ hr, cell_of_row _ _ _ _ _ _ hr, cell_of_row _ _ _ _ _ _ hr⟩
  · exact ⟨cell_of_row _ _ _ _ _ _ hr, cell_of_row _ _ _ _ _ _ hr, cell_of_row _ _ _ _ _ _ hr, cell_of_row _ _ _ _ _ _ hr, cell_of_row _ _ _ _ _ _ hr, cell_of_row _ _ _ _ _ _ hr, cell_of_row _ _ _ _ _ _ hr, cell_of_row _ _ _ _ _ _ hr, cell_of_row _ _ _ _ _ _ hr, cell_of_row _ _ _ _ _ _ hr⟩
  · exact ⟨cell_of_row _ _ _ _ _ _ hr, cell_of_row _ _ _ _ _ _ hr, cell_of_row _ _ _ _ _ _ hr, cell_of_row _ _ _ _ _ _ hr, cell_of_row _ _ _ _ _ _ hr, cell_of_row _ _ _ _ _ _ hr, cell_of_row _ _ _ _ _ _ hr, cell_of_row _ _ _ _ _ _ hr, cell_of_row _ _ _ _ _ _ hr, cell_of_row _ _ _ _ _ _ hr⟩
set_option maxRecDepth 100000 in
theorem At10.keep {w w' : World} {b j : Nat} {P : Pk} (h : At10 w b j P) (g : w.grownBy w' none) : At10 w' b j P := by
  obtain ⟨h0, h1, h2, h3, h4, h5, h6, h7, h8, h9⟩ := h
  exact ⟨g.cell h0 (by simp), g.cell h1 (by simp), g.cell h2 (by simp), g.cell h3 (by simp), g.cell h4 (by simp), g.cell h5 (by simp), g.cell h6 (by simp), g.cell h7 (by simp), g.cell h8 (by simp), g.cell h9 (by simp)⟩
set_option maxRecDepth 100000 in
theorem sel3_wf {P Q R : Pk} (h1 : P.Wf) (h2 : Q.Wf) (h3 : R.Wf) (j : Nat) : (sel3 P Q R j).Wf := by
  unfold sel3
  split <;> assumption
end Go.Proofs.YtpombmpkccnefaaDoor

/- The tape's labels. -/
namespace Go.Proofs.YtpombmpkccnefaaDoor
open Go.RowKit Bs
set_option maxRecDepth 100000 in
theorem spoiln_any (a : Nat) (x n : Int) (hx : I64 x) (hn : I64 n) (hn0 : 0 < n) (w : World) (hT : Tp w a) :
    Calls Tryd.prog 71 #[.pointer (some ⟨a, 0, none⟩), .int .i64 x, .int .i64 n] w fun e w' => IntPost I64 a w e w' := by
  go_enter Tryd.func71, Tryd.ntmps71
  go_wp2_with fail
  refine (one_any a n hn _ hT).mono ?_
  rintro e w1 ⟨b, rfl, hs⟩
  cases b
  · go_wp2_with fail
    go_ret
    exact ⟨_, rfl, hx, hs⟩
  · go_wp2_with fail
    refine (wild_any a _ hs.2).mono ?_
    rintro e w2 ⟨r, rfl, hr, hs2⟩
    go_wp2_with fail
    go_ret
    exact ⟨_, rfl, hr, hs.trans hs2⟩
set_option maxRecDepth 100000 in
theorem spoil0_any (a : Nat) (x : Int) (hx : I64 x) (w : World) (hT : Tp w a) :
    Calls Tryd.prog 71 #[.pointer (some ⟨a, 0, none⟩), .int .i64 x, .int .i64 0] w fun e w' => IntPost I64 a w e w' := by
  go_enter Tryd.func71, Tryd.ntmps71
  go_wp2_with fail
  go_ret
  exact ⟨_, rfl, hx, ⟨grown_refl _ _, hT⟩⟩
set_option maxRecDepth 100000 in
theorem spoila_any (a : Nat) (x n : Int) (hx : I64 x) (hn : I64 n) (hn0 : 0 ≤ n) (w : World) (hT : Tp w a) :
    Calls Tryd.prog 71 #[.pointer (some ⟨a, 0, none⟩), .int .i64 x, .int .i64 n] w fun e w' => IntPost I64 a w e w' := by
  by_cases h : n = 0
  · subst h
    exact spoil0_any a x hx w hT
  · exact spoiln_any a x n hx hn (by omega) w hT
def LabelPost (a : Nat) (w : World) (e : Ending) (w' : World) : Prop := ∃ l : Lab, e = .returned (.agg #[.int .i64 l.v, .int .i64 l.c, .int .i64 l.h]) ∧ l.Wf ∧ St a w w'
set_option maxRecDepth 100000 in
set_option maxHeartbeats 3200000 in
theorem label_any (a : Nat) (n : Int) (hn : I64 n) (hn0 : 0 ≤ n) (w : World) (hT : Tp w a) :
    Calls Tryd.prog 18 #[.pointer (some ⟨a, 0, none⟩), .int .i64 n] w fun e w' => LabelPost a w e w' := by
  have ha := hT.lt
  obtain ⟨k1, k2⟩ := sone_box w #[.int .i64 0, .int .i64 0, .int .i64 0] 41
  have HS : Hid (St a w (w.alloc (.cells #[.int .i64 0, .int .i64 0, .int .i64 0] 41))) := Lib.hid ⟨grown_none k2 _, hT.keep k2⟩
  have HB := Lib.hid k1
  clear k1 k2 hT
  go_enter Tryd.func18, Tryd.ntmps18
  go_upto_region 1 with fail
  have HW := Lib.hid (show w.heap.size < (w.alloc (.cells #[.int .i64 0, .int .i64 0, .int .i64 0] 41)).heap.size by simp)
  generalize w.alloc _ = wa at *
  have haw : a < wa.heap.size := HS.out.2.lt
  go_wp2_with fail
  refine (pick_any I64 a _ 0 6 6 (by omega) (by omega) _ (HS.out.2.alloc _) (among_list _ wa a [0, 17, 18, 115, 116, 1048575] _ _ haw rfl (by intro x hx; simp at hx; unfold I64; omega))).mono ?_
  rintro e w1 ⟨x1, rfl, hx1, hs1⟩
  have S1 := Lib.hid (hs1.alloc_left)
  clear hs1
  go_wp2_with fail
  refine (spoila_any a x1 n hx1 hn hn0 _ S1.out.2).mono ?_
  rintro e w2 ⟨y1, rfl, hy1, hs2⟩
  have S2 := Lib.hid (S1.out.trans hs2)
  clear hs2 S1
  go_wp2_with fail
  refine (next_any a 8 (by unfold I64; omega) _ S2.out.2).mono ?_
  rintro e w3 ⟨x2, rfl, hx2, hs3⟩
  have S3 := Lib.hid (S2.out.trans hs3)
  have hx2' : I64 x2 := by
    have h1 := hx2.1
    have h2 := hx2.2.1 (by omega)
    unfold I64; omega
  clear hs3 S2 hx2
  go_wp2_with fail
  refine (spoila_any a x2 n hx2' hn hn0 _ S3.out.2).mono ?_
  rintro e w4 ⟨y2, rfl, hy2, hs4⟩
  have S4 := Lib.hid (S3.out.trans hs4)
  clear hs4 S3
  go_wp2_with fail
  refine (pick_any I64 a _ 0 3 3 (by omega) (by omega) _ (S4.out.2.alloc _) (among_list _ w4 a [0, 1, 255] _ _ S4.out.2.lt rfl (by intro x hx; simp at hx; unfold I64; omega))).mono ?_
  rintro e w5 ⟨x3, rfl, hx3, hs5⟩
  have S5 := Lib.hid (S4.out.trans (hs5.alloc_left))
  clear hs5 S4
  go_wp2_with fail
  refine (spoila_any a x3 n hx3 hn hn0 _ S5.out.2).mono ?_
  rintro e w6 ⟨y3, rfl, hy3, hs6⟩
  have S6 := Lib.hid (S5.out.trans hs6)
  clear hs6 S5
  have hrow := kept_row HB.out S6.out.1 (fun e => by have := Option.some.inj e; omega)
  have HR := Lib.hid hrow
  have f0 := frozen_of_row _ _ 0 _ _ hrow
  have f1 := frozen_of_row _ _ 1 _ _ hrow
  have f2 := frozen_of_row _ _ 2 _ _ hrow
  obtain ⟨e0, e1, e2⟩ := lab_facts (l := ⟨0, 0, 0⟩) hrow
  simp only at e0 e1 e2
  clear hrow
  go_wp2_with fail
  refine bodyPost_ret (res_lab rfl _ _ w.heap.size _ rfl rfl (store3 HR.out)) rfl ?_
  exact ⟨⟨y1, y2, y3⟩, rfl, ⟨hy1, hy2, hy3⟩, (HS.out.trans S6.out).store (b := w.heap.size) (grown_store3 _ _ _ _ _) (Nat.le_refl _) ha⟩
end Go.Proofs.YtpombmpkccnefaaDoor

/- The bytes that the stack's laws change, in memory of their own. -/
namespace Go.Proofs.YtpombmpkccnefaaDoor
open Go.RowKit Bs
set_option maxRecDepth 100000 in
theorem own_takec {w : World} {base g n cap k : Nat} {e : TypeId} {xs : List Value} (h : w.ownsRow base e 1 (.slice (some ⟨g, 0, none⟩) n cap) n xs) (hk : k ≤ n) : w.ownsRow base e 1 (.slice (some ⟨g, 0, none⟩) k cap) k (xs.take k) := by
  obtain ⟨h1, h2⟩ := h
  rcases h2 with ⟨h0, _⟩ | ⟨g', cap', cur, hv, hg, hh, hn, hcap, hsz, htake⟩
  · cases h0
  · cases hv
    refine ⟨by rw [List.length_take, h1]; omega, .inr ⟨g, cap, cur, rfl, hg, hh, by omega, hcap, hsz, ?_⟩⟩
    rw [← htake, List.take_take]
    congr 1; omega
set_option maxRecDepth 100000 in
theorem st_appendc {a : Nat} {w wr w1 : World} {o : Obj} {v : Value} {n : Nat} {e : TypeId} {xs : List Value} (hs : St a w wr) (ha : a < w.heap.size) (hown : wr.ownsRow w.heap.size e 1 v n xs) (hg : (wr.alloc o).grownBy w1 v.ownBlock) : St a w w1 := by
  have h1 : St a w (wr.alloc o) := hs.trans ⟨World.grownBy_alloc wr o _, hs.2.alloc o⟩
  cases hb : v.ownBlock with
  | none => rw [hb] at hg; exact ⟨grown_trans h1.1 (grown_none hg _), h1.2.keep hg⟩
  | some g => rw [hb] at hg; exact h1.store hg (hown.lt g hb).1 ha
/-- The bytes that are changed, in memory of the law's own. -/
structure MC (a : Nat) (W : World) (p : Option Addr) (c : Nat) (l : List Nat) (w : World) : Prop where
  own : Own w W.heap.size p c l
  st : St a W w
section
variable {a : Nat} {W w w1 : World} {p : Option Addr} {c g : Nat} {l : List Nat}
set_option maxRecDepth 100000 in
theorem MC.tape (h : MC a W p c l w) (ha : a < W.heap.size) (k : St a w w1) : MC a W p c l w1 := ⟨h.own.other k.1 ha, h.st.trans k⟩
set_option maxRecDepth 100000 in
theorem MC.set (h : MC a W (some ⟨g, 0, none⟩) c l w) (ha : a < W.heap.size) {j x : Nat} (hx : x < 256) : MC a W (some ⟨g, 0, none⟩) c (l.set j x) (w.setCell ⟨g, j, none⟩ (nv x)) := by
  obtain ⟨k1, k2⟩ := h.own.own.stored j (nv x)
  have hg := (h.own.own.lt g rfl).1
  refine ⟨⟨by rw [List.length_set, List.map_set]; exact k1, h.own.pc, fun y hy => ?_⟩, h.st.store (b := g) k2 hg ha⟩
  rcases List.mem_or_eq_of_mem_set hy with hy | rfl
  · exact h.own.by_ y hy
  · exact hx
set_option maxRecDepth 100000 in
theorem MC.cut (h : MC a W (some ⟨g, 0, none⟩) c l w) {k : Nat} (hk : k ≤ l.length) : MC a W (some ⟨g, 0, none⟩) c (l.take k) w := by
  have e : (l.take k).length = k := by rw [List.length_take]; omega
  refine ⟨⟨?_, h.own.pc, fun x hx => h.own.by_ x (List.mem_of_mem_take hx)⟩, h.st⟩
  rw [e, List.map_take]
  exact own_takec h.own.own hk
set_option maxRecDepth 100000 in
theorem MC.more (h : MC a W p c l w) (ha : a < W.heap.size) {x : Nat} {v' : Value} {o : Obj} (hx : x < 256) (hown : w1.ownsRow W.heap.size 5 1 v' (l.length + 1) (l.map nv ++ [nv x])) (hg : (w.alloc o).grownBy w1 (Value.slice p l.length c).ownBlock) : ∃ p' c', v' = .slice p' (l ++ [x]).length c' ∧ MC a W p' c' (l ++ [x]) w1 := by
  obtain ⟨p', c', rfl, hpc⟩ := own_parts hown
  refine ⟨p', c', by rw [List.length_append]; rfl, ⟨by rw [List.length_append, List.map_append]; exact hown, hpc, fun y hy => ?_⟩, st_appendc h.st ha h.own.own hg⟩
  rcases List.mem_append.1 hy with hy | hy
  · exact h.own.by_ y hy
  · have : y = x := by simpa using hy
    omega
end
end Go.Proofs.YtpombmpkccnefaaDoor

/- StackLabels: the walk. -/
namespace Go.Proofs.YtpombmpkccnefaaDoor
open Go.RowKit Bs
/-- The labels that the law makes, in memory of its own. -/
structure ML (a : Nat) (W : World) (v : Value) (ls : List Lab) (w : World) : Prop where
  own : OwnL w W.heap.size v ls
  st : St a W w
set_option maxRecDepth 100000 in
theorem ownl_other {w w1 : World} {base a : Nat} {v : Value} {ls : List Lab} (h : OwnL w base v ls) (g : w.grownBy w1 (some a)) (ha : a < base) : OwnL w1 base v ls :=
  h.kept g (by
    cases hv : v.ownBlock with
    | none => exact .inl rfl
    | some b => exact .inr (fun e => by have e2 := Option.some.inj e; have := (h.lt b hv).1; omega))
set_option maxRecDepth 100000 in
theorem ML.tape {a : Nat} {W w w1 : World} {v : Value} {ls : List Lab} (h : ML a W v ls w) (ha : a < W.heap.size) (k : St a w w1) : ML a W v ls w1 := ⟨ownl_other h.own k.1 ha, h.st.trans k⟩
set_option maxRecDepth 100000 in
theorem st_append3 {a : Nat} {w wr w1 : World} {o : Obj} {v : Value} {n size : Nat} {e : TypeId} {xs : List Value} (hs : St a w wr) (ha : a < w.heap.size) (hown : wr.ownsRow w.heap.size e size v n xs) (hg : (wr.alloc o).grownBy w1 v.ownBlock) : St a w w1 := by
  have h1 : St a w (wr.alloc o) := hs.trans ⟨World.grownBy_alloc wr o _, hs.2.alloc o⟩
  cases hb : v.ownBlock with
  | none => rw [hb] at hg; exact ⟨grown_trans h1.1 (grown_none hg _), h1.2.keep hg⟩
  | some g => rw [hb] at hg; exact h1.store hg (hown.lt g hb).1 ha
set_option maxRecDepth 100000 in
theorem ML.more {a : Nat} {W w w1 : World} {v v' : Value} {ls : List Lab} {l : Lab} {o : Obj} (h : ML a W v ls w) (ha : a < W.heap.size) (hown : w1.ownsRow W.heap.size 41 3 v' (ls.length + 1) (labsC ls ++ [.int .i64 l.v, .int .i64 l.c, .int .i64 l.h])) (hg : (w.alloc o).grownBy w1 v.ownBlock) : ∃ p c, v' = .slice p (ls ++ [l]).length c ∧ ML a W v' (ls ++ [l]) w1 := by
  obtain ⟨g, cap, hv⟩ := Joins.ownsRow_form hown (by omega)
  refine ⟨some ⟨g, 0, none⟩, cap, by rw [hv, List.length_append]; rfl, ⟨?_, st_append3 h.st ha h.own hg⟩⟩
  show w1.ownsRow _ _ 3 v' (ls ++ [l]).length (labsC (ls ++ [l]))
  rw [List.length_append, labsC_snoc]
  exact hown
set_option maxRecDepth 100000 in
theorem labsC_set : ∀ (ls : List Lab) (j : Nat) (l : Lab), j < ls.length → (((labsC ls).set (j * 3) (.int .i64 l.v)).set (j * 3 + 1) (.int .i64 l.c)).set (j * 3 + 2) (.int .i64 l.h) = labsC (ls.set j l)
  | [], j, l, h => by simp at h
  | m :: ls, 0, l, h => rfl
  | m :: ls, j + 1, l, h => by
    have e : (j + 1) * 3 = j * 3 + 3 := by omega
    have ih := labsC_set ls j l (by simpa using h)
    show (((labC m ++ labsC ls).set ((j + 1) * 3) _).set ((j + 1) * 3 + 1) _).set ((j + 1) * 3 + 2) _ = labC m ++ labsC (ls.set j l)
    rw [← ih, e]
    rfl
set_option maxRecDepth 100000 in
theorem ML.set {a g c : Nat} {W w : World} {ls : List Lab} (h : ML a W (.slice (some ⟨g, 0, none⟩) ls.length c) ls w) (ha : a < W.heap.size) (j : Nat) (hj : j < ls.length) (l : Lab) :
    ML a W (.slice (some ⟨g, 0, none⟩) ls.length c) (ls.set j l) (((w.setCell ⟨g, j * 3, none⟩ (.int .i64 l.v)).setCell ⟨g, j * 3 + 1, none⟩ (.int .i64 l.c)).setCell ⟨g, j * 3 + 2, none⟩ (.int .i64 l.h)) := by
  obtain ⟨k1, k2⟩ := h.own.stored (j * 3) (.int .i64 l.v)
  obtain ⟨k3, k4⟩ := k1.stored (j * 3 + 1) (.int .i64 l.c)
  obtain ⟨k5, k6⟩ := k3.stored (j * 3 + 2) (.int .i64 l.h)
  have hg := (h.own.lt g rfl).1
  refine ⟨?_, h.st.store (b := g) (grown_trans (grown_trans k2 k4) k6) hg ha⟩
  show World.ownsRow _ _ _ 3 _ (ls.set j l).length (labsC (ls.set j l))
  rw [List.length_set, ← labsC_set ls j l hj]
  exact k5
set_option maxRecDepth 100000 in
theorem rdb_take {w : World} {q : Nat → Prop} {p : Option Addr} {n c : Nat} {r : List Nat} (h : Rd w q (.slice p n c) (r.map nv)) (k : Nat) (hk : k ≤ r.length) : Rd w q (.slice p k c) ((r.take k).map nv) := by
  obtain ⟨p1, c1, e1, hx⟩ := h
  injection e1 with a1 a2 a3
  subst a1
  refine ⟨p, c, by rw [List.length_map, List.length_take, Nat.min_eq_left hk], fun hne => ?_⟩
  obtain ⟨b, off, hp, hq, hc⟩ := hx (by intro e; apply hne; rw [List.map_take, e]; simp)
  refine ⟨b, off, hp, hq, fun i x hi => hc i x ?_⟩
  rw [List.map_take, List.getElem?_take] at hi
  split at hi
  · exact hi
  · cases hi
/-- Row j of a list of two stacks. -/
def LL (w : World) (b j : Nat) : Prop := ∃ M pM cM, w.cell? ⟨b, j, none⟩ = some (.slice pM (M : List Lab).length cM) ∧ M.length ≤ 9223372036854775807 ∧ RdL w (fun _ => True) (.slice pM M.length cM) M
set_option maxRecDepth 100000 in
theorem RdL.mono {w : World} {q q' : Nat → Prop} {v : Value} {ls : List Lab} (h : RdL w q v ls) (hq : ∀ b, q b → q' b) : RdL w q' v ls := RdK.mono h hq
set_option maxRecDepth 100000 in
theorem ownl_max {w : World} {base : Nat} {v : Value} {ls : List Lab} (h : OwnL w base v ls) : ls.length ≤ 9223372036854775807 := by
  rcases h.2 with ⟨_, h0⟩ | ⟨g, cap, cur, _, _, _, hn, hc, _⟩
  · omega
  · unfold maxLen at hc; omega
set_option maxRecDepth 100000 in
set_option maxHeartbeats 6400000 in
theorem labels_walk (v : Value) (R : List Lab) (pR : Option Addr) (cR : Nat) (hmR : R.length ≤ cR) (hmR2 : cR ≤ 9223372036854775807) (L : List Nat) (pL : Option Addr) (cL : Nat) (hbL : By L) (hcL : L.length ≤ cL) (hcm : cL ≤ 9223372036854775807) (hpL : pL = none → cL = 0) (w : World) (hv : IntsIn w v) (hRR : RdL w (· < w.heap.size) (.slice pR R.length cR) R) (hRL : Rd w (· < w.heap.size) (.slice pL L.length cL) (L.map nv)) (hT : Tb w) :
    Calls Tryd.prog 5 #[v, .slice pR R.length cR, .slice pL L.length cL] w fun e w' => e = .returned (.bool true) ∧ w.grownBy w' none := by
  obtain ⟨j0, hj0, hy0, hy1, hy2⟩ := info_parts info_u8
  obtain ⟨i0, hi0, hz0, hz1, hz2⟩ := info_parts info_lab
  have HT0 := Lib.hid hT
  have HRL := Lib.hid hRL
  have HRR := Lib.hid hRR
  have hlc := hcL
  have HIN := Lib.hid (And.intro hbL (And.intro hcL (And.intro hcm hpL)))
  have HIR := Lib.hid (Nat.le_trans hmR hmR2)
  clear hT hRL hRR hbL hcL hpL hmR hmR2
  go_enter Tryd.func5, Tryd.ntmps5
  go_wp2_with fail
  refine (new_any v w hv).mono ?_
  rintro e w2 ⟨rfl, hg1, hT1⟩
  have hat := hT1.lt
  have G1 := Lib.hid hg1
  have HTp := Lib.hid hT1
  clear hg1 hT1 hv
  go_wp2_with fail
  refine (pick_any (fun r => 0 ≤ r ∧ r ≤ 25) _ _ 0 7 7 (by omega) (by omega) _ (HTp.out.alloc _) (among_list _ w2 _ [0, 1, 2, 3, 23, 24, 25] _ _ hat rfl (by decide))).mono ?_
  rintro e w3 ⟨rr, rfl, hr, hs⟩
  obtain ⟨r, rfl⟩ := Int.eq_ofNat_of_zero_le hr.1
  have hr2 : r ≤ 25 := by have := hr.2; omega
  have HM0 : Hid (ML w.heap.size w2 (.slice none 0 0) [] w3) := Lib.hid ⟨World.ownsRow_nil _ _ _ _, ⟨grown_trans (grown_none (World.grownBy_alloc w2 _ none) _) hs.1, hs.2⟩⟩
  clear hr hs
  go_wp2_with fail
  go_loopw [8, 9] (fun b i wr => ∃ k : Nat, k ≤ 25 ∧ i = .int .i64 (k : Int) ∧ ∃ p c ls, (ls : List Lab).length + k ≤ 25 ∧ b = .slice p ls.length c ∧ Hid (ML w.heap.size w2 (.slice p ls.length c) ls wr)) (fun _ i _ => (intOf i).toNat)
  case atStart => exact ⟨r, hr2, rfl, none, 0, [], by simpa using hr2, rfl, HM0⟩
  case round =>
    obtain ⟨k, hk, rfl, p, c, ls, hlk, rfl, hM⟩ := hrel
    clear HM0
    by_cases hk1 : 1 ≤ k
    · have hTp := Lib.hid hM.out.st.2
      go_wp2_with fail
      refine (label_any _ 0 (by unfold I64; omega) (by omega) _ hTp.out).mono ?_
      rintro e w4 ⟨l, rfl, hlw, hs⟩
      have HM1 := Lib.hid (hM.out.tape hat hs)
      clear hs hTp hM hlw
      have hown := HM1.out.own
      have hsz := HM1.out.st.1.size
      go_wp2_with (at_builtin; refine wpList_append_own _ rfl _ _ 49 rfl w2.heap.size 41 i0 (.agg #[.int .i64 0, .int .i64 0, .int .i64 0]) 3 24 Tryd.underlying49 hi0 hz0 hz1 hz2 rfl (by decide) _ ls.length (labsC ls) rfl (hown.alloc _) ⟨w4.heap.size, 0, none⟩ 1 1 [.int .i64 l.v, .int .i64 l.c, .int .i64 l.h] rfl rfl ?c1 ?c2 ?c3 ?c4 ?c5 ?_)
      case c1 => exact cells3 _ _ _ _ _
      case c2 => intro u hu; simp at hu; rcases hu with rfl | rfl | rfl <;> rfl
      case c3 => unfold maxLen; omega
      case c4 => omega
      case c5 => first | omega | (simp; omega)
      intro v' w6 hown' hg _
      obtain ⟨p', c', hv', hM'⟩ := HM1.out.more hat hown' hg
      subst hv'
      have HM3 := Lib.hid hM'
      clear hown' hg hown HM1 hM'
      go_wp2_with fail
      exact ⟨⟨k - 1, by omega, by congr 1; omega, p', c', ls ++ [l], by rw [List.length_append]; simp; omega, rfl, HM3⟩, by simp [intOf]; omega⟩
    · obtain rfl : k = 0 := by omega
      clear hk1
      go_upto_region 7 with fail
      go_cut [39] from 33 to 39 (fun bb wx => ∃ z, bb = .bool z ∧ (z = true → 0 < ls.length) ∧ Hid (ML w.heap.size w2 (.slice p ls.length c) ls wx))
      case first =>
        by_cases hl0 : 0 < ls.length
        · have hTp := Lib.hid hM.out.st.2
          go_wp2_with (go_at_call 26; refine (one_any _ 4 (by unfold I64; omega) _ hTp.out).mono ?_; rintro e w4 ⟨z, rfl, hs⟩; have HM1 := Lib.hid (hM.out.tape hat hs); clear hs)
          go_meet
          exact ⟨z, rfl, fun _ => hl0, HM1⟩
        · go_wp2_with fail
          go_meet
          exact ⟨false, rfl, by simp, hM⟩
      case rest =>
      obtain ⟨z, rfl, hz, hM1⟩ := hcut
      clear hM
      go_upto_if 39 with fail
      go_cut [39] from 40 to 47 (fun bb wx => ∃ ls2 : List Lab, ls2.length = ls.length ∧ Hid (ML w.heap.size w2 (.slice p ls.length c) ls2 wx))
      case first =>
        cases z
        · go_wp2_with fail
          go_meet
          exact ⟨ls, rfl, hM1⟩
        · have hl0 := hz rfl
          obtain ⟨g, cap, he⟩ := Joins.ownsRow_form hM1.out.own hl0
          have hp : p = some ⟨g, 0, none⟩ := by cases he; rfl
          clear he
          subst hp
          have hTp := Lib.hid hM1.out.st.2
          go_wp2_with fail
          refine (next_any _ (ls.length : Int) (by unfold I64; omega) _ hTp.out).mono ?_
          rintro e w4 ⟨xx, rfl, hx, hs⟩
          obtain ⟨x, rfl⟩ := Int.eq_ofNat_of_zero_le hx.1
          have hxl : x < ls.length := by have := hx.2.1 (by omega); omega
          have HM2 := Lib.hid (hM1.out.tape hat hs)
          clear hx hs hTp hM1
          go_wp2_with fail
          refine (label_any _ 2 (by unfold I64; omega) (by omega) _ HM2.out.st.2).mono ?_
          rintro e w5 ⟨l, rfl, hlw, hs⟩
          have HM3 := Lib.hid (HM2.out.tape hat hs)
          clear hs hlw HM2
          obtain ⟨lo, hlo⟩ : ∃ lo, ls[x]? = some lo := ⟨_, List.getElem?_eq_getElem hxl⟩
          have e0 : w5.cell? ⟨g, x * 3, none⟩ = some (.int .i64 lo.v) := by
            rw [HM3.out.own.cellAt (x * 3) (by omega), show x * 3 = 3 * x + 0 by omega, labsC_at _ _ 0 _ hlo (by decide)]; rfl
          have e1 : w5.cell? ⟨g, x * 3 + 1, none⟩ = some (.int .i64 lo.c) := by
            rw [HM3.out.own.cellAt (x * 3 + 1) (by omega), show x * 3 + 1 = 3 * x + 1 by omega, labsC_at _ _ 1 _ hlo (by decide)]; rfl
          have e2 : w5.cell? ⟨g, x * 3 + 2, none⟩ = some (.int .i64 lo.h) := by
            rw [HM3.out.own.cellAt (x * 3 + 2) (by omega), show x * 3 + 2 = 3 * x + 2 by omega, labsC_at _ _ 2 _ hlo (by decide)]; rfl
          have f0 := HM3.out.own.frozenAt (x * 3)
          have f1 := HM3.out.own.frozenAt (x * 3 + 1)
          have f2 := HM3.out.own.frozenAt (x * 3 + 2)
          have HM4 := Lib.hid (HM3.out.set hat x hxl l)
          have HLO := Lib.hid hlo
          clear hlo
          go_wp2_with fail
          go_meet
          exact ⟨ls.set x l, List.length_set, HM4⟩
      case rest =>
      obtain ⟨ls2, hl2, hM2⟩ := hcut
      clear hM1
      go_upto_if 50 with fail
      go_cut [2] from 48 to 52 (fun tt wx => ∃ T cT, (T : List Nat).length ≤ 200 ∧ tt = .slice pL T.length cT ∧ wx = wc ∧ Hid (By T ∧ T.length ≤ cT ∧ (pL = none → cT = 0) ∧ Rd wc (fun _ => True) (.slice pL T.length cT) (T.map nv)))
      case first =>
        have HRw := Lib.hid ((HRL.out.keep (grown_tape G1.out hM2.out.st.1)).mono (q' := fun _ => True) fun _ _ => trivial)
        by_cases h200 : 200 < L.length
        · go_wp2_with fail
          go_meet
          refine ⟨L.take 200, cL, by rw [List.length_take]; omega, by rw [List.length_take, Nat.min_eq_left (by omega)], rfl, Lib.hid ⟨fun x hx => HIN.out.1 x (List.mem_of_mem_take hx), by rw [List.length_take]; omega, HIN.out.2.2.2, ?_⟩⟩
          rw [List.length_take, Nat.min_eq_left (by omega)]
          exact rdb_take HRw.out 200 (by omega)
        · go_wp2_with fail
          go_meet
          exact ⟨L, cL, by omega, rfl, rfl, Lib.hid ⟨HIN.out.1, HIN.out.2.1, HIN.out.2.2.2, HRw.out⟩⟩
      case rest =>
        obtain ⟨T, cT, hT200, rfl, rfl, HTL⟩ := hcut
        have HM2b : Hid (OwnL wc w2.heap.size (.slice p ls.length c) ls2 ∧ St w.heap.size w2 wc) := Lib.hid ⟨hM2.out.own, hM2.out.st⟩
        have hL2max := ownl_max hM2.out.own
        have hRLa : RdL wc (fun _ => True) (.slice p ls.length c) ls2 := (rdk_of_own hM2.out.own).mono fun _ _ => trivial
        rw [← hl2] at hRLa
        have HRLa := Lib.hid hRLa
        have HL2M := Lib.hid hL2max
        have GZ := Lib.hid (grown_tape G1.out hM2.out.st.1)
        clear hM2 hRLa hL2max HM2b HTp hz
        go_upto_region 12 with fail
        have gal := World.grownBy_alloc wc (.cells #[.slice p ls.length c, .slice pR R.length cR] 49) none
        have HL9 := Lib.hid (heap_alloc_new wc (.cells #[.slice p ls.length c, .slice pR R.length cR] 49))
        have HR1 := Lib.hid (RdL.keep HRLa.out gal)
        have HR2 := Lib.hid (RdL.keep (RdL.keep HRR.out GZ.out) gal)
        have HTL2 := Lib.hid (And.intro HTL.out.1 (And.intro HTL.out.2.1 (And.intro HTL.out.2.2.1 (HTL.out.2.2.2.keep gal))))
        have G9 := Lib.hid (grown_trans GZ.out gal)
        clear gal GZ HRLa HTL
        generalize wc.alloc _ = w9 at *
        generalize wc.heap.size = bk at *
        go_wp2_with fail
        go_loopw [11] (fun i wr => ∃ j : Nat, j ≤ 2 ∧ i = .int .i64 (j : Int) ∧ Hid (w9.grownBy wr none)) (fun i _ => (2 - (intOf i).toNat))
        case atStart => exact ⟨0, by omega, rfl, Lib.hid (grown_refl _ _)⟩
        case round =>
          obtain ⟨j, hj, rfl, hG⟩ := hrel
          have HG := Lib.hid (grown_trans G9.out hG.out)
          by_cases hj2 : j < 2
          · by_cases hR100 : R.length ≤ 100
            · obtain ⟨M, pM, cM, hc, hMl, hMr⟩ : LL wr bk j := by
                rcases (show j = 0 ∨ j = 1 by omega) with rfl | rfl
                · refine ⟨ls2, p, c, ?_, HL2M.out, RdL.keep HR1.out hG.out⟩
                  rw [hl2]
                  exact cell_of_row _ _ _ _ _ _ (kept_row HL9.out hG.out (by simp))
                · exact ⟨R, pR, cR, (cell_of_row _ _ _ _ _ _ (kept_row HL9.out hG.out (by simp))), HIR.out, (RdL.keep HR2.out hG.out).mono fun _ _ => trivial⟩
              have HMR := Lib.hid (And.intro hMl hMr)
              have HMC := Lib.hid hc
              clear hMr
              go_wp2_with fail
              refine (sencl_any M pM cM _ wr HMR.out.2).mono ?_
              rintro e w5 ⟨p1, c1, rfl, hO1, hg1⟩
              have H1 := Lib.hid hO1
              have GG1 := Lib.hid (grown_trans hG.out hg1)
              have HMR1 := Lib.hid (RdL.keep HMR.out.2 hg1)
              have hc1 := hg1.cell HMC.out (by simp)
              clear hO1 hg1 hc
              go_wp2_with fail
              refine (rencl_any M pM cM hMl _ w5 HMR1.out).mono ?_
              rintro e w6 ⟨p2, c2, rfl, hO2, hg2⟩
              have E1 := conv_nv (H1.out.keep hg2).by_ rfl (H1.out.keep hg2).rd (H1.out.keep hg2).pc
              have E2 := conv_nv hO2.by_ rfl hO2.rd hO2.pc
              have H3 := Lib.hid (H1.out.keep hg2)
              have GG2 := Lib.hid (grown_trans GG1.out hg2)
              have HMR2 := Lib.hid (RdL.keep HMR1.out hg2)
              have HMC2 := Lib.hid (hg2.cell hc1 (by simp))
              obtain ⟨B, hB⟩ : ∃ B, encB M = B := ⟨_, rfl⟩
              obtain ⟨ee, hee⟩ : ∃ ee, encE M = ee := ⟨_, rfl⟩
              rw [hB] at E1 E2 H3 ⊢
              rw [hee] at ⊢
              have HBE := Lib.hid (And.intro hB hee)
              clear hO2 hg2 hc1 H1 HMR HMR1 HMC GG1 hB hee
              go_upto_region 19 with fail
              clear E1 E2
              by_cases he : ee = 0
              · subst he
                obtain ⟨hlen, hall⟩ : lenL M.length = true ∧ M.all vlab = true := by
                  have := HBE.out.2
                  unfold encE at this
                  split at this
                  · rename_i h1
                    split at this
                    · rename_i h2
                      exact ⟨h1, h2⟩
                    · cases this
                  · cases this
                have hl := of_decide_eq_true hlen
                have hBL : B = encL M := by rw [← HBE.out.1]; unfold encB; rw [if_pos HBE.out.2]
                obtain ⟨D1, D2⟩ := dec_encL M T (by omega) (by omega) (fun x hx => List.all_eq_true.1 hall x hx)
                rw [← hBL] at D1 D2
                have hBlen : B.length = 4 * M.length := by rw [hBL, encL_len]
                have HD := Lib.hid (And.intro D1 D2)
                have hB96 : B.length ≤ 96 := by omega
                have HBL := Lib.hid hBlen
                clear hBlen
                have hM24 : M.length ≤ 24 := by omega
                clear D1 D2 hBL hall hlen
                go_wp2_with (at_builtin; refine wpList_append_rd rfl _ _ rfl w6.heap.size (.slice (some ⟨w6.heap.size, 0, none⟩) 0 0) 0 [] rfl (World.ownsRow_made w6 #[] 0 (Nat.le_refl _) (by unfold maxLen; omega) rfl) p1 B.length c1 B rfl rfl _ (H3.out.rd.keep (World.grownBy_alloc w6 _ none)) H3.out.pc ?c1 ?c2 ?_)
                case c1 => omega
                case c2 => simp
                intro v1 w7 hown1 hg7
                have hown1 : w7.ownsRow w6.heap.size 5 1 v1 B.length (B.map nv) := by simpa using hown1
                have G7 := grown_own (World.grownBy_alloc w6 (.cells #[] 5) none) (World.ownsRow_made (base := w6.heap.size) (size := 1) (e := 5) w6 #[] 0 (Nat.le_refl _) (by unfold maxLen; omega) rfl) (Nat.le_refl _) hg7
                have HO7 := Lib.hid hown1
                have HG7 := Lib.hid G7
                clear hown1 hg7 G7
                go_wp2_with (at_builtin; refine wpList_append_rd rfl _ _ rfl w6.heap.size v1 B.length B rfl HO7.out pL T.length cT T rfl rfl _ (HTL2.out.2.2.2.keep (grown_trans GG2.out HG7.out)) HTL2.out.2.2.1 ?c1 ?c2 ?_)
                case c1 => omega
                case c2 => exact HG7.out.size
                intro v2 w8 hown2 hg8
                have hG8 := grown_own HG7.out HO7.out (Nat.le_refl _) hg8
                obtain ⟨p8, c8, rfl, hpc8⟩ := own_parts hown2
                have HO8 : Hid (Own w8 w6.heap.size p8 c8 (B ++ T)) := Lib.hid ⟨by rw [List.length_append, List.map_append]; exact hown2, hpc8, fun x hx => by
                  rcases List.mem_append.1 hx with h | h
                  · exact H3.out.by_ x h
                  · exact HTL2.out.1 x h⟩
                have HG8 := Lib.hid (grown_trans GG2.out hG8)
                have HMR8 := Lib.hid (RdL.keep HMR2.out hG8)
                have hc8 := hG8.cell HMC2.out (by simp)
                have C := sdecl_any (B ++ T) HO8.out.by_ p8 c8 (own_room HO8.out).1 (own_room HO8.out).2 _ w8 HO8.out.rd
                rw [List.length_append] at C
                clear hown2 hg8 hG8 HO7 HG7
                go_wp2_with fail
                refine C.mono ?_
                clear C
                rintro e w10 ⟨v3, rfl, hO3, hg10⟩
                rw [HD.out.1] at hO3 ⊢
                simp only at hO3 ⊢
                rw [HD.out.2] at hO3
                obtain ⟨p3, c3, rfl, hx3⟩ := rdk_of_own hO3
                have H4 : Hid (RdL w10 (w8.heap.size ≤ ·) (.slice p3 M.length c3) M) := Lib.hid ⟨p3, c3, rfl, hx3⟩
                have H5 := Lib.hid (RdL.keep HMR8.out hg10)
                have hc10 := hg10.cell hc8 (by simp)
                have HG10 := Lib.hid (grown_trans HG8.out hg10)
                rw [← HBL.out]
                clear hO3 hx3 hg10 hc8 HG8 HMR8 hG HG
                go_wp2_with (go_at_call 30; refine (rsl_any M p3 pM c3 cM _ _ w10 H4.out H5.out (by omega)).mono ?_; rintro e w11 ⟨rfl, hg11⟩; have GG3 := Lib.hid (grown_trans HG10.out hg11); clear hg11)
                go_roundw
                case rel =>
                  repeat apply Exists.intro
                  exact ⟨⟨j + 1, by omega, by go_num, GG3⟩, rfl⟩
                case measure => simp [intOf]; omega
              · have hen : (ee != 0) = true := by simpa using he
                clear hG HG
                go_wp2_with fail
                go_roundw
                case rel =>
                  repeat apply Exists.intro
                  exact ⟨⟨j + 1, by omega, by go_num, GG2⟩, rfl⟩
                case measure => simp [intOf]; omega
            · clear hG
              go_wp2_with fail
              refine (sawake_any _ (HT0.out.keep HG.out)).mono ?_
              rintro e w5 ⟨rfl, hg⟩
              have GE := Lib.hid (grown_trans HG.out hg)
              clear hg
              go_wp2_with fail
              go_ret
              exact ⟨rfl, GE.out⟩
          · clear hG
            go_wp2_with fail
            refine (sawake_any _ (HT0.out.keep HG.out)).mono ?_
            rintro e w5 ⟨rfl, hg⟩
            have GE := Lib.hid (grown_trans HG.out hg)
            clear hg
            go_wp2_with fail
            go_ret
            exact ⟨rfl, GE.out⟩
end Go.Proofs.YtpombmpkccnefaaDoor

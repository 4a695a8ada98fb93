/- Parts of the proof, packed: PkTapeN, PkList, PkWrite, PkAlign, PkEncode. -/
import Derived.Test.YtnfgkakhdgiepaaDoorEn6
import Derived.Deep.CutRange
import Derived.Deep.RegionHeld3
import Derived.Test.YtnfgkakhdgiepaaDoorEn5
/- The tape's packets, also with a mistake. -/
namespace Go.Proofs.YtnfgkakhdgiepaaDoor
open Go.RowKit Bs
def AnyPacketPost (a : Nat) (w : World) (e : Ending) (w' : World) : Prop := ∃ P : Pk, e = .returned P.val ∧ P.Wf ∧ P.pay.size ≤ 100 ∧ St a w w'
/-- The packet's block and the result's, while a mistake is laid. -/
structure TK (a : Nat) (W : World) (B : Nat) (P : Pk) (w : World) : Prop where
  pb : w.heap[B]? = some (.cells (pcells P) 25 (0, 0))
  rb : w.heap[W.heap.size]? = some (.cells zpk 25 (0, 0))
  st : St a W w
  wf : P.Wf
  sm : P.pay.size ≤ 100
section
variable {a B : Nat} {W w w1 : World} {P P' : Pk}
set_option maxRecDepth 100000 in
theorem TK.tape (H : TK a W B P w) (ha : a < W.heap.size) (hB : W.heap.size < B) (g : St a w w1) : TK a W B P w1 :=
  ⟨kept_row H.pb g.1 (fun e => by have := Option.some.inj e; omega), kept_row H.rb g.1 (fun e => by have := Option.some.inj e; omega), H.st.trans g, H.wf, H.sm⟩
set_option maxRecDepth 100000 in
theorem TK.turn (H : TK a W B P w) (ha : a < W.heap.size) (hB : W.heap.size < B) {k : Nat} {v : Value} (h : (pcells P).setIfInBounds k v = pcells P') (hw : P'.Wf) (hs : P'.pay.size ≤ 100) : TK a W B P' (w.setCell ⟨B, k, none⟩ v) := by
  have j := grown_setCell w ⟨B, k, none⟩ v
  refine ⟨?_, kept_row H.rb j (fun e => by have : W.heap.size = B := Option.some.inj e; omega), H.st.store (b := B) j (by omega) ha, hw, hs⟩
  rw [← h]
  exact heap_setCell_same w _ k _ _ _ H.pb
set_option maxRecDepth 100000 in
theorem TK.at_mode (H : TK a W B P w) (ha : a < W.heap.size) (hB : W.heap.size < B) {x : Int} (hx : I64 x) : TK a W B { P with mode := x } (w.setCell ⟨B, 0, none⟩ (.int .i64 x)) :=
  H.turn ha hB rfl ⟨hx, H.wf.sub, H.wf.set, H.wf.len, H.wf.ttl, H.wf.ent, H.wf.ing, H.wf.pro, H.wf.bits, H.wf.pay⟩ H.sm
set_option maxRecDepth 100000 in
theorem TK.at_sub (H : TK a W B P w) (ha : a < W.heap.size) (hB : W.heap.size < B) {x : Int} (hx : I64 x) : TK a W B { P with sub := x } (w.setCell ⟨B, 1, none⟩ (.int .i64 x)) :=
  H.turn ha hB rfl ⟨H.wf.mode, hx, H.wf.set, H.wf.len, H.wf.ttl, H.wf.ent, H.wf.ing, H.wf.pro, H.wf.bits, H.wf.pay⟩ H.sm
set_option maxRecDepth 100000 in
theorem TK.at_set (H : TK a W B P w) (ha : a < W.heap.size) (hB : W.heap.size < B) {x : Int} (hx : I64 x) : TK a W B { P with set := x } (w.setCell ⟨B, 2, none⟩ (.int .i64 x)) :=
  H.turn ha hB rfl ⟨H.wf.mode, H.wf.sub, hx, H.wf.len, H.wf.ttl, H.wf.ent, H.wf.ing, H.wf.pro, H.wf.bits, H.wf.pay⟩ H.sm
set_option maxRecDepth 100000 in
theorem TK.at_len (H : TK a W B P w) (ha : a < W.heap.size) (hB : W.heap.size < B) {x : Int} (hx : I64 x) : TK a W B { P with len := x } (w.setCell ⟨B, 3, none⟩ (.int .i64 x)) :=
  H.turn ha hB rfl ⟨H.wf.mode, H.wf.sub, H.wf.set, hx, H.wf.ttl, H.wf.ent, H.wf.ing, H.wf.pro, H.wf.bits, H.wf.pay⟩ H.sm
set_option maxRecDepth 100000 in
theorem TK.at_ttl (H : TK a W B P w) (ha : a < W.heap.size) (hB : W.heap.size < B) {x : Int} (hx : I64 x) : TK a W B { P with ttl := x } (w.setCell ⟨B, 4, none⟩ (.int .i64 x)) :=
  H.turn ha hB rfl ⟨H.wf.mode, H.wf.sub, H.wf.set, H.wf.len, hx, H.wf.ent, H.wf.ing, H.wf.pro, H.wf.bits, H.wf.pay⟩ H.sm
set_option maxRecDepth 100000 in
theorem TK.at_ent (H : TK a W B P w) (ha : a < W.heap.size) (hB : W.heap.size < B) {x : Int} (hx : I64 x) : TK a W B { P with ent := x } (w.setCell ⟨B, 5, none⟩ (.int .i64 x)) :=
  H.turn ha hB rfl ⟨H.wf.mode, H.wf.sub, H.wf.set, H.wf.len, H.wf.ttl, hx, H.wf.ing, H.wf.pro, H.wf.bits, H.wf.pay⟩ H.sm
set_option maxRecDepth 100000 in
theorem TK.at_ing (H : TK a W B P w) (ha : a < W.heap.size) (hB : W.heap.size < B) {x : Int} (hx : I64 x) : TK a W B { P with ing := x } (w.setCell ⟨B, 6, none⟩ (.int .i64 x)) :=
  H.turn ha hB rfl ⟨H.wf.mode, H.wf.sub, H.wf.set, H.wf.len, H.wf.ttl, H.wf.ent, hx, H.wf.pro, H.wf.bits, H.wf.pay⟩ H.sm
set_option maxRecDepth 100000 in
theorem TK.at_pro (H : TK a W B P w) (ha : a < W.heap.size) (hB : W.heap.size < B) {x : Int} (hx : I64 x) : TK a W B { P with pro := x } (w.setCell ⟨B, 7, none⟩ (.int .i64 x)) :=
  H.turn ha hB rfl ⟨H.wf.mode, H.wf.sub, H.wf.set, H.wf.len, H.wf.ttl, H.wf.ent, H.wf.ing, hx, H.wf.bits, H.wf.pay⟩ H.sm
set_option maxRecDepth 100000 in
theorem TK.at_pay (H : TK a W B P w) (ha : a < W.heap.size) (hB : W.heap.size < B) {s : ByteArray} (hs : s.size ≤ 100) : TK a W B { P with pay := s } (w.setCell ⟨B, 9, none⟩ (.string s)) :=
  H.turn ha hB rfl ⟨H.wf.mode, H.wf.sub, H.wf.set, H.wf.len, H.wf.ttl, H.wf.ent, H.wf.ing, H.wf.pro, H.wf.bits, Nat.le_trans hs (by decide)⟩ hs
end
/-- How much the payload lacks. -/
def payLeft (w : World) (B : Nat) : Nat := match w.cell? ⟨B, 9, none⟩ with | some (.string s) => 62 - s.size | _ => 0
set_option maxRecDepth 100000 in
set_option maxHeartbeats 3200000 in
theorem packetN_any (a : Nat) (n : Int) (hn : 1 ≤ n) (hn2 : n ≤ 1000) (w : World) (hT : Tp w a) :
    Calls Tryd.prog 15 #[.pointer (some ⟨a, 0, none⟩), .int .i64 n] w fun e w' => AnyPacketPost a w e w' := by
  have ha := hT.lt
  obtain ⟨k1, k2⟩ := one_box w zpk 25
  have HB := Lib.hid k1
  have S0 : St a w (w.alloc (.cells zpk 25)) := ⟨grown_none k2 _, hT.keep k2⟩
  clear k1 k2
  unfold zpk at HB S0
  go_enter Tryd.func15, Tryd.ntmps15
  go_wp2_with fail
  generalize w.alloc _ = wa at *
  change Hid (wa.heap[w.heap.size]? = some (.cells zpk 25 (0, 0))) at HB
  refine (length_any a _ S0.2).mono ?_
  rintro e w1 ⟨len, rfl, hlen, hs1⟩
  have S1 := S0.trans hs1
  go_wp2_with fail
  refine (range_any a 1 3 (by decide) (by decide) (by decide) (by decide) _ S1.2).mono ?_
  rintro e w2 ⟨mode, rfl, hmode, hs2⟩
  go_wp2_with fail
  refine (range_any a 0 7 (by decide) (by decide) (by decide) (by decide) _ hs2.2).mono ?_
  rintro e w3 ⟨sub, rfl, hsub, hs3⟩
  go_wp2_with fail
  refine (pick_any (fun r => 0 ≤ r ∧ r ≤ 31) a _ 0 5 5 (by omega) (by omega) _ (hs3.2.alloc _) (among_list _ w3 a [0, 0, 1, 2, 31] _ _ hs3.2.lt rfl (by decide))).mono ?_
  rintro e w4 ⟨set, rfl, hset, hs4⟩
  go_wp2_with fail
  refine (pick_any (fun r => 0 ≤ r ∧ r ≤ 63) a _ 0 5 5 (by omega) (by omega) _ (hs4.2.alloc _) (among_list _ w4 a [0, 1, 2, 5, 63] _ _ hs4.2.lt rfl (by decide))).mono ?_
  rintro e w5 ⟨ttl, rfl, httl, hs5⟩
  go_wp2_with fail
  refine (next_any a 1024 (by unfold I64; omega) _ hs5.2).mono ?_
  rintro e w6 ⟨ent, rfl, hent, hs6⟩
  go_wp2_with fail
  refine (pick_any (fun r => 0 ≤ r ∧ r ≤ 256) a _ 0 5 5 (by omega) (by omega) _ (hs6.2.alloc _) (among_list _ w6 a [0, 1, 8, 255, 256] _ _ hs6.2.lt rfl (by decide))).mono ?_
  rintro e w7 ⟨ing, rfl, hing, hs7⟩
  go_wp2_with fail
  refine (next_any a 8 (by unfold I64; omega) _ hs7.2).mono ?_
  rintro e w8 ⟨pro, rfl, hpro, hs8⟩
  go_wp2_with fail
  refine (bits_any a len hlen _ hs8.2).mono ?_
  rintro e w9 ⟨bits, rfl, hbu, hbv, hs9⟩
  go_wp2_with fail
  refine (text_any a 6 (by decide) _ hs9.2).mono ?_
  rintro e w10 ⟨pay, rfl, hpay, hs10⟩
  have S' := ((((((((hs1.trans hs2).trans hs3).trans hs4.alloc_left).trans hs5.alloc_left).trans hs6).trans hs7.alloc_left).trans hs8).trans hs9).trans hs10
  have S := Lib.hid (S0.trans S')
  have HR := Lib.hid (kept_row HB.out S'.1 (fun e => by have := Option.some.inj e; omega))
  have hV : Hid (vpk ⟨mode, sub, set, len, ttl, ent, ing, pro, bits, pay⟩ = true ∧ (⟨mode, sub, set, len, ttl, ent, ing, pro, bits, pay⟩ : Pk).Wf) := by
    have r1 := hmode.1
    have r2 := hmode.2.1 (by decide)
    have r3 := hsub.1
    have r4 := hsub.2.1 (by decide)
    have r5 := hent.1
    have r6 := hent.2.1 (by decide)
    have r7 := hpro.1
    have r8 := hpro.2.1 (by decide)
    refine Lib.hid ⟨decide_eq_true ⟨⟨r1, r2⟩, ⟨r3, r4⟩, hset, httl, ⟨r5, by show ent ≤ 1023; omega⟩, hing, ⟨r7, by show pro ≤ 7; omega⟩, Nat.le_trans hpay (by decide), hbv⟩, ?_⟩
    have hl : I64 len := by rcases vl_cases hlen with h | h | h | h <;> rw [h] <;> (unfold I64; decide)
    obtain ⟨q1, q2⟩ := hset
    obtain ⟨q3, q4⟩ := httl
    obtain ⟨q5, q6⟩ := hing
    exact ⟨i64_small (x := mode) (by omega) (by omega), i64_small (x := sub) (by omega) (by omega), i64_small (x := set) (by omega) (by omega), hl, i64_small (x := ttl) (by omega) (by omega), i64_small (x := ent) (by omega) (by omega), i64_small (x := ing) (by omega) (by omega), i64_small (x := pro) (by omega) (by omega), hbu, Nat.le_trans hpay (by decide)⟩
  have g11 := World.grownBy_alloc w10 (.cells #[.int .i64 mode, .int .i64 sub, .int .i64 set, .int .i64 len, .int .i64 ttl, .int .i64 ent, .int .i64 ing, .int .i64 pro, .int .u64 (bits : Int), .string pay] 25) none
  have HR2 := Lib.hid (kept_row HR.out g11 (by simp))
  have S2 := Lib.hid (S.out.none_ g11)
  have K0 : Hid (TK a w w10.heap.size ⟨mode, sub, set, len, ttl, ent, ing, pro, bits, pay⟩ (w10.alloc (.cells #[.int .i64 mode, .int .i64 sub, .int .i64 set, .int .i64 len, .int .i64 ttl, .int .i64 ent, .int .i64 ing, .int .i64 pro, .int .u64 (bits : Int), .string pay] 25))) := Lib.hid ⟨heap_alloc_new w10 _, HR2.out, S2.out, hV.out.2, Nat.le_trans hpay (by decide)⟩
  have hB : w.heap.size < w10.heap.size := by have h := S.out.1.size; have h2 := World.lt_of_row' HR.out; omega
  have HBB := Lib.hid hB
  have HPY := Lib.hid hpay
  clear S' S HR HR2 S2 hV hB HB S0 S1 hs1 hs2 hs3 hs4 hs5 hs6 hs7 hs8 hs9 hs10 hmode hsub hset httl hent hing hpro hbu hbv hpay hlen g11
  go_upto_region 3 with fail
  generalize w10.alloc (.cells #[.int .i64 mode, .int .i64 sub, .int .i64 set, .int .i64 len, .int .i64 ttl, .int .i64 ent, .int .i64 ing, .int .i64 pro, .int .u64 (bits : Int), .string pay] 25) = w11 at *
  have hT11 := K0.out.st.2
  go_wp2_with fail
  refine (one_any a n (by unfold I64; omega) _ hT11).mono ?_
  rintro e w12 ⟨b, rfl, hs⟩
  have K1 := Lib.hid (K0.out.tape ha HBB.out hs)
  clear K0 hT11 hs
  go_upto_if 39 with fail
  go_cut [] from 40 to 96 (fun wx => ∃ P, Hid (TK a w w10.heap.size P wx))
  case first =>
    cases b with
    | false =>
      go_wp2_with fail
      go_meet
      exact ⟨_, K1⟩
    | true =>
      have hT12 := K1.out.st.2
      go_wp2_with fail
      refine (next_any a 9 (by unfold I64; omega) _ hT12).mono ?_
      rintro e w13 ⟨r, rfl, hr, hs⟩
      have K2 := Lib.hid (K1.out.tape ha HBB.out hs)
      clear K1 hT12 hs
      have hr9 : 0 ≤ r ∧ r < 9 := ⟨hr.1, hr.2.1 (by decide)⟩
      obtain ⟨p0, p1, p2, p3, p4, p5, p6, p7, p8, p9⟩ := p_facts K2.out.pb
      have hT13 := K2.out.st.2
      rcases (show r = 0 ∨ r = 1 ∨ r = 2 ∨ r = 3 ∨ r = 4 ∨ r = 5 ∨ r = 6 ∨ r = 7 ∨ r = 8 by omega) with rfl | rfl | rfl | rfl | rfl | rfl | rfl | rfl | rfl
      · go_wp2_with fail
        refine (wild_any a _ hT13).mono ?_
        rintro e w14 ⟨x, rfl, hx, hs⟩
        have K3 := Lib.hid (K2.out.tape ha HBB.out hs)
        have c0 : w14.cell? ⟨w10.heap.size, 0, none⟩ = some (.int .i64 mode) := cell_of_row _ _ _ _ _ _ K3.out.pb
        have c1 := frozen_of_row _ _ 0 _ _ K3.out.pb
        have K4 := Lib.hid (K3.out.at_mode ha HBB.out hx)
        clear K2 K3 hs p0 p1 p2 p3 p4 p5 p6 p7 p8 p9
        go_wp2_with fail
        go_meet
        exact ⟨_, K4⟩
      · go_wp2_with fail
        refine (wild_any a _ hT13).mono ?_
        rintro e w14 ⟨x, rfl, hx, hs⟩
        have K3 := Lib.hid (K2.out.tape ha HBB.out hs)
        have c0 : w14.cell? ⟨w10.heap.size, 1, none⟩ = some (.int .i64 sub) := cell_of_row _ _ _ _ _ _ K3.out.pb
        have c1 := frozen_of_row _ _ 1 _ _ K3.out.pb
        have K4 := Lib.hid (K3.out.at_sub ha HBB.out hx)
        clear K2 K3 hs p0 p1 p2 p3 p4 p5 p6 p7 p8 p9
        go_wp2_with fail
        go_meet
        exact ⟨_, K4⟩
      · go_wp2_with fail
        refine (wild_any a _ hT13).mono ?_
        rintro e w14 ⟨x, rfl, hx, hs⟩
        have K3 := Lib.hid (K2.out.tape ha HBB.out hs)
        have c0 : w14.cell? ⟨w10.heap.size, 2, none⟩ = some (.int .i64 set) := cell_of_row _ _ _ _ _ _ K3.out.pb
        have c1 := frozen_of_row _ _ 2 _ _ K3.out.pb
        have K4 := Lib.hid (K3.out.at_set ha HBB.out hx)
        clear K2 K3 hs p0 p1 p2 p3 p4 p5 p6 p7 p8 p9
        go_wp2_with fail
        go_meet
        exact ⟨_, K4⟩
      · go_wp2_with fail
        refine (pick_any (fun r => I64 r) a _ 0 8 8 (by omega) (by omega) _ (hT13.alloc _) (among_list _ w13 a [0, 8, 16, 24, 63, 64, 65, -8] _ _ hT13.lt rfl (by unfold I64; decide))).mono ?_
        rintro e w14 ⟨x, rfl, hx, hs0⟩
        have hs := hs0.alloc_left
        have K3 := Lib.hid (K2.out.tape ha HBB.out hs)
        have c0 : w14.cell? ⟨w10.heap.size, 3, none⟩ = some (.int .i64 len) := cell_of_row _ _ _ _ _ _ K3.out.pb
        have c1 := frozen_of_row _ _ 3 _ _ K3.out.pb
        have K4 := Lib.hid (K3.out.at_len ha HBB.out hx)
        clear K2 K3 hs hs0 p0 p1 p2 p3 p4 p5 p6 p7 p8 p9
        go_wp2_with fail
        go_meet
        exact ⟨_, K4⟩
      · go_wp2_with fail
        refine (wild_any a _ hT13).mono ?_
        rintro e w14 ⟨x, rfl, hx, hs⟩
        have K3 := Lib.hid (K2.out.tape ha HBB.out hs)
        have c0 : w14.cell? ⟨w10.heap.size, 4, none⟩ = some (.int .i64 ttl) := cell_of_row _ _ _ _ _ _ K3.out.pb
        have c1 := frozen_of_row _ _ 4 _ _ K3.out.pb
        have K4 := Lib.hid (K3.out.at_ttl ha HBB.out hx)
        clear K2 K3 hs p0 p1 p2 p3 p4 p5 p6 p7 p8 p9
        go_wp2_with fail
        go_meet
        exact ⟨_, K4⟩
      · go_wp2_with fail
        refine (wild_any a _ hT13).mono ?_
        rintro e w14 ⟨x, rfl, hx, hs⟩
        have K3 := Lib.hid (K2.out.tape ha HBB.out hs)
        have c0 : w14.cell? ⟨w10.heap.size, 5, none⟩ = some (.int .i64 ent) := cell_of_row _ _ _ _ _ _ K3.out.pb
        have c1 := frozen_of_row _ _ 5 _ _ K3.out.pb
        have K4 := Lib.hid (K3.out.at_ent ha HBB.out hx)
        clear K2 K3 hs p0 p1 p2 p3 p4 p5 p6 p7 p8 p9
        go_wp2_with fail
        go_meet
        exact ⟨_, K4⟩
      · go_wp2_with fail
        refine (wild_any a _ hT13).mono ?_
        rintro e w14 ⟨x, rfl, hx, hs⟩
        have K3 := Lib.hid (K2.out.tape ha HBB.out hs)
        have c0 : w14.cell? ⟨w10.heap.size, 6, none⟩ = some (.int .i64 ing) := cell_of_row _ _ _ _ _ _ K3.out.pb
        have c1 := frozen_of_row _ _ 6 _ _ K3.out.pb
        have K4 := Lib.hid (K3.out.at_ing ha HBB.out hx)
        clear K2 K3 hs p0 p1 p2 p3 p4 p5 p6 p7 p8 p9
        go_wp2_with fail
        go_meet
        exact ⟨_, K4⟩
      · go_wp2_with fail
        refine (wild_any a _ hT13).mono ?_
        rintro e w14 ⟨x, rfl, hx, hs⟩
        have K3 := Lib.hid (K2.out.tape ha HBB.out hs)
        have c0 : w14.cell? ⟨w10.heap.size, 7, none⟩ = some (.int .i64 pro) := cell_of_row _ _ _ _ _ _ K3.out.pb
        have c1 := frozen_of_row _ _ 7 _ _ K3.out.pb
        have K4 := Lib.hid (K3.out.at_pro ha HBB.out hx)
        clear K2 K3 hs p0 p1 p2 p3 p4 p5 p6 p7 p8 p9
        go_wp2_with fail
        go_meet
        exact ⟨_, K4⟩
      · go_wp2_with fail
        go_loopw [44] (fun _ wr => ∃ P : Pk, P.pay.size ≤ 64 ∧ Hid (TK a w w10.heap.size P wr)) (fun _ wr => payLeft wr w10.heap.size)
        case atStart => exact ⟨_, Nat.le_trans HPY.out (by decide), K2⟩
        case round =>
          obtain ⟨P, hP64, HK⟩ := hrel
          clear K2 p0 p1 p2 p3 p4 p5 p6 p7 p8 p9 hT13
          have c9 : wr.cell? ⟨w10.heap.size, 9, none⟩ = some (.string P.pay) := cell_of_row _ _ _ _ _ _ HK.out.pb
          have d9 := frozen_of_row _ _ 9 _ _ HK.out.pb
          by_cases hlt : P.pay.size < 62
          · have hsz : (P.pay ++ ⟨#[97, 98, 99]⟩ : ByteArray).size = P.pay.size + 3 := by rw [ByteArray.size_append]; rfl
            have K' := HK.out.at_pay ha HBB.out (s := P.pay ++ ⟨#[97, 98, 99]⟩) (by rw [hsz]; omega)
            have c9' : (wr.setCell ⟨w10.heap.size, 9, none⟩ (.string (P.pay ++ ⟨#[97, 98, 99]⟩))).cell? ⟨w10.heap.size, 9, none⟩ = some (.string (P.pay ++ ⟨#[97, 98, 99]⟩)) := cell_of_row _ _ _ _ _ _ K'.pb
            have H9 := Lib.hid (And.intro c9 (And.intro c9' hsz))
            have HK' := Lib.hid K'
            clear c9' hsz K'
            go_wp2_with fail
            go_roundw
            case rel => exact ⟨_, by show (P.pay ++ ⟨#[97, 98, 99]⟩ : ByteArray).size ≤ 64; rw [H9.out.2.2]; omega, HK'⟩
            case measure =>
              unfold payLeft
              rw [H9.out.1, H9.out.2.1]
              show 62 - (P.pay ++ ⟨#[97, 98, 99]⟩ : ByteArray).size < 62 - P.pay.size
              rw [H9.out.2.2]; omega
          · have hT14 := HK.out.st.2
            go_wp2_with fail
            go_region_law (first
              | (go_simp; go_at_call 62; refine (text_any a 4 (by decide) _ hT14.drew).mono ?_; rintro e w15 ⟨s, rfl, hs4, hs⟩; have K5 := Lib.hid (HK.out.tape ha HBB.out (w1 := w15) ⟨grown_trans (grown_drew (grown_refl wr _)) hs.1, hs.2⟩); have e9 : w15.cell? ⟨w10.heap.size, 9, none⟩ = some (.string P.pay) := cell_of_row _ _ _ _ _ _ K5.out.pb; have f9 := frozen_of_row _ _ 9 _ _ K5.out.pb; have K6 := Lib.hid (K5.out.at_pay ha HBB.out (s := P.pay ++ s) (by rw [ByteArray.size_append]; omega)); have hcat : ¬ 9223372036854775807 < P.pay.size + s.size := (by omega); clear hs))
            all_goals
              clear K5 c9 d9 e9 f9 hcat hs4
              go_wp2_with fail
              go_meet
              exact ⟨_, K6⟩
  case rest =>
    obtain ⟨P, HK⟩ := hcut
    obtain ⟨⟨r0, r1, r2, r3, r4, r5, r6, r7, r8, r9⟩, f0, f1, f2, f3, f4, f5, f6, f7, f8, f9⟩ := zp_cells HK.out.rb
    obtain ⟨p0, p1, p2, p3, p4, p5, p6, p7, p8, p9⟩ := p_facts HK.out.pb
    clear K1
    go_wp2_with fail
    refine bodyPost_ret (res_packet rfl _ _ w.heap.size _ rfl rfl (pput_row _ _ _ _ _ _ _ _ _ _ HK.out.rb)) rfl ?_
    exact ⟨P, rfl, HK.out.wf, HK.out.sm, HK.out.st.store (pput_grown _ w.heap.size _ _ _ _ _ _ _ _ _ _) (Nat.le_refl _) ha⟩
end Go.Proofs.YtnfgkakhdgiepaaDoor

/- A list of three packets that a statement draws, and its members. -/
namespace Go.Proofs.YtnfgkakhdgiepaaDoor
open Go.RowKit Bs
set_option maxRecDepth 100000 in
theorem ints_keep {w w1 : World} {v : Value} (h : IntsIn w v) (g : w.grownBy w1 none) : IntsIn w1 v := by
  obtain ⟨p, n, c, hv, h1, h2, h3⟩ := h
  refine ⟨p, n, c, hv, h1, h2, fun hn => ?_⟩
  obtain ⟨b, off, hp, hb, hx⟩ := h3 hn
  refine ⟨b, off, hp, Nat.lt_of_lt_of_le hb g.size, fun i hi => ?_⟩
  obtain ⟨x, hx1, hx2⟩ := hx i hi
  exact ⟨x, hx1, g.cell hx2 (by simp)⟩
set_option maxRecDepth 100000 in
theorem grown_undrew_some {a : Nat} {w w1 : World} (g : w.drew.grownBy w1 (some a)) : w.grownBy w1 (some a) := ⟨g.os, g.tape, g.output, g.size, g.block⟩
set_option maxRecDepth 100000 in
theorem St.tp {a : Nat} {w w1 : World} (h : St a w w1) : Tp w1 a := h.2
set_option maxRecDepth 100000 in
theorem St.gr {a : Nat} {w w1 : World} (h : St a w w1) : w.grownBy w1 (some a) := h.1
/-- A packet comes back, cell by cell. -/
def AggPost (a : Nat) (w : World) (e : Ending) (w' : World) : Prop := ∃ P : Pk, e = .returned (.agg #[.int .i64 P.mode, .int .i64 P.sub, .int .i64 P.set, .int .i64 P.len, .int .i64 P.ttl, .int .i64 P.ent, .int .i64 P.ing, .int .i64 P.pro, .int .u64 (P.bits : Int), .string P.pay]) ∧ P.Wf ∧ St a w w'
set_option maxRecDepth 100000 in
theorem packetN_agg (a : Nat) (n : Int) (hn : 1 ≤ n) (hn2 : n ≤ 1000) (w : World) (hT : Tp w a) :
    Calls Tryd.prog 15 #[.pointer (some ⟨a, 0, none⟩), .int .i64 n] w fun e w' => AggPost a w e w' := by
  refine (packetN_any a n hn hn2 w hT).mono ?_
  rintro e w' ⟨P, rfl, h1, _, h2⟩
  exact ⟨P, rfl, h1, h2⟩
set_option maxRecDepth 100000 in
theorem packet1_agg (a : Nat) (w : World) (hT : Tp w a) :
    Calls Tryd.prog 15 #[.pointer (some ⟨a, 0, none⟩), .int .i64 1] w fun e w' => AggPost a w e w' := packetN_agg a 1 (by decide) (by decide) w hT
set_option maxRecDepth 100000 in
theorem packet2_agg (a : Nat) (w : World) (hT : Tp w a) :
    Calls Tryd.prog 15 #[.pointer (some ⟨a, 0, none⟩), .int .i64 2] w fun e w' => AggPost a w e w' := packetN_agg a 2 (by decide) (by decide) w hT
set_option maxRecDepth 100000 in
theorem packet4_agg (a : Nat) (w : World) (hT : Tp w a) :
    Calls Tryd.prog 15 #[.pointer (some ⟨a, 0, none⟩), .int .i64 4] w fun e w' => AggPost a w e w' := packetN_agg a 4 (by decide) (by decide) w hT
set_option maxRecDepth 100000 in
theorem packet0_agg (a : Nat) (w : World) (hT : Tp w a) :
    Calls Tryd.prog 15 #[.pointer (some ⟨a, 0, none⟩), .int .i64 0] w fun e w' => AggPost a w e w' := by
  refine (packet0_any a w hT).mono ?_
  rintro e w' ⟨P, rfl, h1, _, h2⟩
  exact ⟨P, rfl, h1, h2⟩
set_option maxRecDepth 100000 in
theorem keep12 {w0 w' : World} {a b : Nat} {P : Pk} (h : w0.heap[b]? = some (.cells (pcells P) 25 (0, 0))) (hab : b ≠ a) (hT : Tp w' a) (hg : Hid (w0.grownBy w' (some a))) :
    w'.cell? ⟨b, 0, none⟩ = some (.int .i64 P.mode) ∧ w'.cell? ⟨b, 1, none⟩ = some (.int .i64 P.sub) ∧ w'.cell? ⟨b, 2, none⟩ = some (.int .i64 P.set) ∧ w'.cell? ⟨b, 3, none⟩ = some (.int .i64 P.len) ∧ w'.cell? ⟨b, 4, none⟩ = some (.int .i64 P.ttl) ∧ w'.cell? ⟨b, 5, none⟩ = some (.int .i64 P.ent) ∧ w'.cell? ⟨b, 6, none⟩ = some (.int .i64 P.ing) ∧ w'.cell? ⟨b, 7, none⟩ = some (.int .i64 P.pro) ∧ w'.cell? ⟨b, 8, none⟩ = some (.int .u64 (P.bits : Int)) ∧ w'.cell? ⟨b, 9, none⟩ = some (.string P.pay) ∧ Tp w' a ∧ Hid (w0.grownBy w' (some a)) := by
  obtain ⟨h0, h1, h2, h3, h4, h5, h6, h7, h8, h9⟩ := p_facts (kept_row h hg.out (fun e => hab (Option.some.inj e)))
  exact ⟨h0, h1, h2, h3, h4, h5, h6, h7, h8, h9, hT, hg⟩
/-- The cells of three packets. -/
def c30 (P Q R : Pk) : Array Value := #[.int .i64 P.mode, .int .i64 P.sub, .int .i64 P.set, .int .i64 P.len, .int .i64 P.ttl, .int .i64 P.ent, .int .i64 P.ing, .int .i64 P.pro, .int .u64 (P.bits : Int), .string P.pay,
  .int .i64 Q.mode, .int .i64 Q.sub, .int .i64 Q.set, .int .i64 Q.len, .int .i64 Q.ttl, .int .i64 Q.ent, .int .i64 Q.ing, .int .i64 Q.pro, .int .u64 (Q.bits : Int), .string Q.pay,
  .int .i64 R.mode, .int .i64 R.sub, .int .i64 R.set, .int .i64 R.len, .int .i64 R.ttl, .int .i64 R.ent, .int .i64 R.ing, .int .i64 R.pro, .int .u64 (R.bits : Int), .string R.pay]
def sel3 (P Q R : Pk) (j : Nat) : Pk := match j with | 0 => P | 1 => Q | _ => R
/-- Member j of the list. -/
def At10 (w : World) (b j : Nat) (P : Pk) : Prop :=
  w.cell? ⟨b, j * 10, none⟩ = some (.int .i64 P.mode) ∧ w.cell? ⟨b, j * 10 + 1, none⟩ = some (.int .i64 P.sub) ∧ w.cell? ⟨b, j * 10 + 2, none⟩ = some (.int .i64 P.set) ∧ w.cell? ⟨b, j * 10 + 3, none⟩ = some (.int .i64 P.len) ∧ w.cell? ⟨b, j * 10 + 4, none⟩ = some (.int .i64 P.ttl) ∧ w.cell? ⟨b, j * 10 + 5, none⟩ = some (.int .i64 P.ent) ∧ w.cell? ⟨b, j * 10 + 6, none⟩ = some (.int .i64 P.ing) ∧ w.cell? ⟨b, j * 10 + 7, none⟩ = some (.int .i64 P.pro) ∧ w.cell? ⟨b, j * 10 + 8, none⟩ = some (.int .u64 (P.bits : Int)) ∧ w.cell? ⟨b, j * 10 + 9, none⟩ = some (.string P.pay)
set_option maxRecDepth 100000 in
theorem c30_at {w : World} {b : Nat} {P Q R : Pk} (hr : w.heap[b]? = some (.cells (c30 P Q R) 25 (0, 0))) (j : Nat) (hj : j < 3) : At10 w b j (sel3 P Q R j) := by
  rcases (show j = 0 ∨ j = 1 ∨ j = 2 by omega) with rfl | rfl | rfl
  · exact ⟨cell_of_row _ _ _ _ _ _ hr, cell_of_row _ _ _ _ _ _ hr, cell_of_row _ _ _ _ _ _ hr, cell_of_row _ _ _ _ _ _ hr, cell_of_row _ _ _ _ _ _ hr, cell_of_row _ _ _ _ _ _ hr, cell_of_row _ _ _ _ _ _ hr, cell_of_row _ _ _ _ _ _ hr, cell_of_row _ _ _ _ _ _ hr, cell_of_row _ _ _ _ _ _ hr⟩
  · exact ⟨cell_of_row _ _ _ _ _ _ hr, cell_of_row _ _ _ _ _ _ hr, cell_of_row _ _ _ _ _ _ hr, cell_of_row _ _ _ _ _ _ hr, cell_of_row _ _ _ _ _ _ hr, cell_of_row _ _ _ _ _ _ hr, cell_of_row _ _ _ _ _ _ hr, cell_of_row _ _ _ _ _ _ hr, cell_of_row _ _ _ _ _ _ hr, cell_of_row _ _ _ _ _ _ hr⟩
  · exact ⟨cell_of_row _ _ _ _ _ _ hr, cell_of_row _ _ _ _ _ _ hr, cell_of_row _ _ _ _ _ _ hr, cell_of_row _ _ _ _ _ _ hr, cell_of_row _ _ _ _ _ _ hr, cell_of_row _ _ _ _ _ _ hr, cell_of_row _ _ _ _ _ _ hr, cell_of_row _ _ _ _ _ _ hr, cell_of_row _ _ _ _ _ _ hr, cell_of_row _ _ _ _ _ _ hr⟩
set_option maxRecDepth 100000 in
theorem At10.keep {w w' : World} {b j : Nat} {P : Pk} (h : At10 w b j P) (g : w.grownBy w' none) : At10 w' b j P := by
  obtain ⟨h0, h1, h2, h3, h4, h5, h6, h7, h8, h9⟩ := h
  exact ⟨g.cell h0 (by simp), g.cell h1 (by simp), g.cell h2 (by simp), g.cell h3 (by simp), g.cell h4 (by simp), g.cell h5 (by simp), g.cell h6 (by simp), g.cell h7 (by simp), g.cell h8 (by simp), g.cell h9 (by simp)⟩
set_option maxRecDepth 100000 in
theorem sel3_wf {P Q R : Pk} (h1 : P.Wf) (h2 : Q.Wf) (h3 : R.Wf) (j : Nat) : (sel3 P Q R j).Wf := by
  unfold sel3
  split <;> assumption
end Go.Proofs.YtnfgkakhdgiepaaDoor

/- packet: the header of a packet is written. -/
namespace Go.Proofs.YtnfgkakhdgiepaaDoor
open Go.RowKit Bs
set_option maxRecDepth 100000 in
set_option maxHeartbeats 600000 in
theorem writeHeader_any (P : Pk) (hv : vpk P = true) (w : World) (hT : Tb w) :
    Calls Tryd.prog 68 #[P.val] w fun e w' => BP (flb (fl P)) w e w' := by
  unfold Pk.val
  go_enter Tryd.func68, Tryd.ntmps68
  go_wp2_with fail
  obtain ⟨k1, k2, k3, k4⟩ := two_boxes w (pcells P) #[.slice none 0 0, .int .i64 0] 25 91
  have RP := Lib.hid k1
  have RS := Lib.hid k2
  have G := Lib.hid k3
  have SZ := Lib.hid k4
  have HTB := Lib.hid (hT.keep k3)
  clear k1 k2 k3 k4
  unfold pcells at RP RS G SZ HTB
  generalize ((w.alloc (.cells #[.int .i64 P.mode, .int .i64 P.sub, .int .i64 P.set, .int .i64 P.len, .int .i64 P.ttl, .int .i64 P.ent, .int .i64 P.ing, .int .i64 P.pro, .int .u64 (P.bits : Int), .string P.pay] 25)).alloc (.cells #[.slice none 0 0, .int .i64 0] 91)) = w2 at *
  change Hid (w2.heap[w.heap.size]? = some (.cells (pcells P) 25 (0, 0))) at RP
  obtain ⟨a0, a1, a2, a3, a4, a5, a6, a7, a8, a9⟩ := p_facts RP.out
  have RPZ := Lib.hid (kept_row RP.out (World.grownBy_alloc w2 (.cells zcells 101) none) (by simp))
  have RHZ := Lib.hid (heap_alloc_new w2 (.cells zcells 101))
  have RPd : Hid (w2.drew.heap[w.heap.size]? = some (.cells (pcells P) 25 (0, 0))) := Lib.hid RP.out
  have RPZd : Hid ((w2.alloc (.cells zcells 101)).drew.heap[w.heap.size]? = some (.cells (pcells P) 25 (0, 0))) := Lib.hid RPZ.out
  have SZ2 : Hid (w.heap.size ≠ w2.heap.size) := Lib.hid (by rw [SZ.out]; omega)
  have RPH : Hid ((w2.alloc (.cells (hcells P) 101)).drew.heap[w.heap.size]? = some (.cells (pcells P) 25 (0, 0))) := Lib.hid (kept_row RP.out (grown_drew (World.grownBy_alloc w2 (.cells (hcells P) 101) none)) (by simp))
  have RH : Hid ((w2.alloc (.cells (hcells P) 101)).drew.heap[w2.heap.size]? = some (.cells (hcells P) 101 (0, 0))) := Lib.hid (heap_alloc_new w2 (.cells (hcells P) 101))
  have GH : Hid (w.grownBy (w2.alloc (.cells (hcells P) 101)).drew none) := Lib.hid (grown_trans G.out (grown_drew (World.grownBy_alloc w2 (.cells (hcells P) 101) none)))
  have RS3 : Hid ((w2.alloc (.cells (hcells P) 101)).drew.heap[w.heap.size + 1]? = some (.cells #[.slice none 0 0, .int .i64 0] 91 (0, 0))) := Lib.hid (kept_row RS.out (grown_drew (World.grownBy_alloc w2 (.cells (hcells P) 101) none)) (by simp))
  obtain ⟨w3, hw3⟩ : ∃ w3, w3 = (w2.alloc (.cells (hcells P) 101)).drew := ⟨_, rfl⟩
  rw [← hw3] at RH GH RS3
  unfold hcells at RPH hw3
  unfold zcells at RPZ RPZd
  obtain ⟨f0, f1, f2, f3, f4, f5, f6, f7, f8, f9, f10, f11, f12⟩ := h_facts RHZ.out
  unfold zcells at f0 f1 f2 f3 f4 f5 f6 f7 f8 f9 f10 f11 f12
  have hvl := vb_vl (vpk_parts hv).2.2.2.2.2.2.2.2
  have HL : Hid (IntKind.u64.wrap (IntKind.i64.wrap (P.len.tdiv 8)) = ((P.len.toNat / 8 : Nat) : Int)) := Lib.hid (by rcases vl_cases hvl with h | h | h | h <;> rw [h] <;> decide)
  have HF := Lib.hid (fst_code hvl)
  have HU : Hid (U64 (P.len.toNat / 8)) := Lib.hid (by rcases vl_cases hvl with h | h | h | h <;> rw [h] <;> (unfold U64; decide))
  clear hvl
  go_cut [3] from 7 to 16 (fun hh wx => hh = .pointer (some ⟨w2.heap.size, 0, none⟩) ∧ wx = w3)
  case first =>
    go_region_held3 (fun w' => w'.cell? ⟨w.heap.size, 0, none⟩ = some (.int .i64 P.mode) ∧ w'.cell? ⟨w.heap.size, 1, none⟩ = some (.int .i64 P.sub) ∧ w'.cell? ⟨w.heap.size, 2, none⟩ = some (.int .i64 P.set) ∧ w'.cell? ⟨w.heap.size, 3, none⟩ = some (.int .i64 P.len) ∧ w'.cell? ⟨w.heap.size, 4, none⟩ = some (.int .i64 P.ttl) ∧ w'.cell? ⟨w.heap.size, 5, none⟩ = some (.int .i64 P.ent) ∧ w'.cell? ⟨w.heap.size, 6, none⟩ = some (.int .i64 P.ing) ∧ w'.cell? ⟨w.heap.size, 7, none⟩ = some (.int .i64 P.pro) ∧ w'.cell? ⟨w.heap.size, 8, none⟩ = some (.int .u64 (P.bits : Int)) ∧ w'.cell? ⟨w.heap.size, 9, none⟩ = some (.string P.pay))
      (first | (with_reducible exact p_facts RP.out) | (with_reducible exact p_facts RPd.out) | (with_reducible exact p_facts RPZ.out) | (with_reducible exact p_facts RPZd.out) | (with_reducible exact p_facts RPH.out))
      ((go_at_call 108; go_split_ands; simp only [HL.out]; refine (firstp_any _ HU.out _ (HTB.out.keep ?_)).mono ?_; (focus (repeat (first | (with_reducible exact grown_refl _ _) | apply grown_drew | (with_reducible exact World.grownBy_alloc _ _ _)))); rintro e w' ⟨rfl, rfl⟩; rw [HF.out]))
    all_goals
      rw [← hw3]
      go_wp2_with fail
      go_meet
      exact ⟨rfl, rfl⟩
  case rest =>
    obtain ⟨rfl, rfl⟩ := hcut
    clear a0 a1 a2 a3 a4 a5 a6 a7 a8 a9 f0 f1 f2 f3 f4 f5 f6 f7 f8 f9 f10 f11 f12 RPH RPZ RPZd RPd RP RS HL HF HU hw3 HTB RHZ
    go_wp2_with fail
    refine (fields_any w2.heap.size _).mono ?_
    rintro e w5 ⟨g, rfl, hfb, hge, hg5⟩
    obtain ⟨q1, q2⟩ := one_box wc #[.slice none 0 0, .int .i64 0] 91
    have hSw : w2.heap.size < wc.heap.size := World.lt_of_row' RH.out
    have hge2 : wc.heap.size < g := by have : (wc.alloc (.cells #[.slice none 0 0, .int .i64 0] 91)).heap.size = wc.heap.size + 1 := by simp
                                       omega
    have hW : Hid (WH w P w2.heap.size g wc.heap.size (flb ((fl P).take 0)) w5) := by
      rw [show flb ((fl P).take 0) = [] from rfl]
      refine Lib.hid ⟨hfb, kept_row RH.out (grown_trans q2 hg5) (by simp), ⟨none, 0, ?_, ?_, fun _ => rfl⟩, kept_row RS3.out (grown_trans q2 hg5) (by simp), grown_trans GH.out (grown_trans q2 hg5)⟩
      · rw [show pk [] = [] from rfl]; exact kept_row q1 hg5 (by simp)
      · rw [show pk [] = [] from rfl]; exact Rd.nil_ _ _ _ _
    have HN : Hid (wc.heap.size ≠ w2.heap.size ∧ wc.heap.size ≠ g ∧ w.heap.size + 2 ≤ wc.heap.size) := Lib.hid ⟨by omega, by omega, by rw [SZ.out] at hSw; omega⟩
    clear RS3 GH RH q1 q2 hfb hge hg5 hSw hge2 SZ SZ2 G
    go_wp2_with fail
    go_loopw [19] (fun i wr => ∃ k : Nat, k ≤ 10 ∧ i = .int .i64 (k : Int) ∧ Hid (WH w P w2.heap.size g wc.heap.size (flb ((fl P).take k)) wr)) (fun i _ => (10 - (intOf i).toNat))
    case atStart => exact ⟨0, Nat.zero_le _, rfl, hW⟩
    case round =>
      obtain ⟨k, hk, rfl, hR⟩ := hrel
      clear hW
      by_cases hk2 : k < 10
      · obtain ⟨o, wd, x, hc0, hc1, hc2, hx, hwd, hfl⟩ := field_at hv w2.heap.size k hk2
        have d0 := (cell_of_row _ _ _ _ _ _ hR.out.fb).trans hc0
        have d1 := (cell_of_row _ _ _ _ _ _ hR.out.fb).trans hc1
        have d2 := (cell_of_row _ _ _ _ _ _ hR.out.hb).trans hc2
        have hle := flb_take_le P k
        have hsn := flb_snoc hfl
        generalize flb ((fl P).take k) = B at *
        obtain ⟨B2, hB2⟩ : ∃ B2, B2 = flb ((fl P).take (k + 1)) := ⟨_, rfl⟩
        rw [← hB2] at hsn
        have HB2 := Lib.hid hB2
        clear hB2
        have HSN := Lib.hid hsn
        have HR := hR
        clear hfl hc0 hc1 hc2 hsn hR
        go_wp2_with fail
        have HRf := Lib.hid (HR.out.keep (World.grownBy_alloc wr (.cells #[.pointer (some ⟨w2.heap.size, o, none⟩), .int .i64 (wd : Int)] 124) none))
        have RF := Lib.hid (heap_alloc_new wr (.cells #[.pointer (some ⟨w2.heap.size, o, none⟩), .int .i64 (wd : Int)] 124))
        have d2 := (World.grownBy_alloc wr (.cells #[.pointer (some ⟨w2.heap.size, o, none⟩), .int .i64 (wd : Int)] 124) none).cell d2 (by simp)
        clear d0 d1 HR
        generalize wr.alloc (.cells #[.pointer (some ⟨w2.heap.size, o, none⟩), .int .i64 (wd : Int)] 124) = wf at *
        obtain ⟨p, c, hs, hRd, hpc⟩ := HRf.out.st
        obtain ⟨s0, s1⟩ := row_cells hs
        have x0 : wf.cell? ⟨wr.heap.size, 0, none⟩ = some (.pointer (some ⟨w2.heap.size, o, none⟩)) := cell_of_row _ _ _ _ _ _ RF.out
        have x1 : wf.cell? ⟨wr.heap.size, 1, none⟩ = some (.int .i64 (wd : Int)) := cell_of_row _ _ _ _ _ _ RF.out
        have HX : Hid (IntKind.u64.wrap (x : Int) = (x : Int)) := Lib.hid (by have : x < 2 ^ 10 := Nat.lt_of_lt_of_le hx (Nat.pow_le_pow_right (by decide) hwd); rw [IntKind.wrap_u64]; omega)
        have HA := Lib.hid fun (w' : World) (hg : wf.grownBy w' none) => append_bits (B := B) (v := x) (k := wd) (Nat.le_trans hwd (by decide)) hx (by omega) (hRd.keep hg)
        rw [← HSN.out] at HA
        clear hs hRd hpc RF
        go_region_law (first
          | (go_simp; go_at_call 69; (try simp only [HX.out]); refine (HA.out _ (grown_drew (grown_refl _ _))).mono ?_; rintro e w7 ⟨p2, c2, rfl, hR2, hp2, hg7⟩; have H7 := Lib.hid ((HRf.out.keep (grown_drew (grown_refl _ none))).keep hg7); have R7 := Lib.hid (And.intro hR2 hp2); obtain ⟨p7, c7, hs7, _, _⟩ := H7.out.st; obtain ⟨t0, t1⟩ := row_cells hs7; have z0 := frozen_of_row _ _ 0 _ _ hs7; have z1 := frozen_of_row _ _ 1 _ _ hs7; clear hR2 hp2 hg7 hs7))
        all_goals
          have HK : Hid (WH w P w2.heap.size g wc.heap.size B2 ((w7.setCell ⟨wc.heap.size, 0, none⟩ (.slice p2 (pk B2).length c2)).setCell ⟨wc.heap.size, 1, none⟩ (.int .i64 (B2.length : Int)))) := Lib.hid (H7.out.turn HN.out (R7.out.1.weaken fun b hb _ => Nat.lt_of_lt_of_le (World.lt_of_row' HRf.out.st.choose_spec.choose_spec.1) hb) R7.out.2)
          clear t0 t1 z0 z1 s0 s1 x0 x1 HA d2 H7 R7
          generalize (w7.setCell ⟨wc.heap.size, 0, none⟩ (.slice p2 (pk B2).length c2)).setCell ⟨wc.heap.size, 1, none⟩ (.int .i64 (B2.length : Int)) = w8 at *
          go_wp2_with fail
          go_roundw
          case rel => exact ⟨k + 1, by omega, by go_num, by rw [← HB2.out]; exact HK⟩
          case measure => simp [intOf]; omega
      · obtain rfl : k = 10 := by omega
        rw [show (fl P).take 10 = fl P from rfl] at hR
        obtain ⟨p, c, hs, hRd, hpc⟩ := hR.out.st
        obtain ⟨s0, s1⟩ := row_cells hs
        obtain ⟨r0, r1⟩ := row_cells hR.out.rb
        have z0 := frozen_of_row _ _ 0 _ _ hR.out.rb
        have z1 := frozen_of_row _ _ 1 _ _ hR.out.rb
        have HQ := Lib.hid (And.intro hRd hpc)
        clear hs hRd hpc
        go_wp2_with fail
        have hS := HN.out.2.2
        have k2 := grown_store2 wr (w.heap.size + 1) (.slice p (pk (flb (fl P))).length c) (.int .i64 ((flb (fl P)).length : Int))
        refine bodyPost_ret (res_stream rfl _ _ (w.heap.size + 1) _ _ rfl (store2 hR.out.rb)) rfl ?_
        exact ⟨p, c, rfl, (HQ.out.1.weaken (q' := fun b => w.heap.size + 2 ≤ b) fun b hb _ => by omega).grown k2 (fun b hb e => by have := Option.some.inj e; omega) |>.weaken fun b hb _ => by omega, HQ.out.2, grown_new hR.out.gr k2 (by omega)⟩
end Go.Proofs.YtnfgkakhdgiepaaDoor

/- Align of the program: the result lies in a block of its own. -/
namespace Go.Proofs.YtnfgkakhdgiepaaDoor
open Go.RowKit Bs
set_option maxRecDepth 100000 in
set_option maxHeartbeats 3200000 in
theorem alignp_own (l : List Nat) (n : Int) (hv : vs l n = true) (q : Nat → Prop) (p : Option Addr) (c : Nat) (hl : By l) (w : World) (hR : Rd w q (.slice p l.length c) (l.map nv)) :
    Calls Tryd.prog 72 #[.agg #[.slice p l.length c, .int .i64 n]] w fun e w' =>
      ∃ g, e = .returned (.tuple #[.agg #[.slice (some ⟨g, 0, none⟩) l.length l.length, .int .i64 ((8 * l.length : Nat) : Int)], .int .i64 0]) ∧ Blk w' g l ∧ w.heap.size ≤ g ∧ w.grownBy w' none := by
  obtain ⟨k1, k2, k3, k4⟩ := two_boxes w #[.slice p l.length c, .int .i64 n] #[.slice none 0 0, .int .i64 0] 91 91
  have H0 := Lib.hid (And.intro k1 (And.intro k2 (And.intro k3 k4)))
  have hR1 := hR.keep k3
  clear k1 k2 k3 k4 hR
  go_enter Tryd.func72, Tryd.ntmps72
  go_wp2_with fail
  generalize (w.alloc (.cells #[.slice p l.length c, .int .i64 n] 91)).alloc (.cells #[.slice none 0 0, .int .i64 0] 91) = w1 at *
  refine (validp_any l n q p c hl _ hR1).mono ?_
  rintro e w2 ⟨rfl, hg⟩
  have hrow := kept_row H0.out.1 hg (by simp)
  have hres := kept_row H0.out.2.1 hg (by simp)
  obtain ⟨c0, c1⟩ := row_cells hrow
  obtain ⟨r0, r1⟩ := row_cells hres
  have g0 := frozen_of_row _ _ 0 _ _ hres
  have g1 := frozen_of_row _ _ 1 _ _ hres
  have HG := Lib.hid (grown_trans H0.out.2.2.1 hg)
  have HRES := Lib.hid hres
  have HROW := Lib.hid hrow
  have HSZ : Hid (w.heap.size + 2 ≤ w2.heap.size) := Lib.hid (by rw [← H0.out.2.2.2]; exact hg.size)
  have hR2 := hR1.keep hg
  clear hrow hres hg hR1 H0
  obtain ⟨N, rfl⟩ := vs_nat hv
  obtain ⟨hN, hlen⟩ := vs_bits hv
  rw [hv]
  have hB := bytesFor_any N (by omega) w2
  rw [← hlen] at hB
  have H2 := Lib.hid hB
  have hl2 : l.length ≤ 1024 := by omega
  have hTi : 8 * (l.length : Int) = ((8 * l.length : Nat) : Int) := by omega
  have C := zeros_any (8 * l.length) (by omega) w2
  unfold ZerosPost at C
  rw [show (8 * l.length + 7) / 8 = l.length by omega] at C
  obtain ⟨T, hT⟩ : ∃ T : Nat, T = 8 * l.length := ⟨_, rfl⟩
  rw [← hT] at hTi C
  have H1 := Lib.hid C
  have HT := Lib.hid hT
  have hT8 : T ≤ 8192 := by omega
  clear hv hlen C hB hT
  go_wp2_with (first | (go_at_call 115; refine H2.out.mono ?_; rintro e w' ⟨rfl, rfl⟩))
  refine H1.out.mono ?_
  rintro e w3 ⟨g, rfl, hgg, hB3, hg3⟩
  have hrow := kept_row HROW.out hg3 (by simp)
  have hres := kept_row HRES.out hg3 (by simp)
  clear c0 c1 r0 r1 g0 g1
  obtain ⟨c0, c1⟩ := row_cells hrow
  have M4 := Lib.hid (made_of (W := w) (M := l.length) (T := (T : Int)) hB3 (by have := HG.out.size; omega) (grown_trans HG.out hg3))
  have HR4 := Lib.hid ((hR2.keep hg3).keep (World.grownBy_alloc w3 (.cells #[.slice (some ⟨g, 0, none⟩) l.length l.length, .int .i64 (T : Int)] 91) none))
  have n1 : ¬ w.heap.size = w3.heap.size := by have := HSZ.out; have := hg3.size; omega
  have n2 : w.heap.size ≠ w3.heap.size := n1
  have n3 : w.heap.size < w3.heap.size := by have := HSZ.out; have := hg3.size; omega
  have hgw : w.heap.size + 2 ≤ g := by have := HSZ.out; omega
  have HRES3 := Lib.hid (kept_row hres (World.grownBy_alloc w3 (.cells #[.slice (some ⟨g, 0, none⟩) l.length l.length, .int .i64 (T : Int)] 91) none) (by simp))
  clear hB3 hrow hres H1 hR2
  go_wp2_with (refine wpList_copy_into rfl _ _ rfl g l.length l.length rfl p l.length c rfl (List.replicate l.length 0) M4.out.blk (by simp) l rfl q HR4.out (Nat.le_refl _) ?_; intro w5 hB5 hg5; rw [List.drop_of_length_le (by simp), List.append_nil] at hB5; have M5 := Lib.hid (M4.out.next hg5 hB5); have HR5 := Lib.hid (kept_row HRES3.out hg5 (by intro e; have := Option.some.inj e; omega)); obtain ⟨e0, e1⟩ := row_cells M5.out.row; obtain ⟨r0, r1⟩ := row_cells HR5.out; have g0 := frozen_of_row _ _ 0 _ _ HR5.out; have g1 := frozen_of_row _ _ 1 _ _ HR5.out; clear hB5 hg5)
  refine bodyPost_ret (res_stream_err rfl _ _ (w.heap.size + 1) _ _ rfl (store2 HR5.out)) rfl ?_
  have gr := grown_store2 w5 (w.heap.size + 1) (.slice (some ⟨g, 0, none⟩) l.length l.length) (.int .i64 (T : Int))
  exact ⟨g, by rw [← HT.out]; rfl, M5.out.blk.grown gr (by intro e; have := Option.some.inj e; omega), M5.out.lo, grown_new M5.out.gr gr (by omega)⟩
end Go.Proofs.YtnfgkakhdgiepaaDoor

/- packet: Encode. -/
namespace Go.Proofs.YtnfgkakhdgiepaaDoor
open Go.RowKit Bs
set_option maxRecDepth 100000 in
theorem mask_bit {b n i : Nat} (hb : b < 2 ^ 64) (hi : n ≤ i) (hbi : b.testBit i = true) (h : b &&& ((2 ^ (64 - n) - 1) * 2 ^ n) = 0) : False := by
  have hi2 : i < 64 := by
    refine Nat.lt_of_not_le fun h64 => ?_
    rw [Nat.testBit_lt_two_pow (Nat.lt_of_lt_of_le hb (Nat.pow_le_pow_right (by decide) h64))] at hbi
    cases hbi
  have e := congrArg (fun x : Nat => x.testBit i) h
  simp only [Nat.testBit_and, hbi, Nat.zero_testBit, Bool.true_and, Nat.testBit_mul_two_pow, Nat.testBit_two_pow_sub_one] at e
  simp at e
  omega
set_option maxRecDepth 100000 in
theorem vb_lt {b : Nat} {n : Int} (h : vb b n = true) (hb : U64 b) : b < 2 ^ n.toNat := by
  refine Nat.lt_of_not_le fun hge => ?_
  obtain ⟨i, hi, hbi⟩ := Nat.exists_ge_and_testBit_of_ge_two_pow hge
  have hl := vb_vl h
  unfold vb at h
  have hm := (Bool.and_eq_true _ _ ▸ h).2
  have hm := eq_of_beq hm
  rcases vl_cases hl with rfl | rfl | rfl | rfl
  · exact mask_bit hb hi hbi (by rw [full_val.1] at hm; exact hm)
  · exact mask_bit hb hi hbi (by rw [full_val.2.1] at hm; exact hm)
  · exact mask_bit hb hi hbi (by rw [full_val.2.2.1] at hm; exact hm)
  · exact mask_bit hb hi hbi (by rw [full_val.2.2.2] at hm; exact hm)
/-- While a packet is encoded. -/
structure EN (W : World) (P : Pk) (S : Nat) (B : List Bool) (p : Option Addr) (c : Nat) (w : World) : Prop where
  pb : w.heap[W.heap.size]? = some (.cells (pcells P) 25 (0, 0))
  sb : w.heap[S]? = some (.cells #[.slice p (pk B).length c, .int .i64 (B.length : Int)] 91 (0, 0))
  rd : Rd w (fun b => b ≠ S ∧ W.heap.size ≤ b) (.slice p (pk B).length c) ((pk B).map nv)
  pc : p = none → c = 0
  lo : W.heap.size < S
  gr : W.grownBy w none
section
variable {W w w1 : World} {P : Pk} {S n : Nat} {B B2 : List Bool} {p : Option Addr} {c : Nat}
set_option maxRecDepth 100000 in
theorem EN.keep (H : EN W P S B p c w) (k : w.grownBy w1 none) : EN W P S B p c w1 :=
  ⟨kept_row H.pb k (by simp), kept_row H.sb k (by simp), H.rd.keep k, H.pc, H.lo, grown_trans H.gr k⟩
set_option maxRecDepth 100000 in
theorem EN.lt (H : EN W P S B p c w) : S < w.heap.size := World.lt_of_row' H.sb
set_option maxRecDepth 100000 in
theorem EN.turn (H : EN W P S B p c w) {p2 : Option Addr} {c2 : Nat} (hn : S < n) (hR : Rd w (n ≤ ·) (.slice p2 (pk B2).length c2) ((pk B2).map nv)) (hp : p2 = none → c2 = 0) :
    EN W P S B2 p2 c2 ((w.setCell ⟨S, 0, none⟩ (.slice p2 (pk B2).length c2)).setCell ⟨S, 1, none⟩ (.int .i64 (B2.length : Int))) := by
  have k := grown_store2 w S (.slice p2 (pk B2).length c2) (.int .i64 (B2.length : Int))
  have hlo := H.lo
  exact ⟨kept_row H.pb k (fun e => by have := Option.some.inj e; omega), store2 H.sb, (hR.weaken (q' := fun b => b ≠ S ∧ W.heap.size ≤ b) fun b hb _ => ⟨by omega, by omega⟩).grown k (fun b hb e => hb.1 (Option.some.inj e)), hp, hlo, grown_new H.gr k (by omega)⟩
set_option maxRecDepth 100000 in
theorem EN.facts (H : EN W P S B p c w) : (w.cell? ⟨W.heap.size, 3, none⟩ = some (.int .i64 P.len) ∧ w.cell? ⟨W.heap.size, 8, none⟩ = some (.int .u64 (P.bits : Int)) ∧ w.cell? ⟨W.heap.size, 9, none⟩ = some (.string P.pay)) ∧ w.cell? ⟨S, 0, none⟩ = some (.slice p (pk B).length c) ∧ w.cell? ⟨S, 1, none⟩ = some (.int .i64 (B.length : Int)) ∧ w.frozen? ⟨S, 0, none⟩ = false ∧ w.frozen? ⟨S, 1, none⟩ = false :=
  ⟨⟨cell_of_row _ _ _ _ _ _ H.pb, cell_of_row _ _ _ _ _ _ H.pb, cell_of_row _ _ _ _ _ _ H.pb⟩, (row_cells H.sb).1, (row_cells H.sb).2, frozen_of_row _ _ _ _ _ H.sb, frozen_of_row _ _ _ _ _ H.sb⟩
end
/-- What Encode returns: the bytes of a valid packet lie in a block of their own. -/
def EncPost (P : Pk) (w : World) (e : Ending) (w' : World) : Prop :=
  (vpk P = true ∧ ∃ g, e = .returned (.tuple #[.slice (some ⟨g, 0, none⟩) (enc P).length (enc P).length, .int .i64 0]) ∧ Blk w' g (enc P) ∧ w.heap.size ≤ g ∧ w.grownBy w' none) ∨
  (vpk P = false ∧ e = .returned (.tuple #[.slice none 0 0, .int .i64 1]) ∧ w.grownBy w' none)
set_option maxRecDepth 100000 in
set_option maxHeartbeats 3200000 in
theorem pencode_any (P : Pk) (hP : P.Wf) (w : World) (hT : Tb w) :
    Calls Tryd.prog 23 #[P.val] w fun e w' => EncPost P w e w' := by
  have hval : P.val = .agg #[.int .i64 P.mode, .int .i64 P.sub, .int .i64 P.set, .int .i64 P.len, .int .i64 P.ttl, .int .i64 P.ent, .int .i64 P.ing, .int .i64 P.pro, .int .u64 (P.bits : Int), .string P.pay] := rfl
  rw [hval]
  go_enter Tryd.func23, Tryd.ntmps23
  go_wp2_with fail
  obtain ⟨k1, k2⟩ := one_box w (pcells P) 25
  have HP := Lib.hid (And.intro k1 k2)
  have hTa := hT.keep k2
  clear k1 k2
  unfold pcells at HP hTa
  generalize w.alloc (.cells #[.int .i64 P.mode, .int .i64 P.sub, .int .i64 P.set, .int .i64 P.len, .int .i64 P.ttl, .int .i64 P.ent, .int .i64 P.ing, .int .i64 P.pro, .int .u64 (P.bits : Int), .string P.pay] 25) = wa at *
  change Hid (wa.heap[w.heap.size]? = some (.cells (pcells P) 25 (0, 0)) ∧ w.grownBy wa none) at HP
  rw [← hval]
  refine (pvalid_any P hP _).mono ?_
  rintro e w1 ⟨rfl, hg⟩
  have HQ := Lib.hid (And.intro (kept_row HP.out.1 hg (by simp)) (grown_trans HP.out.2 hg))
  have HT1 := Lib.hid (hTa.keep hg)
  clear hg HP hTa hT
  by_cases hv : vpk P = true
  · rw [hv]
    have HV := Lib.hid hv
    clear hv
    obtain ⟨a0, a1, a2, a3, a4, a5, a6, a7, a8, a9⟩ := p_facts HQ.out.1
    go_wp2_with fail
    rw [← hval]
    refine (writeHeader_any P HV.out w1 HT1.out).mono ?_
    rintro e w3 ⟨p, c, rfl, hR, hpc, hg⟩
    obtain ⟨k1, k2⟩ := one_box w3 #[.slice p (pk (flb (fl P))).length c, .int .i64 ((flb (fl P)).length : Int)] 91
    have H3 : Hid (EN w P w3.heap.size (flb (fl P)) p c (w3.alloc (.cells #[.slice p (pk (flb (fl P))).length c, .int .i64 ((flb (fl P)).length : Int)] 91))) :=
      Lib.hid ⟨kept_row HQ.out.1 (grown_trans hg k2) (by simp), k1, (hR.weaken (q' := fun b => b ≠ w3.heap.size ∧ w.heap.size ≤ b) fun b hb hl => ⟨by omega, Nat.le_trans HQ.out.2.size hb⟩).keep k2, hpc, Nat.lt_of_lt_of_le (World.lt_of_row' HQ.out.1) hg.size, grown_trans HQ.out.2 (grown_trans hg k2)⟩
    have HL49 := Lib.hid (hdr_len P)
    have hvb := (vpk_parts HV.out).2.2.2.2.2.2.2.2
    have HLN : Hid (0 ≤ P.len ∧ P.len.toNat ≤ 64) := Lib.hid (by rcases vl_cases (vb_vl hvb) with h | h | h | h <;> rw [h] <;> decide)
    have HBL := Lib.hid (vb_lt hvb hP.bits)
    clear a0 a1 a2 a3 a4 a5 a6 a7 a8 a9 hR hpc hg k1 k2 HQ HT1 hvb
    obtain ⟨⟨a3, a8, a9⟩, _⟩ := H3.out.facts
    go_wp2_with fail
    obtain ⟨B0, hB0⟩ : ∃ B, B = flb (fl P) := ⟨_, rfl⟩
    rw [← hB0] at H3 HL49 ⊢
    obtain ⟨B1, hB1⟩ : ∃ B, B = B0 ++ nb P.bits P.len.toNat := ⟨_, rfl⟩
    have hA := append_bits (B := B0) (v := P.bits) (k := P.len.toNat) HLN.out.2 HBL.out (by have := HLN.out.2; have := HL49.out; omega) H3.out.rd
    rw [Int.toNat_of_nonneg HLN.out.1, ← hB1] at hA
    have HB0 := Lib.hid hB0
    have HB1 := Lib.hid hB1
    clear hB0 hB1 a3 a8 a9
    generalize w3.alloc (.cells #[.slice p (pk B0).length c, .int .i64 (B0.length : Int)] 91) = w4 at *
    refine hA.mono ?_
    rintro e w5 ⟨p2, c2, rfl, hR2, hp2, hg⟩
    have H5 := Lib.hid (H3.out.keep hg)
    have H6 := Lib.hid (H5.out.turn H3.out.lt hR2 hp2)
    obtain ⟨_, r0, r1, z0, z1⟩ := H5.out.facts
    clear hA hR2 hp2 hg H3 H5
    go_upto_region 5 with fail
    generalize (w5.setCell ⟨w3.heap.size, 0, none⟩ (.slice p2 (pk B1).length c2)).setCell ⟨w3.heap.size, 1, none⟩ (.int .i64 (B1.length : Int)) = w6 at *
    obtain ⟨⟨a3, a8, a9⟩, s0, s1, _⟩ := H6.out.facts
    have hcv := Lib.run_convert_string_bytes (P := Tryd.prog) w6 9 34 5 P.pay Tryd.underlying9 Tryd.underlying34 Tryd.underlying5
    have H7 := Lib.hid (H6.out.keep (bw_grown w6 5 P.pay))
    have HRB := Lib.hid (bw_rd w6 5 P.pay (grownCap w6 P.pay.size 0 5))
    have y9 := H7.out.facts.1.2.2
    have hps : P.pay.size ≤ 64 := (vpk_parts HV.out).2.2.2.2.2.2.2.1
    have HL1 : Hid (B1.length ≤ 113) := Lib.hid (by rw [HB1.out, List.length_append, nb_len]; have := HLN.out.2; have := HL49.out; omega)
    have hJ := join_bits (B := B1) (byl_by P.pay) (by rw [byl_len]; have := HL1.out; omega) H7.out.rd HRB.out
    rw [byl_len, Int.natCast_mul] at hJ
    obtain ⟨B3, hB3⟩ : ∃ B, B = B1 ++ pb (byl P.pay) := ⟨_, rfl⟩
    rw [← hB3] at hJ
    have HB3 := Lib.hid hB3
    have HJ := Lib.hid hJ
    clear r0 r1 z0 z1 hB3 hJ
    go_wp2_with fail
    clear s0 s1 hcv HRB H6 a3 a8 a9 y9
    generalize Lib.bytesWorld w6 5 P.pay = w7 at *
    refine HJ.out.mono ?_
    rintro e w8 ⟨p3, c3, rfl, hR3, hp3, hg⟩
    have H8 := Lib.hid (H7.out.keep hg)
    have H9 := Lib.hid (H8.out.turn H7.out.lt hR3 hp3)
    obtain ⟨_, r0, r1, z0, z1⟩ := H8.out.facts
    clear hR3 hp3 hg H7 H8 HJ
    go_upto_region 6 with fail
    generalize (w8.setCell ⟨w3.heap.size, 0, none⟩ (.slice p3 (pk B3).length c3)).setCell ⟨w3.heap.size, 1, none⟩ (.int .i64 (B3.length : Int)) = w9 at *
    obtain ⟨_, s0, s1, _⟩ := H9.out.facts
    have HL3 : Hid (B3.length ≤ 625) := Lib.hid (by rw [HB3.out, List.length_append, pb_len, byl_len]; have := HL1.out; omega)
    clear r0 r1 z0 z1
    go_wp2_with fail
    refine (check_bits (by have := HL3.out; omega) H9.out.rd).mono ?_
    rintro e wa2 ⟨rfl, hg⟩
    have H10 := Lib.hid (H9.out.keep hg)
    clear s0 s1 hg H9
    obtain ⟨_, s0, s1, z0, z1⟩ := H10.out.facts
    have hA2 := append_bits (B := B3) (v := ck B3) (k := 16) (by decide) (chk_lt _ _) (by have := HL3.out; omega) H10.out.rd
    obtain ⟨B4, hB4⟩ : ∃ B, B = B3 ++ nb (ck B3) 16 := ⟨_, rfl⟩
    rw [← hB4] at hA2
    have HB4 := Lib.hid hB4
    have HA2 := Lib.hid hA2
    have HL4 : Hid (B4.length ≤ 641) := Lib.hid (by rw [hB4, List.length_append, nb_len]; have := HL3.out; omega)
    clear hB4 hA2
    go_wp2_with fail
    refine HA2.out.mono ?_
    rintro e wb ⟨p4, c4, rfl, hR4, hp4, hg⟩
    have H11 := Lib.hid (H10.out.keep hg)
    have H12 := Lib.hid (H11.out.turn H10.out.lt hR4 hp4)
    clear s0 s1 z0 z1
    obtain ⟨_, r0, r1, z0, z1⟩ := H11.out.facts
    clear hR4 hp4 hg H10 H11 HA2
    go_upto_region 8 with fail
    generalize (wb.setCell ⟨w3.heap.size, 0, none⟩ (.slice p4 (pk B4).length c4)).setCell ⟨w3.heap.size, 1, none⟩ (.int .i64 (B4.length : Int)) = wd at *
    obtain ⟨_, s0, s1, _⟩ := H12.out.facts
    clear r0 r1 z0 z1
    go_wp2_with fail
    refine (alignp_own (pk B4) (B4.length : Int) (pk_vs B4 (by have := HL4.out; omega)) _ p4 c4 (pk_by B4) wd H12.out.rd).mono ?_
    rintro e we ⟨g, rfl, hB, hge, hg⟩
    have H13 := Lib.hid (H12.out.keep hg)
    have HLT : Hid (w3.heap.size < g ∧ w.heap.size ≤ g) := Lib.hid ⟨Nat.lt_of_lt_of_le H12.out.lt hge, Nat.le_trans H12.out.gr.size hge⟩
    clear s0 s1
    obtain ⟨_, r0, r1, z0, z1⟩ := H13.out.facts
    have HB5 := Lib.hid hB
    clear hB hge hg H12
    go_wp2_with fail
    have hE : enc P = pk B4 := by unfold enc body; rw [← HB0.out, ← HB1.out, ← HB3.out, ← HB4.out]
    go_ret2
    refine .inl ⟨HV.out, g, by rw [hE]; rfl, ?_, HLT.out.2, ?_⟩
    · rw [hE]; exact HB5.out.grown (grown_store2 we w3.heap.size _ _) (fun e => by have h1 := HLT.out.1; have := Option.some.inj e; omega)
    · exact grown_new H13.out.gr (grown_store2 we w3.heap.size _ _) (by have := H13.out.lo; omega)
  · have hf : vpk P = false := by simpa using hv
    have HF := Lib.hid hf
    rw [hf]
    clear hf hv
    go_wp2_with fail
    go_ret2
    exact .inr ⟨HF.out, rfl, HQ.out.2⟩
end Go.Proofs.YtnfgkakhdgiepaaDoor

/- Parts of the proof, packed: IoRows, PkTape, PkTapeN, PkList, StTape, StRtOf. -/
import Derived.Test.YtpombmpkccnefaaDoorFrames2
import Derived.Test.YtpombmpkccnefaaDoorFrames3
import Derived.Test.YtpombmpkccnefaaDoorFrames9
import Derived.Test.YtpombmpkccnefaaDoorFrames7
import Derived.Deep.CutRange
import Derived.Deep.RegionHeld3
/- Rows of the call's own that grow apart. -/
namespace Go.Proofs.YtpombmpkccnefaaDoor
open Go.RowKit Bs
def zv (x : Nat) : Value := .int .i64 (x : Int)
set_option maxRecDepth 100000 in
theorem zv_one {l : List Nat} : ∀ u ∈ l.map zv, u.oneCell' = true := by
  intro u hu
  obtain ⟨x, _, rfl⟩ := List.mem_map.1 hu
  rfl
set_option maxRecDepth 100000 in
/-- append of ints that are read, onto a row of the call's own. -/
theorem wpList_append_ints {w : World} {ops : Array Oper} {rest : List Oper} {o : Oper} {a : Act} {Q : Exit → Act → World → Prop} (hgd : o.guard = none) (s x : Operand)
    (ho : o.op = .call { callee := .builtin .append, args := #[s, x], argTypes := #[22, 22] }) (base : Nat) (v : Value) (n : Nat) (l : List Nat) (hs : a.eval s = v) (hown : w.ownsRow base 3 1 v n (l.map zv))
    (p : Option Addr) (k c : Nat) (r : List Nat) (hx : a.eval x = .slice p k c) (hk : k = r.length) (hn0 : p = none → c = 0 ∧ k = 0) (hnews : ∀ ad, p = some ad → ∀ j u, (r.map zv)[j]? = some u → w.cell? (ad.add j) = some u) (h63 : n + r.length ≤ 100000) (hbase : base ≤ w.heap.size)
    (h : ∀ v' w', w'.ownsRow base 3 1 v' (n + r.length) ((l ++ r).map zv) → w.grownBy w' v.ownBlock → wpList Tryd.prog ops Q rest (a.put o.dst v') w') : wpList Tryd.prog ops Q (o :: rest) a w := by
  obtain ⟨i0, hi, hz0, hz1, hz2⟩ := info_parts info_int
  subst hk
  cases p with
  | none =>
    obtain ⟨rfl, hr⟩ := hn0 rfl
    obtain rfl := List.eq_nil_of_length_eq_zero hr
    refine wpList_append_own_none hgd s x 22 ho base 3 i0 1 Tryd.underlying22 hi v n (l.map zv) hs hown hx ?_
    refine h v w ?_ (grown_refl _ _)
    rw [List.append_nil]; exact hown
  | some ad =>
    refine wpList_append_own w hgd s x 22 ho base 3 i0 (.int .i64 0) 1 8 Tryd.underlying22 hi hz0 hz1 hz2 rfl (by decide) v n (l.map zv) hs hown ad r.length c (r.map zv) hx (by simp) (hnews ad rfl) zv_one (by unfold maxLen; omega) (by omega) hbase ?_
    intro v' w' h1 h2 _
    refine h v' w' ?_ h2
    rw [List.map_append]; exact h1
set_option maxRecDepth 100000 in
theorem tp_new2 {w1 w2 : World} {a b : Nat} (h : Tp w1 a) (k : w1.grownBy w2 (some b)) (hb : a < b) : Tp w2 a := by
  have hlt := h.lt
  obtain ⟨v, n, i, T⟩ := h
  have hb' : w2.heap[a]? = w1.heap[a]? := k.block a hlt (by intro e; have := Option.some.inj e; omega)
  refine ⟨v, n, i, (World.cell?_of_block (a := ⟨a, 0, none⟩) hb').trans T.l, (World.cell?_of_block (a := ⟨a, 1, none⟩) hb').trans T.p, (World.frozen?_of_block (a := ⟨a, 1, none⟩) hb').trans T.fr, ?_, T.le, T.len⟩
  obtain ⟨p, c, hv, hc⟩ := T.ints
  refine ⟨p, c, hv, fun hn => ?_⟩
  obtain ⟨g, off, hp, hg, hx⟩ := hc hn
  exact ⟨g, off, hp, hg, fun i hi => by obtain ⟨x, hx, hcell⟩ := hx i hi; exact ⟨x, hx, k.cell hcell (by intro e; have e2 : g = b := Option.some.inj e; omega)⟩⟩
set_option maxRecDepth 100000 in
theorem own_cap {w : World} {base n g cap : Nat} {e : TypeId} {xs : List Value} (h : w.ownsRow base e 1 (.slice (some ⟨g, 0, none⟩) n cap) n xs) : n ≤ cap ∧ cap ≤ maxLen := by
  rcases h.2 with ⟨h0, _⟩ | ⟨g', cap', cur, hv, _, _, hn, hc, _⟩
  · cases h0
  · injection hv with _ _ h3
    subst h3
    exact ⟨hn, hc⟩
set_option maxRecDepth 100000 in
theorem grown_own_row {w w1 : World} {k : Nat} {b : Option Nat} (h : w.grownBy w1 b) (hk : k < w.heap.size) (hb : some k ≠ b) : w1.heap[k]? = w.heap[k]? := h.block k hk hb
set_option maxRecDepth 100000 in
/-- An order is made: the old row g is read, the new one lies behind. -/
theorem own_apart {w w1 : World} {base base2 g n cap : Nat} {e : TypeId} {v : Value} {m : Nat} {e2 : TypeId} {xs ys : List Value} (h : w.ownsRow base e 1 (.slice (some ⟨g, 0, none⟩) n cap) n xs) (hv : w.ownsRow base2 e2 1 v m ys) (hg : g < base2) (k : w.grownBy w1 v.ownBlock) : w1.ownsRow base e 1 (.slice (some ⟨g, 0, none⟩) n cap) n xs :=
  h.kept k (.inr (own_ne hv hg))
set_option maxRecDepth 100000 in
theorem St.own_grow {a base n : Nat} {W w w1 : World} {e : TypeId} {v : Value} {xs : List Value} (h : St a W w) (ho : w.ownsRow base e 1 v n xs) (hb : W.heap.size ≤ base) (ha : a < W.heap.size) (k : w.grownBy w1 v.ownBlock) : St a W w1 := by
  have g : W.grownBy w1 (some a) := ⟨k.os.trans h.1.os, k.tape.trans h.1.tape, k.output.trans h.1.output, Nat.le_trans h.1.size k.size, fun i hi hia => (k.block i (Nat.lt_of_lt_of_le hi h.1.size) (own_ne ho (by omega))).trans (h.1.block i hi hia)⟩
  refine ⟨g, ?_⟩
  cases hv : v.ownBlock with
  | none => rw [hv] at k; exact h.2.keep k
  | some b =>
    rw [hv] at k
    exact tp_new2 h.2 k (by have := (ho.lt b hv).1; omega)
set_option maxRecDepth 100000 in
theorem St.none_ {a : Nat} {W w w1 : World} (h : St a W w) (g : w.grownBy w1 none) : St a W w1 := ⟨grown_trans h.1 (grown_none g _), h.2.keep g⟩
end Go.Proofs.YtpombmpkccnefaaDoor

/- The tape's packets. -/
namespace Go.Proofs.YtpombmpkccnefaaDoor
open Go.RowKit Bs
/-- A drawn packet with no mistake is valid. -/
def PacketPost (a : Nat) (w : World) (e : Ending) (w' : World) : Prop := ∃ P : Pk, e = .returned P.val ∧ P.Wf ∧ vpk P = true ∧ St a w w'
set_option maxRecDepth 100000 in
theorem tp_store {w1 w2 : World} {a b : Nat} (h : Tp w1 a) (k : w1.grownBy w2 (some b)) (hb : a < b) : Tp w2 a := tp_new2 h k hb
set_option maxRecDepth 100000 in
theorem St.store {a b : Nat} {W w w1 : World} (h : St a W w) (k : w.grownBy w1 (some b)) (hb : W.heap.size ≤ b) (ha : a < W.heap.size) : St a W w1 :=
  ⟨⟨k.os.trans h.1.os, k.tape.trans h.1.tape, k.output.trans h.1.output, Nat.le_trans h.1.size k.size, fun i hi hia => (k.block i (Nat.lt_of_lt_of_le hi h.1.size) (fun e => by have := Option.some.inj e; omega)).trans (h.1.block i hi hia)⟩, by
    exact tp_store h.2 k (by omega)⟩
set_option maxRecDepth 100000 in
theorem res_packet {fn : Func} {p : Tmp} (h : fn.results = #[.cell p 31]) (tmps : Array Value) (w : World) (g : Nat) (xs : Array Value) (hp : tmps.getD p undef = .pointer (some ⟨g, 0, none⟩)) (hn : xs.size = 10) (hg : w.heap[g]? = some (.cells xs 31 (0, 0))) :
    (results fn tmps).run Tryd.prog w = .ok (.agg xs) w := by
  exact results_cell_row h tmps w g _ _ _ _ hp hg Tryd.underlying31 rfl (by rw [hn]; exact packet_size)
set_option maxRecDepth 100000 in
theorem i64_small {x : Int} (h1 : -2000 ≤ x) (h2 : x ≤ 2000) : I64 x := by unfold I64; omega
set_option maxRecDepth 100000 in
set_option maxHeartbeats 3200000 in
theorem packet0_any (a : Nat) (w : World) (hT : Tp w a) :
    Calls Tryd.prog 12 #[.pointer (some ⟨a, 0, none⟩), .int .i64 0] w fun e w' => PacketPost a w e w' := by
  have ha := hT.lt
  obtain ⟨k1, k2⟩ := one_box w zpk 31
  have HB := Lib.hid k1
  have S0 : St a w (w.alloc (.cells zpk 31)) := ⟨grown_none k2 _, hT.keep k2⟩
  clear k1 k2
  unfold zpk at HB S0
  go_enter Tryd.func12, Tryd.ntmps12
  go_wp2_with fail
  generalize w.alloc _ = wa at *
  change Hid (wa.heap[w.heap.size]? = some (.cells zpk 31 (0, 0))) at HB
  refine (length_any a _ S0.2).mono ?_
  rintro e w1 ⟨len, rfl, hlen, hs1⟩
  have S1 := S0.trans hs1
  go_wp2_with fail
  refine (range_any a 1 3 (by decide) (by decide) (by decide) (by decide) _ S1.2).mono ?_
  rintro e w2 ⟨mode, rfl, hmode, hs2⟩
  go_wp2_with fail
  refine (range_any a 0 7 (by decide) (by decide) (by decide) (by decide) _ hs2.2).mono ?_
  rintro e w3 ⟨sub, rfl, hsub, hs3⟩
  go_wp2_with fail
  refine (pick_any (fun r => 0 ≤ r ∧ r ≤ 31) a _ 0 5 5 (by omega) (by omega) _ (hs3.2.alloc _) (among_list _ w3 a [0, 0, 1, 2, 31] _ _ hs3.2.lt rfl (by decide))).mono ?_
  rintro e w4 ⟨set, rfl, hset, hs4⟩
  go_wp2_with fail
  refine (pick_any (fun r => 0 ≤ r ∧ r ≤ 63) a _ 0 5 5 (by omega) (by omega) _ (hs4.2.alloc _) (among_list _ w4 a [0, 1, 2, 5, 63] _ _ hs4.2.lt rfl (by decide))).mono ?_
  rintro e w5 ⟨ttl, rfl, httl, hs5⟩
  go_wp2_with fail
  refine (next_any a 1024 (by unfold I64; omega) _ hs5.2).mono ?_
  rintro e w6 ⟨ent, rfl, hent, hs6⟩
  go_wp2_with fail
  refine (pick_any (fun r => 0 ≤ r ∧ r ≤ 256) a _ 0 5 5 (by omega) (by omega) _ (hs6.2.alloc _) (among_list _ w6 a [0, 1, 8, 255, 256] _ _ hs6.2.lt rfl (by decide))).mono ?_
  rintro e w7 ⟨ing, rfl, hing, hs7⟩
  go_wp2_with fail
  refine (next_any a 8 (by unfold I64; omega) _ hs7.2).mono ?_
  rintro e w8 ⟨pro, rfl, hpro, hs8⟩
  go_wp2_with fail
  refine (bits_any a len hlen _ hs8.2).mono ?_
  rintro e w9 ⟨bits, rfl, hbu, hbv, hs9⟩
  go_wp2_with fail
  refine (text_any a 6 (by decide) _ hs9.2).mono ?_
  rintro e w10 ⟨pay, rfl, hpay, hs10⟩
  have S' := ((((((((hs1.trans hs2).trans hs3).trans hs4.alloc_left).trans hs5.alloc_left).trans hs6).trans hs7.alloc_left).trans hs8).trans hs9).trans hs10
  have S := Lib.hid (S0.trans S')
  have HR := Lib.hid (kept_row HB.out S'.1 (fun e => by have := Option.some.inj e; omega))
  have hV : Hid (vpk ⟨mode, sub, set, len, ttl, ent, ing, pro, bits, pay⟩ = true ∧ (⟨mode, sub, set, len, ttl, ent, ing, pro, bits, pay⟩ : Pk).Wf) := by
    have r1 := hmode.1
    have r2 := hmode.2.1 (by decide)
    have r3 := hsub.1
    have r4 := hsub.2.1 (by decide)
    have r5 := hent.1
    have r6 := hent.2.1 (by decide)
    have r7 := hpro.1
    have r8 := hpro.2.1 (by decide)
    refine Lib.hid ⟨decide_eq_true ⟨⟨r1, r2⟩, ⟨r3, r4⟩, hset, httl, ⟨r5, by show ent ≤ 1023; omega⟩, hing, ⟨r7, by show pro ≤ 7; omega⟩, Nat.le_trans hpay (by decide), hbv⟩, ?_⟩
    have hl : I64 len := by rcases vl_cases hlen with h | h | h | h <;> rw [h] <;> (unfold I64; decide)
    obtain ⟨q1, q2⟩ := hset
    obtain ⟨q3, q4⟩ := httl
    obtain ⟨q5, q6⟩ := hing
    exact ⟨i64_small (x := mode) (by omega) (by omega), i64_small (x := sub) (by omega) (by omega), i64_small (x := set) (by omega) (by omega), hl, i64_small (x := ttl) (by omega) (by omega), i64_small (x := ent) (by omega) (by omega), i64_small (x := ing) (by omega) (by omega), i64_small (x := pro) (by omega) (by omega), hbu, Nat.le_trans hpay (by decide)⟩
  have g11 := World.grownBy_alloc w10 (.cells #[.int .i64 mode, .int .i64 sub, .int .i64 set, .int .i64 len, .int .i64 ttl, .int .i64 ent, .int .i64 ing, .int .i64 pro, .int .u64 (bits : Int), .string pay] 31) none
  have HR2 := Lib.hid (kept_row HR.out g11 (by simp))
  have S2 := Lib.hid (S.out.none_ g11)
  obtain ⟨⟨r0, r1, r2, r3, r4, r5, r6, r7, r8, r9⟩, f0, f1, f2, f3, f4, f5, f6, f7, f8, f9⟩ := zp_cells HR2.out
  clear S' S HR HB S0 S1 hs1 hs2 hs3 hs4 hs5 hs6 hs7 hs8 hs9 hs10 hmode hsub hset httl hent hing hpro hbu hbv hpay hlen g11
  go_wp2_with fail
  refine bodyPost_ret (res_packet rfl _ _ w.heap.size _ rfl rfl (pput_row _ _ _ _ _ _ _ _ _ _ HR2.out)) rfl ?_
  exact ⟨⟨mode, sub, set, len, ttl, ent, ing, pro, bits, pay⟩, rfl, hV.out.2, hV.out.1, S2.out.store (pput_grown _ w.heap.size _ _ _ _ _ _ _ _ _ _) (Nat.le_refl _) ha⟩
end Go.Proofs.YtpombmpkccnefaaDoor

/- The tape's packets, also with a mistake. -/
namespace Go.Proofs.YtpombmpkccnefaaDoor
open Go.RowKit Bs
def AnyPacketPost (a : Nat) (w : World) (e : Ending) (w' : World) : Prop := ∃ P : Pk, e = .returned P.val ∧ P.Wf ∧ P.pay.size ≤ 100 ∧ St a w w'
/-- The packet's block and the result's, while a mistake is laid. -/
structure TK (a : Nat) (W : World) (B : Nat) (P : Pk) (w : World) : Prop where
  pb : w.heap[B]? = some (.cells (pcells P) 31 (0, 0))
  rb : w.heap[W.heap.size]? = some (.cells zpk 31 (0, 0))
  st : St a W w
  wf : P.Wf
  sm : P.pay.size ≤ 100
section
variable {a B : Nat} {W w w1 : World} {P P' : Pk}
set_option maxRecDepth 100000 in
theorem TK.tape (H : TK a W B P w) (ha : a < W.heap.size) (hB : W.heap.size < B) (g : St a w w1) : TK a W B P w1 :=
  ⟨kept_row H.pb g.1 (fun e => by have := Option.some.inj e; omega), kept_row H.rb g.1 (fun e => by have := Option.some.inj e; omega), H.st.trans g, H.wf, H.sm⟩
set_option maxRecDepth 100000 in
theorem TK.turn (H : TK a W B P w) (ha : a < W.heap.size) (hB : W.heap.size < B) {k : Nat} {v : Value} (h : (pcells P).setIfInBounds k v = pcells P') (hw : P'.Wf) (hs : P'.pay.size ≤ 100) : TK a W B P' (w.setCell ⟨B, k, none⟩ v) := by
  have j := grown_setCell w ⟨B, k, none⟩ v
  refine ⟨?_, kept_row H.rb j (fun e => by have : W.heap.size = B := Option.some.inj e; omega), H.st.store (b := B) j (by omega) ha, hw, hs⟩
  rw [← h]
  exact heap_setCell_same w _ k _ _ _ H.pb
set_option maxRecDepth 100000 in
theorem TK.at_mode (H : TK a W B P w) (ha : a < W.heap.size) (hB : W.heap.size < B) {x : Int} (hx : I64 x) : TK a W B { P with mode := x } (w.setCell ⟨B, 0, none⟩ (.int .i64 x)) :=
  H.turn ha hB rfl ⟨hx, H.wf.sub, H.wf.set, H.wf.len, H.wf.ttl, H.wf.ent, H.wf.ing, H.wf.pro, H.wf.bits, H.wf.pay⟩ H.sm
set_option maxRecDepth 100000 in
theorem TK.at_sub (H : TK a W B P w) (ha : a < W.heap.size) (hB : W.heap.size < B) {x : Int} (hx : I64 x) : TK a W B { P with sub := x } (w.setCell ⟨B, 1, none⟩ (.int .i64 x)) :=
  H.turn ha hB rfl ⟨H.wf.mode, hx, H.wf.set, H.wf.len, H.wf.ttl, H.wf.ent, H.wf.ing, H.wf.pro, H.wf.bits, H.wf.pay⟩ H.sm
set_option maxRecDepth 100000 in
theorem TK.at_set (H : TK a W B P w) (ha : a < W.heap.size) (hB : W.heap.size < B) {x : Int} (hx : I64 x) : TK a W B { P with set := x } (w.setCell ⟨B, 2, none⟩ (.int .i64 x)) :=
  H.turn ha hB rfl ⟨H.wf.mode, H.wf.sub, hx, H.wf.len, H.wf.ttl, H.wf.ent, H.wf.ing, H.wf.pro, H.wf.bits, H.wf.pay⟩ H.sm
set_option maxRecDepth 100000 in
theorem TK.at_len (H : TK a W B P w) (ha : a < W.heap.size) (hB : W.heap.size < B) {x : Int} (hx : I64 x) : TK a W B { P with len := x } (w.setCell ⟨B, 3, none⟩ (.int .i64 x)) :=
  H.turn ha hB rfl ⟨H.wf.mode, H.wf.sub, H.wf.set, hx, H.wf.ttl, H.wf.ent, H.wf.ing, H.wf.pro, H.wf.bits, H.wf.pay⟩ H.sm
set_option maxRecDepth 100000 in
theorem TK.at_ttl (H : TK a W B P w) (ha : a < W.heap.size) (hB : W.heap.size < B) {x : Int} (hx : I64 x) : TK a W B { P with ttl := x } (w.setCell ⟨B, 4, none⟩ (.int .i64 x)) :=
  H.turn ha hB rfl ⟨H.wf.mode, H.wf.sub, H.wf.set, H.wf.len, hx, H.wf.ent, H.wf.ing, H.wf.pro, H.wf.bits, H.wf.pay⟩ H.sm
set_option maxRecDepth 100000 in
theorem TK.at_ent (H : TK a W B P w) (ha : a < W.heap.size) (hB : W.heap.size < B) {x : Int} (hx : I64 x) : TK a W B { P with ent := x } (w.setCell ⟨B, 5, none⟩ (.int .i64 x)) :=
  H.turn ha hB rfl ⟨H.wf.mode, H.wf.sub, H.wf.set, H.wf.len, H.wf.ttl, hx, H.wf.ing, H.wf.pro, H.wf.bits, H.wf.pay⟩ H.sm
set_option maxRecDepth 100000 in
theorem TK.at_ing (H : TK a W B P w) (ha : a < W.heap.size) (hB : W.heap.size < B) {x : Int} (hx : I64 x) : TK a W B { P with ing := x } (w.setCell ⟨B, 6, none⟩ (.int .i64 x)) :=
  H.turn ha hB rfl ⟨H.wf.mode, H.wf.sub, H.wf.set, H.wf.len, H.wf.ttl, H.wf.ent, hx, H.wf.pro, H.wf.bits, H.wf.pay⟩ H.sm
set_option maxRecDepth 100000 in
theorem TK.at_pro (H : TK a W B P w) (ha : a < W.heap.size) (hB : W.heap.size < B) {x : Int} (hx : I64 x) : TK a W B { P with pro := x } (w.setCell ⟨B, 7, none⟩ (.int .i64 x)) :=
  H.turn ha hB rfl ⟨H.wf.mode, H.wf.sub, H.wf.set, H.wf.len, H.wf.ttl, H.wf.ent, H.wf.ing, hx, H.wf.bits, H.wf.pay⟩ H.sm
set_option maxRecDepth 100000 in
theorem TK.at_pay (H : TK a W B P w) (ha : a < W.heap.size) (hB : W.heap.size < B) {s : ByteArray} (hs : s.size ≤ 100) : TK a W B { P with pay := s } (w.setCell ⟨B, 9, none⟩ (.string s)) :=
  H.turn ha hB rfl ⟨H.wf.mode, H.wf.sub, H.wf.set, H.wf.len, H.wf.ttl, H.wf.ent, H.wf.ing, H.wf.pro, H.wf.bits, Nat.le_trans hs (by decide)⟩ hs
end
/-- How much the payload lacks. -/
def payLeft (w : World) (B : Nat) : Nat := match w.cell? ⟨B, 9, none⟩ with | some (.string s) => 62 - s.size | _ => 0
set_option maxRecDepth 100000 in
set_option maxHeartbeats 3200000 in
theorem packetN_any (a : Nat) (n : Int) (hn : 1 ≤ n) (hn2 : n ≤ 1000) (w : World) (hT : Tp w a) :
    Calls Tryd.prog 12 #[.pointer (some ⟨a, 0, none⟩), .int .i64 n] w fun e w' => AnyPacketPost a w e w' := by
  have ha := hT.lt
  obtain ⟨k1, k2⟩ := one_box w zpk 31
  have HB := Lib.hid k1
  have S0 : St a w (w.alloc (.cells zpk 31)) := ⟨grown_none k2 _, hT.keep k2⟩
  clear k1 k2
  unfold zpk at HB S0
  go_enter Tryd.func12, Tryd.ntmps12
  go_wp2_with fail
  generalize w.alloc _ = wa at *
  change Hid (wa.heap[w.heap.size]? = some (.cells zpk 31 (0, 0))) at HB
  refine (length_any a _ S0.2).mono ?_
  rintro e w1 ⟨len, rfl, hlen, hs1⟩
  have S1 := S0.trans hs1
  go_wp2_with fail
  refine (range_any a 1 3 (by decide) (by decide) (by decide) (by decide) _ S1.2).mono ?_
  rintro e w2 ⟨mode, rfl, hmode, hs2⟩
  go_wp2_with fail
  refine (range_any a 0 7 (by decide) (by decide) (by decide) (by decide) _ hs2.2).mono ?_
  rintro e w3 ⟨sub, rfl, hsub, hs3⟩
  go_wp2_with fail
  refine (pick_any (fun r => 0 ≤ r ∧ r ≤ 31) a _ 0 5 5 (by omega) (by omega) _ (hs3.2.alloc _) (among_list _ w3 a [0, 0, 1, 2, 31] _ _ hs3.2.lt rfl (by decide))).mono ?_
  rintro e w4 ⟨set, rfl, hset, hs4⟩
  go_wp2_with fail
  refine (pick_any (fun r => 0 ≤ r ∧ r ≤ 63) a _ 0 5 5 (by omega) (by omega) _ (hs4.2.alloc _) (among_list _ w4 a [0, 1, 2, 5, 63] _ _ hs4.2.lt rfl (by decide))).mono ?_
  rintro e w5 ⟨ttl, rfl, httl, hs5⟩
  go_wp2_with fail
  refine (next_any a 1024 (by unfold I64; omega) _ hs5.2).mono ?_
  rintro e w6 ⟨ent, rfl, hent, hs6⟩
  go_wp2_with fail
  refine (pick_any (fun r => 0 ≤ r ∧ r ≤ 256) a _ 0 5 5 (by omega) (by omega) _ (hs6.2.alloc _) (among_list _ w6 a [0, 1, 8, 255, 256] _ _ hs6.2.lt rfl (by decide))).mono ?_
  rintro e w7 ⟨ing, rfl, hing, hs7⟩
  go_wp2_with fail
  refine (next_any a 8 (by unfold I64; omega) _ hs7.2).mono ?_
  rintro e w8 ⟨pro, rfl, hpro, hs8⟩
  go_wp2_with fail
  refine (bits_any a len hlen _ hs8.2).mono ?_
  rintro e w9 ⟨bits, rfl, hbu, hbv, hs9⟩
  go_wp2_with fail
  refine (text_any a 6 (by decide) _ hs9.2).mono ?_
  rintro e w10 ⟨pay, rfl, hpay, hs10⟩
  have S' := ((((((((hs1.trans hs2).trans hs3).trans hs4.alloc_left).trans hs5.alloc_left).trans hs6).trans hs7.alloc_left).trans hs8).trans hs9).trans hs10
  have S := Lib.hid (S0.trans S')
  have HR := Lib.hid (kept_row HB.out S'.1 (fun e => by have := Option.some.inj e; omega))
  have hV : Hid (vpk ⟨mode, sub, set, len, ttl, ent, ing, pro, bits, pay⟩ = true ∧ (⟨mode, sub, set, len, ttl, ent, ing, pro, bits, pay⟩ : Pk).Wf) := by
    have r1 := hmode.1
    have r2 := hmode.2.1 (by decide)
    have r3 := hsub.1
    have r4 := hsub.2.1 (by decide)
    have r5 := hent.1
    have r6 := hent.2.1 (by decide)
    have r7 := hpro.1
    have r8 := hpro.2.1 (by decide)
    refine Lib.hid ⟨decide_eq_true ⟨⟨r1, r2⟩, ⟨r3, r4⟩, hset, httl, ⟨r5, by show ent ≤ 1023; omega⟩, hing, ⟨r7, by show pro ≤ 7; omega⟩, Nat.le_trans hpay (by decide), hbv⟩, ?_⟩
    have hl : I64 len := by rcases vl_cases hlen with h | h | h | h <;> rw [h] <;> (unfold I64; decide)
    obtain ⟨q1, q2⟩ := hset
    obtain ⟨q3, q4⟩ := httl
    obtain ⟨q5, q6⟩ := hing
    exact ⟨i64_small (x := mode) (by omega) (by omega), i64_small (x := sub) (by omega) (by omega), i64_small (x := set) (by omega) (by omega), hl, i64_small (x := ttl) (by omega) (by omega), i64_small (x := ent) (by omega) (by omega), i64_small (x := ing) (by omega) (by omega), i64_small (x := pro) (by omega) (by omega), hbu, Nat.le_trans hpay (by decide)⟩
  have g11 := World.grownBy_alloc w10 (.cells #[.int .i64 mode, .int .i64 sub, .int .i64 set, .int .i64 len, .int .i64 ttl, .int .i64 ent, .int .i64 ing, .int .i64 pro, .int .u64 (bits : Int), .string pay] 31) none
  have HR2 := Lib.hid (kept_row HR.out g11 (by simp))
  have S2 := Lib.hid (S.out.none_ g11)
  have K0 : Hid (TK a w w10.heap.size ⟨mode, sub, set, len, ttl, ent, ing, pro, bits, pay⟩ (w10.alloc (.cells #[.int .i64 mode, .int .i64 sub, .int .i64 set, .int .i64 len, .int .i64 ttl, .int .i64 ent, .int .i64 ing, .int .i64 pro, .int .u64 (bits : Int), .string pay] 31))) := Lib.hid ⟨heap_alloc_new w10 _, HR2.out, S2.out, hV.out.2, Nat.le_trans hpay (by decide)⟩
  have hB : w.heap.size < w10.heap.size := by have h := S.out.1.size; have h2 := World.lt_of_row' HR.out; omega
  have HBB := Lib.hid hB
  have HPY := Lib.hid hpay
  clear S' S HR HR2 S2 hV hB HB S0 S1 hs1 hs2 hs3 hs4 hs5 hs6 hs7 hs8 hs9 hs10 hmode hsub hset httl hent hing hpro hbu hbv hpay hlen g11
  go_upto_region 3 with fail
  generalize w10.alloc (.cells #[.int .i64 mode, .int .i64 sub, .int .i64 set, .int .i64 len, .int .i64 ttl, .int .i64 ent, .int .i64 ing, .int .i64 pro, .int .u64 (bits : Int), .string pay] 31) = w11 at *
  have hT11 := K0.out.st.2
  go_wp2_with fail
  refine (one_any a n (by unfold I64; omega) _ hT11).mono ?_
  rintro e w12 ⟨b, rfl, hs⟩
  have K1 := Lib.hid (K0.out.tape ha HBB.out hs)
  clear K0 hT11 hs
  go_upto_if 39 with fail
  go_cut [] from 40 to 96 (fun wx => ∃ P, Hid (TK a w w10.heap.size P wx))
  case first =>
    cases b with
    | false =>
      go_wp2_with fail
      go_meet
      exact ⟨_, K1⟩
    | true =>
      have hT12 := K1.out.st.2
      go_wp2_with fail
      refine (next_any a 9 (by unfold I64; omega) _ hT12).mono ?_
      rintro e w13 ⟨r, rfl, hr, hs⟩
      have K2 := Lib.hid (K1.out.tape ha HBB.out hs)
      clear K1 hT12 hs
      have hr9 : 0 ≤ r ∧ r < 9 := ⟨hr.1, hr.2.1 (by decide)⟩
      obtain ⟨p0, p1, p2, p3, p4, p5, p6, p7, p8, p9⟩ := p_facts K2.out.pb
      have hT13 := K2.out.st.2
      rcases (show r = 0 ∨ r = 1 ∨ r = 2 ∨ r = 3 ∨ r = 4 ∨ r = 5 ∨ r = 6 ∨ r = 7 ∨ r = 8 by omega) with rfl | rfl | rfl | rfl | rfl | rfl | rfl | rfl | rfl
      · go_wp2_with fail
        refine (wild_any a _ hT13).mono ?_
        rintro e w14 ⟨x, rfl, hx, hs⟩
        have K3 := Lib.hid (K2.out.tape ha HBB.out hs)
        have c0 : w14.cell? ⟨w10.heap.size, 0, none⟩ = some (.int .i64 mode) := cell_of_row _ _ _ _ _ _ K3.out.pb
        have c1 := frozen_of_row _ _ 0 _ _ K3.out.pb
        have K4 := Lib.hid (K3.out.at_mode ha HBB.out hx)
        clear K2 K3 hs p0 p1 p2 p3 p4 p5 p6 p7 p8 p9
        go_wp2_with fail
        go_meet
        exact ⟨_, K4⟩
      · go_wp2_with fail
        refine (wild_any a _ hT13).mono ?_
        rintro e w14 ⟨x, rfl, hx, hs⟩
        have K3 := Lib.hid (K2.out.tape ha HBB.out hs)
        have c0 : w14.cell? ⟨w10.heap.size, 1, none⟩ = some (.int .i64 sub) := cell_of_row _ _ _ _ _ _ K3.out.pb
        have c1 := frozen_of_row _ _ 1 _ _ K3.out.pb
        have K4 := Lib.hid (K3.out.at_sub ha HBB.out hx)
        clear K2 K3 hs p0 p1 p2 p3 p4 p5 p6 p7 p8 p9
        go_wp2_with fail
        go_meet
        exact ⟨_, K4⟩
      · go_wp2_with fail
        refine (wild_any a _ hT13).mono ?_
        rintro e w14 ⟨x, rfl, hx, hs⟩
        have K3 := Lib.hid (K2.out.tape ha HBB.out hs)
        have c0 : w14.cell? ⟨w10.heap.size, 2, none⟩ = some (.int .i64 set) := cell_of_row _ _ _ _ _ _ K3.out.pb
        have c1 := frozen_of_row _ _ 2 _ _ K3.out.pb
        have K4 := Lib.hid (K3.out.at_set ha HBB.out hx)
        clear K2 K3 hs p0 p1 p2 p3 p4 p5 p6 p7 p8 p9
        go_wp2_with fail
        go_meet
        exact ⟨_, K4⟩
      · go_wp2_with fail
        refine (pick_any (fun r => I64 r) a _ 0 8 8 (by omega) (by omega) _ (hT13.alloc _) (among_list _ w13 a [0, 8, 16, 24, 63, 64, 65, -8] _ _ hT13.lt rfl (by unfold I64; decide))).mono ?_
        rintro e w14 ⟨x, rfl, hx, hs0⟩
        have hs := hs0.alloc_left
        have K3 := Lib.hid (K2.out.tape ha HBB.out hs)
        have c0 : w14.cell? ⟨w10.heap.size, 3, none⟩ = some (.int .i64 len) := cell_of_row _ _ _ _ _ _ K3.out.pb
        have c1 := frozen_of_row _ _ 3 _ _ K3.out.pb
        have K4 := Lib.hid (K3.out.at_len ha HBB.out hx)
        clear K2 K3 hs hs0 p0 p1 p2 p3 p4 p5 p6 p7 p8 p9
        go_wp2_with fail
        go_meet
        exact ⟨_, K4⟩
      · go_wp2_with fail
        refine (wild_any a _ hT13).mono ?_
        rintro e w14 ⟨x, rfl, hx, hs⟩
        have K3 := Lib.hid (K2.out.tape ha HBB.out hs)
        have c0 : w14.cell? ⟨w10.heap.size, 4, none⟩ = some (.int .i64 ttl) := cell_of_row _ _ _ _ _ _ K3.out.pb
        have c1 := frozen_of_row _ _ 4 _ _ K3.out.pb
        have K4 := Lib.hid (K3.out.at_ttl ha HBB.out hx)
        clear K2 K3 hs p0 p1 p2 p3 p4 p5 p6 p7 p8 p9
        go_wp2_with fail
        go_meet
        exact ⟨_, K4⟩
      · go_wp2_with fail
        refine (wild_any a _ hT13).mono ?_
        rintro e w14 ⟨x, rfl, hx, hs⟩
        have K3 := Lib.hid (K2.out.tape ha HBB.out hs)
        have c0 : w14.cell? ⟨w10.heap.size, 5, none⟩ = some (.int .i64 ent) := cell_of_row _ _ _ _ _ _ K3.out.pb
        have c1 := frozen_of_row _ _ 5 _ _ K3.out.pb
        have K4 := Lib.hid (K3.out.at_ent ha HBB.out hx)
        clear K2 K3 hs p0 p1 p2 p3 p4 p5 p6 p7 p8 p9
        go_wp2_with fail
        go_meet
        exact ⟨_, K4⟩
      · go_wp2_with fail
        refine (wild_any a _ hT13).mono ?_
        rintro e w14 ⟨x, rfl, hx, hs⟩
        have K3 := Lib.hid (K2.out.tape ha HBB.out hs)
        have c0 : w14.cell? ⟨w10.heap.size, 6, none⟩ = some (.int .i64 ing) := cell_of_row _ _ _ _ _ _ K3.out.pb
        have c1 := frozen_of_row _ _ 6 _ _ K3.out.pb
        have K4 := Lib.hid (K3.out.at_ing ha HBB.out hx)
        clear K2 K3 hs p0 p1 p2 p3 p4 p5 p6 p7 p8 p9
        go_wp2_with fail
        go_meet
        exact ⟨_, K4⟩
      · go_wp2_with fail
        refine (wild_any a _ hT13).mono ?_
        rintro e w14 ⟨x, rfl, hx, hs⟩
        have K3 := Lib.hid (K2.out.tape ha HBB.out hs)
        have c0 : w14.cell? ⟨w10.heap.size, 7, none⟩ = some (.int .i64 pro) := cell_of_row _ _ _ _ _ _ K3.out.pb
        have c1 := frozen_of_row _ _ 7 _ _ K3.out.pb
        have K4 := Lib.hid (K3.out.at_pro ha HBB.out hx)
        clear K2 K3 hs p0 p1 p2 p3 p4 p5 p6 p7 p8 p9
        go_wp2_with fail
        go_meet
        exact ⟨_, K4⟩
      · go_wp2_with fail
        go_loopw [44] (fun _ wr => ∃ P : Pk, P.pay.size ≤ 64 ∧ Hid (TK a w w10.heap.size P wr)) (fun _ wr => payLeft wr w10.heap.size)
        case atStart => exact ⟨_, Nat.le_trans HPY.out (by decide), K2⟩
        case round =>
          obtain ⟨P, hP64, HK⟩ := hrel
          clear K2 p0 p1 p2 p3 p4 p5 p6 p7 p8 p9 hT13
          have c9 : wr.cell? ⟨w10.heap.size, 9, none⟩ = some (.string P.pay) := cell_of_row _ _ _ _ _ _ HK.out.pb
          have d9 := frozen_of_row _ _ 9 _ _ HK.out.pb
          by_cases hlt : P.pay.size < 62
          · have hsz : (P.pay ++ ⟨#[97, 98, 99]⟩ : ByteArray).size = P.pay.size + 3 := by rw [ByteArray.size_append]; rfl
            have K' := HK.out.at_pay ha HBB.out (s := P.pay ++ ⟨#[97, 98, 99]⟩) (by rw [hsz]; omega)
            have c9' : (wr.setCell ⟨w10.heap.size, 9, none⟩ (.string (P.pay ++ ⟨#[97, 98, 99]⟩))).cell? ⟨w10.heap.size, 9, none⟩ = some (.string (P.pay ++ ⟨#[97, 98, 99]⟩)) := cell_of_row _ _ _ _ _ _ K'.pb
            have H9 := Lib.hid (And.intro c9 (And.intro c9' hsz))
            have HK' := Lib.hid K'
            clear c9' hsz K'
            go_wp2_with fail
            go_roundw
            case rel => exact ⟨_, by show (P.pay ++ ⟨#[97, 98, 99]⟩ : ByteArray).size ≤ 64; rw [H9.out.2.2]; omega, HK'⟩
            case measure =>
              unfold payLeft
              rw [H9.out.1, H9.out.2.1]
              show 62 - (P.pay ++ ⟨#[97, 98, 99]⟩ : ByteArray).size < 62 - P.pay.size
              rw [H9.out.2.2]; omega
          · have hT14 := HK.out.st.2
            go_wp2_with fail
            go_region_law (first
              | (go_simp; go_at_call 52; refine (text_any a 4 (by decide) _ hT14.drew).mono ?_; rintro e w15 ⟨s, rfl, hs4, hs⟩; have K5 := Lib.hid (HK.out.tape ha HBB.out (w1 := w15) ⟨grown_trans (grown_drew (grown_refl wr _)) hs.1, hs.2⟩); have e9 : w15.cell? ⟨w10.heap.size, 9, none⟩ = some (.string P.pay) := cell_of_row _ _ _ _ _ _ K5.out.pb; have f9 := frozen_of_row _ _ 9 _ _ K5.out.pb; have K6 := Lib.hid (K5.out.at_pay ha HBB.out (s := P.pay ++ s) (by rw [ByteArray.size_append]; omega)); have hcat : ¬ 9223372036854775807 < P.pay.size + s.size := (by omega); clear hs))
            all_goals
              clear K5 c9 d9 e9 f9 hcat hs4
              go_wp2_with fail
              go_meet
              exact ⟨_, K6⟩
  case rest =>
    obtain ⟨P, HK⟩ := hcut
    obtain ⟨⟨r0, r1, r2, r3, r4, r5, r6, r7, r8, r9⟩, f0, f1, f2, f3, f4, f5, f6, f7, f8, f9⟩ := zp_cells HK.out.rb
    obtain ⟨p0, p1, p2, p3, p4, p5, p6, p7, p8, p9⟩ := p_facts HK.out.pb
    clear K1
    go_wp2_with fail
    refine bodyPost_ret (res_packet rfl _ _ w.heap.size _ rfl rfl (pput_row _ _ _ _ _ _ _ _ _ _ HK.out.rb)) rfl ?_
    exact ⟨P, rfl, HK.out.wf, HK.out.sm, HK.out.st.store (pput_grown _ w.heap.size _ _ _ _ _ _ _ _ _ _) (Nat.le_refl _) ha⟩
end Go.Proofs.YtpombmpkccnefaaDoor

/- A list of three packets that a statement draws, and its members. -/
namespace Go.Proofs.YtpombmpkccnefaaDoor
open Go.RowKit Bs
set_option maxRecDepth 100000 in
theorem ints_keep {w w1 : World} {v : Value} (h : IntsIn w v) (g : w.grownBy w1 none) : IntsIn w1 v := by
  obtain ⟨p, n, c, hv, h1, h2, h3⟩ := h
  refine ⟨p, n, c, hv, h1, h2, fun hn => ?_⟩
  obtain ⟨b, off, hp, hb, hx⟩ := h3 hn
  refine ⟨b, off, hp, Nat.lt_of_lt_of_le hb g.size, fun i hi => ?_⟩
  obtain ⟨x, hx1, hx2⟩ := hx i hi
  exact ⟨x, hx1, g.cell hx2 (by simp)⟩
set_option maxRecDepth 100000 in
theorem grown_undrew_some {a : Nat} {w w1 : World} (g : w.drew.grownBy w1 (some a)) : w.grownBy w1 (some a) := ⟨g.os, g.tape, g.output, g.size, g.block⟩
set_option maxRecDepth 100000 in
theorem St.tp {a : Nat} {w w1 : World} (h : St a w w1) : Tp w1 a := h.2
set_option maxRecDepth 100000 in
theorem St.gr {a : Nat} {w w1 : World} (h : St a w w1) : w.grownBy w1 (some a) := h.1
/-- A packet comes back, cell by cell. -/
def AggPost (a : Nat) (w : World) (e : Ending) (w' : World) : Prop := ∃ P : Pk, e = .returned (.agg #[.int .i64 P.mode, .int .i64 P.sub, .int .i64 P.set, .int .i64 P.len, .int .i64 P.ttl, .int .i64 P.ent, .int .i64 P.ing, .int .i64 P.pro, .int .u64 (P.bits : Int), .string P.pay]) ∧ P.Wf ∧ St a w w'
set_option maxRecDepth 100000 in
theorem packetN_agg (a : Nat) (n : Int) (hn : 1 ≤ n) (hn2 : n ≤ 1000) (w : World) (hT : Tp w a) :
    Calls Tryd.prog 12 #[.pointer (some ⟨a, 0, none⟩), .int .i64 n] w fun e w' => AggPost a w e w' := by
  refine (packetN_any a n hn hn2 w hT).mono ?_
  rintro e w' ⟨P, rfl, h1, _, h2⟩
  exact ⟨P, rfl, h1, h2⟩
set_option maxRecDepth 100000 in
theorem packet1_agg (a : Nat) (w : World) (hT : Tp w a) :
    Calls Tryd.prog 12 #[.pointer (some ⟨a, 0, none⟩), .int .i64 1] w fun e w' => AggPost a w e w' := packetN_agg a 1 (by decide) (by decide) w hT
set_option maxRecDepth 100000 in
theorem packet2_agg (a : Nat) (w : World) (hT : Tp w a) :
    Calls Tryd.prog 12 #[.pointer (some ⟨a, 0, none⟩), .int .i64 2] w fun e w' => AggPost a w e w' := packetN_agg a 2 (by decide) (by decide) w hT
set_option maxRecDepth 100000 in
theorem packet4_agg (a : Nat) (w : World) (hT : Tp w a) :
    Calls Tryd.prog 12 #[.pointer (some ⟨a, 0, none⟩), .int .i64 4] w fun e w' => AggPost a w e w' := packetN_agg a 4 (by decide) (by decide) w hT
set_option maxRecDepth 100000 in
theorem packet0_agg (a : Nat) (w : World) (hT : Tp w a) :
    Calls Tryd.prog 12 #[.pointer (some ⟨a, 0, none⟩), .int .i64 0] w fun e w' => AggPost a w e w' := by
  refine (packet0_any a w hT).mono ?_
  rintro e w' ⟨P, rfl, h1, _, h2⟩
  exact ⟨P, rfl, h1, h2⟩
set_option maxRecDepth 100000 in
theorem keep12 {w0 w' : World} {a b : Nat} {P : Pk} (h : w0.heap[b]? = some (.cells (pcells P) 31 (0, 0))) (hab : b ≠ a) (hT : Tp w' a) (hg : Hid (w0.grownBy w' (some a))) :
    w'.cell? ⟨b, 0, none⟩ = some (.int .i64 P.mode) ∧ w'.cell? ⟨b, 1, none⟩ = some (.int .i64 P.sub) ∧ w'.cell? ⟨b, 2, none⟩ = some (.int .i64 P.set) ∧ w'.cell? ⟨b, 3, none⟩ = some (.int .i64 P.len) ∧ w'.cell? ⟨b, 4, none⟩ = some (.int .i64 P.ttl) ∧ w'.cell? ⟨b, 5, none⟩ = some (.int .i64 P.ent) ∧ w'.cell? ⟨b, 6, none⟩ = some (.int .i64 P.ing) ∧ w'.cell? ⟨b, 7, none⟩ = some (.int .i64 P.pro) ∧ w'.cell? ⟨b, 8, none⟩ = some (.int .u64 (P.bits : Int)) ∧ w'.cell? ⟨b, 9, none⟩ = some (.string P.pay) ∧ Tp w' a ∧ Hid (w0.grownBy w' (some a)) := by
  obtain ⟨h0, h1, h2, h3, h4, h5, h6, h7, h8, h9⟩ := p_facts (kept_row h hg.out (fun e => hab (Option.some.inj e)))
  exact ⟨h0, h1, h2, h3, h4, h5, h6, h7, h8, h9, hT, hg⟩
/-- The cells of three packets. -/
def c30 (P Q R : Pk) : Array Value := #[.int .i64 P.mode, .int .i64 P.sub, .int .i64 P.set, .int .i64 P.len, .int .i64 P.ttl, .int .i64 P.ent, .int .i64 P.ing, .int .i64 P.pro, .int .u64 (P.bits : Int), .string P.pay,
  .int .i64 Q.mode, .int .i64 Q.sub, .int .i64 Q.set, .int .i64 Q.len, .int .i64 Q.ttl, .int .i64 Q.ent, .int .i64 Q.ing, .int .i64 Q.pro, .int .u64 (Q.bits : Int), .string Q.pay,
  .int .i64 R.mode, .int .i64 R.sub, .int .i64 R.set, .int .i64 R.len, .int .i64 R.ttl, .int .i64 R.ent, .int .i64 R.ing, .int .i64 R.pro, .int .u64 (R.bits : Int), .string R.pay]
def sel3 (P Q R : Pk) (j : Nat) : Pk := match j with | 0 => P | 1 => Q | _ => R
/-- Member j of the list. -/
def At10 (w : World) (b j : Nat) (P : Pk) : Prop :=
  w.cell? ⟨b, j * 10, none⟩ = some (.int .i64 P.mode) ∧ w.cell? ⟨b, j * 10 + 1, none⟩ = some (.int .i64 P.sub) ∧ w.cell? ⟨b, j * 10 + 2, none⟩ = some (.int .i64 P.set) ∧ w.cell? ⟨b, j * 10 + 3, none⟩ = some (.int .i64 P.len) ∧ w.cell? ⟨b, j * 10 + 4, none⟩ = some (.int .i64 P.ttl) ∧ w.cell? ⟨b, j * 10 + 5, none⟩ = some (.int .i64 P.ent) ∧ w.cell? ⟨b, j * 10 + 6, none⟩ = some (.int .i64 P.ing) ∧ w.cell? ⟨b, j * 10 + 7, none⟩ = some (.int .i64 P.pro) ∧ w.cell? ⟨b, j * 10 + 8, none⟩ = some (.int .u64 (P.bits : Int)) ∧ w.cell? ⟨b, j * 10 + 9, none⟩ = some (.string P.pay)
set_option maxRecDepth 100000 in
theorem c30_at {w : World} {b : Nat} {P Q R : Pk} (hr : w.heap[b]? = some (.cells (c30 P Q R) 31 (0, 0))) (j : Nat) (hj : j < 3) : At10 w b j (sel3 P Q R j) := by
  rcases (show j = 0 ∨ j = 1 ∨ j = 2 by omega) with rfl | rfl | rfl
  · exact ⟨cell_of_row _ _ _ _ _ _ hr, cell_of_row _ _ _ _ _ _ hr, cell_of_row _ _ _ _ _ _ hr, cell_of_row _ _ _ _ _ _ hr, cell_of_row _ _ _ _ _ _ hr, cell_of_row _ _ _ _ _ _ hr, cell_of_row _ _ _ _ _ _ hr, cell_of_row _ _ _ _ _ _ hr, cell_of_row _ _ _ _ _ _ hr, cell_of_row _ _ _ _ _ _ hr⟩
  · exact ⟨cell_of_row _ _ _ _ _ _ hr, cell_of_row _ _ _ _ _ _ hr, cell_of_row _ _ _ _ _ _ hr, cell_of_row _ _ _ _ _ _ hr, cell_of_row _ _ _ _ _ _ hr, cell_of_row _ _ _ _ _ _ hr, cell_of_row _ _ _ _ _ _ hr, cell_of_row _ _ _ _ _ _ hr, cell_of_row _ _ _ _ _ _ hr, cell_of_row _ _ _ _ _ _ hr⟩
  · exact ⟨cell_of_row _ _ _ _ _ _ hr, cell_of_row _ _ _ _ _ _ hr, cell_of_row _ _ _ _ _ _ hr, cell_of_row _ _ _ _ _ _ hr, cell_of_row _ _ _ _ _ _ hr, cell_of_row _ _ _ _ _ _ hr, cell_of_row _ _ _ _ _ _ hr, cell_of_row _ _ _ _ _ _ hr, cell_of_row _ _ _ _ _ _ hr, cell_of_row _ _ _ _ _ _ hr⟩
set_option maxRecDepth 100000 in
theorem At10.keep {w w' : World} {b j : Nat} {P : Pk} (h : At10 w b j P) (g : w.grownBy w' none) : At10 w' b j P := by
  obtain ⟨h0, h1, h2, h3, h4, h5, h6, h7, h8, h9⟩ := h
  exact ⟨g.cell h0 (by simp), g.cell h1 (by simp), g.cell h2 (by simp), g.cell h3 (by simp), g.cell h4 (by simp), g.cell h5 (by simp), g.cell h6 (by simp), g.cell h7 (by simp), g.cell h8 (by simp), g.cell h9 (by simp)⟩
set_option maxRecDepth 100000 in
theorem sel3_wf {P Q R : Pk} (h1 : P.Wf) (h2 : Q.Wf) (h3 : R.Wf) (j : Nat) : (sel3 P Q R j).Wf := by
  unfold sel3
  split <;> assumption
end Go.Proofs.YtpombmpkccnefaaDoor

/- The tape's labels. -/
namespace Go.Proofs.YtpombmpkccnefaaDoor
open Go.RowKit Bs
set_option maxRecDepth 100000 in
theorem spoiln_any (a : Nat) (x n : Int) (hx : I64 x) (hn : I64 n) (hn0 : 0 < n) (w : World) (hT : Tp w a) :
    Calls Tryd.prog 71 #[.pointer (some ⟨a, 0, none⟩), .int .i64 x, .int .i64 n] w fun e w' => IntPost I64 a w e w' := by
  go_enter Tryd.func71, Tryd.ntmps71
  go_wp2_with fail
  refine (one_any a n hn _ hT).mono ?_
  rintro e w1 ⟨b, rfl, hs⟩
  cases b
  · go_wp2_with fail
    go_ret
    exact ⟨_, rfl, hx, hs⟩
  · go_wp2_with fail
    refine (wild_any a _ hs.2).mono ?_
    rintro e w2 ⟨r, rfl, hr, hs2⟩
    go_wp2_with fail
    go_ret
    exact ⟨_, rfl, hr, hs.trans hs2⟩
set_option maxRecDepth 100000 in
theorem spoil0_any (a : Nat) (x : Int) (hx : I64 x) (w : World) (hT : Tp w a) :
    Calls Tryd.prog 71 #[.pointer (some ⟨a, 0, none⟩), .int .i64 x, .int .i64 0] w fun e w' => IntPost I64 a w e w' := by
  go_enter Tryd.func71, Tryd.ntmps71
  go_wp2_with fail
  go_ret
  exact ⟨_, rfl, hx, ⟨grown_refl _ _, hT⟩⟩
set_option maxRecDepth 100000 in
theorem spoila_any (a : Nat) (x n : Int) (hx : I64 x) (hn : I64 n) (hn0 : 0 ≤ n) (w : World) (hT : Tp w a) :
    Calls Tryd.prog 71 #[.pointer (some ⟨a, 0, none⟩), .int .i64 x, .int .i64 n] w fun e w' => IntPost I64 a w e w' := by
  by_cases h : n = 0
  · subst h
    exact spoil0_any a x hx w hT
  · exact spoiln_any a x n hx hn (by omega) w hT
def LabelPost (a : Nat) (w : World) (e : Ending) (w' : World) : Prop := ∃ l : Lab, e = .returned (.agg #[.int .i64 l.v, .int .i64 l.c, .int .i64 l.h]) ∧ l.Wf ∧ St a w w'
set_option maxRecDepth 100000 in
set_option maxHeartbeats 3200000 in
theorem label_any (a : Nat) (n : Int) (hn : I64 n) (hn0 : 0 ≤ n) (w : World) (hT : Tp w a) :
    Calls Tryd.prog 18 #[.pointer (some ⟨a, 0, none⟩), .int .i64 n] w fun e w' => LabelPost a w e w' := by
  have ha := hT.lt
  obtain ⟨k1, k2⟩ := sone_box w #[.int .i64 0, .int .i64 0, .int .i64 0] 41
  have HS : Hid (St a w (w.alloc (.cells #[.int .i64 0, .int .i64 0, .int .i64 0] 41))) := Lib.hid ⟨grown_none k2 _, hT.keep k2⟩
  have HB := Lib.hid k1
  clear k1 k2 hT
  go_enter Tryd.func18, Tryd.ntmps18
  go_upto_region 1 with fail
  have HW := Lib.hid (show w.heap.size < (w.alloc (.cells #[.int .i64 0, .int .i64 0, .int .i64 0] 41)).heap.size by simp)
  generalize w.alloc _ = wa at *
  have haw : a < wa.heap.size := HS.out.2.lt
  go_wp2_with fail
  refine (pick_any I64 a _ 0 6 6 (by omega) (by omega) _ (HS.out.2.alloc _) (among_list _ wa a [0, 17, 18, 115, 116, 1048575] _ _ haw rfl (by intro x hx; simp at hx; unfold I64; omega))).mono ?_
  rintro e w1 ⟨x1, rfl, hx1, hs1⟩
  have S1 := Lib.hid (hs1.alloc_left)
  clear hs1
  go_wp2_with fail
  refine (spoila_any a x1 n hx1 hn hn0 _ S1.out.2).mono ?_
  rintro e w2 ⟨y1, rfl, hy1, hs2⟩
  have S2 := Lib.hid (S1.out.trans hs2)
  clear hs2 S1
  go_wp2_with fail
  refine (next_any a 8 (by unfold I64; omega) _ S2.out.2).mono ?_
  rintro e w3 ⟨x2, rfl, hx2, hs3⟩
  have S3 := Lib.hid (S2.out.trans hs3)
  have hx2' : I64 x2 := by
    have h1 := hx2.1
    have h2 := hx2.2.1 (by omega)
    unfold I64; omega
  clear hs3 S2 hx2
  go_wp2_with fail
  refine (spoila_any a x2 n hx2' hn hn0 _ S3.out.2).mono ?_
  rintro e w4 ⟨y2, rfl, hy2, hs4⟩
  have S4 := Lib.hid (S3.out.trans hs4)
  clear hs4 S3
  go_wp2_with fail
  refine (pick_any I64 a _ 0 3 3 (by omega) (by omega) _ (S4.out.2.alloc _) (among_list _ w4 a [0, 1, 255] _ _ S4.out.2.lt rfl (by intro x hx; simp at hx; unfold I64; omega))).mono ?_
  rintro e w5 ⟨x3, rfl, hx3, hs5⟩
  have S5 := Lib.hid (S4.out.trans (hs5.alloc_left))
  clear hs5 S4
  go_wp2_with fail
  refine (spoila_any a x3 n hx3 hn hn0 _ S5.out.2).mono ?_
  rintro e w6 ⟨y3, rfl, hy3, hs6⟩
  have S6 := Lib.hid (S5.out.trans hs6)
  clear hs6 S5
  have hrow := kept_row HB.out S6.out.1 (fun e => by have := Option.some.inj e; omega)
  have HR := Lib.hid hrow
  have f0 := frozen_of_row _ _ 0 _ _ hrow
  have f1 := frozen_of_row _ _ 1 _ _ hrow
  have f2 := frozen_of_row _ _ 2 _ _ hrow
  obtain ⟨e0, e1, e2⟩ := lab_facts (l := ⟨0, 0, 0⟩) hrow
  simp only at e0 e1 e2
  clear hrow
  go_wp2_with fail
  refine bodyPost_ret (res_lab rfl _ _ w.heap.size _ rfl rfl (store3 HR.out)) rfl ?_
  exact ⟨⟨y1, y2, y3⟩, rfl, ⟨hy1, hy2, hy3⟩, (HS.out.trans S6.out).store (b := w.heap.size) (grown_store3 _ _ _ _ _) (Nat.le_refl _) ha⟩
end Go.Proofs.YtpombmpkccnefaaDoor

/- stack: routeOf. -/
namespace Go.Proofs.YtpombmpkccnefaaDoor
open Go.RowKit Bs
def RTPost (ls : List Lab) (w : World) (e : Ending) (w' : World) : Prop :=
  ∃ p c, e = .returned (.tuple #[.slice p (rtV ls).1.length c, .int .i64 (rtV ls).2]) ∧ Rd w' (w.heap.size ≤ ·) (.slice p (rtV ls).1.length c) ((rtV ls).1.map iv) ∧ (rtV ls).1.length ≤ c ∧ c ≤ 9223372036854775807 ∧ (p = none → c = 0) ∧ w.grownBy w' none
set_option maxRecDepth 100000 in
theorem rt_err {ls : List Lab} {w w' : World} {x : Int} (h : rtV ls = ([], x)) (g : w.grownBy w' none) : RTPost ls w (.returned (.tuple #[.slice none 0 0, .int .i64 x])) w' := by
  refine ⟨none, 0, by rw [h]; rfl, ?_, by rw [h]; exact Nat.le_refl _, by omega, fun _ => rfl, g⟩
  rw [h]
  exact Rd.nil_ _ _ _ _
set_option maxRecDepth 100000 in
theorem keep3 {w0 w' : World} {b : Nat} {x y z : Value} (h0 : w0.cell? ⟨b, 0, none⟩ = some x) (h1 : w0.cell? ⟨b, 1, none⟩ = some y) (h2 : w0.cell? ⟨b, 2, none⟩ = some z) (g : Hid (w0.grownBy w' none)) :
    w'.cell? ⟨b, 0, none⟩ = some x ∧ w'.cell? ⟨b, 1, none⟩ = some y ∧ w'.cell? ⟨b, 2, none⟩ = some z ∧ Hid (w0.grownBy w' none) := ⟨g.out.cell h0 (by simp), g.out.cell h1 (by simp), g.out.cell h2 (by simp), g⟩
set_option maxRecDepth 100000 in
theorem grown_dn (w : World) (n : Nat) : w.grownBy (w.drewN n) none := grown_drewN w n none
set_option maxRecDepth 100000 in
theorem hid_dr (w : World) : Hid (w.grownBy w.drew none) := Lib.hid (grown_drew (grown_refl _ _))
def rtZ (ls : List Lab) (k : Nat) : List Value := (rts (ls.take k)).map iv ++ List.replicate (ls.length - k) (iv 0)
set_option maxRecDepth 100000 in
theorem rtZ_pre {ls : List Lab} {k : Nat} (h : k ≤ ls.length) : ((rts (ls.take k)).map iv).length = k := by
  unfold rts
  rw [List.length_map, List.length_map, List.length_take, Nat.min_eq_left h]
set_option maxRecDepth 100000 in
theorem rtZ_at {ls : List Lab} {k : Nat} (h : k < ls.length) : (rtZ ls k)[k]? = some (iv 0) := by
  unfold rtZ
  rw [List.getElem?_append_right (by rw [rtZ_pre (Nat.le_of_lt h)]; exact Nat.le_refl _), rtZ_pre (Nat.le_of_lt h), Nat.sub_self, List.getElem?_replicate, if_pos (by omega)]
set_option maxRecDepth 100000 in
theorem rtZ_set {ls : List Lab} {k : Nat} {l : Lab} (h : k < ls.length) (hl : ls[k]? = some l) : (rtZ ls k).set k (iv (l.v - 16)) = rtZ ls (k + 1) := by
  unfold rtZ
  have hp := rtZ_pre (Nat.le_of_lt h)
  rw [show ls.length - k = (ls.length - (k + 1)) + 1 by omega, List.replicate_succ, List.set_append_right _ _ (by rw [hp]; exact Nat.le_refl _), hp, Nat.sub_self, List.set_cons_zero, List.take_add_one, hl]
  unfold rts
  simp
set_option maxRecDepth 100000 in
theorem okL_iff (l : Lab) : okL l = true ↔ okR (l.v - 16) = true ∧ l.c = 0 ∧ l.h = 255 := by
  unfold okL okR
  rw [decide_eq_true_eq, decide_eq_true_eq]
  omega
set_option maxRecDepth 100000 in
theorem all_bad {ls : List Lab} {k : Nat} {l : Lab} (h : ls[k]? = some l) (hv : ¬ okL l = true) : rtV ls = ([], 2) := by
  have : ls.all okL = false := by
    rw [Bool.eq_false_iff]
    intro ha
    exact hv (List.all_eq_true.1 ha l (List.mem_of_getElem? h))
  unfold rtV
  rw [this]
  rfl
set_option maxRecDepth 100000 in
set_option maxHeartbeats 3200000 in
theorem srtof_any (ls : List Lab) (hv : ∀ l ∈ ls, vlab l = true) (h24 : ls.length ≤ 24) (p : Option Addr) (c : Nat) (q : Nat → Prop) (w : World) (hR : RdL w q (.slice p ls.length c) ls) :
    Calls Tryd.prog 81 #[.slice p ls.length c] w fun e w' => RTPost ls w e w' := by
  have HR := Lib.hid hR
  have HV := Lib.hid hv
  clear hR hv
  obtain ⟨i0, hi, hz0, hz1, hz2⟩ := info_parts info_int
  go_enter Tryd.func81, Tryd.ntmps81
  go_wp2_with (at_make; refine wpList_make_k _ rfl _ _ 22 rfl 3 i0 _ Tryd.underlying22 hi hz0 ls.length rfl rfl (by omega) (by omega) ?_; rw [hz1, made_same _ (iv 0) (by intro i hi; have : i = 0 := by { simp [Value.cells] at hi; omega }; subst this; rfl) (by simp [Value.cells]) _, Nat.mul_one])
  obtain ⟨k1, k2⟩ := sone_box w (Array.replicate ls.length (iv 0)) 3
  have P0 : Hid (Row (w.alloc (.cells (Array.replicate ls.length (iv 0)) 3)) w.heap.size 3 (rtZ ls 0) ∧ w.grownBy (w.alloc (.cells (Array.replicate ls.length (iv 0)) 3)) none) := by
    refine Lib.hid ⟨?_, k2⟩
    unfold Row rtZ
    rw [k1, List.take_zero, Nat.sub_zero]
    show _ = some (Obj.cells (List.replicate ls.length (iv 0)).toArray _ _)
    rw [List.toArray_replicate]
  clear k1 k2
  generalize w.alloc _ = wa at *
  go_loopw [13] (fun a wr => ∃ k : Nat, k ≤ ls.length ∧ a = .int .i64 (k : Int) ∧ Row wr w.heap.size 3 (rtZ ls k) ∧ w.grownBy wr none ∧ ∀ x ∈ ls.take k, okL x = true) (fun a _ => ls.length - (intOf a).toNat)
  case atStart => exact ⟨0, Nat.zero_le _, rfl, P0.out.1, P0.out.2, fun x hx => by simp at hx⟩
  case round =>
    obtain ⟨k, hk, rfl, hX, hG, hA⟩ := hrel
    have HX := Lib.hid (And.intro hX hG)
    have HA := Lib.hid hA
    clear hX hG P0 hA
    by_cases hlt : k < ls.length
    · obtain ⟨-, b, off, rfl, hq, hc⟩ := (HR.out.keep HX.out.2).cells (by omega)
      obtain ⟨c0, c1, c2⟩ := hc k hlt
      obtain ⟨l, hl⟩ : ∃ l, ls[k] = l := ⟨_, rfl⟩
      rw [hl] at c0 c1 c2
      have HL : Hid (ls[k]? = some l) := Lib.hid (by rw [← hl]; exact List.getElem?_eq_getElem hlt)
      have hv9 := (vlab_iff l).1 (HV.out l (List.mem_of_getElem? HL.out))
      clear hc hl
      obtain ⟨y, hy⟩ : ∃ y, l.v - 16 = y := ⟨_, rfl⟩
      have hv' : l.v = 16 + y := by omega
      obtain ⟨v0, v1⟩ : -16 ≤ y ∧ y ≤ 1048559 := by omega
      have HOK := Lib.hid (okL_iff l)
      rw [hy] at HOK
      have HY := Lib.hid hy
      rw [hv'] at c0
      obtain ⟨cc, hcc⟩ : ∃ cc, l.c = cc := ⟨_, rfl⟩
      obtain ⟨hh, hhh⟩ : ∃ hh, l.h = hh := ⟨_, rfl⟩
      rw [hcc] at c1 HOK
      rw [hhh] at c2 HOK
      clear hv' hcc hhh hy hv9
      go_upto_region 5 with fail
      obtain ⟨k1, k2⟩ := sone_box wr #[.int .i64 (16 + y), .int .i64 cc, .int .i64 hh] 41
      have HX1 := Lib.hid (And.intro (HX.out.1.kept k2 (by simp)) (grown_trans HX.out.2 k2))
      obtain ⟨d0, d1, d2⟩ := lab_facts (l := ⟨16 + y, cc, hh⟩) k1
      simp only at d0 d1 d2
      clear k1 k2 HX c0 c1 c2
      generalize wr.alloc _ = wb at *
      go_upto_region 6 with fail
      rw [show 16 + y - 16 = y by omega]
      cases hok : okR y
      · have hVR : ∀ w, Calls Tryd.prog 103 #[.int .i64 y] w fun e w' => e = .returned (.bool false) ∧ w = w' := fun w => (svr_any y w).mono (by rw [hok]; rintro e w' ⟨rfl, rfl⟩; exact ⟨rfl, rfl⟩)
        have HB := Lib.hid (all_bad HL.out (fun h => by have := (HOK.out.1 h).1; rw [hok] at this; cases this))
        clear hok
        go_quiet (first | (go_at_call 103; first | exact qt0 (hVR _) | exact qt1 (hVR _) | exact qt2 (hVR _)))
        go_wp2_with fail
        go_ret2
        exact rt_err HB.out (grown_trans HX1.out.2 (grown_dn _ _))
      · have HOKT := Lib.hid hok
        have hz9 : 1 ≤ y ∧ y ≤ 99 := by simpa [okR] using hok
        have HZ := Lib.hid hz9
        clear hok hz9
        by_cases hc0 : cc = 0
        · by_cases hh0 : hh = 255
          · subst hc0
            subst hh0
            go_region_held3 (fun w' => w'.cell? ⟨wr.heap.size, 0, none⟩ = some (.int .i64 (16 + y)) ∧ w'.cell? ⟨wr.heap.size, 1, none⟩ = some (.int .i64 0) ∧ w'.cell? ⟨wr.heap.size, 2, none⟩ = some (.int .i64 255) ∧ Hid (wb.grownBy w' none))
              (first | with_reducible exact keep3 d0 d1 d2 (hid_dr wb) | (go_split_ands; with_reducible refine keep3 d0 d1 d2 (hid_more ?_ hap); with_reducible assumption) | (go_split_ands; with_reducible refine keep3 d0 d1 d2 ?_; with_reducible assumption))
              (first | (go_at_call 103; refine (svr_any _ _).mono ?_; rw [HOKT.out]; rintro e w' ⟨rfl, rfl⟩) | (go_at_call 105; refine (slabof_any _ HZ.out _).mono ?_; rintro e w' ⟨rfl, hap⟩))
            all_goals
              have HGW := Lib.hid (And.intro (HX1.out.1.kept (grown_trans (hid_dr wb).out hap) (by simp)) (grown_trans HX1.out.2 (grown_trans (hid_dr wb).out hap)))
              go_split_ands
              clear hap
              have e0 : w'.cell? ⟨w.heap.size, k, none⟩ = some (.int .i64 0) := HGW.out.1.cell (rtZ_at hlt)
              have f0 := HGW.out.1.frozen k
              have HS : Hid (Row (w'.setCell ⟨w.heap.size, k, none⟩ (.int .i64 y)) w.heap.size 3 (rtZ ls (k + 1)) ∧ w.grownBy (w'.setCell ⟨w.heap.size, k, none⟩ (.int .i64 y)) none) := by
                refine Lib.hid ⟨?_, grown_new HGW.out.2 (grown_setCell w' ⟨w.heap.size, k, none⟩ _) (Nat.le_refl _)⟩
                rw [← rtZ_set hlt HL.out, HY.out]
                exact HGW.out.1.set _ _
              go_wp2_with fail
              refine ⟨⟨k + 1, by omega, congrArg _ (by omega), HS.out.1, HS.out.2, fun x hx => ?_⟩, by simp only [intOf]; omega⟩
              rw [List.take_add_one, HL.out] at hx
              rcases List.mem_append.1 hx with hx | hx
              · exact HA.out x hx
              · obtain rfl : x = l := by simpa using hx
                exact HOK.out.2 (by simp [HOKT.out])
          · subst hc0
            have hhb : (hh == 255) = false := by simpa using hh0
            go_region_held3 (fun w' => w'.cell? ⟨wr.heap.size, 0, none⟩ = some (.int .i64 (16 + y)) ∧ w'.cell? ⟨wr.heap.size, 1, none⟩ = some (.int .i64 0) ∧ w'.cell? ⟨wr.heap.size, 2, none⟩ = some (.int .i64 hh) ∧ Hid (wb.grownBy w' none))
              (first | with_reducible exact keep3 d0 d1 d2 (hid_dr wb) | (go_split_ands; with_reducible refine keep3 d0 d1 d2 (hid_more ?_ hap); with_reducible assumption) | (go_split_ands; with_reducible refine keep3 d0 d1 d2 ?_; with_reducible assumption))
              (first | (go_at_call 103; refine (svr_any _ _).mono ?_; rw [HOKT.out]; rintro e w' ⟨rfl, rfl⟩) | (go_at_call 105; refine (slabof_any _ HZ.out _).mono ?_; rintro e w' ⟨rfl, hap⟩))
            all_goals
              have HGW := Lib.hid (grown_trans HX1.out.2 (grown_trans (hid_dr wb).out hap))
              go_split_ands
              clear hap
              go_wp2_with fail
              go_ret2
              exact rt_err (all_bad HL.out (fun h => by have := (HOK.out.1 h).2; omega)) HGW.out
        · have hcb : (cc == 0) = false := by simpa using hc0
          go_region_held3 (fun w' => w'.cell? ⟨wr.heap.size, 0, none⟩ = some (.int .i64 (16 + y)) ∧ w'.cell? ⟨wr.heap.size, 1, none⟩ = some (.int .i64 cc) ∧ w'.cell? ⟨wr.heap.size, 2, none⟩ = some (.int .i64 hh) ∧ Hid (wb.grownBy w' none))
            (first | with_reducible exact keep3 d0 d1 d2 (hid_dr wb) | (go_split_ands; with_reducible refine keep3 d0 d1 d2 (hid_more ?_ hap); with_reducible assumption) | (go_split_ands; with_reducible refine keep3 d0 d1 d2 ?_; with_reducible assumption))
            (first | (go_at_call 103; refine (svr_any _ _).mono ?_; rw [HOKT.out]; rintro e w' ⟨rfl, rfl⟩) | (go_at_call 105; refine (slabof_any _ HZ.out _).mono ?_; rintro e w' ⟨rfl, hap⟩))
          all_goals
            have HGW := Lib.hid (grown_trans HX1.out.2 (grown_trans (hid_dr wb).out hap))
            go_split_ands
            clear hap
            go_wp2_with fail
            go_ret2
            exact rt_err (all_bad HL.out (fun h => by have := (HOK.out.1 h).2; omega)) HGW.out
    · obtain rfl : k = ls.length := by omega
      have hrow : Row wr w.heap.size 3 ((rts ls).map iv) := by
        have := HX.out.1
        unfold rtZ at this
        rw [List.take_length, Nat.sub_self] at this
        simpa using this
      have hlen : (rts ls).length = ls.length := by unfold rts; rw [List.length_map]
      have hall : ls.all okL = true := by
        rw [List.all_eq_true]
        have := HA.out
        rwa [List.take_length] at this
      have hRd : Rd wr (w.heap.size ≤ ·) (.slice (some ⟨w.heap.size, 0, none⟩) (rts ls).length (rts ls).length) ((rts ls).map iv) :=
        ⟨_, _, by rw [List.length_map], fun _ => ⟨w.heap.size, 0, rfl, Nat.le_refl _, fun i x hi => by rw [Nat.zero_add]; exact hrow.cell hi⟩⟩
      have C := salld_any (rts ls) _ _ (Nat.le_refl _) (by omega) _ wr hRd
      have hrt : rtV ls = if rep (rts ls) then ([], 5) else (rts ls, 0) := by unfold rtV; rw [if_pos hall]
      have HRT := Lib.hid hrt
      have HRD := Lib.hid hRd
      have HLN := Lib.hid hlen
      rw [hlen] at C
      clear hrow hall hRd hrt hlen
      go_wp2_with fail
      refine C.mono ?_
      clear C
      rintro e w' ⟨rfl, rfl⟩
      cases hr : rep (rts ls)
      · have e : rtV ls = (rts ls, 0) := by rw [HRT.out, if_neg (by rw [hr]; decide)]
        have HE := Lib.hid e
        clear e hr
        go_wp2_with fail
        go_ret2
        refine ⟨some ⟨w.heap.size, 0, none⟩, ls.length, ?_, ?_, ?_, by omega, by exact nofun, HX.out.2⟩
        · rw [HE.out]
          show Ending.returned (.tuple #[.slice (some ⟨w.heap.size, 0, none⟩) ls.length ls.length, .int .i64 0]) = .returned (.tuple #[.slice (some ⟨w.heap.size, 0, none⟩) (rts ls).length ls.length, .int .i64 0])
          rw [HLN.out]
        · rw [HE.out, ← HLN.out]
          exact HRD.out
        · rw [HE.out]
          exact Nat.le_of_eq HLN.out
      · have HE := Lib.hid (show rtV ls = ([], 5) by rw [HRT.out, if_pos hr])
        clear hr
        go_wp2_with fail
        go_ret2
        exact rt_err HE.out HX.out.2
end Go.Proofs.YtpombmpkccnefaaDoor

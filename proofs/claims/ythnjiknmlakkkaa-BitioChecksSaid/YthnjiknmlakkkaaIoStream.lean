/- The tape's streams of bits. -/
import Derived.Test.YthnjiknmlakkkaaIoPut
import Derived.Test.YthnjiknmlakkkaaIoWild
namespace Go.Proofs.Ythnjiknmlakkkaa
open Go.RowKit Bs
theorem put_bit (f : Nat → Bool) (m b : Nat) (l : List Nat) (q : Nat → Prop) (p : Option Addr) (c : Nat) (hm : m ≤ 9000) (hb : b ≤ 1) (hl : l = pz f m ((m + 7) / 8)) (hpc : p = none → c = 0) (w : World) (hR : Rd w q (.slice p l.length c) (l.map nv)) :
    Calls Try.prog 35 #[.agg #[.slice p l.length c, .int .i64 (m : Int)], .int .u64 (b : Int)] w fun e w' => ∃ f', StreamPost (pz f' (m + 1) ((m + 8) / 8)) ((m + 1 : Nat) : Int) w e w' := by
  have e1 : pz f m ((m + 7) / 8) = pz (fun i => if i = m then b == 1 else f i) m ((m + 7) / 8) := by
    apply pz_congr
    intro i _
    by_cases hi : i = m
    · subst hi; simp
    · simp [hi]
  have h := put_any (fun i => if i = m then b == 1 else f i) m l q p c hm (by rw [hl, e1]) hpc w hR
  rw [show (bw ((fun i => if i = m then b == 1 else f i) m)) = Value.int .u64 (b : Int) by
    show Value.int .u64 _ = _
    rcases (show b = 0 ∨ b = 1 by omega) with rfl | rfl <;> simp] at h
  exact h.mono fun e w' h => ⟨_, h⟩
/-- What stands while the tape's stream is made. -/
structure StAt (W : World) (a : Nat) (p : Option Addr) (c : Nat) (l : List Nat) (n : Int) (w' : World) : Prop where
  row : w'.heap[W.heap.size + 1]? = some (.cells #[.slice p l.length c, .int .i64 n] 25 (0, 0))
  res : w'.heap[W.heap.size]? = some (.cells #[.slice none 0 0, .int .i64 0] 25 (0, 0))
  own : Own w' (W.heap.size + 2) p c l
  st : St a W w'
  sz : W.heap.size + 2 ≤ w'.heap.size
section
variable {W w' w2 : World} {a : Nat} {p : Option Addr} {c : Nat} {l : List Nat} {n : Int}
theorem St.drew (h : St a W w') : St a W w'.drew := ⟨grown_drew h.1, h.2.drew⟩
theorem StAt.limbs (h : StAt W a p c l n w') : w'.cell? ⟨W.heap.size + 1, 0, none⟩ = some (.slice p l.length c) ∧ w'.cell? ⟨W.heap.size + 1, 1, none⟩ = some (.int .i64 n) ∧
    w'.frozen? ⟨W.heap.size + 1, 0, none⟩ = false ∧ w'.frozen? ⟨W.heap.size + 1, 1, none⟩ = false ∧ Hid (StAt W a p c l n w') :=
  ⟨(row_cells h.row).1, (row_cells h.row).2, frozen_of_row _ _ _ _ _ h.row, frozen_of_row _ _ _ _ _ h.row, Lib.hid h⟩
theorem StAt.drew (h : StAt W a p c l n w') : StAt W a p c l n w'.drew := ⟨h.row, h.res, h.own.keep (grown_drew (grown_refl _ _)), h.st.drew, h.sz⟩
theorem StAt.turn (h : StAt W a p c l n w') (ha : a < W.heap.size) (k : St a w' w2) : StAt W a p c l n w2 :=
  ⟨kept_row h.row k.1 (by intro e; have := Option.some.inj e; omega), kept_row h.res k.1 (by intro e; have := Option.some.inj e; omega), h.own.other k.1 (by omega), h.st.trans k, Nat.le_trans h.sz k.1.size⟩
theorem StAt.keep (h : StAt W a p c l n w') (k : w'.grownBy w2 none) : StAt W a p c l n w2 :=
  ⟨kept_row h.row k (by simp), kept_row h.res k (by simp), h.own.keep k, ⟨grown_trans h.st.1 (grown_none k _), h.st.2.keep k⟩, Nat.le_trans h.sz k.size⟩
theorem StAt.tp (h : Hid (StAt W a p c l n w')) : Tp w' a := h.out.st.2
theorem StAt.rd (h : Hid (StAt W a p c l n w')) : Rd w' (W.heap.size + 2 ≤ ·) (.slice p l.length c) (l.map nv) := h.out.own.rd
theorem StAt.limbs_turn (h : Hid (StAt W a p c l n w')) (ha : a < W.heap.size) (k : St a w' w2) : w2.cell? ⟨W.heap.size + 1, 0, none⟩ = some (.slice p l.length c) ∧ w2.cell? ⟨W.heap.size + 1, 1, none⟩ = some (.int .i64 n) ∧
    w2.frozen? ⟨W.heap.size + 1, 0, none⟩ = false ∧ w2.frozen? ⟨W.heap.size + 1, 1, none⟩ = false ∧ Hid (StAt W a p c l n w2) := (h.out.turn ha k).limbs
theorem StAt.limbs_keep (h : Hid (StAt W a p c l n w')) (k : w'.grownBy w2 none) : w2.cell? ⟨W.heap.size + 1, 0, none⟩ = some (.slice p l.length c) ∧ w2.cell? ⟨W.heap.size + 1, 1, none⟩ = some (.int .i64 n) ∧
    w2.frozen? ⟨W.heap.size + 1, 0, none⟩ = false ∧ w2.frozen? ⟨W.heap.size + 1, 1, none⟩ = false ∧ Hid (StAt W a p c l n w2) := (h.out.keep k).limbs
theorem tp_new {w1 w2 : World} {b : Nat} (h : Tp w1 a) (k : w1.grownBy w2 (some b)) (hb : a < b) : Tp w2 a := by
  have hlt := h.lt
  obtain ⟨v, n, i, T⟩ := h
  have hb' : w2.heap[a]? = w1.heap[a]? := k.block a hlt (by intro e; have := Option.some.inj e; omega)
  refine ⟨v, n, i, (World.cell?_of_block (a := ⟨a, 0, none⟩) hb').trans T.l, (World.cell?_of_block (a := ⟨a, 1, none⟩) hb').trans T.p, (World.frozen?_of_block (a := ⟨a, 1, none⟩) hb').trans T.fr, ?_, T.le, T.len⟩
  obtain ⟨p, c, hv, hc⟩ := T.ints
  refine ⟨p, c, hv, fun hn => ?_⟩
  obtain ⟨g, off, hp, hg, hx⟩ := hc hn
  exact ⟨g, off, hp, hg, fun i hi => by obtain ⟨x, hx, hcell⟩ := hx i hi; exact ⟨x, hx, k.cell hcell (by intro e; have e2 : g = b := Option.some.inj e; omega)⟩⟩
theorem grown_newa {w w1 w2 : World} {b : Nat} {r : Option Nat} (h : w.grownBy w1 r) (k : w1.grownBy w2 (some b)) (hb : w.heap.size ≤ b) : w.grownBy w2 r :=
  ⟨k.os.trans h.os, k.tape.trans h.tape, k.output.trans h.output, Nat.le_trans h.size k.size, fun i hi hr => (k.block i (Nat.lt_of_lt_of_le hi h.size) (by intro e; have := Option.some.inj e; omega)).trans (h.block i hi hr)⟩
/-- Both fields are laid anew. -/
theorem StAt.store {p' : Option Addr} {c' : Nat} {l' : List Nat} {n' : Int} (h : StAt W a p c l n w') (ha : a < W.heap.size) (o : Own w' (W.heap.size + 2) p' c' l') :
    StAt W a p' c' l' n' ((w'.setCell ⟨W.heap.size + 1, 0, none⟩ (.slice p' l'.length c')).setCell ⟨W.heap.size + 1, 1, none⟩ (.int .i64 n')) := by
  have g := grown_store2 w' (W.heap.size + 1) (.slice p' l'.length c') (.int .i64 n')
  exact ⟨store2 h.row, kept_row h.res g (by intro e; have := Option.some.inj e; omega), o.other g (by omega), ⟨grown_newa h.st.1 g (by omega), tp_new h.st.2 g (by omega)⟩, Nat.le_trans h.sz g.size⟩
end
/-- j bits have been put. -/
def MadeRel (W : World) (a : Nat) (j : Nat) (w' : World) : Prop := ∃ f p c, StAt W a p c (pz f j ((j + 7) / 8)) (j : Int) w'
theorem MadeRel.open_ {W w' : World} {a j : Nat} (h : MadeRel W a j w') : ∃ f p c l, Hid (l = pz f j ((j + 7) / 8)) ∧ StAt W a p c l (j : Int) w' := by
  obtain ⟨f, p, c, h⟩ := h
  exact ⟨f, p, c, _, Lib.hid rfl, h⟩
theorem made_next {W w4 : World} {a j base N : Nat} {p p' : Option Addr} {c c' : Nat} {l : List Nat} {n : Int} {f' : Nat → Bool} (h : Hid (StAt W a p c l n w4)) (ha : a < W.heap.size) (hN : N = (j + 8) / 8) (o : Own w4 base p' c' (pz f' (j + 1) N)) (hb : W.heap.size + 2 ≤ base) :
    Hid (MadeRel W a (j + 1) ((w4.setCell ⟨W.heap.size + 1, 0, none⟩ (.slice p' (pz f' (j + 1) N).length c')).setCell ⟨W.heap.size + 1, 1, none⟩ (.int .i64 ((j : Int) + 1)))) := by
  subst hN
  exact Lib.hid ⟨f', p', c', h.out.store ha (o.mono hb)⟩
theorem stAt_fin {W w' : World} {a : Nat} {p : Option Addr} {c : Nat} {l : List Nat} {n : Int} (h : Hid (StAt W a p c l n w')) (ha : a < W.heap.size) :
    ((w'.setCell ⟨W.heap.size, 0, none⟩ (.slice p l.length c)).setCell ⟨W.heap.size, 1, none⟩ (.int .i64 n)).heap[W.heap.size]? = some (.cells #[.slice p l.length c, .int .i64 n] 25 (0, 0)) ∧
      Own ((w'.setCell ⟨W.heap.size, 0, none⟩ (.slice p l.length c)).setCell ⟨W.heap.size, 1, none⟩ (.int .i64 n)) W.heap.size p c l ∧ St a W ((w'.setCell ⟨W.heap.size, 0, none⟩ (.slice p l.length c)).setCell ⟨W.heap.size, 1, none⟩ (.int .i64 n)) := by
  have g := grown_store2 w' W.heap.size (.slice p l.length c) (.int .i64 n)
  exact ⟨store2 h.out.res, (h.out.own.other g (by omega)).mono (by omega), grown_newa h.out.st.1 g (Nat.le_refl _), tp_new h.out.st.2 g ha⟩
/-- A stream that the tape has made. -/
def DrawnPost (P : List Nat → Int → Prop) (a : Nat) (w : World) (e : Ending) (w' : World) : Prop := ∃ l n, (∃ p c, e = .returned (.agg #[.slice p l.length c, .int .i64 n]) ∧ Own w' w.heap.size p c l) ∧ P l n ∧ St a w w'
set_option maxHeartbeats 800000 in
theorem stream0_any (a most : Nat) (hm : most ≤ 1000) (w : World) (hT : Tp w a) :
    Calls Try.prog 12 #[.pointer (some ⟨a, 0, none⟩), .int .i64 (most : Int), .int .i64 0] w fun e w' => DrawnPost (fun l n => ∃ f j, j ≤ most ∧ n = (j : Int) ∧ l = pz f j ((j + 7) / 8)) a w e w' := by
  have ha := hT.lt
  obtain ⟨k1, k2, k3, k4⟩ := two_boxes w #[.slice none 0 0, .int .i64 0] #[.slice none 0 0, .int .i64 0] 25 25
  have S0 : StAt w a none 0 [] 0 ((w.alloc (.cells #[.slice none 0 0, .int .i64 0] 25)).alloc (.cells #[.slice none 0 0, .int .i64 0] 25)) :=
    ⟨k2, k1, ⟨World.ownsRow_nil _ _ _ _, fun _ => rfl, fun x hx => by cases hx⟩, ⟨grown_none k3 _, hT.keep k3⟩, by rw [k4]; exact Nat.le_refl _⟩
  have H0 := Lib.hid S0
  clear k1 k2 k3 k4 S0
  go_enter Try.func12, Try.ntmps12
  go_wp2_with fail
  generalize (w.alloc (.cells #[.slice none 0 0, .int .i64 0] 25)).alloc (.cells #[.slice none 0 0, .int .i64 0] 25) = w1 at *
  refine (range_any a 0 (most : Int) (by omega) (by omega) (by omega) (by omega) _ H0.out.st.2).mono ?_
  rintro e w2 ⟨r, rfl, hr, hs1⟩
  obtain ⟨K, rfl⟩ := Int.eq_ofNat_of_zero_le hr.1
  have hK : K ≤ most := by unfold RangeOf at hr; omega
  have M0 : Hid (MadeRel w a 0 w2) := Lib.hid ⟨fun _ => false, none, 0, H0.out.turn ha hs1⟩
  clear hr hs1
  go_wp2_with fail
  go_loopw [8] (fun i wr => ∃ j k : Nat, j + k ≤ most ∧ i = .int .i64 (k : Int) ∧ MadeRel w a j wr) (fun i _ => (intOf i).toNat)
  case atStart => exact ⟨0, K, by omega, rfl, M0.out⟩
  case round =>
    obtain ⟨j, k, hjk, rfl, hM⟩ := hrel
    obtain ⟨f, p, c, l, HL, hS⟩ := hM.open_
    have HM := Lib.hid hM
    have HS := Lib.hid hS
    obtain ⟨c0, c1, f0, f1, _⟩ := hS.limbs
    obtain ⟨r0, r1⟩ := row_cells hS.res
    have g0 := frozen_of_row _ _ 0 _ _ hS.res
    have g1 := frozen_of_row _ _ 1 _ _ hS.res
    clear hM hS H0 M0
    have I2 : I64 2 := by unfold I64; omega
    have HJ : j ≤ 9000 := by omega
    by_cases hk : 1 ≤ k
    · go_wp2_with fail
      have HSd := Lib.hid HS.out.drew
      go_region_law (first
        | (go_simp; go_at_call 16; refine (next_any a 2 I2 _ (StAt.tp HSd)).mono ?_; rintro e w3 ⟨r, rfl, hr, hsk⟩; obtain ⟨b, rfl⟩ := Int.eq_ofNat_of_zero_le hr.1; have hb : b ≤ 1 := (by have := hr.2.1 (by omega); omega); obtain ⟨c3, c4, f3, f4, HS3⟩ := StAt.limbs_turn HSd ha hsk; have hbw := wrapU b (u64_mk (by omega)))
        | (go_simp; go_at_call 35; refine (put_bit f j b l (w.heap.size + 2 ≤ ·) p c HJ hb HL.out HS.out.own.pc _ (StAt.rd HS3)).mono ?_; rintro e w4 ⟨f', p', c', rfl, hown', hap⟩; obtain ⟨c5, c6, f5, f6, HS4⟩ := StAt.limbs_keep HS3 hap))
      all_goals
        have hn8 : j / 8 + 1 = (j + 8) / 8 := by omega
        rw [← hn8] at hown'
        have R := made_next (j := j) (N := j / 8 + 1) HS4 ha hn8 hown' HS3.out.sz
        clear hn8
        clear hown' hap HS4 HS3 hsk
        go_wp2_with fail
        go_roundw
        case rel => exact ⟨j + 1, k - 1, by omega, by congr 1; omega, R.out⟩
        case measure => simp [intOf]; omega
    · obtain rfl : k = 0 := by omega
      obtain ⟨b1, b2, b3⟩ := stAt_fin HS ha
      have HB := Lib.hid (And.intro b1 (And.intro b2 b3))
      clear b1 b2 b3
      go_wp2_with fail
      refine bodyPost_ret (res_stream rfl _ _ w.heap.size _ _ rfl HB.out.1) rfl ?_
      exact ⟨l, (j : Int), ⟨p, c, rfl, HB.out.2.1⟩, ⟨f, j, by omega, rfl, HL.out⟩, HB.out.2.2⟩
end Go.Proofs.Ythnjiknmlakkkaa

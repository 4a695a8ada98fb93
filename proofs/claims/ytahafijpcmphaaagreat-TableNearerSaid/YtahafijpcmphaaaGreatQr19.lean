/- Parts of the proof, packed: TaTpM, TaGx, TaNto, TaBuP, TaBdP, TaBdR, TaSmM, TaSmP, TaSmR, TaBlM, TaExM, TaAwk. -/
import Derived.Test.YtahafijpcmphaaaGreatQr16
import Derived.Test.YtahafijpcmphaaaGreatQr18
import Derived.Test.YtahafijpcmphaaaGreatQr12
import Derived.Test.YtahafijpcmphaaaGreatQr17
import Derived.Test.YtahafijpcmphaaaGreatQr15
/- tables: what the tape's Table keeps in memory. -/
namespace Go.Proofs.YtahafijpcmphaaaGreat
open Go.RowKit Bs
set_option maxRecDepth 100000 in
theorem tg_of_ownT {w : World} {base : Nat} {vR vL : Value} {R : List Rt} {L : List Lk} (hR : w.ownsRow base 92 2 vR R.length (R.flatMap rtC)) (hL : w.ownsRow base 94 5 vL L.length (L.flatMap lkC)) :
    ∃ pR cR pL cL, vR = .slice pR R.length cR ∧ vL = .slice pL L.length cL ∧ TgOk w (fun b => base ≤ b ∧ b < w.heap.size) ⟨R, L, pR, cR, pL, cL⟩ := by
  obtain ⟨pR, cR, rfl, h1, h2⟩ := own_shape hR
  obtain ⟨pL, cL, rfl, h3, h4⟩ := own_shape hL
  exact ⟨pR, cR, pL, cL, rfl, rfl, rdf_of_own2 hR, rdf_of_own2 hL, ⟨h1, h2⟩, ⟨h3, h4⟩⟩
set_option maxRecDepth 100000 in
theorem TbX.tape {a lo : Nat} {w w1 : World} {v : Value} {x : Tb} (h : TbX lo w v x) (hl : a < lo) (g : w.grownBy w1 (some a)) : TbX lo w1 v x := h.over g (fun b hb e => by omega)
set_option maxRecDepth 100000 in
theorem rows_len {s n : Int} {E : List Ed} (h : vPl s n E = true) : E.length ≤ 24 := by
  unfold vPl at h
  simp only [Bool.and_eq_true, decide_eq_true_eq] at h
  omega
end Go.Proofs.YtahafijpcmphaaaGreat

/- tables: what the laws keep behind the draws of a topology. -/
namespace Go.Proofs.YtahafijpcmphaaaGreat
open Go.RowKit Bs
/-- A drawn topology: what is known of it. -/
structure GT (T : Tg) : Prop where
  pl : T.pL = none → T.cL = 0
  len : 1 ≤ T.R.length ∧ T.R.length ≤ 40
  l60 : T.L.length ≤ 60
  ok : okT T.R T.L = true → T.R.length ≤ 12
set_option maxRecDepth 100000 in
theorem pl_own {w : World} {base : Nat} {t : TypeId} {s n c : Nat} {p : Option Addr} {xs : List Value} (h : w.ownsRow base t s (.slice p n c) n xs) : p = none → c = 0 := by
  intro hp
  rcases own_formF h with ⟨e, h0⟩ | ⟨g, cap, e, -⟩
  · injection e
  · injection e with e1; subst hp; cases e1
set_option maxRecDepth 100000 in
theorem GT.mix {most : Nat} {T : Tg} {R0 : List Rt} (h : TopOf most 0 R0 T.L) (hm : most ≤ 11) (hid : T.R.map (·.id) = R0.map (·.id)) (hp : T.pL = none → T.cL = 0) : GT T ∧ okT T.R T.L = true := by
  obtain ⟨h1, h2, h3, h4, h5⟩ := h
  obtain ⟨h6, h7⟩ := h5 (Int.le_refl 0)
  have hl : T.R.length = R0.length := by have := congrArg List.length hid; simpa using this
  exact ⟨⟨hp, ⟨by omega, by omega⟩, h4, fun _ => by omega⟩, by unfold okT; rw [chk_idsT hid, h6]; rfl⟩
set_option maxRecDepth 100000 in
theorem tp_otherG {w w' : World} {a b : Nat} (h : Tp w a) (g : w.grownBy w' (some b)) (hb : a < b) : Tp w' a := by
  have hlt := h.lt
  obtain ⟨v, n, i, T⟩ := h
  have hbk : w'.heap[a]? = w.heap[a]? := g.block a hlt (fun e => by have := Option.some.inj e; omega)
  refine ⟨v, n, i, (World.cell?_of_block (a := ⟨a, 0, none⟩) hbk).trans T.l, (World.cell?_of_block (a := ⟨a, 1, none⟩) hbk).trans T.p, (World.frozen?_of_block (a := ⟨a, 1, none⟩) hbk).trans T.fr, ?_, T.le, T.len⟩
  obtain ⟨p, c, hv, hc⟩ := T.ints
  refine ⟨p, c, hv, fun hn => ?_⟩
  obtain ⟨b1, off, hp, hb1, hx⟩ := hc hn
  refine ⟨b1, off, hp, hb1, fun i hi => ?_⟩
  obtain ⟨x, hx1, hcell⟩ := hx i hi
  exact ⟨x, hx1, g.cell hcell (fun e => by have : b1 = b := Option.some.inj e; omega)⟩
/-- What a law keeps behind the draws of its topology. -/
structure GX (W : World) (a B : Nat) (T : Tg) (w : World) : Prop where
  bT : w.heap[B]? = some (.cells #[.slice T.pR T.R.length T.cR, .slice T.pL T.L.length T.cL] 45 (0, 0))
  t : TgOk w (fun b => a < b ∧ b ≠ B ∧ b < w.heap.size) T
  tp : Tp w a
  gr : W.grownBy w none
  lo : W.heap.size ≤ a ∧ a < B ∧ B < w.heap.size
set_option maxRecDepth 100000 in
theorem GX.keep {W : World} {a B : Nat} {T : Tg} {w w1 : World} (h : GX W a B T w) (g : w.grownBy w1 none) : GX W a B T w1 :=
  ⟨kept_row h.bT g (by simp), (h.t.keep g).mono (fun b hb => ⟨hb.1, hb.2.1, Nat.lt_of_lt_of_le hb.2.2 g.size⟩), h.tp.keep g, grown_trans h.gr g, h.lo.1, h.lo.2.1, Nat.lt_of_lt_of_le h.lo.2.2 g.size⟩
set_option maxRecDepth 100000 in
theorem GX.tape {W : World} {a B : Nat} {T : Tg} {w w1 : World} (h : GX W a B T w) (k : St a w w1) : GX W a B T w1 := by
  have hlo := h.lo
  exact ⟨kept_row h.bT k.1 (fun e => by have := Option.some.inj e; omega), (h.t.grown k.1 (fun b hb e => by have := Option.some.inj e; omega)).mono (fun b hb => ⟨hb.1, hb.2.1, Nat.lt_of_lt_of_le hb.2.2 k.1.size⟩), k.2, grown_new h.gr k.1 hlo.1, hlo.1, hlo.2.1, Nat.lt_of_lt_of_le hlo.2.2 k.1.size⟩
set_option maxRecDepth 100000 in
theorem gx_start {W w1 w3 : World} {a : Nat} {T : Tg} (ha : W.heap.size = a) (g1 : W.grownBy w1 none) (hT1 : Tp w1 a) (hT : TgOk w3 (fun b => w1.heap.size ≤ b ∧ b < w3.heap.size) T) (k : St a w1 w3) :
    GX W a w3.heap.size T (w3.alloc (.cells #[.slice T.pR T.R.length T.cR, .slice T.pL T.L.length T.cL] 45)) := by
  obtain ⟨k1, k2⟩ := tone_box w3 #[.slice T.pR T.R.length T.cR, .slice T.pL T.L.length T.cL] 45
  have hlt := hT1.lt
  have hz := k.1.size
  exact ⟨k1, (hT.keep k2).mono (fun b hb => ⟨by have := hb.1; omega, by have := hb.2; omega, Nat.lt_of_lt_of_le hb.2 k2.size⟩), k.2.keep k2, grown_trans (grown_new g1 k.1 (by omega)) k2, by omega, by omega, by simp⟩
set_option maxRecDepth 100000 in
theorem GX.put {W w w5 : World} {a B : Nat} {T T2 : Tg} (h : GX W a B T w) (hT : TgOk w5 (fun b => w.heap.size ≤ b ∧ b < w5.heap.size) T2) (k : St a w w5) :
    GX W a B T2 ((w5.setCell ⟨B, 0, none⟩ (.slice T2.pR T2.R.length T2.cR)).setCell ⟨B, 1, none⟩ (.slice T2.pL T2.L.length T2.cL)) := by
  have hlo := h.lo
  have hB := kept_row h.bT k.1 (fun e => by have := Option.some.inj e; omega)
  have g2 := grown_store2 w5 B (.slice T2.pR T2.R.length T2.cR) (.slice T2.pL T2.L.length T2.cL)
  exact ⟨store2 hB, (hT.grown g2 (fun b hb e => by have := Option.some.inj e; omega)).mono (fun b hb => ⟨by have := hb.1; omega, by have := hb.1; omega, Nat.lt_of_lt_of_le hb.2 g2.size⟩), tp_otherG k.2 g2 hlo.2.1, grown_new (grown_new h.gr k.1 hlo.1) g2 (by omega), hlo.1, hlo.2.1, Nat.lt_of_lt_of_le (Nat.lt_of_lt_of_le hlo.2.2 k.1.size) g2.size⟩
end Go.Proofs.YtahafijpcmphaaaGreat

/- tables: the program's nextTo. -/
namespace Go.Proofs.YtahafijpcmphaaaGreat
open Go.RowKit Bs
def NtPost (R : List Rt) (L : List Lk) (ro r : Int) (w : World) (e : Ending) (w' : World) : Prop :=
  ∃ (X : List Int) (p : Option Addr) (c : Nat), e = .returned (.slice p X.length c) ∧ Rd w' (w.heap.size ≤ ·) (.slice p X.length c) (X.map tv) ∧ (p = none → c = 0) ∧ (X.length ≤ c ∧ c ≤ 9223372036854775807) ∧ NxB R L ro r X ∧ w.grownBy w' none
set_option maxRecDepth 100000 in
set_option maxHeartbeats 3200000 in
theorem tnextTo_any (T : Tg) (ro r : Int) (q : Nat → Prop) (w : World) (hT : TgOk w q T) (hp : T.pL = none → T.cL = 0) (hl0 : T.R.length ≤ 1000) (hl1 : okT T.R T.L = true → T.R.length ≤ 12) (hl2 : T.L.length ≤ 1000) (hx : okT T.R T.L = true → I64 ro) :
    Calls Tryz.prog 114 #[.agg #[.slice T.pR T.R.length T.cR, .slice T.pL T.L.length T.cL], .int .i64 ro, .int .i64 r] w fun e w' => NtPost T.R T.L ro r w e w' := by
  obtain ⟨R, L, pR, cR, pL, cL⟩ := T
  simp only at hp hl0 hl1 hl2 hx ⊢
  obtain ⟨k1, k2⟩ := tone_box w #[.slice pR R.length cR, .slice pL L.length cL] 45
  have HB := Lib.hid (And.intro k1 (And.intro k2 (hT.keep k2)))
  clear k1 k2 hT
  have HX := Lib.hid (And.intro hp (And.intro hx hl1))
  clear hp hx hl1
  go_enter Tryz.func114, Tryz.ntmps114
  go_upto_region 1 with fail
  generalize w.alloc _ = wa at *
  have HZ : Hid (w.heap.size ≤ wa.heap.size) := Lib.hid HB.out.2.1.size
  by_cases her : r = ro
  case pos =>
    have her' : (r == ro) = true := by simpa using her
    have HER := Lib.hid her
    clear her
    go_wp2_with fail
    go_ret
    have hb := alloc_row (w := wa) #[.int .i64 ro] 3 rfl
    refine ⟨[ro], some ⟨wa.heap.size, 0, none⟩, 1, rfl, ⟨_, 1, rfl, fun _ => ⟨_, _, rfl, HZ.out, fun i u hi => ?_⟩⟩, fun h => (by cases h), ⟨by show 1 ≤ 1; decide, by show 1 ≤ 9223372036854775807; decide⟩, by unfold NxB; rw [if_pos HER.out], grown_trans HB.out.2.1 hb.2.1⟩
    rw [Nat.zero_add, cell_of_row _ _ _ _ _ _ hb.1]
    simpa [tv] using hi
  have her' : (r == ro) = false := by simpa using her
  have HER := Lib.hid her
  clear her
  obtain ⟨c0, c1⟩ := row_cells HB.out.1
  go_upto_region 3 with fail
  clear her'
  go_wp2_with fail
  refine (tcap_any ⟨R, L, pR, cR, pL, cL⟩ r _ wa HB.out.2.2 (by show R.length ≤ 1000000; omega)).mono ?_
  rintro e w2 ⟨rfl, hg⟩
  have H2 := Lib.hid (And.intro (kept_row HB.out.1 hg (by simp)) (And.intro (grown_trans HB.out.2.1 hg) (HB.out.2.2.keep hg)))
  clear hg c0 c1 HB
  simp only
  obtain ⟨c0, c1⟩ := row_cells H2.out.1
  cases hcp : capV R L r
  case false =>
    have HC := Lib.hid hcp
    clear hcp
    go_wp2_with fail
    go_ret
    exact ⟨[], none, 0, rfl, ⟨none, 0, rfl, fun h => absurd rfl h⟩, fun _ => rfl, ⟨Nat.le_refl _, by show (0 : Nat) ≤ _; omega⟩, by unfold NxB; rw [if_neg HER.out, if_neg (by rw [HC.out]; decide)], H2.out.2.1⟩
  have HC := Lib.hid hcp
  clear hcp
  go_wp2_with fail
  refine (thops0_any ⟨R, L, pR, cR, pL, cL⟩ ro r _ w2 H2.out.2.2 HX.out.1 hl0 HX.out.2.2 hl2 HX.out.2.1 (fun a y hy => nxt_rngT R L r a y hy)).mono ?_
  rintro e w3 ⟨M, p, c, rfl, hr, hn, hc, hA, hU, hg⟩
  have HU := Lib.hid (And.intro hA (And.intro hU.2.1 (hopU_hops hU)))
  have HR := Lib.hid (And.intro (hr.mono (q' := fun b => w.heap.size ≤ b) (fun b hb => Nat.le_trans H2.out.2.1.size hb)) (And.intro hn (And.intro hc (grown_trans H2.out.2.1 hg))))
  clear hr hn hc hA hU hg c0 c1 H2
  simp only
  go_wp2_with fail
  go_ret
  exact ⟨M, p, c, rfl, HR.out.1, HR.out.2.1, HR.out.2.2.1, by unfold NxB; rw [if_neg HER.out, if_pos HC.out]; exact HU.out, HR.out.2.2.2⟩
end Go.Proofs.YtahafijpcmphaaaGreat

/- tables: the program's build. -/
namespace Go.Proofs.YtahafijpcmphaaaGreat
open Go.RowKit Bs
set_option maxRecDepth 100000 in
set_option maxHeartbeats 12800000 in
theorem tbuild_any (T : Tg) (s n ro : Int) (E : List Ed) (pE : Option Addr) (cE : Nat) (q q2 : Nat → Prop) (w : World) (hT : TgOk w q T) (hE : RdF w q2 (.slice pE E.length cE) E.length (E.flatMap edC)) (hm : E.length ≤ 1000) (hp : T.pL = none → T.cL = 0) (hl0 : T.R.length ≤ 1000) (hl1 : okT T.R T.L = true → T.R.length ≤ 12) (hl2 : T.L.length ≤ 1000) (hx : okT T.R T.L = true → I64 ro) :
    Calls Tryz.prog 85 #[.agg #[.slice T.pR T.R.length T.cR, .slice T.pL T.L.length T.cL], .agg #[.int .i64 s, .int .i64 n, .slice pE E.length cE], .int .i64 ro] w fun e w' => BldPost T.R T.L ro s n E w e w' := by
  obtain ⟨R, L0, pR, cR, pL, cL⟩ := T
  simp only at hp hl0 hl1 hl2 hx ⊢
  obtain ⟨ii, hii, hi0, hi1, hi2⟩ := info_parts info_rowT
  have H0 := Lib.hid (bd_start s n ro hT hE)
  have HPX := Lib.hid (And.intro hp (And.intro hx hl1))
  clear hT hE hp hx hl1
  go_enter Tryz.func85, Tryz.ntmps85
  go_upto_region 2 with fail
  generalize (((w.alloc _).alloc _).alloc _).alloc _ = wa at *
  obtain ⟨q0, q1, q2⟩ := row3B H0.out.bP
  go_wp2_with fail
  go_loopw [19] (fun a wr => ∃ (k : Nat) (L : List Rw) (p : Option Addr) (c : Nat), k ≤ E.length ∧ a = .int .i64 (k : Int) ∧ Hid (BldM R L0 ro (E.take k) L) ∧ Hid (BD w ⟨R, L0, pR, cR, pL, cL⟩ s n ro E pE cE (.slice p L.length c) L wr)) (fun a _ => E.length - (RowKit.intOf a).toNat)
  case atStart => exact ⟨0, [], none, 0, Nat.zero_le _, rfl, Lib.hid ⟨by rw [List.take_zero]; rfl, fun i e x hi => by rw [List.take_zero] at hi; simp at hi⟩, H0⟩
  case round =>
  clear H0 q0 q1 q2
  obtain ⟨k, L, p, c, hk, rfl, HB, K⟩ := hrel
  obtain ⟨w5, hw5⟩ : ∃ w5, w5 = wr := ⟨_, rfl⟩
  rw [← hw5] at K ⊢
  clear hw5
  by_cases hlt : k < E.length
  case neg =>
    obtain rfl : k = E.length := by omega
    have hnl : ¬ (E.length : Int) < (E.length : Int) := by omega
    rw [List.take_length] at HB
    obtain ⟨d0, d1, d2, d3⟩ := row4T K.out.bB
    obtain ⟨z0, z1, z2, z3⟩ := row4T K.out.bR
    have f0 := frozen_of_row _ _ 0 _ _ K.out.bR
    have f1 := frozen_of_row _ _ 1 _ _ K.out.bR
    have f2 := frozen_of_row _ _ 2 _ _ K.out.bR
    have f3 := frozen_of_row _ _ 3 _ _ K.out.bR
    have HT := Lib.hid (store4B (.int .i64 ro) (.int .i64 s) (.int .i64 n) (.slice p L.length c) K.out.bR)
    have HK := Lib.hid K.out
    clear K
    go_wp2_with fail
    refine bodyPost_ret (res_tabB rfl _ _ (w.heap.size + 1 + 1) _ _ _ _ rfl HT.out.1) rfl ?_
    have hne : ∀ b, w.heap.size + 4 ≤ b → b ≠ w.heap.size + 1 + 1 := fun b hb => by omega
    exact ⟨L, p, c, rfl, (HK.out.own.kept HT.out.2 (by
      cases hvo : (Value.slice p L.length c).ownBlock with
      | none => exact Or.inl rfl
      | some b => exact Or.inr (fun e => by have := (HK.out.own.lt b hvo).1; have := Option.some.inj e; omega))).mono (by omega), fun x hx => by
        have h := (HK.out.rows x hx).over HT.out.2 hne
        exact ⟨h.1.mono (fun b hb => ⟨by have := hb.1; omega, hb.2⟩), h.2⟩, HB.out, grown_new HK.out.gr HT.out.2 (by omega)⟩
  have hlt' : (k : Int) < (E.length : Int) := by omega
  have hk0 : (0 : Int) ≤ (k : Int) := by omega
  obtain ⟨e, he⟩ : ∃ e, E[k]? = some e := ⟨_, List.getElem?_eq_getElem hlt⟩
  obtain ⟨b, off, rfl, hc⟩ := edT_cells K.out.e (by omega)
  obtain ⟨a0, a1⟩ := hc k e he
  have HE := Lib.hid he
  have hB5 := alloc_row (w := w5) #[.int .i64 e.r, .int .i64 e.i] 71 rfl
  have H5 := Lib.hid (And.intro hB5.1 hB5.2.1)
  clear hc he hB5
  go_upto_region 5 with fail
  clear a0 a1
  have hLE : Hid (L.length ≤ 1000) := Lib.hid (by have := HB.out.1; rw [List.length_take] at this; omega)
  have hLl := hLE.out
  generalize w5.alloc _ = w6 at *
  obtain ⟨g, hg⟩ : ∃ g, w5.heap.size = g := ⟨_, rfl⟩
  have HGE := Lib.hid hg
  rw [hg] at H5 ⊢
  clear hg
  have K6 := Lib.hid (K.out.keep H5.out.2)
  refine region_until (S := fun w' => Hid (w6.grownBy w' none)) (fun j => j == 11 || j == 12 || j == 13) (by kernel_rfl) (Lib.hid (grown_drew (grown_refl _ none))) (fun hHeld => ?_)
  refine anyU_take (i := 0) (oi := { dst := some 23, op := Op.fieldAddr 25 (Operand.tmp 7) 3, type := 0, pos := "table.go:133", after := #[], guard := none }) (v := ?_) rfl (by kernel_rfl) (by kernel_rfl) (by kernel_rfl) (by kernel_rfl) (by kernel_rfl) (fun _ _ _ h => h) (Or.inl ⟨by rfl, ?_⟩) hHeld ?_
  rotate_left 1
  · intro u hSu
    obtain ⟨t0u, t1u⟩ := row_cells (kept_row K6.out.bT hSu.out (by simp))
    obtain ⟨d0u, d1u, d2u, d3u⟩ := row4T (kept_row K6.out.bB hSu.out (by simp))
    obtain ⟨m0u, m1u⟩ := row_cells (kept_row H5.out.1 hSu.out (by simp))
    go_simp
    first | done | with_reducible rfl
  (try simp only [Act.put, List.setIfInBounds_toArray, List.set_cons_zero, List.set_cons_succ])
  refine anyU_take (i := 1) (oi := { dst := some 24, op := Op.load 23 (Operand.tmp 23), type := 23, pos := "table.go:133", after := #[{ on := 0, ground := Ground.data }], guard := none }) (v := ?_) rfl (by kernel_rfl) (by kernel_rfl) (by kernel_rfl) (by kernel_rfl) (by kernel_rfl) (fun _ _ _ h => h) (Or.inl ⟨by rfl, ?_⟩) hHeld ?_
  rotate_left 1
  · intro u hSu
    obtain ⟨t0u, t1u⟩ := row_cells (kept_row K6.out.bT hSu.out (by simp))
    obtain ⟨d0u, d1u, d2u, d3u⟩ := row4T (kept_row K6.out.bB hSu.out (by simp))
    obtain ⟨m0u, m1u⟩ := row_cells (kept_row H5.out.1 hSu.out (by simp))
    go_simp
    first | done | with_reducible rfl
  (try simp only [Act.put, List.setIfInBounds_toArray, List.set_cons_zero, List.set_cons_succ])
  refine anyU_take (i := 2) (oi := { dst := some 25, op := Op.fieldAddr 71 (Operand.tmp 9) 1, type := 0, pos := "table.go:133", after := #[], guard := none }) (v := ?_) rfl (by kernel_rfl) (by kernel_rfl) (by kernel_rfl) (by kernel_rfl) (by kernel_rfl) (fun _ _ _ h => h) (Or.inl ⟨by rfl, ?_⟩) hHeld ?_
  rotate_left 1
  · intro u hSu
    obtain ⟨t0u, t1u⟩ := row_cells (kept_row K6.out.bT hSu.out (by simp))
    obtain ⟨d0u, d1u, d2u, d3u⟩ := row4T (kept_row K6.out.bB hSu.out (by simp))
    obtain ⟨m0u, m1u⟩ := row_cells (kept_row H5.out.1 hSu.out (by simp))
    go_simp
    first | done | with_reducible rfl
  (try simp only [Act.put, List.setIfInBounds_toArray, List.set_cons_zero, List.set_cons_succ])
  refine anyU_take (i := 3) (oi := { dst := some 26, op := Op.load 3 (Operand.tmp 25), type := 3, pos := "table.go:133", after := #[{ on := 2, ground := Ground.data }], guard := none }) (v := ?_) rfl (by kernel_rfl) (by kernel_rfl) (by kernel_rfl) (by kernel_rfl) (by kernel_rfl) (fun _ _ _ h => h) (Or.inl ⟨by rfl, ?_⟩) hHeld ?_
  rotate_left 1
  · intro u hSu
    obtain ⟨t0u, t1u⟩ := row_cells (kept_row K6.out.bT hSu.out (by simp))
    obtain ⟨d0u, d1u, d2u, d3u⟩ := row4T (kept_row K6.out.bB hSu.out (by simp))
    obtain ⟨m0u, m1u⟩ := row_cells (kept_row H5.out.1 hSu.out (by simp))
    go_simp
    first | done | with_reducible rfl
  (try simp only [Act.put, List.setIfInBounds_toArray, List.set_cons_zero, List.set_cons_succ])
  refine anyU_take (i := 4) (oi := { dst := some 27, op := Op.load 45 (Operand.tmp 3), type := 45, pos := "table.go:133", after := #[], guard := none }) (v := ?_) rfl (by kernel_rfl) (by kernel_rfl) (by kernel_rfl) (by kernel_rfl) (by kernel_rfl) (fun _ _ _ h => h) (Or.inl ⟨by rfl, ?_⟩) hHeld ?_
  rotate_left 1
  · intro u hSu
    obtain ⟨t0u, t1u⟩ := row_cells (kept_row K6.out.bT hSu.out (by simp))
    obtain ⟨d0u, d1u, d2u, d3u⟩ := row4T (kept_row K6.out.bB hSu.out (by simp))
    obtain ⟨m0u, m1u⟩ := row_cells (kept_row H5.out.1 hSu.out (by simp))
    go_simp
    first | done | with_reducible rfl
  (try simp only [Act.put, List.setIfInBounds_toArray, List.set_cons_zero, List.set_cons_succ])
  refine anyU_take (i := 5) (oi := { dst := some 28, op := Op.move (Operand.tmp 2), type := 3, pos := "table.go:133", after := #[], guard := none }) (v := ?_) rfl (by kernel_rfl) (by kernel_rfl) (by kernel_rfl) (by kernel_rfl) (by kernel_rfl) (fun _ _ _ h => h) (Or.inl ⟨by rfl, ?_⟩) hHeld ?_
  rotate_left 1
  · intro u hSu
    obtain ⟨t0u, t1u⟩ := row_cells (kept_row K6.out.bT hSu.out (by simp))
    obtain ⟨d0u, d1u, d2u, d3u⟩ := row4T (kept_row K6.out.bB hSu.out (by simp))
    obtain ⟨m0u, m1u⟩ := row_cells (kept_row H5.out.1 hSu.out (by simp))
    go_simp
    first | done | with_reducible rfl
  (try simp only [Act.put, List.setIfInBounds_toArray, List.set_cons_zero, List.set_cons_succ])
  refine anyU_take (i := 6) (oi := { dst := some 29, op := Op.fieldAddr 71 (Operand.tmp 9) 0, type := 0, pos := "table.go:133", after := #[], guard := none }) (v := ?_) rfl (by kernel_rfl) (by kernel_rfl) (by kernel_rfl) (by kernel_rfl) (by kernel_rfl) (fun _ _ _ h => h) (Or.inl ⟨by rfl, ?_⟩) hHeld ?_
  rotate_left 1
  · intro u hSu
    obtain ⟨t0u, t1u⟩ := row_cells (kept_row K6.out.bT hSu.out (by simp))
    obtain ⟨d0u, d1u, d2u, d3u⟩ := row4T (kept_row K6.out.bB hSu.out (by simp))
    obtain ⟨m0u, m1u⟩ := row_cells (kept_row H5.out.1 hSu.out (by simp))
    go_simp
    first | done | with_reducible rfl
  (try simp only [Act.put, List.setIfInBounds_toArray, List.set_cons_zero, List.set_cons_succ])
  refine anyU_take (i := 7) (oi := { dst := some 30, op := Op.load 3 (Operand.tmp 29), type := 3, pos := "table.go:133", after := #[{ on := 6, ground := Ground.data }], guard := none }) (v := ?_) rfl (by kernel_rfl) (by kernel_rfl) (by kernel_rfl) (by kernel_rfl) (by kernel_rfl) (fun _ _ _ h => h) (Or.inl ⟨by rfl, ?_⟩) hHeld ?_
  rotate_left 1
  · intro u hSu
    obtain ⟨t0u, t1u⟩ := row_cells (kept_row K6.out.bT hSu.out (by simp))
    obtain ⟨d0u, d1u, d2u, d3u⟩ := row4T (kept_row K6.out.bB hSu.out (by simp))
    obtain ⟨m0u, m1u⟩ := row_cells (kept_row H5.out.1 hSu.out (by simp))
    go_simp
    first | done | with_reducible rfl
  (try simp only [Act.put, List.setIfInBounds_toArray, List.set_cons_zero, List.set_cons_succ])
  refine anyU_ready (rs := [8]) (by kernel_rfl) (by simp) ?_
  refine EachU.cons (o := { dst := some 31, op := Op.call { callee := Callee.value (Operand.func 114), args := #[Operand.tmp 27, Operand.tmp 28, Operand.tmp 30], argTypes := #[45, 3, 3] }, type := 22, pos := "table.go:133", after := #[{ on := 4, ground := Ground.data }, { on := 5, ground := Ground.data }, { on := 7, ground := Ground.data }], guard := none }) rfl (fun Kz hK => ?_) EachU.nil
  go_simp
  go_at_call 114
  refine (tnextTo_any ⟨R, L0, pR, cR, pL, cL⟩ ro e.r _ _ (K6.out.keep hHeld.out).t HPX.out.1 hl0 HPX.out.2.2 hl2 HPX.out.2.1).mono ?_
  rintro e' w7 ⟨X, p1, c1, rfl, hr, hn, hc, hNB, hg⟩
  have hr6 := hr.mono (q' := fun b => w6.heap.size ≤ b) (fun b hb => Nat.le_trans hHeld.out.size hb)
  have HX : Hid (RdX (w.heap.size + 4) w7 (.slice p L.length c) p1 c1 X) := Lib.hid ⟨(rd_and hr6).mono (fun b hb => ⟨by have := hb.1; have := K6.out.lo; omega, hb.2, fun e => by have := (K6.out.own.lt _ e.symm).2; have := hb.1; omega⟩), hn, hc⟩
  have HXM := Lib.hid hNB
  have HN := Lib.hid (grown_trans hHeld.out hg)
  clear hr hr6 hn hc hNB hg
  simp only
  refine hK.out _ _ (fun _ => HN) (fun hH2 => ?_)
  clear hK Kz hHeld
  have hHeld := hH2 rfl
  clear hH2
  (try simp only [Act.put, List.setIfInBounds_toArray, List.set_cons_zero, List.set_cons_succ])
  refine anyU_take (i := 9) (oi := { dst := some 32, op := Op.build 36 #[(0, Operand.tmp 26), (1, Operand.tmp 31)], type := 36, pos := "table.go:133", after := #[{ on := 3, ground := Ground.data }, { on := 8, ground := Ground.data }], guard := none }) (v := ?_) rfl (by kernel_rfl) (by kernel_rfl) (by kernel_rfl) (by kernel_rfl) (by kernel_rfl) (fun _ _ _ h => h) (Or.inl ⟨by rfl, ?_⟩) hHeld ?_
  rotate_left 1
  · intro u hSu
    obtain ⟨t0u, t1u⟩ := row_cells (kept_row K6.out.bT hSu.out (by simp))
    obtain ⟨d0u, d1u, d2u, d3u⟩ := row4T (kept_row K6.out.bB hSu.out (by simp))
    obtain ⟨m0u, m1u⟩ := row_cells (kept_row H5.out.1 hSu.out (by simp))
    go_simp
    first | done | with_reducible rfl
  (try simp only [Act.put, List.setIfInBounds_toArray, List.set_cons_zero, List.set_cons_succ])
  refine anyU_ready (rs := [10]) (by kernel_rfl) (by simp) ?_
  refine EachU.cons (o := { dst := some 33, op := Op.buildSlice 23 1 #[(0, Operand.tmp 32)], type := 23, pos := "table.go:133", after := #[{ on := 9, ground := Ground.data }], guard := none }) rfl (fun Kz hK => ?_) EachU.nil
  have KX := Lib.hid (K6.out.keep hHeld.out)
  have hXl := HX.out.2.2
  go_simp
  refine hK.out _ _ (fun _ => hid_more hHeld (World.grownBy_alloc _ _ _)) (fun hH2 => ?_)
  clear hK Kz hHeld
  have hHeld := hH2 rfl
  clear hH2
  (try simp only [Act.put, List.setIfInBounds_toArray, List.set_cons_zero, List.set_cons_succ])
  refine anyU_ready (rs := [11]) (by kernel_rfl) (by simp) ?_
  refine EachU.cons (o := { dst := some 34, op := Op.call { callee := Callee.builtin Builtin.append, args := #[Operand.tmp 24, Operand.tmp 33], argTypes := #[23, 23] }, type := 23, pos := "table.go:133", after := #[{ on := 1, ground := Ground.data }, { on := 10, ground := Ground.data }, { on := 8, ground := Ground.chain }], guard := none }) rfl (fun Kz hK => ?_) EachU.nil
  refine step_append_lies _ (by rfl) _ _ 23 (by rfl) (w.heap.size + 4) 36 ii (.agg #[.int .i64 0, .slice none 0 0]) 2 32 Tryz.underlying23 hii hi0 hi1 hi2 rfl (by decide) (.slice p L.length c) L.length (L.flatMap rwC) (by rfl) (KX.out.own.alloc _) ⟨w7.heap.size, 0, none⟩ 1 1 (rwC ⟨e.i, X, p1, c1⟩) (by rfl) (by rfl) (rwB_row w7 ⟨e.i, X, p1, c1⟩ _) (rw_one ⟨e.i, X, p1, c1⟩) (by decide) (by unfold maxLen; omega) (by omega) (by have := KX.out.lo; simp; omega) _ rfl ?_
  intro g2 cap w8 hown hgrow hat hlt8
  have ga := World.grownBy_alloc w7 (.cells #[.int .i64 e.i, .slice p1 X.length c1] 36) none
  have hv : (Value.slice (some ⟨g2, 0, none⟩) (L.length + 1) cap).ownBlock = (Value.slice p L.length c).ownBlock ∨ ∀ b, some b = (Value.slice (some ⟨g2, 0, none⟩) (L.length + 1) cap).ownBlock → (w7.alloc (.cells #[.int .i64 e.i, .slice p1 X.length c1] 36)).heap.size ≤ b := by
    rcases hat with h | h
    · exact Or.inl h.symm
    · refine Or.inr fun b e => ?_
      have e2 : some b = some g2 := e
      have := Option.some.inj e2
      rw [this, h]
      exact Nat.le_refl _
  have HPS := Lib.hid ((KX.out.keep ga).push (x := ⟨e.i, X, p1, c1⟩) (v' := .slice (some ⟨g2, 0, none⟩) (L.length + 1) cap) (HX.out.keep ga) (by rw [List.length_append, List.flatMap_append]; simpa [rwC] using hown) hgrow hv)
  have HBM : Hid (BldM R L0 ro (E.take (k + 1)) (L ++ [⟨e.i, X, p1, c1⟩])) := Lib.hid (HB.out.push HE.out HXM.out p1 c1)
  have HLL : Hid ((L ++ [(⟨e.i, X, p1, c1⟩ : Rw)]).length = L.length + 1) := Lib.hid (by rw [List.length_append]; rfl)
  clear hown hgrow hat hlt8 ga hv HX HXM KX
  refine hK.out _ _ (fun h => by cases h) (fun _ => ?_)
  clear hK Kz
  (try simp only [Act.put, List.setIfInBounds_toArray, List.set_cons_zero, List.set_cons_succ])
  refine anyU_ready (rs := [12]) (by kernel_rfl) (by simp) ?_
  refine EachU.cons (o := { dst := some 35, op := Op.fieldAddr 25 (Operand.tmp 7) 3, type := 0, pos := "table.go:133", after := #[{ on := 0, ground := Ground.phase }, { on := 1, ground := Ground.phase }, { on := 2, ground := Ground.phase }, { on := 3, ground := Ground.phase }, { on := 4, ground := Ground.phase }, { on := 5, ground := Ground.phase }, { on := 6, ground := Ground.phase }, { on := 7, ground := Ground.phase }, { on := 8, ground := Ground.phase }, { on := 9, ground := Ground.phase }, { on := 10, ground := Ground.phase }, { on := 11, ground := Ground.phase }], guard := none }) rfl (fun Kz hK => ?_) EachU.nil
  go_simp
  refine hK.out _ _ (fun h => by cases h) (fun _ => ?_)
  clear hK Kz
  (try simp only [Act.put, List.setIfInBounds_toArray, List.set_cons_zero, List.set_cons_succ])
  refine anyU_ready (rs := [13]) (by kernel_rfl) (by simp) ?_
  refine EachU.cons (o := { dst := none, op := Op.store 23 (Operand.tmp 35) (Operand.tmp 34), type := 0, pos := "table.go:133", after := #[{ on := 12, ground := Ground.data }, { on := 11, ground := Ground.data }, { on := 11, ground := Ground.chain }, { on := 0, ground := Ground.phase }, { on := 1, ground := Ground.phase }, { on := 2, ground := Ground.phase }, { on := 3, ground := Ground.phase }, { on := 4, ground := Ground.phase }, { on := 5, ground := Ground.phase }, { on := 6, ground := Ground.phase }, { on := 7, ground := Ground.phase }, { on := 8, ground := Ground.phase }, { on := 9, ground := Ground.phase }, { on := 10, ground := Ground.phase }, { on := 11, ground := Ground.phase }], guard := none }) rfl (fun Kz hK => ?_) EachU.nil
  obtain ⟨y0, y1, y2, y3⟩ := row4T HPS.out.1
  have f3 := frozen_of_row _ _ 3 _ _ HPS.out.1
  go_simp
  refine hK.out _ _ (fun h => by cases h) (fun _ => ?_)
  clear hK Kz
  (try simp only [Act.put, List.setIfInBounds_toArray, List.set_cons_zero, List.set_cons_succ])
  refine anyU_done (by kernel_rfl) ?_ _
  clear hHeld
  have HBD := Lib.hid HPS.out.2
  clear y0 y1 y2 y3 f3 HPS
  go_wp2_with fail
  exact ⟨⟨k + 1, L ++ [⟨e.i, X, p1, c1⟩], some ⟨g2, 0, none⟩, cap, by omega, congrArg _ (by omega), HBM, by rw [HLL.out]; exact HBD⟩, by simp only [RowKit.intOf]; omega⟩
end Go.Proofs.YtahafijpcmphaaaGreat

/- tables: the program's Build. -/
namespace Go.Proofs.YtahafijpcmphaaaGreat
open Go.RowKit Bs
set_option maxRecDepth 100000 in
set_option maxHeartbeats 3200000 in
theorem tvalidT_any (T : Tg) (s n : Int) (E : List Ed) (pE : Option Addr) (cE : Nat) (q q2 : Nat → Prop) (w : World) (hT : TgOk w q T) (hE : RdF w q2 (.slice pE E.length cE) E.length (E.flatMap edC)) (hm : E.length ≤ 9223372036854775807) :
    Calls Tryz.prog 83 #[.agg #[.slice T.pR T.R.length T.cR, .slice T.pL T.L.length T.cL], .agg #[.int .i64 s, .int .i64 n, .slice pE E.length cE]] w fun e w' => e = .returned (.bool (okT T.R T.L && vPl s n E)) ∧ w.grownBy w' none := by
  obtain ⟨R, L0, pR, cR, pL, cL⟩ := T
  simp only
  have H0 := Lib.hid (alT_start s n hT hE)
  clear hT hE
  go_enter Tryz.func83, Tryz.ntmps83
  go_upto_region 1 with fail
  generalize (w.alloc _).alloc _ = wa at *
  obtain ⟨t0, t1⟩ := row_cells H0.out.bT
  obtain ⟨q0, q1, q2⟩ := row3B H0.out.bP
  go_wp2_with fail
  refine (tcheck_any ⟨R, L0, pR, cR, pL, cL⟩ _ wa H0.out.t).mono ?_
  rintro e w1 ⟨rfl, hg⟩
  have H1 := Lib.hid (H0.out.keep hg)
  clear hg H0 t0 t1 q0 q1 q2
  simp only
  by_cases hck : chk R L0 = 0
  case neg =>
    have hck' : (chk R L0 == 0) = false := by simpa using hck
    have HF : Hid (okT R L0 = false) := Lib.hid (by unfold okT; exact hck')
    clear hck
    go_wp2_with fail
    go_ret
    exact ⟨by rw [HF.out]; rfl, H1.out.gr⟩
  have HOK : Hid (okT R L0 = true) := Lib.hid (by unfold okT; simpa using hck)
  rw [hck]
  clear hck
  obtain ⟨t0, t1⟩ := row_cells H1.out.bT
  obtain ⟨q0, q1, q2⟩ := row3B H1.out.bP
  go_wp2_with fail
  refine (ivplan_any s n E pE cE _ w1 H1.out.e hm).mono ?_
  rintro e w2 ⟨rfl, hg⟩
  have H2 := Lib.hid (H1.out.keep hg)
  clear hg H1 t0 t1 q0 q1 q2
  simp only
  go_wp2_with fail
  go_ret
  exact ⟨by rw [HOK.out, Bool.true_and]; rfl, H2.out.gr⟩
set_option maxRecDepth 100000 in
set_option maxHeartbeats 6400000 in
theorem tBuild_any (T : Tg) (s n ro : Int) (E : List Ed) (pE : Option Addr) (cE : Nat) (q q2 : Nat → Prop) (w : World) (hT : TgOk w q T) (hE : RdF w q2 (.slice pE E.length cE) E.length (E.flatMap edC)) (hm : E.length ≤ 9223372036854775807) (hp : T.pL = none → T.cL = 0) (hl0 : T.R.length ≤ 1000) (hl1 : okT T.R T.L = true → T.R.length ≤ 12) (hl2 : T.L.length ≤ 1000) (hx : okT T.R T.L = true → I64 ro) :
    Calls Tryz.prog 34 #[.agg #[.slice T.pR T.R.length T.cR, .slice T.pL T.L.length T.cL], .agg #[.int .i64 s, .int .i64 n, .slice pE E.length cE], .int .i64 ro] w fun e w' => TBdPost T.R T.L ro s n E w e w' := by
  obtain ⟨R, L0, pR, cR, pL, cL⟩ := T
  simp only at hp hl0 hl1 hl2 hx ⊢
  have H0 := Lib.hid (b3_start s n hT hE)
  have HPX := Lib.hid (And.intro hp (And.intro hx hl1))
  clear hT hE hp hx hl1
  go_enter Tryz.func34, Tryz.ntmps34
  go_upto_region 1 with fail
  generalize ((w.alloc _).alloc _).alloc _ = wa at *
  obtain ⟨t0, t1⟩ := row_cells H0.out.bT
  obtain ⟨q0, q1, q2⟩ := row3B H0.out.bP
  go_wp2_with fail
  refine (tvalidT_any ⟨R, L0, pR, cR, pL, cL⟩ s n E pE cE _ _ wa H0.out.t H0.out.e hm).mono ?_
  rintro e w1 ⟨rfl, hg⟩
  have H1 := Lib.hid (H0.out.keep hg)
  clear hg H0 t0 t1 q0 q1 q2
  simp only
  obtain ⟨vb, hvb⟩ : ∃ vb, (okT R L0 && vPl s n E) = vb := ⟨_, rfl⟩
  rw [hvb]
  cases vb
  case false =>
    have HE : Hid (buE R L0 s n E ro = 1) := Lib.hid (bu_inv (fun h => by rw [h.1, h.2] at hvb; cases hvb))
    clear hvb
    obtain ⟨z0, z1, z2, z3⟩ := row4T H1.out.bR
    have f0 := frozen_of_row _ _ 0 _ _ H1.out.bR
    have f1 := frozen_of_row _ _ 1 _ _ H1.out.bR
    have f2 := frozen_of_row _ _ 2 _ _ H1.out.bR
    have f3 := frozen_of_row _ _ 3 _ _ H1.out.bR
    have HT := Lib.hid (store4B (.int .i64 0) (.int .i64 0) (.int .i64 0) (.slice none 0 0) H1.out.bR)
    have HK := Lib.hid H1.out
    clear H1
    go_wp2_with fail
    refine bodyPost_ret (res_tab_e rfl _ _ (w.heap.size + 1 + 1) _ _ _ _ rfl HT.out.1) rfl ?_
    exact tbd_zero HE.out (by decide) (grown_new HK.out.gr HT.out.2 (by omega))
  have HV : Hid (okT R L0 = true ∧ vPl s n E = true) := Lib.hid (by simpa using hvb)
  clear hvb
  obtain ⟨t0, t1⟩ := row_cells H1.out.bT
  obtain ⟨q0, q1, q2⟩ := row3B H1.out.bP
  go_wp2_with fail
  refine (thas_any ⟨R, L0, pR, cR, pL, cL⟩ ro _ w1 H1.out.t (by show R.length ≤ 1000000; omega)).mono ?_
  rintro e w2 ⟨rfl, hg⟩
  have H2 := Lib.hid (H1.out.keep hg)
  clear hg H1 t0 t1 q0 q1 q2
  simp only
  obtain ⟨hb, hhb⟩ : ∃ hb, hasV R L0 ro = hb := ⟨_, rfl⟩
  rw [hhb]
  cases hb
  case false =>
    have HE : Hid (buE R L0 s n E ro = 4) := Lib.hid (bu_unk HV.out hhb)
    clear hhb
    obtain ⟨z0, z1, z2, z3⟩ := row4T H2.out.bR
    have f0 := frozen_of_row _ _ 0 _ _ H2.out.bR
    have f1 := frozen_of_row _ _ 1 _ _ H2.out.bR
    have f2 := frozen_of_row _ _ 2 _ _ H2.out.bR
    have f3 := frozen_of_row _ _ 3 _ _ H2.out.bR
    have HT := Lib.hid (store4B (.int .i64 0) (.int .i64 0) (.int .i64 0) (.slice none 0 0) H2.out.bR)
    have HK := Lib.hid H2.out
    clear H2
    go_wp2_with fail
    refine bodyPost_ret (res_tab_e rfl _ _ (w.heap.size + 1 + 1) _ _ _ _ rfl HT.out.1) rfl ?_
    exact tbd_zero HE.out (by decide) (grown_new HK.out.gr HT.out.2 (by omega))
  have HH := Lib.hid hhb
  clear hhb
  obtain ⟨t0, t1⟩ := row_cells H2.out.bT
  obtain ⟨q0, q1, q2⟩ := row3B H2.out.bP
  go_wp2_with fail
  refine (tcap_any ⟨R, L0, pR, cR, pL, cL⟩ ro _ w2 H2.out.t (by show R.length ≤ 1000000; omega)).mono ?_
  rintro e w3 ⟨rfl, hg⟩
  have H3 := Lib.hid (H2.out.keep hg)
  clear hg H2 t0 t1 q0 q1 q2
  simp only
  obtain ⟨cb, hcb⟩ : ∃ cb, capV R L0 ro = cb := ⟨_, rfl⟩
  rw [hcb]
  cases cb
  case false =>
    have HE : Hid (buE R L0 s n E ro = 26) := Lib.hid (bu_cap HV.out HH.out hcb)
    clear hcb
    obtain ⟨z0, z1, z2, z3⟩ := row4T H3.out.bR
    have f0 := frozen_of_row _ _ 0 _ _ H3.out.bR
    have f1 := frozen_of_row _ _ 1 _ _ H3.out.bR
    have f2 := frozen_of_row _ _ 2 _ _ H3.out.bR
    have f3 := frozen_of_row _ _ 3 _ _ H3.out.bR
    have HT := Lib.hid (store4B (.int .i64 0) (.int .i64 0) (.int .i64 0) (.slice none 0 0) H3.out.bR)
    have HK := Lib.hid H3.out
    clear H3
    go_wp2_with fail
    refine bodyPost_ret (res_tab_e rfl _ _ (w.heap.size + 1 + 1) _ _ _ _ rfl HT.out.1) rfl ?_
    exact tbd_zero HE.out (by decide) (grown_new HK.out.gr HT.out.2 (by omega))
  have HC := Lib.hid hcb
  clear hcb
  have HE : Hid (buE R L0 s n E ro = 0) := Lib.hid (bu_ok HV.out HH.out HC.out)
  have hE24 := rows_len HV.out.2
  obtain ⟨t0, t1⟩ := row_cells H3.out.bT
  obtain ⟨q0, q1, q2⟩ := row3B H3.out.bP
  go_wp2_with fail
  refine (tbuild_any ⟨R, L0, pR, cR, pL, cL⟩ s n ro E pE cE _ _ w3 H3.out.t H3.out.e (by omega) HPX.out.1 hl0 HPX.out.2.2 hl2 HPX.out.2.1).mono ?_
  rintro e w4 ⟨L, p, c, rfl, hown, hrows, hM, hg⟩
  have H4 := Lib.hid (H3.out.keep hg)
  have HO := Lib.hid (And.intro hown (And.intro hrows hM))
  have HZ : Hid (w.heap.size + 3 ≤ w3.heap.size) := Lib.hid H3.out.lo
  clear hown hrows hM hg H3 t0 t1 q0 q1 q2
  simp only
  obtain ⟨z0, z1, z2, z3⟩ := row4T H4.out.bR
  have f0 := frozen_of_row _ _ 0 _ _ H4.out.bR
  have f1 := frozen_of_row _ _ 1 _ _ H4.out.bR
  have f2 := frozen_of_row _ _ 2 _ _ H4.out.bR
  have f3 := frozen_of_row _ _ 3 _ _ H4.out.bR
  have HT := Lib.hid (store4B (.int .i64 ro) (.int .i64 s) (.int .i64 n) (.slice p L.length c) H4.out.bR)
  have HK := Lib.hid H4.out
  clear H4
  go_wp2_with fail
  refine bodyPost_ret (res_tab_e rfl _ _ (w.heap.size + 1 + 1) _ _ _ _ rfl HT.out.1) rfl ?_
  obtain ⟨k1, k2, k3⟩ := HK.out.out HO.out.1 HO.out.2.1 HZ.out HT.out.2
  exact ⟨ro, s, n, L, p, c, 0, rfl, HE.out.symm, k1, k2, Or.inl ⟨rfl, rfl, rfl, rfl, HO.out.2.2⟩, k3⟩
end Go.Proofs.YtahafijpcmphaaaGreat

/- tables, the reference's functions: Build. -/
namespace Go.Proofs.YtahafijpcmphaaaGreat
open Go.RowKit Bs
end Go.Proofs.YtahafijpcmphaaaGreat

/- tables: equal lists of numbers, and equal rows. -/
namespace Go.Proofs.YtahafijpcmphaaaGreat
open Go.RowKit Bs
set_option maxRecDepth 100000 in
theorem tk_step {α : Type} {l m : List α} {k : Nat} {x y : α} (h : l.take k = m.take k) (hx : l[k]? = some x) (hy : m[k]? = some y) (e : x = y) : l.take (k + 1) = m.take (k + 1) := by
  rw [List.take_add_one, List.take_add_one, h, hx, hy, e]
set_option maxRecDepth 100000 in
theorem tk_ne {α : Type} {l m : List α} {k : Nat} {x y : α} (hx : l[k]? = some x) (hy : m[k]? = some y) (e : x ≠ y) : l ≠ m := by
  rintro rfl
  rw [hx] at hy
  exact e (Option.some.inj hy)
set_option maxRecDepth 100000 in
theorem tk_end {α : Type} {l m : List α} (h : l.take l.length = m.take l.length) (hl : l.length = m.length) : l = m := by
  rw [List.take_length] at h
  rw [h, hl, List.take_length]
set_option maxRecDepth 100000 in
set_option maxHeartbeats 1600000 in
theorem rintsG_any (a b : List Int) (p1 p2 : Option Addr) (c1 c2 : Nat) (q1 q2 : Nat → Prop) (w : World) (h1 : Rd w q1 (.slice p1 a.length c1) (a.map tv)) (h2 : Rd w q2 (.slice p2 b.length c2) (b.map tv)) (hm : a.length ≤ 9223372036854775807) (hm2 : b.length ≤ 9223372036854775807) :
    Calls Tryz.prog 20 #[.slice p1 a.length c1, .slice p2 b.length c2] w fun e w' => e = .returned (.bool (decide (a = b))) ∧ w.grownBy w' none := by
  by_cases hl : a.length = b.length
  case neg =>
    have hne : ((a.length : Int) != (b.length : Int)) = true := by
      rw [bne_iff_ne]; omega
    have HD : Hid (decide (a = b) = false) := Lib.hid (decide_eq_false (fun h => hl (by rw [h])))
    clear h1 h2 hl
    go_enter Tryz.func20, Tryz.ntmps20
    go_wp2_with fail
    go_ret
    exact ⟨by rw [HD.out]; rfl, grown_refl _ _⟩
  rw [← hl] at h2 hm2 ⊢
  have H := Lib.hid (And.intro h1 h2)
  have HL := Lib.hid hl
  clear h1 h2 hl hm2
  obtain ⟨z, hz⟩ : ∃ z, decide (a = b) = z := ⟨_, rfl⟩
  rw [hz]
  have HZ := Lib.hid hz
  clear hz
  go_enter Tryz.func20, Tryz.ntmps20
  go_wp2_with fail
  go_loopw [5] (fun v wr => ∃ k : Nat, k ≤ a.length ∧ v = .int .i64 (k : Int) ∧ Hid (a.take k = b.take k) ∧ w.grownBy wr none) (fun v _ => a.length - (RowKit.intOf v).toNat)
  case atStart => exact ⟨0, Nat.zero_le _, rfl, Lib.hid rfl, grown_refl _ _⟩
  case round =>
    obtain ⟨k, hk, rfl, HT, hG⟩ := hrel
    by_cases hlt : k < a.length
    · obtain ⟨x, hx⟩ : ∃ x, a[k]? = some x := ⟨_, List.getElem?_eq_getElem (by omega)⟩
      obtain ⟨y, hy⟩ : ∃ y, b[k]? = some y := ⟨_, List.getElem?_eq_getElem (by have := HL.out; omega)⟩
      obtain ⟨-, b1, o1, rfl, _, hc1⟩ := tvT_at (H.out.1) hx
      obtain ⟨-, b2, o2, rfl, _, hc2⟩ := tvT_at (H.out.2) hy
      have e1 := hG.cell (hc1 k x hx) (by simp)
      have e2 := hG.cell (hc2 k y hy) (by simp)
      have HXY := Lib.hid (And.intro hx hy)
      have HG := Lib.hid hG
      clear hc1 hc2 hG hx hy
      by_cases e : x = y
      · subst e
        have HT2 := Lib.hid (tk_step HT.out HXY.out.1 HXY.out.2 rfl)
        clear HT
        go_wp2_with fail
        go_region
        have HG2 := Lib.hid (grown_drew HG.out)
        clear HG e1 e2
        change Exit.then _ _ _ _ wr.drew
        generalize wr.drew = w2 at *
        go_wp2_with fail
        exact ⟨⟨k + 1, by omega, congrArg _ (by omega), HT2, HG2.out⟩, by simp only [RowKit.intOf]; omega⟩
      · have e' : (x != y) = true := by simpa using e
        have HF : Hid (z = false) := Lib.hid (by rw [← HZ.out]; exact decide_eq_false (tk_ne HXY.out.1 HXY.out.2 e))
        clear HT e
        go_wp2_with fail
        go_region
        have HG2 := Lib.hid (grown_drew HG.out)
        clear HG e1 e2
        change Exit.then _ _ _ _ wr.drew
        generalize wr.drew = w2 at *
        go_wp2_with fail
        go_ret
        exact ⟨by rw [HF.out]; rfl, HG2.out⟩
    · obtain rfl : k = a.length := by omega
      have HG := Lib.hid hG
      have HF : Hid (z = true) := Lib.hid (by rw [← HZ.out]; exact decide_eq_true (tk_end HT.out HL.out))
      clear hG
      go_wp2_with fail
      go_ret
      exact ⟨by rw [HF.out]; rfl, HG.out⟩
end Go.Proofs.YtahafijpcmphaaaGreat

/- tables: the program's Same. -/
namespace Go.Proofs.YtahafijpcmphaaaGreat
open Go.RowKit Bs
end Go.Proofs.YtahafijpcmphaaaGreat

/- tables, the reference's functions: Same. -/
namespace Go.Proofs.YtahafijpcmphaaaGreat
open Go.RowKit Bs
end Go.Proofs.YtahafijpcmphaaaGreat

/- tables: what the law of Build keeps in memory. -/
namespace Go.Proofs.YtahafijpcmphaaaGreat
open Go.RowKit Bs
/-- A topology and a plan that are drawn. -/
structure GP (W : World) (a B C : Nat) (T : Tg) (s n : Int) (E : List Ed) (pE : Option Addr) (cE : Nat) (w : World) : Prop where
  gx : GX W a B T w
  bP : w.heap[C]? = some (.cells #[.int .i64 s, .int .i64 n, .slice pE E.length cE] 48 (0, 0))
  e : RdF w (fun b => a < b ∧ b < w.heap.size) (.slice pE E.length cE) E.length (E.flatMap edC)
  lo : a < C ∧ C < w.heap.size
set_option maxRecDepth 100000 in
theorem GP.keep {W : World} {a B C : Nat} {T : Tg} {s n : Int} {E : List Ed} {pE : Option Addr} {cE : Nat} {w w1 : World} (h : GP W a B C T s n E pE cE w) (g : w.grownBy w1 none) : GP W a B C T s n E pE cE w1 :=
  ⟨h.gx.keep g, kept_row h.bP g (by simp), (h.e.keep g).mono (fun b hb => ⟨hb.1, Nat.lt_of_lt_of_le hb.2 g.size⟩), h.lo.1, Nat.lt_of_lt_of_le h.lo.2 g.size⟩
set_option maxRecDepth 100000 in
theorem GP.tape {W : World} {a B C : Nat} {T : Tg} {s n : Int} {E : List Ed} {pE : Option Addr} {cE : Nat} {w w1 : World} (h : GP W a B C T s n E pE cE w) (k : St a w w1) : GP W a B C T s n E pE cE w1 := by
  have hlo := h.lo
  exact ⟨h.gx.tape k, kept_row h.bP k.1 (fun e => by have := Option.some.inj e; omega), (h.e.grown k.1 (fun b hb e => by have := Option.some.inj e; omega)).mono (fun b hb => ⟨hb.1, Nat.lt_of_lt_of_le hb.2 k.1.size⟩), hlo.1, Nat.lt_of_lt_of_le hlo.2 k.1.size⟩
set_option maxRecDepth 100000 in
theorem gp_start {W w w5 : World} {a B : Nat} {T : Tg} (s n : Int) {E : List Ed} {pE : Option Addr} {cE : Nat} (h : GX W a B T w) (k : St a w w5) (hE : w5.ownsRow w.heap.size 71 2 (.slice pE E.length cE) E.length (E.flatMap edC)) :
    GP W a B w5.heap.size T s n E pE cE (w5.alloc (.cells #[.int .i64 s, .int .i64 n, .slice pE E.length cE] 48)) := by
  obtain ⟨k1, k2⟩ := tone_box w5 #[.int .i64 s, .int .i64 n, .slice pE E.length cE] 48
  have hlo := h.lo
  have hz := k.1.size
  exact ⟨(h.tape k).keep k2, k1, ((rdf_of_own2 hE).keep k2).mono (fun b hb => ⟨by have := hb.1; omega, Nat.lt_of_lt_of_le hb.2 k2.size⟩), by omega, by simp⟩
/-- All that the rounds of the law read. -/
structure LB (W : World) (T : Tg) (s n : Int) (E : List Ed) (pE : Option Addr) (cE B C D Z : Nat) (x y z : Int) (w : World) : Prop where
  bT : w.heap[B]? = some (.cells #[.slice T.pR T.R.length T.cR, .slice T.pL T.L.length T.cL] 45 (0, 0))
  bP : w.heap[C]? = some (.cells #[.int .i64 s, .int .i64 n, .slice pE E.length cE] 48 (0, 0))
  bD : w.heap[D]? = some (.cells #[.int .i64 x, .int .i64 y, .int .i64 z] 3 (0, 0))
  t : TgOk w (· < Z) T
  e : RdF w (· < Z) (.slice pE E.length cE) E.length (E.flatMap edC)
  gr : W.grownBy w none
  lo : W.heap.size ≤ Z ∧ B < Z ∧ C < Z ∧ D < Z ∧ Z ≤ w.heap.size
set_option maxRecDepth 100000 in
theorem LB.put {W : World} {T : Tg} {s n : Int} {E : List Ed} {pE : Option Addr} {cE B C D Z : Nat} {x y z : Int} {w w1 : World} {r : Option Nat} (h : LB W T s n E pE cE B C D Z x y z w) (g : w.grownBy w1 r) (hr : ∀ b, b < Z → some b ≠ r) : LB W T s n E pE cE B C D Z x y z w1 := by
  have hlo := h.lo
  exact ⟨kept_row h.bT g (hr _ hlo.2.1), kept_row h.bP g (hr _ hlo.2.2.1), kept_row h.bD g (hr _ hlo.2.2.2.1), h.t.grown g hr, h.e.grown g hr, grown_any h.gr g (fun b hb => hr b (by omega)), hlo.1, hlo.2.1, hlo.2.2.1, hlo.2.2.2.1, Nat.le_trans hlo.2.2.2.2 g.size⟩
set_option maxRecDepth 100000 in
theorem LB.keep {W : World} {T : Tg} {s n : Int} {E : List Ed} {pE : Option Addr} {cE B C D Z : Nat} {x y z : Int} {w w1 : World} (h : LB W T s n E pE cE B C D Z x y z w) (g : w.grownBy w1 none) : LB W T s n E pE cE B C D Z x y z w1 := h.put g (fun _ _ => by simp)
set_option maxRecDepth 100000 in
theorem LB.box {W : World} {T : Tg} {s n : Int} {E : List Ed} {pE : Option Addr} {cE B C D Z : Nat} {x y z : Int} {w : World} (_ : LB W T s n E pE cE B C D Z x y z w) (A : Array Value) (t : TypeId) : (w.alloc (.cells A t)).heap[w.heap.size]? = some (.cells A t (0, 0)) ∧ w.grownBy (w.alloc (.cells A t)) none := ⟨(alloc_row A t rfl).1, (alloc_row A t rfl).2.1⟩
set_option maxRecDepth 100000 in
theorem LB.cell {W : World} {T : Tg} {s n : Int} {E : List Ed} {pE : Option Addr} {cE B C D Z : Nat} {x y z : Int} {w : World} (h : LB W T s n E pE cE B C D Z x y z w) (k : Nat) (hk : k < 3) : w.cell? ⟨D, k, none⟩ = some (.int .i64 (if k = 0 then x else if k = 1 then y else z)) := by
  obtain ⟨d0, d1, d2⟩ := row3B h.bD
  rcases k with _ | _ | _ | k
  · exact d0
  · exact d1
  · exact d2
  · omega
set_option maxRecDepth 100000 in
theorem GP.lb {W : World} {a B C : Nat} {T : Tg} {s n : Int} {E : List Ed} {pE : Option Addr} {cE : Nat} {w : World} (h : GP W a B C T s n E pE cE w) (x y z : Int) : LB W T s n E pE cE B C w.heap.size (w.heap.size + 1) x y z (w.alloc (.cells #[.int .i64 x, .int .i64 y, .int .i64 z] 3)) := by
  obtain ⟨k1, k2⟩ := tone_box w #[.int .i64 x, .int .i64 y, .int .i64 z] 3
  have h1 := h.gx.lo
  have h2 := h.lo
  exact ⟨kept_row h.gx.bT k2 (by simp), kept_row h.bP k2 (by simp), k1, (h.gx.t.keep k2).mono (fun b hb => by have := hb.2.2; omega), (h.e.keep k2).mono (fun b hb => by have := hb.2; omega), grown_trans h.gx.gr k2, by omega, by omega, by omega, by omega, by simp⟩
end Go.Proofs.YtahafijpcmphaaaGreat

/- tables: the laws' example. -/
namespace Go.Proofs.YtahafijpcmphaaaGreat
open Go.RowKit Bs
def tbxR : List Rt := [⟨1, true⟩, ⟨2, false⟩, ⟨3, true⟩]
def tbxL : List Lk := [⟨1, 2, 1, 1, 0⟩, ⟨2, 3, 1, 1, 0⟩]
def tbxE : List Ed := [⟨3, 1⟩]
set_option maxRecDepth 100000 in
theorem tbx_ok : okT tbxR tbxL = true ∧ vPl 0 8 tbxE = true ∧ hasV tbxR tbxL 1 = true ∧ hasV tbxR tbxL 3 = true ∧ capV tbxR tbxL 1 = true ∧ capV tbxR tbxL 3 = true ∧ capV tbxR tbxL 2 = false := ⟨by kernel_rfl, by kernel_rfl, by kernel_rfl, by kernel_rfl, by kernel_rfl, by kernel_rfl, by kernel_rfl⟩
set_option maxRecDepth 100000 in
theorem tbx_st : stV tbxR tbxL (toK tbxL 3 3) 1 = [2] ∧ stV tbxR tbxL (toK tbxL 3 3) 2 = [3] := ⟨by kernel_rfl, by kernel_rfl⟩
set_option maxRecDepth 100000 in
theorem tbx_bu : buE tbxR tbxL 0 8 tbxE 1 = 0 := bu_ok ⟨tbx_ok.1, tbx_ok.2.1⟩ tbx_ok.2.2.1 tbx_ok.2.2.2.2.1
set_option maxRecDepth 100000 in
theorem tbx_hop {X : List Int} (hp : X.Pairwise (· < ·)) (h : HopsIs tbxR tbxL 1 3 X) : X = [3] := by
  unfold HopsIs at h
  rw [if_pos ⟨tbx_ok.2.2.1, tbx_ok.2.2.2.1, by decide⟩] at h
  refine asc_same hp (by decide) fun y => (h y).trans ⟨?_, ?_⟩
  · rintro ⟨s, hs, hy, hc⟩
    have hs2 := hs (fun a => a = 1 ∨ a = 2) (Or.inl rfl) (fun a b ha hb _ => by
      rcases ha with rfl | rfl
      · have := tbx_st.1 ▸ hb; exact Or.inr (by simpa using this)
      · rename_i hcb
        have h3 := tbx_st.2 ▸ hb
        have h4 : b = 3 := by simpa using h3
        subst h4
        rw [tbx_ok.2.2.2.2.2.1] at hcb; cases hcb)
    rcases hs2 with rfl | rfl
    · have h3 := tbx_st.1 ▸ hy
      have h4 : y = 2 := by simpa using h3
      subst h4
      rw [tbx_ok.2.2.2.2.2.2] at hc; cases hc
    · have h3 := tbx_st.2 ▸ hy
      simpa using h3
  · intro hy
    have e : y = 3 := by simpa using hy
    subst e
    refine ⟨2, fun P h1 h2 => h2 1 2 h1 (by have := tbx_st.1; show 2 ∈ stV tbxR tbxL (toK tbxL 3 3) 1; rw [this]; simp) tbx_ok.2.2.2.2.2.2, ?_, tbx_ok.2.2.2.2.2.1⟩
    show 3 ∈ stV tbxR tbxL (toK tbxL 3 3) 2
    rw [tbx_st.2]; simp
set_option maxRecDepth 100000 in
theorem tbx_bld {L : List Rw} (h : BldM tbxR tbxL 1 tbxE L) : ∃ x, L = [x] ∧ x.id = 1 ∧ x.nx = [3] := by
  have hl : L.length = 1 := h.1
  obtain ⟨x, rfl⟩ : ∃ x, L = [x] := by
    cases L with
    | nil => cases hl
    | cons x t => cases t with
      | nil => exact ⟨x, rfl⟩
      | cons y t => simp at hl
  obtain ⟨h1, h2⟩ := h.2 0 ⟨3, 1⟩ x rfl rfl
  refine ⟨x, rfl, h1, ?_⟩
  unfold NxB at h2
  rw [if_neg (by decide), if_pos tbx_ok.2.2.2.2.2.1] at h2
  exact tbx_hop h2.1 h2.2.2
end Go.Proofs.YtahafijpcmphaaaGreat

/- tables: awake. -/
namespace Go.Proofs.YtahafijpcmphaaaGreat
open Go.RowKit Bs
set_option maxRecDepth 100000 in
theorem rdf_rowT {w : World} {g : Nat} {t : TypeId} {n c : Nat} {xs : List Value} (h : w.heap[g]? = some (.cells xs.toArray t (0, 0))) : RdF w (· = g) (.slice (some ⟨g, 0, none⟩) n c) n xs :=
  ⟨some ⟨g, 0, none⟩, c, rfl, fun _ => ⟨g, 0, rfl, rfl, fun i x hi => by
    rw [cell_of_row _ _ _ _ _ _ h, Nat.zero_add]
    simpa using hi⟩⟩
set_option maxRecDepth 100000 in
theorem tbx_start (w : World) : ∃ w3, w3 = (((w.alloc (.cells #[.int .i64 1, .bool true, .int .i64 2, .bool false, .int .i64 3, .bool true] 92)).alloc (.cells #[.int .i64 1, .int .i64 2, .int .i64 1, .int .i64 1, .int .i64 0, .int .i64 2, .int .i64 3, .int .i64 1, .int .i64 1, .int .i64 0] 94)).alloc (.cells #[.slice (some ⟨w.heap.size, 0, none⟩) 3 3, .slice (some ⟨w.heap.size + 1, 0, none⟩) 2 2] 45)) ∧
    w3.heap[w.heap.size + 1 + 1]? = some (.cells #[.slice (some ⟨w.heap.size, 0, none⟩) 3 3, .slice (some ⟨w.heap.size + 1, 0, none⟩) 2 2] 45 (0, 0)) ∧ TgOk w3 (fun _ => True) ⟨tbxR, tbxL, some ⟨w.heap.size, 0, none⟩, 3, some ⟨w.heap.size + 1, 0, none⟩, 2⟩ ∧ w.grownBy w3 none := by
  obtain ⟨a1, g1, z1⟩ := alloc_row (w := w) #[.int .i64 1, .bool true, .int .i64 2, .bool false, .int .i64 3, .bool true] 92 rfl
  generalize w.alloc _ = w1 at *
  obtain ⟨a2, g2, z2⟩ := alloc_row (w := w1) #[.int .i64 1, .int .i64 2, .int .i64 1, .int .i64 1, .int .i64 0, .int .i64 2, .int .i64 3, .int .i64 1, .int .i64 1, .int .i64 0] 94 z1
  generalize w1.alloc _ = w2 at *
  obtain ⟨a3, g3, z3⟩ := alloc_row (w := w2) #[.slice (some ⟨w.heap.size, 0, none⟩) 3 3, .slice (some ⟨w.heap.size + 1, 0, none⟩) 2 2] 45 z2
  refine ⟨_, rfl, ?_⟩
  generalize w2.alloc _ = w3 at *
  exact ⟨a3, ⟨(rdf_rowT (xs := tbxR.flatMap rtC) (kept_row (kept_row a1 g2 (by simp)) g3 (by simp))).mono (fun _ _ => trivial), (rdf_rowT (xs := tbxL.flatMap lkC) (kept_row a2 g3 (by simp))).mono (fun _ _ => trivial), ⟨(by decide : 3 ≤ 3), (by decide : 3 ≤ 9223372036854775807)⟩, ⟨(by decide : 2 ≤ 2), (by decide : 2 ≤ 9223372036854775807)⟩⟩, grown_trans (grown_trans g1 g2) g3⟩
set_option maxRecDepth 100000 in
theorem tbx_ck (p : Option Addr) (c : Nat) : ckT 1 0 8 [⟨1, [3], p, c⟩] = 0 := by kernel_rfl
set_option maxRecDepth 100000 in
set_option maxHeartbeats 3200000 in
theorem awk11_any (w : World) : Calls Tryz.prog 21 #[] w fun e w' => e = .returned (.bool true) ∧ w.grownBy w' none := by
  obtain ⟨w3, h3, hb, hT, hg⟩ := tbx_start w
  have H3 := Lib.hid (And.intro hb (And.intro hT hg))
  clear hb hT hg
  go_enter Tryz.func21, Tryz.ntmps21
  go_upto_region 2 with fail
  rw [← h3]
  clear h3
  obtain ⟨t0, t1⟩ := row_cells H3.out.1
  have hb4 := alloc_row (w := w3) #[.int .i64 3, .int .i64 1] 71 rfl
  have H4 := Lib.hid (And.intro hb4.1 hb4.2.1)
  clear hb4
  go_wp2_with fail
  generalize w3.alloc _ = w4 at *
  generalize w3.heap.size = g4 at *
  refine (tBuild_any ⟨tbxR, tbxL, some ⟨w.heap.size, 0, none⟩, 3, some ⟨w.heap.size + 1, 0, none⟩, 2⟩ 0 8 1 tbxE (some ⟨g4, 0, none⟩) 1 _ _ w4 (H3.out.2.1.keep H4.out.2) (rdf_rowT (xs := tbxE.flatMap edC) H4.out.1) (by decide) (fun h => by cases h) (by show 3 ≤ 1000; decide) (fun _ => by show 3 ≤ 12; decide) (by show 2 ≤ 1000; decide) (fun _ => by unfold I64; omega)).mono ?_
  rintro e w5 ⟨r1, s1, n1, L, p, c, er, rfl, her, hown, hrows, hres, hg⟩
  simp only at her hres
  rw [tbx_bu] at her
  subst her
  obtain ⟨rfl, rfl, rfl, hM⟩ : r1 = 1 ∧ s1 = 0 ∧ n1 = 8 ∧ BldM tbxR tbxL 1 tbxE L := by
    rcases hres with h | h
    · exact h.2
    · exact absurd rfl h.1
  obtain ⟨x, rfl, hxi, hxn⟩ := tbx_bld hM
  obtain ⟨xi, xn, xp, xc⟩ := x
  simp only at hxi hxn
  subst hxi
  subst hxn
  have hx := hrows _ (List.mem_singleton.2 rfl)
  have hR : RdW w5 (fun _ => True) p c [⟨1, [3], xp, xc⟩] := ⟨(rdf_of_own2 hown).mono (fun _ _ => trivial), fun y hy => by
    rw [List.mem_singleton.1 hy]
    exact ⟨hx.1.mono (fun _ _ => trivial), hx.2.2⟩⟩
  obtain ⟨-, b, off, rfl, -, hc⟩ := rw_cells hR.rd (by show 0 < 1; decide)
  have a00 := hc 0 _ rfl
  have G5 := Lib.hid (grown_trans H3.out.2.2 (grown_trans H4.out.2 hg))
  have HR := Lib.hid hR
  have HA := Lib.hid a00
  clear hown hrows hres hg hM hx hR hc a00 t0 t1 H3 H4
  go_upto_region 3 with fail
  obtain ⟨k1, k2⟩ := tone_box w5 #[.int .i64 1, .int .i64 0, .int .i64 8, .slice (some ⟨b, off, none⟩) 1 c] 25
  have H6 := Lib.hid (And.intro k1 (And.intro (grown_trans G5.out k2) (HR.out.keep k2)))
  have a0 := k2.cell HA.out.1 (by simp)
  have a1 := k2.cell HA.out.2 (by simp)
  simp only [Nat.zero_mul, Nat.add_zero] at a0 a1
  clear k1 k2 HA HR G5
  obtain ⟨d0, d1, d2, d3⟩ := row4T H6.out.1
  generalize w5.alloc _ = w6 at *
  generalize w5.heap.size = B at *
  have hb7 := alloc_row (w := w6) #[.int .i64 3] 3 rfl
  have H7 := Lib.hid (And.intro hb7.1 hb7.2.1)
  clear hb7
  go_wp2_with fail
  refine (rintsG_any [3] [3] xp (some ⟨w6.heap.size, 0, none⟩) xc 1 _ _ _ ((H6.out.2.2.keep H7.out.2).ok _ (List.mem_singleton.2 rfl)).rd (rdf_rowT (xs := ([3] : List Int).map tv) H7.out.1) (by decide) (by decide)).mono ?_
  rintro e w7 ⟨rfl, hg⟩
  rw [show decide (([3] : List Int) = [3]) = true from rfl]
  have H8 := Lib.hid (And.intro (grown_trans H7.out.2 hg) (And.intro (kept_row H6.out.1 (grown_trans H7.out.2 hg) (by simp)) (H6.out.2.2.keep (grown_trans H7.out.2 hg))))
  clear hg H7 d0 d1 d2 d3 a0 a1
  obtain ⟨d0, d1, d2, d3⟩ := row4T H8.out.2.1
  go_wp2_with fail
  refine (tcheckT_any 1 0 8 (some ⟨b, off, none⟩) c [⟨1, [3], xp, xc⟩] _ w7 H8.out.2.2 (by show 1 ≤ 9223372036854775807; decide)).mono ?_
  rintro e w8 ⟨rfl, hg⟩
  rw [tbx_ck]
  have G := Lib.hid (grown_trans (grown_trans H6.out.2.1 H8.out.1) hg)
  clear hg d0 d1 d2 d3 H8 H6
  simp only
  go_wp2_with fail
  go_ret
  exact ⟨rfl, G.out⟩
end Go.Proofs.YtahafijpcmphaaaGreat

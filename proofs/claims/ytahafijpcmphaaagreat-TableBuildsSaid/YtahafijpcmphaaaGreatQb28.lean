/- Parts of the proof, packed: TaBlM, TaExM, TaAwk. -/
import Derived.Test.YtahafijpcmphaaaGreatQb26
import Derived.Test.YtahafijpcmphaaaGreatQb27
import Derived.Test.YtahafijpcmphaaaGreatQb24
import Derived.Test.YtahafijpcmphaaaGreatQb19
/- tables: what the law of Build keeps in memory. -/
namespace Go.Proofs.YtahafijpcmphaaaGreat
open Go.RowKit Bs
/-- What Build gives, in words. -/
def ResB (R : List Rt) (L0 : List Lk) (ro s n : Int) (E : List Ed) (er r1 s1 n1 : Int) (L : List Rw) : Prop := (er = 0 ∧ r1 = ro ∧ s1 = s ∧ n1 = n ∧ BldM R L0 ro E L) ∨ (er ≠ 0 ∧ r1 = 0 ∧ s1 = 0 ∧ n1 = 0 ∧ L = [])
set_option maxRecDepth 100000 in
theorem resB_same {R : List Rt} {L0 : List Lk} {ro s n : Int} {E : List Ed} {er r1 s1 n1 r2 s2 n2 : Int} {L M : List Rw} (h1 : ResB R L0 ro s n E er r1 s1 n1 L) (h2 : ResB R L0 ro s n E er r2 s2 n2 M) : smT r1 s1 n1 L r2 s2 n2 M = true := by
  unfold smT
  rw [decide_eq_true_eq]
  rcases h1 with ⟨a0, a1, a2, a3, a4⟩ | ⟨a0, a1, a2, a3, a4⟩
  · rcases h2 with ⟨b0, b1, b2, b3, b4⟩ | ⟨b0, b1, b2, b3, b4⟩
    · exact ⟨by omega, by omega, by omega, bldM_uniq a4 b4⟩
    · exact absurd a0 b0
  · rcases h2 with ⟨b0, b1, b2, b3, b4⟩ | ⟨b0, b1, b2, b3, b4⟩
    · exact absurd b0 a0
    · exact ⟨by omega, by omega, by omega, by rw [a4, b4]⟩
/-- A topology and a plan that are drawn. -/
structure GP (W : World) (a B C : Nat) (T : Tg) (s n : Int) (E : List Ed) (pE : Option Addr) (cE : Nat) (w : World) : Prop where
  gx : GX W a B T w
  bP : w.heap[C]? = some (.cells #[.int .i64 s, .int .i64 n, .slice pE E.length cE] 48 (0, 0))
  e : RdF w (fun b => a < b ∧ b < w.heap.size) (.slice pE E.length cE) E.length (E.flatMap edC)
  lo : a < C ∧ C < w.heap.size
set_option maxRecDepth 100000 in
theorem GP.keep {W : World} {a B C : Nat} {T : Tg} {s n : Int} {E : List Ed} {pE : Option Addr} {cE : Nat} {w w1 : World} (h : GP W a B C T s n E pE cE w) (g : w.grownBy w1 none) : GP W a B C T s n E pE cE w1 :=
  ⟨h.gx.keep g, kept_row h.bP g (by simp), (h.e.keep g).mono (fun b hb => ⟨hb.1, Nat.lt_of_lt_of_le hb.2 g.size⟩), h.lo.1, Nat.lt_of_lt_of_le h.lo.2 g.size⟩
set_option maxRecDepth 100000 in
theorem GP.tape {W : World} {a B C : Nat} {T : Tg} {s n : Int} {E : List Ed} {pE : Option Addr} {cE : Nat} {w w1 : World} (h : GP W a B C T s n E pE cE w) (k : St a w w1) : GP W a B C T s n E pE cE w1 := by
  have hlo := h.lo
  exact ⟨h.gx.tape k, kept_row h.bP k.1 (fun e => by have := Option.some.inj e; omega), (h.e.grown k.1 (fun b hb e => by have := Option.some.inj e; omega)).mono (fun b hb => ⟨hb.1, Nat.lt_of_lt_of_le hb.2 k.1.size⟩), hlo.1, Nat.lt_of_lt_of_le hlo.2 k.1.size⟩
set_option maxRecDepth 100000 in
theorem gp_start {W w w5 : World} {a B : Nat} {T : Tg} (s n : Int) {E : List Ed} {pE : Option Addr} {cE : Nat} (h : GX W a B T w) (k : St a w w5) (hE : w5.ownsRow w.heap.size 71 2 (.slice pE E.length cE) E.length (E.flatMap edC)) :
    GP W a B w5.heap.size T s n E pE cE (w5.alloc (.cells #[.int .i64 s, .int .i64 n, .slice pE E.length cE] 48)) := by
  obtain ⟨k1, k2⟩ := tone_box w5 #[.int .i64 s, .int .i64 n, .slice pE E.length cE] 48
  have hlo := h.lo
  have hz := k.1.size
  exact ⟨(h.tape k).keep k2, k1, ((rdf_of_own2 hE).keep k2).mono (fun b hb => ⟨by have := hb.1; omega, Nat.lt_of_lt_of_le hb.2 k2.size⟩), by omega, by simp⟩
/-- All that the rounds of the law read. -/
structure LB (W : World) (T : Tg) (s n : Int) (E : List Ed) (pE : Option Addr) (cE B C D Z : Nat) (x y z : Int) (w : World) : Prop where
  bT : w.heap[B]? = some (.cells #[.slice T.pR T.R.length T.cR, .slice T.pL T.L.length T.cL] 45 (0, 0))
  bP : w.heap[C]? = some (.cells #[.int .i64 s, .int .i64 n, .slice pE E.length cE] 48 (0, 0))
  bD : w.heap[D]? = some (.cells #[.int .i64 x, .int .i64 y, .int .i64 z] 3 (0, 0))
  t : TgOk w (· < Z) T
  e : RdF w (· < Z) (.slice pE E.length cE) E.length (E.flatMap edC)
  gr : W.grownBy w none
  lo : W.heap.size ≤ Z ∧ B < Z ∧ C < Z ∧ D < Z ∧ Z ≤ w.heap.size
set_option maxRecDepth 100000 in
theorem LB.put {W : World} {T : Tg} {s n : Int} {E : List Ed} {pE : Option Addr} {cE B C D Z : Nat} {x y z : Int} {w w1 : World} {r : Option Nat} (h : LB W T s n E pE cE B C D Z x y z w) (g : w.grownBy w1 r) (hr : ∀ b, b < Z → some b ≠ r) : LB W T s n E pE cE B C D Z x y z w1 := by
  have hlo := h.lo
  exact ⟨kept_row h.bT g (hr _ hlo.2.1), kept_row h.bP g (hr _ hlo.2.2.1), kept_row h.bD g (hr _ hlo.2.2.2.1), h.t.grown g hr, h.e.grown g hr, grown_any h.gr g (fun b hb => hr b (by omega)), hlo.1, hlo.2.1, hlo.2.2.1, hlo.2.2.2.1, Nat.le_trans hlo.2.2.2.2 g.size⟩
set_option maxRecDepth 100000 in
theorem LB.keep {W : World} {T : Tg} {s n : Int} {E : List Ed} {pE : Option Addr} {cE B C D Z : Nat} {x y z : Int} {w w1 : World} (h : LB W T s n E pE cE B C D Z x y z w) (g : w.grownBy w1 none) : LB W T s n E pE cE B C D Z x y z w1 := h.put g (fun _ _ => by simp)
set_option maxRecDepth 100000 in
theorem LB.box {W : World} {T : Tg} {s n : Int} {E : List Ed} {pE : Option Addr} {cE B C D Z : Nat} {x y z : Int} {w : World} (_ : LB W T s n E pE cE B C D Z x y z w) (A : Array Value) (t : TypeId) : (w.alloc (.cells A t)).heap[w.heap.size]? = some (.cells A t (0, 0)) ∧ w.grownBy (w.alloc (.cells A t)) none := ⟨(alloc_row A t rfl).1, (alloc_row A t rfl).2.1⟩
set_option maxRecDepth 100000 in
theorem LB.lo0 {W : World} {T : Tg} {s n : Int} {E : List Ed} {pE : Option Addr} {cE B C D Z : Nat} {x y z : Int} {w : World} (h : LB W T s n E pE cE B C D Z x y z w) : Z ≤ w.heap.size ∧ 0 ≤ w.heap.size := ⟨h.lo.2.2.2.2, Nat.zero_le _⟩
set_option maxRecDepth 100000 in
theorem LB.cell {W : World} {T : Tg} {s n : Int} {E : List Ed} {pE : Option Addr} {cE B C D Z : Nat} {x y z : Int} {w : World} (h : LB W T s n E pE cE B C D Z x y z w) (k : Nat) (hk : k < 3) : w.cell? ⟨D, k, none⟩ = some (.int .i64 (if k = 0 then x else if k = 1 then y else z)) := by
  obtain ⟨d0, d1, d2⟩ := row3B h.bD
  rcases k with _ | _ | _ | k
  · exact d0
  · exact d1
  · exact d2
  · omega
set_option maxRecDepth 100000 in
theorem GP.lb {W : World} {a B C : Nat} {T : Tg} {s n : Int} {E : List Ed} {pE : Option Addr} {cE : Nat} {w : World} (h : GP W a B C T s n E pE cE w) (x y z : Int) : LB W T s n E pE cE B C w.heap.size (w.heap.size + 1) x y z (w.alloc (.cells #[.int .i64 x, .int .i64 y, .int .i64 z] 3)) := by
  obtain ⟨k1, k2⟩ := tone_box w #[.int .i64 x, .int .i64 y, .int .i64 z] 3
  have h1 := h.gx.lo
  have h2 := h.lo
  exact ⟨kept_row h.gx.bT k2 (by simp), kept_row h.bP k2 (by simp), k1, (h.gx.t.keep k2).mono (fun b hb => by have := hb.2.2; omega), (h.e.keep k2).mono (fun b hb => by have := hb.2; omega), grown_trans h.gx.gr k2, by omega, by omega, by omega, by omega, by simp⟩
/-- A table that a round has got. -/
structure BG (g Z : Nat) (r s n : Int) (p : Option Addr) (c : Nat) (L : List Rw) (w : World) : Prop where
  bx : w.heap[g]? = some (.cells #[.int .i64 r, .int .i64 s, .int .i64 n, .slice p L.length c] 25 (0, 0))
  rd : RdW w (· < Z) p c L
  hl : L.length ≤ 9223372036854775807
  lo : g < Z ∧ Z ≤ w.heap.size
set_option maxRecDepth 100000 in
theorem BG.put {g Z : Nat} {r s n : Int} {p : Option Addr} {c : Nat} {L : List Rw} {w w1 : World} {o : Option Nat} (h : BG g Z r s n p c L w) (k : w.grownBy w1 o) (ho : ∀ b, b < Z → some b ≠ o) : BG g Z r s n p c L w1 :=
  ⟨kept_row h.bx k (ho _ h.lo.1), h.rd.grown k ho, h.hl, h.lo.1, Nat.le_trans h.lo.2 k.size⟩
set_option maxRecDepth 100000 in
theorem BG.keep {g Z : Nat} {r s n : Int} {p : Option Addr} {c : Nat} {L : List Rw} {w w1 : World} (h : BG g Z r s n p c L w) (k : w.grownBy w1 none) : BG g Z r s n p c L w1 := h.put k (fun _ _ => by simp)
set_option maxRecDepth 100000 in
/-- The rows that a call has made, between two sizes. -/
theorem rdw_bld {base : Nat} {w : World} {p : Option Addr} {c : Nat} {L : List Rw} (hown : w.ownsRow base 36 2 (.slice p L.length c) L.length (L.flatMap rwC)) (hr : ∀ x ∈ L, RdX base w (.slice p L.length c) x.p x.c x.nx) : RdW w (fun b => base ≤ b ∧ b < w.heap.size) p c L ∧ L.length ≤ 9223372036854775807 := by
  refine ⟨⟨rdf_of_own2 hown, fun x hx => ⟨(hr x hx).1.mono (fun b hb => ⟨hb.1, hb.2.1⟩), (hr x hx).2.2⟩⟩, ?_⟩
  rcases own_formF hown with ⟨e, h0⟩ | ⟨g, cap, e, h1, h2⟩ <;> omega
/-- A box for a table, and the table's rows, ahead of the store: lo1 and lo2 lie below the box. -/
structure NB (lo1 lo2 g : Nat) (p : Option Addr) (c : Nat) (L : List Rw) (w : World) : Prop where
  bx : w.heap[g]? = some (.cells #[.int .i64 0, .int .i64 0, .int .i64 0, .slice none 0 0] 25 (0, 0))
  rd : RdW w (fun b => b ≠ g ∧ b < w.heap.size) p c L
  hl : L.length ≤ 9223372036854775807
  lo : lo1 ≤ g ∧ lo2 ≤ g
set_option maxRecDepth 100000 in
theorem nb_a {lo1 lo2 base : Nat} {w : World} {p : Option Addr} {c : Nat} {L : List Rw} (hR : RdW w (fun b => base ≤ b ∧ b < w.heap.size) p c L) (hl : L.length ≤ 9223372036854775807) (hlo : lo1 ≤ w.heap.size ∧ lo2 ≤ w.heap.size) : NB lo1 lo2 w.heap.size p c L (w.alloc (.cells #[.int .i64 0, .int .i64 0, .int .i64 0, .slice none 0 0] 25)) := by
  obtain ⟨k1, k2, k3⟩ := alloc_row (w := w) #[.int .i64 0, .int .i64 0, .int .i64 0, .slice none 0 0] 25 rfl
  exact ⟨k1, (hR.keep k2).mono (fun b hb => by have := hb.2; omega), hl, hlo⟩
set_option maxRecDepth 100000 in
theorem nb_b {lo1 lo2 : Nat} {w w6 : World} {p : Option Addr} {c : Nat} {L : List Rw} (hg : (w.alloc (.cells #[.int .i64 0, .int .i64 0, .int .i64 0, .slice none 0 0] 25)).drew.grownBy w6 none) (hR : RdW w6 (fun b => (w.alloc (.cells #[.int .i64 0, .int .i64 0, .int .i64 0, .slice none 0 0] 25)).drew.heap.size ≤ b ∧ b < w6.heap.size) p c L) (hl : L.length ≤ 9223372036854775807) (hlo : lo1 ≤ w.heap.size ∧ lo2 ≤ w.heap.size) : NB lo1 lo2 w.heap.size p c L w6 := by
  obtain ⟨k1, k2, k3⟩ := alloc_row (w := w) #[.int .i64 0, .int .i64 0, .int .i64 0, .slice none 0 0] 25 rfl
  have k4 : (w.alloc (.cells #[.int .i64 0, .int .i64 0, .int .i64 0, .slice none 0 0] 25)).drew.heap.size = w.heap.size + 1 := k3
  exact ⟨kept_row (w := (w.alloc (.cells #[.int .i64 0, .int .i64 0, .int .i64 0, .slice none 0 0] 25)).drew) k1 hg (by simp), hR.mono (fun b hb => by have := hb.1; have := hb.2; omega), hl, hlo⟩
set_option maxRecDepth 100000 in
/-- The box that comes behind the call. -/
theorem nbg_a {base : Nat} (r s n : Int) {p : Option Addr} {c : Nat} {L : List Rw} {w : World} (hR : RdW w (fun b => base ≤ b ∧ b < w.heap.size) p c L) (hl : L.length ≤ 9223372036854775807) : BG w.heap.size (w.alloc (.cells #[.int .i64 r, .int .i64 s, .int .i64 n, .slice p L.length c] 25)).heap.size r s n p c L (w.alloc (.cells #[.int .i64 r, .int .i64 s, .int .i64 n, .slice p L.length c] 25)) := by
  obtain ⟨k1, k2, k3⟩ := alloc_row (w := w) #[.int .i64 r, .int .i64 s, .int .i64 n, .slice p L.length c] 25 rfl
  exact ⟨k1, (hR.keep k2).mono (fun b hb => by have := hb.2; omega), hl, by omega, Nat.le_refl _⟩
set_option maxRecDepth 100000 in
theorem NB.bg {lo1 lo2 g : Nat} {r s n : Int} {p : Option Addr} {c : Nat} {L : List Rw} {w w1 : World} (h : NB lo1 lo2 g p c L w) (h1 : w1.heap[g]? = some (.cells #[.int .i64 r, .int .i64 s, .int .i64 n, .slice p L.length c] 25 (0, 0))) (h2 : w.grownBy w1 (some g)) : BG g w1.heap.size r s n p c L w1 :=
  ⟨h1, (h.rd.grown h2 (fun b hb e => hb.1 (Option.some.inj e))).mono (fun b hb => Nat.lt_of_lt_of_le hb.2 h2.size), h.hl, Nat.lt_of_lt_of_le (lt_rowB h.bx) h2.size, Nat.le_refl _⟩
end Go.Proofs.YtahafijpcmphaaaGreat

/- tables: the laws' example. -/
namespace Go.Proofs.YtahafijpcmphaaaGreat
open Go.RowKit Bs
def tbxR : List Rt := [⟨1, true⟩, ⟨2, false⟩, ⟨3, true⟩]
def tbxL : List Lk := [⟨1, 2, 1, 1, 0⟩, ⟨2, 3, 1, 1, 0⟩]
def tbxE : List Ed := [⟨3, 1⟩]
set_option maxRecDepth 100000 in
theorem tbx_ok : okT tbxR tbxL = true ∧ vPl 0 8 tbxE = true ∧ hasV tbxR tbxL 1 = true ∧ hasV tbxR tbxL 3 = true ∧ capV tbxR tbxL 1 = true ∧ capV tbxR tbxL 3 = true ∧ capV tbxR tbxL 2 = false := ⟨by kernel_rfl, by kernel_rfl, by kernel_rfl, by kernel_rfl, by kernel_rfl, by kernel_rfl, by kernel_rfl⟩
set_option maxRecDepth 100000 in
theorem tbx_st : stV tbxR tbxL (toK tbxL 3 3) 1 = [2] ∧ stV tbxR tbxL (toK tbxL 3 3) 2 = [3] := ⟨by kernel_rfl, by kernel_rfl⟩
set_option maxRecDepth 100000 in
theorem tbx_bu : buE tbxR tbxL 0 8 tbxE 1 = 0 := bu_ok ⟨tbx_ok.1, tbx_ok.2.1⟩ tbx_ok.2.2.1 tbx_ok.2.2.2.2.1
set_option maxRecDepth 100000 in
theorem tbx_hop {X : List Int} (hp : X.Pairwise (· < ·)) (h : HopsIs tbxR tbxL 1 3 X) : X = [3] := by
  unfold HopsIs at h
  rw [if_pos ⟨tbx_ok.2.2.1, tbx_ok.2.2.2.1, by decide⟩] at h
  refine asc_same hp (by decide) fun y => (h y).trans ⟨?_, ?_⟩
  · rintro ⟨s, hs, hy, hc⟩
    have hs2 := hs (fun a => a = 1 ∨ a = 2) (Or.inl rfl) (fun a b ha hb _ => by
      rcases ha with rfl | rfl
      · have := tbx_st.1 ▸ hb; exact Or.inr (by simpa using this)
      · rename_i hcb
        have h3 := tbx_st.2 ▸ hb
        have h4 : b = 3 := by simpa using h3
        subst h4
        rw [tbx_ok.2.2.2.2.2.1] at hcb; cases hcb)
    rcases hs2 with rfl | rfl
    · have h3 := tbx_st.1 ▸ hy
      have h4 : y = 2 := by simpa using h3
      subst h4
      rw [tbx_ok.2.2.2.2.2.2] at hc; cases hc
    · have h3 := tbx_st.2 ▸ hy
      simpa using h3
  · intro hy
    have e : y = 3 := by simpa using hy
    subst e
    refine ⟨2, fun P h1 h2 => h2 1 2 h1 (by have := tbx_st.1; show 2 ∈ stV tbxR tbxL (toK tbxL 3 3) 1; rw [this]; simp) tbx_ok.2.2.2.2.2.2, ?_, tbx_ok.2.2.2.2.2.1⟩
    show 3 ∈ stV tbxR tbxL (toK tbxL 3 3) 2
    rw [tbx_st.2]; simp
set_option maxRecDepth 100000 in
theorem tbx_bld {L : List Rw} (h : BldM tbxR tbxL 1 tbxE L) : ∃ x, L = [x] ∧ x.id = 1 ∧ x.nx = [3] := by
  have hl : L.length = 1 := h.1
  obtain ⟨x, rfl⟩ : ∃ x, L = [x] := by
    cases L with
    | nil => cases hl
    | cons x t => cases t with
      | nil => exact ⟨x, rfl⟩
      | cons y t => simp at hl
  obtain ⟨h1, h2⟩ := h.2 0 ⟨3, 1⟩ x rfl rfl
  refine ⟨x, rfl, h1, ?_⟩
  unfold NxB at h2
  rw [if_neg (by decide), if_pos tbx_ok.2.2.2.2.2.1] at h2
  exact tbx_hop h2.1 h2.2.2
end Go.Proofs.YtahafijpcmphaaaGreat

/- tables: awake. -/
namespace Go.Proofs.YtahafijpcmphaaaGreat
open Go.RowKit Bs
set_option maxRecDepth 100000 in
theorem rdf_rowT {w : World} {g : Nat} {t : TypeId} {n c : Nat} {xs : List Value} (h : w.heap[g]? = some (.cells xs.toArray t (0, 0))) : RdF w (· = g) (.slice (some ⟨g, 0, none⟩) n c) n xs :=
  ⟨some ⟨g, 0, none⟩, c, rfl, fun _ => ⟨g, 0, rfl, rfl, fun i x hi => by
    rw [cell_of_row _ _ _ _ _ _ h, Nat.zero_add]
    simpa using hi⟩⟩
set_option maxRecDepth 100000 in
theorem tbx_start (w : World) : ∃ w3, w3 = (((w.alloc (.cells #[.int .i64 1, .bool true, .int .i64 2, .bool false, .int .i64 3, .bool true] 92)).alloc (.cells #[.int .i64 1, .int .i64 2, .int .i64 1, .int .i64 1, .int .i64 0, .int .i64 2, .int .i64 3, .int .i64 1, .int .i64 1, .int .i64 0] 94)).alloc (.cells #[.slice (some ⟨w.heap.size, 0, none⟩) 3 3, .slice (some ⟨w.heap.size + 1, 0, none⟩) 2 2] 45)) ∧
    w3.heap[w.heap.size + 1 + 1]? = some (.cells #[.slice (some ⟨w.heap.size, 0, none⟩) 3 3, .slice (some ⟨w.heap.size + 1, 0, none⟩) 2 2] 45 (0, 0)) ∧ TgOk w3 (fun _ => True) ⟨tbxR, tbxL, some ⟨w.heap.size, 0, none⟩, 3, some ⟨w.heap.size + 1, 0, none⟩, 2⟩ ∧ w.grownBy w3 none := by
  obtain ⟨a1, g1, z1⟩ := alloc_row (w := w) #[.int .i64 1, .bool true, .int .i64 2, .bool false, .int .i64 3, .bool true] 92 rfl
  generalize w.alloc _ = w1 at *
  obtain ⟨a2, g2, z2⟩ := alloc_row (w := w1) #[.int .i64 1, .int .i64 2, .int .i64 1, .int .i64 1, .int .i64 0, .int .i64 2, .int .i64 3, .int .i64 1, .int .i64 1, .int .i64 0] 94 z1
  generalize w1.alloc _ = w2 at *
  obtain ⟨a3, g3, z3⟩ := alloc_row (w := w2) #[.slice (some ⟨w.heap.size, 0, none⟩) 3 3, .slice (some ⟨w.heap.size + 1, 0, none⟩) 2 2] 45 z2
  refine ⟨_, rfl, ?_⟩
  generalize w2.alloc _ = w3 at *
  exact ⟨a3, ⟨(rdf_rowT (xs := tbxR.flatMap rtC) (kept_row (kept_row a1 g2 (by simp)) g3 (by simp))).mono (fun _ _ => trivial), (rdf_rowT (xs := tbxL.flatMap lkC) (kept_row a2 g3 (by simp))).mono (fun _ _ => trivial), ⟨(by decide : 3 ≤ 3), (by decide : 3 ≤ 9223372036854775807)⟩, ⟨(by decide : 2 ≤ 2), (by decide : 2 ≤ 9223372036854775807)⟩⟩, grown_trans (grown_trans g1 g2) g3⟩
set_option maxRecDepth 100000 in
theorem tbx_ck (p : Option Addr) (c : Nat) : ckT 1 0 8 [⟨1, [3], p, c⟩] = 0 := by kernel_rfl
set_option maxRecDepth 100000 in
set_option maxHeartbeats 3200000 in
theorem awk11_any (w : World) : Calls Tryz.prog 21 #[] w fun e w' => e = .returned (.bool true) ∧ w.grownBy w' none := by
  obtain ⟨w3, h3, hb, hT, hg⟩ := tbx_start w
  have H3 := Lib.hid (And.intro hb (And.intro hT hg))
  clear hb hT hg
  go_enter Tryz.func21, Tryz.ntmps21
  go_upto_region 2 with fail
  rw [← h3]
  clear h3
  obtain ⟨t0, t1⟩ := row_cells H3.out.1
  have hb4 := alloc_row (w := w3) #[.int .i64 3, .int .i64 1] 71 rfl
  have H4 := Lib.hid (And.intro hb4.1 hb4.2.1)
  clear hb4
  go_wp2_with fail
  generalize w3.alloc _ = w4 at *
  generalize w3.heap.size = g4 at *
  refine (tBuild_any ⟨tbxR, tbxL, some ⟨w.heap.size, 0, none⟩, 3, some ⟨w.heap.size + 1, 0, none⟩, 2⟩ 0 8 1 tbxE (some ⟨g4, 0, none⟩) 1 _ _ w4 (H3.out.2.1.keep H4.out.2) (rdf_rowT (xs := tbxE.flatMap edC) H4.out.1) (by decide) (fun h => by cases h) (by show 3 ≤ 1000; decide) (fun _ => by show 3 ≤ 12; decide) (by show 2 ≤ 1000; decide) (fun _ => by unfold I64; omega)).mono ?_
  rintro e w5 ⟨r1, s1, n1, L, p, c, er, rfl, her, hown, hrows, hres, hg⟩
  simp only at her hres
  rw [tbx_bu] at her
  subst her
  obtain ⟨rfl, rfl, rfl, hM⟩ : r1 = 1 ∧ s1 = 0 ∧ n1 = 8 ∧ BldM tbxR tbxL 1 tbxE L := by
    rcases hres with h | h
    · exact h.2
    · exact absurd rfl h.1
  obtain ⟨x, rfl, hxi, hxn⟩ := tbx_bld hM
  obtain ⟨xi, xn, xp, xc⟩ := x
  simp only at hxi hxn
  subst hxi
  subst hxn
  have hx := hrows _ (List.mem_singleton.2 rfl)
  have hR : RdW w5 (fun _ => True) p c [⟨1, [3], xp, xc⟩] := ⟨(rdf_of_own2 hown).mono (fun _ _ => trivial), fun y hy => by
    rw [List.mem_singleton.1 hy]
    exact ⟨hx.1.mono (fun _ _ => trivial), hx.2.2⟩⟩
  obtain ⟨-, b, off, rfl, -, hc⟩ := rw_cells hR.rd (by show 0 < 1; decide)
  have a00 := hc 0 _ rfl
  have G5 := Lib.hid (grown_trans H3.out.2.2 (grown_trans H4.out.2 hg))
  have HR := Lib.hid hR
  have HA := Lib.hid a00
  clear hown hrows hres hg hM hx hR hc a00 t0 t1 H3 H4
  go_upto_region 3 with fail
  obtain ⟨k1, k2⟩ := tone_box w5 #[.int .i64 1, .int .i64 0, .int .i64 8, .slice (some ⟨b, off, none⟩) 1 c] 25
  have H6 := Lib.hid (And.intro k1 (And.intro (grown_trans G5.out k2) (HR.out.keep k2)))
  have a0 := k2.cell HA.out.1 (by simp)
  have a1 := k2.cell HA.out.2 (by simp)
  simp only [Nat.zero_mul, Nat.add_zero] at a0 a1
  clear k1 k2 HA HR G5
  obtain ⟨d0, d1, d2, d3⟩ := row4T H6.out.1
  generalize w5.alloc _ = w6 at *
  generalize w5.heap.size = B at *
  have hb7 := alloc_row (w := w6) #[.int .i64 3] 3 rfl
  have H7 := Lib.hid (And.intro hb7.1 hb7.2.1)
  clear hb7
  go_wp2_with fail
  refine (rintsG_any [3] [3] xp (some ⟨w6.heap.size, 0, none⟩) xc 1 _ _ _ ((H6.out.2.2.keep H7.out.2).ok _ (List.mem_singleton.2 rfl)).rd (rdf_rowT (xs := ([3] : List Int).map tv) H7.out.1) (by decide) (by decide)).mono ?_
  rintro e w7 ⟨rfl, hg⟩
  rw [show decide (([3] : List Int) = [3]) = true from rfl]
  have H8 := Lib.hid (And.intro (grown_trans H7.out.2 hg) (And.intro (kept_row H6.out.1 (grown_trans H7.out.2 hg) (by simp)) (H6.out.2.2.keep (grown_trans H7.out.2 hg))))
  clear hg H7 d0 d1 d2 d3 a0 a1
  obtain ⟨d0, d1, d2, d3⟩ := row4T H8.out.2.1
  go_wp2_with fail
  refine (tcheckT_any 1 0 8 (some ⟨b, off, none⟩) c [⟨1, [3], xp, xc⟩] _ w7 H8.out.2.2 (by show 1 ≤ 9223372036854775807; decide)).mono ?_
  rintro e w8 ⟨rfl, hg⟩
  rw [tbx_ck]
  have G := Lib.hid (grown_trans (grown_trans H6.out.2.1 H8.out.1) hg)
  clear hg d0 d1 d2 d3 H8 H6
  simp only
  go_wp2_with fail
  go_ret
  exact ⟨rfl, G.out⟩
end Go.Proofs.YtahafijpcmphaaaGreat

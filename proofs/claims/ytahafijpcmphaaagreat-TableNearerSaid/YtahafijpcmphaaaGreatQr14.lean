/- Parts of the proof, packed: TaHop, IdM, IdArr, IdLeaf, IdPlc, TaM, TaSk. -/
import Derived.Test.YtahafijpcmphaaaGreatQr12
import Derived.Test.YtahafijpcmphaaaGreatQr13
import Derived.Test.YtahafijpcmphaaaGreatQr6
import Derived.Deep.AppendLies
import Derived.Test.YtahafijpcmphaaaGreatQr2
import Derived.Test.YtahafijpcmphaaaGreatQr4
import Derived.Deep.WholeRow
import Derived.Deep.CutBlock
/- tables, the reference's functions: Hops. -/
namespace Go.Proofs.YtahafijpcmphaaaGreat
open Go.RowKit Bs
set_option maxRecDepth 100000 in
theorem nodup_leH : ∀ (l V : List Int), l.Nodup → (∀ x ∈ l, x ∈ V) → l.length ≤ V.length
  | [], _, _, _ => Nat.zero_le _
  | a :: t, V, hn, hs => by
    have h1 := List.nodup_cons.1 hn
    have ha := hs a (by simp)
    have h2 := nodup_leH t (V.erase a) h1.2 (fun x hx => (List.mem_erase_of_ne (fun e => h1.1 (by rw [← e]; exact hx))).2 (hs x (by simp [hx])))
    rw [List.length_erase_of_mem ha] at h2
    have := List.length_pos_of_mem ha
    rw [List.length_cons]
    omega
/-- Reads in blocks that are there and not v's own. -/
def RdX (lo : Nat) (w : World) (v : Value) (p : Option Addr) (c : Nat) (X : List Int) : Prop := Rd w (fun b => lo ≤ b ∧ b < w.heap.size ∧ some b ≠ v.ownBlock) (.slice p X.length c) (X.map tv) ∧ (p = none → c = 0) ∧ (X.length ≤ c ∧ c ≤ 9223372036854775807)
set_option maxRecDepth 100000 in
theorem RdX.keep {lo : Nat} {w w1 : World} {v : Value} {p : Option Addr} {c : Nat} {X : List Int} (h : RdX lo w v p c X) (g : w.grownBy w1 none) : RdX lo w1 v p c X :=
  ⟨(h.1.keep g).mono (fun b hb => ⟨hb.1, Nat.lt_of_lt_of_le hb.2.1 g.size, hb.2.2⟩), h.2⟩
set_option maxRecDepth 100000 in
theorem RdX.put {lo : Nat} {w w1 : World} {v v' : Value} {p : Option Addr} {c : Nat} {X : List Int} (h : RdX lo w v p c X) (g : w.grownBy w1 v.ownBlock) (hv : v'.ownBlock = v.ownBlock ∨ ∀ b, some b = v'.ownBlock → w.heap.size ≤ b) : RdX lo w1 v' p c X :=
  ⟨(h.1.grown g (fun b hb => hb.2.2)).mono (fun b hb => ⟨hb.1, Nat.lt_of_lt_of_le hb.2.1 g.size, fun e => by
    rcases hv with hv | hv
    · rw [hv] at e; exact hb.2.2 e
    · have := hv b e; have := hb.2.1; omega⟩), h.2⟩
set_option maxRecDepth 100000 in
theorem rd_and {w : World} {q : Nat → Prop} {v : Value} {xs : List Value} (h : Rd w q v xs) : Rd w (fun b => q b ∧ b < w.heap.size) v xs := by
  obtain ⟨p, c, hv, hc⟩ := h
  refine ⟨p, c, hv, fun hne => ?_⟩
  obtain ⟨b, off, hp, hb, hx⟩ := hc hne
  obtain ⟨x, hx0⟩ : ∃ x, xs[0]? = some x := by
    cases xs with
    | nil => exact absurd rfl hne
    | cons a t => exact ⟨a, rfl⟩
  exact ⟨b, off, hp, ⟨hb, World.block_lt_of_cell? w ⟨b, off + 0, none⟩ (hx 0 x hx0)⟩, hx⟩
set_option maxRecDepth 100000 in
theorem tvT_atH {w : World} {q : Nat → Prop} {p : Option Addr} {n c i : Nat} {x : Int} {X : List Int} (h : Rd w q (.slice p n c) (X.map tv)) (hi : X[i]? = some x) :
    n = X.length ∧ ∃ b off, p = some ⟨b, off, none⟩ ∧ q b ∧ ∀ j y, X[j]? = some y → w.cell? ⟨b, off + j, none⟩ = some (.int .i64 y) := by
  obtain ⟨p1, c1, e1, hx⟩ := h
  injection e1 with a1 a2 a3
  subst a1
  have hne : X.map tv ≠ [] := by
    intro e
    have := List.map_eq_nil_iff.1 e
    subst this
    simp at hi
  obtain ⟨b, off, hp, hq, hc⟩ := hx hne
  exact ⟨by rw [a2, List.length_map], b, off, hp, hq, fun j y hj => hc j (tv y) (by rw [List.getElem?_map, hj]; rfl)⟩
/-- What Hops keeps in memory. -/
structure HP (W : World) (C : Nat) (T : Tg) (pd : Option Addr) (cd : Nat) (A : List Int) (v : Value) (S : List Int) (w : World) : Prop where
  bx : w.heap[W.heap.size]? = some (.cells #[.slice T.pR T.R.length T.cR, .slice T.pL T.L.length T.cL] 45 (0, 0))
  t : TgOk w (· < C) T
  d : Rd w (· < C) (.slice pd A.length cd) (A.map tv)
  own : w.ownsRow C 3 1 v S.length (S.map tv)
  gr : W.grownBy w none
  lo : W.heap.size < C ∧ C ≤ w.heap.size
set_option maxRecDepth 100000 in
theorem HP.keep {W : World} {C : Nat} {T : Tg} {pd : Option Addr} {cd : Nat} {A : List Int} {v : Value} {S : List Int} {w w1 : World} (h : HP W C T pd cd A v S w) (g : w.grownBy w1 none) : HP W C T pd cd A v S w1 :=
  ⟨kept_row h.bx g (by simp), h.t.keep g, h.d.keep g, h.own.kept g (by cases v.ownBlock <;> simp), grown_trans h.gr g, h.lo.1, Nat.le_trans h.lo.2 g.size⟩
set_option maxRecDepth 100000 in
theorem HP.put {W : World} {C : Nat} {T : Tg} {pd : Option Addr} {cd : Nat} {A : List Int} {v v' : Value} {S S2 : List Int} {w w1 : World} (h : HP W C T pd cd A v S w) (hown : w1.ownsRow C 3 1 v' S2.length (S2.map tv)) (g : w.grownBy w1 v.ownBlock) : HP W C T pd cd A v' S2 w1 := by
  have hlo := h.lo
  have hne : ∀ b, b < C → some b ≠ v.ownBlock := fun b hb e => by have := (h.own.lt b e.symm).1; omega
  exact ⟨kept_row h.bx g (hne _ hlo.1), h.t.grown g hne, h.d.grown g hne, hown, grown_any h.gr g (fun b hb => hne b (by omega)), h.lo.1, Nat.le_trans h.lo.2 g.size⟩
set_option maxRecDepth 100000 in
theorem HP.lt {W : World} {C : Nat} {T : Tg} {pd : Option Addr} {cd : Nat} {A : List Int} {v : Value} {S : List Int} {w : World} (h : HP W C T pd cd A v S w) : ∀ b, v.ownBlock = some b → b < w.heap.size := fun b e => (h.own.lt b e).2
set_option maxRecDepth 100000 in
theorem HP.new {W : World} {C : Nat} {T : Tg} {pd : Option Addr} {cd : Nat} {A : List Int} {v : Value} {S : List Int} {w w1 : World} (h : HP W C T pd cd A v S w) {p : Option Addr} {c : Nat} {X : List Int} (g : w.grownBy w1 none) (hR : Rd w1 (w.heap.size ≤ ·) (.slice p X.length c) (X.map tv)) (hc : X.length ≤ c ∧ c ≤ 9223372036854775807) (hn : p = none → c = 0) : RdX W.heap.size w1 v p c X :=
  ⟨(rd_and hR).mono (fun b hb => ⟨Nat.le_trans h.gr.size hb.1, hb.2, fun e => by have := h.lt b e.symm; have := hb.1; omega⟩), hn, hc⟩
/-- The routers that are passed: on shortest paths, over routers that are not capable. -/
def HopC (R : List Rt) (L : List Lk) (D : Int → Int) (x s : Int) : Prop := ∀ P : Int → Prop, P x → (∀ a b, P a → b ∈ stV R L D a → capV R L b = false → P b) → P s
/-- The next capable routers. -/
def HopM (R : List Rt) (L : List Lk) (D : Int → Int) (x y : Int) : Prop := ∃ s, HopC R L D x s ∧ y ∈ stV R L D s ∧ capV R L y = true
def HopsIs (R : List Rt) (L : List Lk) (x z : Int) (M : List Int) : Prop := if hasV R L x = true ∧ hasV R L z = true ∧ x ≠ z then ∀ y, y ∈ M ↔ HopM R L (toK L z R.length) x y else M = []
/-- How far the loops have come. -/
structure HI (R : List Rt) (L : List Lk) (D : Int → Int) (x : Int) (i : Nat) (S M : List Int) : Prop where
  c : ∀ s ∈ S, HopC R L D x s
  m : ∀ y ∈ M, HopM R L D x y
  x0 : x ∈ S
  d : ∀ (j : Nat) (s : Int), j < i → S[j]? = some s → ∀ y ∈ stV R L D s, (capV R L y = true → y ∈ M) ∧ (capV R L y = false → y ∈ S)
structure HJ (R : List Rt) (L : List Lk) (D : Int → Int) (x : Int) (i : Nat) (y0 : Int) (N : List Int) (k : Nat) (S M : List Int) : Prop where
  h : HI R L D x i S M
  s0 : S[i]? = some y0
  e : ∀ (j : Nat) (y : Int), j < k → N[j]? = some y → (capV R L y = true → y ∈ M) ∧ (capV R L y = false → y ∈ S)
section
variable {R : List Rt} {L : List Lk} {D : Int → Int} {x : Int} {i k : Nat} {y0 y : Int} {N S M : List Int}
set_option maxRecDepth 100000 in
theorem HI.start : HI R L D x 0 [x] [] := ⟨fun s hs => by rw [List.mem_singleton.1 hs]; exact fun P h _ => h, fun y hy => (by cases hy), List.mem_singleton.2 rfl, fun j s hj => absurd hj (Nat.not_lt_zero _)⟩
set_option maxRecDepth 100000 in
theorem HI.toJ (h : HI R L D x i S M) (hs : S[i]? = some y0) : HJ R L D x i y0 N 0 S M := ⟨h, hs, fun j y hj => absurd hj (Nat.not_lt_zero _)⟩
set_option maxRecDepth 100000 in
theorem HJ.cap (h : HJ R L D x i y0 N k S M) (hN : stV R L D y0 = N) (hy : N[k]? = some y) (hc : capV R L y = true) {M2 : List Int} (hM : ∀ z, z ∈ M2 ↔ z = y ∨ z ∈ M) : HJ R L D x i y0 N (k + 1) S M2 := by
  refine ⟨⟨h.h.c, fun z hz => ?_, h.h.x0, fun j s hj hs z hz => ⟨fun hc => (hM z).2 (Or.inr ((h.h.d j s hj hs z hz).1 hc)), (h.h.d j s hj hs z hz).2⟩⟩, h.s0, fun j z hj hz => ?_⟩
  · rcases (hM z).1 hz with rfl | hz
    · exact ⟨y0, h.h.c y0 (List.mem_of_getElem? h.s0), by rw [hN]; exact List.mem_of_getElem? hy, hc⟩
    · exact h.h.m z hz
  · rcases Nat.lt_or_ge j k with hlt | hge
    · exact ⟨fun hc => (hM z).2 (Or.inr ((h.e j z hlt hz).1 hc)), (h.e j z hlt hz).2⟩
    · obtain rfl : j = k := by omega
      obtain rfl : y = z := Option.some.inj (hy.symm.trans hz)
      exact ⟨fun _ => (hM y).2 (Or.inl rfl), fun h => (by rw [hc] at h; cases h)⟩
set_option maxRecDepth 100000 in
theorem HJ.has (h : HJ R L D x i y0 N k S M) (hy : N[k]? = some y) (hc : capV R L y = false) (hs : y ∈ S) : HJ R L D x i y0 N (k + 1) S M := by
  refine ⟨h.h, h.s0, fun j z hj hz => ?_⟩
  rcases Nat.lt_or_ge j k with hlt | hge
  · exact h.e j z hlt hz
  · obtain rfl : j = k := by omega
    obtain rfl : y = z := Option.some.inj (hy.symm.trans hz)
    exact ⟨fun h => (by rw [hc] at h; cases h), fun _ => hs⟩
set_option maxRecDepth 100000 in
theorem HJ.push (h : HJ R L D x i y0 N k S M) (hN : stV R L D y0 = N) (hy : N[k]? = some y) (hc : capV R L y = false) (hi : i < S.length) : HJ R L D x i y0 N (k + 1) (S ++ [y]) M := by
  have hil : ∀ j, j ≤ i → (S ++ [y])[j]? = S[j]? := fun j hj => List.getElem?_append_left (by omega)
  refine HJ.has ⟨⟨fun s hs => ?_, h.h.m, List.mem_append_left _ h.h.x0, fun j s hj hs z hz => ?_⟩, by rw [hil i (Nat.le_refl _)]; exact h.s0, fun j z hj hz => ⟨(h.e j z hj hz).1, fun hc => List.mem_append_left _ ((h.e j z hj hz).2 hc)⟩⟩ hy hc (by simp)
  · rcases List.mem_append.1 hs with hs | hs
    · exact h.h.c s hs
    · rw [List.mem_singleton.1 hs]
      exact fun P h0 h1 => h1 y0 y (h.h.c y0 (List.mem_of_getElem? h.s0) P h0 h1) (by rw [hN]; exact List.mem_of_getElem? hy) hc
  · rw [hil j (by omega)] at hs
    exact ⟨(h.h.d j s hj hs z hz).1, fun hc => List.mem_append_left _ ((h.h.d j s hj hs z hz).2 hc)⟩
set_option maxRecDepth 100000 in
theorem HJ.fin (h : HJ R L D x i y0 N k S M) (hN : stV R L D y0 = N) (hk : k = N.length) : HI R L D x (i + 1) S M := by
  refine ⟨h.h.c, h.h.m, h.h.x0, fun j s hj hs z hz => ?_⟩
  rcases Nat.lt_or_ge j i with hlt | hge
  · exact h.h.d j s hlt hs z hz
  · obtain rfl : j = i := by omega
    obtain rfl : y0 = s := Option.some.inj (h.s0.symm.trans hs)
    rw [hN] at hz
    obtain ⟨q, hq, hz⟩ := List.getElem_of_mem hz
    exact h.e q z (by omega) (by rw [List.getElem?_eq_getElem hq, hz])
set_option maxRecDepth 100000 in
theorem HI.fin (h : HI R L D x i S M) (hi : i = S.length) : ∀ y, y ∈ M ↔ HopM R L D x y := by
  refine fun y => ⟨h.m y, fun ⟨s, hc, hs, hy⟩ => ?_⟩
  have hd : ∀ s ∈ S, ∀ y ∈ stV R L D s, (capV R L y = true → y ∈ M) ∧ (capV R L y = false → y ∈ S) := fun s hs => by
    obtain ⟨q, hq, hz⟩ := List.getElem_of_mem hs
    exact h.d q s (by omega) (by rw [List.getElem?_eq_getElem hq, hz])
  exact ((hd s (hc (· ∈ S) h.x0 (fun a b ha hb hcb => (hd a ha b hb).2 hcb))) y hs).1 hy
end
set_option maxRecDepth 100000 in
theorem iv_rowH (w : World) (x : Int) (t : TypeId) : ∀ j u, [Value.int .i64 x][j]? = some u → (w.alloc (.cells #[.int .i64 x] t)).cell? ((⟨w.heap.size, 0, none⟩ : Addr).add j) = some u := by
  intro j u hu
  rw [add_plain]
  have hb := heap_alloc_new w (.cells #[.int .i64 x] t)
  rcases j with _ | j
  · cases hu; exact cell_of_row _ _ _ _ _ _ hb
  · simp at hu
end Go.Proofs.YtahafijpcmphaaaGreat

/- identify: claims and plans, the mathematics. -/
namespace Go.Proofs.YtahafijpcmphaaaGreat
open Go.RowKit Bs
def inV (n a b : Int) : Bool := decide (a ≤ n ∧ n ≤ b)
set_option maxRecDepth 100000 in
theorem any_mem {α : Type} {p : α → Bool} {l : List α} (h : l.any p = false) {x : α} (hx : x ∈ l) : p x = false := by
  cases hp : p x
  · rfl
  · rw [List.any_eq_true.2 ⟨x, hx, hp⟩] at h; cases h
/-- A router and its ID. -/
structure Ed where
  r : Int
  i : Int
def edC (e : Ed) : List Value := [.int .i64 e.r, .int .i64 e.i]
set_option maxRecDepth 100000 in
theorem ed_one (x : Ed) : ∀ u ∈ edC x, u.oneCell' = true := by
  intro u hu
  simp [edC] at hu
  rcases hu with rfl | rfl <;> rfl
def wrE (e : Ed) : Bool := !(inV e.r 1 99 && inV e.i 1 256)
def ltE (x y : Ed) : Bool := decide (x.i < y.i)
def repI (r : List Int) : Bool := (List.range r.length).any fun i => (r.take i).contains (r.getD i 0)
/-- Is a plan valid? -/
def vPl (sub len : Int) (E : List Ed) : Bool :=
  inV sub 0 7 && (vl len || (decide (len = 0) && decide (E.length = 0))) && decide (E.length ≤ 24) && !E.any wrE && ascB ltE E && !repI (E.map Ed.r)
set_option maxRecDepth 100000 in
theorem pair_ascE : ∀ E : List Ed, E.Pairwise (fun x y => x.i < y.i) → ascB ltE E = true
  | [], _ => rfl
  | [a], _ => rfl
  | a :: b :: t, h => by
    have h1 := List.pairwise_cons.1 h
    rw [ascB, pair_ascE (b :: t) h1.2, Bool.and_true]
    exact decide_eq_true (h1.1 b (List.mem_cons_self ..))
end Go.Proofs.YtahafijpcmphaaaGreat

/- identify: arrays by value, count. -/
namespace Go.Proofs.YtahafijpcmphaaaGreat
open Go.RowKit Bs
/-- The cells of an array. -/
def arrV (n : Nat) (f : Nat → Value) : Array Value := ((List.range n).map f).toArray
set_option maxRecDepth 100000 in
theorem arr_at {n k : Nat} (f : Nat → Value) (h : k < n) : (arrV n f)[k]? = some (f k) := by
  unfold arrV
  simp [h]
set_option maxRecDepth 100000 in
theorem arr_set {n k : Nat} (f : Nat → Value) (v : Value) (h : k < n) : (arrV n f).setIfInBounds k v = arrV n (fun j => if j = k then v else f j) := by
  apply Array.ext'
  unfold arrV
  simp only [List.setIfInBounds_toArray]
  apply List.ext_getElem?
  intro j
  rw [List.getElem?_set]
  simp only [List.length_map, List.length_range, List.getElem?_map, List.getElem?_range]
  by_cases hj : k = j
  · subst hj
    simp [h]
  · by_cases hn : j < n
    · simp [hj, hn, List.getElem?_range, Ne.symm hj, fun e : j = k => hj e.symm]
    · simp [hj, hn]
set_option maxRecDepth 100000 in
theorem arr_congr {n : Nat} {f g : Nat → Value} (h : ∀ k, k < n → f k = g k) : arrV n f = arrV n g := by
  unfold arrV
  congr 1
  exact List.map_congr_left (fun k hk => h k (List.mem_range.1 hk))
def bvN (f : Nat → Bool) (k : Nat) : Value := .bool (f k)
set_option maxRecDepth 100000 in
theorem arr_row {w : World} {b n k : Nat} {f : Nat → Value} {t : TypeId} (h : w.heap[b]? = some (.cells (arrV n f) t (0, 0))) (hk : k < n) : w.cell? ⟨b, k, none⟩ = some (f k) := by
  rw [cell_of_row _ _ _ _ _ _ h]; exact arr_at f hk
set_option maxRecDepth 100000 in
theorem arr_put {w : World} {b n k : Nat} {f : Nat → Value} {t : TypeId} (v : Value) (h : w.heap[b]? = some (.cells (arrV n f) t (0, 0))) (hk : k < n) :
    (w.setCell ⟨b, k, none⟩ v).heap[b]? = some (.cells (arrV n (fun j => if j = k then v else f j)) t (0, 0)) ∧ w.grownBy (w.setCell ⟨b, k, none⟩ v) (some b) := by
  have h1 := heap_setCell_same w b k _ _ v h
  rw [arr_set f v hk] at h1
  exact ⟨h1, grown_setCell w ⟨b, k, none⟩ v⟩
set_option maxRecDepth 100000 in
theorem ed_cells {w : World} {q : Nat → Prop} {p : Option Addr} {n c : Nat} {l : List Ed} (h : RdF w q (.slice p n c) l.length (l.flatMap edC)) (hn : 0 < l.length) :
    n = l.length ∧ ∃ b off, p = some ⟨b, off, none⟩ ∧ q b ∧ ∀ i x, l[i]? = some x → w.cell? ⟨b, off + i * 2, none⟩ = some (.int .i64 x.r) ∧ w.cell? ⟨b, off + i * 2 + 1, none⟩ = some (.int .i64 x.i) := by
  obtain ⟨h0, b, off, hp, hq, hc⟩ := RdF.cells (f := edC) (k := 2) (fun _ => rfl) (by decide) h hn
  exact ⟨h0, b, off, hp, hq, fun i x hi => ⟨hc i x hi 0 _ rfl, hc i x hi 1 _ rfl⟩⟩
end Go.Proofs.YtahafijpcmphaaaGreat

/- identify: the leaves, of the program and of the reference. -/
namespace Go.Proofs.YtahafijpcmphaaaGreat
open Go.RowKit Bs
set_option maxRecDepth 100000 in
theorem ivr_lit (n : Int) (b : Bool) (h : inV n 1 99 = b) (w : World) :
    Calls Tryz.prog 167 #[.int .i64 n] w fun e w' => e = .returned (.bool b) ∧ w = w' := by
  subst h
  unfold inV
  go_enter Tryz.func167, Tryz.ntmps167
  by_cases h1 : (1 : Int) ≤ n
  · by_cases h2 : n ≤ (99 : Int)
    · rw [decide_eq_true (show 1 ≤ n ∧ n ≤ 99 from ⟨h1, h2⟩)]
      go_wp2_with fail
      go_ret
      exact ⟨rfl, rfl⟩
    · rw [decide_eq_false (show ¬ (1 ≤ n ∧ n ≤ 99) from fun h => h2 h.2)]
      go_wp2_with fail
      go_ret
      exact ⟨rfl, rfl⟩
  · rw [decide_eq_false (show ¬ (1 ≤ n ∧ n ≤ 99) from fun h => h1 h.1)]
    go_wp2_with fail
    go_ret
    exact ⟨rfl, rfl⟩
set_option maxRecDepth 100000 in
theorem ivs_lit (n : Int) (b : Bool) (h : inV n 0 7 = b) (w : World) :
    Calls Tryz.prog 145 #[.int .i64 n] w fun e w' => e = .returned (.bool b) ∧ w = w' := by
  subst h
  unfold inV
  go_enter Tryz.func145, Tryz.ntmps145
  by_cases h1 : (0 : Int) ≤ n
  · by_cases h2 : n ≤ (7 : Int)
    · rw [decide_eq_true (show 0 ≤ n ∧ n ≤ 7 from ⟨h1, h2⟩)]
      go_wp2_with fail
      go_ret
      exact ⟨rfl, rfl⟩
    · rw [decide_eq_false (show ¬ (0 ≤ n ∧ n ≤ 7) from fun h => h2 h.2)]
      go_wp2_with fail
      go_ret
      exact ⟨rfl, rfl⟩
  · rw [decide_eq_false (show ¬ (0 ≤ n ∧ n ≤ 7) from fun h => h1 h.1)]
    go_wp2_with fail
    go_ret
    exact ⟨rfl, rfl⟩
set_option maxRecDepth 100000 in
theorem ivi_lit (n : Int) (b : Bool) (h : inV n 1 256 = b) (w : World) :
    Calls Tryz.prog 154 #[.int .i64 n] w fun e w' => e = .returned (.bool b) ∧ w = w' := by
  subst h
  unfold inV
  go_enter Tryz.func154, Tryz.ntmps154
  by_cases h1 : (1 : Int) ≤ n
  · by_cases h2 : n ≤ (256 : Int)
    · rw [decide_eq_true (show 1 ≤ n ∧ n ≤ 256 from ⟨h1, h2⟩)]
      go_wp2_with fail
      go_ret
      exact ⟨rfl, rfl⟩
    · rw [decide_eq_false (show ¬ (1 ≤ n ∧ n ≤ 256) from fun h => h2 h.2)]
      go_wp2_with fail
      go_ret
      exact ⟨rfl, rfl⟩
  · rw [decide_eq_false (show ¬ (1 ≤ n ∧ n ≤ 256) from fun h => h1 h.1)]
    go_wp2_with fail
    go_ret
    exact ⟨rfl, rfl⟩
set_option maxRecDepth 100000 in
theorem vlp_lit (n : Int) (b : Bool) (h : vl n = b) (w : World) :
    Calls Tryz.prog 146 #[.int .i64 n] w fun e w' => e = .returned (.bool b) ∧ w = w' := by
  rw [← h]; exact vlp_any n w
set_option maxRecDepth 100000 in
set_option maxHeartbeats 1600000 in
theorem iwre_any (x : Ed) (w : World) :
    Calls Tryz.prog 148 #[.agg #[.int .i64 x.r, .int .i64 x.i]] w fun e w' => e = .returned (.bool (wrE x)) ∧ w.grownBy w' none := by
  obtain ⟨k1, k2⟩ := tone_box w #[.int .i64 x.r, .int .i64 x.i] 71
  obtain ⟨c0, c1⟩ := row_cells k1
  have K := Lib.hid k2
  clear k1 k2
  go_enter Tryz.func148, Tryz.ntmps148
  go_upto_region 1 with fail
  generalize w.alloc _ = wa at *
  have HW : Hid (wrE x = !(inV x.r 1 99 && inV x.i 1 256)) := Lib.hid rfl
  obtain ⟨b1, h1⟩ : ∃ b, inV x.r 1 99 = b := ⟨_, rfl⟩
  obtain ⟨b2, h2⟩ : ∃ b, inV x.i 1 256 = b := ⟨_, rfl⟩
  rw [h1, h2] at HW
  have H1 := Lib.hid h1
  have H2 := Lib.hid h2
  clear h1 h2
  cases b1
  case false =>
    go_wp2_with (go_at_call 167; refine (ivr_lit _ _ H1.out _).mono ?_; rintro e w' ⟨rfl, rfl⟩)
    go_ret
    exact ⟨by rw [HW.out]; rfl, K.out⟩
  go_wp2_with (first | (go_at_call 167; refine (ivr_lit _ _ H1.out _).mono ?_; rintro e w' ⟨rfl, rfl⟩) | (go_at_call 154; refine (ivi_lit _ _ H2.out _).mono ?_; rintro e w' ⟨rfl, rfl⟩))
  go_ret
  exact ⟨by rw [HW.out]; rfl, K.out⟩
set_option maxRecDepth 100000 in
set_option maxHeartbeats 1600000 in
theorem icmpe_any (r s : Ed) (w : World) :
    Calls Tryz.prog 150 #[.agg #[.int .i64 r.r, .int .i64 r.i], .agg #[.int .i64 s.r, .int .i64 s.i]] w fun e w' => e = .returned (.int .i64 (cmpV r.i s.i)) ∧ w' = (w.alloc (.cells #[.int .i64 r.r, .int .i64 r.i] 71)).alloc (.cells #[.int .i64 s.r, .int .i64 s.i] 71) := by
  obtain ⟨k1, k2, k3, k4⟩ := two_boxes w #[.int .i64 r.r, .int .i64 r.i] #[.int .i64 s.r, .int .i64 s.i] 71 71
  obtain ⟨c0, c1⟩ := row_cells k1
  obtain ⟨d0, d1⟩ := row_cells k2
  clear k1 k2 k3 k4
  go_enter Tryz.func150, Tryz.ntmps150
  go_wp2_with (go_at_call 155; refine (tcmp_any _ _ _).mono ?_; rintro e w' ⟨rfl, rfl⟩)
  go_ret
  exact ⟨rfl, rfl⟩
end Go.Proofs.YtahafijpcmphaaaGreat

/- identify: Place and At, of the program and of the reference. -/
namespace Go.Proofs.YtahafijpcmphaaaGreat
open Go.RowKit Bs
/-- The set and the bit of an ID. -/
def plOk (id len : Int) : Bool := vl len && inV id 1 256
def plS (id len : Int) : Int := if plOk id len = true then (id - 1).tdiv len else 0
def plB (id len : Int) : Int := if plOk id len = true then (id - 1) % len else 0
set_option maxRecDepth 100000 in
theorem pl_fields {id len : Int} (h : plOk id len = true) : (len = 8 ∨ len = 16 ∨ len = 32 ∨ len = 64) ∧ 1 ≤ id ∧ id ≤ 256 := by
  unfold plOk inV at h
  rw [Bool.and_eq_true, decide_eq_true_eq] at h
  exact ⟨vl_cases h.1, h.2⟩
set_option maxRecDepth 100000 in
set_option maxHeartbeats 3200000 in
theorem iplc_any (id len : Int) (w : World) :
    Calls Tryz.prog 121 #[.int .i64 id, .int .i64 len] w fun e w' => e = .returned (.tuple #[.int .i64 (plS id len), .int .i64 (plB id len), .bool (plOk id len)]) ∧ w.grownBy w' none := by
  obtain ⟨b1, h1⟩ : ∃ b, vl len = b := ⟨_, rfl⟩
  obtain ⟨b2, h2⟩ : ∃ b, inV id 1 256 = b := ⟨_, rfl⟩
  have HO : Hid (plOk id len = (b1 && b2)) := Lib.hid (by unfold plOk; rw [h1, h2])
  have HL := Lib.hid h1
  have HI := Lib.hid h2
  clear h1 h2
  go_enter Tryz.func121, Tryz.ntmps121
  cases b1
  case false =>
    go_wp2_with (go_at_call 146; refine (vlp_lit _ _ HL.out _).mono ?_; rintro e w' ⟨rfl, rfl⟩)
    go_ret3
    have h0 : plOk id len = false := HO.out
    exact ⟨by unfold plS plB; rw [h0]; rfl, grown_refl _ _⟩
  cases b2
  case false =>
    go_wp2_with (first | (go_at_call 146; refine (vlp_lit _ _ HL.out _).mono ?_; rintro e w' ⟨rfl, rfl⟩) | (go_at_call 154; refine (ivi_lit _ _ HI.out _).mono ?_; rintro e w' ⟨rfl, rfl⟩))
    go_ret3
    have h0 : plOk id len = false := HO.out
    exact ⟨by unfold plS plB; rw [h0]; rfl, grown_refl _ _⟩
  have h0 : plOk id len = true := HO.out
  obtain ⟨hl, hi1, hi2⟩ := pl_fields h0
  have hS : plS id len = (id - 1).tdiv len := by unfold plS; rw [if_pos h0]
  have hB : plB id len = (id - 1) % len := by unfold plB; rw [if_pos h0]
  rw [h0, hS, hB]
  clear hS hB h0
  obtain ⟨m, rfl⟩ : ∃ m : Int, id = m + 1 := ⟨id - 1, by omega⟩
  rw [show m + 1 - 1 = m by omega]
  have e1 : m + 1 - 1 = m := by omega
  have e2 : IntKind.i64.wrap (m + 1 - 1) = m := by rw [e1, IntWalk.i64_in _ (by omega)]
  have e3 : IntKind.i64.wrap m = m := IntWalk.i64_in _ (by omega)
  have hm0 : 0 ≤ m := by omega
  have hm1 : m ≤ 255 := by omega
  have d0 : IntKind.i64.wrap (m.tdiv len) = m.tdiv len := IntWalk.i64_in _ (by
    rw [Int.tdiv_eq_ediv_of_nonneg hm0]
    rcases hl with rfl | rfl | rfl | rfl <;> omega)
  have d1 : IntKind.i64.wrap (m % len) = m % len := IntWalk.i64_in _ (by
    rcases hl with rfl | rfl | rfl | rfl <;> omega)
  have hn0 : (len == 0) = false := by rcases hl with rfl | rfl | rfl | rfl <;> rfl
  have hn1 : ¬ len = 0 := by rcases hl with rfl | rfl | rfl | rfl <;> decide
  clear hi1 hi2 hl
  go_wp2_with (first | (go_at_call 146; refine (vlp_lit _ _ HL.out _).mono ?_; rintro e w' ⟨rfl, rfl⟩) | (go_at_call 154; refine (ivi_lit _ _ HI.out _).mono ?_; rintro e w' ⟨rfl, rfl⟩))
  go_region
  all_goals
    go_wp2_with fail
    go_ret3
    exact ⟨rfl, grown_drew (grown_refl _ _)⟩
end Go.Proofs.YtahafijpcmphaaaGreat

/- Tables: the mathematics, and how they lie in memory. -/
namespace Go.Proofs.YtahafijpcmphaaaGreat
open Go.RowKit Bs
/-- A row: its ID, its next hops, and where they lie. -/
structure Rw where
  id : Int
  nx : List Int
  p : Option Addr
  c : Nat
def rwC (x : Rw) : List Value := [.int .i64 x.id, .slice x.p x.nx.length x.c]
set_option maxRecDepth 100000 in
theorem rw_one (x : Rw) : ∀ u ∈ rwC x, u.oneCell' = true := by
  intro u hu
  simp [rwC] at hu
  rcases hu with rfl | rfl <;> rfl
/-- The next hops of a row can be read. -/
structure RwOk (w : World) (q : Nat → Prop) (x : Rw) : Prop where
  rd : Rd w q (.slice x.p x.nx.length x.c) (x.nx.map tv)
  hc : x.nx.length ≤ x.c ∧ x.c ≤ 9223372036854775807
set_option maxRecDepth 100000 in
theorem RwOk.grown {w w1 : World} {q : Nat → Prop} {r : Option Nat} {x : Rw} (h : RwOk w q x) (g : w.grownBy w1 r) (hq : ∀ b, q b → some b ≠ r) : RwOk w1 q x := ⟨h.rd.grown g hq, h.hc⟩
set_option maxRecDepth 100000 in
theorem RwOk.keep {w w1 : World} {q : Nat → Prop} {x : Rw} (h : RwOk w q x) (g : w.grownBy w1 none) : RwOk w1 q x := h.grown g (fun _ _ => by simp)
set_option maxRecDepth 100000 in
theorem RwOk.mono {w : World} {q q' : Nat → Prop} {x : Rw} (h : RwOk w q x) (hq : ∀ b, q b → q' b) : RwOk w q' x := ⟨h.rd.mono hq, h.hc⟩
/-- Rows in memory. -/
structure RdW (w : World) (q : Nat → Prop) (p : Option Addr) (c : Nat) (L : List Rw) : Prop where
  rd : RdF w q (.slice p L.length c) L.length (L.flatMap rwC)
  ok : ∀ x ∈ L, RwOk w q x
set_option maxRecDepth 100000 in
theorem RdW.grown {w w1 : World} {q : Nat → Prop} {r : Option Nat} {p : Option Addr} {c : Nat} {L : List Rw} (h : RdW w q p c L) (g : w.grownBy w1 r) (hq : ∀ b, q b → some b ≠ r) : RdW w1 q p c L := ⟨h.rd.grown g hq, fun x hx => (h.ok x hx).grown g hq⟩
set_option maxRecDepth 100000 in
theorem RdW.keep {w w1 : World} {q : Nat → Prop} {p : Option Addr} {c : Nat} {L : List Rw} (h : RdW w q p c L) (g : w.grownBy w1 none) : RdW w1 q p c L := h.grown g (fun _ _ => by simp)
set_option maxRecDepth 100000 in
theorem RdW.mono {w : World} {q q' : Nat → Prop} {p : Option Addr} {c : Nat} {L : List Rw} (h : RdW w q p c L) (hq : ∀ b, q b → q' b) : RdW w q' p c L := ⟨h.rd.mono hq, fun x hx => (h.ok x hx).mono hq⟩
set_option maxRecDepth 100000 in
theorem rw_cells {w : World} {q : Nat → Prop} {p : Option Addr} {n c : Nat} {L : List Rw} (h : RdF w q (.slice p n c) L.length (L.flatMap rwC)) (hn : 0 < L.length) :
    n = L.length ∧ ∃ b off, p = some ⟨b, off, none⟩ ∧ q b ∧ ∀ i x, L[i]? = some x → w.cell? ⟨b, off + i * 2, none⟩ = some (.int .i64 x.id) ∧ w.cell? ⟨b, off + i * 2 + 1, none⟩ = some (.slice x.p x.nx.length x.c) := by
  obtain ⟨h0, b, off, hp, hq, hc⟩ := RdF.cells (f := rwC) (k := 2) (fun _ => rfl) (by decide) h hn
  exact ⟨h0, b, off, hp, hq, fun i x hi => ⟨hc i x hi 0 _ rfl, hc i x hi 1 _ rfl⟩⟩
def ltI (x y : Int) : Bool := decide (x < y)
def wrW (x : Rw) : Bool := !inV x.id 1 256 || x.nx.any fun z => !inV z 1 99
def lgW (x : Rw) : Bool := decide (24 < x.nx.length)
def ltW (x y : Rw) : Bool := decide (x.id < y.id)
def dsW (x : Rw) : Bool := !ascB ltI x.nx
def cfW (r : Int) (x : Rw) : Bool := decide (1 < x.nx.length) && x.nx.any fun z => decide (z = r)
def hdT (r s n : Int) (L : List Rw) : Bool := !(inV r 1 99 && inV s 0 7 && (vl n || (decide (n = 0) && decide (L.length = 0))))
/-- What Check returns. -/
def ckT (r s n : Int) (L : List Rw) : Int :=
  if hdT r s n L = true then 2 else if L.any wrW = true then 2 else if 256 < L.length then 3 else if L.any lgW = true then 3 else if ascB ltW L = false then 25 else if L.any dsW = true then 25 else if L.any (cfW r) = true then 8 else 0
set_option maxRecDepth 100000 in
theorem tvT_at {w : World} {q : Nat → Prop} {p : Option Addr} {n c i : Nat} {x : Int} {X : List Int} (h : Rd w q (.slice p n c) (X.map tv)) (hi : X[i]? = some x) :
    n = X.length ∧ ∃ b off, p = some ⟨b, off, none⟩ ∧ q b ∧ ∀ j y, X[j]? = some y → w.cell? ⟨b, off + j, none⟩ = some (.int .i64 y) := by
  obtain ⟨p1, c1, e1, hx⟩ := h
  injection e1 with a1 a2 a3
  subst a1
  have hne : X.map tv ≠ [] := by
    intro e
    have := List.map_eq_nil_iff.1 e
    subst this
    simp at hi
  obtain ⟨b, off, hp, hq, hc⟩ := hx hne
  exact ⟨by rw [a2, List.length_map], b, off, hp, hq, fun j y hj => hc j (tv y) (by rw [List.getElem?_map, hj]; rfl)⟩
end Go.Proofs.YtahafijpcmphaaaGreat

/- table: ContainsFunc, Contains, ascending at rows and at numbers. -/
namespace Go.Proofs.YtahafijpcmphaaaGreat
open Go.RowKit Bs
set_option maxRecDepth 100000 in
theorem tdis1_any (x : Int) (w : World) : Calls Tryz.prog 100 #[.int .i64 x] w fun e w' => e = .returned (.int .i64 x) ∧ w = w' := by
  go_enter Tryz.func100, Tryz.ntmps100
  go_wp2_with fail
  go_ret
  exact ⟨rfl, rfl⟩
set_option maxRecDepth 100000 in
theorem trid_any (x : Rw) (w : World) : Calls Tryz.prog 52 #[.agg #[.int .i64 x.id, .slice x.p x.nx.length x.c]] w fun e w' => e = .returned (.int .i64 x.id) ∧ w.grownBy w' none := by
  obtain ⟨k1, k2⟩ := tone_box w #[.int .i64 x.id, .slice x.p x.nx.length x.c] 36
  have HB := Lib.hid (And.intro k1 k2)
  clear k1 k2
  go_enter Tryz.func52, Tryz.ntmps52
  go_upto_region 1 with fail
  generalize w.alloc _ = w1 at *
  have c0 : w1.cell? ⟨w.heap.size, 0, none⟩ = some (.int .i64 x.id) := cell_of_row _ _ _ _ _ _ HB.out.1
  go_wp2_with fail
  go_ret
  exact ⟨rfl, HB.out.2⟩
set_option maxRecDepth 100000 in
theorem keepTW {wr w' : World} {b i j : Nat} {x y : Rw} (h : wr.cell? ⟨b, i, none⟩ = some (.int .i64 x.id) ∧ wr.cell? ⟨b, i + 1, none⟩ = some (.slice x.p x.nx.length x.c) ∧ wr.cell? ⟨b, j, none⟩ = some (.int .i64 y.id) ∧ wr.cell? ⟨b, j + 1, none⟩ = some (.slice y.p y.nx.length y.c)) (hg : Hid (wr.grownBy w' none)) : w'.cell? ⟨b, i, none⟩ = some (.int .i64 x.id) ∧ w'.cell? ⟨b, i + 1, none⟩ = some (.slice x.p x.nx.length x.c) ∧ w'.cell? ⟨b, j, none⟩ = some (.int .i64 y.id) ∧ w'.cell? ⟨b, j + 1, none⟩ = some (.slice y.p y.nx.length y.c) ∧ Hid (wr.grownBy w' none) := by
  obtain ⟨h0, h1, h2, h3⟩ := h
  exact ⟨hg.out.cell h0 (by simp), hg.out.cell h1 (by simp), hg.out.cell h2 (by simp), hg.out.cell h3 (by simp), hg⟩
set_option maxRecDepth 100000 in
set_option maxHeartbeats 1600000 in
theorem tidxI_any (g : Nat) (lb : Array Value) (P : Int → Bool) (eg : EnterF g) (R : List Int) (p : Option Addr) (c : Nat) (q : Nat → Prop) (w : World) (hR : Rd w q (.slice p R.length c) (R.map tv)) (hm : R.length ≤ 9223372036854775807)
    (hP : ∀ (r : Int) (w' : World), w.grownBy w' none → Calls Tryz.prog g (#[.int .i64 r] ++ lb) w' fun e w2 => e = .returned (.bool (P r)) ∧ w'.grownBy w2 none) :
    Calls Tryz.prog 122 #[.slice p R.length c, .func (.func g) #[] lb] w fun e w' => ∃ i : Int, e = .returned (.int .i64 i) ∧ decide (0 ≤ i) = R.any P ∧ w.grownBy w' none := by
  have HR := Lib.hid hR
  have HP := Lib.hid hP
  clear hR hP
  go_enter Tryz.func122, Tryz.ntmps122
  go_wp2_with fail
  go_loopw [8] (fun a wr => ∃ k : Nat, k ≤ R.length ∧ a = .int .i64 (k : Int) ∧ Hid (w.grownBy wr none) ∧ Hid ((R.take k).any P = false)) (fun a _ => R.length - (RowKit.intOf a).toNat)
  case atStart => exact ⟨0, Nat.zero_le _, rfl, Lib.hid (grown_refl _ _), Lib.hid rfl⟩
  case round =>
    obtain ⟨k, hk, rfl, G, HN⟩ := hrel
    by_cases hlt : k < R.length
    · obtain ⟨x, hx⟩ : ∃ x, R[k]? = some x := ⟨_, List.getElem?_eq_getElem hlt⟩
      obtain ⟨-, b, off, rfl, hq, hc⟩ := tvT_at (HR.out.keep G.out) hx
      have a0 := hc k x hx
      have HX := Lib.hid hx
      clear hc hx
      have hcall := HP.out x wr G.out
      cases hp : P x
      · rw [hp] at hcall
        have HY := Lib.hid hp
        clear hp
        go_wp2_with (go_at_fn g; refine hcall.mono ?_; rintro e w' ⟨rfl, hg⟩; have HG := Lib.hid (grown_trans G.out hg); clear hg)
        exact ⟨⟨k + 1, by omega, congrArg _ (by omega), HG, Lib.hid (any_take HN.out HX.out HY.out)⟩, by simp only [RowKit.intOf]; omega⟩
      · rw [hp] at hcall
        have HY := Lib.hid hp
        clear hp
        go_wp2_with (go_at_fn g; refine hcall.mono ?_; rintro e w' ⟨rfl, hg⟩; have HG := Lib.hid (grown_trans G.out hg); clear hg)
        go_ret
        refine ⟨_, rfl, ?_, HG.out⟩
        rw [any_at HX.out HY.out, decide_eq_true_eq]; omega
    · obtain rfl : k = R.length := by omega
      go_wp2_with fail
      go_ret
      refine ⟨_, rfl, ?_, G.out⟩
      rw [any_end HN.out (Nat.le_refl _)]; decide
set_option maxRecDepth 100000 in
set_option maxHeartbeats 1600000 in
theorem tcontI_any (g : Nat) (lb : Array Value) (P : Int → Bool) (eg : EnterF g) (R : List Int) (p : Option Addr) (c : Nat) (q : Nat → Prop) (w : World) (hR : Rd w q (.slice p R.length c) (R.map tv)) (hm : R.length ≤ 9223372036854775807)
    (hP : ∀ (r : Int) (w' : World), w.grownBy w' none → Calls Tryz.prog g (#[.int .i64 r] ++ lb) w' fun e w2 => e = .returned (.bool (P r)) ∧ w'.grownBy w2 none) :
    Calls Tryz.prog 97 #[.slice p R.length c, .func (.func g) #[] lb] w fun e w' => e = .returned (.bool (R.any P)) ∧ w.grownBy w' none := by
  have HR := Lib.hid hR
  have HP := Lib.hid hP
  clear hR hP
  go_enter Tryz.func97, Tryz.ntmps97
  go_wp2_with (go_at_call 122; refine (tidxI_any g lb P eg R p c q w HR.out hm HP.out).mono ?_; rintro e w' ⟨i, rfl, hi, hg⟩; have HI := Lib.hid (And.intro hi hg); clear hi hg)
  go_ret
  rw [← HI.out.1]
  exact ⟨rfl, HI.out.2⟩
set_option maxRecDepth 100000 in
set_option maxHeartbeats 1600000 in
theorem tidxW_any (g : Nat) (lb : Array Value) (P : Rw → Bool) (eg : EnterF g) (R : List Rw) (p : Option Addr) (c : Nat) (q : Nat → Prop) (w : World) (hR : RdF w q (.slice p R.length c) R.length (R.flatMap rwC)) (hm : R.length ≤ 9223372036854775807)
    (hP : ∀ (r : Rw) (w' : World), r ∈ R → w.grownBy w' none → Calls Tryz.prog g (#[.agg #[.int .i64 r.id, .slice r.p r.nx.length r.c]] ++ lb) w' fun e w2 => e = .returned (.bool (P r)) ∧ w'.grownBy w2 none) :
    Calls Tryz.prog 61 #[.slice p R.length c, .func (.func g) #[] lb] w fun e w' => ∃ i : Int, e = .returned (.int .i64 i) ∧ decide (0 ≤ i) = R.any P ∧ w.grownBy w' none := by
  have HR := Lib.hid hR
  have HP := Lib.hid hP
  clear hR hP
  go_enter Tryz.func61, Tryz.ntmps61
  go_wp2_with fail
  go_loopw [8] (fun a wr => ∃ k : Nat, k ≤ R.length ∧ a = .int .i64 (k : Int) ∧ Hid (w.grownBy wr none) ∧ Hid ((R.take k).any P = false)) (fun a _ => R.length - (RowKit.intOf a).toNat)
  case atStart => exact ⟨0, Nat.zero_le _, rfl, Lib.hid (grown_refl _ _), Lib.hid rfl⟩
  case round =>
    obtain ⟨k, hk, rfl, G, HN⟩ := hrel
    by_cases hlt : k < R.length
    · obtain ⟨x, hx⟩ : ∃ x, R[k]? = some x := ⟨_, List.getElem?_eq_getElem hlt⟩
      obtain ⟨-, b, off, rfl, hq, hc⟩ := rw_cells (HR.out.keep G.out) (by omega)
      obtain ⟨a0, a1⟩ := hc k x hx
      have HX := Lib.hid hx
      clear hc hx
      have hcall := HP.out x wr (List.mem_of_getElem? HX.out) G.out
      cases hp : P x
      · rw [hp] at hcall
        have HY := Lib.hid hp
        clear hp
        go_wp2_with (go_at_fn g; refine hcall.mono ?_; rintro e w' ⟨rfl, hg⟩; have HG := Lib.hid (grown_trans G.out hg); clear hg)
        exact ⟨⟨k + 1, by omega, congrArg _ (by omega), HG, Lib.hid (any_take HN.out HX.out HY.out)⟩, by simp only [RowKit.intOf]; omega⟩
      · rw [hp] at hcall
        have HY := Lib.hid hp
        clear hp
        go_wp2_with (go_at_fn g; refine hcall.mono ?_; rintro e w' ⟨rfl, hg⟩; have HG := Lib.hid (grown_trans G.out hg); clear hg)
        go_ret
        refine ⟨_, rfl, ?_, HG.out⟩
        rw [any_at HX.out HY.out, decide_eq_true_eq]; omega
    · obtain rfl : k = R.length := by omega
      go_wp2_with fail
      go_ret
      refine ⟨_, rfl, ?_, G.out⟩
      rw [any_end HN.out (Nat.le_refl _)]; decide
set_option maxRecDepth 100000 in
set_option maxHeartbeats 1600000 in
theorem tcontW_any (g : Nat) (lb : Array Value) (P : Rw → Bool) (eg : EnterF g) (R : List Rw) (p : Option Addr) (c : Nat) (q : Nat → Prop) (w : World) (hR : RdF w q (.slice p R.length c) R.length (R.flatMap rwC)) (hm : R.length ≤ 9223372036854775807)
    (hP : ∀ (r : Rw) (w' : World), r ∈ R → w.grownBy w' none → Calls Tryz.prog g (#[.agg #[.int .i64 r.id, .slice r.p r.nx.length r.c]] ++ lb) w' fun e w2 => e = .returned (.bool (P r)) ∧ w'.grownBy w2 none) :
    Calls Tryz.prog 48 #[.slice p R.length c, .func (.func g) #[] lb] w fun e w' => e = .returned (.bool (R.any P)) ∧ w.grownBy w' none := by
  have HR := Lib.hid hR
  have HP := Lib.hid hP
  clear hR hP
  go_enter Tryz.func48, Tryz.ntmps48
  go_wp2_with (go_at_call 61; refine (tidxW_any g lb P eg R p c q w HR.out hm HP.out).mono ?_; rintro e w' ⟨i, rfl, hi, hg⟩; have HI := Lib.hid (And.intro hi hg); clear hi hg)
  go_ret
  rw [← HI.out.1]
  exact ⟨rfl, HI.out.2⟩
set_option maxRecDepth 100000 in
theorem ascJ_end {R : List Int} (h : ∀ i x y, i + 1 < R.length → R[i]? = some x → R[i + 1]? = some y → ltI x y = true) : ascB ltI R = true :=
  (ascB_iff _ _).2 fun i x y hx hy => h i x y ((List.getElem?_eq_some_iff.1 hy).1) hx hy
set_option maxRecDepth 100000 in
theorem ascJ_hit {R : List Int} {i : Nat} {x y : Int} (hx : R[i]? = some x) (hy : R[i + 1]? = some y) (h : ltI x y = false) : ascB ltI R = false := by
  rw [Bool.eq_false_iff]
  intro h2
  have := (ascB_iff _ _).1 h2 i x y hx hy
  rw [h] at this; cases this
set_option maxRecDepth 100000 in
set_option maxHeartbeats 3200000 in
theorem tascI_any (R : List Int) (p : Option Addr) (c : Nat) (q : Nat → Prop) (w : World) (hR : Rd w q (.slice p R.length c) (R.map tv)) (hm : R.length ≤ 9223372036854775807) :
    Calls Tryz.prog 99 #[.slice p R.length c, .func (.func 100) #[] #[]] w fun e w' => e = .returned (.bool (ascB ltI R)) ∧ w.grownBy w' none := by
  have eg : EnterF 100 := enters_of Tryz.func100 (by kernel_rfl) rfl
  have HR := Lib.hid hR
  clear hR
  go_enter Tryz.func99, Tryz.ntmps99
  go_wp2_with fail
  go_loopw [5] (fun a wr => ∃ k : Nat, 1 ≤ k ∧ (k ≤ R.length ∨ k = 1) ∧ a = .int .i64 (k : Int) ∧ Hid (w.grownBy wr none) ∧ Hid (∀ i x y, i + 1 < k → R[i]? = some x → R[i + 1]? = some y → ltI x y = true)) (fun a _ => R.length - (RowKit.intOf a).toNat)
  case atStart => exact ⟨1, by omega, Or.inr rfl, rfl, Lib.hid (grown_refl _ _), Lib.hid (fun i x y h => by omega)⟩
  case round =>
    obtain ⟨k, hk1, hk, rfl, G, HN⟩ := hrel
    by_cases hlt : k < R.length
    · obtain ⟨j, rfl⟩ : ∃ j, k = j + 1 := ⟨k - 1, by omega⟩
      obtain ⟨x, hx⟩ : ∃ x, R[j]? = some x := ⟨_, List.getElem?_eq_getElem (by omega)⟩
      obtain ⟨y, hy⟩ : ∃ y, R[j + 1]? = some y := ⟨_, List.getElem?_eq_getElem hlt⟩
      obtain ⟨-, b, off, rfl, hq, hc⟩ := tvT_at (HR.out.keep G.out) hx
      have a0 := hc j x hx
      have b0 := hc (j + 1) y hy
      have HXY := Lib.hid (And.intro hx hy)
      have ew1 : ((j : Int) + 1 - 1) = (j : Int) := by omega
      have ew2 : IntKind.i64.wrap ((j : Int) + 1 - 1) = (j : Int) := by rw [ew1, IntWalk.i64_in _ (by omega)]
      have ew3 : IntKind.i64.wrap (j : Int) = (j : Int) := IntWalk.i64_in _ (by omega)
      have j0 : (0 : Int) ≤ (j : Int) := by omega
      have j1 : (0 : Int) ≤ (j : Int) + 1 := by omega
      have j2 : (j : Int) < (R.length : Int) := by omega
      have j3 : (j : Int) + 1 < (R.length : Int) := by omega
      have j4 : ((j : Int) + 1).toNat = j + 1 := by omega
      clear hc hx hy
      have hcast : ((j + 1 : Nat) : Int) = (j : Int) + 1 := by omega
      rw [hcast]
      have HF := Lib.hid (And.intro a0 b0)
      have GZ : Hid (wr.grownBy wr none) := Lib.hid (grown_refl _ _)
      go_upto_region 4 with fail
      cases hlt2 : ltI x y
      · have hge : y ≤ x := (by have := of_decide_eq_false hlt2; omega)
        have HL := Lib.hid hlt2
        clear hlt2
        go_region_held3 (fun w' => w'.cell? ⟨b, off + j, none⟩ = some (.int .i64 x) ∧ w'.cell? ⟨b, off + (j + 1), none⟩ = some (.int .i64 y) ∧ Hid (wr.grownBy w' none))
          (first | with_reducible exact ⟨(hid_drew GZ).out.cell HF.out.1 (by simp), (hid_drew GZ).out.cell HF.out.2 (by simp), hid_drew GZ⟩ | (go_split_ands; with_reducible refine ⟨?_, ?_, ?_⟩ <;> with_reducible assumption))
          ((go_at_call 100; (first | with_reducible refine (tdis1_any x _).mono ?_ | with_reducible refine (tdis1_any y _).mono ?_); rintro e w' ⟨rfl, rfl⟩))
        all_goals
          go_split_ands
          go_wp2_with fail
          go_ret
          rw [ascJ_hit HXY.out.1 HXY.out.2 HL.out]
          exact ⟨rfl, grown_trans G.out (Hid.out (by assumption))⟩
      · have hge : ¬ y ≤ x := fun h => by have := of_decide_eq_true hlt2; omega
        have HL := Lib.hid hlt2
        clear hlt2
        go_region_held3 (fun w' => w'.cell? ⟨b, off + j, none⟩ = some (.int .i64 x) ∧ w'.cell? ⟨b, off + (j + 1), none⟩ = some (.int .i64 y) ∧ Hid (wr.grownBy w' none))
          (first | with_reducible exact ⟨(hid_drew GZ).out.cell HF.out.1 (by simp), (hid_drew GZ).out.cell HF.out.2 (by simp), hid_drew GZ⟩ | (go_split_ands; with_reducible refine ⟨?_, ?_, ?_⟩ <;> with_reducible assumption))
          ((go_at_call 100; (first | with_reducible refine (tdis1_any x _).mono ?_ | with_reducible refine (tdis1_any y _).mono ?_); rintro e w' ⟨rfl, rfl⟩))
        all_goals
          go_split_ands
          have HGW := Lib.hid (grown_trans G.out (Hid.out (by assumption)))
          go_wp2_with fail
          refine ⟨⟨j + 1 + 1, by omega, Or.inl (by omega), congrArg _ (by omega), HGW, Lib.hid fun i x2 y2 hi hx2 hy2 => ?_⟩, by simp only [RowKit.intOf]; omega⟩
          by_cases hij : i = j
          · subst hij
            have e1 := HXY.out.1.symm.trans hx2
            have e2 := HXY.out.2.symm.trans hy2
            injection e1 with e1
            injection e2 with e2
            subst e1
            subst e2
            exact HL.out
          · exact HN.out i x2 y2 (by omega) hx2 hy2
    · have h1 : ¬ (k : Int) < (R.length : Int) := by omega
      go_wp2_with fail
      go_ret
      rw [ascJ_end fun i x y hi hx hy => HN.out i x y (by omega) hx hy]
      exact ⟨rfl, G.out⟩
set_option maxRecDepth 100000 in
theorem ascW_end {R : List Rw} (h : ∀ i x y, i + 1 < R.length → R[i]? = some x → R[i + 1]? = some y → ltW x y = true) : ascB ltW R = true :=
  (ascB_iff _ _).2 fun i x y hx hy => h i x y ((List.getElem?_eq_some_iff.1 hy).1) hx hy
set_option maxRecDepth 100000 in
theorem ascW_hit {R : List Rw} {i : Nat} {x y : Rw} (hx : R[i]? = some x) (hy : R[i + 1]? = some y) (h : ltW x y = false) : ascB ltW R = false := by
  rw [Bool.eq_false_iff]
  intro h2
  have := (ascB_iff _ _).1 h2 i x y hx hy
  rw [h] at this; cases this
set_option maxRecDepth 100000 in
set_option maxHeartbeats 3200000 in
theorem tascW_any (R : List Rw) (p : Option Addr) (c : Nat) (q : Nat → Prop) (w : World) (hR : RdF w q (.slice p R.length c) R.length (R.flatMap rwC)) (hm : R.length ≤ 9223372036854775807) :
    Calls Tryz.prog 51 #[.slice p R.length c, .func (.func 52) #[] #[]] w fun e w' => e = .returned (.bool (ascB ltW R)) ∧ w.grownBy w' none := by
  have eg : EnterF 52 := enters_of Tryz.func52 (by kernel_rfl) rfl
  have HR := Lib.hid hR
  clear hR
  go_enter Tryz.func51, Tryz.ntmps51
  go_wp2_with fail
  go_loopw [5] (fun a wr => ∃ k : Nat, 1 ≤ k ∧ (k ≤ R.length ∨ k = 1) ∧ a = .int .i64 (k : Int) ∧ Hid (w.grownBy wr none) ∧ Hid (∀ i x y, i + 1 < k → R[i]? = some x → R[i + 1]? = some y → ltW x y = true)) (fun a _ => R.length - (RowKit.intOf a).toNat)
  case atStart => exact ⟨1, by omega, Or.inr rfl, rfl, Lib.hid (grown_refl _ _), Lib.hid (fun i x y h => by omega)⟩
  case round =>
    obtain ⟨k, hk1, hk, rfl, G, HN⟩ := hrel
    by_cases hlt : k < R.length
    · obtain ⟨j, rfl⟩ : ∃ j, k = j + 1 := ⟨k - 1, by omega⟩
      obtain ⟨x, hx⟩ : ∃ x, R[j]? = some x := ⟨_, List.getElem?_eq_getElem (by omega)⟩
      obtain ⟨y, hy⟩ : ∃ y, R[j + 1]? = some y := ⟨_, List.getElem?_eq_getElem hlt⟩
      obtain ⟨-, b, off, rfl, hq, hc⟩ := rw_cells (HR.out.keep G.out) (by omega)
      obtain ⟨a0, a1⟩ := hc j x hx
      obtain ⟨b0, b1⟩ := hc (j + 1) y hy
      have HXY := Lib.hid (And.intro hx hy)
      have ew1 : ((j : Int) + 1 - 1) = (j : Int) := by omega
      have ew2 : IntKind.i64.wrap ((j : Int) + 1 - 1) = (j : Int) := by rw [ew1, IntWalk.i64_in _ (by omega)]
      have ew3 : IntKind.i64.wrap (j : Int) = (j : Int) := IntWalk.i64_in _ (by omega)
      have j0 : (0 : Int) ≤ (j : Int) := by omega
      have j1 : (0 : Int) ≤ (j : Int) + 1 := by omega
      have j2 : (j : Int) < (R.length : Int) := by omega
      have j3 : (j : Int) + 1 < (R.length : Int) := by omega
      have j4 : ((j : Int) + 1).toNat = j + 1 := by omega
      clear hc hx hy
      have hcast : ((j + 1 : Nat) : Int) = (j : Int) + 1 := by omega
      rw [hcast]
      have HF := Lib.hid (And.intro a0 (And.intro a1 (And.intro b0 b1)))
      have GZ : Hid (wr.grownBy wr none) := Lib.hid (grown_refl _ _)
      go_upto_region 4 with fail
      cases hlt2 : ltW x y
      · have hge : y.id ≤ x.id := (by have := of_decide_eq_false hlt2; omega)
        have HL := Lib.hid hlt2
        clear hlt2
        go_region_held3 (fun w' => w'.cell? ⟨b, off + j * 2, none⟩ = some (.int .i64 x.id) ∧ w'.cell? ⟨b, off + j * 2 + 1, none⟩ = some (.slice x.p x.nx.length x.c) ∧ w'.cell? ⟨b, off + (j + 1) * 2, none⟩ = some (.int .i64 y.id) ∧ w'.cell? ⟨b, off + (j + 1) * 2 + 1, none⟩ = some (.slice y.p y.nx.length y.c) ∧ Hid (wr.grownBy w' none))
          (first | with_reducible exact keepTW HF.out (hid_drew GZ) | (with_reducible exact keepTW HF.out (hid_drew (hid_more GZ hg))) | (go_split_ands; with_reducible refine keepTW HF.out ?_; with_reducible assumption) | (go_split_ands; with_reducible refine keepTW HF.out (hid_more ?_ hg); with_reducible assumption) | (go_split_ands; with_reducible refine keepTW HF.out (hid_more (hid_more ?_ hg) hg2); with_reducible assumption))
          ((go_at_call 52; (first | with_reducible refine (trid_any x _).mono ?_ | with_reducible refine (trid_any y _).mono ?_); rintro e w' ⟨rfl, hg⟩))
        all_goals
          go_split_ands
          go_wp2_with fail
          go_ret
          rw [ascW_hit HXY.out.1 HXY.out.2 HL.out]
          exact ⟨rfl, grown_trans G.out (Hid.out (by assumption))⟩
      · have hge : ¬ y.id ≤ x.id := fun h => by have := of_decide_eq_true hlt2; omega
        have HL := Lib.hid hlt2
        clear hlt2
        go_region_held3 (fun w' => w'.cell? ⟨b, off + j * 2, none⟩ = some (.int .i64 x.id) ∧ w'.cell? ⟨b, off + j * 2 + 1, none⟩ = some (.slice x.p x.nx.length x.c) ∧ w'.cell? ⟨b, off + (j + 1) * 2, none⟩ = some (.int .i64 y.id) ∧ w'.cell? ⟨b, off + (j + 1) * 2 + 1, none⟩ = some (.slice y.p y.nx.length y.c) ∧ Hid (wr.grownBy w' none))
          (first | with_reducible exact keepTW HF.out (hid_drew GZ) | (with_reducible exact keepTW HF.out (hid_drew (hid_more GZ hg))) | (go_split_ands; with_reducible refine keepTW HF.out ?_; with_reducible assumption) | (go_split_ands; with_reducible refine keepTW HF.out (hid_more ?_ hg); with_reducible assumption) | (go_split_ands; with_reducible refine keepTW HF.out (hid_more (hid_more ?_ hg) hg2); with_reducible assumption))
          ((go_at_call 52; (first | with_reducible refine (trid_any x _).mono ?_ | with_reducible refine (trid_any y _).mono ?_); rintro e w' ⟨rfl, hg⟩))
        all_goals
          go_split_ands
          have HGW := Lib.hid (grown_trans G.out (Hid.out (by assumption)))
          go_wp2_with fail
          refine ⟨⟨j + 1 + 1, by omega, Or.inl (by omega), congrArg _ (by omega), HGW, Lib.hid fun i x2 y2 hi hx2 hy2 => ?_⟩, by simp only [RowKit.intOf]; omega⟩
          by_cases hij : i = j
          · subst hij
            have e1 := HXY.out.1.symm.trans hx2
            have e2 := HXY.out.2.symm.trans hy2
            injection e1 with e1
            injection e2 with e2
            subst e1
            subst e2
            exact HL.out
          · exact HN.out i x2 y2 (by omega) hx2 hy2
    · have h1 : ¬ (k : Int) < (R.length : Int) := by omega
      go_wp2_with fail
      go_ret
      rw [ascW_end fun i x y hi hx hy => HN.out i x y (by omega) hx hy]
      exact ⟨rfl, G.out⟩
set_option maxRecDepth 100000 in
/-- slices.Index, slices.Contains. -/
theorem hasI_at {X : List Int} {r x : Int} {k : Nat} (hx : X[k]? = some x) (h : x = r) : hasI X r = true := List.any_eq_true.2 ⟨x, List.mem_of_getElem? hx, decide_eq_true h⟩
set_option maxRecDepth 100000 in
set_option maxHeartbeats 1600000 in
theorem tidx_any (X : List Int) (r : Int) (p : Option Addr) (c : Nat) (q : Nat → Prop) (w : World) (hR : Rd w q (.slice p X.length c) (X.map tv)) (hm : X.length ≤ 9223372036854775807) :
    Calls Tryz.prog 101 #[.slice p X.length c, .int .i64 r] w fun e w' => ∃ i : Int, e = .returned (.int .i64 i) ∧ decide (0 ≤ i) = hasI X r ∧ w = w' := by
  have HR := Lib.hid hR
  clear hR
  go_enter Tryz.func101, Tryz.ntmps101
  go_wp2_with fail
  go_loopw [8] (fun a wr => ∃ k : Nat, k ≤ X.length ∧ a = .int .i64 (k : Int) ∧ wr = w ∧ Hid ((X.take k).any (fun y => decide (y = r)) = false)) (fun a _ => X.length - (RowKit.intOf a).toNat)
  case atStart => exact ⟨0, Nat.zero_le _, rfl, rfl, Lib.hid rfl⟩
  case round =>
    obtain ⟨k, hk, rfl, rfl, HN⟩ := hrel
    by_cases hlt : k < X.length
    · obtain ⟨x, hx⟩ : ∃ x, X[k]? = some x := ⟨_, List.getElem?_eq_getElem hlt⟩
      obtain ⟨-, b, off, rfl, hq, hc⟩ := tvT_at HR.out hx
      have a0 := hc k x hx
      have HX := Lib.hid hx
      clear hc hx
      by_cases hr : x = r
      · have hr' : (r == x) = true := by simpa using hr.symm
        have HH := Lib.hid (hasI_at HX.out hr)
        clear hr
        go_wp2_with fail
        go_ret
        refine ⟨_, rfl, ?_, rfl⟩
        rw [HH.out, decide_eq_true_eq]; omega
      · have hr' : (r == x) = false := by simpa using fun h => hr h.symm
        have HN2 : Hid ((X.take (k + 1)).any (fun y => decide (y = r)) = false) := Lib.hid (any_take HN.out HX.out (decide_eq_false hr))
        clear hr
        go_wp2_with fail
        exact ⟨⟨k + 1, by omega, congrArg _ (by omega), (by first | rfl | trivial), HN2⟩, by simp only [RowKit.intOf]; omega⟩
    · obtain rfl : k = X.length := by omega
      have hnl : ¬ (X.length : Int) < (X.length : Int) := by omega
      have HE : Hid (hasI X r = false) := Lib.hid (any_end HN.out (Nat.le_refl _))
      go_wp2_with fail
      go_ret
      refine ⟨_, rfl, ?_, rfl⟩
      rw [HE.out]; decide
set_option maxRecDepth 100000 in
theorem tcont_any (X : List Int) (r : Int) (p : Option Addr) (c : Nat) (q : Nat → Prop) (w : World) (hR : Rd w q (.slice p X.length c) (X.map tv)) (hm : X.length ≤ 9223372036854775807) :
    Calls Tryz.prog 55 #[.slice p X.length c, .int .i64 r] w fun e w' => e = .returned (.bool (hasI X r)) ∧ w = w' := by
  have HR := Lib.hid hR
  clear hR
  go_enter Tryz.func55, Tryz.ntmps55
  go_wp2_with fail
  refine (tidx_any X r p c q w HR.out hm).mono ?_
  rintro e w' ⟨i, rfl, hi, rfl⟩
  have HI := Lib.hid hi
  clear hi
  go_wp2_with fail
  go_ret
  rw [← HI.out]
  exact ⟨rfl, rfl⟩
end Go.Proofs.YtahafijpcmphaaaGreat

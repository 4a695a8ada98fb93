/- Parts of the proof, packed: TaHop, IdM, IdArr, IdLeaf, IdPlc, TaM. -/
import Derived.Test.YtahafijpcmphaaaGreatQt12
import Derived.Test.YtahafijpcmphaaaGreatQt10
import Derived.Test.YtahafijpcmphaaaGreatQt11
import Derived.Test.YtahafijpcmphaaaGreatQt5
import Derived.Deep.AppendLies
import Derived.Test.YtahafijpcmphaaaGreatQt2
import Derived.Test.YtahafijpcmphaaaGreatQt3
import Derived.Deep.WholeRow
import Derived.Deep.CutBlock
/- tables, the reference's functions: Hops. -/
namespace Go.Proofs.YtahafijpcmphaaaGreat
set_option maxRecDepth 100000
open Go.RowKit Bs
theorem nodup_leH : ∀ (l V : List Int), l.Nodup → (∀ x ∈ l, x ∈ V) → l.length ≤ V.length
 | [], _, _, _ => Nat.zero_le _
 | a :: t, V, hn, hs => by
  have h1 := List.nodup_cons.1 hn
  have ha := hs a (by simp)
  have h2 := nodup_leH t (V.erase a) h1.2 (fun x hx => (List.mem_erase_of_ne (fun e => h1.1 (by rw [← e]; exact hx))).2 (hs x (by simp [hx])))
  rw [List.length_erase_of_mem ha] at h2
  have := List.length_pos_of_mem ha
  rw [List.length_cons]
  omega
theorem stV_mem {R : List Rt} {L : List Lk} {D : Int → Int} {r x : Int} (h : x ∈ stV R L D r) : x ∈ ids R := by
 unfold stV at h
 split at h
 ·cases h
 ·have h2 := (List.mem_filter.1 h).1
  unfold nearR at h2
  obtain ⟨y, hy, rfl⟩ := List.mem_map.1 h2
  exact List.mem_map.2 ⟨y, (List.mem_filter.1 hy).1, rfl⟩
theorem stV_len (R : List Rt) (L : List Lk) (D : Int → Int) (r : Int) : (stV R L D r).length ≤ R.length := by
 unfold stV
 split
 ·exact Nat.zero_le _
 ·refine Nat.le_trans (List.length_filter_le _ _) ?_
  unfold nearR
  rw [List.length_map]
  exact List.length_filter_le _ _
def RdX (lo : Nat) (w : World) (v : Value) (p : Option Addr) (c : Nat) (X : List Int) : Prop := Rd w (fun b => lo ≤ b ∧ b < w.heap.size ∧ some b ≠ v.ownBlock) (.slice p X.length c) (X.map tv) ∧ (p = none → c = 0) ∧ (X.length ≤ c ∧ c ≤ 9223372036854775807)
theorem RdX.keep {lo : Nat} {w w1 : World} {v : Value} {p : Option Addr} {c : Nat} {X : List Int} (h : RdX lo w v p c X) (g : w.grownBy w1 none) : RdX lo w1 v p c X :=
 ⟨(h.1.keep g).mono (fun b hb => ⟨hb.1, Nat.lt_of_lt_of_le hb.2.1 g.size, hb.2.2⟩), h.2⟩
theorem RdX.put {lo : Nat} {w w1 : World} {v v' : Value} {p : Option Addr} {c : Nat} {X : List Int} (h : RdX lo w v p c X) (g : w.grownBy w1 v.ownBlock) (hv : v'.ownBlock = v.ownBlock ∨ ∀ b, some b = v'.ownBlock → w.heap.size ≤ b) : RdX lo w1 v' p c X :=
 ⟨(h.1.grown g (fun b hb => hb.2.2)).mono (fun b hb => ⟨hb.1, Nat.lt_of_lt_of_le hb.2.1 g.size, fun e => by
  rcases hv with hv | hv
  ·rw [hv] at e; exact hb.2.2 e
  ·have := hv b e; have := hb.2.1; omega⟩), h.2⟩
theorem rd_and {w : World} {q : Nat → Prop} {v : Value} {xs : List Value} (h : Rd w q v xs) : Rd w (fun b => q b ∧ b < w.heap.size) v xs := by
 obtain ⟨p, c, hv, hc⟩ := h
 refine ⟨p, c, hv, fun hne => ?_⟩
 obtain ⟨b, off, hp, hb, hx⟩ := hc hne
 obtain ⟨x, hx0⟩ : ∃ x, xs[0]? = some x := by
  cases xs with
  | nil => exact absurd rfl hne
  | cons a t => exact ⟨a, rfl⟩
 exact ⟨b, off, hp, ⟨hb, World.block_lt_of_cell? w ⟨b, off + 0, none⟩ (hx 0 x hx0)⟩, hx⟩
theorem tvT_atH {w : World} {q : Nat → Prop} {p : Option Addr} {n c i : Nat} {x : Int} {X : List Int} (h : Rd w q (.slice p n c) (X.map tv)) (hi : X[i]? = some x) :
  n = X.length ∧ ∃ b off, p = some ⟨b, off, none⟩ ∧ q b ∧ ∀ j y, X[j]? = some y → w.cell? ⟨b, off + j, none⟩ = some (.int .i64 y) := by
 obtain ⟨p1, c1, e1, hx⟩ := h
 injection e1 with a1 a2 a3
 subst a1
 have hne : X.map tv ≠ [] := by
  intro e
  have := List.map_eq_nil_iff.1 e
  subst this
  simp at hi
 obtain ⟨b, off, hp, hq, hc⟩ := hx hne
 exact ⟨by rw [a2, List.length_map], b, off, hp, hq, fun j y hj => hc j (tv y) (by rw [List.getElem?_map, hj]; rfl)⟩
structure HP (W : World) (C : Nat) (T : Tg) (pd : Option Addr) (cd : Nat) (A : List Int) (v : Value) (S : List Int) (w : World) : Prop where
 bx : w.heap[W.heap.size]? = some (.cells #[.slice T.pR T.R.length T.cR, .slice T.pL T.L.length T.cL] 45 (0, 0))
 t : TgOk w (· < C) T
 d : Rd w (· < C) (.slice pd A.length cd) (A.map tv)
 own : w.ownsRow C 3 1 v S.length (S.map tv)
 gr : W.grownBy w none
 lo : W.heap.size < C ∧ C ≤ w.heap.size
theorem HP.keep {W : World} {C : Nat} {T : Tg} {pd : Option Addr} {cd : Nat} {A : List Int} {v : Value} {S : List Int} {w w1 : World} (h : HP W C T pd cd A v S w) (g : w.grownBy w1 none) : HP W C T pd cd A v S w1 :=
 ⟨kept_row h.bx g (by simp), h.t.keep g, h.d.keep g, h.own.kept g (by cases v.ownBlock <;> simp), grown_trans h.gr g, h.lo.1, Nat.le_trans h.lo.2 g.size⟩
theorem HP.put {W : World} {C : Nat} {T : Tg} {pd : Option Addr} {cd : Nat} {A : List Int} {v v' : Value} {S S2 : List Int} {w w1 : World} (h : HP W C T pd cd A v S w) (hown : w1.ownsRow C 3 1 v' S2.length (S2.map tv)) (g : w.grownBy w1 v.ownBlock) : HP W C T pd cd A v' S2 w1 := by
 have hlo := h.lo
 have hne : ∀ b, b < C → some b ≠ v.ownBlock := fun b hb e => by have := (h.own.lt b e.symm).1; omega
 exact ⟨kept_row h.bx g (hne _ hlo.1), h.t.grown g hne, h.d.grown g hne, hown, grown_any h.gr g (fun b hb => hne b (by omega)), h.lo.1, Nat.le_trans h.lo.2 g.size⟩
theorem HP.lt {W : World} {C : Nat} {T : Tg} {pd : Option Addr} {cd : Nat} {A : List Int} {v : Value} {S : List Int} {w : World} (h : HP W C T pd cd A v S w) : ∀ b, v.ownBlock = some b → b < w.heap.size := fun b e => (h.own.lt b e).2
theorem HP.new {W : World} {C : Nat} {T : Tg} {pd : Option Addr} {cd : Nat} {A : List Int} {v : Value} {S : List Int} {w w1 : World} (h : HP W C T pd cd A v S w) {p : Option Addr} {c : Nat} {X : List Int} (g : w.grownBy w1 none) (hR : Rd w1 (w.heap.size ≤ ·) (.slice p X.length c) (X.map tv)) (hc : X.length ≤ c ∧ c ≤ 9223372036854775807) (hn : p = none → c = 0) : RdX W.heap.size w1 v p c X :=
 ⟨(rd_and hR).mono (fun b hb => ⟨Nat.le_trans h.gr.size hb.1, hb.2, fun e => by have := h.lt b e.symm; have := hb.1; omega⟩), hn, hc⟩
def HopC (R : List Rt) (L : List Lk) (D : Int → Int) (x s : Int) : Prop := ∀ P : Int → Prop, P x → (∀ a b, P a → b ∈ stV R L D a → capV R L b = false → P b) → P s
def HopM (R : List Rt) (L : List Lk) (D : Int → Int) (x y : Int) : Prop := ∃ s, HopC R L D x s ∧ y ∈ stV R L D s ∧ capV R L y = true
def HopsIs (R : List Rt) (L : List Lk) (x z : Int) (M : List Int) : Prop := if hasV R L x = true ∧ hasV R L z = true ∧ x ≠ z then ∀ y, y ∈ M ↔ HopM R L (toK L z R.length) x y else M = []
structure HI (R : List Rt) (L : List Lk) (D : Int → Int) (x : Int) (i : Nat) (S M : List Int) : Prop where
 c : ∀ s ∈ S, HopC R L D x s
 m : ∀ y ∈ M, HopM R L D x y
 x0 : x ∈ S
 d : ∀ (j : Nat) (s : Int), j < i → S[j]? = some s → ∀ y ∈ stV R L D s, (capV R L y = true → y ∈ M) ∧ (capV R L y = false → y ∈ S)
structure HJ (R : List Rt) (L : List Lk) (D : Int → Int) (x : Int) (i : Nat) (y0 : Int) (N : List Int) (k : Nat) (S M : List Int) : Prop where
 h : HI R L D x i S M
 s0 : S[i]? = some y0
 e : ∀ (j : Nat) (y : Int), j < k → N[j]? = some y → (capV R L y = true → y ∈ M) ∧ (capV R L y = false → y ∈ S)
section
variable {R : List Rt} {L : List Lk} {D : Int → Int} {x : Int} {i k : Nat} {y0 y : Int} {N S M : List Int}
theorem HI.start : HI R L D x 0 [x] [] := ⟨fun s hs => by rw [List.mem_singleton.1 hs]; exact fun P h _ => h, fun y hy => (by cases hy), List.mem_singleton.2 rfl, fun j s hj => absurd hj (Nat.not_lt_zero _)⟩
theorem HI.toJ (h : HI R L D x i S M) (hs : S[i]? = some y0) : HJ R L D x i y0 N 0 S M := ⟨h, hs, fun j y hj => absurd hj (Nat.not_lt_zero _)⟩
theorem HJ.cap (h : HJ R L D x i y0 N k S M) (hN : stV R L D y0 = N) (hy : N[k]? = some y) (hc : capV R L y = true) {M2 : List Int} (hM : ∀ z, z ∈ M2 ↔ z = y ∨ z ∈ M) : HJ R L D x i y0 N (k + 1) S M2 := by
 refine ⟨⟨h.h.c, fun z hz => ?_, h.h.x0, fun j s hj hs z hz => ⟨fun hc => (hM z).2 (Or.inr ((h.h.d j s hj hs z hz).1 hc)), (h.h.d j s hj hs z hz).2⟩⟩, h.s0, fun j z hj hz => ?_⟩
 ·rcases (hM z).1 hz with rfl | hz
  ·exact ⟨y0, h.h.c y0 (List.mem_of_getElem? h.s0), by rw [hN]; exact List.mem_of_getElem? hy, hc⟩
  ·exact h.h.m z hz
 ·rcases Nat.lt_or_ge j k with hlt | hge
  ·exact ⟨fun hc => (hM z).2 (Or.inr ((h.e j z hlt hz).1 hc)), (h.e j z hlt hz).2⟩
  ·obtain rfl : j = k := by omega
   obtain rfl : y = z := Option.some.inj (hy.symm.trans hz)
   exact ⟨fun _ => (hM y).2 (Or.inl rfl), fun h => (by rw [hc] at h; cases h)⟩
theorem HJ.has (h : HJ R L D x i y0 N k S M) (hy : N[k]? = some y) (hc : capV R L y = false) (hs : y ∈ S) : HJ R L D x i y0 N (k + 1) S M := by
 refine ⟨h.h, h.s0, fun j z hj hz => ?_⟩
 rcases Nat.lt_or_ge j k with hlt | hge
 ·exact h.e j z hlt hz
 ·obtain rfl : j = k := by omega
  obtain rfl : y = z := Option.some.inj (hy.symm.trans hz)
  exact ⟨fun h => (by rw [hc] at h; cases h), fun _ => hs⟩
theorem HJ.push (h : HJ R L D x i y0 N k S M) (hN : stV R L D y0 = N) (hy : N[k]? = some y) (hc : capV R L y = false) (hi : i < S.length) : HJ R L D x i y0 N (k + 1) (S ++ [y]) M := by
 have hil : ∀ j, j ≤ i → (S ++ [y])[j]? = S[j]? := fun j hj => List.getElem?_append_left (by omega)
 refine HJ.has ⟨⟨fun s hs => ?_, h.h.m, List.mem_append_left _ h.h.x0, fun j s hj hs z hz => ?_⟩, by rw [hil i (Nat.le_refl _)]; exact h.s0, fun j z hj hz => ⟨(h.e j z hj hz).1, fun hc => List.mem_append_left _ ((h.e j z hj hz).2 hc)⟩⟩ hy hc (by simp)
 ·rcases List.mem_append.1 hs with hs | hs
  ·exact h.h.c s hs
  ·rw [List.mem_singleton.1 hs]
   exact fun P h0 h1 => h1 y0 y (h.h.c y0 (List.mem_of_getElem? h.s0) P h0 h1) (by rw [hN]; exact List.mem_of_getElem? hy) hc
 ·rw [hil j (by omega)] at hs
  exact ⟨(h.h.d j s hj hs z hz).1, fun hc => List.mem_append_left _ ((h.h.d j s hj hs z hz).2 hc)⟩
theorem HJ.fin (h : HJ R L D x i y0 N k S M) (hN : stV R L D y0 = N) (hk : k = N.length) : HI R L D x (i + 1) S M := by
 refine ⟨h.h.c, h.h.m, h.h.x0, fun j s hj hs z hz => ?_⟩
 rcases Nat.lt_or_ge j i with hlt | hge
 ·exact h.h.d j s hlt hs z hz
 ·obtain rfl : j = i := by omega
  obtain rfl : y0 = s := Option.some.inj (h.s0.symm.trans hs)
  rw [hN] at hz
  obtain ⟨q, hq, hz⟩ := List.getElem_of_mem hz
  exact h.e q z (by omega) (by rw [List.getElem?_eq_getElem hq, hz])
theorem HI.fin (h : HI R L D x i S M) (hi : i = S.length) : ∀ y, y ∈ M ↔ HopM R L D x y := by
 refine fun y => ⟨h.m y, fun ⟨s, hc, hs, hy⟩ => ?_⟩
 have hd : ∀ s ∈ S, ∀ y ∈ stV R L D s, (capV R L y = true → y ∈ M) ∧ (capV R L y = false → y ∈ S) := fun s hs => by
  obtain ⟨q, hq, hz⟩ := List.getElem_of_mem hs
  exact h.d q s (by omega) (by rw [List.getElem?_eq_getElem hq, hz])
 exact ((hd s (hc (· ∈ S) h.x0 (fun a b ha hb hcb => (hd a ha b hb).2 hcb))) y hs).1 hy
end
def HopsPost (R : List Rt) (L : List Lk) (x z : Int) (w : World) (e : Ending) (w' : World) : Prop :=
 ∃ (M : List Int) (p : Option Addr) (c : Nat), e = .returned (.slice p M.length c) ∧ Rd w' (w.heap.size ≤ ·) (.slice p M.length c) (M.map tv) ∧ (p = none → c = 0) ∧ (M.length ≤ c ∧ c ≤ 9223372036854775807) ∧ M.Pairwise (· < ·) ∧ (∀ y ∈ M, y ∈ ids R) ∧ HopsIs R L x z M ∧ w.grownBy w' none
theorem iv_rowH (w : World) (x : Int) (t : TypeId) : ∀ j u, [Value.int .i64 x][j]? = some u → (w.alloc (.cells #[.int .i64 x] t)).cell? ((⟨w.heap.size, 0, none⟩ : Addr).add j) = some u := by
 intro j u hu
 rw [add_plain]
 have hb := heap_alloc_new w (.cells #[.int .i64 x] t)
 rcases j with _ | j
 ·cases hu; exact cell_of_row _ _ _ _ _ _ hb
 ·simp at hu
theorem own_shapeH {w : World} {base : Nat} {S : List Int} {ps : Option Addr} {cs i : Nat} {y : Int} (h : w.ownsRow base 3 1 (.slice ps S.length cs) S.length (S.map tv)) (hy : S[i]? = some y) : ∃ b off, ps = some ⟨b, off, none⟩ ∧ w.cell? ⟨b, off + i, none⟩ = some (.int .i64 y) := by
 obtain ⟨-, b, off, hp, -, hc⟩ := tvT_atH (rd_of_own h) hy
 exact ⟨b, off, hp, hc i y hy⟩
set_option maxHeartbeats 12800000 in
theorem rhops_any (T : Tg) (x z : Int) (q : Nat → Prop) (w : World) (hT : TgOk w q T) :
  Calls Tryz.prog 32 #[.agg #[.slice T.pR T.R.length T.cR, .slice T.pL T.L.length T.cL], .int .i64 x, .int .i64 z] w fun e w' => HopsPost T.R T.L x z w e w' := by
 obtain ⟨ii, hii, hi0, hi1, hi2⟩ := info_parts info_int
 obtain ⟨R, L, pR, cR, pL, cL⟩ := T
 simp only
 obtain ⟨k1, k2⟩ := tone_box w #[.slice pR R.length cR, .slice pL L.length cL] 45
 have H0 := Lib.hid (And.intro k1 (And.intro k2 (hT.old.keep k2)))
 have HLZ : Hid (w.heap.size < (w.alloc (.cells #[.slice pR R.length cR, .slice pL L.length cL] 45)).heap.size) := Lib.hid (by simp)
 clear k1 k2 hT
 go_enter Tryz.func32, Tryz.ntmps32
 go_upto_region 1 with fail
 generalize w.alloc _ = w1 at *
 have hnil : ∀ w', ¬ (hasV R L x = true ∧ hasV R L z = true ∧ x ≠ z) → w.grownBy w' none → HopsPost R L x z w (.returned (.slice none 0 0)) w' := fun w' hno g => ⟨[], none, 0, rfl, ⟨none, 0, rfl, fun h => absurd rfl h⟩, fun _ => rfl, ⟨Nat.le_refl _, by show (0 : Nat) ≤ _; omega⟩, List.Pairwise.nil, fun y hy => (by cases hy), by unfold HopsIs; rw [if_neg hno], g⟩
 have HNIL := Lib.hid hnil
 clear hnil
 obtain ⟨c0, c1⟩ := row_cells H0.out.1
 go_wp2_with fail
 refine (rhasV_any ⟨R, L, pR, cR, pL, cL⟩ x _ w1 H0.out.2.2).mono ?_
 rintro e w2 ⟨rfl, hg⟩
 have H2 := Lib.hid (And.intro (kept_row H0.out.1 hg (by simp)) (And.intro (grown_trans H0.out.2.1 hg) (And.intro (H0.out.2.2.keep hg) (Nat.lt_of_lt_of_le HLZ.out hg.size))))
 clear hg H0 HLZ c0 c1
 simp only
 cases hx : hasV R L x
 case false =>
  have HF := Lib.hid hx
  clear hx
  go_wp2_with fail
  go_ret
  exact HNIL.out _ (fun h => by rw [HF.out] at h; cases h.1) H2.out.2.1
 have HX := Lib.hid hx
 clear hx
 obtain ⟨c0, c1⟩ := row_cells H2.out.1
 go_wp2_with fail
 refine (rhasV_any ⟨R, L, pR, cR, pL, cL⟩ z _ w2 H2.out.2.2.1).mono ?_
 rintro e w3 ⟨rfl, hg⟩
 have H3 := Lib.hid (And.intro (kept_row H2.out.1 hg (by simp)) (And.intro (grown_trans H2.out.2.1 hg) (And.intro (H2.out.2.2.1.keep hg) (Nat.lt_of_lt_of_le H2.out.2.2.2 hg.size))))
 clear hg H2 c0 c1
 simp only
 cases hz : hasV R L z
 case false =>
  have HF := Lib.hid hz
  clear hz
  go_wp2_with fail
  go_ret
  exact HNIL.out _ (fun h => by rw [HF.out] at h; cases h.2.1) H3.out.2.1
 have HZ := Lib.hid hz
 clear hz
 by_cases hxz : x = z
 case pos =>
  have hxz' : (x == z) = true := by simpa using hxz
  have HF := Lib.hid hxz
  clear hxz
  go_wp2_with fail
  go_ret
  exact HNIL.out _ (fun h => h.2.2 HF.out) H3.out.2.1
 have hxz' : (x == z) = false := by simpa using hxz
 have HNE := Lib.hid hxz
 clear hxz
 obtain ⟨c0, c1⟩ := row_cells H3.out.1
 go_wp2_with fail
 refine (rto_any ⟨R, L, pR, cR, pL, cL⟩ z _ w3 H3.out.2.2.1 HZ.out).mono ?_
 rintro e w4 ⟨pd, cd, rfl, hd, hcd, hnd, hg⟩
 simp only at hd hcd ⊢
 obtain ⟨hok, hxi⟩ := hasV_iff.1 HX.out
 have HBD : Hid (∀ v, 0 ≤ toK L z R.length v ∧ toK L z R.length v ≤ farN) := Lib.hid (fun v => toJ_bd hok z R.length 0 v)
 obtain ⟨D, hD⟩ : ∃ D, toK L z R.length = D := ⟨_, rfl⟩
 rw [hD] at hd hcd HBD ⊢
 obtain ⟨A, hA⟩ : ∃ A, (ids R).map D = A := ⟨_, rfl⟩
 rw [hA] at hd hcd ⊢
 have HA := Lib.hid hA.symm
 have HOK := Lib.hid (And.intro hok hxi)
 have HDD := Lib.hid hD
 have HYES := Lib.hid (And.intro HX.out (And.intro HZ.out HNE.out))
 have hl24 := (okT_len hok).1
 have H4 := Lib.hid (And.intro (kept_row H3.out.1 hg (by simp)) (And.intro (grown_trans H3.out.2.1 hg) (And.intro (H3.out.2.2.1.keep hg) (And.intro ((rd_and hd).mono (q' := fun b => b < w4.heap.size) (fun b hb => hb.2)) (Nat.lt_of_lt_of_le H3.out.2.2.2 hg.size)))))
 have g4 := World.grownBy_alloc w4 (.cells #[.int .i64 x] 3) none
 have hlit : (w4.alloc (.cells #[.int .i64 x] 3)).ownsRow w4.heap.size 3 1 (.slice (some ⟨w4.heap.size, 0, none⟩) 1 1) ([x] : List Int).length (([x] : List Int).map tv) := World.ownsRow_lit w4 #[.int .i64 x] 1 (Nat.le_refl _) (by decide) rfl
 have HP0 : Hid (HP w w4.heap.size ⟨R, L, pR, cR, pL, cL⟩ pd cd A (.slice (some ⟨w4.heap.size, 0, none⟩) 1 1) [x] (w4.alloc (.cells #[.int .i64 x] 3))) := Lib.hid ⟨kept_row H4.out.1 g4 (by simp), (H4.out.2.2.1.keep g4).mono (fun b (hb : b < w.heap.size) => by have := H4.out.2.2.2.2; show b < w4.heap.size; omega), H4.out.2.2.2.1.keep g4, hlit, grown_trans H4.out.2.1 g4, H4.out.2.2.2.2, g4.size⟩
 clear hd hcd hnd hg hD hA hok hxi g4 hlit H3 H4 c0 c1 HZ HX
 go_upto_region 5 with fail
 generalize w4.alloc _ = w5 at *
 generalize w4.heap.size = C at *
 go_wp2_with fail
 go_loopw [8, 9, 10] (fun sv ov a wr => ∃ (i : Nat) (S M : List Int) (ps : Option Addr) (cs : Nat) (po : Option Addr) (co : Nat), a = .int .i64 (i : Int) ∧ sv = .slice ps S.length cs ∧ ov = .slice po M.length co ∧ i ≤ S.length ∧ Hid (S.Nodup ∧ ∀ y ∈ S, y ∈ ids R) ∧ Hid (M.Pairwise (· < ·) ∧ ∀ y ∈ M, y ∈ ids R) ∧ Hid (HI R L D x i S M) ∧ Hid (HP w C ⟨R, L, pR, cR, pL, cL⟩ pd cd A (.slice ps S.length cs) S wr ∧ RdX w.heap.size wr (.slice ps S.length cs) po co M)) (fun _ _ a _ => 25 - (RowKit.intOf a).toNat)
 case atStart => exact ⟨0, [x], [], _, 1, none, 0, rfl, rfl, rfl, Nat.zero_le _, Lib.hid ⟨by simp, fun y hy => by rw [List.mem_singleton.1 hy]; exact HOK.out.2⟩, Lib.hid ⟨List.Pairwise.nil, fun y hy => by cases hy⟩, Lib.hid HI.start, Lib.hid ⟨HP0.out, ⟨none, 0, rfl, fun h => absurd rfl h⟩, fun _ => rfl, Nat.le_refl _, by show (0 : Nat) ≤ _; omega⟩⟩
 case round =>
 clear HP0
 obtain ⟨i, S, M, ps, cs, po, co, rfl, rfl, rfl, hi, HS, HM, HH, K⟩ := hrel
 obtain ⟨w6, hw6⟩ : ∃ w6, w6 = wr := ⟨_, rfl⟩
 rw [← hw6] at K ⊢
 clear hw6
 have hSl : S.length ≤ 24 := Nat.le_trans (nodup_leH S (ids R) HS.out.1 HS.out.2) (by rw [ids_len]; exact hl24)
 by_cases hlt : i < S.length
 case neg =>
  obtain rfl : i = S.length := by omega
  have hnl : ¬ (S.length : Int) < (S.length : Int) := by omega
  go_wp2_with fail
  go_ret
  exact ⟨M, po, co, rfl, K.out.2.1.mono (fun b hb => hb.1), K.out.2.2.1, K.out.2.2.2, HM.out.1, HM.out.2, by unfold HopsIs; rw [if_pos HYES.out, HDD.out]; exact HH.out.fin rfl, K.out.1.gr⟩
 have hlt' : (i : Int) < (S.length : Int) := by omega
 have hin0 : (0 : Int) ≤ (i : Int) := by omega
 obtain ⟨y, hy⟩ : ∃ y, S[i]? = some y := ⟨_, List.getElem?_eq_getElem hlt⟩
 obtain ⟨b, off, rfl, hsc⟩ := own_shapeH K.out.1.own hy
 have HSC : Hid (∀ u, HP w C ⟨R, L, pR, cR, pL, cL⟩ pd cd A (.slice (some ⟨b, off, none⟩) S.length cs) S u → u.cell? ⟨b, off + i, none⟩ = some (.int .i64 y)) := Lib.hid (fun u hu => by
  obtain ⟨b', off', hpe, hc'⟩ := own_shapeH hu.own hy
  injection hpe with hpe
  injection hpe with e1 e2
  subst e1
  subst e2
  exact hc')
 obtain ⟨c0, c1⟩ := row_cells K.out.1.bx
 have HY0 := Lib.hid hy
 clear hsc hy
 go_upto_region 9 with fail
 refine wp_region_held_drew (S := fun w' => Hid (HP w C ⟨R, L, pR, cR, pL, cL⟩ pd cd A (.slice (some ⟨b, off, none⟩) S.length cs) S w' ∧ RdX w.heap.size w' (.slice (some ⟨b, off, none⟩) S.length cs) po co M)) (by kernel_rfl) (Lib.hid ⟨K.out.1.keep (grown_drew (grown_refl _ none)), K.out.2.keep (grown_drew (grown_refl _ none))⟩) (fun hHeld => ?_)
 refine zT (i := 0) (v := ?_) rfl ?_ hHeld ?_
 rotate_left 1
 ·intro u hSu
  obtain ⟨c0u, c1u⟩ := row_cells hSu.out.1.bx
  have s0u := HSC.out _ hSu.out.1
  go_simp
  first | done | with_reducible rfl
 try simp only [Act.put, zA, zB, zC]
 refine zT (i := 1) (v := ?_) rfl ?_ hHeld ?_
 rotate_left 1
 ·intro u hSu
  go_simp
  first | done | with_reducible rfl
 try simp only [Act.put, zA, zB, zC]
 refine zT (i := 2) (v := ?_) rfl ?_ hHeld ?_
 rotate_left 1
 ·intro u hSu
  go_simp
  first | done | with_reducible rfl
 try simp only [Act.put, zA, zB, zC]
 refine zT (i := 3) (v := ?_) rfl ?_ hHeld ?_
 rotate_left 1
 ·intro u hSu
  go_simp
  first | done | with_reducible rfl
 try simp only [Act.put, zA, zB, zC]
 refine zT (i := 4) (v := ?_) rfl ?_ hHeld ?_
 rotate_left 1
 ·intro u hSu
  go_simp
  first | done | with_reducible rfl
 try simp only [Act.put, zA, zB, zC]
 refine zT (i := 5) (v := ?_) rfl ?_ hHeld ?_
 rotate_left 1
 ·intro u hSu
  obtain ⟨c0u, c1u⟩ := row_cells hSu.out.1.bx
  have s0u := HSC.out _ hSu.out.1
  go_simp
  first | done | with_reducible rfl
 try simp only [Act.put, zA, zB, zC]
 refine wpAnyH_ready (rs := [6]) (by kernel_rfl) (by simp) ?_
 refine AllReadyH.cons (o := ⟨_, _, _, _, _, _⟩) rfl (fun Kz hK => ?_) AllReadyH.nil
 go_simp
 go_at_call 79
 refine (rsteps_any ⟨R, L, pR, cR, pL, cL⟩ D y A pd cd _ _ _ hHeld.out.1.t HOK.out.1 HA.out hHeld.out.1.d HBD.out).mono ?_
 rintro e w7 ⟨pn, cn, rfl, hn, hcn, hnn, hg⟩
 have HX9 := Lib.hid (hHeld.out.1.new hg hn hcn hnn)
 have HN9 := Lib.hid (And.intro (hHeld.out.1.keep hg) (hHeld.out.2.keep hg))
 clear hn hcn hnn hg
 refine hK.out _ _ (HN9) (fun hH2 => ?_)
 clear hK Kz hHeld
 have hHeld := hH2
 clear hH2
 try simp only [Act.put, zA, zB, zC]
 refine zT (i := 7) (v := ?_) rfl ?_ hHeld ?_
 rotate_left 1
 ·intro u hSu
  go_simp
  first | done | with_reducible rfl
 try simp only [Act.put, zA, zB, zC]
 refine wpAnyH_done (by kernel_rfl) ?_ _
 have HN := Lib.hid (And.intro (stV_len R L D y) (fun v (hv : v ∈ stV R L D y) => stV_mem hv))
 obtain ⟨N, hN⟩ : ∃ N, stV R L D y = N := ⟨_, rfl⟩
 rw [hN] at HN HX9 ⊢
 have HNN := Lib.hid hN
 have HJ0 : Hid (HJ R L D x i y N 0 S M) := Lib.hid (HH.out.toJ HY0.out)
 clear hN HSC c0 c1 K HY0 HH
 have hNl : N.length ≤ 24 := Nat.le_trans HN.out.1 hl24
 have HK9 := Lib.hid (And.intro hHeld.out HX9.out)
 clear hHeld HX9
 go_wp2_with fail
 have HK0 := Lib.hid (And.intro HK9.out.1.1 (And.intro HK9.out.1.2 HK9.out.2))
 clear HK9
 go_loopw [8, 9, 12] (fun sv ov a wr => ∃ (k : Nat) (S M : List Int) (ps : Option Addr) (cs : Nat) (po : Option Addr) (co : Nat), a = .int .i64 (k : Int) ∧ sv = .slice ps S.length cs ∧ ov = .slice po M.length co ∧ k ≤ N.length ∧ i < S.length ∧ Hid (S.Nodup ∧ ∀ y ∈ S, y ∈ ids R) ∧ Hid (M.Pairwise (· < ·) ∧ ∀ y ∈ M, y ∈ ids R) ∧ Hid (HJ R L D x i y N k S M) ∧ Hid (HP w C ⟨R, L, pR, cR, pL, cL⟩ pd cd A (.slice ps S.length cs) S wr ∧ RdX w.heap.size wr (.slice ps S.length cs) po co M ∧ RdX w.heap.size wr (.slice ps S.length cs) pn cn N)) (fun _ _ a _ => N.length - (RowKit.intOf a).toNat)
 case atStart => exact ⟨0, S, M, _, cs, po, co, rfl, rfl, rfl, Nat.zero_le _, hlt, HS, HM, HJ0, HK0⟩
 case round =>
 clear HK0 HS HM HJ0 hlt hlt' hSl hi
 obtain ⟨k, S, M, ps, cs, po, co, rfl, rfl, rfl, hk, hiS, HS, HM, HH, K⟩ := hrel
 obtain ⟨w8, hw8⟩ : ∃ w8, w8 = wr := ⟨_, rfl⟩
 rw [← hw8] at K ⊢
 clear hw8
 have hSl : S.length ≤ 24 := Nat.le_trans (nodup_leH S (ids R) HS.out.1 HS.out.2) (by rw [ids_len]; exact hl24)
 have hMl : M.length ≤ 24 := Nat.le_trans (nodup_leH M (ids R) (HM.out.1.imp (fun h => by omega)) HM.out.2) (by rw [ids_len]; exact hl24)
 by_cases hkn : k < N.length
 case neg =>
  obtain rfl : k = N.length := by omega
  have hnl : ¬ (N.length : Int) < (N.length : Int) := by omega
  have K2 := Lib.hid (And.intro K.out.1 K.out.2.1)
  have HH2 := Lib.hid (HH.out.fin HNN.out rfl)
  clear K HH
  go_wp2_with fail
  exact ⟨⟨i + 1, S, M, ps, cs, po, co, congrArg _ (by omega), rfl, rfl, by omega, HS, HM, HH2, K2⟩, by simp only [RowKit.intOf]; omega⟩
 have hkn' : (k : Int) < (N.length : Int) := by omega
 have hkn0 : (0 : Int) ≤ (k : Int) := by omega
 obtain ⟨y2, hy2⟩ : ∃ y2, N[k]? = some y2 := ⟨_, List.getElem?_eq_getElem hkn⟩
 have HY2 := Lib.hid (HN.out.2 y2 (List.mem_of_getElem? hy2))
 obtain ⟨-, bn, on, rfl, -, -⟩ := tvT_atH K.out.2.2.1 hy2
 have NSC : Hid (∀ u v, RdX w.heap.size u v (some ⟨bn, on, none⟩) cn N → u.cell? ⟨bn, on + k, none⟩ = some (.int .i64 y2)) := Lib.hid (fun u v hu => by
  obtain ⟨-, b', off', hpe, -, hc'⟩ := tvT_atH hu.1 hy2
  injection hpe with hpe
  injection hpe with e1 e2
  subst e1
  subst e2
  exact hc' k y2 hy2)
 obtain ⟨c0, c1⟩ := row_cells K.out.1.bx
 have HY3 := Lib.hid hy2
 clear hy2
 go_upto_region 13 with fail
 refine wp_region_held_drew (S := fun w' => Hid (HP w C ⟨R, L, pR, cR, pL, cL⟩ pd cd A (.slice ps S.length cs) S w' ∧ RdX w.heap.size w' (.slice ps S.length cs) po co M ∧ RdX w.heap.size w' (.slice ps S.length cs) (some ⟨bn, on, none⟩) cn N)) (by kernel_rfl) (Lib.hid ⟨K.out.1.keep (grown_drew (grown_refl _ none)), K.out.2.1.keep (grown_drew (grown_refl _ none)), K.out.2.2.keep (grown_drew (grown_refl _ none))⟩) (fun hHeld => ?_)
 refine zT (i := 0) (v := ?_) rfl ?_ hHeld ?_
 rotate_left 1
 ·intro u hSu
  obtain ⟨c0u, c1u⟩ := row_cells hSu.out.1.bx
  have n0u := NSC.out _ _ hSu.out.2.2
  go_simp
  first | done | with_reducible rfl
 try simp only [Act.put, zA, zB, zC]
 refine zT (i := 1) (v := ?_) rfl ?_ hHeld ?_
 rotate_left 1
 ·intro u hSu
  go_simp
  first | done | with_reducible rfl
 try simp only [Act.put, zA, zB, zC]
 refine zT (i := 2) (v := ?_) rfl ?_ hHeld ?_
 rotate_left 1
 ·intro u hSu
  go_simp
  first | done | with_reducible rfl
 try simp only [Act.put, zA, zB, zC]
 refine zT (i := 3) (v := ?_) rfl ?_ hHeld ?_
 rotate_left 1
 ·intro u hSu
  go_simp
  first | done | with_reducible rfl
 try simp only [Act.put, zA, zB, zC]
 refine zT (i := 4) (v := ?_) rfl ?_ hHeld ?_
 rotate_left 1
 ·intro u hSu
  obtain ⟨c0u, c1u⟩ := row_cells hSu.out.1.bx
  have n0u := NSC.out _ _ hSu.out.2.2
  go_simp
  first | done | with_reducible rfl
 try simp only [Act.put, zA, zB, zC]
 refine wpAnyH_ready (rs := [5]) (by kernel_rfl) (by simp) ?_
 refine AllReadyH.cons (o := ⟨_, _, _, _, _, _⟩) rfl (fun Kz hK => ?_) AllReadyH.nil
 go_simp
 go_at_call 43
 refine (rcap_any ⟨R, L, pR, cR, pL, cL⟩ y2 _ _ hHeld.out.1.t).mono ?_
 rintro e w9 ⟨rfl, hg⟩
 have HN13 := Lib.hid (And.intro (hHeld.out.1.keep hg) (And.intro (hHeld.out.2.1.keep hg) (hHeld.out.2.2.keep hg)))
 clear hg
 simp only
 refine hK.out _ _ (HN13) (fun hH2 => ?_)
 clear hK Kz hHeld
 have hHeld := hH2
 clear hH2
 try simp only [Act.put, zA, zB, zC]
 refine wpAnyH_done (by kernel_rfl) ?_ _
 clear c0 c1 K
 cases hcp : capV R L y2
 case true =>
  have n0 := NSC.out _ _ hHeld.out.2.2
  have HH2 := Lib.hid (HH.out.cap HNN.out HY3.out hcp (insU_spec y2 M HM.out.1).2)
  clear hcp HH
  go_wp2_with fail
  refine (rins_any M y2 po co _ w9 hHeld.out.2.1.1 hHeld.out.2.1.2.1 hHeld.out.2.1.2.2.1 hHeld.out.2.1.2.2.2 (by omega)).mono ?_
  rintro e w10 ⟨p2, c2, rfl, hr2, hn2, hc2, hg⟩
  have K2 := Lib.hid (And.intro (hHeld.out.1.keep hg) (And.intro (show RdX w.heap.size w10 (.slice ps S.length cs) p2 c2 (insU M y2) from ⟨(rd_and hr2).mono (fun b hb => by
   refine ⟨?_, hb.2, ?_⟩
   ·rcases hb.1 with h | h
    ·exact h.1
    ·exact Nat.le_trans hHeld.out.1.gr.size h
   ·rcases hb.1 with h | h
    ·exact h.2.2
    ·intro e; have := hHeld.out.1.lt b e.symm; omega), hn2, hc2⟩) (hHeld.out.2.2.keep hg)))
  have HM2 : Hid ((insU M y2).Pairwise (· < ·) ∧ ∀ y ∈ insU M y2, y ∈ ids R) := Lib.hid ⟨(insU_spec y2 M HM.out.1).1, fun y hy => by
   rcases ((insU_spec y2 M HM.out.1).2 y).1 hy with rfl | h
   ·exact HY2.out
   ·exact HM.out.2 y h⟩
  clear hr2 hn2 hc2 hg hHeld n0 HM
  go_wp2_with fail
  exact ⟨⟨k + 1, S, insU M y2, ps, cs, p2, c2, congrArg _ (by omega), rfl, rfl, by omega, hiS, HS, HM2, HH2, K2⟩, by simp only [RowKit.intOf]; omega⟩
 have n0 := NSC.out _ _ hHeld.out.2.2
 have HCP := Lib.hid hcp
 clear hcp
 go_wp2_with fail
 refine (rhas4_any S y2 ps cs _ w9 (rd_of_own hHeld.out.1.own) (by omega)).mono ?_
 rintro e w10 ⟨rfl, rfl⟩
 cases hh : hasI S y2
 case true =>
  have HH2 := Lib.hid (HH.out.has HY3.out HCP.out (by
   unfold hasI at hh
   obtain ⟨z, hz, he⟩ := List.any_eq_true.1 hh
   have := of_decide_eq_true he
   rwa [this] at hz))
  clear hh n0 HH
  go_wp2_with fail
  exact ⟨⟨k + 1, S, M, ps, cs, po, co, congrArg _ (by omega), rfl, rfl, by omega, hiS, HS, HM, HH2, hHeld⟩, by simp only [RowKit.intOf]; omega⟩
 have HS2 : Hid ((S ++ [y2]).Nodup ∧ ∀ y ∈ S ++ [y2], y ∈ ids R) := Lib.hid ⟨by
  rw [List.nodup_append]
  refine ⟨HS.out.1, by simp, fun a ha b hb => ?_⟩
  rw [List.mem_singleton] at hb
  subst hb
  intro e
  subst e
  unfold hasI at hh
  have := List.any_eq_false.1 hh a ha
  simp at this, fun y hy => by
  rcases List.mem_append.1 hy with h | h
  ·exact HS.out.2 y h
  ·rw [List.mem_singleton.1 h]; exact HY2.out⟩
 have HO2 := Lib.hid hHeld.out.1.own
 have hsz : C ≤ w9.heap.size := hHeld.out.1.lo.2
 obtain ⟨S2, hS2⟩ : ∃ S2, S ++ [y2] = S2 := ⟨_, rfl⟩
 have HE := Lib.hid hS2
 have HL : Hid (S.length + 1 = S2.length) := Lib.hid (by rw [← hS2, List.length_append]; rfl)
 rw [hS2] at HS2
 have HH2 := Lib.hid (HH.out.push HNN.out HY3.out HCP.out hiS)
 rw [hS2] at HH2
 clear hh hS2 HS
 go_wp2_with (at_builtin; refine hold_on ?_)
 refine Lib.hid ?_
 refine wpList_append_lies _ rfl _ _ 22 rfl C 3 ii (.int .i64 0) 1 8 Tryz.underlying22 hii hi0 hi1 hi2 rfl (by decide) (.slice ps S.length cs) S.length (S.map tv) rfl (HO2.out.alloc _) ⟨w9.heap.size, 0, none⟩ 1 1 [.int .i64 y2] rfl rfl (iv_rowH w9 y2 _) (fun u hu => by rw [List.mem_singleton.1 hu]; rfl) (by decide) (by unfold maxLen; omega) (by omega) (by simp; omega) _ rfl ?_
 intro g cap w11 hown hgrow hat hlt8
 have ga := World.grownBy_alloc w9 (.cells #[.int .i64 y2] 3) none
 have hv : (Value.slice (some ⟨g, 0, none⟩) (S.length + 1) cap).ownBlock = (Value.slice ps S.length cs).ownBlock ∨ ∀ b, some b = (Value.slice (some ⟨g, 0, none⟩) (S.length + 1) cap).ownBlock → (w9.alloc (.cells #[.int .i64 y2] 3)).heap.size ≤ b := by
  rcases hat with h | h
  ·exact Or.inl h.symm
  ·refine Or.inr fun b e => ?_
   have e2 : some b = some g := e
   have := Option.some.inj e2
   rw [this, h]
   exact Nat.le_refl _
 have K2 := Lib.hid (And.intro ((hHeld.out.1.keep ga).put (S2 := S ++ [y2]) (v' := .slice (some ⟨g, 0, none⟩) (S.length + 1) cap) (by rw [List.length_append, List.map_append]; simpa [tv] using hown) hgrow) (And.intro ((hHeld.out.2.1.keep ga).put hgrow hv) ((hHeld.out.2.2.keep ga).put hgrow hv)))
 rw [HE.out, HL.out] at K2
 rw [HL.out]
 have hiS2 : i < S2.length := by have := HL.out; omega
 clear hown hgrow hat hlt8 HO2 hHeld hsz HE n0 ga hv hiS
 go_wp2_with fail
 exact ⟨⟨k + 1, S2, M, _, cap, po, co, congrArg _ (by omega), rfl, rfl, by omega, hiS2, HS2, HM, HH2, K2⟩, by simp only [RowKit.intOf]; omega⟩
end Go.Proofs.YtahafijpcmphaaaGreat

/- identify: claims and plans, the mathematics. -/
namespace Go.Proofs.YtahafijpcmphaaaGreat
set_option maxRecDepth 100000
open Go.RowKit Bs
def inV (n a b : Int) : Bool := decide (a ≤ n ∧ n ≤ b)
theorem any_mem {α : Type} {p : α → Bool} {l : List α} (h : l.any p = false) {x : α} (hx : x ∈ l) : p x = false := by
 cases hp : p x
 ·rfl
 ·rw [List.any_eq_true.2 ⟨x, hx, hp⟩] at h; cases h
structure Ed where
 r : Int
 i : Int
def edC (e : Ed) : List Value := [.int .i64 e.r, .int .i64 e.i]
theorem ed_one (x : Ed) : ∀ u ∈ edC x, u.oneCell' = true := by
 intro u hu
 simp [edC] at hu
 rcases hu with rfl | rfl <;> rfl
def wrE (e : Ed) : Bool := !(inV e.r 1 99 && inV e.i 1 256)
def ltE (x y : Ed) : Bool := decide (x.i < y.i)
def repI (r : List Int) : Bool := (List.range r.length).any fun i => (r.take i).contains (r.getD i 0)
def vPl (sub len : Int) (E : List Ed) : Bool :=
 inV sub 0 7 && (vl len || (decide (len = 0) && decide (E.length = 0))) && decide (E.length ≤ 24) && !E.any wrE && ascB ltE E && !repI (E.map Ed.r)
theorem pair_ascE : ∀ E : List Ed, E.Pairwise (fun x y => x.i < y.i) → ascB ltE E = true
 | [], _ => rfl
 | [a], _ => rfl
 | a :: b :: t, h => by
  have h1 := List.pairwise_cons.1 h
  rw [ascB, pair_ascE (b :: t) h1.2, Bool.and_true]
  exact decide_eq_true (h1.1 b (List.mem_cons_self ..))
end Go.Proofs.YtahafijpcmphaaaGreat

/- identify: arrays by value, count. -/
namespace Go.Proofs.YtahafijpcmphaaaGreat
set_option maxRecDepth 100000
open Go.RowKit Bs
def arrV (n : Nat) (f : Nat → Value) : Array Value := ((List.range n).map f).toArray
theorem arr_at {n k : Nat} (f : Nat → Value) (h : k < n) : (arrV n f)[k]? = some (f k) := by
 unfold arrV
 simp [h]
theorem arr_set {n k : Nat} (f : Nat → Value) (v : Value) (h : k < n) : (arrV n f).setIfInBounds k v = arrV n (fun j => if j = k then v else f j) := by
 apply Array.ext'
 unfold arrV
 simp only [List.setIfInBounds_toArray]
 apply List.ext_getElem?
 intro j
 rw [List.getElem?_set]
 simp only [List.length_map, List.length_range, List.getElem?_map, List.getElem?_range]
 by_cases hj : k = j
 ·subst hj
  simp [h]
 ·by_cases hn : j < n
  ·simp [hj, hn, List.getElem?_range, Ne.symm hj, fun e : j = k => hj e.symm]
  ·simp [hj, hn]
theorem arr_congr {n : Nat} {f g : Nat → Value} (h : ∀ k, k < n → f k = g k) : arrV n f = arrV n g := by
 unfold arrV
 congr 1
 exact List.map_congr_left (fun k hk => h k (List.mem_range.1 hk))
def bvN (f : Nat → Bool) (k : Nat) : Value := .bool (f k)
theorem arr_row {w : World} {b n k : Nat} {f : Nat → Value} {t : TypeId} (h : w.heap[b]? = some (.cells (arrV n f) t (0, 0))) (hk : k < n) : w.cell? ⟨b, k, none⟩ = some (f k) := by
 rw [cell_of_row _ _ _ _ _ _ h]; exact arr_at f hk
theorem arr_put {w : World} {b n k : Nat} {f : Nat → Value} {t : TypeId} (v : Value) (h : w.heap[b]? = some (.cells (arrV n f) t (0, 0))) (hk : k < n) :
  (w.setCell ⟨b, k, none⟩ v).heap[b]? = some (.cells (arrV n (fun j => if j = k then v else f j)) t (0, 0)) ∧ w.grownBy (w.setCell ⟨b, k, none⟩ v) (some b) := by
 have h1 := heap_setCell_same w b k _ _ v h
 rw [arr_set f v hk] at h1
 exact ⟨h1, grown_setCell w ⟨b, k, none⟩ v⟩
theorem ed_cells {w : World} {q : Nat → Prop} {p : Option Addr} {n c : Nat} {l : List Ed} (h : RdF w q (.slice p n c) l.length (l.flatMap edC)) (hn : 0 < l.length) :
  n = l.length ∧ ∃ b off, p = some ⟨b, off, none⟩ ∧ q b ∧ ∀ i x, l[i]? = some x → w.cell? ⟨b, off + i * 2, none⟩ = some (.int .i64 x.r) ∧ w.cell? ⟨b, off + i * 2 + 1, none⟩ = some (.int .i64 x.i) := by
 obtain ⟨h0, b, off, hp, hq, hc⟩ := RdF.cells (f := edC) (k := 2) (fun _ => rfl) (by decide) h hn
 exact ⟨h0, b, off, hp, hq, fun i x hi => ⟨hc i x hi 0 _ rfl, hc i x hi 1 _ rfl⟩⟩
end Go.Proofs.YtahafijpcmphaaaGreat

/- identify: the leaves, of the program and of the reference. -/
namespace Go.Proofs.YtahafijpcmphaaaGreat
set_option maxRecDepth 100000
open Go.RowKit Bs
theorem ivr_lit (n : Int) (b : Bool) (h : inV n 1 99 = b) (w : World) :
  Calls Tryz.prog 167 #[.int .i64 n] w fun e w' => e = .returned (.bool b) ∧ w = w' := by
 subst h
 unfold inV
 go_enter Tryz.func167, Tryz.ntmps167
 by_cases h1 : (1 : Int) ≤ n
 ·by_cases h2 : n ≤ (99 : Int)
  ·rw [decide_eq_true (show 1 ≤ n ∧ n ≤ 99 from ⟨h1, h2⟩)]
   go_wp2_with fail
   go_ret
   exact ⟨rfl, rfl⟩
  ·rw [decide_eq_false (show ¬ (1 ≤ n ∧ n ≤ 99) from fun h => h2 h.2)]
   go_wp2_with fail
   go_ret
   exact ⟨rfl, rfl⟩
 ·rw [decide_eq_false (show ¬ (1 ≤ n ∧ n ≤ 99) from fun h => h1 h.1)]
  go_wp2_with fail
  go_ret
  exact ⟨rfl, rfl⟩
theorem ivs_lit (n : Int) (b : Bool) (h : inV n 0 7 = b) (w : World) :
  Calls Tryz.prog 145 #[.int .i64 n] w fun e w' => e = .returned (.bool b) ∧ w = w' := by
 subst h
 unfold inV
 go_enter Tryz.func145, Tryz.ntmps145
 by_cases h1 : (0 : Int) ≤ n
 ·by_cases h2 : n ≤ (7 : Int)
  ·rw [decide_eq_true (show 0 ≤ n ∧ n ≤ 7 from ⟨h1, h2⟩)]
   go_wp2_with fail
   go_ret
   exact ⟨rfl, rfl⟩
  ·rw [decide_eq_false (show ¬ (0 ≤ n ∧ n ≤ 7) from fun h => h2 h.2)]
   go_wp2_with fail
   go_ret
   exact ⟨rfl, rfl⟩
 ·rw [decide_eq_false (show ¬ (0 ≤ n ∧ n ≤ 7) from fun h => h1 h.1)]
  go_wp2_with fail
  go_ret
  exact ⟨rfl, rfl⟩
theorem ivi_lit (n : Int) (b : Bool) (h : inV n 1 256 = b) (w : World) :
  Calls Tryz.prog 154 #[.int .i64 n] w fun e w' => e = .returned (.bool b) ∧ w = w' := by
 subst h
 unfold inV
 go_enter Tryz.func154, Tryz.ntmps154
 by_cases h1 : (1 : Int) ≤ n
 ·by_cases h2 : n ≤ (256 : Int)
  ·rw [decide_eq_true (show 1 ≤ n ∧ n ≤ 256 from ⟨h1, h2⟩)]
   go_wp2_with fail
   go_ret
   exact ⟨rfl, rfl⟩
  ·rw [decide_eq_false (show ¬ (1 ≤ n ∧ n ≤ 256) from fun h => h2 h.2)]
   go_wp2_with fail
   go_ret
   exact ⟨rfl, rfl⟩
 ·rw [decide_eq_false (show ¬ (1 ≤ n ∧ n ≤ 256) from fun h => h1 h.1)]
  go_wp2_with fail
  go_ret
  exact ⟨rfl, rfl⟩
theorem rin10_lit (n lo hi : Int) (b : Bool) (h : inV n lo hi = b) (w : World) :
  Calls Tryz.prog 116 #[.int .i64 n, .int .i64 lo, .int .i64 hi] w fun e w' => e = .returned (.bool b) ∧ w = w' := by
 subst h
 unfold inV
 go_enter Tryz.func116, Tryz.ntmps116
 by_cases h1 : lo ≤ n
 ·by_cases h2 : n ≤ hi
  ·rw [decide_eq_true (show lo ≤ n ∧ n ≤ hi from ⟨h1, h2⟩)]
   go_wp2_with fail
   go_ret
   exact ⟨rfl, rfl⟩
  ·rw [decide_eq_false (show ¬ (lo ≤ n ∧ n ≤ hi) from fun h => h2 h.2)]
   go_wp2_with fail
   go_ret
   exact ⟨rfl, rfl⟩
 ·rw [decide_eq_false (show ¬ (lo ≤ n ∧ n ≤ hi) from fun h => h1 h.1)]
  go_wp2_with fail
  go_ret
  exact ⟨rfl, rfl⟩
theorem vlp_lit (n : Int) (b : Bool) (h : vl n = b) (w : World) :
  Calls Tryz.prog 146 #[.int .i64 n] w fun e w' => e = .returned (.bool b) ∧ w = w' := by
 rw [← h]; exact vlp_any n w
theorem vlr10_lit (n : Int) (b : Bool) (h : vl n = b) (w : World) :
  Calls Tryz.prog 57 #[.int .i64 n] w fun e w' => e = .returned (.bool b) ∧ w = w' := by
 rw [← h]; exact vlr_any n w
set_option maxHeartbeats 1600000 in
theorem iwre_any (x : Ed) (w : World) :
  Calls Tryz.prog 148 #[.agg #[.int .i64 x.r, .int .i64 x.i]] w fun e w' => e = .returned (.bool (wrE x)) ∧ w.grownBy w' none := by
 obtain ⟨k1, k2⟩ := tone_box w #[.int .i64 x.r, .int .i64 x.i] 71
 obtain ⟨c0, c1⟩ := row_cells k1
 have K := Lib.hid k2
 clear k1 k2
 go_enter Tryz.func148, Tryz.ntmps148
 go_upto_region 1 with fail
 generalize w.alloc _ = wa at *
 have HW : Hid (wrE x = !(inV x.r 1 99 && inV x.i 1 256)) := Lib.hid rfl
 obtain ⟨b1, h1⟩ : ∃ b, inV x.r 1 99 = b := ⟨_, rfl⟩
 obtain ⟨b2, h2⟩ : ∃ b, inV x.i 1 256 = b := ⟨_, rfl⟩
 rw [h1, h2] at HW
 have H1 := Lib.hid h1
 have H2 := Lib.hid h2
 clear h1 h2
 cases b1
 case false =>
  go_wp2_with (go_at_call 167; refine (ivr_lit _ _ H1.out _).mono ?_; rintro e w' ⟨rfl, rfl⟩)
  go_ret
  exact ⟨by rw [HW.out]; rfl, K.out⟩
 go_wp2_with (first | (go_at_call 167; refine (ivr_lit _ _ H1.out _).mono ?_; rintro e w' ⟨rfl, rfl⟩) | (go_at_call 154; refine (ivi_lit _ _ H2.out _).mono ?_; rintro e w' ⟨rfl, rfl⟩))
 go_ret
 exact ⟨by rw [HW.out]; rfl, K.out⟩
set_option maxHeartbeats 1600000 in
theorem icmpe_any (r s : Ed) (w : World) :
  Calls Tryz.prog 150 #[.agg #[.int .i64 r.r, .int .i64 r.i], .agg #[.int .i64 s.r, .int .i64 s.i]] w fun e w' => e = .returned (.int .i64 (cmpV r.i s.i)) ∧ w' = (w.alloc (.cells #[.int .i64 r.r, .int .i64 r.i] 71)).alloc (.cells #[.int .i64 s.r, .int .i64 s.i] 71) := by
 obtain ⟨k1, k2, k3, k4⟩ := two_boxes w #[.int .i64 r.r, .int .i64 r.i] #[.int .i64 s.r, .int .i64 s.i] 71 71
 obtain ⟨c0, c1⟩ := row_cells k1
 obtain ⟨d0, d1⟩ := row_cells k2
 clear k1 k2 k3 k4
 go_enter Tryz.func150, Tryz.ntmps150
 go_wp2_with (go_at_call 155; refine (tcmp_any _ _ _).mono ?_; rintro e w' ⟨rfl, rfl⟩)
 go_ret
 exact ⟨rfl, rfl⟩
end Go.Proofs.YtahafijpcmphaaaGreat

/- identify: Place and At, of the program and of the reference. -/
namespace Go.Proofs.YtahafijpcmphaaaGreat
set_option maxRecDepth 100000
open Go.RowKit Bs
def plOk (id len : Int) : Bool := vl len && inV id 1 256
def plS (id len : Int) : Int := if plOk id len = true then (id - 1).tdiv len else 0
def plB (id len : Int) : Int := if plOk id len = true then (id - 1) % len else 0
theorem pl_fields {id len : Int} (h : plOk id len = true) : (len = 8 ∨ len = 16 ∨ len = 32 ∨ len = 64) ∧ 1 ≤ id ∧ id ≤ 256 := by
 unfold plOk inV at h
 rw [Bool.and_eq_true, decide_eq_true_eq] at h
 exact ⟨vl_cases h.1, h.2⟩
set_option maxHeartbeats 3200000 in
theorem iplc_any (id len : Int) (w : World) :
  Calls Tryz.prog 121 #[.int .i64 id, .int .i64 len] w fun e w' => e = .returned (.tuple #[.int .i64 (plS id len), .int .i64 (plB id len), .bool (plOk id len)]) ∧ w.grownBy w' none := by
 obtain ⟨b1, h1⟩ : ∃ b, vl len = b := ⟨_, rfl⟩
 obtain ⟨b2, h2⟩ : ∃ b, inV id 1 256 = b := ⟨_, rfl⟩
 have HO : Hid (plOk id len = (b1 && b2)) := Lib.hid (by unfold plOk; rw [h1, h2])
 have HL := Lib.hid h1
 have HI := Lib.hid h2
 clear h1 h2
 go_enter Tryz.func121, Tryz.ntmps121
 cases b1
 case false =>
  go_wp2_with (go_at_call 146; refine (vlp_lit _ _ HL.out _).mono ?_; rintro e w' ⟨rfl, rfl⟩)
  go_ret3
  have h0 : plOk id len = false := HO.out
  exact ⟨by unfold plS plB; rw [h0]; rfl, grown_refl _ _⟩
 cases b2
 case false =>
  go_wp2_with (first | (go_at_call 146; refine (vlp_lit _ _ HL.out _).mono ?_; rintro e w' ⟨rfl, rfl⟩) | (go_at_call 154; refine (ivi_lit _ _ HI.out _).mono ?_; rintro e w' ⟨rfl, rfl⟩))
  go_ret3
  have h0 : plOk id len = false := HO.out
  exact ⟨by unfold plS plB; rw [h0]; rfl, grown_refl _ _⟩
 have h0 : plOk id len = true := HO.out
 obtain ⟨hl, hi1, hi2⟩ := pl_fields h0
 have hS : plS id len = (id - 1).tdiv len := by unfold plS; rw [if_pos h0]
 have hB : plB id len = (id - 1) % len := by unfold plB; rw [if_pos h0]
 rw [h0, hS, hB]
 clear hS hB h0
 obtain ⟨m, rfl⟩ : ∃ m : Int, id = m + 1 := ⟨id - 1, by omega⟩
 rw [show m + 1 - 1 = m by omega]
 have e1 : m + 1 - 1 = m := by omega
 have e2 : IntKind.i64.wrap (m + 1 - 1) = m := by rw [e1, IntWalk.i64_in _ (by omega)]
 have e3 : IntKind.i64.wrap m = m := IntWalk.i64_in _ (by omega)
 have hm0 : 0 ≤ m := by omega
 have hm1 : m ≤ 255 := by omega
 have d0 : IntKind.i64.wrap (m.tdiv len) = m.tdiv len := IntWalk.i64_in _ (by
  rw [Int.tdiv_eq_ediv_of_nonneg hm0]
  rcases hl with rfl | rfl | rfl | rfl <;> omega)
 have d1 : IntKind.i64.wrap (m % len) = m % len := IntWalk.i64_in _ (by
  rcases hl with rfl | rfl | rfl | rfl <;> omega)
 have hn0 : (len == 0) = false := by rcases hl with rfl | rfl | rfl | rfl <;> rfl
 have hn1 : ¬ len = 0 := by rcases hl with rfl | rfl | rfl | rfl <;> decide
 clear hi1 hi2 hl
 go_wp2_with (first | (go_at_call 146; refine (vlp_lit _ _ HL.out _).mono ?_; rintro e w' ⟨rfl, rfl⟩) | (go_at_call 154; refine (ivi_lit _ _ HI.out _).mono ?_; rintro e w' ⟨rfl, rfl⟩))
 go_region
 all_goals
  go_wp2_with fail
  go_ret3
  exact ⟨rfl, grown_drew (grown_refl _ _)⟩
end Go.Proofs.YtahafijpcmphaaaGreat

/- Tables: the mathematics, and how they lie in memory. -/
namespace Go.Proofs.YtahafijpcmphaaaGreat
set_option maxRecDepth 100000
open Go.RowKit Bs
structure Rw where
 id : Int
 nx : List Int
 p : Option Addr
 c : Nat
def rwC (x : Rw) : List Value := [.int .i64 x.id, .slice x.p x.nx.length x.c]
theorem rw_one (x : Rw) : ∀ u ∈ rwC x, u.oneCell' = true := by
 intro u hu
 simp [rwC] at hu
 rcases hu with rfl | rfl <;> rfl
structure RwOk (w : World) (q : Nat → Prop) (x : Rw) : Prop where
 rd : Rd w q (.slice x.p x.nx.length x.c) (x.nx.map tv)
 hc : x.nx.length ≤ x.c ∧ x.c ≤ 9223372036854775807
theorem RwOk.grown {w w1 : World} {q : Nat → Prop} {r : Option Nat} {x : Rw} (h : RwOk w q x) (g : w.grownBy w1 r) (hq : ∀ b, q b → some b ≠ r) : RwOk w1 q x := ⟨h.rd.grown g hq, h.hc⟩
theorem RwOk.keep {w w1 : World} {q : Nat → Prop} {x : Rw} (h : RwOk w q x) (g : w.grownBy w1 none) : RwOk w1 q x := h.grown g (fun _ _ => by simp)
theorem RwOk.mono {w : World} {q q' : Nat → Prop} {x : Rw} (h : RwOk w q x) (hq : ∀ b, q b → q' b) : RwOk w q' x := ⟨h.rd.mono hq, h.hc⟩
structure RdW (w : World) (q : Nat → Prop) (p : Option Addr) (c : Nat) (L : List Rw) : Prop where
 rd : RdF w q (.slice p L.length c) L.length (L.flatMap rwC)
 ok : ∀ x ∈ L, RwOk w q x
theorem RdW.grown {w w1 : World} {q : Nat → Prop} {r : Option Nat} {p : Option Addr} {c : Nat} {L : List Rw} (h : RdW w q p c L) (g : w.grownBy w1 r) (hq : ∀ b, q b → some b ≠ r) : RdW w1 q p c L := ⟨h.rd.grown g hq, fun x hx => (h.ok x hx).grown g hq⟩
theorem RdW.keep {w w1 : World} {q : Nat → Prop} {p : Option Addr} {c : Nat} {L : List Rw} (h : RdW w q p c L) (g : w.grownBy w1 none) : RdW w1 q p c L := h.grown g (fun _ _ => by simp)
theorem RdW.mono {w : World} {q q' : Nat → Prop} {p : Option Addr} {c : Nat} {L : List Rw} (h : RdW w q p c L) (hq : ∀ b, q b → q' b) : RdW w q' p c L := ⟨h.rd.mono hq, fun x hx => (h.ok x hx).mono hq⟩
theorem rw_cells {w : World} {q : Nat → Prop} {p : Option Addr} {n c : Nat} {L : List Rw} (h : RdF w q (.slice p n c) L.length (L.flatMap rwC)) (hn : 0 < L.length) :
  n = L.length ∧ ∃ b off, p = some ⟨b, off, none⟩ ∧ q b ∧ ∀ i x, L[i]? = some x → w.cell? ⟨b, off + i * 2, none⟩ = some (.int .i64 x.id) ∧ w.cell? ⟨b, off + i * 2 + 1, none⟩ = some (.slice x.p x.nx.length x.c) := by
 obtain ⟨h0, b, off, hp, hq, hc⟩ := RdF.cells (f := rwC) (k := 2) (fun _ => rfl) (by decide) h hn
 exact ⟨h0, b, off, hp, hq, fun i x hi => ⟨hc i x hi 0 _ rfl, hc i x hi 1 _ rfl⟩⟩
def ltI (x y : Int) : Bool := decide (x < y)
def wrW (x : Rw) : Bool := !inV x.id 1 256 || x.nx.any fun z => !inV z 1 99
def lgW (x : Rw) : Bool := decide (24 < x.nx.length)
def ltW (x y : Rw) : Bool := decide (x.id < y.id)
def dsW (x : Rw) : Bool := !ascB ltI x.nx
def cfW (r : Int) (x : Rw) : Bool := decide (1 < x.nx.length) && x.nx.any fun z => decide (z = r)
def hdT (r s n : Int) (L : List Rw) : Bool := !(inV r 1 99 && inV s 0 7 && (vl n || (decide (n = 0) && decide (L.length = 0))))
def ckT (r s n : Int) (L : List Rw) : Int :=
 if hdT r s n L = true then 2 else if L.any wrW = true then 2 else if 256 < L.length then 3 else if L.any lgW = true then 3 else if ascB ltW L = false then 25 else if L.any dsW = true then 25 else if L.any (cfW r) = true then 8 else 0
theorem ck_ok {r s n : Int} {L : List Rw} (h : ckT r s n L = 0) : hdT r s n L = false ∧ L.any wrW = false ∧ L.length ≤ 256 ∧ L.any lgW = false ∧ ascB ltW L = true ∧ L.any dsW = false ∧ L.any (cfW r) = false := by
 unfold ckT at h
 split at h
 ·cases h
 ·rename_i h1
  split at h
  ·cases h
  ·rename_i h2
   split at h
   ·cases h
   ·rename_i h3
    split at h
    ·cases h
    ·rename_i h4
     split at h
     ·cases h
     ·rename_i h5
      split at h
      ·cases h
      ·rename_i h6
       split at h
       ·cases h
       ·rename_i h7
        refine ⟨by simpa using h1, by simpa using h2, by omega, by simpa using h4, by simpa using h5, by simpa using h6, by simpa using h7⟩
theorem tvT_at {w : World} {q : Nat → Prop} {p : Option Addr} {n c i : Nat} {x : Int} {X : List Int} (h : Rd w q (.slice p n c) (X.map tv)) (hi : X[i]? = some x) :
  n = X.length ∧ ∃ b off, p = some ⟨b, off, none⟩ ∧ q b ∧ ∀ j y, X[j]? = some y → w.cell? ⟨b, off + j, none⟩ = some (.int .i64 y) := by
 obtain ⟨p1, c1, e1, hx⟩ := h
 injection e1 with a1 a2 a3
 subst a1
 have hne : X.map tv ≠ [] := by
  intro e
  have := List.map_eq_nil_iff.1 e
  subst this
  simp at hi
 obtain ⟨b, off, hp, hq, hc⟩ := hx hne
 exact ⟨by rw [a2, List.length_map], b, off, hp, hq, fun j y hj => hc j (tv y) (by rw [List.getElem?_map, hj]; rfl)⟩
end Go.Proofs.YtahafijpcmphaaaGreat
